/- The code's own contracts of layer 12: known, first, fill, Ahead, Past, Po. The code's own contracts of layer 16: column, chosen (by a function), Of, With, Writes, Kept. -/
import Derived.Test.YtjhjojklfdjmdaaGreatBadFieldsPk5
import Derived.Test.YtjhjojklfdjmdaaGreatBadFieldsPk7
import Derived.Test.YtjhjojklfdjmdaaGreatBadFieldsPk2
import Derived.Test.YtjhjojklfdjmdaaGreatBadFieldsPk6
import Derived.Test.YtjhjojklfdjmdaaGreatBadFieldsPk3
namespace Go.Proofs.YtjhjojklfdjmdaaGreat
open Go.RowKit
set_option linter.unusedVariables false
theorem session_known (B : Option Addr) (m d : Nat) (i : Int) (w : World) :
    Calls Tryz.prog 133 #[.slice B m d, .int .i64 i] w fun e w' => e = .returned (.bool (decide (0 ≤ i) && decide (i < (m : Int)))) ∧ w = w' := by
  by_cases hi : 0 ≤ i
  · have d1 : decide (0 ≤ i) = true := decide_eq_true hi
    rw [d1, Bool.true_and]
    go_enter Tryz.func133, Tryz.ntmps133
    go_wp2
    go_ret
    exact ⟨rfl, rfl⟩
  · have d1 : decide (0 ≤ i) = false := decide_eq_false hi
    rw [d1, Bool.false_and]
    go_enter Tryz.func133, Tryz.ntmps133
    go_wp2
    go_ret
    exact ⟨rfl, rfl⟩
set_option maxRecDepth 100000 in
set_option maxHeartbeats 1000000 in
theorem session_first (B : Option Addr) (m d : Nat) (is : List It) (o : Nat) (w : World) (hI : LAt encT w B m is) (ho : o < m) (hm : m ≤ 1048576) :
    Calls Tryz.prog 80 #[.slice B m d, .int .i64 (o : Int)] w fun e w' => ∃ b : Nat, e = .returned (.int .i64 (b : Int)) ∧ FirstIs is o b ∧ Below w.heap.size w w' := by
  have hil := Lib.hid hI.len
  obtain ⟨jb, jo, y, rfl, hjb, hy, hyo, -⟩ := hI.item ho
  replace hI := Lib.hid hI
  replace hyo := Lib.hid hyo
  replace hy := Lib.hid hy
  obtain ⟨oz, hoz⟩ : ∃ z : Int, z = (o : Int) := ⟨_, rfl⟩
  rw [← hoz]
  have bo : 0 ≤ oz ∧ oz < (m : Int) := by omega
  go_enter Tryz.func80, Tryz.ntmps80
  go_wp2
  go_loopw [5] (fun t wr => ∃ k : Nat, k ≤ o ∧ t = .int .i64 k ∧ Hid (∀ (i : Nat) (x : It), k ≤ i → i ≤ o → is[i]? = some x → x.se = y.se) ∧ Hid (Below w.heap.size w wr)) (fun t _ => (intOf t).toNat)
  case atStart =>
    refine ⟨o, Nat.le_refl _, by rw [hoz], Lib.hid (fun i x h1 h2 hx => ?_), Lib.hid (Below.refl _ _)⟩
    have e : i = o := by omega
    rw [e, hy.out] at hx
    injection hx with hx
    rw [hx]
  case round =>
    obtain ⟨k, hk, ht, hall, hb⟩ := hrel
    have hIr := Lib.hid (hI.out.below hb.out)
    obtain ⟨jb', jo', y', hjB, hjb', hy', -, j0, -⟩ := hIr.out.item ho
    injection hjB with hjB
    injection hjB with e1 e2
    subst e1; subst e2
    rw [hy.out] at hy'; injection hy' with hy'; subst hy'
    rw [show o = oz.toNat by omega] at j0
    obtain ⟨kz, hkz⟩ : ∃ z : Int, z = (k : Int) := ⟨_, rfl⟩
    rw [← hkz] at ht
    subst ht
    by_cases hk0 : k = 0
    · have d1 : decide (0 < kz) = false := decide_eq_false (by omega)
      have hF : Hid (FirstIs is o k) := Lib.hid ⟨hk, fun i x z h1 h2 hx hz => by
        rw [hy.out] at hz; injection hz with hz; subst hz; exact hall.out i x h1 h2 hx, fun h => absurd h (by omega)⟩
      replace hkz := Lib.hid hkz
      replace hoz := Lib.hid hoz
      clear hall hIr hI
      go_wp2_with fail
      go_quiet (fail)
      go_wp2_with fail
      go_ret
      exact ⟨k, by rw [hkz.out]; rfl, hF.out, below_drewN hb.out _⟩
    · have d1 : decide (0 < kz) = true := decide_eq_true (by omega)
      obtain ⟨pz, hpz⟩ : ∃ z : Int, z = ((k - 1 : Nat) : Int) := ⟨_, rfl⟩
      have hw1 : IntKind.i64.wrap (kz - 1) = pz := by rw [IntKind.wrap_i64]; omega
      have hw2 : wrap64 (kz - 1) = pz := by unfold wrap64; omega
      obtain ⟨ib, io, x, hiB, hib, hx, -, i0, -⟩ := hIr.out.item (show k - 1 < m by omega)
      injection hiB with hiB
      injection hiB with e1 e2
      subst e1; subst e2
      rw [show k - 1 = pz.toNat by omega] at i0
      have bp : 0 ≤ pz ∧ pz < (m : Int) := by omega
      by_cases hse : x.se = y.se
      · have e1 : (x.se == y.se) = true := by simp [hse]
        have hall' : Hid (∀ (i : Nat) (x : It), k - 1 ≤ i → i ≤ o → is[i]? = some x → x.se = y.se) := Lib.hid (fun i z h1 h2 hz => by
          rcases Nat.lt_or_ge i k with h | h
          · rw [show i = k - 1 by omega, hx] at hz; injection hz with hz; subst hz; exact hse
          · exact hall.out i z h h2 hz)
        replace hkz := Lib.hid hkz
        replace hoz := Lib.hid hoz
        replace hpz := Lib.hid hpz
        replace hse := Lib.hid hse
        clear hall hIr hI hx
        go_wp2_with fail
        go_quiet (fail)
        go_wp2_with fail
        exact ⟨⟨k - 1, by omega, by rw [← hpz.out], hall', Lib.hid (below_drewN hb.out _)⟩, by have := hkz.out; have := hpz.out; simp [intOf]; omega⟩
      · have e1 : (x.se == y.se) = false := by simpa using hse
        have hF : Hid (FirstIs is o k) := Lib.hid ⟨hk, fun i x z h1 h2 hx hz => by
          rw [hy.out] at hz; injection hz with hz; subst hz; exact hall.out i x h1 h2 hx, fun _ u z hu hz => by
          rw [hy.out] at hz; injection hz with hz; subst hz
          rw [hx] at hu; injection hu with hu; subst hu; exact hse⟩
        replace hkz := Lib.hid hkz
        replace hoz := Lib.hid hoz
        replace hpz := Lib.hid hpz
        replace hse := Lib.hid hse
        clear hall hIr hI hx
        go_wp2_with fail
        go_quiet (fail)
        go_wp2_with fail
        go_ret
        exact ⟨k, by rw [hkz.out]; rfl, hF.out, below_drewN hb.out _⟩
theorem both_no {i : Int} {m : Nat} (h : ¬ (0 ≤ i ∧ i < (m : Int))) : (decide (0 ≤ i) && decide (i < (m : Int))) = false := by
  rw [Bool.eq_false_iff]; simpa using h
theorem info_int12 : (Tryz.prog.info? 3).map (fun i => (i.zero, i.size, i.bytes)) = some (some (.int .i64 0), 1, 8) := by kernel_rfl
set_option maxRecDepth 100000 in
set_option maxHeartbeats 1000000 in
theorem session_Past (v : FV) (f : Fac) (o : Int) (w : World) (hF : FactsAt w v f) (hm : v.m ≤ 1048576) (hN : Nbr f.items) :
    Calls Tryz.prog 116 #[.agg #[.slice v.A v.n v.c, .slice v.B v.m v.d, .slice v.C v.k v.e], .int .i64 o] w (RetIL (pastF f.items o f.items.length) w) := by
  have hil := hF.is.len
  have ck := Lib.hid (fun W => session_known v.B v.m v.d o W)
  obtain ⟨i0, hi, hz0, hz1, hz2⟩ := info_parts info_int12
  replace hi := Lib.hid hi
  replace hz0 := Lib.hid hz0
  replace hz1 := Lib.hid hz1
  replace hz2 := Lib.hid hz2
  -- a call with facts v: they are boxed at g, the world is W0 then
  have hB0 := Lib.hid (FBox.new hF)
  obtain ⟨g, hg⟩ : ∃ g, g = w.heap.size := ⟨_, rfl⟩
  obtain ⟨W0, hW0⟩ : ∃ W, W = w.alloc (.cells #[.slice v.A v.n v.c, .slice v.B v.m v.d, .slice v.C v.k v.e] 29) := ⟨_, rfl⟩
  rw [← hW0, ← hg] at hB0
  clear hF
  have p0 := hB0.out.c0
  have p1 := hB0.out.c1
  have p2 := hB0.out.c2
  by_cases ho : 0 ≤ o ∧ o < (v.m : Int)
  · rw [decide_eq_true ho.1, decide_eq_true ho.2] at ck
    obtain ⟨oN, hoe⟩ := Int.eq_ofNat_of_zero_le ho.1
    have hoN : oN < v.m := by omega
    have cF := session_first v.B v.m v.d f.items oN W0 hB0.out.f.is hoN hm
    have hpast := Lib.hid (fun b (h : FirstIs f.items oN b) => h.past hN (by omega))
    rw [← hoe] at cF hpast
    have hom : o < 1048576 := by omega
    replace hoe := Lib.hid hoe
    replace cF := Lib.hid cF
    replace ck := Lib.hid ck
    replace hil := Lib.hid hil
    clear ho hN
    go_enter Tryz.func116, Tryz.ntmps116
    go_wp2_with (rw [← hW0, ← hg]; clear hW0 hg)
    refine (ck.out _).mono ?_; rintro e w' ⟨rfl, rfl⟩
    go_wp2_with fail
    refine cF.out.mono ?_; rintro e w2 ⟨b, rfl, hfi, b2⟩
    have hpl := Lib.hid (hpast.out b hfi)
    have hbo := hfi.le
    have hBW := Lib.hid (below_trans2 hB0.out.o b2)
    clear hB0 p0 p1 p2 hpast hfi b2 cF ck
    go_wp2_with fail
    go_loopw [5, 6] (fun u t wr => ∃ k : Nat, k ≤ oN + 1 - b ∧ t = .int .i64 ((b + k : Nat) : Int) ∧ Hid (Below w2.heap.size w2 wr) ∧ Hid (wr.ownsRow w2.heap.size 3 1 u k (encI.all (spanI b k)))) (fun _ t _ => oN + 1 - (intOf t).toNat)
    case atStart => exact ⟨0, Nat.zero_le _, rfl, Lib.hid (Below.refl _ _), Lib.hid (World.ownsRow_nil _ _ _ _)⟩
    case round =>
      obtain ⟨k, hk, ht, hb, hown⟩ := hrel
      obtain ⟨iz, hiz⟩ : ∃ z : Int, z = ((b + k : Nat) : Int) := ⟨_, rfl⟩
      rw [← hiz] at ht
      subst ht
      have hss := spanI_succ b k
      rw [← hiz] at hss
      have hoe' := hoe.out
      have i64 : -9223372036854775808 ≤ iz ∧ iz < 9223372036854775808 := by omega
      by_cases hlt : iz ≤ o
      · have d1 : decide (iz ≤ o) = true := decide_eq_true hlt
        have hw : wrap64 (iz + 1) = iz + 1 := by unfold wrap64; omega
        have hwh := Lib.hid hw
        obtain ⟨gl, hgl⟩ : ∃ g, g = wr.heap.size := ⟨_, rfl⟩
        obtain ⟨VL, hVL⟩ : ∃ W, W = World.alloc wr (.cells #[.int .i64 iz] 3) := ⟨_, rfl⟩
        have bL : Below wr.heap.size wr VL := by rw [hVL]; exact (Below.refl _ _).alloc (Nat.le_refl _) _
        have hlit := Lib.hid (show LAt encI VL (some ⟨gl, 0, none⟩) 1 [iz] from by rw [hVL, hgl]; exact LAt.lit1 (E := encI) wr 3 iz i64)
        have hownL := Lib.hid (own_below hown.out bL)
        have bWL := Lib.hid (below_trans2 hb.out bL)
        have hbase := Lib.hid bWL.out.size
        have hk1 : k + 1 ≤ oN + 1 - b := by omega
        have hmea : oN + 1 - ((iz + 1).toNat) < oN + 1 - iz.toNat := by omega
        replace hmea := Lib.hid hmea
        replace hiz := Lib.hid hiz
        replace hss := Lib.hid hss
        clear bL hoe' i64 hlt
        go_wp2_with (first
          | (rw [← hVL, ← hgl]; clear hVL hgl)
          | (at_builtin; refine wpList_append_L (E := encI) rfl (.tmp 21) (.tmp 23) _ rfl w2.heap.size 3 i0 _ 8 Tryz.underlying27 hi.out hz0.out hz1.out hz2.out rfl _ k (spanI b k) (by rfl) hownL.out _ 1 1 _ rfl hlit.out (by unfold maxLen; omega) (by omega) hbase.out ?_; intro v' w7 hown' hb7 _ _))
        refine ⟨⟨k + 1, hk1, ?_, Lib.hid (bWL.out.trans hb7), Lib.hid (by rw [hss.out]; exact hown')⟩, ?_⟩
        · have := hiz.out; congr 1; omega
        · have := hmea.out; simpa [intOf, show wrap64 (iz + 1) = iz + 1 from hwh.out] using this
      · have d1 : decide (iz ≤ o) = false := decide_eq_false hlt
        have hkk : k = oN + 1 - b := by omega
        rw [← hkk] at hpl
        obtain ⟨A, c, rfl, hnc, hcm, hLA⟩ := LAt.of_own hown.out (fun z hz => by
          have := spanI_ok b k z hz
          exact ⟨by omega, by omega⟩) (spanI_len b k)
        replace hkk := Lib.hid hkk
        replace hiz := Lib.hid hiz
        replace hss := Lib.hid hss
        replace hLA := Lib.hid hLA
        replace hoe := Lib.hid hoe'
        clear hlt hoe' i64
        go_wp2_with fail
        go_ret
        rw [hpl.out]
        exact ⟨A, k, c, rfl, hLA.out, hnc, hcm, below_trans2 hBW.out hb.out⟩
  · rw [both_no ho] at ck
    have hpl := Lib.hid (past_none (is := f.items) (o := o) (by omega))
    replace ck := Lib.hid ck
    clear ho hN
    go_enter Tryz.func116, Tryz.ntmps116
    go_wp2_with (rw [← hW0, ← hg]; clear hW0 hg)
    refine (ck.out _).mono ?_; rintro e w' ⟨rfl, rfl⟩
    go_wp2_with fail
    go_ret
    rw [hpl.out]
    exact ⟨none, 0, 0, rfl, LAt.nil _ _ _, Nat.le_refl _, by omega, hB0.out.o⟩
theorem Row.setBlk {w : World} {A : Option Addr} {n G i : Nat} {t : TypeId} {xs : List Nat} {cs : List Value} (h : Row w A n xs) (k : Blk w G t cs) (hcs : ∀ x ∈ cs, ∃ A n c, x = .slice A n c) (u : Value) : Row (w.setCell ⟨G, i, none⟩ u) A n xs := by
  rcases Nat.eq_zero_or_pos n with h0 | h0
  · subst h0
    have hx : xs = [] := List.eq_nil_of_length_eq_zero h.len
    subst hx
    exact Row.nil _ _
  · obtain ⟨b, off, x, hA, hb, hx, hx64, hc⟩ := h.at_ h0
    refine h.setCell (fun ad e => ?_) u
    rw [hA] at e
    injection e with e
    subst e
    intro hbG
    have hbG : b = G := hbG
    subst hbG
    rw [Nat.add_zero, k.cell] at hc
    obtain ⟨_, _, _, e⟩ := hcs _ (List.mem_of_getElem? hc)
    cases e
theorem RowsC.setBlk {w : World} {G i : Nat} {t : TypeId} {vs cs : List Value} {xss : List (List Nat)} (h : RowsC w vs xss) (k : Blk w G t cs) (hcs : ∀ x ∈ cs, ∃ A n c, x = .slice A n c) (u : Value) : RowsC (w.setCell ⟨G, i, none⟩ u) vs xss :=
  ⟨h.1, fun j v xs h1 h2 => by
    obtain ⟨A, n, c, e, hr⟩ := h.2 j v xs h1 h2
    exact ⟨A, n, c, e, hr.setBlk k hcs u⟩⟩
theorem RowsC.slices {w : World} {vs : List Value} {xss : List (List Nat)} (h : RowsC w vs xss) : ∀ x ∈ vs, ∃ A n c, x = .slice A n c := fun x hx => by
  obtain ⟨i, hi⟩ := List.getElem?_of_mem hx
  have hl : i < xss.length := by rw [← h.1]; exact (List.getElem?_eq_some_iff.1 hi).1
  obtain ⟨A, n, c, e, -⟩ := h.2 i x _ hi (List.getElem?_eq_getElem hl)
  exact ⟨A, n, c, e⟩
theorem belowB_set {w w' : World} {g : Nat} (h : BelowB g w w') (o : Nat) (u : Value) : BelowB g w (w'.setCell ⟨g, o, none⟩ u) :=
  ⟨h.os, h.tape, h.output, by simpa using h.size, fun k hk hg => (Below.heap_setCell w' ⟨g, o, none⟩ u k (by simpa using hg)).trans (h.block k hk hg)⟩
/-- the rows' block G, of which the last ones, from e on, are laid -/
structure PartAt (t : TypeId) (w : World) (G n e : Nat) (is : List It) (vs : List Value) : Prop where
  k : Blk w G t vs
  r : RowsC w vs (partM is e)
  l : vs.length = n
theorem PartAt.below {t : TypeId} {w w' : World} {G n e : Nat} {is : List It} {vs : List Value} (h : PartAt t w G n e is vs) (hb : Below w.heap.size w w') : PartAt t w' G n e is vs := ⟨h.k.below hb h.k.lt, h.r.below hb, h.l⟩
theorem PartAt.put {t : TypeId} {w : World} {G n e : Nat} {is : List It} {vs : List Value} (h : PartAt t w G n (e + 1) is vs) (he : e < is.length) {A : Option Addr} {m c : Nat} (hr : Row w A m ((poM is).getD e [])) : PartAt t (w.setCell ⟨G, e, none⟩ (.slice A m c)) G n e is (vs.set e (.slice A m c)) := by
  refine ⟨h.k.set_ e _, ?_, by rw [List.length_set]; exact h.l⟩
  rw [← partM_set he]
  exact (h.r.setBlk h.k h.r.slices _).set ⟨A, m, c, rfl, hr.setBlk h.k h.r.slices _⟩ e
theorem PartAt.row {t : TypeId} {w : World} {G n e i : Nat} {is : List It} {vs : List Value} (h : PartAt t w G n e is vs) (h1 : e ≤ i) (h2 : i < is.length) : ∃ A m c, vs[i]? = some (.slice A m c) ∧ Row w A m ((poM is).getD i []) := by
  have hl : i < vs.length := by rw [h.r.1, partM_len]; exact h2
  obtain ⟨A, m, c, e, hr⟩ := h.r.2 i _ _ (List.getElem?_eq_getElem hl) (partM_get h1 h2)
  exact ⟨A, m, c, by rw [List.getElem?_eq_getElem hl, e], hr⟩
theorem PartAt.any {t : TypeId} {w : World} {G n e i : Nat} {is : List It} {vs : List Value} (h : PartAt t w G n e is vs) (h2 : i < n) : ∃ A m c, vs[i]? = some (.slice A m c) := by
  have hl : i < vs.length := by rw [h.l]; exact h2
  obtain ⟨A, m, c, e⟩ := h.r.slices _ (List.getElem_mem hl)
  exact ⟨A, m, c, by rw [List.getElem?_eq_getElem hl, e]⟩
set_option maxRecDepth 100000 in
set_option maxHeartbeats 1000000 in
theorem session_fill (G n c : Nat) (is : List It) (s e : Nat) (vs : List Value) (w : World) (hP : PartAt 88 w G n e is vs) (hn : n ≤ 4096) (hil : is.length = n) (hS : Seg is s e) :
    Calls Tryz.prog 81 #[.slice (some ⟨G, 0, none⟩) n c, .int .i64 (s : Int), .int .i64 (e : Int)] w fun en w' => en = .returned (.tuple #[]) ∧ (∃ vs', PartAt 88 w' G n s is vs') ∧ BelowB G w w' := by
  have hlt := hS.lt
  have hle := hS.le
  rw [hil] at hle
  obtain ⟨l, hl⟩ : ∃ l, e = l + 1 := ⟨e - 1, by omega⟩
  subst hl
  have hlast := hS.last (by omega)
  rw [hil, Nat.add_sub_cancel] at hlast
  have hNew := Lib.hid (fun W => row_NewO (n : Int) (by omega) (by omega) W)
  have hstep := Lib.hid (fun i h1 h2 => hS.step (i := i) (by omega) h1 h2)
  have hrw := Lib.hid (fun i (hi : i < is.length) => poM_row (is := is) (by omega) hi)
  obtain ⟨ez, hez⟩ : ∃ z : Int, z = ((l + 1 : Nat) : Int) := ⟨_, rfl⟩
  rw [← hez]
  have hw : wrap64 (ez - 1) = (l : Int) := by unfold wrap64; omega
  have hln : l < n := by omega
  replace hlast := Lib.hid hlast
  replace hil := Lib.hid hil
  replace hP := Lib.hid hP
  replace hS := Lib.hid hS
  replace hez := Lib.hid hez
  go_enter Tryz.func81, Tryz.ntmps81
  go_wp2_with fail
  rw [hw]
  refine (hNew.out _).mono ?_; rintro en w1 ⟨C, p, q, rfl, ho, hx64, hb1⟩
  have hP1 := hP.out.below hb1
  have hrow : Row w1 C p ((poM is).getD l []) := by rw [hlast.out]; exact Row.of_own ho hx64
  obtain ⟨A1, m1, c1, hv1⟩ := hP1.any hln
  have hc1 := hP1.k.cell l
  rw [hv1] at hc1
  have hf1 := hP1.k.frozen l
  have hP2 := Lib.hid (hP1.put (c := q) (by rw [hil.out]; exact hln) hrow)
  have hb2 := Lib.hid (belowB_set (BelowB.of (g := G) hb1) l (.slice C p q))
  clear ho hx64 hrow hv1 hP1 hb1 hNew hw
  go_wp2_with fail
  go_loopw [7] (fun t wr => ∃ (i : Nat) (vs' : List Value), s ≤ i ∧ i ≤ l ∧ t = .int .i64 (i : Int) ∧ Hid (PartAt 88 wr G n i is vs') ∧ Hid (BelowB G w wr)) (fun t _ => (intOf t).toNat)
  case atStart => exact ⟨l, _, by omega, Nat.le_refl _, rfl, hP2, hb2⟩
  case round =>
    clear hP2 hb2 hc1 hf1
    obtain ⟨i, vs', hsi, hil', ht, hPi, hbi⟩ := hrel
    obtain ⟨iz, hiz⟩ : ∃ z : Int, z = (i : Int) := ⟨_, rfl⟩
    rw [← hiz] at ht
    subst ht
    by_cases hgt : s < i
    · have d1 : decide ((s : Int) < iz) = true := decide_eq_true (by omega)
      obtain ⟨k, hk⟩ : ∃ k, i = k + 1 := ⟨i - 1, by omega⟩
      subst hk
      have hw1 : wrap64 (iz - 1) = (k : Int) := by unfold wrap64; omega
      have hkn : k < n := by omega
      have hsk : s ≤ k := by omega
      have bi : 0 ≤ iz ∧ iz < (n : Int) := by omega
      have hst := Lib.hid (hstep.out k (by omega) (by omega))
      obtain ⟨A2, m2, c2, hv2, hr2⟩ := hPi.out.row (i := k + 1) (Nat.le_refl _) (by rw [hil.out]; omega)
      have hc2 := hPi.out.k.cell iz.toNat
      rw [show iz.toNat = k + 1 by omega, hv2, ← show iz.toNat = k + 1 by omega] at hc2
      have hm2 : m2 ≤ 64 := by
        have h1 := hr2.len
        have h2 := (hrw.out (k + 1) (by rw [hil.out]; omega)).1
        have h3 := words_le hn
        rw [hil.out] at h2
        omega
      have cS := Lib.hid (fun W hW => row_Set A2 m2 c2 ((poM is).getD (k + 1) []) iz W hW (by omega) (by omega) (by omega))
      have hset := Lib.hid (show setR ((poM is).getD (k + 1) []) iz = (poM is).getD k [] from by rw [hiz]; exact hst.out)
      replace hr2 := Lib.hid hr2
      replace hiz := Lib.hid hiz
      clear hst hv2 hgt
      go_wp2_with fail
      refine (cS.out wr hr2.out).mono ?_; rintro en w3 ⟨C3, p3, q3, rfl, hr3, hb3⟩
      rw [hset.out] at hr3
      have hP3 := hPi.out.below hb3
      obtain ⟨A4, m4, c4, hv4⟩ := hP3.any hkn
      have hc4 := hP3.k.cell k
      rw [hv4] at hc4
      have hf4 := hP3.k.frozen k
      have ek : iz.toNat - 1 = k := by have := hiz.out; omega
      have bp : 1 ≤ iz ∧ iz - 1 < (n : Int) := by have := hiz.out; omega
      have hP4 := Lib.hid (show PartAt 88 (w3.setCell ⟨G, iz.toNat - 1, none⟩ (.slice C3 p3 q3)) G n k is (vs'.set k (.slice C3 p3 q3)) from by rw [ek]; exact hP3.put (c := q3) (by rw [hil.out]; exact hkn) hr3)
      have hb4 := Lib.hid (show BelowB G w (w3.setCell ⟨G, iz.toNat - 1, none⟩ (.slice C3 p3 q3)) from belowB_set (hbi.out.trans (BelowB.of hb3)) _ (.slice C3 p3 q3))
      rw [← ek] at hc4 hf4
      clear hr3 hv4 hP3 hb3 cS hset hr2 hc2 hw1 ek
      go_wp2_with fail
      exact ⟨⟨k, _, by omega, by omega, by have := hiz.out; congr 1; omega, hP4, hb4⟩, by have := hiz.out; simp [intOf]; omega⟩
    · have d1 : decide ((s : Int) < iz) = false := decide_eq_false (by omega)
      have his : i = s := by omega
      subst his
      replace hiz := Lib.hid hiz
      clear hgt
      go_wp2_with fail
      go_end0
      exact ⟨rfl, ⟨_, hPi.out⟩, hbi.out⟩
theorem PartAt.start {t : TypeId} {w : World} {G : Nat} {is : List It} (h : Blk w G t (List.replicate is.length (.slice none 0 0))) : PartAt t w G is.length is.length is (List.replicate is.length (.slice none 0 0)) := by
  refine ⟨h, ⟨by rw [partM_len, List.length_replicate], fun i v xs h1 h2 => ?_⟩, List.length_replicate⟩
  rw [partM_none] at h2
  have e1 := (List.mem_replicate.1 (List.mem_of_getElem? h1)).2
  have e2 := (List.mem_replicate.1 (List.mem_of_getElem? h2)).2
  subst e1; subst e2
  exact ⟨none, 0, 0, rfl, Row.nil _ _⟩
set_option maxRecDepth 100000 in
set_option maxHeartbeats 2000000 in
theorem session_PoF (v : FV) (f : Fac) (w : World) (hF : FactsAt w v f) (hm : v.m ≤ 4096) (hN : Nbr f.items) :
    Calls Tryz.prog 51 #[.agg #[.slice v.A v.n v.c, .slice v.B v.m v.d, .slice v.C v.k v.e]] w (RetMat1F (v.m : Int) (poM f.items) w) := by
  have hil := hF.is.len
  have hmk := mk_rows .i64 .i64 v.m v.m (Nat.le_refl _) (by omega)
  -- a call with facts v: they are boxed at g, the world is W0 then
  have hB0 := Lib.hid (FBox.new hF)
  obtain ⟨g, hg⟩ : ∃ g, g = w.heap.size := ⟨_, rfl⟩
  obtain ⟨W0, hW0⟩ : ∃ W, W = w.alloc (.cells #[.slice v.A v.n v.c, .slice v.B v.m v.d, .slice v.C v.k v.e] 29) := ⟨_, rfl⟩
  rw [← hW0, ← hg] at hB0
  clear hF
  obtain ⟨gr, hgr⟩ : ∃ g, g = W0.heap.size := ⟨_, rfl⟩
  obtain ⟨W1, hW1⟩ : ∃ W, W = W0.alloc (.cells #[.int .i64 0, .slice none 0 0] 57) := ⟨_, rfl⟩
  have b1 : Below W0.heap.size W0 W1 := by rw [hW1]; exact (Below.refl _ _).alloc (Nat.le_refl _) _
  have kR : MatB W1 gr 57 0 none 0 0 := by rw [hW1, hgr]; exact MatB.new W0 _
  have hB1 := Lib.hid (hB0.out.later b1)
  have hgw : w.heap.size ≤ gr := by rw [hgr]; exact hB0.out.o.size
  obtain ⟨G, hG⟩ : ∃ g, g = W1.heap.size := ⟨_, rfl⟩
  obtain ⟨W2, hW2⟩ : ∃ W, W = W1.alloc (.cells (zeros v.m (.slice none 0 0)) 88) := ⟨_, rfl⟩
  have b2 : Below W1.heap.size W1 W2 := by rw [hW2]; exact (Below.refl _ _).alloc (Nat.le_refl _) _
  have hP0 := Lib.hid (show ∃ vs, PartAt 88 W2 G v.m v.m f.items vs from ⟨_, by
    rw [← hil]; refine PartAt.start ?_; rw [hW2, hG, hil]; exact Blk.new W1 _ _⟩)
  have hgG := Lib.hid (show gr < G from by rw [hG]; exact kR.lt)
  have hF1 := Lib.hid (fun o wr (h : Below W1.heap.size W1 wr) (ho : o < v.m) => session_first v.B v.m v.d f.items o wr (hB1.out.later h).f.is ho (by omega))
  have hfill := Lib.hid (fun s e vs wr (hP : PartAt 88 wr G v.m e f.items vs) (hS : Seg f.items s e) => session_fill G v.m v.m f.items s e vs wr hP hm hil hS)
  have hEnd := Lib.hid (show EndAt f.items v.m from by rw [← hil]; exact EndAt.all _)
  have b2h := Lib.hid b2
  replace hil := Lib.hid hil
  replace hN := Lib.hid hN
  have p0 := hB1.out.c0
  have p1 := hB1.out.c1
  have p2 := hB1.out.c2
  clear b1 b2
  replace kR := Lib.hid kR
  go_enter Tryz.func51, Tryz.ntmps51
  go_wp2_with (first | (rw [← hW0, ← hg]; clear hW0 hg) | (rw [← hW1, ← hgr]; clear hW1; replace hgr := Lib.hid hgr) | (rw [← hW2, ← hG]; clear hW2; replace hG := Lib.hid hG))
  go_loopw [5] (fun t wr => ∃ e : Nat, e ≤ v.m ∧ t = .int .i64 (e : Int) ∧ Hid (∃ vs, PartAt 88 wr G v.m e f.items vs) ∧ Hid (EndAt f.items e) ∧ Hid (Below W1.heap.size W1 wr)) (fun t _ => (intOf t).toNat)
  case atStart => exact ⟨v.m, Nat.le_refl _, rfl, hP0, hEnd, b2h⟩
  case round =>
    clear hP0 hEnd b2h p0 p1 p2
    obtain ⟨e, hem, ht, hP, hE, hb⟩ := hrel
    have hBr := Lib.hid (hB1.out.later hb.out)
    obtain ⟨ez, hez⟩ : ∃ z : Int, z = (e : Int) := ⟨_, rfl⟩
    rw [← hez] at ht
    subst ht
    by_cases he0 : 0 < e
    · have d1 : decide (0 < ez) = true := decide_eq_true (by omega)
      obtain ⟨l, hl⟩ : ∃ l, e = l + 1 := ⟨e - 1, by omega⟩
      subst hl
      have hw1 : wrap64 (ez - 1) = ez - 1 := by unfold wrap64; omega
      have cF := hF1.out l wr hb.out (by omega)
      rw [show (l : Int) = ez - 1 by omega] at cF
      replace cF := Lib.hid cF
      replace hez := Lib.hid hez
      have p0 := hBr.out.c0
      have p1 := hBr.out.c1
      have p2 := hBr.out.c2
      go_wp2_with fail
      refine cF.out.mono ?_; rintro en w3 ⟨s, rfl, hfi, b3⟩
      obtain ⟨vs, hPv⟩ := hP.out
      obtain ⟨hSeg, hEs⟩ := hfi.seg (e := l + 1) hN.out (by omega) (by rw [hil.out]; exact hem) hE.out
      have hsl := hSeg.lt
      have cL := hfill.out s (l + 1) vs w3 (hPv.below b3) hSeg
      rw [← hez.out] at cL
      replace cL := Lib.hid cL
      replace hEs := Lib.hid hEs
      have hb3 := Lib.hid (hb.out.trans (b3.mono hb.out.size))
      clear p0 p1 p2 cF hSeg hfi hPv b3
      go_wp2_with fail
      refine cL.out.mono ?_; rintro en w4 ⟨rfl, hP4, b4⟩
      replace hP4 := Lib.hid hP4
      have hb4 := Lib.hid (hb3.out.trans (b4.below hb3.out.size (by rw [hG.out]; exact Nat.le_refl _)))
      clear b4 cL
      go_wp2_with fail
      exact ⟨⟨s, by omega, rfl, hP4, hEs, hb4⟩, by have := hez.out; simp [intOf]; omega⟩
    · have d1 : decide (0 < ez) = false := decide_eq_false (by omega)
      have h0 : e = 0 := by omega
      subst h0
      replace hez := Lib.hid hez
      obtain ⟨vs, hPv⟩ := hP.out
      have hrows : RowsAt wr (some ⟨G, 0, none⟩) v.m (poM f.items) := ⟨vs, by have := hPv.k.rd; rwa [hPv.l] at this, by rw [← partM_all]; exact hPv.r⟩
      have kR3 := kR.out.below_ (show Below W1.heap.size W1 wr from hb.out)
      have f0 := kR3.c0
      have f1 := kR3.c1
      have g0 := kR3.frozen 0
      have g1 := kR3.frozen 1
      have hcc := kR3.two (.int .i64 (v.m : Int)) (.slice (some ⟨G, 0, none⟩) v.m v.m)
      have hc1 := Lib.hid hcc.1
      have hc2 := Lib.hid hcc.2
      have hrf := Lib.hid (hrows.putB kR3 (fun _ ad e => by injection e with e; subst e; have := hgG.out; show G ≠ gr; omega) (.int .i64 (v.m : Int)) (.slice (some ⟨G, 0, none⟩) v.m v.m))
      have hbf := Lib.hid (((below_trans2 hB1.out.o hb.out).setCell (p := ⟨gr, 0, none⟩) hgw (.int .i64 (v.m : Int))).setCell (p := ⟨gr, 1, none⟩) hgw (.slice (some ⟨G, 0, none⟩) v.m v.m))
      clear hcc hrows kR3 hPv hP
      go_wp2_with fail
      exact bodyPost_ret (v := .agg #[.int .i64 (v.m : Int), .slice (some ⟨G, 0, none⟩) v.m v.m]) (by simp [results, Tryz.results51, go_sem, hc1.out, hc2.out]) rfl ⟨some ⟨G, 0, none⟩, v.m, v.m, rfl, hrf.out, Nat.le_refl _, hbf.out, fun ad e => by injection e with e; subst e; have := hgG.out; show w.heap.size ≤ G; omega⟩
theorem session_Po (v : FV) (f : Fac) (w : World) (hF : FactsAt w v f) (hm : v.m ≤ 4096) (hN : Nbr f.items) :
    Calls Tryz.prog 51 #[.agg #[.slice v.A v.n v.c, .slice v.B v.m v.d, .slice v.C v.k v.e]] w (RetMat1 (v.m : Int) (poM f.items) w) :=
  (session_PoF v f w hF hm hN).mono fun _ _ ⟨A, n, c, he, hr, hc, hb, _⟩ => ⟨A, n, c, he, hr, hc, hb⟩
end Go.Proofs.YtjhjojklfdjmdaaGreat

namespace Go.Proofs.YtjhjojklfdjmdaaGreat
open Go.RowKit
set_option linter.unusedVariables false
theorem filter_range_ext {p q : Nat → Bool} {n N : Nat} (hn : n ≤ N) (h1 : ∀ i, i < n → q i = p i) (h2 : ∀ i, n ≤ i → q i = false) : (List.range N).filter q = (List.range n).filter p := by
  obtain ⟨d, rfl⟩ : ∃ d, N = n + d := ⟨N - n, by omega⟩
  clear hn
  induction d with
  | zero => exact List.filter_congr fun i hi => h1 i (List.mem_range.1 hi)
  | succ d ih => rw [← Nat.add_assoc, List.range_succ, List.filter_append, ih, List.filter_cons_of_neg (by rw [h2 _ (by omega)]; decide)]; simp
theorem colN_mem {a : List (List Nat)} {o : Int} {n i : Nat} : i ∈ colN a o n ↔ i < n ∧ hasM a (i : Int) o = true := by
  unfold colN; rw [List.mem_filter, List.mem_range]
theorem colN_succ (a : List (List Nat)) (o : Int) (n : Nat) : colN a o (n + 1) = if hasM a (n : Int) o = true then colN a o n ++ [n] else colN a o n := by
  unfold colN
  rw [List.range_succ, List.filter_append]
  split
  · rename_i h; rw [List.filter_cons_of_pos (by exact h)]; simp
  · rename_i h; rw [List.filter_cons_of_neg (by exact h)]; simp
/-- the column o as a row of words; no word where there is no such column -/
def colW (a : List (List Nat)) (o : Int) (n : Nat) : List Nat := if 0 ≤ o ∧ o < (n : Int) then setAll (wordsN (n : Int)) (colN a o n) else []
theorem words_all16 (n : Nat) : n ≤ 64 * wordsN (n : Int) := by unfold wordsN wordsZ; split <;> omega
theorem words_small16 {n : Nat} (h : n ≤ 4096) : wordsN (n : Int) ≤ 64 := by unfold wordsN wordsZ; split <;> omega
theorem col_facts (a : List (List Nat)) (o : Int) {n k : Nat} (hk : k ≤ n) : (setAll (wordsN (n : Int)) (colN a o k)).length = wordsN (n : Int) ∧ W64 (setAll (wordsN (n : Int)) (colN a o k)) ∧ ∀ j : Nat, hasR (setAll (wordsN (n : Int)) (colN a o k)) (j : Int) = decide (j ∈ colN a o k) :=
  setAll_facts _ _ fun i hi => by have := (colN_mem.1 hi).1; have := words_all16 n; omega
theorem col_list (a : List (List Nat)) (o : Int) (n : Nat) : listR (setAll (wordsN (n : Int)) (colN a o n)) = colF a o n := by
  obtain ⟨h1, -, h3⟩ := col_facts a o (Nat.le_refl n)
  unfold listR listN colF
  rw [h1, filter_range_ext (p := fun i : Nat => hasM a (i : Int) o) (words_all16 n)]
  · rfl
  · intro i hi
    rw [h3 i, Bool.eq_iff_iff, decide_eq_true_iff, colN_mem]
    exact ⟨fun h => h.2, fun h => ⟨hi, h⟩⟩
  · intro i hi
    rw [h3 i, decide_eq_false_iff_not, colN_mem]
    omega
theorem col_list_with (a : List (List Nat)) (k n : Nat) (hk : k < n) : listR (setR (setAll (wordsN (n : Int)) (colN a (k : Int) n)) (k : Int)) = wihF a (k : Int) n := by
  obtain ⟨h1, -, h3⟩ := col_facts a (k : Int) (Nat.le_refl n)
  have hw := words_all16 n
  unfold listR listN wihF
  rw [setR_len, h1, filter_range_ext (p := fun i : Nat => decide ((i : Int) = (k : Int)) || hasM a (i : Int) (k : Int)) hw]
  · rfl
  · intro i hi
    rw [hasR_setR _ k i (by rw [h1]; omega), h3 i, Bool.eq_iff_iff, Bool.or_eq_true, Bool.or_eq_true, decide_eq_true_iff, decide_eq_true_iff, decide_eq_true_iff, colN_mem]
    exact ⟨fun h => h.elim (fun h => .inr h.2) (fun h => .inl (by omega)), fun h => h.elim (fun h => .inr (by omega)) (fun h => .inl ⟨hi, h⟩)⟩
  · intro i hi
    rw [hasR_setR _ k i (by rw [h1]; omega), h3 i, Bool.or_eq_false_iff, decide_eq_false_iff_not, decide_eq_false_iff_not, colN_mem]
    omega
theorem col_none {a : List (List Nat)} {n : Nat} (hG : Good n a) {o : Int} (h : ¬ (0 ≤ o ∧ o < (n : Int))) : colF a o n = [] := by
  unfold colF colN
  rw [List.filter_eq_nil_iff.2 (fun i hi hh => ?_)]; · rfl
  have hh : hasM a (i : Int) o = true := hh
  have := hG.in_has (i : Int) o
  rw [hh, Bool.and_true] at this
  unfold inM at this
  simp only [Bool.and_eq_true, decide_eq_true_eq] at this
  omega
theorem all_i64v (zs : List Int) : encI.all zs = zs.map i64v := by
  unfold Enc.all encI
  induction zs with
  | nil => rfl
  | cons z zs ih => rw [List.flatMap_cons, ih]; rfl
theorem RetIntsO.il {t : TypeId} {zs : List Int} {w w' : World} {e : Ending} (h : RetIntsO t zs w e w') : RetILF zs w e w' := by
  obtain ⟨A, n, c, rfl, ho, hx, hb⟩ := h
  rw [← all_i64v] at ho
  have hl : zs.length = n := by have := ho.1; rw [Enc.all_len] at this; simpa [encI] using this
  obtain ⟨A2, c2, e, hnc, hcm, hL⟩ := LAt.of_own (E := encI) ho hx hl
  injection e with e1 e2 e3
  subst e1; subst e3
  exact ⟨A, n, c, rfl, hL, hnc, hcm, hb, fun ad e => by subst e; exact own_lt_block ho _ rfl⟩
theorem RetILF.il {zs : List Int} {w w' : World} {e : Ending} (h : RetILF zs w e w') : RetIL zs w e w' := by
  obtain ⟨A, n, c, h1, h2, h3, h4, h5, -⟩ := h
  exact ⟨A, n, c, h1, h2, h3, h4, h5⟩
theorem RetILF.past {zs : List Int} {w0 w w' : World} {e : Ending} (h : RetILF zs w e w') (hb : Below w0.heap.size w0 w) : RetILF zs w0 e w' := by
  obtain ⟨A, n, c, h1, h2, h3, h4, h5, h6⟩ := h
  exact ⟨A, n, c, h1, h2, h3, h4, below_trans2 hb h5, fun ad e => Nat.le_trans hb.size (h6 ad e)⟩
theorem wrap_nat16 {q : Nat} (h : q ≤ 4096) : IntKind.i64.wrap (q : Int) = (q : Int) := by rw [IntKind.wrap_i64]; omega
set_option maxRecDepth 100000 in
set_option maxHeartbeats 1000000 in
theorem past_column (A : Option Addr) (n c : Nat) (a : List (List Nat)) (o : Int) (w : World) (hr : RowsAt w A n a) (hG : Good n a) :
    Calls Tryz.prog 112 #[.agg #[.int .i64 (n : Int), .slice A n c], .int .i64 o] w (RetRow (colW a o n) w) := by
  have hnn := hG.le
  have hsm := Lib.hid hG.small
  -- a call with the matrix (A n c a): it is boxed at g, the world is W0 then
  have hM0 := Lib.hid (MatK.new (N := (n : Int)) (c := c) w 57 hr)
  obtain ⟨g, hg⟩ : ∃ g, g = w.heap.size := ⟨_, rfl⟩
  obtain ⟨W0, hW0⟩ : ∃ W, W = w.alloc (.cells #[.int .i64 (n : Int), .slice A n c] 57) := ⟨_, rfl⟩
  rw [← hW0, ← hg] at hM0
  have hbo := Lib.hid (show Below w.heap.size w W0 from by rw [hW0]; exact below_alloc _ _)
  by_cases hin : 0 ≤ o ∧ o < (n : Int)
  · have hcw := Lib.hid (show colW a o n = setAll (wordsN (n : Int)) (colN a o n) from if_pos hin)
    obtain ⟨h0, h1⟩ := hin
    have d1 : decide (o < 0) = false := decide_eq_false (by omega)
    have d2 : decide ((n : Int) ≤ o) = false := decide_eq_false (by omega)
    have cN := Lib.hid (row_NewO (n : Int) (by omega) (by omega) W0)
    have m0 := hM0.out.1.c0
    have m1 := hM0.out.1.c1
    go_enter Tryz.func112, Tryz.ntmps112
    go_wp2_with (rw [← hW0, ← hg]; clear hW0 hg)
    refine cN.out.mono ?_; rintro e w1 ⟨A1, n1, c1, rfl, hown, hx64, b1⟩
    have hn1 : n1 = wordsN (n : Int) := by have := hown.1; simpa using this.symm
    have hwa := words_all16 n
    have hws := words_small16 hnn
    obtain ⟨nw, hnw⟩ : ∃ nw, nw = wordsN (n : Int) := ⟨_, rfl⟩
    rw [← hnw] at hn1 hwa hws
    subst hn1
    obtain ⟨G, cap, hv, -⟩ := hown.form (by omega)
    injection hv with hv1 hv2 hv3
    subst hv1; subst hv3
    have hfa := Lib.hid (fun k (hk : k ≤ n) => col_facts a o (n := n) (k := k) hk)
    rw [← hnw] at hown hfa hcw
    replace hnw := Lib.hid hnw
    have hown0 := Lib.hid (show w1.ownsRow W0.heap.size 89 1 (.slice (some ⟨G, 0, none⟩) n1 c1) n1 ((setAll n1 (colN a o 0)).map u64v) from hown)
    have hM1 := Lib.hid (hM0.out.below b1)
    have hb1 := Lib.hid b1
    clear hown hx64 b1 m0 m1
    have m0 := hM1.out.1.c0
    have m1 := hM1.out.1.c1
    go_wp2_with fail
    clear m0 m1
    go_loopw [20] (fun t wr => ∃ k : Nat, k ≤ n ∧ t = .int .i64 (k : Int) ∧ Hid (Below W0.heap.size W0 wr) ∧ Hid (wr.ownsRow W0.heap.size 89 1 (.slice (some ⟨G, 0, none⟩) n1 c1) n1 ((setAll n1 (colN a o k)).map u64v))) (fun t _ => n - (intOf t).toNat)
    case atStart => exact ⟨0, Nat.zero_le _, rfl, hb1, hown0⟩
    case round =>
      clear hb1 hown0
      obtain ⟨k, hk, rfl, hb, hown⟩ := hrel
      have hM := Lib.hid (hM0.out.below hb.out)
      have m0 := hM.out.1.c0
      have m1 := hM.out.1.c1
      by_cases hlt : k < n
      · have hlt' : (k : Int) < (n : Int) := by omega
        have hrs := colN_succ a o k
        have cH := mat_Has (n : Int) A n c a (k : Int) o wr hM.out.2 (by omega) (fun r hr => by have := hsm.out r hr; omega) (by omega) (by omega) (by omega) (by omega)
        cases ha : hasM a (k : Int) o with
        | true =>
          rw [ha] at cH
          rw [if_pos ha] at hrs
          replace cH := Lib.hid cH
          obtain ⟨q, hq⟩ : ∃ q, q = k / 64 := ⟨_, rfl⟩
          obtain ⟨r, hre⟩ : ∃ r, r = k % 64 := ⟨_, rfl⟩
          have hql : q < n1 := by omega
          have hr64 : r < 64 := by omega
          obtain ⟨hl1, hl2, -⟩ := hfa.out k (by omega)
          obtain ⟨x, hx⟩ : ∃ x, (setAll n1 (colN a o k))[q]? = some x := ⟨_, List.getElem?_eq_getElem (by omega)⟩
          have hx64 : x < 18446744073709551616 := hl2 x (List.mem_of_getElem? hx)
          have hS := setR_in (m := k) (xs := setAll n1 (colN a o k)) (by rw [hl1]; omega) (by rw [← hq]; exact hx)
          rw [← hq, ← hre, ← setAll_snoc, ← hrs] at hS
          have hE := Lib.hid (u64_or_nat x (p2 r) hx64 (by have := p2_lt r hr64; omega))
          replace hS := Lib.hid hS
          replace hx := Lib.hid hx
          clear hlt ha hrs
          go_wp2_with fail
          refine cH.out.mono ?_; rintro e w3 ⟨rfl, b3⟩
          have hown3 := own_below hown.out b3
          have hb3 := below_trans2 hb.out b3
          have hc : w3.cell? ⟨G, q, none⟩ = some (.int .u64 (x : Int)) := by
            rw [hown3.cellAt _ (by omega), List.getElem?_map, hx.out]; rfl
          have hf := hown3.frozenAt q
          have hGl := Lib.hid (hown3.lt G rfl).1
          clear b3 cH m0 m1
          go_wp2_with fail
          have hq1 : (k : Int).tdiv 64 = (q : Int) := by rw [Int.tdiv_eq_ediv_of_nonneg (by omega)]; omega
          have hr1 : (k : Int).tmod 64 = (r : Int) := by rw [Int.tmod_eq_emod_of_nonneg (by omega)]; omega
          have hwq : IntKind.i64.wrap (q : Int) = (q : Int) := wrap_nat16 (by omega)
          have hwr : IntKind.i64.wrap (r : Int) = (r : Int) := wrap_nat16 (by omega)
          have hA1 : (0 : Int) ≤ (q : Int) := by omega
          have hA2 : (q : Int) < (n1 : Int) := by omega
          refine still_tail 10 (by kernel_rfl) (by kernel_rfl) (fun W hW => ?_)
          have hc' : W.cell? ⟨G, q, none⟩ = some (.int .u64 (x : Int)) := by rw [hW.out]; exact hc
          have hf' : W.frozen? ⟨G, q, none⟩ = false := by rw [hW.out]; exact hf
          have hown' := Lib.hid (show W.ownsRow W0.heap.size 89 1 (.slice (some ⟨G, 0, none⟩) n1 c1) n1 ((setAll n1 (colN a o k)).map u64v) from by rw [hW.out]; exact hown3.drew)
          have hb' := Lib.hid (show Below W0.heap.size W0 W from by rw [hW.out]; exact hb3.drew)
          replace hq := Lib.hid hq
          replace hre := Lib.hid hre
          clear hc hf hb3 hown3 hW
          simp only [List.take_succ_cons, List.take_zero, List.drop_succ_cons, List.drop_zero]
          repeat
            refine @wpStill_step _ _ _ _ _ _ _ ?_
            intro K hK
            go_simp
            refine hK _ ?_
            clear hK K
          refine @wpStill_step _ _ _ _ _ _ _ ?_
          intro K hK
          go_simp
          refine ⟨_, still_call (word_BitN _ hr64 _), hK _ ?_⟩
          clear hK K
          repeat
            refine @wpStill_step _ _ _ _ _ _ _ ?_
            intro K hK
            go_simp
            refine hK _ ?_
            clear hK K
          refine wpStill_nil ?_
          go_wp2
          go_roundw
          case rel =>
            refine ⟨k + 1, by omega, by go_num, Lib.hid (hb'.out.setCell hGl.out _), Lib.hid ?_⟩
            rw [hE.out, hS.out, List.map_set]
            exact (hown'.out.stored _ _).1
          case measure => simp [intOf]; omega
        | false =>
          rw [ha] at cH
          rw [if_neg (by simp [ha])] at hrs
          replace hrs := Lib.hid hrs
          replace cH := Lib.hid cH
          clear hlt ha
          go_wp2_with fail
          refine cH.out.mono ?_; rintro e w3 ⟨rfl, b3⟩
          have hown3 := Lib.hid (own_below hown.out b3)
          have hb3 := Lib.hid (below_trans2 hb.out b3)
          clear b3 cH m0 m1
          go_wp2_with fail
          exact ⟨⟨k + 1, by omega, by go_num, hb3, Lib.hid (by rw [hrs.out]; exact hown3.out)⟩, by simp [intOf]; omega⟩
      · have hlt' : ¬ (k : Int) < (n : Int) := by omega
        obtain rfl : k = n := by omega
        obtain ⟨hl1, hl2, -⟩ := hfa.out k (by omega)
        have hR := Row.of_own hown.out hl2
        clear hlt hl1 hl2
        go_wp2_with fail
        go_ret
        exact ⟨_, _, _, rfl, by rw [hcw.out]; exact hR, below_trans2 hbo.out hb.out⟩
  · have hcw := Lib.hid (show colW a o n = [] from if_neg hin)
    have m0 := hM0.out.1.c0
    by_cases h0 : o < 0
    · have d1 : decide (o < 0) = true := decide_eq_true h0
      go_enter Tryz.func112, Tryz.ntmps112
      go_wp2_with (rw [← hW0, ← hg]; clear hW0 hg)
      go_ret
      exact ⟨none, 0, 0, rfl, by rw [hcw.out]; exact Row.nil _ _, hbo.out⟩
    · have d1 : decide (o < 0) = false := decide_eq_false h0
      have d2 : decide ((n : Int) ≤ o) = true := decide_eq_true (by omega)
      go_enter Tryz.func112, Tryz.ntmps112
      go_wp2_with (rw [← hW0, ← hg]; clear hW0 hg)
      go_ret
      exact ⟨none, 0, 0, rfl, by rw [hcw.out]; exact Row.nil _ _, hbo.out⟩
theorem colW_len {a : List (List Nat)} {o : Int} {n : Nat} (h : n ≤ 4096) : (colW a o n).length ≤ 64 := by
  unfold colW
  split
  · rw [(col_facts a o (Nat.le_refl n)).1]; exact words_small16 h
  · exact Nat.zero_le _
theorem past_OfF (A : Option Addr) (n c : Nat) (a : List (List Nat)) (o : Int) (w : World) (hr : RowsAt w A n a) (hG : Good n a) :
    Calls Tryz.prog 83 #[.agg #[.int .i64 (n : Int), .slice A n c], .int .i64 o] w (RetILF (colF a o n) w) := by
  -- a call with the matrix (A n c a): it is boxed at g, the world is W0 then
  have hM0 := Lib.hid (MatK.new (N := (n : Int)) (c := c) w 57 hr)
  obtain ⟨g, hg⟩ : ∃ g, g = w.heap.size := ⟨_, rfl⟩
  obtain ⟨W0, hW0⟩ : ∃ W, W = w.alloc (.cells #[.int .i64 (n : Int), .slice A n c] 57) := ⟨_, rfl⟩
  rw [← hW0, ← hg] at hM0
  have hbo := Lib.hid (show Below w.heap.size w W0 from by rw [hW0]; exact below_alloc _ _)
  have m0 := hM0.out.1.c0
  have m1 := hM0.out.1.c1
  have cC := Lib.hid (past_column A n c a o W0 hM0.out.2 hG)
  have hl : Hid (listR (colW a o n) = colF a o n) := Lib.hid (by
    unfold colW
    split
    · exact col_list a o n
    · rename_i h; rw [col_none hG h]; rfl)
  have hwl := colW_len (a := a) (o := o) hG.le
  go_enter Tryz.func83, Tryz.ntmps83
  go_wp2_with (rw [← hW0, ← hg]; clear hW0 hg)
  refine cC.out.mono ?_; rintro e w1 ⟨A1, n1, c1, rfl, hR, b1⟩
  have hn1 : n1 ≤ 64 := by rw [← hR.len]; exact hwl
  have cL := Lib.hid (row_ListO A1 n1 c1 _ w1 hR (by omega))
  have hb1 := Lib.hid (below_trans2 hbo.out b1)
  clear b1 hR hwl m0 m1
  go_wp2_with fail
  refine cL.out.mono ?_; intro e w2 h2
  have h3 := h2.il
  rw [hl.out] at h3
  obtain ⟨A2, n2, c2, rfl, h4, h5, h6, h7, h8⟩ := h3.past hb1.out
  clear h2
  go_wp2_with fail
  go_ret
  exact ⟨A2, n2, c2, rfl, h4, h5, h6, h7, h8⟩
theorem past_Of (A : Option Addr) (n c : Nat) (a : List (List Nat)) (o : Int) (w : World) (hr : RowsAt w A n a) (hG : Good n a) :
    Calls Tryz.prog 83 #[.agg #[.int .i64 (n : Int), .slice A n c], .int .i64 o] w (RetIL (colF a o n) w) :=
  (past_OfF A n c a o w hr hG).mono fun _ _ h => h.il
theorem within_none (i : Int) : decide (IntKind.u64.wrap i / 64 < 0) = false := by
  rw [decide_eq_false_iff_not, IntKind.wrap_u64]; omega
theorem row_within0 (A : Option Addr) (c : Nat) (i : Int) (w : World) :
    Calls Tryz.prog 113 #[.slice A 0 c, .int .i64 i] w fun e w' => e = .returned (.bool false) ∧ w = w' := by
  have H := Lib.hid (within_none i)
  go_enter Tryz.func113, Tryz.ntmps113
  go_wp2
  go_ret
  exact ⟨ret_bool H.out, rfl⟩
/-- no bit of a row without words is set -/
theorem row_Set0 (A : Option Addr) (c : Nat) (i : Int) (w : World) :
    Calls Tryz.prog 108 #[.slice A 0 c, .int .i64 i] w (RetRow [] w) := by
  have hcl := Lib.hid (row_clone A 0 c [] w (Row.nil _ _) (by omega))
  go_enter Tryz.func108, Tryz.ntmps108
  go_wp2_with fail
  refine hcl.out.mono ?_; rintro e w1 ⟨g, rfl, hown, hb⟩
  go_wp2_with fail
  refine (row_within0 _ _ i _).mono ?_; rintro e w' ⟨rfl, rfl⟩
  go_wp2
  go_ret
  exact ⟨_, _, _, rfl, Row.nil _ _, hb⟩
theorem past_WithF (A : Option Addr) (n c : Nat) (a : List (List Nat)) (o : Int) (w : World) (hr : RowsAt w A n a) (hG : Good n a) :
    Calls Tryz.prog 118 #[.agg #[.int .i64 (n : Int), .slice A n c], .int .i64 o] w (RetILF (wihO a o n) w) := by
  -- a call with the matrix (A n c a): it is boxed at g, the world is W0 then
  have hM0 := Lib.hid (MatK.new (N := (n : Int)) (c := c) w 57 hr)
  obtain ⟨g, hg⟩ : ∃ g, g = w.heap.size := ⟨_, rfl⟩
  obtain ⟨W0, hW0⟩ : ∃ W, W = w.alloc (.cells #[.int .i64 (n : Int), .slice A n c] 57) := ⟨_, rfl⟩
  rw [← hW0, ← hg] at hM0
  have hbo := Lib.hid (show Below w.heap.size w W0 from by rw [hW0]; exact below_alloc _ _)
  have m0 := hM0.out.1.c0
  have m1 := hM0.out.1.c1
  have cC := Lib.hid (past_column A n c a o W0 hM0.out.2 hG)
  have hl : Hid (listR (setR (colW a o n) o) = wihO a o n) := Lib.hid (by
    unfold colW wihO
    split
    · rename_i h
      obtain ⟨k, rfl⟩ := Int.eq_ofNat_of_zero_le h.1
      exact col_list_with a k n (by omega)
    · rw [setR_out (by simp; omega)]; rfl)
  have hwl := colW_len (a := a) (o := o) hG.le
  go_enter Tryz.func118, Tryz.ntmps118
  go_wp2_with (rw [← hW0, ← hg]; clear hW0 hg)
  refine cC.out.mono ?_; rintro e w1 ⟨A1, n1, c1, rfl, hR, b1⟩
  have hn1 : n1 ≤ 64 := by rw [← hR.len]; exact hwl
  have hle := hG.le
  have cS : Hid (Calls Tryz.prog 108 #[.slice A1 n1 c1, .int .i64 o] w1 (RetRow (setR (colW a o n) o) w1)) := by
    by_cases hin : 0 ≤ o ∧ o < (n : Int)
    · exact Lib.hid (row_Set A1 n1 c1 _ o w1 hR (by omega) (by omega) (by omega))
    · have he : colW a o n = [] := if_neg hin
      rw [he] at hR
      rw [he, setR_out (by simp; omega)]
      obtain rfl : n1 = 0 := hR.len.symm
      exact Lib.hid (row_Set0 A1 c1 o w1)
  have hb1 := Lib.hid (below_trans2 hbo.out b1)
  clear b1 m0 m1
  go_wp2_with fail
  refine cS.out.mono ?_; rintro e w2 ⟨A2, n2, c2, rfl, hR2, b2⟩
  have hn2 : n2 ≤ 64 := by rw [← hR2.len, setR_len]; exact hwl
  have cL := Lib.hid (row_ListO A2 n2 c2 _ w2 hR2 (by omega))
  have hb2 := Lib.hid (below_trans2 hb1.out b2)
  clear b2 hR hR2 hwl cS hn1
  go_wp2_with fail
  refine cL.out.mono ?_; intro e w3 h2
  have h3 := h2.il
  rw [hl.out] at h3
  obtain ⟨A3, n3, c3, rfl, h4, h5, h6, h7, h8⟩ := h3.past hb2.out
  clear h2
  go_wp2_with fail
  go_ret
  exact ⟨A3, n3, c3, rfl, h4, h5, h6, h7, h8⟩
theorem past_With (A : Option Addr) (n c : Nat) (a : List (List Nat)) (o : Int) (w : World) (hr : RowsAt w A n a) (hG : Good n a) :
    Calls Tryz.prog 118 #[.agg #[.int .i64 (n : Int), .slice A n c], .int .i64 o] w (RetIL (wihO a o n) w) :=
  (past_WithF A n c a o w hr hG).mono fun _ _ h => h.il
/-- the numbers of a list whose items fit -/
def chP (p : It → Bool) (is : List It) (z : Int) : Bool := decide (0 ≤ z) && (match is[z.toNat]? with | some x => p x | none => false)
def chF (p : It → Bool) (is : List It) (l : List Int) : List Int := l.filter (chP p is)
theorem chP_at {p : It → Bool} {is : List It} {z : Int} {x : It} (h0 : 0 ≤ z) (h : is[z.toNat]? = some x) : chP p is z = p x := by
  unfold chP; rw [decide_eq_true h0, h]; rfl
theorem chP_out {p : It → Bool} {is : List It} {z : Int} (h : z < 0 ∨ (is.length : Int) ≤ z) : chP p is z = false := by
  unfold chP
  by_cases h0 : 0 ≤ z
  · rw [List.getElem?_eq_none (by omega)]; simp
  · rw [decide_eq_false h0]; rfl
theorem chF_wrs (is : List It) (v : Int) (l : List Int) : chF (fun x => x.wr && decide (x.va = v)) is l = wrsF is v l := by
  unfold chF wrsF
  refine List.filter_congr fun z _ => ?_
  unfold chP wrOK
  cases is[z.toNat]? <;> rfl
theorem chF_kept (is : List It) (l : List Int) (hl : ∀ z ∈ l, 0 ≤ z) : chF (fun x => !x.wr) is l = keptF is l := by
  unfold chF keptF
  refine List.filter_congr fun z hz => ?_
  unfold chP rdOK
  rw [decide_eq_true (hl z hz), Bool.true_and]
  cases is[z.toNat]? <;> rfl
set_option maxRecDepth 100000 in
set_option maxHeartbeats 2000000 in
/-- chosen by a function that has nothing of its own -/
theorem past_chosen0 (p : It → Bool) (v : FV) (f : Fac) (B : Option Addr) (m d : Nat) (l : List Int) (w : World) (hF : FactsAt w v f) (hL : LAt encI w B m l) (hm : m ≤ 1048576) (hvm : v.m ≤ 1048576)
    (hp : ∀ (x : It) (W : World), Below w.heap.size w W → Calls Tryz.prog 117 #[.agg #[.int .i64 x.se, .int .i64 x.pl, .bool x.wr, .int .i64 x.va, .int .i64 x.vl]] W (RetBool (p x) W)) :
    Calls Tryz.prog 109 #[.agg #[.slice v.A v.n v.c, .slice v.B v.m v.d, .slice v.C v.k v.e], .slice B m d, .func (.func 117) #[] #[]] w (RetILF (chF p f.items l) w) := by
  have hil := hF.is.len
  obtain ⟨i0, hi, hz0, hz1, hz2⟩ := info_parts info_int16
  replace hi := Lib.hid hi
  replace hz0 := Lib.hid hz0
  replace hz1 := Lib.hid hz1
  replace hz2 := Lib.hid hz2
  replace hil := Lib.hid hil
  replace hL := Lib.hid hL
  replace hp := Lib.hid hp
  -- a call with facts v: they are boxed at g, the world is W0 then
  have hB0 := Lib.hid (FBox.new hF)
  obtain ⟨g, hg⟩ : ∃ g, g = w.heap.size := ⟨_, rfl⟩
  obtain ⟨W0, hW0⟩ : ∃ W, W = w.alloc (.cells #[.slice v.A v.n v.c, .slice v.B v.m v.d, .slice v.C v.k v.e] 29) := ⟨_, rfl⟩
  rw [← hW0, ← hg] at hB0
  clear hF
  go_enter Tryz.func109, Tryz.ntmps109
  go_wp2_with (rw [← hW0, ← hg]; clear hW0 hg)
  go_loopw [7, 12] (fun u t wr => ∃ k : Nat, k ≤ m ∧ t = .int .i64 k ∧ Hid (Below W0.heap.size W0 wr) ∧ Hid (wr.ownsRow W0.heap.size 3 1 u (chF p f.items (l.take k)).length (encI.all (chF p f.items (l.take k))))) (fun _ t _ => m - (intOf t).toNat)
  case atStart => exact ⟨0, Nat.zero_le _, rfl, Lib.hid (Below.refl _ _), Lib.hid (World.ownsRow_nil _ _ _ _)⟩
  case round =>
    obtain ⟨k, hk, rfl, hb, hown⟩ := hrel
    have hB := Lib.hid (hB0.out.later hb.out)
    have hLr := (hL.out.below hB0.out.o).below hb.out
    have p0 := hB.out.c0
    have p1 := hB.out.c1
    have p2 := hB.out.c2
    have hrl : (chF p f.items (l.take k)).length ≤ k := Nat.le_trans (List.length_filter_le _ _) (List.length_take_le _ _)
    obtain ⟨L, hLl⟩ : ∃ L, L = (chF p f.items (l.take k)).length := ⟨_, rfl⟩
    rw [← hLl] at hown hrl
    replace hLl := Lib.hid hLl
    by_cases hlt : k < m
    · have hlt' : (k : Int) < (m : Int) := by omega
      have k0 : 0 ≤ (k : Int) ∧ (k : Int) < (m : Int) := ⟨by omega, hlt'⟩
      obtain ⟨lb, lo, z, rfl, hlb, hz, ⟨z0, z1⟩, j0⟩ := hLr.int hlt
      have hrs : chF p f.items (l.take (k + 1)) = if chP p f.items z = true then chF p f.items (l.take k) ++ [z] else chF p f.items (l.take k) := filter_take hz
      by_cases hzn : 0 ≤ z
      · have d1 : decide (0 ≤ z) = true := decide_eq_true hzn
        by_cases hzm : z < (v.m : Int)
        · have d2 : decide (z < (v.m : Int)) = true := decide_eq_true hzm
          have hzb : 0 ≤ z ∧ z < (v.m : Int) := ⟨hzn, hzm⟩
          obtain ⟨ib, io, it, hxB, hib, hq, -, i0, i1, i2, i3, i4⟩ := hB.out.f.is.item (show z.toNat < v.m by omega)
          rw [hxB] at p1
          rw [chP_at hzn hq] at hrs
          have cP := hp.out it wr (below_trans2 hB0.out.o hb.out)
          replace hzn := Lib.hid hzn
          replace hzm := Lib.hid hzm
          replace hxB := Lib.hid hxB
          cases hpi : p it with
          | true =>
            rw [if_pos hpi] at hrs
            rw [hpi] at cP
            replace hrs := Lib.hid hrs
            replace cP := Lib.hid cP
            clear hlt hz hlb hq hpi
            go_wp2_with fail
            refine cP.out.mono ?_; rintro e w3 ⟨rfl, b3⟩
            have hown3 := Lib.hid (own_below hown.out b3)
            have hb3 := Lib.hid (below_trans2 hb.out b3)
            clear b3 cP p0 p1 p2 i0 i1 i2 i3 i4 j0
            -- 'append(out, z)' (temps 34 36) in the world w3: hown : the row (chF p f.items (l.take k)) of length L (hL), hb : Below W0 .. w3; behind it: hown', hb7
            obtain ⟨gl, hgl⟩ : ∃ g, g = (w3).heap.size := ⟨_, rfl⟩
            obtain ⟨VL, hVL⟩ : ∃ W, W = World.alloc (w3) (.cells #[.int .i64 z] 3) := ⟨_, rfl⟩
            have bL : Below (w3).heap.size (w3) VL := by rw [hVL]; exact (Below.refl _ _).alloc (Nat.le_refl _) _
            have hlit := Lib.hid (show LAt encI VL (some ⟨gl, 0, none⟩) 1 [z] from by rw [hVL, hgl]; exact LAt.lit1 (E := encI) (w3) 3 z ⟨by omega, by omega⟩)
            have hownL := Lib.hid (own_below hown3.out bL)
            have bWL := Lib.hid (below_trans2 hb3.out bL)
            have hbase := Lib.hid bWL.out.size
            clear bL
            go_wp2_with (first
              | (rw [← hVL, ← hgl]; clear hVL hgl)
              | (at_builtin; refine wpList_append_L (E := encI) rfl (.tmp 34) (.tmp 36) _ rfl W0.heap.size 3 i0 _ 8 Tryz.underlying27 hi.out hz0.out hz1.out hz2.out rfl _ L (chF p f.items (l.take k)) (by rfl) hownL.out _ 1 1 _ rfl hlit.out (by unfold maxLen; omega) (by omega) hbase.out ?_; intro v' w7 hown' hb7 _ _))
            exact ⟨⟨k + 1, by omega, by go_num, Lib.hid (bWL.out.trans hb7), Lib.hid (by rw [hrs.out, List.length_append, ← hLl.out]; exact hown')⟩, by simp [intOf]; omega⟩
          | false =>
            rw [if_neg (by simp [hpi])] at hrs
            rw [hpi] at cP
            replace hrs := Lib.hid hrs
            replace cP := Lib.hid cP
            clear hlt hz hlb hq hpi
            go_wp2_with fail
            refine cP.out.mono ?_; rintro e w3 ⟨rfl, b3⟩
            have hown3 := Lib.hid (own_below hown.out b3)
            have hb3 := Lib.hid (below_trans2 hb.out b3)
            clear b3 cP p0 p1 p2 i0 i1 i2 i3 i4 j0
            go_wp2_with fail
            exact ⟨⟨k + 1, by omega, by go_num, hb3, Lib.hid (by rw [hrs.out, ← hLl.out]; exact hown3.out)⟩, by simp [intOf]; omega⟩
        · have d2 : decide (z < (v.m : Int)) = false := decide_eq_false hzm
          rw [if_neg (by rw [chP_out (.inr (by rw [hil.out]; omega))]; simp)] at hrs
          replace hrs := Lib.hid hrs
          replace hzn := Lib.hid hzn
          replace hzm := Lib.hid hzm
          clear hz hlb
          clear hlt
          go_wp2_with fail
          exact ⟨⟨k + 1, by omega, by go_num, hb, Lib.hid (by rw [hrs.out, ← hLl.out]; exact hown.out)⟩, by simp [intOf]; omega⟩
      · have d1 : decide (0 ≤ z) = false := decide_eq_false hzn
        rw [if_neg (by rw [chP_out (.inl (by omega))]; simp)] at hrs
        replace hrs := Lib.hid hrs
        replace hzn := Lib.hid hzn
        clear hz hlb
        clear hlt
        go_wp2_with fail
        exact ⟨⟨k + 1, by omega, by go_num, hb, Lib.hid (by rw [hrs.out, ← hLl.out]; exact hown.out)⟩, by simp [intOf]; omega⟩
    · have hlt' : ¬ (k : Int) < (m : Int) := by omega
      obtain rfl : k = m := by omega
      have hta : l.take k = l := List.take_of_length_le (by rw [hL.out.len]; omega)
      rw [hta] at hown hLl
      have hfr := Lib.hid (own_lt_block hown.out)
      obtain ⟨A2, c2, rfl, hnc, hcm, hLA⟩ := LAt.of_own hown.out (fun z hz => hL.out.okAll z (List.mem_filter.1 hz).1) hLl.out.symm
      clear hlt hta hLr
      go_wp2_with fail
      go_ret
      exact ⟨A2, L, c2, rfl, hLA, hnc, hcm, below_trans2 hB0.out.o hb.out, fun ad e => by subst e; exact Nat.le_trans hB0.out.o.size (hfr.out _ rfl)⟩
set_option maxRecDepth 100000 in
set_option maxHeartbeats 2000000 in
/-- chosen by a function that has a variable of its own -/
theorem past_chosen1 (u : Value) (p : It → Bool) (v : FV) (f : Fac) (B : Option Addr) (m d : Nat) (l : List Int) (w : World) (hF : FactsAt w v f) (hL : LAt encI w B m l) (hm : m ≤ 1048576) (hvm : v.m ≤ 1048576)
    (hp : ∀ (x : It) (W : World), Below w.heap.size w W → Calls Tryz.prog 110 #[.agg #[.int .i64 x.se, .int .i64 x.pl, .bool x.wr, .int .i64 x.va, .int .i64 x.vl], u] W (RetBool (p x) W)) :
    Calls Tryz.prog 109 #[.agg #[.slice v.A v.n v.c, .slice v.B v.m v.d, .slice v.C v.k v.e], .slice B m d, .func (.func 110) #[] #[u]] w (RetILF (chF p f.items l) w) := by
  have hil := hF.is.len
  obtain ⟨i0, hi, hz0, hz1, hz2⟩ := info_parts info_int16
  replace hi := Lib.hid hi
  replace hz0 := Lib.hid hz0
  replace hz1 := Lib.hid hz1
  replace hz2 := Lib.hid hz2
  replace hil := Lib.hid hil
  replace hL := Lib.hid hL
  replace hp := Lib.hid hp
  -- a call with facts v: they are boxed at g, the world is W0 then
  have hB0 := Lib.hid (FBox.new hF)
  obtain ⟨g, hg⟩ : ∃ g, g = w.heap.size := ⟨_, rfl⟩
  obtain ⟨W0, hW0⟩ : ∃ W, W = w.alloc (.cells #[.slice v.A v.n v.c, .slice v.B v.m v.d, .slice v.C v.k v.e] 29) := ⟨_, rfl⟩
  rw [← hW0, ← hg] at hB0
  clear hF
  go_enter Tryz.func109, Tryz.ntmps109
  go_wp2_with (rw [← hW0, ← hg]; clear hW0 hg)
  go_loopw [7, 12] (fun u t wr => ∃ k : Nat, k ≤ m ∧ t = .int .i64 k ∧ Hid (Below W0.heap.size W0 wr) ∧ Hid (wr.ownsRow W0.heap.size 3 1 u (chF p f.items (l.take k)).length (encI.all (chF p f.items (l.take k))))) (fun _ t _ => m - (intOf t).toNat)
  case atStart => exact ⟨0, Nat.zero_le _, rfl, Lib.hid (Below.refl _ _), Lib.hid (World.ownsRow_nil _ _ _ _)⟩
  case round =>
    obtain ⟨k, hk, rfl, hb, hown⟩ := hrel
    have hB := Lib.hid (hB0.out.later hb.out)
    have hLr := (hL.out.below hB0.out.o).below hb.out
    have p0 := hB.out.c0
    have p1 := hB.out.c1
    have p2 := hB.out.c2
    have hrl : (chF p f.items (l.take k)).length ≤ k := Nat.le_trans (List.length_filter_le _ _) (List.length_take_le _ _)
    obtain ⟨L, hLl⟩ : ∃ L, L = (chF p f.items (l.take k)).length := ⟨_, rfl⟩
    rw [← hLl] at hown hrl
    replace hLl := Lib.hid hLl
    by_cases hlt : k < m
    · have hlt' : (k : Int) < (m : Int) := by omega
      have k0 : 0 ≤ (k : Int) ∧ (k : Int) < (m : Int) := ⟨by omega, hlt'⟩
      obtain ⟨lb, lo, z, rfl, hlb, hz, ⟨z0, z1⟩, j0⟩ := hLr.int hlt
      have hrs : chF p f.items (l.take (k + 1)) = if chP p f.items z = true then chF p f.items (l.take k) ++ [z] else chF p f.items (l.take k) := filter_take hz
      by_cases hzn : 0 ≤ z
      · have d1 : decide (0 ≤ z) = true := decide_eq_true hzn
        by_cases hzm : z < (v.m : Int)
        · have d2 : decide (z < (v.m : Int)) = true := decide_eq_true hzm
          have hzb : 0 ≤ z ∧ z < (v.m : Int) := ⟨hzn, hzm⟩
          obtain ⟨ib, io, it, hxB, hib, hq, -, i0, i1, i2, i3, i4⟩ := hB.out.f.is.item (show z.toNat < v.m by omega)
          rw [hxB] at p1
          rw [chP_at hzn hq] at hrs
          have cP := hp.out it wr (below_trans2 hB0.out.o hb.out)
          replace hzn := Lib.hid hzn
          replace hzm := Lib.hid hzm
          replace hxB := Lib.hid hxB
          cases hpi : p it with
          | true =>
            rw [if_pos hpi] at hrs
            rw [hpi] at cP
            replace hrs := Lib.hid hrs
            replace cP := Lib.hid cP
            clear hlt hz hlb hq hpi
            go_wp2_with fail
            refine cP.out.mono ?_; rintro e w3 ⟨rfl, b3⟩
            have hown3 := Lib.hid (own_below hown.out b3)
            have hb3 := Lib.hid (below_trans2 hb.out b3)
            clear b3 cP p0 p1 p2 i0 i1 i2 i3 i4 j0
            -- 'append(out, z)' (temps 34 36) in the world w3: hown : the row (chF p f.items (l.take k)) of length L (hL), hb : Below W0 .. w3; behind it: hown', hb7
            obtain ⟨gl, hgl⟩ : ∃ g, g = (w3).heap.size := ⟨_, rfl⟩
            obtain ⟨VL, hVL⟩ : ∃ W, W = World.alloc (w3) (.cells #[.int .i64 z] 3) := ⟨_, rfl⟩
            have bL : Below (w3).heap.size (w3) VL := by rw [hVL]; exact (Below.refl _ _).alloc (Nat.le_refl _) _
            have hlit := Lib.hid (show LAt encI VL (some ⟨gl, 0, none⟩) 1 [z] from by rw [hVL, hgl]; exact LAt.lit1 (E := encI) (w3) 3 z ⟨by omega, by omega⟩)
            have hownL := Lib.hid (own_below hown3.out bL)
            have bWL := Lib.hid (below_trans2 hb3.out bL)
            have hbase := Lib.hid bWL.out.size
            clear bL
            go_wp2_with (first
              | (rw [← hVL, ← hgl]; clear hVL hgl)
              | (at_builtin; refine wpList_append_L (E := encI) rfl (.tmp 34) (.tmp 36) _ rfl W0.heap.size 3 i0 _ 8 Tryz.underlying27 hi.out hz0.out hz1.out hz2.out rfl _ L (chF p f.items (l.take k)) (by rfl) hownL.out _ 1 1 _ rfl hlit.out (by unfold maxLen; omega) (by omega) hbase.out ?_; intro v' w7 hown' hb7 _ _))
            exact ⟨⟨k + 1, by omega, by go_num, Lib.hid (bWL.out.trans hb7), Lib.hid (by rw [hrs.out, List.length_append, ← hLl.out]; exact hown')⟩, by simp [intOf]; omega⟩
          | false =>
            rw [if_neg (by simp [hpi])] at hrs
            rw [hpi] at cP
            replace hrs := Lib.hid hrs
            replace cP := Lib.hid cP
            clear hlt hz hlb hq hpi
            go_wp2_with fail
            refine cP.out.mono ?_; rintro e w3 ⟨rfl, b3⟩
            have hown3 := Lib.hid (own_below hown.out b3)
            have hb3 := Lib.hid (below_trans2 hb.out b3)
            clear b3 cP p0 p1 p2 i0 i1 i2 i3 i4 j0
            go_wp2_with fail
            exact ⟨⟨k + 1, by omega, by go_num, hb3, Lib.hid (by rw [hrs.out, ← hLl.out]; exact hown3.out)⟩, by simp [intOf]; omega⟩
        · have d2 : decide (z < (v.m : Int)) = false := decide_eq_false hzm
          rw [if_neg (by rw [chP_out (.inr (by rw [hil.out]; omega))]; simp)] at hrs
          replace hrs := Lib.hid hrs
          replace hzn := Lib.hid hzn
          replace hzm := Lib.hid hzm
          clear hz hlb
          clear hlt
          go_wp2_with fail
          exact ⟨⟨k + 1, by omega, by go_num, hb, Lib.hid (by rw [hrs.out, ← hLl.out]; exact hown.out)⟩, by simp [intOf]; omega⟩
      · have d1 : decide (0 ≤ z) = false := decide_eq_false hzn
        rw [if_neg (by rw [chP_out (.inl (by omega))]; simp)] at hrs
        replace hrs := Lib.hid hrs
        replace hzn := Lib.hid hzn
        clear hz hlb
        clear hlt
        go_wp2_with fail
        exact ⟨⟨k + 1, by omega, by go_num, hb, Lib.hid (by rw [hrs.out, ← hLl.out]; exact hown.out)⟩, by simp [intOf]; omega⟩
    · have hlt' : ¬ (k : Int) < (m : Int) := by omega
      obtain rfl : k = m := by omega
      have hta : l.take k = l := List.take_of_length_le (by rw [hL.out.len]; omega)
      rw [hta] at hown hLl
      have hfr := Lib.hid (own_lt_block hown.out)
      obtain ⟨A2, c2, rfl, hnc, hcm, hLA⟩ := LAt.of_own hown.out (fun z hz => hL.out.okAll z (List.mem_filter.1 hz).1) hLl.out.symm
      clear hlt hta hLr
      go_wp2_with fail
      go_ret
      exact ⟨A2, L, c2, rfl, hLA, hnc, hcm, below_trans2 hB0.out.o hb.out, fun ad e => by subst e; exact Nat.le_trans hB0.out.o.size (hfr.out _ rfl)⟩
set_option maxRecDepth 100000 in
set_option maxHeartbeats 1000000 in
theorem past_isWrite (x : It) (gv : Nat) (vr : Int) (w : World) (hc : w.cell? ⟨gv, 0, none⟩ = some (.int .i64 vr)) (hl : gv < w.heap.size) :
    Calls Tryz.prog 110 #[.agg #[.int .i64 x.se, .int .i64 x.pl, .bool x.wr, .int .i64 x.va, .int .i64 x.vl], .pointer (some ⟨gv, 0, none⟩)] w (RetBool (x.wr && decide (x.va = vr)) w) := by
  -- a call with the item x: it is boxed at g, the world is W0 then
  obtain ⟨g, hg⟩ : ∃ g, g = w.heap.size := ⟨_, rfl⟩
  obtain ⟨W0, hW0⟩ : ∃ W, W = w.alloc (.cells #[.int .i64 x.se, .int .i64 x.pl, .bool x.wr, .int .i64 x.va, .int .i64 x.vl] 43) := ⟨_, rfl⟩
  have hbo := Lib.hid (show Below w.heap.size w W0 from by rw [hW0]; exact below_alloc _ _)
  have kI := Lib.hid (show Blk W0 g 43 [.int .i64 x.se, .int .i64 x.pl, .bool x.wr, .int .i64 x.va, .int .i64 x.vl] from by rw [hW0, hg]; exact Blk.new _ _ _)
  have i2 := kI.out.cell 2
  have i3 := kI.out.cell 3
  simp only [List.getElem?_cons_zero, List.getElem?_cons_succ] at i2 i3
  have hv : W0.cell? ⟨gv, 0, none⟩ = some (.int .i64 vr) := by rw [hW0, World.cell?_alloc_lt w _ _ hl]; exact hc
  obtain ⟨s, t, b, a, y⟩ := x
  simp only at i2 i3 ⊢
  have he : (a == vr) = decide (a = vr) := by rw [Bool.eq_iff_iff]; simp
  cases b with
  | true =>
    go_enter Tryz.func110, Tryz.ntmps110
    go_wp2_with (rw [← hW0, ← hg]; clear hW0 hg)
    go_ret
    exact ⟨by simp, hbo.out⟩
  | false =>
    go_enter Tryz.func110, Tryz.ntmps110
    go_wp2_with (rw [← hW0, ← hg]; clear hW0 hg)
    go_ret
    exact ⟨rfl, hbo.out⟩
set_option maxRecDepth 100000 in
set_option maxHeartbeats 1000000 in
theorem past_isRead (x : It) (w : World) :
    Calls Tryz.prog 117 #[.agg #[.int .i64 x.se, .int .i64 x.pl, .bool x.wr, .int .i64 x.va, .int .i64 x.vl]] w (RetBool (!x.wr) w) := by
  -- a call with the item x: it is boxed at g, the world is W0 then
  obtain ⟨g, hg⟩ : ∃ g, g = w.heap.size := ⟨_, rfl⟩
  obtain ⟨W0, hW0⟩ : ∃ W, W = w.alloc (.cells #[.int .i64 x.se, .int .i64 x.pl, .bool x.wr, .int .i64 x.va, .int .i64 x.vl] 43) := ⟨_, rfl⟩
  have hbo := Lib.hid (show Below w.heap.size w W0 from by rw [hW0]; exact below_alloc _ _)
  have kI := Lib.hid (show Blk W0 g 43 [.int .i64 x.se, .int .i64 x.pl, .bool x.wr, .int .i64 x.va, .int .i64 x.vl] from by rw [hW0, hg]; exact Blk.new _ _ _)
  have i2 := kI.out.cell 2
  have i3 := kI.out.cell 3
  simp only [List.getElem?_cons_zero, List.getElem?_cons_succ] at i2 i3
  obtain ⟨s, t, b, a, y⟩ := x
  simp only at i2 i3 ⊢
  go_enter Tryz.func117, Tryz.ntmps117
  go_wp2_with (rw [← hW0, ← hg]; clear hW0 hg)
  go_ret
  exact ⟨rfl, hbo.out⟩
set_option maxRecDepth 100000 in
set_option maxHeartbeats 1000000 in
theorem past_WritesF (v : FV) (f : Fac) (B : Option Addr) (m d : Nat) (l : List Int) (vr : Int) (w : World) (hF : FactsAt w v f) (hL : LAt encI w B m l) (hm : m ≤ 1048576) (hvm : v.m ≤ 1048576) :
    Calls Tryz.prog 82 #[.agg #[.slice v.A v.n v.c, .slice v.B v.m v.d, .slice v.C v.k v.e], .slice B m d, .int .i64 vr] w (RetILF (wrsF f.items vr l) w) := by
  replace hL := Lib.hid hL
  -- a call with facts v: they are boxed at g, the world is W0 then
  have hB0 := Lib.hid (FBox.new hF)
  obtain ⟨g, hg⟩ : ∃ g, g = w.heap.size := ⟨_, rfl⟩
  obtain ⟨W0, hW0⟩ : ∃ W, W = w.alloc (.cells #[.slice v.A v.n v.c, .slice v.B v.m v.d, .slice v.C v.k v.e] 29) := ⟨_, rfl⟩
  rw [← hW0, ← hg] at hB0
  clear hF
  obtain ⟨gv, hgv⟩ : ∃ g, g = W0.heap.size := ⟨_, rfl⟩
  obtain ⟨W1, hW1⟩ : ∃ W, W = W0.alloc (.cells #[.int .i64 vr] 3) := ⟨_, rfl⟩
  have b1 : Below W0.heap.size W0 W1 := by rw [hW1]; exact (Below.refl _ _).alloc (Nat.le_refl _) _
  have kV := Lib.hid (show Blk W1 gv 3 [.int .i64 vr] from by rw [hW1, hgv]; exact Blk.new _ _ _)
  have hB1 := Lib.hid (hB0.out.later b1)
  have hL1 := Lib.hid ((hL.out.below hB0.out.o).below b1)
  have cC := Lib.hid (past_chosen1 (.pointer (some ⟨gv, 0, none⟩)) (fun x => x.wr && decide (x.va = vr)) v f B m d l W1 hB1.out.f hL1.out hm hvm (fun x W hW => past_isWrite x gv vr W (by rw [hW.cell (p := ⟨gv, 0, none⟩) kV.out.lt]; exact kV.out.cell 0) (Nat.lt_of_lt_of_le kV.out.lt hW.size)))
  rw [chF_wrs] at cC
  clear b1
  have p0 := hB1.out.c0
  have p1 := hB1.out.c1
  have p2 := hB1.out.c2
  go_enter Tryz.func82, Tryz.ntmps82
  go_wp2_with (first | (rw [← hW0, ← hg]; clear hW0 hg) | (rw [← hW1, ← hgv]; clear hW1 hgv))
  refine cC.out.mono ?_; intro e w2 h2
  obtain ⟨A2, n2, c2, rfl, h4, h5, h6, h7, h8⟩ := h2.past hB1.out.o
  clear h2 p0 p1 p2
  go_wp2_with fail
  go_ret
  exact ⟨A2, n2, c2, rfl, h4, h5, h6, h7, h8⟩
theorem past_Writes (v : FV) (f : Fac) (B : Option Addr) (m d : Nat) (l : List Int) (vr : Int) (w : World) (hF : FactsAt w v f) (hL : LAt encI w B m l) (hm : m ≤ 1048576) (hvm : v.m ≤ 1048576) :
    Calls Tryz.prog 82 #[.agg #[.slice v.A v.n v.c, .slice v.B v.m v.d, .slice v.C v.k v.e], .slice B m d, .int .i64 vr] w (RetIL (wrsF f.items vr l) w) :=
  (past_WritesF v f B m d l vr w hF hL hm hvm).mono fun _ _ h => h.il
set_option maxRecDepth 100000 in
set_option maxHeartbeats 1000000 in
theorem past_KeptF (v : FV) (f : Fac) (o : Int) (w : World) (hF : FactsAt w v f) (hvm : v.m ≤ 1048576) (hN : Nbr f.items) :
    Calls Tryz.prog 91 #[.agg #[.slice v.A v.n v.c, .slice v.B v.m v.d, .slice v.C v.k v.e], .int .i64 o] w (RetILF (keptF f.items (pastF f.items o f.items.length)) w) := by
  have hil := hF.is.len
  -- a call with facts v: they are boxed at g, the world is W0 then
  have hB0 := Lib.hid (FBox.new hF)
  obtain ⟨g, hg⟩ : ∃ g, g = w.heap.size := ⟨_, rfl⟩
  obtain ⟨W0, hW0⟩ : ∃ W, W = w.alloc (.cells #[.slice v.A v.n v.c, .slice v.B v.m v.d, .slice v.C v.k v.e] 29) := ⟨_, rfl⟩
  rw [← hW0, ← hg] at hB0
  clear hF
  have hlm : (pastF f.items o f.items.length).length ≤ v.m := by rw [← hil]; exact pastF_len _ _ _
  have hl0 : Hid (∀ z ∈ pastF f.items o f.items.length, 0 ≤ z) := Lib.hid fun z hz => (pastF_ok _ _ _ z hz).1
  go_enter Tryz.func91, Tryz.ntmps91
  go_wp2_with (rw [← hW0, ← hg]; clear hW0 hg)
  refine wp_region_plan 6 [(true, 0), (true, 1), (true, 2), (false, 3), (false, 4), (true, 5)] (by kernel_rfl) (by kernel_rfl) (fun U hU => ?_)
  have hU' : Below W0.heap.size W0 U := by rw [hU.out]; exact (Below.refl _ _).drew
  have hBr := Lib.hid (hB0.out.later hU')
  clear hU hU'
  simp only [List.drop_succ_cons, List.drop_nil]
  have p0 := hBr.out.c0
  have p1 := hBr.out.c1
  have p2 := hBr.out.c2
  have cP := Lib.hid (session_Past v f o U hBr.out.f hvm hN)
  replace hil := Lib.hid hil
  iterate 3
    refine wpPlan_float (v := ?_) rfl (by rfl) (fun w' hw' => ?_) (fun K hK => ?_)
    rotate_left
    · (go_simp; try with_reducible rfl)
    go_simp
    refine hK _ ?_
    clear hK K
  clear p0 p1 p2
  refine wpPlan_only rfl (by rfl) (fun K hK => ?_)
  go_simp
  refine cP.out.mono ?_
  rintro e x1 ⟨D, m, d, rfl, hL, hmd, hdm, b⟩
  refine hK _ _ b ?_
  clear hK K cP
  have hB2 := Lib.hid (hBr.out.later b)
  have hml : m ≤ v.m := by rw [← hL.len]; exact hlm
  have cC := past_chosen0 (fun x => !x.wr) v f D m d _ x1 hB2.out.f hL (by omega) hvm (fun x W _ => past_isRead x W)
  rw [chF_kept _ _ hl0.out] at cC
  replace cC := Lib.hid cC
  clear b hL
  refine wpPlan_only rfl (by rfl) (fun K hK => ?_)
  go_simp
  refine cC.out.mono ?_
  intro e x2 h2
  obtain ⟨A2, n2, c2, rfl, h4, h5, h6, h7, h8⟩ := h2
  have hx : RetILF (keptF f.items (pastF f.items o f.items.length)) w (.returned (.slice A2 n2 c2)) x2 := (show RetILF _ x1 _ x2 from ⟨A2, n2, c2, rfl, h4, h5, h6, h7, h8⟩).past hB2.out.o
  refine hK _ _ h7 ?_
  clear hK K cC
  iterate 1
    refine wpPlan_float (v := ?_) rfl (by rfl) (fun w' hw' => ?_) (fun K hK => ?_)
    rotate_left
    · (go_simp; try with_reducible rfl)
    go_simp
    refine hK _ ?_
    clear hK K
  refine wpPlan_nil (NoPanic.normal ?_)
  go_wp2_with fail
  go_ret
  exact hx
theorem past_Kept (v : FV) (f : Fac) (o : Int) (w : World) (hF : FactsAt w v f) (hvm : v.m ≤ 1048576) (hN : Nbr f.items) :
    Calls Tryz.prog 91 #[.agg #[.slice v.A v.n v.c, .slice v.B v.m v.d, .slice v.C v.k v.e], .int .i64 o] w (RetIL (keptF f.items (pastF f.items o f.items.length)) w) :=
  (past_KeptF v f o w hF hvm hN).mono fun _ _ h => h.il
end Go.Proofs.YtjhjojklfdjmdaaGreat
