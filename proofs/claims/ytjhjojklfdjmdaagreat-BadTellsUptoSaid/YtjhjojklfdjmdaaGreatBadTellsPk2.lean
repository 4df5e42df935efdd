/- Contracts of package row: clone, Set. Contracts of package row: Or, Sub, Same, Count. Contracts of package row: List. Contracts of the document's own answers for rows (package eyewitnessref02). Contracts of the document's own answers for rows: Sub, Set, Or. Contracts of the document's own answers for rows: Set. Plain facts of rows: what the statements of layer 2 say of them. Plain mathematics of square matrices of bits. Nothing of the program is imported. Plain mathematics of layer 12: what stands ahead within a session. Nothing of the program is named. Plain mathematics of layer 12: the past of an operation of a history. Nothing of the program is named. Words for memory: slices of rows (matrices), pairs. No function of the program is named here. Contracts of package mat: below, fits, Has; and of the document's own answers: in, Has, Small. Contracts of package mat: Set (with slices.Clone of rows). Contracts of package mat: Set (refused). Contracts of package mat: New. Contracts of package mat: New (refused), put. Contracts of package mat: Of. -/
import Derived.Test.YtjhjojklfdjmdaaGreatBadTellsPk1
import Derived.Deep.RegionWith
import Derived.Deep.RegionHeld3
import Derived.BigRegion
import Derived.Deep.DrawnRows
import Derived.Laws.AppendOwnNone
import Derived.OpenShut
namespace Go.Proofs.YtjhjojklfdjmdaaGreat
set_option maxRecDepth 100000
set_option maxHeartbeats 8000000
open Go.RowKit
set_option linter.unusedVariables false

theorem replicate_zero_u64 (n : Nat) : List.replicate n (Value.int .u64 0) = (List.replicate n (0 : Nat)).map u64v := by simp [u64v]
theorem splice_all (cur cs : List Value) (h : cs.length = cur.length) : splice cur 0 cs = cs := by
 unfold splice; simp [h]
theorem own_of_heap {w : World} {base g n : Nat} {t : TypeId} {cs : List Value} (hb : base ≤ g) (hn : cs.length = n) (hm : n ≤ maxLen) (h : w.heap[g]? = some (.cells cs.toArray t (0, 0))) :
  w.ownsRow base t 1 (.slice (some ⟨g, 0, none⟩) n n) n cs :=
 ⟨by simpa using hn, .inr ⟨g, n, cs.toArray, rfl, hb, h, Nat.le_refl _, hm, by simpa using hn, by rw [List.take_of_length_le (by simp; omega)]⟩⟩

def RetOwn (n : Nat) (xs : List Nat) (w : World) (e : Ending) (w' : World) : Prop :=
 ∃ g, e = .returned (.slice (some ⟨g, 0, none⟩) n n) ∧ w'.ownsRow w.heap.size 89 1 (.slice (some ⟨g, 0, none⟩) n n) n (xs.map u64v) ∧ Below w.heap.size w w'

theorem row_clone (A : Option Addr) (n c : Nat) (xs : List Nat) (w : World) (hr : Row w A n xs) (hn : n ≤ 17592186044416) :
  Calls Tryz.prog 129 #[.slice A n c] w (RetOwn n xs w) := by
 have hl := Hd hr.len;have hmk := mk_u64 .i64 .i64 n n (Nat.le_refl _) (by omega);obtain ⟨i0, hi, hz0, hz1, hz2⟩ := info_parts info_u64;have hsz : (Tryz.prog.info? 89).map (·.size) = some 1 := by rw [hi]; simp [hz1]
 replace hsz := Hd hsz;replace hi := Hd hi;replace hz0 := Hd hz0;replace hz1 := Hd hz1;replace hz2 := Hd hz2;have hsrc : 0 < (xs.map u64v).length → some (⟨w.heap.size, 0, none⟩ : Addr) = some ⟨w.heap.size, 0, none⟩ ∧ ∃ ad, A = some ad ∧ ∀ j v, (xs.map u64v)[j]? = some v → (w.alloc (.cells (zeros n (.int .u64 0)) 89)).cell? (ad.add j) = some v := by
  intro hp;obtain ⟨b, off, e, hb, hc⟩ := hr.1.2 (by have := hr.len; simp at hp; omega);refine ⟨rfl, _, e, fun j v hv => ?_⟩;have h := hc j v hv;have he : (⟨b, off, none⟩ : Addr).add j = ⟨b, off + j, none⟩ := by unfold Addr.add; split <;> simp_all
  rw [he, World.cell?_alloc_lt w _ _ hb]; exact h
 replace hsrc := Hd hsrc;clear hr
 go_enter Tryz.func129, Tryz.ntmps129
 go_wp2_with (with_reducible refine wpList_copy_splice rfl _ _ _ _ rfl 89 Tryz.underlying88 hsz.out (some ⟨w.heap.size, 0, none⟩) A n n n c rfl rfl w.heap.size 0 (List.replicate n (.int .u64 0)) 89 (heap_alloc_new _ _) (xs.map u64v) (by simp [hl.out]) hsrc.out (by simp [hl.out]) (by simp [u64v, Value.oneCell']) w.heap.size w ((Below.refl _ _).alloc (Nat.le_refl _) _) (Nat.le_refl _) ?_; intro w1 hg1 hb1);go_ret;refine ⟨_, rfl, own_of_heap (Nat.le_refl _) (by simp [hl.out]) (by unfold maxLen; omega) ?_, hb1⟩;rw [hg1.out, splice_all _ _ (by simp [hl.out])]

theorem word_BitN (r : Nat) (hr : r < 64) (w : World) : Calls Tryz.prog 78 #[.int .i64 (r : Int)] w fun e w' => e = .returned (.int .u64 (p2 r : Nat)) ∧ w = w' := by
 have h := word_Bit (r : Int) (by omega) (by omega) w
 rwa [bitZ_p2 (r : Int) (by omega) (by omega), Int.toNat_natCast] at h
theorem setR_in {xs : List Nat} {m x : Nat} (hm : m < 64 * xs.length) (hx : xs[m / 64]? = some x) : setR xs (m : Int) = xs.set (m / 64) (x ||| p2 (m % 64)) := by
 unfold setR p2;rw [Int.toNat_natCast, if_pos (inR_in _ _ hm), Row.get hx]
theorem setR_out {xs : List Nat} {i : Int} (h : i < 0 ∨ 64 * (xs.length : Int) ≤ i) : setR xs i = xs := by
 unfold setR; rw [inR_out _ _ h]; rfl
theorem or_p2_lt {x r : Nat} (hx : x < 18446744073709551616) (hr : r < 64) : x ||| p2 r < 18446744073709551616 := by
 have := p2_lt r hr;exact Nat.or_lt_two_pow (n := 64) hx (by omega)
theorem mem_set_lt {xs : List Nat} {k y B : Nat} (h : ∀ x ∈ xs, x < B) (hy : y < B) : ∀ x ∈ xs.set k y, x < B := fun x hx => by
 rcases List.mem_or_eq_of_mem_set hx with h1 | h1
 ·exact h x h1
 ·rw [h1]; exact hy

theorem row_SetO (A : Option Addr) (n c : Nat) (xs : List Nat) (i : Int) (w : World) (hr : Row w A n xs) (hn : n ≤ 17592186044416) (h1 : -9223372036854775808 ≤ i) (h2 : i < 9223372036854775808) :
  Calls Tryz.prog 108 #[.slice A n c, .int .i64 i] w (RetRowO 89 (setR xs i) w) := by
 have hcl := Hd (row_clone A n c xs w hr hn);have hlt := Hd hr.2;have hl := hr.len;by_cases h : 0 ≤ i ∧ i < 64 * (n : Int)
 ·obtain ⟨m, rfl⟩ := Int.eq_ofNat_of_zero_le h.1
  have hm : m < 64 * n := by omega
  have hI := Hd (inR_in n m hm);obtain ⟨x, hx⟩ : ∃ x, xs[m / 64]? = some x := ⟨_, List.getElem?_eq_getElem (by omega)⟩;have hx64 : x < 18446744073709551616 := hlt.out x (List.mem_of_getElem? hx);have hS := setR_in (m := m) (by omega) hx;obtain ⟨r, hre⟩ : ∃ r, r = m % 64 := ⟨_, rfl⟩;have hr64 : r < 64 := by omega
  have hA := i64_and_63 m (by omega);rw [← hre] at hS hA;have hE := u64_or_nat x (p2 r) hx64 (by have := p2_lt r hr64; omega);have hO := or_p2_lt hx64 hr64;replace hO := Hd hO;replace hE := Hd hE;replace hS := Hd hS;replace hA := Hd hA;replace hx := Hd hx;have hl' := Hd hl;clear h hl hr hre
  go_enter Tryz.func108, Tryz.ntmps108
  go_wp2_with fail;refine hcl.out.mono ?_; rintro e w1 ⟨g, rfl, hown, hb⟩;have hc : w1.cell? ⟨g, m / 64, none⟩ = some (.int .u64 (x : Int)) := by
   rw [hown.cellAt _ (by omega), List.getElem?_map, hx.out]; rfl
  have hf := hown.frozenAt (m / 64);have hg := (hown.lt g rfl).1;go_wp2_with fail;refine (row_within _ n _ m (by omega) (by omega) (by omega) _).mono ?_; rintro e w' ⟨rfl, rfl⟩;rw [hI.out];go_wp2_with fail;have hA1 : (0 : Int) ≤ (m : Int) / 64 := by omega
  have hA2 : (m : Int) / 64 < (n : Int) := by omega
  have hA3 : ((m : Int) / 64).toNat = m / 64 := by omega
  refine still_tail 10 (by kernel_rfl) (by kernel_rfl) (fun W hW => ?_);have hc' : W.cell? ⟨g, m / 64, none⟩ = some (.int .u64 (x : Int)) := by rw [hW.out]; exact hc
  have hf' : W.frozen? ⟨g, m / 64, none⟩ = false := by rw [hW.out]; exact hf
  have hown' : W.ownsRow w.heap.size 89 1 (.slice (some ⟨g, 0, none⟩) n n) n (xs.map u64v) := by rw [hW.out]; exact hown.drew
  have hb' : Below w.heap.size w W := by rw [hW.out]; exact hb.drew
  clear hc hf hb hown;simp only [List.take_succ_cons, List.take_zero, List.drop_succ_cons, List.drop_zero]
  repeat
   refine @wpStill_step _ _ _ _ _ _ _ ?_;intro K hK;go_simp;refine hK _ ?_;clear hK K
  refine @wpStill_step _ _ _ _ _ _ _ ?_;intro K hK;go_simp;rw [hA.out];refine ⟨_, still_call (word_BitN _ hr64 _), hK _ ?_⟩;clear hK K
  repeat
   refine @wpStill_step _ _ _ _ _ _ _ ?_;intro K hK;go_simp;refine hK _ ?_;clear hK K
  refine wpStill_nil ?_
  go_wp2
  go_ret;rw [hE.out, hS.out];refine own_ret (c := n) ?_ (mem_set_lt hlt.out hO.out) (hb'.setCell hg _);rw [List.map_set];exact (hown'.stored _ _).1
 ·have hI := Hd (inR_out n i (by omega))
  have hS := Hd (setR_out (xs := xs) (i := i) (by omega));clear h hl hr
  go_enter Tryz.func108, Tryz.ntmps108
  go_wp2_with fail;refine hcl.out.mono ?_; rintro e w1 ⟨g, rfl, hown, hb⟩;go_wp2_with fail;refine (row_within _ n _ i (by omega) (by omega) (by omega) _).mono ?_; rintro e w' ⟨rfl, rfl⟩;rw [hI.out]
  go_wp2
  go_ret;rw [hS.out];exact own_ret hown hlt.out (hb)
theorem row_Set (A : Option Addr) (n c : Nat) (xs : List Nat) (i : Int) (w : World) (hr : Row w A n xs) (hn : n ≤ 17592186044416) (h1 : -9223372036854775808 ≤ i) (h2 : i < 9223372036854775808) :
  Calls Tryz.prog 108 #[.slice A n c, .int .i64 i] w (RetRow (setR xs i) w) := (row_SetO A n c xs i w hr hn h1 h2).mono fun _ _ h => h.row


theorem orv (x y : Nat) (hx : x < 18446744073709551616) (hy : y < 18446744073709551616) : bits BinOp.or IntKind.u64 (x : Int) (y : Int) = ((x ||| y : Nat) : Int) := u64_or_nat x y hx hy

theorem row_Or_ge (A B : Option Addr) (n m c d : Nat) (xs ys : List Nat) (w : World) (hr : Row w A n xs) (hs : Row w B m ys) (hn : n ≤ 17592186044416) (h : m ≤ n) :
  Calls Tryz.prog 106 #[.slice A n c, .slice B m d] w (RetRowO 89 (orR xs ys) w) := by
 have hcl := Hd (row_clone A n c xs w hr hn);have hl := Hd hr.len;have hl2 := Hd hs.len;have hlt := Hd (orK_lt xs ys m hr.2 hs.2);have hd := Hd (Row.getD_lt hr);have hall := orK_all xs ys (by rw [hl.out, hl2.out]; exact h);rw [hl2.out] at hall;replace hall := Hd hall;have h0 : ¬ n < m := by omega
 replace hs := Hd hs;clear hr
 go_enter Tryz.func106, Tryz.ntmps106
 go_wp2_with fail;refine hcl.out.mono ?_; rintro e w1 ⟨g, rfl, hown, hb⟩;have hg := (hown.lt g rfl).1;go_wp2_with fail
 go_loopw [19] (fun i wr => ∃ k : Nat, k ≤ m ∧ i = .int .i64 k ∧ wr.ownsRow w.heap.size 89 1 (.slice (some ⟨g, 0, none⟩) n n) n ((orK xs ys k).map u64v) ∧ Below w.heap.size w wr) (fun i _ => m - (intOf i).toNat)
 case atStart => exact ⟨0, Nat.zero_le _, rfl, by rw [orK_zero]; exact hown, hb⟩
 case round =>
  obtain ⟨k, hk, rfl, hownr, hbr⟩ := hrel;clear hown hb;by_cases hlt' : k < m
  ·have hs' := hs.out.below hbr
   obtain ⟨b, off, y, rfl, hbk, hy, hy64, hc⟩ := hs'.at_ hlt';have hgx := orK_get xs ys k (by rw [hl.out]; omega);have hx64 := hd.out k;obtain ⟨x, hx⟩ : ∃ x, x = xs.getD k 0 := ⟨_, rfl⟩;rw [← hx] at hgx hx64;have hcg : wr.cell? ⟨g, k, none⟩ = some (.int .u64 (x : Int)) := by
    rw [hownr.cellAt _ (by omega), List.getElem?_map, hgx]; rfl
   have hf := hownr.frozenAt k;have hE := Hd (orv x y hx64 hy64);have hst := orK_set xs ys k;rw [← hx, Row.get hy] at hst;have hst := Hd hst;clear hgx hy hs';replace hx := Hd hx
   go_wp2
   go_roundw
   case rel =>
    refine ⟨k + 1, by omega, by go_num, ?_, hbr.setCell hg _⟩;rw [hE.out, ← hst.out, List.map_set];exact (hownr.stored _ _).1
   case measure => simp [intOf]; omega
  ·obtain rfl : k = m := by omega
   clear hlt'
   go_wp2
   go_ret;rw [← hall.out];exact own_ret hownr hlt.out (hbr)
theorem row_Or_lt (A B : Option Addr) (n m c d : Nat) (xs ys : List Nat) (w : World) (hr : Row w A n xs) (hs : Row w B m ys) (hn : n ≤ 17592186044416) (h : m < n) :
  Calls Tryz.prog 106 #[.slice B m d, .slice A n c] w (RetRowO 89 (orR xs ys) w) := by
 have hcl := Hd (row_clone A n c xs w hr hn);have hl := Hd hr.len;have hl2 := Hd hs.len;have hlt := Hd (orK_lt xs ys m hr.2 hs.2);have hd := Hd (Row.getD_lt hr);have hall := orK_all xs ys (by rw [hl.out, hl2.out]; omega);rw [hl2.out] at hall;replace hall := Hd hall;replace hs := Hd hs;clear hr
 go_enter Tryz.func106, Tryz.ntmps106
 go_wp2_with fail;refine hcl.out.mono ?_; rintro e w1 ⟨g, rfl, hown, hb⟩;have hg := (hown.lt g rfl).1;go_wp2_with fail
 go_loopw [19] (fun i wr => ∃ k : Nat, k ≤ m ∧ i = .int .i64 k ∧ wr.ownsRow w.heap.size 89 1 (.slice (some ⟨g, 0, none⟩) n n) n ((orK xs ys k).map u64v) ∧ Below w.heap.size w wr) (fun i _ => m - (intOf i).toNat)
 case atStart => exact ⟨0, Nat.zero_le _, rfl, by rw [orK_zero]; exact hown, hb⟩
 case round =>
  obtain ⟨k, hk, rfl, hownr, hbr⟩ := hrel;clear hown hb;by_cases hlt' : k < m
  ·have hs' := hs.out.below hbr
   obtain ⟨b, off, y, rfl, hbk, hy, hy64, hc⟩ := hs'.at_ hlt';have hgx := orK_get xs ys k (by rw [hl.out]; omega);have hx64 := hd.out k;obtain ⟨x, hx⟩ : ∃ x, x = xs.getD k 0 := ⟨_, rfl⟩;rw [← hx] at hgx hx64;have hcg : wr.cell? ⟨g, k, none⟩ = some (.int .u64 (x : Int)) := by
    rw [hownr.cellAt _ (by omega), List.getElem?_map, hgx]; rfl
   have hf := hownr.frozenAt k;have hE := Hd (orv x y hx64 hy64);have hst := orK_set xs ys k;rw [← hx, Row.get hy] at hst;have hst := Hd hst;clear hgx hy hs';replace hx := Hd hx
   go_wp2
   go_roundw
   case rel =>
    refine ⟨k + 1, by omega, by go_num, ?_, hbr.setCell hg _⟩;rw [hE.out, ← hst.out, List.map_set];exact (hownr.stored _ _).1
   case measure => simp [intOf]; omega
  ·obtain rfl : k = m := by omega
   clear hlt'
   go_wp2
   go_ret;rw [← hall.out];exact own_ret hownr hlt.out (hbr)
theorem row_OrO (A B : Option Addr) (n m c d : Nat) (xs ys : List Nat) (w : World) (hr : Row w A n xs) (hs : Row w B m ys) (hn : n ≤ 17592186044416) (hm : m ≤ 17592186044416) :
  Calls Tryz.prog 106 #[.slice A n c, .slice B m d] w (RetRowO 89 (orR xs ys) w) := by
 rcases Nat.lt_or_ge n m with h | h
 ·rw [orR_comm]; exact row_Or_lt B A m n d c ys xs w hs hr hm h
 ·exact row_Or_ge A B n m c d xs ys w hr hs hn h

theorem andNot_eq (x y : Nat) (hx : x < 18446744073709551616) (hy : y < 18446744073709551616) : bits BinOp.andNot IntKind.u64 (x : Int) (y : Int) = ((x &&& (18446744073709551615 - y) : Nat) : Int) := u64_andNot_nat x y hx hy
theorem andNot_test (x y : Nat) (hx : x < 18446744073709551616) (hy : y < 18446744073709551616) : (bits BinOp.andNot IntKind.u64 (x : Int) (y : Int) != 0) = !(x &&& y == x) := by
 rw [andNot_eq x y hx hy, ← and_not_zero x y hx hy, bne]
 congr 1
 rw [Bool.eq_iff_iff, beq_iff_eq, beq_iff_eq]; omega
theorem row_Sub (A B : Option Addr) (n m c d : Nat) (xs ys : List Nat) (w : World) (hr : Row w A n xs) (hs : Row w B m ys) (hn : n ≤ 17592186044416) (_hm : m ≤ 17592186044416) :
  Calls Tryz.prog 105 #[.slice A n c, .slice B m d] w fun e w' => e = .returned (.bool (subR xs ys)) ∧ w = w' := by
 have hl := Hd hr.len;have hl2 := Hd hs.len;replace hr := Hd hr;replace hs := Hd hs
 go_enter Tryz.func105, Tryz.ntmps105
 go_wp2
 go_loop [9] (fun i => ∃ k : Nat, k ≤ n ∧ i = .int .i64 k ∧ Hid (∀ j, j < k → (xs.getD j 0 &&& ys.getD j 0 == xs.getD j 0) = true)) (fun i => n - (intOf i).toNat)
 case atStart => exact ⟨0, Nat.zero_le _, rfl, Hd (fun j hj => absurd hj (by omega))⟩
 case round =>
  obtain ⟨k, hk, rfl, hall⟩ := hrel;by_cases hlt : k < n
  ·obtain ⟨b, off, x, rfl, hbk, hx, hx64, hc⟩ := hr.out.at_ hlt
   have hgx := Row.get hx;clear hx;by_cases hkm : k < m
   ·obtain ⟨b2, off2, y, rfl, hbk2, hy, hy64, hc2⟩ := hs.out.at_ hkm
    have hgy := Row.get hy;clear hy;have hT := andNot_test x y hx64 hy64;rcases Bool.eq_false_or_eq_true (x &&& y == x) with ht | ht
    ·have hall' : Hid (∀ j, j < k + 1 → (xs.getD j 0 &&& ys.getD j 0 == xs.getD j 0) = true) := Hd (fun j hj => by
      rcases Nat.lt_succ_iff_lt_or_eq.1 hj with h | h
      ·exact hall.out j h
      ·rw [h, hgx, hgy]; exact ht)
     rw [ht] at hT;replace hT : (bits BinOp.andNot IntKind.u64 (x : Int) (y : Int) != 0) = false := hT;clear ht hgx hgy
     go_wp2
     go_round
     case rel => exact ⟨k + 1, by omega, by go_num, hall'⟩
     case measure => simp [intOf]; omega
    ·have hno := Hd (subR_no xs ys k (by rw [hl.out]; exact hlt) (by rw [hgx, hgy]; exact ht))
     rw [ht] at hT;replace hT : (bits BinOp.andNot IntKind.u64 (x : Int) (y : Int) != 0) = true := hT;clear ht hgx hgy
     go_wp2
     go_ret;rw [hno.out]; exact ⟨rfl, rfl⟩
   ·have hgy := getD_out ys k (by rw [hl2.out]; omega)
    by_cases hx0 : x = 0
    ·subst hx0
     have hall' : Hid (∀ j, j < k + 1 → (xs.getD j 0 &&& ys.getD j 0 == xs.getD j 0) = true) := Hd (fun j hj => by
      rcases Nat.lt_succ_iff_lt_or_eq.1 hj with h | h
      ·exact hall.out j h
      ·rw [h, hgx, hgy]; rfl)
     clear hgx hgy
     go_wp2
     go_round
     case rel => exact ⟨k + 1, by omega, by go_num, hall'⟩
     case measure => simp [intOf]; omega
    ·have hno := Hd (subR_no xs ys k (by rw [hl.out]; exact hlt) (by rw [hgx, hgy, Nat.and_zero, beq_eq_false_iff_ne]; omega))
     have hne : ((x : Int) != 0) = true := by rw [bne_iff_ne]; omega
     clear hgx hgy
     go_wp2
     go_ret;rw [hno.out]; exact ⟨rfl, rfl⟩
  ·have hyes := Hd (subR_yes xs ys (fun j hj => hall.out j (by rw [hl.out] at hj; omega)))
   go_wp2
   go_ret;rw [hyes.out]; exact ⟨rfl, rfl⟩

theorem row_Count (A : Option Addr) (n c : Nat) (xs : List Nat) (w : World) (hr : Row w A n xs) (hn : n ≤ 17592186044416) :
  Calls Tryz.prog 131 #[.slice A n c] w fun e w' => e = .returned (.int .i64 (countR xs : Nat)) ∧ w = w' := by
 have hl := Hd hr.len;replace hr := Hd hr
 go_enter Tryz.func131, Tryz.ntmps131
 go_wp2
 go_loop [3, 8] (fun s i => ∃ k : Nat, k ≤ n ∧ i = .int .i64 k ∧ s = .int .i64 (countR (xs.take k) : Nat)) (fun _ i => n - (intOf i).toNat)
 case atStart => exact ⟨0, Nat.zero_le _, rfl, rfl⟩
 case round =>
  obtain ⟨k, hk, rfl, rfl⟩ := hrel;by_cases hlt : k < n
  ·obtain ⟨b, off, x, rfl, hbk, hx, hx64, hc⟩ := hr.out.at_ hlt
   have hst := Hd (countR_take xs k x hx);have hle : countR (xs.take k) ≤ 64 * k := Nat.le_trans (countR_le _) (by rw [List.length_take]; omega);have hp := pop_le x;clear hx;go_wp2_with fail;refine (word_Count x hx64 _).mono ?_; rintro e w' ⟨rfl, rfl⟩
   go_wp2
   go_round
   case rel => exact ⟨k + 1, by omega, by go_num, by rw [hst.out]; go_num⟩
   case measure => simp [intOf]; omega
  ·have he : xs.take k = xs := List.take_of_length_le (by rw [hl.out]; omega)
   rw [he];clear he
   go_wp2
   go_ret;exact ⟨rfl, rfl⟩


def natv (i : Nat) : Value := .int .i64 (i : Int)
theorem natv_ints (l : List Nat) : l.map natv = (l.map Int.ofNat).map i64v := by
 rw [List.map_map]; rfl
theorem own_ints {w : World} {base n : Nat} {e : TypeId} {v : Value} {zs : List Nat} (h : w.ownsRow base e 1 v n (zs.map natv)) (hx : ∀ x ∈ zs, x < 9223372036854775808) : ∃ A c, v = .slice A n c ∧ Ints w A n (zs.map Int.ofNat) := by
 obtain ⟨A, c, hv, hr⟩ := Rd.of_own h;refine ⟨A, c, hv, by rw [← natv_ints]; exact hr, fun x hx' => ?_⟩;obtain ⟨i, hi, rfl⟩ := List.mem_map.1 hx';have := hx i hi
 show -9223372036854775808 ≤ (i : Int) ∧ (i : Int) < 9223372036854775808
 omega
theorem off_eq (x i : Nat) (hx : x < 18446744073709551616) (hi : i < 64) : bits BinOp.andNot IntKind.u64 (x : Int) (p2 i : Nat) = (offN x i : Nat) := by
 have := p2_lt i hi;exact u64_andNot_nat x (p2 i) hx (by omega)

theorem row_ListO (A : Option Addr) (n c : Nat) (xs : List Nat) (w : World) (hr : Row w A n xs) (hn : n ≤ 1073741824) :
  Calls Tryz.prog 111 #[.slice A n c] w (RetIntsO 3 (listR xs) w) := by
 have hcn := Hd (row_Count A n c xs w hr (by omega));have hl := Hd hr.len;have hcle : countR xs ≤ 64 * n := by have := countR_le xs; rw [hr.len] at this; exact this
 have hmk := mk_int .i64 .i64 0 (countR xs) (by omega) (by omega);rw [show ((0 : Nat) : Int) = 0 from rfl] at hmk;obtain ⟨i0, hi, hz0, hz1, hz2⟩ := info_parts info_int;replace hi := Hd hi;replace hz0 := Hd hz0;replace hz1 := Hd hz1;replace hz2 := Hd hz2;replace hr := Hd hr
 go_enter Tryz.func111, Tryz.ntmps111
 go_wp2_with fail;refine hcn.out.mono ?_; rintro e w' ⟨rfl, rfl⟩;have hown0 := World.ownsRow_made (base := w.heap.size) (e := 3) (size := 1) w (zeros (countR xs) (.int .i64 0)) (countR xs) (Nat.le_refl _) (by unfold maxLen; omega) (by simp [zeros]);have hb0 : Below w.heap.size w (w.alloc (.cells (zeros (countR xs) (.int .i64 0)) 3)) := (Below.refl _ _).alloc (Nat.le_refl _) _
 go_wp2
 go_loopw [3, 12] (fun l i wr => ∃ k : Nat, k ≤ n ∧ i = .int .i64 k ∧ wr.ownsRow w.heap.size 3 1 l (listK xs k).length ((listK xs k).map natv) ∧ Below w.heap.size w wr) (fun _ i _ => n - (intOf i).toNat)
 case atStart => exact ⟨0, Nat.zero_le _, rfl, hown0, hb0⟩
 case round =>
  obtain ⟨k, hk, rfl, hown, hb⟩ := hrel;clear hown0 hb0 hmk;by_cases hlt : k < n
  ·obtain ⟨b, off, x, rfl, hbk, hx, hx64, hc⟩ := (hr.out.below hb).at_ hlt
   have hst := Hd (listK_succ xs k x hx);clear hx
   go_wp2
   go_loopw [3, 5] (fun l v wi => ∃ (D : List Nat) (r : Nat), r < 18446744073709551616 ∧ v = .int .u64 r ∧ Hid (D ++ (bitsOf r).map (64 * k + ·) = listK xs (k + 1)) ∧ wi.ownsRow w.heap.size 3 1 l D.length (D.map natv) ∧ Below w.heap.size w wi) (fun _ v _ => (bitsOf (intOf v).toNat).length)
   case atStart => exact ⟨_, x, hx64, rfl, Hd hst.out.symm, hown, hb⟩
   case round =>
    obtain ⟨D, r, hr64, rfl, hD, hownD, hbD⟩ := hrel;clear hown hb hc;by_cases h0 : r = 0
    ·subst h0
     have hD' := hD.out;rw [bitsOf_zero, List.map_nil, List.append_nil] at hD';rw [hD'] at hownD;clear hD hD' hst
     go_wp2
     go_roundw
     case rel => exact ⟨k + 1, by omega, by go_num, hownD, hbD⟩
     case measure => simp [intOf]; omega
    ·have hbs := bitsOf_step r hr64 h0
     have hl64 := low0_lt r hr64 h0;obtain ⟨i, hie⟩ : ∃ i, i = low0 r := ⟨_, rfl⟩;have hne : ((r : Int) != 0) = true := by rw [bne_iff_ne]; omega
     have hoff := off_eq r i hr64 (by omega);have hof64 := offN_lt r i hr64;have hfirst := word_First r hr64;rw [← hie] at hbs hl64 hfirst;have hDl : D.length ≤ 64 * (k + 1) := by
      have := listK_len xs (k + 1);rw [← hD.out, List.length_append] at this; omega
     have hD2 : Hid ((D ++ [64 * k + i]) ++ (bitsOf (offN r i)).map (64 * k + ·) = listK xs (k + 1)) := Hd (by
      rw [← hD.out, hbs]; simp)
     have hlen : (bitsOf r).length = (bitsOf (offN r i)).length + 1 := by rw [hbs]; rfl
     replace hlen := Hd hlen;replace hoff := Hd hoff;replace hfirst := Hd hfirst;clear hbs hie hD hst h0;go_wp2_with fail;refine (hfirst.out _).mono ?_; rintro e w' ⟨rfl, rfl⟩;go_wp2_with (first
      | (at_builtin; refine wpList_append_lies _ rfl (.tmp 21) (.tmp 26) _ rfl w.heap.size 3 i0 _ 1 8 Tryz.underlying27 hi.out hz0.out hz1.out hz2.out rfl (by omega) _ _ _ (by rfl) (hownD.alloc _) ⟨wr.heap.size, 0, none⟩ 1 1 [.int .i64 ((k : Int) * 64 + i)] rfl rfl (cell_one_new _ _ _) (by simp [Value.oneCell']) (by omega) (by unfold maxLen; omega) (by omega) (by have := hbD.size; simp; omega) _ rfl ?_; intro g cap w1 hown1 hgrow hat hlt1; have hb1 := (hbD.alloc hbD.size _).grown hgrow (by have := hbD.size; simp; omega) (oLb hownD); clear hgrow hat hlt1)
      | (go_at_call 78; refine (word_BitN i hl64 _).mono ?_; rintro e w' ⟨rfl, rfl⟩))
     go_roundw
     case rel =>
      refine ⟨D ++ [64 * k + i], offN r i, hof64, by rw [hoff.out], hD2, ?_, hb1⟩;rw [List.length_append, List.map_append];have e : natv (64 * k + i) = .int .i64 ((k : Int) * 64 + i) := by unfold natv; rw [show ((64 * k + i : Nat) : Int) = (k : Int) * 64 + i from by omega]
      rw [List.map_cons, List.map_nil, e];exact hown1
     case measure =>
      rw [hoff.out]; simp only [intOf, Int.toNat_natCast]; rw [hlen.out]; omega
  ·obtain rfl : k = n := by omega
   have he : listK xs k = listN xs := by rw [← hl.out]; exact listK_all xs
   rw [he] at hown;have hb64 : ∀ i ∈ listN xs, i < 9223372036854775808 := fun i hi' => by
    have := listK_lt xs xs.length i hi';rw [hl.out] at this; omega
   obtain ⟨A', c', rfl, hI⟩ := own_ints hown hb64;have hO := hown;rw [natv_ints] at hO;clear he hb64 hown
   go_wp2
   go_ret;exact ⟨_, _, _, rfl, hO, hI.2, hb⟩

set_option maxRecDepth 100000

theorem ref2_Words (n : Int) (h1 : -9223372036854775808 ≤ n) (h2 : n ≤ 1099511627776) (w : World) :
  Calls Tryz.prog 126 #[.int .i64 n] w fun e w' => e = .returned (.int .i64 (wordsZ n)) ∧ w = w' := by
 by_cases h : n < 0
 ·have H := Hd (show wordsZ n = 0 from if_pos h)
  go_enter Tryz.func126, Tryz.ntmps126
  go_wp2
  go_ret;rw [H.out]; exact ⟨rfl, rfl⟩
 ·have H := Hd (wordsZ_nat n (by omega))
  go_enter Tryz.func126, Tryz.ntmps126
  go_wp2
  go_ret;rw [H.out]; exact ⟨rfl, rfl⟩

theorem ref2_NewO (n : Int) (h1 : -9223372036854775808 ≤ n) (h2 : n ≤ 1099511627776) (w : World) :
  Calls Tryz.prog 100 #[.int .i64 n] w (RetRowO 89 (List.replicate (wordsN n) 0) w) := by
 have hw := Hd (wordsZ_N n);have hle := wordsN_le n h2;have hmk := mk_u64 .i64 .i64 (wordsN n) (wordsN n) (Nat.le_refl _) (by omega)
 go_enter Tryz.func100, Tryz.ntmps100
 go_wp2_with fail;refine (ref2_Words _ (by omega) (by omega) _).mono ?_; rintro e w' ⟨rfl, rfl⟩;rw [hw.out]
 go_wp2
 go_ret;refine own_ret (by simpa [u64v] using own_zeros w (wordsN n) (.int .u64 0) 89 (by unfold maxLen; omega)) (by simp) ((Below.refl _ _).alloc (Nat.le_refl _) _)

theorem ref2_Has (A : Option Addr) (n c : Nat) (xs : List Nat) (i : Int) (w : World) (hr : Row w A n xs) (hn : n ≤ 1073741824) (h1 : -9223372036854775808 ≤ i) (h2 : i < 9223372036854775808) :
  Calls Tryz.prog 98 #[.slice A n c, .int .i64 i] w fun e w' => e = .returned (.bool (hasR xs i)) ∧ w = w' := by
 have hl := hr.len;by_cases h0 : 0 ≤ i
 ·by_cases h3 : i < 64 * (n : Int)
  ·obtain ⟨m, rfl⟩ := Int.eq_ofNat_of_zero_le h0
   have hm : m < 64 * n := by omega
   obtain ⟨b, off, x, rfl, hb, hx, hx64, hc⟩ := hr.at_ (k := m / 64) (by omega);have H := hasR_in xs m x hx;rw [show ((m % 64 : Nat) : Int) = (m : Int) % 64 from by omega] at H;replace H := Hd H;clear hx hr hl
   go_enter Tryz.func98, Tryz.ntmps98
   go_wp2_with fail;refine (ref_Has x hx64 _ (by omega) (by omega) _).mono ?_; rintro e w' ⟨rfl, rfl⟩
   go_wp2
   go_ret;rw [H.out]; exact ⟨rfl, rfl⟩
  ·have H := Hd (hasR_out xs i (by omega))
   clear hl hr
   go_enter Tryz.func98, Tryz.ntmps98
   go_wp2
   go_ret;rw [H.out]; exact ⟨rfl, rfl⟩
 ·have H := Hd (hasR_out xs i (by omega))
  clear hl hr
  go_enter Tryz.func98, Tryz.ntmps98
  go_wp2
  go_ret;rw [H.out]; exact ⟨rfl, rfl⟩

theorem ref2_ListO (A : Option Addr) (n c : Nat) (xs : List Nat) (w : World) (hr : Row w A n xs) (hn : n ≤ 1073741824) :
  Calls Tryz.prog 144 #[.slice A n c] w (RetIntsO 3 (listR xs) w) := by
 have hl := Hd hr.len;obtain ⟨i0, hi, hz0, hz1, hz2⟩ := info_parts info_int;replace hi := Hd hi;replace hz0 := Hd hz0;replace hz1 := Hd hz1;replace hz2 := Hd hz2;replace hr := Hd hr
 go_enter Tryz.func144, Tryz.ntmps144
 go_wp2
 go_loopw [3, 4] (fun l i wr => ∃ p : Nat, p ≤ 64 * n ∧ i = .int .i64 p ∧ wr.ownsRow w.heap.size 3 1 l (listP xs p).length ((listP xs p).map natv) ∧ Below w.heap.size w wr) (fun _ i _ => 64 * n - (intOf i).toNat)
 case atStart => exact ⟨0, Nat.zero_le _, rfl, World.ownsRow_nil _ _ _ _, Below.refl _ _⟩
 case round =>
  obtain ⟨p, hp, rfl, hown, hb⟩ := hrel;by_cases hlt : p < 64 * n
  ·have hH := Hd (ref2_Has A n c xs p wr (hr.out.below hb) hn (by omega) (by omega))
   have hlen := listP_len xs p;rcases Bool.eq_false_or_eq_true (hasR xs (p : Int)) with ht | ht
   ·have hy := Hd (listP_yes xs p ht)
    rw [ht] at hH;clear ht;go_wp2_with fail;refine hH.out.mono ?_; rintro e w' ⟨rfl, rfl⟩;go_wp2_with (at_builtin; refine wpList_append_lies _ rfl (.tmp 15) (.tmp 17) _ rfl w.heap.size 3 i0 _ 1 8 Tryz.underlying27 hi.out hz0.out hz1.out hz2.out rfl (by omega) _ _ _ (by rfl) (hown.alloc _) ⟨wr.heap.size, 0, none⟩ 1 1 [.int .i64 (p : Int)] rfl rfl (cell_one_new _ _ _) (by simp [Value.oneCell']) (by omega) (by unfold maxLen; omega) (by omega) (by have := hb.size; simp; omega) _ rfl ?_; intro g cap w1 hown1 hgrow hat hlt1; have hb1 := (hb.alloc hb.size _).grown hgrow (by have := hb.size; simp; omega) (oLb hown); clear hgrow hat hlt1)
    go_roundw
    case rel =>
     refine ⟨p + 1, by omega, by go_num, ?_, hb1⟩;rw [hy.out, List.length_append, List.map_append];exact hown1
    case measure => simp [intOf]; omega
   ·have hy := Hd (listP_no xs p ht)
    rw [ht] at hH;clear ht;go_wp2_with fail;refine hH.out.mono ?_; rintro e w' ⟨rfl, rfl⟩
    go_wp2
    go_roundw
    case rel => exact ⟨p + 1, by omega, by go_num, by rw [hy.out]; exact hown, hb⟩
    case measure => simp [intOf]; omega
  ·obtain rfl : p = 64 * n := by omega
   have he : listP xs (64 * n) = listN xs := by rw [← hl.out]; rfl
   rw [he] at hown;have hb64 : ∀ i ∈ listN xs, i < 9223372036854775808 := fun i hi' => by
    have := ((listN_mem xs i).1 hi').1;rw [hl.out] at this; omega
   obtain ⟨A', c', rfl, hI⟩ := own_ints hown hb64;have hO := hown;rw [natv_ints] at hO;clear he hb64 hown
   go_wp2
   go_ret;exact ⟨_, _, _, rfl, hO, hI.2, hb⟩


theorem orP_lt (N k : Nat) (a b : List Nat) (ha : ∀ x ∈ a, x < 18446744073709551616) (hb : ∀ x ∈ b, x < 18446744073709551616) : ∀ x ∈ orP N k a b, x < 18446744073709551616 := by
 have hd : ∀ (l : List Nat), (∀ x ∈ l, x < 18446744073709551616) → ∀ j, l.getD j 0 < 18446744073709551616 := fun l hl j => by
  rw [List.getD_eq_getElem?_getD]
  cases hx : l[j]? with
  | none => simp
  | some x => simpa using hl x (List.mem_of_getElem? hx)
 intro x hx;unfold orP at hx;obtain ⟨j, _, rfl⟩ := List.mem_map.1 hx
 split
 ·exact Nat.or_lt_two_pow (n := 64) (hd a ha j) (hd b hb j)
 ·decide
theorem orP_len (N k : Nat) (a b : List Nat) : (orP N k a b).length = N := by simp [orP]
theorem ref2_Or_lt (A B : Option Addr) (n m c d : Nat) (xs ys : List Nat) (w : World) (hr : Row w A n xs) (hs : Row w B m ys) (hn : n ≤ 1073741824) (hm : m ≤ 1073741824) (h : n < m) :
  Calls Tryz.prog 123 #[.slice A n c, .slice B m d] w (RetRowO 89 (orR xs ys) w) := by
 have hl := Hd hr.len;have hl2 := Hd hs.len;have hmk := mk_u64 .i64 .i64 m m (Nat.le_refl _) (by omega);have hall := Hd (orP_all m xs ys (by rw [hl.out, hl2.out]; omega));have hlt := Hd (orP_lt m m xs ys hr.2 hs.2);have hown0 := own_zeros w m (.int .u64 0) 89 (by unfold maxLen; omega);have hz0 : List.replicate m (Value.int .u64 0) = (orP m 0 xs ys).map u64v := by rw [orP_zero, replicate_zero_u64]
 rw [hz0] at hown0;replace hown0 := Hd hown0;clear hz0;replace hr := Hd hr;replace hs := Hd hs
 go_enter Tryz.func123, Tryz.ntmps123
 go_wp2
 go_loopw [6] (fun i wr => ∃ k : Nat, k ≤ m ∧ i = .int .i64 k ∧ wr.ownsRow w.heap.size 89 1 (.slice (some ⟨w.heap.size, 0, none⟩) m m) m ((orP m k xs ys).map u64v) ∧ Below w.heap.size w wr) (fun i _ => m - (intOf i).toNat)
 case atStart => exact ⟨0, Nat.zero_le _, rfl, hown0.out, (Below.refl _ _).alloc (Nat.le_refl _) _⟩
 case round =>
  obtain ⟨k, hk, rfl, hown, hb⟩ := hrel;clear hown0 hmk;by_cases hlt' : k < m
  ·obtain ⟨z, hcg⟩ : ∃ z : Int, wr.cell? ⟨w.heap.size, k, none⟩ = some (.int .u64 z) := by
    have h0 := hown.cellAt k (by omega);rw [List.getElem?_map, List.getElem?_eq_getElem (by rw [orP_len]; exact hlt')] at h0;exact ⟨_, h0⟩
   have hf := hown.frozenAt k;have hst := orP_set m k xs ys;by_cases h1 : k < n
   ·obtain ⟨b, off, x, rfl, hbk, hx, hx64, hc⟩ := (hr.out.below hb).at_ h1
    rw [Row.get hx] at hst;clear hx;have hown1 := (hown.stored k (u64v x)).1;have hb1 := hb.setCell (p := ⟨w.heap.size, k, none⟩) (Nat.le_refl _) (u64v x);by_cases h2 : k < m
    ·obtain ⟨b2, off2, y, rfl, hbk2, hy, hy64, hc2⟩ := (hs.out.below hb1).at_ h2
     rw [Row.get hy] at hst;clear hy;have hE := Hd (orv x y hx64 hy64);have hst' := Hd hst;have hcg1 := hown1.cellAt k (by omega);rw [List.getElem?_set_self (by rw [List.length_map, orP_len]; exact hlt')] at hcg1;have hf1 := hown1.frozenAt k;clear hst
     go_wp2
     refine still_tail 12 (by kernel_rfl) (by kernel_rfl) (fun W hW => ?_);have hcW : W.cell? ⟨w.heap.size, k, none⟩ = some (.int .u64 (x : Int)) := by rw [hW.out]; exact hcg1
     have hfW : W.frozen? ⟨w.heap.size, k, none⟩ = false := by rw [hW.out]; exact hf1
     have hcW2 : W.cell? ⟨b2, off2 + k, none⟩ = some (.int .u64 (y : Int)) := by rw [hW.out]; exact hc2
     have hownW := hown1.drew;have hbW := hb1.drew;rw [show ((wr.setCell ⟨w.heap.size, k, none⟩ (u64v x)).drew) = W from hW.out.symm] at hownW hbW;clear hcg hf hcg1 hf1 hc hc2 hown1 hb1 hown hb;simp only [List.take_succ_cons, List.take_zero, List.drop_succ_cons, List.drop_zero];have hk0 : (0 : Int) ≤ (k : Int) := by omega
     have hkN : (k : Int) < (m : Int) := by omega
     have hkm : (k : Int) < (m : Int) := by omega
     repeat
      refine @wpStill_step _ _ _ _ _ _ _ ?_;intro K hK;go_simp;refine hK _ ?_;clear hK K
     refine wpStill_nil ?_
     go_wp2
     go_roundw
     case rel =>
      refine ⟨k + 1, by omega, by go_num, ?_, hbW.setCell (Nat.le_refl _) _⟩;rw [hE.out, ← hst'.out, List.map_set];have := (hownW.stored k (u64v (x ||| y))).1
      rwa [List.set_set] at this
     case measure => simp [intOf]; omega
    ·omega
   ·have h2 : k < m := by omega
    obtain ⟨b2, off2, y, rfl, hbk2, hy, hy64, hc2⟩ := (hs.out.below hb).at_ h2;have hz : z = 0 := by
     have hz := hown.cellAt k (by omega);rw [hcg, List.getElem?_map] at hz;unfold orP at hz;rw [List.getElem?_map, List.getElem?_range hlt'] at hz
     simpa [u64v] using hz
    subst hz;rw [Row.get hy, getD_out xs k (by rw [hl.out]; omega)] at hst;clear hy;have hE := Hd (orv 0 y (by omega) hy64);have hst' := Hd hst;clear hst
    go_wp2
    refine still_tail 12 (by kernel_rfl) (by kernel_rfl) (fun W hW => ?_);have hcW : W.cell? ⟨w.heap.size, k, none⟩ = some (.int .u64 0) := by rw [hW.out]; exact hcg
    have hfW : W.frozen? ⟨w.heap.size, k, none⟩ = false := by rw [hW.out]; exact hf
    have hcW2 : W.cell? ⟨b2, off2 + k, none⟩ = some (.int .u64 (y : Int)) := by rw [hW.out]; exact hc2
    have hownW := hown.drew;have hbW := hb.drew;rw [← hW.out] at hownW hbW;clear hcg hf hc2 hown hb;simp only [List.take_succ_cons, List.take_zero, List.drop_succ_cons, List.drop_zero];have hk0 : (0 : Int) ≤ (k : Int) := by omega
    have hkN : (k : Int) < (m : Int) := by omega
    have hkm : (k : Int) < (m : Int) := by omega
    repeat
     refine @wpStill_step _ _ _ _ _ _ _ ?_;intro K hK;go_simp;refine hK _ ?_;clear hK K
    refine wpStill_nil ?_
    go_wp2
    go_roundw
    case rel =>
     refine ⟨k + 1, by omega, by go_num, ?_, hbW.setCell (Nat.le_refl _) _⟩;rw [show (0 : Int) = ((0 : Nat) : Int) from rfl, hE.out, ← hst'.out, List.map_set];exact (hownW.stored k (u64v (0 ||| y))).1
    case measure => simp [intOf]; omega
  ·obtain rfl : k = m := by omega
   go_wp2
   go_ret;rw [← hall.out];exact own_ret hown hlt.out (hb)
theorem ref2_Or_ge (A B : Option Addr) (n m c d : Nat) (xs ys : List Nat) (w : World) (hr : Row w A n xs) (hs : Row w B m ys) (hn : n ≤ 1073741824) (hm : m ≤ 1073741824) (h : ¬ n < m) :
  Calls Tryz.prog 123 #[.slice A n c, .slice B m d] w (RetRowO 89 (orR xs ys) w) := by
 have hl := Hd hr.len;have hl2 := Hd hs.len;have hmk := mk_u64 .i64 .i64 n n (Nat.le_refl _) (by omega);have hall := Hd (orP_all n xs ys (by rw [hl.out, hl2.out]; omega));have hlt := Hd (orP_lt n n xs ys hr.2 hs.2);have hown0 := own_zeros w n (.int .u64 0) 89 (by unfold maxLen; omega);have hz0 : List.replicate n (Value.int .u64 0) = (orP n 0 xs ys).map u64v := by rw [orP_zero, replicate_zero_u64]
 rw [hz0] at hown0;replace hown0 := Hd hown0;clear hz0;replace hr := Hd hr;replace hs := Hd hs
 go_enter Tryz.func123, Tryz.ntmps123
 go_wp2
 go_loopw [6] (fun i wr => ∃ k : Nat, k ≤ n ∧ i = .int .i64 k ∧ wr.ownsRow w.heap.size 89 1 (.slice (some ⟨w.heap.size, 0, none⟩) n n) n ((orP n k xs ys).map u64v) ∧ Below w.heap.size w wr) (fun i _ => n - (intOf i).toNat)
 case atStart => exact ⟨0, Nat.zero_le _, rfl, hown0.out, (Below.refl _ _).alloc (Nat.le_refl _) _⟩
 case round =>
  obtain ⟨k, hk, rfl, hown, hb⟩ := hrel;clear hown0 hmk;by_cases hlt' : k < n
  ·obtain ⟨z, hcg⟩ : ∃ z : Int, wr.cell? ⟨w.heap.size, k, none⟩ = some (.int .u64 z) := by
    have h0 := hown.cellAt k (by omega);rw [List.getElem?_map, List.getElem?_eq_getElem (by rw [orP_len]; exact hlt')] at h0;exact ⟨_, h0⟩
   have hf := hown.frozenAt k;have hst := orP_set n k xs ys;by_cases h1 : k < n
   ·obtain ⟨b, off, x, rfl, hbk, hx, hx64, hc⟩ := (hr.out.below hb).at_ h1
    rw [Row.get hx] at hst;clear hx;have hown1 := (hown.stored k (u64v x)).1;have hb1 := hb.setCell (p := ⟨w.heap.size, k, none⟩) (Nat.le_refl _) (u64v x);by_cases h2 : k < m
    ·obtain ⟨b2, off2, y, rfl, hbk2, hy, hy64, hc2⟩ := (hs.out.below hb1).at_ h2
     rw [Row.get hy] at hst;clear hy;have hE := Hd (orv x y hx64 hy64);have hst' := Hd hst;have hcg1 := hown1.cellAt k (by omega);rw [List.getElem?_set_self (by rw [List.length_map, orP_len]; exact hlt')] at hcg1;have hf1 := hown1.frozenAt k;clear hst
     go_wp2
     refine still_tail 12 (by kernel_rfl) (by kernel_rfl) (fun W hW => ?_);have hcW : W.cell? ⟨w.heap.size, k, none⟩ = some (.int .u64 (x : Int)) := by rw [hW.out]; exact hcg1
     have hfW : W.frozen? ⟨w.heap.size, k, none⟩ = false := by rw [hW.out]; exact hf1
     have hcW2 : W.cell? ⟨b2, off2 + k, none⟩ = some (.int .u64 (y : Int)) := by rw [hW.out]; exact hc2
     have hownW := hown1.drew;have hbW := hb1.drew;rw [show ((wr.setCell ⟨w.heap.size, k, none⟩ (u64v x)).drew) = W from hW.out.symm] at hownW hbW;clear hcg hf hcg1 hf1 hc hc2 hown1 hb1 hown hb;simp only [List.take_succ_cons, List.take_zero, List.drop_succ_cons, List.drop_zero];have hk0 : (0 : Int) ≤ (k : Int) := by omega
     have hkN : (k : Int) < (n : Int) := by omega
     have hkm : (k : Int) < (m : Int) := by omega
     repeat
      refine @wpStill_step _ _ _ _ _ _ _ ?_;intro K hK;go_simp;refine hK _ ?_;clear hK K
     refine wpStill_nil ?_
     go_wp2
     go_roundw
     case rel =>
      refine ⟨k + 1, by omega, by go_num, ?_, hbW.setCell (Nat.le_refl _) _⟩;rw [hE.out, ← hst'.out, List.map_set];have := (hownW.stored k (u64v (x ||| y))).1
      rwa [List.set_set] at this
     case measure => simp [intOf]; omega
    ·rw [getD_out ys k (by rw [hl2.out]; omega), Nat.or_zero] at hst
     replace hst := Hd hst;clear hown hb
     go_wp2
     go_roundw
     case rel =>
      refine ⟨k + 1, by omega, by go_num, ?_, hb1⟩;rw [← hst.out, List.map_set]; exact hown1
     case measure => simp [intOf]; omega
   ·omega
  ·obtain rfl : k = n := by omega
   go_wp2
   go_ret;rw [← hall.out];exact own_ret hown hlt.out (hb)
theorem ref2_OrO (A B : Option Addr) (n m c d : Nat) (xs ys : List Nat) (w : World) (hr : Row w A n xs) (hs : Row w B m ys) (hn : n ≤ 1073741824) (hm : m ≤ 1073741824) :
  Calls Tryz.prog 123 #[.slice A n c, .slice B m d] w (RetRowO 89 (orR xs ys) w) := by
 by_cases h : n < m
 ·exact ref2_Or_lt A B n m c d xs ys w hr hs hn hm h
 ·exact ref2_Or_ge A B n m c d xs ys w hr hs hn hm h


theorem ref_BitN (r : Nat) (hr : r < 64) (w : World) : Calls Tryz.prog 99 #[.int .i64 (r : Int)] w fun e w' => e = .returned (.int .u64 (p2 r : Nat)) ∧ w = w' := by
 have h := ref_Bit (r : Int) (by omega) (by omega) w
 rwa [bitZ_p2 (r : Int) (by omega) (by omega), Int.toNat_natCast] at h
theorem ref2_SetO (A : Option Addr) (n c : Nat) (xs : List Nat) (i : Int) (w : World) (hr : Row w A n xs) (hn : n ≤ 1073741824) (h1 : -9223372036854775808 ≤ i) (h2 : i < 9223372036854775808) :
  Calls Tryz.prog 72 #[.slice A n c, .int .i64 i] w (RetRowO 89 (setR xs i) w) := by
 obtain ⟨i0, hi, hz0, hz1, hz2⟩ := info_parts info_u64;replace hi := Hd hi;replace hz0 := Hd hz0;replace hz1 := Hd hz1;replace hz2 := Hd hz2;have hl := hr.len;have hlt := Hd hr.2;have hlit : (w.alloc (.cells #[] 89)).ownsRow w.heap.size 89 1 (.slice (some ⟨w.heap.size, 0, none⟩) 0 0) 0 [] := by
  have h := World.ownsRow_lit (size := 1) (base := w.heap.size) (e := 89) w #[] 0 (Nat.le_refl _) (by omega) (by simp)
  simpa using h
 have hb0 : Below w.heap.size w (w.alloc (.cells #[] 89)) := (Below.refl _ _).alloc (Nat.le_refl _) _;have hrd : Rd (w.alloc (.cells #[] 89)) A n (xs.map u64v) := hr.1.below hb0;have hH := ref2_Has A n c xs i;have hr0 := Hd hr;by_cases hin : 0 ≤ i ∧ i < 64 * (n : Int)
 ·obtain ⟨m, rfl⟩ := Int.eq_ofNat_of_zero_le hin.1
  obtain ⟨hi1, hi2⟩ := hin;have hm : m < 64 * n := by omega
  obtain ⟨x, hx⟩ : ∃ x, xs[m / 64]? = some x := ⟨_, List.getElem?_eq_getElem (by omega)⟩;have hx64 : x < 18446744073709551616 := hlt.out x (List.mem_of_getElem? hx);have hS := setR_in (m := m) (by omega) hx;have hHin := hasR_in xs m x hx;rw [hasB_nat] at hHin;obtain ⟨r, hre⟩ : ∃ r, r = m % 64 := ⟨_, rfl⟩;have hr64 : r < 64 := by omega
  rw [← hre] at hS hHin;rcases Bool.eq_false_or_eq_true (x.testBit r) with ht | ht
  ·rw [or_same x r ht] at hS
   have hset : xs.set (m / 64) x = xs := by
    apply List.ext_getElem?; intro j
    rw [List.getElem?_set];by_cases hj : m / 64 = j
    ·subst hj; rw [if_pos rfl, if_pos (by omega), hx]
    ·rw [if_neg hj]
   rw [hset] at hS;rw [ht] at hHin;replace hS := Hd hS;replace hHin := Hd hHin;have hl' := Hd hl;replace hH := Hd hH;clear hl hre ht hset hx hr
   go_enter Tryz.func72, Tryz.ntmps72
   go_wp2_with (first
    | (at_builtin; refine wpList_append_rd rfl (.tmp 6) (.tmp 7) _ rfl w.heap.size 89 i0 _ 8 Tryz.underlying88 hi.out hz0.out hz1.out hz2.out rfl _ 0 _ (by rfl) hlit A n c _ rfl hrd (by simp [u64v, Value.oneCell']) (by unfold maxLen; omega) (by omega) hb0.size ?_; intro v1 w1 hown1 hbb hform; simp only [Nat.zero_add, List.nil_append] at hown1 hform; obtain ⟨g, cap, rfl⟩ := hform (by omega); have hb1 := hb0.trans hbb; have hrr := Hd (hr0.out.below hb1); clear hbb hlit hb0 hrd)
    | (go_at_call 98; refine (hH.out _ hrr.out hn h1 h2).mono ?_; rintro e w' ⟨rfl, rfl⟩; rw [hHin.out]))
   go_ret;rw [hS.out];exact own_ret hown1 hlt.out (hb1)
  ·rw [← add_or x r ht] at hS
   rw [ht] at hHin;have hE := add_or x r ht;have hO := or_p2_lt hx64 hr64;rw [← hE] at hO;replace hO := Hd hO;replace hS := Hd hS;replace hHin := Hd hHin;replace hx := Hd hx;have hl' := Hd hl;replace hH := Hd hH;have hrem : (m : Int) % 64 = (r : Int) := by omega
   have hp2 := p2_lt r hr64;have hp20 := p2_pos r;clear hl hre ht hE hr
   go_enter Tryz.func72, Tryz.ntmps72
   go_wp2_with (first
    | (at_builtin; refine wpList_append_rd rfl (.tmp 6) (.tmp 7) _ rfl w.heap.size 89 i0 _ 8 Tryz.underlying88 hi.out hz0.out hz1.out hz2.out rfl _ 0 _ (by rfl) hlit A n c _ rfl hrd (by simp [u64v, Value.oneCell']) (by unfold maxLen; omega) (by omega) hb0.size ?_; intro v1 w1 hown1 hbb hform; simp only [Nat.zero_add, List.nil_append] at hown1 hform; obtain ⟨g, cap, rfl⟩ := hform (by omega); have hb1 := hb0.trans hbb; have hrr := Hd (hr0.out.below hb1); clear hbb hlit hb0 hrd)
    | (go_at_call 98; refine (hH.out _ hrr.out hn h1 h2).mono ?_; rintro e w' ⟨rfl, rfl⟩; rw [hHin.out]))
   have hc : w1.cell? ⟨g, m / 64, none⟩ = some (.int .u64 (x : Int)) := by
    rw [hown1.cellAt _ (by omega), List.getElem?_map, hx.out]; rfl
   have hf := hown1.frozenAt (m / 64);have hg := (hown1.lt g rfl).1;have hA1 : (0 : Int) ≤ (m : Int) / 64 := by omega
   have hA2 : (m : Int) / 64 < (n : Int) := by omega
   have hA3 : ((m : Int) / 64).toNat = m / 64 := by omega
   refine still_tail 13 (by kernel_rfl) (by kernel_rfl) (fun W hW => ?_);have hc' : W.cell? ⟨g, m / 64, none⟩ = some (.int .u64 (x : Int)) := by rw [hW.out]; exact hc
   have hf' : W.frozen? ⟨g, m / 64, none⟩ = false := by rw [hW.out]; exact hf
   have hown' : W.ownsRow w.heap.size 89 1 (.slice (some ⟨g, 0, none⟩) n cap) n (xs.map u64v) := by rw [hW.out]; exact hown1.drew
   have hb' : Below w.heap.size w W := by rw [hW.out]; exact hb1.drew
   clear hc hf hb1 hown1;simp only [List.take_succ_cons, List.take_zero, List.drop_succ_cons, List.drop_zero];have htd : (m : Int).tdiv 64 = (m : Int) / 64 := Int.tdiv_eq_ediv_of_nonneg hi1;have htm : (m : Int).tmod 64 = (r : Int) := by rw [Int.tmod_eq_emod_of_nonneg hi1]; exact hrem
   have hsum : IntKind.u64.wrap ((x : Int) + (p2 r : Nat)) = ((x + p2 r : Nat) : Int) := by
    have := hO.out;rw [IntKind.wrap_u64]; omega
   have hw1 : IntKind.i64.wrap ((m : Int) / 64) = (m : Int) / 64 := by rw [IntKind.wrap_i64]; omega
   have hw2 : IntKind.i64.wrap (r : Int) = (r : Int) := by rw [IntKind.wrap_i64]; omega
   clear hrem
   repeat
    refine @wpStill_step _ _ _ _ _ _ _ ?_;intro K hK;go_simp;refine hK _ ?_;clear hK K
   refine @wpStill_step _ _ _ _ _ _ _ ?_;intro K hK;go_simp;refine ⟨_, still_call (ref_BitN r hr64 _), hK _ ?_⟩;clear hK K
   repeat
    refine @wpStill_step _ _ _ _ _ _ _ ?_;intro K hK;go_simp;refine hK _ ?_;clear hK K
   refine wpStill_nil ?_;clear htd htm hw1 hw2 hsum
   go_wp2
   go_ret;rw [hS.out, show (x : Int) + (p2 r : Nat) = ((x + p2 r : Nat) : Int) from by omega];refine own_ret (c := cap) ?_ (mem_set_lt hlt.out hO.out) (hb'.setCell hg _);rw [List.map_set];exact (hown'.stored _ _).1
 ·have hS := Hd (setR_out (xs := xs) (i := i) (by omega))
  clear hl hr hH;have hdec : (0 ≤ i ∧ ¬ i < 64 * (n : Int)) ∨ ¬ 0 ≤ i := by omega
  clear hin;rcases hdec with ⟨d1, d2⟩ | d1
  all_goals
   go_enter Tryz.func72, Tryz.ntmps72
   go_wp2_with (at_builtin; refine wpList_append_rd rfl (.tmp 6) (.tmp 7) _ rfl w.heap.size 89 i0 _ 8 Tryz.underlying88 hi.out hz0.out hz1.out hz2.out rfl _ 0 _ (by rfl) hlit A n c _ rfl hrd (by simp [u64v, Value.oneCell']) (by unfold maxLen; omega) (by omega) hb0.size ?_; intro v1 w1 hown1 hbb hform; simp only [Nat.zero_add, List.nil_append] at hown1 hform; have hb1 := hb0.trans hbb; clear hbb hlit hb0 hrd hform);obtain ⟨A2, c2, rfl, hrd2⟩ := Rd.of_own hown1;go_ret;rw [hS.out];exact own_ret hown1 hlt.out hb1


def W64 (xs : List Nat) : Prop := ∀ x ∈ xs, x < 18446744073709551616
theorem getD_w64 {xs : List Nat} (h : W64 xs) (j : Nat) : xs.getD j 0 < 18446744073709551616 := by
 rw [List.getD_eq_getElem?_getD]
 cases hx : xs[j]? with
 | none => simp
 | some x => simpa using h x (List.mem_of_getElem? hx)
theorem bit_out {x r : Nat} (hx : x < 18446744073709551616) (hr : 64 ≤ r) : x.testBit r = false :=
 Nat.testBit_lt_two_pow (Nat.lt_of_lt_of_le hx (by rw [show (18446744073709551616 : Nat) = 2 ^ 64 from rfl]; exact Nat.pow_le_pow_right (by omega) hr))
theorem hasR_w (xs : List Nat) (k r : Nat) (hr : r < 64) : hasR xs ((64 * k + r : Nat) : Int) = (xs.getD k 0).testBit r := by
 rw [hasR_nat, show (64 * k + r) / 64 = k from by omega, show (64 * k + r) % 64 = r from by omega]
theorem row_ext {a b : List Nat} (ha : W64 a) (hb : W64 b) (hl : a.length = b.length) (h : ∀ i : Nat, i < 64 * a.length → hasR a (i : Int) = hasR b (i : Int)) : a = b := by
 apply List.ext_getElem hl
 intro k h1 h2
 apply Nat.eq_of_testBit_eq; intro r
 have ea : a[k] = a.getD k 0 := by rw [List.getD_eq_getElem?_getD, List.getElem?_eq_getElem h1]; rfl
 have eb : b[k] = b.getD k 0 := by rw [List.getD_eq_getElem?_getD, List.getElem?_eq_getElem h2]; rfl
 rw [ea, eb];by_cases hr : r < 64
 ·rw [← hasR_w a k r hr, ← hasR_w b k r hr]; exact h _ (by omega)
 ·rw [bit_out (getD_w64 ha k) (by omega), bit_out (getD_w64 hb k) (by omega)]
theorem setR_len (xs : List Nat) (i : Int) : (setR xs i).length = xs.length := by
 unfold setR; split <;> simp
theorem setR_w64 {xs : List Nat} (h : W64 xs) (m : Nat) : W64 (setR xs (m : Int)) := by
 by_cases hm : m < 64 * xs.length
 ·have hx : xs[m / 64]? = some xs[m / 64] := List.getElem?_eq_getElem (by omega)
  rw [setR_in hm hx];exact mem_set_lt h (or_p2_lt (h _ (List.mem_of_getElem? hx)) (by omega))
 ·rw [setR_out (.inr (by omega))]; exact h
theorem hasR_setR (xs : List Nat) (m j : Nat) (hm : m < 64 * xs.length) : hasR (setR xs (m : Int)) (j : Int) = (hasR xs (j : Int) || decide (j = m)) := by
 have hx : xs[m / 64]? = some xs[m / 64] := List.getElem?_eq_getElem (by omega);rw [setR_in hm hx, hasR_nat, hasR_nat, List.getD_eq_getElem?_getD, List.getD_eq_getElem?_getD, List.getElem?_set];by_cases h1 : m / 64 = j / 64
 ·rw [if_pos h1, if_pos (by omega), ← h1, hx]
  simp only [Option.getD_some];rw [Nat.testBit_or]; unfold p2; rw [Nat.testBit_two_pow];by_cases h2 : j = m
  ·subst h2; simp
  ·rw [decide_eq_false h2, decide_eq_false (by omega)]
 ·rw [if_neg h1, decide_eq_false (by rintro rfl; exact h1 rfl), Bool.or_false]

/-! ### both together -/
theorem orR_len (a b : List Nat) : (orR a b).length = max a.length b.length := by simp [orR]
theorem orR_getD (a b : List Nat) (k : Nat) : (orR a b).getD k 0 = a.getD k 0 ||| b.getD k 0 := by
 unfold orR;rw [List.getD_eq_getElem?_getD, List.getElem?_map];by_cases h : k < max a.length b.length
 ·rw [List.getElem?_range h]; rfl
 ·rw [List.getElem?_eq_none (by simpa using h), getD_out a k (by omega), getD_out b k (by omega)]; rfl
theorem hasR_orR (a b : List Nat) (i : Nat) : hasR (orR a b) (i : Int) = (hasR a (i : Int) || hasR b (i : Int)) := by
 rw [hasR_nat, hasR_nat, hasR_nat, orR_getD, Nat.testBit_or]
theorem orR_w64 {a b : List Nat} (ha : W64 a) (hb : W64 b) : W64 (orR a b) := by
 intro x hx;unfold orR at hx;obtain ⟨j, _, rfl⟩ := List.mem_map.1 hx;exact Nat.or_lt_two_pow (n := 64) (getD_w64 ha j) (getD_w64 hb j)
theorem count_far (xs : List Nat) (N : Nat) (hN : 64 * xs.length ≤ N) : ((List.range N).filter fun i : Nat => hasR xs (i : Int)).length = countR xs := by
 obtain ⟨d, rfl⟩ : ∃ d, N = 64 * xs.length + d := ⟨N - 64 * xs.length, by omega⟩;rw [List.range_add, List.filter_append, List.length_append, List.filter_map, countR_list];have : (List.range d).filter ((fun i : Nat => hasR xs (i : Int)) ∘ (64 * xs.length + ·)) = [] := by
  rw [List.filter_eq_nil_iff]; intro j _
  show ¬ hasR xs ((64 * xs.length + j : Nat) : Int) = true
  rw [hasR_out xs _ (.inr (by omega))]; simp
 rw [this]; rfl

/-! ### a row of its list -/
def setN (r : List Nat) (i : Nat) : List Nat := setR r (i : Int)
def setAll (n : Nat) (l : List Nat) : List Nat := l.foldl setN (List.replicate n 0)
theorem setAll_snoc (n : Nat) (l : List Nat) (i : Nat) : setAll n (l ++ [i]) = setR (setAll n l) (i : Int) := by
 unfold setAll; rw [List.foldl_append]; rfl
theorem hasR_zeros (n i : Nat) : hasR (List.replicate n 0) (i : Int) = false := by
 rw [hasR_nat, List.getD_eq_getElem?_getD, List.getElem?_replicate]
 split <;> simp
theorem setAll_facts (n : Nat) (l : List Nat) (h : ∀ i ∈ l, i < 64 * n) : (setAll n l).length = n ∧ W64 (setAll n l) ∧ ∀ j : Nat, hasR (setAll n l) (j : Int) = decide (j ∈ l) := by
 have : ∀ (r : List Nat), (∀ i ∈ l, i < 64 * r.length) → W64 r → (l.foldl setN r).length = r.length ∧ W64 (l.foldl setN r) ∧ ∀ j : Nat, hasR (l.foldl setN r) (j : Int) = (hasR r (j : Int) || decide (j ∈ l)) := by
  clear h
  induction l with
  | nil => intro r _ hw; exact ⟨rfl, hw, fun j => by simp⟩
  | cons i l ih =>
   intro r hl hw;have hi := hl i (by simp);obtain ⟨h1, h2, h3⟩ := ih (setR r (i : Int)) (fun j hj => by rw [setR_len]; exact hl j (by simp [hj])) (setR_w64 hw i);refine ⟨h1.trans (setR_len r i), h2, fun j => ?_⟩
   show hasR (l.foldl _ (setR r (i : Int))) (j : Int) = _
   rw [h3 j, hasR_setR r i j hi, Bool.or_assoc]
   congr 1
   simp
 obtain ⟨h1, h2, h3⟩ := this (List.replicate n 0) (by simpa using h) (fun x hx => by have := (List.mem_replicate.1 hx).2; omega);refine ⟨h1.trans List.length_replicate, h2, fun j => ?_⟩;have := h3 j;rw [hasR_zeros, Bool.false_or] at this;exact this


def inM (N i j : Int) : Bool := decide (0 ≤ i) && decide (i < N) && decide (0 ≤ j) && decide (j < N)
def hasM (xss : List (List Nat)) (i j : Int) : Bool := decide (0 ≤ i) && hasR (xss.getD i.toNat []) j
def setM (xss : List (List Nat)) (i j : Int) : List (List Nat) := xss.set i.toNat (setR (xss.getD i.toNat []) j)
def newM (n : Nat) : List (List Nat) := List.replicate n (List.replicate (wordsZ n).toNat 0)
def orM (a b : List (List Nat)) : List (List Nat) := (List.range a.length).map fun i => orR (a.getD i []) (b.getD i [])

def belowZ (i n : Int) : Bool := decide (0 ≤ i) && decide (i < n)
theorem belowZ_yes {i n : Int} (h0 : 0 ≤ i) (h1 : i < n) : belowZ i n = true := by unfold belowZ; simp [h0, h1]
theorem belowZ_no {i n : Int} (h : i < 0 ∨ n ≤ i) : belowZ i n = false := by
 unfold belowZ;rcases h with h | h
 ·rw [decide_eq_false (by omega)]; rfl
 ·rw [decide_eq_false (p := i < n) (by omega), Bool.and_false]
theorem hasM_out {xss : List (List Nat)} {i j : Int} (h : i < 0 ∨ (xss.length : Int) ≤ i) : hasM xss i j = false := by
 unfold hasM;by_cases h0 : 0 ≤ i
 ·have : xss.getD i.toNat [] = [] := by
   rw [List.getD_eq_getElem?_getD, List.getElem?_eq_none (by omega)]; rfl
  rw [this, hasR_out [] j (by simp; omega), Bool.and_false]
 ·rw [decide_eq_false h0]; rfl
theorem getD_at {α : Type} {xss : List α} {k : Nat} {xs d : α} (h : xss[k]? = some xs) : xss.getD k d = xs := by rw [List.getD_eq_getElem?_getD, h]; rfl
theorem hasM_in {xss : List (List Nat)} {k : Nat} {xs : List Nat} {j : Int} (h : xss[k]? = some xs) : hasM xss (k : Int) j = hasR xs j := by
 unfold hasM;rw [decide_eq_true (by omega), Int.toNat_natCast, getD_at h]; rfl

theorem setM_nat {xss : List (List Nat)} {k : Nat} {xs : List Nat} {j : Int} (h : xss[k]? = some xs) : setM xss (k : Int) j = xss.set k (setR xs j) := by
 unfold setM;rw [Int.toNat_natCast, getD_at h]

/-! ### matrices of pairs -/
def okP (n : Int) (p : Int × Int) : Bool := inM n p.1 p.2
def setP (m : List (List Nat)) (p : Int × Int) : List (List Nat) := setM m p.1 p.2
def foldP (n : Nat) (ps : List (Int × Int)) : List (List Nat) := ps.foldl setP (newM n)
theorem foldP_nil (n : Nat) : foldP n [] = newM n := rfl
theorem foldP_snoc (n : Nat) (ps : List (Int × Int)) (k : Nat) (p : Int × Int) (h : ps[k]? = some p) : foldP n (ps.take (k + 1)) = setM (foldP n (ps.take k)) p.1 p.2 := by
 unfold foldP;have hk : k < ps.length := (List.getElem?_eq_some_iff.1 h).1;rw [List.take_succ_eq_append_getElem hk, List.foldl_append, (List.getElem?_eq_some_iff.1 h).2]; rfl
def DimM (n : Nat) (xss : List (List Nat)) : Prop := xss.length = n ∧ ∀ (i : Nat) (r : List Nat), xss[i]? = some r → r.length = (wordsZ (n : Int)).toNat
theorem DimM.new (n : Nat) : DimM n (newM n) := ⟨by simp [newM], fun i r h => by
 unfold newM at h;rw [List.getElem?_replicate] at h
 split at h
 ·injection h with h; subst h; simp
 ·cases h⟩
theorem DimM.set {n : Nat} {xss : List (List Nat)} (h : DimM n xss) (i j : Int) : DimM n (setM xss i j) := by
 unfold setM;refine ⟨by rw [List.length_set]; exact h.1, fun k r hk => ?_⟩;rw [List.getElem?_set] at hk
 split at hk
 ·rename_i e
  split at hk
  ·rename_i hl
   injection hk with hk;subst hk;rw [setR_len, getD_at (List.getElem?_eq_getElem hl)];exact h.2 _ _ (List.getElem?_eq_getElem hl)
  ·cases hk
 ·exact h.2 _ _ hk
theorem DimM.fold (n : Nat) (ps : List (Int × Int)) : DimM n (foldP n ps) := by
 unfold foldP;have : ∀ (ps : List (Int × Int)) (m : List (List Nat)), DimM n m → DimM n (ps.foldl setP m) := by
  intro ps
  induction ps with
  | nil => intro m h; exact h
  | cons p ps ih => intro m h; exact ih _ (h.set _ _)
 exact this ps _ (DimM.new n)
theorem words_pos {n : Nat} (h : 0 < n) : 0 < (wordsZ (n : Int)).toNat ∧ n ≤ 64 * (wordsZ (n : Int)).toNat := by
 unfold wordsZ; rw [if_neg (by omega)]; omega
theorem words_le {n : Nat} (h : n ≤ 4096) : (wordsZ (n : Int)).toNat ≤ 64 := by
 unfold wordsZ; rw [if_neg (by omega)]; omega


def aheadF (is : List It) (i j : Int) : Bool :=
 decide (0 ≤ i) && (decide (0 ≤ j) && (match is[i.toNat]?, is[j.toNat]? with | some x, some y => decide (x.se = y.se) && decide (x.pl < y.pl) | _, _ => false))
theorem aheadF_at {is : List It} {i j : Int} {x y : It} (hi : 0 ≤ i) (hj : 0 ≤ j) (hx : is[i.toNat]? = some x) (hy : is[j.toNat]? = some y) : aheadF is i j = (decide (x.se = y.se) && decide (x.pl < y.pl)) := by
 unfold aheadF; rw [decide_eq_true hi, decide_eq_true hj, hx, hy]; rfl
theorem aheadF_out {is : List It} {i j : Int} (h : i < 0 ∨ j < 0 ∨ (is.length : Int) ≤ i ∨ (is.length : Int) ≤ j) : aheadF is i j = false := by
 unfold aheadF;rcases h with h | h | h | h
 ·rw [decide_eq_false (by omega : ¬ 0 ≤ i)]; rfl
 ·rw [decide_eq_false (by omega : ¬ 0 ≤ j)]; simp
 ·rw [List.getElem?_eq_none (by omega : is.length ≤ i.toNat)]; simp
 ·rw [List.getElem?_eq_none (by omega : is.length ≤ j.toNat)]
  cases is[i.toNat]? <;> simp
theorem aheadF_in {is : List It} {i j : Int} (h : aheadF is i j = true) : 0 ≤ i ∧ 0 ≤ j ∧ i < (is.length : Int) ∧ j < (is.length : Int) := by
 rcases Classical.em (0 ≤ i ∧ 0 ≤ j ∧ i < (is.length : Int) ∧ j < (is.length : Int)) with h1 | h1
 ·exact h1
 ·rw [aheadF_out (by omega)] at h; cases h
def pastN (is : List It) (o : Int) (n : Nat) : List Nat := (List.range n).filter fun i => decide ((i : Int) = o) || aheadF is i o
def pastF (is : List It) (o : Int) (n : Nat) : List Int := (pastN is o n).map fun (i : Nat) => (i : Int)
theorem pastF_succ (is : List It) (o : Int) (n : Nat) : pastF is o (n + 1) = if (decide ((n : Int) = o) || aheadF is n o) = true then pastF is o n ++ [(n : Int)] else pastF is o n := by
 unfold pastF pastN;rw [List.range_succ, List.filter_append]
 split
 ·rename_i h; rw [List.filter_cons_of_pos (by exact h)]; simp
 ·rename_i h; rw [List.filter_cons_of_neg (by exact h)]; simp
theorem pastF_len (is : List It) (o : Int) (n : Nat) : (pastF is o n).length ≤ n := by
 unfold pastF pastN;rw [List.length_map];exact Nat.le_trans (List.length_filter_le _ _) (by simp)
theorem pastF_ok (is : List It) (o : Int) (n : Nat) : ∀ z ∈ pastF is o n, 0 ≤ z ∧ z < (n : Int) := fun z hz => by
 unfold pastF at hz;obtain ⟨i, hi, rfl⟩ := List.mem_map.1 hz;unfold pastN at hi;have := List.mem_range.1 (List.mem_filter.1 hi).1
 omega
def rowPo (is : List It) (i j : Nat) : List (Int × Int) := ((List.range j).filter fun (k : Nat) => aheadF is i k).map fun (k : Nat) => ((i : Int), (k : Int))
def uptoPo (is : List It) (n i : Nat) : List (Int × Int) := (List.range i).flatMap fun i => rowPo is i n
def poM (is : List It) : List (List Nat) := foldP is.length (uptoPo is is.length is.length)
theorem rowPo_succ (is : List It) (i j : Nat) : rowPo is i (j + 1) = if aheadF is i j = true then rowPo is i j ++ [((i : Int), (j : Int))] else rowPo is i j := by
 unfold rowPo;rw [List.range_succ, List.filter_append]
 split
 ·rename_i h; rw [List.filter_cons_of_pos (by exact h)]; simp
 ·rename_i h; rw [List.filter_cons_of_neg (by exact h)]; simp
theorem uptoPo_succ (is : List It) (n i : Nat) : uptoPo is n (i + 1) = uptoPo is n i ++ rowPo is i n := by
 unfold uptoPo; rw [List.range_succ, List.flatMap_append]; simp
theorem foldP_last (n : Nat) (ps : List (Int × Int)) (p : Int × Int) : foldP n (ps ++ [p]) = setM (foldP n ps) p.1 p.2 := by
 unfold foldP; rw [List.foldl_append]; rfl

def baseO (hs : List (List OpT)) (s : Nat) : Nat := (allO (hs.take s)).length
theorem baseO_succ {hs : List (List OpT)} {s : Nat} {os : List OpT} (h : hs[s]? = some os) : baseO hs (s + 1) = baseO hs s + os.length := by
 unfold baseO; rw [allO_take_succ h, List.length_append]
theorem baseO_mono {hs : List (List OpT)} {s t : Nat} (h : s ≤ t) : baseO hs s ≤ baseO hs t := by
 induction t with
 | zero => rw [Nat.le_zero.1 h]; exact Nat.le_refl _
 | succ t ih =>
  rcases Nat.lt_or_ge s (t + 1) with h1 | h1
  ·have := ih (by omega)
   cases ht : hs[t]? with
   | none =>
    have e : hs.take (t + 1) = hs.take t := by
     have := List.getElem?_eq_none_iff.1 ht;rw [List.take_of_length_le this, List.take_of_length_le (by omega)]
    unfold baseO at this ⊢; rw [e]; exact this
   | some os => rw [baseO_succ ht]; omega
  ·rw [show s = t + 1 by omega]; exact Nat.le_refl _
theorem items_at {hs : List (List OpT)} {i : Nat} (hi : i < (allO hs).length) : ∃ (s p : Nat) (x : It), spotN hs i = some (s, p) ∧ (hisF hs).2[i]? = some x ∧ x.se = (s : Int) ∧ x.pl = (p : Int) ∧ baseO hs s + p = i ∧ p < (hs.getD s []).length ∧ s < hs.length := by
 obtain ⟨s, p, va, h1, h2, -, -⟩ := hisF_item hs i _ (List.getElem?_eq_getElem hi);obtain ⟨f1, f2, f3, -⟩ := spotN_some hs i s p h1;exact ⟨s, p, _, h1, h2, rfl, rfl, f3, f2, f1⟩
theorem filter_span {N b k : Nat} (hb : b ≤ k) (hk : k < N) (p : Nat → Bool) (hp : ∀ i, i < N → p i = decide (b ≤ i ∧ i ≤ k)) : (List.range N).filter p = List.range' b (k + 1 - b) := by
 have e : List.range N = List.range' 0 b ++ (List.range' b (k + 1 - b) ++ List.range' (k + 1) (N - (k + 1))) := by
  rw [List.range_eq_range'];have h1 := List.range'_append_1 (s := b) (m := k + 1 - b) (n := N - (k + 1));have h2 := List.range'_append_1 (s := 0) (m := b) (n := N - b);rw [show b + (k + 1 - b) = k + 1 by omega, show k + 1 - b + (N - (k + 1)) = N - b by omega] at h1;rw [Nat.zero_add, show b + (N - b) = N by omega] at h2;rw [h1, h2]
 rw [e, List.filter_append, List.filter_append];rw [List.filter_eq_nil_iff.2 (fun a ha => by have := List.mem_range'_1.1 ha; rw [hp a (by omega)]; simp; omega), List.nil_append];rw [List.filter_eq_self.2 (fun a ha => by have := List.mem_range'_1.1 ha; rw [hp a (by omega)]; simp; omega)];rw [List.filter_eq_nil_iff.2 (fun a ha => by have := List.mem_range'_1.1 ha; rw [hp a (by omega)]; simp; omega), List.append_nil]

def RowV (w : World) (v : Value) (xs : List Nat) : Prop := ∃ A n c, v = .slice A n c ∧ Row w A n xs
def RowsC (w : World) (vs : List Value) (xss : List (List Nat)) : Prop := vs.length = xss.length ∧ ∀ (i : Nat) (v : Value) (xs : List Nat), vs[i]? = some v → xss[i]? = some xs → RowV w v xs
def RowsAt (w : World) (A : Option Addr) (n : Nat) (xss : List (List Nat)) : Prop := ∃ vs, Rd w A n vs ∧ RowsC w vs xss
section
variable {w w' : World} {A : Option Addr} {n : Nat} {vs : List Value} {xss : List (List Nat)} {v : Value} {xs : List Nat}
theorem RowV.below (h : RowV w v xs) (hb : Below w.heap.size w w') : RowV w' v xs := by
 obtain ⟨A, n, c, e, hr⟩ := h; exact ⟨A, n, c, e, hr.below hb⟩
theorem RowsC.below (h : RowsC w vs xss) (hb : Below w.heap.size w w') : RowsC w' vs xss := ⟨h.1, fun i v xs h1 h2 => (h.2 i v xs h1 h2).below hb⟩
theorem RowsC.nil (w : World) : RowsC w [] [] := ⟨rfl, fun i v xs h => by simp at h⟩
theorem RowsC.set (h : RowsC w vs xss) (hv : RowV w v xs) (k : Nat) : RowsC w (vs.set k v) (xss.set k xs) := by
 refine ⟨by simp [h.1], fun i u ys h1 h2 => ?_⟩;rw [List.getElem?_set] at h1 h2;by_cases hk : k = i
 ·rw [if_pos hk] at h1 h2
  by_cases hl : k < vs.length
  ·rw [if_pos hl] at h1
   rw [if_pos (by rw [← h.1]; exact hl)] at h2;injection h1 with h1;injection h2 with h2;subst h1 h2;exact hv
  ·rw [if_neg hl] at h1; cases h1
 ·rw [if_neg hk] at h1 h2
  exact h.2 i u ys h1 h2
theorem RowsAt.len (h : RowsAt w A n xss) : xss.length = n := by
 obtain ⟨vs, h1, h2⟩ := h; rw [← h2.1, h1.1]
theorem RowsAt.below (h : RowsAt w A n xss) (hb : Below w.heap.size w w') : RowsAt w' A n xss := by
 obtain ⟨vs, h1, h2⟩ := h; exact ⟨vs, h1.below hb, h2.below hb⟩
theorem RowsAt.nil (w : World) (A : Option Addr) : RowsAt w A 0 [] := ⟨[], Rd.nil _ _, RowsC.nil _⟩
theorem RowsAt.at_ {k : Nat} (h : RowsAt w A n xss) (hk : k < n) : ∃ b off B m c xs, A = some ⟨b, off, none⟩ ∧ b < w.heap.size ∧ xss[k]? = some xs ∧ w.cell? ⟨b, off + k, none⟩ = some (.slice B m c) ∧ Row w B m xs := by
 obtain ⟨vs, h1, h2⟩ := h;obtain ⟨b, off, u, hA, hb, hu, hc⟩ := h1.at_ hk;have hl : k < xss.length := by rw [← h2.1, h1.1]; exact hk
 obtain ⟨B, m, c, e, hr⟩ := h2.2 k u xss[k] hu (List.getElem?_eq_getElem hl);subst e;exact ⟨b, off, B, m, c, xss[k], hA, hb, List.getElem?_eq_getElem hl, hc, hr⟩
theorem RowsAt.w64 (h : RowsAt w A n xss) : ∀ xs ∈ xss, W64 xs := by
 intro xs hx;obtain ⟨k, hk⟩ := List.getElem?_of_mem hx;have hl : k < xss.length := (List.getElem?_eq_some_iff.1 hk).1;obtain ⟨b, off, B, m, c, xs', _, _, hx', _, hr⟩ := h.at_ (k := k) (by rw [← h.len]; exact hl);rw [hk] at hx';injection hx' with hx';subst hx';exact hr.2
end

section
variable {w w' : World} {A : Option Addr} {n : Nat} {vs : List Value} {xs : List Nat} {p : Addr}
theorem Rd.setCell (h : Rd w A n vs) (hne : ∀ ad, A = some ad → ad.block ≠ p.block) (u : Value) : Rd (w.setCell p u) A n vs :=
 ⟨h.1, fun hn => by
  obtain ⟨b, off, e, hb, hc⟩ := h.2 hn;have hbp := hne _ e;refine ⟨b, off, e, by simpa using hb, fun j x hx => ?_⟩;rw [World.cell?_setCell_other w p ⟨b, off + j, none⟩ u (fun e => hbp (by rw [e]))];exact hc j x hx⟩
theorem Row.setCell (h : Row w A n xs) (hne : ∀ ad, A = some ad → ad.block ≠ p.block) (u : Value) : Row (w.setCell p u) A n xs := ⟨h.1.setCell hne u, h.2⟩
theorem own_far {base : Nat} {e : TypeId} {size : Nat} {v : Value} (h : w.ownsRow base e size v n vs) (hne : v.ownBlock ≠ some p.block) (u : Value) : (w.setCell p u).ownsRow base e size v n vs := by
 refine ⟨h.1, ?_⟩;rcases h.2 with ⟨h1, h2⟩ | ⟨g, cap, cur, rfl, hbg, hg, r⟩
 ·exact .inl ⟨h1, h2⟩
 ·refine .inr ⟨g, cap, cur, rfl, hbg, ?_, r⟩
  rw [Below.heap_setCell w p u g (fun e => hne (by rw [← e]; rfl))]; exact hg
end

theorem own_drewN {w : World} {base : Nat} {e : TypeId} {size : Nat} {v : Value} {n : Nat} {xs : List Value} (h : w.ownsRow base e size v n xs) (q : Nat) : (w.drewN q).ownsRow base e size v n xs := h
theorem own_base {w : World} {base base' : Nat} {e : TypeId} {size n : Nat} {v : Value} {vs : List Value} (h : w.ownsRow base e size v n vs) (hb : base' ≤ base) : w.ownsRow base' e size v n vs :=
 ⟨h.1, h.2.imp id fun ⟨g, cap, cur, hv, hg, r⟩ => ⟨g, cap, cur, hv, Nat.le_trans hb hg, r⟩⟩

theorem own_cap {w : World} {base : Nat} {e : TypeId} {size n c : Nat} {A : Option Addr} {vs : List Value} (h : w.ownsRow base e size (.slice A n c) n vs) : n ≤ c := by
 rcases h.2 with ⟨h1, h2⟩ | ⟨g, cap, cur, hv, _, _, hnc, _⟩
 ·omega
 ·injection hv with _ _ h3
  omega
def OwnRows (t : TypeId) (w : World) (base : Nat) (vs : List Value) (xss : List (List Nat)) : Prop :=
 vs.length = xss.length ∧
 (∀ (i : Nat) (v : Value) (xs : List Nat), vs[i]? = some v → xss[i]? = some xs → ∃ A m c, v = .slice A m c ∧ w.ownsRow base t 1 (.slice A m c) m (xs.map u64v) ∧ W64 xs) ∧
 (∀ (i j : Nat) (v v' : Value) (g : Nat), i ≠ j → vs[i]? = some v → vs[j]? = some v' → v.ownBlock = some g → v'.ownBlock ≠ some g)
section
variable {t : TypeId} {w w' : World} {base : Nat} {vs : List Value} {xss : List (List Nat)}
theorem OwnRows.nil (t : TypeId) (w : World) (base : Nat) : OwnRows t w base [] [] := ⟨rfl, fun i v xs h => by simp at h, fun i j v v' g _ h => by simp at h⟩
theorem OwnRows.below (h : OwnRows t w base vs xss) (hb : Below w.heap.size w w') : OwnRows t w' base vs xss :=
 ⟨h.1, fun i v xs h1 h2 => by
  obtain ⟨A, m, c, e, ho, hx⟩ := h.2.1 i v xs h1 h2;exact ⟨A, m, c, e, oBl ho hb, hx⟩, h.2.2⟩
theorem OwnRows.rows (h : OwnRows t w base vs xss) : RowsC w vs xss :=
 ⟨h.1, fun i v xs h1 h2 => by
  obtain ⟨A, m, c, e, ho, hx⟩ := h.2.1 i v xs h1 h2;exact ⟨A, m, c, e, Row.of_own ho hx⟩⟩
theorem OwnRows.base_ {base' : Nat} (h : OwnRows t w base vs xss) (hb : base' ≤ base) : OwnRows t w base' vs xss :=
 ⟨h.1, fun i v xs h1 h2 => by
  obtain ⟨A, m, c, e, ho, hx⟩ := h.2.1 i v xs h1 h2;exact ⟨A, m, c, e, own_base ho hb, hx⟩, h.2.2⟩
theorem OwnRows.lt (h : OwnRows t w base vs xss) : ∀ v ∈ vs, ∀ g, v.ownBlock = some g → base ≤ g ∧ g < w.heap.size := by
 intro v hv g hg;obtain ⟨k, hk⟩ := List.getElem?_of_mem hv;have hl : k < xss.length := by rw [← h.1]; exact (List.getElem?_eq_some_iff.1 hk).1
 obtain ⟨A, m, c, rfl, ho, _⟩ := h.2.1 k v xss[k] hk (List.getElem?_eq_getElem hl);exact ho.lt g hg
theorem OwnRows.far (h : OwnRows t w base vs xss) {p : Addr} (hp : p.block < base) (u : Value) : OwnRows t (w.setCell p u) base vs xss :=
 ⟨h.1, fun i v xs h1 h2 => by
  obtain ⟨A, m, c, e, ho, hx⟩ := h.2.1 i v xs h1 h2;exact ⟨A, m, c, e, own_far ho (fun hh => by have := oLb ho _ hh; omega) u, hx⟩, h.2.2⟩
theorem own_block_lt {e : TypeId} {size n : Nat} {v : Value} (h : w.ownsRow base e size v n vs) : ∀ g, v.ownBlock = some g → g < w.heap.size := fun g hg => (h.lt g hg).2
theorem OwnRows.snoc (h : OwnRows t w base vs xss) (hb : Below w.heap.size w w') {A : Option Addr} {m c : Nat} {xs : List Nat} (ho : w'.ownsRow w.heap.size t 1 (.slice A m c) m (xs.map u64v)) (hx : W64 xs) (hbase : base ≤ w.heap.size) :
  OwnRows t w' base (vs ++ [.slice A m c]) (xss ++ [xs]) := by
 have h' := h.below hb;refine ⟨by simp [h.1], fun i v ys h1 h2 => ?_, fun i j v v' g hij h1 h2 h3 h4 => ?_⟩
 ·rcases Nat.lt_or_ge i vs.length with hi | hi
  ·rw [List.getElem?_append_left hi] at h1
   rw [List.getElem?_append_left (by rw [← h.1]; exact hi)] at h2;exact h'.2.1 i v ys h1 h2
  ·rw [List.getElem?_append_right hi] at h1
   rw [List.getElem?_append_right (by rw [← h.1]; exact hi)] at h2;rw [← h.1] at h2;rcases Nat.eq_zero_or_pos (i - vs.length) with h0 | h0
   ·rw [h0] at h1 h2
    simp at h1 h2;subst h1 h2;exact ⟨A, m, c, rfl, own_base ho hbase, hx⟩
   ·rw [List.getElem?_eq_none (by simp; omega)] at h1; cases h1
 ·have old : ∀ k u g, k < vs.length → vs[k]? = some u → u.ownBlock = some g → g < w.heap.size := fun k u g hk hu hg => by
   obtain ⟨A', m', c', rfl, ho', _⟩ := h.2.1 k u (xss[k]'(by rw [← h.1]; exact hk)) hu (List.getElem?_eq_getElem (by rw [← h.1]; exact hk));exact own_block_lt ho' g hg
  have new : ∀ k u g, vs.length ≤ k → (vs ++ [Value.slice A m c])[k]? = some u → u.ownBlock = some g → k = vs.length ∧ w.heap.size ≤ g := fun k u g hk hu hg => by
   rw [List.getElem?_append_right hk] at hu;rcases Nat.eq_zero_or_pos (k - vs.length) with h0 | h0
   ·rw [h0] at hu
    simp at hu;subst hu;exact ⟨by omega, oLb ho g hg⟩
   ·rw [List.getElem?_eq_none (by simp; omega)] at hu; cases hu
  rcases Nat.lt_or_ge i vs.length with hi | hi <;> rcases Nat.lt_or_ge j vs.length with hj | hj
  ·rw [List.getElem?_append_left hi] at h1
   rw [List.getElem?_append_left hj] at h2;exact h.2.2 i j v v' g hij h1 h2 h3 h4
  ·rw [List.getElem?_append_left hi] at h1
   have a := old i v g hi h1 h3;have b := (new j v' g hj h2 h4).2
   omega
  ·rw [List.getElem?_append_left hj] at h2
   have a := old j v' g hj h2 h4;have b := (new i v g hi h1 h3).2
   omega
  ·have a := (new i v g hi h1 h3).1
   have b := (new j v' g hj h2 h4).1
   omega
theorem OwnRows.put (h : OwnRows t w base vs xss) {i : Nat} {g m c : Nat} {xs : List Nat} (hv : vs[i]? = some (.slice (some ⟨g, 0, none⟩) m c)) (hx : xss[i]? = some xs) (q y : Nat) (hy : y < 18446744073709551616) :
  OwnRows t (w.setCell ⟨g, q, none⟩ (u64v y)) base vs (xss.set i (xs.set q y)) := by
 refine ⟨by simp [h.1], fun k v ys h1 h2 => ?_, h.2.2⟩;rw [List.getElem?_set] at h2;by_cases hk : i = k
 ·subst hk
  rw [if_pos rfl, if_pos (by exact (List.getElem?_eq_some_iff.1 hx).1)] at h2;injection h2 with h2;rw [hv] at h1;injection h1 with h1;obtain ⟨A, m', c', e, ho, hw⟩ := h.2.1 i _ xs hv hx;injection e with e1 e2 e3;subst e1 e2 e3 h1 h2;refine ⟨_, _, _, rfl, ?_, fun x hx' => ?_⟩
  ·rw [List.map_set]; exact (ho.stored q (u64v y)).1
  ·rcases List.mem_or_eq_of_mem_set hx' with h5 | h5
   ·exact hw x h5
   ·rw [h5]; exact hy
 ·rw [if_neg hk] at h2
  obtain ⟨A, m', c', e, ho, hw⟩ := h.2.1 k v ys h1 h2;subst e;exact ⟨A, m', c', rfl, own_far ho (h.2.2 i k _ _ g hk hv h1 rfl) _, hw⟩
end

def PairsAt (w : World) (A : Option Addr) (n : Nat) (ps : List (Int × Int)) : Prop :=
 ps.length = n ∧ (∀ p ∈ ps, (-9223372036854775808 ≤ p.1 ∧ p.1 < 9223372036854775808) ∧ (-9223372036854775808 ≤ p.2 ∧ p.2 < 9223372036854775808)) ∧
 (0 < n → ∃ b off, A = some ⟨b, off, none⟩ ∧ b < w.heap.size ∧ ∀ (j : Nat) (p : Int × Int), ps[j]? = some p → w.cell? ⟨b, off + j * 2, none⟩ = some (.int .i64 p.1) ∧ w.cell? ⟨b, off + j * 2 + 1, none⟩ = some (.int .i64 p.2))
section
variable {w w' : World} {A : Option Addr} {n : Nat} {ps : List (Int × Int)}
theorem PairsAt.below (h : PairsAt w A n ps) (hb : Below w.heap.size w w') : PairsAt w' A n ps :=
 ⟨h.1, h.2.1, fun hn => by
  obtain ⟨b, off, e, hbl, hc⟩ := h.2.2 hn;exact ⟨b, off, e, Nat.lt_of_lt_of_le hbl hb.size, fun j p hp => by
   obtain ⟨h1, h2⟩ := hc j p hp;exact ⟨(hb.cell (p := ⟨b, off + j * 2, none⟩) hbl).trans h1, (hb.cell (p := ⟨b, off + j * 2 + 1, none⟩) hbl).trans h2⟩⟩⟩
theorem PairsAt.at_ {k : Nat} (h : PairsAt w A n ps) (hk : k < n) : ∃ b off p, A = some ⟨b, off, none⟩ ∧ b < w.heap.size ∧ ps[k]? = some p ∧ ((-9223372036854775808 ≤ p.1 ∧ p.1 < 9223372036854775808) ∧ (-9223372036854775808 ≤ p.2 ∧ p.2 < 9223372036854775808)) ∧
  w.cell? ⟨b, off + k * 2, none⟩ = some (.int .i64 p.1) ∧ w.cell? ⟨b, off + k * 2 + 1, none⟩ = some (.int .i64 p.2) := by
 obtain ⟨b, off, e, hb, hc⟩ := h.2.2 (by omega);have hl : k < ps.length := by rw [h.1]; exact hk
 exact ⟨b, off, ps[k], e, hb, List.getElem?_eq_getElem hl, h.2.1 _ (List.getElem_mem hl), (hc k _ (List.getElem?_eq_getElem hl)).1, (hc k _ (List.getElem?_eq_getElem hl)).2⟩
end

def MatB (w : World) (g : Nat) (t : TypeId) (N : Int) (A : Option Addr) (n c : Nat) : Prop := Blk w g t [.int .i64 N, .slice A n c]
section
variable {w w' : World} {g : Nat} {t : TypeId} {N : Int} {A : Option Addr} {n c : Nat}
theorem MatB.c0 (h : MatB w g t N A n c) : w.cell? ⟨g, 0, none⟩ = some (.int .i64 N) := Blk.cell h 0
theorem MatB.c1 (h : MatB w g t N A n c) : w.cell? ⟨g, 1, none⟩ = some (.slice A n c) := Blk.cell h 1
theorem MatB.new (w : World) (t : TypeId) : MatB (w.alloc (.cells #[.int .i64 N, .slice A n c] t)) w.heap.size t N A n c := Blk.new w t _
theorem MatB.new1 (w : World) (o : Obj) (t : TypeId) : MatB ((w.alloc o).alloc (.cells #[.int .i64 N, .slice A n c] t)) (w.heap.size + 1) t N A n c := by
 have h := MatB.new (N := N) (A := A) (n := n) (c := c) (w.alloc o) t
 rwa [show (w.alloc o).heap.size = w.heap.size + 1 from by simp] at h
theorem MatB.two (h : MatB w g t N A n c) (x y : Value) : ((w.setCell ⟨g, 0, none⟩ x).setCell ⟨g, 1, none⟩ y).cell? ⟨g, 0, none⟩ = some x ∧ ((w.setCell ⟨g, 0, none⟩ x).setCell ⟨g, 1, none⟩ y).cell? ⟨g, 1, none⟩ = some y := by
 have h2 := (Blk.set_ (Blk.set_ h 0 x) 1 y);exact ⟨by rw [h2.cell 0]; rfl, by rw [h2.cell 1]; rfl⟩
theorem MatB.put (h : MatB w g t N A n c) (N' : Int) (A' : Option Addr) (n' c' : Nat) : MatB ((w.setCell ⟨g, 0, none⟩ (.int .i64 N')).setCell ⟨g, 1, none⟩ (.slice A' n' c')) g t N' A' n' c' :=
 Blk.set_ (Blk.set_ h 0 (.int .i64 N')) 1 (.slice A' n' c')
theorem MatB.below_ (h : MatB w g t N A n c) (hb : Below w.heap.size w w') : MatB w' g t N A n c := Blk.below h hb h.lt
end

def RetMat (N : Int) (xss : List (List Nat)) (er : Int) (w : World) (e : Ending) (w' : World) : Prop :=
 ∃ A n c, e = .returned (.tuple #[.agg #[.int .i64 N, .slice A n c], .int .i64 er]) ∧ RowsAt w' A n xss ∧ n ≤ c ∧ Below w.heap.size w w'
def RetMatO (te tw : TypeId) (N : Int) (xss : List (List Nat)) (w : World) (e : Ending) (w' : World) : Prop :=
 ∃ A n c vs, e = .returned (.tuple #[.agg #[.int .i64 N, .slice A n c], .int .i64 0]) ∧ w'.ownsRow w.heap.size te 1 (.slice A n c) n vs ∧ OwnRows tw w' w.heap.size vs xss ∧ (∀ v ∈ vs, ∀ g, v.ownBlock = some g → (Value.slice A n c).ownBlock ≠ some g) ∧ Below w.heap.size w w'
def RetMat1 (N : Int) (xss : List (List Nat)) (w : World) (e : Ending) (w' : World) : Prop :=
 ∃ A n c, e = .returned (.agg #[.int .i64 N, .slice A n c]) ∧ RowsAt w' A n xss ∧ n ≤ c ∧ Below w.heap.size w w'
def RetB (b : Bool) (w : World) (e : Ending) (w' : World) : Prop := e = .returned (.bool b) ∧ Below w.heap.size w w'


theorem mat_below (i n : Int) (w : World) :
  Calls Tryz.prog 84 #[.int .i64 i, .int .i64 n] w fun e w' => e = .returned (.bool (belowZ i n)) ∧ w = w' := by
 by_cases h0 : 0 ≤ i
 ·by_cases h1 : i < n
  ·have H := Hd (belowZ_yes h0 h1)
   go_enter Tryz.func84, Tryz.ntmps84
   go_wp2
   go_ret;rw [H.out]; exact ⟨rfl, rfl⟩
  ·have H := Hd (belowZ_no (i := i) (n := n) (by omega))
   go_enter Tryz.func84, Tryz.ntmps84
   go_wp2
   go_ret;rw [H.out]; exact ⟨rfl, rfl⟩
 ·have H := Hd (belowZ_no (i := i) (n := n) (by omega))
  go_enter Tryz.func84, Tryz.ntmps84
  go_wp2
  go_ret;rw [H.out]; exact ⟨rfl, rfl⟩

theorem mat_Has (N : Int) (A : Option Addr) (n c : Nat) (xss : List (List Nat)) (i j : Int) (w : World) (hr : RowsAt w A n xss) (hn : n ≤ 1073741824) (hl : ∀ xs ∈ xss, xs.length ≤ 1073741824)
  (h1 : -9223372036854775808 ≤ i) (h2 : i < 9223372036854775808) (h3 : -9223372036854775808 ≤ j) (h4 : j < 9223372036854775808) :
  Calls Tryz.prog 56 #[.agg #[.int .i64 N, .slice A n c], .int .i64 i, .int .i64 j] w (RetB (hasM xss i j) w) := by
 have hlen := hr.len;by_cases h : 0 ≤ i ∧ i < (n : Int)
 ·obtain ⟨k, rfl⟩ := Int.eq_ofNat_of_zero_le h.1
  have hk : k < n := by omega
  have hb := Hd (belowZ_yes (i := (k : Int)) (n := (n : Int)) (by omega) (by omega));have ha : Below w.heap.size w (w.alloc (.cells #[.int .i64 N, .slice A n c] 57)) := (Below.refl _ _).alloc (Nat.le_refl _) _;obtain ⟨b, off, B, m, d, xs, rfl, hbl, hx, hc, hxr⟩ := (hr.below ha).at_ hk;have hm : m ≤ 1073741824 := by have := hxr.len; have := hl xs (List.mem_of_getElem? hx); omega
  have H := Hd (hasM_in (j := j) hx);have hR := Hd (fun W (hW : Row W B m xs) => row_Has B m d xs j W hW (by omega) h3 h4);replace hxr := Hd hxr;have hk0 : (0 : Int) ≤ (k : Int) := by omega
  have hkn : (k : Int) < (n : Int) := by omega
  clear h hx hr hlen hl;replace ha := Hd ha
  go_enter Tryz.func56, Tryz.ntmps56
  go_wp2_with fail;refine (mat_below _ _ _).mono ?_; rintro e w' ⟨rfl, rfl⟩;rw [hb.out];go_wp2_with fail;refine (hR.out _ hxr.out).mono ?_; rintro e w' ⟨rfl, rfl⟩
  go_wp2
  go_ret;rw [H.out]; exact ⟨rfl, ha.out⟩
 ·have hb := Hd (belowZ_no (i := i) (n := (n : Int)) (by omega))
  have H := Hd (hasM_out (xss := xss) (i := i) (j := j) (by omega));have ha : Below w.heap.size w (w.alloc (.cells #[.int .i64 N, .slice A n c] 57)) := (Below.refl _ _).alloc (Nat.le_refl _) _;clear h hlen hr hl;replace ha := Hd ha
  go_enter Tryz.func56, Tryz.ntmps56
  go_wp2_with fail;refine (mat_below _ _ _).mono ?_; rintro e w' ⟨rfl, rfl⟩;rw [hb.out]
  go_wp2
  go_ret;rw [H.out]; exact ⟨rfl, ha.out⟩


theorem info_row : (Tryz.prog.info? 88).map (fun i => (i.zero, i.size, i.bytes)) = some (some (.slice none 0 0), 1, 24) := by kernel_rfl
theorem one_rows {w : World} {vs : List Value} {xss : List (List Nat)} (h : RowsC w vs xss) : ∀ u ∈ vs, u.oneCell' = true := by
 intro u hu;obtain ⟨k, hk⟩ := List.getElem?_of_mem hu;have hl : k < vs.length := (List.getElem?_eq_some_iff.1 hk).1;have hl2 : k < xss.length := by rw [← h.1]; exact hl
 obtain ⟨A, n, c, rfl, _⟩ := h.2 k u xss[k] hk (List.getElem?_eq_getElem hl2)
 rfl

def RetOuter (n : Nat) (vs : List Value) (w : World) (e : Ending) (w' : World) : Prop :=
 ∃ g cap, e = .returned (.slice (some ⟨g, 0, none⟩) n cap) ∧ w'.ownsRow w.heap.size 88 1 (.slice (some ⟨g, 0, none⟩) n cap) n vs ∧ Below w.heap.size w w'

theorem clone_rows (b off n c : Nat) (vs : List Value) (w : World) (hr : Rd w (some ⟨b, off, none⟩) n vs) (h1 : ∀ u ∈ vs, u.oneCell' = true) (h0 : 0 < n) (hn : n ≤ 1073741824) :
  Calls Tryz.prog 141 #[.slice (some ⟨b, off, none⟩) n c] w (RetOuter n vs w) := by
 obtain ⟨i0, hi, hz0, hz1, hz2⟩ := info_parts info_row;replace hi := Hd hi;replace hz0 := Hd hz0;replace hz1 := Hd hz1;replace hz2 := Hd hz2;have hlit : (w.alloc (.cells #[] 88)).ownsRow w.heap.size 88 1 (.slice (some ⟨w.heap.size, 0, none⟩) 0 0) 0 [] := by
  have h := World.ownsRow_lit (size := 1) (base := w.heap.size) (e := 88) w #[] 0 (Nat.le_refl _) (by omega) (by simp)
  simpa using h
 have hb0 : Below w.heap.size w (w.alloc (.cells #[] 88)) := (Below.refl _ _).alloc (Nat.le_refl _) _;have hrd : Rd (w.alloc (.cells #[] 88)) (some ⟨b, off, none⟩) n vs := hr.below hb0;clear hr;have hnil : ∀ W : World, (binOp .eql 55 (.slice (some ⟨b, off, none⟩) n c) (.slice none 0 0)).run Tryz.prog W = .ok (.bool false) W := fun W => by kernel_rfl
 go_enter Tryz.func141, Tryz.ntmps141
 go_wp2_with (at_builtin; refine wpList_append_rd rfl (.tmp 5) (.tmp 6) _ rfl w.heap.size 88 i0 _ 24 Tryz.underlying55 hi.out hz0.out hz1.out hz2.out rfl _ 0 _ (by rfl) hlit _ n c _ rfl hrd h1 (by unfold maxLen; omega) (by omega) hb0.size ?_; intro v1 w1 hown1 hbb hform; simp only [Nat.zero_add, List.nil_append] at hown1 hform; have hb1 := hb0.trans hbb; obtain ⟨g, cap, rfl⟩ := hform h0; clear hbb hlit hb0 hrd hform);go_ret;exact ⟨_, _, rfl, hown1, hb1⟩


theorem inM_cases {N i j : Int} (h : inM N i j = false) : (i < 0 ∨ N ≤ i) ∨ (belowZ i N = true ∧ (j < 0 ∨ N ≤ j)) := by
 unfold inM at h;unfold belowZ;by_cases a : 0 ≤ i <;> by_cases b : i < N <;> by_cases c : 0 ≤ j <;> by_cases d : j < N <;> simp [a, b, c, d] at h ⊢ <;> omega


theorem mk_rows (kl kc : IntKind) (n c : Nat) (hnc : n ≤ c) (hc : c ≤ 1099511627776) (W : World) :
  (Instr.makeSlice 55 (.int kl (n : Int)) (.int kc (c : Int))).run Tryz.prog W = .ok (.slice (some ⟨W.heap.size, 0, none⟩) n c) (W.alloc (.cells (zeros c (.slice none 0 0)) 88)) := by
 obtain ⟨i, hi, hz0, hz1, hz2⟩ := info_parts info_row;exact run_make_one _ _ i _ Tryz.underlying55 hi hz0 hz1 rfl kl kc n c hnc (by rw [hz2]; omega) (by omega) W
def filled (vs : List Value) (n : Nat) : List Value := vs ++ List.replicate (n - vs.length) (.slice none 0 0)
theorem filled_nil (n : Nat) : filled [] n = List.replicate n (.slice none 0 0) := by simp [filled]
theorem filled_all {vs : List Value} {n : Nat} (h : vs.length = n) : filled vs n = vs := by simp [filled, h]
theorem filled_set {vs : List Value} {n : Nat} (h : vs.length < n) (v : Value) : (filled vs n).set vs.length v = filled (vs ++ [v]) n := by
 unfold filled;obtain ⟨d, hd⟩ : ∃ d, n - vs.length = d + 1 := ⟨n - vs.length - 1, by omega⟩;rw [List.set_append_right _ _ (Nat.le_refl _), hd, List.length_append, show n - (vs.length + [v].length) = d from by simp; omega]
 simp [List.replicate_succ]
theorem filled_get {vs : List Value} {n : Nat} (h : vs.length < n) : (filled vs n)[vs.length]? = some (.slice none 0 0) := by
 unfold filled;rw [List.getElem?_append_right (Nat.le_refl _), Nat.sub_self, List.getElem?_replicate, if_pos (by omega)]

theorem mat_New (n : Nat) (hn : n ≤ 4096) (w : World) :
  Calls Tryz.prog 88 #[.int .i64 (n : Int)] w (RetMatO 88 89 (n : Int) (newM n) w) := by
 have hb := Hd (belowZ_yes (i := (n : Int)) (n := 4097) (by omega) (by omega));have hmk := mk_rows .i64 .i64 n n (Nat.le_refl _) (by omega);obtain ⟨W0, hW0⟩ : ∃ W0, W0 = w.alloc (.cells #[.int .i64 0, .slice none 0 0] 57) := ⟨_, rfl⟩;have ha : Below w.heap.size w W0 := by rw [hW0]; exact (Below.refl _ _).alloc (Nat.le_refl _) _
 have hB : MatB W0 w.heap.size 57 0 none 0 0 := by rw [hW0]; exact MatB.new w _
 have hs0 : W0.heap.size = w.heap.size + 1 := by rw [hW0]; simp
 obtain ⟨W1, hW1⟩ : ∃ W1, W1 = W0.alloc (.cells (zeros n (.slice none 0 0)) 88) := ⟨_, rfl⟩;have ha1 : Below w.heap.size w W1 := by rw [hW1]; exact ha.alloc (by omega) _
 have hB1 : MatB W1 w.heap.size 57 0 none 0 0 := by rw [hW1]; exact hB.below_ ((Below.refl _ _).alloc (Nat.le_refl _) _)
 have hs1 : W1.heap.size = w.heap.size + 2 := by rw [hW1]; simp [hs0]
 have hown0 : W1.ownsRow (w.heap.size + 1) 88 1 (.slice (some ⟨w.heap.size + 1, 0, none⟩) n n) n (filled [] n) := by
  have h := own_zeros W0 n (.slice none 0 0) 88 (by unfold maxLen; omega);rw [← hW1, hs0] at h;rw [filled_nil]; exact h
 have hrow := Hd (fun W => row_NewO (n : Int) (by omega) (by omega) W);have hs0' := Hd hs0;have hs1' := Hd hs1;replace hB1 := Hd hB1;replace hown0 := Hd hown0;replace ha1 := Hd ha1;clear ha hB hs0 hs1
 go_enter Tryz.func88, Tryz.ntmps88
 go_wp2_with fail;rw [← hW0];have hp : W0.heap.size = w.heap.size + 1 := hs0'.out;clear hW0;refine (mat_below _ _ _).mono ?_; rintro e w' ⟨rfl, rfl⟩;rw [hb.out];go_wp2_with fail;rw [← hW1];clear hW1 hmk hp
 go_loopw [14] (fun i wr => ∃ vs : List Value, vs.length ≤ n ∧ i = .int .i64 vs.length ∧ Hid (wr.ownsRow (w.heap.size + 1) 88 1 (.slice (some ⟨w.heap.size + 1, 0, none⟩) n n) n (filled vs n)) ∧ Hid (OwnRows 89 wr (w.heap.size + 2) vs (List.replicate vs.length (List.replicate (wordsZ (n : Int)).toNat 0))) ∧ Hid (MatB wr w.heap.size 57 0 none 0 0) ∧ Hid (Below w.heap.size w wr) ∧ Hid (w.heap.size + 2 ≤ wr.heap.size)) (fun i _ => n - (intOf i).toNat)
 case atStart => exact ⟨[], Nat.zero_le _, rfl, hown0, Hd (OwnRows.nil _ _ _), hB1, ha1, Hd (by rw [hs1'.out]; exact Nat.le_refl _)⟩
 case round =>
  obtain ⟨vs, hk, rfl, hown, hrows, hBr, hbr, hsr⟩ := hrel;clear hown0 hB1 ha1;obtain ⟨k, hke⟩ : ∃ k, k = vs.length := ⟨_, rfl⟩;rw [← hke] at hk;rw [← hke];by_cases hlt : k < n
  ·have hke' := Hd hke
   clear hke;go_wp2_with fail;refine (hrow.out _).mono ?_; rintro e w1 ⟨C, p, q, rfl, ho, hx64, hb1⟩;have hown1 := oBl hown.out hb1;have hget := filled_get (vs := vs) (n := n) (by rw [← hke'.out]; exact hlt);have hcg := hown1.cellAt k (by omega);rw [hke'.out, hget, ← hke'.out] at hcg;have hfg := hown1.frozenAt k;have hrows1 := Hd (hrows.out.snoc hb1 ho hx64 (hsr.out));have hBr1 := Hd (hBr.out.below_ hb1);have hbr1 := Hd (bT2 hbr.out hb1);have hsr1 := Hd (Nat.le_trans hsr.out hb1.size);replace hown1 := Hd hown1;clear ho hx64 hget hown hrows hBr hbr hsr hb1;go_wp2_with fail
   go_roundw
   case rel =>
    refine ⟨vs ++ [.slice C p q], by have := hke'.out; simp; omega, by rw [List.length_append, ← hke'.out]; simp; try omega, ?_, ?_, ?_, ?_, ?_⟩
    ·refine Hd ?_
     rw [← filled_set (by rw [← hke'.out]; exact hlt), ← hke'.out];exact (hown1.out.stored k (.slice C p q)).1
    ·refine Hd ?_
     have h := hrows1.out.far (p := ⟨w.heap.size + 1, k, none⟩) (by simp) (.slice C p q);rw [List.length_append, List.length_singleton, List.replicate_succ'];exact h
    ·exact Hd (hBr1.out.far (by simp) _)
    ·exact Hd (hbr1.out.setCell (by simp) _)
    ·exact Hd (by simpa using hsr1.out)
   case measure => simp [intOf]; omega
  ·have hkn : k = n := by omega
   have hvn : vs.length = n := by rw [← hke, hkn]
   clear hlt;have f20 := hBr.out.cell 0;have f21 := hBr.out.cell 1;have g20 := hBr.out.frozen 0;have g21 := hBr.out.frozen 1;simp only [gZ, gS] at f20 f21;replace hvn := Hd hvn;replace hke := Hd hke;obtain rfl := hkn;go_wp2_with fail;have hcc := hBr.out.two (.int .i64 k) (.slice (some ⟨w.heap.size + 1, 0, none⟩) k k);have hc1 := hcc.1;have hc2 := hcc.2;clear hcc f20 f21 g20 g21;refine bodyPost_ret (v := .tuple #[.agg #[.int .i64 k, .slice (some ⟨w.heap.size + 1, 0, none⟩) k k], .int .i64 0]) (by simp [results, Tryz.results88, go_sem, hc1, hc2]) rfl ⟨_, _, _, vs, rfl, ?_, ?_, ?_, ?_⟩
   ·have h := hown.out
    rw [filled_all hvn.out] at h;exact own_base (own_far (own_far h (p := ⟨w.heap.size, 0, none⟩) (by simp [Value.ownBlock]) _) (p := ⟨w.heap.size, 1, none⟩) (by simp [Value.ownBlock]) _) (by omega)
   ·have h := (hrows.out.far (p := ⟨w.heap.size, 0, none⟩) (by simp) (.int .i64 k)).far (p := ⟨w.heap.size, 1, none⟩) (by simp) (.slice (some ⟨w.heap.size + 1, 0, none⟩) k k)
    rw [hvn.out] at h;exact h.base_ (by omega)
   ·intro v hv g hg hh
    have := (hrows.out.lt v hv g hg).1
    simp [Value.ownBlock] at hh
    omega
   ·exact (hbr.out.setCell (by simp) _).setCell (by simp) _


theorem mat_New_no (n : Int) (h : n < 0 ∨ 4097 ≤ n) (w : World) :
  Calls Tryz.prog 88 #[.int .i64 n] w (RetMat 0 [] 1 w) := by
 have hb := Hd (belowZ_no (i := n) (n := 4097) h);have ha : Below w.heap.size w (w.alloc (.cells #[.int .i64 0, .slice none 0 0] 57)) := (Below.refl _ _).alloc (Nat.le_refl _) _;replace ha := Hd ha;clear h
 go_enter Tryz.func88, Tryz.ntmps88
 go_wp2_with fail;refine (mat_below _ _ _).mono ?_; rintro e w' ⟨rfl, rfl⟩;rw [hb.out];go_wp2_with fail;exact bodyPost_ret (v := .tuple #[.agg #[.int .i64 0, .slice none 0 0], .int .i64 1]) (by simp [results, Tryz.results88, go_sem]) rfl ⟨none, 0, 0, rfl, RowsAt.nil _ _, Nat.le_refl _, ha.out⟩

def Put (g q y : Nat) (w : World) (e : Ending) (w' : World) : Prop := e = .returned (.tuple #[]) ∧ ∃ k, w' = (w.drewN k).setCell ⟨g, q, none⟩ (u64v y)
theorem mat_put (g m c : Nat) (j : Nat) (x : Nat) (w : World) (hm : m ≤ 17592186044416) (hj : j < 64 * m) (hx64 : x < 18446744073709551616) (hc : w.cell? ⟨g, j / 64, none⟩ = some (.int .u64 (x : Int))) (hf : w.frozen? ⟨g, j / 64, none⟩ = false) :
  Calls Tryz.prog 89 #[.slice (some ⟨g, 0, none⟩) m c, .int .i64 (j : Int)] w (Put g (j / 64) (x ||| p2 (j % 64)) w) := by
 obtain ⟨r, hre⟩ : ∃ r, r = j % 64 := ⟨_, rfl⟩;have hr64 : r < 64 := by omega
 have hE := u64_or_nat x (p2 r) hx64 (by have := p2_lt r hr64; omega);replace hE := Hd hE;have hA1 : (0 : Int) ≤ (j : Int) / 64 := by omega
 have hA2 : (j : Int) / 64 < (m : Int) := by omega
 have hA3 : ((j : Int) / 64).toNat = j / 64 := by omega
 have hj0 : (0 : Int) ≤ (j : Int) := by omega
 have hrem : (j : Int) % 64 = (r : Int) := by omega
 have hjb : (j : Int) < 9223372036854775807 := by omega
 rw [← hre];clear hre
 go_enter Tryz.func89, Tryz.ntmps89
 go_wp2_with fail;refine still_tail 10 (by kernel_rfl) (by kernel_rfl) (fun W hW => ?_);have hc' : W.cell? ⟨g, j / 64, none⟩ = some (.int .u64 (x : Int)) := by rw [hW.out]; exact hc
 have hf' : W.frozen? ⟨g, j / 64, none⟩ = false := by rw [hW.out]; exact hf
 clear hc hf;simp only [List.take_succ_cons, List.take_zero, List.drop_succ_cons, List.drop_zero];have htd : (j : Int).tdiv 64 = (j : Int) / 64 := Int.tdiv_eq_ediv_of_nonneg hj0;have htm : (j : Int).tmod 64 = (r : Int) := by rw [Int.tmod_eq_emod_of_nonneg hj0]; exact hrem
 have hw1 : IntKind.i64.wrap ((j : Int) / 64) = (j : Int) / 64 := by rw [IntKind.wrap_i64]; omega
 have hw2 : IntKind.i64.wrap (r : Int) = (r : Int) := by rw [IntKind.wrap_i64]; omega
 clear hrem
 repeat
  refine @wpStill_step _ _ _ _ _ _ _ ?_;intro K hK;go_simp;refine hK _ ?_;clear hK K
 refine @wpStill_step _ _ _ _ _ _ _ ?_;intro K hK;go_simp;refine ⟨_, still_call (word_BitN r hr64 _), hK _ ?_⟩;clear hK K
 repeat
  refine @wpStill_step _ _ _ _ _ _ _ ?_;intro K hK;go_simp;refine hK _ ?_;clear hK K
 refine wpStill_nil ?_;clear htd htm hw1 hw2
 go_wp2
 go_end0
 rw [hE.out, hW.out];exact ⟨rfl, 1, rfl⟩


theorem mat_Of_big (n : Int) (h : n < 0 ∨ 4097 ≤ n) (A : Option Addr) (m c : Nat) (w : World) :
  Calls Tryz.prog 58 #[.int .i64 n, .slice A m c] w (RetMat 0 [] 1 w) := by
 have hN := Hd (mat_New_no n h);obtain ⟨W0, hW0⟩ : ∃ W0, W0 = w.alloc (.cells #[.int .i64 0, .slice none 0 0] 57) := ⟨_, rfl⟩;have ha : Below w.heap.size w W0 := by rw [hW0]; exact (Below.refl _ _).alloc (Nat.le_refl _) _
 have hB : MatB W0 w.heap.size 57 0 none 0 0 := by rw [hW0]; exact MatB.new w _
 replace ha := Hd ha;replace hB := Hd hB;clear h
 go_enter Tryz.func58, Tryz.ntmps58
 go_wp2_with fail;rw [← hW0];clear hW0;refine (hN.out _).mono ?_; rintro e w1 ⟨C, p, q, rfl, _, _, hb1⟩;have hbb := Hd (bT2 ha.out hb1);have hB1 := hB.out.below_ hb1;have f20 := hB1.c0;have f21 := hB1.c1;have g20 := hB1.frozen 0;have g21 := hB1.frozen 1;have hlt := hB1.lt;clear hb1;go_wp2_with fail;have hcc := (hB1.put 0 none 0 0).below_ ((Below.refl _ _).alloc (Nat.le_refl _) (.cells #[.int .i64 0, .slice C p q] 57));have hc1 := hcc.c0;have hc2 := hcc.c1;refine bodyPost_ret (v := .tuple #[.agg #[.int .i64 0, .slice none 0 0], .int .i64 1]) (by simp [results, Tryz.results58, go_sem, hc1, hc2]) rfl ⟨none, 0, 0, rfl, RowsAt.nil _ _, Nat.le_refl _, ?_⟩;exact ((hbb.out.setCell (by simp) _).setCell (by simp) _).alloc (by simpa using hbb.out.size) _

structure OfI (w : World) (n : Nat) (ps : List (Int × Int)) (A : Option Addr) (c M : Nat) (vs : List Value) (k : Nat) (wr : World) : Prop where
 res : MatB wr w.heap.size 57 0 none 0 0
 loc : MatB wr M 57 (n : Int) A n c
 out : wr.ownsRow (w.heap.size + 1) 88 1 (.slice A n c) n vs
 rows : OwnRows 89 wr (w.heap.size + 1) vs (foldP n (ps.take k))
 below : Below w.heap.size w wr
theorem OfI.keep {w : World} {n : Nat} {ps : List (Int × Int)} {A : Option Addr} {c M : Nat} {vs : List Value} {k : Nat} {wr w' : World} (h : OfI w n ps A c M vs k wr) (hb : Below wr.heap.size wr w') : OfI w n ps A c M vs k w' :=
 ⟨h.res.below_ hb, h.loc.below_ hb, oBl h.out hb, h.rows.below hb, bT2 h.below hb⟩
theorem OfI.put {w : World} {n : Nat} {ps : List (Int × Int)} {A : Option Addr} {c M : Nat} {vs : List Value} {k : Nat} {wr : World} (h : OfI w n ps A c M vs k wr) (hsep : ∀ v ∈ vs, ∀ g, v.ownBlock = some g → (Value.slice A n c).ownBlock ≠ some g ∧ g ≠ M) {i j : Nat} {g m d : Nat} {xs : List Nat} {x : Nat}
  (hp : ps[k]? = some ((i : Int), (j : Int))) (hv : vs[i]? = some (.slice (some ⟨g, 0, none⟩) m d)) (hx : (foldP n (ps.take k))[i]? = some xs) (hj : j < 64 * xs.length) (hxq : xs[j / 64]? = some x) (q : Nat) :
  OfI w n ps A c M vs (k + 1) ((wr.drewN q).setCell ⟨g, j / 64, none⟩ (u64v (x ||| p2 (j % 64)))) := by
 have hs := hsep _ (List.mem_of_getElem? hv) g rfl;have hx64 : x < 18446744073709551616 := by
  obtain ⟨_, _, _, e, ho, hw⟩ := h.rows.2.1 i _ xs hv hx;exact hw x (List.mem_of_getElem? hxq)
 have hg := h.rows.lt _ (List.mem_of_getElem? hv) g rfl;have hr := (h.rows.put hv hx (j / 64) (x ||| p2 (j % 64)) (or_p2_lt hx64 (by omega)));have he : foldP n (ps.take (k + 1)) = (foldP n (ps.take k)).set i (xs.set (j / 64) (x ||| p2 (j % 64))) := by
  rw [foldP_snoc n ps k _ hp]
  show setM _ (i : Int) (j : Int) = _
  rw [setM_nat hx, setR_in hj hxq]
 refine ⟨?_, ?_, ?_, ?_, ?_⟩
 ·exact (Blk.drewN h.res q).far (by show w.heap.size ≠ g; omega) _
 ·exact (Blk.drewN h.loc q).far (fun e => hs.2 e.symm) _
 ·exact own_far (p := ⟨g, j / 64, none⟩) (own_drewN h.out q) hs.1 _
 ·rw [he]; exact hr
 ·exact (bDN h.below q).setCell (by show w.heap.size ≤ g; omega) _
def ofOk (n : Int) (ps : List (Int × Int)) : Bool := belowZ n 4097 && ps.all (okP n)
def ofN (n : Int) (ps : List (Int × Int)) : Int := if ofOk n ps = true then n else 0
def ofM (n : Int) (ps : List (Int × Int)) : List (List Nat) := if ofOk n ps = true then foldP n.toNat ps else []
def ofE (n : Int) (ps : List (Int × Int)) : Int := if ofOk n ps = true then 0 else 1
theorem okP_no {n : Int} {i j : Int} (h : okP n (i, j) = false) : belowZ i n = false ∨ (belowZ i n = true ∧ belowZ j n = false) := by
 rcases inM_cases h with h | ⟨h1, h2⟩
 ·exact .inl (belowZ_no h)
 ·exact .inr ⟨h1, belowZ_no h2⟩
theorem okP_yes {n : Int} {i j : Int} (h : okP n (i, j) = true) : belowZ i n = true ∧ belowZ j n = true ∧ 0 ≤ i ∧ i < n ∧ 0 ≤ j ∧ j < n := by
 have h' : inM n i j = true := h;unfold inM at h';simp only [Bool.and_eq_true, decide_eq_true_eq] at h';obtain ⟨⟨⟨a, b⟩, c⟩, d⟩ := h';exact ⟨belowZ_yes a b, belowZ_yes c d, a, b, c, d⟩
theorem mat_Of_in (n : Nat) (hn : n ≤ 4096) (A : Option Addr) (m c : Nat) (ps : List (Int × Int)) (w : World) (hp : PairsAt w A m ps) (hm : m ≤ 1073741824) :
  Calls Tryz.prog 58 #[.int .i64 (n : Int), .slice A m c] w (RetMat (ofN n ps) (ofM n ps) (ofE n ps) w) := by
 have hN := Hd (mat_New n hn);have hin : belowZ (n : Int) 4097 = true := belowZ_yes (by omega) (by omega);obtain ⟨W0, hW0⟩ : ∃ W0, W0 = w.alloc (.cells #[.int .i64 0, .slice none 0 0] 57) := ⟨_, rfl⟩;have ha : Below w.heap.size w W0 := by rw [hW0]; exact (Below.refl _ _).alloc (Nat.le_refl _) _
 have hB : MatB W0 w.heap.size 57 0 none 0 0 := by rw [hW0]; exact MatB.new w _
 have hs0 : W0.heap.size = w.heap.size + 1 := by rw [hW0]; simp
 have hyes : Hid (ps.all (okP n) = true → ofN n ps = n ∧ ofM n ps = foldP n ps ∧ ofE n ps = 0) := Hd (fun h => by unfold ofN ofM ofE ofOk; rw [hin, h]; simp);have hno : Hid (∀ p ∈ ps, okP n p = false → ofN n ps = 0 ∧ ofM n ps = [] ∧ ofE n ps = 1) := Hd (fun p hp h => by
  have : ps.all (okP n) = false := List.all_eq_false.2 ⟨p, hp, by rw [h]; simp⟩;unfold ofN ofM ofE ofOk; rw [hin, this]; simp)
 replace ha := Hd ha;replace hB := Hd hB;replace hs0 := Hd hs0;replace hp := Hd hp;clear hin
 go_enter Tryz.func58, Tryz.ntmps58
 go_wp2_with fail;rw [← hW0];clear hW0;refine (hN.out _).mono ?_; rintro e w1 ⟨C, p, q, vs, rfl, hown, hrows, hsep, hb1⟩;have hpn : p = n := by
  have h1 := hown.1;have h2 := hrows.1;have h3 := (DimM.new n).1
  omega
 subst hpn;rw [hs0.out] at hown hrows;obtain ⟨W2, hW2⟩ : ∃ W2, W2 = w1.alloc (.cells #[.int .i64 p, .slice C p q] 57) := ⟨_, rfl⟩;have hb2 : Below w1.heap.size w1 W2 := by rw [hW2]; exact (Below.refl _ _).alloc (Nat.le_refl _) _
 have hI : OfI w p ps C q w1.heap.size vs 0 W2 := by
  refine ⟨(hB.out.below_ hb1).below_ hb2, ?_, oBl hown hb2, ?_, bT2 (bT2 ha.out hb1) hb2⟩
  ·rw [hW2]; exact MatB.new w1 _
  ·rw [List.take_zero, foldP_nil]; exact hrows.below hb2
 have hsep' : ∀ v ∈ vs, ∀ g, v.ownBlock = some g → (Value.slice C p q).ownBlock ≠ some g ∧ g ≠ w1.heap.size := fun v hv g hg => ⟨hsep v hv g hg, by have := (hrows.lt v hv g hg).2; omega⟩;obtain ⟨M, hM⟩ : ∃ M, M = w1.heap.size := ⟨_, rfl⟩;rw [← hM] at hI hsep';replace hI := Hd hI;replace hsep' := Hd hsep';have hpW : Hid (PairsAt W2 A m ps) := Hd (hp.out.below (bT2 (bT2 ha.out hb1) hb2));clear hown hrows hsep hb1 hb2 hN;go_wp2_with fail;rw [← hW2, ← hM];clear hW2 hM
 go_loopw [21] (fun i wr => ∃ k : Nat, k ≤ m ∧ i = .int .i64 k ∧ Hid (OfI w p ps C q M vs k wr) ∧ Hid (∀ x ∈ ps.take k, okP p x = true)) (fun i _ => m - (intOf i).toNat)
 case atStart => exact ⟨0, Nat.zero_le _, rfl, hI, Hd (by simp)⟩
 case round =>
  obtain ⟨k, hk, rfl, hIr, hall⟩ := hrel;clear hI;by_cases hlt : k < m
  ·obtain ⟨b, off, ⟨x, y⟩, rfl, hbl, hx, ⟨⟨x1, x2⟩, ⟨y1, y2⟩⟩, hc1, hc2⟩ := (hp.out.below hIr.out.below).at_ hlt
   simp only at x1 x2 y1 y2 hc1 hc2
   obtain ⟨W3, hW3⟩ : ∃ W3, W3 = wr.alloc (.cells #[.int .i64 x, .int .i64 y] 99) := ⟨_, rfl⟩;have hb3 : Below wr.heap.size wr W3 := by rw [hW3]; exact (Below.refl _ _).alloc (Nat.le_refl _) _
   have hI3 := hIr.out.keep hb3;obtain ⟨T, hT⟩ : ∃ T, T = wr.heap.size := ⟨_, rfl⟩;have hBT : Blk W3 T 99 [.int .i64 x, .int .i64 y] := by rw [hW3, hT]; exact Blk.new wr _ _
   have e0 : W3.cell? ⟨T, 0, none⟩ = some (.int .i64 x) := hBT.cell 0;have e1 : W3.cell? ⟨T, 1, none⟩ = some (.int .i64 y) := hBT.cell 1;have hok1 : okP p (x, y) = true → Hid (∀ z ∈ ps.take (k + 1), okP p z = true) := fun h => Hd (fun z hz => by
    rw [List.take_succ_eq_append_getElem (List.getElem?_eq_some_iff.1 hx).1, (List.getElem?_eq_some_iff.1 hx).2] at hz;rcases List.mem_append.1 hz with h5 | h5
    ·exact hall.out z h5
    ·rw [List.mem_singleton.1 h5]; exact h)
   have hbad : okP p (x, y) = false → Hid (ofN p ps = 0 ∧ ofM p ps = [] ∧ ofE p ps = 1) := fun h => Hd (hno.out _ (List.mem_of_getElem? hx) h);replace hx := Hd hx;have f20 := hI3.res.c0;have f21 := hI3.res.c1;have g20 := hI3.res.frozen 0;have g21 := hI3.res.frozen 1;have hl1 := hI3.loc.c1;replace hI3 := Hd hI3;replace hBT := Hd hBT;clear hb3;rcases Bool.eq_false_or_eq_true (okP p (x, y)) with hok | hok
   ·have hokk := hok1 hok
    obtain ⟨o1, o2, o3, o4, o5, o6⟩ := okP_yes hok;replace o1 := Hd o1;replace o2 := Hd o2;clear hok hok1 hbad;obtain ⟨i, rfl⟩ := Int.eq_ofNat_of_zero_le o3;obtain ⟨j, rfl⟩ := Int.eq_ofNat_of_zero_le o5;have hi : i < p := by omega
    have hdim := DimM.fold p (ps.take k);obtain ⟨xs, hxs⟩ : ∃ xs, (foldP p (ps.take k))[i]? = some xs := ⟨_, List.getElem?_eq_getElem (by rw [hdim.1]; exact hi)⟩;have hxl := hdim.2 i xs hxs;have hwp := words_pos (n := p) (by omega);have hwl := words_le (n := p) hn;obtain ⟨v, hv⟩ : ∃ v, vs[i]? = some v := ⟨_, List.getElem?_eq_getElem (by rw [hI3.out.rows.1, hdim.1]; exact hi)⟩;obtain ⟨B, mm, d, rfl, hro, hr64⟩ := hI3.out.rows.2.1 i v xs hv hxs;have hmm : mm = xs.length := by have := hro.1; simpa using this.symm
    obtain ⟨g, cap, hge, _⟩ := hro.form (by omega);injection hge with hg1 hg2 hg3;subst hg1;obtain ⟨xw, hxw⟩ : ∃ xw, xs[j / 64]? = some xw := ⟨_, List.getElem?_eq_getElem (by omega)⟩;have hxw64 := hr64 _ (List.mem_of_getElem? hxw);have hout := hI3.out.out;have hAf : ∃ G, C = some ⟨G, 0, none⟩ := by
     obtain ⟨G, cap', hh, _⟩ := hout.form (by omega);injection hh with h1 h2 h3;exact ⟨G, h1⟩
    obtain ⟨G, rfl⟩ := hAf;have hjm : j < 64 * mm := by omega
    have hmm2 : mm ≤ 64 := by omega
    have hcr : W3.cell? ⟨G, i, none⟩ = some (.slice (some ⟨g, 0, none⟩) mm d) := by rw [hout.cellAt _ (by omega)]; exact hv
    have hcw : W3.cell? ⟨g, j / 64, none⟩ = some (.int .u64 (xw : Int)) := by
     rw [hro.cellAt _ (by omega), List.getElem?_map, hxw]; rfl
    have hfw := hro.frozenAt (j / 64);have hi0 : (0 : Int) ≤ (i : Int) := by omega
    have hip : (i : Int) < (p : Int) := by omega
    have hput := Hd (mat_put g mm d j xw);have hupd := Hd (fun W (hI : OfI w p ps (some ⟨G, 0, none⟩) q M vs k W) (z : Nat) => hI.put hsep'.out hx.out hv hxs (j := j) (x := xw) (by omega) hxw z);clear hdim hxs hxl hwp hwl hv hro hr64 hmm hxw hout hg2 hg3;go_wp2_with fail;rw [← hW3, ← hT];clear hW3 hT;refine (mat_below _ _ _).mono ?_; rintro e w' ⟨rfl, rfl⟩;rw [o1.out];go_wp2_with fail;refine (mat_below _ _ _).mono ?_; rintro e w' ⟨rfl, rfl⟩;rw [o2.out];go_wp2_with fail;refine still_tail 8 (by kernel_rfl) (by kernel_rfl) (fun W hW => ?_);have k0 : W.cell? ⟨T, 0, none⟩ = some (.int .i64 i) := by rw [hW.out]; exact e0
    have k1 : W.cell? ⟨T, 1, none⟩ = some (.int .i64 j) := by rw [hW.out]; exact e1
    have k2 : W.cell? ⟨M, 1, none⟩ = some (.slice (some ⟨G, 0, none⟩) p q) := by rw [hW.out]; exact hl1
    have k3 : W.cell? ⟨G, i, none⟩ = some (.slice (some ⟨g, 0, none⟩) mm d) := by rw [hW.out]; exact hcr
    have k4 := Hd (show W.cell? ⟨g, j / 64, none⟩ = some (.int .u64 (xw : Int)) by rw [hW.out]; exact hcw);have k5 := Hd (show W.frozen? ⟨g, j / 64, none⟩ = false by rw [hW.out]; exact hfw);have hIW := Hd (show OfI w p ps (some ⟨G, 0, none⟩) q M vs k W by rw [hW.out]; exact hI3.out.keep (Below.refl _ _).drew);clear e0 e1 hl1 hcr hcw hfw f20 f21 g20 g21 hc1 hc2;simp only [List.take_succ_cons, List.take_zero, List.drop_succ_cons, List.drop_zero]
    repeat
     refine @wpStill_step _ _ _ _ _ _ _ ?_;intro K hK;go_simp;refine hK _ ?_;clear hK K
    refine wpStill_nil ?_;go_wp2_with fail;refine (hput.out W (by omega) hjm hxw64 k4.out k5.out).mono ?_; rintro e w' ⟨rfl, z, rfl⟩
    go_wp2
    go_roundw
    case rel => exact ⟨k + 1, by omega, by go_num, Hd (hupd.out W hIW.out z), hokk⟩
    case measure => simp [intOf]; omega
   ·have hbb := hbad hok
    rcases okP_no hok with o1 | ⟨o1, o2⟩
    ·replace o1 := Hd o1
     clear hok hok1 hbad;go_wp2_with fail;rw [← hW3, ← hT];clear hW3 hT;refine (mat_below _ _ _).mono ?_; rintro e w' ⟨rfl, rfl⟩;rw [o1.out];go_wp2_with fail;have hcc := hI3.out.res.two (.int .i64 0) (.slice none 0 0);have hc5 := hcc.1;have hc6 := hcc.2;obtain ⟨q1, q2, q3⟩ := hbb.out;rw [q1, q2, q3];exact bodyPost_ret (v := .tuple #[.agg #[.int .i64 0, .slice none 0 0], .int .i64 1]) (by simp [results, Tryz.results58, go_sem, hc5, hc6]) rfl ⟨none, 0, 0, rfl, RowsAt.nil _ _, Nat.le_refl _, (hI3.out.below.setCell (by simp) _).setCell (by simp) _⟩
    ·replace o1 := Hd o1
     replace o2 := Hd o2;clear hok hok1 hbad;go_wp2_with fail;rw [← hW3, ← hT];clear hW3 hT;refine (mat_below _ _ _).mono ?_; rintro e w' ⟨rfl, rfl⟩;rw [o1.out];go_wp2_with fail;refine (mat_below _ _ _).mono ?_; rintro e w' ⟨rfl, rfl⟩;rw [o2.out];go_wp2_with fail;have hcc := hI3.out.res.two (.int .i64 0) (.slice none 0 0);have hc5 := hcc.1;have hc6 := hcc.2;obtain ⟨q1, q2, q3⟩ := hbb.out;rw [q1, q2, q3];exact bodyPost_ret (v := .tuple #[.agg #[.int .i64 0, .slice none 0 0], .int .i64 1]) (by simp [results, Tryz.results58, go_sem, hc5, hc6]) rfl ⟨none, 0, 0, rfl, RowsAt.nil _ _, Nat.le_refl _, (hI3.out.below.setCell (by simp) _).setCell (by simp) _⟩
  ·have hkm : k = m := by omega
   have hall' : ps.all (okP p) = true := List.all_eq_true.2 (fun z hz => hall.out z (by rw [List.take_of_length_le (by rw [hp.out.1]; omega)]; exact hz));have hy := Hd (hyes.out hall');have hfull : ps.take k = ps := List.take_of_length_le (by rw [hp.out.1]; omega);have hI3 := hIr.out;have hrw := hI3.rows;rw [hfull] at hrw;replace hrw := Hd hrw;have f20 := hI3.res.c0;have f21 := hI3.res.c1;have g20 := hI3.res.frozen 0;have g21 := hI3.res.frozen 1;have hl0 := hI3.loc.c0;have hl1 := hI3.loc.c1;replace hI3 := Hd hI3;clear hfull hall' hkm;go_wp2_with fail;have hcc := hI3.out.res.two (.int .i64 p) (.slice C p q);have hc5 := hcc.1;have hc6 := hcc.2;obtain ⟨q1, q2, q3⟩ := hy.out;rw [q1, q2, q3];refine bodyPost_ret (v := .tuple #[.agg #[.int .i64 p, .slice C p q], .int .i64 0]) (by simp [results, Tryz.results58, go_sem, hc5, hc6]) rfl ⟨_, _, _, rfl, ⟨vs, ?_, ?_⟩, own_cap hI3.out.out, (hI3.out.below.setCell (by simp) _).setCell (by simp) _⟩
   ·have hne : (Value.slice C p q).ownBlock ≠ some w.heap.size := fun e => by have := oLb hI3.out.out _ e; omega
    exact Rd.of_own' (own_far (own_far hI3.out.out (p := ⟨w.heap.size, 0, none⟩) hne _) (p := ⟨w.heap.size, 1, none⟩) hne _)
   ·exact ((hrw.out.far (p := ⟨w.heap.size, 0, none⟩) (by simp) _).far (p := ⟨w.heap.size, 1, none⟩) (by simp) _).rows
theorem mat_Of (n : Int) (A : Option Addr) (m c : Nat) (ps : List (Int × Int)) (w : World) (hp : PairsAt w A m ps) (hm : m ≤ 1073741824) :
  Calls Tryz.prog 58 #[.int .i64 n, .slice A m c] w (RetMat (ofN n ps) (ofM n ps) (ofE n ps) w) := by
 by_cases h : 0 ≤ n ∧ n < 4097
 ·obtain ⟨k, rfl⟩ := Int.eq_ofNat_of_zero_le h.1
  exact mat_Of_in k (by omega) A m c ps w hp hm
 ·have hb := belowZ_no (i := n) (n := 4097) (by omega)
  have h0 : ofOk n ps = false := by unfold ofOk; rw [hb]; rfl
  have h1 : ofN n ps = 0 ∧ ofM n ps = [] ∧ ofE n ps = 1 := by unfold ofN ofM ofE; rw [h0]; simp
  rw [h1.1, h1.2.1, h1.2.2];exact mat_Of_big n (by omega) A m c w

end Go.Proofs.YtjhjojklfdjmdaaGreat
