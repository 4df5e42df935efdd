/- Contracts of package hull: copied, join, Close. Contracts of package hull: Add. Plain mathematics of layer 18's own code: pairs that lead to one number, put into a closed matrix at once; for one number after the other they make the hull. Nothing of the program is named. The code's own contracts of layer 18: pairs that lead to one number are put into the rows of a closed matrix (meet, lead). The code's own contracts of layer 18: the first writes of edges, by their second ones (firsts). The code's own contracts of layer 18: the hull of a closed matrix with more pairs (added). Words for memory: slices of operations of a call's own, each in a block of its own. No function of the program is named here. Words for memory: lists of anything, each in a block of its own, in a row of slices that is written in place; what lies apart from them stays. No function of the program is named. -/
import Derived.Test.YtjhjojklfdjmdaaGreatBadTellsPk4
import Derived.Test.YtjhjojklfdjmdaaGreatBadTellsPk3
import Derived.Laws.BitsAllLaws
import Derived.Test.YtjhjojklfdjmdaaGreatBadTellsPk2
import Derived.Test.YtjhjojklfdjmdaaGreatBadTellsPk8
import Derived.Test.YtjhjojklfdjmdaaGreatBadTellsPk1
import Derived.OneCell
namespace Go.Proofs.YtjhjojklfdjmdaaGreat
set_option maxRecDepth 100000
set_option maxHeartbeats 8000000
open Go.RowKit
set_option linter.unusedVariables false

theorem own_only {w w' : World} {g base : Nat} {e : TypeId} {size n : Nat} {v : Value} {vs : List Value} (h : w.ownsRow base e size v n vs) (ho : OnlyAt g w w') (hne : v.ownBlock ≠ some g) : w'.ownsRow base e size v n vs := by
 refine ⟨h.1, ?_⟩;rcases h.2 with ⟨h1, h2⟩ | ⟨k, cap, cur, rfl, hbg, hg, r⟩
 ·exact .inl ⟨h1, h2⟩
 ·exact .inr ⟨k, cap, cur, rfl, hbg, (ho.block k (fun e => hne (by rw [← e]; rfl))).trans hg, r⟩
theorem Blk.only {w w' : World} {g k : Nat} {t : TypeId} {cs : List Value} (h : Blk w k t cs) (ho : OnlyAt g w w') (hne : k ≠ g) : Blk w' k t cs := (ho.block k hne).trans h
theorem Row.only {w w' : World} {g n : Nat} {A : Option Addr} {xs : List Nat} (h : Row w A n xs) (ho : OnlyAt g w w') (hne : ∀ ad, A = some ad → ad.block ≠ g) : Row w' A n xs := by
 refine ⟨⟨h.1.1, fun hn => ?_⟩, h.2⟩;obtain ⟨b, off, e, hb, hc⟩ := h.1.2 hn;have hbg := hne _ e;exact ⟨b, off, e, by rw [ho.size]; exact hb, fun j u hu => (ho.cell (p := ⟨b, off + j, none⟩) hbg).trans (hc j u hu)⟩
theorem below_only {w w' w0 : World} {g : Nat} (h : Below w0.heap.size w0 w) (ho : OnlyAt g w w') (hg : w0.heap.size ≤ g) : Below w0.heap.size w0 w' := h.trans (ho.below.mono hg)
theorem OwnRows.joined {t : TypeId} {w w' : World} {base : Nat} {vs : List Value} {xss : List (List Nat)} (h : OwnRows t w base vs xss) {i g m c : Nat} {ys : List Nat} (hv : vs[i]? = some (.slice (some ⟨g, 0, none⟩) m c))
  (ho : OnlyAt g w w') (hy : w'.ownsRow base t 1 (.slice (some ⟨g, 0, none⟩) m c) m (ys.map u64v)) (hw : W64 ys) : OwnRows t w' base vs (xss.set i ys) := by
 refine ⟨by simp [h.1], fun k v zs h1 h2 => ?_, h.2.2⟩;rw [List.getElem?_set] at h2;by_cases hk : i = k
 ·subst hk
  rw [if_pos rfl] at h2
  split at h2
  ·injection h2 with h2
   subst h2;rw [hv] at h1;injection h1 with h1;subst h1;exact ⟨_, _, _, rfl, hy, hw⟩
  ·cases h2
 ·rw [if_neg hk] at h2
  obtain ⟨A, m', c', e, h3, hx⟩ := h.2.1 k v zs h1 h2;subst e;exact ⟨A, m', c', rfl, own_only h3 ho (h.2.2 i k _ _ g hk hv h1 rfl), hx⟩
theorem orK_self (a : List Nat) (k : Nat) : orK a a k = a := by
 unfold orK
 apply List.ext_getElem?
 intro j;rw [List.getElem?_map];by_cases hj : j < a.length
 ·rw [List.getElem?_range hj, Option.map_some, Nat.or_self, ite_self, List.getD_eq_getElem?_getD, List.getElem?_eq_getElem hj]; rfl
 ·rw [List.getElem?_eq_none (by simpa using hj), List.getElem?_eq_none (by omega)]; rfl
theorem set_self {α : Type} {l : List α} {q : Nat} {r : α} (h : l[q]? = some r) : l.set q r = l := by
 apply List.ext_getElem?
 intro i;rw [List.getElem?_set];by_cases hq : q = i
 ·subst hq
  rw [if_pos rfl, if_pos (List.getElem?_eq_some_iff.1 h).1, h]
 ·rw [if_neg hq]
theorem and_p2 (x r : Nat) (hx : x < 18446744073709551616) (hr : r < 64) : (bits BinOp.and IntKind.u64 (x : Int) ((p2 r : Nat) : Int) != 0) = x.testBit r := by
 have hp := p2_lt r hr;rw [u64_and_nat x (p2 r) hx (by omega)];unfold p2
 cases h : x.testBit r with
 | true =>
  rw [bne_iff_ne];intro h0;have h1 : x &&& 2 ^ r = 0 := by omega
  have h2 := congrArg (·.testBit r) h1
  simp [h] at h2
 | false =>
  have : x &&& 2 ^ r = 0 := by
   apply Nat.eq_of_testBit_eq
   intro i;rw [Nat.testBit_and, Nat.testBit_two_pow, Nat.zero_testBit];by_cases hi : r = i
   ·subst hi; rw [h]; rfl
   ·simp [hi]
  rw [this]; rfl

def RetWords (n : Nat) (xs : List Nat) (w : World) (e : Ending) (w' : World) : Prop :=
 ∃ g cap, e = .returned (.slice (some ⟨g, 0, none⟩) n cap) ∧ w'.ownsRow w.heap.size 89 1 (.slice (some ⟨g, 0, none⟩) n cap) n (xs.map u64v) ∧ Below w.heap.size w w'
theorem clone_words (b off n c : Nat) (xs : List Nat) (w : World) (hr : Row w (some ⟨b, off, none⟩) n xs) (h0 : 0 < n) (hn : n ≤ 1073741824) :
  Calls Tryz.prog 77 #[.slice (some ⟨b, off, none⟩) n c] w (RetWords n xs w) := by
 obtain ⟨i0, hi, hz0, hz1, hz2⟩ := info_parts info_u64;replace hi := Hd hi;replace hz0 := Hd hz0;replace hz1 := Hd hz1;replace hz2 := Hd hz2;have hlit : (w.alloc (.cells #[] 89)).ownsRow w.heap.size 89 1 (.slice (some ⟨w.heap.size, 0, none⟩) 0 0) 0 [] := by
  have h := World.ownsRow_lit (size := 1) (base := w.heap.size) (e := 89) w #[] 0 (Nat.le_refl _) (by omega) (by simp)
  simpa using h
 have hb0 : Below w.heap.size w (w.alloc (.cells #[] 89)) := bAl _ _;have hrd : Rd (w.alloc (.cells #[] 89)) (some ⟨b, off, none⟩) n (xs.map u64v) := (hr.below hb0).1;have h1 : ∀ u ∈ xs.map u64v, u.oneCell' = true := fun u hu => by
  obtain ⟨x, _, rfl⟩ := List.mem_map.1 hu; rfl
 clear hr;have hnil : ∀ W : World, (binOp .eql 88 (.slice (some ⟨b, off, none⟩) n c) (.slice none 0 0)).run Tryz.prog W = .ok (.bool false) W := fun W => by kernel_rfl
 go_enter Tryz.func77, Tryz.ntmps77
 go_wp2_with (at_builtin; refine wpList_append_rd rfl (.tmp 5) (.tmp 6) _ rfl w.heap.size 89 i0 _ 8 Tryz.underlying88 hi.out hz0.out hz1.out hz2.out rfl _ 0 _ (by rfl) hlit _ n c _ rfl hrd h1 (by unfold maxLen; omega) (by omega) hb0.size ?_; intro v1 w1 hown1 hbb hform; simp only [Nat.zero_add, List.nil_append] at hown1 hform; have hb1 := hb0.trans hbb; obtain ⟨g, cap, rfl⟩ := hform h0; clear hbb hlit hb0 hrd hform);go_ret;exact ⟨_, _, rfl, hown1, hb1⟩

def RetRowsO (xss : List (List Nat)) (w : World) (e : Ending) (w' : World) : Prop :=
 ∃ vs, e = .returned (.slice (some ⟨w.heap.size, 0, none⟩) xss.length xss.length) ∧ w'.ownsRow w.heap.size 88 1 (.slice (some ⟨w.heap.size, 0, none⟩) xss.length xss.length) xss.length vs ∧ OwnRows 89 w' (w.heap.size + 1) vs xss ∧ Below w.heap.size w w' ∧ w.heap.size + 1 ≤ w'.heap.size
theorem hull_copied (A : Option Addr) (n c : Nat) (a : List (List Nat)) (w : World) (hr : RowsAt w A n a) (hn : n ≤ 4096) (hl : ∀ (k : Nat) (xs : List Nat), a[k]? = some xs → 0 < xs.length ∧ xs.length ≤ 1024) :
  Calls Tryz.prog 47 #[.slice A n c] w (RetRowsO a w) := by
 have hlen := hr.len;have hmk := mk_rows .i64 .i64 n n (Nat.le_refl _) (by omega);obtain ⟨W1, hW1⟩ : ∃ W1, W1 = w.alloc (.cells (zeros n (.slice none 0 0)) 88) := ⟨_, rfl⟩;have ha1 : Below w.heap.size w W1 := by rw [hW1]; exact bAl _ _
 have hs1 : W1.heap.size = w.heap.size + 1 := by rw [hW1]; simp
 have hown0 : W1.ownsRow w.heap.size 88 1 (.slice (some ⟨w.heap.size, 0, none⟩) n n) n (filled [] n) := by
  have h := own_zeros w n (.slice none 0 0) 88 (by unfold maxLen; omega);rw [← hW1] at h;rw [filled_nil]; exact h
 have hs1' := Hd hs1;replace hown0 := Hd hown0;replace ha1 := Hd ha1;replace hr := Hd hr;replace hl := Hd hl;replace hlen := Hd hlen;clear hs1
 go_enter Tryz.func47, Tryz.ntmps47
 go_wp2_with fail;rw [← hW1];clear hW1 hmk
 go_loopw [11] (fun i wr => ∃ vs : List Value, vs.length ≤ n ∧ i = .int .i64 vs.length ∧ Hid (wr.ownsRow w.heap.size 88 1 (.slice (some ⟨w.heap.size, 0, none⟩) n n) n (filled vs n)) ∧ Hid (OwnRows 89 wr (w.heap.size + 1) vs (a.take vs.length)) ∧ Hid (Below w.heap.size w wr) ∧ Hid (w.heap.size + 1 ≤ wr.heap.size)) (fun i _ => n - (intOf i).toNat)
 case atStart => exact ⟨[], Nat.zero_le _, rfl, hown0, Hd (OwnRows.nil _ _ _), ha1, Hd (by rw [hs1'.out]; exact Nat.le_refl _)⟩
 case round =>
  obtain ⟨vs, hk, rfl, hown, hrows, hbr, hsr⟩ := hrel;clear hown0 ha1;obtain ⟨k, hke⟩ : ∃ k, k = vs.length := ⟨_, rfl⟩;rw [← hke] at hk;rw [← hke];by_cases hlt : k < n
  ·have hke' := Hd hke
   clear hke;obtain ⟨b, off, B, m, d, xs, rfl, hbl, hx, hc, hxr⟩ := (hr.out.below hbr.out).at_ hlt;have hm0 : 0 < m ∧ m ≤ 1024 := by have := hxr.len; have := hl.out k xs hx; omega
   obtain ⟨b2, off2, _, rfl, _, _, _, _⟩ := hxr.at_ hm0.1;have hC := Hd (clone_words b2 off2 m d xs wr hxr hm0.1 (by omega));have hx64 := Hd hxr.2;have hstep : Hid (a.take (k + 1) = a.take k ++ [xs]) := Hd (by
    rw [List.take_succ_eq_append_getElem (List.getElem?_eq_some_iff.1 hx).1, (List.getElem?_eq_some_iff.1 hx).2])
   have hk0 : (0 : Int) ≤ (k : Int) := by omega
   have hkn : (k : Int) < (n : Int) := by omega
   clear hx hxr hm0;go_wp2_with fail;refine hC.out.mono ?_; rintro e w1 ⟨G, q, rfl, ho, hb1⟩;have hown1 := oBl hown.out hb1;have hget := filled_get (vs := vs) (n := n) (by rw [← hke'.out]; exact hlt);have hcg := hown1.cellAt k (by omega);rw [hke'.out, hget, ← hke'.out] at hcg;have hfg := hown1.frozenAt k;have hrows1 := Hd (hrows.out.snoc hb1 ho hx64.out hsr.out);have hbr1 := Hd (bT2 hbr.out hb1);have hsr1 := Hd (Nat.le_trans hsr.out hb1.size);replace hown1 := Hd hown1;clear ho hget hown hrows hbr hsr hb1 hc;go_wp2_with fail
   go_roundw
   case rel =>
    refine ⟨vs ++ [.slice (some ⟨G, 0, none⟩) m q], by have := hke'.out; simp; omega, by rw [List.length_append, ← hke'.out]; simp; try omega, ?_, ?_, ?_, ?_⟩
    ·refine Hd ?_
     rw [← filled_set (by rw [← hke'.out]; exact hlt), ← hke'.out];exact (hown1.out.stored k _).1
    ·refine Hd ?_
     have h := hrows1.out.far (p := ⟨w.heap.size, k, none⟩) (by simp) (.slice (some ⟨G, 0, none⟩) m q);rw [← hke'.out] at h;rw [List.length_append, List.length_singleton, ← hke'.out, hstep.out];exact h
    ·exact Hd (hbr1.out.setCell (by simp) _)
    ·exact Hd (by simpa using hsr1.out)
   case measure => simp [intOf]; omega
  ·obtain rfl : n = k := by omega
   have hvn := Hd hke.symm;clear hlt hke;go_wp2_with fail;go_ret;refine ⟨vs, by rw [hlen.out]; rfl, ?_, ?_, hbr.out, hsr.out⟩
   ·have h := hown.out
    rw [filled_all hvn.out] at h;rw [hlen.out]; exact h
   ·have h := hrows.out
    rw [hvn.out, List.take_of_length_le (by rw [hlen.out]; exact Nat.le_refl _)] at h;exact h

def RetJoinIn (g base n c : Nat) (zs : List Nat) (w : World) (e : Ending) (w' : World) : Prop :=
 e = .returned (.tuple #[]) ∧ w'.ownsRow base 89 1 (.slice (some ⟨g, 0, none⟩) n c) n (zs.map u64v) ∧ OnlyAt g w w'
theorem hull_join (g base n c d : Nat) (B : Option Addr) (xs ys : List Nat) (w : World) (hown : w.ownsRow base 89 1 (.slice (some ⟨g, 0, none⟩) n c) n (xs.map u64v)) (hx : W64 xs) (hs : Row w B n ys)
  (hal : (∀ ad, B = some ad → ad.block ≠ g) ∨ (B = some ⟨g, 0, none⟩ ∧ ys = xs)) (hn : n ≤ 1073741824) :
  Calls Tryz.prog 49 #[.slice (some ⟨g, 0, none⟩) n c, .slice B n d] w (RetJoinIn g base n c (orR xs ys) w) := by
 have hl : xs.length = n := by have := hown.1; simpa using this
 have hl2 := hs.len;have hd : ∀ k, xs.getD k 0 < 18446744073709551616 := fun k => getD_w64 hx k;have hall : orK xs ys n = orR xs ys := by rw [← hl2]; exact orK_all xs ys (by omega)
 have hrow : ∀ (k : Nat) (W : World), W.ownsRow base 89 1 (.slice (some ⟨g, 0, none⟩) n c) n ((orK xs ys k).map u64v) → OnlyAt g w W → Row W B n ys := fun k W h1 h2 => by
  rcases hal with h | ⟨h, h'⟩
  ·exact hs.only h2 h
  ·subst h h'
   rw [orK_self] at h1;exact Row.of_own h1 hx
 replace hrow := Hd hrow;replace hall := Hd hall;replace hd := Hd hd;replace hl := Hd hl;replace hown := Hd hown;clear hs hal hl2
 go_enter Tryz.func49, Tryz.ntmps49
 go_wp2_with fail
 go_loopw [8] (fun i wr => ∃ k : Nat, k ≤ n ∧ i = .int .i64 k ∧ Hid (wr.ownsRow base 89 1 (.slice (some ⟨g, 0, none⟩) n c) n ((orK xs ys k).map u64v)) ∧ Hid (OnlyAt g w wr)) (fun i _ => n - (intOf i).toNat)
 case atStart => exact ⟨0, Nat.zero_le _, rfl, Hd (by rw [orK_zero]; exact hown.out), Hd (OnlyAt.refl _ _)⟩
 case round =>
  obtain ⟨k, hk, rfl, hownr, hor⟩ := hrel;clear hown;by_cases hlt : k < n
  ·obtain ⟨b, off, y, rfl, hbk, hy, hy64, hc⟩ := (hrow.out k wr hownr.out hor.out).at_ hlt
   have hgx := orK_get xs ys k (by rw [hl.out]; omega);have hx64 := hd.out k;obtain ⟨x, hx'⟩ : ∃ x, x = xs.getD k 0 := ⟨_, rfl⟩;rw [← hx'] at hgx hx64;have hcg : wr.cell? ⟨g, k, none⟩ = some (.int .u64 (x : Int)) := by
    rw [hownr.out.cellAt _ (by omega), List.getElem?_map, hgx]; rfl
   have hf := hownr.out.frozenAt k;have hE := Hd (u64_or_nat x y hx64 hy64);have hst := orK_set xs ys k;rw [← hx', Row.get hy] at hst;replace hst := Hd hst;have hk0 : (0 : Int) ≤ (k : Int) := by omega
   have hkn : (k : Int) < (n : Int) := by omega
   clear hgx hy;replace hx' := Hd hx';go_wp2_with fail
   go_roundw
   case rel =>
    refine ⟨k + 1, by omega, by go_num, ?_, Hd (hor.out.set k _)⟩;refine Hd ?_;rw [hE.out, ← hst.out, List.map_set];exact (hownr.out.stored _ _).1
   case measure => simp [intOf]; omega
  ·obtain rfl : k = n := by omega
   go_wp2_with fail
   go_end0
   exact ⟨rfl, by rw [← hall.out]; exact hownr.out, hor.out⟩

def CloseI (w : World) (n : Nat) (A : Option Addr) (c : Nat) (vs : List Value) (xss : List (List Nat)) (wr : World) : Prop :=
 wr.ownsRow (w.heap.size + 2) 88 1 (.slice (some ⟨w.heap.size + 2, 0, none⟩) n n) n vs ∧ OwnRows 89 wr (w.heap.size + 3) vs xss ∧ MatB wr w.heap.size 57 n A n c ∧ MatB wr (w.heap.size + 1) 57 0 none 0 0 ∧ Below w.heap.size w wr
theorem CloseI.join {w : World} {n : Nat} {A : Option Addr} {c : Nat} {vs : List Value} {xss : List (List Nat)} {wr w' : World} (h : CloseI w n A c vs xss wr) {i g m d : Nat} {ys : List Nat} (hv : vs[i]? = some (.slice (some ⟨g, 0, none⟩) m d))
  (hg : w.heap.size + 3 ≤ g) (ho : OnlyAt g wr w') (hy : w'.ownsRow (w.heap.size + 3) 89 1 (.slice (some ⟨g, 0, none⟩) m d) m (ys.map u64v)) (hw : W64 ys) : CloseI w n A c vs (xss.set i ys) w' := by
 obtain ⟨h1, h2, h3, h4, h5⟩ := h;exact ⟨own_only h1 ho (by simp [Value.ownBlock]; omega), h2.joined hv ho hy hw, Blk.only h3 ho (by omega), Blk.only h4 ho (by omega), below_only h5 ho (by omega)⟩
theorem hull_Close (A : Option Addr) (n c : Nat) (a : List (List Nat)) (w : World) (hr : RowsAt w A n a) (hG : Good n a) :
  Calls Tryz.prog 28 #[.agg #[.int .i64 (n : Int), .slice A n c]] w (RetMat1 (n : Int) (closeK a n) w) := by
 have hal : a.length = n := hG.len;have hnn : n ≤ 4096 := hG.le;obtain ⟨W0, hW0⟩ : ∃ W0, W0 = (w.alloc (.cells #[.int .i64 n, .slice A n c] 57)).alloc (.cells #[.int .i64 0, .slice none 0 0] 57) := ⟨_, rfl⟩;have ha : Below w.heap.size w W0 := by rw [hW0]; exact ((Below.refl _ _).alloc (Nat.le_refl _) _).alloc (by simp) _
 have hB1 : MatB W0 w.heap.size 57 n A n c := by rw [hW0]; exact (MatB.new w _).below_ (bAl _ _)
 have hB2 : MatB W0 (w.heap.size + 1) 57 0 none 0 0 := by rw [hW0]; exact MatB.new1 w _ _
 have hs0 : W0.heap.size = w.heap.size + 2 := by rw [hW0]; simp
 have l0 := hB1.c0;have l1 := hB1.c1;have hcop := hull_copied A n c a W0 (hr.below ha) hnn (fun k xs hx => by
  have h1 := hG.row xs (List.mem_of_getElem? hx);have h2 := hG.small xs (List.mem_of_getElem? hx);have h3 : 0 < n := by have := (List.getElem?_eq_some_iff.1 hx).1; omega
  omega)
 unfold RetRowsO at hcop;rw [hal, hs0] at hcop;replace hcop := Hd hcop;replace ha := Hd ha;replace hB1 := Hd hB1;replace hB2 := Hd hB2;replace hs0 := Hd hs0;replace hal := Hd hal;have hK := Hd (fun k hk => closeK_facts hG k hk);replace hG := Hd hG;clear hr
 go_enter Tryz.func28, Tryz.ntmps28
 go_wp2_with fail;rw [← hW0];clear hW0;go_wp2_with fail;refine hcop.out.mono ?_; rintro e w1 ⟨vs, rfl, ho1, ho2, hb1, hs1⟩;have hI : Hid (CloseI w n A c vs a w1) := Hd ⟨ho1, ho2, hB1.out.below_ (hb1.mono (by rw [hs0.out]; exact Nat.le_refl _)), hB2.out.below_ (hb1.mono (by rw [hs0.out]; exact Nat.le_refl _)), ha.out.trans (hb1.mono (by omega))⟩;have hvl : vs.length = n := by have := ho1.1; simpa using this
 replace hvl := Hd hvl;clear ho1 ho2 hb1 hs1 hcop hB1 hB2 ha l0 l1;go_wp2_with fail
 go_loopw [15] (fun i wr => ∃ k : Nat, k ≤ n ∧ i = .int .i64 k ∧ Hid (CloseI w n A c vs (closeK a k) wr)) (fun i _ => n - (intOf i).toNat)
 case atStart => exact ⟨0, Nat.zero_le _, rfl, hI⟩
 case round =>
  obtain ⟨k, hk, rfl, hIr⟩ := hrel;clear hI;by_cases hlt : k < n
  ·have hGk := (hK.out k hk).1
   obtain ⟨rk, hrk, hwk, hlk⟩ := hGk.at_ hlt;obtain ⟨vk, hvk⟩ : ∃ v, vs[k]? = some v := ⟨_, List.getElem?_eq_getElem (by rw [hvl.out]; exact hlt)⟩;obtain ⟨Ak, mk, dk, rfl, hok, _⟩ := hIr.out.2.1.2.1 k vk rk hvk hrk;have hmk : rk.length = mk := by have := hok.1; simpa using this
   obtain ⟨gk, hgk0, rfl⟩ : ∃ gk, w.heap.size + 3 ≤ gk ∧ Ak = some ⟨gk, 0, none⟩ := by
    obtain ⟨g, cap, hv, _⟩ := hok.form (by omega);injection hv with hv;subst hv;exact ⟨g, oLb hok g rfl, rfl⟩
   have hmk1 : mk ≤ 64 := by have := hGk.small rk (List.mem_of_getElem? hrk); omega
   have hkm : k / 64 < mk := by omega
   have hpl := Hd (fun W => hull_place k (by omega) W);have hck := hIr.out.1.cellAt k (by omega);rw [hvk] at hck;have hk0 : (0 : Int) ≤ (k : Int) := by omega
   have hkn : (k : Int) < (n : Int) := by omega
   replace hGk := Hd hGk;replace hrk := Hd hrk;replace hvk := Hd hvk;replace hmk := Hd hmk;clear hok hwk hlk;go_wp2_with fail;refine (hpl.out wr).mono ?_; rintro e w' ⟨rfl, rfl⟩;clear hpl;go_wp2_with fail;clear hck
   go_loopw [27] (fun i wi => ∃ q : Nat, q ≤ n ∧ i = .int .i64 q ∧ Hid (CloseI w n A c vs (stepM (closeK a k) k q) wi)) (fun i _ => n - (intOf i).toNat)
   case atStart => exact ⟨0, Nat.zero_le _, rfl, Hd (by rw [stepM_zero]; exact hIr.out)⟩
   case round =>
    obtain ⟨q, hq, rfl, hIq⟩ := hrel;clear hIr;by_cases hlq : q < n
    ·obtain ⟨r, hrq, hwq, hlq2⟩ := hGk.out.at_ hlq
     have hrs : (stepM (closeK a k) k q)[q]? = some r := by rw [stepM_get hrq, if_neg (Nat.lt_irrefl _)]
     obtain ⟨v, hv⟩ : ∃ v, vs[q]? = some v := ⟨_, List.getElem?_eq_getElem (by rw [hvl.out]; exact hlq)⟩;obtain ⟨Aq, m, d, rfl, hoq, _⟩ := hIq.out.2.1.2.1 q v r hv hrs;have hmq : r.length = m := by have := hoq.1; simpa using this
     obtain ⟨g, hg0, rfl⟩ : ∃ g, w.heap.size + 3 ≤ g ∧ Aq = some ⟨g, 0, none⟩ := by
      obtain ⟨g, cap, hv, _⟩ := hoq.form (by omega);injection hv with hv;subst hv;exact ⟨g, oLb hoq g rfl, rfl⟩
     have hmm : m = mk := by
      have h1 := (hGk.out.row r (List.mem_of_getElem? hrq)).2.2.1;have h2 := (hGk.out.row rk (List.mem_of_getElem? hrk.out)).2.2.1;have := hmk.out
      omega
     subst hmm;have hcq := hIq.out.1.cellAt q (by omega);rw [hv] at hcq;obtain ⟨x, hx⟩ : ∃ x, r[k / 64]? = some x := ⟨_, List.getElem?_eq_getElem (by omega)⟩;have hx64 := hwq x (List.mem_of_getElem? hx);have hcx : wr.cell? ⟨g, k / 64, none⟩ = some (.int .u64 (x : Int)) := by
      rw [hoq.cellAt _ (by omega), List.getElem?_map, hx]; rfl
     have hbit := and_p2 x (k % 64) hx64 (by omega);have hbh : x.testBit (k % 64) = hasR r (k : Int) := by rw [hasR_nat, Row.get hx]
     rw [hbh] at hbit;have hsucc := stepM_succ (k := k) hrq;have hq0 : (0 : Int) ≤ (q : Int) := by omega
     have hqn : (q : Int) < (n : Int) := by omega
     have hp0 : (0 : Int) ≤ ((k / 64 : Nat) : Int) := by omega
     have hpm : ((k / 64 : Nat) : Int) < (m : Int) := by omega
     have hp1 : (((k / 64 : Nat) : Int)).toNat = k / 64 := by omega
     cases hh : hasR r (k : Int) with
     | false =>
      rw [hh] at hbit;have hst : Hid (stepM (closeK a k) k (q + 1) = stepM (closeK a k) k q) := Hd (by
       rw [hsucc];unfold stepR;rw [hh];simp only [Bool.false_eq_true, if_false];exact set_self hrs)
      clear hsucc hh hbh hx hrs hrq hv hoq hwq;go_wp2_with fail
      go_roundw
      case rel => exact ⟨q + 1, by omega, by go_num, Hd (by rw [hst.out]; exact hIq.out)⟩
      case measure => simp [intOf]; omega
     | true =>
      rw [hh] at hbit;have hth : (stepM (closeK a k) k q)[k]? = some rk := stepM_through hrk.out;obtain ⟨_, _, _, e1, hok2, _⟩ := hIq.out.2.1.2.1 k _ rk hvk.out hth
      cases e1
      have hrow := Row.of_own hok2 (hGk.out.row rk (List.mem_of_getElem? hrk.out)).1;have hst : Hid (stepM (closeK a k) k (q + 1) = (stepM (closeK a k) k q).set q (orR r rk)) := Hd (by
       rw [hsucc];unfold stepR;rw [hh, if_pos rfl, getD_at hrk.out])
      have hw2 := Hd (orR_w64 hwq (hGk.out.row rk (List.mem_of_getElem? hrk.out)).1);have hj := Hd (hull_join g (w.heap.size + 3) m d dk (some ⟨gk, 0, none⟩) r rk wr hoq hwq hrow (by
       by_cases hqk : q = k
       ·subst hqk
        rw [hv] at hvk;have h1 := hvk.out;injection h1 with h1;injection h1 with h1 h2 h3;refine .inr ⟨h1.symm, ?_⟩;have h2 := hrk.out;rw [hrq] at h2;injection h2 with h2;exact h2.symm
       ·refine .inl (fun ad e => ?_)
        injection e with e;subst e;intro hgg;have hgg' : gk = g := hgg;subst hgg';exact hIq.out.2.1.2.2 q k _ _ gk hqk hv hvk.out rfl rfl) (by omega))
      replace hv := Hd hv;clear hsucc hh hbh hx hrs hrq hoq hwq hok2 hrow hth;go_wp2_with fail;refine hj.out.mono ?_; rintro e w2 ⟨rfl, hy, ho⟩;have hI2 := Hd (hIq.out.join hv.out hg0 ho hy hw2.out);clear hy ho hIq hj hcq hcx;go_wp2_with fail
      go_roundw
      case rel => exact ⟨q + 1, by omega, by go_num, Hd (by rw [hst.out]; exact hI2.out)⟩
      case measure => simp [intOf]; omega
    ·obtain rfl : q = n := by omega
     have hI2 : Hid (CloseI w q A c vs (closeK a (k + 1)) wr) := Hd (by
      show CloseI w q A c vs (stepM (closeK a k) k a.length) wr
      rw [hal.out]; exact hIq.out)
     clear hIq;go_wp2_with fail
     go_roundw
     case rel => exact ⟨k + 1, by omega, by go_num, hI2⟩
     case measure => simp [intOf]; omega
  ·obtain rfl : k = n := by omega
   obtain ⟨h1, h2, h3, h4, h5⟩ := hIr.out;have l0 := h3.c0;have f0 := h4.c0;have f1 := h4.c1;have g0 := h4.frozen 0;have g1 := h4.frozen 1;replace h1 := Hd h1;replace h2 := Hd h2;replace h3 := Hd h3;replace h4 := Hd h4;replace h5 := Hd h5;clear hIr;go_wp2_with fail;have hcc := h4.out.two (.int .i64 k) (.slice (some ⟨w.heap.size + 2, 0, none⟩) k k);have hc1 := hcc.1;have hc2 := hcc.2;clear hcc f0 f1 g0 g1 l0;refine bodyPost_ret (v := .agg #[.int .i64 k, .slice (some ⟨w.heap.size + 2, 0, none⟩) k k]) (by simp [results, Tryz.results28, go_sem, hc1, hc2]) rfl ⟨_, _, _, rfl, ⟨vs, ?_, ?_⟩, Nat.le_refl _, ?_⟩
   ·exact Rd.of_own' (own_far (own_far h1.out (p := ⟨w.heap.size + 1, 0, none⟩) (by simp [Value.ownBlock]) _) (p := ⟨w.heap.size + 1, 1, none⟩) (by simp [Value.ownBlock]) _)
   ·exact ((h2.out.far (p := ⟨w.heap.size + 1, 0, none⟩) (by simp) _).far (p := ⟨w.heap.size + 1, 1, none⟩) (by simp) _).rows
   ·exact (h5.out.setCell (by simp) _).setCell (by simp) _


def mapPre (f : Nat → List Nat → List Nat) (a : List (List Nat)) (q : Nat) : List (List Nat) := (List.range a.length).map fun i => if i < q then f i (a.getD i []) else a.getD i []
section
variable {f : Nat → List Nat → List Nat} {a : List (List Nat)} {q : Nat}
theorem mapPre_len : (mapPre f a q).length = a.length := by simp [mapPre]
theorem mapPre_get {i : Nat} {r : List Nat} (h : a[i]? = some r) : (mapPre f a q)[i]? = some (if i < q then f i r else r) := by
 unfold mapPre;have hi := (List.getElem?_eq_some_iff.1 h).1;rw [List.getElem?_map, List.getElem?_range hi, Option.map_some, getD_at h]
theorem mapPre_zero : mapPre f a 0 = a := by
 unfold mapPre;simp only [Nat.not_lt_zero, if_false];rw [map_range_getD a [] (fun x => x)]; simp
theorem mapPre_succ {r : List Nat} (h : a[q]? = some r) : mapPre f a (q + 1) = (mapPre f a q).set q (f q r) := by
 apply List.ext_getElem?
 intro i;rw [List.getElem?_set];by_cases hi : i < a.length
 ·have hx : a[i]? = some a[i] := List.getElem?_eq_getElem hi
  rw [mapPre_get hx, mapPre_len];by_cases hq : q = i
  ·subst hq
   rw [h] at hx;injection hx with hx;rw [if_pos (by omega), if_pos rfl, if_pos hi, hx]
  ·rw [if_neg hq, mapPre_get hx]
   by_cases h1 : i < q
   ·rw [if_pos h1, if_pos (by omega)]
   ·rw [if_neg h1, if_neg (by omega)]
 ·rw [List.getElem?_eq_none (by rw [mapPre_len]; omega)]
  split
  ·rename_i h1
   subst h1;exact absurd (List.getElem?_eq_some_iff.1 h).1 hi
  ·rw [List.getElem?_eq_none (by rw [mapPre_len]; omega)]
theorem mapPre_same {r : List Nat} (h : a[q]? = some r) (hf : f q r = r) : mapPre f a (q + 1) = mapPre f a q := by
 rw [mapPre_succ h, hf];exact set_self (by rw [mapPre_get h, if_neg (Nat.lt_irrefl _)])
end
theorem RowsF.put {w : World} {lo hi : Nat} {vs : List Value} {xss : List (List Nat)} (h : RowsF w lo hi vs xss) {k : Nat} {v : Value} {xs : List Nat} (hv : RowF w lo hi v xs) : RowsF w lo hi (vs.set k v) (xss.set k xs) := by
 refine ⟨by simp [h.1], fun i u ys h1 h2 => ?_⟩;rw [List.getElem?_set] at h1 h2;by_cases hk : k = i
 ·rw [if_pos hk] at h1 h2
  split at h1
  ·split at h2
   ·injection h1 with h1
    injection h2 with h2;subst h1 h2;exact hv
   ·cases h2
  ·cases h1
 ·rw [if_neg hk] at h1 h2
  exact h.2 i u ys h1 h2

/-! ### one pair more -/


def metR (a b : List Nat) : Bool := (List.range a.length).any fun j => a.getD j 0 &&& b.getD j 0 != 0
theorem metR_iff {a b : List Nat} (ha : W64 a) : metR a b = true ↔ ∃ y : Nat, hasR a (y : Int) = true ∧ hasR b (y : Int) = true := by
 unfold metR;rw [List.any_eq_true]
 constructor
 ·rintro ⟨j, hj, h⟩
  rw [bne_iff_ne] at h;obtain ⟨i, hi⟩ := Nat.exists_testBit_of_ne_zero h;rw [Nat.testBit_and, Bool.and_eq_true] at hi;have hjl := List.mem_range.1 hj;have hw : a.getD j 0 < 18446744073709551616 := by
   rw [List.getD_eq_getElem?_getD, List.getElem?_eq_getElem hjl];exact ha _ (List.getElem_mem hjl)
  have hi64 : i < 64 := by
   rcases Nat.lt_or_ge i 64 with h1 | h1
   ·exact h1
   ·have := Nat.testBit_lt_two_pow (x := a.getD j 0) (i := i) (Nat.lt_of_lt_of_le hw (Nat.pow_le_pow_right (n := 2) (by decide) h1))
    rw [hi.1] at this; cases this
  exact ⟨64 * j + i, by rw [hasR_w _ _ _ hi64]; exact hi.1, by rw [hasR_w _ _ _ hi64]; exact hi.2⟩
 ·rintro ⟨y, h1, h2⟩
  rw [hasR_nat] at h1 h2;refine ⟨y / 64, List.mem_range.2 ?_, ?_⟩
  ·rcases Nat.lt_or_ge (y / 64) a.length with h | h
   ·exact h
   ·rw [List.getD_eq_getElem?_getD, List.getElem?_eq_none h] at h1
    simp at h1
  ·rw [bne_iff_ne]
   intro h;have := Nat.testBit_and (a.getD (y / 64) 0) (b.getD (y / 64) 0) (y % 64);rw [h, h1, h2] at this;simp at this
def metK (a b : List Nat) (k : Nat) : Bool := (List.range k).any fun j => a.getD j 0 &&& b.getD j 0 != 0
theorem metK_succ (a b : List Nat) (k : Nat) : metK a b (k + 1) = (metK a b k || a.getD k 0 &&& b.getD k 0 != 0) := by
 unfold metK; rw [List.range_succ, List.any_append]; simp
theorem metK_mono {a b : List Nat} {k n : Nat} (h : k ≤ n) (h1 : metK a b k = true) : metK a b n = true := by
 unfold metK at h1 ⊢;rw [List.any_eq_true] at h1 ⊢;obtain ⟨j, hj, e⟩ := h1;exact ⟨j, List.mem_range.2 (Nat.lt_of_lt_of_le (List.mem_range.1 hj) h), e⟩
def leadRow (F g : List Nat) (q : Nat) (r : List Nat) : List Nat := if (hasR F (q : Int) || metR r F) && !subR g r then orR r g else r
def leadM (a : List (List Nat)) (F : List Nat) (j : Nat) : List (List Nat) := mapPre (leadRow F (setR (a.getD j []) (j : Int))) a a.length
def LeadR (r : Nat → Nat → Prop) (P : Nat → Prop) (j x y : Nat) : Prop := r x y ∨ ((P x ∨ ∃ z, r x z ∧ P z) ∧ (y = j ∨ r j y))
theorem LeadR.conn {r : Nat → Nat → Prop} (hr : Trans2 r) (P : Nat → Prop) (j x y : Nat) : LeadR r P j x y ↔ Conn (fun a b => r a b ∨ (P a ∧ b = j)) x y := by
 constructor
 ·rintro (h | ⟨h1, h2⟩)
  ·exact .one (.inl h)
  ·have ha : Conn (fun a b => r a b ∨ (P a ∧ b = j)) x j := by
    rcases h1 with h1 | ⟨z, h1, h3⟩
    ·exact .one (.inr ⟨h1, rfl⟩)
    ·exact .step (.one (.inl h1)) (.inr ⟨h3, rfl⟩)
   rcases h2 with rfl | h2
   ·exact ha
   ·exact .step ha (.inl h2)
 ·refine Conn.least (fun a b c h1 h2 => ?_) (fun a b h => ?_)
  ·rcases h1 with h1 | ⟨p1, p2⟩ <;> rcases h2 with h2 | ⟨q1, q2⟩
   ·exact .inl (hr _ _ _ h1 h2)
   ·refine .inr ⟨.inr ?_, q2⟩
    rcases q1 with q1 | ⟨z, q1, q3⟩
    ·exact ⟨b, h1, q1⟩
    ·exact ⟨z, hr _ _ _ h1 q1, q3⟩
   ·refine .inr ⟨p1, .inr ?_⟩
    rcases p2 with rfl | p2
    ·exact h2
    ·exact hr _ _ _ p2 h2
   ·exact .inr ⟨p1, q2⟩
  ·rcases h with h | ⟨h, rfl⟩
   ·exact .inl h
   ·exact .inr ⟨.inl h, .inl rfl⟩
section
variable {n : Nat} {a : List (List Nat)}
theorem leadRow_facts (ha : Good n a) {F : List Nat} {j : Nat} (hj : j < n) {q : Nat} {r : List Nat} (hr : a[q]? = some r) :
  W64 (leadRow F (setR (a.getD j []) (j : Int)) q r) ∧ (leadRow F (setR (a.getD j []) (j : Int)) q r).length = r.length ∧
   ∀ y : Nat, hasR (leadRow F (setR (a.getD j []) (j : Int)) q r) (y : Int) = (hasR r (y : Int) || ((hasR F (q : Int) || metR r F) && (hasM a (j : Int) (y : Int) || decide (y = j)))) := by
 obtain ⟨s, hs, hws, hls⟩ := ha.at_ hj;have h1 := ha.row r (List.mem_of_getElem? hr);have h2 := ha.row s (List.mem_of_getElem? hs);have hwg : W64 (setR s (j : Int)) := setR_w64 hws j;have hg : ∀ y : Nat, hasR (setR s (j : Int)) (y : Int) = (hasM a (j : Int) (y : Int) || decide (y = j)) := fun y => by rw [hasR_setR s j y (by omega), hasM_in hs]
 rw [getD_at hs];unfold leadRow
 cases hc : (hasR F (q : Int) || metR r F) with
 | false =>
  rw [Bool.false_and, if_neg (by simp)];exact ⟨h1.1, rfl, fun y => by rw [Bool.false_and, Bool.or_false]⟩
 | true =>
  rw [Bool.true_and]
  cases hsb : subR (setR s (j : Int)) r with
  | true =>
   rw [if_neg (by simp)];refine ⟨h1.1, rfl, fun y => ?_⟩;rw [Bool.true_and, ← hg y]
   cases hy : hasR (setR s (j : Int)) (y : Int) with
   | false => rw [Bool.or_false]
   | true => rw [(subR_iff _ r hwg).1 hsb y hy]; rfl
  | false =>
   rw [if_pos (by simp)];refine ⟨orR_w64 h1.1 hwg, by rw [orR_len, setR_len, h1.2.2.1, h2.2.2.1, Nat.max_self], fun y => ?_⟩;rw [hasR_orR, hg y, Bool.true_and]
theorem leadM_good (ha : Good n a) (F : List Nat) {j : Nat} (hj : j < n) : Good n (leadM a F j) := by
 unfold leadM;refine ⟨ha.le, by rw [mapPre_len, ha.len], fun r hr => ?_⟩;obtain ⟨q, hq⟩ := List.getElem?_of_mem hr;have hql : q < a.length := by
  have := (List.getElem?_eq_some_iff.1 hq).1
  rwa [mapPre_len] at this
 have hx : a[q]? = some a[q] := List.getElem?_eq_getElem hql;rw [mapPre_get hx, if_pos hql] at hq;injection hq with hq;subst hq;have h0 := ha.row _ (List.mem_of_getElem? hx);obtain ⟨h1, h2, h3⟩ := leadRow_facts ha (F := F) hj hx;refine ⟨h1, by rw [h2]; exact h0.2.1, by rw [h2]; exact h0.2.2.1, fun y hy => ?_⟩;rw [h3 y, h0.2.2.2 y hy, decide_eq_false (by omega), Bool.or_false]
 cases hh : hasM a (j : Int) (y : Int) with
 | false => simp
 | true => exact absurd (ha.has_lt hh).2 (by omega)
theorem leadM_rel (ha : Good n a) {F : List Nat} (hF : ∀ y : Nat, hasR F (y : Int) = true → y < n) {j : Nat} (hj : j < n) (x y : Nat) : Rel (leadM a F j) x y ↔ LeadR (Rel a) (fun z => hasR F (z : Int) = true) j x y := by
 unfold LeadR;by_cases hx : x < n
 ·obtain ⟨r, hr, hrw, _⟩ := ha.at_ hx
  have h1 : (leadM a F j)[x]? = some (leadRow F (setR (a.getD j []) (j : Int)) x r) := by
   unfold leadM;rw [mapPre_get hr, if_pos (by rw [ha.len]; exact hx)]
  obtain ⟨_, _, h3⟩ := leadRow_facts ha (F := F) hj hr;have hm : metR r F = true ↔ ∃ z : Nat, Rel a x z ∧ hasR F (z : Int) = true := by
   rw [metR_iff hrw];unfold Rel;simp only [hasM_in hr]
  unfold Rel at hm ⊢;rw [hasM_in h1, h3 y, hasM_in hr];simp only [Bool.or_eq_true, Bool.and_eq_true, decide_eq_true_eq];rw [hm]
  constructor
  ·rintro (h | ⟨h, h'⟩)
   ·exact .inl h
   ·exact .inr ⟨h, h'.symm⟩
  ·rintro (h | ⟨h, h'⟩)
   ·exact .inl h
   ·exact .inr ⟨h, h'.symm⟩
 ·constructor
  ·intro h
   exact absurd ((leadM_good ha F hj).rel_lt _ _ h).1 hx
  ·rintro (h | ⟨h | ⟨z, h, _⟩, _⟩)
   ·exact absurd (ha.rel_lt _ _ h).1 hx
   ·exact absurd (hF x h) hx
   ·exact absurd (ha.rel_lt _ _ h).1 hx
theorem leadM_hull (ha : Good n a) (hc : ClosedM a) {F : List Nat} (hF : ∀ y : Nat, hasR F (y : Int) = true → y < n) {j : Nat} (hj : j < n) : IsHull n (fun x y => Rel a x y ∨ (hasR F (x : Int) = true ∧ y = j)) (leadM a F j) :=
 ⟨leadM_good ha F hj, fun x y => by rw [leadM_rel ha hF hj, LeadR.conn hc]⟩
end
/-! ### the first writes of the edges to one number -/
def fstO (N : Nat) (k : Nat) (r : List Nat) (e : Ed) : List Nat := if e.w2 = (k : Int) then setR (if r = [] then List.replicate N 0 else r) e.w1 else r
def fstR (N : Nat) (es : List Ed) (k : Nat) : List Nat := es.foldl (fstO N k) []
theorem fstR_nil (N k : Nat) : fstR N [] k = [] := rfl
theorem fstR_snoc (N : Nat) (es : List Ed) (e : Ed) (k : Nat) : fstR N (es ++ [e]) k = fstO N k (fstR N es k) e := by unfold fstR; rw [List.foldl_append]; rfl
theorem fstR_take {N : Nat} {es : List Ed} {q : Nat} {e : Ed} (h : es[q]? = some e) (k : Nat) : fstR N (es.take (q + 1)) k = fstO N k (fstR N (es.take q) k) e := by
 rw [List.take_add_one, h]; exact fstR_snoc _ _ _ _
theorem fstO_other {N k : Nat} {r : List Nat} {e : Ed} (h : e.w2 ≠ (k : Int)) : fstO N k r e = r := if_neg h
theorem fstR_facts {N : Nat} (hN : 0 < N) (es : List Ed) (hes : ∀ e ∈ es, ∃ a : Nat, e.w1 = (a : Int) ∧ a < 64 * N) (k : Nat) :
  W64 (fstR N es k) ∧ ((fstR N es k = [] ∧ ∀ e ∈ es, e.w2 ≠ (k : Int)) ∨ ((fstR N es k).length = N ∧ ∃ e ∈ es, e.w2 = (k : Int))) ∧ ∀ y : Nat, hasR (fstR N es k) (y : Int) = true ↔ ((y : Int), (k : Int)) ∈ edP es := by
 induction es using snoc_ind with
 | h0 => exact ⟨fun x hx => (by cases hx), .inl ⟨rfl, fun e h => (by cases h)⟩, fun y => (by rw [fstR_nil]; simp [edP, hasR])⟩
 | h1 l e ih =>
  obtain ⟨i1, i2, i3⟩ := ih (fun x hx => hes x (List.mem_append_left _ hx));have hed : ∀ y : Nat, ((y : Int), (k : Int)) ∈ edP (l ++ [e]) ↔ ((y : Int), (k : Int)) ∈ edP l ∨ ((y : Int) = e.w1 ∧ (k : Int) = e.w2) := fun y => by
   unfold edP; rw [List.map_append, List.mem_append]; simp
  rw [fstR_snoc];by_cases hk : e.w2 = (k : Int)
  ·obtain ⟨a, ha, hal⟩ := hes e (by simp)
   unfold fstO;rw [if_pos hk, ha];have hb : W64 (if fstR N l k = [] then List.replicate N 0 else fstR N l k) ∧ (if fstR N l k = [] then List.replicate N 0 else fstR N l k).length = N ∧ ∀ y : Nat, hasR (if fstR N l k = [] then List.replicate N 0 else fstR N l k) (y : Int) = hasR (fstR N l k) (y : Int) := by
    split
    ·rename_i h0
     refine ⟨fun x hx => by rw [List.eq_of_mem_replicate hx]; decide, by simp, fun y => ?_⟩;rw [h0, hasR_zeros]; simp [hasR]
    ·rename_i h0
     rcases i2 with ⟨h, _⟩ | ⟨h, _⟩
     ·exact absurd h h0
     ·exact ⟨i1, h, fun y => rfl⟩
   obtain ⟨b1, b2, b3⟩ := hb;refine ⟨setR_w64 b1 a, .inr ⟨by rw [setR_len, b2], e, by simp, hk⟩, fun y => ?_⟩;rw [hasR_setR _ a y (by rw [b2]; exact hal), b3 y, Bool.or_eq_true, i3 y, hed y, decide_eq_true_eq, ha, hk]
   constructor
   ·rintro (h | h)
    ·exact .inl h
    ·exact .inr ⟨by omega, rfl⟩
   ·rintro (h | ⟨h, _⟩)
    ·exact .inl h
    ·exact .inr (by omega)
  ·rw [fstO_other hk]
   refine ⟨i1, ?_, fun y => ?_⟩
   ·rcases i2 with ⟨h1, h2⟩ | ⟨h1, u, h2, h3⟩
    ·exact .inl ⟨h1, fun x hx => by
      rcases List.mem_append.1 hx with h | h
      ·exact h2 x h
      ·rw [List.mem_singleton] at h; rw [h]; exact hk⟩
    ·exact .inr ⟨h1, u, List.mem_append_left _ h2, h3⟩
   ·rw [i3 y, hed y]
    constructor
    ·exact .inl
    ·rintro (h | ⟨_, h⟩)
     ·exact h
     ·exact absurd h.symm hk
/-! ### all of them -/
def adX (N : Nat) (X : List (List Nat)) (es : List Ed) : Nat → List (List Nat)
 | 0 => X
 | k + 1 => if fstR N es k = [] then adX N X es k else leadM (adX N X es k) (fstR N es k) k
theorem adX_hull {n N : Nat} (hN : 0 < N) (hn : n ≤ 64 * N) {X : List (List Nat)} (hX : Good n X) (hc : ClosedM X) {es : List Ed} (hes : ∀ e ∈ es, ∃ a b : Nat, e.w1 = (a : Int) ∧ e.w2 = (b : Int) ∧ a < n ∧ b < n) :
  ∀ k, k ≤ n → IsHull n (fun x y => Rel X x y ∨ (((x : Int), (y : Int)) ∈ edP es ∧ y < k)) (adX N X es k)
 | 0, _ => ⟨hX, fun i j => by
   show Rel X i j ↔ _
   rw [← Conn.of_trans hc];refine Conn.same (fun x y => ⟨fun h => .inl h, fun h => ?_⟩) i j;rcases h with h | ⟨_, h⟩
   ·exact h
   ·omega⟩
 | k + 1, hk => by
  have ih := adX_hull hN hn hX hc hes k (by omega);obtain ⟨-, f2, f3⟩ := fstR_facts hN es (fun e he => by obtain ⟨a, b, h1, h2, h3, h4⟩ := hes e he; exact ⟨a, h1, by omega⟩) k;rw [adX];rcases f2 with ⟨f0, f1⟩ | ⟨f0, u, f1, f4⟩
  ·rw [if_pos f0]
   refine ⟨ih.1, fun i j => ?_⟩;rw [ih.2];refine Conn.same (fun x y => ?_) i j
   constructor
   ·rintro (h | ⟨h, h'⟩)
    ·exact .inl h
    ·exact .inr ⟨h, by omega⟩
   ·rintro (h | ⟨h, h'⟩)
    ·exact .inl h
    ·by_cases hy : y = k
     ·obtain ⟨e, he, e1, e2⟩ := mem_edP.1 h
      exact absurd (by rw [e2, hy]) (f1 e he)
     ·exact .inr ⟨h, by omega⟩
  ·rw [if_neg (fun h => by rw [h] at f0; simp at f0; omega)]
   have hF : ∀ y : Nat, hasR (fstR N es k) (y : Int) = true → y < n := fun y hy => by
    obtain ⟨e, he, e1, e2⟩ := mem_edP.1 ((f3 y).1 hy);obtain ⟨a, b, h1, h2, h3, h4⟩ := hes e he
    omega
   have hL := leadM_hull ih.1 ih.closed hF (show k < n by omega);refine ⟨hL.1, fun i j => ?_⟩;rw [hL.2]
   constructor
   ·intro h
    refine Conn.least (s := Conn fun x y => Rel X x y ∨ (((x : Int), (y : Int)) ∈ edP es ∧ y < k + 1)) (fun a b c h1 h2 => Conn.trans h1 h2) (fun x y h1 => ?_) h;rcases h1 with h1 | ⟨h1, rfl⟩
    ·exact ((ih.2 x y).1 h1).mono (fun p q h2 => by
      rcases h2 with h2 | ⟨h2, h3⟩
      ·exact .inl h2
      ·exact .inr ⟨h2, by omega⟩)
    ·exact .one (.inr ⟨(f3 x).1 h1, by omega⟩)
   ·intro h
    refine h.mono (fun x y h1 => ?_) |> fun h => h
    rcases h1 with h1 | ⟨h1, h2⟩
    ·exact .inl ((ih.2 x y).2 (.one (.inl h1)))
    ·by_cases hy : y = k
     ·exact .inr ⟨(f3 x).2 (by rw [hy] at h1; exact h1), hy⟩
     ·exact .inl ((ih.2 x y).2 (.one (.inr ⟨h1, by omega⟩)))
theorem adX_close {n N : Nat} (hN : 0 < N) (hn : n ≤ 64 * N) {X : List (List Nat)} (hX : Good n X) (hc : ClosedM X) {es : List Ed} (hes : ∀ e ∈ es, ∃ a b : Nat, e.w1 = (a : Int) ∧ e.w2 = (b : Int) ∧ a < n ∧ b < n) : adX N X es n = closeK ((edP es).foldl setP X) n := by
 have hok : ∀ p ∈ edP es, okP (n : Int) p = true := fun p hp => by
  obtain ⟨x, hx, rfl⟩ := List.mem_map.1 hp;obtain ⟨a, b, h1, h2, h3, h4⟩ := hes x hx;unfold okP inM;simp only [h1, h2, Bool.and_eq_true, decide_eq_true_eq]
  omega
 obtain ⟨h1, h2⟩ := fold_facts (edP es) X hX hok;refine IsHull.unique (adX_hull hN hn hX hc hes n (Nat.le_refl _)) (closeK_hull h1) (fun i j => Conn.same (fun x y => ?_) i j);have h3 := h2 x y
 show _ ↔ hasM ((edP es).foldl setP X) (x : Int) (y : Int) = true
 rw [h3, Bool.or_eq_true, decide_eq_true_eq]
 constructor
 ·rintro (h | ⟨h, _⟩)
  ·exact .inl h
  ·exact .inr h
 ·rintro (h | h)
  ·exact .inl h
  ·refine .inr ⟨h, ?_⟩
   obtain ⟨e, he, e1, e2⟩ := mem_edP.1 h;obtain ⟨a, b, k1, k2, k3, k4⟩ := hes e he
   omega

def RowsS (S : Nat → Prop) (w : World) (A : Option Addr) (n : Nat) (xss : List (List Nat)) : Prop := ∃ vs, Rd w A n vs ∧ RowsC w vs xss ∧ (∀ ad, A = some ad → S ad.block) ∧ ∀ v ∈ vs, ∀ g, v.ownBlock = some g → S g
section
variable {S T : Nat → Prop} {w w' : World} {A : Option Addr} {n : Nat} {xss : List (List Nat)}
theorem RowsS.at (h : RowsS S w A n xss) : RowsAt w A n xss := by
 obtain ⟨vs, h1, h2, -, -⟩ := h; exact ⟨vs, h1, h2⟩
theorem RowsS.of (h : RowsAt w A n xss) (hS : ∀ g, S g) : RowsS S w A n xss := by
 obtain ⟨vs, h1, h2⟩ := h; exact ⟨vs, h1, h2, fun _ _ => hS _, fun _ _ g _ => hS g⟩
theorem RowsS.below (h : RowsS S w A n xss) (hb : Below w.heap.size w w') : RowsS S w' A n xss := by
 obtain ⟨vs, h1, h2, h3, h4⟩ := h; exact ⟨vs, h1.below hb, h2.below hb, h3, h4⟩
theorem RowsS.mono (h : RowsS S w A n xss) (hs : ∀ g, S g → T g) : RowsS T w A n xss := by
 obtain ⟨vs, h1, h2, h3, h4⟩ := h; exact ⟨vs, h1, h2, fun ad e => hs _ (h3 ad e), fun v hv g e => hs _ (h4 v hv g e)⟩
theorem RowsS.there (h : RowsS S w A n xss) (hn : 0 < n) (hp : ∀ xs ∈ xss, 0 < xs.length) : RowsS (fun g => S g ∧ g < w.heap.size) w A n xss := by
 obtain ⟨vs, h1, h2, h3, h4⟩ := h;refine ⟨vs, h1, h2, fun ad e => ⟨h3 ad e, ?_⟩, fun v hv g e => ⟨h4 v hv g e, ?_⟩⟩
 ·obtain ⟨b, off, e2, hb, -⟩ := h1.2 hn
  rw [e] at e2; injection e2 with e2; subst e2; exact hb
 ·obtain ⟨i, hi⟩ := List.getElem?_of_mem hv
  have hil : i < xss.length := by rw [← h2.1]; exact (List.getElem?_eq_some_iff.1 hi).1
  obtain ⟨B, m, c, e3, hr⟩ := h2.2 i v xss[i] hi (List.getElem?_eq_getElem hil);have hm : 0 < m := by rw [← hr.len]; exact hp _ (List.getElem_mem hil)
  obtain ⟨b, off, e4, hb, -⟩ := hr.1.2 hm;subst e3; subst e4;injection e with e;rw [← e]; exact hb
theorem RowsS.putB {M : Nat} {t : TypeId} {N : Int} {B : Option Addr} {m c : Nat} (hM : MatB w M t N B m c) (h : RowsS S w A n xss) (hne : 0 < n → ∀ ad, A = some ad → ad.block ≠ M) (x y : Value) :
  RowsS S ((w.setCell ⟨M, 0, none⟩ x).setCell ⟨M, 1, none⟩ y) A n xss := by
 obtain ⟨vs, h1, h2, h3, h4⟩ := h;refine ⟨vs, ?_, ⟨h2.1, fun i v xs a b => ?_⟩, h3, h4⟩
 ·rcases Nat.eq_zero_or_pos n with rfl | hm
  ·rw [h1.of_nil]; exact Rd.nil _ _
  ·exact (h1.setCell (hne hm) x).setCell (hne hm) y
 ·obtain ⟨B', m', c', e, hr⟩ := h2.2 i v xs a b
  exact ⟨B', m', c', e, hr.putB hM x y⟩
theorem RowsS.grown {row : Option Nat} (h : RowsS S w A n xss) (hg : w.grownBy w' row) (hrow : ∀ g, row = some g → ¬ S g) : RowsS S w' A n xss := by
 obtain ⟨vs, h1, h2, h3, h4⟩ := h;refine ⟨vs, ⟨h1.1, fun h0 => ?_⟩, ⟨h2.1, fun i v xs a b => ?_⟩, h3, h4⟩
 ·obtain ⟨b, off, e, hb, hc⟩ := h1.2 h0
  exact ⟨b, off, e, Nat.lt_of_lt_of_le hb hg.size, fun j u hu => (World.cell?_of_block (hg.block b hb (fun e' => hrow b e'.symm (h3 _ e)))).trans (hc j u hu)⟩
 ·obtain ⟨B', m', c', e, ⟨⟨hr1, hr2⟩, hr3⟩⟩ := h2.2 i v xs a b
  refine ⟨B', m', c', e, ⟨⟨hr1, fun h0 => ?_⟩, hr3⟩⟩;obtain ⟨b', off, e2, hb, hc⟩ := hr2 h0;exact ⟨b', off, e2, Nat.lt_of_lt_of_le hb hg.size, fun j u hu => (World.cell?_of_block (hg.block b' hb (fun e' => hrow b' e'.symm (h4 v (List.mem_of_getElem? a) b' (by rw [e, e2]; rfl))))).trans (hc j u hu)⟩
end
structure LeadI (S : Nat → Prop) (w0 : World) (base G n cap : Nat) (vs : List Value) (xss : List (List Nat)) (wr : World) : Prop where
 own : wr.ownsRow base 88 1 (.slice (some ⟨G, 0, none⟩) n cap) n vs
 rows : RowsF wr G (G + 1) vs xss
 src : ∀ v ∈ vs, ∀ g, v.ownBlock = some g → S g ∨ w0.heap.size ≤ g
 big : w0.heap.size ≤ G ∧ G < wr.heap.size
section
variable {S : Nat → Prop} {w0 wr w' : World} {base G n cap : Nat} {vs : List Value} {xss : List (List Nat)}
theorem LeadI.later (h : LeadI S w0 base G n cap vs xss wr) (hb : Below wr.heap.size wr w') : LeadI S w0 base G n cap vs xss w' :=
 ⟨oBl h.own hb, h.rows.below hb, h.src, h.big.1, Nat.lt_of_lt_of_le h.big.2 hb.size⟩
theorem LeadI.put (h : LeadI S w0 base G n cap vs xss wr) {k : Nat} {v : Value} {xs : List Nat} (hv : RowF wr G (G + 1) v xs) (hs : ∀ g, v.ownBlock = some g → S g ∨ w0.heap.size ≤ g) : LeadI S w0 base G n cap (vs.set k v) (xss.set k xs) (wr.setCell ⟨G, k, none⟩ v) :=
 ⟨(h.own.stored k v).1, (h.rows.set (p := ⟨G, k, none⟩) (Nat.le_refl _) (by simp) v).put (hv.set (p := ⟨G, k, none⟩) (Nat.le_refl _) (by simp) v), fun u hu g e => by
  rcases List.mem_or_eq_of_mem_set hu with h1 | h1
  ·exact h.src u h1 g e
  ·subst h1; exact hs g e, h.big.1, by simpa using h.big.2⟩
theorem LeadI.vlen (h : LeadI S w0 base G n cap vs xss wr) : vs.length = n := by have := h.own.1; simpa using this
theorem LeadI.get (h : LeadI S w0 base G n cap vs xss wr) {k : Nat} (hk : k < n) {r : List Nat} (hr : xss[k]? = some r) : ∃ B m d, vs[k]? = some (.slice B m d) ∧ wr.cell? ⟨G, k, none⟩ = some (.slice B m d) ∧ wr.frozen? ⟨G, k, none⟩ = false ∧ Row wr B m r := by
 have hl : k < vs.length := by rw [h.vlen]; exact hk
 have hv : vs[k]? = some vs[k] := List.getElem?_eq_getElem hl;obtain ⟨B, m, d, e, hrow, -⟩ := h.rows.2 k _ r hv hr;rw [e] at hv;exact ⟨B, m, d, hv, by rw [h.own.cellAt k (by omega)]; exact hv, h.own.frozenAt k, hrow⟩
theorem LeadI.at (h : LeadI S w0 base G n cap vs xss wr) : RowsS (fun g => S g ∨ w0.heap.size ≤ g) wr (some ⟨G, 0, none⟩) n xss :=
 ⟨vs, Rd.of_own' h.own, h.rows.rows, fun ad e => by injection e with e; subst e; exact .inr h.big.1, h.src⟩
end
theorem seen_meet (A B : Option Addr) (n m c d : Nat) (xs ys : List Nat) (w : World) (hr : Row w A n xs) (hs : Row w B m ys) (hnm : n ≤ m) (hm : m ≤ 1073741824) :
  Calls Tryz.prog 150 #[.slice A n c, .slice B m d] w fun e w' => e = .returned (.bool (metR xs ys)) ∧ w = w' := by
 have hl := Hd hr.len;have hme : Hid (metR xs ys = metK xs ys n) := Hd (by unfold metR metK; rw [hl.out]);replace hr := Hd hr;replace hs := Hd hs
 go_enter Tryz.func150, Tryz.ntmps150
 go_wp2
 go_loop [9] (fun i => ∃ k : Nat, k ≤ n ∧ i = .int .i64 k ∧ Hid (metK xs ys k = false)) (fun i => n - (intOf i).toNat)
 case atStart => exact ⟨0, Nat.zero_le _, rfl, Hd rfl⟩
 case round =>
  obtain ⟨k, hk, rfl, hall⟩ := hrel;by_cases hlt : k < n
  ·obtain ⟨b, off, x, rfl, hbk, hx, hx64, hc⟩ := hr.out.at_ hlt
   obtain ⟨b2, off2, y, rfl, hbk2, hy, hy64, hc2⟩ := hs.out.at_ (Nat.lt_of_lt_of_le hlt hnm);have hgx := Row.get hx;have hgy := Row.get hy;have hT := u64_and_nat x y hx64 hy64;have hkm : (k : Int) < (m : Int) := by omega
   have hkn : (k : Int) < (n : Int) := by omega
   have hst := metK_succ xs ys k;rw [hall.out, Bool.false_or, hgx, hgy] at hst;obtain ⟨z, hz⟩ : ∃ z, z = x &&& y := ⟨_, rfl⟩;rw [← hz] at hT hst;replace hz := Hd hz;replace hT := Hd hT;clear hx hy hgx hgy hlt;by_cases hz0 : z = 0
   ·have e1 : ((z : Int) != 0) = false := by rw [hz0]; rfl
    have hst' : Hid (metK xs ys (k + 1) = false) := Hd (by rw [hst, hz0]; rfl);have hT0 : (bits BinOp.and IntKind.u64 (x : Int) (y : Int) != 0) = false := by rw [hT.out]; exact e1
    clear hst hz0 e1
    go_wp2
    go_round
    case rel => exact ⟨k + 1, by omega, by go_num, hst'⟩
    case measure => simp [intOf]; omega
   ·have e1 : ((z : Int) != 0) = true := by rw [bne_iff_ne]; omega
    have hst' : Hid (metR xs ys = true) := Hd (by rw [hme.out]; exact metK_mono (k := k + 1) (by omega) (by rw [hst, bne_iff_ne]; exact hz0));have hT0 : (bits BinOp.and IntKind.u64 (x : Int) (y : Int) != 0) = true := by rw [hT.out]; exact e1
    clear hst hz0 e1
    go_wp2
    go_ret;exact ⟨by rw [hst'.out]; rfl, rfl⟩
  ·obtain rfl : k = n := by omega
   have hlt' : ¬ (k : Int) < (k : Int) := by omega
   clear hlt
   go_wp2
   go_ret;exact ⟨by rw [hme.out, hall.out]; rfl, rfl⟩
theorem BelowB.setG {g : Nat} {w w' : World} (h : BelowB g w w') (o : Nat) (u : Value) : BelowB g w (w'.setCell ⟨g, o, none⟩ u) :=
 ⟨h.os, h.tape, h.output, by simpa using h.size, fun k hk hg => (Below.heap_setCell _ _ _ _ (by simpa using hg)).trans (h.block k hk hg)⟩
def RetLead (S : Nat → Prop) (w0 : World) (base G n cap : Nat) (xss : List (List Nat)) (w : World) (e : Ending) (w' : World) : Prop := e = .returned (.tuple #[]) ∧ ∃ vs, LeadI S w0 base G n cap vs xss w' ∧ BelowB G w w'
theorem seen_lead (S : Nat → Prop) (w0 : World) (base G n cap fm fc : Nat) (F : Option Addr) (vs0 : List Value) (a : List (List Nat)) (fs : List Nat) (j : Nat) (w : World) (h0 : LeadI S w0 base G n cap vs0 a w) (hF0 : Row w F fm fs) (hfm : fm = (wordsZ (n : Int)).toNat) (hFG : 0 < fm → ∀ ad, F = some ad → ad.block ≠ G) (hG : Good n a) (hj : j < n) :
  Calls Tryz.prog 143 #[.slice (some ⟨G, 0, none⟩) n cap, .slice F fm fc, .int .i64 (j : Int)] w (RetLead S w0 base G n cap (leadM a fs j) w) := by
 have hal := hG.len;have hnn : n ≤ 4096 := hG.le;obtain ⟨s, hs⟩ : ∃ s, a[j]? = some s := ⟨_, List.getElem?_eq_getElem (by omega)⟩;obtain ⟨B0, m0, d0, hv0, c0, f0, hsr⟩ := h0.get hj hs;have hm0 : m0 ≤ 64 := by have := hsr.len; have := hG.small s (List.mem_of_getElem? hs); omega
 have hlen0 : m0 = fm := by rw [← hsr.len, hfm, (hG.row s (List.mem_of_getElem? hs)).2.2.1]
 obtain ⟨g, hg⟩ : ∃ g, g = setR s (j : Int) := ⟨_, rfl⟩;have hres : Hid (mapPre (leadRow fs g) a n = leadM a fs j) := Hd (by unfold leadM; rw [getD_at hs, ← hg, hal]);have hglen : Hid (g.length = m0) := Hd (by rw [hg, setR_len]; exact hsr.len);have hSet := row_SetO B0 m0 d0 s (j : Int) w hsr (by omega) (by omega) (by omega);rw [← hg] at hSet;replace hSet := Hd hSet;have hj0 : (0 : Int) ≤ (j : Int) := by omega
 have hjn : (j : Int) < (n : Int) := by omega
 have hI0 := Hd h0;have hF0' := Hd hF0;have hfm64 : fm ≤ 64 := by omega
 replace hFG := Hd hFG;replace hal := Hd hal;replace hg := Hd hg;replace hG := Hd hG;replace hfm := Hd hfm;replace hlen0 := Hd hlen0;clear hs hsr h0 hF0 hv0
 go_enter Tryz.func143, Tryz.ntmps143
 go_wp2_with fail;refine hSet.out.mono ?_; rintro e w1 ⟨Cg, ng, cg, rfl, ho, hg64, hb1⟩;have hgG : Hid (0 < ng → ∀ ad, Cg = some ad → ad.block ≠ G) := Hd (fun _ ad e => by
  have := oLb ho ad.block (by rw [e]; rfl);have := hI0.out.big.2
  omega)
 have hgn := Hd (Row.of_own ho hg64);have hng : ng ≤ 64 := by have := hgn.out.len; have := hglen.out; omega
 have hI := Hd (hI0.out.later hb1);have hF := Hd (hF0'.out.below hb1);have hbb : Hid (BelowB G w w1) := Hd (BelowB.of hb1);clear c0 f0 hSet ho hb1 hI0 hF0';go_wp2_with fail
 go_loopw [17] (fun t wr => ∃ (k : Nat) (vs : List Value), k ≤ n ∧ t = .int .i64 k ∧ Hid (LeadI S w0 base G n cap vs (mapPre (leadRow fs g) a k) wr) ∧ Hid (Row wr F fm fs) ∧ Hid (Row wr Cg ng g) ∧ Hid (BelowB G w wr)) (fun t _ => n - (intOf t).toNat)
 case atStart => exact ⟨0, vs0, Nat.zero_le _, rfl, Hd (by rw [mapPre_zero]; exact hI.out), hF, hgn, hbb⟩
 case round =>
  clear hI hF hgn hbb;obtain ⟨k, vs, hk, rfl, hI, hF, hgn, hbb⟩ := hrel;by_cases hlt : k < n
  ·obtain ⟨r, hx⟩ : ∃ r, a[k]? = some r := ⟨_, List.getElem?_eq_getElem (by have := hal.out; omega)⟩
   have hxk : (mapPre (leadRow fs g) a k)[k]? = some r := by rw [mapPre_get hx, if_neg (Nat.lt_irrefl _)]
   obtain ⟨B, m, d, hv, c0, f0, hrr⟩ := hI.out.get hlt hxk;have hm : m ≤ 64 := by have := hrr.len; have := hG.out.small r (List.mem_of_getElem? hx); omega
   have hmf : m ≤ fm := by rw [← hrr.len, (hG.out.row r (List.mem_of_getElem? hx)).2.2.1, ← hfm.out]; exact Nat.le_refl _
   have hk0 : (0 : Int) ≤ (k : Int) := by omega
   have hkn : (k : Int) < (n : Int) := by omega
   have hHas := Hd (row_Has F fm fc fs (k : Int) wr hF.out (by omega) (by omega) (by omega));have hMet := Hd (seen_meet B F m fm d fc r fs wr hrr hF.out hmf (by omega));have hSub := Hd (row_Sub Cg B ng m cg d g r wr hgn.out hrr (by omega) (by omega));have hOr := Hd (fun W h1 h2 => row_OrO B Cg m ng d cg r g W h1 h2 (by omega) (by omega));replace hx := Hd hx;replace hrr := Hd hrr;replace hv := Hd hv;clear hxk hlt
   cases hh : hasR fs (k : Int) with
   | true =>
    go_wp2_with fail;refine hHas.out.mono ?_; rintro e w' ⟨rfl, rfl⟩;rw [hh]
    cases hsb : subR g r with
    | true =>
     go_wp2_with fail;refine hSub.out.mono ?_; rintro e w' ⟨rfl, rfl⟩;rw [hsb];have hadd : leadRow fs g k r = r := by unfold leadRow; rw [hsb]; simp
     have hst : Hid (mapPre (leadRow fs g) a (k + 1) = mapPre (leadRow fs g) a k) := Hd (mapPre_same hx.out hadd);clear hadd;go_wp2_with fail
     go_roundw
     case rel => exact ⟨k + 1, vs, by omega, by go_num, Hd (by rw [hst.out]; exact hI.out), hF, hgn, hbb⟩
     case measure => simp [intOf]; omega
    | false =>
     go_wp2_with fail;refine hSub.out.mono ?_; rintro e w' ⟨rfl, rfl⟩;rw [hsb];have hadd : leadRow fs g k r = orR r g := by unfold leadRow; rw [hsb, hh]; simp
     have hst : Hid (mapPre (leadRow fs g) a (k + 1) = (mapPre (leadRow fs g) a k).set k (orR r g)) := Hd (by rw [mapPre_succ hx.out, hadd]);clear hadd;go_wp2_with fail;refine (hOr.out wr hrr.out hgn.out).mono ?_; rintro e w1 ⟨C, p, q, rfl, ho, hx64, hb1⟩;have hwrb := Hd hI.out.big.2;have hCl := Hd (oLb ho);replace hI := Hd (hI.out.later hb1);replace hF := Hd (hF.out.below hb1);replace hgn := Hd (hgn.out.below hb1);replace hbb := Hd (hbb.out.trans (BelowB.of hb1));have hC : Hid (RowF w1 G (G + 1) (.slice C p q) (orR r g)) := Hd (RowF.new ho hx64 hwrb.out);have hsC : Hid (∀ g, (Value.slice C p q).ownBlock = some g → S g ∨ w0.heap.size ≤ g) := Hd (fun g e => .inr (by have := hCl.out g e; have := hI.out.big; have := hwrb.out; omega));obtain ⟨u, hu⟩ : ∃ u, vs[k]? = some u := ⟨_, List.getElem?_eq_getElem (by rw [hI.out.vlen]; omega)⟩;have hcg := hI.out.own.cellAt k (by omega);rw [hu] at hcg;have hfg := hI.out.own.frozenAt k;clear ho hx64 hb1 hOr hSub hu hCl c0 f0 hv;go_wp2_with fail
     go_roundw
     case rel => exact ⟨k + 1, vs.set k (.slice C p q), by omega, by go_num, Hd (by rw [hst.out]; exact hI.out.put hC.out hsC.out), Hd (hF.out.setCell' hFG.out _), Hd (hgn.out.setCell' hgG.out _), Hd (hbb.out.setG k _)⟩
     case measure => simp [intOf]; omega
   | false =>
    go_wp2_with fail;refine hHas.out.mono ?_; rintro e w' ⟨rfl, rfl⟩;rw [hh]
    cases hmt : metR r fs with
    | false =>
     go_wp2_with fail;refine hMet.out.mono ?_; rintro e w' ⟨rfl, rfl⟩;rw [hmt];have hadd : leadRow fs g k r = r := by unfold leadRow; rw [hh, hmt]; simp
     have hst : Hid (mapPre (leadRow fs g) a (k + 1) = mapPre (leadRow fs g) a k) := Hd (mapPre_same hx.out hadd);clear hadd;go_wp2_with fail
     go_roundw
     case rel => exact ⟨k + 1, vs, by omega, by go_num, Hd (by rw [hst.out]; exact hI.out), hF, hgn, hbb⟩
     case measure => simp [intOf]; omega
    | true =>
     go_wp2_with fail;refine hMet.out.mono ?_; rintro e w' ⟨rfl, rfl⟩;rw [hmt]
     cases hsb : subR g r with
     | true =>
      go_wp2_with fail;refine hSub.out.mono ?_; rintro e w' ⟨rfl, rfl⟩;rw [hsb];have hadd : leadRow fs g k r = r := by unfold leadRow; rw [hsb]; simp
      have hst : Hid (mapPre (leadRow fs g) a (k + 1) = mapPre (leadRow fs g) a k) := Hd (mapPre_same hx.out hadd);clear hadd;go_wp2_with fail
      go_roundw
      case rel => exact ⟨k + 1, vs, by omega, by go_num, Hd (by rw [hst.out]; exact hI.out), hF, hgn, hbb⟩
      case measure => simp [intOf]; omega
     | false =>
      go_wp2_with fail;refine hSub.out.mono ?_; rintro e w' ⟨rfl, rfl⟩;rw [hsb];have hadd : leadRow fs g k r = orR r g := by unfold leadRow; rw [hsb, hmt]; simp
      have hst : Hid (mapPre (leadRow fs g) a (k + 1) = (mapPre (leadRow fs g) a k).set k (orR r g)) := Hd (by rw [mapPre_succ hx.out, hadd]);clear hadd;go_wp2_with fail;refine (hOr.out wr hrr.out hgn.out).mono ?_; rintro e w1 ⟨C, p, q, rfl, ho, hx64, hb1⟩;have hwrb := Hd hI.out.big.2;have hCl := Hd (oLb ho);replace hI := Hd (hI.out.later hb1);replace hF := Hd (hF.out.below hb1);replace hgn := Hd (hgn.out.below hb1);replace hbb := Hd (hbb.out.trans (BelowB.of hb1));have hC : Hid (RowF w1 G (G + 1) (.slice C p q) (orR r g)) := Hd (RowF.new ho hx64 hwrb.out);have hsC : Hid (∀ g, (Value.slice C p q).ownBlock = some g → S g ∨ w0.heap.size ≤ g) := Hd (fun g e => .inr (by have := hCl.out g e; have := hI.out.big; have := hwrb.out; omega));obtain ⟨u, hu⟩ : ∃ u, vs[k]? = some u := ⟨_, List.getElem?_eq_getElem (by rw [hI.out.vlen]; omega)⟩;have hcg := hI.out.own.cellAt k (by omega);rw [hu] at hcg;have hfg := hI.out.own.frozenAt k;clear ho hx64 hb1 hOr hSub hu hCl c0 f0 hv;go_wp2_with fail
      go_roundw
      case rel => exact ⟨k + 1, vs.set k (.slice C p q), by omega, by go_num, Hd (by rw [hst.out]; exact hI.out.put hC.out hsC.out), Hd (hF.out.setCell' hFG.out _), Hd (hgn.out.setCell' hgG.out _), Hd (hbb.out.setG k _)⟩
      case measure => simp [intOf]; omega
  ·obtain rfl : k = n := by omega
   have hlt' : ¬ (k : Int) < (k : Int) := by omega
   clear hlt;go_wp2_with fail
   go_end0
   exact ⟨rfl, vs, by rw [← hres.out]; exact hI.out, hbb.out⟩

structure FstM (H n : Nat) (w : World) (us : List Value) (xss : List (List Nat)) : Prop where
 o : w.ownsRow H 88 1 (.slice (some ⟨H, 0, none⟩) n n) n us
 rows : OwnRows 89 w (H + 1) us xss
 nil : ∀ k : Nat, xss[k]? = some [] → us[k]? = some (.slice none 0 0)
section
variable {H n : Nat} {w w' : World} {us : List Value} {xss : List (List Nat)}
theorem FstM.later (h : FstM H n w us xss) (hb : Below w.heap.size w w') : FstM H n w' us xss := ⟨oBl h.o hb, h.rows.below hb, h.nil⟩
theorem FstM.ulen (h : FstM H n w us xss) : us.length = n := by have := h.o.1; simpa using this
theorem FstM.lt (h : FstM H n w us xss) : H < w.heap.size := (h.o.lt H rfl).2
theorem FstM.get (h : FstM H n w us xss) {k : Nat} (hk : k < n) {xs : List Nat} (hx : xss[k]? = some xs) : ∃ A m c, us[k]? = some (.slice A m c) ∧ w.cell? ⟨H, k, none⟩ = some (.slice A m c) ∧ w.frozen? ⟨H, k, none⟩ = false ∧ Row w A m xs ∧ w.ownsRow (H + 1) 89 1 (.slice A m c) m (xs.map u64v) ∧ W64 xs ∧ (xs = [] → A = none ∧ m = 0 ∧ c = 0) ∧ (xs ≠ [] → ∃ g, A = some ⟨g, 0, none⟩) := by
 have hl : k < us.length := by rw [h.ulen]; exact hk
 have hu : us[k]? = some us[k] := List.getElem?_eq_getElem hl;obtain ⟨A, m, c, e, ho, hw⟩ := h.rows.2.1 k _ xs hu hx;rw [e] at hu;refine ⟨A, m, c, hu, by rw [h.o.cellAt k (by omega)]; exact hu, h.o.frozenAt k, Row.of_own ho hw, ho, hw, fun h0 => ?_, fun h0 => ?_⟩
 ·subst h0
  have h1 := h.nil k hx;rw [hu] at h1;injection h1 with h1;injection h1 with h1 h2 h3;exact ⟨h1, h2, h3⟩
 ·rcases ho.2 with ⟨h1, h2⟩ | ⟨g, cap, cur, h1, -⟩
  ·exfalso
   have := ho.1;rw [h2, List.length_map] at this;exact h0 (List.eq_nil_of_length_eq_zero (by simpa using this))
  ·injection h1 with h1
   exact ⟨g, h1⟩
theorem FstM.start (w : World) (hn : n ≤ maxLen) : FstM w.heap.size n (w.alloc (.cells (zeros n (.slice none 0 0)) 88)) (List.replicate n (.slice none 0 0)) (List.replicate n []) := by
 refine ⟨own_zeros w n _ _ hn, ⟨by simp, fun i v xs h1 h2 => ?_, fun i j v v' g _ h1 h2 h3 => ?_⟩, fun k h => ?_⟩
 ·have e1 := List.eq_of_mem_replicate (List.mem_of_getElem? h1)
  have e2 := List.eq_of_mem_replicate (List.mem_of_getElem? h2);subst e1; subst e2;exact ⟨none, 0, 0, rfl, World.ownsRow_nil _ _ _ _, fun x hx => by cases hx⟩
 ·rw [List.eq_of_mem_replicate (List.mem_of_getElem? h1)] at h3
  cases h3
 ·have hk := (List.getElem?_eq_some_iff.1 h).1
  rw [List.length_replicate] at hk;rw [List.getElem?_replicate, if_pos hk]
theorem FstM.put (h : FstM H n w us xss) (hb : Below w.heap.size w w') {s m c : Nat} {A : Option Addr} {ys : List Nat} (ho : w'.ownsRow w.heap.size 89 1 (.slice A m c) m (ys.map u64v)) (hy : W64 ys) (h0 : ys ≠ []) (hs : s < n) :
  FstM H n (w'.setCell ⟨H, s, none⟩ (.slice A m c)) (us.set s (.slice A m c)) (xss.set s ys) := by
 have h' := h.later hb;have hH := h.lt;have hsl : s < us.length := by rw [h.ulen]; exact hs
 have hfar : ∀ g, (Value.slice A m c).ownBlock = some g → w.heap.size ≤ g := oLb ho;have hold : ∀ (i : Nat) (v : Value) (g : Nat), us[i]? = some v → v.ownBlock = some g → H + 1 ≤ g ∧ g < w.heap.size := fun i v g h1 h2 => h.rows.lt v (List.mem_of_getElem? h1) g h2;refine ⟨(h'.o.stored s _).1, ⟨by simp [h.rows.1], fun i v xs h1 h2 => ?_, fun i j v v' g hij h1 h2 h3 h4 => ?_⟩, fun k hk => ?_⟩
 ·rw [List.getElem?_set] at h1 h2
  by_cases hi : s = i
  ·subst hi
   rw [if_pos rfl, if_pos hsl] at h1;rw [if_pos rfl, if_pos (by rw [← h.rows.1]; exact hsl)] at h2;injection h1 with h1;injection h2 with h2;subst h1; subst h2;exact ⟨A, m, c, rfl, own_far (own_base ho (by omega)) (fun e => by have := hfar _ e; simp at this; omega) _, hy⟩
  ·rw [if_neg hi] at h1 h2
   obtain ⟨A', m', c', e, h5, h6⟩ := h'.rows.2.1 i v xs h1 h2;exact ⟨A', m', c', e, own_far h5 (fun e' => by have := oLb h5 _ e'; simp at this; omega) _, h6⟩
 ·rw [List.getElem?_set] at h1 h2
  by_cases hi : s = i
  ·subst hi
   rw [if_pos rfl, if_pos hsl] at h1;rw [if_neg hij] at h2;injection h1 with h1;subst h1;have := hfar g h3;have := hold j v' g h2 h4
   omega
  ·rw [if_neg hi] at h1
   by_cases hj : s = j
   ·subst hj
    rw [if_pos rfl, if_pos hsl] at h2;injection h2 with h2;subst h2;have := hfar g h4;have := hold i v g h1 h3
    omega
   ·rw [if_neg hj] at h2
    exact h.rows.2.2 i j v v' g hij h1 h2 h3 h4
 ·rw [List.getElem?_set] at hk ⊢
  by_cases hi : s = k
  ·rw [if_pos hi] at hk
   split at hk
   ·injection hk with hk
    exact absurd hk h0
   ·cases hk
  ·rw [if_neg hi] at hk ⊢
   exact h.nil k hk
theorem FstM.word (h : FstM H n w us xss) {s g m c : Nat} {xs : List Nat} (hv : us[s]? = some (.slice (some ⟨g, 0, none⟩) m c)) (hx : xss[s]? = some xs) (q y : Nat) (hy : y < 18446744073709551616) (h0 : xs ≠ []) : FstM H n (w.setCell ⟨g, q, none⟩ (u64v y)) us (xss.set s (xs.set q y)) := by
 have hg : H + 1 ≤ g := (h.rows.lt _ (List.mem_of_getElem? hv) g rfl).1;refine ⟨own_far h.o (fun e => by injection e with e; simp at e; omega) _, h.rows.put hv hx q y hy, fun k hk => ?_⟩;rw [List.getElem?_set] at hk;by_cases hi : s = k
 ·rw [if_pos hi] at hk
  split at hk
  ·injection hk with hk
   have : (xs.set q y).length = 0 := by rw [hk]; rfl
   rw [List.length_set] at this;exact absurd (List.eq_nil_of_length_eq_zero this) h0
  ·cases hk
 ·rw [if_neg hi] at hk
  exact h.nil k hk
end
def fstX (n N : Nat) (es : List Ed) : List (List Nat) := (List.range n).map (fstR N es)
theorem fstX_nil (n N : Nat) : fstX n N [] = List.replicate n [] := by
 unfold fstX
 apply List.ext_getElem?
 intro k;rw [List.getElem?_map, List.getElem?_replicate];by_cases hk : k < n
 ·rw [List.getElem?_range hk, if_pos hk]; rfl
 ·rw [List.getElem?_eq_none (by simpa using hk), if_neg hk]; rfl
theorem fstX_at {n N : Nat} (es : List Ed) {k : Nat} (hk : k < n) : (fstX n N es)[k]? = some (fstR N es k) := by
 unfold fstX; rw [List.getElem?_map, List.getElem?_range hk]; rfl
theorem fstX_step {n N q : Nat} {es : List Ed} {e : Ed} {b : Nat} (h : es[q]? = some e) (hb : e.w2 = (b : Int)) (hn : b < n) : fstX n N (es.take (q + 1)) = (fstX n N (es.take q)).set b (setR (if fstR N (es.take q) b = [] then List.replicate N 0 else fstR N (es.take q) b) e.w1) := by
 apply List.ext_getElem?
 intro k;rw [List.getElem?_set];by_cases hk : k < n
 ·rw [fstX_at _ hk, fstX_at _ hk, fstR_take h]
  by_cases hbk : b = k
  ·subst hbk
   rw [if_pos rfl, if_pos (by unfold fstX; simpa using hk)];unfold fstO;rw [if_pos hb]
  ·rw [if_neg hbk, fstO_other (by rw [hb]; omega)]
 ·have h1 : ∀ l, (fstX n N l)[k]? = none := fun l => List.getElem?_eq_none (by unfold fstX; simpa using hk)
  rw [h1, h1]
  split
  ·rw [if_neg (by unfold fstX; simp; omega)]
  ·rfl
theorem wrap_nat18 {q : Nat} (h : q ≤ 4096) : IntKind.i64.wrap (q : Int) = (q : Int) := by rw [IntKind.wrap_i64]; omega
def RetFst (n N : Nat) (es : List Ed) (w : World) (e : Ending) (w' : World) : Prop := ∃ H us, e = .returned (.slice (some ⟨H, 0, none⟩) n n) ∧ w.heap.size ≤ H ∧ FstM H n w' us (fstX n N es) ∧ Below w.heap.size w w'
theorem seen_firsts (n N m c : Nat) (E : Option Addr) (es : List Ed) (w : World) (hL : LAt encE w E m es) (hn : n ≤ 4096) (hN : N = wordsN (n : Int)) (hm : m ≤ 16777216) (hes : ∀ e ∈ es, ∃ a b : Nat, e.w1 = (a : Int) ∧ e.w2 = (b : Int) ∧ a < n ∧ b < n) :
  Calls Tryz.prog 142 #[.int .i64 (n : Int), .slice E m c] w (RetFst n N es w) := by
 have hmk := mk_rows .i64 .i64 n n (Nat.le_refl _) (by omega);have hnN : n ≤ 64 * N := by rw [hN]; unfold wordsN wordsZ; split <;> omega
 have hN64 : N ≤ 64 := by rw [hN]; unfold wordsN wordsZ; split <;> omega
 have cN := Hd (fun W => row_NewO (n : Int) (by omega) (by omega) W);rw [← hN] at cN;obtain ⟨H, hH⟩ : ∃ g, g = w.heap.size := ⟨_, rfl⟩;obtain ⟨W0, hW0⟩ : ∃ W, W = w.alloc (.cells (zeros n (.slice none 0 0)) 88) := ⟨_, rfl⟩;have hb0 := Hd (show Below w.heap.size w W0 from by rw [hW0]; exact bAl _ _);have hM0 := Hd (show FstM H n W0 (List.replicate n (.slice none 0 0)) (fstX n N (es.take 0)) from by rw [hW0, hH, List.take_zero, fstX_nil]; exact FstM.start w (by unfold maxLen; omega));have hHw := Hd (show w.heap.size ≤ H from by rw [hH]; exact Nat.le_refl _);have hnilT : ∀ W : World, (binOp .eql 88 (.slice none 0 0) (.slice none 0 0)).run Tryz.prog W = .ok (.bool true) W := fun W => by kernel_rfl
 have hnilF : ∀ (g m c : Nat) (W : World), (binOp .eql 88 (.slice (some ⟨g, 0, none⟩) m c) (.slice none 0 0)).run Tryz.prog W = .ok (.bool false) W := fun g m c W => by kernel_rfl
 replace hL := Hd hL;replace hes := Hd hes;replace hN := Hd hN
 go_enter Tryz.func142, Tryz.ntmps142
 go_wp2_with (rw [← hW0, ← hH]; clear hW0; replace hH := Hd hH);clear hmk
 go_loopw [12] (fun t wr => ∃ (q : Nat) (us : List Value), q ≤ m ∧ t = .int .i64 (q : Int) ∧ Hid (Below w.heap.size w wr) ∧ Hid (FstM H n wr us (fstX n N (es.take q)))) (fun t _ => m - (intOf t).toNat)
 case atStart => exact ⟨0, _, Nat.zero_le _, rfl, hb0, hM0⟩
 case round =>
  clear hb0 hM0;obtain ⟨q, us, hq, rfl, hb, hM⟩ := hrel;by_cases hlt : q < m
  ·have hlt' : (q : Int) < (m : Int) := by omega
   have hq0 : 0 ≤ (q : Int) ∧ (q : Int) < (m : Int) := ⟨by omega, hlt'⟩;obtain ⟨eb, eo, e, rfl, hebl, hex, heo, x0, x1, x2⟩ := (hL.out.below hb.out).edge hlt;obtain ⟨a, b, ha, hbb, han, hbn⟩ := hes.out e (List.mem_of_getElem? hex);rw [ha] at x0;rw [hbb] at x1;have hstep := fstX_step (n := n) (N := N) hex hbb hbn;rw [ha] at hstep;obtain ⟨ge, hge⟩ : ∃ g, g = wr.heap.size := ⟨_, rfl⟩;obtain ⟨W3, hW3⟩ : ∃ W, W = wr.alloc (.cells #[.int .i64 (a : Int), .int .i64 (b : Int), .int .i64 e.rd] 84) := ⟨_, rfl⟩;have b3 : Below wr.heap.size wr W3 := by rw [hW3]; exact bAl _ _
   have hE := Hd (show Blk W3 ge 84 [.int .i64 (a : Int), .int .i64 (b : Int), .int .i64 e.rd] from by rw [hW3, hge]; exact Blk.new wr _ _);have hgH := Hd (show H < ge from by rw [hge]; exact hM.out.lt);replace hb := Hd (bT2 hb.out b3);replace hM := Hd (hM.out.later b3);have hbn' : (b : Int) < (n : Int) := by omega
   have hb0' : (0 : Int) ≤ (b : Int) := by omega
   have he0 := hE.out.cell 0;have he1 := hE.out.cell 1;simp only [gZ, gS] at he0 he1;have hx := fstX_at (n := n) (N := N) (es.take q) hbn;obtain ⟨A', m', cc, k1, k2, k3, k4, k5, k6, k7, k8⟩ := hM.out.get hbn hx;have hfac := (fstR_facts (N := N) (by omega) (es.take q) (fun e he => by obtain ⟨a, b, h1, h2, h3, h4⟩ := hes.out e (List.mem_of_mem_take he); exact ⟨a, h1, by omega⟩) b).2.1;obtain ⟨xs, hxs⟩ : ∃ xs, xs = fstR N (es.take q) b := ⟨_, rfl⟩;rw [← hxs] at hx hstep k4 k5 k6 k7 k8 hfac;have hk4 := k4.len;replace hxs := Hd hxs;replace hex := Hd hex;replace heo := Hd heo;clear hebl ha hbb;by_cases hz : xs = []
   ·obtain ⟨e1, e2, e3⟩ := k7 hz
    subst e1; subst e2; subst e3;rw [if_pos hz] at hstep;have hW3s := Hd (show wr.heap.size ≤ W3.heap.size from b3.size);replace hstep := Hd hstep;clear b3 k4 k5 k6 k7 k8 hfac hk4 k1 k3 hx;go_wp2_with (rw [← hW3, ← hge]; clear hW3; replace hge := Hd hge; clear x0 x1 x2);refine wpRp 6 [(true, 0), (true, 1), (true, 2), (true, 3), (false, 4), (true, 5)] (by kernel_rfl) (by kernel_rfl) (fun U hU => ?_);have hU' : Below W3.heap.size W3 U := by rw [hU.out]; exact (Below.refl _ _).drew
    have hMU := Hd (hM.out.later hU');have hbU := Hd (bT2 hb.out hU');have hEU := Hd (hE.out.below hU' hE.out.lt);replace he1 : U.cell? ⟨ge, 1, none⟩ = some (.int .i64 (b : Int)) := by rw [hU.out]; exact he1
    clear hM hb hE hU hU' he0 k2;simp only [List.drop_succ_cons, List.drop_zero]
    iterate 4
     refine wpPf (v := ?_) rfl (by rfl) (fun w' hw' => ?_) (fun K hK => ?_);rotate_left
     ·(go_simp; try with_reducible rfl)
     go_simp;refine hK _ ?_;clear hK K
    clear he1;refine wpPo rfl (by rfl) (fun K hK => ?_);go_simp;refine (cN.out U).mono ?_;rintro e' w4 ⟨A1, n1, c1, rfl, ho1, hx1, b4⟩;refine hK _ _ b4 ?_;clear hK K;have hn1 : n1 = N := by have := ho1.1; simpa using this.symm
    subst hn1;have hN0 : 0 < n1 := by omega
    obtain ⟨g, cap, hv1, -⟩ := ho1.form hN0;injection hv1 with e1 e2 e3;subst e1; subst e3;have hE4 := hEU.out.below b4 hEU.out.lt;have hb4 := bT2 hbU.out b4;have hMl := hMU.out.lt;have hF4 := (hMU.out.later b4).o.frozenAt b;have hC4 := (hMU.out.later b4).o.cellAt b (by omega);obtain ⟨u4, hu4⟩ : ∃ u, us[b]? = some u := ⟨_, List.getElem?_eq_getElem (by rw [hMU.out.ulen]; omega)⟩;rw [hu4] at hC4;have hM := Hd (hMU.out.put b4 ho1 hx1 (fun e => by have := congrArg List.length e; simp at this; omega) hbn);have hv := Hd (show (us.set b (.slice (some ⟨g, 0, none⟩) n1 c1))[b]? = some (.slice (some ⟨g, 0, none⟩) n1 c1) from List.getElem?_set_self (by rw [hMU.out.ulen]; exact hbn));have hx := Hd (show ((fstX n n1 (es.take q)).set b (List.replicate n1 0))[b]? = some (List.replicate n1 0) from List.getElem?_set_self (by unfold fstX; simpa using hbn));have hS : ((fstX n n1 (es.take q)).set b (List.replicate n1 0)).set b (setR (List.replicate n1 0) (a : Int)) = fstX n n1 (es.take (q + 1)) := by rw [List.set_set]; exact hstep.out.symm
    obtain ⟨W5, hW5⟩ : ∃ W, W = w4.setCell ⟨H, b, none⟩ (.slice (some ⟨g, 0, none⟩) n1 c1) := ⟨_, rfl⟩;have hE := Hd (show Blk W5 ge 84 [.int .i64 (a : Int), .int .i64 (b : Int), .int .i64 e.rd] from by rw [hW5]; exact hE4.far (by have := hgH.out; simp; omega) _);have hb := Hd (show Below w.heap.size w W5 from by rw [hW5]; exact hb4.setCell (by exact hHw.out) _);rw [← hW5] at hM;obtain ⟨xs, hxs'⟩ : ∃ xs, xs = List.replicate n1 0 := ⟨_, rfl⟩;rw [← hxs'] at hx hS hM;have hxl0 : xs.length = n1 := by rw [hxs']; simp
    obtain ⟨cc, hcc⟩ : ∃ c, c = c1 := ⟨_, rfl⟩;rw [← hcc] at hv hM hW5 ⊢;obtain ⟨N, hNN⟩ : ∃ N, N = n1 := ⟨_, rfl⟩;obtain ⟨vv, hvv⟩ : ∃ v, v = us.set b (.slice (some ⟨g, 0, none⟩) n1 cc) := ⟨_, rfl⟩;obtain ⟨YY, hYY⟩ : ∃ Y, Y = (fstX n n1 (es.take q)).set b xs := ⟨_, rfl⟩;rw [← hvv] at hv hM;rw [← hYY] at hx hS hM;replace hxs' := Hd hxs';replace hcc := Hd hcc;replace hvv := Hd hvv;replace hYY := Hd hYY;clear ho1 hx1 b4 hE4 hb4 hMU hbU hEU hu4 hMl hstep hz;subst hNN
    iterate 1
     refine wpPf (v := ?_) rfl (by rfl) (fun w' hw' => ?_) (fun K hK => ?_);rotate_left
     ·(go_simp; try with_reducible rfl)
     go_simp;refine hK _ ?_;clear hK K
    refine wpPn ?_
    go_wp2
    rw [← hW5];replace hW5 := Hd hW5;refine NoPanic.normal ?_;have hxl : xs.length = N := hxl0;have hx64 : W64 xs := (hM.out.get hbn hx.out).elim (fun A h => by obtain ⟨m, c, -, -, -, -, -, h7, -⟩ := h; exact h7);obtain ⟨qq, hqq⟩ : ∃ q, q = a / 64 := ⟨_, rfl⟩;obtain ⟨r, hre⟩ : ∃ r, r = a % 64 := ⟨_, rfl⟩;have hql : qq < N := by omega
    have hr64 : r < 64 := by omega
    obtain ⟨x, hxq⟩ : ∃ x, xs[qq]? = some x := ⟨_, List.getElem?_eq_getElem (by omega)⟩;have hxb : x < 18446744073709551616 := hx64 x (List.mem_of_getElem? hxq);have hSa := setR_in (m := a) (xs := xs) (by rw [hxl]; omega) (by rw [← hqq]; exact hxq);rw [← hqq, ← hre] at hSa;have hEo := Hd (u64_or_nat x (p2 r) hxb (by have := p2_lt r hr64; omega));have hO := Hd (or_p2_lt hxb hr64);rw [hSa] at hS;replace hS := Hd hS;obtain ⟨A', m', c', k1, k2, k3, k4, k5, -⟩ := hM.out.get hbn hx.out;rw [hv.out] at k1;injection k1 with k1;injection k1 with k1 k1' k1'';subst k1; subst k1'; subst k1'';have hc : (W5).cell? ⟨g, qq, none⟩ = some (.int .u64 (x : Int)) := by
     rw [k5.cellAt _ (by omega), List.getElem?_map, hxq]; rfl
    have hf := k5.frozenAt qq;have hgl := Hd (k5.lt g rfl);have he0 := hE.out.cell 0;have he1 := hE.out.cell 1;simp only [gZ, gS] at he0 he1;replace hxq := Hd hxq;clear hx64 hSa k4 k5;go_wp2_with fail;have hq1 : (a : Int).tdiv 64 = (qq : Int) := by rw [Int.tdiv_eq_ediv_of_nonneg (by omega)]; omega
    have hr1 : (a : Int).tmod 64 = (r : Int) := by rw [Int.tmod_eq_emod_of_nonneg (by omega)]; omega
    have hwq : IntKind.i64.wrap (qq : Int) = (qq : Int) := wrap_nat18 (by omega);have hwr : IntKind.i64.wrap (r : Int) = (r : Int) := wrap_nat18 (by omega);have hA1 : (0 : Int) ≤ (qq : Int) := by omega
    have hA2 : (qq : Int) < (N : Int) := by omega
    refine still_tail 16 (by kernel_rfl) (by kernel_rfl) (fun Z hZ => ?_);replace hc : Z.cell? ⟨g, qq, none⟩ = some (.int .u64 (x : Int)) := by rw [hZ.out]; exact hc
    replace hf : Z.frozen? ⟨g, qq, none⟩ = false := by rw [hZ.out]; exact hf
    replace k2 : Z.cell? ⟨H, b, none⟩ = some (.slice (some ⟨g, 0, none⟩) N cc) := by rw [hZ.out]; exact k2
    replace he0 : Z.cell? ⟨ge, 0, none⟩ = some (.int .i64 (a : Int)) := by rw [hZ.out]; exact he0
    replace he1 : Z.cell? ⟨ge, 1, none⟩ = some (.int .i64 (b : Int)) := by rw [hZ.out]; exact he1
    have hM' := Hd (show FstM H n Z _ _ from by rw [hZ.out]; exact hM.out.later (Below.refl _ _).drew);have hb' := Hd (show Below w.heap.size w Z from by rw [hZ.out]; exact hb.out.drew);replace hqq := Hd hqq;replace hre := Hd hre;clear hZ k3;simp only [List.take_succ_cons, List.take_zero, List.drop_succ_cons, List.drop_zero]
    repeat
     refine @wpStill_step _ _ _ _ _ _ _ ?_;intro K hK;go_simp;refine hK _ ?_;clear hK K
    refine @wpStill_step _ _ _ _ _ _ _ ?_;intro K hK;go_simp;refine ⟨_, still_call (word_BitN _ hr64 _), hK _ ?_⟩;clear hK K
    repeat
     refine @wpStill_step _ _ _ _ _ _ _ ?_;intro K hK;go_simp;refine hK _ ?_;clear hK K
    refine wpStill_nil ?_
    go_wp2
    go_roundw
    case rel =>
     refine ⟨q + 1, vv, by omega, by go_num, Hd (hb'.out.setCell (by have := hgl.out; have := hHw.out; simp; omega) _), Hd ?_⟩;rw [hEo.out];have h1 := hM'.out.word hv.out hx.out qq _ hO.out (fun e => by rw [e] at hxl; simp at hxl; omega);rw [hS.out] at h1;exact h1
    case measure => simp [intOf]; omega
   ·obtain ⟨g, rfl⟩ := k8 hz
    rw [if_neg hz] at hstep;have hxl0 : xs.length = N := by
     rcases hfac with ⟨h1, -⟩ | ⟨h1, -⟩
     ·exact absurd h1 hz
     ·exact h1
    have hmN : N = m' := by omega
    subst hmN;have hv := Hd k1;replace hx := Hd hx;have hS := hstep.symm;replace hz := Hd hz;clear hstep k4 k5 k6 k7 k8 hfac hk4 b3 k1 k3;go_wp2_with (rw [← hW3, ← hge]; clear hW3; replace hge := Hd hge; clear x0 x1 x2);have hxl : xs.length = N := hxl0;have hx64 : W64 xs := (hM.out.get hbn hx.out).elim (fun A h => by obtain ⟨m, c, -, -, -, -, -, h7, -⟩ := h; exact h7);obtain ⟨qq, hqq⟩ : ∃ q, q = a / 64 := ⟨_, rfl⟩;obtain ⟨r, hre⟩ : ∃ r, r = a % 64 := ⟨_, rfl⟩;have hql : qq < N := by omega
    have hr64 : r < 64 := by omega
    obtain ⟨x, hxq⟩ : ∃ x, xs[qq]? = some x := ⟨_, List.getElem?_eq_getElem (by omega)⟩;have hxb : x < 18446744073709551616 := hx64 x (List.mem_of_getElem? hxq);have hSa := setR_in (m := a) (xs := xs) (by rw [hxl]; omega) (by rw [← hqq]; exact hxq);rw [← hqq, ← hre] at hSa;have hEo := Hd (u64_or_nat x (p2 r) hxb (by have := p2_lt r hr64; omega));have hO := Hd (or_p2_lt hxb hr64);rw [hSa] at hS;replace hS := Hd hS;obtain ⟨A', m', c', k1, k2, k3, k4, k5, -⟩ := hM.out.get hbn hx.out;rw [hv.out] at k1;injection k1 with k1;injection k1 with k1 k1' k1'';subst k1; subst k1'; subst k1'';have hc : (W3).cell? ⟨g, qq, none⟩ = some (.int .u64 (x : Int)) := by
     rw [k5.cellAt _ (by omega), List.getElem?_map, hxq]; rfl
    have hf := k5.frozenAt qq;have hgl := Hd (k5.lt g rfl);have he0 := hE.out.cell 0;have he1 := hE.out.cell 1;simp only [gZ, gS] at he0 he1;replace hxq := Hd hxq;clear hx64 hSa k4 k5;go_wp2_with fail;have hq1 : (a : Int).tdiv 64 = (qq : Int) := by rw [Int.tdiv_eq_ediv_of_nonneg (by omega)]; omega
    have hr1 : (a : Int).tmod 64 = (r : Int) := by rw [Int.tmod_eq_emod_of_nonneg (by omega)]; omega
    have hwq : IntKind.i64.wrap (qq : Int) = (qq : Int) := wrap_nat18 (by omega);have hwr : IntKind.i64.wrap (r : Int) = (r : Int) := wrap_nat18 (by omega);have hA1 : (0 : Int) ≤ (qq : Int) := by omega
    have hA2 : (qq : Int) < (N : Int) := by omega
    refine still_tail 16 (by kernel_rfl) (by kernel_rfl) (fun Z hZ => ?_);replace hc : Z.cell? ⟨g, qq, none⟩ = some (.int .u64 (x : Int)) := by rw [hZ.out]; exact hc
    replace hf : Z.frozen? ⟨g, qq, none⟩ = false := by rw [hZ.out]; exact hf
    replace k2 : Z.cell? ⟨H, b, none⟩ = some (.slice (some ⟨g, 0, none⟩) N cc) := by rw [hZ.out]; exact k2
    replace he0 : Z.cell? ⟨ge, 0, none⟩ = some (.int .i64 (a : Int)) := by rw [hZ.out]; exact he0
    replace he1 : Z.cell? ⟨ge, 1, none⟩ = some (.int .i64 (b : Int)) := by rw [hZ.out]; exact he1
    have hM' := Hd (show FstM H n Z _ _ from by rw [hZ.out]; exact hM.out.later (Below.refl _ _).drew);have hb' := Hd (show Below w.heap.size w Z from by rw [hZ.out]; exact hb.out.drew);replace hqq := Hd hqq;replace hre := Hd hre;clear hZ k3;simp only [List.take_succ_cons, List.take_zero, List.drop_succ_cons, List.drop_zero]
    repeat
     refine @wpStill_step _ _ _ _ _ _ _ ?_;intro K hK;go_simp;refine hK _ ?_;clear hK K
    refine @wpStill_step _ _ _ _ _ _ _ ?_;intro K hK;go_simp;refine ⟨_, still_call (word_BitN _ hr64 _), hK _ ?_⟩;clear hK K
    repeat
     refine @wpStill_step _ _ _ _ _ _ _ ?_;intro K hK;go_simp;refine hK _ ?_;clear hK K
    refine wpStill_nil ?_
    go_wp2
    go_roundw
    case rel =>
     refine ⟨q + 1, us, by omega, by go_num, Hd (hb'.out.setCell (by have := hgl.out; have := hHw.out; simp; omega) _), Hd ?_⟩;rw [hEo.out];have h1 := hM'.out.word hv.out hx.out qq _ hO.out (fun e => by rw [e] at hxl; simp at hxl; omega);rw [hS.out] at h1;exact h1
    case measure => simp [intOf]; omega
  ·obtain rfl : q = m := by omega
   have hlt' : ¬ (q : Int) < (q : Int) := by omega
   have hall : es.take q = es := List.take_of_length_le (by rw [hL.out.len]; exact Nat.le_refl _);rw [hall] at hM;clear hlt;go_wp2_with fail;go_ret;exact ⟨H, us, rfl, hHw.out, hM.out, hb.out⟩
section
variable {H n : Nat} {w w' : World} {us : List Value} {xss : List (List Nat)}
theorem own_keptB18 {w w' : World} {g base size n : Nat} {e : TypeId} {v : Value} {xs : List Value} (h : w.ownsRow base e size v n xs) (hb : BelowB g w w') (hg : g < base) : w'.ownsRow base e size v n xs :=
 h.kept (row := some g) ⟨hb.os, hb.tape, hb.output, hb.size, fun k hk hne => hb.block k hk (fun e => hne (by rw [e]))⟩ (by
  cases hv : v.ownBlock with
  | none => exact .inl rfl
  | some k => exact .inr (fun e => by injection e with e; have := oLb h k hv; omega))
theorem FstM.keptB {G : Nat} (h : FstM H n w us xss) (hb : BelowB G w w') (hg : G < H) : FstM H n w' us xss :=
 ⟨own_keptB18 h.o hb hg, ⟨h.rows.1, fun i v xs h1 h2 => by
  obtain ⟨A, m, c, e, h3, h4⟩ := h.rows.2.1 i v xs h1 h2;exact ⟨A, m, c, e, own_keptB18 h3 hb (by omega), h4⟩, h.rows.2.2⟩, h.nil⟩
end
def RetAdd (S : Nat → Prop) (n : Nat) (X : List (List Nat)) (w : World) (e : Ending) (w' : World) : Prop := ∃ A c, e = .returned (.agg #[.int .i64 (n : Int), .slice A n c]) ∧ RowsS (fun g => S g ∨ w.heap.size ≤ g) w' A n X ∧ n ≤ c ∧ Below w.heap.size w w' ∧ ∀ ad, A = some ad → w.heap.size ≤ ad.block
theorem seen_added (S : Nat → Prop) (A : Option Addr) (n c : Nat) (X : List (List Nat)) (E : Option Addr) (m d : Nat) (es : List Ed) (w : World) (hr : RowsS S w A n X) (hG : Good n X) (hc : ClosedM X) (hn : 0 < n) (hL : LAt encE w E m es) (hm : m ≤ 16777216) (hes : ∀ e ∈ es, ∃ a b : Nat, e.w1 = (a : Int) ∧ e.w2 = (b : Int) ∧ a < n ∧ b < n) :
  Calls Tryz.prog 122 #[.agg #[.int .i64 (n : Int), .slice A n c], .slice E m d] w (RetAdd S n (closeK ((edP es).foldl setP X) n) w) := by
 have hnn := hG.le;obtain ⟨N, hN⟩ : ∃ N, N = wordsN (n : Int) := ⟨_, rfl⟩;have hN0 : 0 < N := by rw [hN]; unfold wordsN wordsZ; split <;> omega
 have hnN : n ≤ 64 * N := by rw [hN]; unfold wordsN wordsZ; split <;> omega
 have hres := Hd (adX_close hN0 hnN hG hc hes);have hgk := Hd (fun k (hk : k ≤ n) => (adX_hull hN0 hnN hG hc hes k hk).1);have hfr := Hd (fun k => (fstR_facts (N := N) hN0 es (fun e he => by obtain ⟨a, b, h1, h2, h3, h4⟩ := hes e he; exact ⟨a, h1, by omega⟩) k).2.1);obtain ⟨vs0, hrd, hrc, hA, hS⟩ := hr;obtain ⟨W0, hW0⟩ : ∃ W0, W0 = (w.alloc (.cells #[.int .i64 n, .slice A n c] 57)).alloc (.cells #[.int .i64 0, .slice none 0 0] 57) := ⟨_, rfl⟩;have ha : Below w.heap.size w W0 := by rw [hW0]; exact ((Below.refl _ _).alloc (Nat.le_refl _) _).alloc (by simp) _
 have hB1 := Hd (show MatB W0 w.heap.size 57 n A n c from by rw [hW0]; exact (MatB.new w _).below_ (bAl _ _));have hB2 := Hd (show MatB W0 (w.heap.size + 1) 57 0 none 0 0 from by rw [hW0]; exact MatB.new1 w _ _);have hs0 := Hd (show W0.heap.size = w.heap.size + 2 from by rw [hW0]; simp);have l0 := hB1.out.c0;have l1 := hB1.out.c1;obtain ⟨b, off, rfl, hbl⟩ : ∃ b off, A = some ⟨b, off, none⟩ ∧ b < w.heap.size := by obtain ⟨b, off, e, h, -⟩ := hrd.2 hn; exact ⟨b, off, e, h⟩
 have cC := Hd (clone_rows b off n c vs0 W0 (hrd.below ha) (one_rows (hrc.below ha)) hn (by omega));have hrc0 := Hd (hrc.below ha);have hneT : ∀ (g m c : Nat) (W : World), (binOp .neq 88 (.slice (some ⟨g, 0, none⟩) m c) (.slice none 0 0)).run Tryz.prog W = .ok (.bool true) W := fun g m c W => by kernel_rfl
 have hneF : ∀ (W : World), (binOp .neq 88 (.slice none 0 0) (.slice none 0 0)).run Tryz.prog W = .ok (.bool false) W := fun W => by kernel_rfl
 have hL0 := Hd (hL.below ha);have ha' := Hd ha;have cF := Hd (fun W hW => seen_firsts n N m d E es W hW hnn hN hm hes);replace hN := Hd hN;replace hS := Hd hS;replace hes := Hd hes;replace hG := Hd hG;clear hrd hrc hL ha hA hbl
 go_enter Tryz.func122, Tryz.ntmps122
 go_wp2_with (rw [← hW0]; clear hW0);refine cC.out.mono ?_; rintro e w1 ⟨G, cap, rfl, hown, b1⟩;have hGs := (hown.lt G rfl);have hI := Hd (show LeadI S w W0.heap.size G n cap vs0 X w1 from ⟨hown, ⟨hrc0.out.1, fun i v xs h1 h2 => by
  obtain ⟨B, m', c', e, hrow⟩ := hrc0.out.2 i v xs h1 h2;subst e;exact RowF.old hrow b1 hGs.1⟩, fun v hv g e => .inl (hS.out v hv g e), by have := hs0.out; omega, hGs.2⟩)
 have hB1w := Hd (hB1.out.below_ b1);have hB2w := Hd (hB2.out.below_ b1);have hLw := Hd (hL0.out.below b1);have hbw := Hd (bT2 ha'.out b1);have hGb : Hid (W0.heap.size ≤ G) := Hd hGs.1;have l0 := hB1w.out.c0;have l1 := hB1w.out.c1;clear hown b1 hGs cC hrc0 hB1 hB2 hL0 ha';go_wp2_with fail;refine (cF.out w1 hLw.out).mono ?_; rintro e w2 ⟨H, us, rfl, hHs, hM, b2⟩;have hGH : Hid (G < H) := Hd (Nat.lt_of_lt_of_le hI.out.big.2 hHs);replace hI := Hd (hI.out.later b2);replace hB1w := Hd (hB1w.out.below_ b2);replace hB2w := Hd (hB2w.out.below_ b2);replace hbw := Hd (bT2 hbw.out b2);replace hM := Hd hM;clear b2 l0 l1 cF hLw hHs;go_wp2_with fail
 go_loopw [16] (fun t wr => ∃ (k : Nat) (vs : List Value), k ≤ n ∧ t = .int .i64 (k : Int) ∧ Hid (LeadI S w W0.heap.size G n cap vs (adX N X es k) wr) ∧ Hid (FstM H n wr us (fstX n N es)) ∧ Hid (MatB wr w.heap.size 57 n (some ⟨b, off, none⟩) n c) ∧ Hid (MatB wr (w.heap.size + 1) 57 0 none 0 0) ∧ Hid (Below w.heap.size w wr)) (fun t _ => n - (intOf t).toNat)
 case atStart => exact ⟨0, vs0, Nat.zero_le _, rfl, hI, hM, hB1w, hB2w, hbw⟩
 case round =>
  clear hI hM hB1w hB2w hbw;obtain ⟨k, vs, hk, rfl, hI, hM, hB1w, hB2w, hbw⟩ := hrel;by_cases hlt : k < n
  ·have hlt' : (k : Int) < (n : Int) := by omega
   have hk0 : 0 ≤ (k : Int) ∧ (k : Int) < (n : Int) := ⟨by omega, hlt'⟩;have hx := fstX_at (n := n) (N := N) es hlt;obtain ⟨F, fm, fc, k1, k2, k3, k4, k5, k6, k7, k8⟩ := hM.out.get hlt hx;have hf := hfr.out k;obtain ⟨fs, hfs⟩ : ∃ l, l = fstR N es k := ⟨_, rfl⟩;have hst : adX N X es (k + 1) = if fs = [] then adX N X es k else leadM (adX N X es k) fs k := by rw [hfs]; rfl
   rw [← hfs] at k4 k5 k6 k7 k8 hf;have hk4 := k4.len;by_cases hz : fs = []
   ·obtain ⟨e1, e2, e3⟩ := k7 hz
    subst e1; subst e2; subst e3;rw [if_pos hz] at hst;replace hst := Hd hst;clear k4 k5 k6 k7 k8 hf hk4 hz hfs hx k1 k3 hlt;go_wp2_with fail;exact ⟨⟨k + 1, vs, by omega, by go_num, Hd (by rw [hst.out]; exact hI.out), hM, hB1w, hB2w, hbw⟩, by simp [intOf]; omega⟩
   ·obtain ⟨g, rfl⟩ := k8 hz
    rw [if_neg hz] at hst;have hfm : fm = (wordsZ (n : Int)).toNat := by
     rcases hf with ⟨h1, -⟩ | ⟨h1, -⟩
     ·exact absurd h1 hz
     ·rw [← hk4, h1]; exact hN.out
    have hgH := oLb k5 g rfl;have cL := Hd (seen_lead S w W0.heap.size G n cap fm fc (some ⟨g, 0, none⟩) vs (adX N X es k) fs k wr hI.out k4 hfm (fun _ ad e => by injection e with e; subst e; have := hGH.out; simp; omega) (hgk.out k (by omega)) hlt);rw [← hst] at cL;have hMl := Hd hI.out.big;clear k4 k5 k6 k7 k8 hf hk4 hz hfs hx hst hfm hgH k1 k3 hlt;go_wp2_with fail;refine cL.out.mono ?_; rintro e w3 ⟨rfl, vs', hI', hbb⟩;have hGw : w.heap.size + 2 ≤ G := by have := hs0.out; have := hGb.out; omega
    have hM' := Hd (hM.out.keptB hbb hGH.out);have hB1' := Hd (show MatB w3 w.heap.size 57 n (some ⟨b, off, none⟩) n c from hbb.blk hB1w.out (by omega));have hB2' := Hd (show MatB w3 (w.heap.size + 1) 57 0 none 0 0 from hbb.blk hB2w.out (by omega));have hbw' := Hd (hbw.out.trans (hbb.below hbw.out.size (by omega)));replace hI' := Hd hI';clear hbb hM hB1w hB2w hbw hI cL;go_wp2_with fail;exact ⟨⟨k + 1, vs', by omega, by go_num, hI', hM', hB1', hB2', hbw'⟩, by simp [intOf]; omega⟩
  ·obtain rfl : k = n := by omega
   have hlt' : ¬ (k : Int) < (k : Int) := by omega
   have l0 := hB1w.out.c0;have f0 := hB2w.out.c0;have f1 := hB2w.out.c1;have g0 := hB2w.out.frozen 0;have g1 := hB2w.out.frozen 1;have hcc := hB2w.out.two (.int .i64 (k : Int)) (.slice (some ⟨G, 0, none⟩) k cap);have hc1 := Hd hcc.1;have hc2 := Hd hcc.2;have hGw := Hd (show w.heap.size + 2 ≤ G from by have := hs0.out; have := hGb.out; omega);have hat := Hd (hI.out.at.putB hB2w.out (fun _ ad e => by injection e with e; subst e; have := hGw.out; simp; omega) (.int .i64 (k : Int)) (.slice (some ⟨G, 0, none⟩) k cap));have hcap := Hd (own_cap hI.out.own);have hbf := Hd ((hbw.out.setCell (p := ⟨w.heap.size + 1, 0, none⟩) (by simp) (.int .i64 (k : Int))).setCell (p := ⟨w.heap.size + 1, 1, none⟩) (by simp) (.slice (some ⟨G, 0, none⟩) k cap));clear hlt hcc hI hM hB1w hB2w hbw;go_wp2_with fail;refine bodyPost_ret (v := .agg #[.int .i64 (k : Int), .slice (some ⟨G, 0, none⟩) k cap]) (by simp [results, Tryz.results122, go_sem, hc1.out, hc2.out]) rfl ⟨_, _, rfl, ?_, hcap.out, hbf.out, fun ad e => ?_⟩
   ·rw [← hres.out]; exact hat.out
   ·injection e with e; subst e; have := hGw.out; simp; omega

theorem Blk.not_row' {w : World} {g : Nat} {t e : TypeId} {cs : List Value} {base size n : Nat} {v : Value} {xs : List Value} (h : Blk w g t cs) (hte : t ≠ e) (hr : w.ownsRow base e size v n xs) : v.ownBlock ≠ some g := by
 rcases hr.2 with ⟨rfl, _⟩ | ⟨k, cap, cur, rfl, _, hk, _⟩
 ·intro h; cases h
 ·intro he
  have : k = g := by simpa [Value.ownBlock] using he
  subst this;rw [show w.heap[k]? = _ from h] at hk;injection hk with hk;injection hk with _ h2 _;exact hte h2
theorem rows_apart {w : World} {b1 b2 s1 s2 n1 n2 : Nat} {e1 e2 : TypeId} {v1 v2 : Value} {xs1 xs2 : List Value} (h1 : w.ownsRow b1 e1 s1 v1 n1 xs1) (h2 : w.ownsRow b2 e2 s2 v2 n2 xs2) (hne : e1 ≠ e2) {b : Nat} (hb : v1.ownBlock = some b) : v2.ownBlock ≠ some b := by
 rcases h1.2 with ⟨rfl, _⟩ | ⟨g, cap, cur, rfl, _, hg, _⟩
 ·cases hb
 ·have : g = b := by simpa [Value.ownBlock] using hb
  subst this;rcases h2.2 with ⟨rfl, _⟩ | ⟨k, cap2, cur2, rfl, _, hk, _⟩
  ·intro h; cases h
  ·intro he
   have : k = g := by simpa [Value.ownBlock] using he
   subst this;rw [hg] at hk;injection hk with hk;injection hk with _ h2 _;exact hne h2
theorem own_put {w : World} {base g n c : Nat} {e : TypeId} {vs : List Value} (h : w.ownsRow base e 1 (.slice (some ⟨g, 0, none⟩) n c) n vs) {i : Nat} (hi : i < n) (u : Value) :
  (w.setCell ⟨g, i, none⟩ u).ownsRow base e 1 (.slice (some ⟨g, 0, none⟩) n c) n (vs.set i u) := by
 refine ⟨by rw [List.length_set]; exact h.1, ?_⟩;rcases h.2 with ⟨h1, _⟩ | ⟨k, cap, cur, hv, hb, hk, hnc, hcm, hcs, ht⟩
 ·cases h1
 ·injection hv with h1 h2 h3
  injection h1 with h1;injection h1 with h1;subst h1; subst h3;refine .inr ⟨g, c, cur.set! i u, rfl, hb, ?_, hnc, hcm, by simpa using hcs, ?_⟩
  ·simp [World.setCell, Array.getElem?_modify, hk]
  ·rw [Array.set!_eq_setIfInBounds, Array.toList_setIfInBounds, ← ht, List.take_set]
section
variable {T e : TypeId} {w w' : World} {base b2 : Nat} {vs : List Value} {hs : List (List OpT)}
end

structure OwnN {α : Type} (E : Enc α) (T : TypeId) (w : World) (base : Nat) (vs : List Value) (ls : List (List α)) : Prop where
 len : vs.length = ls.length
 row : ∀ (i : Nat) (v : Value) (l : List α), vs[i]? = some v → ls[i]? = some l → (∀ x ∈ l, E.ok x) ∧ w.ownsRow base T E.sz v l.length (E.all l)
 dis : ∀ (i j : Nat) (v u : Value) (b : Nat), vs[i]? = some v → vs[j]? = some u → v.ownBlock = some b → u.ownBlock = some b → i = j
structure SlotsM {α : Type} (E : Enc α) (tS tE : TypeId) (B go n : Nat) (w : World) (vs : List Value) (ls : List (List α)) : Prop where
 o : w.ownsRow B tS 1 (.slice (some ⟨go, 0, none⟩) n n) n vs
 s : OwnN E tE w B vs ls
def Apart (go : Nat) (vs : List Value) (k : Nat) : Prop := k ≠ go ∧ ∀ v ∈ vs, v.ownBlock ≠ some k
structure Mv (go : Nat) (w0 : World) (vs0 : List Value) (w : World) (vs : List Value) : Prop where
 os : w.os = w0.os
 tape : w.tape = w0.tape
 output : w.output = w0.output
 size : w0.heap.size ≤ w.heap.size
 block : ∀ k, k < w0.heap.size → Apart go vs0 k → w.heap[k]? = w0.heap[k]? ∧ Apart go vs k
section
variable {go : Nat} {w0 w w' : World} {vs0 vs vs' : List Value}
theorem Mv.refl (go : Nat) (w : World) (vs : List Value) : Mv go w vs w vs := ⟨rfl, rfl, rfl, Nat.le_refl _, fun k _ h => ⟨rfl, h⟩⟩
theorem Mv.trans (h : Mv go w0 vs0 w vs) (k : Mv go w vs w' vs') : Mv go w0 vs0 w' vs' :=
 ⟨k.os.trans h.os, k.tape.trans h.tape, k.output.trans h.output, Nat.le_trans h.size k.size, fun i hi ha => by
  obtain ⟨h1, h2⟩ := h.block i hi ha;obtain ⟨h3, h4⟩ := k.block i (Nat.lt_of_lt_of_le hi h.size) h2;exact ⟨h3.trans h1, h4⟩⟩
theorem Mv.of (go : Nat) (vs : List Value) (h : Below w.heap.size w w') : Mv go w vs w' vs := ⟨h.os, h.tape, h.output, h.size, fun k hk ha => ⟨h.block k hk, ha⟩⟩
theorem Mv.later (h : Mv go w0 vs0 w vs) (hb : Below w.heap.size w w') : Mv go w0 vs0 w' vs := h.trans (Mv.of go vs hb)
theorem Mv.blk {k : Nat} {t : TypeId} {cs : List Value} (h : Mv go w0 vs0 w vs) (hk : Blk w0 k t cs) (ha : Apart go vs0 k) : Blk w k t cs := (h.block k hk.lt ha).1.trans hk
theorem Mv.apart {k : Nat} (h : Mv go w0 vs0 w vs) (hk : k < w0.heap.size) (ha : Apart go vs0 k) : Apart go vs k := (h.block k hk ha).2
theorem Mv.lat {α : Type} {E : Enc α} {A : Option Addr} {n : Nat} {xs : List α} (h : Mv go w0 vs0 w vs) (hL : LAt E w0 A n xs) (ha : ∀ ad, A = some ad → Apart go vs0 ad.block) : LAt E w A n xs :=
 ⟨hL.1, hL.2.1, fun hn => by
  obtain ⟨b, off, e, hb, hc⟩ := hL.2.2 hn;exact ⟨b, off, e, Nat.lt_of_lt_of_le hb h.size, fun j u hu => (World.cell?_of_block (w := w0) (h.block b hb (ha _ e)).1).trans (hc j u hu)⟩⟩
end
section
variable {α : Type} {E : Enc α} {tS tE : TypeId} {B go n : Nat} {w w' : World} {vs : List Value} {ls : List (List α)}
theorem OwnN.nils (E : Enc α) (T : TypeId) (w : World) (base n : Nat) : OwnN E T w base (List.replicate n (.slice none 0 0)) (List.replicate n []) := by
 refine ⟨by simp, fun i v l h1 h2 => ?_, fun i j v u b h1 h2 h3 h4 => ?_⟩
 ·have e1 := List.eq_of_mem_replicate (List.mem_of_getElem? h1)
  have e2 := List.eq_of_mem_replicate (List.mem_of_getElem? h2);subst e1; subst e2;exact ⟨fun x hx => by simp at hx, World.ownsRow_nil _ _ _ _⟩
 ·rw [List.eq_of_mem_replicate (List.mem_of_getElem? h1)] at h3
  cases h3
theorem OwnN.below {base : Nat} {T : TypeId} (h : OwnN E T w base vs ls) (hb : Below w.heap.size w w') : OwnN E T w' base vs ls :=
 ⟨h.len, fun i v l h1 h2 => ⟨(h.row i v l h1 h2).1, oBl (h.row i v l h1 h2).2 hb⟩, h.dis⟩
theorem SlotsM.later (h : SlotsM E tS tE B go n w vs ls) (hb : Below w.heap.size w w') : SlotsM E tS tE B go n w' vs ls := ⟨oBl h.o hb, h.s.below hb⟩
theorem SlotsM.fresh (h : SlotsM E tS tE B go n w vs ls) {k : Nat} (hk : w.heap.size ≤ k) : Apart go vs k := by
 refine ⟨fun e => ?_, fun v hv e => ?_⟩
 ·have := (h.o.lt go rfl).2; omega
 ·obtain ⟨i, hi, hv⟩ := List.getElem_of_mem hv
  have hil : i < ls.length := by rw [← h.s.len]; exact hi
  have := ((h.s.row i v ls[i] (by rw [← hv]; exact List.getElem?_eq_getElem hi) (List.getElem?_eq_getElem hil)).2.lt k e).2
  omega
theorem SlotsM.vlen (h : SlotsM E tS tE B go n w vs ls) : vs.length = n := by simpa using h.o.1
theorem SlotsM.get (h : SlotsM E tS tE B go n w vs ls) {s : Nat} (hs : s < n) : ∃ A m c l, vs[s]? = some (.slice A m c) ∧ ls[s]? = some l ∧ l.length = m ∧ w.cell? ⟨go, s, none⟩ = some (.slice A m c) ∧ w.frozen? ⟨go, s, none⟩ = false ∧
  w.ownsRow B tE E.sz (.slice A m c) m (E.all l) ∧ (∀ x ∈ l, E.ok x) ∧ m ≤ c ∧ c ≤ 9223372036854775807 ∧ LAt E w A m l := by
 have hvl : s < vs.length := by rw [h.vlen]; exact hs
 have hll : s < ls.length := by rw [← h.s.len]; exact hvl
 have hv := List.getElem?_eq_getElem hvl;have hl := List.getElem?_eq_getElem hll;obtain ⟨hok, hr⟩ := h.s.row s _ _ hv hl;obtain ⟨A, c, e, h1, h2, h3⟩ := LAt.of_own hr hok rfl;obtain ⟨b', off', u', e', _, hu', hc'⟩ := (Rd.of_own' h.o).at_ hs;injection e' with e';injection e' with e1 e2;rw [hv] at hu';injection hu' with hu';subst e1; subst e2;rw [Nat.zero_add, ← hu', e] at hc';refine ⟨A, _, c, ls[s], by rw [hv, e], hl, rfl, hc', ?_, by rw [← e]; exact hr, hok, h1, h2, h3⟩;rcases h.o.2 with ⟨k1, _⟩ | ⟨k, cap, cur, k1, _, k2, _⟩
 ·cases k1
 ·injection k1 with k1
  injection k1 with k1;injection k1 with k1;subst k1
  simp [World.frozen?, k2]
theorem SlotsM.put {w4 : World} {s : Nat} {v v' : Value} {l l' : List α} (h : SlotsM E tS tE B go n w vs ls) (hne : tS ≠ tE) (hv : vs[s]? = some v) (hl : ls[s]? = some l) (hg : w.grownBy w4 v.ownBlock)
  (hr : w4.ownsRow B tE E.sz v' l'.length (E.all l')) (hok : ∀ x ∈ l', E.ok x) (hb : v'.ownBlock = v.ownBlock ∨ v'.ownBlock = some w.heap.size) :
  SlotsM E tS tE B go n (w4.setCell ⟨go, s, none⟩ v') (vs.set s v') (ls.set s l') ∧ Mv go w vs (w4.setCell ⟨go, s, none⟩ v') (vs.set s v') ∧ w4.cell? ⟨go, s, none⟩ = some v ∧ w4.frozen? ⟨go, s, none⟩ = false := by
 have hsn : s < n := by rw [← h.vlen]; exact (List.getElem?_eq_some_iff.1 hv).1
 have hsv : s < vs.length := (List.getElem?_eq_some_iff.1 hv).1;have hsl : s < ls.length := (List.getElem?_eq_some_iff.1 hl).1;obtain ⟨A, m, c, l0, q1, -, -, q2, q3, -⟩ := h.get hsn;have hrow := (h.s.row s v l hv hl).2;have hgo := (h.o.lt go rfl).2;have hgoB : B ≤ go := (h.o.lt go rfl).1;have hvgo : v.ownBlock ≠ some go := rows_apart h.o hrow hne rfl;have hgo4 : w4.heap[go]? = w.heap[go]? := hg.block go hgo (fun e => hvgo e.symm);have ho4 : w4.ownsRow B tS 1 (.slice (some ⟨go, 0, none⟩) n n) n vs := own_grown h.o hrow hne hg;have hv'go : v'.ownBlock ≠ some go := by
  rcases hb with e | e
  ·rw [e]; exact hvgo
  ·rw [e]; intro e2; injection e2 with e2; omega
 have hfresh : ∀ (k : Nat) (x : Value) (b : Nat), vs[k]? = some x → x.ownBlock = some b → b < w.heap.size ∧ b ≠ go := by
  intro k x b hk hx;have hkl : k < ls.length := by rw [← h.s.len]; exact (List.getElem?_eq_some_iff.1 hk).1
  have h2 := (h.s.row k x ls[k] hk (List.getElem?_eq_getElem hkl)).2;exact ⟨(h2.lt b hx).2, fun e => rows_apart h.o h2 hne rfl (by rw [hx, e])⟩
 have key : ∀ (k : Nat) (x : Value), k ≠ s → (vs.set s v')[k]? = some x → vs[k]? = some x := fun k x hk h => by rwa [List.getElem?_set_ne (fun e => hk e.symm)] at h
 have self : ∀ (x : Value), (vs.set s v')[s]? = some x → x = v' := fun x h => by rw [List.getElem?_set_self hsv] at h; injection h with h; exact h.symm
 refine ⟨⟨own_put ho4 hsn v', by simp [h.s.len], fun k x p h1 h2 => ?_, fun k j x u b h1 h2 hx hu => ?_⟩, ⟨hg.os, hg.tape, hg.output, by simpa using hg.size, fun k hk ha => ⟨?_, ha.1, fun x hx => ?_⟩⟩, ?_, by
  have q4 := q3;unfold World.frozen? at q4 ⊢;rw [show (⟨go, s, none⟩ : Addr).block = go from rfl, hgo4];exact q4⟩
 ·by_cases hk : s = k
  ·subst hk
   rw [List.getElem?_set_self hsv] at h1;rw [List.getElem?_set_self hsl] at h2;injection h1 with h1;injection h2 with h2;subst h1; subst h2;exact ⟨hok, ownsRow_setCell_other (a := ⟨go, s, none⟩) hr hv'go v'⟩
  ·rw [List.getElem?_set_ne hk] at h1 h2
   obtain ⟨h3, h4⟩ := h.s.row k x p h1 h2;refine ⟨h3, ownsRow_setCell_other (a := ⟨go, s, none⟩) (h4.kept hg ?_) (rows_apart h.o h4 hne rfl) v'⟩
   cases hxb : x.ownBlock with
   | none => exact .inl rfl
   | some b => exact .inr (fun e => hk (h.s.dis s k v x b hv h1 (by rw [← e]) hxb))
 ·by_cases hk : k = s
  ·by_cases hj : j = s
   ·rw [hk, hj]
   ·subst hk
    have e1 := self x h1;subst e1;have h2' := key j u hj h2;rcases hb with hb | hb
    ·exact (h.s.dis k j v u b hv h2' (by rw [← hb]; exact hx) hu)
    ·have := hfresh j u b h2' hu
     rw [hb] at hx; injection hx with hx
     omega
  ·have h1' := key k x hk h1
   by_cases hj : j = s
   ·subst hj
    have e1 := self u h2;subst e1;rcases hb with hb | hb
    ·exact (h.s.dis k j x v b h1' hv hx (by rw [← hb]; exact hu))
    ·have := hfresh k x b h1' hx
     rw [hb] at hu; injection hu with hu
     omega
   ·exact h.s.dis k j x u b h1' (key j u hj h2) hx hu
 ·rw [Below.heap_setCell _ _ _ _ (show k ≠ (⟨go, s, none⟩ : Addr).block from ha.1)]
  exact hg.block k hk (fun e => ha.2 v (List.mem_of_getElem? hv) e.symm)
 ·rcases List.mem_or_eq_of_mem_set hx with h1 | h1
  ·exact ha.2 x h1
  ·subst h1
   rcases hb with e | e
   ·rw [e]; exact ha.2 v (List.mem_of_getElem? hv)
   ·rw [e]; intro e2; injection e2 with e2; omega
 ·rw [World.cell?_of_block (w := w) (a := ⟨go, s, none⟩) hgo4, q2, ← q1, hv]
theorem SlotsM.start (w : World) (tE : TypeId) (hn : n ≤ maxLen) : SlotsM E tS tE w.heap.size w.heap.size n (w.alloc (.cells (zeros n (.slice none 0 0)) tS)) (List.replicate n (.slice none 0 0)) (List.replicate n []) :=
 ⟨own_zeros w n _ _ hn, OwnN.nils E tE _ _ n⟩
end
end Go.Proofs.YtjhjojklfdjmdaaGreat
