/- Plain mathematics of layer 12: items of a session are neighbours; what follows for their order and the rows of the matrix. Nothing of the program is named. The code's own contracts of layer 12: known, first, fill, Ahead, Past, Po. The code's own contracts of layer 16: column, chosen (by a function), Of, With, Writes, Kept. The code's own contracts of layer 18: the rule for an operation (ruled). -/
import Derived.Test.YtjhjojklfdjmdaaGreatBadTellsPk4
import Derived.Test.YtjhjojklfdjmdaaGreatBadTellsPk5
import Derived.Test.YtjhjojklfdjmdaaGreatBadTellsPk2
import Derived.Test.YtjhjojklfdjmdaaGreatBadTellsPk8
import Derived.Test.YtjhjojklfdjmdaaGreatBadTellsPk6
import Derived.Test.YtjhjojklfdjmdaaGreatBadTellsPk9
import Derived.Test.YtjhjojklfdjmdaaGreatBadTellsPk3
namespace Go.Proofs.YtjhjojklfdjmdaaGreat
set_option maxRecDepth 100000
set_option maxHeartbeats 8000000
open Go.RowKit
set_option linter.unusedVariables false

def Nbr (is : List It) : Prop := ∀ (i : Nat) (x y : It), is[i]? = some x → is[i + 1]? = some y → (x.se = y.se ∧ y.pl = x.pl + 1) ∨ x.se < y.se
theorem nbr_hist (hs : List (List OpT)) : Nbr (hisF hs).2 := fun i x y hx hy => by
 have hi : i + 1 < (allO hs).length := by rw [← hisF_len hs]; exact (List.getElem?_eq_some_iff.1 hy).1
 obtain ⟨s, p, x', x1, x2, x3, x4, x5, x6, x7⟩ := items_at (hs := hs) (i := i) (by omega);obtain ⟨t, q, y', y1, y2, y3, y4, y5, y6, y7⟩ := items_at (hs := hs) (i := i + 1) hi;rw [hx] at x2; injection x2 with x2; subst x2;rw [hy] at y2; injection y2 with y2; subst y2;rcases Nat.lt_trichotomy s t with h | h | h
 ·exact .inr (by omega)
 ·subst h; exact .inl ⟨by omega, by omega⟩
 ·exfalso
  obtain ⟨os, hos⟩ : ∃ os, hs[t]? = some os := ⟨_, List.getElem?_eq_getElem y7⟩;have hgd : hs.getD t [] = os := by rw [List.getD_eq_getElem?_getD, hos]; rfl
  rw [hgd] at y6;have b1 := baseO_succ hos;have := baseO_mono (hs := hs) (show t + 1 ≤ s by omega)
  omega
theorem Nbr.chain {is : List It} (h : Nbr is) : ∀ (d i : Nat) (x y : It), is[i]? = some x → is[i + d]? = some y → (x.se = y.se ∧ y.pl = x.pl + (d : Int)) ∨ x.se < y.se
 | 0, i, x, y, hx, hy => by
  rw [Nat.add_zero, hx] at hy; injection hy with hy; subst hy;exact .inl ⟨rfl, by omega⟩
 | d + 1, i, x, y, hx, hy => by
  obtain ⟨z, hz⟩ : ∃ z, is[i + d]? = some z := ⟨_, List.getElem?_eq_getElem (by have := (List.getElem?_eq_some_iff.1 hy).1; omega)⟩;have h1 := h.chain d i x z hx hz;have h2 := h (i + d) z y hz (by rw [Nat.add_assoc]; exact hy)
  omega
theorem Nbr.le {is : List It} (h : Nbr is) {i j : Nat} {x y : It} (hij : i ≤ j) (hx : is[i]? = some x) (hy : is[j]? = some y) : (x.se = y.se ∧ y.pl = x.pl + ((j - i : Nat) : Int)) ∨ x.se < y.se :=
 h.chain (j - i) i x y hx (by rw [show i + (j - i) = j by omega]; exact hy)
theorem Nbr.ahead {is : List It} (h : Nbr is) {i j : Nat} {x y : It} (hx : is[i]? = some x) (hy : is[j]? = some y) : aheadF is i j = (decide (x.se = y.se) && decide (i < j)) := by
 rw [aheadF_at (by omega) (by omega) (by rw [Int.toNat_natCast]; exact hx) (by rw [Int.toNat_natCast]; exact hy), Bool.eq_iff_iff, Bool.and_eq_true, Bool.and_eq_true, decide_eq_true_eq, decide_eq_true_eq, decide_eq_true_eq];rcases Nat.le_total i j with hij | hij
 ·have := h.le hij hx hy
  omega
 ·have := h.le hij hy hx
  omega
structure FirstIs (is : List It) (o b : Nat) : Prop where
 le : b ≤ o
 same : ∀ (i : Nat) (x y : It), b ≤ i → i ≤ o → is[i]? = some x → is[o]? = some y → x.se = y.se
 new : 0 < b → ∀ x y, is[b - 1]? = some x → is[o]? = some y → x.se ≠ y.se
theorem FirstIs.lower {is : List It} {o b : Nat} (hN : Nbr is) (h : FirstIs is o b) {i : Nat} {x y : It} (hi : i < b) (hx : is[i]? = some x) (hy : is[o]? = some y) : x.se ≠ y.se := by
 have hob : o < is.length := (List.getElem?_eq_some_iff.1 hy).1;have hle := h.le;obtain ⟨z, hz⟩ : ∃ z, is[b - 1]? = some z := ⟨_, List.getElem?_eq_getElem (by omega)⟩;have h1 := h.new (by omega) z y hz hy;have h2 := hN.le (show i ≤ b - 1 by omega) hx hz;have h3 := hN.le (show b - 1 ≤ o by omega) hz hy
 omega
theorem FirstIs.ahead {is : List It} {o b : Nat} (hN : Nbr is) (h : FirstIs is o b) (ho : o < is.length) {i : Nat} (hi : i < is.length) : aheadF is i o = decide (b ≤ i ∧ i < o) := by
 obtain ⟨x, hx⟩ : ∃ z, is[i]? = some z := ⟨_, List.getElem?_eq_getElem hi⟩;obtain ⟨y, hy⟩ : ∃ z, is[o]? = some z := ⟨_, List.getElem?_eq_getElem ho⟩;rw [hN.ahead hx hy, Bool.eq_iff_iff, Bool.and_eq_true, decide_eq_true_eq, decide_eq_true_eq, decide_eq_true_eq]
 constructor
 ·rintro ⟨h1, h2⟩
  refine ⟨?_, h2⟩;rcases Nat.lt_or_ge i b with hb | hb
  ·exact absurd h1 (h.lower hN hb hx hy)
  ·exact hb
 ·rintro ⟨h1, h2⟩
  exact ⟨h.same i x y h1 (by omega) hx hy, h2⟩
def spanI (b n : Nat) : List Int := (List.range' b n).map fun (i : Nat) => (i : Int)
theorem spanI_succ (b n : Nat) : spanI b (n + 1) = spanI b n ++ [((b + n : Nat) : Int)] := by
 unfold spanI; rw [List.range'_1_concat, List.map_append]; rfl
theorem spanI_len (b n : Nat) : (spanI b n).length = n := by unfold spanI; simp
theorem spanI_ok (b n : Nat) : ∀ z ∈ spanI b n, 0 ≤ z ∧ z < ((b + n : Nat) : Int) := fun z hz => by
 unfold spanI at hz;obtain ⟨i, hi, rfl⟩ := List.mem_map.1 hz;have := List.mem_range'_1.1 hi
 omega
theorem FirstIs.past {is : List It} {o b : Nat} (hN : Nbr is) (h : FirstIs is o b) (ho : o < is.length) : pastF is (o : Int) is.length = spanI b (o + 1 - b) := by
 unfold pastF pastN spanI;rw [filter_span h.le ho _ (fun i hi => by
  rw [h.ahead hN ho hi, Bool.eq_iff_iff, Bool.or_eq_true, decide_eq_true_eq, decide_eq_true_eq, decide_eq_true_eq]; have := h.le; omega)]
theorem past_none {is : List It} {o : Int} (h : o < 0 ∨ (is.length : Int) ≤ o) : pastF is o is.length = [] := by
 unfold pastF pastN;rw [List.filter_eq_nil_iff.2 (fun a ha => by
  have := List.mem_range.1 ha;rw [aheadF_out (by omega), decide_eq_false (by omega)]; simp)]
 rfl
def EndAt (is : List It) (e : Nat) : Prop := 0 < e → ∀ x y, is[e - 1]? = some x → is[e]? = some y → x.se ≠ y.se
theorem EndAt.all (is : List It) : EndAt is is.length := fun h x y _ hy => by
 rw [List.getElem?_eq_none (Nat.le_refl _)] at hy; cases hy
structure Seg (is : List It) (s e : Nat) : Prop where
 lt : s < e
 le : e ≤ is.length
 at_ : ∀ i j : Nat, s ≤ i → i < e → aheadF is i j = decide (i < j ∧ j < e)
theorem FirstIs.seg {is : List It} {s e : Nat} (hN : Nbr is) (he : 0 < e) (hl : e ≤ is.length) (hE : EndAt is e) (h : FirstIs is (e - 1) s) : Seg is s e ∧ EndAt is s := by
 have hle := h.le;obtain ⟨z, hz⟩ : ∃ z, is[e - 1]? = some z := ⟨_, List.getElem?_eq_getElem (by omega)⟩;refine ⟨⟨by omega, hl, fun i j hi hie => ?_⟩, fun h0 x y hx hy => ?_⟩
 ·obtain ⟨x, hx⟩ : ∃ z, is[i]? = some z := ⟨_, List.getElem?_eq_getElem (by omega)⟩
  have hxz := h.same i x z hi (by omega) hx hz;rcases Nat.lt_or_ge j is.length with hj | hj
  ·obtain ⟨y, hy⟩ : ∃ z, is[j]? = some z := ⟨_, List.getElem?_eq_getElem hj⟩
   rw [hN.ahead hx hy, Bool.eq_iff_iff, Bool.and_eq_true, decide_eq_true_eq, decide_eq_true_eq, decide_eq_true_eq]
   constructor
   ·rintro ⟨h1, h2⟩
    refine ⟨h2, ?_⟩;rcases Nat.lt_or_ge j e with hje | hje
    ·exact hje
    ·exfalso
     obtain ⟨u, hu⟩ : ∃ z, is[e]? = some z := ⟨_, List.getElem?_eq_getElem (by omega)⟩;have h3 := hE he z u hz hu;have h4 := hN.le (show e - 1 ≤ e by omega) hz hu;have h5 := hN.le hje hu hy
     omega
   ·rintro ⟨h1, h2⟩
    exact ⟨by rw [hxz]; exact (h.same j y z (by omega) (by omega) hy hz).symm, h1⟩
  ·rw [aheadF_out (by omega)]
   symm; rw [decide_eq_false_iff_not]; omega
 ·have := h.same s y z (Nat.le_refl _) hle hy hz
  rw [this];exact h.new h0 x z hx hz
def partM (is : List It) (e : Nat) : List (List Nat) := (List.range is.length).map fun i => if i < e then [] else (poM is).getD i []
theorem partM_len (is : List It) (e : Nat) : (partM is e).length = is.length := by simp [partM]
theorem partM_none (is : List It) : partM is is.length = List.replicate is.length [] := by
 unfold partM
 apply List.ext_getElem?
 intro i;rw [List.getElem?_map, List.getElem?_range_eq, List.getElem?_replicate];by_cases h : i < is.length
 ·rw [if_pos h, if_pos h]; simp [h]
 ·rw [if_neg h, if_neg h]; rfl
where
 List.getElem?_range_eq {n i : Nat} : (List.range n)[i]? = if i < n then some i else none := by
  by_cases h : i < n
  ·rw [if_pos h, List.getElem?_range h]
  ·rw [if_neg h, List.getElem?_eq_none (by simp; omega)]
theorem poM_len' (is : List It) : (poM is).length = is.length := (DimM.fold is.length _).1
theorem partM_all (is : List It) : partM is 0 = poM is := by
 unfold partM
 apply List.ext_getElem?
 intro i;rw [List.getElem?_map];by_cases h : i < is.length
 ·rw [List.getElem?_range h]
  have := List.getElem?_eq_getElem (l := poM is) (i := i) (by rw [poM_len']; exact h);rw [this]; simp [List.getD_eq_getElem?_getD, this]
 ·rw [List.getElem?_eq_none (by simp; omega), List.getElem?_eq_none (by rw [poM_len']; omega)]; rfl
theorem partM_get {is : List It} {e i : Nat} (h1 : e ≤ i) (h2 : i < is.length) : (partM is e)[i]? = some ((poM is).getD i []) := by
 unfold partM;rw [List.getElem?_map, List.getElem?_range h2]
 simp; omega
theorem partM_set {is : List It} {e : Nat} (h : e < is.length) : (partM is (e + 1)).set e ((poM is).getD e []) = partM is e := by
 unfold partM;rw [map_range_set]
 apply List.map_congr_left
 intro j hj;by_cases hje : j = e
 ·subst hje; simp
 ·simp only [if_neg hje]
  by_cases h1 : j < e
  ·rw [if_pos h1, if_pos (by omega)]
  ·rw [if_neg h1, if_neg (by omega)]
theorem poM_row {is : List It} (h : is.length ≤ 4096) {i : Nat} (hi : i < is.length) : ((poM is).getD i []).length = (wordsZ (is.length : Int)).toNat ∧ W64 ((poM is).getD i []) ∧ ∀ j : Nat, hasR ((poM is).getD i []) (j : Int) = aheadF is i j := by
 obtain ⟨hG, hh⟩ := poM_good h;obtain ⟨r, hr⟩ : ∃ r, (poM is)[i]? = some r := ⟨_, List.getElem?_eq_getElem (by rw [poM_len']; exact hi)⟩;have hd : (poM is).getD i [] = r := getD_at hr;rw [hd];refine ⟨(DimM.fold is.length _).2 i r hr, (hG.row r (List.mem_of_getElem? hr)).1, fun j => ?_⟩;rw [← hh i j, hasM_in hr]
theorem Seg.last {is : List It} {s e : Nat} (h : Seg is s e) (hn : is.length ≤ 4096) : (poM is).getD (e - 1) [] = List.replicate (wordsZ (is.length : Int)).toNat 0 := by
 have hlt := h.lt;have hle := h.le;obtain ⟨r1, r2, r3⟩ := poM_row hn (i := e - 1) (by omega);refine row_ext r2 (fun x hx => by rw [(List.mem_replicate.1 hx).2]; omega) (by rw [r1, List.length_replicate]) (fun i _ => ?_);rw [r3, hasR_zeros, h.at_ (e - 1) i (by omega) (by omega), decide_eq_false (by omega)]
theorem Seg.step {is : List It} {s e i : Nat} (h : Seg is s e) (hn : is.length ≤ 4096) (hs : s ≤ i) (hi : i + 1 < e) : setR ((poM is).getD (i + 1) []) ((i + 1 : Nat) : Int) = (poM is).getD i [] := by
 have hle := h.le;obtain ⟨r1, r2, r3⟩ := poM_row hn (i := i) (by omega);obtain ⟨q1, q2, q3⟩ := poM_row hn (i := i + 1) (by omega);have hw := words_pos (n := is.length) (by omega);refine row_ext (setR_w64 q2 _) r2 (by rw [setR_len, r1, q1]) (fun j _ => ?_);rw [hasR_setR _ _ _ (by rw [q1]; omega), r3, q3, h.at_ i j hs (by omega), h.at_ (i + 1) j (by omega) hi, Bool.eq_iff_iff, Bool.or_eq_true, decide_eq_true_eq, decide_eq_true_eq, decide_eq_true_eq]
 omega
theorem session_known (B : Option Addr) (m d : Nat) (i : Int) (w : World) :
  Calls Tryz.prog 133 #[.slice B m d, .int .i64 i] w fun e w' => e = .returned (.bool (decide (0 ≤ i) && decide (i < (m : Int)))) ∧ w = w' := by
 by_cases hi : 0 ≤ i
 ·have d1 : decide (0 ≤ i) = true := decide_eq_true hi
  rw [d1, Bool.true_and]
  go_enter Tryz.func133, Tryz.ntmps133
  go_wp2
  go_ret;exact ⟨rfl, rfl⟩
 ·have d1 : decide (0 ≤ i) = false := decide_eq_false hi
  rw [d1, Bool.false_and]
  go_enter Tryz.func133, Tryz.ntmps133
  go_wp2
  go_ret;exact ⟨rfl, rfl⟩
theorem session_first (B : Option Addr) (m d : Nat) (is : List It) (o : Nat) (w : World) (hI : LAt encT w B m is) (ho : o < m) (hm : m ≤ 1048576) :
  Calls Tryz.prog 80 #[.slice B m d, .int .i64 (o : Int)] w fun e w' => ∃ b : Nat, e = .returned (.int .i64 (b : Int)) ∧ FirstIs is o b ∧ Below w.heap.size w w' := by
 have hil := Hd hI.len;obtain ⟨jb, jo, y, rfl, hjb, hy, hyo, -⟩ := hI.item ho;replace hI := Hd hI;replace hyo := Hd hyo;replace hy := Hd hy;obtain ⟨oz, hoz⟩ : ∃ z : Int, z = (o : Int) := ⟨_, rfl⟩;rw [← hoz];have bo : 0 ≤ oz ∧ oz < (m : Int) := by omega
 go_enter Tryz.func80, Tryz.ntmps80
 go_wp2
 go_loopw [5] (fun t wr => ∃ k : Nat, k ≤ o ∧ t = .int .i64 k ∧ Hid (∀ (i : Nat) (x : It), k ≤ i → i ≤ o → is[i]? = some x → x.se = y.se) ∧ Hid (Below w.heap.size w wr)) (fun t _ => (intOf t).toNat)
 case atStart =>
  refine ⟨o, Nat.le_refl _, by rw [hoz], Hd (fun i x h1 h2 hx => ?_), Hd (Below.refl _ _)⟩;have e : i = o := by omega
  rw [e, hy.out] at hx;injection hx with hx;rw [hx]
 case round =>
  obtain ⟨k, hk, ht, hall, hb⟩ := hrel;have hIr := Hd (hI.out.below hb.out);obtain ⟨jb', jo', y', hjB, hjb', hy', -, j0, -⟩ := hIr.out.item ho;injection hjB with hjB;injection hjB with e1 e2;subst e1; subst e2;rw [hy.out] at hy'; injection hy' with hy'; subst hy';rw [show o = oz.toNat by omega] at j0;obtain ⟨kz, hkz⟩ : ∃ z : Int, z = (k : Int) := ⟨_, rfl⟩;rw [← hkz] at ht;subst ht;by_cases hk0 : k = 0
  ·have d1 : decide (0 < kz) = false := decide_eq_false (by omega)
   have hF : Hid (FirstIs is o k) := Hd ⟨hk, fun i x z h1 h2 hx hz => by
    rw [hy.out] at hz; injection hz with hz; subst hz; exact hall.out i x h1 h2 hx, fun h => absurd h (by omega)⟩
   replace hkz := Hd hkz;replace hoz := Hd hoz;clear hall hIr hI;go_wp2_with fail
   go_quiet (fail)
   go_wp2_with fail;go_ret;exact ⟨k, by rw [hkz.out]; rfl, hF.out, bDN hb.out _⟩
  ·have d1 : decide (0 < kz) = true := decide_eq_true (by omega)
   obtain ⟨pz, hpz⟩ : ∃ z : Int, z = ((k - 1 : Nat) : Int) := ⟨_, rfl⟩;have hw1 : IntKind.i64.wrap (kz - 1) = pz := by rw [IntKind.wrap_i64]; omega
   have hw2 : wrap64 (kz - 1) = pz := by unfold wrap64; omega
   obtain ⟨ib, io, x, hiB, hib, hx, -, i0, -⟩ := hIr.out.item (show k - 1 < m by omega);injection hiB with hiB;injection hiB with e1 e2;subst e1; subst e2;rw [show k - 1 = pz.toNat by omega] at i0;have bp : 0 ≤ pz ∧ pz < (m : Int) := by omega
   by_cases hse : x.se = y.se
   ·have e1 : (x.se == y.se) = true := by simp [hse]
    have hall' : Hid (∀ (i : Nat) (x : It), k - 1 ≤ i → i ≤ o → is[i]? = some x → x.se = y.se) := Hd (fun i z h1 h2 hz => by
     rcases Nat.lt_or_ge i k with h | h
     ·rw [show i = k - 1 by omega, hx] at hz; injection hz with hz; subst hz; exact hse
     ·exact hall.out i z h h2 hz)
    replace hkz := Hd hkz;replace hoz := Hd hoz;replace hpz := Hd hpz;replace hse := Hd hse;clear hall hIr hI hx;go_wp2_with fail
    go_quiet (fail)
    go_wp2_with fail;exact ⟨⟨k - 1, by omega, by rw [← hpz.out], hall', Hd (bDN hb.out _)⟩, by have := hkz.out; have := hpz.out; simp [intOf]; omega⟩
   ·have e1 : (x.se == y.se) = false := by simpa using hse
    have hF : Hid (FirstIs is o k) := Hd ⟨hk, fun i x z h1 h2 hx hz => by
     rw [hy.out] at hz; injection hz with hz; subst hz; exact hall.out i x h1 h2 hx, fun _ u z hu hz => by
     rw [hy.out] at hz; injection hz with hz; subst hz;rw [hx] at hu; injection hu with hu; subst hu; exact hse⟩
    replace hkz := Hd hkz;replace hoz := Hd hoz;replace hpz := Hd hpz;replace hse := Hd hse;clear hall hIr hI hx;go_wp2_with fail
    go_quiet (fail)
    go_wp2_with fail;go_ret;exact ⟨k, by rw [hkz.out]; rfl, hF.out, bDN hb.out _⟩
theorem both_no {i : Int} {m : Nat} (h : ¬ (0 ≤ i ∧ i < (m : Int))) : (decide (0 ≤ i) && decide (i < (m : Int))) = false := by
 rw [Bool.eq_false_iff]; simpa using h
theorem info_int12 : (Tryz.prog.info? 3).map (fun i => (i.zero, i.size, i.bytes)) = some (some (.int .i64 0), 1, 8) := by kernel_rfl
theorem session_Past (v : FV) (f : Fac) (o : Int) (w : World) (hF : FactsAt w v f) (hm : v.m ≤ 1048576) (hN : Nbr f.items) :
  Calls Tryz.prog 116 #[.agg #[.slice v.A v.n v.c, .slice v.B v.m v.d, .slice v.C v.k v.e], .int .i64 o] w (RetIL (pastF f.items o f.items.length) w) := by
 have hil := hF.is.len;have ck := Hd (fun W => session_known v.B v.m v.d o W);obtain ⟨i0, hi, hz0, hz1, hz2⟩ := info_parts info_int12;replace hi := Hd hi;replace hz0 := Hd hz0;replace hz1 := Hd hz1;replace hz2 := Hd hz2;have hB0 := Hd (FBox.new hF);obtain ⟨g, hg⟩ : ∃ g, g = w.heap.size := ⟨_, rfl⟩;obtain ⟨W0, hW0⟩ : ∃ W, W = w.alloc (.cells #[.slice v.A v.n v.c, .slice v.B v.m v.d, .slice v.C v.k v.e] 29) := ⟨_, rfl⟩;rw [← hW0, ← hg] at hB0;clear hF;have p0 := hB0.out.c0;have p1 := hB0.out.c1;have p2 := hB0.out.c2;by_cases ho : 0 ≤ o ∧ o < (v.m : Int)
 ·rw [decide_eq_true ho.1, decide_eq_true ho.2] at ck
  obtain ⟨oN, hoe⟩ := Int.eq_ofNat_of_zero_le ho.1;have hoN : oN < v.m := by omega
  have cF := session_first v.B v.m v.d f.items oN W0 hB0.out.f.is hoN hm;have hpast := Hd (fun b (h : FirstIs f.items oN b) => h.past hN (by omega));rw [← hoe] at cF hpast;have hom : o < 1048576 := by omega
  replace hoe := Hd hoe;replace cF := Hd cF;replace ck := Hd ck;replace hil := Hd hil;clear ho hN
  go_enter Tryz.func116, Tryz.ntmps116
  go_wp2_with (rw [← hW0, ← hg]; clear hW0 hg);refine (ck.out _).mono ?_; rintro e w' ⟨rfl, rfl⟩;go_wp2_with fail;refine cF.out.mono ?_; rintro e w2 ⟨b, rfl, hfi, b2⟩;have hpl := Hd (hpast.out b hfi);have hbo := hfi.le;have hBW := Hd (bT2 hB0.out.o b2);clear hB0 p0 p1 p2 hpast hfi b2 cF ck;go_wp2_with fail
  go_loopw [5, 6] (fun u t wr => ∃ k : Nat, k ≤ oN + 1 - b ∧ t = .int .i64 ((b + k : Nat) : Int) ∧ Hid (Below w2.heap.size w2 wr) ∧ Hid (wr.ownsRow w2.heap.size 3 1 u k (encI.all (spanI b k)))) (fun _ t _ => oN + 1 - (intOf t).toNat)
  case atStart => exact ⟨0, Nat.zero_le _, rfl, Hd (Below.refl _ _), Hd (World.ownsRow_nil _ _ _ _)⟩
  case round =>
   obtain ⟨k, hk, ht, hb, hown⟩ := hrel;obtain ⟨iz, hiz⟩ : ∃ z : Int, z = ((b + k : Nat) : Int) := ⟨_, rfl⟩;rw [← hiz] at ht;subst ht;have hss := spanI_succ b k;rw [← hiz] at hss;have hoe' := hoe.out;have i64 : -9223372036854775808 ≤ iz ∧ iz < 9223372036854775808 := by omega
   by_cases hlt : iz ≤ o
   ·have d1 : decide (iz ≤ o) = true := decide_eq_true hlt
    have hw : wrap64 (iz + 1) = iz + 1 := by unfold wrap64; omega
    have hwh := Hd hw;obtain ⟨gl, hgl⟩ : ∃ g, g = wr.heap.size := ⟨_, rfl⟩;obtain ⟨VL, hVL⟩ : ∃ W, W = World.alloc wr (.cells #[.int .i64 iz] 3) := ⟨_, rfl⟩;have bL : Below wr.heap.size wr VL := by rw [hVL]; exact (Below.refl _ _).alloc (Nat.le_refl _) _
    have hlit := Hd (show LAt encI VL (some ⟨gl, 0, none⟩) 1 [iz] from by rw [hVL, hgl]; exact LAt.lit1 (E := encI) wr 3 iz i64);have hownL := Hd (oBl hown.out bL);have bWL := Hd (bT2 hb.out bL);have hbase := Hd bWL.out.size;have hk1 : k + 1 ≤ oN + 1 - b := by omega
    have hmea : oN + 1 - ((iz + 1).toNat) < oN + 1 - iz.toNat := by omega
    replace hmea := Hd hmea;replace hiz := Hd hiz;replace hss := Hd hss;clear bL hoe' i64 hlt;go_wp2_with (first
     | (rw [← hVL, ← hgl]; clear hVL hgl)
     | (at_builtin; refine wpAL (E := encI) rfl (.tmp 21) (.tmp 23) _ rfl w2.heap.size 3 i0 _ 8 Tryz.underlying27 hi.out hz0.out hz1.out hz2.out rfl _ k (spanI b k) (by rfl) hownL.out _ 1 1 _ rfl hlit.out (by unfold maxLen; omega) (by omega) hbase.out ?_; intro v' w7 hown' hb7 _ _))
    refine ⟨⟨k + 1, hk1, ?_, Hd (bWL.out.trans hb7), Hd (by rw [hss.out]; exact hown')⟩, ?_⟩
    ·have := hiz.out; congr 1; omega
    ·have := hmea.out; simpa [intOf, show wrap64 (iz + 1) = iz + 1 from hwh.out] using this
   ·have d1 : decide (iz ≤ o) = false := decide_eq_false hlt
    have hkk : k = oN + 1 - b := by omega
    rw [← hkk] at hpl;obtain ⟨A, c, rfl, hnc, hcm, hLA⟩ := LAt.of_own hown.out (fun z hz => by
     have := spanI_ok b k z hz;exact ⟨by omega, by omega⟩) (spanI_len b k)
    replace hkk := Hd hkk;replace hiz := Hd hiz;replace hss := Hd hss;replace hLA := Hd hLA;replace hoe := Hd hoe';clear hlt hoe' i64;go_wp2_with fail;go_ret;rw [hpl.out];exact ⟨A, k, c, rfl, hLA.out, hnc, hcm, bT2 hBW.out hb.out⟩
 ·rw [both_no ho] at ck
  have hpl := Hd (past_none (is := f.items) (o := o) (by omega));replace ck := Hd ck;clear ho hN
  go_enter Tryz.func116, Tryz.ntmps116
  go_wp2_with (rw [← hW0, ← hg]; clear hW0 hg);refine (ck.out _).mono ?_; rintro e w' ⟨rfl, rfl⟩;go_wp2_with fail;go_ret;rw [hpl.out];exact ⟨none, 0, 0, rfl, LAt.nil _ _ _, Nat.le_refl _, by omega, hB0.out.o⟩
theorem Row.setBlk {w : World} {A : Option Addr} {n G i : Nat} {t : TypeId} {xs : List Nat} {cs : List Value} (h : Row w A n xs) (k : Blk w G t cs) (hcs : ∀ x ∈ cs, ∃ A n c, x = .slice A n c) (u : Value) : Row (w.setCell ⟨G, i, none⟩ u) A n xs := by
 rcases Nat.eq_zero_or_pos n with h0 | h0
 ·subst h0
  have hx : xs = [] := List.eq_nil_of_length_eq_zero h.len;subst hx;exact Row.nil _ _
 ·obtain ⟨b, off, x, hA, hb, hx, hx64, hc⟩ := h.at_ h0
  refine h.setCell (fun ad e => ?_) u;rw [hA] at e;injection e with e;subst e;intro hbG;have hbG : b = G := hbG;subst hbG;rw [Nat.add_zero, k.cell] at hc;obtain ⟨_, _, _, e⟩ := hcs _ (List.mem_of_getElem? hc)
  cases e
theorem RowsC.setBlk {w : World} {G i : Nat} {t : TypeId} {vs cs : List Value} {xss : List (List Nat)} (h : RowsC w vs xss) (k : Blk w G t cs) (hcs : ∀ x ∈ cs, ∃ A n c, x = .slice A n c) (u : Value) : RowsC (w.setCell ⟨G, i, none⟩ u) vs xss :=
 ⟨h.1, fun j v xs h1 h2 => by
  obtain ⟨A, n, c, e, hr⟩ := h.2 j v xs h1 h2;exact ⟨A, n, c, e, hr.setBlk k hcs u⟩⟩
theorem RowsC.slices {w : World} {vs : List Value} {xss : List (List Nat)} (h : RowsC w vs xss) : ∀ x ∈ vs, ∃ A n c, x = .slice A n c := fun x hx => by
 obtain ⟨i, hi⟩ := List.getElem?_of_mem hx;have hl : i < xss.length := by rw [← h.1]; exact (List.getElem?_eq_some_iff.1 hi).1
 obtain ⟨A, n, c, e, -⟩ := h.2 i x _ hi (List.getElem?_eq_getElem hl);exact ⟨A, n, c, e⟩
theorem belowB_set {w w' : World} {g : Nat} (h : BelowB g w w') (o : Nat) (u : Value) : BelowB g w (w'.setCell ⟨g, o, none⟩ u) :=
 ⟨h.os, h.tape, h.output, by simpa using h.size, fun k hk hg => (Below.heap_setCell w' ⟨g, o, none⟩ u k (by simpa using hg)).trans (h.block k hk hg)⟩
structure PartAt (t : TypeId) (w : World) (G n e : Nat) (is : List It) (vs : List Value) : Prop where
 k : Blk w G t vs
 r : RowsC w vs (partM is e)
 l : vs.length = n
theorem PartAt.below {t : TypeId} {w w' : World} {G n e : Nat} {is : List It} {vs : List Value} (h : PartAt t w G n e is vs) (hb : Below w.heap.size w w') : PartAt t w' G n e is vs := ⟨h.k.below hb h.k.lt, h.r.below hb, h.l⟩
theorem PartAt.put {t : TypeId} {w : World} {G n e : Nat} {is : List It} {vs : List Value} (h : PartAt t w G n (e + 1) is vs) (he : e < is.length) {A : Option Addr} {m c : Nat} (hr : Row w A m ((poM is).getD e [])) : PartAt t (w.setCell ⟨G, e, none⟩ (.slice A m c)) G n e is (vs.set e (.slice A m c)) := by
 refine ⟨h.k.set_ e _, ?_, by rw [List.length_set]; exact h.l⟩;rw [← partM_set he];exact (h.r.setBlk h.k h.r.slices _).set ⟨A, m, c, rfl, hr.setBlk h.k h.r.slices _⟩ e
theorem PartAt.row {t : TypeId} {w : World} {G n e i : Nat} {is : List It} {vs : List Value} (h : PartAt t w G n e is vs) (h1 : e ≤ i) (h2 : i < is.length) : ∃ A m c, vs[i]? = some (.slice A m c) ∧ Row w A m ((poM is).getD i []) := by
 have hl : i < vs.length := by rw [h.r.1, partM_len]; exact h2
 obtain ⟨A, m, c, e, hr⟩ := h.r.2 i _ _ (List.getElem?_eq_getElem hl) (partM_get h1 h2);exact ⟨A, m, c, by rw [List.getElem?_eq_getElem hl, e], hr⟩
theorem PartAt.any {t : TypeId} {w : World} {G n e i : Nat} {is : List It} {vs : List Value} (h : PartAt t w G n e is vs) (h2 : i < n) : ∃ A m c, vs[i]? = some (.slice A m c) := by
 have hl : i < vs.length := by rw [h.l]; exact h2
 obtain ⟨A, m, c, e⟩ := h.r.slices _ (List.getElem_mem hl);exact ⟨A, m, c, by rw [List.getElem?_eq_getElem hl, e]⟩
theorem session_fill (G n c : Nat) (is : List It) (s e : Nat) (vs : List Value) (w : World) (hP : PartAt 88 w G n e is vs) (hn : n ≤ 4096) (hil : is.length = n) (hS : Seg is s e) :
  Calls Tryz.prog 81 #[.slice (some ⟨G, 0, none⟩) n c, .int .i64 (s : Int), .int .i64 (e : Int)] w fun en w' => en = .returned (.tuple #[]) ∧ (∃ vs', PartAt 88 w' G n s is vs') ∧ BelowB G w w' := by
 have hlt := hS.lt;have hle := hS.le;rw [hil] at hle;obtain ⟨l, hl⟩ : ∃ l, e = l + 1 := ⟨e - 1, by omega⟩;subst hl;have hlast := hS.last (by omega);rw [hil, Nat.add_sub_cancel] at hlast;have hNew := Hd (fun W => row_NewO (n : Int) (by omega) (by omega) W);have hstep := Hd (fun i h1 h2 => hS.step (i := i) (by omega) h1 h2);have hrw := Hd (fun i (hi : i < is.length) => poM_row (is := is) (by omega) hi);obtain ⟨ez, hez⟩ : ∃ z : Int, z = ((l + 1 : Nat) : Int) := ⟨_, rfl⟩;rw [← hez];have hw : wrap64 (ez - 1) = (l : Int) := by unfold wrap64; omega
 have hln : l < n := by omega
 replace hlast := Hd hlast;replace hil := Hd hil;replace hP := Hd hP;replace hS := Hd hS;replace hez := Hd hez
 go_enter Tryz.func81, Tryz.ntmps81
 go_wp2_with fail;rw [hw];refine (hNew.out _).mono ?_; rintro en w1 ⟨C, p, q, rfl, ho, hx64, hb1⟩;have hP1 := hP.out.below hb1;have hrow : Row w1 C p ((poM is).getD l []) := by rw [hlast.out]; exact Row.of_own ho hx64
 obtain ⟨A1, m1, c1, hv1⟩ := hP1.any hln;have hc1 := hP1.k.cell l;rw [hv1] at hc1;have hf1 := hP1.k.frozen l;have hP2 := Hd (hP1.put (c := q) (by rw [hil.out]; exact hln) hrow);have hb2 := Hd (belowB_set (BelowB.of (g := G) hb1) l (.slice C p q));clear ho hx64 hrow hv1 hP1 hb1 hNew hw;go_wp2_with fail
 go_loopw [7] (fun t wr => ∃ (i : Nat) (vs' : List Value), s ≤ i ∧ i ≤ l ∧ t = .int .i64 (i : Int) ∧ Hid (PartAt 88 wr G n i is vs') ∧ Hid (BelowB G w wr)) (fun t _ => (intOf t).toNat)
 case atStart => exact ⟨l, _, by omega, Nat.le_refl _, rfl, hP2, hb2⟩
 case round =>
  clear hP2 hb2 hc1 hf1;obtain ⟨i, vs', hsi, hil', ht, hPi, hbi⟩ := hrel;obtain ⟨iz, hiz⟩ : ∃ z : Int, z = (i : Int) := ⟨_, rfl⟩;rw [← hiz] at ht;subst ht;by_cases hgt : s < i
  ·have d1 : decide ((s : Int) < iz) = true := decide_eq_true (by omega)
   obtain ⟨k, hk⟩ : ∃ k, i = k + 1 := ⟨i - 1, by omega⟩;subst hk;have hw1 : wrap64 (iz - 1) = (k : Int) := by unfold wrap64; omega
   have hkn : k < n := by omega
   have hsk : s ≤ k := by omega
   have bi : 0 ≤ iz ∧ iz < (n : Int) := by omega
   have hst := Hd (hstep.out k (by omega) (by omega));obtain ⟨A2, m2, c2, hv2, hr2⟩ := hPi.out.row (i := k + 1) (Nat.le_refl _) (by rw [hil.out]; omega);have hc2 := hPi.out.k.cell iz.toNat;rw [show iz.toNat = k + 1 by omega, hv2, ← show iz.toNat = k + 1 by omega] at hc2;have hm2 : m2 ≤ 64 := by
    have h1 := hr2.len;have h2 := (hrw.out (k + 1) (by rw [hil.out]; omega)).1;have h3 := words_le hn;rw [hil.out] at h2
    omega
   have cS := Hd (fun W hW => row_Set A2 m2 c2 ((poM is).getD (k + 1) []) iz W hW (by omega) (by omega) (by omega));have hset := Hd (show setR ((poM is).getD (k + 1) []) iz = (poM is).getD k [] from by rw [hiz]; exact hst.out);replace hr2 := Hd hr2;replace hiz := Hd hiz;clear hst hv2 hgt;go_wp2_with fail;refine (cS.out wr hr2.out).mono ?_; rintro en w3 ⟨C3, p3, q3, rfl, hr3, hb3⟩;rw [hset.out] at hr3;have hP3 := hPi.out.below hb3;obtain ⟨A4, m4, c4, hv4⟩ := hP3.any hkn;have hc4 := hP3.k.cell k;rw [hv4] at hc4;have hf4 := hP3.k.frozen k;have ek : iz.toNat - 1 = k := by have := hiz.out; omega
   have bp : 1 ≤ iz ∧ iz - 1 < (n : Int) := by have := hiz.out; omega
   have hP4 := Hd (show PartAt 88 (w3.setCell ⟨G, iz.toNat - 1, none⟩ (.slice C3 p3 q3)) G n k is (vs'.set k (.slice C3 p3 q3)) from by rw [ek]; exact hP3.put (c := q3) (by rw [hil.out]; exact hkn) hr3);have hb4 := Hd (show BelowB G w (w3.setCell ⟨G, iz.toNat - 1, none⟩ (.slice C3 p3 q3)) from belowB_set (hbi.out.trans (BelowB.of hb3)) _ (.slice C3 p3 q3));rw [← ek] at hc4 hf4;clear hr3 hv4 hP3 hb3 cS hset hr2 hc2 hw1 ek;go_wp2_with fail;exact ⟨⟨k, _, by omega, by omega, by have := hiz.out; congr 1; omega, hP4, hb4⟩, by have := hiz.out; simp [intOf]; omega⟩
  ·have d1 : decide ((s : Int) < iz) = false := decide_eq_false (by omega)
   have his : i = s := by omega
   subst his;replace hiz := Hd hiz;clear hgt;go_wp2_with fail
   go_end0
   exact ⟨rfl, ⟨_, hPi.out⟩, hbi.out⟩
theorem PartAt.start {t : TypeId} {w : World} {G : Nat} {is : List It} (h : Blk w G t (List.replicate is.length (.slice none 0 0))) : PartAt t w G is.length is.length is (List.replicate is.length (.slice none 0 0)) := by
 refine ⟨h, ⟨by rw [partM_len, List.length_replicate], fun i v xs h1 h2 => ?_⟩, List.length_replicate⟩;rw [partM_none] at h2;have e1 := (List.mem_replicate.1 (List.mem_of_getElem? h1)).2;have e2 := (List.mem_replicate.1 (List.mem_of_getElem? h2)).2;subst e1; subst e2;exact ⟨none, 0, 0, rfl, Row.nil _ _⟩
theorem session_PoF (v : FV) (f : Fac) (w : World) (hF : FactsAt w v f) (hm : v.m ≤ 4096) (hN : Nbr f.items) :
  Calls Tryz.prog 51 #[.agg #[.slice v.A v.n v.c, .slice v.B v.m v.d, .slice v.C v.k v.e]] w (RetMat1F (v.m : Int) (poM f.items) w) := by
 have hil := hF.is.len;have hmk := mk_rows .i64 .i64 v.m v.m (Nat.le_refl _) (by omega);have hB0 := Hd (FBox.new hF);obtain ⟨g, hg⟩ : ∃ g, g = w.heap.size := ⟨_, rfl⟩;obtain ⟨W0, hW0⟩ : ∃ W, W = w.alloc (.cells #[.slice v.A v.n v.c, .slice v.B v.m v.d, .slice v.C v.k v.e] 29) := ⟨_, rfl⟩;rw [← hW0, ← hg] at hB0;clear hF;obtain ⟨gr, hgr⟩ : ∃ g, g = W0.heap.size := ⟨_, rfl⟩;obtain ⟨W1, hW1⟩ : ∃ W, W = W0.alloc (.cells #[.int .i64 0, .slice none 0 0] 57) := ⟨_, rfl⟩;have b1 : Below W0.heap.size W0 W1 := by rw [hW1]; exact (Below.refl _ _).alloc (Nat.le_refl _) _
 have kR : MatB W1 gr 57 0 none 0 0 := by rw [hW1, hgr]; exact MatB.new W0 _
 have hB1 := Hd (hB0.out.later b1);have hgw : w.heap.size ≤ gr := by rw [hgr]; exact hB0.out.o.size
 obtain ⟨G, hG⟩ : ∃ g, g = W1.heap.size := ⟨_, rfl⟩;obtain ⟨W2, hW2⟩ : ∃ W, W = W1.alloc (.cells (zeros v.m (.slice none 0 0)) 88) := ⟨_, rfl⟩;have b2 : Below W1.heap.size W1 W2 := by rw [hW2]; exact (Below.refl _ _).alloc (Nat.le_refl _) _
 have hP0 := Hd (show ∃ vs, PartAt 88 W2 G v.m v.m f.items vs from ⟨_, by
  rw [← hil]; refine PartAt.start ?_; rw [hW2, hG, hil]; exact Blk.new W1 _ _⟩)
 have hgG := Hd (show gr < G from by rw [hG]; exact kR.lt);have hF1 := Hd (fun o wr (h : Below W1.heap.size W1 wr) (ho : o < v.m) => session_first v.B v.m v.d f.items o wr (hB1.out.later h).f.is ho (by omega));have hfill := Hd (fun s e vs wr (hP : PartAt 88 wr G v.m e f.items vs) (hS : Seg f.items s e) => session_fill G v.m v.m f.items s e vs wr hP hm hil hS);have hEnd := Hd (show EndAt f.items v.m from by rw [← hil]; exact EndAt.all _);have b2h := Hd b2;replace hil := Hd hil;replace hN := Hd hN;have p0 := hB1.out.c0;have p1 := hB1.out.c1;have p2 := hB1.out.c2;clear b1 b2;replace kR := Hd kR
 go_enter Tryz.func51, Tryz.ntmps51
 go_wp2_with (first | (rw [← hW0, ← hg]; clear hW0 hg) | (rw [← hW1, ← hgr]; clear hW1; replace hgr := Hd hgr) | (rw [← hW2, ← hG]; clear hW2; replace hG := Hd hG))
 go_loopw [5] (fun t wr => ∃ e : Nat, e ≤ v.m ∧ t = .int .i64 (e : Int) ∧ Hid (∃ vs, PartAt 88 wr G v.m e f.items vs) ∧ Hid (EndAt f.items e) ∧ Hid (Below W1.heap.size W1 wr)) (fun t _ => (intOf t).toNat)
 case atStart => exact ⟨v.m, Nat.le_refl _, rfl, hP0, hEnd, b2h⟩
 case round =>
  clear hP0 hEnd b2h p0 p1 p2;obtain ⟨e, hem, ht, hP, hE, hb⟩ := hrel;have hBr := Hd (hB1.out.later hb.out);obtain ⟨ez, hez⟩ : ∃ z : Int, z = (e : Int) := ⟨_, rfl⟩;rw [← hez] at ht;subst ht;by_cases he0 : 0 < e
  ·have d1 : decide (0 < ez) = true := decide_eq_true (by omega)
   obtain ⟨l, hl⟩ : ∃ l, e = l + 1 := ⟨e - 1, by omega⟩;subst hl;have hw1 : wrap64 (ez - 1) = ez - 1 := by unfold wrap64; omega
   have cF := hF1.out l wr hb.out (by omega);rw [show (l : Int) = ez - 1 by omega] at cF;replace cF := Hd cF;replace hez := Hd hez;have p0 := hBr.out.c0;have p1 := hBr.out.c1;have p2 := hBr.out.c2;go_wp2_with fail;refine cF.out.mono ?_; rintro en w3 ⟨s, rfl, hfi, b3⟩;obtain ⟨vs, hPv⟩ := hP.out;obtain ⟨hSeg, hEs⟩ := hfi.seg (e := l + 1) hN.out (by omega) (by rw [hil.out]; exact hem) hE.out;have hsl := hSeg.lt;have cL := hfill.out s (l + 1) vs w3 (hPv.below b3) hSeg;rw [← hez.out] at cL;replace cL := Hd cL;replace hEs := Hd hEs;have hb3 := Hd (hb.out.trans (b3.mono hb.out.size));clear p0 p1 p2 cF hSeg hfi hPv b3;go_wp2_with fail;refine cL.out.mono ?_; rintro en w4 ⟨rfl, hP4, b4⟩;replace hP4 := Hd hP4;have hb4 := Hd (hb3.out.trans (b4.below hb3.out.size (by rw [hG.out]; exact Nat.le_refl _)));clear b4 cL;go_wp2_with fail;exact ⟨⟨s, by omega, rfl, hP4, hEs, hb4⟩, by have := hez.out; simp [intOf]; omega⟩
  ·have d1 : decide (0 < ez) = false := decide_eq_false (by omega)
   have h0 : e = 0 := by omega
   subst h0;replace hez := Hd hez;obtain ⟨vs, hPv⟩ := hP.out;have hrows : RowsAt wr (some ⟨G, 0, none⟩) v.m (poM f.items) := ⟨vs, by have := hPv.k.rd; rwa [hPv.l] at this, by rw [← partM_all]; exact hPv.r⟩;have kR3 := kR.out.below_ (show Below W1.heap.size W1 wr from hb.out);have f0 := kR3.c0;have f1 := kR3.c1;have g0 := kR3.frozen 0;have g1 := kR3.frozen 1;have hcc := kR3.two (.int .i64 (v.m : Int)) (.slice (some ⟨G, 0, none⟩) v.m v.m);have hc1 := Hd hcc.1;have hc2 := Hd hcc.2;have hrf := Hd (hrows.putB kR3 (fun _ ad e => by injection e with e; subst e; have := hgG.out; show G ≠ gr; omega) (.int .i64 (v.m : Int)) (.slice (some ⟨G, 0, none⟩) v.m v.m));have hbf := Hd (((bT2 hB1.out.o hb.out).setCell (p := ⟨gr, 0, none⟩) hgw (.int .i64 (v.m : Int))).setCell (p := ⟨gr, 1, none⟩) hgw (.slice (some ⟨G, 0, none⟩) v.m v.m));clear hcc hrows kR3 hPv hP;go_wp2_with fail;exact bodyPost_ret (v := .agg #[.int .i64 (v.m : Int), .slice (some ⟨G, 0, none⟩) v.m v.m]) (by simp [results, Tryz.results51, go_sem, hc1.out, hc2.out]) rfl ⟨some ⟨G, 0, none⟩, v.m, v.m, rfl, hrf.out, Nat.le_refl _, hbf.out, fun ad e => by injection e with e; subst e; have := hgG.out; show w.heap.size ≤ G; omega⟩
theorem session_Po (v : FV) (f : Fac) (w : World) (hF : FactsAt w v f) (hm : v.m ≤ 4096) (hN : Nbr f.items) :
  Calls Tryz.prog 51 #[.agg #[.slice v.A v.n v.c, .slice v.B v.m v.d, .slice v.C v.k v.e]] w (RetMat1 (v.m : Int) (poM f.items) w) :=
 (session_PoF v f w hF hm hN).mono fun _ _ ⟨A, n, c, he, hr, hc, hb, _⟩ => ⟨A, n, c, he, hr, hc, hb⟩
theorem filter_range_ext {p q : Nat → Bool} {n N : Nat} (hn : n ≤ N) (h1 : ∀ i, i < n → q i = p i) (h2 : ∀ i, n ≤ i → q i = false) : (List.range N).filter q = (List.range n).filter p := by
 obtain ⟨d, rfl⟩ : ∃ d, N = n + d := ⟨N - n, by omega⟩;clear hn
 induction d with
 | zero => exact List.filter_congr fun i hi => h1 i (List.mem_range.1 hi)
 | succ d ih => rw [← Nat.add_assoc, List.range_succ, List.filter_append, ih, List.filter_cons_of_neg (by rw [h2 _ (by omega)]; decide)]; simp
theorem colN_mem {a : List (List Nat)} {o : Int} {n i : Nat} : i ∈ colN a o n ↔ i < n ∧ hasM a (i : Int) o = true := by
 unfold colN; rw [List.mem_filter, List.mem_range]
theorem colN_succ (a : List (List Nat)) (o : Int) (n : Nat) : colN a o (n + 1) = if hasM a (n : Int) o = true then colN a o n ++ [n] else colN a o n := by
 unfold colN;rw [List.range_succ, List.filter_append]
 split
 ·rename_i h; rw [List.filter_cons_of_pos (by exact h)]; simp
 ·rename_i h; rw [List.filter_cons_of_neg (by exact h)]; simp
def colW (a : List (List Nat)) (o : Int) (n : Nat) : List Nat := if 0 ≤ o ∧ o < (n : Int) then setAll (wordsN (n : Int)) (colN a o n) else []
theorem words_all16 (n : Nat) : n ≤ 64 * wordsN (n : Int) := by unfold wordsN wordsZ; split <;> omega
theorem words_small16 {n : Nat} (h : n ≤ 4096) : wordsN (n : Int) ≤ 64 := by unfold wordsN wordsZ; split <;> omega
theorem col_facts (a : List (List Nat)) (o : Int) {n k : Nat} (hk : k ≤ n) : (setAll (wordsN (n : Int)) (colN a o k)).length = wordsN (n : Int) ∧ W64 (setAll (wordsN (n : Int)) (colN a o k)) ∧ ∀ j : Nat, hasR (setAll (wordsN (n : Int)) (colN a o k)) (j : Int) = decide (j ∈ colN a o k) :=
 setAll_facts _ _ fun i hi => by have := (colN_mem.1 hi).1; have := words_all16 n; omega
theorem col_list (a : List (List Nat)) (o : Int) (n : Nat) : listR (setAll (wordsN (n : Int)) (colN a o n)) = colF a o n := by
 obtain ⟨h1, -, h3⟩ := col_facts a o (Nat.le_refl n);unfold listR listN colF;rw [h1, filter_range_ext (p := fun i : Nat => hasM a (i : Int) o) (words_all16 n)]
 ·rfl
 ·intro i hi
  rw [h3 i, Bool.eq_iff_iff, decide_eq_true_iff, colN_mem];exact ⟨fun h => h.2, fun h => ⟨hi, h⟩⟩
 ·intro i hi
  rw [h3 i, decide_eq_false_iff_not, colN_mem]
  omega
theorem col_list_with (a : List (List Nat)) (k n : Nat) (hk : k < n) : listR (setR (setAll (wordsN (n : Int)) (colN a (k : Int) n)) (k : Int)) = wihF a (k : Int) n := by
 obtain ⟨h1, -, h3⟩ := col_facts a (k : Int) (Nat.le_refl n);have hw := words_all16 n;unfold listR listN wihF;rw [setR_len, h1, filter_range_ext (p := fun i : Nat => decide ((i : Int) = (k : Int)) || hasM a (i : Int) (k : Int)) hw]
 ·rfl
 ·intro i hi
  rw [hasR_setR _ k i (by rw [h1]; omega), h3 i, Bool.eq_iff_iff, Bool.or_eq_true, Bool.or_eq_true, decide_eq_true_iff, decide_eq_true_iff, decide_eq_true_iff, colN_mem];exact ⟨fun h => h.elim (fun h => .inr h.2) (fun h => .inl (by omega)), fun h => h.elim (fun h => .inr (by omega)) (fun h => .inl ⟨hi, h⟩)⟩
 ·intro i hi
  rw [hasR_setR _ k i (by rw [h1]; omega), h3 i, Bool.or_eq_false_iff, decide_eq_false_iff_not, decide_eq_false_iff_not, colN_mem]
  omega
theorem col_none {a : List (List Nat)} {n : Nat} (hG : Good n a) {o : Int} (h : ¬ (0 ≤ o ∧ o < (n : Int))) : colF a o n = [] := by
 unfold colF colN;rw [List.filter_eq_nil_iff.2 (fun i hi hh => ?_)]; · rfl
 have hh : hasM a (i : Int) o = true := hh;have := hG.in_has (i : Int) o;rw [hh, Bool.and_true] at this;unfold inM at this;simp only [Bool.and_eq_true, decide_eq_true_eq] at this
 omega
theorem all_i64v (zs : List Int) : encI.all zs = zs.map i64v := by
 unfold Enc.all encI
 induction zs with
 | nil => rfl
 | cons z zs ih => rw [List.flatMap_cons, ih]; rfl
theorem RetIntsO.il {t : TypeId} {zs : List Int} {w w' : World} {e : Ending} (h : RetIntsO t zs w e w') : RetILF zs w e w' := by
 obtain ⟨A, n, c, rfl, ho, hx, hb⟩ := h;rw [← all_i64v] at ho;have hl : zs.length = n := by have := ho.1; rw [Enc.all_len] at this; simpa [encI] using this
 obtain ⟨A2, c2, e, hnc, hcm, hL⟩ := LAt.of_own (E := encI) ho hx hl;injection e with e1 e2 e3;subst e1; subst e3;exact ⟨A, n, c, rfl, hL, hnc, hcm, hb, fun ad e => by subst e; exact oLb ho _ rfl⟩
theorem RetILF.il {zs : List Int} {w w' : World} {e : Ending} (h : RetILF zs w e w') : RetIL zs w e w' := by
 obtain ⟨A, n, c, h1, h2, h3, h4, h5, -⟩ := h;exact ⟨A, n, c, h1, h2, h3, h4, h5⟩
theorem RetILF.past {zs : List Int} {w0 w w' : World} {e : Ending} (h : RetILF zs w e w') (hb : Below w0.heap.size w0 w) : RetILF zs w0 e w' := by
 obtain ⟨A, n, c, h1, h2, h3, h4, h5, h6⟩ := h;exact ⟨A, n, c, h1, h2, h3, h4, bT2 hb h5, fun ad e => Nat.le_trans hb.size (h6 ad e)⟩
theorem wrap_nat16 {q : Nat} (h : q ≤ 4096) : IntKind.i64.wrap (q : Int) = (q : Int) := by rw [IntKind.wrap_i64]; omega
theorem past_column (A : Option Addr) (n c : Nat) (a : List (List Nat)) (o : Int) (w : World) (hr : RowsAt w A n a) (hG : Good n a) :
  Calls Tryz.prog 112 #[.agg #[.int .i64 (n : Int), .slice A n c], .int .i64 o] w (RetRow (colW a o n) w) := by
 have hnn := hG.le;have hsm := Hd hG.small;have hM0 := Hd (MatK.new (N := (n : Int)) (c := c) w 57 hr);obtain ⟨g, hg⟩ : ∃ g, g = w.heap.size := ⟨_, rfl⟩;obtain ⟨W0, hW0⟩ : ∃ W, W = w.alloc (.cells #[.int .i64 (n : Int), .slice A n c] 57) := ⟨_, rfl⟩;rw [← hW0, ← hg] at hM0;have hbo := Hd (show Below w.heap.size w W0 from by rw [hW0]; exact bAl _ _);by_cases hin : 0 ≤ o ∧ o < (n : Int)
 ·have hcw := Hd (show colW a o n = setAll (wordsN (n : Int)) (colN a o n) from if_pos hin)
  obtain ⟨h0, h1⟩ := hin;have d1 : decide (o < 0) = false := decide_eq_false (by omega);have d2 : decide ((n : Int) ≤ o) = false := decide_eq_false (by omega);have cN := Hd (row_NewO (n : Int) (by omega) (by omega) W0);have m0 := hM0.out.1.c0;have m1 := hM0.out.1.c1
  go_enter Tryz.func112, Tryz.ntmps112
  go_wp2_with (rw [← hW0, ← hg]; clear hW0 hg);refine cN.out.mono ?_; rintro e w1 ⟨A1, n1, c1, rfl, hown, hx64, b1⟩;have hn1 : n1 = wordsN (n : Int) := by have := hown.1; simpa using this.symm
  have hwa := words_all16 n;have hws := words_small16 hnn;obtain ⟨nw, hnw⟩ : ∃ nw, nw = wordsN (n : Int) := ⟨_, rfl⟩;rw [← hnw] at hn1 hwa hws;subst hn1;obtain ⟨G, cap, hv, -⟩ := hown.form (by omega);injection hv with hv1 hv2 hv3;subst hv1; subst hv3;have hfa := Hd (fun k (hk : k ≤ n) => col_facts a o (n := n) (k := k) hk);rw [← hnw] at hown hfa hcw;replace hnw := Hd hnw;have hown0 := Hd (show w1.ownsRow W0.heap.size 89 1 (.slice (some ⟨G, 0, none⟩) n1 c1) n1 ((setAll n1 (colN a o 0)).map u64v) from hown);have hM1 := Hd (hM0.out.below b1);have hb1 := Hd b1;clear hown hx64 b1 m0 m1;have m0 := hM1.out.1.c0;have m1 := hM1.out.1.c1;go_wp2_with fail;clear m0 m1
  go_loopw [20] (fun t wr => ∃ k : Nat, k ≤ n ∧ t = .int .i64 (k : Int) ∧ Hid (Below W0.heap.size W0 wr) ∧ Hid (wr.ownsRow W0.heap.size 89 1 (.slice (some ⟨G, 0, none⟩) n1 c1) n1 ((setAll n1 (colN a o k)).map u64v))) (fun t _ => n - (intOf t).toNat)
  case atStart => exact ⟨0, Nat.zero_le _, rfl, hb1, hown0⟩
  case round =>
   clear hb1 hown0;obtain ⟨k, hk, rfl, hb, hown⟩ := hrel;have hM := Hd (hM0.out.below hb.out);have m0 := hM.out.1.c0;have m1 := hM.out.1.c1;by_cases hlt : k < n
   ·have hlt' : (k : Int) < (n : Int) := by omega
    have hrs := colN_succ a o k;have cH := mat_Has (n : Int) A n c a (k : Int) o wr hM.out.2 (by omega) (fun r hr => by have := hsm.out r hr; omega) (by omega) (by omega) (by omega) (by omega)
    cases ha : hasM a (k : Int) o with
    | true =>
     rw [ha] at cH;rw [if_pos ha] at hrs;replace cH := Hd cH;obtain ⟨q, hq⟩ : ∃ q, q = k / 64 := ⟨_, rfl⟩;obtain ⟨r, hre⟩ : ∃ r, r = k % 64 := ⟨_, rfl⟩;have hql : q < n1 := by omega
     have hr64 : r < 64 := by omega
     obtain ⟨hl1, hl2, -⟩ := hfa.out k (by omega);obtain ⟨x, hx⟩ : ∃ x, (setAll n1 (colN a o k))[q]? = some x := ⟨_, List.getElem?_eq_getElem (by omega)⟩;have hx64 : x < 18446744073709551616 := hl2 x (List.mem_of_getElem? hx);have hS := setR_in (m := k) (xs := setAll n1 (colN a o k)) (by rw [hl1]; omega) (by rw [← hq]; exact hx);rw [← hq, ← hre, ← setAll_snoc, ← hrs] at hS;have hE := Hd (u64_or_nat x (p2 r) hx64 (by have := p2_lt r hr64; omega));replace hS := Hd hS;replace hx := Hd hx;clear hlt ha hrs;go_wp2_with fail;refine cH.out.mono ?_; rintro e w3 ⟨rfl, b3⟩;have hown3 := oBl hown.out b3;have hb3 := bT2 hb.out b3;have hc : w3.cell? ⟨G, q, none⟩ = some (.int .u64 (x : Int)) := by
      rw [hown3.cellAt _ (by omega), List.getElem?_map, hx.out]; rfl
     have hf := hown3.frozenAt q;have hGl := Hd (hown3.lt G rfl).1;clear b3 cH m0 m1;go_wp2_with fail;have hq1 : (k : Int).tdiv 64 = (q : Int) := by rw [Int.tdiv_eq_ediv_of_nonneg (by omega)]; omega
     have hr1 : (k : Int).tmod 64 = (r : Int) := by rw [Int.tmod_eq_emod_of_nonneg (by omega)]; omega
     have hwq : IntKind.i64.wrap (q : Int) = (q : Int) := wrap_nat16 (by omega);have hwr : IntKind.i64.wrap (r : Int) = (r : Int) := wrap_nat16 (by omega);have hA1 : (0 : Int) ≤ (q : Int) := by omega
     have hA2 : (q : Int) < (n1 : Int) := by omega
     refine still_tail 10 (by kernel_rfl) (by kernel_rfl) (fun W hW => ?_);have hc' : W.cell? ⟨G, q, none⟩ = some (.int .u64 (x : Int)) := by rw [hW.out]; exact hc
     have hf' : W.frozen? ⟨G, q, none⟩ = false := by rw [hW.out]; exact hf
     have hown' := Hd (show W.ownsRow W0.heap.size 89 1 (.slice (some ⟨G, 0, none⟩) n1 c1) n1 ((setAll n1 (colN a o k)).map u64v) from by rw [hW.out]; exact hown3.drew);have hb' := Hd (show Below W0.heap.size W0 W from by rw [hW.out]; exact hb3.drew);replace hq := Hd hq;replace hre := Hd hre;clear hc hf hb3 hown3 hW;simp only [List.take_succ_cons, List.take_zero, List.drop_succ_cons, List.drop_zero]
     repeat
      refine @wpStill_step _ _ _ _ _ _ _ ?_;intro K hK;go_simp;refine hK _ ?_;clear hK K
     refine @wpStill_step _ _ _ _ _ _ _ ?_;intro K hK;go_simp;refine ⟨_, still_call (word_BitN _ hr64 _), hK _ ?_⟩;clear hK K
     repeat
      refine @wpStill_step _ _ _ _ _ _ _ ?_;intro K hK;go_simp;refine hK _ ?_;clear hK K
     refine wpStill_nil ?_
     go_wp2
     go_roundw
     case rel =>
      refine ⟨k + 1, by omega, by go_num, Hd (hb'.out.setCell hGl.out _), Hd ?_⟩;rw [hE.out, hS.out, List.map_set];exact (hown'.out.stored _ _).1
     case measure => simp [intOf]; omega
    | false =>
     rw [ha] at cH;rw [if_neg (by simp [ha])] at hrs;replace hrs := Hd hrs;replace cH := Hd cH;clear hlt ha;go_wp2_with fail;refine cH.out.mono ?_; rintro e w3 ⟨rfl, b3⟩;have hown3 := Hd (oBl hown.out b3);have hb3 := Hd (bT2 hb.out b3);clear b3 cH m0 m1;go_wp2_with fail;exact ⟨⟨k + 1, by omega, by go_num, hb3, Hd (by rw [hrs.out]; exact hown3.out)⟩, by simp [intOf]; omega⟩
   ·have hlt' : ¬ (k : Int) < (n : Int) := by omega
    obtain rfl : k = n := by omega
    obtain ⟨hl1, hl2, -⟩ := hfa.out k (by omega);have hR := Row.of_own hown.out hl2;clear hlt hl1 hl2;go_wp2_with fail;go_ret;exact ⟨_, _, _, rfl, by rw [hcw.out]; exact hR, bT2 hbo.out hb.out⟩
 ·have hcw := Hd (show colW a o n = [] from if_neg hin)
  have m0 := hM0.out.1.c0;by_cases h0 : o < 0
  ·have d1 : decide (o < 0) = true := decide_eq_true h0
   go_enter Tryz.func112, Tryz.ntmps112
   go_wp2_with (rw [← hW0, ← hg]; clear hW0 hg);go_ret;exact ⟨none, 0, 0, rfl, by rw [hcw.out]; exact Row.nil _ _, hbo.out⟩
  ·have d1 : decide (o < 0) = false := decide_eq_false h0
   have d2 : decide ((n : Int) ≤ o) = true := decide_eq_true (by omega)
   go_enter Tryz.func112, Tryz.ntmps112
   go_wp2_with (rw [← hW0, ← hg]; clear hW0 hg);go_ret;exact ⟨none, 0, 0, rfl, by rw [hcw.out]; exact Row.nil _ _, hbo.out⟩
theorem colW_len {a : List (List Nat)} {o : Int} {n : Nat} (h : n ≤ 4096) : (colW a o n).length ≤ 64 := by
 unfold colW
 split
 ·rw [(col_facts a o (Nat.le_refl n)).1]; exact words_small16 h
 ·exact Nat.zero_le _
theorem past_OfF (A : Option Addr) (n c : Nat) (a : List (List Nat)) (o : Int) (w : World) (hr : RowsAt w A n a) (hG : Good n a) :
  Calls Tryz.prog 83 #[.agg #[.int .i64 (n : Int), .slice A n c], .int .i64 o] w (RetILF (colF a o n) w) := by
 have hM0 := Hd (MatK.new (N := (n : Int)) (c := c) w 57 hr);obtain ⟨g, hg⟩ : ∃ g, g = w.heap.size := ⟨_, rfl⟩;obtain ⟨W0, hW0⟩ : ∃ W, W = w.alloc (.cells #[.int .i64 (n : Int), .slice A n c] 57) := ⟨_, rfl⟩;rw [← hW0, ← hg] at hM0;have hbo := Hd (show Below w.heap.size w W0 from by rw [hW0]; exact bAl _ _);have m0 := hM0.out.1.c0;have m1 := hM0.out.1.c1;have cC := Hd (past_column A n c a o W0 hM0.out.2 hG);have hl : Hid (listR (colW a o n) = colF a o n) := Hd (by
  unfold colW
  split
  ·exact col_list a o n
  ·rename_i h; rw [col_none hG h]; rfl)
 have hwl := colW_len (a := a) (o := o) hG.le
 go_enter Tryz.func83, Tryz.ntmps83
 go_wp2_with (rw [← hW0, ← hg]; clear hW0 hg);refine cC.out.mono ?_; rintro e w1 ⟨A1, n1, c1, rfl, hR, b1⟩;have hn1 : n1 ≤ 64 := by rw [← hR.len]; exact hwl
 have cL := Hd (row_ListO A1 n1 c1 _ w1 hR (by omega));have hb1 := Hd (bT2 hbo.out b1);clear b1 hR hwl m0 m1;go_wp2_with fail;refine cL.out.mono ?_; intro e w2 h2;have h3 := h2.il;rw [hl.out] at h3;obtain ⟨A2, n2, c2, rfl, h4, h5, h6, h7, h8⟩ := h3.past hb1.out;clear h2;go_wp2_with fail;go_ret;exact ⟨A2, n2, c2, rfl, h4, h5, h6, h7, h8⟩
theorem past_Of (A : Option Addr) (n c : Nat) (a : List (List Nat)) (o : Int) (w : World) (hr : RowsAt w A n a) (hG : Good n a) :
  Calls Tryz.prog 83 #[.agg #[.int .i64 (n : Int), .slice A n c], .int .i64 o] w (RetIL (colF a o n) w) :=
 (past_OfF A n c a o w hr hG).mono fun _ _ h => h.il
theorem within_none (i : Int) : decide (IntKind.u64.wrap i / 64 < 0) = false := by
 rw [decide_eq_false_iff_not, IntKind.wrap_u64]; omega
theorem row_within0 (A : Option Addr) (c : Nat) (i : Int) (w : World) :
  Calls Tryz.prog 113 #[.slice A 0 c, .int .i64 i] w fun e w' => e = .returned (.bool false) ∧ w = w' := by
 have H := Hd (within_none i)
 go_enter Tryz.func113, Tryz.ntmps113
 go_wp2
 go_ret;exact ⟨ret_bool H.out, rfl⟩
theorem row_Set0 (A : Option Addr) (c : Nat) (i : Int) (w : World) :
  Calls Tryz.prog 108 #[.slice A 0 c, .int .i64 i] w (RetRow [] w) := by
 have hcl := Hd (row_clone A 0 c [] w (Row.nil _ _) (by omega))
 go_enter Tryz.func108, Tryz.ntmps108
 go_wp2_with fail;refine hcl.out.mono ?_; rintro e w1 ⟨g, rfl, hown, hb⟩;go_wp2_with fail;refine (row_within0 _ _ i _).mono ?_; rintro e w' ⟨rfl, rfl⟩
 go_wp2
 go_ret;exact ⟨_, _, _, rfl, Row.nil _ _, hb⟩
theorem past_WithF (A : Option Addr) (n c : Nat) (a : List (List Nat)) (o : Int) (w : World) (hr : RowsAt w A n a) (hG : Good n a) :
  Calls Tryz.prog 118 #[.agg #[.int .i64 (n : Int), .slice A n c], .int .i64 o] w (RetILF (wihO a o n) w) := by
 have hM0 := Hd (MatK.new (N := (n : Int)) (c := c) w 57 hr);obtain ⟨g, hg⟩ : ∃ g, g = w.heap.size := ⟨_, rfl⟩;obtain ⟨W0, hW0⟩ : ∃ W, W = w.alloc (.cells #[.int .i64 (n : Int), .slice A n c] 57) := ⟨_, rfl⟩;rw [← hW0, ← hg] at hM0;have hbo := Hd (show Below w.heap.size w W0 from by rw [hW0]; exact bAl _ _);have m0 := hM0.out.1.c0;have m1 := hM0.out.1.c1;have cC := Hd (past_column A n c a o W0 hM0.out.2 hG);have hl : Hid (listR (setR (colW a o n) o) = wihO a o n) := Hd (by
  unfold colW wihO
  split
  ·rename_i h
   obtain ⟨k, rfl⟩ := Int.eq_ofNat_of_zero_le h.1;exact col_list_with a k n (by omega)
  ·rw [setR_out (by simp; omega)]; rfl)
 have hwl := colW_len (a := a) (o := o) hG.le
 go_enter Tryz.func118, Tryz.ntmps118
 go_wp2_with (rw [← hW0, ← hg]; clear hW0 hg);refine cC.out.mono ?_; rintro e w1 ⟨A1, n1, c1, rfl, hR, b1⟩;have hn1 : n1 ≤ 64 := by rw [← hR.len]; exact hwl
 have hle := hG.le;have cS : Hid (Calls Tryz.prog 108 #[.slice A1 n1 c1, .int .i64 o] w1 (RetRow (setR (colW a o n) o) w1)) := by
  by_cases hin : 0 ≤ o ∧ o < (n : Int)
  ·exact Hd (row_Set A1 n1 c1 _ o w1 hR (by omega) (by omega) (by omega))
  ·have he : colW a o n = [] := if_neg hin
   rw [he] at hR;rw [he, setR_out (by simp; omega)];obtain rfl : n1 = 0 := hR.len.symm;exact Hd (row_Set0 A1 c1 o w1)
 have hb1 := Hd (bT2 hbo.out b1);clear b1 m0 m1;go_wp2_with fail;refine cS.out.mono ?_; rintro e w2 ⟨A2, n2, c2, rfl, hR2, b2⟩;have hn2 : n2 ≤ 64 := by rw [← hR2.len, setR_len]; exact hwl
 have cL := Hd (row_ListO A2 n2 c2 _ w2 hR2 (by omega));have hb2 := Hd (bT2 hb1.out b2);clear b2 hR hR2 hwl cS hn1;go_wp2_with fail;refine cL.out.mono ?_; intro e w3 h2;have h3 := h2.il;rw [hl.out] at h3;obtain ⟨A3, n3, c3, rfl, h4, h5, h6, h7, h8⟩ := h3.past hb2.out;clear h2;go_wp2_with fail;go_ret;exact ⟨A3, n3, c3, rfl, h4, h5, h6, h7, h8⟩
theorem past_With (A : Option Addr) (n c : Nat) (a : List (List Nat)) (o : Int) (w : World) (hr : RowsAt w A n a) (hG : Good n a) :
  Calls Tryz.prog 118 #[.agg #[.int .i64 (n : Int), .slice A n c], .int .i64 o] w (RetIL (wihO a o n) w) :=
 (past_WithF A n c a o w hr hG).mono fun _ _ h => h.il
def chP (p : It → Bool) (is : List It) (z : Int) : Bool := decide (0 ≤ z) && (match is[z.toNat]? with | some x => p x | none => false)
def chF (p : It → Bool) (is : List It) (l : List Int) : List Int := l.filter (chP p is)
theorem chP_at {p : It → Bool} {is : List It} {z : Int} {x : It} (h0 : 0 ≤ z) (h : is[z.toNat]? = some x) : chP p is z = p x := by
 unfold chP; rw [decide_eq_true h0, h]; rfl
theorem chP_out {p : It → Bool} {is : List It} {z : Int} (h : z < 0 ∨ (is.length : Int) ≤ z) : chP p is z = false := by
 unfold chP;by_cases h0 : 0 ≤ z
 ·rw [List.getElem?_eq_none (by omega)]; simp
 ·rw [decide_eq_false h0]; rfl
theorem chF_wrs (is : List It) (v : Int) (l : List Int) : chF (fun x => x.wr && decide (x.va = v)) is l = wrsF is v l := by
 unfold chF wrsF;refine List.filter_congr fun z _ => ?_;unfold chP wrOK
 cases is[z.toNat]? <;> rfl
theorem chF_kept (is : List It) (l : List Int) (hl : ∀ z ∈ l, 0 ≤ z) : chF (fun x => !x.wr) is l = keptF is l := by
 unfold chF keptF;refine List.filter_congr fun z hz => ?_;unfold chP rdOK;rw [decide_eq_true (hl z hz), Bool.true_and]
 cases is[z.toNat]? <;> rfl
theorem past_chosen0 (p : It → Bool) (v : FV) (f : Fac) (B : Option Addr) (m d : Nat) (l : List Int) (w : World) (hF : FactsAt w v f) (hL : LAt encI w B m l) (hm : m ≤ 1048576) (hvm : v.m ≤ 1048576)
  (hp : ∀ (x : It) (W : World), Below w.heap.size w W → Calls Tryz.prog 117 #[.agg #[.int .i64 x.se, .int .i64 x.pl, .bool x.wr, .int .i64 x.va, .int .i64 x.vl]] W (RetBool (p x) W)) :
  Calls Tryz.prog 109 #[.agg #[.slice v.A v.n v.c, .slice v.B v.m v.d, .slice v.C v.k v.e], .slice B m d, .func (.func 117) #[] #[]] w (RetILF (chF p f.items l) w) := by
 have hil := hF.is.len;obtain ⟨i0, hi, hz0, hz1, hz2⟩ := info_parts info_int16;replace hi := Hd hi;replace hz0 := Hd hz0;replace hz1 := Hd hz1;replace hz2 := Hd hz2;replace hil := Hd hil;replace hL := Hd hL;replace hp := Hd hp;have hB0 := Hd (FBox.new hF);obtain ⟨g, hg⟩ : ∃ g, g = w.heap.size := ⟨_, rfl⟩;obtain ⟨W0, hW0⟩ : ∃ W, W = w.alloc (.cells #[.slice v.A v.n v.c, .slice v.B v.m v.d, .slice v.C v.k v.e] 29) := ⟨_, rfl⟩;rw [← hW0, ← hg] at hB0;clear hF
 go_enter Tryz.func109, Tryz.ntmps109
 go_wp2_with (rw [← hW0, ← hg]; clear hW0 hg)
 go_loopw [7, 12] (fun u t wr => ∃ k : Nat, k ≤ m ∧ t = .int .i64 k ∧ Hid (Below W0.heap.size W0 wr) ∧ Hid (wr.ownsRow W0.heap.size 3 1 u (chF p f.items (l.take k)).length (encI.all (chF p f.items (l.take k))))) (fun _ t _ => m - (intOf t).toNat)
 case atStart => exact ⟨0, Nat.zero_le _, rfl, Hd (Below.refl _ _), Hd (World.ownsRow_nil _ _ _ _)⟩
 case round =>
  obtain ⟨k, hk, rfl, hb, hown⟩ := hrel;have hB := Hd (hB0.out.later hb.out);have hLr := (hL.out.below hB0.out.o).below hb.out;have p0 := hB.out.c0;have p1 := hB.out.c1;have p2 := hB.out.c2;have hrl : (chF p f.items (l.take k)).length ≤ k := Nat.le_trans (List.length_filter_le _ _) (List.length_take_le _ _);obtain ⟨L, hLl⟩ : ∃ L, L = (chF p f.items (l.take k)).length := ⟨_, rfl⟩;rw [← hLl] at hown hrl;replace hLl := Hd hLl;by_cases hlt : k < m
  ·have hlt' : (k : Int) < (m : Int) := by omega
   have k0 : 0 ≤ (k : Int) ∧ (k : Int) < (m : Int) := ⟨by omega, hlt'⟩;obtain ⟨lb, lo, z, rfl, hlb, hz, ⟨z0, z1⟩, j0⟩ := hLr.int hlt;have hrs : chF p f.items (l.take (k + 1)) = if chP p f.items z = true then chF p f.items (l.take k) ++ [z] else chF p f.items (l.take k) := filter_take hz;by_cases hzn : 0 ≤ z
   ·have d1 : decide (0 ≤ z) = true := decide_eq_true hzn
    by_cases hzm : z < (v.m : Int)
    ·have d2 : decide (z < (v.m : Int)) = true := decide_eq_true hzm
     have hzb : 0 ≤ z ∧ z < (v.m : Int) := ⟨hzn, hzm⟩;obtain ⟨ib, io, it, hxB, hib, hq, -, i0, i1, i2, i3, i4⟩ := hB.out.f.is.item (show z.toNat < v.m by omega);rw [hxB] at p1;rw [chP_at hzn hq] at hrs;have cP := hp.out it wr (bT2 hB0.out.o hb.out);replace hzn := Hd hzn;replace hzm := Hd hzm;replace hxB := Hd hxB
     cases hpi : p it with
     | true =>
      rw [if_pos hpi] at hrs;rw [hpi] at cP;replace hrs := Hd hrs;replace cP := Hd cP;clear hlt hz hlb hq hpi;go_wp2_with fail;refine cP.out.mono ?_; rintro e w3 ⟨rfl, b3⟩;have hown3 := Hd (oBl hown.out b3);have hb3 := Hd (bT2 hb.out b3);clear b3 cP p0 p1 p2 i0 i1 i2 i3 i4 j0;obtain ⟨gl, hgl⟩ : ∃ g, g = (w3).heap.size := ⟨_, rfl⟩;obtain ⟨VL, hVL⟩ : ∃ W, W = World.alloc (w3) (.cells #[.int .i64 z] 3) := ⟨_, rfl⟩;have bL : Below (w3).heap.size (w3) VL := by rw [hVL]; exact (Below.refl _ _).alloc (Nat.le_refl _) _
      have hlit := Hd (show LAt encI VL (some ⟨gl, 0, none⟩) 1 [z] from by rw [hVL, hgl]; exact LAt.lit1 (E := encI) (w3) 3 z ⟨by omega, by omega⟩);have hownL := Hd (oBl hown3.out bL);have bWL := Hd (bT2 hb3.out bL);have hbase := Hd bWL.out.size;clear bL;go_wp2_with (first
       | (rw [← hVL, ← hgl]; clear hVL hgl)
       | (at_builtin; refine wpAL (E := encI) rfl (.tmp 34) (.tmp 36) _ rfl W0.heap.size 3 i0 _ 8 Tryz.underlying27 hi.out hz0.out hz1.out hz2.out rfl _ L (chF p f.items (l.take k)) (by rfl) hownL.out _ 1 1 _ rfl hlit.out (by unfold maxLen; omega) (by omega) hbase.out ?_; intro v' w7 hown' hb7 _ _))
      exact ⟨⟨k + 1, by omega, by go_num, Hd (bWL.out.trans hb7), Hd (by rw [hrs.out, List.length_append, ← hLl.out]; exact hown')⟩, by simp [intOf]; omega⟩
     | false =>
      rw [if_neg (by simp [hpi])] at hrs;rw [hpi] at cP;replace hrs := Hd hrs;replace cP := Hd cP;clear hlt hz hlb hq hpi;go_wp2_with fail;refine cP.out.mono ?_; rintro e w3 ⟨rfl, b3⟩;have hown3 := Hd (oBl hown.out b3);have hb3 := Hd (bT2 hb.out b3);clear b3 cP p0 p1 p2 i0 i1 i2 i3 i4 j0;go_wp2_with fail;exact ⟨⟨k + 1, by omega, by go_num, hb3, Hd (by rw [hrs.out, ← hLl.out]; exact hown3.out)⟩, by simp [intOf]; omega⟩
    ·have d2 : decide (z < (v.m : Int)) = false := decide_eq_false hzm
     rw [if_neg (by rw [chP_out (.inr (by rw [hil.out]; omega))]; simp)] at hrs;replace hrs := Hd hrs;replace hzn := Hd hzn;replace hzm := Hd hzm;clear hz hlb;clear hlt;go_wp2_with fail;exact ⟨⟨k + 1, by omega, by go_num, hb, Hd (by rw [hrs.out, ← hLl.out]; exact hown.out)⟩, by simp [intOf]; omega⟩
   ·have d1 : decide (0 ≤ z) = false := decide_eq_false hzn
    rw [if_neg (by rw [chP_out (.inl (by omega))]; simp)] at hrs;replace hrs := Hd hrs;replace hzn := Hd hzn;clear hz hlb;clear hlt;go_wp2_with fail;exact ⟨⟨k + 1, by omega, by go_num, hb, Hd (by rw [hrs.out, ← hLl.out]; exact hown.out)⟩, by simp [intOf]; omega⟩
  ·have hlt' : ¬ (k : Int) < (m : Int) := by omega
   obtain rfl : k = m := by omega
   have hta : l.take k = l := List.take_of_length_le (by rw [hL.out.len]; omega);rw [hta] at hown hLl;have hfr := Hd (oLb hown.out);obtain ⟨A2, c2, rfl, hnc, hcm, hLA⟩ := LAt.of_own hown.out (fun z hz => hL.out.okAll z (List.mem_filter.1 hz).1) hLl.out.symm;clear hlt hta hLr;go_wp2_with fail;go_ret;exact ⟨A2, L, c2, rfl, hLA, hnc, hcm, bT2 hB0.out.o hb.out, fun ad e => by subst e; exact Nat.le_trans hB0.out.o.size (hfr.out _ rfl)⟩
theorem past_chosen1 (u : Value) (p : It → Bool) (v : FV) (f : Fac) (B : Option Addr) (m d : Nat) (l : List Int) (w : World) (hF : FactsAt w v f) (hL : LAt encI w B m l) (hm : m ≤ 1048576) (hvm : v.m ≤ 1048576)
  (hp : ∀ (x : It) (W : World), Below w.heap.size w W → Calls Tryz.prog 110 #[.agg #[.int .i64 x.se, .int .i64 x.pl, .bool x.wr, .int .i64 x.va, .int .i64 x.vl], u] W (RetBool (p x) W)) :
  Calls Tryz.prog 109 #[.agg #[.slice v.A v.n v.c, .slice v.B v.m v.d, .slice v.C v.k v.e], .slice B m d, .func (.func 110) #[] #[u]] w (RetILF (chF p f.items l) w) := by
 have hil := hF.is.len;obtain ⟨i0, hi, hz0, hz1, hz2⟩ := info_parts info_int16;replace hi := Hd hi;replace hz0 := Hd hz0;replace hz1 := Hd hz1;replace hz2 := Hd hz2;replace hil := Hd hil;replace hL := Hd hL;replace hp := Hd hp;have hB0 := Hd (FBox.new hF);obtain ⟨g, hg⟩ : ∃ g, g = w.heap.size := ⟨_, rfl⟩;obtain ⟨W0, hW0⟩ : ∃ W, W = w.alloc (.cells #[.slice v.A v.n v.c, .slice v.B v.m v.d, .slice v.C v.k v.e] 29) := ⟨_, rfl⟩;rw [← hW0, ← hg] at hB0;clear hF
 go_enter Tryz.func109, Tryz.ntmps109
 go_wp2_with (rw [← hW0, ← hg]; clear hW0 hg)
 go_loopw [7, 12] (fun u t wr => ∃ k : Nat, k ≤ m ∧ t = .int .i64 k ∧ Hid (Below W0.heap.size W0 wr) ∧ Hid (wr.ownsRow W0.heap.size 3 1 u (chF p f.items (l.take k)).length (encI.all (chF p f.items (l.take k))))) (fun _ t _ => m - (intOf t).toNat)
 case atStart => exact ⟨0, Nat.zero_le _, rfl, Hd (Below.refl _ _), Hd (World.ownsRow_nil _ _ _ _)⟩
 case round =>
  obtain ⟨k, hk, rfl, hb, hown⟩ := hrel;have hB := Hd (hB0.out.later hb.out);have hLr := (hL.out.below hB0.out.o).below hb.out;have p0 := hB.out.c0;have p1 := hB.out.c1;have p2 := hB.out.c2;have hrl : (chF p f.items (l.take k)).length ≤ k := Nat.le_trans (List.length_filter_le _ _) (List.length_take_le _ _);obtain ⟨L, hLl⟩ : ∃ L, L = (chF p f.items (l.take k)).length := ⟨_, rfl⟩;rw [← hLl] at hown hrl;replace hLl := Hd hLl;by_cases hlt : k < m
  ·have hlt' : (k : Int) < (m : Int) := by omega
   have k0 : 0 ≤ (k : Int) ∧ (k : Int) < (m : Int) := ⟨by omega, hlt'⟩;obtain ⟨lb, lo, z, rfl, hlb, hz, ⟨z0, z1⟩, j0⟩ := hLr.int hlt;have hrs : chF p f.items (l.take (k + 1)) = if chP p f.items z = true then chF p f.items (l.take k) ++ [z] else chF p f.items (l.take k) := filter_take hz;by_cases hzn : 0 ≤ z
   ·have d1 : decide (0 ≤ z) = true := decide_eq_true hzn
    by_cases hzm : z < (v.m : Int)
    ·have d2 : decide (z < (v.m : Int)) = true := decide_eq_true hzm
     have hzb : 0 ≤ z ∧ z < (v.m : Int) := ⟨hzn, hzm⟩;obtain ⟨ib, io, it, hxB, hib, hq, -, i0, i1, i2, i3, i4⟩ := hB.out.f.is.item (show z.toNat < v.m by omega);rw [hxB] at p1;rw [chP_at hzn hq] at hrs;have cP := hp.out it wr (bT2 hB0.out.o hb.out);replace hzn := Hd hzn;replace hzm := Hd hzm;replace hxB := Hd hxB
     cases hpi : p it with
     | true =>
      rw [if_pos hpi] at hrs;rw [hpi] at cP;replace hrs := Hd hrs;replace cP := Hd cP;clear hlt hz hlb hq hpi;go_wp2_with fail;refine cP.out.mono ?_; rintro e w3 ⟨rfl, b3⟩;have hown3 := Hd (oBl hown.out b3);have hb3 := Hd (bT2 hb.out b3);clear b3 cP p0 p1 p2 i0 i1 i2 i3 i4 j0;obtain ⟨gl, hgl⟩ : ∃ g, g = (w3).heap.size := ⟨_, rfl⟩;obtain ⟨VL, hVL⟩ : ∃ W, W = World.alloc (w3) (.cells #[.int .i64 z] 3) := ⟨_, rfl⟩;have bL : Below (w3).heap.size (w3) VL := by rw [hVL]; exact (Below.refl _ _).alloc (Nat.le_refl _) _
      have hlit := Hd (show LAt encI VL (some ⟨gl, 0, none⟩) 1 [z] from by rw [hVL, hgl]; exact LAt.lit1 (E := encI) (w3) 3 z ⟨by omega, by omega⟩);have hownL := Hd (oBl hown3.out bL);have bWL := Hd (bT2 hb3.out bL);have hbase := Hd bWL.out.size;clear bL;go_wp2_with (first
       | (rw [← hVL, ← hgl]; clear hVL hgl)
       | (at_builtin; refine wpAL (E := encI) rfl (.tmp 34) (.tmp 36) _ rfl W0.heap.size 3 i0 _ 8 Tryz.underlying27 hi.out hz0.out hz1.out hz2.out rfl _ L (chF p f.items (l.take k)) (by rfl) hownL.out _ 1 1 _ rfl hlit.out (by unfold maxLen; omega) (by omega) hbase.out ?_; intro v' w7 hown' hb7 _ _))
      exact ⟨⟨k + 1, by omega, by go_num, Hd (bWL.out.trans hb7), Hd (by rw [hrs.out, List.length_append, ← hLl.out]; exact hown')⟩, by simp [intOf]; omega⟩
     | false =>
      rw [if_neg (by simp [hpi])] at hrs;rw [hpi] at cP;replace hrs := Hd hrs;replace cP := Hd cP;clear hlt hz hlb hq hpi;go_wp2_with fail;refine cP.out.mono ?_; rintro e w3 ⟨rfl, b3⟩;have hown3 := Hd (oBl hown.out b3);have hb3 := Hd (bT2 hb.out b3);clear b3 cP p0 p1 p2 i0 i1 i2 i3 i4 j0;go_wp2_with fail;exact ⟨⟨k + 1, by omega, by go_num, hb3, Hd (by rw [hrs.out, ← hLl.out]; exact hown3.out)⟩, by simp [intOf]; omega⟩
    ·have d2 : decide (z < (v.m : Int)) = false := decide_eq_false hzm
     rw [if_neg (by rw [chP_out (.inr (by rw [hil.out]; omega))]; simp)] at hrs;replace hrs := Hd hrs;replace hzn := Hd hzn;replace hzm := Hd hzm;clear hz hlb;clear hlt;go_wp2_with fail;exact ⟨⟨k + 1, by omega, by go_num, hb, Hd (by rw [hrs.out, ← hLl.out]; exact hown.out)⟩, by simp [intOf]; omega⟩
   ·have d1 : decide (0 ≤ z) = false := decide_eq_false hzn
    rw [if_neg (by rw [chP_out (.inl (by omega))]; simp)] at hrs;replace hrs := Hd hrs;replace hzn := Hd hzn;clear hz hlb;clear hlt;go_wp2_with fail;exact ⟨⟨k + 1, by omega, by go_num, hb, Hd (by rw [hrs.out, ← hLl.out]; exact hown.out)⟩, by simp [intOf]; omega⟩
  ·have hlt' : ¬ (k : Int) < (m : Int) := by omega
   obtain rfl : k = m := by omega
   have hta : l.take k = l := List.take_of_length_le (by rw [hL.out.len]; omega);rw [hta] at hown hLl;have hfr := Hd (oLb hown.out);obtain ⟨A2, c2, rfl, hnc, hcm, hLA⟩ := LAt.of_own hown.out (fun z hz => hL.out.okAll z (List.mem_filter.1 hz).1) hLl.out.symm;clear hlt hta hLr;go_wp2_with fail;go_ret;exact ⟨A2, L, c2, rfl, hLA, hnc, hcm, bT2 hB0.out.o hb.out, fun ad e => by subst e; exact Nat.le_trans hB0.out.o.size (hfr.out _ rfl)⟩
theorem past_isWrite (x : It) (gv : Nat) (vr : Int) (w : World) (hc : w.cell? ⟨gv, 0, none⟩ = some (.int .i64 vr)) (hl : gv < w.heap.size) :
  Calls Tryz.prog 110 #[.agg #[.int .i64 x.se, .int .i64 x.pl, .bool x.wr, .int .i64 x.va, .int .i64 x.vl], .pointer (some ⟨gv, 0, none⟩)] w (RetBool (x.wr && decide (x.va = vr)) w) := by
 obtain ⟨g, hg⟩ : ∃ g, g = w.heap.size := ⟨_, rfl⟩;obtain ⟨W0, hW0⟩ : ∃ W, W = w.alloc (.cells #[.int .i64 x.se, .int .i64 x.pl, .bool x.wr, .int .i64 x.va, .int .i64 x.vl] 43) := ⟨_, rfl⟩;have hbo := Hd (show Below w.heap.size w W0 from by rw [hW0]; exact bAl _ _);have kI := Hd (show Blk W0 g 43 [.int .i64 x.se, .int .i64 x.pl, .bool x.wr, .int .i64 x.va, .int .i64 x.vl] from by rw [hW0, hg]; exact Blk.new _ _ _);have i2 := kI.out.cell 2;have i3 := kI.out.cell 3;simp only [gZ, gS] at i2 i3;have hv : W0.cell? ⟨gv, 0, none⟩ = some (.int .i64 vr) := by rw [hW0, World.cell?_alloc_lt w _ _ hl]; exact hc
 obtain ⟨s, t, b, a, y⟩ := x
 simp only at i2 i3 ⊢
 have he : (a == vr) = decide (a = vr) := by rw [Bool.eq_iff_iff]; simp
 cases b with
 | true =>
  go_enter Tryz.func110, Tryz.ntmps110
  go_wp2_with (rw [← hW0, ← hg]; clear hW0 hg);go_ret;exact ⟨by simp, hbo.out⟩
 | false =>
  go_enter Tryz.func110, Tryz.ntmps110
  go_wp2_with (rw [← hW0, ← hg]; clear hW0 hg);go_ret;exact ⟨rfl, hbo.out⟩
theorem past_isRead (x : It) (w : World) :
  Calls Tryz.prog 117 #[.agg #[.int .i64 x.se, .int .i64 x.pl, .bool x.wr, .int .i64 x.va, .int .i64 x.vl]] w (RetBool (!x.wr) w) := by
 obtain ⟨g, hg⟩ : ∃ g, g = w.heap.size := ⟨_, rfl⟩;obtain ⟨W0, hW0⟩ : ∃ W, W = w.alloc (.cells #[.int .i64 x.se, .int .i64 x.pl, .bool x.wr, .int .i64 x.va, .int .i64 x.vl] 43) := ⟨_, rfl⟩;have hbo := Hd (show Below w.heap.size w W0 from by rw [hW0]; exact bAl _ _);have kI := Hd (show Blk W0 g 43 [.int .i64 x.se, .int .i64 x.pl, .bool x.wr, .int .i64 x.va, .int .i64 x.vl] from by rw [hW0, hg]; exact Blk.new _ _ _);have i2 := kI.out.cell 2;have i3 := kI.out.cell 3;simp only [gZ, gS] at i2 i3;obtain ⟨s, t, b, a, y⟩ := x
 simp only at i2 i3 ⊢
 go_enter Tryz.func117, Tryz.ntmps117
 go_wp2_with (rw [← hW0, ← hg]; clear hW0 hg);go_ret;exact ⟨rfl, hbo.out⟩
theorem past_WritesF (v : FV) (f : Fac) (B : Option Addr) (m d : Nat) (l : List Int) (vr : Int) (w : World) (hF : FactsAt w v f) (hL : LAt encI w B m l) (hm : m ≤ 1048576) (hvm : v.m ≤ 1048576) :
  Calls Tryz.prog 82 #[.agg #[.slice v.A v.n v.c, .slice v.B v.m v.d, .slice v.C v.k v.e], .slice B m d, .int .i64 vr] w (RetILF (wrsF f.items vr l) w) := by
 replace hL := Hd hL;have hB0 := Hd (FBox.new hF);obtain ⟨g, hg⟩ : ∃ g, g = w.heap.size := ⟨_, rfl⟩;obtain ⟨W0, hW0⟩ : ∃ W, W = w.alloc (.cells #[.slice v.A v.n v.c, .slice v.B v.m v.d, .slice v.C v.k v.e] 29) := ⟨_, rfl⟩;rw [← hW0, ← hg] at hB0;clear hF;obtain ⟨gv, hgv⟩ : ∃ g, g = W0.heap.size := ⟨_, rfl⟩;obtain ⟨W1, hW1⟩ : ∃ W, W = W0.alloc (.cells #[.int .i64 vr] 3) := ⟨_, rfl⟩;have b1 : Below W0.heap.size W0 W1 := by rw [hW1]; exact (Below.refl _ _).alloc (Nat.le_refl _) _
 have kV := Hd (show Blk W1 gv 3 [.int .i64 vr] from by rw [hW1, hgv]; exact Blk.new _ _ _);have hB1 := Hd (hB0.out.later b1);have hL1 := Hd ((hL.out.below hB0.out.o).below b1);have cC := Hd (past_chosen1 (.pointer (some ⟨gv, 0, none⟩)) (fun x => x.wr && decide (x.va = vr)) v f B m d l W1 hB1.out.f hL1.out hm hvm (fun x W hW => past_isWrite x gv vr W (by rw [hW.cell (p := ⟨gv, 0, none⟩) kV.out.lt]; exact kV.out.cell 0) (Nat.lt_of_lt_of_le kV.out.lt hW.size)));rw [chF_wrs] at cC;clear b1;have p0 := hB1.out.c0;have p1 := hB1.out.c1;have p2 := hB1.out.c2
 go_enter Tryz.func82, Tryz.ntmps82
 go_wp2_with (first | (rw [← hW0, ← hg]; clear hW0 hg) | (rw [← hW1, ← hgv]; clear hW1 hgv));refine cC.out.mono ?_; intro e w2 h2;obtain ⟨A2, n2, c2, rfl, h4, h5, h6, h7, h8⟩ := h2.past hB1.out.o;clear h2 p0 p1 p2;go_wp2_with fail;go_ret;exact ⟨A2, n2, c2, rfl, h4, h5, h6, h7, h8⟩
theorem past_Writes (v : FV) (f : Fac) (B : Option Addr) (m d : Nat) (l : List Int) (vr : Int) (w : World) (hF : FactsAt w v f) (hL : LAt encI w B m l) (hm : m ≤ 1048576) (hvm : v.m ≤ 1048576) :
  Calls Tryz.prog 82 #[.agg #[.slice v.A v.n v.c, .slice v.B v.m v.d, .slice v.C v.k v.e], .slice B m d, .int .i64 vr] w (RetIL (wrsF f.items vr l) w) :=
 (past_WritesF v f B m d l vr w hF hL hm hvm).mono fun _ _ h => h.il
theorem past_KeptF (v : FV) (f : Fac) (o : Int) (w : World) (hF : FactsAt w v f) (hvm : v.m ≤ 1048576) (hN : Nbr f.items) :
  Calls Tryz.prog 91 #[.agg #[.slice v.A v.n v.c, .slice v.B v.m v.d, .slice v.C v.k v.e], .int .i64 o] w (RetILF (keptF f.items (pastF f.items o f.items.length)) w) := by
 have hil := hF.is.len;have hB0 := Hd (FBox.new hF);obtain ⟨g, hg⟩ : ∃ g, g = w.heap.size := ⟨_, rfl⟩;obtain ⟨W0, hW0⟩ : ∃ W, W = w.alloc (.cells #[.slice v.A v.n v.c, .slice v.B v.m v.d, .slice v.C v.k v.e] 29) := ⟨_, rfl⟩;rw [← hW0, ← hg] at hB0;clear hF;have hlm : (pastF f.items o f.items.length).length ≤ v.m := by rw [← hil]; exact pastF_len _ _ _
 have hl0 : Hid (∀ z ∈ pastF f.items o f.items.length, 0 ≤ z) := Hd fun z hz => (pastF_ok _ _ _ z hz).1
 go_enter Tryz.func91, Tryz.ntmps91
 go_wp2_with (rw [← hW0, ← hg]; clear hW0 hg);refine wpRp 6 [(true, 0), (true, 1), (true, 2), (false, 3), (false, 4), (true, 5)] (by kernel_rfl) (by kernel_rfl) (fun U hU => ?_);have hU' : Below W0.heap.size W0 U := by rw [hU.out]; exact (Below.refl _ _).drew
 have hBr := Hd (hB0.out.later hU');clear hU hU';simp only [List.drop_succ_cons, List.drop_nil];have p0 := hBr.out.c0;have p1 := hBr.out.c1;have p2 := hBr.out.c2;have cP := Hd (session_Past v f o U hBr.out.f hvm hN);replace hil := Hd hil
 iterate 3
  refine wpPf (v := ?_) rfl (by rfl) (fun w' hw' => ?_) (fun K hK => ?_);rotate_left
  ·(go_simp; try with_reducible rfl)
  go_simp;refine hK _ ?_;clear hK K
 clear p0 p1 p2;refine wpPo rfl (by rfl) (fun K hK => ?_);go_simp;refine cP.out.mono ?_;rintro e x1 ⟨D, m, d, rfl, hL, hmd, hdm, b⟩;refine hK _ _ b ?_;clear hK K cP;have hB2 := Hd (hBr.out.later b);have hml : m ≤ v.m := by rw [← hL.len]; exact hlm
 have cC := past_chosen0 (fun x => !x.wr) v f D m d _ x1 hB2.out.f hL (by omega) hvm (fun x W _ => past_isRead x W);rw [chF_kept _ _ hl0.out] at cC;replace cC := Hd cC;clear b hL;refine wpPo rfl (by rfl) (fun K hK => ?_);go_simp;refine cC.out.mono ?_;intro e x2 h2;obtain ⟨A2, n2, c2, rfl, h4, h5, h6, h7, h8⟩ := h2;have hx : RetILF (keptF f.items (pastF f.items o f.items.length)) w (.returned (.slice A2 n2 c2)) x2 := (show RetILF _ x1 _ x2 from ⟨A2, n2, c2, rfl, h4, h5, h6, h7, h8⟩).past hB2.out.o;refine hK _ _ h7 ?_;clear hK K cC
 iterate 1
  refine wpPf (v := ?_) rfl (by rfl) (fun w' hw' => ?_) (fun K hK => ?_);rotate_left
  ·(go_simp; try with_reducible rfl)
  go_simp;refine hK _ ?_;clear hK K
 refine wpPn (NoPanic.normal ?_);go_wp2_with fail;go_ret;exact hx
theorem past_Kept (v : FV) (f : Fac) (o : Int) (w : World) (hF : FactsAt w v f) (hvm : v.m ≤ 1048576) (hN : Nbr f.items) :
  Calls Tryz.prog 91 #[.agg #[.slice v.A v.n v.c, .slice v.B v.m v.d, .slice v.C v.k v.e], .int .i64 o] w (RetIL (keptF f.items (pastF f.items o f.items.length)) w) :=
 (past_KeptF v f o w hF hvm hN).mono fun _ _ h => h.il
structure SeenX (v : FV) (f : Fac) : Prop where
 fr : f.frm = fromF f.items
 nb : Nbr f.items
 nn : v.n ≤ 1048576
 va : ∀ x ∈ f.items, 0 ≤ x.va ∧ x.va < (v.n : Int)
theorem own_baseB {w w' : World} {B base size n : Nat} {e : TypeId} {v : Value} {xs : List Value} (h : w.ownsRow base e size v n xs) (hb : Below B w w') (hlt : ∀ k, v.ownBlock = some k → k < B) : w'.ownsRow base e size v n xs :=
 ⟨h.1, h.2.imp id fun ⟨g, cap, cur, hv, hg, hh, r⟩ => ⟨g, cap, cur, hv, hg, (hb.block g (hlt g (by rw [hv]; rfl))).trans hh, r⟩⟩
theorem filter_take18 {p : Int → Bool} {l : List Int} {k : Nat} {z : Int} (h : l[k]? = some z) : (l.take (k + 1)).filter p = if p z = true then (l.take k).filter p ++ [z] else (l.take k).filter p := by
 rw [List.take_add_one, h, List.filter_append]
 split
 ·rename_i h2; rw [Option.toList_some, List.filter_cons_of_pos (by exact h2)]; simp
 ·rename_i h2; rw [Option.toList_some, List.filter_cons_of_neg (by exact h2)]; simp
def rdsX (f : Fac) (n : Nat) (l : List Int) : List (List Int) := (List.range n).map fun (i : Nat) => rdsV f l (i : Int)
theorem rdsX_nil (f : Fac) (n : Nat) : rdsX f n [] = List.replicate n [] := by
 unfold rdsX
 apply List.ext_getElem?
 intro k;rw [List.getElem?_map, List.getElem?_replicate];by_cases hk : k < n
 ·rw [List.getElem?_range hk, if_pos hk]; rfl
 ·rw [List.getElem?_eq_none (by simpa using hk), if_neg hk]; rfl
theorem rdsX_at {f : Fac} {n : Nat} (l : List Int) {k : Nat} (hk : k < n) : (rdsX f n l)[k]? = some (rdsV f l (k : Int)) := by
 unfold rdsX; rw [List.getElem?_map, List.getElem?_range hk]; rfl
theorem rdsX_skip {f : Fac} {n q : Nat} {l : List Int} {z : Int} (h : l[q]? = some z) (h0 : fromZ f z < 0) : rdsX f n (l.take (q + 1)) = rdsX f n (l.take q) := by
 unfold rdsX;refine List.map_congr_left (fun i _ => ?_);unfold rdsV;rw [filter_take18 h, if_neg (by unfold rdsP; rw [decide_eq_false (by omega)]; simp)]
theorem rdsX_step {f : Fac} {n q b : Nat} {l : List Int} {z : Int} (h : l[q]? = some z) (h0 : 0 ≤ fromZ f z) (hb : vaZ f z = (b : Int)) (hn : b < n) : rdsX f n (l.take (q + 1)) = (rdsX f n (l.take q)).set b (rdsV f (l.take q) (b : Int) ++ [z]) := by
 apply List.ext_getElem?
 intro k;rw [List.getElem?_set];by_cases hk : k < n
 ·rw [rdsX_at _ hk, rdsX_at _ hk]
  unfold rdsV;rw [filter_take18 h];unfold rdsP;rw [decide_eq_true h0, hb, Bool.true_and];by_cases hbk : b = k
  ·subst hbk
   rw [if_pos (show decide ((b : Int) = (b : Int)) = true by simp), if_pos rfl, if_pos (by unfold rdsX; simpa using hk)]
  ·rw [if_neg (show ¬ decide ((b : Int) = (k : Int)) = true by simp; omega), if_neg hbk]
 ·have h1 : ∀ l, (rdsX f n l)[k]? = none := fun l => List.getElem?_eq_none (by unfold rdsX; simpa using hk)
  rw [h1, h1]
  split
  ·rw [if_neg (by unfold rdsX; simp; omega)]
  ·rfl
theorem SlotsM.setFar {α : Type} {E : Enc α} {tS tE : TypeId} {B go n : Nat} {w : World} {vs : List Value} {ls : List (List α)} (h : SlotsM E tS tE B go n w vs ls) {k : Nat} (ha : Apart go vs k) (o : Nat) (u : Value) : SlotsM E tS tE B go n (w.setCell ⟨k, o, none⟩ u) vs ls :=
 ⟨own_far h.o (fun e => ha.1 (by have e' : go = k := (by injection e); exact e'.symm)) _, ⟨h.s.len, fun i v l h1 h2 => ⟨(h.s.row i v l h1 h2).1, own_far (h.s.row i v l h1 h2).2 (ha.2 v (List.mem_of_getElem? h1)) _⟩, h.s.dis⟩⟩
theorem LAt.farR {α : Type} {E : Enc α} {w : World} {A : Option Addr} {n : Nat} {xs : List α} (h : LAt E w A n xs) {g : Nat} (hne : ∀ ad, A = some ad → ad.block ≠ g) (o : Nat) (u : Value) : LAt E (w.setCell ⟨g, o, none⟩ u) A n xs :=
 ⟨h.1, h.2.1, fun hn => by
  obtain ⟨b, off, e2, hb, hc⟩ := h.2.2 hn;exact ⟨b, off, e2, by simpa using hb, fun j v hv => (World.cell?_of_block (Below.heap_setCell w ⟨g, o, none⟩ u b (fun e' => hne _ e2 e'))).trans (hc j v hv)⟩⟩
theorem Blk.put5R {w : World} {g : Nat} {t : TypeId} {c0 c1 c2 c3 c4 : Value} (h : Blk w g t [c0, c1, c2, c3, c4]) (a0 a1 a2 a3 a4 : Value) :
  Blk (((((w.setCell ⟨g, 0, none⟩ a0).setCell ⟨g, 1, none⟩ a1).setCell ⟨g, 2, none⟩ a2).setCell ⟨g, 3, none⟩ a3).setCell ⟨g, 4, none⟩ a4) g t [a0, a1, a2, a3, a4] :=
 ((((h.set_ 0 a0).set_ 1 a1).set_ 2 a2).set_ 3 a3).set_ 4 a4
theorem below_put5R {w w' : World} {B g : Nat} (h : Below B w w') (hg : B ≤ g) (a0 a1 a2 a3 a4 : Value) :
  Below B w (((((w'.setCell ⟨g, 0, none⟩ a0).setCell ⟨g, 1, none⟩ a1).setCell ⟨g, 2, none⟩ a2).setCell ⟨g, 3, none⟩ a3).setCell ⟨g, 4, none⟩ a4) :=
 ((((h.setCell (p := ⟨g, 0, none⟩) hg _).setCell (p := ⟨g, 1, none⟩) hg _).setCell (p := ⟨g, 2, none⟩) hg _).setCell (p := ⟨g, 3, none⟩) hg _).setCell (p := ⟨g, 4, none⟩) hg _
structure RuI (w : World) (base g gr gu go : Nat) (v : FV) (u : Value) (ls : List Int) (wr : World) : Prop where
 b : Below w.heap.size w wr
 k : Blk wr g 29 [.slice v.A v.n v.c, .slice v.B v.m v.d, .slice v.C v.k v.e]
 r : Blk wr gr 142 [.slice none 0 0, .slice none 0 0, .slice none 0 0, .slice none 0 0, .slice none 0 0]
 c : Blk wr gu 142 [.slice v.A v.n v.c, .slice v.B v.m v.d, .slice v.C v.k v.e, u, .slice (some ⟨go, 0, none⟩) v.n v.n]
 s : wr.ownsRow w.heap.size 27 1 (.slice (some ⟨go, 0, none⟩) v.n v.n) v.n (List.replicate v.n (.slice none 0 0))
 o : wr.ownsRow base 3 1 u ls.length (encI.all ls)
 z : w.heap.size ≤ g ∧ g < base ∧ gr < base ∧ w.heap.size ≤ gu ∧ gu < base ∧ go < base ∧ base ≤ wr.heap.size
 d : g ≠ gu ∧ gr ≠ gu ∧ go ≠ gu ∧ g ≠ go ∧ gr ≠ go ∧ w.heap.size ≤ gr
section
variable {w wr w' w7 : World} {base g gr gu go : Nat} {v : FV} {u v' : Value} {ls : List Int}
theorem RuI.later (h : RuI w base g gr gu go v u ls wr) (hb : Below wr.heap.size wr w') : RuI w base g gr gu go v u ls w' :=
 ⟨bT2 h.b hb, h.k.below hb h.k.lt, h.r.below hb h.r.lt, h.c.below hb h.c.lt, oBl h.s hb, oBl h.o hb, ⟨h.z.1, h.z.2.1, h.z.2.2.1, h.z.2.2.2.1, h.z.2.2.2.2.1, h.z.2.2.2.2.2.1, Nat.le_trans h.z.2.2.2.2.2.2 hb.size⟩, h.d⟩
theorem RuI.app (h : RuI w base g gr gu go v u ls wr) (hb : Below base wr w7) (hs : wr.heap.size ≤ w7.heap.size) {z : Int} (ho : w7.ownsRow base 3 1 v' (ls.length + 1) (encI.all (ls ++ [z]))) : RuI w base g gr gu go v v' (ls ++ [z]) (w7.setCell ⟨gu, 3, none⟩ v') := by
  obtain ⟨z1, z2, z3, z4, z5, z6, z7⟩ := h.z
  obtain ⟨d1, d2, d3, d4, d5, d6⟩ := h.d
  have hs1 := own_baseB h.s hb (fun k e => by have e' : go = k := by injection e
                                              omega)
  refine ⟨((h.b.trans (hb.mono (by omega))).setCell (by exact z4) _), (h.k.below hb z2).far (by simpa using d1) _, (h.r.below hb z3).far (by simpa using d2) _, ?_, own_far hs1 (fun e => d3 (by injection e)) _, own_far (by rw [List.length_append]; exact ho) (fun e => by have := oLb ho gu e; omega) _, ⟨z1, z2, z3, z4, z5, z6, by simpa using Nat.le_trans z7 hs⟩, h.d⟩
  have := (h.c.below hb z5).set_ 3 v'
  exact this
end
theorem wp_append_L18 {α : Type} {E : Enc α} {P : Program} {w : World} {o : Oper} {a : Act} {K : Act → World → Prop} {Q : Exit → Act → World → Prop} (s x : Operand) (t : TypeId)
  (ho : o.op = .call { callee := .builtin .append, args := #[s, x], argTypes := #[t, t] })
  (base : Nat) (e : TypeId) (i : TypeInfo) (z : Value) (by_ : Nat) (ht : P.underlying t = some (.slice e)) (hi : P.info? e = some i) (hz : i.zero = some z)
  (hsize : i.size = E.sz) (hby : i.bytes = by_) (hzs : z.cells.size = E.sz)
  (v : Value) (n : Nat) (os : List α) (hs : a.eval s = v) (hown : w.ownsRow base e E.sz v n (E.all os))
  (A : Option Addr) (m c : Nat) (news : List α) (hx : a.eval x = .slice A m c) (hr : LAt E w A m news)
  (hb : n + m ≤ maxLen) (hbytes : (n + m) * by_ ≤ 140737488355328) (hbase : base ≤ w.heap.size)
  (h : ∀ v' w', w'.ownsRow base e E.sz v' (n + m) (E.all (os ++ news)) → Below base w w' → w.grownBy w' v.ownBlock → (v'.ownBlock = v.ownBlock ∨ v'.ownBlock = some w.heap.size) → K (a.put o.dst v') w') :
  o.wp P a w K Q := by
 obtain ⟨v', w', hrun, h2, h3, h4, h5⟩ := run_append_L (P := P) w base t o.type e i z by_ ht hi hz hsize hby hzs v n os hown A m c news hr hb hbytes hbase;unfold Oper.wp execOp;simp only [ho, resolve, invoke, builtin, Sem.run_bind, Sem.run_pure, Result.andThen_ok, List.map_toArray, List.map_cons, List.map_nil, hs, hx, hrun];exact h v' w' h2 h3 h4 h5
theorem info_ints18 : (Tryz.prog.info? 27).map (fun i => (i.zero, i.size, i.bytes)) = some (some (.slice none 0 0), 1, 24) := by kernel_rfl
theorem info_int18 : (Tryz.prog.info? 3).map (fun i => (i.zero, i.size, i.bytes)) = some (some (.int .i64 0), 1, 8) := by kernel_rfl
theorem mk_ints18 (kl kc : IntKind) (n : Nat) (hc : n ≤ 1099511627776) (W : World) :
  (Instr.makeSlice 140 (.int kl (n : Int)) (.int kc (n : Int))).run Tryz.prog W = .ok (.slice (some ⟨W.heap.size, 0, none⟩) n n) (W.alloc (.cells (zeros n (.slice none 0 0)) 27)) := by
 obtain ⟨i, hi, hz0, hz1, hz2⟩ := info_parts info_ints18;exact run_make_one _ _ i _ Tryz.underlying140 hi hz0 hz1 rfl kl kc n n (Nat.le_refl _) (by rw [hz2]; omega) (by omega) W
def RetRule (v : FV) (f : Fac) (l kept : List Int) (w : World) (e : Ending) (w' : World) : Prop := ∃ (U : Option Addr) (nu cu go : Nat) (vs : List Value),
 e = .returned (.agg #[.slice v.A v.n v.c, .slice v.B v.m v.d, .slice v.C v.k v.e, .slice U nu cu, .slice (some ⟨go, 0, none⟩) v.n v.n]) ∧ LAt encI w' U nu (l.filter (isW f)) ∧ nu ≤ cu ∧ SlotsM encI 27 3 w.heap.size go v.n w' vs (rdsX f v.n kept) ∧ Below w.heap.size w w' ∧ ∀ ad, U = some ad → w.heap.size ≤ ad.block
theorem seen_ruled (v : FV) (f : Fac) (D : Option Addr) (m d : Nat) (ws : List Int) (o : Int) (w : World) (hF : FactsAt w v f) (hx : SeenX v f) (hwh : WholeF f) (hvm : v.m ≤ 1048576) (hL : LAt encI w D m ws) (hws : ∀ z ∈ ws, 0 ≤ z ∧ z < (v.m : Int)) (hm : m ≤ 1048576) :
  Calls Tryz.prog 120 #[.agg #[.slice v.A v.n v.c, .slice v.B v.m v.d, .slice v.C v.k v.e], .slice D m d, .int .i64 o] w (RetRule v f ws (keptF f.items (pastF f.items o f.items.length)) w) := by
 have hil := hF.is.len;have hfl := Hd (show v.k = v.m from by rw [← hil, ← hF.fs.len]; exact hwh.len);have hvn := hx.nn;have cK := Hd (fun W hW => past_KeptF v f o W hW hvm hx.nb);have hkok : ∀ z ∈ keptF f.items (pastF f.items o f.items.length), 0 ≤ z ∧ z < (v.m : Int) := fun z hz => by rw [← hil]; exact pastF_ok f.items o f.items.length z (List.mem_filter.1 hz).1
 have hklen : (keptF f.items (pastF f.items o f.items.length)).length ≤ v.m := by rw [← hil]; exact Nat.le_trans (List.length_filter_le _ _) (pastF_len _ _ _)
 obtain ⟨kept, hke⟩ : ∃ l, l = keptF f.items (pastF f.items o f.items.length) := ⟨_, rfl⟩;rw [← hke] at cK hkok hklen ⊢;replace hke := Hd hke;replace hkok := Hd hkok;replace hws := Hd hws;replace hx := Hd hx;have hF0 := Hd hF;have hL0 := Hd hL;have mkI := mk_ints18 .i64 .i64 v.n (by omega);obtain ⟨j0, ji, jz0, jz1, jz2⟩ := info_parts info_int18;replace ji := Hd ji;replace jz0 := Hd jz0;replace jz1 := Hd jz1;replace jz2 := Hd jz2;clear hL hwh;have hB0 := Hd (FBox.new hF);obtain ⟨g, hg⟩ : ∃ g, g = w.heap.size := ⟨_, rfl⟩;obtain ⟨W0, hW0⟩ : ∃ W, W = w.alloc (.cells #[.slice v.A v.n v.c, .slice v.B v.m v.d, .slice v.C v.k v.e] 29) := ⟨_, rfl⟩;rw [← hW0, ← hg] at hB0;clear hF;obtain ⟨gr, hgr⟩ : ∃ g, g = W0.heap.size := ⟨_, rfl⟩;obtain ⟨W1, hW1⟩ : ∃ W, W = W0.alloc (.cells #[.slice none 0 0, .slice none 0 0, .slice none 0 0, .slice none 0 0, .slice none 0 0] 142) := ⟨_, rfl⟩;have b1 : Below W0.heap.size W0 W1 := by rw [hW1]; exact bAl _ _
 have hB1 := Hd (hB0.out.later b1);have kR := Hd (show Blk W1 gr 142 [.slice none 0 0, .slice none 0 0, .slice none 0 0, .slice none 0 0, .slice none 0 0] from by rw [hW1, hgr]; exact Blk.new _ _ _);have hzg := Hd (show w.heap.size ≤ g ∧ g < gr ∧ gr < W1.heap.size from by
  refine ⟨by rw [hg]; exact Nat.le_refl _, by rw [hgr]; exact hB0.out.k.lt, kR.out.lt⟩)
 clear hB0 b1;have p0 := hB1.out.c0;have p1 := hB1.out.c1;have p2 := hB1.out.c2
 go_enter Tryz.func120, Tryz.ntmps120
 go_wp2_with (first | (rw [← hW0, ← hg]; clear hW0; replace hg := Hd hg) | (rw [← hW1, ← hgr]; clear hW1; replace hgr := Hd hgr));refine wp_region_tree (.flt 0 (.flt 1 (.flt 2 (.flt 3 (.two 4 6 (.flt 5 (.one 6 (.one 7 .done))) (.one 4 (.flt 5 (.one 7 .done)))))))) (by kernel_rfl) (by kernel_rfl) (fun U hU => ?_);have hU' : Below W1.heap.size W1 U := by rw [hU.out]; exact (Below.refl _ _).drew
 have hBU := Hd (hB1.out.later hU');have kRU := Hd (kR.out.below hU' kR.out.lt);have hzU := Hd (show w.heap.size ≤ g ∧ g < gr ∧ gr < U.heap.size from ⟨hzg.out.1, hzg.out.2.1, Nat.lt_of_lt_of_le hzg.out.2.2 hU'.size⟩);have hbw : Below w.heap.size w U := hBU.out.o;clear hU hU' p0 p1 p2 hB1 kR hzg
 apply cut_three (F := fun (go gu : Nat) (w9 : World) => Below U.heap.size U w9 ∧ Blk w9 gu 142 [.slice v.A v.n v.c, .slice v.B v.m v.d, .slice v.C v.k v.e, .slice none 0 0, .slice (some ⟨go, 0, none⟩) v.n v.n] ∧ w9.ownsRow w.heap.size 27 1 (.slice (some ⟨go, 0, none⟩) v.n v.n) v.n (List.replicate v.n (.slice none 0 0)) ∧ U.heap.size ≤ gu ∧ gu ≠ go ∧ U.heap.size ≤ go)
 ·intro key
  have p0 := hBU.out.c0;have p1 := hBU.out.c1;have p2 := hBU.out.c2
  iterate 4
   refine wpTf (v := ?_) rfl (by rfl) (fun w' hw' => ?_) (fun K hK => ?_);rotate_left
   ·(go_simp; try with_reducible rfl)
   go_simp;refine hK _ ?_;clear hK K
  have bW : Below U.heap.size U U := Below.refl _ _;clear p0 p1 p2;refine wpPT_two rfl (by rfl) rfl (by rfl) (fun K hK => ?_) (fun K hK => ?_)
  ·skip
   go_simp;obtain ⟨go, hgo⟩ : ∃ g, g = (World.heap U).size := ⟨_, rfl⟩;obtain ⟨v1, hwn⟩ : ∃ X : World, X = World.alloc U (.cells (zeros v.n (.slice none 0 0)) 27) := ⟨_, rfl⟩;rw [← hwn, ← hgo];have b : Below (World.heap U).size U v1 := by rw [hwn]; exact bAl _ _
   have hgs := Hd (show go = (World.heap U).size from hgo);have hs := Hd (show World.ownsRow v1 w.heap.size 27 1 (.slice (some ⟨go, 0, none⟩) v.n v.n) v.n (List.replicate v.n (.slice none 0 0)) from by rw [hwn, hgo]; exact own_base (own_zeros U v.n _ _ (by unfold maxLen; omega)) hbw.size);replace bW := bT2 bW b;refine hK _ _ bW ?_;clear hK K hwn hgo;have hgU : U.heap.size ≤ go := by rw [hgs.out]; exact Nat.le_refl _
   have bV := b;have hgl := (hs.out.lt go rfl).2;clear b
   iterate 1
    refine wpTf (v := ?_) rfl (by rfl) (fun w' hw' => ?_) (fun K hK => ?_);rotate_left
    ·(go_simp; try with_reducible rfl)
    go_simp;refine hK _ ?_;clear hK K
   refine wpT1 rfl (by rfl) (fun K hK => ?_);have hbw : Below w.heap.size w v1 := bT2 hbw bV;go_simp;obtain ⟨gu, hgu⟩ : ∃ g, g = (World.heap v1).size := ⟨_, rfl⟩;obtain ⟨v2, hwn⟩ : ∃ X : World, X = World.alloc v1 (.cells #[.slice none 0 0, .slice none 0 0, .slice none 0 0, .slice none 0 0, .slice none 0 0] 142) := ⟨_, rfl⟩;rw [← hwn, ← hgu];have b : Below (World.heap v1).size v1 v2 := by rw [hwn]; exact bAl _ _
   have hus := Hd (show gu = (World.heap v1).size from hgu);have kU := Hd (show Blk v2 gu 142 [.slice none 0 0, .slice none 0 0, .slice none 0 0, .slice none 0 0, .slice none 0 0] from by rw [hwn, hgu]; exact Blk.new _ _ _);replace bW := bT2 bW b;refine hK _ _ bW ?_;clear hK K hwn hgu;have hUg : U.heap.size ≤ gu := by rw [hus.out]; exact bV.size
   have hd := Hd (show ¬ go = gu from fun e => by rw [hus.out] at e; omega);replace hs := Hd (oBl hs.out b);have bU := bT2 bV b;clear b bV hgl;have c0 := Blk.cell kU.out 0;have c1 := Blk.cell kU.out 1;have c2 := Blk.cell kU.out 2;have c3 := Blk.cell kU.out 3;have c4 := Blk.cell kU.out 4;simp only [gZ, gS] at c0 c1 c2 c3 c4;have f0 := Blk.frozen kU.out 0;have f1 := Blk.frozen kU.out 1;have f2 := Blk.frozen kU.out 2;have f3 := Blk.frozen kU.out 3;have f4 := Blk.frozen kU.out 4;refine wpT1 rfl (by rfl) (fun K hK => ?_);go_simp;obtain ⟨wz, hwz⟩ : ∃ X : World, X = ((((World.setCell v2 ⟨gu, 0, none⟩ (.slice v.A v.n v.c)).setCell ⟨gu, 1, none⟩ (.slice v.B v.m v.d)).setCell ⟨gu, 2, none⟩ (.slice v.C v.k v.e)).setCell ⟨gu, 3, none⟩ (.slice none 0 0)).setCell ⟨gu, 4, none⟩ (.slice (some ⟨go, 0, none⟩) v.n v.n) := ⟨_, rfl⟩;rw [← hwz];have hug := Hd (show U.heap.size ≤ gu from hUg);have bZ : Below U.heap.size U wz := by rw [hwz]; exact ((((bU.setCell (p := ⟨gu, 0, none⟩) hUg _).setCell (p := ⟨gu, 1, none⟩) hUg _).setCell (p := ⟨gu, 2, none⟩) hUg _).setCell (p := ⟨gu, 3, none⟩) hUg _).setCell (p := ⟨gu, 4, none⟩) hUg _
   have kZ : Blk wz gu 142 [.slice v.A v.n v.c, .slice v.B v.m v.d, .slice v.C v.k v.e, .slice none 0 0, .slice (some ⟨go, 0, none⟩) v.n v.n] := by rw [hwz]; exact ((((kU.out.set_ 0 _).set_ 1 _).set_ 2 _).set_ 3 _).set_ 4 _
   have hgne : (Value.slice (some (⟨go, 0, none⟩ : Addr)) v.n v.n).ownBlock ≠ some gu := fun e => by have e' : go = gu := (by injection e); exact hd.out e'
   have sZ : wz.ownsRow w.heap.size 27 1 (.slice (some ⟨go, 0, none⟩) v.n v.n) v.n (List.replicate v.n (.slice none 0 0)) := by rw [hwz]; exact own_far (own_far (own_far (own_far (own_far hs.out hgne _) hgne _) hgne _) hgne _) hgne _
   refine hK _ _ bZ ?_;clear hK K c0 c1 c2 c3 c4 f0 f1 f2 f3 f4 hwz hgne;refine wpTd (NoPanic.normal ?_);exact key go gu wz ⟨bZ, kZ, sZ, hug.out, Ne.symm hd.out, hgU⟩
  ·skip
   go_simp;obtain ⟨gu, hgu⟩ : ∃ g, g = (World.heap U).size := ⟨_, rfl⟩;obtain ⟨v3, hwn⟩ : ∃ X : World, X = World.alloc U (.cells #[.slice none 0 0, .slice none 0 0, .slice none 0 0, .slice none 0 0, .slice none 0 0] 142) := ⟨_, rfl⟩;rw [← hwn, ← hgu];have b : Below (World.heap U).size U v3 := by rw [hwn]; exact bAl _ _
   have hus := Hd (show gu = (World.heap U).size from hgu);have kU := Hd (show Blk v3 gu 142 [.slice none 0 0, .slice none 0 0, .slice none 0 0, .slice none 0 0, .slice none 0 0] from by rw [hwn, hgu]; exact Blk.new _ _ _);replace bW := bT2 bW b;refine hK _ _ bW ?_;clear hK K hwn hgu;have hUg : U.heap.size ≤ gu := by rw [hus.out]; exact Nat.le_refl _
   have hgl := kU.out.lt;have bV := b;clear b;refine wpT1 rfl (by rfl) (fun K hK => ?_);have hbw : Below w.heap.size w v3 := bT2 hbw bV;go_simp;obtain ⟨go, hgo⟩ : ∃ g, g = (World.heap v3).size := ⟨_, rfl⟩;obtain ⟨v4, hwn⟩ : ∃ X : World, X = World.alloc v3 (.cells (zeros v.n (.slice none 0 0)) 27) := ⟨_, rfl⟩;rw [← hwn, ← hgo];have b : Below (World.heap v3).size v3 v4 := by rw [hwn]; exact bAl _ _
   have hgs := Hd (show go = (World.heap v3).size from hgo);have hs := Hd (show World.ownsRow v4 w.heap.size 27 1 (.slice (some ⟨go, 0, none⟩) v.n v.n) v.n (List.replicate v.n (.slice none 0 0)) from by rw [hwn, hgo]; exact own_base (own_zeros v3 v.n _ _ (by unfold maxLen; omega)) hbw.size);replace bW := bT2 bW b;refine hK _ _ bW ?_;clear hK K hwn hgo;have hgU : U.heap.size ≤ go := by rw [hgs.out]; exact bV.size
   have hd := Hd (show ¬ go = gu from fun e => by rw [hgs.out] at e; omega);replace kU := Hd (kU.out.below b hgl);have bU := bT2 bV b;clear b bV hgl
   iterate 1
    refine wpTf (v := ?_) rfl (by rfl) (fun w' hw' => ?_) (fun K hK => ?_);rotate_left
    ·(go_simp; try with_reducible rfl)
    go_simp;refine hK _ ?_;clear hK K
   have c0 := Blk.cell kU.out 0;have c1 := Blk.cell kU.out 1;have c2 := Blk.cell kU.out 2;have c3 := Blk.cell kU.out 3;have c4 := Blk.cell kU.out 4;simp only [gZ, gS] at c0 c1 c2 c3 c4;have f0 := Blk.frozen kU.out 0;have f1 := Blk.frozen kU.out 1;have f2 := Blk.frozen kU.out 2;have f3 := Blk.frozen kU.out 3;have f4 := Blk.frozen kU.out 4;refine wpT1 rfl (by rfl) (fun K hK => ?_);go_simp;obtain ⟨wz, hwz⟩ : ∃ X : World, X = ((((World.setCell v4 ⟨gu, 0, none⟩ (.slice v.A v.n v.c)).setCell ⟨gu, 1, none⟩ (.slice v.B v.m v.d)).setCell ⟨gu, 2, none⟩ (.slice v.C v.k v.e)).setCell ⟨gu, 3, none⟩ (.slice none 0 0)).setCell ⟨gu, 4, none⟩ (.slice (some ⟨go, 0, none⟩) v.n v.n) := ⟨_, rfl⟩;rw [← hwz];have hug := Hd (show U.heap.size ≤ gu from hUg);have bZ : Below U.heap.size U wz := by rw [hwz]; exact ((((bU.setCell (p := ⟨gu, 0, none⟩) hUg _).setCell (p := ⟨gu, 1, none⟩) hUg _).setCell (p := ⟨gu, 2, none⟩) hUg _).setCell (p := ⟨gu, 3, none⟩) hUg _).setCell (p := ⟨gu, 4, none⟩) hUg _
   have kZ : Blk wz gu 142 [.slice v.A v.n v.c, .slice v.B v.m v.d, .slice v.C v.k v.e, .slice none 0 0, .slice (some ⟨go, 0, none⟩) v.n v.n] := by rw [hwz]; exact ((((kU.out.set_ 0 _).set_ 1 _).set_ 2 _).set_ 3 _).set_ 4 _
   have hgne : (Value.slice (some (⟨go, 0, none⟩ : Addr)) v.n v.n).ownBlock ≠ some gu := fun e => by have e' : go = gu := (by injection e); exact hd.out e'
   have sZ : wz.ownsRow w.heap.size 27 1 (.slice (some ⟨go, 0, none⟩) v.n v.n) v.n (List.replicate v.n (.slice none 0 0)) := by rw [hwz]; exact own_far (own_far (own_far (own_far (own_far hs.out hgne _) hgne _) hgne _) hgne _) hgne _
   refine hK _ _ bZ ?_;clear hK K c0 c1 c2 c3 c4 f0 f1 f2 f3 f4 hwz hgne;refine wpTd (NoPanic.normal ?_);exact key go gu wz ⟨bZ, kZ, sZ, hug.out, Ne.symm hd.out, hgU⟩
 ·intro go gu w9 hk
  obtain ⟨b9, k9, s9, hu9, hd9, hg9⟩ := hk;have hgoL := (s9.lt go rfl).2;have hI := Hd (show RuI w w9.heap.size g gr gu go v (.slice none 0 0) ((ws.take 0).filter (isW f)) w9 from by
   obtain ⟨z1, z2, z3⟩ := hzU.out;have hs9 := b9.size;have hgl9 := k9.lt;have hwU := hbw.size;refine ⟨bT2 hbw b9, hBU.out.k.below b9 hBU.out.k.lt, kRU.out.below b9 kRU.out.lt, k9, s9, by rw [List.take_zero]; exact World.ownsRow_nil _ _ _ _, ⟨z1, by omega, by omega, by omega, hgl9, hgoL, Nat.le_refl _⟩, ⟨by omega, by omega, fun e => hd9 e.symm, by omega, by omega, by omega⟩⟩)
  clear b9 k9 s9 hgoL hBU kRU hbw mkI;go_wp2_with fail;obtain ⟨B9, hB9⟩ : ∃ n, n = w9.heap.size := ⟨_, rfl⟩;rw [← hB9] at hI;replace hB9 := Hd hB9;clear hu9 hd9 hg9 hzU
  go_loopw [21] (fun t wr => ∃ (q : Nat) (u : Value), q ≤ m ∧ t = .int .i64 (q : Int) ∧ Hid (RuI w B9 g gr gu go v u ((ws.take q).filter (isW f)) wr)) (fun t _ => m - (intOf t).toNat)
  case atStart => exact ⟨0, _, Nat.zero_le _, rfl, hI⟩
  case round =>
   clear hI;obtain ⟨q, u, hq, rfl, hI⟩ := hrel;have hwsl := Hd hL0.out.len;by_cases hlt : q < m
   ·have hlt' : (q : Int) < (m : Int) := by omega
    have hq0 : 0 ≤ (q : Int) ∧ (q : Int) < (m : Int) := ⟨by omega, hlt'⟩;obtain ⟨eb, eo, z, rfl, hebl, hz, hzo, x0⟩ := (hL0.out.below hI.out.b).int hlt;have hzz := hws.out z (List.mem_of_getElem? hz);obtain ⟨i, rfl⟩ := Int.eq_ofNat_of_zero_le hzz.1;have him : i < v.m := by omega
    have him' : (i : Int) < (v.m : Int) := hzz.2;have hi0 : (0 : Int) ≤ (i : Int) := hzz.1;obtain ⟨ib, io, x, hxB, hib, hxi, -, i0, i1, i2, i3, i4⟩ := (hF0.out.below hI.out.b).is.item him;have p1 : wr.cell? ⟨g, 1, none⟩ = some (.slice (some ⟨ib, io, none⟩) v.m v.d) := by rw [← hxB]; exact hI.out.k.cell 1
    have hst := filter_take18 (p := isW f) hz;have hwr : isW f (i : Int) = x.wr := by unfold isW; rw [Int.toNat_natCast, hxi]
    rw [hwr] at hst;replace hxB := Hd hxB;replace hz := Hd hz;replace hxi := Hd hxi;clear hebl hib hzo hwr hlt hzz i0 i1 i3 i4
    cases hw : x.wr with
    | false =>
     rw [hw] at i2 hst;rw [if_neg (by simp)] at hst;replace hst := Hd hst;replace hw := Hd hw;go_wp2_with fail;exact ⟨⟨q + 1, u, by omega, by go_num, Hd (by rw [hst.out]; exact hI.out)⟩, by simp [intOf]; omega⟩
    | true =>
     rw [hw] at i2 hst;rw [if_pos rfl] at hst;replace hst := Hd hst;replace hw := Hd hw;obtain ⟨ls, hls⟩ : ∃ l, l = (ws.take q).filter (isW f) := ⟨_, rfl⟩;rw [← hls] at hst hI;have hlsl : ls.length ≤ m := by rw [hls]; exact Nat.le_trans (List.length_filter_le _ _) (by rw [List.length_take]; omega)
     obtain ⟨L, hLl⟩ : ∃ L, L = ls.length := ⟨_, rfl⟩;have hokl : Hid (∀ z ∈ ls ++ [(i : Int)], encI.ok z) := Hd (fun z hz => by
      rcases List.mem_append.1 hz with h | h
      ·rw [hls] at h
       have := hws.out z (List.mem_of_mem_take (List.mem_filter.1 h).1);exact ⟨by omega, by omega⟩
      ·rw [List.mem_singleton.1 h]; exact ⟨by omega, by omega⟩)
     replace hls := Hd hls;have c3 := hI.out.c.cell 3;simp only [gZ, gS] at c3;obtain ⟨gl, hgl⟩ : ∃ g, g = wr.heap.size := ⟨_, rfl⟩;obtain ⟨VL, hVL⟩ : ∃ W, W = World.alloc wr (.cells #[.int .i64 (i : Int)] 3) := ⟨_, rfl⟩;have bL : Below wr.heap.size wr VL := by rw [hVL]; exact (Below.refl _ _).alloc (Nat.le_refl _) _
     have hlit := Hd (show LAt encI VL (some ⟨gl, 0, none⟩) 1 [(i : Int)] from by rw [hVL, hgl]; exact LAt.lit1 (E := encI) wr 3 (i : Int) ⟨by omega, by omega⟩);have hIL := Hd (hI.out.later bL);have hown := Hd (show VL.ownsRow B9 3 1 u L (encI.all ls) from by rw [hLl]; exact hIL.out.o);have hLm : L ≤ m := by omega
     replace hLl := Hd hLl;clear bL hI;go_wp2_with (first
      | (rw [← hVL, ← hgl]; clear hVL hgl c3 i2 p1 x0; have c3 := hIL.out.c.cell 3; simp only [gZ, gS] at c3)
      | (at_builtin; refine wpAL (E := encI) rfl (.tmp 32) (.tmp 34) _ rfl B9 3 j0 _ 8 Tryz.underlying27 ji.out jz0.out jz1.out jz2.out rfl _ L ls (by rfl) hown.out _ 1 1 _ rfl hlit.out (by unfold maxLen; omega) (by omega) hIL.out.z.2.2.2.2.2.2 ?_; intro v' w7 hown' hb7 hg7 hob7; obtain ⟨A5, c5, rfl, h51, h52, -⟩ := LAt.of_own hown' hokl.out (by rw [List.length_append, ← hLl.out]; rfl); have k7 := hIL.out.c.below hb7 hIL.out.z.2.2.2.2.1; have d3 := Blk.cell k7 3; have f3 := Blk.frozen k7 3; simp only [gZ, gS] at d3; replace hown' := Hd hown'; replace hb7 := Hd hb7; have hs7 := Hd hg7.size; clear c3 k7 hg7 hob7))
     exact ⟨⟨q + 1, _, by omega, by go_num, Hd (by rw [hst.out]; exact hIL.out.app hb7.out hs7.out (by rw [← hLl.out]; exact hown'.out))⟩, by simp [intOf]; omega⟩
   ·obtain rfl : q = m := by omega
    have hlt' : ¬ (q : Int) < (q : Int) := by omega
    have hall : ws.take q = ws := List.take_of_length_le (by rw [hwsl.out]; exact Nat.le_refl _);rw [hall] at hI;have p0 := hI.out.k.cell 0;have p1 := hI.out.k.cell 1;have p2 := hI.out.k.cell 2;simp only [gZ, gS] at p0 p1 p2;clear hlt hall;go_wp2_with fail;refine (cK.out wr (hF0.out.below hI.out.b)).mono ?_; rintro e wk ⟨KA, nk, ck, rfl, hKL, hkc, hkm, bk, hKf⟩;have hKl := Hd hKL.len;have hnk : nk ≤ v.m := by rw [← hKl.out]; exact hklen
    have hKgo := Hd (show ∀ ad, KA = some ad → ad.block ≠ go from fun ad e h => by have := hKf ad e; have := hI.out.z; omega);replace hI := Hd (hI.out.later bk);replace hKL := Hd hKL;clear p0 p1 p2 hKf bk;have hS0 := Hd (show SlotsM encI 27 3 w.heap.size go v.n wk (List.replicate v.n (.slice none 0 0)) (rdsX f v.n (kept.take 0)) from by rw [List.take_zero, rdsX_nil]; exact ⟨hI.out.s, OwnN.nils encI _ _ _ _⟩);have hap := Hd (show ∀ k, k ≠ go → Apart go (List.replicate v.n (.slice none 0 0)) k from fun k hk => ⟨hk, fun u hu e => by rw [List.eq_of_mem_replicate hu] at e; cases e⟩);obtain ⟨U, cu, rfl, hnu, hcu, hUL⟩ := LAt.of_own (E := encI) hI.out.o (fun z hz => by have := hws.out z (List.mem_filter.1 hz).1; exact ⟨by omega, by omega⟩) rfl;obtain ⟨nu, hnue⟩ : ∃ n, n = (ws.filter (isW f)).length := ⟨_, rfl⟩;rw [← hnue] at hUL hnu hI;have hUgo := Hd (show ∀ ad, U = some ad → ad.block ≠ go from fun ad e h => by
     subst e;have := oLb hI.out.o ad.block rfl;have := hI.out.z
     omega)
    have hUgr := Hd (show ∀ ad, U = some ad → ad.block ≠ gr from fun ad e h => by
     subst e;have := oLb hI.out.o ad.block rfl;have := hI.out.z
     omega)
    have hUw0 := Hd (show ∀ ad, U = some ad → w.heap.size ≤ ad.block from fun ad h => by
     subst h;have := oLb hI.out.o ad.block rfl;have := hI.out.z
     omega)
    replace hUL := Hd hUL;replace hnue := Hd hnue;obtain ⟨vs0, hvs0⟩ : ∃ l, l = List.replicate v.n (Value.slice none 0 0) := ⟨_, rfl⟩;rw [← hvs0] at hS0 hap;replace hvs0 := Hd hvs0;have hbk := Hd hI.out.b;have hgo := Hd (show g ≠ go ∧ gr ≠ go ∧ gu ≠ go from ⟨hI.out.d.2.2.2.1, hI.out.d.2.2.2.2.1, fun e => hI.out.d.2.2.1 e.symm⟩);have hgb0 := Hd (show w.heap.size ≤ go from (hS0.out.o.lt go rfl).1);have hgr0 := Hd hI.out.d.2.2.2.2.2;have kg := Hd hI.out.k;have kr := Hd hI.out.r;have ku := Hd hI.out.c;clear hI;go_wp2_with fail
    go_loopw [42] (fun t wr => ∃ (q : Nat) (vs : List Value), q ≤ nk ∧ t = .int .i64 (q : Int) ∧ Hid (Below w.heap.size w wr) ∧ Hid (SlotsM encI 27 3 w.heap.size go v.n wr vs (rdsX f v.n (kept.take q))) ∧ Hid (Mv go wk vs0 wr vs)) (fun t _ => nk - (intOf t).toNat)
    case atStart => exact ⟨0, vs0, Nat.zero_le _, rfl, hbk, hS0, Hd (Mv.refl _ _ _)⟩
    case round =>
     clear hbk hS0;obtain ⟨q, vs, hq, rfl, hb, hS, hMv⟩ := hrel;by_cases hlt : q < nk
     ·have hlt' : (q : Int) < (nk : Int) := by omega
      have hq0 : 0 ≤ (q : Int) ∧ (q : Int) < (nk : Int) := ⟨by omega, hlt'⟩;obtain ⟨eb, eo, z, hKA, hebl, hz, hzo, x0⟩ := (hMv.out.lat hKL.out (fun ad e => hap.out _ (hKgo.out ad e))).int hlt;have hzz := hkok.out z (List.mem_of_getElem? hz);obtain ⟨i, rfl⟩ := Int.eq_ofNat_of_zero_le hzz.1;have him : i < v.m := by omega
      have him' : (i : Int) < (v.m : Int) := hzz.2;have hik' : (i : Int) < (v.k : Int) := by rw [hfl.out]; exact hzz.2
      have hi0 : (0 : Int) ≤ (i : Int) := hzz.1;obtain ⟨ib, io, x, hxB, hib, hxi, -, i0, i1, i2, i3, i4⟩ := (hF0.out.below hb.out).is.item him;obtain ⟨cb, co, zf, hxC, hcb, hzf, hzfo, y0⟩ := (hF0.out.below hb.out).fs.int (show i < v.k by rw [hfl.out]; exact him);have hkgw := hMv.out.blk kg.out (hap.out _ hgo.out.1);have p1 : wr.cell? ⟨g, 1, none⟩ = some (.slice (some ⟨ib, io, none⟩) v.m v.d) := by rw [← hxB]; exact hkgw.cell 1
      have p2 : wr.cell? ⟨g, 2, none⟩ = some (.slice (some ⟨cb, co, none⟩) v.k v.e) := by rw [← hxC]; exact hkgw.cell 2
      have hfz : fromZ f (i : Int) = zf := by unfold fromZ; rw [Int.toNat_natCast, getD_at hzf]
      have hva : vaZ f (i : Int) = x.va := by unfold vaZ; rw [Int.toNat_natCast, hxi]
      have hvr := hx.out.va x (List.mem_of_getElem? hxi);obtain ⟨b, hb0⟩ := Int.eq_ofNat_of_zero_le hvr.1;rw [hb0] at i3 hva hvr;have hbn : b < v.n := by omega
      have hbn' : 0 ≤ (b : Int) ∧ (b : Int) < (v.n : Int) := hvr;subst hKA;replace hxB := Hd hxB;replace hxC := Hd hxC;replace hxi := Hd hxi;clear hebl hib hzo hlt hzz i0 i1 i2 i4 hcb hzfo hzf hvr hb0 hkgw;by_cases h0 : 0 ≤ zf
      ·have d0 : decide (0 ≤ zf) = true := decide_eq_true h0
       have hst := rdsX_step (f := f) (n := v.n) hz (by rw [hfz]; exact h0) hva hbn;obtain ⟨A, M, c, l, hvb, hlb, hlM, c0, f0, hown, hokl, hMc, hc63, -⟩ := hS.out.get hbn;have hlX : l = rdsV f (kept.take q) (b : Int) := by rw [rdsX_at _ hbn] at hlb; injection hlb with h; exact h.symm
       rw [← hlX] at hst;have hMm : M ≤ 1048576 := by
        rw [← hlM, hlX];exact Nat.le_trans (List.length_filter_le _ _) (by rw [List.length_take]; omega)
       obtain ⟨gb, hgb, hgn⟩ : ∃ gb, (∀ b, (Value.slice A M c).ownBlock = some b → b = gb) ∧ ∀ k, k < wr.heap.size → (Value.slice A M c).ownBlock ≠ some k → k ≠ gb := by
        cases hob : (Value.slice A M c).ownBlock with
        | none => exact ⟨wr.heap.size + 7, (fun b h => by cases h), (fun k hk _ => by omega)⟩
        | some b => exact ⟨b, (fun b' h => by injection h with h; exact h.symm), (fun k _ h e => h (by rw [e]))⟩
       have kuw := hMv.out.blk ku.out (hap.out _ hgo.out.2.2);have nu : gu ≠ gb := hgn gu kuw.lt (kuw.not_row' (by decide) hown);have no : go ≠ gb := hgn go (hS.out.o.lt go rfl).2 (rows_apart hS.out.o hown (by decide) rfl);have hokn : Hid (∀ x ∈ l ++ [(i : Int)], encI.ok x) := Hd (fun x hx => by
        rcases List.mem_append.1 hx with h | h
        ·exact hokl x h
        ·rw [List.mem_singleton.1 h]; exact ⟨by omega, by omega⟩)
       have c4 := kuw.cell 4;simp only [gZ, gS] at c4;replace hz := Hd hz;replace hst := Hd hst;replace hfz := Hd hfz;replace hva := Hd hva;replace hlb := Hd hlb;replace hvb := Hd hvb;replace hlX := Hd hlX;replace hlM := Hd hlM;replace hgb := Hd hgb;replace hown := Hd hown;replace hMc := Hd hMc;replace hokl := Hd hokl;clear hgn kuw h0;go_wp2_with fail;clear x0 p1 p2 i3 y0 d0;refine wp_region_planG (gb := gb) 12 [(true, 0), (true, 1), (true, 2), (true, 3), (true, 4), (true, 5), (true, 6), (true, 7), (true, 8), (false, 9), (false, 10), (true, 11)] (by kernel_rfl) (by kernel_rfl) (fun X hX => ?_);obtain rfl := hX.out;clear hX;replace c4 : wr.drew.cell? ⟨gu, 4, none⟩ = some (.slice (some ⟨go, 0, none⟩) v.n v.n) := c4;replace c0 : wr.drew.cell? ⟨go, b, none⟩ = some (.slice A M c) := c0;simp only [List.drop_succ_cons, List.drop_zero]
       iterate 9
        refine wpPG_float (v := ?_) rfl (by rfl) (fun w' hw' => ?_) (fun K hK => ?_);rotate_left
        ·(go_simp; try with_reducible rfl)
        go_simp;refine hK _ ?_;clear hK K
       refine wpPG_only rfl (by rfl) (fun K hK => ?_);go_simp;obtain ⟨W3, hW3⟩ : ∃ W, W = (wr.alloc (.cells #[.int .i64 (i : Int)] 3)).drew := ⟨_, rfl⟩;have b3 : Below wr.heap.size wr W3 := by rw [hW3]; exact ((Below.refl _ wr).alloc (Nat.le_refl _) _).drew
       have hlit : LAt encI W3 (some ⟨wr.heap.size, 0, none⟩) 1 [(i : Int)] := by rw [hW3]; exact LAt.lit1 (E := encI) wr _ (i : Int) ⟨by omega, by omega⟩
       have hS3 := hS.out.later b3;have hM3 := hMv.out.later b3;have hb3 := bT2 hb.out b3;have hrow3 := oBl hown.out b3;rw [← hW3];refine hK _ _ ⟨b3.os, b3.tape, b3.output, b3.size, fun k hk _ => b3.block k hk⟩ ?_;clear hK K;refine wpPG_only rfl (by rfl) (fun K hK => ?_);refine wp_append_L18 (E := encI) (.tmp 65) (.tmp 67) _ rfl w.heap.size 3 j0 _ 8 Tryz.underlying27 ji.out jz0.out jz1.out jz2.out rfl _ M l (by rfl) hrow3 _ 1 1 [(i : Int)] (by rfl) hlit (by unfold maxLen; omega) (by omega) hb3.size ?_;intro v' w4 hown' hbb hg4 hob;obtain ⟨A5, c5, rfl, h51, h52, -⟩ := LAt.of_own (E := encI) hown' hokn.out (by rw [List.length_append, hlM.out]; rfl);refine hK _ _ (BelowB.grown hg4 (fun k hk => hgb.out k hk)) ?_;clear hK K;obtain ⟨hS5, hM5, d5, f5⟩ := hS3.put (by decide) hvb.out hlb.out hg4 (v' := .slice A5 (M + 1) c5) (l' := l ++ [(i : Int)]) (by rw [List.length_append, hlM.out]; exact hown') hokn.out hob;have hS6 := Hd (by rw [← hst.out] at hS5; exact hS5);have hM6 := Hd (hM3.trans hM5);have hb6 := Hd ((hb3.trans hbb).setCell (p := ⟨go, b, none⟩) hgb0.out (.slice A5 (M + 1) c5));clear hS5 hM5 hown' hbb hg4 hob hlit hrow3 hS3 hM3 hb3 c4 c0 f0 h51 h52
       iterate 1
        refine wpPG_float (v := ?_) rfl (by rfl) (fun w' hw' => ?_) (fun K hK => ?_);rotate_left
        ·(go_simp; try with_reducible rfl)
        go_simp;refine hK _ ?_;clear hK K
       refine wpPG_nil ?_;go_wp2_with fail;refine NoPanic.normal ?_;go_wp2_with fail;exact ⟨⟨q + 1, _, by omega, by go_num, hb6, hS6, hM6⟩, by simp [intOf]; omega⟩
      ·have d0 : decide (0 ≤ zf) = false := decide_eq_false h0
       have hst := Hd (rdsX_skip (f := f) (n := v.n) hz (by rw [hfz]; omega));replace hz := Hd hz;replace hfz := Hd hfz;replace hva := Hd hva;have h0' : zf < 0 := by omega
       clear h0;go_wp2_with fail;exact ⟨⟨q + 1, vs, by omega, by go_num, hb, Hd (by rw [hst.out]; exact hS.out), hMv⟩, by simp [intOf]; omega⟩
     ·obtain rfl : q = nk := by omega
      have hlt' : ¬ (q : Int) < (q : Int) := by omega
      have hall : kept.take q = kept := List.take_of_length_le (by rw [hKl.out]; exact Nat.le_refl _);rw [hall] at hS;have kuw := hMv.out.blk ku.out (hap.out _ hgo.out.2.2);have krw := hMv.out.blk kr.out (hap.out _ hgo.out.2.1);have hUw := hMv.out.lat hUL.out (fun ad e => hap.out _ (hUgo.out ad e));have y0 := Blk.cell krw 0;have y1 := Blk.cell krw 1;have y2 := Blk.cell krw 2;have y3 := Blk.cell krw 3;have y4 := Blk.cell krw 4;simp only [gZ, gS] at y0 y1 y2 y3 y4;have f0 := Blk.frozen krw 0;have f1 := Blk.frozen krw 1;have f2 := Blk.frozen krw 2;have f3 := Blk.frozen krw 3;have f4 := Blk.frozen krw 4;have c0 := Blk.cell kuw 0;have c1 := Blk.cell kuw 1;have c2 := Blk.cell kuw 2;have c3 := Blk.cell kuw 3;have c4 := Blk.cell kuw 4;simp only [gZ, gS] at c0 c1 c2 c3 c4;have e0 := Blk.frozen kuw 0;have e1 := Blk.frozen kuw 1;have e2 := Blk.frozen kuw 2;have e3 := Blk.frozen kuw 3;have e4 := Blk.frozen kuw 4;have hgra := hMv.out.apart kr.out.lt (hap.out _ hgo.out.2.1);have kN := Blk.put5R krw (.slice v.A v.n v.c) (.slice v.B v.m v.d) (.slice v.C v.k v.e) (.slice U nu cu) (.slice (some ⟨go, 0, none⟩) v.n v.n);have z0 := Blk.cell kN 0;have z1 := Blk.cell kN 1;have z2 := Blk.cell kN 2;have z3 := Blk.cell kN 3;have z4 := Blk.cell kN 4;simp only [gZ, gS] at z0 z1 z2 z3 z4;have hdd := Hd (And.intro z0 (And.intro z1 (And.intro z2 (And.intro z3 z4))));have hSf := Hd (((((hS.out.setFar hgra 0 (.slice v.A v.n v.c)).setFar hgra 1 (.slice v.B v.m v.d)).setFar hgra 2 (.slice v.C v.k v.e)).setFar hgra 3 (.slice U nu cu)).setFar hgra 4 (.slice (some ⟨go, 0, none⟩) v.n v.n));have hUf := Hd (((((hUw.farR hUgr.out 0 (.slice v.A v.n v.c)).farR hUgr.out 1 (.slice v.B v.m v.d)).farR hUgr.out 2 (.slice v.C v.k v.e)).farR hUgr.out 3 (.slice U nu cu)).farR hUgr.out 4 (.slice (some ⟨go, 0, none⟩) v.n v.n));have hbf := Hd (below_put5R hb.out (g := gr) hgr0.out (.slice v.A v.n v.c) (.slice v.B v.m v.d) (.slice v.C v.k v.e) (.slice U nu cu) (.slice (some ⟨go, 0, none⟩) v.n v.n));clear kN z0 z1 z2 z3 z4 kuw krw hUw hall hlt;go_wp2_with fail;obtain ⟨z0, z1, z2, z3, z4⟩ := hdd.out;exact bodyPost_ret (v := .agg #[.slice v.A v.n v.c, .slice v.B v.m v.d, .slice v.C v.k v.e, .slice U nu cu, .slice (some ⟨go, 0, none⟩) v.n v.n]) (by simp [results, Tryz.results120, go_sem, z0, z1, z2, z3, z4]) rfl ⟨U, nu, cu, go, vs, rfl, hUf.out, hnu, hSf.out, hbf.out, hUw0.out⟩
end Go.Proofs.YtjhjojklfdjmdaaGreat
