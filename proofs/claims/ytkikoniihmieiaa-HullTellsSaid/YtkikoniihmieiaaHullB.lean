/- Contracts of package hull: copied, join, Close. -/
import Derived.Test.YtkikoniihmieiaaHull
import Derived.Test.YtkikoniihmieiaaMatTurnB
import Derived.Laws.BitsAllLaws
namespace Go.Proofs.Ytkikoniihmieiaa
open Go.RowKit
set_option linter.unusedVariables false

theorem own_only {w w' : World} {g base : Nat} {e : TypeId} {size n : Nat} {v : Value} {vs : List Value} (h : w.ownsRow base e size v n vs) (ho : OnlyAt g w w') (hne : v.ownBlock ≠ some g) : w'.ownsRow base e size v n vs := by
  refine ⟨h.1, ?_⟩
  rcases h.2 with ⟨h1, h2⟩ | ⟨k, cap, cur, rfl, hbg, hg, r⟩
  · exact .inl ⟨h1, h2⟩
  · exact .inr ⟨k, cap, cur, rfl, hbg, (ho.block k (fun e => hne (by rw [← e]; rfl))).trans hg, r⟩
theorem Blk.only {w w' : World} {g k : Nat} {t : TypeId} {cs : List Value} (h : Blk w k t cs) (ho : OnlyAt g w w') (hne : k ≠ g) : Blk w' k t cs := (ho.block k hne).trans h
theorem Row.only {w w' : World} {g n : Nat} {A : Option Addr} {xs : List Nat} (h : Row w A n xs) (ho : OnlyAt g w w') (hne : ∀ ad, A = some ad → ad.block ≠ g) : Row w' A n xs := by
  refine ⟨⟨h.1.1, fun hn => ?_⟩, h.2⟩
  obtain ⟨b, off, e, hb, hc⟩ := h.1.2 hn
  have hbg := hne _ e
  exact ⟨b, off, e, by rw [ho.size]; exact hb, fun j u hu => (ho.cell (p := ⟨b, off + j, none⟩) hbg).trans (hc j u hu)⟩
theorem below_only {w w' w0 : World} {g : Nat} (h : Below w0.heap.size w0 w) (ho : OnlyAt g w w') (hg : w0.heap.size ≤ g) : Below w0.heap.size w0 w' := h.trans (ho.below.mono hg)
theorem OwnRows.joined {t : TypeId} {w w' : World} {base : Nat} {vs : List Value} {xss : List (List Nat)} (h : OwnRows t w base vs xss) {i g m c : Nat} {ys : List Nat} (hv : vs[i]? = some (.slice (some ⟨g, 0, none⟩) m c))
    (ho : OnlyAt g w w') (hy : w'.ownsRow base t 1 (.slice (some ⟨g, 0, none⟩) m c) m (ys.map u64v)) (hw : W64 ys) : OwnRows t w' base vs (xss.set i ys) := by
  refine ⟨by simp [h.1], fun k v zs h1 h2 => ?_, h.2.2⟩
  rw [List.getElem?_set] at h2
  by_cases hk : i = k
  · subst hk
    rw [if_pos rfl] at h2
    split at h2
    · injection h2 with h2
      subst h2
      rw [hv] at h1
      injection h1 with h1
      subst h1
      exact ⟨_, _, _, rfl, hy, hw⟩
    · cases h2
  · rw [if_neg hk] at h2
    obtain ⟨A, m', c', e, h3, hx⟩ := h.2.1 k v zs h1 h2
    subst e
    exact ⟨A, m', c', rfl, own_only h3 ho (h.2.2 i k _ _ g hk hv h1 rfl), hx⟩
theorem orK_self (a : List Nat) (k : Nat) : orK a a k = a := by
  unfold orK
  apply List.ext_getElem?
  intro j
  rw [List.getElem?_map]
  by_cases hj : j < a.length
  · rw [List.getElem?_range hj, Option.map_some, Nat.or_self, ite_self, List.getD_eq_getElem?_getD, List.getElem?_eq_getElem hj]; rfl
  · rw [List.getElem?_eq_none (by simpa using hj), List.getElem?_eq_none (by omega)]; rfl
theorem set_self {α : Type} {l : List α} {q : Nat} {r : α} (h : l[q]? = some r) : l.set q r = l := by
  apply List.ext_getElem?
  intro i
  rw [List.getElem?_set]
  by_cases hq : q = i
  · subst hq
    rw [if_pos rfl, if_pos (List.getElem?_eq_some_iff.1 h).1, h]
  · rw [if_neg hq]
theorem and_p2 (x r : Nat) (hx : x < 18446744073709551616) (hr : r < 64) : (bits BinOp.and IntKind.u64 (x : Int) ((p2 r : Nat) : Int) != 0) = x.testBit r := by
  have hp := p2_lt r hr
  rw [u64_and_nat x (p2 r) hx (by omega)]
  unfold p2
  cases h : x.testBit r with
  | true =>
    rw [bne_iff_ne]
    intro h0
    have h1 : x &&& 2 ^ r = 0 := by omega
    have h2 := congrArg (·.testBit r) h1
    simp [h] at h2
  | false =>
    have : x &&& 2 ^ r = 0 := by
      apply Nat.eq_of_testBit_eq
      intro i
      rw [Nat.testBit_and, Nat.testBit_two_pow, Nat.zero_testBit]
      by_cases hi : r = i
      · subst hi; rw [h]; rfl
      · simp [hi]
    rw [this]; rfl

/-- a call that answers words of its own -/
def RetWords (n : Nat) (xs : List Nat) (w : World) (e : Ending) (w' : World) : Prop :=
  ∃ g cap, e = .returned (.slice (some ⟨g, 0, none⟩) n cap) ∧ w'.ownsRow w.heap.size 56 1 (.slice (some ⟨g, 0, none⟩) n cap) n (xs.map u64v) ∧ Below w.heap.size w w'
set_option maxHeartbeats 400000 in
theorem clone_words (b off n c : Nat) (xs : List Nat) (w : World) (hr : Row w (some ⟨b, off, none⟩) n xs) (h0 : 0 < n) (hn : n ≤ 1073741824) :
    Calls Try.prog 88 #[.slice (some ⟨b, off, none⟩) n c] w (RetWords n xs w) := by
  obtain ⟨i0, hi, hz0, hz1, hz2⟩ := info_parts info_u64
  replace hi := Lib.hid hi
  replace hz0 := Lib.hid hz0
  replace hz1 := Lib.hid hz1
  replace hz2 := Lib.hid hz2
  have hlit : (w.alloc (.cells #[] 56)).ownsRow w.heap.size 56 1 (.slice (some ⟨w.heap.size, 0, none⟩) 0 0) 0 [] := by
    have h := World.ownsRow_lit (size := 1) (base := w.heap.size) (e := 56) w #[] 0 (Nat.le_refl _) (by omega) (by simp)
    simpa using h
  have hb0 : Below w.heap.size w (w.alloc (.cells #[] 56)) := below_alloc _ _
  have hrd : Rd (w.alloc (.cells #[] 56)) (some ⟨b, off, none⟩) n (xs.map u64v) := (hr.below hb0).1
  have h1 : ∀ u ∈ xs.map u64v, u.oneCell' = true := fun u hu => by
    obtain ⟨x, _, rfl⟩ := List.mem_map.1 hu; rfl
  clear hr
  have hnil : ∀ W : World, (binOp .eql 53 (.slice (some ⟨b, off, none⟩) n c) (.slice none 0 0)).run Try.prog W = .ok (.bool false) W := fun W => by kernel_rfl
  go_enter Try.func88, Try.ntmps88
  go_wp2_with (at_builtin; refine wpList_append_rd rfl (.tmp 5) (.tmp 6) _ rfl w.heap.size 56 i0 _ 8 Try.underlying53 hi.out hz0.out hz1.out hz2.out rfl _ 0 _ (by rfl) hlit _ n c _ rfl hrd h1 (by unfold maxLen; omega) (by omega) hb0.size ?_; intro v1 w1 hown1 hbb hform; simp only [Nat.zero_add, List.nil_append] at hown1 hform; have hb1 := hb0.trans hbb; obtain ⟨g, cap, rfl⟩ := hform h0; clear hbb hlit hb0 hrd hform)
  go_ret
  exact ⟨_, _, rfl, hown1, hb1⟩

/-- a call that answers rows of its own -/
def RetRowsO (xss : List (List Nat)) (w : World) (e : Ending) (w' : World) : Prop :=
  ∃ vs, e = .returned (.slice (some ⟨w.heap.size, 0, none⟩) xss.length xss.length) ∧ w'.ownsRow w.heap.size 53 1 (.slice (some ⟨w.heap.size, 0, none⟩) xss.length xss.length) xss.length vs ∧ OwnRows 56 w' (w.heap.size + 1) vs xss ∧ Below w.heap.size w w' ∧ w.heap.size + 1 ≤ w'.heap.size
set_option maxHeartbeats 1000000 in
theorem hull_copied (A : Option Addr) (n c : Nat) (a : List (List Nat)) (w : World) (hr : RowsAt w A n a) (hn : n ≤ 4096) (hl : ∀ (k : Nat) (xs : List Nat), a[k]? = some xs → 0 < xs.length ∧ xs.length ≤ 1024) :
    Calls Try.prog 67 #[.slice A n c] w (RetRowsO a w) := by
  have hlen := hr.len
  have hmk := mk_rows .i64 .i64 n n (Nat.le_refl _) (by omega)
  obtain ⟨W1, hW1⟩ : ∃ W1, W1 = w.alloc (.cells (zeros n (.slice none 0 0)) 53) := ⟨_, rfl⟩
  have ha1 : Below w.heap.size w W1 := by rw [hW1]; exact below_alloc _ _
  have hs1 : W1.heap.size = w.heap.size + 1 := by rw [hW1]; simp
  have hown0 : W1.ownsRow w.heap.size 53 1 (.slice (some ⟨w.heap.size, 0, none⟩) n n) n (filled [] n) := by
    have h := own_zeros w n (.slice none 0 0) 53 (by unfold maxLen; omega)
    rw [← hW1] at h
    rw [filled_nil]; exact h
  have hs1' := Lib.hid hs1
  replace hown0 := Lib.hid hown0
  replace ha1 := Lib.hid ha1
  replace hr := Lib.hid hr
  replace hl := Lib.hid hl
  replace hlen := Lib.hid hlen
  clear hs1
  go_enter Try.func67, Try.ntmps67
  go_wp2_with fail
  rw [← hW1]
  clear hW1 hmk
  go_loopw [11] (fun i wr => ∃ vs : List Value, vs.length ≤ n ∧ i = .int .i64 vs.length ∧ Hid (wr.ownsRow w.heap.size 53 1 (.slice (some ⟨w.heap.size, 0, none⟩) n n) n (filled vs n)) ∧ Hid (OwnRows 56 wr (w.heap.size + 1) vs (a.take vs.length)) ∧ Hid (Below w.heap.size w wr) ∧ Hid (w.heap.size + 1 ≤ wr.heap.size)) (fun i _ => n - (intOf i).toNat)
  case atStart => exact ⟨[], Nat.zero_le _, rfl, hown0, Lib.hid (OwnRows.nil _ _ _), ha1, Lib.hid (by rw [hs1'.out]; exact Nat.le_refl _)⟩
  case round =>
    obtain ⟨vs, hk, rfl, hown, hrows, hbr, hsr⟩ := hrel
    clear hown0 ha1
    obtain ⟨k, hke⟩ : ∃ k, k = vs.length := ⟨_, rfl⟩
    rw [← hke] at hk
    rw [← hke]
    by_cases hlt : k < n
    · have hke' := Lib.hid hke
      clear hke
      obtain ⟨b, off, B, m, d, xs, rfl, hbl, hx, hc, hxr⟩ := (hr.out.below hbr.out).at_ hlt
      have hm0 : 0 < m ∧ m ≤ 1024 := by have := hxr.len; have := hl.out k xs hx; omega
      obtain ⟨b2, off2, _, rfl, _, _, _, _⟩ := hxr.at_ hm0.1
      have hC := Lib.hid (clone_words b2 off2 m d xs wr hxr hm0.1 (by omega))
      have hx64 := Lib.hid hxr.2
      have hstep : Hid (a.take (k + 1) = a.take k ++ [xs]) := Lib.hid (by
        rw [List.take_succ_eq_append_getElem (List.getElem?_eq_some_iff.1 hx).1, (List.getElem?_eq_some_iff.1 hx).2])
      have hk0 : (0 : Int) ≤ (k : Int) := by omega
      have hkn : (k : Int) < (n : Int) := by omega
      clear hx hxr hm0
      go_wp2_with fail
      refine hC.out.mono ?_; rintro e w1 ⟨G, q, rfl, ho, hb1⟩
      have hown1 := own_below hown.out hb1
      have hget := filled_get (vs := vs) (n := n) (by rw [← hke'.out]; exact hlt)
      have hcg := hown1.cellAt k (by omega)
      rw [hke'.out, hget, ← hke'.out] at hcg
      have hfg := hown1.frozenAt k
      have hrows1 := Lib.hid (hrows.out.snoc hb1 ho hx64.out hsr.out)
      have hbr1 := Lib.hid (below_trans2 hbr.out hb1)
      have hsr1 := Lib.hid (Nat.le_trans hsr.out hb1.size)
      replace hown1 := Lib.hid hown1
      clear ho hget hown hrows hbr hsr hb1 hc
      go_wp2_with fail
      go_roundw
      case rel =>
        refine ⟨vs ++ [.slice (some ⟨G, 0, none⟩) m q], by have := hke'.out; simp; omega, by rw [List.length_append, ← hke'.out]; simp; try omega, ?_, ?_, ?_, ?_⟩
        · refine Lib.hid ?_
          rw [← filled_set (by rw [← hke'.out]; exact hlt), ← hke'.out]
          exact (hown1.out.stored k _).1
        · refine Lib.hid ?_
          have h := hrows1.out.far (p := ⟨w.heap.size, k, none⟩) (by simp) (.slice (some ⟨G, 0, none⟩) m q)
          rw [← hke'.out] at h
          rw [List.length_append, List.length_singleton, ← hke'.out, hstep.out]
          exact h
        · exact Lib.hid (hbr1.out.setCell (by simp) _)
        · exact Lib.hid (by simpa using hsr1.out)
      case measure => simp [intOf]; omega
    · obtain rfl : n = k := by omega
      have hvn := Lib.hid hke.symm
      clear hlt hke
      go_wp2_with fail
      go_ret
      refine ⟨vs, by rw [hlen.out]; rfl, ?_, ?_, hbr.out, hsr.out⟩
      · have h := hown.out
        rw [filled_all hvn.out] at h
        rw [hlen.out]; exact h
      · have h := hrows.out
        rw [hvn.out, List.take_of_length_le (by rw [hlen.out]; exact Nat.le_refl _)] at h
        exact h

/-- what 'join' does: the words of both, in the first one's place -/
def RetJoinIn (g base n c : Nat) (zs : List Nat) (w : World) (e : Ending) (w' : World) : Prop :=
  e = .returned (.tuple #[]) ∧ w'.ownsRow base 56 1 (.slice (some ⟨g, 0, none⟩) n c) n (zs.map u64v) ∧ OnlyAt g w w'
set_option maxHeartbeats 1000000 in
theorem hull_join (g base n c d : Nat) (B : Option Addr) (xs ys : List Nat) (w : World) (hown : w.ownsRow base 56 1 (.slice (some ⟨g, 0, none⟩) n c) n (xs.map u64v)) (hx : W64 xs) (hs : Row w B n ys)
    (hal : (∀ ad, B = some ad → ad.block ≠ g) ∨ (B = some ⟨g, 0, none⟩ ∧ ys = xs)) (hn : n ≤ 1073741824) :
    Calls Try.prog 69 #[.slice (some ⟨g, 0, none⟩) n c, .slice B n d] w (RetJoinIn g base n c (orR xs ys) w) := by
  have hl : xs.length = n := by have := hown.1; simpa using this
  have hl2 := hs.len
  have hd : ∀ k, xs.getD k 0 < 18446744073709551616 := fun k => getD_w64 hx k
  have hall : orK xs ys n = orR xs ys := by rw [← hl2]; exact orK_all xs ys (by omega)
  have hrow : ∀ (k : Nat) (W : World), W.ownsRow base 56 1 (.slice (some ⟨g, 0, none⟩) n c) n ((orK xs ys k).map u64v) → OnlyAt g w W → Row W B n ys := fun k W h1 h2 => by
    rcases hal with h | ⟨h, h'⟩
    · exact hs.only h2 h
    · subst h h'
      rw [orK_self] at h1
      exact Row.of_own h1 hx
  replace hrow := Lib.hid hrow
  replace hall := Lib.hid hall
  replace hd := Lib.hid hd
  replace hl := Lib.hid hl
  replace hown := Lib.hid hown
  clear hs hal hl2
  go_enter Try.func69, Try.ntmps69
  go_wp2_with fail
  go_loopw [8] (fun i wr => ∃ k : Nat, k ≤ n ∧ i = .int .i64 k ∧ Hid (wr.ownsRow base 56 1 (.slice (some ⟨g, 0, none⟩) n c) n ((orK xs ys k).map u64v)) ∧ Hid (OnlyAt g w wr)) (fun i _ => n - (intOf i).toNat)
  case atStart => exact ⟨0, Nat.zero_le _, rfl, Lib.hid (by rw [orK_zero]; exact hown.out), Lib.hid (OnlyAt.refl _ _)⟩
  case round =>
    obtain ⟨k, hk, rfl, hownr, hor⟩ := hrel
    clear hown
    by_cases hlt : k < n
    · obtain ⟨b, off, y, rfl, hbk, hy, hy64, hc⟩ := (hrow.out k wr hownr.out hor.out).at_ hlt
      have hgx := orK_get xs ys k (by rw [hl.out]; omega)
      have hx64 := hd.out k
      obtain ⟨x, hx'⟩ : ∃ x, x = xs.getD k 0 := ⟨_, rfl⟩
      rw [← hx'] at hgx hx64
      have hcg : wr.cell? ⟨g, k, none⟩ = some (.int .u64 (x : Int)) := by
        rw [hownr.out.cellAt _ (by omega), List.getElem?_map, hgx]; rfl
      have hf := hownr.out.frozenAt k
      have hE := Lib.hid (u64_or_nat x y hx64 hy64)
      have hst := orK_set xs ys k
      rw [← hx', Row.get hy] at hst
      replace hst := Lib.hid hst
      have hk0 : (0 : Int) ≤ (k : Int) := by omega
      have hkn : (k : Int) < (n : Int) := by omega
      clear hgx hy
      replace hx' := Lib.hid hx'
      go_wp2_with fail
      go_roundw
      case rel =>
        refine ⟨k + 1, by omega, by go_num, ?_, Lib.hid (hor.out.set k _)⟩
        refine Lib.hid ?_
        rw [hE.out, ← hst.out, List.map_set]
        exact (hownr.out.stored _ _).1
      case measure => simp [intOf]; omega
    · obtain rfl : k = n := by omega
      go_wp2_with fail
      go_end0
      exact ⟨rfl, by rw [← hall.out]; exact hownr.out, hor.out⟩

/-- what is known at each round: the rows of its own, in blocks of their own; the variables -/
def CloseI (w : World) (n : Nat) (A : Option Addr) (c : Nat) (vs : List Value) (xss : List (List Nat)) (wr : World) : Prop :=
  wr.ownsRow (w.heap.size + 2) 53 1 (.slice (some ⟨w.heap.size + 2, 0, none⟩) n n) n vs ∧ OwnRows 56 wr (w.heap.size + 3) vs xss ∧ MatB wr w.heap.size 24 n A n c ∧ MatB wr (w.heap.size + 1) 24 0 none 0 0 ∧ Below w.heap.size w wr
theorem CloseI.join {w : World} {n : Nat} {A : Option Addr} {c : Nat} {vs : List Value} {xss : List (List Nat)} {wr w' : World} (h : CloseI w n A c vs xss wr) {i g m d : Nat} {ys : List Nat} (hv : vs[i]? = some (.slice (some ⟨g, 0, none⟩) m d))
    (hg : w.heap.size + 3 ≤ g) (ho : OnlyAt g wr w') (hy : w'.ownsRow (w.heap.size + 3) 56 1 (.slice (some ⟨g, 0, none⟩) m d) m (ys.map u64v)) (hw : W64 ys) : CloseI w n A c vs (xss.set i ys) w' := by
  obtain ⟨h1, h2, h3, h4, h5⟩ := h
  exact ⟨own_only h1 ho (by simp [Value.ownBlock]; omega), h2.joined hv ho hy hw, Blk.only h3 ho (by omega), Blk.only h4 ho (by omega), below_only h5 ho (by omega)⟩
set_option maxRecDepth 100000 in
set_option maxHeartbeats 2000000 in
theorem hull_Close (A : Option Addr) (n c : Nat) (a : List (List Nat)) (w : World) (hr : RowsAt w A n a) (hG : Good n a) :
    Calls Try.prog 30 #[.agg #[.int .i64 (n : Int), .slice A n c]] w (RetMat1 (n : Int) (closeK a n) w) := by
  have hal : a.length = n := hG.len
  have hnn : n ≤ 4096 := hG.le
  obtain ⟨W0, hW0⟩ : ∃ W0, W0 = (w.alloc (.cells #[.int .i64 n, .slice A n c] 24)).alloc (.cells #[.int .i64 0, .slice none 0 0] 24) := ⟨_, rfl⟩
  have ha : Below w.heap.size w W0 := by rw [hW0]; exact ((Below.refl _ _).alloc (Nat.le_refl _) _).alloc (by simp) _
  have hB1 : MatB W0 w.heap.size 24 n A n c := by rw [hW0]; exact (MatB.new w _).below_ (below_alloc _ _)
  have hB2 : MatB W0 (w.heap.size + 1) 24 0 none 0 0 := by rw [hW0]; exact MatB.new1 w _ _
  have hs0 : W0.heap.size = w.heap.size + 2 := by rw [hW0]; simp
  have l0 := hB1.c0
  have l1 := hB1.c1
  have hcop := hull_copied A n c a W0 (hr.below ha) hnn (fun k xs hx => by
    have h1 := hG.row xs (List.mem_of_getElem? hx)
    have h2 := hG.small xs (List.mem_of_getElem? hx)
    have h3 : 0 < n := by have := (List.getElem?_eq_some_iff.1 hx).1; omega
    omega)
  unfold RetRowsO at hcop
  rw [hal, hs0] at hcop
  replace hcop := Lib.hid hcop
  replace ha := Lib.hid ha
  replace hB1 := Lib.hid hB1
  replace hB2 := Lib.hid hB2
  replace hs0 := Lib.hid hs0
  replace hal := Lib.hid hal
  have hK := Lib.hid (fun k hk => closeK_facts hG k hk)
  replace hG := Lib.hid hG
  clear hr
  go_enter Try.func30, Try.ntmps30
  go_wp2_with fail
  rw [← hW0]
  clear hW0
  go_wp2_with fail
  refine hcop.out.mono ?_; rintro e w1 ⟨vs, rfl, ho1, ho2, hb1, hs1⟩
  have hI : Hid (CloseI w n A c vs a w1) := Lib.hid ⟨ho1, ho2, hB1.out.below_ (hb1.mono (by rw [hs0.out]; exact Nat.le_refl _)), hB2.out.below_ (hb1.mono (by rw [hs0.out]; exact Nat.le_refl _)), ha.out.trans (hb1.mono (by omega))⟩
  have hvl : vs.length = n := by have := ho1.1; simpa using this
  replace hvl := Lib.hid hvl
  clear ho1 ho2 hb1 hs1 hcop hB1 hB2 ha l0 l1
  go_wp2_with fail
  go_loopw [15] (fun i wr => ∃ k : Nat, k ≤ n ∧ i = .int .i64 k ∧ Hid (CloseI w n A c vs (closeK a k) wr)) (fun i _ => n - (intOf i).toNat)
  case atStart => exact ⟨0, Nat.zero_le _, rfl, hI⟩
  case round =>
    obtain ⟨k, hk, rfl, hIr⟩ := hrel
    clear hI
    by_cases hlt : k < n
    · have hGk := (hK.out k hk).1
      obtain ⟨rk, hrk, hwk, hlk⟩ := hGk.at_ hlt
      obtain ⟨vk, hvk⟩ : ∃ v, vs[k]? = some v := ⟨_, List.getElem?_eq_getElem (by rw [hvl.out]; exact hlt)⟩
      obtain ⟨Ak, mk, dk, rfl, hok, _⟩ := hIr.out.2.1.2.1 k vk rk hvk hrk
      have hmk : rk.length = mk := by have := hok.1; simpa using this
      obtain ⟨gk, hgk0, rfl⟩ : ∃ gk, w.heap.size + 3 ≤ gk ∧ Ak = some ⟨gk, 0, none⟩ := by
        obtain ⟨g, cap, hv, _⟩ := hok.form (by omega)
        injection hv with hv
        subst hv
        exact ⟨g, own_lt_block hok g rfl, rfl⟩
      have hmk1 : mk ≤ 64 := by have := hGk.small rk (List.mem_of_getElem? hrk); omega
      have hkm : k / 64 < mk := by omega
      have hpl := Lib.hid (fun W => hull_place k (by omega) W)
      have hck := hIr.out.1.cellAt k (by omega)
      rw [hvk] at hck
      have hk0 : (0 : Int) ≤ (k : Int) := by omega
      have hkn : (k : Int) < (n : Int) := by omega
      replace hGk := Lib.hid hGk
      replace hrk := Lib.hid hrk
      replace hvk := Lib.hid hvk
      replace hmk := Lib.hid hmk
      clear hok hwk hlk
      go_wp2_with fail
      refine (hpl.out wr).mono ?_; rintro e w' ⟨rfl, rfl⟩
      clear hpl
      go_wp2_with fail
      clear hck
      go_loopw [27] (fun i wi => ∃ q : Nat, q ≤ n ∧ i = .int .i64 q ∧ Hid (CloseI w n A c vs (stepM (closeK a k) k q) wi)) (fun i _ => n - (intOf i).toNat)
      case atStart => exact ⟨0, Nat.zero_le _, rfl, Lib.hid (by rw [stepM_zero]; exact hIr.out)⟩
      case round =>
        obtain ⟨q, hq, rfl, hIq⟩ := hrel
        clear hIr
        by_cases hlq : q < n
        · obtain ⟨r, hrq, hwq, hlq2⟩ := hGk.out.at_ hlq
          have hrs : (stepM (closeK a k) k q)[q]? = some r := by rw [stepM_get hrq, if_neg (Nat.lt_irrefl _)]
          obtain ⟨v, hv⟩ : ∃ v, vs[q]? = some v := ⟨_, List.getElem?_eq_getElem (by rw [hvl.out]; exact hlq)⟩
          obtain ⟨Aq, m, d, rfl, hoq, _⟩ := hIq.out.2.1.2.1 q v r hv hrs
          have hmq : r.length = m := by have := hoq.1; simpa using this
          obtain ⟨g, hg0, rfl⟩ : ∃ g, w.heap.size + 3 ≤ g ∧ Aq = some ⟨g, 0, none⟩ := by
            obtain ⟨g, cap, hv, _⟩ := hoq.form (by omega)
            injection hv with hv
            subst hv
            exact ⟨g, own_lt_block hoq g rfl, rfl⟩
          have hmm : m = mk := by
            have h1 := (hGk.out.row r (List.mem_of_getElem? hrq)).2.2.1
            have h2 := (hGk.out.row rk (List.mem_of_getElem? hrk.out)).2.2.1
            have := hmk.out
            omega
          subst hmm
          have hcq := hIq.out.1.cellAt q (by omega)
          rw [hv] at hcq
          obtain ⟨x, hx⟩ : ∃ x, r[k / 64]? = some x := ⟨_, List.getElem?_eq_getElem (by omega)⟩
          have hx64 := hwq x (List.mem_of_getElem? hx)
          have hcx : wr.cell? ⟨g, k / 64, none⟩ = some (.int .u64 (x : Int)) := by
            rw [hoq.cellAt _ (by omega), List.getElem?_map, hx]; rfl
          have hbit := and_p2 x (k % 64) hx64 (by omega)
          have hbh : x.testBit (k % 64) = hasR r (k : Int) := by rw [hasR_nat, Row.get hx]
          rw [hbh] at hbit
          have hsucc := stepM_succ (k := k) hrq
          have hq0 : (0 : Int) ≤ (q : Int) := by omega
          have hqn : (q : Int) < (n : Int) := by omega
          have hp0 : (0 : Int) ≤ ((k / 64 : Nat) : Int) := by omega
          have hpm : ((k / 64 : Nat) : Int) < (m : Int) := by omega
          have hp1 : (((k / 64 : Nat) : Int)).toNat = k / 64 := by omega
          cases hh : hasR r (k : Int) with
          | false =>
            rw [hh] at hbit
            have hst : Hid (stepM (closeK a k) k (q + 1) = stepM (closeK a k) k q) := Lib.hid (by
              rw [hsucc]
              unfold stepR
              rw [hh]
              simp only [Bool.false_eq_true, if_false]
              exact set_self hrs)
            clear hsucc hh hbh hx hrs hrq hv hoq hwq
            go_wp2_with fail
            go_roundw
            case rel => exact ⟨q + 1, by omega, by go_num, Lib.hid (by rw [hst.out]; exact hIq.out)⟩
            case measure => simp [intOf]; omega
          | true =>
            rw [hh] at hbit
            have hth : (stepM (closeK a k) k q)[k]? = some rk := stepM_through hrk.out
            obtain ⟨_, _, _, e1, hok2, _⟩ := hIq.out.2.1.2.1 k _ rk hvk.out hth
            cases e1
            have hrow := Row.of_own hok2 (hGk.out.row rk (List.mem_of_getElem? hrk.out)).1
            have hst : Hid (stepM (closeK a k) k (q + 1) = (stepM (closeK a k) k q).set q (orR r rk)) := Lib.hid (by
              rw [hsucc]
              unfold stepR
              rw [hh, if_pos rfl, getD_at hrk.out])
            have hw2 := Lib.hid (orR_w64 hwq (hGk.out.row rk (List.mem_of_getElem? hrk.out)).1)
            have hj := Lib.hid (hull_join g (w.heap.size + 3) m d dk (some ⟨gk, 0, none⟩) r rk wr hoq hwq hrow (by
              by_cases hqk : q = k
              · subst hqk
                rw [hv] at hvk
                have h1 := hvk.out
                injection h1 with h1
                injection h1 with h1 h2 h3
                refine .inr ⟨h1.symm, ?_⟩
                have h2 := hrk.out
                rw [hrq] at h2
                injection h2 with h2
                exact h2.symm
              · refine .inl (fun ad e => ?_)
                injection e with e
                subst e
                intro hgg
                have hgg' : gk = g := hgg
                subst hgg'
                exact hIq.out.2.1.2.2 q k _ _ gk hqk hv hvk.out rfl rfl) (by omega))
            replace hv := Lib.hid hv
            clear hsucc hh hbh hx hrs hrq hoq hwq hok2 hrow hth
            go_wp2_with fail
            refine hj.out.mono ?_; rintro e w2 ⟨rfl, hy, ho⟩
            have hI2 := Lib.hid (hIq.out.join hv.out hg0 ho hy hw2.out)
            clear hy ho hIq hj hcq hcx
            go_wp2_with fail
            go_roundw
            case rel => exact ⟨q + 1, by omega, by go_num, Lib.hid (by rw [hst.out]; exact hI2.out)⟩
            case measure => simp [intOf]; omega
        · obtain rfl : q = n := by omega
          have hI2 : Hid (CloseI w q A c vs (closeK a (k + 1)) wr) := Lib.hid (by
            show CloseI w q A c vs (stepM (closeK a k) k a.length) wr
            rw [hal.out]; exact hIq.out)
          clear hIq
          go_wp2_with fail
          go_roundw
          case rel => exact ⟨k + 1, by omega, by go_num, hI2⟩
          case measure => simp [intOf]; omega
    · obtain rfl : k = n := by omega
      obtain ⟨h1, h2, h3, h4, h5⟩ := hIr.out
      have l0 := h3.c0
      have f0 := h4.c0
      have f1 := h4.c1
      have g0 := h4.frozen 0
      have g1 := h4.frozen 1
      replace h1 := Lib.hid h1
      replace h2 := Lib.hid h2
      replace h3 := Lib.hid h3
      replace h4 := Lib.hid h4
      replace h5 := Lib.hid h5
      clear hIr
      go_wp2_with fail
      have hcc := h4.out.two (.int .i64 k) (.slice (some ⟨w.heap.size + 2, 0, none⟩) k k)
      have hc1 := hcc.1
      have hc2 := hcc.2
      clear hcc f0 f1 g0 g1 l0
      refine bodyPost_ret (v := .agg #[.int .i64 k, .slice (some ⟨w.heap.size + 2, 0, none⟩) k k]) (by simp [results, Try.results30, go_sem, hc1, hc2]) rfl ⟨_, _, _, rfl, ⟨vs, ?_, ?_⟩, Nat.le_refl _, ?_⟩
      · exact Rd.of_own' (own_far (own_far h1.out (p := ⟨w.heap.size + 1, 0, none⟩) (by simp [Value.ownBlock]) _) (p := ⟨w.heap.size + 1, 1, none⟩) (by simp [Value.ownBlock]) _)
      · exact ((h2.out.far (p := ⟨w.heap.size + 1, 0, none⟩) (by simp) _).far (p := ⟨w.heap.size + 1, 1, none⟩) (by simp) _).rows
      · exact (h5.out.setCell (by simp) _).setCell (by simp) _

end Go.Proofs.Ytkikoniihmieiaa
