/- Contracts of package hull: copied, join, Close. The code's own contracts of layer 17, second half: pairs (the writes of conflicts), Cf. The contract of the document's own answer of layer 11: Of (whole facts of a history). Lists of pairs of bytes in memory. Plain mathematics of layer 18: what an operation has seen, round by round. Nothing of the program is named. Contracts of the document's own answers for matrices: Pairs. Contracts of the document's own answers for matrices: Turn. Contract of the document's own answer: Within. The example of layers 17 and 18: two writes and a read. -/
import Derived.Test.YtpbiilhclmcehaaClashReadsPk6
import Derived.Test.YtpbiilhclmcehaaClashReadsPk4
import Derived.Laws.BitsAllLaws
import Derived.Test.YtpbiilhclmcehaaClashReadsPk8
import Derived.Test.YtpbiilhclmcehaaClashReadsPk3
import Derived.Test.YtpbiilhclmcehaaClashReadsPk5
import Derived.Test.YtpbiilhclmcehaaClashReadsPk7
namespace Go.Proofs.Ytpbiilhclmcehaa
open Go.RowKit
set_option linter.unusedVariables false

theorem own_only {w w' : World} {g base : Nat} {e : TypeId} {size n : Nat} {v : Value} {vs : List Value} (h : w.ownsRow base e size v n vs) (ho : OnlyAt g w w') (hne : v.ownBlock ≠ some g) : w'.ownsRow base e size v n vs := by
  refine ⟨h.1, ?_⟩
  rcases h.2 with ⟨h1, h2⟩ | ⟨k, cap, cur, rfl, hbg, hg, r⟩
  · exact .inl ⟨h1, h2⟩
  · exact .inr ⟨k, cap, cur, rfl, hbg, (ho.block k (fun e => hne (by rw [← e]; rfl))).trans hg, r⟩
theorem Blk.only {w w' : World} {g k : Nat} {t : TypeId} {cs : List Value} (h : Blk w k t cs) (ho : OnlyAt g w w') (hne : k ≠ g) : Blk w' k t cs := (ho.block k hne).trans h
theorem Row.only {w w' : World} {g n : Nat} {A : Option Addr} {xs : List Nat} (h : Row w A n xs) (ho : OnlyAt g w w') (hne : ∀ ad, A = some ad → ad.block ≠ g) : Row w' A n xs := by
  refine ⟨⟨h.1.1, fun hn => ?_⟩, h.2⟩
  obtain ⟨b, off, e, hb, hc⟩ := h.1.2 hn
  have hbg := hne _ e
  exact ⟨b, off, e, by rw [ho.size]; exact hb, fun j u hu => (ho.cell (p := ⟨b, off + j, none⟩) hbg).trans (hc j u hu)⟩
theorem below_only {w w' w0 : World} {g : Nat} (h : Below w0.heap.size w0 w) (ho : OnlyAt g w w') (hg : w0.heap.size ≤ g) : Below w0.heap.size w0 w' := h.trans (ho.below.mono hg)
theorem OwnRows.joined {t : TypeId} {w w' : World} {base : Nat} {vs : List Value} {xss : List (List Nat)} (h : OwnRows t w base vs xss) {i g m c : Nat} {ys : List Nat} (hv : vs[i]? = some (.slice (some ⟨g, 0, none⟩) m c))
    (ho : OnlyAt g w w') (hy : w'.ownsRow base t 1 (.slice (some ⟨g, 0, none⟩) m c) m (ys.map u64v)) (hw : W64 ys) : OwnRows t w' base vs (xss.set i ys) := by
  refine ⟨by simp [h.1], fun k v zs h1 h2 => ?_, h.2.2⟩
  rw [List.getElem?_set] at h2
  by_cases hk : i = k
  · subst hk
    rw [if_pos rfl] at h2
    split at h2
    · injection h2 with h2
      subst h2
      rw [hv] at h1
      injection h1 with h1
      subst h1
      exact ⟨_, _, _, rfl, hy, hw⟩
    · cases h2
  · rw [if_neg hk] at h2
    obtain ⟨A, m', c', e, h3, hx⟩ := h.2.1 k v zs h1 h2
    subst e
    exact ⟨A, m', c', rfl, own_only h3 ho (h.2.2 i k _ _ g hk hv h1 rfl), hx⟩
theorem orK_self (a : List Nat) (k : Nat) : orK a a k = a := by
  unfold orK
  apply List.ext_getElem?
  intro j
  rw [List.getElem?_map]
  by_cases hj : j < a.length
  · rw [List.getElem?_range hj, Option.map_some, Nat.or_self, ite_self, List.getD_eq_getElem?_getD, List.getElem?_eq_getElem hj]; rfl
  · rw [List.getElem?_eq_none (by simpa using hj), List.getElem?_eq_none (by omega)]; rfl
theorem set_self {α : Type} {l : List α} {q : Nat} {r : α} (h : l[q]? = some r) : l.set q r = l := by
  apply List.ext_getElem?
  intro i
  rw [List.getElem?_set]
  by_cases hq : q = i
  · subst hq
    rw [if_pos rfl, if_pos (List.getElem?_eq_some_iff.1 h).1, h]
  · rw [if_neg hq]
theorem and_p2 (x r : Nat) (hx : x < 18446744073709551616) (hr : r < 64) : (bits BinOp.and IntKind.u64 (x : Int) ((p2 r : Nat) : Int) != 0) = x.testBit r := by
  have hp := p2_lt r hr
  rw [u64_and_nat x (p2 r) hx (by omega)]
  unfold p2
  cases h : x.testBit r with
  | true =>
    rw [bne_iff_ne]
    intro h0
    have h1 : x &&& 2 ^ r = 0 := by omega
    have h2 := congrArg (·.testBit r) h1
    simp [h] at h2
  | false =>
    have : x &&& 2 ^ r = 0 := by
      apply Nat.eq_of_testBit_eq
      intro i
      rw [Nat.testBit_and, Nat.testBit_two_pow, Nat.zero_testBit]
      by_cases hi : r = i
      · subst hi; rw [h]; rfl
      · simp [hi]
    rw [this]; rfl

/-- a call that answers words of its own -/
def RetWords (n : Nat) (xs : List Nat) (w : World) (e : Ending) (w' : World) : Prop :=
  ∃ g cap, e = .returned (.slice (some ⟨g, 0, none⟩) n cap) ∧ w'.ownsRow w.heap.size 92 1 (.slice (some ⟨g, 0, none⟩) n cap) n (xs.map u64v) ∧ Below w.heap.size w w'
set_option maxHeartbeats 400000 in
theorem clone_words (b off n c : Nat) (xs : List Nat) (w : World) (hr : Row w (some ⟨b, off, none⟩) n xs) (h0 : 0 < n) (hn : n ≤ 1073741824) :
    Calls Try.prog 76 #[.slice (some ⟨b, off, none⟩) n c] w (RetWords n xs w) := by
  obtain ⟨i0, hi, hz0, hz1, hz2⟩ := info_parts info_u64
  replace hi := Lib.hid hi
  replace hz0 := Lib.hid hz0
  replace hz1 := Lib.hid hz1
  replace hz2 := Lib.hid hz2
  have hlit : (w.alloc (.cells #[] 92)).ownsRow w.heap.size 92 1 (.slice (some ⟨w.heap.size, 0, none⟩) 0 0) 0 [] := by
    have h := World.ownsRow_lit (size := 1) (base := w.heap.size) (e := 92) w #[] 0 (Nat.le_refl _) (by omega) (by simp)
    simpa using h
  have hb0 : Below w.heap.size w (w.alloc (.cells #[] 92)) := below_alloc _ _
  have hrd : Rd (w.alloc (.cells #[] 92)) (some ⟨b, off, none⟩) n (xs.map u64v) := (hr.below hb0).1
  have h1 : ∀ u ∈ xs.map u64v, u.oneCell' = true := fun u hu => by
    obtain ⟨x, _, rfl⟩ := List.mem_map.1 hu; rfl
  clear hr
  have hnil : ∀ W : World, (binOp .eql 79 (.slice (some ⟨b, off, none⟩) n c) (.slice none 0 0)).run Try.prog W = .ok (.bool false) W := fun W => by kernel_rfl
  go_enter Try.func76, Try.ntmps76
  go_wp2_with (at_builtin; refine wpList_append_rd rfl (.tmp 5) (.tmp 6) _ rfl w.heap.size 92 i0 _ 8 Try.underlying79 hi.out hz0.out hz1.out hz2.out rfl _ 0 _ (by rfl) hlit _ n c _ rfl hrd h1 (by unfold maxLen; omega) (by omega) hb0.size ?_; intro v1 w1 hown1 hbb hform; simp only [Nat.zero_add, List.nil_append] at hown1 hform; have hb1 := hb0.trans hbb; obtain ⟨g, cap, rfl⟩ := hform h0; clear hbb hlit hb0 hrd hform)
  go_ret
  exact ⟨_, _, rfl, hown1, hb1⟩

/-- a call that answers rows of its own -/
def RetRowsO (xss : List (List Nat)) (w : World) (e : Ending) (w' : World) : Prop :=
  ∃ vs, e = .returned (.slice (some ⟨w.heap.size, 0, none⟩) xss.length xss.length) ∧ w'.ownsRow w.heap.size 79 1 (.slice (some ⟨w.heap.size, 0, none⟩) xss.length xss.length) xss.length vs ∧ OwnRows 92 w' (w.heap.size + 1) vs xss ∧ Below w.heap.size w w' ∧ w.heap.size + 1 ≤ w'.heap.size
set_option maxHeartbeats 1000000 in
theorem hull_copied (A : Option Addr) (n c : Nat) (a : List (List Nat)) (w : World) (hr : RowsAt w A n a) (hn : n ≤ 4096) (hl : ∀ (k : Nat) (xs : List Nat), a[k]? = some xs → 0 < xs.length ∧ xs.length ≤ 1024) :
    Calls Try.prog 55 #[.slice A n c] w (RetRowsO a w) := by
  have hlen := hr.len
  have hmk := mk_rows .i64 .i64 n n (Nat.le_refl _) (by omega)
  obtain ⟨W1, hW1⟩ : ∃ W1, W1 = w.alloc (.cells (zeros n (.slice none 0 0)) 79) := ⟨_, rfl⟩
  have ha1 : Below w.heap.size w W1 := by rw [hW1]; exact below_alloc _ _
  have hs1 : W1.heap.size = w.heap.size + 1 := by rw [hW1]; simp
  have hown0 : W1.ownsRow w.heap.size 79 1 (.slice (some ⟨w.heap.size, 0, none⟩) n n) n (filled [] n) := by
    have h := own_zeros w n (.slice none 0 0) 79 (by unfold maxLen; omega)
    rw [← hW1] at h
    rw [filled_nil]; exact h
  have hs1' := Lib.hid hs1
  replace hown0 := Lib.hid hown0
  replace ha1 := Lib.hid ha1
  replace hr := Lib.hid hr
  replace hl := Lib.hid hl
  replace hlen := Lib.hid hlen
  clear hs1
  go_enter Try.func55, Try.ntmps55
  go_wp2_with fail
  rw [← hW1]
  clear hW1 hmk
  go_loopw [11] (fun i wr => ∃ vs : List Value, vs.length ≤ n ∧ i = .int .i64 vs.length ∧ Hid (wr.ownsRow w.heap.size 79 1 (.slice (some ⟨w.heap.size, 0, none⟩) n n) n (filled vs n)) ∧ Hid (OwnRows 92 wr (w.heap.size + 1) vs (a.take vs.length)) ∧ Hid (Below w.heap.size w wr) ∧ Hid (w.heap.size + 1 ≤ wr.heap.size)) (fun i _ => n - (intOf i).toNat)
  case atStart => exact ⟨[], Nat.zero_le _, rfl, hown0, Lib.hid (OwnRows.nil _ _ _), ha1, Lib.hid (by rw [hs1'.out]; exact Nat.le_refl _)⟩
  case round =>
    obtain ⟨vs, hk, rfl, hown, hrows, hbr, hsr⟩ := hrel
    clear hown0 ha1
    obtain ⟨k, hke⟩ : ∃ k, k = vs.length := ⟨_, rfl⟩
    rw [← hke] at hk
    rw [← hke]
    by_cases hlt : k < n
    · have hke' := Lib.hid hke
      clear hke
      obtain ⟨b, off, B, m, d, xs, rfl, hbl, hx, hc, hxr⟩ := (hr.out.below hbr.out).at_ hlt
      have hm0 : 0 < m ∧ m ≤ 1024 := by have := hxr.len; have := hl.out k xs hx; omega
      obtain ⟨b2, off2, _, rfl, _, _, _, _⟩ := hxr.at_ hm0.1
      have hC := Lib.hid (clone_words b2 off2 m d xs wr hxr hm0.1 (by omega))
      have hx64 := Lib.hid hxr.2
      have hstep : Hid (a.take (k + 1) = a.take k ++ [xs]) := Lib.hid (by
        rw [List.take_succ_eq_append_getElem (List.getElem?_eq_some_iff.1 hx).1, (List.getElem?_eq_some_iff.1 hx).2])
      have hk0 : (0 : Int) ≤ (k : Int) := by omega
      have hkn : (k : Int) < (n : Int) := by omega
      clear hx hxr hm0
      go_wp2_with fail
      refine hC.out.mono ?_; rintro e w1 ⟨G, q, rfl, ho, hb1⟩
      have hown1 := own_below hown.out hb1
      have hget := filled_get (vs := vs) (n := n) (by rw [← hke'.out]; exact hlt)
      have hcg := hown1.cellAt k (by omega)
      rw [hke'.out, hget, ← hke'.out] at hcg
      have hfg := hown1.frozenAt k
      have hrows1 := Lib.hid (hrows.out.snoc hb1 ho hx64.out hsr.out)
      have hbr1 := Lib.hid (below_trans2 hbr.out hb1)
      have hsr1 := Lib.hid (Nat.le_trans hsr.out hb1.size)
      replace hown1 := Lib.hid hown1
      clear ho hget hown hrows hbr hsr hb1 hc
      go_wp2_with fail
      go_roundw
      case rel =>
        refine ⟨vs ++ [.slice (some ⟨G, 0, none⟩) m q], by have := hke'.out; simp; omega, by rw [List.length_append, ← hke'.out]; simp; try omega, ?_, ?_, ?_, ?_⟩
        · refine Lib.hid ?_
          rw [← filled_set (by rw [← hke'.out]; exact hlt), ← hke'.out]
          exact (hown1.out.stored k _).1
        · refine Lib.hid ?_
          have h := hrows1.out.far (p := ⟨w.heap.size, k, none⟩) (by simp) (.slice (some ⟨G, 0, none⟩) m q)
          rw [← hke'.out] at h
          rw [List.length_append, List.length_singleton, ← hke'.out, hstep.out]
          exact h
        · exact Lib.hid (hbr1.out.setCell (by simp) _)
        · exact Lib.hid (by simpa using hsr1.out)
      case measure => simp [intOf]; omega
    · obtain rfl : n = k := by omega
      have hvn := Lib.hid hke.symm
      clear hlt hke
      go_wp2_with fail
      go_ret
      refine ⟨vs, by rw [hlen.out]; rfl, ?_, ?_, hbr.out, hsr.out⟩
      · have h := hown.out
        rw [filled_all hvn.out] at h
        rw [hlen.out]; exact h
      · have h := hrows.out
        rw [hvn.out, List.take_of_length_le (by rw [hlen.out]; exact Nat.le_refl _)] at h
        exact h

/-- what 'join' does: the words of both, in the first one's place -/
def RetJoinIn (g base n c : Nat) (zs : List Nat) (w : World) (e : Ending) (w' : World) : Prop :=
  e = .returned (.tuple #[]) ∧ w'.ownsRow base 92 1 (.slice (some ⟨g, 0, none⟩) n c) n (zs.map u64v) ∧ OnlyAt g w w'
set_option maxHeartbeats 1000000 in
theorem hull_join (g base n c d : Nat) (B : Option Addr) (xs ys : List Nat) (w : World) (hown : w.ownsRow base 92 1 (.slice (some ⟨g, 0, none⟩) n c) n (xs.map u64v)) (hx : W64 xs) (hs : Row w B n ys)
    (hal : (∀ ad, B = some ad → ad.block ≠ g) ∨ (B = some ⟨g, 0, none⟩ ∧ ys = xs)) (hn : n ≤ 1073741824) :
    Calls Try.prog 57 #[.slice (some ⟨g, 0, none⟩) n c, .slice B n d] w (RetJoinIn g base n c (orR xs ys) w) := by
  have hl : xs.length = n := by have := hown.1; simpa using this
  have hl2 := hs.len
  have hd : ∀ k, xs.getD k 0 < 18446744073709551616 := fun k => getD_w64 hx k
  have hall : orK xs ys n = orR xs ys := by rw [← hl2]; exact orK_all xs ys (by omega)
  have hrow : ∀ (k : Nat) (W : World), W.ownsRow base 92 1 (.slice (some ⟨g, 0, none⟩) n c) n ((orK xs ys k).map u64v) → OnlyAt g w W → Row W B n ys := fun k W h1 h2 => by
    rcases hal with h | ⟨h, h'⟩
    · exact hs.only h2 h
    · subst h h'
      rw [orK_self] at h1
      exact Row.of_own h1 hx
  replace hrow := Lib.hid hrow
  replace hall := Lib.hid hall
  replace hd := Lib.hid hd
  replace hl := Lib.hid hl
  replace hown := Lib.hid hown
  clear hs hal hl2
  go_enter Try.func57, Try.ntmps57
  go_wp2_with fail
  go_loopw [8] (fun i wr => ∃ k : Nat, k ≤ n ∧ i = .int .i64 k ∧ Hid (wr.ownsRow base 92 1 (.slice (some ⟨g, 0, none⟩) n c) n ((orK xs ys k).map u64v)) ∧ Hid (OnlyAt g w wr)) (fun i _ => n - (intOf i).toNat)
  case atStart => exact ⟨0, Nat.zero_le _, rfl, Lib.hid (by rw [orK_zero]; exact hown.out), Lib.hid (OnlyAt.refl _ _)⟩
  case round =>
    obtain ⟨k, hk, rfl, hownr, hor⟩ := hrel
    clear hown
    by_cases hlt : k < n
    · obtain ⟨b, off, y, rfl, hbk, hy, hy64, hc⟩ := (hrow.out k wr hownr.out hor.out).at_ hlt
      have hgx := orK_get xs ys k (by rw [hl.out]; omega)
      have hx64 := hd.out k
      obtain ⟨x, hx'⟩ : ∃ x, x = xs.getD k 0 := ⟨_, rfl⟩
      rw [← hx'] at hgx hx64
      have hcg : wr.cell? ⟨g, k, none⟩ = some (.int .u64 (x : Int)) := by
        rw [hownr.out.cellAt _ (by omega), List.getElem?_map, hgx]; rfl
      have hf := hownr.out.frozenAt k
      have hE := Lib.hid (u64_or_nat x y hx64 hy64)
      have hst := orK_set xs ys k
      rw [← hx', Row.get hy] at hst
      replace hst := Lib.hid hst
      have hk0 : (0 : Int) ≤ (k : Int) := by omega
      have hkn : (k : Int) < (n : Int) := by omega
      clear hgx hy
      replace hx' := Lib.hid hx'
      go_wp2_with fail
      go_roundw
      case rel =>
        refine ⟨k + 1, by omega, by go_num, ?_, Lib.hid (hor.out.set k _)⟩
        refine Lib.hid ?_
        rw [hE.out, ← hst.out, List.map_set]
        exact (hownr.out.stored _ _).1
      case measure => simp [intOf]; omega
    · obtain rfl : k = n := by omega
      go_wp2_with fail
      go_end0
      exact ⟨rfl, by rw [← hall.out]; exact hownr.out, hor.out⟩

/-- what is known at each round: the rows of its own, in blocks of their own; the variables -/
def CloseI (w : World) (n : Nat) (A : Option Addr) (c : Nat) (vs : List Value) (xss : List (List Nat)) (wr : World) : Prop :=
  wr.ownsRow (w.heap.size + 2) 79 1 (.slice (some ⟨w.heap.size + 2, 0, none⟩) n n) n vs ∧ OwnRows 92 wr (w.heap.size + 3) vs xss ∧ MatB wr w.heap.size 35 n A n c ∧ MatB wr (w.heap.size + 1) 35 0 none 0 0 ∧ Below w.heap.size w wr
theorem CloseI.join {w : World} {n : Nat} {A : Option Addr} {c : Nat} {vs : List Value} {xss : List (List Nat)} {wr w' : World} (h : CloseI w n A c vs xss wr) {i g m d : Nat} {ys : List Nat} (hv : vs[i]? = some (.slice (some ⟨g, 0, none⟩) m d))
    (hg : w.heap.size + 3 ≤ g) (ho : OnlyAt g wr w') (hy : w'.ownsRow (w.heap.size + 3) 92 1 (.slice (some ⟨g, 0, none⟩) m d) m (ys.map u64v)) (hw : W64 ys) : CloseI w n A c vs (xss.set i ys) w' := by
  obtain ⟨h1, h2, h3, h4, h5⟩ := h
  exact ⟨own_only h1 ho (by simp [Value.ownBlock]; omega), h2.joined hv ho hy hw, Blk.only h3 ho (by omega), Blk.only h4 ho (by omega), below_only h5 ho (by omega)⟩
set_option maxRecDepth 100000 in
set_option maxHeartbeats 2000000 in
theorem hull_Close (A : Option Addr) (n c : Nat) (a : List (List Nat)) (w : World) (hr : RowsAt w A n a) (hG : Good n a) :
    Calls Try.prog 32 #[.agg #[.int .i64 (n : Int), .slice A n c]] w (RetMat1 (n : Int) (closeK a n) w) := by
  have hal : a.length = n := hG.len
  have hnn : n ≤ 4096 := hG.le
  obtain ⟨W0, hW0⟩ : ∃ W0, W0 = (w.alloc (.cells #[.int .i64 n, .slice A n c] 35)).alloc (.cells #[.int .i64 0, .slice none 0 0] 35) := ⟨_, rfl⟩
  have ha : Below w.heap.size w W0 := by rw [hW0]; exact ((Below.refl _ _).alloc (Nat.le_refl _) _).alloc (by simp) _
  have hB1 : MatB W0 w.heap.size 35 n A n c := by rw [hW0]; exact (MatB.new w _).below_ (below_alloc _ _)
  have hB2 : MatB W0 (w.heap.size + 1) 35 0 none 0 0 := by rw [hW0]; exact MatB.new1 w _ _
  have hs0 : W0.heap.size = w.heap.size + 2 := by rw [hW0]; simp
  have l0 := hB1.c0
  have l1 := hB1.c1
  have hcop := hull_copied A n c a W0 (hr.below ha) hnn (fun k xs hx => by
    have h1 := hG.row xs (List.mem_of_getElem? hx)
    have h2 := hG.small xs (List.mem_of_getElem? hx)
    have h3 : 0 < n := by have := (List.getElem?_eq_some_iff.1 hx).1; omega
    omega)
  unfold RetRowsO at hcop
  rw [hal, hs0] at hcop
  replace hcop := Lib.hid hcop
  replace ha := Lib.hid ha
  replace hB1 := Lib.hid hB1
  replace hB2 := Lib.hid hB2
  replace hs0 := Lib.hid hs0
  replace hal := Lib.hid hal
  have hK := Lib.hid (fun k hk => closeK_facts hG k hk)
  replace hG := Lib.hid hG
  clear hr
  go_enter Try.func32, Try.ntmps32
  go_wp2_with fail
  rw [← hW0]
  clear hW0
  go_wp2_with fail
  refine hcop.out.mono ?_; rintro e w1 ⟨vs, rfl, ho1, ho2, hb1, hs1⟩
  have hI : Hid (CloseI w n A c vs a w1) := Lib.hid ⟨ho1, ho2, hB1.out.below_ (hb1.mono (by rw [hs0.out]; exact Nat.le_refl _)), hB2.out.below_ (hb1.mono (by rw [hs0.out]; exact Nat.le_refl _)), ha.out.trans (hb1.mono (by omega))⟩
  have hvl : vs.length = n := by have := ho1.1; simpa using this
  replace hvl := Lib.hid hvl
  clear ho1 ho2 hb1 hs1 hcop hB1 hB2 ha l0 l1
  go_wp2_with fail
  go_loopw [15] (fun i wr => ∃ k : Nat, k ≤ n ∧ i = .int .i64 k ∧ Hid (CloseI w n A c vs (closeK a k) wr)) (fun i _ => n - (intOf i).toNat)
  case atStart => exact ⟨0, Nat.zero_le _, rfl, hI⟩
  case round =>
    obtain ⟨k, hk, rfl, hIr⟩ := hrel
    clear hI
    by_cases hlt : k < n
    · have hGk := (hK.out k hk).1
      obtain ⟨rk, hrk, hwk, hlk⟩ := hGk.at_ hlt
      obtain ⟨vk, hvk⟩ : ∃ v, vs[k]? = some v := ⟨_, List.getElem?_eq_getElem (by rw [hvl.out]; exact hlt)⟩
      obtain ⟨Ak, mk, dk, rfl, hok, _⟩ := hIr.out.2.1.2.1 k vk rk hvk hrk
      have hmk : rk.length = mk := by have := hok.1; simpa using this
      obtain ⟨gk, hgk0, rfl⟩ : ∃ gk, w.heap.size + 3 ≤ gk ∧ Ak = some ⟨gk, 0, none⟩ := by
        obtain ⟨g, cap, hv, _⟩ := hok.form (by omega)
        injection hv with hv
        subst hv
        exact ⟨g, own_lt_block hok g rfl, rfl⟩
      have hmk1 : mk ≤ 64 := by have := hGk.small rk (List.mem_of_getElem? hrk); omega
      have hkm : k / 64 < mk := by omega
      have hpl := Lib.hid (fun W => hull_place k (by omega) W)
      have hck := hIr.out.1.cellAt k (by omega)
      rw [hvk] at hck
      have hk0 : (0 : Int) ≤ (k : Int) := by omega
      have hkn : (k : Int) < (n : Int) := by omega
      replace hGk := Lib.hid hGk
      replace hrk := Lib.hid hrk
      replace hvk := Lib.hid hvk
      replace hmk := Lib.hid hmk
      clear hok hwk hlk
      go_wp2_with fail
      refine (hpl.out wr).mono ?_; rintro e w' ⟨rfl, rfl⟩
      clear hpl
      go_wp2_with fail
      clear hck
      go_loopw [27] (fun i wi => ∃ q : Nat, q ≤ n ∧ i = .int .i64 q ∧ Hid (CloseI w n A c vs (stepM (closeK a k) k q) wi)) (fun i _ => n - (intOf i).toNat)
      case atStart => exact ⟨0, Nat.zero_le _, rfl, Lib.hid (by rw [stepM_zero]; exact hIr.out)⟩
      case round =>
        obtain ⟨q, hq, rfl, hIq⟩ := hrel
        clear hIr
        by_cases hlq : q < n
        · obtain ⟨r, hrq, hwq, hlq2⟩ := hGk.out.at_ hlq
          have hrs : (stepM (closeK a k) k q)[q]? = some r := by rw [stepM_get hrq, if_neg (Nat.lt_irrefl _)]
          obtain ⟨v, hv⟩ : ∃ v, vs[q]? = some v := ⟨_, List.getElem?_eq_getElem (by rw [hvl.out]; exact hlq)⟩
          obtain ⟨Aq, m, d, rfl, hoq, _⟩ := hIq.out.2.1.2.1 q v r hv hrs
          have hmq : r.length = m := by have := hoq.1; simpa using this
          obtain ⟨g, hg0, rfl⟩ : ∃ g, w.heap.size + 3 ≤ g ∧ Aq = some ⟨g, 0, none⟩ := by
            obtain ⟨g, cap, hv, _⟩ := hoq.form (by omega)
            injection hv with hv
            subst hv
            exact ⟨g, own_lt_block hoq g rfl, rfl⟩
          have hmm : m = mk := by
            have h1 := (hGk.out.row r (List.mem_of_getElem? hrq)).2.2.1
            have h2 := (hGk.out.row rk (List.mem_of_getElem? hrk.out)).2.2.1
            have := hmk.out
            omega
          subst hmm
          have hcq := hIq.out.1.cellAt q (by omega)
          rw [hv] at hcq
          obtain ⟨x, hx⟩ : ∃ x, r[k / 64]? = some x := ⟨_, List.getElem?_eq_getElem (by omega)⟩
          have hx64 := hwq x (List.mem_of_getElem? hx)
          have hcx : wr.cell? ⟨g, k / 64, none⟩ = some (.int .u64 (x : Int)) := by
            rw [hoq.cellAt _ (by omega), List.getElem?_map, hx]; rfl
          have hbit := and_p2 x (k % 64) hx64 (by omega)
          have hbh : x.testBit (k % 64) = hasR r (k : Int) := by rw [hasR_nat, Row.get hx]
          rw [hbh] at hbit
          have hsucc := stepM_succ (k := k) hrq
          have hq0 : (0 : Int) ≤ (q : Int) := by omega
          have hqn : (q : Int) < (n : Int) := by omega
          have hp0 : (0 : Int) ≤ ((k / 64 : Nat) : Int) := by omega
          have hpm : ((k / 64 : Nat) : Int) < (m : Int) := by omega
          have hp1 : (((k / 64 : Nat) : Int)).toNat = k / 64 := by omega
          cases hh : hasR r (k : Int) with
          | false =>
            rw [hh] at hbit
            have hst : Hid (stepM (closeK a k) k (q + 1) = stepM (closeK a k) k q) := Lib.hid (by
              rw [hsucc]
              unfold stepR
              rw [hh]
              simp only [Bool.false_eq_true, if_false]
              exact set_self hrs)
            clear hsucc hh hbh hx hrs hrq hv hoq hwq
            go_wp2_with fail
            go_roundw
            case rel => exact ⟨q + 1, by omega, by go_num, Lib.hid (by rw [hst.out]; exact hIq.out)⟩
            case measure => simp [intOf]; omega
          | true =>
            rw [hh] at hbit
            have hth : (stepM (closeK a k) k q)[k]? = some rk := stepM_through hrk.out
            obtain ⟨_, _, _, e1, hok2, _⟩ := hIq.out.2.1.2.1 k _ rk hvk.out hth
            cases e1
            have hrow := Row.of_own hok2 (hGk.out.row rk (List.mem_of_getElem? hrk.out)).1
            have hst : Hid (stepM (closeK a k) k (q + 1) = (stepM (closeK a k) k q).set q (orR r rk)) := Lib.hid (by
              rw [hsucc]
              unfold stepR
              rw [hh, if_pos rfl, getD_at hrk.out])
            have hw2 := Lib.hid (orR_w64 hwq (hGk.out.row rk (List.mem_of_getElem? hrk.out)).1)
            have hj := Lib.hid (hull_join g (w.heap.size + 3) m d dk (some ⟨gk, 0, none⟩) r rk wr hoq hwq hrow (by
              by_cases hqk : q = k
              · subst hqk
                rw [hv] at hvk
                have h1 := hvk.out
                injection h1 with h1
                injection h1 with h1 h2 h3
                refine .inr ⟨h1.symm, ?_⟩
                have h2 := hrk.out
                rw [hrq] at h2
                injection h2 with h2
                exact h2.symm
              · refine .inl (fun ad e => ?_)
                injection e with e
                subst e
                intro hgg
                have hgg' : gk = g := hgg
                subst hgg'
                exact hIq.out.2.1.2.2 q k _ _ gk hqk hv hvk.out rfl rfl) (by omega))
            replace hv := Lib.hid hv
            clear hsucc hh hbh hx hrs hrq hoq hwq hok2 hrow hth
            go_wp2_with fail
            refine hj.out.mono ?_; rintro e w2 ⟨rfl, hy, ho⟩
            have hI2 := Lib.hid (hIq.out.join hv.out hg0 ho hy hw2.out)
            clear hy ho hIq hj hcq hcx
            go_wp2_with fail
            go_roundw
            case rel => exact ⟨q + 1, by omega, by go_num, Lib.hid (by rw [hst.out]; exact hI2.out)⟩
            case measure => simp [intOf]; omega
        · obtain rfl : q = n := by omega
          have hI2 : Hid (CloseI w q A c vs (closeK a (k + 1)) wr) := Lib.hid (by
            show CloseI w q A c vs (stepM (closeK a k) k a.length) wr
            rw [hal.out]; exact hIq.out)
          clear hIq
          go_wp2_with fail
          go_roundw
          case rel => exact ⟨k + 1, by omega, by go_num, hI2⟩
          case measure => simp [intOf]; omega
    · obtain rfl : k = n := by omega
      obtain ⟨h1, h2, h3, h4, h5⟩ := hIr.out
      have l0 := h3.c0
      have f0 := h4.c0
      have f1 := h4.c1
      have g0 := h4.frozen 0
      have g1 := h4.frozen 1
      replace h1 := Lib.hid h1
      replace h2 := Lib.hid h2
      replace h3 := Lib.hid h3
      replace h4 := Lib.hid h4
      replace h5 := Lib.hid h5
      clear hIr
      go_wp2_with fail
      have hcc := h4.out.two (.int .i64 k) (.slice (some ⟨w.heap.size + 2, 0, none⟩) k k)
      have hc1 := hcc.1
      have hc2 := hcc.2
      clear hcc f0 f1 g0 g1 l0
      refine bodyPost_ret (v := .agg #[.int .i64 k, .slice (some ⟨w.heap.size + 2, 0, none⟩) k k]) (by simp [results, Try.results32, go_sem, hc1, hc2]) rfl ⟨_, _, _, rfl, ⟨vs, ?_, ?_⟩, Nat.le_refl _, ?_⟩
      · exact Rd.of_own' (own_far (own_far h1.out (p := ⟨w.heap.size + 1, 0, none⟩) (by simp [Value.ownBlock]) _) (p := ⟨w.heap.size + 1, 1, none⟩) (by simp [Value.ownBlock]) _)
      · exact ((h2.out.far (p := ⟨w.heap.size + 1, 0, none⟩) (by simp) _).far (p := ⟨w.heap.size + 1, 1, none⟩) (by simp) _).rows
      · exact (h5.out.setCell (by simp) _).setCell (by simp) _

end Go.Proofs.Ytpbiilhclmcehaa

namespace Go.Proofs.Ytpbiilhclmcehaa
open Go.RowKit
set_option linter.unusedVariables false
theorem PairsAt.of_blk17 {w : World} {g n : Nat} {t : TypeId} {ps : List (Int × Int)} (h : Blk w g t (cellsP ps)) (hl : ps.length = n) (ho : OkI ps) : PairsAt w (some ⟨g, 0, none⟩) n ps :=
  ⟨hl, ho, fun _ => ⟨g, 0, rfl, h.lt, fun j p hp => by
    obtain ⟨h1, h2⟩ := cellsP_get ps j p hp
    exact ⟨by rw [Nat.zero_add, h.cell]; exact h1, by rw [Nat.zero_add, h.cell]; exact h2⟩⟩⟩
theorem cells2_zero (n : Nat) : (madeCells #[.int .i64 0, .int .i64 0] (n * 2)).toList = List.replicate (n * 2) (.int .i64 0) := by
  have hz : (#[.int .i64 0, .int .i64 0] : Array Value) = Array.replicate 2 (.int .i64 0) := rfl
  rw [hz]
  unfold madeCells
  rw [Array.toList_map, Array.toList_range, Array.size_replicate]
  apply List.ext_getElem (by simp)
  intro i h1 h2
  rw [List.getElem_map, List.getElem_range, List.getElem_replicate, getElem!_pos _ _ (by rw [Array.size_replicate]; omega), Array.getElem_replicate]
/-- the pairs of the first i conflicts, then zeros: the cells of n pairs -/
def ppC (es : List Ed) (n i : Nat) : List Value := cellsP (edP (es.take i)) ++ List.replicate ((n - i) * 2) (.int .i64 0)
theorem ppC_zero (es : List Ed) (n : Nat) : ppC es n 0 = List.replicate (n * 2) (.int .i64 0) := by unfold ppC; simp [edP, cellsP]
theorem ppC_all {es : List Ed} {n : Nat} (h : es.length = n) : ppC es n n = cellsP (edP es) := by unfold ppC; rw [List.take_of_length_le (by omega)]; simp
theorem edP_snoc {es : List Ed} {i : Nat} {x : Ed} (h : es[i]? = some x) : edP (es.take (i + 1)) = edP (es.take i) ++ [(x.w1, x.w2)] := by
  unfold edP; rw [List.take_add_one, h, List.map_append]; rfl
theorem ppC_at {es : List Ed} {n i : Nat} (hi : i < n) (hl : es.length = n) : (ppC es n i)[i * 2]? = some (.int .i64 0) ∧ (ppC es n i)[i * 2 + 1]? = some (.int .i64 0) := by
  have hL : (cellsP (edP (es.take i))).length = i * 2 := by rw [cellsP_len]; unfold edP; rw [List.length_map, List.length_take]; congr 1; omega
  unfold ppC
  constructor
  · rw [List.getElem?_append_right (by omega), hL, List.getElem?_replicate, if_pos (by omega)]
  · rw [List.getElem?_append_right (by omega), hL, List.getElem?_replicate, if_pos (by omega)]
theorem ppC_step {es : List Ed} {n i : Nat} {x : Ed} (hi : i < n) (hl : es.length = n) (h : es[i]? = some x) : ((ppC es n i).set (i * 2) (.int .i64 x.w1)).set (i * 2 + 1) (.int .i64 x.w2) = ppC es n (i + 1) := by
  have hL : (cellsP (edP (es.take i))).length = i * 2 := by rw [cellsP_len]; unfold edP; rw [List.length_map, List.length_take]; congr 1; omega
  unfold ppC
  obtain ⟨k, hk⟩ : ∃ k, n - i = k + 1 := ⟨n - i - 1, by omega⟩
  rw [edP_snoc h, cellsP_snoc, hk, show n - (i + 1) = k by omega, show (k + 1) * 2 = k * 2 + 1 + 1 by omega, List.replicate_succ, List.replicate_succ]
  rw [List.set_append_right _ _ (by omega), hL, Nat.sub_self, List.set_cons_zero, List.set_append_right _ _ (by omega), hL, show i * 2 + 1 - i * 2 = 1 by omega]
  simp
theorem edP_len (es : List Ed) : (edP es).length = es.length := by unfold edP; rw [List.length_map]
/-- a call's answer: the pairs of conflicts -/
def RetPP (es : List Ed) (w : World) (e : Ending) (w' : World) : Prop := ∃ A c, e = .returned (.slice A es.length c) ∧ PairsAt w' A es.length (edP es) ∧ Below w.heap.size w w'
theorem mk_pairsN (kl kc : IntKind) (n : Nat) (hc : n ≤ 1099511627776) (W : World) :
    (Instr.makeSlice 69 (.int kl (n : Int)) (.int kc (n : Int))).run Try.prog W = .ok (.slice (some ⟨W.heap.size, 0, none⟩) n n) (W.alloc (.cells (madeCells #[.int .i64 0, .int .i64 0] (n * 2)) 87)) := by
  obtain ⟨i, hi, hz0, hz1, hz2⟩ := info_parts info_pair
  have hr := run_make (P := Try.prog) W _ _ i _ Try.underlying69 hi hz0 kl kc n n (by omega) (by omega) (by rw [hz2]; omega) (by omega)
  rw [hr, hz1]
  rfl
set_option maxRecDepth 100000 in
set_option maxHeartbeats 2000000 in
theorem clash_pairs (E : Option Addr) (n c : Nat) (es : List Ed) (w : World) (hL : LAt encE w E n es) (hn : n ≤ 1048576) :
    Calls Try.prog 30 #[.slice E n c] w (RetPP es w) := by
  have hel := Lib.hid hL.len
  have hokI : Hid (OkI (edP es)) := Lib.hid (fun p hp => by
    unfold edP at hp
    obtain ⟨x, hx, rfl⟩ := List.mem_map.1 hp
    have h : Ed.Ok x := hL.okAll x hx
    exact ⟨⟨h.a0, h.a1⟩, ⟨h.b0, h.b1⟩⟩)
  replace hL := Lib.hid hL
  have mkP := mk_pairsN .i64 .i64 n (by omega)
  obtain ⟨gl, hgl⟩ : ∃ g, g = w.heap.size := ⟨_, rfl⟩
  obtain ⟨W1, hW1⟩ : ∃ W, W = w.alloc (.cells (madeCells #[.int .i64 0, .int .i64 0] (n * 2)) 87) := ⟨_, rfl⟩
  have k1 := Lib.hid (show Blk W1 gl 87 (ppC es n 0) from by
    rw [hW1, hgl, ppC_zero, ← cells2_zero]
    exact Blk.new w _ _)
  have b1 := Lib.hid (show Below w.heap.size w W1 from by rw [hW1]; exact below_alloc _ _)
  have hgw := Lib.hid (show w.heap.size ≤ gl by omega)
  go_enter Try.func30, Try.ntmps30
  go_wp2_with (rw [← hW1, ← hgl]; clear hW1; replace hgl := Lib.hid hgl)
  clear mkP
  go_loopw [11] (fun t wr => ∃ i : Nat, i ≤ n ∧ t = .int .i64 (i : Int) ∧ Hid (Below w.heap.size w wr) ∧ Hid (Blk wr gl 87 (ppC es n i))) (fun t _ => n - (intOf t).toNat)
  case atStart => exact ⟨0, Nat.zero_le _, rfl, b1, k1⟩
  case round =>
    obtain ⟨i, hi, rfl, hb, hk⟩ := hrel
    by_cases hlt : i < n
    · have hlt' : (i : Int) < (n : Int) := by omega
      have k0 : 0 ≤ (i : Int) ∧ (i : Int) < (n : Int) := ⟨by omega, hlt'⟩
      obtain ⟨eb, eo, x, rfl, heb, hx, hxo, x0, x1, x2⟩ := (hL.out.below hb.out).edge hlt
      obtain ⟨gx, hgx⟩ : ∃ g, g = wr.heap.size := ⟨_, rfl⟩
      obtain ⟨W3, hW3⟩ : ∃ W, W = wr.alloc (.cells #[.int .i64 x.w1, .int .i64 x.w2, .int .i64 x.rd] 46) := ⟨_, rfl⟩
      have b3 : Below wr.heap.size wr W3 := by rw [hW3]; exact (Below.refl _ _).alloc (Nat.le_refl _) _
      have hX3 := show Blk W3 gx 46 [.int .i64 x.w1, .int .i64 x.w2, .int .i64 x.rd] from by rw [hW3, hgx]; exact Blk.new wr _ _
      have hk3 := hk.out.below b3 hk.out.lt
      have hb3 := Lib.hid (below_trans2 hb.out b3)
      have y0 := hX3.cell 0
      have y1 := hX3.cell 1
      simp only [List.getElem?_cons_zero, List.getElem?_cons_succ] at y0 y1
      have z0 := (hk3.cell (i * 2)).trans (ppC_at hlt hel.out).1
      have z1 := (hk3.cell (i * 2 + 1)).trans (ppC_at hlt hel.out).2
      have f0 := hk3.frozen (i * 2)
      have f1 := hk3.frozen (i * 2 + 1)
      have hst := Lib.hid (ppC_step hlt hel.out hx)
      have hk4 := Lib.hid ((hk3.set_ (i * 2) (.int .i64 x.w1)).set_ (i * 2 + 1) (.int .i64 x.w2))
      have hb4 := Lib.hid ((hb3.out.setCell (p := ⟨gl, i * 2, none⟩) hgw.out (.int .i64 x.w1)).setCell (p := ⟨gl, i * 2 + 1, none⟩) hgw.out (.int .i64 x.w2))
      replace hx := Lib.hid hx
      clear hlt heb hX3 hk3
      go_wp2_with (rw [← hW3, ← hgx]; clear hW3 hgx b3 x0 x1 x2)
      exact ⟨⟨i + 1, by omega, by go_num, hb4, Lib.hid (by rw [← hst.out]; exact hk4.out)⟩, by simp [intOf]; omega⟩
    · have hin : i = n := by omega
      subst hin
      have hlt' : ¬ (i : Int) < (i : Int) := by omega
      have hP := Lib.hid (PairsAt.of_blk17 (n := es.length) (by rw [← ppC_all hel.out]; exact hk.out) (edP_len es) hokI.out)
      clear hlt
      go_wp2_with fail
      go_ret
      exact ⟨_, i, by rw [hel.out]; rfl, hP.out, hb.out⟩
theorem cut_nine17 {T1 T2 T3 T4 T5 T6 T7 T8 T9 : Type} {Goal F : T1 → T2 → T3 → T4 → T5 → T6 → T7 → T8 → T9 → Prop} {R : Prop} (h1 : (∀ a b c d e f g h i, F a b c d e f g h i → Goal a b c d e f g h i) → R) (h2 : ∀ a b c d e f g h i, F a b c d e f g h i → Goal a b c d e f g h i) : R := h1 h2
theorem cf_of {f : Fac} {M : List (List Nat)} (h : f.items.length ≤ 4096) : ofN (f.items.length : Int) (edP (edgesF f M)) = (f.items.length : Int) ∧ ofM (f.items.length : Int) (edP (edgesF f M)) = foldP f.items.length (edP (edgesF f M)) ∧ ofE (f.items.length : Int) (edP (edgesF f M)) = 0 := by
  have h0 : ofOk (f.items.length : Int) (edP (edgesF f M)) = true := by
    unfold ofOk
    rw [Bool.and_eq_true, List.all_eq_true]
    exact ⟨belowZ_yes (by omega) (by omega), fun p hp => edP_ok p hp⟩
  exact ⟨by unfold ofN; rw [if_pos h0], by unfold ofM; rw [if_pos h0]; rfl, by unfold ofE; rw [if_pos h0]⟩
set_option maxRecDepth 100000 in
set_option maxHeartbeats 4000000 in
theorem clash_Cf (v : FV) (f : Fac) (A : Option Addr) (c : Nat) (a : List (List Nat)) (w : World) (hF : FactsAt w v f) (hr : RowsAt w A v.m a) (hG : Good v.m a) (hm : v.m < 64) (hvc : v.m ≤ c) (hw : WholeF f) (hfr : f.frm = fromF f.items) :
    Calls Try.prog 10 #[.agg #[.slice v.A v.n v.c, .slice v.B v.m v.d, .slice v.C v.k v.e], .agg #[.int .i64 (v.m : Int), .slice A v.m c]] w (RetMat (cfN f a) (cfR f a) (cfE f a) w) := by
  have hil := hF.is.len
  have hG' : Good f.items.length a := by rw [hil]; exact hG
  have cE := Lib.hid (fun W hW hR => clash_Edges v f A c a W hW hR hG hm hvc hw hfr)
  have hel : Hid ((edgesF f a).length ≤ 1048576) := Lib.hid (by
    have h1 := eA_len f a f.items.length f.items.length
    have q1 : f.items.length * (f.items.length * f.items.length) ≤ 64 * (64 * 64) := Nat.mul_le_mul (by omega) (Nat.mul_le_mul (by omega) (by omega))
    have hEq : edgesF f a = eA f a f.items.length f.items.length := rfl
    rw [hEq]; omega)
  obtain ⟨o1, o2, o3⟩ := cf_of (f := f) (M := a) (by omega)
  obtain ⟨gP, hor⟩ := or_pairs hG'
  rw [hil] at o1 o2 o3 gP hor
  obtain ⟨pm, hpm⟩ : ∃ m, m = foldP v.m (edP (edgesF f a)) := ⟨_, rfl⟩
  rw [← hpm] at o2 gP hor
  have hpl := Lib.hid gP.len
  have hposP := Lib.hid (fun h0 => rows_len_pos gP h0)
  have hsl := Lib.hid (hG.same_len gP)
  have gX : Good v.m (cfX f a) := by have := cfX_good hG'; rwa [hil] at this
  have hXl := Lib.hid gX.len
  have hposX := Lib.hid (fun h0 => rows_len_pos gX h0)
  have gC : Good v.m (cfM f a) := by have := (cfM_hull hG').1; rwa [hil] at this
  have hCl := Lib.hid gC.len
  have hposC := Lib.hid (fun h0 => rows_len_pos gC h0)
  have hCs := Lib.hid (fun xs (hx : xs ∈ cfM f a) => Nat.le_trans (gC.small xs hx) (show 64 ≤ 1024 by omega))
  have hcm : closeK (cfX f a) v.m = cfM f a := by unfold cfM; rw [hil]
  have cO := Lib.hid (fun A n W hp => (mat_Of (v.m : Int) A (edgesF f a).length n (edP (edgesF f a)) W hp (by have := hel.out; omega)))
  rw [o1, o2, o3] at cO
  have hres : Hid (cfO f a = loopB v.m (cfM f a) ∧ cfN f a = (if cfO f a = true then 0 else (v.m : Int))) := Lib.hid (by unfold cfO cfN; rw [hil]; exact ⟨rfl, by unfold cfO; rw [hil]⟩)
  clear o1 o2 o3 hpm hG' hw hfr
  replace hG := Lib.hid hG
  replace gX := Lib.hid gX
  replace hor := Lib.hid hor
  replace hcm := Lib.hid hcm
  clear gP gC hil
  -- a call with facts v and the matrix (A v.m c a), hr : RowsAt w ..: boxed at g (W0), gm (W1): hB1, hM1
  -- a call with facts v: they are boxed at g, the world is W0 then
  have hB0 := Lib.hid (FBox.new hF)
  obtain ⟨g, hg⟩ : ∃ g, g = w.heap.size := ⟨_, rfl⟩
  obtain ⟨W0, hW0⟩ : ∃ W, W = w.alloc (.cells #[.slice v.A v.n v.c, .slice v.B v.m v.d, .slice v.C v.k v.e] 30) := ⟨_, rfl⟩
  rw [← hW0, ← hg] at hB0
  clear hF
  replace hr := hr.below hB0.out.o
  have hM1 := Lib.hid (MatK.new (N := (v.m : Int)) (c := c) W0 35 hr)
  obtain ⟨gm, hgm⟩ : ∃ g, g = W0.heap.size := ⟨_, rfl⟩
  obtain ⟨W1, hW1⟩ : ∃ W, W = W0.alloc (.cells #[.int .i64 (v.m : Int), .slice A v.m c] 35) := ⟨_, rfl⟩
  rw [← hW1, ← hgm] at hM1
  have hB1 := Lib.hid (hB0.out.later (show Below W0.heap.size W0 W1 from by rw [hW1]; exact below_alloc _ _))
  clear hr hB0
  obtain ⟨gr, hgr⟩ : ∃ g, g = W1.heap.size := ⟨_, rfl⟩
  obtain ⟨W2, hW2⟩ : ∃ W, W = W1.alloc (.cells #[.int .i64 0, .slice none 0 0] 35) := ⟨_, rfl⟩
  have b2 : Below W1.heap.size W1 W2 := by rw [hW2]; exact below_alloc _ _
  have hB2 := Lib.hid (hB1.out.later b2)
  have hM2 := Lib.hid (hM1.out.below b2)
  have kR : MatB W2 gr 35 0 none 0 0 := by rw [hW2, hgr]; exact MatB.new W1 _
  have hgw := Lib.hid (show w.heap.size ≤ gr from by rw [hgr]; exact hB1.out.o.size)
  clear hM1 hB1 b2
  go_enter Try.func10, Try.ntmps10
  go_wp2_with (first | (rw [← hW0, ← hg]; clear hW0 hg) | (rw [← hW1, ← hgm]; clear hW1 hgm) | (rw [← hW2, ← hgr]; clear hW2; replace hgr := Lib.hid hgr))
  refine wp_region_tree (.flt 0 (.flt 1 (.flt 2 (.flt 3 (.two 4 10 (.two 5 10 (.two 6 10 (.flt 7 (.flt 8 (.flt 9 (.one 10 (.one 11 (.flt 12 .done)))))) (.one 6 (.flt 7 (.flt 8 (.flt 9 (.one 11 (.flt 12 .done))))))) (.one 5 (.one 6 (.flt 7 (.flt 8 (.flt 9 (.one 11 (.flt 12 .done)))))))) (.one 4 (.one 5 (.one 6 (.flt 7 (.flt 8 (.flt 9 (.one 11 (.flt 12 .done))))))))))))) (by kernel_rfl) (by kernel_rfl) (fun U hU => ?_)
  have hU' : Below W2.heap.size W2 U := by rw [hU.out]; exact (Below.refl _ _).drew
  have hkR := Lib.hid (kR.below_ hU')
  have hBU := Lib.hid (hB2.out.later hU')
  have hMU := Lib.hid (hM2.out.below hU')
  clear hU hU' kR hB2 hM2
  have bW : Below U.heap.size U U := Below.refl _ _
  have p0 := hBU.out.c0
  have p1 := hBU.out.c1
  have p2 := hBU.out.c2
  have m0 := hMU.out.1.c0
  have m1 := hMU.out.1.c1
  iterate 4
    refine wpPT_float (v := ?_) rfl (by rfl) (fun w' hw' => ?_) (fun K hK => ?_)
    rotate_left
    · (go_simp; try with_reducible rfl)
    go_simp
    refine hK _ ?_
    clear hK K
  clear p0 p1 p2 m0 m1
  apply cut_nine17 (F := fun M A3 c3 wz (E1 : Option Addr) (ne ce : Nat) (D1 : Option Addr) (cd : Nat) => MatK wz M 35 (v.m : Int) A3 v.m c3 pm ∧ v.m ≤ c3 ∧ Below U.heap.size U wz)
  · intro key
    refine wpPT_two rfl (by rfl) rfl (by rfl) (fun K hK => ?_) (fun K hK => ?_)
    · skip
      -- the conflicts: in the world U, to v1
      go_simp
      refine (cE.out U (hBU.out.later bW).f (hMU.out.2.below bW)).mono ?_; rintro e v1 ⟨E1, ne, ce, rfl, r1, -, -, b⟩
      replace bW := below_trans2 bW b
      refine hK _ _ bW ?_
      clear hK K
      clear b
      refine wpPT_two rfl (by rfl) rfl (by rfl) (fun K hK => ?_) (fun K hK => ?_)
      · skip
        -- their pairs
        have cQ := Lib.hid (clash_pairs E1 ne ce (edgesF f a) v1 r1 (by rw [← r1.len]; exact hel.out))
        go_simp
        refine cQ.out.mono ?_; rintro e v2 ⟨D1, cd, rfl, r2, b⟩
        replace bW := below_trans2 bW b
        refine hK _ _ bW ?_
        clear hK K cQ r1
        clear b
        refine wpPT_two rfl (by rfl) rfl (by rfl) (fun K hK => ?_) (fun K hK => ?_)
        · skip
          -- the matrix of them
          have cR := Lib.hid (cO.out D1 cd v2 r2)
          go_simp
          refine cR.out.mono ?_; rintro e v3 ⟨A3, n3, c3, rfl, r3, hc3, b⟩
          obtain rfl : n3 = v.m := by rw [← r3.len]; exact hpl.out
          replace bW := below_trans2 bW b
          refine hK _ _ bW ?_
          clear hK K cR r2
          clear b
          iterate 3
            refine wpPT_float (v := ?_) rfl (by rfl) (fun w' hw' => ?_) (fun K hK => ?_)
            rotate_left
            · (go_simp; try with_reducible rfl)
            go_simp
            refine hK _ ?_
            clear hK K
          refine wpPT_one rfl (by rfl) (fun K hK => ?_)
          go_simp
          obtain ⟨M, hM⟩ : ∃ M, M = (World.heap v3).size := ⟨_, rfl⟩
          obtain ⟨v4, hw⟩ : ∃ X : World, X = World.alloc v3 (.cells #[.int .i64 0, .slice none 0 0] 35) := ⟨_, rfl⟩
          rw [← hw, ← hM]
          have b : Below (World.heap v3).size v3 v4 := by rw [hw]; exact below_alloc _ _
          have hUM : U.heap.size ≤ M := by rw [hM]; exact bW.size
          replace bW := below_trans2 bW b
          refine hK _ _ bW ?_
          clear hK K
          have kM := Lib.hid (show MatB v4 M 35 0 none 0 0 from by rw [hw, hM]; exact MatB.new _ _)
          have hne : 0 < v.m → ∀ ad, A3 = some ad → ad.block ≠ M := fun h0 ad e => by have := r3.block_lt h0 ad e; omega
          replace r3 := r3.below b
          clear b
          clear hw hM
          -- M holds the zero matrix in v4; the rows lie apart from it (hne)
          have f0 := kM.out.c0
          have f1 := kM.out.c1
          have g0 := kM.out.frozen 0
          have g1 := kM.out.frozen 1
          refine wpPT_one rfl (by rfl) (fun K hK => ?_)
          go_simp
          obtain ⟨wz, hw⟩ : ∃ X : World, X = (World.setCell v4 ⟨M, 0, none⟩ (.int .i64 (v.m : Int))).setCell ⟨M, 1, none⟩ (.slice A3 v.m c3) := ⟨_, rfl⟩
          rw [← hw]
          have k4 := Lib.hid (show MatK wz M 35 (v.m : Int) A3 v.m c3 pm from ⟨by rw [hw]; exact kM.out.put _ _ _ _, by rw [hw]; exact r3.putB kM.out hne _ _⟩)
          replace bW : Below U.heap.size U wz := by rw [hw]; exact (bW.setCell (p := ⟨M, 0, none⟩) hUM _).setCell (p := ⟨M, 1, none⟩) hUM _
          refine hK _ _ bW ?_
          clear hK K f0 f1 g0 g1 hw r3 kM
          iterate 1
            refine wpPT_float (v := ?_) rfl (by rfl) (fun w' hw' => ?_) (fun K hK => ?_)
            rotate_left
            · (go_simp; try with_reducible rfl)
            go_simp
            refine hK _ ?_
            clear hK K
          refine wpPT_done (NoPanic.normal ?_)
          exact key M A3 c3 wz E1 ne ce D1 cd ⟨k4.out, hc3, bW⟩
        · skip
          go_simp
          obtain ⟨M, hM⟩ : ∃ M, M = (World.heap v2).size := ⟨_, rfl⟩
          obtain ⟨v5, hw⟩ : ∃ X : World, X = World.alloc v2 (.cells #[.int .i64 0, .slice none 0 0] 35) := ⟨_, rfl⟩
          rw [← hw, ← hM]
          have b : Below (World.heap v2).size v2 v5 := by rw [hw]; exact below_alloc _ _
          have hUM : U.heap.size ≤ M := by rw [hM]; exact bW.size
          replace bW := below_trans2 bW b
          refine hK _ _ bW ?_
          clear hK K
          have kM := Lib.hid (show MatB v5 M 35 0 none 0 0 from by rw [hw, hM]; exact MatB.new _ _)
          replace r2 := r2.below b
          clear b
          clear hw hM
          refine wpPT_one rfl (by rfl) (fun K hK => ?_)
          -- the matrix of them
          have cR := Lib.hid (cO.out D1 cd v5 r2)
          go_simp
          refine cR.out.mono ?_; rintro e v6 ⟨A3, n3, c3, rfl, r3, hc3, b⟩
          obtain rfl : n3 = v.m := by rw [← r3.len]; exact hpl.out
          replace bW := below_trans2 bW b
          refine hK _ _ bW ?_
          clear hK K cR r2
          have hne : 0 < v.m → ∀ ad, A3 = some ad → ad.block ≠ M := fun h0 => r3.farZ (kM.out.below_ b) (hposP.out h0) h0
          replace kM := Lib.hid (kM.out.below_ b)
          clear b
          iterate 3
            refine wpPT_float (v := ?_) rfl (by rfl) (fun w' hw' => ?_) (fun K hK => ?_)
            rotate_left
            · (go_simp; try with_reducible rfl)
            go_simp
            refine hK _ ?_
            clear hK K
          -- M holds the zero matrix in v6; the rows lie apart from it (hne)
          have f0 := kM.out.c0
          have f1 := kM.out.c1
          have g0 := kM.out.frozen 0
          have g1 := kM.out.frozen 1
          refine wpPT_one rfl (by rfl) (fun K hK => ?_)
          go_simp
          obtain ⟨wz, hw⟩ : ∃ X : World, X = (World.setCell v6 ⟨M, 0, none⟩ (.int .i64 (v.m : Int))).setCell ⟨M, 1, none⟩ (.slice A3 v.m c3) := ⟨_, rfl⟩
          rw [← hw]
          have k4 := Lib.hid (show MatK wz M 35 (v.m : Int) A3 v.m c3 pm from ⟨by rw [hw]; exact kM.out.put _ _ _ _, by rw [hw]; exact r3.putB kM.out hne _ _⟩)
          replace bW : Below U.heap.size U wz := by rw [hw]; exact (bW.setCell (p := ⟨M, 0, none⟩) hUM _).setCell (p := ⟨M, 1, none⟩) hUM _
          refine hK _ _ bW ?_
          clear hK K f0 f1 g0 g1 hw r3 kM
          iterate 1
            refine wpPT_float (v := ?_) rfl (by rfl) (fun w' hw' => ?_) (fun K hK => ?_)
            rotate_left
            · (go_simp; try with_reducible rfl)
            go_simp
            refine hK _ ?_
            clear hK K
          refine wpPT_done (NoPanic.normal ?_)
          exact key M A3 c3 wz E1 ne ce D1 cd ⟨k4.out, hc3, bW⟩
      · skip
        go_simp
        obtain ⟨M, hM⟩ : ∃ M, M = (World.heap v1).size := ⟨_, rfl⟩
        obtain ⟨v7, hw⟩ : ∃ X : World, X = World.alloc v1 (.cells #[.int .i64 0, .slice none 0 0] 35) := ⟨_, rfl⟩
        rw [← hw, ← hM]
        have b : Below (World.heap v1).size v1 v7 := by rw [hw]; exact below_alloc _ _
        have hUM : U.heap.size ≤ M := by rw [hM]; exact bW.size
        replace bW := below_trans2 bW b
        refine hK _ _ bW ?_
        clear hK K
        have kM := Lib.hid (show MatB v7 M 35 0 none 0 0 from by rw [hw, hM]; exact MatB.new _ _)
        replace r1 := r1.below b
        clear b
        clear hw hM
        refine wpPT_one rfl (by rfl) (fun K hK => ?_)
        -- their pairs
        have cQ := Lib.hid (clash_pairs E1 ne ce (edgesF f a) v7 r1 (by rw [← r1.len]; exact hel.out))
        go_simp
        refine cQ.out.mono ?_; rintro e v8 ⟨D1, cd, rfl, r2, b⟩
        replace bW := below_trans2 bW b
        refine hK _ _ bW ?_
        clear hK K cQ r1
        replace kM := Lib.hid (kM.out.below_ b)
        clear b
        refine wpPT_one rfl (by rfl) (fun K hK => ?_)
        -- the matrix of them
        have cR := Lib.hid (cO.out D1 cd v8 r2)
        go_simp
        refine cR.out.mono ?_; rintro e v9 ⟨A3, n3, c3, rfl, r3, hc3, b⟩
        obtain rfl : n3 = v.m := by rw [← r3.len]; exact hpl.out
        replace bW := below_trans2 bW b
        refine hK _ _ bW ?_
        clear hK K cR r2
        have hne : 0 < v.m → ∀ ad, A3 = some ad → ad.block ≠ M := fun h0 => r3.farZ (kM.out.below_ b) (hposP.out h0) h0
        replace kM := Lib.hid (kM.out.below_ b)
        clear b
        iterate 3
          refine wpPT_float (v := ?_) rfl (by rfl) (fun w' hw' => ?_) (fun K hK => ?_)
          rotate_left
          · (go_simp; try with_reducible rfl)
          go_simp
          refine hK _ ?_
          clear hK K
        -- M holds the zero matrix in v9; the rows lie apart from it (hne)
        have f0 := kM.out.c0
        have f1 := kM.out.c1
        have g0 := kM.out.frozen 0
        have g1 := kM.out.frozen 1
        refine wpPT_one rfl (by rfl) (fun K hK => ?_)
        go_simp
        obtain ⟨wz, hw⟩ : ∃ X : World, X = (World.setCell v9 ⟨M, 0, none⟩ (.int .i64 (v.m : Int))).setCell ⟨M, 1, none⟩ (.slice A3 v.m c3) := ⟨_, rfl⟩
        rw [← hw]
        have k4 := Lib.hid (show MatK wz M 35 (v.m : Int) A3 v.m c3 pm from ⟨by rw [hw]; exact kM.out.put _ _ _ _, by rw [hw]; exact r3.putB kM.out hne _ _⟩)
        replace bW : Below U.heap.size U wz := by rw [hw]; exact (bW.setCell (p := ⟨M, 0, none⟩) hUM _).setCell (p := ⟨M, 1, none⟩) hUM _
        refine hK _ _ bW ?_
        clear hK K f0 f1 g0 g1 hw r3 kM
        iterate 1
          refine wpPT_float (v := ?_) rfl (by rfl) (fun w' hw' => ?_) (fun K hK => ?_)
          rotate_left
          · (go_simp; try with_reducible rfl)
          go_simp
          refine hK _ ?_
          clear hK K
        refine wpPT_done (NoPanic.normal ?_)
        exact key M A3 c3 wz E1 ne ce D1 cd ⟨k4.out, hc3, bW⟩
    · skip
      go_simp
      obtain ⟨M, hM⟩ : ∃ M, M = (World.heap U).size := ⟨_, rfl⟩
      obtain ⟨v10, hw⟩ : ∃ X : World, X = World.alloc U (.cells #[.int .i64 0, .slice none 0 0] 35) := ⟨_, rfl⟩
      rw [← hw, ← hM]
      have b : Below (World.heap U).size U v10 := by rw [hw]; exact below_alloc _ _
      have hUM : U.heap.size ≤ M := by rw [hM]; exact bW.size
      replace bW := below_trans2 bW b
      refine hK _ _ bW ?_
      clear hK K
      have kM := Lib.hid (show MatB v10 M 35 0 none 0 0 from by rw [hw, hM]; exact MatB.new _ _)
      clear b
      clear hw hM
      refine wpPT_one rfl (by rfl) (fun K hK => ?_)
      -- the conflicts: in the world v10, to v11
      go_simp
      refine (cE.out v10 (hBU.out.later bW).f (hMU.out.2.below bW)).mono ?_; rintro e v11 ⟨E1, ne, ce, rfl, r1, -, -, b⟩
      replace bW := below_trans2 bW b
      refine hK _ _ bW ?_
      clear hK K
      replace kM := Lib.hid (kM.out.below_ b)
      clear b
      refine wpPT_one rfl (by rfl) (fun K hK => ?_)
      -- their pairs
      have cQ := Lib.hid (clash_pairs E1 ne ce (edgesF f a) v11 r1 (by rw [← r1.len]; exact hel.out))
      go_simp
      refine cQ.out.mono ?_; rintro e v12 ⟨D1, cd, rfl, r2, b⟩
      replace bW := below_trans2 bW b
      refine hK _ _ bW ?_
      clear hK K cQ r1
      replace kM := Lib.hid (kM.out.below_ b)
      clear b
      refine wpPT_one rfl (by rfl) (fun K hK => ?_)
      -- the matrix of them
      have cR := Lib.hid (cO.out D1 cd v12 r2)
      go_simp
      refine cR.out.mono ?_; rintro e v13 ⟨A3, n3, c3, rfl, r3, hc3, b⟩
      obtain rfl : n3 = v.m := by rw [← r3.len]; exact hpl.out
      replace bW := below_trans2 bW b
      refine hK _ _ bW ?_
      clear hK K cR r2
      have hne : 0 < v.m → ∀ ad, A3 = some ad → ad.block ≠ M := fun h0 => r3.farZ (kM.out.below_ b) (hposP.out h0) h0
      replace kM := Lib.hid (kM.out.below_ b)
      clear b
      iterate 3
        refine wpPT_float (v := ?_) rfl (by rfl) (fun w' hw' => ?_) (fun K hK => ?_)
        rotate_left
        · (go_simp; try with_reducible rfl)
        go_simp
        refine hK _ ?_
        clear hK K
      -- M holds the zero matrix in v13; the rows lie apart from it (hne)
      have f0 := kM.out.c0
      have f1 := kM.out.c1
      have g0 := kM.out.frozen 0
      have g1 := kM.out.frozen 1
      refine wpPT_one rfl (by rfl) (fun K hK => ?_)
      go_simp
      obtain ⟨wz, hw⟩ : ∃ X : World, X = (World.setCell v13 ⟨M, 0, none⟩ (.int .i64 (v.m : Int))).setCell ⟨M, 1, none⟩ (.slice A3 v.m c3) := ⟨_, rfl⟩
      rw [← hw]
      have k4 := Lib.hid (show MatK wz M 35 (v.m : Int) A3 v.m c3 pm from ⟨by rw [hw]; exact kM.out.put _ _ _ _, by rw [hw]; exact r3.putB kM.out hne _ _⟩)
      replace bW : Below U.heap.size U wz := by rw [hw]; exact (bW.setCell (p := ⟨M, 0, none⟩) hUM _).setCell (p := ⟨M, 1, none⟩) hUM _
      refine hK _ _ bW ?_
      clear hK K f0 f1 g0 g1 hw r3 kM
      iterate 1
        refine wpPT_float (v := ?_) rfl (by rfl) (fun w' hw' => ?_) (fun K hK => ?_)
        rotate_left
        · (go_simp; try with_reducible rfl)
        go_simp
        refine hK _ ?_
        clear hK K
      refine wpPT_done (NoPanic.normal ?_)
      exact key M A3 c3 wz E1 ne ce D1 cd ⟨k4.out, hc3, bW⟩
  · rintro M A3 c3 wz E1 ne ce D1 cd ⟨hk4, hc3, bW2⟩
    have k4 := Lib.hid hk4
    clear hk4
    have kR4 := Lib.hid (hkR.out.below_ bW2)
    have hM4 := Lib.hid (hMU.out.below bW2)
    have bb := Lib.hid (below_trans2 hBU.out.o bW2)
    clear bW2 cE cO hBU hMU hkR hel hposP
    have qk40 := k4.out.1.c0
    have qk41 := k4.out.1.c1
    have m0 := hM4.out.1.c0
    have m1 := hM4.out.1.c1
    have hm4 : v.m ≤ 4096 := by omega
    have cR := Lib.hid (mat_Or A A3 v.m c c3 a pm wz hM4.out.2 k4.out.2 hm4 hsl.out)
    rw [hor.out] at cR
    go_wp2_with fail
    refine cR.out.mono ?_; rintro e x1 ⟨A5, n5, c5, rfl, r5, hc5, b⟩
    obtain rfl : n5 = v.m := by rw [← r5.len]; exact hXl.out
    replace kR4 := Lib.hid (kR4.out.below_ b)
    replace bb := Lib.hid (below_trans2 bb.out b)
    clear b cR m0 m1 qk40 qk41 k4 hM4
    obtain ⟨W5, hW5⟩ : ∃ W, W = x1.alloc (.cells #[.int .i64 (v.m : Int), .slice A5 v.m c5] 35) := ⟨_, rfl⟩
    obtain ⟨G5, hG5⟩ : ∃ G, G = x1.heap.size := ⟨_, rfl⟩
    have b5 : Below x1.heap.size x1 W5 := by rw [hW5]; exact below_alloc _ _
    have k5 := Lib.hid (show MatK W5 G5 35 (v.m : Int) A5 v.m c5 (cfX f a) from ⟨by rw [hW5, hG5]; exact MatB.new _ _, r5.below b5⟩)
    replace kR4 := Lib.hid (kR4.out.below_ b5)
    replace bb := Lib.hid (below_trans2 bb.out b5)
    clear b5 r5
    have qk50 := k5.out.1.c0
    have qk51 := k5.out.1.c1
    have cK := Lib.hid (hull_Close A5 v.m c5 (cfX f a) W5 k5.out.2 gX.out)
    rw [hcm.out] at cK
    go_wp2_with (rw [← hW5, ← hG5]; clear hW5 hG5)
    refine cK.out.mono ?_; rintro e x2 ⟨A6, n6, c6, rfl, r6, hc6, b⟩
    obtain rfl : n6 = v.m := by rw [← r6.len]; exact hCl.out
    replace kR4 := Lib.hid (kR4.out.below_ b)
    replace bb := Lib.hid (below_trans2 bb.out b)
    clear b cK qk50 qk51 k5
    obtain ⟨W6, hW6⟩ : ∃ W, W = x2.alloc (.cells #[.int .i64 (v.m : Int), .slice A6 v.m c6] 35) := ⟨_, rfl⟩
    obtain ⟨G6, hG6⟩ : ∃ G, G = x2.heap.size := ⟨_, rfl⟩
    have b6 : Below x2.heap.size x2 W6 := by rw [hW6]; exact below_alloc _ _
    have k6 := Lib.hid (show MatK W6 G6 35 (v.m : Int) A6 v.m c6 (cfM f a) from ⟨by rw [hW6, hG6]; exact MatB.new _ _, r6.below b6⟩)
    replace kR4 := Lib.hid (kR4.out.below_ b6)
    replace bb := Lib.hid (below_trans2 bb.out b6)
    clear b6 r6
    have qk60 := k6.out.1.c0
    have qk61 := k6.out.1.c1
    have cL := Lib.hid (hull_Loop A6 v.m c6 (cfM f a) W6 k6.out.2 hm4 hCs.out)
    go_wp2_with (rw [← hW6, ← hG6]; clear hW6 hG6)
    refine cL.out.mono ?_; rintro e x3 ⟨lr, lb, rfl, hlp, b⟩
    have hlb := hlp.b
    rw [← hres.out.1] at hlb
    replace kR4 := Lib.hid (kR4.out.below_ b)
    replace k6 := Lib.hid (k6.out.below b)
    replace bb := Lib.hid (below_trans2 bb.out b)
    clear b cL qk60 qk61 hlp
    have qk60 := k6.out.1.c0
    have qk61 := k6.out.1.c1
    have f0 := kR4.out.c0
    have f1 := kR4.out.c1
    have g0 := kR4.out.frozen 0
    have g1 := kR4.out.frozen 1
    cases lb with
    | true =>
      have hN := hres.out.2
      rw [if_pos hlb.symm] at hN
      have hR : cfR f a = [] := by unfold cfR; rw [if_pos hlb.symm]
      have hE : cfE f a = 7 := by unfold cfE; rw [if_pos hlb.symm]
      replace hN := Lib.hid hN
      replace hR := Lib.hid hR
      replace hE := Lib.hid hE
      have hcc := kR4.out.two (.int .i64 0) (.slice none 0 0)
      have hc1 := Lib.hid hcc.1
      have hc2 := Lib.hid hcc.2
      have hbf := Lib.hid ((bb.out.setCell (p := ⟨gr, 0, none⟩) hgw.out (.int .i64 0)).setCell (p := ⟨gr, 1, none⟩) hgw.out (.slice none 0 0))
      clear hcc hlb
      go_wp2_with fail
      exact bodyPost_ret (v := .tuple #[.agg #[.int .i64 0, .slice none 0 0], .int .i64 7]) (by simp [results, Try.results10, go_sem, hc1.out, hc2.out]) rfl ⟨none, 0, 0, by rw [hN.out, hE.out], by rw [hR.out]; exact RowsAt.nil _ _, Nat.le_refl _, hbf.out⟩
    | false =>
      have hN := hres.out.2
      rw [if_neg (by rw [← hlb]; simp)] at hN
      have hR : cfR f a = cfM f a := by unfold cfR; rw [if_neg (by rw [← hlb]; simp)]
      have hE : cfE f a = 0 := by unfold cfE; rw [if_neg (by rw [← hlb]; simp)]
      replace hN := Lib.hid hN
      replace hR := Lib.hid hR
      replace hE := Lib.hid hE
      have hcc := kR4.out.two (.int .i64 (v.m : Int)) (.slice A6 v.m c6)
      have hc1 := Lib.hid hcc.1
      have hc2 := Lib.hid hcc.2
      have hrf := Lib.hid (k6.out.2.putB kR4.out (fun h0 => k6.out.2.farZ kR4.out (hposC.out h0) h0) (.int .i64 (v.m : Int)) (.slice A6 v.m c6))
      have hbf := Lib.hid ((bb.out.setCell (p := ⟨gr, 0, none⟩) hgw.out (.int .i64 (v.m : Int))).setCell (p := ⟨gr, 1, none⟩) hgw.out (.slice A6 v.m c6))
      clear hcc hlb
      go_wp2_with fail
      exact bodyPost_ret (v := .tuple #[.agg #[.int .i64 (v.m : Int), .slice A6 v.m c6], .int .i64 0]) (by simp [results, Try.results10, go_sem, hc1.out, hc2.out]) rfl ⟨A6, v.m, c6, by rw [hN.out, hE.out], by rw [hR.out]; exact hrf.out, hc6, hbf.out⟩
end Go.Proofs.Ytpbiilhclmcehaa

namespace Go.Proofs.Ytpbiilhclmcehaa
open Go.RowKit
set_option linter.unusedVariables false
/-- has a history whole facts? -/
def okO11 (hs : List (List OpT)) : Bool := rightL hs && decide ((checkF (facO hs).items).2.2 = 0)
def RetO11 (hs : List (List OpT)) (w : World) (e : Ending) (w' : World) : Prop := ∃ x : FV, e = .returned (.tuple #[.agg #[.slice x.A x.n x.c, .slice x.B x.m x.d, .slice x.C x.k x.e], .bool (okO11 hs)]) ∧ (okO11 hs = true → FactsAt w' x (fillF (facO hs))) ∧ Below w.heap.size w w'
set_option maxRecDepth 100000 in
set_option maxHeartbeats 2000000 in
theorem ref11_Of (A : Option Addr) (n c : Nat) (hs : List (List OpT)) (w : World) (hX : HistAt w A n hs) (hn : n ≤ 1099511627776) (hF : (allO hs).length ≤ 1048576) :
    Calls Try.prog 8 #[.slice A n c] w (RetO11 hs w) := by
  obtain ⟨gr, hgr⟩ : ∃ g, g = w.heap.size := ⟨_, rfl⟩
  obtain ⟨W1, hW1⟩ : ∃ W, W = w.alloc (.cells #[.slice none 0 0, .slice none 0 0, .slice none 0 0] 30) := ⟨_, rfl⟩
  have b0 : Below w.heap.size w W1 := by rw [hW1]; exact (Below.refl _ _).alloc (Nat.le_refl _) _
  have kR : Blk W1 gr 30 [.slice none 0 0, .slice none 0 0, .slice none 0 0] := by rw [hW1, hgr]; exact Blk.new w _ _
  have hgw : Hid (w.heap.size ≤ gr) := Lib.hid (by rw [hgr]; exact Nat.le_refl _)
  have c1 := ref9_Of A n c hs W1 (hX.below b0) hn (by omega)
  clear hX
  cases hri : rightL hs with
  | false =>
    have hno := Lib.hid (show okO11 hs = false from by unfold okO11; rw [hri]; rfl)
    rw [hri, if_neg (by simp), if_neg (by simp)] at c1
    replace c1 := Lib.hid c1
    clear hri
    go_enter Try.func8, Try.ntmps8
    go_wp2_with (rw [← hW1, ← hgr]; clear hW1; replace hgr := Lib.hid hgr)
    refine c1.out.mono ?_; rintro e w3 ⟨x, rfl, -, b3⟩
    obtain ⟨V, hV⟩ : ∃ W, W = w3.alloc (.cells #[.slice x.A x.n x.c, .slice x.B x.m x.d, .slice x.C x.k x.e] 30) := ⟨_, rfl⟩
    obtain ⟨g, hg⟩ : ∃ g, g = w3.heap.size := ⟨_, rfl⟩
    have bV : Below w3.heap.size w3 V := by rw [hV]; exact (Below.refl _ _).alloc (Nat.le_refl _) _
    replace kR := (kR.below b3 kR.lt)
    replace kR := (kR.below bV kR.lt)
    have bb := below_trans2 (below_trans2 b0 b3) bV
    clear b0 b3 bV c1
    have e0 := (((kR.set_ 0 (.slice none 0 0)).set_ 1 (.slice none 0 0)).set_ 2 (.slice none 0 0)).cell 0
    have e1 := (((kR.set_ 0 (.slice none 0 0)).set_ 1 (.slice none 0 0)).set_ 2 (.slice none 0 0)).cell 1
    have e2 := (((kR.set_ 0 (.slice none 0 0)).set_ 1 (.slice none 0 0)).set_ 2 (.slice none 0 0)).cell 2
    have c0 := Blk.cell kR 0
    have c1 := Blk.cell kR 1
    have c2 := Blk.cell kR 2
    have f0 := Blk.frozen kR 0
    have f1 := Blk.frozen kR 1
    have f2 := Blk.frozen kR 2
    have hb3 := Lib.hid (((bb.setCell (p := ⟨gr, 0, none⟩) hgw.out (.slice none 0 0)).setCell (p := ⟨gr, 1, none⟩) hgw.out (.slice none 0 0)).setCell (p := ⟨gr, 2, none⟩) hgw.out (.slice none 0 0))
    clear kR
    go_wp2_with (rw [← hV, ← hg]; clear hV; replace hg := Lib.hid hg)
    exact bodyPost_ret (v := .tuple #[.agg #[.slice none 0 0, .slice none 0 0, .slice none 0 0], .bool false]) (by simp [results, Try.results8, go_sem, e0, e1, e2]) rfl ⟨⟨none, 0, 0, none, 0, 0, none, 0, 0⟩, by rw [hno.out], (fun h => by rw [hno.out] at h; cases h), hb3.out⟩
  | true =>
    rw [hri, if_pos rfl, if_pos rfl] at c1
    obtain ⟨f, hf⟩ : ∃ f : Fac, f = facO hs := ⟨_, rfl⟩
    rw [← hf] at c1
    have hri' := Lib.hid hri
    replace c1 := Lib.hid c1
    clear hri
    replace hf := Lib.hid hf
    go_enter Try.func8, Try.ntmps8
    go_wp2_with (rw [← hW1, ← hgr]; clear hW1; replace hgr := Lib.hid hgr)
    refine c1.out.mono ?_; rintro e w3 ⟨x, rfl, hG, b3⟩
    have hB := Lib.hid ((FBox.new hG).from_ (below_trans2 b0 b3))
    obtain ⟨V, hV⟩ : ∃ W, W = w3.alloc (.cells #[.slice x.A x.n x.c, .slice x.B x.m x.d, .slice x.C x.k x.e] 30) := ⟨_, rfl⟩
    obtain ⟨g, hg⟩ : ∃ g, g = w3.heap.size := ⟨_, rfl⟩
    replace kR := Lib.hid (show Blk V gr 30 [.slice none 0 0, .slice none 0 0, .slice none 0 0] from by rw [hV]; exact (kR.below b3 kR.lt).alloc _)
    rw [← hV, ← hg] at hB
    clear b3 c1 hG b0
    have hxm : x.m ≤ 1048576 := by
      rw [← hB.out.f.is.len, hf.out]
      show (hisF hs).2.length ≤ _
      rw [hisF_len]; omega
    have p0 := hB.out.c0
    have p1 := hB.out.c1
    have p2 := hB.out.c2
    obtain ⟨⟨r1, r2, r3⟩, hr⟩ : ∃ r, r = checkF f.items := ⟨_, rfl⟩
    have cC := ref10_Check x f V hB.out.f
    rw [← hr] at cC
    replace cC := Lib.hid cC
    have hok : okO11 hs = decide (r3 = 0) := by
      unfold okO11
      rw [hri'.out, ← hf.out, ← hr, Bool.true_and]
    replace hr := Lib.hid hr
    replace hok := Lib.hid hok
    go_wp2_with (rw [← hV, ← hg]; clear hV; replace hg := Lib.hid hg)
    refine cC.out.mono ?_; rintro e w4 ⟨rfl, b4⟩
    replace hB := Lib.hid (hB.out.later b4)
    replace kR := kR.out.below b4 kR.out.lt
    clear p0 p1 p2 b4 cC
    by_cases h3 : r3 = 0
    · have hyes := Lib.hid (show okO11 hs = true from by rw [hok.out]; exact decide_eq_true h3)
      have e3 : (r3 != 0) = false := by rw [h3]; rfl
      replace h3 := Lib.hid h3
      have p0 := hB.out.c0
      have p1 := hB.out.c1
      have p2 := hB.out.c2
      have cF := Lib.hid (ref11_Fill x f w4 hB.out.f hxm)
      go_wp2_with fail
      refine cF.out.mono ?_; rintro e w5 ⟨y, rfl, hY, b5⟩
      replace hB := Lib.hid (hB.out.later b5)
      replace kR := kR.below b5 kR.lt
      clear p0 p1 p2 b5 cF
      have hY3 := Lib.hid (hY.put kR (fun u hu => by simp only [List.mem_cons, List.not_mem_nil, or_false] at hu; rcases hu with rfl | rfl | rfl <;> exact ⟨_, _, _, rfl⟩))
      have e0 := (((kR.set_ 0 (.slice y.A y.n y.c)).set_ 1 (.slice y.B y.m y.d)).set_ 2 (.slice y.C y.k y.e)).cell 0
      have e1 := (((kR.set_ 0 (.slice y.A y.n y.c)).set_ 1 (.slice y.B y.m y.d)).set_ 2 (.slice y.C y.k y.e)).cell 1
      have e2 := (((kR.set_ 0 (.slice y.A y.n y.c)).set_ 1 (.slice y.B y.m y.d)).set_ 2 (.slice y.C y.k y.e)).cell 2
      have c0 := Blk.cell kR 0
      have c1 := Blk.cell kR 1
      have c2 := Blk.cell kR 2
      have f0 := Blk.frozen kR 0
      have f1 := Blk.frozen kR 1
      have f2 := Blk.frozen kR 2
      have hb3 := Lib.hid (((hB.out.o.setCell (p := ⟨gr, 0, none⟩) hgw.out (.slice y.A y.n y.c)).setCell (p := ⟨gr, 1, none⟩) hgw.out (.slice y.B y.m y.d)).setCell (p := ⟨gr, 2, none⟩) hgw.out (.slice y.C y.k y.e))
      clear kR
      go_wp2_with fail
      rw [hf.out] at hY3
      exact bodyPost_ret (v := .tuple #[.agg #[.slice y.A y.n y.c, .slice y.B y.m y.d, .slice y.C y.k y.e], .bool true]) (by simp [results, Try.results8, go_sem, e0, e1, e2]) rfl ⟨y, by rw [hyes.out], (fun _ => hY3.out), hb3.out⟩
    · have hno := Lib.hid (show okO11 hs = false from by rw [hok.out]; exact decide_eq_false h3)
      have e3 : (r3 != 0) = true := by simpa using h3
      have bb := hB.out.o
      replace h3 := Lib.hid h3
      -- no facts: bb : Below w.heap.size w w4, kR : the result's variable in w4
      have e0 := (((kR.set_ 0 (.slice none 0 0)).set_ 1 (.slice none 0 0)).set_ 2 (.slice none 0 0)).cell 0
      have e1 := (((kR.set_ 0 (.slice none 0 0)).set_ 1 (.slice none 0 0)).set_ 2 (.slice none 0 0)).cell 1
      have e2 := (((kR.set_ 0 (.slice none 0 0)).set_ 1 (.slice none 0 0)).set_ 2 (.slice none 0 0)).cell 2
      have c0 := Blk.cell kR 0
      have c1 := Blk.cell kR 1
      have c2 := Blk.cell kR 2
      have f0 := Blk.frozen kR 0
      have f1 := Blk.frozen kR 1
      have f2 := Blk.frozen kR 2
      have hb3 := Lib.hid (((bb.setCell (p := ⟨gr, 0, none⟩) hgw.out (.slice none 0 0)).setCell (p := ⟨gr, 1, none⟩) hgw.out (.slice none 0 0)).setCell (p := ⟨gr, 2, none⟩) hgw.out (.slice none 0 0))
      clear kR
      go_wp2_with fail
      exact bodyPost_ret (v := .tuple #[.agg #[.slice none 0 0, .slice none 0 0, .slice none 0 0], .bool false]) (by simp [results, Try.results8, go_sem, e0, e1, e2]) rfl ⟨⟨none, 0, 0, none, 0, 0, none, 0, 0⟩, by rw [hno.out], (fun h => by rw [hno.out] at h; cases h), hb3.out⟩
end Go.Proofs.Ytpbiilhclmcehaa

namespace Go.Proofs.Ytpbiilhclmcehaa
open Go.RowKit
set_option linter.unusedVariables false

end Go.Proofs.Ytpbiilhclmcehaa

namespace Go.Proofs.Ytpbiilhclmcehaa
open Go.RowKit
set_option linter.unusedVariables false

/-! ### what a round finds -/
section
variable {f : Fac} {X : List (List Nat)} {kept : List Int}
end
/-! ### the rounds -/
section
variable {f : Fac} {kept : List Int} {B : List (List Nat)}
end
end Go.Proofs.Ytpbiilhclmcehaa

namespace Go.Proofs.Ytpbiilhclmcehaa
open Go.RowKit
set_option linter.unusedVariables false

end Go.Proofs.Ytpbiilhclmcehaa

namespace Go.Proofs.Ytpbiilhclmcehaa
open Go.RowKit
set_option linter.unusedVariables false

def turned (ps : List (Int × Int)) : List (Int × Int) := ps.map fun x => (x.2, x.1)

end Go.Proofs.Ytpbiilhclmcehaa

namespace Go.Proofs.Ytpbiilhclmcehaa
open Go.RowKit
set_option linter.unusedVariables false

end Go.Proofs.Ytpbiilhclmcehaa

namespace Go.Proofs.Ytpbiilhclmcehaa
open Go.RowKit
set_option linter.unusedVariables false
def ex17A : List OpT := [(true, ⟨#[120]⟩, 1)]
def ex17B : List OpT := [(true, ⟨#[120]⟩, 2), (false, ⟨#[120]⟩, 1)]
theorem ok17A : OkO ex17A := fun o ho => by
  simp only [ex17A, List.mem_cons, List.not_mem_nil, or_false] at ho
  subst ho; exact ⟨⟨by decide, by decide⟩, by decide⟩
theorem ok17B : OkO ex17B := fun o ho => by
  simp only [ex17B, List.mem_cons, List.not_mem_nil, or_false] at ho
  rcases ho with rfl | rfl <;> exact ⟨⟨by decide, by decide⟩, by decide⟩
def fx17 : Fac := ⟨[⟨#[120]⟩], [⟨0, 0, true, 0, 1⟩, ⟨1, 0, true, 0, 2⟩, ⟨1, 1, false, 0, 1⟩], [-3, -3, 0]⟩
theorem ex17_facts : okO11 [ex17A, ex17B] = true ∧ fillF (facO [ex17A, ex17B]) = fx17 := by decide
theorem ex17_mat : coM fx17 = [[4], [4], [0]] := by decide
theorem ex17_edges : edgesF fx17 [[4], [4], [0]] = [⟨1, 0, 2⟩] ∧ cfN fx17 [[4], [4], [0]] = 3 ∧ cfR fx17 [[4], [4], [0]] = [[4], [5], [0]] ∧ cfE fx17 [[4], [4], [0]] = 0 := by decide
theorem ex17_whole : WholeF fx17 := by rw [← ex17_facts.2]; exact fillF_whole _
theorem ex17_frm : fx17.frm = fromF fx17.items := by rw [← ex17_facts.2]; rfl
theorem ex17_good : Good 3 [[4], [4], [0]] := by rw [← ex17_mat]; exact (coM_hull ex17_whole (by decide)).1
end Go.Proofs.Ytpbiilhclmcehaa
