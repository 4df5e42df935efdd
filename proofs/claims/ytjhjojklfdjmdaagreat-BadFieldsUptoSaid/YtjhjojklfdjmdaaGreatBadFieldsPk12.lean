/- Words for memory of layer 19: what the code looks for patterns in, lies in a block of its own. The code's own contract of layer 19: lastReads. The code's own contracts of layer 19: writes, missed, firstMissed, hasMissed, goesRound, seen. The code's own contracts of layer 19: seen. The code's own contracts of layer 19: thinAirRead, cyclicCO, writeCOInitRead, writeCORead. -/
import Derived.Test.YtjhjojklfdjmdaaGreatBadFieldsPk6
import Derived.Test.YtjhjojklfdjmdaaGreatBadFieldsPk11
import Derived.Test.YtjhjojklfdjmdaaGreatBadFieldsPk8
import Derived.Test.YtjhjojklfdjmdaaGreatBadFieldsPk2
namespace Go.Proofs.YtjhjojklfdjmdaaGreat
open Go.RowKit
set_option linter.unusedVariables false

/-- whatever there was, but for the blocks g and s, is as it was -/
structure But2 (g s : Nat) (w w' : World) : Prop where
  os : w'.os = w.os
  tape : w'.tape = w.tape
  output : w'.output = w.output
  size : w.heap.size ≤ w'.heap.size
  block : ∀ k, k < w.heap.size → k ≠ g → k ≠ s → w'.heap[k]? = w.heap[k]?
section
variable {g s : Nat} {w w' : World}
theorem But2.trans {a b c : World} (h : But2 g s a b) (k : But2 g s b c) : But2 g s a c :=
  ⟨k.os.trans h.os, k.tape.trans h.tape, k.output.trans h.output, Nat.le_trans h.size k.size, fun i hi hg hs => (k.block i (Nat.lt_of_lt_of_le hi h.size) hg hs).trans (h.block i hi hg hs)⟩
theorem But2.of (h : Below w.heap.size w w') : But2 g s w w' := ⟨h.os, h.tape, h.output, h.size, fun k hk _ _ => h.block k hk⟩
theorem But2.ofL (h : BelowB g w w') : But2 g s w w' := ⟨h.os, h.tape, h.output, h.size, fun k hk hg _ => h.block k hk hg⟩
theorem But2.ofR (h : BelowB s w w') : But2 g s w w' := ⟨h.os, h.tape, h.output, h.size, fun k hk _ hs => h.block k hk hs⟩
theorem But2.next {a : World} (h : But2 g s a w) (hb : Below w.heap.size w w') : But2 g s a w' := h.trans (But2.of hb)
theorem But2.set (h : But2 g s w w') (o : Nat) (u : Value) : But2 g s w (w'.setCell ⟨g, o, none⟩ u) :=
  ⟨h.os, h.tape, h.output, by rw [World.size_setCell]; exact h.size, fun k hk hg hs => (Below.heap_setCell w' ⟨g, o, none⟩ u k hg).trans (h.block k hk hg hs)⟩
end
theorem cut_four19 {T1 T2 T3 T4 : Type} {Goal F : T1 → T2 → T3 → T4 → Prop} {R : Prop} (h1 : (∀ a b c d, F a b c d → Goal a b c d) → R) (h2 : ∀ a b c d, F a b c d → Goal a b c d) : R := h1 h2
theorem cut_eight19 {T1 T2 T3 T4 T5 T6 T7 T8 : Type} {Goal F : T1 → T2 → T3 → T4 → T5 → T6 → T7 → T8 → Prop} {R : Prop} (h1 : (∀ a b c d e f g h, F a b c d e f g h → Goal a b c d e f g h) → R) (h2 : ∀ a b c d e f g h, F a b c d e f g h → Goal a b c d e f g h) : R := h1 h2
/-- a world reached by no change of what was there but one block's -/
theorem BelowB.setG19 {g : Nat} {w w' : World} (h : BelowB g w w') (o : Nat) (u : Value) : BelowB g w (w'.setCell ⟨g, o, none⟩ u) :=
  ⟨h.os, h.tape, h.output, by rw [World.size_setCell]; exact h.size, fun k hk hg => (Below.heap_setCell w' ⟨g, o, none⟩ u k hg).trans (h.block k hk hg)⟩
/-- what the code asks of facts -/
structure EnvB (v : FV) (f : Fac) : Prop where
  hw : WholeF f
  hvm : v.m < 64
  hx : SeenX v f
  hil : f.items.length = v.m
section
variable {v : FV} {f : Fac}
theorem EnvB.n4 (h : EnvB v f) : f.items.length ≤ 4096 := by have := h.hvm; have := h.hil; omega
theorem EnvB.good (h : EnvB v f) : Good v.m (coM f) := by rw [← h.hil]; exact (coM_hull h.hw h.n4).1
theorem EnvB.closed (h : EnvB v f) : ClosedM (coM f) := co_closed h.hw h.n4
theorem EnvB.goodS (h : EnvB v f) (o : Nat) : Good v.m (seenM f (coM f) o) := by rw [← h.hil]; exact seenM_good h.hw h.n4 o
theorem EnvB.frl (h : EnvB v f) : f.frm.length = v.m := by have := h.hw.len; have := h.hil; omega
theorem EnvB.kl (h : EnvB v f) (o : Nat) : (keptO f o).length ≤ v.m := by rw [← h.hil]; exact keptF_len f.items (o : Int)
theorem EnvB.ko (h : EnvB v f) {o : Nat} {z : Int} (hz : z ∈ keptO f o) : 0 ≤ z ∧ z < (v.m : Int) := by rw [← h.hil]; exact keptO_int hz
end
/-- cells none of which is a word -/
def NoU19 (cs : List Value) : Prop := ∀ x ∈ cs, ∀ z : Int, x ≠ .int .u64 z
theorem Rd.keptB19 {w w' : World} {A : Option Addr} {n s : Nat} {vs : List Value} (h : Rd w A n vs) (hb : BelowB s w w') (hne : 0 < n → ∀ ad, A = some ad → ad.block ≠ s) : Rd w' A n vs :=
  ⟨h.1, fun hn => by
    obtain ⟨b, off, e, hb', hc⟩ := h.2 hn
    exact ⟨b, off, e, Nat.lt_of_lt_of_le hb' hb.size, fun j u hu => (hb.cell (p := ⟨b, off + j, none⟩) hb' (show b ≠ s from hne hn _ e)).trans (hc j u hu)⟩⟩
theorem RowsAt.keptB19 {w w' : World} {A : Option Addr} {n s : Nat} {t : TypeId} {cs : List Value} {xss : List (List Nat)} (h : RowsAt w A n xss) (k : Blk w s t cs) (hcs : NoU19 cs) (hne : 0 < n → ∀ ad, A = some ad → ad.block ≠ s) (hb : BelowB s w w') : RowsAt w' A n xss := by
  obtain ⟨vs, h1, h2⟩ := h
  refine ⟨vs, h1.keptB19 hb hne, h2.1, fun j v xs a b => ?_⟩
  obtain ⟨B', m', c', e, hr⟩ := h2.2 j v xs a b
  refine ⟨B', m', c', e, hr.1.keptB19 hb (fun h0 ad ea hbs => ?_), hr.2⟩
  obtain ⟨b', off, x, hA, -, -, -, hc⟩ := hr.at_ h0
  rw [ea] at hA
  injection hA with hA
  subst hA
  have hbs : b' = s := hbs
  subst hbs
  rw [Nat.add_zero, k.cell] at hc
  exact hcs _ (List.mem_of_getElem? hc) _ rfl
theorem RowsAt.farC19 {w : World} {C : Option Addr} {p g : Nat} {t : TypeId} {xss : List (List Nat)} {cs : List Value} (h : RowsAt w C p xss) (k : Blk w g t cs) (hcs : ∀ x ∈ cs, ∀ (A : Option Addr) (n c : Nat), x = .slice A n c → n = 0) (hl : ∀ xs ∈ xss, 0 < xs.length) : 0 < p → ∀ ad, C = some ad → ad.block ≠ g := by
  intro h0 ad e
  obtain ⟨b, off, B, m, d, xs, e2, _, hx, hc, hr⟩ := h.at_ h0
  rw [e] at e2
  cases e2
  intro hb
  have hb' : b = g := hb
  subst hb'
  rw [k.cell] at hc
  have h1 := hcs _ (List.mem_of_getElem? hc) _ _ _ rfl
  have h2 := hr.len
  have h3 := hl xs (List.mem_of_getElem? hx)
  omega
theorem zero19 : ∀ x ∈ [Value.slice none 0 0, .slice none 0 0, .slice none 0 0, .int .i64 0, .slice none 0 0, .slice none 0 0], ∀ (A : Option Addr) (n c : Nat), x = .slice A n c → n = 0 := fun x hx A n c e => by
  simp only [List.mem_cons, List.not_mem_nil, or_false] at hx
  rcases hx with rfl | rfl | rfl | rfl | rfl | rfl <;> first | (cases e; done) | (injection e with _ h _; exact h.symm)
theorem nou19 : NoU19 [Value.slice none 0 0, .slice none 0 0, .slice none 0 0, .int .i64 0, .slice none 0 0, .slice none 0 0] := fun x hx z e => by
  simp only [List.mem_cons, List.not_mem_nil, or_false] at hx
  rcases hx with rfl | rfl | rfl | rfl | rfl | rfl <;> cases e
/-- what the code looks in: facts v, the matrix of causal order (A, c), the readers R, at block s; all of it is there in w0, and stays while nothing but s changes -/
structure SrAt (w0 : World) (v : FV) (f : Fac) (A : Option Addr) (c s : Nat) (R : Value) (U : World) : Prop where
  keep : ∀ U', BelowB s w0 U' → FactsAt U' v f ∧ RowsAt U' A v.m (coM f)
  cap : v.m ≤ c
  o : BelowB s w0 U
  lt : s < w0.heap.size
  k : Blk U s 61 [.slice v.A v.n v.c, .slice v.B v.m v.d, .slice v.C v.k v.e, .int .i64 (v.m : Int), .slice A v.m c, R]
section
variable {w0 U U' : World} {v : FV} {f : Fac} {A : Option Addr} {c s : Nat} {R : Value}
theorem SrAt.fa (h : SrAt w0 v f A c s R U) : FactsAt U v f := (h.keep U h.o).1
theorem SrAt.mm (h : SrAt w0 v f A c s R U) : RowsAt U A v.m (coM f) := (h.keep U h.o).2
theorem SrAt.later (h : SrAt w0 v f A c s R U) (hb : Below U.heap.size U U') : SrAt w0 v f A c s R U' := ⟨h.keep, h.cap, h.o.trans (BelowB.of hb), h.lt, h.k.below hb h.k.lt⟩
theorem SrAt.but {g : Nat} (h : SrAt w0 v f A c s R U) (hb : BelowB g U U') (hg : g ≠ s) (h0 : w0.heap.size ≤ g) : SrAt w0 v f A c s R U' :=
  ⟨h.keep, h.cap, ⟨hb.os.trans h.o.os, hb.tape.trans h.o.tape, hb.output.trans h.o.output, Nat.le_trans h.o.size hb.size, fun k hk hs => (hb.block k (Nat.lt_of_lt_of_le hk h.o.size) (by omega)).trans (h.o.block k hk hs)⟩, h.lt, hb.blk h.k (Ne.symm hg)⟩
theorem SrAt.readers (h : SrAt w0 v f A c s R U) (R' : Value) : SrAt w0 v f A c s R' (U.setCell ⟨s, 5, none⟩ R') :=
  ⟨h.keep, h.cap, h.o.setG19 5 R', h.lt, h.k.set_ 5 R'⟩
theorem SrAt.c0 (h : SrAt w0 v f A c s R U) : U.cell? ⟨s, 0, none⟩ = some (.slice v.A v.n v.c) := h.k.cell 0
theorem SrAt.c1 (h : SrAt w0 v f A c s R U) : U.cell? ⟨s, 1, none⟩ = some (.slice v.B v.m v.d) := h.k.cell 1
theorem SrAt.c2 (h : SrAt w0 v f A c s R U) : U.cell? ⟨s, 2, none⟩ = some (.slice v.C v.k v.e) := h.k.cell 2
theorem SrAt.c3 (h : SrAt w0 v f A c s R U) : U.cell? ⟨s, 3, none⟩ = some (.int .i64 (v.m : Int)) := h.k.cell 3
theorem SrAt.c4 (h : SrAt w0 v f A c s R U) : U.cell? ⟨s, 4, none⟩ = some (.slice A v.m c) := h.k.cell 4
theorem SrAt.c5 (h : SrAt w0 v f A c s R U) : U.cell? ⟨s, 5, none⟩ = some R := h.k.cell 5
end
end Go.Proofs.YtjhjojklfdjmdaaGreat

namespace Go.Proofs.YtjhjojklfdjmdaaGreat
open Go.RowKit
set_option linter.unusedVariables false
theorem own_fresh19 {w : World} {base size n m c : Nat} {e : TypeId} {D : Option Addr} {xs : List Value} (h : w.ownsRow base e size (.slice D m c) n xs) : ∀ ad, D = some ad → base ≤ ad.block := fun ad hd => by
  rcases h.2 with ⟨hv, -⟩ | ⟨g, cap, cur, hv, hbg, -⟩
  · injection hv with h1 h2 h3
    rw [h1] at hd; cases hd
  · injection hv with h1 h2 h3
    rw [h1] at hd; cases hd; exact hbg
theorem encI_all19 : ∀ xs : List Int, encI.all xs = xs.map fun z => Value.int .i64 z
  | [] => rfl
  | x :: xs => by rw [Enc.all_cons, encI_all19 xs]; rfl
theorem own_take19 {w : World} {base n c k : Nat} {e : TypeId} {D : Option Addr} {xs : List Int} (h : w.ownsRow base e 1 (.slice D n c) n (encI.all xs)) (hl : xs.length = n) (hk : k < n) : w.ownsRow base e 1 (.slice D k c) k (encI.all (xs.take k)) := by
  have he : encI.all (xs.take k) = (encI.all xs).take k := by rw [encI_all19, encI_all19, List.map_take]
  rcases h.2 with ⟨-, h0⟩ | ⟨g, cap, cur, hv, hbg, hg, hnc, hcm, hcs, htake⟩
  · omega
  · injection hv with h1 h2 h3
    subst h1; subst h3
    refine ⟨?_, .inr ⟨g, c, cur, rfl, hbg, hg, by omega, hcm, hcs, ?_⟩⟩
    · rw [he, List.length_take, h.1]; omega
    · rw [he, ← htake, List.take_take]
      congr 1
      omega
section
variable {f : Fac}
theorem ldS_neg {l : List Int} {r : Nat} (h : f.frm.getD r 0 < 0) : ldS f l r = l := by unfold ldS; rw [if_pos h]
theorem ldS_nil {r : Nat} (h : ¬ f.frm.getD r 0 < 0) : ldS f [] r = [(r : Int)] := by unfold ldS; rw [if_neg h]; rfl
theorem ldS_same {l : List Int} {r : Nat} {z : Int} (h : ¬ f.frm.getD r 0 < 0) (hz : l[l.length - 1]? = some z) (hs : seZ f z = seZ f (r : Int)) : ldS f l r = l.take (l.length - 1) ++ [(r : Int)] := by
  unfold ldS
  rw [if_neg h, List.getLast?_eq_getElem?, hz]
  simp only [hs, if_true, List.dropLast_eq_take]
theorem ldS_new {l : List Int} {r : Nat} {z : Int} (h : ¬ f.frm.getD r 0 < 0) (hz : l[l.length - 1]? = some z) (hs : seZ f z ≠ seZ f (r : Int)) : ldS f l r = l ++ [(r : Int)] := by
  unfold ldS
  rw [if_neg h, List.getLast?_eq_getElem?, hz]
  simp only [if_neg hs]
end
set_option maxRecDepth 100000 in
set_option maxHeartbeats 1000000 in
theorem bad_lastReads {w0 : World} {v : FV} {f : Fac} {A : Option Addr} {c s : Nat} {R : Value} (U : World) (hE : EnvB v f) (hS : SrAt w0 v f A c s R U) :
    Calls Tryz.prog 90 #[.pointer (some ⟨s, 0, none⟩)] U (RetILF (ldF f v.m) U) := by
  have hvm := hE.hvm
  have hkm : v.k = v.m := by have h1 := hS.fa.fs.len; have h2 := hE.frl; omega
  have hin := Lib.hid (fun k (hk : k ≤ v.m) => (ldF_is hE.hx.nb k (by rw [hE.hil]; exact hk)).inn)
  obtain ⟨i0, hi, hz0, hz1, hz2⟩ := info_parts info_int16
  replace hi := Lib.hid hi
  replace hz0 := Lib.hid hz0
  replace hz1 := Lib.hid hz1
  replace hz2 := Lib.hid hz2
  have hS0 := Lib.hid hS
  clear hE hS
  -- the cells of what is looked in (hS0 : Hid SrAt): p0 .. p5
  have p0 := hS0.out.c0
  have p1 := hS0.out.c1
  have p2 := hS0.out.c2
  have p3 := hS0.out.c3
  have p4 := hS0.out.c4
  have p5 := hS0.out.c5
  go_enter Tryz.func90, Tryz.ntmps90
  go_wp2_with fail
  clear p0 p1 p2 p3 p4 p5
  have hb0 := Lib.hid (Below.refl U.heap.size U)
  obtain ⟨V2, hV2⟩ : ∃ V, V = U := ⟨_, rfl⟩
  go_loopw [3, 13] (fun u t wr => ∃ i : Nat, i ≤ v.k ∧ t = .int .i64 (i : Int) ∧ Hid (Below V2.heap.size V2 wr) ∧ Hid (wr.ownsRow V2.heap.size 3 1 u (ldF f i).length (encI.all (ldF f i)))) (fun _ t _ => v.k - (intOf t).toNat)
  case atStart => exact ⟨0, Nat.zero_le _, rfl, by rw [hV2]; exact hb0, Lib.hid (World.ownsRow_nil _ _ _ _)⟩
  case round =>
    subst hV2
    clear hb0
    obtain ⟨i, hik, rfl, hb, hown⟩ := hrel
    have hll := ldF_len (f := f) i
    have hini := hin.out i (by omega)
    obtain ⟨xs, hxs⟩ : ∃ l, l = ldF f i := ⟨_, rfl⟩
    have hnx : Hid (ldF f (i + 1) = ldS f xs i) := Lib.hid (by rw [hxs]; rfl)
    rw [← hxs] at hown hll hini
    replace hxs := Lib.hid hxs
    obtain ⟨L, hLl⟩ : ∃ L, L = xs.length := ⟨_, rfl⟩
    rw [← hLl] at hown hll
    replace hLl := Lib.hid hLl
    have hok : ∀ z ∈ xs, encI.ok z := fun z hz => by
      obtain ⟨q, y, rfl, hq, -⟩ := hini z hz
      exact ⟨by omega, by omega⟩
    replace hS0 := Lib.hid (hS0.out.later hb.out)
    by_cases hlt : i < v.k
    · have hlt' : (i : Int) < (v.k : Int) := by omega
      have bi : 0 ≤ (i : Int) ∧ (i : Int) < (v.k : Int) := by omega
      obtain ⟨zb, zo, z, hzC, -, hz, -, k0⟩ := hS0.out.fa.fs.int hlt
      have hgd : f.frm.getD i 0 = z := by rw [List.getD_eq_getElem?_getD, hz]; rfl
      rw [hzC]
      replace hlt := Lib.hid hlt
      replace hzC := Lib.hid hzC
      clear hz
      by_cases hzn : z < 0
      · have d0 : decide (z < 0) = true := decide_eq_true hzn
        have hst := Lib.hid (ldS_neg (f := f) (l := xs) (r := i) (by rw [hgd]; exact hzn))
        replace hgd := Lib.hid hgd
        clear hini hok
        go_wp2_with fail
        exact ⟨⟨i + 1, by have := hlt.out; omega, by go_num, hb, Lib.hid (by rw [hnx.out, hst.out, ← hLl.out]; exact hown.out)⟩, by have := hlt.out; simp [intOf]; omega⟩
      · have d0 : decide (z < 0) = false := decide_eq_false hzn
        rw [← hgd] at hzn
        replace hgd := Lib.hid hgd
        obtain ⟨D, d, rfl, hLd, hdm, hLA⟩ := LAt.of_own (E := encI) hown.out hok hLl.out.symm
        obtain ⟨ib, io, x, hxB, -, hx, -, q0, -, -, -, -⟩ := hS0.out.fa.is.item (show i < v.m by omega)
        have hsx := seZ_at hx
        have biv : 0 ≤ (i : Int) ∧ (i : Int) < (v.m : Int) := by omega
        rcases Nat.eq_zero_or_pos L with hL0 | hL0
        · subst hL0
          have hxn : xs = [] := List.eq_nil_of_length_eq_zero hLl.out.symm
          have hst := Lib.hid (show ldS f xs i = xs ++ [(i : Int)] from by rw [hxn]; exact ldS_nil hzn)
          replace hok := Lib.hid hok
          clear hini hxn hx hsx hLA
          go_wp2_with fail
          refine wp_region_plan 26 [(true, 0), (true, 1), (true, 2), (true, 3), (true, 4), (true, 5), (true, 6), (true, 7), (true, 8), (true, 9), (true, 10), (true, 11), (true, 12), (true, 13), (true, 14), (true, 15), (true, 16), (true, 17), (true, 18), (true, 19), (true, 20), (true, 21), (true, 22), (true, 23), (true, 24), (true, 25)] (by kernel_rfl) (by kernel_rfl) (fun V hV => ?_)
          have hU' : Below wr.heap.size wr V := by rw [hV.out]; exact (Below.refl _ _).drew
          have drw : ∀ p u, wr.cell? p = some u → V.cell? p = some u := fun p u h => by rw [hV.out]; exact h
          replace hS0 := Lib.hid (hS0.out.later hU')
          replace hb := Lib.hid (below_trans2 hb.out hU')
          clear hV
          simp only [List.drop_succ_cons, List.drop_nil]
          -- the cells of what is looked in (hS0 : Hid SrAt): p0 .. p5
          have p0 := hS0.out.c0
          have p1 := hS0.out.c1
          have p2 := hS0.out.c2
          have p3 := hS0.out.c3
          have p4 := hS0.out.c4
          have p5 := hS0.out.c5
          rw [hxB] at p1
          replace hown := Lib.hid (own_below hown.out hU')
          clear drw hU'
          iterate 3
            refine wpPlan_float (v := ?_) rfl (by rfl) (fun w' hw' => ?_) (fun K hK => ?_)
            rotate_left
            · (go_simp; try with_reducible rfl)
            go_simp
            refine hK _ ?_
            clear hK K
          iterate 22
            refine wpPlan_skip rfl (by rfl) (fun K hK => ?_)
            go_simp
            refine hK _ ?_
            clear hK K
          iterate 1
            refine wpPlan_float (v := ?_) rfl (by rfl) (fun w' hw' => ?_) (fun K hK => ?_)
            rotate_left
            · (go_simp; try with_reducible rfl)
            go_simp
            refine hK _ ?_
            clear hK K
          clear p0 p1 p2 p3 p4 p5
          refine wpPlan_nil (NoPanic.normal ?_)
          -- the number i is appended to $u (the row xs of length L): behind it the round ends (← hLl.out : what the row is then)
          -- 'append(out, (i : Int))' (temps 52 54) in the world V: hown : the row xs of length L (hL), hb : Below V2 .. V; behind it: hown', hb7
          obtain ⟨gl, hgl⟩ : ∃ g, g = (V).heap.size := ⟨_, rfl⟩
          obtain ⟨VL, hVL⟩ : ∃ W, W = World.alloc (V) (.cells #[.int .i64 (i : Int)] 3) := ⟨_, rfl⟩
          have bL : Below (V).heap.size (V) VL := by rw [hVL]; exact (Below.refl _ _).alloc (Nat.le_refl _) _
          have hlit := Lib.hid (show LAt encI VL (some ⟨gl, 0, none⟩) 1 [(i : Int)] from by rw [hVL, hgl]; exact LAt.lit1 (E := encI) (V) 3 (i : Int) ⟨by omega, by omega⟩)
          have hownL := Lib.hid (own_below hown.out bL)
          have bWL := Lib.hid (below_trans2 hb.out bL)
          have hbase := Lib.hid bWL.out.size
          clear bL
          go_wp2_with (first
            | (rw [← hVL, ← hgl]; clear hVL hgl)
            | (at_builtin; refine wpList_append_L (E := encI) rfl (.tmp 52) (.tmp 54) _ rfl V2.heap.size 3 i0 _ 8 Tryz.underlying27 hi.out hz0.out hz1.out hz2.out rfl _ (0) (xs) (by rfl) hownL.out _ 1 1 _ rfl hlit.out (by unfold maxLen; omega) (by omega) hbase.out ?_; intro v' w7 hown' hb7 _ _))
          exact ⟨⟨i + 1, by have := hlt.out; omega, by go_num, Lib.hid (bWL.out.trans hb7), Lib.hid (by rw [hnx.out, hst.out, List.length_append, ← hLl.out]; exact hown')⟩, by have := hlt.out; simp [intOf]; omega⟩
        · obtain ⟨q, rfl⟩ : ∃ q, L = q + 1 := ⟨L - 1, by omega⟩
          obtain ⟨db, dof, z2, hD, -, hz2, -, c0⟩ := hLA.int (show q < q + 1 by omega)
          have hz2' : xs[xs.length - 1]? = some z2 := by rw [← hLl.out, Nat.add_sub_cancel]; exact hz2
          obtain ⟨pz, y, rfl, hpz, hy, -⟩ := hini z2 (List.mem_of_getElem? hz2)
          obtain ⟨ib2, io2, y', hxB2, -, hy', -, r0, -, -, -, -⟩ := hS0.out.fa.is.item (show pz < v.m by omega)
          rw [hy] at hy'
          injection hy' with hy'
          subst hy'
          rw [hxB] at hxB2
          injection hxB2 with hxB2
          injection hxB2 with hb1 hb2
          subst hb1; subst hb2
          have hsy := seZ_at hy
          subst hD
          have biq : 0 ≤ (q : Int) ∧ (q : Int) < (q : Int) + 1 := by omega
          have bip : 0 ≤ (pz : Int) ∧ (pz : Int) < (v.m : Int) := by omega
          have bqd : 0 ≤ (q : Int) ∧ (q : Int) ≤ (d : Int) := by omega
          have dq : decide ((0 : Int) ≤ (q : Int)) = true := decide_eq_true (by omega)
          obtain ⟨sx, hsxe⟩ : ∃ z, z = x.se := ⟨_, rfl⟩
          obtain ⟨sy, hsye⟩ : ∃ z, z = y.se := ⟨_, rfl⟩
          rw [← hsxe] at q0 hsx
          rw [← hsye] at r0 hsy
          by_cases hse : sy = sx
          · have hst := Lib.hid (show ldS f xs i = xs.take q ++ [(i : Int)] from by
              rw [ldS_same hzn hz2' (by rw [hsx, hsy]; exact hse), ← hLl.out, Nat.add_sub_cancel])
            have es : (sy == sx) = true := by rw [hse]; simp
            have hown2 := Lib.hid (own_take19 (k := q) hown.out hLl.out.symm (by omega))
            replace hok := Lib.hid hok
            replace hse := Lib.hid hse
            replace hzn := Lib.hid hzn
            clear hini hx hsx hy hsy hz2 hz2' hLA hsxe hsye
            go_wp2_with fail
            refine wp_region_plan 26 [(true, 0), (true, 1), (true, 2), (true, 3), (true, 4), (true, 5), (true, 6), (true, 7), (true, 8), (true, 9), (true, 10), (true, 11), (true, 12), (true, 13), (true, 14), (true, 15), (true, 16), (true, 17), (true, 18), (true, 19), (true, 20), (true, 21), (true, 22), (true, 23), (true, 24), (true, 25)] (by kernel_rfl) (by kernel_rfl) (fun V hV => ?_)
            have hU' : Below wr.heap.size wr V := by rw [hV.out]; exact (Below.refl _ _).drew
            have drw : ∀ p u, wr.cell? p = some u → V.cell? p = some u := fun p u h => by rw [hV.out]; exact h
            replace hS0 := Lib.hid (hS0.out.later hU')
            replace hb := Lib.hid (below_trans2 hb.out hU')
            clear hV
            simp only [List.drop_succ_cons, List.drop_nil]
            -- the cells of what is looked in (hS0 : Hid SrAt): p0 .. p5
            have p0 := hS0.out.c0
            have p1 := hS0.out.c1
            have p2 := hS0.out.c2
            have p3 := hS0.out.c3
            have p4 := hS0.out.c4
            have p5 := hS0.out.c5
            rw [hxB] at p1
            replace c0 := drw _ _ c0
            replace q0 := drw _ _ q0
            replace r0 := drw _ _ r0
            clear drw
            replace hown := Lib.hid (own_below hown2.out hU')
            clear hU'
            iterate 26
              refine wpPlan_float (v := ?_) rfl (by rfl) (fun w' hw' => ?_) (fun K hK => ?_)
              rotate_left
              · (go_simp; try with_reducible rfl)
              go_simp
              refine hK _ ?_
              clear hK K
            clear p0 p1 p2 p3 p4 p5 c0 q0 r0 hown2
            refine wpPlan_nil (NoPanic.normal ?_)
            -- the number i is appended to $u (the row (xs.take q) of length L): behind it the round ends (List.length_take, Nat.min_eq_left (by rw [← hLl.out]; omega) : what the row is then)
            -- 'append(out, (i : Int))' (temps 52 54) in the world V: hown : the row xs.take q of length L (hL), hb : Below V2 .. V; behind it: hown', hb7
            obtain ⟨gl, hgl⟩ : ∃ g, g = (V).heap.size := ⟨_, rfl⟩
            obtain ⟨VL, hVL⟩ : ∃ W, W = World.alloc (V) (.cells #[.int .i64 (i : Int)] 3) := ⟨_, rfl⟩
            have bL : Below (V).heap.size (V) VL := by rw [hVL]; exact (Below.refl _ _).alloc (Nat.le_refl _) _
            have hlit := Lib.hid (show LAt encI VL (some ⟨gl, 0, none⟩) 1 [(i : Int)] from by rw [hVL, hgl]; exact LAt.lit1 (E := encI) (V) 3 (i : Int) ⟨by omega, by omega⟩)
            have hownL := Lib.hid (own_below hown.out bL)
            have bWL := Lib.hid (below_trans2 hb.out bL)
            have hbase := Lib.hid bWL.out.size
            clear bL
            go_wp2_with (first
              | (rw [← hVL, ← hgl]; clear hVL hgl)
              | (at_builtin; refine wpList_append_L (E := encI) rfl (.tmp 52) (.tmp 54) _ rfl V2.heap.size 3 i0 _ 8 Tryz.underlying27 hi.out hz0.out hz1.out hz2.out rfl _ (q) (xs.take q) (by rfl) hownL.out _ 1 1 _ rfl hlit.out (by unfold maxLen; omega) (by omega) hbase.out ?_; intro v' w7 hown' hb7 _ _))
            exact ⟨⟨i + 1, by have := hlt.out; omega, by go_num, Lib.hid (bWL.out.trans hb7), Lib.hid (by rw [hnx.out, hst.out, List.length_append, List.length_take, Nat.min_eq_left (by rw [← hLl.out]; omega)]; exact hown')⟩, by have := hlt.out; simp [intOf]; omega⟩
          · have hst := Lib.hid (show ldS f xs i = xs ++ [(i : Int)] from ldS_new hzn hz2' (by rw [hsx, hsy]; exact hse))
            have es : (sy == sx) = false := by simpa using hse
            have hown2 := hown
            replace hok := Lib.hid hok
            replace hse := Lib.hid hse
            replace hzn := Lib.hid hzn
            clear hini hx hsx hy hsy hz2 hz2' hLA hsxe hsye
            go_wp2_with fail
            refine wp_region_plan 26 [(true, 0), (true, 1), (true, 2), (true, 3), (true, 4), (true, 5), (true, 6), (true, 7), (true, 8), (true, 9), (true, 10), (true, 11), (true, 12), (true, 13), (true, 14), (true, 15), (true, 16), (true, 17), (true, 18), (true, 19), (true, 20), (true, 21), (true, 22), (true, 23), (true, 24), (true, 25)] (by kernel_rfl) (by kernel_rfl) (fun V hV => ?_)
            have hU' : Below wr.heap.size wr V := by rw [hV.out]; exact (Below.refl _ _).drew
            have drw : ∀ p u, wr.cell? p = some u → V.cell? p = some u := fun p u h => by rw [hV.out]; exact h
            replace hS0 := Lib.hid (hS0.out.later hU')
            replace hb := Lib.hid (below_trans2 hb.out hU')
            clear hV
            simp only [List.drop_succ_cons, List.drop_nil]
            -- the cells of what is looked in (hS0 : Hid SrAt): p0 .. p5
            have p0 := hS0.out.c0
            have p1 := hS0.out.c1
            have p2 := hS0.out.c2
            have p3 := hS0.out.c3
            have p4 := hS0.out.c4
            have p5 := hS0.out.c5
            rw [hxB] at p1
            replace c0 := drw _ _ c0
            replace q0 := drw _ _ q0
            replace r0 := drw _ _ r0
            clear drw
            replace hown := Lib.hid (own_below hown2.out hU')
            clear hU'
            iterate 26
              refine wpPlan_float (v := ?_) rfl (by rfl) (fun w' hw' => ?_) (fun K hK => ?_)
              rotate_left
              · (go_simp; try with_reducible rfl)
              go_simp
              refine hK _ ?_
              clear hK K
            clear p0 p1 p2 p3 p4 p5 c0 q0 r0 hown2
            refine wpPlan_nil (NoPanic.normal ?_)
            -- the number i is appended to $u (the row xs of length L): behind it the round ends (← hLl.out : what the row is then)
            -- 'append(out, (i : Int))' (temps 52 54) in the world V: hown : the row xs of length L (hL), hb : Below V2 .. V; behind it: hown', hb7
            obtain ⟨gl, hgl⟩ : ∃ g, g = (V).heap.size := ⟨_, rfl⟩
            obtain ⟨VL, hVL⟩ : ∃ W, W = World.alloc (V) (.cells #[.int .i64 (i : Int)] 3) := ⟨_, rfl⟩
            have bL : Below (V).heap.size (V) VL := by rw [hVL]; exact (Below.refl _ _).alloc (Nat.le_refl _) _
            have hlit := Lib.hid (show LAt encI VL (some ⟨gl, 0, none⟩) 1 [(i : Int)] from by rw [hVL, hgl]; exact LAt.lit1 (E := encI) (V) 3 (i : Int) ⟨by omega, by omega⟩)
            have hownL := Lib.hid (own_below hown.out bL)
            have bWL := Lib.hid (below_trans2 hb.out bL)
            have hbase := Lib.hid bWL.out.size
            clear bL
            go_wp2_with (first
              | (rw [← hVL, ← hgl]; clear hVL hgl)
              | (at_builtin; refine wpList_append_L (E := encI) rfl (.tmp 52) (.tmp 54) _ rfl V2.heap.size 3 i0 _ 8 Tryz.underlying27 hi.out hz0.out hz1.out hz2.out rfl _ (q + 1) (xs) (by rfl) hownL.out _ 1 1 _ rfl hlit.out (by unfold maxLen; omega) (by omega) hbase.out ?_; intro v' w7 hown' hb7 _ _))
            exact ⟨⟨i + 1, by have := hlt.out; omega, by go_num, Lib.hid (bWL.out.trans hb7), Lib.hid (by rw [hnx.out, hst.out, List.length_append, ← hLl.out]; exact hown')⟩, by have := hlt.out; simp [intOf]; omega⟩
    · have hlt' : ¬ (i : Int) < (v.k : Int) := by omega
      obtain rfl : i = v.k := by omega
      obtain ⟨D, d, rfl, hLd, hdm, hLA⟩ := LAt.of_own (E := encI) hown.out hok hLl.out.symm
      have hfr := own_fresh19 hown.out
      have hres := Lib.hid (show LAt encI wr D L (ldF f v.m) from by rw [← hkm, ← hxs.out]; exact hLA)
      clear hlt hini hok hLA
      go_wp2_with fail
      go_ret
      exact ⟨D, L, d, rfl, hres.out, hLd, hdm, hb.out, hfr⟩
end Go.Proofs.YtjhjojklfdjmdaaGreat

namespace Go.Proofs.YtjhjojklfdjmdaaGreat
open Go.RowKit
set_option linter.unusedVariables false
/-- the first write that a read from the beginning has ahead of it -/
def missG (f : Fac) (X : List (List Nat)) (r : Int) : Option Int := if f.frm.getD r.toNat 0 = -1 then (aheadW f X r).head? else none
theorem earlyG_miss (f : Fac) (X : List (List Nat)) (k r : Int) : earlyG f X k r = (missG f X r).map fun z => ⟨k, r, z, -1, -1, -1, -1⟩ := by
  unfold earlyG missG
  split <;> simp
/-- a call's answer: a number and whether there is one -/
def RetMiss (o : Option Int) (w : World) (e : Ending) (w' : World) : Prop := ∃ (z : Int) (b : Bool), z = o.getD (-1) ∧ b = o.isSome ∧ e = .returned (.tuple #[.int .i64 z, .bool b]) ∧ Below w.heap.size w w'
def RetMiss2 (o : Option Wit) (w : World) (e : Ending) (w' : World) : Prop := ∃ (r z : Int) (b : Bool), r = (o.getD (noneW 6)).r ∧ z = (o.getD (noneW 6)).w1 ∧ b = o.isSome ∧ e = .returned (.tuple #[.int .i64 r, .int .i64 z, .bool b]) ∧ Below w.heap.size w w'
set_option maxRecDepth 100000 in
set_option maxHeartbeats 2000000 in
theorem bad_writes {w0 : World} {v : FV} {f : Fac} {A : Option Addr} {c s : Nat} {R : Value} (B : Option Addr) (d : Nat) (X : List (List Nat)) (r : Nat) (U : World) (hE : EnvB v f) (hS : SrAt w0 v f A c s R U) (hr : RowsAt U B v.m X) (hG : Good v.m X) (hrl : r < v.m) :
    Calls Tryz.prog 55 #[.pointer (some ⟨s, 0, none⟩), .agg #[.int .i64 (v.m : Int), .slice B v.m d], .int .i64 (r : Int)] U (RetIL (aheadW f X (r : Int)) U) := by
  have hvm := hE.hvm
  -- the matrix (B d X) is boxed in the world U: W0, g; hM0
  have hM0 := Lib.hid (MatK.new (N := (v.m : Int)) (c := d) U 57 hr)
  obtain ⟨g, hg⟩ : ∃ g, g = U.heap.size := ⟨_, rfl⟩
  obtain ⟨W0, hW0⟩ : ∃ W, W = U.alloc (.cells #[.int .i64 (v.m : Int), .slice B v.m d] 57) := ⟨_, rfl⟩
  rw [← hW0, ← hg] at hM0
  have hbo := Lib.hid (show Below U.heap.size U W0 from by rw [hW0]; exact below_alloc _ _)
  have hS0 := Lib.hid (hS.later hbo.out)
  obtain ⟨ib, io, u, hxB, -, hu, -, -, -, -, i3, -⟩ := hS0.out.fa.is.item hrl
  have hAe : Hid (aheadW f X (r : Int) = wrsF f.items u.va (colF X (r : Int) v.m)) := Lib.hid (by unfold aheadW; rw [vaF_at hu, hE.hil])
  have hcl := Lib.hid (colF_len X (r : Int) v.m)
  have bi : 0 ≤ (r : Int) ∧ (r : Int) < (v.m : Int) := by omega
  obtain ⟨us, up, uw, ua, ul⟩ := u
  simp only at i3 hAe
  have cO := Lib.hid (fun W (hW : RowsAt W B v.m X) => past_Of B v.m d X (r : Int) W hW hG)
  have cW := Lib.hid (fun D m d l W hW hL hm => past_Writes v f D m d l ua W hW hL hm (by omega))
  rw [hxB] at cW
  replace hxB := Lib.hid hxB
  clear hu hE hr hS
  go_enter Tryz.func55, Tryz.ntmps55
  go_wp2_with (rw [← hW0, ← hg]; clear hW0; replace hg := Lib.hid hg)
  refine wp_region_plan 18 [(true, 0), (true, 1), (true, 2), (true, 3), (true, 4), (true, 5), (true, 7), (true, 8), (true, 9), (true, 10), (true, 11), (true, 12), (true, 13), (true, 14), (true, 15), (false, 6), (false, 16), (true, 17)] (by kernel_rfl) (by kernel_rfl) (fun V hV => ?_)
  have hV' : Below W0.heap.size W0 V := by rw [hV.out]; exact (Below.refl _ _).drew
  have drw : ∀ p u, W0.cell? p = some u → V.cell? p = some u := fun p u h => by rw [hV.out]; exact h
  replace i3 := drw _ _ i3
  replace hS0 := Lib.hid (hS0.out.later hV')
  replace hM0 := Lib.hid (hM0.out.below hV')
  replace hbo := Lib.hid (below_trans2 hbo.out hV')
  clear hV hV' drw
  simp only [List.drop_succ_cons, List.drop_nil]
  -- the cells of what is looked in (hS0 : Hid SrAt): p0 .. p5
  have p0 := hS0.out.c0
  have p1 := hS0.out.c1
  have p2 := hS0.out.c2
  have p3 := hS0.out.c3
  have p4 := hS0.out.c4
  have p5 := hS0.out.c5
  rw [hxB.out] at p1
  have m0 := hM0.out.1.c0
  have m1 := hM0.out.1.c1
  iterate 15
    refine wpPlan_float (v := ?_) rfl (by rfl) (fun w' hw' => ?_) (fun K hK => ?_)
    rotate_left
    · (go_simp; try with_reducible rfl)
    go_simp
    refine hK _ ?_
    clear hK K
  clear p0 p1 p2 p3 p4 p5 m0 m1 i3
  refine wpPlan_only rfl (by rfl) (fun K hK => ?_)
  go_simp
  refine (cO.out V hM0.out.2).mono ?_
  rintro e x1 ⟨C1, n1, c1, rfl, hl1, -, -, b⟩
  refine hK _ _ b ?_
  clear hK K
  replace hbo := Lib.hid (below_trans2 hbo.out b)
  replace hS0 := Lib.hid (hS0.out.later b)
  have hn1 : n1 ≤ 1048576 := by have h1 := hcl.out; rw [← hl1.len]; omega
  replace cW := Lib.hid (cW.out C1 n1 c1 _ x1 hS0.out.fa hl1 hn1)
  clear b hM0 hxB cO hl1
  refine wpPlan_only rfl (by rfl) (fun K hK => ?_)
  go_simp
  refine cW.out.mono ?_
  rintro e x2 ⟨C2, n2, c2, rfl, hl2, h3, h4, b⟩
  refine hK _ _ b ?_
  clear hK K
  rw [← hAe.out] at hl2
  have hx : RetIL (aheadW f X (r : Int)) U (.returned (.slice C2 n2 c2)) x2 := ⟨C2, n2, c2, rfl, hl2, h3, h4, below_trans2 hbo.out b⟩
  replace hx := Lib.hid hx
  clear hl2 h3 h4 b hbo hS0 cW
  iterate 1
    refine wpPlan_float (v := ?_) rfl (by rfl) (fun w' hw' => ?_) (fun K hK => ?_)
    rotate_left
    · (go_simp; try with_reducible rfl)
    go_simp
    refine hK _ ?_
    clear hK K
  refine wpPlan_nil (NoPanic.normal ?_)
  go_wp2_with fail
  go_ret
  exact hx.out
set_option maxRecDepth 100000 in
set_option maxHeartbeats 2000000 in
theorem bad_missed {w0 : World} {v : FV} {f : Fac} {A : Option Addr} {c s : Nat} {R : Value} (B : Option Addr) (d : Nat) (X : List (List Nat)) (r : Nat) (U : World) (hE : EnvB v f) (hS : SrAt w0 v f A c s R U) (hr : RowsAt U B v.m X) (hG : Good v.m X) (hrl : r < v.m) :
    Calls Tryz.prog 54 #[.pointer (some ⟨s, 0, none⟩), .agg #[.int .i64 (v.m : Int), .slice B v.m d], .int .i64 (r : Int)] U (RetMiss (missG f X (r : Int)) U) := by
  -- the matrix (B d X) is boxed in the world U: W0, g; hM0
  have hM0 := Lib.hid (MatK.new (N := (v.m : Int)) (c := d) U 57 hr)
  obtain ⟨g, hg⟩ : ∃ g, g = U.heap.size := ⟨_, rfl⟩
  obtain ⟨W0, hW0⟩ : ∃ W, W = U.alloc (.cells #[.int .i64 (v.m : Int), .slice B v.m d] 57) := ⟨_, rfl⟩
  rw [← hW0, ← hg] at hM0
  have hbo := Lib.hid (show Below U.heap.size U W0 from by rw [hW0]; exact below_alloc _ _)
  have hS0 := Lib.hid (hS.later hbo.out)
  have hkl : v.k = v.m := by have h1 := hS.fa.fs.len; have h2 := hE.frl; omega
  obtain ⟨fb, fo, z, hzC, -, hz, -, z0⟩ := hS0.out.fa.fs.int (show r < v.k by omega)
  have hgd : f.frm.getD r 0 = z := by rw [List.getD_eq_getElem?_getD, hz]; rfl
  have hMe : missG f X (r : Int) = if z = -1 then (aheadW f X (r : Int)).head? else none := by unfold missG; rw [Int.toNat_natCast, hgd]
  have bi : 0 ≤ (r : Int) ∧ (r : Int) < (v.k : Int) := by omega
  have cW := Lib.hid (bad_writes B d X r W0 hE hS0.out hM0.out.2 hG hrl)
  -- the cells of what is looked in (hS0 : Hid SrAt): p0 .. p5
  have p0 := hS0.out.c0
  have p1 := hS0.out.c1
  have p2 := hS0.out.c2
  have p3 := hS0.out.c3
  have p4 := hS0.out.c4
  have p5 := hS0.out.c5
  rw [hzC] at p2
  have m0 := hM0.out.1.c0
  have m1 := hM0.out.1.c1
  replace hzC := Lib.hid hzC
  clear hz hgd hE hr hS
  by_cases hz1 : z = -1
  · have e0 : (z == -1) = true := by rw [hz1]; rfl
    rw [if_pos hz1] at hMe
    replace hMe := Lib.hid hMe
    subst hz1
    go_enter Tryz.func54, Tryz.ntmps54
    go_wp2_with (rw [← hW0, ← hg]; clear hW0; replace hg := Lib.hid hg)
    refine cW.out.mono ?_
    rintro e w2 ⟨C, n, cc, rfl, hL, hnc, hcm, b⟩
    have hbb := Lib.hid (below_trans2 hbo.out b)
    obtain ⟨al, hal⟩ : ∃ l, l = aheadW f X (r : Int) := ⟨_, rfl⟩
    rw [← hal] at hMe hL
    clear b hnc hcm cW hal hS0 hM0 p0 p1 p2 p3 p4 p5 m0 m1
    rcases Nat.eq_zero_or_pos n with hn | hn
    · subst hn
      have hal : al = [] := List.eq_nil_of_length_eq_zero hL.len
      subst hal
      clear hL
      go_wp2_with fail
      exact bodyPost_ret (v := .tuple #[.int .i64 (-1), .bool false]) (by simp [results, go_sem]) rfl ⟨-1, false, by rw [hMe.out]; rfl, by rw [hMe.out]; rfl, rfl, hbb.out⟩
    · obtain ⟨cb, co, y, hC2, hcb, hy, -, y0⟩ := hL.int hn
      rw [Nat.add_zero] at y0
      have e1 : ((n : Int) == 0) = false := by simp; omega
      have bn : (0 : Int) < (n : Int) := by omega
      have hh : al.head? = some y := by rw [List.head?_eq_getElem?]; exact hy
      rw [hh] at hMe
      subst hC2
      clear hL hy hh
      replace hn := Lib.hid hn
      go_wp2_with fail
      exact bodyPost_ret (v := .tuple #[.int .i64 y, .bool true]) (by simp [results, go_sem]) rfl ⟨y, true, by rw [hMe.out]; rfl, by rw [hMe.out]; rfl, rfl, hbb.out⟩
  · have e0 : (z == -1) = false := by simpa using hz1
    rw [if_neg hz1] at hMe
    replace hMe := Lib.hid hMe
    replace hz1 := Lib.hid hz1
    clear cW
    go_enter Tryz.func54, Tryz.ntmps54
    go_wp2_with (rw [← hW0, ← hg]; clear hW0; replace hg := Lib.hid hg)
    exact bodyPost_ret (v := .tuple #[.int .i64 (-1), .bool false]) (by simp [results, go_sem]) rfl ⟨-1, false, by rw [hMe.out]; rfl, by rw [hMe.out]; rfl, rfl, hbo.out⟩
set_option maxRecDepth 100000 in
set_option maxHeartbeats 2000000 in
theorem bad_firstMissed {w0 : World} {v : FV} {f : Fac} {A : Option Addr} {c s : Nat} {R : Value} (B : Option Addr) (d : Nat) (X : List (List Nat)) (o : Nat) (U : World) (hE : EnvB v f) (hS : SrAt w0 v f A c s R U) (hr : RowsAt U B v.m X) (hG : Good v.m X) :
    Calls Tryz.prog 62 #[.pointer (some ⟨s, 0, none⟩), .agg #[.int .i64 (v.m : Int), .slice B v.m d], .int .i64 (o : Int)] U (RetMiss2 (earlyF f X 6 (keptO f o)) U) := by
  have hvm := hE.hvm
  -- the matrix (B d X) is boxed in the world U: W0, g; hM0
  have hM0 := Lib.hid (MatK.new (N := (v.m : Int)) (c := d) U 57 hr)
  obtain ⟨g, hg⟩ : ∃ g, g = U.heap.size := ⟨_, rfl⟩
  obtain ⟨W0, hW0⟩ : ∃ W, W = U.alloc (.cells #[.int .i64 (v.m : Int), .slice B v.m d] 57) := ⟨_, rfl⟩
  rw [← hW0, ← hg] at hM0
  have hbo := Lib.hid (show Below U.heap.size U W0 from by rw [hW0]; exact below_alloc _ _)
  have hS0 := Lib.hid (hS.later hbo.out)
  have cK := Lib.hid (past_Kept v f (o : Int) W0 hS0.out.fa (by omega) hE.hx.nb)
  have hkok := Lib.hid (fun z (hz : z ∈ keptO f o) => hE.ko hz)
  have hklen := hE.kl o
  have cM := Lib.hid (fun (r : Nat) (hr : r < v.m) W hW hX => bad_missed (w0 := w0) (A := A) (c := c) (s := s) (R := R) B d X r W hE hW hX hG hr)
  rw [earlyF_eq]
  obtain ⟨ks, hks⟩ : ∃ l, l = keptO f o := ⟨_, rfl⟩
  rw [← hks] at hkok hklen ⊢
  replace hks : Hid (keptF f.items (pastF f.items (o : Int) f.items.length) = ks) := Lib.hid hks.symm
  rw [hks.out] at cK
  -- the cells of what is looked in (hS0 : Hid SrAt): p0 .. p5
  have p0 := hS0.out.c0
  have p1 := hS0.out.c1
  have p2 := hS0.out.c2
  have p3 := hS0.out.c3
  have p4 := hS0.out.c4
  have p5 := hS0.out.c5
  have m0 := hM0.out.1.c0
  have m1 := hM0.out.1.c1
  clear hE hr hS
  go_enter Tryz.func62, Tryz.ntmps62
  go_wp2_with (rw [← hW0, ← hg]; clear hW0; replace hg := Lib.hid hg)
  refine cK.out.mono ?_
  rintro e w2 ⟨C, n, cc, rfl, hL, -, -, b⟩
  have hnl := hL.len
  replace hS0 := Lib.hid (hS0.out.later b)
  replace hM0 := Lib.hid (hM0.out.below b)
  replace hbo := Lib.hid (below_trans2 hbo.out b)
  replace hL := Lib.hid hL
  clear b cK p0 p1 p2 p3 p4 p5 m0 m1
  go_wp2_with fail
  have hb0 := Lib.hid (Below.refl w2.heap.size w2)
  go_loopw [20] (fun t wr => ∃ i : Nat, i ≤ n ∧ t = .int .i64 (i : Int) ∧ Hid ((ks.take i).findSome? (earlyG f X 6) = none) ∧ Hid (Below w2.heap.size w2 wr)) (fun t _ => n - (intOf t).toNat)
  case atStart => exact ⟨0, Nat.zero_le _, rfl, Lib.hid rfl, hb0⟩
  case round =>
    clear hb0
    obtain ⟨i, hi, rfl, hno, hb⟩ := hrel
    replace hS0 := Lib.hid (hS0.out.later hb.out)
    replace hM0 := Lib.hid (hM0.out.below hb.out)
    replace hbo := Lib.hid (below_trans2 hbo.out hb.out)
    have m0 := hM0.out.1.c0
    have m1 := hM0.out.1.c1
    by_cases hlt : i < n
    · have hlt' : (i : Int) < (n : Int) := by omega
      have bi : 0 ≤ (i : Int) ∧ (i : Int) < (n : Int) := by omega
      obtain ⟨db, dof, r, hD, -, hr, -, r0⟩ := (hL.out.below hb.out).int hlt
      subst hD
      obtain ⟨rn, rfl⟩ := Int.eq_ofNat_of_zero_le (hkok.out r (List.mem_of_getElem? hr)).1
      have hst := findSome_step hr hno.out
      have cMr := Lib.hid (cM.out rn (by have := (hkok.out _ (List.mem_of_getElem? hr)).2; omega) wr hS0.out hM0.out.2)
      have hEm := earlyG_miss f X 6 (rn : Int)
      rw [hEm] at hst
      obtain ⟨om, hom⟩ : ∃ x, x = missG f X (rn : Int) := ⟨_, rfl⟩
      rw [← hom] at cMr hst
      replace hst := Lib.hid hst
      replace hom := Lib.hid hom
      replace hr := Lib.hid hr
      replace hlt := Lib.hid hlt
      clear hEm
      go_wp2_with fail
      refine cMr.out.mono ?_
      rintro e w3 ⟨z, bo, hz, hbe, rfl, b⟩
      replace hb := Lib.hid (below_trans2 hb.out b)
      replace hbo := Lib.hid (below_trans2 hbo.out b)
      clear b m0 m1 r0 cMr
      cases om with
      | none =>
        have hz' : z = -1 := hz
        have hb' : bo = false := hbe
        subst hz'; subst hb'
        have hnx := Lib.hid (hst.out.1 rfl)
        clear hz hbe
        go_wp2_with fail
        exact ⟨⟨i + 1, by have := hlt.out; omega, by go_num, hnx, hb⟩, by have := hlt.out; simp [intOf]; omega⟩
      | some y =>
        have hz' : z = y := hz
        have hb' : bo = true := hbe
        subst hz'; subst hb'
        have hnx := Lib.hid (hst.out.2 _ rfl)
        clear hz hbe
        go_wp2_with fail
        exact bodyPost_ret (v := .tuple #[.int .i64 (rn : Int), .int .i64 z, .bool true]) (by simp [results, go_sem]) rfl ⟨(rn : Int), z, true, by rw [hnx.out]; rfl, by rw [hnx.out]; rfl, by rw [hnx.out]; rfl, rfl, hbo.out⟩
    · have hlt' : ¬ (i : Int) < (n : Int) := by omega
      have hans : Hid (ks.findSome? (earlyG f X 6) = none) := Lib.hid (by
        have h := hno.out
        rwa [List.take_of_length_le (by omega)] at h)
      clear hlt
      go_wp2_with fail
      exact bodyPost_ret (v := .tuple #[.int .i64 (-1), .int .i64 (-1), .bool false]) (by simp [results, go_sem]) rfl ⟨-1, -1, false, by rw [hans.out]; rfl, by rw [hans.out]; rfl, by rw [hans.out]; rfl, rfl, hbo.out⟩
set_option maxRecDepth 100000 in
set_option maxHeartbeats 2000000 in
theorem bad_hasMissed {w0 : World} {v : FV} {f : Fac} {A : Option Addr} {c s : Nat} {R : Value} (B : Option Addr) (d : Nat) (X : List (List Nat)) (o : Nat) (U : World) (hE : EnvB v f) (hS : SrAt w0 v f A c s R U) (hr : RowsAt U B v.m X) (hG : Good v.m X) :
    Calls Tryz.prog 61 #[.pointer (some ⟨s, 0, none⟩), .agg #[.int .i64 (v.m : Int), .slice B v.m d], .int .i64 (o : Int)] U (RetBool (earlyF f X 6 (keptO f o)).isSome U) := by
  -- the matrix (B d X) is boxed in the world U: W0, g; hM0
  have hM0 := Lib.hid (MatK.new (N := (v.m : Int)) (c := d) U 57 hr)
  obtain ⟨g, hg⟩ : ∃ g, g = U.heap.size := ⟨_, rfl⟩
  obtain ⟨W0, hW0⟩ : ∃ W, W = U.alloc (.cells #[.int .i64 (v.m : Int), .slice B v.m d] 57) := ⟨_, rfl⟩
  rw [← hW0, ← hg] at hM0
  have hbo := Lib.hid (show Below U.heap.size U W0 from by rw [hW0]; exact below_alloc _ _)
  have hS0 := Lib.hid (hS.later hbo.out)
  have cM := Lib.hid (bad_firstMissed B d X o W0 hE hS0.out hM0.out.2 hG)
  have m0 := hM0.out.1.c0
  have m1 := hM0.out.1.c1
  clear hE hr hS
  go_enter Tryz.func61, Tryz.ntmps61
  go_wp2_with (rw [← hW0, ← hg]; clear hW0; replace hg := Lib.hid hg)
  refine cM.out.mono ?_
  rintro e w2 ⟨r, z, b, hr, hz, hbe, rfl, hb⟩
  replace hbo := Lib.hid (below_trans2 hbo.out hb)
  replace hbe := Lib.hid hbe
  clear m0 m1 hb hr hz
  go_wp2_with fail
  go_ret
  rw [← hbe.out]
  exact ⟨rfl, hbo.out⟩
set_option maxRecDepth 100000 in
set_option maxHeartbeats 2000000 in
theorem bad_goesRound {n : Nat} (B : Option Addr) (d : Nat) (X : List (List Nat)) (o : Int) (U : World) (hr : RowsAt U B n X) (hG : Good n X) :
    Calls Tryz.prog 64 #[.agg #[.int .i64 (n : Int), .slice B n d], .int .i64 o] U (RetBool (loopB n X) U) := by
  have hM0 := Lib.hid (MatK.new (N := (n : Int)) (c := d) U 57 hr)
  obtain ⟨g, hg⟩ : ∃ g, g = U.heap.size := ⟨_, rfl⟩
  obtain ⟨W0, hW0⟩ : ∃ W, W = U.alloc (.cells #[.int .i64 (n : Int), .slice B n d] 57) := ⟨_, rfl⟩
  rw [← hW0, ← hg] at hM0
  have hbo := Lib.hid (show Below U.heap.size U W0 from by rw [hW0]; exact below_alloc _ _)
  have cM := Lib.hid (hull_Loop B n d X W0 hM0.out.2 hG.le (fun xs hx => by have := hG.small xs hx; omega))
  have m0 := hM0.out.1.c0
  have m1 := hM0.out.1.c1
  clear hr
  go_enter Tryz.func64, Tryz.ntmps64
  go_wp2_with (rw [← hW0, ← hg]; clear hW0; replace hg := Lib.hid hg)
  refine cM.out.mono ?_
  rintro e w2 ⟨r, b, rfl, hli, hb⟩
  have hbe := Lib.hid hli.b
  replace hbo := Lib.hid (below_trans2 hbo.out hb)
  clear m0 m1 hb hli
  go_wp2_with fail
  go_ret
  rw [← hbe.out]
  exact ⟨rfl, hbo.out⟩
end Go.Proofs.YtjhjojklfdjmdaaGreat

namespace Go.Proofs.YtjhjojklfdjmdaaGreat
open Go.RowKit
set_option linter.unusedVariables false
theorem seen_is {v : FV} {f : Fac} (hE : EnvB v f) {o k : Nat} (h : SeenIs f (keptF f.items (pastF f.items (o : Int) f.items.length)) (withinM v.m (coM f) (wihO (coM f) (o : Int) v.m)) k) : seX f (keptF f.items (pastF f.items (o : Int) f.items.length)) (withinM v.m (coM f) (wihO (coM f) (o : Int) v.m)) k = seenM f (coM f) o := by
  have hb : withinM v.m (coM f) (wihO (coM f) (o : Int) v.m) = baseM f (coM f) o := by unfold baseM; rw [hE.hil]
  rw [hb] at h ⊢
  have h2 := seenK_is (kept := keptO f o) (base_good hE.hw hE.n4 o).1
  have h : SeenIs f (keptO f o) (baseM f (coM f) o) k := h
  unfold seenM
  rw [h.unique h2]; rfl
set_option maxRecDepth 100000 in
set_option maxHeartbeats 4000000 in
theorem bad_seen {w0 : World} {v : FV} {f : Fac} {A : Option Addr} {c s : Nat} {R : Value} (o : Nat) (U : World) (hE : EnvB v f) (hS : SrAt w0 v f A c s R U) (ho : o < v.m) :
    Calls Tryz.prog 63 #[.pointer (some ⟨s, 0, none⟩), .int .i64 (o : Int)] U (RetMat1 (v.m : Int) (seenM f (coM f) o) U) := by
  have hvm := hE.hvm
  have c1 := Lib.hid (fun W (hW : SrAt w0 v f A c s R W) => (seen_Of v f A c (coM f) (o : Int) W hW.fa hW.mm hE.good hE.hvm hE.hw (by omega) (by omega) hE.hx hE.closed).mono
    (R' := fun e w' => ∃ (C : Option Addr) (dC : Nat) (E1 : Option Addr) (ne ce ke : Nat), e = .returned (.tuple #[.agg #[.int .i64 (v.m : Int), .slice C v.m dC], .slice E1 ne ce, .int .i64 ((ke + 1 : Nat) : Int), .int .i64 0]) ∧ RowsAt w' C v.m (seenM f (coM f) o) ∧ v.m ≤ dC ∧ Below W.heap.size W w') (fun e w' h => by
      obtain ⟨k, C, dC, E1, ne, ce, he, hi, hr, hd, -, -, -, hb⟩ := h
      exact ⟨C, dC, E1, ne, ce, k, he, by rw [← seen_is hE hi]; exact hr, hd, hb⟩))
  have gS := hE.goodS o
  have hpos := Lib.hid (fun h0 => rows_len_pos gS h0)
  have hlen := Lib.hid gS.len
  obtain ⟨gr, hgr⟩ : ∃ g, g = U.heap.size := ⟨_, rfl⟩
  obtain ⟨W0, hW0⟩ : ∃ W, W = U.alloc (.cells #[.int .i64 0, .slice none 0 0] 57) := ⟨_, rfl⟩
  have hbo := Lib.hid (show Below U.heap.size U W0 from by rw [hW0]; exact below_alloc _ _)
  have kR := Lib.hid (show MatB W0 gr 57 0 none 0 0 from by rw [hW0, hgr]; exact MatB.new U _)
  have hgw := Lib.hid (show U.heap.size ≤ gr by omega)
  have hS0 := Lib.hid (hS.later hbo.out)
  clear hE hS gS
  go_enter Tryz.func63, Tryz.ntmps63
  go_wp2_with (rw [← hW0, ← hgr]; clear hW0; replace hgr := Lib.hid hgr)
  refine wp_region_tree (.flt 0 (.flt 1 (.flt 2 (.flt 3 (.flt 4 (.flt 5 (.flt 6 (.flt 7 (.flt 8 (.two 9 15 (.flt 10 (.flt 11 (.flt 12 (.flt 13 (.flt 14 (.one 15 (.one 16 (.flt 17 (.flt 18 (.flt 19 .done)))))))))) (.one 9 (.flt 10 (.flt 11 (.flt 12 (.flt 13 (.flt 14 (.one 16 (.flt 17 (.flt 18 (.flt 19 .done)))))))))))))))))))) (by kernel_rfl) (by kernel_rfl) (fun V hV => ?_)
  have hV' : Below W0.heap.size W0 V := by rw [hV.out]; exact (Below.refl _ _).drew
  replace hS0 := Lib.hid (hS0.out.later hV')
  replace kR := Lib.hid (kR.out.below_ hV')
  replace hbo := Lib.hid (below_trans2 hbo.out hV')
  clear hV hV'
  have bW : Below V.heap.size V V := Below.refl _ _
  apply cut_eight19 (F := fun (M : Nat) (w9 : World) (C : Option Addr) (dC : Nat) (E1 : Option Addr) (ne ce ke : Nat) => MatK w9 M 57 (v.m : Int) C v.m dC (seenM f (coM f) o) ∧ v.m ≤ dC ∧ V.heap.size ≤ M ∧ Below V.heap.size V w9)
  · intro key
    -- the cells of what is looked in (hS0 : Hid SrAt): p0 .. p5
    have p0 := hS0.out.c0
    have p1 := hS0.out.c1
    have p2 := hS0.out.c2
    have p3 := hS0.out.c3
    have p4 := hS0.out.c4
    have p5 := hS0.out.c5
    iterate 9
      refine wpPT_float (v := ?_) rfl (by rfl) (fun w' hw' => ?_) (fun K hK => ?_)
      rotate_left
      · (go_simp; try with_reducible rfl)
      go_simp
      refine hK _ ?_
      clear hK K
    clear p0 p1 p2 p3 p4 p5
    refine wpPT_two rfl (by rfl) rfl (by rfl) (fun K hK => ?_) (fun K hK => ?_)
    · skip
      go_simp
      refine (c1.out V (hS0.out.later bW)).mono ?_; rintro e v1 ⟨C, dC, E1, ne, ce, ke, rfl, rC, hdC, b⟩
      replace bW := below_trans2 bW b
      refine hK _ _ bW ?_
      clear hK K
      clear b
      iterate 5
        refine wpPT_float (v := ?_) rfl (by rfl) (fun w' hw' => ?_) (fun K hK => ?_)
        rotate_left
        · (go_simp; try with_reducible rfl)
        go_simp
        refine hK _ ?_
        clear hK K
      refine wpPT_one rfl (by rfl) (fun K hK => ?_)
      go_simp
      obtain ⟨M, hM⟩ : ∃ M, M = (World.heap v1).size := ⟨_, rfl⟩
      obtain ⟨v2, hw⟩ : ∃ X : World, X = World.alloc v1 (.cells #[.int .i64 0, .slice none 0 0] 57) := ⟨_, rfl⟩
      rw [← hw, ← hM]
      have b : Below (World.heap v1).size v1 v2 := by rw [hw]; exact below_alloc _ _
      have hUM : V.heap.size ≤ M := by rw [hM]; exact bW.size
      replace bW := below_trans2 bW b
      refine hK _ _ bW ?_
      clear hK K
      have kM := Lib.hid (show MatB v2 M 57 0 none 0 0 from by rw [hw, hM]; exact MatB.new _ _)
      have hne : 0 < v.m → ∀ ad, C = some ad → ad.block ≠ M := fun h0 ad e => by have := rC.block_lt h0 ad e; omega
      replace rC := rC.below b
      clear hM hw b
      have f0 := kM.out.c0
      have f1 := kM.out.c1
      have g0 := kM.out.frozen 0
      have g1 := kM.out.frozen 1
      refine wpPT_one rfl (by rfl) (fun K hK => ?_)
      go_simp
      obtain ⟨wz, hw⟩ : ∃ X : World, X = (World.setCell v2 ⟨M, 0, none⟩ (.int .i64 (v.m : Int))).setCell ⟨M, 1, none⟩ (.slice C v.m dC) := ⟨_, rfl⟩
      rw [← hw]
      have hMV := Lib.hid (show MatK wz M 57 (v.m : Int) C v.m dC (seenM f (coM f) o) from ⟨by rw [hw]; exact kM.out.put _ _ _ _, by rw [hw]; exact rC.putB kM.out hne _ _⟩)
      replace bW : Below V.heap.size V wz := by rw [hw]; exact (bW.setCell (p := ⟨M, 0, none⟩) hUM _).setCell (p := ⟨M, 1, none⟩) hUM _
      refine hK _ _ bW ?_
      clear hK K f0 f1 g0 g1 hw rC kM hne
      iterate 3
        refine wpPT_float (v := ?_) rfl (by rfl) (fun w' hw' => ?_) (fun K hK => ?_)
        rotate_left
        · (go_simp; try with_reducible rfl)
        go_simp
        refine hK _ ?_
        clear hK K
      refine wpPT_done (NoPanic.normal ?_)
      exact key M wz C dC E1 ne ce ke ⟨hMV.out, hdC, hUM, bW⟩
    · skip
      go_simp
      obtain ⟨M, hM⟩ : ∃ M, M = (World.heap V).size := ⟨_, rfl⟩
      obtain ⟨v3, hw⟩ : ∃ X : World, X = World.alloc V (.cells #[.int .i64 0, .slice none 0 0] 57) := ⟨_, rfl⟩
      rw [← hw, ← hM]
      have b : Below (World.heap V).size V v3 := by rw [hw]; exact below_alloc _ _
      have hUM : V.heap.size ≤ M := by rw [hM]; exact bW.size
      replace bW := below_trans2 bW b
      refine hK _ _ bW ?_
      clear hK K
      have kM := Lib.hid (show MatB v3 M 57 0 none 0 0 from by rw [hw, hM]; exact MatB.new _ _)
      clear hM hw b
      refine wpPT_one rfl (by rfl) (fun K hK => ?_)
      go_simp
      refine (c1.out v3 (hS0.out.later bW)).mono ?_; rintro e v4 ⟨C, dC, E1, ne, ce, ke, rfl, rC, hdC, b⟩
      replace bW := below_trans2 bW b
      refine hK _ _ bW ?_
      clear hK K
      have hne : 0 < v.m → ∀ ad, C = some ad → ad.block ≠ M := fun h0 => rC.farZ (kM.out.below_ b) (hpos.out h0) h0
      replace kM := Lib.hid (kM.out.below_ b)
      clear b
      iterate 5
        refine wpPT_float (v := ?_) rfl (by rfl) (fun w' hw' => ?_) (fun K hK => ?_)
        rotate_left
        · (go_simp; try with_reducible rfl)
        go_simp
        refine hK _ ?_
        clear hK K
      have f0 := kM.out.c0
      have f1 := kM.out.c1
      have g0 := kM.out.frozen 0
      have g1 := kM.out.frozen 1
      refine wpPT_one rfl (by rfl) (fun K hK => ?_)
      go_simp
      obtain ⟨wz, hw⟩ : ∃ X : World, X = (World.setCell v4 ⟨M, 0, none⟩ (.int .i64 (v.m : Int))).setCell ⟨M, 1, none⟩ (.slice C v.m dC) := ⟨_, rfl⟩
      rw [← hw]
      have hMV := Lib.hid (show MatK wz M 57 (v.m : Int) C v.m dC (seenM f (coM f) o) from ⟨by rw [hw]; exact kM.out.put _ _ _ _, by rw [hw]; exact rC.putB kM.out hne _ _⟩)
      replace bW : Below V.heap.size V wz := by rw [hw]; exact (bW.setCell (p := ⟨M, 0, none⟩) hUM _).setCell (p := ⟨M, 1, none⟩) hUM _
      refine hK _ _ bW ?_
      clear hK K f0 f1 g0 g1 hw rC kM hne
      iterate 3
        refine wpPT_float (v := ?_) rfl (by rfl) (fun w' hw' => ?_) (fun K hK => ?_)
        rotate_left
        · (go_simp; try with_reducible rfl)
        go_simp
        refine hK _ ?_
        clear hK K
      refine wpPT_done (NoPanic.normal ?_)
      exact key M wz C dC E1 ne ce ke ⟨hMV.out, hdC, hUM, bW⟩
  · rintro M w9 C dC E1 ne ce ke ⟨kS, hdC, hVM, b9⟩
    have kR9 := kR.out.below_ b9
    have q0 := kS.1.c0
    have q1 := kS.1.c1
    have f0 := kR9.c0
    have f1 := kR9.c1
    have g0 := kR9.frozen 0
    have g1 := kR9.frozen 1
    have hcc := kR9.two (.int .i64 (v.m : Int)) (.slice C v.m dC)
    have hc1 := Lib.hid hcc.1
    have hc2 := Lib.hid hcc.2
    have hrf := Lib.hid (kS.2.putB kR9 (fun h0 => kS.2.farZ kR9 (hpos.out h0) h0) (.int .i64 (v.m : Int)) (.slice C v.m dC))
    have hbf := Lib.hid (((below_trans2 hbo.out b9).setCell (p := ⟨gr, 0, none⟩) hgw.out (.int .i64 (v.m : Int))).setCell (p := ⟨gr, 1, none⟩) hgw.out (.slice C v.m dC))
    clear hcc kS b9 kR kR9
    go_wp2_with fail
    exact bodyPost_ret (v := .agg #[.int .i64 (v.m : Int), .slice C v.m dC]) (by simp [results, Tryz.results63, go_sem, hc1.out, hc2.out]) rfl ⟨C, v.m, dC, rfl, hrf.out, hdC, hbf.out⟩
end Go.Proofs.YtjhjojklfdjmdaaGreat

namespace Go.Proofs.YtjhjojklfdjmdaaGreat
open Go.RowKit
set_option linter.unusedVariables false
/-- what looks for the patterns of a kind: whether there is one, and the first one in the variable at g -/
def RetLk (g : Nat) (k : Int) (o : Option Wit) (U : World) (e : Ending) (U' : World) : Prop :=
  ∃ x : Wit, x = o.getD (noneW k) ∧ e = .returned (.bool o.isSome) ∧ Blk U' g 34 [.int .i64 x.ki, .int .i64 x.r, .int .i64 x.w1, .int .i64 x.w2, .int .i64 x.o, .slice none 0 0, .int .i64 x.fi, .int .i64 x.se] ∧ BelowB g U U'
theorem roundF_some {k : Int} {n : Nat} {X : List (List Nat)} {r : Int} (h : LoopIs n X r true) : roundF k n X = some ⟨k, -1, -1, -1, r, -1, -1⟩ := by rw [h.find k]; rfl
theorem roundF_none {k : Int} {n : Nat} {X : List (List Nat)} {r : Int} (h : LoopIs n X r false) : roundF k n X = none := by rw [h.find k]; rfl
set_option maxRecDepth 100000 in
set_option maxHeartbeats 2000000 in
theorem bad_thin {w0 : World} {v : FV} {f : Fac} {A : Option Addr} {c s : Nat} {R : Value} (g : Nat) (U : World) (hE : EnvB v f) (hS : SrAt w0 v f A c s R U) (hW : Blk U g 34 [.int .i64 1, .int .i64 (-1), .int .i64 (-1), .int .i64 (-1), .int .i64 (-1), .slice none 0 0, .int .i64 (-1), .int .i64 (-1)]) :
    Calls Tryz.prog 30 #[.pointer (some ⟨s, 0, none⟩), .pointer (some ⟨g, 0, none⟩)] U (RetLk g 1 (thinF f) U) := by
  have hfl := Lib.hid hS.fa.fs.len
  have hvk : v.k ≤ 4096 := by have h1 := hS.fa.fs.len; have h2 := hE.frl; have h3 := hE.hvm; omega
  have kW := Lib.hid hW
  have hS0 := Lib.hid hS
  clear hE hS hW
  -- the cells of what is looked in (hS0 : Hid SrAt): p0 .. p5
  have p0 := hS0.out.c0
  have p1 := hS0.out.c1
  have p2 := hS0.out.c2
  have p3 := hS0.out.c3
  have p4 := hS0.out.c4
  have p5 := hS0.out.c5
  go_enter Tryz.func30, Tryz.ntmps30
  go_wp2_with fail
  clear p0 p1 p2 p3 p4 p5
  go_loopw [13] (fun t wr => ∃ i : Nat, i ≤ v.k ∧ t = .int .i64 (i : Int) ∧ Hid (∀ j, j < i → f.frm.getD j 0 ≠ -2) ∧ wr = U) (fun t _ => v.k - (intOf t).toNat)
  case atStart => exact ⟨0, Nat.zero_le _, rfl, Lib.hid (fun j h => absurd h (by omega)), rfl⟩
  case round =>
    obtain ⟨i, hi, rfl, hall, rfl⟩ := hrel
    by_cases hlt : i < v.k
    · have hlt' : (i : Int) < (v.k : Int) := by omega
      have bi : 0 ≤ (i : Int) ∧ (i : Int) < (v.k : Int) := by omega
      obtain ⟨zb, zo, z, hzC, -, hz, -, k0⟩ := hS0.out.fa.fs.int hlt
      rw [hzC]
      have hgd : f.frm.getD i 0 = z := by rw [List.getD_eq_getElem?_getD, hz]; rfl
      replace hlt := Lib.hid hlt
      by_cases hz2 : z = -2
      · have e0 : (z == -2) = true := by rw [hz2]; rfl
        have hans : Hid (thinF f = some ⟨1, (i : Int), -1, -1, -1, -1, -1⟩) := Lib.hid (by
          unfold thinF
          rw [List.find?_eq_some_iff_getElem.2 ⟨by rw [hgd, hz2]; rfl, i, by rw [List.length_range, hfl.out]; exact hlt.out, List.getElem_range _, fun j hj => by
            rw [List.getElem_range, decide_eq_false (hall.out j hj)]; rfl⟩]
          rfl)
        have kV := kW.out.set_ 1 (.int .i64 (i : Int))
        simp only [List.set_cons_zero, List.set_cons_succ] at kV
        replace kV := Lib.hid kV
        -- the cells of a pattern's variable: kW.out : Blk W g Witness [8 cells]: x0 .. x7 (and $f0 .. : not frozen)
        have z0x := Blk.cell kW.out 0
        have z1x := Blk.cell kW.out 1
        have z2x := Blk.cell kW.out 2
        have z3x := Blk.cell kW.out 3
        have z4x := Blk.cell kW.out 4
        have z5x := Blk.cell kW.out 5
        have z6x := Blk.cell kW.out 6
        have z7x := Blk.cell kW.out 7
        simp only [List.getElem?_cons_zero, List.getElem?_cons_succ] at z0x z1x z2x z3x z4x z5x z6x z7x
        have z0fx := Blk.frozen kW.out 0
        have z1fx := Blk.frozen kW.out 1
        have z2fx := Blk.frozen kW.out 2
        have z3fx := Blk.frozen kW.out 3
        have z4fx := Blk.frozen kW.out 4
        have z5fx := Blk.frozen kW.out 5
        have z6fx := Blk.frozen kW.out 6
        have z7fx := Blk.frozen kW.out 7
        replace hgd := Lib.hid hgd
        replace hz2 := Lib.hid hz2
        clear hzC hz
        go_wp2_with fail
        go_ret
        exact ⟨_, (by rw [hans.out]; try rfl), (by rw [hans.out]; try rfl), kV.out, (BelowB.refl _ _).setG19 _ _⟩
      · have e0 : (z == -2) = false := by simpa using hz2
        have hn : Hid (∀ j, j < i + 1 → f.frm.getD j 0 ≠ -2) := Lib.hid (fun j hj => by
          rcases Nat.lt_succ_iff_lt_or_eq.1 hj with h1 | h1
          · exact hall.out j h1
          · rw [h1, hgd]; exact hz2)
        replace hgd := Lib.hid hgd
        replace hz2 := Lib.hid hz2
        clear hz
        go_wp2_with fail
        exact ⟨⟨i + 1, by have := hlt.out; omega, by go_num, hn, trivial⟩, by have := hlt.out; simp [intOf]; omega⟩
    · have hlt' : ¬ (i : Int) < (v.k : Int) := by omega
      obtain rfl : i = v.k := by omega
      have hans : Hid (thinF f = none) := Lib.hid (by
        unfold thinF
        rw [List.find?_eq_none.2 (fun j hj => by
          rw [decide_eq_false (hall.out j (by have := List.mem_range.1 hj; have := hfl.out; omega))]; simp)]
        rfl)
      clear hlt
      go_wp2_with fail
      go_ret
      -- nothing is found: kW : Blk there (none), (BelowB.refl _ _) : BelowB
      exact ⟨noneW 1, (by rw [hans.out]; try rfl), (by rw [hans.out]; try rfl), kW.out, (BelowB.refl _ _)⟩
set_option maxRecDepth 100000 in
set_option maxHeartbeats 2000000 in
theorem bad_cyclicCO {w0 : World} {v : FV} {f : Fac} {A : Option Addr} {c s : Nat} {R : Value} (g : Nat) (U : World) (hE : EnvB v f) (hS : SrAt w0 v f A c s R U) (hW : Blk U g 34 [.int .i64 2, .int .i64 (-1), .int .i64 (-1), .int .i64 (-1), .int .i64 (-1), .slice none 0 0, .int .i64 (-1), .int .i64 (-1)]) :
    Calls Tryz.prog 31 #[.pointer (some ⟨s, 0, none⟩), .pointer (some ⟨g, 0, none⟩)] U (RetLk g 2 (roundF 2 v.m (coM f)) U) := by
  have kW := Lib.hid hW
  have cL := Lib.hid (hull_Loop A v.m c (coM f) U hS.mm hE.good.le (fun xs hx => by have := hE.good.small xs hx; omega))
  have hS0 := Lib.hid hS
  clear hE hS hW
  -- the cells of what is looked in (hS0 : Hid SrAt): p0 .. p5
  have p0 := hS0.out.c0
  have p1 := hS0.out.c1
  have p2 := hS0.out.c2
  have p3 := hS0.out.c3
  have p4 := hS0.out.c4
  have p5 := hS0.out.c5
  go_enter Tryz.func31, Tryz.ntmps31
  go_wp2_with fail
  refine cL.out.mono ?_; rintro e w4 ⟨i, b, rfl, hLp, b4⟩
  replace kW := Lib.hid (kW.out.below b4 kW.out.lt)
  have hbb := Lib.hid (BelowB.of (g := g) b4)
  clear p0 p1 p2 p3 p4 p5 b4 cL hS0
  cases b with
  | true =>
    have hans := Lib.hid (roundF_some (k := 2) hLp)
    have kV := kW.out.set_ 4 (.int .i64 i)
    simp only [List.set_cons_zero, List.set_cons_succ] at kV
    replace kV := Lib.hid kV
    -- the cells of a pattern's variable: kW.out : Blk W g Witness [8 cells]: x0 .. x7 (and $f0 .. : not frozen)
    have z0x := Blk.cell kW.out 0
    have z1x := Blk.cell kW.out 1
    have z2x := Blk.cell kW.out 2
    have z3x := Blk.cell kW.out 3
    have z4x := Blk.cell kW.out 4
    have z5x := Blk.cell kW.out 5
    have z6x := Blk.cell kW.out 6
    have z7x := Blk.cell kW.out 7
    simp only [List.getElem?_cons_zero, List.getElem?_cons_succ] at z0x z1x z2x z3x z4x z5x z6x z7x
    have z0fx := Blk.frozen kW.out 0
    have z1fx := Blk.frozen kW.out 1
    have z2fx := Blk.frozen kW.out 2
    have z3fx := Blk.frozen kW.out 3
    have z4fx := Blk.frozen kW.out 4
    have z5fx := Blk.frozen kW.out 5
    have z6fx := Blk.frozen kW.out 6
    have z7fx := Blk.frozen kW.out 7
    clear hLp
    go_wp2_with fail
    go_ret
    exact ⟨_, (by rw [hans.out]; try rfl), (by rw [hans.out]; try rfl), kV.out, hbb.out.setG19 _ _⟩
  | false =>
    have hans := Lib.hid (roundF_none (k := 2) hLp)
    clear hLp
    go_wp2_with fail
    go_ret
    -- nothing is found: kW : Blk there (none), hbb.out : BelowB
    exact ⟨noneW 2, (by rw [hans.out]; try rfl), (by rw [hans.out]; try rfl), kW.out, hbb.out⟩
set_option maxRecDepth 100000 in
set_option maxHeartbeats 2000000 in
theorem bad_coInit {w0 : World} {v : FV} {f : Fac} {A : Option Addr} {c s : Nat} {R : Value} (g : Nat) (U : World) (hE : EnvB v f) (hS : SrAt w0 v f A c s R U) (hW : Blk U g 34 [.int .i64 3, .int .i64 (-1), .int .i64 (-1), .int .i64 (-1), .int .i64 (-1), .slice none 0 0, .int .i64 (-1), .int .i64 (-1)]) :
    Calls Tryz.prog 32 #[.pointer (some ⟨s, 0, none⟩), .pointer (some ⟨g, 0, none⟩)] U (RetLk g 3 (earlyF f (coM f) 3 (rdl v.m)) U) := by
  have kW := Lib.hid hW
  have cM := Lib.hid (fun (r : Nat) (hr : r < v.m) W (hS : SrAt w0 v f A c s R W) => bad_missed A c (coM f) r W hE hS hS.mm hE.good hr)
  have hS0 := Lib.hid hS
  rw [earlyF_eq]
  have hvm := hE.hvm
  clear hE hS hW
  -- the cells of what is looked in (hS0 : Hid SrAt): p0 .. p5
  have p0 := hS0.out.c0
  have p1 := hS0.out.c1
  have p2 := hS0.out.c2
  have p3 := hS0.out.c3
  have p4 := hS0.out.c4
  have p5 := hS0.out.c5
  go_enter Tryz.func32, Tryz.ntmps32
  go_wp2_with fail
  clear p0 p1 p2 p3 p4 p5
  have hb0 := Lib.hid (Below.refl U.heap.size U)
  obtain ⟨V2, hV2⟩ : ∃ V, V = U := ⟨_, rfl⟩
  go_loopw [14] (fun t wr => ∃ i : Nat, i ≤ v.m ∧ t = .int .i64 (i : Int) ∧ Hid (((rdl v.m).take i).findSome? (earlyG f (coM f) 3) = none) ∧ Hid (Below V2.heap.size V2 wr)) (fun t _ => v.m - (intOf t).toNat)
  case atStart => exact ⟨0, Nat.zero_le _, rfl, Lib.hid rfl, by rw [hV2]; exact hb0⟩
  case round =>
    subst hV2
    clear hb0
    obtain ⟨i, hi, rfl, hno, hb⟩ := hrel
    replace hS0 := Lib.hid (hS0.out.later hb.out)
    replace kW := Lib.hid (kW.out.below hb.out kW.out.lt)
    by_cases hlt : i < v.m
    · have hlt' : (i : Int) < (v.m : Int) := by omega
      have hst := findSome_step (rdl_at hlt) hno.out
      rw [earlyG_miss] at hst
      have cMr := Lib.hid (cM.out i hlt wr hS0.out)
      obtain ⟨om, hom⟩ : ∃ x, x = missG f (coM f) (i : Int) := ⟨_, rfl⟩
      rw [← hom] at cMr hst
      replace hst := Lib.hid hst
      replace hom := Lib.hid hom
      replace hlt := Lib.hid hlt
      -- the cells of what is looked in (hS0 : Hid SrAt): p0 .. p5
      have p0 := hS0.out.c0
      have p1 := hS0.out.c1
      have p2 := hS0.out.c2
      have p3 := hS0.out.c3
      have p4 := hS0.out.c4
      have p5 := hS0.out.c5
      go_wp2_with fail
      refine cMr.out.mono ?_
      rintro e w3 ⟨z, bo, hz, hbe, rfl, b⟩
      replace hb := Lib.hid (below_trans2 hb.out b)
      replace kW := Lib.hid (kW.out.below b kW.out.lt)
      clear b p0 p1 p2 p3 p4 p5 cMr
      cases om with
      | none =>
        have hz' : z = -1 := hz
        have hb' : bo = false := hbe
        subst hz'; subst hb'
        have hnx := Lib.hid (hst.out.1 rfl)
        clear hz hbe
        go_wp2_with fail
        exact ⟨⟨i + 1, by have := hlt.out; omega, by go_num, hnx, hb⟩, by have := hlt.out; simp [intOf]; omega⟩
      | some y =>
        have hz' : z = y := hz
        have hb' : bo = true := hbe
        subst hz'; subst hb'
        have hans := Lib.hid (hst.out.2 _ rfl)
        clear hz hbe
        have kV1 := kW.out.set_ 1 (.int .i64 (i : Int))
        simp only [List.set_cons_zero, List.set_cons_succ] at kV1
        have kV := kV1.set_ 2 (.int .i64 z)
        simp only [List.set_cons_zero, List.set_cons_succ] at kV
        replace kV := Lib.hid kV
        -- the cells of a pattern's variable: kW.out : Blk W g Witness [8 cells]: x0 .. x7 (and $f0 .. : not frozen)
        have z0x := Blk.cell kW.out 0
        have z1x := Blk.cell kW.out 1
        have z2x := Blk.cell kW.out 2
        have z3x := Blk.cell kW.out 3
        have z4x := Blk.cell kW.out 4
        have z5x := Blk.cell kW.out 5
        have z6x := Blk.cell kW.out 6
        have z7x := Blk.cell kW.out 7
        simp only [List.getElem?_cons_zero, List.getElem?_cons_succ] at z0x z1x z2x z3x z4x z5x z6x z7x
        have z0fx := Blk.frozen kW.out 0
        have z1fx := Blk.frozen kW.out 1
        have z2fx := Blk.frozen kW.out 2
        have z3fx := Blk.frozen kW.out 3
        have z4fx := Blk.frozen kW.out 4
        have z5fx := Blk.frozen kW.out 5
        have z6fx := Blk.frozen kW.out 6
        have z7fx := Blk.frozen kW.out 7
        have z0fy := Blk.frozen kV1 0
        have z1fy := Blk.frozen kV1 1
        have z2fy := Blk.frozen kV1 2
        have z3fy := Blk.frozen kV1 3
        have z4fy := Blk.frozen kV1 4
        have z5fy := Blk.frozen kV1 5
        have z6fy := Blk.frozen kV1 6
        have z7fy := Blk.frozen kV1 7
        clear kV1
        go_wp2_with fail
        go_ret
        exact ⟨_, (by rw [hans.out]; try rfl), (by rw [hans.out]; try rfl), kV.out, ((BelowB.of (g := g) hb.out).setG19 _ _).setG19 _ _⟩
    · have hlt' : ¬ (i : Int) < (v.m : Int) := by omega
      have hans : Hid ((rdl v.m).findSome? (earlyG f (coM f) 3) = none) := Lib.hid (by
        have h := hno.out
        rwa [List.take_of_length_le (by rw [rdl_len]; omega)] at h)
      clear hlt
      go_wp2_with fail
      go_ret
      -- nothing is found: kW : Blk there (none), (BelowB.of hb.out) : BelowB
      exact ⟨noneW 3, (by rw [hans.out]; try rfl), (by rw [hans.out]; try rfl), kW.out, (BelowB.of hb.out)⟩
set_option maxRecDepth 100000 in
set_option maxHeartbeats 2000000 in
theorem bad_coRead {w0 : World} {v : FV} {f : Fac} {A : Option Addr} {c s : Nat} {R : Value} (g : Nat) (U : World) (hE : EnvB v f) (hS : SrAt w0 v f A c s R U) (hW : Blk U g 34 [.int .i64 4, .int .i64 (-1), .int .i64 (-1), .int .i64 (-1), .int .i64 (-1), .slice none 0 0, .int .i64 (-1), .int .i64 (-1)]) :
    Calls Tryz.prog 33 #[.pointer (some ⟨s, 0, none⟩), .pointer (some ⟨g, 0, none⟩)] U (RetLk g 4 (betwF f (coM f)) U) := by
  have kW := Lib.hid hW
  have hfl := Lib.hid hS.fa.fs.len
  have hkm := Lib.hid (show v.k = v.m by have h1 := hS.fa.fs.len; have h2 := hE.frl; omega)
  have cM := Lib.hid (fun (r : Nat) (hr : r < v.m) W (hS : SrAt w0 v f A c s R W) => bad_writes A c (coM f) r W hE hS hS.mm hE.good hr)
  have cH := Lib.hid (fun (i j : Int) W hW h1 h2 h3 h4 => mat_Has (v.m : Int) A v.m c (coM f) i j W hW (by have := hE.good.le; omega) (fun xs hx => by have := hE.good.small xs hx; omega) h1 h2 h3 h4)
  have hS0 := Lib.hid hS
  have hvm := hE.hvm
  have hvk : v.k ≤ 4096 := by have := hkm.out; omega
  rw [betwF_eq, hfl.out]
  clear hE hS hW
  -- the cells of what is looked in (hS0 : Hid SrAt): p0 .. p5
  have p0 := hS0.out.c0
  have p1 := hS0.out.c1
  have p2 := hS0.out.c2
  have p3 := hS0.out.c3
  have p4 := hS0.out.c4
  have p5 := hS0.out.c5
  go_enter Tryz.func33, Tryz.ntmps33
  go_wp2_with fail
  clear p0 p1 p2 p3 p4 p5
  have hb0 := Lib.hid (Below.refl U.heap.size U)
  obtain ⟨V2, hV2⟩ : ∃ V, V = U := ⟨_, rfl⟩
  go_loopw [15] (fun t wr => ∃ i : Nat, i ≤ v.k ∧ t = .int .i64 (i : Int) ∧ Hid (((rdl v.k).take i).findSome? (betwG f (coM f)) = none) ∧ Hid (Below V2.heap.size V2 wr)) (fun t _ => v.k - (intOf t).toNat)
  case atStart => exact ⟨0, Nat.zero_le _, rfl, Lib.hid rfl, by rw [hV2]; exact hb0⟩
  case round =>
    subst hV2
    clear hb0
    obtain ⟨i, hi, rfl, hno, hb⟩ := hrel
    replace hS0 := Lib.hid (hS0.out.later hb.out)
    replace kW := Lib.hid (kW.out.below hb.out kW.out.lt)
    by_cases hlt : i < v.k
    · have hlt' : (i : Int) < (v.k : Int) := by omega
      have bi : 0 ≤ (i : Int) ∧ (i : Int) < (v.k : Int) := by omega
      have him : i < v.m := by have := hkm.out; omega
      have hst := Lib.hid (findSome_step (rdl_at hlt) hno.out)
      obtain ⟨zb, zo, z, hzC, -, hz, ⟨z1, z2⟩, k0⟩ := hS0.out.fa.fs.int hlt
      have hgd : f.frm.getD (i : Int).toNat 0 = z := by rw [Int.toNat_natCast, List.getD_eq_getElem?_getD, hz]; rfl
      have hEg : betwG f (coM f) (i : Int) = if z < 0 then none else ((aheadW f (coM f) (i : Int)).find? (betwP (coM f) z)).map fun y => ⟨4, (i : Int), z, y, -1, -1, -1⟩ := by unfold betwG; rw [hgd]
      rw [hzC]
      replace hlt := Lib.hid hlt
      replace hgd := Lib.hid hgd
      replace hzC := Lib.hid hzC
      clear hz
      by_cases hz0 : z < 0
      · have d0 : decide (z < 0) = true := decide_eq_true hz0
        rw [if_pos hz0] at hEg
        have hnx := Lib.hid (hst.out.1 hEg)
        clear hEg
        go_wp2_with fail
        exact ⟨⟨i + 1, by have := hlt.out; omega, by go_num, hnx, hb⟩, by have := hlt.out; simp [intOf]; omega⟩
      · have d0 : decide (z < 0) = false := decide_eq_false hz0
        rw [if_neg hz0] at hEg
        have cMr := Lib.hid (cM.out i him wr hS0.out)
        obtain ⟨al, hal⟩ : ∃ l, l = aheadW f (coM f) (i : Int) := ⟨_, rfl⟩
        have hal1 : al.length ≤ v.m := by
          rw [hal]
          refine Nat.le_trans (List.length_filter_le _ _) (Nat.le_trans (colF_len _ _ _) ?_)
          have := hS0.out.fa.is.len
          omega
        rw [← hal] at hEg cMr
        replace hEg := Lib.hid hEg
        replace hal := Lib.hid hal
        -- the cells of what is looked in (hS0 : Hid SrAt): p0 .. p5
        have p0 := hS0.out.c0
        have p1 := hS0.out.c1
        have p2 := hS0.out.c2
        have p3 := hS0.out.c3
        have p4 := hS0.out.c4
        have p5 := hS0.out.c5
        go_wp2_with fail
        refine cMr.out.mono ?_
        rintro e x2 ⟨C2, n2, c2, rfl, hl2, hnc2, hcm2, b⟩
        replace hb := Lib.hid (below_trans2 hb.out b)
        replace hS0 := Lib.hid (hS0.out.later b)
        replace kW := Lib.hid (kW.out.below b kW.out.lt)
        have hn2 : n2 ≤ 4096 := by rw [← hl2.len]; omega
        replace hl2 := Lib.hid hl2
        clear b p0 p1 p2 p3 p4 p5 cMr k0
        go_wp2_with fail
        have hc0 := Lib.hid (Below.refl x2.heap.size x2)
        go_loopw [30] (fun t wr => ∃ q : Nat, q ≤ n2 ∧ t = .int .i64 (q : Int) ∧ Hid (∀ p, p < q → ∀ y, al[p]? = some y → betwP (coM f) z y = false) ∧ Hid (Below x2.heap.size x2 wr)) (fun t _ => n2 - (intOf t).toNat)
        case atStart => exact ⟨0, Nat.zero_le _, rfl, Lib.hid (fun p h => absurd h (by omega)), hc0⟩
        case round =>
          clear hc0
          obtain ⟨q, hq, rfl, hall, hc⟩ := hrel
          replace hb := Lib.hid (below_trans2 hb.out hc.out)
          replace hS0 := Lib.hid (hS0.out.later hc.out)
          replace kW := Lib.hid (kW.out.below hc.out kW.out.lt)
          by_cases hql : q < n2
          · have hql' : (q : Int) < (n2 : Int) := by omega
            have bq : 0 ≤ (q : Int) ∧ (q : Int) < (n2 : Int) := by omega
            obtain ⟨cb, co, y, hC2, hcb, hy, ⟨y1, y2⟩, y0⟩ := (hl2.out.below hc.out).int hql
            have hnx : betwP (coM f) z y = false → Hid (∀ p, p < q + 1 → ∀ y, al[p]? = some y → betwP (coM f) z y = false) := fun h => Lib.hid (fun p hp y' hy' => by
              rcases Nat.lt_succ_iff_lt_or_eq.1 hp with h1 | h1
              · exact hall.out p h1 y' hy'
              · subst h1
                rw [hy] at hy'
                injection hy' with hy'
                rw [← hy']; exact h)
            have hbp : betwP (coM f) z y = (decide (y ≠ z) && hasM (coM f) z y) := rfl
            have hfd : betwP (coM f) z y = true → Hid ((rdl v.k).findSome? (betwG f (coM f)) = some ⟨4, (i : Int), z, y, -1, -1, -1⟩) := fun h => Lib.hid (hst.out.2 _ (by
              rw [hEg.out, List.find?_eq_some_iff_getElem.2 ⟨h, q, (List.getElem?_eq_some_iff.1 hy).1, (List.getElem?_eq_some_iff.1 hy).2, fun p hp => by
                rw [hall.out p hp _ (List.getElem?_eq_getElem (by have := (List.getElem?_eq_some_iff.1 hy).1; omega))]; rfl⟩]
              rfl))
            subst hC2
            replace hql := Lib.hid hql
            by_cases hyz : y = z
            · have e0 : (y != z) = false := by simp [hyz]
              have hn := hnx (by rw [hbp, decide_eq_false (by simp [hyz])]; rfl)
              replace hyz := Lib.hid hyz
              clear hnx hfd hbp hy
              go_wp2_with fail
              exact ⟨⟨q + 1, by have := hql.out; omega, by go_num, hn, hc⟩, by have := hql.out; simp [intOf]; omega⟩
            · have e0 : (y != z) = true := by simp [hyz]
              have cHr := Lib.hid (cH.out z y wr hS0.out.mm z1 z2 y1 y2)
              obtain ⟨hb2, hhb⟩ : ∃ b, b = hasM (coM f) z y := ⟨_, rfl⟩
              rw [← hhb, decide_eq_true hyz, Bool.true_and] at hbp
              rw [← hhb] at cHr
              replace hyz := Lib.hid hyz
              replace hhb := Lib.hid hhb
              -- the cells of what is looked in (hS0 : Hid SrAt): p0 .. p5
              have p0 := hS0.out.c0
              have p1 := hS0.out.c1
              have p2 := hS0.out.c2
              have p3 := hS0.out.c3
              have p4 := hS0.out.c4
              have p5 := hS0.out.c5
              cases hb2 with
              | true =>
                have hans := hfd hbp
                clear hnx hfd hbp hy
                go_wp2_with fail
                refine cHr.out.mono ?_
                rintro e w6 ⟨rfl, b6⟩
                replace hb := Lib.hid (below_trans2 hb.out b6)
                replace kW := Lib.hid (kW.out.below b6 kW.out.lt)
                clear b6 p0 p1 p2 p3 p4 p5 cHr y0 hS0
                have kV1 := kW.out.set_ 1 (.int .i64 (i : Int))
                simp only [List.set_cons_zero, List.set_cons_succ] at kV1
                have kV2 := kV1.set_ 2 (.int .i64 z)
                simp only [List.set_cons_zero, List.set_cons_succ] at kV2
                have kV := kV2.set_ 3 (.int .i64 y)
                simp only [List.set_cons_zero, List.set_cons_succ] at kV
                replace kV := Lib.hid kV
                -- the cells of a pattern's variable: kW.out : Blk W g Witness [8 cells]: x0 .. x7 (and $f0 .. : not frozen)
                have z0x := Blk.cell kW.out 0
                have z1x := Blk.cell kW.out 1
                have z2x := Blk.cell kW.out 2
                have z3x := Blk.cell kW.out 3
                have z4x := Blk.cell kW.out 4
                have z5x := Blk.cell kW.out 5
                have z6x := Blk.cell kW.out 6
                have z7x := Blk.cell kW.out 7
                simp only [List.getElem?_cons_zero, List.getElem?_cons_succ] at z0x z1x z2x z3x z4x z5x z6x z7x
                have z0fx := Blk.frozen kW.out 0
                have z1fx := Blk.frozen kW.out 1
                have z2fx := Blk.frozen kW.out 2
                have z3fx := Blk.frozen kW.out 3
                have z4fx := Blk.frozen kW.out 4
                have z5fx := Blk.frozen kW.out 5
                have z6fx := Blk.frozen kW.out 6
                have z7fx := Blk.frozen kW.out 7
                have z0fy := Blk.frozen kV1 0
                have z1fy := Blk.frozen kV1 1
                have z2fy := Blk.frozen kV1 2
                have z3fy := Blk.frozen kV1 3
                have z4fy := Blk.frozen kV1 4
                have z5fy := Blk.frozen kV1 5
                have z6fy := Blk.frozen kV1 6
                have z7fy := Blk.frozen kV1 7
                have z0fz := Blk.frozen kV2 0
                have z1fz := Blk.frozen kV2 1
                have z2fz := Blk.frozen kV2 2
                have z3fz := Blk.frozen kV2 3
                have z4fz := Blk.frozen kV2 4
                have z5fz := Blk.frozen kV2 5
                have z6fz := Blk.frozen kV2 6
                have z7fz := Blk.frozen kV2 7
                clear kV1 kV2
                go_wp2_with fail
                go_ret
                exact ⟨_, (by rw [hans.out]; try rfl), (by rw [hans.out]; try rfl), kV.out, (((BelowB.of (g := g) hb.out).setG19 _ _).setG19 _ _).setG19 _ _⟩
              | false =>
                have hn := hnx hbp
                clear hnx hfd hbp hy
                go_wp2_with fail
                refine cHr.out.mono ?_
                rintro e w6 ⟨rfl, b6⟩
                replace hc := Lib.hid (below_trans2 hc.out b6)
                clear b6 p0 p1 p2 p3 p4 p5 cHr y0
                go_wp2_with fail
                exact ⟨⟨q + 1, by have := hql.out; omega, by go_num, hn, hc⟩, by have := hql.out; simp [intOf]; omega⟩
          · have hql' : ¬ (q : Int) < (n2 : Int) := by omega
            have hnx : Hid (((rdl v.k).take (i + 1)).findSome? (betwG f (coM f)) = none) := Lib.hid (hst.out.1 (by
              rw [hEg.out, List.find?_eq_none.2 (fun y hy => by
                obtain ⟨p, hp⟩ := List.getElem?_of_mem hy
                have hpl := (List.getElem?_eq_some_iff.1 hp).1
                rw [hall.out p (by have := hl2.out.len; omega) y hp]; simp)]
              rfl))
            clear hql
            go_wp2_with fail
            exact ⟨⟨i + 1, by have := hlt.out; omega, by go_num, hnx, hb⟩, by have := hlt.out; simp [intOf]; omega⟩
    · have hlt' : ¬ (i : Int) < (v.k : Int) := by omega
      have hans : Hid ((rdl v.k).findSome? (betwG f (coM f)) = none) := Lib.hid (by
        have h := hno.out
        rwa [List.take_of_length_le (by rw [rdl_len]; omega)] at h)
      clear hlt
      go_wp2_with fail
      go_ret
      -- nothing is found: kW : Blk there (none), (BelowB.of hb.out) : BelowB
      exact ⟨noneW 4, (by rw [hans.out]; try rfl), (by rw [hans.out]; try rfl), kW.out, (BelowB.of hb.out)⟩
end Go.Proofs.YtjhjojklfdjmdaaGreat
