/- The code's own contracts of layer 18: the rule for an operation (ruled). The code's own contracts of layer 18: conflicts put in order (slices.SortFunc by its first contract: the library's text is not walked). -/
import Derived.Test.YtjhjojklfdjmdaaGreatBadLevelsPk6
import Derived.Test.YtjhjojklfdjmdaaGreatBadLevelsPk8
import Derived.Test.YtjhjojklfdjmdaaGreatBadLevelsPk9
import Derived.Test.YtjhjojklfdjmdaaGreatBadLevelsPk5
import Derived.Test.YtjhjojklfdjmdaaGreatBadLevelsPk4
import Derived.Test.YtjhjojklfdjmdaaGreatBadLevelsPk3
import Derived.Test.YtjhjojklfdjmdaaGreatBadLevelsPk1
import Derived.Test.YtjhjojklfdjmdaaGreatSortLay
namespace Go.Proofs.YtjhjojklfdjmdaaGreat
open Go.RowKit
set_option linter.unusedVariables false
/-- what the code of this layer asks of facts beside that they lie there -/
structure SeenX (v : FV) (f : Fac) : Prop where
  fr : f.frm = fromF f.items
  nb : Nbr f.items
  nn : v.n ≤ 1048576
  va : ∀ x ∈ f.items, 0 ≤ x.va ∧ x.va < (v.n : Int)
theorem own_baseB {w w' : World} {B base size n : Nat} {e : TypeId} {v : Value} {xs : List Value} (h : w.ownsRow base e size v n xs) (hb : Below B w w') (hlt : ∀ k, v.ownBlock = some k → k < B) : w'.ownsRow base e size v n xs :=
  ⟨h.1, h.2.imp id fun ⟨g, cap, cur, hv, hg, hh, r⟩ => ⟨g, cap, cur, hv, hg, (hb.block g (hlt g (by rw [hv]; rfl))).trans hh, r⟩⟩
theorem filter_take18 {p : Int → Bool} {l : List Int} {k : Nat} {z : Int} (h : l[k]? = some z) : (l.take (k + 1)).filter p = if p z = true then (l.take k).filter p ++ [z] else (l.take k).filter p := by
  rw [List.take_add_one, h, List.filter_append]
  split
  · rename_i h2; rw [Option.toList_some, List.filter_cons_of_pos (by exact h2)]; simp
  · rename_i h2; rw [Option.toList_some, List.filter_cons_of_neg (by exact h2)]; simp
/-- the kept reads, list by list -/
def rdsX (f : Fac) (n : Nat) (l : List Int) : List (List Int) := (List.range n).map fun (i : Nat) => rdsV f l (i : Int)
theorem rdsX_nil (f : Fac) (n : Nat) : rdsX f n [] = List.replicate n [] := by
  unfold rdsX
  apply List.ext_getElem?
  intro k
  rw [List.getElem?_map, List.getElem?_replicate]
  by_cases hk : k < n
  · rw [List.getElem?_range hk, if_pos hk]; rfl
  · rw [List.getElem?_eq_none (by simpa using hk), if_neg hk]; rfl
theorem rdsX_at {f : Fac} {n : Nat} (l : List Int) {k : Nat} (hk : k < n) : (rdsX f n l)[k]? = some (rdsV f l (k : Int)) := by
  unfold rdsX; rw [List.getElem?_map, List.getElem?_range hk]; rfl
theorem rdsX_skip {f : Fac} {n q : Nat} {l : List Int} {z : Int} (h : l[q]? = some z) (h0 : fromZ f z < 0) : rdsX f n (l.take (q + 1)) = rdsX f n (l.take q) := by
  unfold rdsX
  refine List.map_congr_left (fun i _ => ?_)
  unfold rdsV
  rw [filter_take18 h, if_neg (by unfold rdsP; rw [decide_eq_false (by omega)]; simp)]
theorem rdsX_step {f : Fac} {n q b : Nat} {l : List Int} {z : Int} (h : l[q]? = some z) (h0 : 0 ≤ fromZ f z) (hb : vaZ f z = (b : Int)) (hn : b < n) : rdsX f n (l.take (q + 1)) = (rdsX f n (l.take q)).set b (rdsV f (l.take q) (b : Int) ++ [z]) := by
  apply List.ext_getElem?
  intro k
  rw [List.getElem?_set]
  by_cases hk : k < n
  · rw [rdsX_at _ hk, rdsX_at _ hk]
    unfold rdsV
    rw [filter_take18 h]
    unfold rdsP
    rw [decide_eq_true h0, hb, Bool.true_and]
    by_cases hbk : b = k
    · subst hbk
      rw [if_pos (show decide ((b : Int) = (b : Int)) = true by simp), if_pos rfl, if_pos (by unfold rdsX; simpa using hk)]
    · rw [if_neg (show ¬ decide ((b : Int) = (k : Int)) = true by simp; omega), if_neg hbk]
  · have h1 : ∀ l, (rdsX f n l)[k]? = none := fun l => List.getElem?_eq_none (by unfold rdsX; simpa using hk)
    rw [h1, h1]
    split
    · rw [if_neg (by unfold rdsX; simp; omega)]
    · rfl
theorem SlotsM.setFar {α : Type} {E : Enc α} {tS tE : TypeId} {B go n : Nat} {w : World} {vs : List Value} {ls : List (List α)} (h : SlotsM E tS tE B go n w vs ls) {k : Nat} (ha : Apart go vs k) (o : Nat) (u : Value) : SlotsM E tS tE B go n (w.setCell ⟨k, o, none⟩ u) vs ls :=
  ⟨own_far h.o (fun e => ha.1 (by have e' : go = k := (by injection e); exact e'.symm)) _, ⟨h.s.len, fun i v l h1 h2 => ⟨(h.s.row i v l h1 h2).1, own_far (h.s.row i v l h1 h2).2 (ha.2 v (List.mem_of_getElem? h1)) _⟩, h.s.dis⟩⟩
theorem LAt.farR {α : Type} {E : Enc α} {w : World} {A : Option Addr} {n : Nat} {xs : List α} (h : LAt E w A n xs) {g : Nat} (hne : ∀ ad, A = some ad → ad.block ≠ g) (o : Nat) (u : Value) : LAt E (w.setCell ⟨g, o, none⟩ u) A n xs :=
  ⟨h.1, h.2.1, fun hn => by
    obtain ⟨b, off, e2, hb, hc⟩ := h.2.2 hn
    exact ⟨b, off, e2, by simpa using hb, fun j v hv => (World.cell?_of_block (Below.heap_setCell w ⟨g, o, none⟩ u b (fun e' => hne _ e2 e'))).trans (hc j v hv)⟩⟩
theorem Blk.put5R {w : World} {g : Nat} {t : TypeId} {c0 c1 c2 c3 c4 : Value} (h : Blk w g t [c0, c1, c2, c3, c4]) (a0 a1 a2 a3 a4 : Value) :
    Blk (((((w.setCell ⟨g, 0, none⟩ a0).setCell ⟨g, 1, none⟩ a1).setCell ⟨g, 2, none⟩ a2).setCell ⟨g, 3, none⟩ a3).setCell ⟨g, 4, none⟩ a4) g t [a0, a1, a2, a3, a4] :=
  ((((h.set_ 0 a0).set_ 1 a1).set_ 2 a2).set_ 3 a3).set_ 4 a4
theorem below_put5R {w w' : World} {B g : Nat} (h : Below B w w') (hg : B ≤ g) (a0 a1 a2 a3 a4 : Value) :
    Below B w (((((w'.setCell ⟨g, 0, none⟩ a0).setCell ⟨g, 1, none⟩ a1).setCell ⟨g, 2, none⟩ a2).setCell ⟨g, 3, none⟩ a3).setCell ⟨g, 4, none⟩ a4) :=
  ((((h.setCell (p := ⟨g, 0, none⟩) hg _).setCell (p := ⟨g, 1, none⟩) hg _).setCell (p := ⟨g, 2, none⟩) hg _).setCell (p := ⟨g, 3, none⟩) hg _).setCell (p := ⟨g, 4, none⟩) hg _
/-- a rule's variable while writes are laid -/
structure RuI (w : World) (base g gr gu go : Nat) (v : FV) (u : Value) (ls : List Int) (wr : World) : Prop where
  b : Below w.heap.size w wr
  k : Blk wr g 29 [.slice v.A v.n v.c, .slice v.B v.m v.d, .slice v.C v.k v.e]
  r : Blk wr gr 142 [.slice none 0 0, .slice none 0 0, .slice none 0 0, .slice none 0 0, .slice none 0 0]
  c : Blk wr gu 142 [.slice v.A v.n v.c, .slice v.B v.m v.d, .slice v.C v.k v.e, u, .slice (some ⟨go, 0, none⟩) v.n v.n]
  s : wr.ownsRow w.heap.size 27 1 (.slice (some ⟨go, 0, none⟩) v.n v.n) v.n (List.replicate v.n (.slice none 0 0))
  o : wr.ownsRow base 3 1 u ls.length (encI.all ls)
  z : w.heap.size ≤ g ∧ g < base ∧ gr < base ∧ w.heap.size ≤ gu ∧ gu < base ∧ go < base ∧ base ≤ wr.heap.size
  d : g ≠ gu ∧ gr ≠ gu ∧ go ≠ gu ∧ g ≠ go ∧ gr ≠ go ∧ w.heap.size ≤ gr
section
variable {w wr w' w7 : World} {base g gr gu go : Nat} {v : FV} {u v' : Value} {ls : List Int}
theorem RuI.later (h : RuI w base g gr gu go v u ls wr) (hb : Below wr.heap.size wr w') : RuI w base g gr gu go v u ls w' :=
  ⟨below_trans2 h.b hb, h.k.below hb h.k.lt, h.r.below hb h.r.lt, h.c.below hb h.c.lt, own_below h.s hb, own_below h.o hb, ⟨h.z.1, h.z.2.1, h.z.2.2.1, h.z.2.2.2.1, h.z.2.2.2.2.1, h.z.2.2.2.2.2.1, Nat.le_trans h.z.2.2.2.2.2.2 hb.size⟩, h.d⟩
theorem RuI.app (h : RuI w base g gr gu go v u ls wr) (hb : Below base wr w7) (hs : wr.heap.size ≤ w7.heap.size) {z : Int} (ho : w7.ownsRow base 3 1 v' (ls.length + 1) (encI.all (ls ++ [z]))) : RuI w base g gr gu go v v' (ls ++ [z]) (w7.setCell ⟨gu, 3, none⟩ v') := by
  obtain ⟨z1, z2, z3, z4, z5, z6, z7⟩ := h.z
  obtain ⟨d1, d2, d3, d4, d5, d6⟩ := h.d
  have hs1 := own_baseB h.s hb (fun k e => by have e' : go = k := by injection e
                                              omega)
  refine ⟨((h.b.trans (hb.mono (by omega))).setCell (by exact z4) _), (h.k.below hb z2).far (by simpa using d1) _, (h.r.below hb z3).far (by simpa using d2) _, ?_, own_far hs1 (fun e => d3 (by injection e)) _, own_far (by rw [List.length_append]; exact ho) (fun e => by have := own_lt_block ho gu e; omega) _, ⟨z1, z2, z3, z4, z5, z6, by simpa using Nat.le_trans z7 hs⟩, h.d⟩
  have := (h.c.below hb z5).set_ 3 v'
  exact this
end
/-- 'append' within a plan -/
theorem wp_append_L18 {α : Type} {E : Enc α} {P : Program} {w : World} {o : Oper} {a : Act} {K : Act → World → Prop} {Q : Exit → Act → World → Prop} (s x : Operand) (t : TypeId)
    (ho : o.op = .call { callee := .builtin .append, args := #[s, x], argTypes := #[t, t] })
    (base : Nat) (e : TypeId) (i : TypeInfo) (z : Value) (by_ : Nat) (ht : P.underlying t = some (.slice e)) (hi : P.info? e = some i) (hz : i.zero = some z)
    (hsize : i.size = E.sz) (hby : i.bytes = by_) (hzs : z.cells.size = E.sz)
    (v : Value) (n : Nat) (os : List α) (hs : a.eval s = v) (hown : w.ownsRow base e E.sz v n (E.all os))
    (A : Option Addr) (m c : Nat) (news : List α) (hx : a.eval x = .slice A m c) (hr : LAt E w A m news)
    (hb : n + m ≤ maxLen) (hbytes : (n + m) * by_ ≤ 140737488355328) (hbase : base ≤ w.heap.size)
    (h : ∀ v' w', w'.ownsRow base e E.sz v' (n + m) (E.all (os ++ news)) → Below base w w' → w.grownBy w' v.ownBlock → (v'.ownBlock = v.ownBlock ∨ v'.ownBlock = some w.heap.size) → K (a.put o.dst v') w') :
    o.wp P a w K Q := by
  obtain ⟨v', w', hrun, h2, h3, h4, h5⟩ := run_append_L (P := P) w base t o.type e i z by_ ht hi hz hsize hby hzs v n os hown A m c news hr hb hbytes hbase
  unfold Oper.wp execOp
  simp only [ho, resolve, invoke, builtin, Sem.run_bind, Sem.run_pure, Result.andThen_ok, List.map_toArray, List.map_cons, List.map_nil, hs, hx, hrun]
  exact h v' w' h2 h3 h4 h5
theorem info_ints18 : (Tryz.prog.info? 27).map (fun i => (i.zero, i.size, i.bytes)) = some (some (.slice none 0 0), 1, 24) := by kernel_rfl
theorem info_int18 : (Tryz.prog.info? 3).map (fun i => (i.zero, i.size, i.bytes)) = some (some (.int .i64 0), 1, 8) := by kernel_rfl
theorem mk_ints18 (kl kc : IntKind) (n : Nat) (hc : n ≤ 1099511627776) (W : World) :
    (Instr.makeSlice 140 (.int kl (n : Int)) (.int kc (n : Int))).run Tryz.prog W = .ok (.slice (some ⟨W.heap.size, 0, none⟩) n n) (W.alloc (.cells (zeros n (.slice none 0 0)) 27)) := by
  obtain ⟨i, hi, hz0, hz1, hz2⟩ := info_parts info_ints18
  exact run_make_one _ _ i _ Tryz.underlying140 hi hz0 hz1 rfl kl kc n n (Nat.le_refl _) (by rw [hz2]; omega) (by omega) W
/-- the rule: the writes of l, the kept reads of writes by their variables -/
def RetRule (v : FV) (f : Fac) (l kept : List Int) (w : World) (e : Ending) (w' : World) : Prop := ∃ (U : Option Addr) (nu cu go : Nat) (vs : List Value),
  e = .returned (.agg #[.slice v.A v.n v.c, .slice v.B v.m v.d, .slice v.C v.k v.e, .slice U nu cu, .slice (some ⟨go, 0, none⟩) v.n v.n]) ∧ LAt encI w' U nu (l.filter (isW f)) ∧ nu ≤ cu ∧ SlotsM encI 27 3 w.heap.size go v.n w' vs (rdsX f v.n kept) ∧ Below w.heap.size w w' ∧ ∀ ad, U = some ad → w.heap.size ≤ ad.block
set_option maxRecDepth 100000 in
set_option maxHeartbeats 4000000 in
theorem seen_ruled (v : FV) (f : Fac) (D : Option Addr) (m d : Nat) (ws : List Int) (o : Int) (w : World) (hF : FactsAt w v f) (hx : SeenX v f) (hwh : WholeF f) (hvm : v.m ≤ 1048576) (hL : LAt encI w D m ws) (hws : ∀ z ∈ ws, 0 ≤ z ∧ z < (v.m : Int)) (hm : m ≤ 1048576) :
    Calls Tryz.prog 120 #[.agg #[.slice v.A v.n v.c, .slice v.B v.m v.d, .slice v.C v.k v.e], .slice D m d, .int .i64 o] w (RetRule v f ws (keptF f.items (pastF f.items o f.items.length)) w) := by
  have hil := hF.is.len
  have hfl := Lib.hid (show v.k = v.m from by rw [← hil, ← hF.fs.len]; exact hwh.len)
  have hvn := hx.nn
  have cK := Lib.hid (fun W hW => past_KeptF v f o W hW hvm hx.nb)
  have hkok : ∀ z ∈ keptF f.items (pastF f.items o f.items.length), 0 ≤ z ∧ z < (v.m : Int) := fun z hz => by rw [← hil]; exact pastF_ok f.items o f.items.length z (List.mem_filter.1 hz).1
  have hklen : (keptF f.items (pastF f.items o f.items.length)).length ≤ v.m := by rw [← hil]; exact Nat.le_trans (List.length_filter_le _ _) (pastF_len _ _ _)
  obtain ⟨kept, hke⟩ : ∃ l, l = keptF f.items (pastF f.items o f.items.length) := ⟨_, rfl⟩
  rw [← hke] at cK hkok hklen ⊢
  replace hke := Lib.hid hke
  replace hkok := Lib.hid hkok
  replace hws := Lib.hid hws
  replace hx := Lib.hid hx
  have hF0 := Lib.hid hF
  have hL0 := Lib.hid hL
  have mkI := mk_ints18 .i64 .i64 v.n (by omega)
  obtain ⟨j0, ji, jz0, jz1, jz2⟩ := info_parts info_int18
  replace ji := Lib.hid ji
  replace jz0 := Lib.hid jz0
  replace jz1 := Lib.hid jz1
  replace jz2 := Lib.hid jz2
  clear hL hwh
  -- a call with facts v: they are boxed at g, the world is W0 then
  have hB0 := Lib.hid (FBox.new hF)
  obtain ⟨g, hg⟩ : ∃ g, g = w.heap.size := ⟨_, rfl⟩
  obtain ⟨W0, hW0⟩ : ∃ W, W = w.alloc (.cells #[.slice v.A v.n v.c, .slice v.B v.m v.d, .slice v.C v.k v.e] 29) := ⟨_, rfl⟩
  rw [← hW0, ← hg] at hB0
  clear hF
  obtain ⟨gr, hgr⟩ : ∃ g, g = W0.heap.size := ⟨_, rfl⟩
  obtain ⟨W1, hW1⟩ : ∃ W, W = W0.alloc (.cells #[.slice none 0 0, .slice none 0 0, .slice none 0 0, .slice none 0 0, .slice none 0 0] 142) := ⟨_, rfl⟩
  have b1 : Below W0.heap.size W0 W1 := by rw [hW1]; exact below_alloc _ _
  have hB1 := Lib.hid (hB0.out.later b1)
  have kR := Lib.hid (show Blk W1 gr 142 [.slice none 0 0, .slice none 0 0, .slice none 0 0, .slice none 0 0, .slice none 0 0] from by rw [hW1, hgr]; exact Blk.new _ _ _)
  have hzg := Lib.hid (show w.heap.size ≤ g ∧ g < gr ∧ gr < W1.heap.size from by
    refine ⟨by rw [hg]; exact Nat.le_refl _, by rw [hgr]; exact hB0.out.k.lt, kR.out.lt⟩)
  clear hB0 b1
  have p0 := hB1.out.c0
  have p1 := hB1.out.c1
  have p2 := hB1.out.c2
  go_enter Tryz.func120, Tryz.ntmps120
  go_wp2_with (first | (rw [← hW0, ← hg]; clear hW0; replace hg := Lib.hid hg) | (rw [← hW1, ← hgr]; clear hW1; replace hgr := Lib.hid hgr))
  refine wp_region_tree (.flt 0 (.flt 1 (.flt 2 (.flt 3 (.two 4 6 (.flt 5 (.one 6 (.one 7 .done))) (.one 4 (.flt 5 (.one 7 .done)))))))) (by kernel_rfl) (by kernel_rfl) (fun U hU => ?_)
  have hU' : Below W1.heap.size W1 U := by rw [hU.out]; exact (Below.refl _ _).drew
  have hBU := Lib.hid (hB1.out.later hU')
  have kRU := Lib.hid (kR.out.below hU' kR.out.lt)
  have hzU := Lib.hid (show w.heap.size ≤ g ∧ g < gr ∧ gr < U.heap.size from ⟨hzg.out.1, hzg.out.2.1, Nat.lt_of_lt_of_le hzg.out.2.2 hU'.size⟩)
  have hbw : Below w.heap.size w U := hBU.out.o
  clear hU hU' p0 p1 p2 hB1 kR hzg
  apply cut_three (F := fun (go gu : Nat) (w9 : World) => Below U.heap.size U w9 ∧ Blk w9 gu 142 [.slice v.A v.n v.c, .slice v.B v.m v.d, .slice v.C v.k v.e, .slice none 0 0, .slice (some ⟨go, 0, none⟩) v.n v.n] ∧ w9.ownsRow w.heap.size 27 1 (.slice (some ⟨go, 0, none⟩) v.n v.n) v.n (List.replicate v.n (.slice none 0 0)) ∧ U.heap.size ≤ gu ∧ gu ≠ go ∧ U.heap.size ≤ go)
  · intro key
    have p0 := hBU.out.c0
    have p1 := hBU.out.c1
    have p2 := hBU.out.c2
    iterate 4
      refine wpPT_float (v := ?_) rfl (by rfl) (fun w' hw' => ?_) (fun K hK => ?_)
      rotate_left
      · (go_simp; try with_reducible rfl)
      go_simp
      refine hK _ ?_
      clear hK K
    have bW : Below U.heap.size U U := Below.refl _ _
    clear p0 p1 p2
    refine wpPT_two rfl (by rfl) rfl (by rfl) (fun K hK => ?_) (fun K hK => ?_)
    · skip
      go_simp
      obtain ⟨go, hgo⟩ : ∃ g, g = (World.heap U).size := ⟨_, rfl⟩
      obtain ⟨v1, hwn⟩ : ∃ X : World, X = World.alloc U (.cells (zeros v.n (.slice none 0 0)) 27) := ⟨_, rfl⟩
      rw [← hwn, ← hgo]
      have b : Below (World.heap U).size U v1 := by rw [hwn]; exact below_alloc _ _
      have hgs := Lib.hid (show go = (World.heap U).size from hgo)
      have hs := Lib.hid (show World.ownsRow v1 w.heap.size 27 1 (.slice (some ⟨go, 0, none⟩) v.n v.n) v.n (List.replicate v.n (.slice none 0 0)) from by rw [hwn, hgo]; exact own_base (own_zeros U v.n _ _ (by unfold maxLen; omega)) hbw.size)
      replace bW := below_trans2 bW b
      refine hK _ _ bW ?_
      clear hK K hwn hgo
      have hgU : U.heap.size ≤ go := by rw [hgs.out]; exact Nat.le_refl _
      have bV := b
      have hgl := (hs.out.lt go rfl).2
      clear b
      iterate 1
        refine wpPT_float (v := ?_) rfl (by rfl) (fun w' hw' => ?_) (fun K hK => ?_)
        rotate_left
        · (go_simp; try with_reducible rfl)
        go_simp
        refine hK _ ?_
        clear hK K
      refine wpPT_one rfl (by rfl) (fun K hK => ?_)
      have hbw : Below w.heap.size w v1 := below_trans2 hbw bV
      go_simp
      obtain ⟨gu, hgu⟩ : ∃ g, g = (World.heap v1).size := ⟨_, rfl⟩
      obtain ⟨v2, hwn⟩ : ∃ X : World, X = World.alloc v1 (.cells #[.slice none 0 0, .slice none 0 0, .slice none 0 0, .slice none 0 0, .slice none 0 0] 142) := ⟨_, rfl⟩
      rw [← hwn, ← hgu]
      have b : Below (World.heap v1).size v1 v2 := by rw [hwn]; exact below_alloc _ _
      have hus := Lib.hid (show gu = (World.heap v1).size from hgu)
      have kU := Lib.hid (show Blk v2 gu 142 [.slice none 0 0, .slice none 0 0, .slice none 0 0, .slice none 0 0, .slice none 0 0] from by rw [hwn, hgu]; exact Blk.new _ _ _)
      replace bW := below_trans2 bW b
      refine hK _ _ bW ?_
      clear hK K hwn hgu
      have hUg : U.heap.size ≤ gu := by rw [hus.out]; exact bV.size
      have hd := Lib.hid (show ¬ go = gu from fun e => by rw [hus.out] at e; omega)
      replace hs := Lib.hid (own_below hs.out b)
      have bU := below_trans2 bV b
      clear b bV hgl
      -- hd : go and gu are told apart, hU : w.heap.size <= .., bU : Below U.heap.size U v2
      have c0 := Blk.cell kU.out 0
      have c1 := Blk.cell kU.out 1
      have c2 := Blk.cell kU.out 2
      have c3 := Blk.cell kU.out 3
      have c4 := Blk.cell kU.out 4
      simp only [List.getElem?_cons_zero, List.getElem?_cons_succ] at c0 c1 c2 c3 c4
      have f0 := Blk.frozen kU.out 0
      have f1 := Blk.frozen kU.out 1
      have f2 := Blk.frozen kU.out 2
      have f3 := Blk.frozen kU.out 3
      have f4 := Blk.frozen kU.out 4
      refine wpPT_one rfl (by rfl) (fun K hK => ?_)
      go_simp
      obtain ⟨wz, hwz⟩ : ∃ X : World, X = ((((World.setCell v2 ⟨gu, 0, none⟩ (.slice v.A v.n v.c)).setCell ⟨gu, 1, none⟩ (.slice v.B v.m v.d)).setCell ⟨gu, 2, none⟩ (.slice v.C v.k v.e)).setCell ⟨gu, 3, none⟩ (.slice none 0 0)).setCell ⟨gu, 4, none⟩ (.slice (some ⟨go, 0, none⟩) v.n v.n) := ⟨_, rfl⟩
      rw [← hwz]
      have hug := Lib.hid (show U.heap.size ≤ gu from hUg)
      have bZ : Below U.heap.size U wz := by rw [hwz]; exact ((((bU.setCell (p := ⟨gu, 0, none⟩) hUg _).setCell (p := ⟨gu, 1, none⟩) hUg _).setCell (p := ⟨gu, 2, none⟩) hUg _).setCell (p := ⟨gu, 3, none⟩) hUg _).setCell (p := ⟨gu, 4, none⟩) hUg _
      have kZ : Blk wz gu 142 [.slice v.A v.n v.c, .slice v.B v.m v.d, .slice v.C v.k v.e, .slice none 0 0, .slice (some ⟨go, 0, none⟩) v.n v.n] := by rw [hwz]; exact ((((kU.out.set_ 0 _).set_ 1 _).set_ 2 _).set_ 3 _).set_ 4 _
      have hgne : (Value.slice (some (⟨go, 0, none⟩ : Addr)) v.n v.n).ownBlock ≠ some gu := fun e => by have e' : go = gu := (by injection e); exact hd.out e'
      have sZ : wz.ownsRow w.heap.size 27 1 (.slice (some ⟨go, 0, none⟩) v.n v.n) v.n (List.replicate v.n (.slice none 0 0)) := by rw [hwz]; exact own_far (own_far (own_far (own_far (own_far hs.out hgne _) hgne _) hgne _) hgne _) hgne _
      refine hK _ _ bZ ?_
      clear hK K c0 c1 c2 c3 c4 f0 f1 f2 f3 f4 hwz hgne
      refine wpPT_done (NoPanic.normal ?_)
      exact key go gu wz ⟨bZ, kZ, sZ, hug.out, Ne.symm hd.out, hgU⟩
    · skip
      go_simp
      obtain ⟨gu, hgu⟩ : ∃ g, g = (World.heap U).size := ⟨_, rfl⟩
      obtain ⟨v3, hwn⟩ : ∃ X : World, X = World.alloc U (.cells #[.slice none 0 0, .slice none 0 0, .slice none 0 0, .slice none 0 0, .slice none 0 0] 142) := ⟨_, rfl⟩
      rw [← hwn, ← hgu]
      have b : Below (World.heap U).size U v3 := by rw [hwn]; exact below_alloc _ _
      have hus := Lib.hid (show gu = (World.heap U).size from hgu)
      have kU := Lib.hid (show Blk v3 gu 142 [.slice none 0 0, .slice none 0 0, .slice none 0 0, .slice none 0 0, .slice none 0 0] from by rw [hwn, hgu]; exact Blk.new _ _ _)
      replace bW := below_trans2 bW b
      refine hK _ _ bW ?_
      clear hK K hwn hgu
      have hUg : U.heap.size ≤ gu := by rw [hus.out]; exact Nat.le_refl _
      have hgl := kU.out.lt
      have bV := b
      clear b
      refine wpPT_one rfl (by rfl) (fun K hK => ?_)
      have hbw : Below w.heap.size w v3 := below_trans2 hbw bV
      go_simp
      obtain ⟨go, hgo⟩ : ∃ g, g = (World.heap v3).size := ⟨_, rfl⟩
      obtain ⟨v4, hwn⟩ : ∃ X : World, X = World.alloc v3 (.cells (zeros v.n (.slice none 0 0)) 27) := ⟨_, rfl⟩
      rw [← hwn, ← hgo]
      have b : Below (World.heap v3).size v3 v4 := by rw [hwn]; exact below_alloc _ _
      have hgs := Lib.hid (show go = (World.heap v3).size from hgo)
      have hs := Lib.hid (show World.ownsRow v4 w.heap.size 27 1 (.slice (some ⟨go, 0, none⟩) v.n v.n) v.n (List.replicate v.n (.slice none 0 0)) from by rw [hwn, hgo]; exact own_base (own_zeros v3 v.n _ _ (by unfold maxLen; omega)) hbw.size)
      replace bW := below_trans2 bW b
      refine hK _ _ bW ?_
      clear hK K hwn hgo
      have hgU : U.heap.size ≤ go := by rw [hgs.out]; exact bV.size
      have hd := Lib.hid (show ¬ go = gu from fun e => by rw [hgs.out] at e; omega)
      replace kU := Lib.hid (kU.out.below b hgl)
      have bU := below_trans2 bV b
      clear b bV hgl
      iterate 1
        refine wpPT_float (v := ?_) rfl (by rfl) (fun w' hw' => ?_) (fun K hK => ?_)
        rotate_left
        · (go_simp; try with_reducible rfl)
        go_simp
        refine hK _ ?_
        clear hK K
      -- hd : go and gu are told apart, hU : w.heap.size <= .., bU : Below U.heap.size U v4
      have c0 := Blk.cell kU.out 0
      have c1 := Blk.cell kU.out 1
      have c2 := Blk.cell kU.out 2
      have c3 := Blk.cell kU.out 3
      have c4 := Blk.cell kU.out 4
      simp only [List.getElem?_cons_zero, List.getElem?_cons_succ] at c0 c1 c2 c3 c4
      have f0 := Blk.frozen kU.out 0
      have f1 := Blk.frozen kU.out 1
      have f2 := Blk.frozen kU.out 2
      have f3 := Blk.frozen kU.out 3
      have f4 := Blk.frozen kU.out 4
      refine wpPT_one rfl (by rfl) (fun K hK => ?_)
      go_simp
      obtain ⟨wz, hwz⟩ : ∃ X : World, X = ((((World.setCell v4 ⟨gu, 0, none⟩ (.slice v.A v.n v.c)).setCell ⟨gu, 1, none⟩ (.slice v.B v.m v.d)).setCell ⟨gu, 2, none⟩ (.slice v.C v.k v.e)).setCell ⟨gu, 3, none⟩ (.slice none 0 0)).setCell ⟨gu, 4, none⟩ (.slice (some ⟨go, 0, none⟩) v.n v.n) := ⟨_, rfl⟩
      rw [← hwz]
      have hug := Lib.hid (show U.heap.size ≤ gu from hUg)
      have bZ : Below U.heap.size U wz := by rw [hwz]; exact ((((bU.setCell (p := ⟨gu, 0, none⟩) hUg _).setCell (p := ⟨gu, 1, none⟩) hUg _).setCell (p := ⟨gu, 2, none⟩) hUg _).setCell (p := ⟨gu, 3, none⟩) hUg _).setCell (p := ⟨gu, 4, none⟩) hUg _
      have kZ : Blk wz gu 142 [.slice v.A v.n v.c, .slice v.B v.m v.d, .slice v.C v.k v.e, .slice none 0 0, .slice (some ⟨go, 0, none⟩) v.n v.n] := by rw [hwz]; exact ((((kU.out.set_ 0 _).set_ 1 _).set_ 2 _).set_ 3 _).set_ 4 _
      have hgne : (Value.slice (some (⟨go, 0, none⟩ : Addr)) v.n v.n).ownBlock ≠ some gu := fun e => by have e' : go = gu := (by injection e); exact hd.out e'
      have sZ : wz.ownsRow w.heap.size 27 1 (.slice (some ⟨go, 0, none⟩) v.n v.n) v.n (List.replicate v.n (.slice none 0 0)) := by rw [hwz]; exact own_far (own_far (own_far (own_far (own_far hs.out hgne _) hgne _) hgne _) hgne _) hgne _
      refine hK _ _ bZ ?_
      clear hK K c0 c1 c2 c3 c4 f0 f1 f2 f3 f4 hwz hgne
      refine wpPT_done (NoPanic.normal ?_)
      exact key go gu wz ⟨bZ, kZ, sZ, hug.out, Ne.symm hd.out, hgU⟩
  · intro go gu w9 hk
    obtain ⟨b9, k9, s9, hu9, hd9, hg9⟩ := hk
    have hgoL := (s9.lt go rfl).2
    have hI := Lib.hid (show RuI w w9.heap.size g gr gu go v (.slice none 0 0) ((ws.take 0).filter (isW f)) w9 from by
      obtain ⟨z1, z2, z3⟩ := hzU.out
      have hs9 := b9.size
      have hgl9 := k9.lt
      have hwU := hbw.size
      refine ⟨below_trans2 hbw b9, hBU.out.k.below b9 hBU.out.k.lt, kRU.out.below b9 kRU.out.lt, k9, s9, by rw [List.take_zero]; exact World.ownsRow_nil _ _ _ _, ⟨z1, by omega, by omega, by omega, hgl9, hgoL, Nat.le_refl _⟩, ⟨by omega, by omega, fun e => hd9 e.symm, by omega, by omega, by omega⟩⟩)
    clear b9 k9 s9 hgoL hBU kRU hbw mkI
    go_wp2_with fail
    obtain ⟨B9, hB9⟩ : ∃ n, n = w9.heap.size := ⟨_, rfl⟩
    rw [← hB9] at hI
    replace hB9 := Lib.hid hB9
    clear hu9 hd9 hg9 hzU
    go_loopw [21] (fun t wr => ∃ (q : Nat) (u : Value), q ≤ m ∧ t = .int .i64 (q : Int) ∧ Hid (RuI w B9 g gr gu go v u ((ws.take q).filter (isW f)) wr)) (fun t _ => m - (intOf t).toNat)
    case atStart => exact ⟨0, _, Nat.zero_le _, rfl, hI⟩
    case round =>
      clear hI
      obtain ⟨q, u, hq, rfl, hI⟩ := hrel
      have hwsl := Lib.hid hL0.out.len
      by_cases hlt : q < m
      · have hlt' : (q : Int) < (m : Int) := by omega
        have hq0 : 0 ≤ (q : Int) ∧ (q : Int) < (m : Int) := ⟨by omega, hlt'⟩
        obtain ⟨eb, eo, z, rfl, hebl, hz, hzo, x0⟩ := (hL0.out.below hI.out.b).int hlt
        have hzz := hws.out z (List.mem_of_getElem? hz)
        obtain ⟨i, rfl⟩ := Int.eq_ofNat_of_zero_le hzz.1
        have him : i < v.m := by omega
        have him' : (i : Int) < (v.m : Int) := hzz.2
        have hi0 : (0 : Int) ≤ (i : Int) := hzz.1
        obtain ⟨ib, io, x, hxB, hib, hxi, -, i0, i1, i2, i3, i4⟩ := (hF0.out.below hI.out.b).is.item him
        have p1 : wr.cell? ⟨g, 1, none⟩ = some (.slice (some ⟨ib, io, none⟩) v.m v.d) := by rw [← hxB]; exact hI.out.k.cell 1
        have hst := filter_take18 (p := isW f) hz
        have hwr : isW f (i : Int) = x.wr := by unfold isW; rw [Int.toNat_natCast, hxi]
        rw [hwr] at hst
        replace hxB := Lib.hid hxB
        replace hz := Lib.hid hz
        replace hxi := Lib.hid hxi
        clear hebl hib hzo hwr hlt hzz i0 i1 i3 i4
        cases hw : x.wr with
        | false =>
          rw [hw] at i2 hst
          rw [if_neg (by simp)] at hst
          replace hst := Lib.hid hst
          replace hw := Lib.hid hw
          go_wp2_with fail
          exact ⟨⟨q + 1, u, by omega, by go_num, Lib.hid (by rw [hst.out]; exact hI.out)⟩, by simp [intOf]; omega⟩
        | true =>
          rw [hw] at i2 hst
          rw [if_pos rfl] at hst
          replace hst := Lib.hid hst
          replace hw := Lib.hid hw
          obtain ⟨ls, hls⟩ : ∃ l, l = (ws.take q).filter (isW f) := ⟨_, rfl⟩
          rw [← hls] at hst hI
          have hlsl : ls.length ≤ m := by rw [hls]; exact Nat.le_trans (List.length_filter_le _ _) (by rw [List.length_take]; omega)
          obtain ⟨L, hLl⟩ : ∃ L, L = ls.length := ⟨_, rfl⟩
          have hokl : Hid (∀ z ∈ ls ++ [(i : Int)], encI.ok z) := Lib.hid (fun z hz => by
            rcases List.mem_append.1 hz with h | h
            · rw [hls] at h
              have := hws.out z (List.mem_of_mem_take (List.mem_filter.1 h).1)
              exact ⟨by omega, by omega⟩
            · rw [List.mem_singleton.1 h]; exact ⟨by omega, by omega⟩)
          replace hls := Lib.hid hls
          have c3 := hI.out.c.cell 3
          simp only [List.getElem?_cons_zero, List.getElem?_cons_succ] at c3
          obtain ⟨gl, hgl⟩ : ∃ g, g = wr.heap.size := ⟨_, rfl⟩
          obtain ⟨VL, hVL⟩ : ∃ W, W = World.alloc wr (.cells #[.int .i64 (i : Int)] 3) := ⟨_, rfl⟩
          have bL : Below wr.heap.size wr VL := by rw [hVL]; exact (Below.refl _ _).alloc (Nat.le_refl _) _
          have hlit := Lib.hid (show LAt encI VL (some ⟨gl, 0, none⟩) 1 [(i : Int)] from by rw [hVL, hgl]; exact LAt.lit1 (E := encI) wr 3 (i : Int) ⟨by omega, by omega⟩)
          have hIL := Lib.hid (hI.out.later bL)
          have hown := Lib.hid (show VL.ownsRow B9 3 1 u L (encI.all ls) from by rw [hLl]; exact hIL.out.o)
          have hLm : L ≤ m := by omega
          replace hLl := Lib.hid hLl
          clear bL hI
          go_wp2_with (first
            | (rw [← hVL, ← hgl]; clear hVL hgl c3 i2 p1 x0; have c3 := hIL.out.c.cell 3; simp only [List.getElem?_cons_zero, List.getElem?_cons_succ] at c3)
            | (at_builtin; refine wpList_append_L (E := encI) rfl (.tmp 32) (.tmp 34) _ rfl B9 3 j0 _ 8 Tryz.underlying27 ji.out jz0.out jz1.out jz2.out rfl _ L ls (by rfl) hown.out _ 1 1 _ rfl hlit.out (by unfold maxLen; omega) (by omega) hIL.out.z.2.2.2.2.2.2 ?_; intro v' w7 hown' hb7 hg7 hob7; obtain ⟨A5, c5, rfl, h51, h52, -⟩ := LAt.of_own hown' hokl.out (by rw [List.length_append, ← hLl.out]; rfl); have k7 := hIL.out.c.below hb7 hIL.out.z.2.2.2.2.1; have d3 := Blk.cell k7 3; have f3 := Blk.frozen k7 3; simp only [List.getElem?_cons_zero, List.getElem?_cons_succ] at d3; replace hown' := Lib.hid hown'; replace hb7 := Lib.hid hb7; have hs7 := Lib.hid hg7.size; clear c3 k7 hg7 hob7))
          exact ⟨⟨q + 1, _, by omega, by go_num, Lib.hid (by rw [hst.out]; exact hIL.out.app hb7.out hs7.out (by rw [← hLl.out]; exact hown'.out))⟩, by simp [intOf]; omega⟩
      · obtain rfl : q = m := by omega
        have hlt' : ¬ (q : Int) < (q : Int) := by omega
        have hall : ws.take q = ws := List.take_of_length_le (by rw [hwsl.out]; exact Nat.le_refl _)
        rw [hall] at hI
        have p0 := hI.out.k.cell 0
        have p1 := hI.out.k.cell 1
        have p2 := hI.out.k.cell 2
        simp only [List.getElem?_cons_zero, List.getElem?_cons_succ] at p0 p1 p2
        clear hlt hall
        go_wp2_with fail
        refine (cK.out wr (hF0.out.below hI.out.b)).mono ?_; rintro e wk ⟨KA, nk, ck, rfl, hKL, hkc, hkm, bk, hKf⟩
        have hKl := Lib.hid hKL.len
        have hnk : nk ≤ v.m := by rw [← hKl.out]; exact hklen
        have hKgo := Lib.hid (show ∀ ad, KA = some ad → ad.block ≠ go from fun ad e h => by have := hKf ad e; have := hI.out.z; omega)
        replace hI := Lib.hid (hI.out.later bk)
        replace hKL := Lib.hid hKL
        clear p0 p1 p2 hKf bk
        have hS0 := Lib.hid (show SlotsM encI 27 3 w.heap.size go v.n wk (List.replicate v.n (.slice none 0 0)) (rdsX f v.n (kept.take 0)) from by rw [List.take_zero, rdsX_nil]; exact ⟨hI.out.s, OwnN.nils encI _ _ _ _⟩)
        have hap := Lib.hid (show ∀ k, k ≠ go → Apart go (List.replicate v.n (.slice none 0 0)) k from fun k hk => ⟨hk, fun u hu e => by rw [List.eq_of_mem_replicate hu] at e; cases e⟩)
        obtain ⟨U, cu, rfl, hnu, hcu, hUL⟩ := LAt.of_own (E := encI) hI.out.o (fun z hz => by have := hws.out z (List.mem_filter.1 hz).1; exact ⟨by omega, by omega⟩) rfl
        obtain ⟨nu, hnue⟩ : ∃ n, n = (ws.filter (isW f)).length := ⟨_, rfl⟩
        rw [← hnue] at hUL hnu hI
        have hUgo := Lib.hid (show ∀ ad, U = some ad → ad.block ≠ go from fun ad e h => by
          subst e
          have := own_lt_block hI.out.o ad.block rfl
          have := hI.out.z
          omega)
        have hUgr := Lib.hid (show ∀ ad, U = some ad → ad.block ≠ gr from fun ad e h => by
          subst e
          have := own_lt_block hI.out.o ad.block rfl
          have := hI.out.z
          omega)
        have hUw0 := Lib.hid (show ∀ ad, U = some ad → w.heap.size ≤ ad.block from fun ad h => by
          subst h
          have := own_lt_block hI.out.o ad.block rfl
          have := hI.out.z
          omega)
        replace hUL := Lib.hid hUL
        replace hnue := Lib.hid hnue
        obtain ⟨vs0, hvs0⟩ : ∃ l, l = List.replicate v.n (Value.slice none 0 0) := ⟨_, rfl⟩
        rw [← hvs0] at hS0 hap
        replace hvs0 := Lib.hid hvs0
        have hbk := Lib.hid hI.out.b
        have hgo := Lib.hid (show g ≠ go ∧ gr ≠ go ∧ gu ≠ go from ⟨hI.out.d.2.2.2.1, hI.out.d.2.2.2.2.1, fun e => hI.out.d.2.2.1 e.symm⟩)
        have hgb0 := Lib.hid (show w.heap.size ≤ go from (hS0.out.o.lt go rfl).1)
        have hgr0 := Lib.hid hI.out.d.2.2.2.2.2
        have kg := Lib.hid hI.out.k
        have kr := Lib.hid hI.out.r
        have ku := Lib.hid hI.out.c
        clear hI
        go_wp2_with fail
        go_loopw [42] (fun t wr => ∃ (q : Nat) (vs : List Value), q ≤ nk ∧ t = .int .i64 (q : Int) ∧ Hid (Below w.heap.size w wr) ∧ Hid (SlotsM encI 27 3 w.heap.size go v.n wr vs (rdsX f v.n (kept.take q))) ∧ Hid (Mv go wk vs0 wr vs)) (fun t _ => nk - (intOf t).toNat)
        case atStart => exact ⟨0, vs0, Nat.zero_le _, rfl, hbk, hS0, Lib.hid (Mv.refl _ _ _)⟩
        case round =>
          clear hbk hS0
          obtain ⟨q, vs, hq, rfl, hb, hS, hMv⟩ := hrel
          by_cases hlt : q < nk
          · have hlt' : (q : Int) < (nk : Int) := by omega
            have hq0 : 0 ≤ (q : Int) ∧ (q : Int) < (nk : Int) := ⟨by omega, hlt'⟩
            obtain ⟨eb, eo, z, hKA, hebl, hz, hzo, x0⟩ := (hMv.out.lat hKL.out (fun ad e => hap.out _ (hKgo.out ad e))).int hlt
            have hzz := hkok.out z (List.mem_of_getElem? hz)
            obtain ⟨i, rfl⟩ := Int.eq_ofNat_of_zero_le hzz.1
            have him : i < v.m := by omega
            have him' : (i : Int) < (v.m : Int) := hzz.2
            have hik' : (i : Int) < (v.k : Int) := by rw [hfl.out]; exact hzz.2
            have hi0 : (0 : Int) ≤ (i : Int) := hzz.1
            obtain ⟨ib, io, x, hxB, hib, hxi, -, i0, i1, i2, i3, i4⟩ := (hF0.out.below hb.out).is.item him
            obtain ⟨cb, co, zf, hxC, hcb, hzf, hzfo, y0⟩ := (hF0.out.below hb.out).fs.int (show i < v.k by rw [hfl.out]; exact him)
            have hkgw := hMv.out.blk kg.out (hap.out _ hgo.out.1)
            have p1 : wr.cell? ⟨g, 1, none⟩ = some (.slice (some ⟨ib, io, none⟩) v.m v.d) := by rw [← hxB]; exact hkgw.cell 1
            have p2 : wr.cell? ⟨g, 2, none⟩ = some (.slice (some ⟨cb, co, none⟩) v.k v.e) := by rw [← hxC]; exact hkgw.cell 2
            have hfz : fromZ f (i : Int) = zf := by unfold fromZ; rw [Int.toNat_natCast, getD_at hzf]
            have hva : vaZ f (i : Int) = x.va := by unfold vaZ; rw [Int.toNat_natCast, hxi]
            have hvr := hx.out.va x (List.mem_of_getElem? hxi)
            obtain ⟨b, hb0⟩ := Int.eq_ofNat_of_zero_le hvr.1
            rw [hb0] at i3 hva hvr
            have hbn : b < v.n := by omega
            have hbn' : 0 ≤ (b : Int) ∧ (b : Int) < (v.n : Int) := hvr
            subst hKA
            replace hxB := Lib.hid hxB
            replace hxC := Lib.hid hxC
            replace hxi := Lib.hid hxi
            clear hebl hib hzo hlt hzz i0 i1 i2 i4 hcb hzfo hzf hvr hb0 hkgw
            by_cases h0 : 0 ≤ zf
            · have d0 : decide (0 ≤ zf) = true := decide_eq_true h0
              have hst := rdsX_step (f := f) (n := v.n) hz (by rw [hfz]; exact h0) hva hbn
              obtain ⟨A, M, c, l, hvb, hlb, hlM, c0, f0, hown, hokl, hMc, hc63, -⟩ := hS.out.get hbn
              have hlX : l = rdsV f (kept.take q) (b : Int) := by rw [rdsX_at _ hbn] at hlb; injection hlb with h; exact h.symm
              rw [← hlX] at hst
              have hMm : M ≤ 1048576 := by
                rw [← hlM, hlX]
                exact Nat.le_trans (List.length_filter_le _ _) (by rw [List.length_take]; omega)
              obtain ⟨gb, hgb, hgn⟩ : ∃ gb, (∀ b, (Value.slice A M c).ownBlock = some b → b = gb) ∧ ∀ k, k < wr.heap.size → (Value.slice A M c).ownBlock ≠ some k → k ≠ gb := by
                cases hob : (Value.slice A M c).ownBlock with
                | none => exact ⟨wr.heap.size + 7, (fun b h => by cases h), (fun k hk _ => by omega)⟩
                | some b => exact ⟨b, (fun b' h => by injection h with h; exact h.symm), (fun k _ h e => h (by rw [e]))⟩
              have kuw := hMv.out.blk ku.out (hap.out _ hgo.out.2.2)
              have nu : gu ≠ gb := hgn gu kuw.lt (kuw.not_row' (by decide) hown)
              have no : go ≠ gb := hgn go (hS.out.o.lt go rfl).2 (rows_apart hS.out.o hown (by decide) rfl)
              have hokn : Hid (∀ x ∈ l ++ [(i : Int)], encI.ok x) := Lib.hid (fun x hx => by
                rcases List.mem_append.1 hx with h | h
                · exact hokl x h
                · rw [List.mem_singleton.1 h]; exact ⟨by omega, by omega⟩)
              have c4 := kuw.cell 4
              simp only [List.getElem?_cons_zero, List.getElem?_cons_succ] at c4
              replace hz := Lib.hid hz
              replace hst := Lib.hid hst
              replace hfz := Lib.hid hfz
              replace hva := Lib.hid hva
              replace hlb := Lib.hid hlb
              replace hvb := Lib.hid hvb
              replace hlX := Lib.hid hlX
              replace hlM := Lib.hid hlM
              replace hgb := Lib.hid hgb
              replace hown := Lib.hid hown
              replace hMc := Lib.hid hMc
              replace hokl := Lib.hid hokl
              clear hgn kuw h0
              go_wp2_with fail
              clear x0 p1 p2 i3 y0 d0
              refine wp_region_planG (gb := gb) 12 [(true, 0), (true, 1), (true, 2), (true, 3), (true, 4), (true, 5), (true, 6), (true, 7), (true, 8), (false, 9), (false, 10), (true, 11)] (by kernel_rfl) (by kernel_rfl) (fun X hX => ?_)
              obtain rfl := hX.out
              clear hX
              replace c4 : wr.drew.cell? ⟨gu, 4, none⟩ = some (.slice (some ⟨go, 0, none⟩) v.n v.n) := c4
              replace c0 : wr.drew.cell? ⟨go, b, none⟩ = some (.slice A M c) := c0
              simp only [List.drop_succ_cons, List.drop_zero]
              iterate 9
                refine wpPG_float (v := ?_) rfl (by rfl) (fun w' hw' => ?_) (fun K hK => ?_)
                rotate_left
                · (go_simp; try with_reducible rfl)
                go_simp
                refine hK _ ?_
                clear hK K
              refine wpPG_only rfl (by rfl) (fun K hK => ?_)
              go_simp
              obtain ⟨W3, hW3⟩ : ∃ W, W = (wr.alloc (.cells #[.int .i64 (i : Int)] 3)).drew := ⟨_, rfl⟩
              have b3 : Below wr.heap.size wr W3 := by rw [hW3]; exact ((Below.refl _ wr).alloc (Nat.le_refl _) _).drew
              have hlit : LAt encI W3 (some ⟨wr.heap.size, 0, none⟩) 1 [(i : Int)] := by rw [hW3]; exact LAt.lit1 (E := encI) wr _ (i : Int) ⟨by omega, by omega⟩
              have hS3 := hS.out.later b3
              have hM3 := hMv.out.later b3
              have hb3 := below_trans2 hb.out b3
              have hrow3 := own_below hown.out b3
              rw [← hW3]
              refine hK _ _ ⟨b3.os, b3.tape, b3.output, b3.size, fun k hk _ => b3.block k hk⟩ ?_
              clear hK K
              refine wpPG_only rfl (by rfl) (fun K hK => ?_)
              refine wp_append_L18 (E := encI) (.tmp 65) (.tmp 67) _ rfl w.heap.size 3 j0 _ 8 Tryz.underlying27 ji.out jz0.out jz1.out jz2.out rfl _ M l (by rfl) hrow3 _ 1 1 [(i : Int)] (by rfl) hlit (by unfold maxLen; omega) (by omega) hb3.size ?_
              intro v' w4 hown' hbb hg4 hob
              obtain ⟨A5, c5, rfl, h51, h52, -⟩ := LAt.of_own (E := encI) hown' hokn.out (by rw [List.length_append, hlM.out]; rfl)
              refine hK _ _ (BelowB.grown hg4 (fun k hk => hgb.out k hk)) ?_
              clear hK K
              obtain ⟨hS5, hM5, d5, f5⟩ := hS3.put (by decide) hvb.out hlb.out hg4 (v' := .slice A5 (M + 1) c5) (l' := l ++ [(i : Int)]) (by rw [List.length_append, hlM.out]; exact hown') hokn.out hob
              have hS6 := Lib.hid (by rw [← hst.out] at hS5; exact hS5)
              have hM6 := Lib.hid (hM3.trans hM5)
              have hb6 := Lib.hid ((hb3.trans hbb).setCell (p := ⟨go, b, none⟩) hgb0.out (.slice A5 (M + 1) c5))
              clear hS5 hM5 hown' hbb hg4 hob hlit hrow3 hS3 hM3 hb3 c4 c0 f0 h51 h52
              iterate 1
                refine wpPG_float (v := ?_) rfl (by rfl) (fun w' hw' => ?_) (fun K hK => ?_)
                rotate_left
                · (go_simp; try with_reducible rfl)
                go_simp
                refine hK _ ?_
                clear hK K
              refine wpPG_nil ?_
              go_wp2_with fail
              refine NoPanic.normal ?_
              go_wp2_with fail
              exact ⟨⟨q + 1, _, by omega, by go_num, hb6, hS6, hM6⟩, by simp [intOf]; omega⟩
            · have d0 : decide (0 ≤ zf) = false := decide_eq_false h0
              have hst := Lib.hid (rdsX_skip (f := f) (n := v.n) hz (by rw [hfz]; omega))
              replace hz := Lib.hid hz
              replace hfz := Lib.hid hfz
              replace hva := Lib.hid hva
              have h0' : zf < 0 := by omega
              clear h0
              go_wp2_with fail
              exact ⟨⟨q + 1, vs, by omega, by go_num, hb, Lib.hid (by rw [hst.out]; exact hS.out), hMv⟩, by simp [intOf]; omega⟩
          · obtain rfl : q = nk := by omega
            have hlt' : ¬ (q : Int) < (q : Int) := by omega
            have hall : kept.take q = kept := List.take_of_length_le (by rw [hKl.out]; exact Nat.le_refl _)
            rw [hall] at hS
            have kuw := hMv.out.blk ku.out (hap.out _ hgo.out.2.2)
            have krw := hMv.out.blk kr.out (hap.out _ hgo.out.2.1)
            have hUw := hMv.out.lat hUL.out (fun ad e => hap.out _ (hUgo.out ad e))
            have y0 := Blk.cell krw 0
            have y1 := Blk.cell krw 1
            have y2 := Blk.cell krw 2
            have y3 := Blk.cell krw 3
            have y4 := Blk.cell krw 4
            simp only [List.getElem?_cons_zero, List.getElem?_cons_succ] at y0 y1 y2 y3 y4
            have f0 := Blk.frozen krw 0
            have f1 := Blk.frozen krw 1
            have f2 := Blk.frozen krw 2
            have f3 := Blk.frozen krw 3
            have f4 := Blk.frozen krw 4
            have c0 := Blk.cell kuw 0
            have c1 := Blk.cell kuw 1
            have c2 := Blk.cell kuw 2
            have c3 := Blk.cell kuw 3
            have c4 := Blk.cell kuw 4
            simp only [List.getElem?_cons_zero, List.getElem?_cons_succ] at c0 c1 c2 c3 c4
            have e0 := Blk.frozen kuw 0
            have e1 := Blk.frozen kuw 1
            have e2 := Blk.frozen kuw 2
            have e3 := Blk.frozen kuw 3
            have e4 := Blk.frozen kuw 4
            have hgra := hMv.out.apart kr.out.lt (hap.out _ hgo.out.2.1)
            have kN := Blk.put5R krw (.slice v.A v.n v.c) (.slice v.B v.m v.d) (.slice v.C v.k v.e) (.slice U nu cu) (.slice (some ⟨go, 0, none⟩) v.n v.n)
            have z0 := Blk.cell kN 0
            have z1 := Blk.cell kN 1
            have z2 := Blk.cell kN 2
            have z3 := Blk.cell kN 3
            have z4 := Blk.cell kN 4
            simp only [List.getElem?_cons_zero, List.getElem?_cons_succ] at z0 z1 z2 z3 z4
            have hdd := Lib.hid (And.intro z0 (And.intro z1 (And.intro z2 (And.intro z3 z4))))
            have hSf := Lib.hid (((((hS.out.setFar hgra 0 (.slice v.A v.n v.c)).setFar hgra 1 (.slice v.B v.m v.d)).setFar hgra 2 (.slice v.C v.k v.e)).setFar hgra 3 (.slice U nu cu)).setFar hgra 4 (.slice (some ⟨go, 0, none⟩) v.n v.n))
            have hUf := Lib.hid (((((hUw.farR hUgr.out 0 (.slice v.A v.n v.c)).farR hUgr.out 1 (.slice v.B v.m v.d)).farR hUgr.out 2 (.slice v.C v.k v.e)).farR hUgr.out 3 (.slice U nu cu)).farR hUgr.out 4 (.slice (some ⟨go, 0, none⟩) v.n v.n))
            have hbf := Lib.hid (below_put5R hb.out (g := gr) hgr0.out (.slice v.A v.n v.c) (.slice v.B v.m v.d) (.slice v.C v.k v.e) (.slice U nu cu) (.slice (some ⟨go, 0, none⟩) v.n v.n))
            clear kN z0 z1 z2 z3 z4 kuw krw hUw hall hlt
            go_wp2_with fail
            obtain ⟨z0, z1, z2, z3, z4⟩ := hdd.out
            exact bodyPost_ret (v := .agg #[.slice v.A v.n v.c, .slice v.B v.m v.d, .slice v.C v.k v.e, .slice U nu cu, .slice (some ⟨go, 0, none⟩) v.n v.n]) (by simp [results, Tryz.results120, go_sem, z0, z1, z2, z3, z4]) rfl ⟨U, nu, cu, go, vs, rfl, hUf.out, hnu, hSf.out, hbf.out, hUw0.out⟩
end Go.Proofs.YtjhjojklfdjmdaaGreat

namespace Go.Proofs.YtjhjojklfdjmdaaGreat
open Go.RowKit
set_option linter.unusedVariables false
instance : Inhabited Ed := ⟨⟨0, 0, 0⟩⟩
instance (x y : Ed) : Decidable (EdLt x y) := by unfold EdLt; infer_instance
def cmpZ (x y : Int) : Int := if x < y then -1 else if y < x then 1 else 0
def cfEd (x y : Ed) : Int := if cmpZ x.w1 y.w1 = 0 then cmpZ x.w2 y.w2 else cmpZ x.w1 y.w1
theorem cfEd_lt (x y : Ed) : ltOf cfEd x y = decide (EdLt x y) := by
  unfold ltOf
  rw [Bool.eq_iff_iff, decide_eq_true_eq, decide_eq_true_eq]
  unfold cfEd cmpZ EdLt
  repeat (split; skip)
  all_goals omega
theorem swoE : Go.Sort.SWO (ltOf cfEd) where
  irrefl x := by rw [cfEd_lt, decide_eq_false_iff_not]; unfold EdLt; omega
  trans x y z h1 h2 := by rw [cfEd_lt, decide_eq_true_eq] at *; unfold EdLt at *; omega
  ntrans x y z h1 h2 := by rw [cfEd_lt, decide_eq_false_iff_not] at *; unfold EdLt at *; omega
set_option maxHeartbeats 1000000 in
theorem cmp_cmp (x y : Int) (w : World) : Calls Tryz.prog 140 #[.int .i64 x, .int .i64 y] w fun e w' => e = .returned (.int .i64 (cmpZ x y)) ∧ w = w' := by
  by_cases h1 : x < y
  · have e1 : Hid (cmpZ x y = -1) := Lib.hid (by unfold cmpZ; rw [if_pos h1])
    go_enter Tryz.func140, Tryz.ntmps140
    go_wp2
    go_ret
    exact ⟨by rw [e1.out]; rfl, rfl⟩
  · by_cases h2 : y < x
    · have e1 : Hid (cmpZ x y = 1) := Lib.hid (by unfold cmpZ; rw [if_neg h1, if_pos h2])
      go_enter Tryz.func140, Tryz.ntmps140
      go_wp2
      go_ret
      exact ⟨by rw [e1.out]; rfl, rfl⟩
    · have e1 : Hid (cmpZ x y = 0) := Lib.hid (by unfold cmpZ; rw [if_neg h1, if_neg h2])
      go_enter Tryz.func140, Tryz.ntmps140
      go_wp2
      go_ret
      exact ⟨by rw [e1.out]; rfl, rfl⟩
set_option maxHeartbeats 2000000 in
theorem cmp_or (g : Nat) (a b : Int) (w : World) (h0 : w.cell? ⟨g, 0, none⟩ = some (.int .i64 a)) (h1 : w.cell? ⟨g, 1, none⟩ = some (.int .i64 b)) : Calls Tryz.prog 139 #[.slice (some ⟨g, 0, none⟩) 2 2] w fun e w' => e = .returned (.int .i64 (if a = 0 then b else a)) ∧ w = w' := by
  by_cases ha : a = 0
  · have e1 : (a != 0) = false := by rw [ha]; rfl
    rw [if_pos ha]
    by_cases hb : b = 0
    · have e2 : (b != 0) = false := by rw [hb]; rfl
      replace hb := Lib.hid hb
      replace ha := Lib.hid ha
      go_enter Tryz.func139, Tryz.ntmps139
      go_wp2
      refine wp_loop_rounds 3 ?_
      rw [rounds_succ]
      go_wp2
      rw [rounds_succ]
      go_wp2
      rw [rounds_succ]
      go_wp2
      go_ret
      exact ⟨by rw [hb.out]; rfl, rfl⟩
    · have e2 : (b != 0) = true := by rw [bne_iff_ne]; exact hb
      replace hb := Lib.hid hb
      replace ha := Lib.hid ha
      go_enter Tryz.func139, Tryz.ntmps139
      go_wp2
      refine wp_loop_rounds 3 ?_
      rw [rounds_succ]
      go_wp2
      rw [rounds_succ]
      go_wp2
      go_ret
      exact ⟨rfl, rfl⟩
  · have e1 : (a != 0) = true := by rw [bne_iff_ne]; exact ha
    rw [if_neg ha]
    replace ha := Lib.hid ha
    go_enter Tryz.func139, Tryz.ntmps139
    go_wp2
    refine wp_loop_rounds 3 ?_
    rw [rounds_succ]
    go_wp2
    go_ret
    exact ⟨rfl, rfl⟩
set_option maxRecDepth 100000 in
set_option maxHeartbeats 400000 in
theorem sort_cmp (x y : Ed) (W : World) : Calls Tryz.prog 138 #[.agg (encE.cells x).toArray, .agg (encE.cells y).toArray] W fun e w' => e = .returned (.int .i64 (cfEd x y)) ∧ ∃ q os', w' = Go.Sort.grow (W.drewN q) os' := by
  obtain ⟨x1, x2, x3⟩ := x
  obtain ⟨y1, y2, y3⟩ := y
  show Calls Tryz.prog 138 #[.agg #[.int .i64 x1, .int .i64 x2, .int .i64 x3], .agg #[.int .i64 y1, .int .i64 y2, .int .i64 y3]] W _
  obtain ⟨W1, hW1⟩ : ∃ V, V = W.alloc (.cells #[.int .i64 x1, .int .i64 x2, .int .i64 x3] 84) := ⟨_, rfl⟩
  obtain ⟨g1, hg1⟩ : ∃ g, g = W.heap.size := ⟨_, rfl⟩
  obtain ⟨W2, hW2⟩ : ∃ V, V = W1.alloc (.cells #[.int .i64 y1, .int .i64 y2, .int .i64 y3] 84) := ⟨_, rfl⟩
  obtain ⟨g2, hg2⟩ : ∃ g, g = W1.heap.size := ⟨_, rfl⟩
  have k1 : Blk W1 g1 84 [.int .i64 x1, .int .i64 x2, .int .i64 x3] := by rw [hW1, hg1]; exact Blk.new W _ _
  have k1' : Blk W2 g1 84 [.int .i64 x1, .int .i64 x2, .int .i64 x3] := by rw [hW2]; exact k1.alloc _
  have k2 : Blk W2 g2 84 [.int .i64 y1, .int .i64 y2, .int .i64 y3] := by rw [hW2, hg2]; exact Blk.new W1 _ _
  have hWW := Lib.hid (show W2 = Go.Sort.grow W #[.cells #[.int .i64 x1, .int .i64 x2, .int .i64 x3] 84, .cells #[.int .i64 y1, .int .i64 y2, .int .i64 y3] 84] from by
    rw [hW2, hW1, Go.Sort.alloc_eq_grow, Go.Sort.alloc_eq_grow, Go.Sort.grow_grow]; rfl)
  replace k1' := Lib.hid k1'
  replace k2 := Lib.hid k2
  clear k1
  obtain ⟨c1, hc1⟩ : ∃ c, c = cmpZ x1 y1 := ⟨_, rfl⟩
  obtain ⟨c2, hc2⟩ : ∃ c, c = cmpZ x2 y2 := ⟨_, rfl⟩
  have cA := fun V => cmp_cmp x1 y1 V
  have cB := fun V => cmp_cmp x2 y2 V
  rw [← hc1] at cA
  rw [← hc2] at cB
  have hcf : Hid (cfEd ⟨x1, x2, x3⟩ ⟨y1, y2, y3⟩ = if c1 = 0 then c2 else c1) := Lib.hid (by rw [hc1, hc2]; rfl)
  replace cA := Lib.hid cA
  replace cB := Lib.hid cB
  have cO := fun g V h0 h1 => cmp_or g c1 c2 V h0 h1
  obtain ⟨r, hr⟩ : ∃ r, r = if c1 = 0 then c2 else c1 := ⟨_, rfl⟩
  rw [← hr] at cO hcf
  replace cO := Lib.hid cO
  clear hc1 hc2 hr
  go_enter Tryz.func138, Tryz.ntmps138
  go_wp2_with (first | (rw [← hW1, ← hg1]; clear hW1; replace hg1 := Lib.hid hg1) | (rw [← hW2, ← hg2]; clear hW2; replace hg2 := Lib.hid hg2))
  refine wp_region_plan 13 [(true, 0), (true, 1), (true, 2), (true, 3), (true, 5), (true, 6), (true, 7), (true, 8), (false, 4), (false, 9), (false, 10), (false, 11), (true, 12)] (by kernel_rfl) (by kernel_rfl) (fun U hU => ?_)
  have q1 : Blk U g1 84 [.int .i64 x1, .int .i64 x2, .int .i64 x3] := by rw [hU.out]; exact k1'.out.drew
  have q2 : Blk U g2 84 [.int .i64 y1, .int .i64 y2, .int .i64 y3] := by rw [hU.out]; exact k2.out.drew
  have i0 := q1.cell 0
  have i1 := q1.cell 1
  have j0 := q2.cell 0
  have j1 := q2.cell 1
  simp only [List.getElem?_cons_zero, List.getElem?_cons_succ] at i0 i1 j0 j1
  clear q1 q2
  simp only [List.drop_succ_cons, List.drop_nil]
  iterate 8
    refine wpPlan_float (v := ?_) rfl (by rfl) (fun w' hw' => ?_) (fun K hK => ?_)
    rotate_left
    · (go_simp; try with_reducible rfl)
    go_simp
    refine hK _ ?_
    clear hK K
  clear i0 i1 j0 j1
  refine wpPlan_only rfl (by rfl) (fun K hK => ?_)
  go_simp
  refine (cA.out U).mono ?_
  rintro e w1 ⟨rfl, rfl⟩
  refine hK _ _ (Below.refl _ _) ?_
  clear hK K
  refine wpPlan_only rfl (by rfl) (fun K hK => ?_)
  go_simp
  refine (cB.out U).mono ?_
  rintro e w1 ⟨rfl, rfl⟩
  refine hK _ _ (Below.refl _ _) ?_
  clear hK K
  refine wpPlan_only rfl (by rfl) (fun K hK => ?_)
  go_simp
  obtain ⟨V, hV⟩ : ∃ V, V = U.alloc (.cells #[.int .i64 c1, .int .i64 c2] 3) := ⟨_, rfl⟩
  obtain ⟨gl, hgl⟩ : ∃ g, g = U.heap.size := ⟨_, rfl⟩
  have kl : Blk V gl 3 [.int .i64 c1, .int .i64 c2] := by rw [hV, hgl]; exact Blk.new U _ _
  have bl : Below U.heap.size U V := by rw [hV]; exact below_alloc _ _
  rw [← hV, ← hgl]
  refine hK _ _ bl ?_
  clear hK K bl
  replace hV := Lib.hid hV
  replace hgl := Lib.hid hgl
  refine wpPlan_only rfl (by rfl) (fun K hK => ?_)
  go_simp
  refine (cO.out gl V (kl.cell 0) (kl.cell 1)).mono ?_
  rintro e w1 ⟨rfl, rfl⟩
  refine hK _ _ (Below.refl _ _) ?_
  clear hK K
  iterate 1
    refine wpPlan_float (v := ?_) rfl (by rfl) (fun w' hw' => ?_) (fun K hK => ?_)
    rotate_left
    · (go_simp; try with_reducible rfl)
    go_simp
    refine hK _ ?_
    clear hK K
  refine wpPlan_nil (NoPanic.normal ?_)
  go_wp2_with fail
  go_ret
  refine ⟨by rw [hcf.out]; rfl, 1, #[.cells #[.int .i64 x1, .int .i64 x2, .int .i64 x3] 84, .cells #[.int .i64 y1, .int .i64 y2, .int .i64 y3] 84] ++ #[.cells #[.int .i64 c1, .int .i64 c2] 3], ?_⟩
  rw [hV.out, hU.out, hWW.out, Go.Sort.alloc_eq_grow, Go.Sort.drew_grow, Go.Sort.grow_grow]
  rfl
theorem flat_all (l : List Ed) {j : Nat} (hj : j < l.length * 3) : (encE.all l)[j]? = some ((Go.Sort.flatK encE.cells 3 l.toArray)[j]!) := by
  have hx : j / 3 < l.length := by omega
  rw [Go.Sort.get_flatK _ _ _ _ (by rw [List.size_toArray]; exact hj)]
  have h1 := Enc.all_at (E := encE) (xs := l) (k := j / 3) (x := l[j / 3]) (List.getElem?_eq_getElem hx) (r := j % 3) (by show j % 3 < 3; omega)
  have h2 : j / 3 * encE.sz + j % 3 = j := by show j / 3 * 3 + j % 3 = j; omega
  rw [h2] at h1
  rw [h1]
  have h3 : l.toArray[j / 3]! = l[j / 3] := by simp [hx]
  rw [h3]
  have h4 : j % 3 < (encE.cells l[j / 3]).length := by show j % 3 < 3; omega
  rw [List.getElem?_eq_getElem h4, getElem!_pos (encE.cells l[j / 3]) (j % 3) h4]
theorem sort_holds {w : World} {base blk m c : Nat} {l : List Ed} (hown : w.ownsRow base 84 3 (.slice (some ⟨blk, 0, none⟩) m c) m (encE.all l)) (hl : l.length = m) : Go.Sort.HoldsK encE.cells 3 w blk 0 l.toArray := fun j hj => by
  rw [Go.Sort.size_flatK, List.size_toArray, hl] at hj
  refine ⟨?_, by rw [Nat.zero_add]; exact hown.frozenAt j⟩
  rw [Nat.zero_add, hown.cellAt j hj, flat_all l (by rw [hl]; exact hj)]; rfl
/-- a call that puts a list of the call's own in order -/
def RetSorted (base blk m : Nat) (l : List Ed) (w : World) (e : Ending) (w' : World) : Prop := e = .returned (.tuple #[]) ∧ ∃ l' : List Ed, l.Perm l' ∧ (l'.Pairwise fun x y => ¬ EdLt y x) ∧ LAt encE w' (some ⟨blk, 0, none⟩) m l' ∧ w.grownBy w' (some blk)
set_option maxHeartbeats 1000000 in
theorem sort_edges (base blk m c : Nat) (l : List Ed) (w : World) (hown : w.ownsRow base 84 3 (.slice (some ⟨blk, 0, none⟩) m c) m (encE.all l)) (hl : l.length = m) (hok : ∀ x ∈ l, Ed.Ok x) (hm : m ≤ 1099511627776) :
    Calls Tryz.prog 137 #[.slice (some ⟨blk, 0, none⟩) m c, .func (.func 138) #[] #[]] w (RetSorted base blk m l w) := by
  have hlt := (hown.lt blk rfl).2
  have hH := sort_holds hown hl
  have eg : ∀ args w, (callFunc 138 args).run Tryz.prog w = .ok (.enter 138 args) w := enters_of Tryz.func138 (by kernel_rfl) rfl
  have hcon := AnyQ.slices_SortFunc Tryz.sortEd 3 Tryz.isAgg84 Tryz.sizeOf84 encE.cells (fun _ => rfl) (fun x v hv => encE.one x v hv) cfEd swoE 138 #[] blk 0 c l.toArray w eg (fun _ _ _ _ x y => sort_cmp x y _) hH hlt (by rw [List.size_toArray, hl]; omega)
  change Calls Tryz.prog 137 _ _ _ at hcon
  have hls : l.toArray.size = m := by rw [List.size_toArray, hl]
  rw [hls] at hcon
  refine hcon.mono ?_
  rintro e w' ⟨rfl, d', n, os, ⟨hsz, -, hp⟩, hs, rfl⟩
  rw [hls] at hsz
  have e1 : d'.extract 0 m = d' := by rw [← hsz]; exact Array.extract_size
  have e2 : l.toArray.extract 0 m = l.toArray := by rw [← hls]; exact Array.extract_size
  rw [e1, e2] at hp
  have hp' : l.Perm d'.toList := hp.symm
  have hg := holdsK_sortWorldK_c encE.cells 3 w blk 0 l.toArray d' n os hH hlt (by rw [hls, hsz])
  refine ⟨rfl, d'.toList, hp', ?_, ⟨by rw [Array.length_toList, hsz], fun x hx => hok x (hp'.symm.subset hx), fun h0 => ⟨blk, 0, rfl, Nat.lt_of_lt_of_le hlt (size_sortWorldK_c _ _ _ _ _ _ _ _), fun j u hu => ?_⟩⟩, ⟨rfl, rfl, rfl, size_sortWorldK_c _ _ _ _ _ _ _ _, fun k hk hne => ?_⟩⟩
  · rw [List.pairwise_iff_getElem]
    intro i j hi hj hij
    have h1 := hs i j (Nat.zero_le _) hij (by rw [← hsz]; simpa using hj)
    rw [cfEd_lt, decide_eq_false_iff_not] at h1
    rw [Array.length_toList] at hi hj
    rw [getElem!_pos d' i hi, getElem!_pos d' j hj] at h1
    simpa using h1
  · have hjl : j < d'.toList.length * 3 := by
      have := (List.getElem?_eq_some_iff.1 hu).1
      rw [encE.all_len] at this
      exact this
    rw [flat_all d'.toList hjl] at hu
    injection hu with hu
    subst hu
    exact (hg j (by rw [Go.Sort.size_flatK]; simpa using hjl)).1
  · unfold sortWorldK Go.Sort.grow Go.Sort.putRowK Go.Sort.putRow Go.Sort.mapBlock Go.Sort.ahead
    simp only
    rw [Array.getElem?_append_left (by rw [Array.size_modify]; exact hk), Array.getElem?_modify, if_neg (fun h => hne (by rw [h]))]
end Go.Proofs.YtjhjojklfdjmdaaGreat
