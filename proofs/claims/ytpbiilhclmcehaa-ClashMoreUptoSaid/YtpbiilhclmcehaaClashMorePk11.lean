/- The code's own contracts of layer 17, second half: pairs (the writes of conflicts), Cf. The contract of the document's own answer of layer 11: Of (whole facts of a history). Lists of pairs of bytes in memory. Plain mathematics of layer 18: what an operation has seen, round by round. Nothing of the program is named. Contracts of the document's own answers for matrices: Pairs. Contracts of the document's own answers for matrices: Turn. Contract of the document's own answer: Within. The example of layers 17 and 18: two writes and a read. Layer 17's example and its matrices, walked. Plain mathematics of layer 17: how many conflicts there are; with more pairs there are no fewer. Nothing of the program is named. -/
import Derived.Test.YtpbiilhclmcehaaClashMorePk10
import Derived.Test.YtpbiilhclmcehaaClashMorePk3
import Derived.Test.YtpbiilhclmcehaaClashMorePk4
import Derived.Test.YtpbiilhclmcehaaClashMorePk7
import Derived.Test.YtpbiilhclmcehaaClashMorePk6
import Derived.Test.YtpbiilhclmcehaaClashMorePk5
import Derived.Test.YtpbiilhclmcehaaClashMorePk8
namespace Go.Proofs.Ytpbiilhclmcehaa
open Go.RowKit
set_option linter.unusedVariables false
theorem PairsAt.of_blk17 {w : World} {g n : Nat} {t : TypeId} {ps : List (Int × Int)} (h : Blk w g t (cellsP ps)) (hl : ps.length = n) (ho : OkI ps) : PairsAt w (some ⟨g, 0, none⟩) n ps :=
  ⟨hl, ho, fun _ => ⟨g, 0, rfl, h.lt, fun j p hp => by
    obtain ⟨h1, h2⟩ := cellsP_get ps j p hp
    exact ⟨by rw [Nat.zero_add, h.cell]; exact h1, by rw [Nat.zero_add, h.cell]; exact h2⟩⟩⟩
theorem cells2_zero (n : Nat) : (madeCells #[.int .i64 0, .int .i64 0] (n * 2)).toList = List.replicate (n * 2) (.int .i64 0) := by
  have hz : (#[.int .i64 0, .int .i64 0] : Array Value) = Array.replicate 2 (.int .i64 0) := rfl
  rw [hz]
  unfold madeCells
  rw [Array.toList_map, Array.toList_range, Array.size_replicate]
  apply List.ext_getElem (by simp)
  intro i h1 h2
  rw [List.getElem_map, List.getElem_range, List.getElem_replicate, getElem!_pos _ _ (by rw [Array.size_replicate]; omega), Array.getElem_replicate]
/-- the pairs of the first i conflicts, then zeros: the cells of n pairs -/
def ppC (es : List Ed) (n i : Nat) : List Value := cellsP (edP (es.take i)) ++ List.replicate ((n - i) * 2) (.int .i64 0)
theorem ppC_zero (es : List Ed) (n : Nat) : ppC es n 0 = List.replicate (n * 2) (.int .i64 0) := by unfold ppC; simp [edP, cellsP]
theorem ppC_all {es : List Ed} {n : Nat} (h : es.length = n) : ppC es n n = cellsP (edP es) := by unfold ppC; rw [List.take_of_length_le (by omega)]; simp
theorem edP_snoc {es : List Ed} {i : Nat} {x : Ed} (h : es[i]? = some x) : edP (es.take (i + 1)) = edP (es.take i) ++ [(x.w1, x.w2)] := by
  unfold edP; rw [List.take_add_one, h, List.map_append]; rfl
theorem ppC_at {es : List Ed} {n i : Nat} (hi : i < n) (hl : es.length = n) : (ppC es n i)[i * 2]? = some (.int .i64 0) ∧ (ppC es n i)[i * 2 + 1]? = some (.int .i64 0) := by
  have hL : (cellsP (edP (es.take i))).length = i * 2 := by rw [cellsP_len]; unfold edP; rw [List.length_map, List.length_take]; congr 1; omega
  unfold ppC
  constructor
  · rw [List.getElem?_append_right (by omega), hL, List.getElem?_replicate, if_pos (by omega)]
  · rw [List.getElem?_append_right (by omega), hL, List.getElem?_replicate, if_pos (by omega)]
theorem ppC_step {es : List Ed} {n i : Nat} {x : Ed} (hi : i < n) (hl : es.length = n) (h : es[i]? = some x) : ((ppC es n i).set (i * 2) (.int .i64 x.w1)).set (i * 2 + 1) (.int .i64 x.w2) = ppC es n (i + 1) := by
  have hL : (cellsP (edP (es.take i))).length = i * 2 := by rw [cellsP_len]; unfold edP; rw [List.length_map, List.length_take]; congr 1; omega
  unfold ppC
  obtain ⟨k, hk⟩ : ∃ k, n - i = k + 1 := ⟨n - i - 1, by omega⟩
  rw [edP_snoc h, cellsP_snoc, hk, show n - (i + 1) = k by omega, show (k + 1) * 2 = k * 2 + 1 + 1 by omega, List.replicate_succ, List.replicate_succ]
  rw [List.set_append_right _ _ (by omega), hL, Nat.sub_self, List.set_cons_zero, List.set_append_right _ _ (by omega), hL, show i * 2 + 1 - i * 2 = 1 by omega]
  simp
theorem edP_len (es : List Ed) : (edP es).length = es.length := by unfold edP; rw [List.length_map]
/-- a call's answer: the pairs of conflicts -/
def RetPP (es : List Ed) (w : World) (e : Ending) (w' : World) : Prop := ∃ A c, e = .returned (.slice A es.length c) ∧ PairsAt w' A es.length (edP es) ∧ Below w.heap.size w w'
theorem mk_pairsN (kl kc : IntKind) (n : Nat) (hc : n ≤ 1099511627776) (W : World) :
    (Instr.makeSlice 69 (.int kl (n : Int)) (.int kc (n : Int))).run Try.prog W = .ok (.slice (some ⟨W.heap.size, 0, none⟩) n n) (W.alloc (.cells (madeCells #[.int .i64 0, .int .i64 0] (n * 2)) 87)) := by
  obtain ⟨i, hi, hz0, hz1, hz2⟩ := info_parts info_pair
  have hr := run_make (P := Try.prog) W _ _ i _ Try.underlying69 hi hz0 kl kc n n (by omega) (by omega) (by rw [hz2]; omega) (by omega)
  rw [hr, hz1]
  rfl
set_option maxRecDepth 100000 in
set_option maxHeartbeats 2000000 in
theorem clash_pairs (E : Option Addr) (n c : Nat) (es : List Ed) (w : World) (hL : LAt encE w E n es) (hn : n ≤ 1048576) :
    Calls Try.prog 30 #[.slice E n c] w (RetPP es w) := by
  have hel := Lib.hid hL.len
  have hokI : Hid (OkI (edP es)) := Lib.hid (fun p hp => by
    unfold edP at hp
    obtain ⟨x, hx, rfl⟩ := List.mem_map.1 hp
    have h : Ed.Ok x := hL.okAll x hx
    exact ⟨⟨h.a0, h.a1⟩, ⟨h.b0, h.b1⟩⟩)
  replace hL := Lib.hid hL
  have mkP := mk_pairsN .i64 .i64 n (by omega)
  obtain ⟨gl, hgl⟩ : ∃ g, g = w.heap.size := ⟨_, rfl⟩
  obtain ⟨W1, hW1⟩ : ∃ W, W = w.alloc (.cells (madeCells #[.int .i64 0, .int .i64 0] (n * 2)) 87) := ⟨_, rfl⟩
  have k1 := Lib.hid (show Blk W1 gl 87 (ppC es n 0) from by
    rw [hW1, hgl, ppC_zero, ← cells2_zero]
    exact Blk.new w _ _)
  have b1 := Lib.hid (show Below w.heap.size w W1 from by rw [hW1]; exact below_alloc _ _)
  have hgw := Lib.hid (show w.heap.size ≤ gl by omega)
  go_enter Try.func30, Try.ntmps30
  go_wp2_with (rw [← hW1, ← hgl]; clear hW1; replace hgl := Lib.hid hgl)
  clear mkP
  go_loopw [11] (fun t wr => ∃ i : Nat, i ≤ n ∧ t = .int .i64 (i : Int) ∧ Hid (Below w.heap.size w wr) ∧ Hid (Blk wr gl 87 (ppC es n i))) (fun t _ => n - (intOf t).toNat)
  case atStart => exact ⟨0, Nat.zero_le _, rfl, b1, k1⟩
  case round =>
    obtain ⟨i, hi, rfl, hb, hk⟩ := hrel
    by_cases hlt : i < n
    · have hlt' : (i : Int) < (n : Int) := by omega
      have k0 : 0 ≤ (i : Int) ∧ (i : Int) < (n : Int) := ⟨by omega, hlt'⟩
      obtain ⟨eb, eo, x, rfl, heb, hx, hxo, x0, x1, x2⟩ := (hL.out.below hb.out).edge hlt
      obtain ⟨gx, hgx⟩ : ∃ g, g = wr.heap.size := ⟨_, rfl⟩
      obtain ⟨W3, hW3⟩ : ∃ W, W = wr.alloc (.cells #[.int .i64 x.w1, .int .i64 x.w2, .int .i64 x.rd] 46) := ⟨_, rfl⟩
      have b3 : Below wr.heap.size wr W3 := by rw [hW3]; exact (Below.refl _ _).alloc (Nat.le_refl _) _
      have hX3 := show Blk W3 gx 46 [.int .i64 x.w1, .int .i64 x.w2, .int .i64 x.rd] from by rw [hW3, hgx]; exact Blk.new wr _ _
      have hk3 := hk.out.below b3 hk.out.lt
      have hb3 := Lib.hid (below_trans2 hb.out b3)
      have y0 := hX3.cell 0
      have y1 := hX3.cell 1
      simp only [List.getElem?_cons_zero, List.getElem?_cons_succ] at y0 y1
      have z0 := (hk3.cell (i * 2)).trans (ppC_at hlt hel.out).1
      have z1 := (hk3.cell (i * 2 + 1)).trans (ppC_at hlt hel.out).2
      have f0 := hk3.frozen (i * 2)
      have f1 := hk3.frozen (i * 2 + 1)
      have hst := Lib.hid (ppC_step hlt hel.out hx)
      have hk4 := Lib.hid ((hk3.set_ (i * 2) (.int .i64 x.w1)).set_ (i * 2 + 1) (.int .i64 x.w2))
      have hb4 := Lib.hid ((hb3.out.setCell (p := ⟨gl, i * 2, none⟩) hgw.out (.int .i64 x.w1)).setCell (p := ⟨gl, i * 2 + 1, none⟩) hgw.out (.int .i64 x.w2))
      replace hx := Lib.hid hx
      clear hlt heb hX3 hk3
      go_wp2_with (rw [← hW3, ← hgx]; clear hW3 hgx b3 x0 x1 x2)
      exact ⟨⟨i + 1, by omega, by go_num, hb4, Lib.hid (by rw [← hst.out]; exact hk4.out)⟩, by simp [intOf]; omega⟩
    · have hin : i = n := by omega
      subst hin
      have hlt' : ¬ (i : Int) < (i : Int) := by omega
      have hP := Lib.hid (PairsAt.of_blk17 (n := es.length) (by rw [← ppC_all hel.out]; exact hk.out) (edP_len es) hokI.out)
      clear hlt
      go_wp2_with fail
      go_ret
      exact ⟨_, i, by rw [hel.out]; rfl, hP.out, hb.out⟩
theorem cut_nine17 {T1 T2 T3 T4 T5 T6 T7 T8 T9 : Type} {Goal F : T1 → T2 → T3 → T4 → T5 → T6 → T7 → T8 → T9 → Prop} {R : Prop} (h1 : (∀ a b c d e f g h i, F a b c d e f g h i → Goal a b c d e f g h i) → R) (h2 : ∀ a b c d e f g h i, F a b c d e f g h i → Goal a b c d e f g h i) : R := h1 h2
theorem cf_of {f : Fac} {M : List (List Nat)} (h : f.items.length ≤ 4096) : ofN (f.items.length : Int) (edP (edgesF f M)) = (f.items.length : Int) ∧ ofM (f.items.length : Int) (edP (edgesF f M)) = foldP f.items.length (edP (edgesF f M)) ∧ ofE (f.items.length : Int) (edP (edgesF f M)) = 0 := by
  have h0 : ofOk (f.items.length : Int) (edP (edgesF f M)) = true := by
    unfold ofOk
    rw [Bool.and_eq_true, List.all_eq_true]
    exact ⟨belowZ_yes (by omega) (by omega), fun p hp => edP_ok p hp⟩
  exact ⟨by unfold ofN; rw [if_pos h0], by unfold ofM; rw [if_pos h0]; rfl, by unfold ofE; rw [if_pos h0]⟩
set_option maxRecDepth 100000 in
set_option maxHeartbeats 4000000 in
theorem clash_Cf (v : FV) (f : Fac) (A : Option Addr) (c : Nat) (a : List (List Nat)) (w : World) (hF : FactsAt w v f) (hr : RowsAt w A v.m a) (hG : Good v.m a) (hm : v.m < 64) (hvc : v.m ≤ c) (hw : WholeF f) (hfr : f.frm = fromF f.items) :
    Calls Try.prog 10 #[.agg #[.slice v.A v.n v.c, .slice v.B v.m v.d, .slice v.C v.k v.e], .agg #[.int .i64 (v.m : Int), .slice A v.m c]] w (RetMat (cfN f a) (cfR f a) (cfE f a) w) := by
  have hil := hF.is.len
  have hG' : Good f.items.length a := by rw [hil]; exact hG
  have cE := Lib.hid (fun W hW hR => clash_Edges v f A c a W hW hR hG hm hvc hw hfr)
  have hel : Hid ((edgesF f a).length ≤ 1048576) := Lib.hid (by
    have h1 := eA_len f a f.items.length f.items.length
    have q1 : f.items.length * (f.items.length * f.items.length) ≤ 64 * (64 * 64) := Nat.mul_le_mul (by omega) (Nat.mul_le_mul (by omega) (by omega))
    have hEq : edgesF f a = eA f a f.items.length f.items.length := rfl
    rw [hEq]; omega)
  obtain ⟨o1, o2, o3⟩ := cf_of (f := f) (M := a) (by omega)
  obtain ⟨gP, hor⟩ := or_pairs hG'
  rw [hil] at o1 o2 o3 gP hor
  obtain ⟨pm, hpm⟩ : ∃ m, m = foldP v.m (edP (edgesF f a)) := ⟨_, rfl⟩
  rw [← hpm] at o2 gP hor
  have hpl := Lib.hid gP.len
  have hposP := Lib.hid (fun h0 => rows_len_pos gP h0)
  have hsl := Lib.hid (hG.same_len gP)
  have gX : Good v.m (cfX f a) := by have := cfX_good hG'; rwa [hil] at this
  have hXl := Lib.hid gX.len
  have hposX := Lib.hid (fun h0 => rows_len_pos gX h0)
  have gC : Good v.m (cfM f a) := by have := (cfM_hull hG').1; rwa [hil] at this
  have hCl := Lib.hid gC.len
  have hposC := Lib.hid (fun h0 => rows_len_pos gC h0)
  have hCs := Lib.hid (fun xs (hx : xs ∈ cfM f a) => Nat.le_trans (gC.small xs hx) (show 64 ≤ 1024 by omega))
  have hcm : closeK (cfX f a) v.m = cfM f a := by unfold cfM; rw [hil]
  have cO := Lib.hid (fun A n W hp => (mat_Of (v.m : Int) A (edgesF f a).length n (edP (edgesF f a)) W hp (by have := hel.out; omega)))
  rw [o1, o2, o3] at cO
  have hres : Hid (cfO f a = loopB v.m (cfM f a) ∧ cfN f a = (if cfO f a = true then 0 else (v.m : Int))) := Lib.hid (by unfold cfO cfN; rw [hil]; exact ⟨rfl, by unfold cfO; rw [hil]⟩)
  clear o1 o2 o3 hpm hG' hw hfr
  replace hG := Lib.hid hG
  replace gX := Lib.hid gX
  replace hor := Lib.hid hor
  replace hcm := Lib.hid hcm
  clear gP gC hil
  -- a call with facts v and the matrix (A v.m c a), hr : RowsAt w ..: boxed at g (W0), gm (W1): hB1, hM1
  -- a call with facts v: they are boxed at g, the world is W0 then
  have hB0 := Lib.hid (FBox.new hF)
  obtain ⟨g, hg⟩ : ∃ g, g = w.heap.size := ⟨_, rfl⟩
  obtain ⟨W0, hW0⟩ : ∃ W, W = w.alloc (.cells #[.slice v.A v.n v.c, .slice v.B v.m v.d, .slice v.C v.k v.e] 30) := ⟨_, rfl⟩
  rw [← hW0, ← hg] at hB0
  clear hF
  replace hr := hr.below hB0.out.o
  have hM1 := Lib.hid (MatK.new (N := (v.m : Int)) (c := c) W0 35 hr)
  obtain ⟨gm, hgm⟩ : ∃ g, g = W0.heap.size := ⟨_, rfl⟩
  obtain ⟨W1, hW1⟩ : ∃ W, W = W0.alloc (.cells #[.int .i64 (v.m : Int), .slice A v.m c] 35) := ⟨_, rfl⟩
  rw [← hW1, ← hgm] at hM1
  have hB1 := Lib.hid (hB0.out.later (show Below W0.heap.size W0 W1 from by rw [hW1]; exact below_alloc _ _))
  clear hr hB0
  obtain ⟨gr, hgr⟩ : ∃ g, g = W1.heap.size := ⟨_, rfl⟩
  obtain ⟨W2, hW2⟩ : ∃ W, W = W1.alloc (.cells #[.int .i64 0, .slice none 0 0] 35) := ⟨_, rfl⟩
  have b2 : Below W1.heap.size W1 W2 := by rw [hW2]; exact below_alloc _ _
  have hB2 := Lib.hid (hB1.out.later b2)
  have hM2 := Lib.hid (hM1.out.below b2)
  have kR : MatB W2 gr 35 0 none 0 0 := by rw [hW2, hgr]; exact MatB.new W1 _
  have hgw := Lib.hid (show w.heap.size ≤ gr from by rw [hgr]; exact hB1.out.o.size)
  clear hM1 hB1 b2
  go_enter Try.func10, Try.ntmps10
  go_wp2_with (first | (rw [← hW0, ← hg]; clear hW0 hg) | (rw [← hW1, ← hgm]; clear hW1 hgm) | (rw [← hW2, ← hgr]; clear hW2; replace hgr := Lib.hid hgr))
  refine wp_region_tree (.flt 0 (.flt 1 (.flt 2 (.flt 3 (.two 4 10 (.two 5 10 (.two 6 10 (.flt 7 (.flt 8 (.flt 9 (.one 10 (.one 11 (.flt 12 .done)))))) (.one 6 (.flt 7 (.flt 8 (.flt 9 (.one 11 (.flt 12 .done))))))) (.one 5 (.one 6 (.flt 7 (.flt 8 (.flt 9 (.one 11 (.flt 12 .done)))))))) (.one 4 (.one 5 (.one 6 (.flt 7 (.flt 8 (.flt 9 (.one 11 (.flt 12 .done))))))))))))) (by kernel_rfl) (by kernel_rfl) (fun U hU => ?_)
  have hU' : Below W2.heap.size W2 U := by rw [hU.out]; exact (Below.refl _ _).drew
  have hkR := Lib.hid (kR.below_ hU')
  have hBU := Lib.hid (hB2.out.later hU')
  have hMU := Lib.hid (hM2.out.below hU')
  clear hU hU' kR hB2 hM2
  have bW : Below U.heap.size U U := Below.refl _ _
  have p0 := hBU.out.c0
  have p1 := hBU.out.c1
  have p2 := hBU.out.c2
  have m0 := hMU.out.1.c0
  have m1 := hMU.out.1.c1
  iterate 4
    refine wpPT_float (v := ?_) rfl (by rfl) (fun w' hw' => ?_) (fun K hK => ?_)
    rotate_left
    · (go_simp; try with_reducible rfl)
    go_simp
    refine hK _ ?_
    clear hK K
  clear p0 p1 p2 m0 m1
  apply cut_nine17 (F := fun M A3 c3 wz (E1 : Option Addr) (ne ce : Nat) (D1 : Option Addr) (cd : Nat) => MatK wz M 35 (v.m : Int) A3 v.m c3 pm ∧ v.m ≤ c3 ∧ Below U.heap.size U wz)
  · intro key
    refine wpPT_two rfl (by rfl) rfl (by rfl) (fun K hK => ?_) (fun K hK => ?_)
    · skip
      -- the conflicts: in the world U, to v1
      go_simp
      refine (cE.out U (hBU.out.later bW).f (hMU.out.2.below bW)).mono ?_; rintro e v1 ⟨E1, ne, ce, rfl, r1, -, -, b⟩
      replace bW := below_trans2 bW b
      refine hK _ _ bW ?_
      clear hK K
      clear b
      refine wpPT_two rfl (by rfl) rfl (by rfl) (fun K hK => ?_) (fun K hK => ?_)
      · skip
        -- their pairs
        have cQ := Lib.hid (clash_pairs E1 ne ce (edgesF f a) v1 r1 (by rw [← r1.len]; exact hel.out))
        go_simp
        refine cQ.out.mono ?_; rintro e v2 ⟨D1, cd, rfl, r2, b⟩
        replace bW := below_trans2 bW b
        refine hK _ _ bW ?_
        clear hK K cQ r1
        clear b
        refine wpPT_two rfl (by rfl) rfl (by rfl) (fun K hK => ?_) (fun K hK => ?_)
        · skip
          -- the matrix of them
          have cR := Lib.hid (cO.out D1 cd v2 r2)
          go_simp
          refine cR.out.mono ?_; rintro e v3 ⟨A3, n3, c3, rfl, r3, hc3, b⟩
          obtain rfl : n3 = v.m := by rw [← r3.len]; exact hpl.out
          replace bW := below_trans2 bW b
          refine hK _ _ bW ?_
          clear hK K cR r2
          clear b
          iterate 3
            refine wpPT_float (v := ?_) rfl (by rfl) (fun w' hw' => ?_) (fun K hK => ?_)
            rotate_left
            · (go_simp; try with_reducible rfl)
            go_simp
            refine hK _ ?_
            clear hK K
          refine wpPT_one rfl (by rfl) (fun K hK => ?_)
          go_simp
          obtain ⟨M, hM⟩ : ∃ M, M = (World.heap v3).size := ⟨_, rfl⟩
          obtain ⟨v4, hw⟩ : ∃ X : World, X = World.alloc v3 (.cells #[.int .i64 0, .slice none 0 0] 35) := ⟨_, rfl⟩
          rw [← hw, ← hM]
          have b : Below (World.heap v3).size v3 v4 := by rw [hw]; exact below_alloc _ _
          have hUM : U.heap.size ≤ M := by rw [hM]; exact bW.size
          replace bW := below_trans2 bW b
          refine hK _ _ bW ?_
          clear hK K
          have kM := Lib.hid (show MatB v4 M 35 0 none 0 0 from by rw [hw, hM]; exact MatB.new _ _)
          have hne : 0 < v.m → ∀ ad, A3 = some ad → ad.block ≠ M := fun h0 ad e => by have := r3.block_lt h0 ad e; omega
          replace r3 := r3.below b
          clear b
          clear hw hM
          -- M holds the zero matrix in v4; the rows lie apart from it (hne)
          have f0 := kM.out.c0
          have f1 := kM.out.c1
          have g0 := kM.out.frozen 0
          have g1 := kM.out.frozen 1
          refine wpPT_one rfl (by rfl) (fun K hK => ?_)
          go_simp
          obtain ⟨wz, hw⟩ : ∃ X : World, X = (World.setCell v4 ⟨M, 0, none⟩ (.int .i64 (v.m : Int))).setCell ⟨M, 1, none⟩ (.slice A3 v.m c3) := ⟨_, rfl⟩
          rw [← hw]
          have k4 := Lib.hid (show MatK wz M 35 (v.m : Int) A3 v.m c3 pm from ⟨by rw [hw]; exact kM.out.put _ _ _ _, by rw [hw]; exact r3.putB kM.out hne _ _⟩)
          replace bW : Below U.heap.size U wz := by rw [hw]; exact (bW.setCell (p := ⟨M, 0, none⟩) hUM _).setCell (p := ⟨M, 1, none⟩) hUM _
          refine hK _ _ bW ?_
          clear hK K f0 f1 g0 g1 hw r3 kM
          iterate 1
            refine wpPT_float (v := ?_) rfl (by rfl) (fun w' hw' => ?_) (fun K hK => ?_)
            rotate_left
            · (go_simp; try with_reducible rfl)
            go_simp
            refine hK _ ?_
            clear hK K
          refine wpPT_done (NoPanic.normal ?_)
          exact key M A3 c3 wz E1 ne ce D1 cd ⟨k4.out, hc3, bW⟩
        · skip
          go_simp
          obtain ⟨M, hM⟩ : ∃ M, M = (World.heap v2).size := ⟨_, rfl⟩
          obtain ⟨v5, hw⟩ : ∃ X : World, X = World.alloc v2 (.cells #[.int .i64 0, .slice none 0 0] 35) := ⟨_, rfl⟩
          rw [← hw, ← hM]
          have b : Below (World.heap v2).size v2 v5 := by rw [hw]; exact below_alloc _ _
          have hUM : U.heap.size ≤ M := by rw [hM]; exact bW.size
          replace bW := below_trans2 bW b
          refine hK _ _ bW ?_
          clear hK K
          have kM := Lib.hid (show MatB v5 M 35 0 none 0 0 from by rw [hw, hM]; exact MatB.new _ _)
          replace r2 := r2.below b
          clear b
          clear hw hM
          refine wpPT_one rfl (by rfl) (fun K hK => ?_)
          -- the matrix of them
          have cR := Lib.hid (cO.out D1 cd v5 r2)
          go_simp
          refine cR.out.mono ?_; rintro e v6 ⟨A3, n3, c3, rfl, r3, hc3, b⟩
          obtain rfl : n3 = v.m := by rw [← r3.len]; exact hpl.out
          replace bW := below_trans2 bW b
          refine hK _ _ bW ?_
          clear hK K cR r2
          have hne : 0 < v.m → ∀ ad, A3 = some ad → ad.block ≠ M := fun h0 => r3.farZ (kM.out.below_ b) (hposP.out h0) h0
          replace kM := Lib.hid (kM.out.below_ b)
          clear b
          iterate 3
            refine wpPT_float (v := ?_) rfl (by rfl) (fun w' hw' => ?_) (fun K hK => ?_)
            rotate_left
            · (go_simp; try with_reducible rfl)
            go_simp
            refine hK _ ?_
            clear hK K
          -- M holds the zero matrix in v6; the rows lie apart from it (hne)
          have f0 := kM.out.c0
          have f1 := kM.out.c1
          have g0 := kM.out.frozen 0
          have g1 := kM.out.frozen 1
          refine wpPT_one rfl (by rfl) (fun K hK => ?_)
          go_simp
          obtain ⟨wz, hw⟩ : ∃ X : World, X = (World.setCell v6 ⟨M, 0, none⟩ (.int .i64 (v.m : Int))).setCell ⟨M, 1, none⟩ (.slice A3 v.m c3) := ⟨_, rfl⟩
          rw [← hw]
          have k4 := Lib.hid (show MatK wz M 35 (v.m : Int) A3 v.m c3 pm from ⟨by rw [hw]; exact kM.out.put _ _ _ _, by rw [hw]; exact r3.putB kM.out hne _ _⟩)
          replace bW : Below U.heap.size U wz := by rw [hw]; exact (bW.setCell (p := ⟨M, 0, none⟩) hUM _).setCell (p := ⟨M, 1, none⟩) hUM _
          refine hK _ _ bW ?_
          clear hK K f0 f1 g0 g1 hw r3 kM
          iterate 1
            refine wpPT_float (v := ?_) rfl (by rfl) (fun w' hw' => ?_) (fun K hK => ?_)
            rotate_left
            · (go_simp; try with_reducible rfl)
            go_simp
            refine hK _ ?_
            clear hK K
          refine wpPT_done (NoPanic.normal ?_)
          exact key M A3 c3 wz E1 ne ce D1 cd ⟨k4.out, hc3, bW⟩
      · skip
        go_simp
        obtain ⟨M, hM⟩ : ∃ M, M = (World.heap v1).size := ⟨_, rfl⟩
        obtain ⟨v7, hw⟩ : ∃ X : World, X = World.alloc v1 (.cells #[.int .i64 0, .slice none 0 0] 35) := ⟨_, rfl⟩
        rw [← hw, ← hM]
        have b : Below (World.heap v1).size v1 v7 := by rw [hw]; exact below_alloc _ _
        have hUM : U.heap.size ≤ M := by rw [hM]; exact bW.size
        replace bW := below_trans2 bW b
        refine hK _ _ bW ?_
        clear hK K
        have kM := Lib.hid (show MatB v7 M 35 0 none 0 0 from by rw [hw, hM]; exact MatB.new _ _)
        replace r1 := r1.below b
        clear b
        clear hw hM
        refine wpPT_one rfl (by rfl) (fun K hK => ?_)
        -- their pairs
        have cQ := Lib.hid (clash_pairs E1 ne ce (edgesF f a) v7 r1 (by rw [← r1.len]; exact hel.out))
        go_simp
        refine cQ.out.mono ?_; rintro e v8 ⟨D1, cd, rfl, r2, b⟩
        replace bW := below_trans2 bW b
        refine hK _ _ bW ?_
        clear hK K cQ r1
        replace kM := Lib.hid (kM.out.below_ b)
        clear b
        refine wpPT_one rfl (by rfl) (fun K hK => ?_)
        -- the matrix of them
        have cR := Lib.hid (cO.out D1 cd v8 r2)
        go_simp
        refine cR.out.mono ?_; rintro e v9 ⟨A3, n3, c3, rfl, r3, hc3, b⟩
        obtain rfl : n3 = v.m := by rw [← r3.len]; exact hpl.out
        replace bW := below_trans2 bW b
        refine hK _ _ bW ?_
        clear hK K cR r2
        have hne : 0 < v.m → ∀ ad, A3 = some ad → ad.block ≠ M := fun h0 => r3.farZ (kM.out.below_ b) (hposP.out h0) h0
        replace kM := Lib.hid (kM.out.below_ b)
        clear b
        iterate 3
          refine wpPT_float (v := ?_) rfl (by rfl) (fun w' hw' => ?_) (fun K hK => ?_)
          rotate_left
          · (go_simp; try with_reducible rfl)
          go_simp
          refine hK _ ?_
          clear hK K
        -- M holds the zero matrix in v9; the rows lie apart from it (hne)
        have f0 := kM.out.c0
        have f1 := kM.out.c1
        have g0 := kM.out.frozen 0
        have g1 := kM.out.frozen 1
        refine wpPT_one rfl (by rfl) (fun K hK => ?_)
        go_simp
        obtain ⟨wz, hw⟩ : ∃ X : World, X = (World.setCell v9 ⟨M, 0, none⟩ (.int .i64 (v.m : Int))).setCell ⟨M, 1, none⟩ (.slice A3 v.m c3) := ⟨_, rfl⟩
        rw [← hw]
        have k4 := Lib.hid (show MatK wz M 35 (v.m : Int) A3 v.m c3 pm from ⟨by rw [hw]; exact kM.out.put _ _ _ _, by rw [hw]; exact r3.putB kM.out hne _ _⟩)
        replace bW : Below U.heap.size U wz := by rw [hw]; exact (bW.setCell (p := ⟨M, 0, none⟩) hUM _).setCell (p := ⟨M, 1, none⟩) hUM _
        refine hK _ _ bW ?_
        clear hK K f0 f1 g0 g1 hw r3 kM
        iterate 1
          refine wpPT_float (v := ?_) rfl (by rfl) (fun w' hw' => ?_) (fun K hK => ?_)
          rotate_left
          · (go_simp; try with_reducible rfl)
          go_simp
          refine hK _ ?_
          clear hK K
        refine wpPT_done (NoPanic.normal ?_)
        exact key M A3 c3 wz E1 ne ce D1 cd ⟨k4.out, hc3, bW⟩
    · skip
      go_simp
      obtain ⟨M, hM⟩ : ∃ M, M = (World.heap U).size := ⟨_, rfl⟩
      obtain ⟨v10, hw⟩ : ∃ X : World, X = World.alloc U (.cells #[.int .i64 0, .slice none 0 0] 35) := ⟨_, rfl⟩
      rw [← hw, ← hM]
      have b : Below (World.heap U).size U v10 := by rw [hw]; exact below_alloc _ _
      have hUM : U.heap.size ≤ M := by rw [hM]; exact bW.size
      replace bW := below_trans2 bW b
      refine hK _ _ bW ?_
      clear hK K
      have kM := Lib.hid (show MatB v10 M 35 0 none 0 0 from by rw [hw, hM]; exact MatB.new _ _)
      clear b
      clear hw hM
      refine wpPT_one rfl (by rfl) (fun K hK => ?_)
      -- the conflicts: in the world v10, to v11
      go_simp
      refine (cE.out v10 (hBU.out.later bW).f (hMU.out.2.below bW)).mono ?_; rintro e v11 ⟨E1, ne, ce, rfl, r1, -, -, b⟩
      replace bW := below_trans2 bW b
      refine hK _ _ bW ?_
      clear hK K
      replace kM := Lib.hid (kM.out.below_ b)
      clear b
      refine wpPT_one rfl (by rfl) (fun K hK => ?_)
      -- their pairs
      have cQ := Lib.hid (clash_pairs E1 ne ce (edgesF f a) v11 r1 (by rw [← r1.len]; exact hel.out))
      go_simp
      refine cQ.out.mono ?_; rintro e v12 ⟨D1, cd, rfl, r2, b⟩
      replace bW := below_trans2 bW b
      refine hK _ _ bW ?_
      clear hK K cQ r1
      replace kM := Lib.hid (kM.out.below_ b)
      clear b
      refine wpPT_one rfl (by rfl) (fun K hK => ?_)
      -- the matrix of them
      have cR := Lib.hid (cO.out D1 cd v12 r2)
      go_simp
      refine cR.out.mono ?_; rintro e v13 ⟨A3, n3, c3, rfl, r3, hc3, b⟩
      obtain rfl : n3 = v.m := by rw [← r3.len]; exact hpl.out
      replace bW := below_trans2 bW b
      refine hK _ _ bW ?_
      clear hK K cR r2
      have hne : 0 < v.m → ∀ ad, A3 = some ad → ad.block ≠ M := fun h0 => r3.farZ (kM.out.below_ b) (hposP.out h0) h0
      replace kM := Lib.hid (kM.out.below_ b)
      clear b
      iterate 3
        refine wpPT_float (v := ?_) rfl (by rfl) (fun w' hw' => ?_) (fun K hK => ?_)
        rotate_left
        · (go_simp; try with_reducible rfl)
        go_simp
        refine hK _ ?_
        clear hK K
      -- M holds the zero matrix in v13; the rows lie apart from it (hne)
      have f0 := kM.out.c0
      have f1 := kM.out.c1
      have g0 := kM.out.frozen 0
      have g1 := kM.out.frozen 1
      refine wpPT_one rfl (by rfl) (fun K hK => ?_)
      go_simp
      obtain ⟨wz, hw⟩ : ∃ X : World, X = (World.setCell v13 ⟨M, 0, none⟩ (.int .i64 (v.m : Int))).setCell ⟨M, 1, none⟩ (.slice A3 v.m c3) := ⟨_, rfl⟩
      rw [← hw]
      have k4 := Lib.hid (show MatK wz M 35 (v.m : Int) A3 v.m c3 pm from ⟨by rw [hw]; exact kM.out.put _ _ _ _, by rw [hw]; exact r3.putB kM.out hne _ _⟩)
      replace bW : Below U.heap.size U wz := by rw [hw]; exact (bW.setCell (p := ⟨M, 0, none⟩) hUM _).setCell (p := ⟨M, 1, none⟩) hUM _
      refine hK _ _ bW ?_
      clear hK K f0 f1 g0 g1 hw r3 kM
      iterate 1
        refine wpPT_float (v := ?_) rfl (by rfl) (fun w' hw' => ?_) (fun K hK => ?_)
        rotate_left
        · (go_simp; try with_reducible rfl)
        go_simp
        refine hK _ ?_
        clear hK K
      refine wpPT_done (NoPanic.normal ?_)
      exact key M A3 c3 wz E1 ne ce D1 cd ⟨k4.out, hc3, bW⟩
  · rintro M A3 c3 wz E1 ne ce D1 cd ⟨hk4, hc3, bW2⟩
    have k4 := Lib.hid hk4
    clear hk4
    have kR4 := Lib.hid (hkR.out.below_ bW2)
    have hM4 := Lib.hid (hMU.out.below bW2)
    have bb := Lib.hid (below_trans2 hBU.out.o bW2)
    clear bW2 cE cO hBU hMU hkR hel hposP
    have qk40 := k4.out.1.c0
    have qk41 := k4.out.1.c1
    have m0 := hM4.out.1.c0
    have m1 := hM4.out.1.c1
    have hm4 : v.m ≤ 4096 := by omega
    have cR := Lib.hid (mat_Or A A3 v.m c c3 a pm wz hM4.out.2 k4.out.2 hm4 hsl.out)
    rw [hor.out] at cR
    go_wp2_with fail
    refine cR.out.mono ?_; rintro e x1 ⟨A5, n5, c5, rfl, r5, hc5, b⟩
    obtain rfl : n5 = v.m := by rw [← r5.len]; exact hXl.out
    replace kR4 := Lib.hid (kR4.out.below_ b)
    replace bb := Lib.hid (below_trans2 bb.out b)
    clear b cR m0 m1 qk40 qk41 k4 hM4
    obtain ⟨W5, hW5⟩ : ∃ W, W = x1.alloc (.cells #[.int .i64 (v.m : Int), .slice A5 v.m c5] 35) := ⟨_, rfl⟩
    obtain ⟨G5, hG5⟩ : ∃ G, G = x1.heap.size := ⟨_, rfl⟩
    have b5 : Below x1.heap.size x1 W5 := by rw [hW5]; exact below_alloc _ _
    have k5 := Lib.hid (show MatK W5 G5 35 (v.m : Int) A5 v.m c5 (cfX f a) from ⟨by rw [hW5, hG5]; exact MatB.new _ _, r5.below b5⟩)
    replace kR4 := Lib.hid (kR4.out.below_ b5)
    replace bb := Lib.hid (below_trans2 bb.out b5)
    clear b5 r5
    have qk50 := k5.out.1.c0
    have qk51 := k5.out.1.c1
    have cK := Lib.hid (hull_Close A5 v.m c5 (cfX f a) W5 k5.out.2 gX.out)
    rw [hcm.out] at cK
    go_wp2_with (rw [← hW5, ← hG5]; clear hW5 hG5)
    refine cK.out.mono ?_; rintro e x2 ⟨A6, n6, c6, rfl, r6, hc6, b⟩
    obtain rfl : n6 = v.m := by rw [← r6.len]; exact hCl.out
    replace kR4 := Lib.hid (kR4.out.below_ b)
    replace bb := Lib.hid (below_trans2 bb.out b)
    clear b cK qk50 qk51 k5
    obtain ⟨W6, hW6⟩ : ∃ W, W = x2.alloc (.cells #[.int .i64 (v.m : Int), .slice A6 v.m c6] 35) := ⟨_, rfl⟩
    obtain ⟨G6, hG6⟩ : ∃ G, G = x2.heap.size := ⟨_, rfl⟩
    have b6 : Below x2.heap.size x2 W6 := by rw [hW6]; exact below_alloc _ _
    have k6 := Lib.hid (show MatK W6 G6 35 (v.m : Int) A6 v.m c6 (cfM f a) from ⟨by rw [hW6, hG6]; exact MatB.new _ _, r6.below b6⟩)
    replace kR4 := Lib.hid (kR4.out.below_ b6)
    replace bb := Lib.hid (below_trans2 bb.out b6)
    clear b6 r6
    have qk60 := k6.out.1.c0
    have qk61 := k6.out.1.c1
    have cL := Lib.hid (hull_Loop A6 v.m c6 (cfM f a) W6 k6.out.2 hm4 hCs.out)
    go_wp2_with (rw [← hW6, ← hG6]; clear hW6 hG6)
    refine cL.out.mono ?_; rintro e x3 ⟨lr, lb, rfl, hlp, b⟩
    have hlb := hlp.b
    rw [← hres.out.1] at hlb
    replace kR4 := Lib.hid (kR4.out.below_ b)
    replace k6 := Lib.hid (k6.out.below b)
    replace bb := Lib.hid (below_trans2 bb.out b)
    clear b cL qk60 qk61 hlp
    have qk60 := k6.out.1.c0
    have qk61 := k6.out.1.c1
    have f0 := kR4.out.c0
    have f1 := kR4.out.c1
    have g0 := kR4.out.frozen 0
    have g1 := kR4.out.frozen 1
    cases lb with
    | true =>
      have hN := hres.out.2
      rw [if_pos hlb.symm] at hN
      have hR : cfR f a = [] := by unfold cfR; rw [if_pos hlb.symm]
      have hE : cfE f a = 7 := by unfold cfE; rw [if_pos hlb.symm]
      replace hN := Lib.hid hN
      replace hR := Lib.hid hR
      replace hE := Lib.hid hE
      have hcc := kR4.out.two (.int .i64 0) (.slice none 0 0)
      have hc1 := Lib.hid hcc.1
      have hc2 := Lib.hid hcc.2
      have hbf := Lib.hid ((bb.out.setCell (p := ⟨gr, 0, none⟩) hgw.out (.int .i64 0)).setCell (p := ⟨gr, 1, none⟩) hgw.out (.slice none 0 0))
      clear hcc hlb
      go_wp2_with fail
      exact bodyPost_ret (v := .tuple #[.agg #[.int .i64 0, .slice none 0 0], .int .i64 7]) (by simp [results, Try.results10, go_sem, hc1.out, hc2.out]) rfl ⟨none, 0, 0, by rw [hN.out, hE.out], by rw [hR.out]; exact RowsAt.nil _ _, Nat.le_refl _, hbf.out⟩
    | false =>
      have hN := hres.out.2
      rw [if_neg (by rw [← hlb]; simp)] at hN
      have hR : cfR f a = cfM f a := by unfold cfR; rw [if_neg (by rw [← hlb]; simp)]
      have hE : cfE f a = 0 := by unfold cfE; rw [if_neg (by rw [← hlb]; simp)]
      replace hN := Lib.hid hN
      replace hR := Lib.hid hR
      replace hE := Lib.hid hE
      have hcc := kR4.out.two (.int .i64 (v.m : Int)) (.slice A6 v.m c6)
      have hc1 := Lib.hid hcc.1
      have hc2 := Lib.hid hcc.2
      have hrf := Lib.hid (k6.out.2.putB kR4.out (fun h0 => k6.out.2.farZ kR4.out (hposC.out h0) h0) (.int .i64 (v.m : Int)) (.slice A6 v.m c6))
      have hbf := Lib.hid ((bb.out.setCell (p := ⟨gr, 0, none⟩) hgw.out (.int .i64 (v.m : Int))).setCell (p := ⟨gr, 1, none⟩) hgw.out (.slice A6 v.m c6))
      clear hcc hlb
      go_wp2_with fail
      exact bodyPost_ret (v := .tuple #[.agg #[.int .i64 (v.m : Int), .slice A6 v.m c6], .int .i64 0]) (by simp [results, Try.results10, go_sem, hc1.out, hc2.out]) rfl ⟨A6, v.m, c6, by rw [hN.out, hE.out], by rw [hR.out]; exact hrf.out, hc6, hbf.out⟩
end Go.Proofs.Ytpbiilhclmcehaa

namespace Go.Proofs.Ytpbiilhclmcehaa
open Go.RowKit
set_option linter.unusedVariables false
/-- has a history whole facts? -/
def okO11 (hs : List (List OpT)) : Bool := rightL hs && decide ((checkF (facO hs).items).2.2 = 0)
def RetO11 (hs : List (List OpT)) (w : World) (e : Ending) (w' : World) : Prop := ∃ x : FV, e = .returned (.tuple #[.agg #[.slice x.A x.n x.c, .slice x.B x.m x.d, .slice x.C x.k x.e], .bool (okO11 hs)]) ∧ (okO11 hs = true → FactsAt w' x (fillF (facO hs))) ∧ Below w.heap.size w w'
set_option maxRecDepth 100000 in
set_option maxHeartbeats 2000000 in
theorem ref11_Of (A : Option Addr) (n c : Nat) (hs : List (List OpT)) (w : World) (hX : HistAt w A n hs) (hn : n ≤ 1099511627776) (hF : (allO hs).length ≤ 1048576) :
    Calls Try.prog 8 #[.slice A n c] w (RetO11 hs w) := by
  obtain ⟨gr, hgr⟩ : ∃ g, g = w.heap.size := ⟨_, rfl⟩
  obtain ⟨W1, hW1⟩ : ∃ W, W = w.alloc (.cells #[.slice none 0 0, .slice none 0 0, .slice none 0 0] 30) := ⟨_, rfl⟩
  have b0 : Below w.heap.size w W1 := by rw [hW1]; exact (Below.refl _ _).alloc (Nat.le_refl _) _
  have kR : Blk W1 gr 30 [.slice none 0 0, .slice none 0 0, .slice none 0 0] := by rw [hW1, hgr]; exact Blk.new w _ _
  have hgw : Hid (w.heap.size ≤ gr) := Lib.hid (by rw [hgr]; exact Nat.le_refl _)
  have c1 := ref9_Of A n c hs W1 (hX.below b0) hn (by omega)
  clear hX
  cases hri : rightL hs with
  | false =>
    have hno := Lib.hid (show okO11 hs = false from by unfold okO11; rw [hri]; rfl)
    rw [hri, if_neg (by simp), if_neg (by simp)] at c1
    replace c1 := Lib.hid c1
    clear hri
    go_enter Try.func8, Try.ntmps8
    go_wp2_with (rw [← hW1, ← hgr]; clear hW1; replace hgr := Lib.hid hgr)
    refine c1.out.mono ?_; rintro e w3 ⟨x, rfl, -, b3⟩
    obtain ⟨V, hV⟩ : ∃ W, W = w3.alloc (.cells #[.slice x.A x.n x.c, .slice x.B x.m x.d, .slice x.C x.k x.e] 30) := ⟨_, rfl⟩
    obtain ⟨g, hg⟩ : ∃ g, g = w3.heap.size := ⟨_, rfl⟩
    have bV : Below w3.heap.size w3 V := by rw [hV]; exact (Below.refl _ _).alloc (Nat.le_refl _) _
    replace kR := (kR.below b3 kR.lt)
    replace kR := (kR.below bV kR.lt)
    have bb := below_trans2 (below_trans2 b0 b3) bV
    clear b0 b3 bV c1
    have e0 := (((kR.set_ 0 (.slice none 0 0)).set_ 1 (.slice none 0 0)).set_ 2 (.slice none 0 0)).cell 0
    have e1 := (((kR.set_ 0 (.slice none 0 0)).set_ 1 (.slice none 0 0)).set_ 2 (.slice none 0 0)).cell 1
    have e2 := (((kR.set_ 0 (.slice none 0 0)).set_ 1 (.slice none 0 0)).set_ 2 (.slice none 0 0)).cell 2
    have c0 := Blk.cell kR 0
    have c1 := Blk.cell kR 1
    have c2 := Blk.cell kR 2
    have f0 := Blk.frozen kR 0
    have f1 := Blk.frozen kR 1
    have f2 := Blk.frozen kR 2
    have hb3 := Lib.hid (((bb.setCell (p := ⟨gr, 0, none⟩) hgw.out (.slice none 0 0)).setCell (p := ⟨gr, 1, none⟩) hgw.out (.slice none 0 0)).setCell (p := ⟨gr, 2, none⟩) hgw.out (.slice none 0 0))
    clear kR
    go_wp2_with (rw [← hV, ← hg]; clear hV; replace hg := Lib.hid hg)
    exact bodyPost_ret (v := .tuple #[.agg #[.slice none 0 0, .slice none 0 0, .slice none 0 0], .bool false]) (by simp [results, Try.results8, go_sem, e0, e1, e2]) rfl ⟨⟨none, 0, 0, none, 0, 0, none, 0, 0⟩, by rw [hno.out], (fun h => by rw [hno.out] at h; cases h), hb3.out⟩
  | true =>
    rw [hri, if_pos rfl, if_pos rfl] at c1
    obtain ⟨f, hf⟩ : ∃ f : Fac, f = facO hs := ⟨_, rfl⟩
    rw [← hf] at c1
    have hri' := Lib.hid hri
    replace c1 := Lib.hid c1
    clear hri
    replace hf := Lib.hid hf
    go_enter Try.func8, Try.ntmps8
    go_wp2_with (rw [← hW1, ← hgr]; clear hW1; replace hgr := Lib.hid hgr)
    refine c1.out.mono ?_; rintro e w3 ⟨x, rfl, hG, b3⟩
    have hB := Lib.hid ((FBox.new hG).from_ (below_trans2 b0 b3))
    obtain ⟨V, hV⟩ : ∃ W, W = w3.alloc (.cells #[.slice x.A x.n x.c, .slice x.B x.m x.d, .slice x.C x.k x.e] 30) := ⟨_, rfl⟩
    obtain ⟨g, hg⟩ : ∃ g, g = w3.heap.size := ⟨_, rfl⟩
    replace kR := Lib.hid (show Blk V gr 30 [.slice none 0 0, .slice none 0 0, .slice none 0 0] from by rw [hV]; exact (kR.below b3 kR.lt).alloc _)
    rw [← hV, ← hg] at hB
    clear b3 c1 hG b0
    have hxm : x.m ≤ 1048576 := by
      rw [← hB.out.f.is.len, hf.out]
      show (hisF hs).2.length ≤ _
      rw [hisF_len]; omega
    have p0 := hB.out.c0
    have p1 := hB.out.c1
    have p2 := hB.out.c2
    obtain ⟨⟨r1, r2, r3⟩, hr⟩ : ∃ r, r = checkF f.items := ⟨_, rfl⟩
    have cC := ref10_Check x f V hB.out.f
    rw [← hr] at cC
    replace cC := Lib.hid cC
    have hok : okO11 hs = decide (r3 = 0) := by
      unfold okO11
      rw [hri'.out, ← hf.out, ← hr, Bool.true_and]
    replace hr := Lib.hid hr
    replace hok := Lib.hid hok
    go_wp2_with (rw [← hV, ← hg]; clear hV; replace hg := Lib.hid hg)
    refine cC.out.mono ?_; rintro e w4 ⟨rfl, b4⟩
    replace hB := Lib.hid (hB.out.later b4)
    replace kR := kR.out.below b4 kR.out.lt
    clear p0 p1 p2 b4 cC
    by_cases h3 : r3 = 0
    · have hyes := Lib.hid (show okO11 hs = true from by rw [hok.out]; exact decide_eq_true h3)
      have e3 : (r3 != 0) = false := by rw [h3]; rfl
      replace h3 := Lib.hid h3
      have p0 := hB.out.c0
      have p1 := hB.out.c1
      have p2 := hB.out.c2
      have cF := Lib.hid (ref11_Fill x f w4 hB.out.f hxm)
      go_wp2_with fail
      refine cF.out.mono ?_; rintro e w5 ⟨y, rfl, hY, b5⟩
      replace hB := Lib.hid (hB.out.later b5)
      replace kR := kR.below b5 kR.lt
      clear p0 p1 p2 b5 cF
      have hY3 := Lib.hid (hY.put kR (fun u hu => by simp only [List.mem_cons, List.not_mem_nil, or_false] at hu; rcases hu with rfl | rfl | rfl <;> exact ⟨_, _, _, rfl⟩))
      have e0 := (((kR.set_ 0 (.slice y.A y.n y.c)).set_ 1 (.slice y.B y.m y.d)).set_ 2 (.slice y.C y.k y.e)).cell 0
      have e1 := (((kR.set_ 0 (.slice y.A y.n y.c)).set_ 1 (.slice y.B y.m y.d)).set_ 2 (.slice y.C y.k y.e)).cell 1
      have e2 := (((kR.set_ 0 (.slice y.A y.n y.c)).set_ 1 (.slice y.B y.m y.d)).set_ 2 (.slice y.C y.k y.e)).cell 2
      have c0 := Blk.cell kR 0
      have c1 := Blk.cell kR 1
      have c2 := Blk.cell kR 2
      have f0 := Blk.frozen kR 0
      have f1 := Blk.frozen kR 1
      have f2 := Blk.frozen kR 2
      have hb3 := Lib.hid (((hB.out.o.setCell (p := ⟨gr, 0, none⟩) hgw.out (.slice y.A y.n y.c)).setCell (p := ⟨gr, 1, none⟩) hgw.out (.slice y.B y.m y.d)).setCell (p := ⟨gr, 2, none⟩) hgw.out (.slice y.C y.k y.e))
      clear kR
      go_wp2_with fail
      rw [hf.out] at hY3
      exact bodyPost_ret (v := .tuple #[.agg #[.slice y.A y.n y.c, .slice y.B y.m y.d, .slice y.C y.k y.e], .bool true]) (by simp [results, Try.results8, go_sem, e0, e1, e2]) rfl ⟨y, by rw [hyes.out], (fun _ => hY3.out), hb3.out⟩
    · have hno := Lib.hid (show okO11 hs = false from by rw [hok.out]; exact decide_eq_false h3)
      have e3 : (r3 != 0) = true := by simpa using h3
      have bb := hB.out.o
      replace h3 := Lib.hid h3
      -- no facts: bb : Below w.heap.size w w4, kR : the result's variable in w4
      have e0 := (((kR.set_ 0 (.slice none 0 0)).set_ 1 (.slice none 0 0)).set_ 2 (.slice none 0 0)).cell 0
      have e1 := (((kR.set_ 0 (.slice none 0 0)).set_ 1 (.slice none 0 0)).set_ 2 (.slice none 0 0)).cell 1
      have e2 := (((kR.set_ 0 (.slice none 0 0)).set_ 1 (.slice none 0 0)).set_ 2 (.slice none 0 0)).cell 2
      have c0 := Blk.cell kR 0
      have c1 := Blk.cell kR 1
      have c2 := Blk.cell kR 2
      have f0 := Blk.frozen kR 0
      have f1 := Blk.frozen kR 1
      have f2 := Blk.frozen kR 2
      have hb3 := Lib.hid (((bb.setCell (p := ⟨gr, 0, none⟩) hgw.out (.slice none 0 0)).setCell (p := ⟨gr, 1, none⟩) hgw.out (.slice none 0 0)).setCell (p := ⟨gr, 2, none⟩) hgw.out (.slice none 0 0))
      clear kR
      go_wp2_with fail
      exact bodyPost_ret (v := .tuple #[.agg #[.slice none 0 0, .slice none 0 0, .slice none 0 0], .bool false]) (by simp [results, Try.results8, go_sem, e0, e1, e2]) rfl ⟨⟨none, 0, 0, none, 0, 0, none, 0, 0⟩, by rw [hno.out], (fun h => by rw [hno.out] at h; cases h), hb3.out⟩
end Go.Proofs.Ytpbiilhclmcehaa

namespace Go.Proofs.Ytpbiilhclmcehaa
open Go.RowKit
set_option linter.unusedVariables false

/-- the slice '.slice A n c' of pairs of bytes reads as ps -/
def Pairs8 (w : World) (A : Option Addr) (n : Nat) (ps : List (Nat × Nat)) : Prop :=
  ps.length = n ∧ (∀ p ∈ ps, p.1 < 256 ∧ p.2 < 256) ∧
  (0 < n → ∃ b off, A = some ⟨b, off, none⟩ ∧ b < w.heap.size ∧ ∀ (j : Nat) (p : Nat × Nat), ps[j]? = some p → w.cell? ⟨b, off + j * 2, none⟩ = some (.int .u8 (p.1 : Int)) ∧ w.cell? ⟨b, off + j * 2 + 1, none⟩ = some (.int .u8 (p.2 : Int)))
theorem Pairs8.below {w w' : World} {A : Option Addr} {n : Nat} {ps : List (Nat × Nat)} (h : Pairs8 w A n ps) (hb : Below w.heap.size w w') : Pairs8 w' A n ps :=
  ⟨h.1, h.2.1, fun hn => by
    obtain ⟨b, off, e, hbl, hc⟩ := h.2.2 hn
    exact ⟨b, off, e, Nat.lt_of_lt_of_le hbl hb.size, fun j p hp => by
      obtain ⟨h1, h2⟩ := hc j p hp
      exact ⟨(hb.cell (p := ⟨b, off + j * 2, none⟩) hbl).trans h1, (hb.cell (p := ⟨b, off + j * 2 + 1, none⟩) hbl).trans h2⟩⟩⟩
theorem Pairs8.at_ {w : World} {A : Option Addr} {n : Nat} {ps : List (Nat × Nat)} {k : Nat} (h : Pairs8 w A n ps) (hk : k < n) : ∃ b off x y, A = some ⟨b, off, none⟩ ∧ b < w.heap.size ∧ ps[k]? = some (x, y) ∧ (x < 256 ∧ y < 256) ∧
    w.cell? ⟨b, off + k * 2, none⟩ = some (.int .u8 (x : Int)) ∧ w.cell? ⟨b, off + k * 2 + 1, none⟩ = some (.int .u8 (y : Int)) := by
  obtain ⟨b, off, e, hb, hc⟩ := h.2.2 (by omega)
  have hl : k < ps.length := by rw [h.1]; exact hk
  exact ⟨b, off, ps[k].1, ps[k].2, e, hb, List.getElem?_eq_getElem hl, h.2.1 _ (List.getElem_mem hl), (hc k _ (List.getElem?_eq_getElem hl)).1, (hc k _ (List.getElem?_eq_getElem hl)).2⟩
end Go.Proofs.Ytpbiilhclmcehaa

namespace Go.Proofs.Ytpbiilhclmcehaa
open Go.RowKit
set_option linter.unusedVariables false

/-! ### what a round finds -/
section
variable {f : Fac} {X : List (List Nat)} {kept : List Int}
end
/-! ### the rounds -/
section
variable {f : Fac} {kept : List Int} {B : List (List Nat)}
end
end Go.Proofs.Ytpbiilhclmcehaa

namespace Go.Proofs.Ytpbiilhclmcehaa
open Go.RowKit
set_option linter.unusedVariables false

end Go.Proofs.Ytpbiilhclmcehaa

namespace Go.Proofs.Ytpbiilhclmcehaa
open Go.RowKit
set_option linter.unusedVariables false

def turned (ps : List (Int × Int)) : List (Int × Int) := ps.map fun x => (x.2, x.1)

end Go.Proofs.Ytpbiilhclmcehaa

namespace Go.Proofs.Ytpbiilhclmcehaa
open Go.RowKit
set_option linter.unusedVariables false

end Go.Proofs.Ytpbiilhclmcehaa

namespace Go.Proofs.Ytpbiilhclmcehaa
open Go.RowKit
set_option linter.unusedVariables false
def ex17A : List OpT := [(true, ⟨#[120]⟩, 1)]
def ex17B : List OpT := [(true, ⟨#[120]⟩, 2), (false, ⟨#[120]⟩, 1)]
theorem ok17A : OkO ex17A := fun o ho => by
  simp only [ex17A, List.mem_cons, List.not_mem_nil, or_false] at ho
  subst ho; exact ⟨⟨by decide, by decide⟩, by decide⟩
theorem ok17B : OkO ex17B := fun o ho => by
  simp only [ex17B, List.mem_cons, List.not_mem_nil, or_false] at ho
  rcases ho with rfl | rfl <;> exact ⟨⟨by decide, by decide⟩, by decide⟩
def fx17 : Fac := ⟨[⟨#[120]⟩], [⟨0, 0, true, 0, 1⟩, ⟨1, 0, true, 0, 2⟩, ⟨1, 1, false, 0, 1⟩], [-3, -3, 0]⟩
theorem ex17_facts : okO11 [ex17A, ex17B] = true ∧ fillF (facO [ex17A, ex17B]) = fx17 := by decide
theorem ex17_mat : coM fx17 = [[4], [4], [0]] := by decide
theorem ex17_edges : edgesF fx17 [[4], [4], [0]] = [⟨1, 0, 2⟩] ∧ cfN fx17 [[4], [4], [0]] = 3 ∧ cfR fx17 [[4], [4], [0]] = [[4], [5], [0]] ∧ cfE fx17 [[4], [4], [0]] = 0 := by decide
theorem ex17_whole : WholeF fx17 := by rw [← ex17_facts.2]; exact fillF_whole _
theorem ex17_frm : fx17.frm = fromF fx17.items := by rw [← ex17_facts.2]; rfl
theorem ex17_good : Good 3 [[4], [4], [0]] := by rw [← ex17_mat]; exact (coM_hull ex17_whole (by decide)).1
end Go.Proofs.Ytpbiilhclmcehaa

namespace Go.Proofs.Ytpbiilhclmcehaa
open Go.RowKit
set_option linter.unusedVariables false
theorem tmod_small17 (x n : Nat) (h : x < 256) : (IntKind.i64.wrap (x : Int)).tmod (n : Int) = ((x % n : Nat) : Int) := by
  rw [show IntKind.i64.wrap (x : Int) = (x : Int) from by rw [IntKind.wrap_i64]; omega]
  exact (Int.ofNat_tmod x n).symm
set_option maxRecDepth 100000 in
set_option maxHeartbeats 4000000 in
theorem law17_order (v : FV) (f : Fac) (B : Option Addr) (m d : Nat) (ps : List (Nat × Nat)) (w : World) (hF : FactsAt w v f) (hP : Pairs8 w B m ps) (hv : v.m < 64) (hw : WholeF f) (hm : m ≤ 1099511627776) :
    Calls Try.prog 9 #[.agg #[.slice v.A v.n v.c, .slice v.B v.m v.d, .slice v.C v.k v.e], .slice B m d] w (RetMat1 (v.m : Int) (ordM v.m (coM f) ps) w) := by
  have hil := hF.is.len
  have gC := (coM_hull hw (by omega)).1
  rw [hil] at gC
  have cE := fun W hW => ref13_Co v f W hW hv hw
  obtain ⟨cm, hcm⟩ : ∃ m, m = coM f := ⟨_, rfl⟩
  rw [← hcm] at cE gC ⊢
  have hgq : Hid (∀ q, Good v.m (ordM v.m cm (ps.take q))) := Lib.hid (fun q => ordM_good gC _)
  have hcl := Lib.hid gC.len
  replace cE := Lib.hid cE
  replace gC := Lib.hid gC
  clear hil hw hcm
  -- a call with facts v: they are boxed at g, the world is W0 then
  have hB0 := Lib.hid (FBox.new hF)
  obtain ⟨g, hg⟩ : ∃ g, g = w.heap.size := ⟨_, rfl⟩
  obtain ⟨W0, hW0⟩ : ∃ W, W = w.alloc (.cells #[.slice v.A v.n v.c, .slice v.B v.m v.d, .slice v.C v.k v.e] 30) := ⟨_, rfl⟩
  rw [← hW0, ← hg] at hB0
  clear hF
  obtain ⟨gr, hgr⟩ : ∃ g, g = W0.heap.size := ⟨_, rfl⟩
  obtain ⟨W1, hW1⟩ : ∃ W, W = W0.alloc (.cells #[.int .i64 0, .slice none 0 0] 35) := ⟨_, rfl⟩
  have b1 : Below W0.heap.size W0 W1 := by rw [hW1]; exact (Below.refl _ _).alloc (Nat.le_refl _) _
  have kR := Lib.hid (show MatB W1 gr 35 0 none 0 0 from by rw [hW1, hgr]; exact MatB.new W0 _)
  have hB1 := Lib.hid (hB0.out.later b1)
  have hgw := Lib.hid (show w.heap.size ≤ gr from by rw [hgr]; exact hB0.out.o.size)
  have p0 := hB1.out.c0
  have p1 := hB1.out.c1
  have p2 := hB1.out.c2
  clear b1 hB0
  go_enter Try.func9, Try.ntmps9
  go_wp2_with (first | (rw [← hW0, ← hg]; clear hW0 hg) | (rw [← hW1, ← hgr]; clear hW1; replace hgr := Lib.hid hgr))
  refine (cE.out _ hB1.out.f).mono ?_; rintro e w2 ⟨A1, n1, c1, rfl, r1, hc1, b2⟩
  obtain rfl : n1 = v.m := by rw [← r1.len]; exact hcl.out
  have kR2 := Lib.hid (kR.out.below_ b2)
  have hbo := Lib.hid (below_trans2 hB1.out.o b2)
  have hP2 := Lib.hid (hP.below (below_trans2 hB1.out.o b2))
  obtain ⟨gn, hgn⟩ : ∃ g, g = w2.heap.size := ⟨_, rfl⟩
  obtain ⟨W4, hW4⟩ : ∃ W, W = w2.alloc (.cells #[.int .i64 (v.m : Int), .slice A1 v.m c1] 35) := ⟨_, rfl⟩
  have b4 : Below w2.heap.size w2 W4 := by rw [hW4]; exact below_alloc _ _
  have hT := Lib.hid (show MV W4 gn v.m A1 c1 cm from ⟨by rw [hW4, hgn]; exact MatB.new w2 _, r1.below b4, hc1, fun h0 ad e => by have := r1.block_lt h0 ad e; omega⟩)
  have hg3 : w2.heap.size ≤ gn := by omega
  have hbb := Lib.hid b4
  clear p0 p1 p2 b4 b2 r1 hc1 hB1 kR cE hP
  go_wp2_with (rw [← hW4, ← hgn]; clear hW4; replace hgn := Lib.hid hgn)
  go_loopw [6] (fun t wr => ∃ (q : Nat) (A2 : Option Addr) (d2 : Nat) (X : List (List Nat)), q ≤ m ∧ t = .int .i64 (q : Int) ∧ Hid (X = ordM v.m cm (ps.take q)) ∧ Hid (Below w2.heap.size w2 wr) ∧ Hid (MV wr gn v.m A2 d2 X)) (fun t _ => m - (intOf t).toNat)
  case atStart => exact ⟨0, _, _, _, Nat.zero_le _, rfl, Lib.hid (ordM_nil _ _).symm, hbb, hT⟩
  case round =>
    clear hT hbb
    obtain ⟨q, A2, d2, X, hq, rfl, hX, hbb, hT⟩ := hrel
    have hgX := hgq.out q
    rw [← hX.out] at hgX
    replace hgX := Lib.hid hgX
    by_cases hql : q < m
    · have hqI : (q : Int) < (m : Int) := by omega
      have hqd : decide ((q : Int) < (m : Int)) = true := decide_eq_true hqI
      by_cases h0 : 0 < v.m
      · have h0I : (0 : Int) < (v.m : Int) := by omega
        have h0d : decide ((0 : Int) < (v.m : Int)) = true := decide_eq_true h0I
        have hm0 : ¬ v.m = 0 := by omega
        obtain ⟨b, off, px, py, hB8, hbl, hpx, ⟨hx8, hy8⟩, c0, c1⟩ := (hP2.out.below hbb.out).at_ hql
        have hxk := Lib.hid (tmod_small17 px v.m hx8)
        have hyk := Lib.hid (tmod_small17 py v.m hy8)
        have hxl := Nat.mod_lt px h0
        have hyl := Nat.mod_lt py h0
        have hXn := ordM_succ h0 (M := cm) hpx
        rw [← hX.out] at hXn
        have hgN := hgq.out (q + 1)
        rw [hXn] at hgN
        replace hXn := Lib.hid hXn.symm
        replace hgN := Lib.hid hgN
        have cS := Lib.hid (fun W (hW : RowsAt W A2 v.m X) => ref3_SetF (v.m : Int) A2 v.m d2 X ((px % v.m : Nat) : Int) ((py % v.m : Nat) : Int) W hW rfl (by omega) (fun xs hx => Nat.le_trans (hgX.out.small xs hx) (by decide)) (by unfold inM; simp only [Bool.and_eq_true, decide_eq_true_eq]; omega))
        clear hpx hbl
        subst hB8
        have t0 := hT.out.loc.c0
        go_wp2_with fail
        refine wp_region_planT 21 [(true, 0), (true, 1), (true, 2), (true, 3), (true, 4), (true, 5), (true, 6), (true, 7), (true, 8), (true, 9), (true, 10), (true, 11), (true, 12), (true, 13), (true, 14), (true, 15), (true, 16), (true, 17), (true, 18), (false, 19), (true, 20)] 23 [21, 22] (by kernel_rfl) (by kernel_rfl) (fun U hU => ?_)
        have hU' : Below wr.heap.size wr U := by rw [hU.out]; exact (Below.refl _ _).drew
        replace hbb := Lib.hid (below_trans2 hbb.out hU')
        replace hT := Lib.hid (hT.out.later hU')
        replace c0 : U.cell? ⟨b, off + q * 2, none⟩ = some (.int .u8 (px : Int)) := by rw [hU.out]; exact c0
        replace c1 : U.cell? ⟨b, off + q * 2 + 1, none⟩ = some (.int .u8 (py : Int)) := by rw [hU.out]; exact c1
        clear hU hU' t0
        simp only [List.drop_succ_cons, List.drop_zero]
        have t0 := hT.out.loc.c0
        have t1 := hT.out.loc.c1
        iterate 19
          refine wpPlanE_float (v := ?_) rfl (by rfl) (fun w' hw' => ?_) (fun K hK => ?_)
          rotate_left
          · (go_simp; try with_reducible rfl)
          go_simp
          refine hK _ ?_
          clear hK K
        rw [hxk.out, hyk.out]
        clear c0 c1 t0 t1
        refine wpPlanE_only rfl (by rfl) (fun K hK => ?_)
        go_simp
        refine (cS.out U hT.out.rows).mono ?_
        rintro e w8 ⟨C2, n2, c2, rfl, hrows2, hcap2, b4, hfar2⟩
        obtain rfl : n2 = v.m := by rw [← hrows2.len]; exact hgN.out.len
        refine hK _ _ b4 ?_
        clear hK K
        have hT4 := Lib.hid (hT.out.put b4 hrows2 hcap2 hfar2)
        have kM := hT.out.loc.below_ b4
        have hbb4 := Lib.hid (((below_trans2 hbb.out b4).setCell (p := ⟨gn, 0, none⟩) hg3 (.int .i64 (v.m : Int))).setCell (p := ⟨gn, 1, none⟩) hg3 (.slice C2 v.m c2))
        clear cS hrows2 hfar2 b4
        iterate 1
          refine wpPlanE_float (v := ?_) rfl (by rfl) (fun w' hw' => ?_) (fun K hK => ?_)
          rotate_left
          · (go_simp; try with_reducible rfl)
          go_simp
          refine hK _ ?_
          clear hK K
        refine wpPlanE_nil ?_
        iterate 2
          refine wpPlanT_float (v := ?_) rfl (by rfl) (fun w' => ?_) (fun K hK => ?_)
          rotate_left
          · (go_simp; try with_reducible rfl)
          go_simp
          refine hK _ ?_
          clear hK K
        refine wpPlanT_nil ?_
        have m0 := kM.c0
        have m1 := kM.c1
        have g0 := kM.frozen 0
        have g1 := kM.frozen 1
        clear kM
        go_wp2_with fail
        refine NoPanic.normal ?_
        go_wp2_with fail
        go_roundw
        case rel => exact ⟨q + 1, C2, c2, _, by omega, by go_num, hXn, hbb4, hT4⟩
        case measure => simp [intOf]; omega
      · have h0I : ¬ (0 : Int) < (v.m : Int) := by omega
        have h0d : decide ((0 : Int) < (v.m : Int)) = false := decide_eq_false h0I
        have hXe : Hid (X = ordM v.m cm ps) := Lib.hid (by rw [hX.out]; unfold ordM; rw [if_pos (by omega), if_pos (by omega)])
        clear h0
        -- behind the loop: the matrix in gn, world wr; the result's variable gr
        have kR4 := kR2.out.below_ hbb.out
        have t0 := hT.out.loc.c0
        have t1 := hT.out.loc.c1
        have f0 := kR4.c0
        have f1 := kR4.c1
        have g0 := kR4.frozen 0
        have g1 := kR4.frozen 1
        have hcc := kR4.two (.int .i64 (v.m : Int)) (.slice A2 v.m d2)
        have hd1 := Lib.hid hcc.1
        have hd2 := Lib.hid hcc.2
        have hrf := Lib.hid (hT.out.rows.putB kR4 (fun h0 => hT.out.rows.farZ kR4 (rows_len_pos hgX.out h0) h0) (.int .i64 (v.m : Int)) (.slice A2 v.m d2))
        have hbf := Lib.hid (((below_trans2 hbo.out hbb.out).setCell (p := ⟨gr, 0, none⟩) hgw.out (.int .i64 (v.m : Int))).setCell (p := ⟨gr, 1, none⟩) hgw.out (.slice A2 v.m d2))
        have hcap := Lib.hid hT.out.cap
        clear hcc kR4
        go_wp2_with fail
        exact bodyPost_ret (v := .agg #[.int .i64 (v.m : Int), .slice A2 v.m d2]) (by simp [results, Try.results9, go_sem, hd1.out, hd2.out]) rfl ⟨A2, v.m, d2, rfl, by rw [← hXe.out]; exact hrf.out, hcap.out, hbf.out⟩
    · have hqI : ¬ (q : Int) < (m : Int) := by omega
      have hqd : decide ((q : Int) < (m : Int)) = false := decide_eq_false hqI
      have hXe : Hid (X = ordM v.m cm ps) := Lib.hid (by rw [hX.out, List.take_of_length_le (by rw [hP2.out.1]; omega)])
      clear hql
      -- behind the loop: the matrix in gn, world wr; the result's variable gr
      have kR4 := kR2.out.below_ hbb.out
      have t0 := hT.out.loc.c0
      have t1 := hT.out.loc.c1
      have f0 := kR4.c0
      have f1 := kR4.c1
      have g0 := kR4.frozen 0
      have g1 := kR4.frozen 1
      have hcc := kR4.two (.int .i64 (v.m : Int)) (.slice A2 v.m d2)
      have hd1 := Lib.hid hcc.1
      have hd2 := Lib.hid hcc.2
      have hrf := Lib.hid (hT.out.rows.putB kR4 (fun h0 => hT.out.rows.farZ kR4 (rows_len_pos hgX.out h0) h0) (.int .i64 (v.m : Int)) (.slice A2 v.m d2))
      have hbf := Lib.hid (((below_trans2 hbo.out hbb.out).setCell (p := ⟨gr, 0, none⟩) hgw.out (.int .i64 (v.m : Int))).setCell (p := ⟨gr, 1, none⟩) hgw.out (.slice A2 v.m d2))
      have hcap := Lib.hid hT.out.cap
      clear hcc kR4
      go_wp2_with fail
      exact bodyPost_ret (v := .agg #[.int .i64 (v.m : Int), .slice A2 v.m d2]) (by simp [results, Try.results9, go_sem, hd1.out, hd2.out]) rfl ⟨A2, v.m, d2, rfl, by rw [← hXe.out]; exact hrf.out, hcap.out, hbf.out⟩
set_option maxRecDepth 100000 in
set_option maxHeartbeats 4000000 in
theorem law17_awake (w : World) : Calls Try.prog 7 #[] w (RetBool true w) := by
  -- the example's facts: walked to the variable f: hB : FBox w g x fx17 V
  obtain ⟨Z1, hZ1⟩ : ∃ W, W = w.alloc (.cells #[.bool true, .string ⟨#[120]⟩, .int .i64 1] 60) := ⟨_, rfl⟩
  obtain ⟨a1, ha1⟩ : ∃ g, g = w.heap.size := ⟨_, rfl⟩
  obtain ⟨Z2, hZ2⟩ : ∃ W, W = Z1.alloc (.cells #[.bool true, .string ⟨#[120]⟩, .int .i64 2, .bool false, .string ⟨#[120]⟩, .int .i64 1] 60) := ⟨_, rfl⟩
  obtain ⟨a2, ha2⟩ : ∃ g, g = Z1.heap.size := ⟨_, rfl⟩
  obtain ⟨Z3, hZ3⟩ : ∃ W, W = Z2.alloc (.cells #[.slice (some ⟨a1, 0, none⟩) 1 1, .slice (some ⟨a2, 0, none⟩) 2 2] 57) := ⟨_, rfl⟩
  obtain ⟨a3, ha3⟩ : ∃ g, g = Z2.heap.size := ⟨_, rfl⟩
  have b1 : Below w.heap.size w Z1 := by rw [hZ1]; exact (Below.refl _ w).alloc (Nat.le_refl _) _
  have b2 : Below Z1.heap.size Z1 Z2 := by rw [hZ2]; exact (Below.refl _ _).alloc (Nat.le_refl _) _
  have b3 : Below Z2.heap.size Z2 Z3 := by rw [hZ3]; exact (Below.refl _ _).alloc (Nat.le_refl _) _
  have hH : HistAt Z3 (some ⟨a3, 0, none⟩) 2 [ex17A, ex17B] := by
    have h1 : Blk Z1 a1 60 (cellsO ex17A) := by rw [hZ1, ha1]; exact Blk.new w _ _
    have h2 : Blk Z2 a2 60 (cellsO ex17B) := by rw [hZ2, ha2]; exact Blk.new Z1 _ _
    have h3 : Blk Z3 a3 57 [.slice (some ⟨a1, 0, none⟩) 1 1, .slice (some ⟨a2, 0, none⟩) 2 2] := by rw [hZ3, ha3]; exact Blk.new Z2 _ _
    have h1' := (h1.below b2 h1.lt).below b3 (h1.below b2 h1.lt).lt
    exact HistAt.two h3 (OpsAt.of_blk h1' ok17A rfl) (OpsAt.of_blk (h2.below b3 h2.lt) ok17B rfl) (by omega) (by omega) (by omega) (by omega)
  have c1 := Lib.hid (ref11_Of _ 2 2 [ex17A, ex17B] Z3 hH (by omega) (by decide))
  have bW := Lib.hid (below_trans2 (below_trans2 b1 b2) b3)
  clear hH b1 b2 b3
  go_enter Try.func7, Try.ntmps7
  go_wp2_with (first | (rw [← hZ1, ← ha1]; clear hZ1; replace ha1 := Lib.hid ha1) | (rw [← hZ2, ← ha2]; clear hZ2; replace ha2 := Lib.hid ha2) | (rw [← hZ3, ← ha3]; clear hZ3; replace ha3 := Lib.hid ha3))
  refine c1.out.mono ?_; rintro e w3 ⟨x, rfl, hG, b3⟩
  replace hG := hG ex17_facts.1
  rw [ex17_facts.2] at hG
  rw [ex17_facts.1]
  have hB := Lib.hid ((FBox.new hG).from_ (below_trans2 bW.out b3))
  have hxm : x.m = 3 := by rw [← hG.is.len]; rfl
  obtain ⟨V, hV⟩ : ∃ W, W = w3.alloc (.cells #[.slice x.A x.n x.c, .slice x.B x.m x.d, .slice x.C x.k x.e] 30) := ⟨_, rfl⟩
  obtain ⟨g, hg⟩ : ∃ g, g = w3.heap.size := ⟨_, rfl⟩
  rw [← hV, ← hg] at hB
  replace hxm := Lib.hid hxm
  clear b3 c1 hG bW
  have cP := fun W hW => ref13_Co x fx17 W hW (by rw [hxm.out]; decide) ex17_whole
  have cE : Hid (∀ (A : Option Addr) (c : Nat) (W : World), FactsAt W x fx17 → RowsAt W A 3 [[4], [4], [0]] → 3 ≤ c → Calls Try.prog 13 #[.agg #[.slice x.A x.n x.c, .slice x.B x.m x.d, .slice x.C x.k x.e], .agg #[.int .i64 3, .slice A 3 c]] W (RetEL [⟨1, 0, 2⟩] W)) := Lib.hid (fun A c W hW hR hc => by
    have h := clash_Edges x fx17 A c [[4], [4], [0]] W hW (by rw [hxm.out]; exact hR) (by rw [hxm.out]; exact ex17_good) (by rw [hxm.out]; decide) (by rw [hxm.out]; exact hc) ex17_whole ex17_frm
    rw [ex17_edges.1] at h
    rw [hxm.out] at h ⊢
    exact h)
  have cF : Hid (∀ (A : Option Addr) (c : Nat) (W : World), FactsAt W x fx17 → RowsAt W A 3 [[4], [4], [0]] → 3 ≤ c → Calls Try.prog 10 #[.agg #[.slice x.A x.n x.c, .slice x.B x.m x.d, .slice x.C x.k x.e], .agg #[.int .i64 3, .slice A 3 c]] W (RetMat 3 [[4], [5], [0]] 0 W)) := Lib.hid (fun A c W hW hR hc => by
    have h := clash_Cf x fx17 A c [[4], [4], [0]] W hW (by rw [hxm.out]; exact hR) (by rw [hxm.out]; exact ex17_good) (by rw [hxm.out]; decide) (by rw [hxm.out]; exact hc) ex17_whole ex17_frm
    rw [ex17_edges.2.1, ex17_edges.2.2.1, ex17_edges.2.2.2] at h
    rw [hxm.out] at h ⊢
    exact h)
  rw [ex17_mat, show ((x.m : Nat) : Int) = 3 from by rw [hxm.out]; rfl] at cP
  replace cP := Lib.hid cP
  have hpos : Hid (∀ xs ∈ ([[4], [5], [0]] : List (List Nat)), 0 < xs.length) := Lib.hid (by decide)
  have p0 := hB.out.c0
  have p1 := hB.out.c1
  have p2 := hB.out.c2
  go_wp2_with (rw [← hV, ← hg]; clear hV; replace hg := Lib.hid hg)
  clear p0 p1 p2
  refine wp_region_plan 5 [(true, 0), (true, 1), (false, 2), (false, 3), (true, 4)] (by kernel_rfl) (by kernel_rfl) (fun U hU => ?_)
  replace hB := Lib.hid (show FBox w g x fx17 U from by rw [hU.out]; exact hB.out.later (Below.refl _ _).drew)
  clear hU
  simp only [List.drop_succ_cons, List.drop_nil]
  have p0 := hB.out.c0
  have p1 := hB.out.c1
  have p2 := hB.out.c2
  iterate 2
    refine wpPlan_float (v := ?_) rfl (by rfl) (fun w' hw' => ?_) (fun K hK => ?_)
    rotate_left
    · (go_simp; try with_reducible rfl)
    go_simp
    refine hK _ ?_
    clear hK K
  clear p0 p1 p2
  refine wpPlan_only rfl (by rfl) (fun K hK => ?_)
  go_simp
  refine (cP.out U hB.out.f).mono ?_
  rintro e v1 ⟨A1, n1, c1, rfl, r1, hc1, b⟩
  obtain rfl : n1 = 3 := by have := r1.len; simpa using this.symm
  refine hK _ _ b ?_
  clear hK K
  replace hB := Lib.hid (hB.out.later b)
  clear b
  refine wpPlan_only rfl (by rfl) (fun K hK => ?_)
  go_simp
  refine (cE.out A1 c1 v1 hB.out.f r1 hc1).mono ?_
  rintro e v2 ⟨E, ne, ce, rfl, hL, hnc, hcm, b⟩
  obtain rfl : ne = 1 := by have := hL.len; simpa using this.symm
  refine hK _ _ b ?_
  clear hK K
  replace hB := Lib.hid (hB.out.later b)
  replace hL := Lib.hid hL
  clear b r1 hc1 cE
  iterate 1
    refine wpPlan_float (v := ?_) rfl (by rfl) (fun w' hw' => ?_) (fun K hK => ?_)
    rotate_left
    · (go_simp; try with_reducible rfl)
    go_simp
    refine hK _ ?_
    clear hK K
  refine wpPlan_nil (NoPanic.normal ?_)
  go_wp2_with fail
  refine wp_region_tree (.flt 0 (.flt 1 (.two 2 7 (.two 3 7 (.flt 4 (.flt 5 (.flt 6 (.one 7 (.one 8 (.flt 9 .done)))))) (.one 3 (.flt 4 (.flt 5 (.flt 6 (.one 8 (.flt 9 .done))))))) (.one 2 (.one 3 (.flt 4 (.flt 5 (.flt 6 (.one 8 (.flt 9 .done)))))))))) (by kernel_rfl) (by kernel_rfl) (fun U2 hU => ?_)
  replace hL := Lib.hid (show LAt encE U2 E 1 [⟨1, 0, 2⟩] from by rw [hU.out]; exact hL.out.below (Below.refl _ _).drew)
  replace hB := Lib.hid (show FBox w g x fx17 U2 from by rw [hU.out]; exact hB.out.later (Below.refl _ _).drew)
  clear hU
  have bW : Below U2.heap.size U2 U2 := Below.refl _ _
  have p0 := hB.out.c0
  have p1 := hB.out.c1
  have p2 := hB.out.c2
  iterate 2
    refine wpPT_float (v := ?_) rfl (by rfl) (fun w' hw' => ?_) (fun K hK => ?_)
    rotate_left
    · (go_simp; try with_reducible rfl)
    go_simp
    refine hK _ ?_
    clear hK K
  clear p0 p1 p2
  refine wpPT_two rfl (by rfl) rfl (by rfl) (fun K hK => ?_) (fun K hK => ?_)
  · skip
    go_simp
    refine (cP.out U2 (hB.out.later bW).f).mono ?_; rintro e v3 ⟨A1, n1, c1, rfl, r1, hc1, b⟩
    obtain rfl : n1 = 3 := by have := r1.len; simpa using this.symm
    replace bW := below_trans2 bW b
    refine hK _ _ bW ?_
    clear hK K
    refine wpPT_two rfl (by rfl) rfl (by rfl) (fun K hK => ?_) (fun K hK => ?_)
    · skip
      go_simp
      refine (cF.out A1 c1 v3 (hB.out.later bW).f r1 hc1).mono ?_; rintro e v4 ⟨A3, n3, d3, rfl, r3, hc3, b⟩
      obtain rfl : n3 = 3 := by have := r3.len; simpa using this.symm
      replace bW := below_trans2 bW b
      refine hK _ _ bW ?_
      clear hK K
      iterate 3
        refine wpPT_float (v := ?_) rfl (by rfl) (fun w' hw' => ?_) (fun K hK => ?_)
        rotate_left
        · (go_simp; try with_reducible rfl)
        go_simp
        refine hK _ ?_
        clear hK K
      refine wpPT_one rfl (by rfl) (fun K hK => ?_)
      go_simp
      obtain ⟨M, hM⟩ : ∃ M, M = (World.heap v4).size := ⟨_, rfl⟩
      obtain ⟨v5, hw⟩ : ∃ X : World, X = World.alloc v4 (.cells #[.int .i64 0, .slice none 0 0] 35) := ⟨_, rfl⟩
      rw [← hw, ← hM]
      have b : Below (World.heap v4).size v4 v5 := by rw [hw]; exact below_alloc _ _
      have hUM : U2.heap.size ≤ M := by rw [hM]; exact bW.size
      replace bW := below_trans2 bW b
      refine hK _ _ bW ?_
      clear hK K
      have kM := Lib.hid (show MatB v5 M 35 0 none 0 0 from by rw [hw, hM]; exact MatB.new _ _)
      have hne : ∀ ad, A3 = some ad → ad.block ≠ M := fun ad e => by have := r3.block_lt (by omega) ad e; omega
      replace r3 := r3.below b
      clear hM hw
      have f0 := kM.out.c0
      have f1 := kM.out.c1
      have g0 := kM.out.frozen 0
      have g1 := kM.out.frozen 1
      refine wpPT_one rfl (by rfl) (fun K hK => ?_)
      go_simp
      obtain ⟨wz, hw⟩ : ∃ X : World, X = (World.setCell v5 ⟨M, 0, none⟩ (.int .i64 3)).setCell ⟨M, 1, none⟩ (.slice A3 3 d3) := ⟨_, rfl⟩
      rw [← hw]
      have r4 := Lib.hid (show RowsAt wz A3 3 [[4], [5], [0]] from by rw [hw]; exact r3.putB kM.out (fun _ => hne) _ _)
      have k4 := Lib.hid (show MatB wz M 35 3 A3 3 d3 from by rw [hw]; exact kM.out.put _ _ _ _)
      replace bW : Below U2.heap.size U2 wz := by rw [hw]; exact (bW.setCell (p := ⟨M, 0, none⟩) hUM _).setCell (p := ⟨M, 1, none⟩) hUM _
      refine hK _ _ bW ?_
      clear hK K f0 f1 g0 g1 hw r3 kM hne
      iterate 1
        refine wpPT_float (v := ?_) rfl (by rfl) (fun w' hw' => ?_) (fun K hK => ?_)
        rotate_left
        · (go_simp; try with_reducible rfl)
        go_simp
        refine hK _ ?_
        clear hK K
      refine wpPT_done (NoPanic.normal ?_)
      replace hL := Lib.hid (hL.out.below bW)
      -- m holds [[4], [5], [0]] at M; the conflicts at E
      obtain ⟨eb, eo, y, hE, -, hy, -, y0, y1, y2⟩ := hL.out.edge (show 0 < 1 by omega)
      obtain rfl : y = ⟨1, 0, 2⟩ := by simpa using hy.symm
      subst hE
      simp only [Nat.zero_mul, Nat.add_zero] at y0 y1 y2
      have m0 := k4.out.c0
      have m1 := k4.out.c1
      have cH := ref3_Has A3 3 d3 [[4], [5], [0]] 1 0 wz r4.out (by decide) (fun k xs hx => by
        have := List.mem_of_getElem? hx
        simp only [List.mem_cons, List.not_mem_nil, or_false] at this
        rcases this with rfl | rfl | rfl <;> decide)
      rw [show (inM ((3 : Nat) : Int) 1 0 && hasM [[4], [5], [0]] 1 0) = true from by decide] at cH
      replace cH := Lib.hid cH
      clear hy
      go_wp2_with fail
      refine cH.out.mono ?_; rintro e w9 ⟨rfl, b9⟩
      go_wp2_with fail
      go_ret
      exact ⟨rfl, below_trans2 hB.out.o (below_trans2 bW b9)⟩
    · skip
      go_simp
      obtain ⟨M, hM⟩ : ∃ M, M = (World.heap v3).size := ⟨_, rfl⟩
      obtain ⟨v6, hw⟩ : ∃ X : World, X = World.alloc v3 (.cells #[.int .i64 0, .slice none 0 0] 35) := ⟨_, rfl⟩
      rw [← hw, ← hM]
      have b : Below (World.heap v3).size v3 v6 := by rw [hw]; exact below_alloc _ _
      have hUM : U2.heap.size ≤ M := by rw [hM]; exact bW.size
      replace bW := below_trans2 bW b
      refine hK _ _ bW ?_
      clear hK K
      have kM := Lib.hid (show MatB v6 M 35 0 none 0 0 from by rw [hw, hM]; exact MatB.new _ _)
      replace r1 := r1.below b
      clear hM hw
      refine wpPT_one rfl (by rfl) (fun K hK => ?_)
      go_simp
      refine (cF.out A1 c1 v6 (hB.out.later bW).f r1 hc1).mono ?_; rintro e v7 ⟨A3, n3, d3, rfl, r3, hc3, b⟩
      obtain rfl : n3 = 3 := by have := r3.len; simpa using this.symm
      replace bW := below_trans2 bW b
      refine hK _ _ bW ?_
      clear hK K
      replace kM := Lib.hid (kM.out.below_ b)
      have hne : ∀ ad, A3 = some ad → ad.block ≠ M := r3.farZ kM.out hpos.out (by omega)
      iterate 3
        refine wpPT_float (v := ?_) rfl (by rfl) (fun w' hw' => ?_) (fun K hK => ?_)
        rotate_left
        · (go_simp; try with_reducible rfl)
        go_simp
        refine hK _ ?_
        clear hK K
      have f0 := kM.out.c0
      have f1 := kM.out.c1
      have g0 := kM.out.frozen 0
      have g1 := kM.out.frozen 1
      refine wpPT_one rfl (by rfl) (fun K hK => ?_)
      go_simp
      obtain ⟨wz, hw⟩ : ∃ X : World, X = (World.setCell v7 ⟨M, 0, none⟩ (.int .i64 3)).setCell ⟨M, 1, none⟩ (.slice A3 3 d3) := ⟨_, rfl⟩
      rw [← hw]
      have r4 := Lib.hid (show RowsAt wz A3 3 [[4], [5], [0]] from by rw [hw]; exact r3.putB kM.out (fun _ => hne) _ _)
      have k4 := Lib.hid (show MatB wz M 35 3 A3 3 d3 from by rw [hw]; exact kM.out.put _ _ _ _)
      replace bW : Below U2.heap.size U2 wz := by rw [hw]; exact (bW.setCell (p := ⟨M, 0, none⟩) hUM _).setCell (p := ⟨M, 1, none⟩) hUM _
      refine hK _ _ bW ?_
      clear hK K f0 f1 g0 g1 hw r3 kM hne
      iterate 1
        refine wpPT_float (v := ?_) rfl (by rfl) (fun w' hw' => ?_) (fun K hK => ?_)
        rotate_left
        · (go_simp; try with_reducible rfl)
        go_simp
        refine hK _ ?_
        clear hK K
      refine wpPT_done (NoPanic.normal ?_)
      replace hL := Lib.hid (hL.out.below bW)
      -- m holds [[4], [5], [0]] at M; the conflicts at E
      obtain ⟨eb, eo, y, hE, -, hy, -, y0, y1, y2⟩ := hL.out.edge (show 0 < 1 by omega)
      obtain rfl : y = ⟨1, 0, 2⟩ := by simpa using hy.symm
      subst hE
      simp only [Nat.zero_mul, Nat.add_zero] at y0 y1 y2
      have m0 := k4.out.c0
      have m1 := k4.out.c1
      have cH := ref3_Has A3 3 d3 [[4], [5], [0]] 1 0 wz r4.out (by decide) (fun k xs hx => by
        have := List.mem_of_getElem? hx
        simp only [List.mem_cons, List.not_mem_nil, or_false] at this
        rcases this with rfl | rfl | rfl <;> decide)
      rw [show (inM ((3 : Nat) : Int) 1 0 && hasM [[4], [5], [0]] 1 0) = true from by decide] at cH
      replace cH := Lib.hid cH
      clear hy
      go_wp2_with fail
      refine cH.out.mono ?_; rintro e w9 ⟨rfl, b9⟩
      go_wp2_with fail
      go_ret
      exact ⟨rfl, below_trans2 hB.out.o (below_trans2 bW b9)⟩
  · skip
    go_simp
    obtain ⟨M, hM⟩ : ∃ M, M = (World.heap U2).size := ⟨_, rfl⟩
    obtain ⟨v8, hw⟩ : ∃ X : World, X = World.alloc U2 (.cells #[.int .i64 0, .slice none 0 0] 35) := ⟨_, rfl⟩
    rw [← hw, ← hM]
    have b : Below (World.heap U2).size U2 v8 := by rw [hw]; exact below_alloc _ _
    have hUM : U2.heap.size ≤ M := by rw [hM]; exact bW.size
    replace bW := below_trans2 bW b
    refine hK _ _ bW ?_
    clear hK K
    have kM := Lib.hid (show MatB v8 M 35 0 none 0 0 from by rw [hw, hM]; exact MatB.new _ _)
    clear hM hw
    refine wpPT_one rfl (by rfl) (fun K hK => ?_)
    go_simp
    refine (cP.out v8 (hB.out.later bW).f).mono ?_; rintro e v9 ⟨A1, n1, c1, rfl, r1, hc1, b⟩
    obtain rfl : n1 = 3 := by have := r1.len; simpa using this.symm
    replace bW := below_trans2 bW b
    refine hK _ _ bW ?_
    clear hK K
    replace kM := Lib.hid (kM.out.below_ b)
    refine wpPT_one rfl (by rfl) (fun K hK => ?_)
    go_simp
    refine (cF.out A1 c1 v9 (hB.out.later bW).f r1 hc1).mono ?_; rintro e v10 ⟨A3, n3, d3, rfl, r3, hc3, b⟩
    obtain rfl : n3 = 3 := by have := r3.len; simpa using this.symm
    replace bW := below_trans2 bW b
    refine hK _ _ bW ?_
    clear hK K
    replace kM := Lib.hid (kM.out.below_ b)
    have hne : ∀ ad, A3 = some ad → ad.block ≠ M := r3.farZ kM.out hpos.out (by omega)
    iterate 3
      refine wpPT_float (v := ?_) rfl (by rfl) (fun w' hw' => ?_) (fun K hK => ?_)
      rotate_left
      · (go_simp; try with_reducible rfl)
      go_simp
      refine hK _ ?_
      clear hK K
    have f0 := kM.out.c0
    have f1 := kM.out.c1
    have g0 := kM.out.frozen 0
    have g1 := kM.out.frozen 1
    refine wpPT_one rfl (by rfl) (fun K hK => ?_)
    go_simp
    obtain ⟨wz, hw⟩ : ∃ X : World, X = (World.setCell v10 ⟨M, 0, none⟩ (.int .i64 3)).setCell ⟨M, 1, none⟩ (.slice A3 3 d3) := ⟨_, rfl⟩
    rw [← hw]
    have r4 := Lib.hid (show RowsAt wz A3 3 [[4], [5], [0]] from by rw [hw]; exact r3.putB kM.out (fun _ => hne) _ _)
    have k4 := Lib.hid (show MatB wz M 35 3 A3 3 d3 from by rw [hw]; exact kM.out.put _ _ _ _)
    replace bW : Below U2.heap.size U2 wz := by rw [hw]; exact (bW.setCell (p := ⟨M, 0, none⟩) hUM _).setCell (p := ⟨M, 1, none⟩) hUM _
    refine hK _ _ bW ?_
    clear hK K f0 f1 g0 g1 hw r3 kM hne
    iterate 1
      refine wpPT_float (v := ?_) rfl (by rfl) (fun w' hw' => ?_) (fun K hK => ?_)
      rotate_left
      · (go_simp; try with_reducible rfl)
      go_simp
      refine hK _ ?_
      clear hK K
    refine wpPT_done (NoPanic.normal ?_)
    replace hL := Lib.hid (hL.out.below bW)
    -- m holds [[4], [5], [0]] at M; the conflicts at E
    obtain ⟨eb, eo, y, hE, -, hy, -, y0, y1, y2⟩ := hL.out.edge (show 0 < 1 by omega)
    obtain rfl : y = ⟨1, 0, 2⟩ := by simpa using hy.symm
    subst hE
    simp only [Nat.zero_mul, Nat.add_zero] at y0 y1 y2
    have m0 := k4.out.c0
    have m1 := k4.out.c1
    have cH := ref3_Has A3 3 d3 [[4], [5], [0]] 1 0 wz r4.out (by decide) (fun k xs hx => by
      have := List.mem_of_getElem? hx
      simp only [List.mem_cons, List.not_mem_nil, or_false] at this
      rcases this with rfl | rfl | rfl <;> decide)
    rw [show (inM ((3 : Nat) : Int) 1 0 && hasM [[4], [5], [0]] 1 0) = true from by decide] at cH
    replace cH := Lib.hid cH
    clear hy
    go_wp2_with fail
    refine cH.out.mono ?_; rintro e w9 ⟨rfl, b9⟩
    go_wp2_with fail
    go_ret
    exact ⟨rfl, below_trans2 hB.out.o (below_trans2 bW b9)⟩
end Go.Proofs.Ytpbiilhclmcehaa

namespace Go.Proofs.Ytpbiilhclmcehaa
set_option linter.unusedVariables false

theorem edgesF_more {f : Fac} {M X : List (List Nat)} (h : ∀ i j, Rel M i j → Rel X i j) : ∀ x ∈ edgesF f M, x ∈ edgesF f X := fun x hx => by
  obtain ⟨a, b, r, h1, h2, h3, h4, h5⟩ := mem_edgesF.1 hx
  refine mem_edgesF.2 ⟨a, b, r, h1, h2, h3, h4, ?_⟩
  unfold clB at h5 ⊢
  rw [Bool.and_eq_true] at h5 ⊢
  exact ⟨h5.1, h a r h5.2⟩
end Go.Proofs.Ytpbiilhclmcehaa
