/- The code's own contract of layer 14: begin (a search's variable, its queue, its rows). Contracts of package hull: place, below, Closed, Loop. Contracts of the document's own answers of layer 4: Closed, Loop. The contracts of the document's own answers of layer 14: Is, far. The contract of the document's own answer of layer 14: far. The contracts of the document's own answers of layer 14: Find, Round. The code's own contract of layer 14: way (back from number to number). -/
import Derived.Test.YtfeomhoicnjgpaaPathHullPk5
import Derived.Test.YtfeomhoicnjgpaaPathHullPk3
import Derived.Test.YtfeomhoicnjgpaaPathHullPk2
import Derived.Laws.MakeOwn
namespace Go.Proofs.Ytfeomhoicnjgpaa
open Go.RowKit
set_option linter.unusedVariables false
theorem lowZ_pos {z : Int} {q : Nat} (h0 : 0 < z) (hq : q = min z.toNat 64) : lowZ z = ((2 ^ q - 1 : Nat) : Int) := by
  subst hq
  unfold lowZ
  rw [if_neg (by omega)]
  have : (2 : Nat) ^ (min z.toNat 64) > 0 := Nat.two_pow_pos _
  rw [Int.natCast_sub (by omega)]
  simp
/-- a search that begins -/
def RetBegin (n nw : Nat) (A : Option Addr) (c i : Nat) (w : World) (e : Ending) (w' : World) : Prop :=
  ∃ g gl gf v, e = .returned (.pointer (some ⟨g, 0, none⟩)) ∧ SrS w g gl gf n nw A c v (leftK n nw nw) (List.replicate n 0) [i] w'
set_option maxRecDepth 100000 in
set_option maxHeartbeats 4000000 in
theorem path_begin (A : Option Addr) (n c nw : Nat) (a : List (List Nat)) (i : Nat) (w : World) (hr : RowsAt w A n a) (hn : n ≤ 4096) (hnw : nw = (wordsZ (n : Int)).toNat) :
    Calls Try.prog 42 #[.agg #[.int .i64 (n : Int), .slice A n c], .int .i64 (i : Int)] w (RetBegin n nw A c i w) := by
  have hnz : wordsZ (n : Int) = ((nw : Nat) : Int) := by rw [hnw]; unfold wordsZ; split <;> omega
  have hw64 : nw ≤ 64 ∧ ∀ k : Nat, k < nw → 64 * k < n := by
    have : (nw : Int) = (n + 63) / 64 := by rw [← hnz]; unfold wordsZ; rw [if_neg (by omega)]
    exact ⟨by omega, fun k hk => by omega⟩
  have hWds := Lib.hid (fun W => (row_Words (n : Int) (by omega) (by omega) W))
  rw [hnz] at hWds
  have mk64 := mk_u64 .i64 .i64 nw nw (Nat.le_refl _) (by omega)
  have mki := mk_int .i64 .i64 n n (Nat.le_refl _) (by omega)
  replace hnz := Lib.hid hnz
  replace hnw := Lib.hid hnw
  -- a call with the matrix (A n c a): it is boxed at g, the world is W0 then
  have hM0 := Lib.hid (MatK.new (N := (n : Int)) (c := c) w 39 hr)
  obtain ⟨g, hg⟩ : ∃ g, g = w.heap.size := ⟨_, rfl⟩
  obtain ⟨W0, hW0⟩ : ∃ W, W = w.alloc (.cells #[.int .i64 (n : Int), .slice A n c] 39) := ⟨_, rfl⟩
  rw [← hW0, ← hg] at hM0
  have hbo := Lib.hid (show Below w.heap.size w W0 from by rw [hW0]; exact below_alloc _ _)
  have m0 := hM0.out.1.c0
  have m1 := hM0.out.1.c1
  go_enter Try.func42, Try.ntmps42
  go_wp2_with (rw [← hW0, ← hg]; clear hW0 hg)
  refine wp_region_tree (.flt 0 (.flt 1 (.flt 2 (.flt 4 (.flt 5 (.flt 8 (.flt 9 (.three 3 6 10 (.two 6 10 (.two 7 10 (.one 10 (.flt 11 (.one 12 (.flt 13 .done)))) (.one 7 (.flt 11 (.one 12 (.flt 13 .done))))) (.one 6 (.one 7 (.flt 11 (.one 12 (.flt 13 .done)))))) (.three 3 7 10 (.two 7 10 (.one 10 (.flt 11 (.one 12 (.flt 13 .done)))) (.one 7 (.flt 11 (.one 12 (.flt 13 .done))))) (.two 3 10 (.one 10 (.flt 11 (.one 12 (.flt 13 .done)))) (.one 3 (.flt 11 (.one 12 (.flt 13 .done))))) (.two 3 7 (.one 7 (.flt 11 (.one 12 (.flt 13 .done)))) (.one 3 (.flt 11 (.one 12 (.flt 13 .done)))))) (.two 3 6 (.one 6 (.one 7 (.flt 11 (.one 12 (.flt 13 .done))))) (.two 3 7 (.one 7 (.flt 11 (.one 12 (.flt 13 .done)))) (.one 3 (.flt 11 (.one 12 (.flt 13 .done)))))))))))))) (by kernel_rfl) (by kernel_rfl) (fun U hU => ?_)
  have hMU := Lib.hid (show MatK U g 39 (n : Int) A n c a from by rw [hU.out]; exact hM0.out.drew)
  have hbU := Lib.hid (show Below w.heap.size w U from by rw [hU.out]; exact hbo.out.drew)
  clear hU hM0 m0 m1
  have bW : Below U.heap.size U U := Below.refl _ _
  apply cut_five (F := fun (gq gl gf gs : Nat) (w9 : World) => Blk w9 gq 3 [.int .i64 (i : Int)] ∧ Blk w9 gl 99 (List.replicate nw (.int .u64 0)) ∧ Blk w9 gf 3 (List.replicate n (.int .i64 0)) ∧ Blk w9 gs 83 [.slice A n c, .slice (some ⟨gq, 0, none⟩) 1 1, .slice (some ⟨gl, 0, none⟩) nw nw, .slice (some ⟨gf, 0, none⟩) n n] ∧ gq ≠ gf ∧ U.heap.size ≤ gq ∧ U.heap.size ≤ gl ∧ U.heap.size ≤ gf ∧ U.heap.size ≤ gs ∧ Below U.heap.size U w9)
  · intro key
    have m0 := hMU.out.1.c0
    have m1 := hMU.out.1.c1
    iterate 7
      refine wpPT_float (v := ?_) rfl (by rfl) (fun w' hw' => ?_) (fun K hK => ?_)
      rotate_left
      · (go_simp; try with_reducible rfl)
      go_simp
      refine hK _ ?_
      clear hK K
    clear m0 m1
    refine wpPT_three rfl (by rfl) rfl (by rfl) rfl (by rfl) (fun K hK => ?_) (fun K hK => ?_) (fun K hK => ?_)
    · go_simp
      obtain ⟨gq, hG⟩ : ∃ G, G = (World.heap U).size := ⟨_, rfl⟩
      obtain ⟨v1, hw⟩ : ∃ X : World, X = World.alloc U (.cells #[.int .i64 (i : Int)] 3) := ⟨_, rfl⟩
      rw [← hw, ← hG]
      have b : Below (World.heap U).size U v1 := by rw [hw]; exact (Below.refl _ _).alloc (Nat.le_refl _) _
      have hgq : U.heap.size ≤ gq := by rw [hG]; exact bW.size
      replace bW := below_trans2 bW b
      refine hK _ _ bW ?_
      clear hK K
      have kq := Lib.hid (show Blk v1 gq 3 [.int .i64 (i : Int)] from by rw [hw, hG]; exact Blk.new _ _ _)
      clear hw hG
      clear b
      refine wpPT_two rfl (by rfl) rfl (by rfl) (fun K hK => ?_) (fun K hK => ?_)
      · go_simp
        refine (hWds.out _).mono ?_; rintro e w9 ⟨rfl, rfl⟩
        refine hK _ _ bW ?_
        clear hK K
        refine wpPT_two rfl (by rfl) rfl (by rfl) (fun K hK => ?_) (fun K hK => ?_)
        · go_simp
          obtain ⟨gl, hG⟩ : ∃ G, G = (World.heap v1).size := ⟨_, rfl⟩
          obtain ⟨v2, hw⟩ : ∃ X : World, X = World.alloc v1 (.cells (zeros nw (.int .u64 0)) 99) := ⟨_, rfl⟩
          rw [← hw, ← hG]
          have b : Below (World.heap v1).size v1 v2 := by rw [hw]; exact (Below.refl _ _).alloc (Nat.le_refl _) _
          have hgl : U.heap.size ≤ gl := by rw [hG]; exact bW.size
          replace bW := below_trans2 bW b
          refine hK _ _ bW ?_
          clear hK K
          have kl := Lib.hid (show Blk v2 gl 99 (List.replicate nw (.int .u64 0)) from by rw [hw, hG]; exact Blk.new _ _ _)
          clear hw hG
          replace kq := Lib.hid (kq.out.below b kq.out.lt)
          clear b
          refine wpPT_one rfl (by rfl) (fun K hK => ?_)
          go_simp
          obtain ⟨gf, hG⟩ : ∃ G, G = (World.heap v2).size := ⟨_, rfl⟩
          obtain ⟨v3, hw⟩ : ∃ X : World, X = World.alloc v2 (.cells (zeros n (.int .i64 0)) 3) := ⟨_, rfl⟩
          rw [← hw, ← hG]
          have b : Below (World.heap v2).size v2 v3 := by rw [hw]; exact (Below.refl _ _).alloc (Nat.le_refl _) _
          have hgf : U.heap.size ≤ gf := by rw [hG]; exact bW.size
          have hne : gq ≠ gf := by have := kq.out.lt; omega
          replace bW := below_trans2 bW b
          refine hK _ _ bW ?_
          clear hK K
          have kf := Lib.hid (show Blk v3 gf 3 (List.replicate n (.int .i64 0)) from by rw [hw, hG]; exact Blk.new _ _ _)
          clear hw hG
          replace kq := Lib.hid (kq.out.below b kq.out.lt)
          replace kl := Lib.hid (kl.out.below b kl.out.lt)
          clear b
          iterate 1
            refine wpPT_float (v := ?_) rfl (by rfl) (fun w' hw' => ?_) (fun K hK => ?_)
            rotate_left
            · (go_simp; try with_reducible rfl)
            go_simp
            refine hK _ ?_
            clear hK K
          refine wpPT_one rfl (by rfl) (fun K hK => ?_)
          go_simp
          obtain ⟨gs, hG⟩ : ∃ G, G = (World.heap v3).size := ⟨_, rfl⟩
          obtain ⟨v4, hw⟩ : ∃ X : World, X = World.alloc v3 (.cells #[.slice A n c, .slice (some ⟨gq, 0, none⟩) 1 1, .slice (some ⟨gl, 0, none⟩) nw nw, .slice (some ⟨gf, 0, none⟩) n n] 83) := ⟨_, rfl⟩
          rw [← hw, ← hG]
          have b : Below (World.heap v3).size v3 v4 := by rw [hw]; exact (Below.refl _ _).alloc (Nat.le_refl _) _
          have hgs : U.heap.size ≤ gs := by rw [hG]; exact bW.size
          replace bW := below_trans2 bW b
          refine hK _ _ bW ?_
          clear hK K
          have ks := Lib.hid (show Blk v4 gs 83 [.slice A n c, .slice (some ⟨gq, 0, none⟩) 1 1, .slice (some ⟨gl, 0, none⟩) nw nw, .slice (some ⟨gf, 0, none⟩) n n] from by rw [hw, hG]; exact Blk.new _ _ _)
          clear hw hG
          replace kq := Lib.hid (kq.out.below b kq.out.lt)
          replace kl := Lib.hid (kl.out.below b kl.out.lt)
          replace kf := Lib.hid (kf.out.below b kf.out.lt)
          clear b
          iterate 1
            refine wpPT_float (v := ?_) rfl (by rfl) (fun w' hw' => ?_) (fun K hK => ?_)
            rotate_left
            · (go_simp; try with_reducible rfl)
            go_simp
            refine hK _ ?_
            clear hK K
          refine wpPT_done (NoPanic.normal ?_)
          exact key gq gl gf gs v4 ⟨kq.out, kl.out, kf.out, ks.out, hne, hgq, hgl, hgf, hgs, bW⟩
        · go_simp
          obtain ⟨gf, hG⟩ : ∃ G, G = (World.heap v1).size := ⟨_, rfl⟩
          obtain ⟨v5, hw⟩ : ∃ X : World, X = World.alloc v1 (.cells (zeros n (.int .i64 0)) 3) := ⟨_, rfl⟩
          rw [← hw, ← hG]
          have b : Below (World.heap v1).size v1 v5 := by rw [hw]; exact (Below.refl _ _).alloc (Nat.le_refl _) _
          have hgf : U.heap.size ≤ gf := by rw [hG]; exact bW.size
          have hne : gq ≠ gf := by have := kq.out.lt; omega
          replace bW := below_trans2 bW b
          refine hK _ _ bW ?_
          clear hK K
          have kf := Lib.hid (show Blk v5 gf 3 (List.replicate n (.int .i64 0)) from by rw [hw, hG]; exact Blk.new _ _ _)
          clear hw hG
          replace kq := Lib.hid (kq.out.below b kq.out.lt)
          clear b
          refine wpPT_one rfl (by rfl) (fun K hK => ?_)
          go_simp
          obtain ⟨gl, hG⟩ : ∃ G, G = (World.heap v5).size := ⟨_, rfl⟩
          obtain ⟨v6, hw⟩ : ∃ X : World, X = World.alloc v5 (.cells (zeros nw (.int .u64 0)) 99) := ⟨_, rfl⟩
          rw [← hw, ← hG]
          have b : Below (World.heap v5).size v5 v6 := by rw [hw]; exact (Below.refl _ _).alloc (Nat.le_refl _) _
          have hgl : U.heap.size ≤ gl := by rw [hG]; exact bW.size
          replace bW := below_trans2 bW b
          refine hK _ _ bW ?_
          clear hK K
          have kl := Lib.hid (show Blk v6 gl 99 (List.replicate nw (.int .u64 0)) from by rw [hw, hG]; exact Blk.new _ _ _)
          clear hw hG
          replace kq := Lib.hid (kq.out.below b kq.out.lt)
          replace kf := Lib.hid (kf.out.below b kf.out.lt)
          clear b
          iterate 1
            refine wpPT_float (v := ?_) rfl (by rfl) (fun w' hw' => ?_) (fun K hK => ?_)
            rotate_left
            · (go_simp; try with_reducible rfl)
            go_simp
            refine hK _ ?_
            clear hK K
          refine wpPT_one rfl (by rfl) (fun K hK => ?_)
          go_simp
          obtain ⟨gs, hG⟩ : ∃ G, G = (World.heap v6).size := ⟨_, rfl⟩
          obtain ⟨v7, hw⟩ : ∃ X : World, X = World.alloc v6 (.cells #[.slice A n c, .slice (some ⟨gq, 0, none⟩) 1 1, .slice (some ⟨gl, 0, none⟩) nw nw, .slice (some ⟨gf, 0, none⟩) n n] 83) := ⟨_, rfl⟩
          rw [← hw, ← hG]
          have b : Below (World.heap v6).size v6 v7 := by rw [hw]; exact (Below.refl _ _).alloc (Nat.le_refl _) _
          have hgs : U.heap.size ≤ gs := by rw [hG]; exact bW.size
          replace bW := below_trans2 bW b
          refine hK _ _ bW ?_
          clear hK K
          have ks := Lib.hid (show Blk v7 gs 83 [.slice A n c, .slice (some ⟨gq, 0, none⟩) 1 1, .slice (some ⟨gl, 0, none⟩) nw nw, .slice (some ⟨gf, 0, none⟩) n n] from by rw [hw, hG]; exact Blk.new _ _ _)
          clear hw hG
          replace kq := Lib.hid (kq.out.below b kq.out.lt)
          replace kf := Lib.hid (kf.out.below b kf.out.lt)
          replace kl := Lib.hid (kl.out.below b kl.out.lt)
          clear b
          iterate 1
            refine wpPT_float (v := ?_) rfl (by rfl) (fun w' hw' => ?_) (fun K hK => ?_)
            rotate_left
            · (go_simp; try with_reducible rfl)
            go_simp
            refine hK _ ?_
            clear hK K
          refine wpPT_done (NoPanic.normal ?_)
          exact key gq gl gf gs v7 ⟨kq.out, kl.out, kf.out, ks.out, hne, hgq, hgl, hgf, hgs, bW⟩
      · go_simp
        obtain ⟨gf, hG⟩ : ∃ G, G = (World.heap v1).size := ⟨_, rfl⟩
        obtain ⟨v8, hw⟩ : ∃ X : World, X = World.alloc v1 (.cells (zeros n (.int .i64 0)) 3) := ⟨_, rfl⟩
        rw [← hw, ← hG]
        have b : Below (World.heap v1).size v1 v8 := by rw [hw]; exact (Below.refl _ _).alloc (Nat.le_refl _) _
        have hgf : U.heap.size ≤ gf := by rw [hG]; exact bW.size
        have hne : gq ≠ gf := by have := kq.out.lt; omega
        replace bW := below_trans2 bW b
        refine hK _ _ bW ?_
        clear hK K
        have kf := Lib.hid (show Blk v8 gf 3 (List.replicate n (.int .i64 0)) from by rw [hw, hG]; exact Blk.new _ _ _)
        clear hw hG
        replace kq := Lib.hid (kq.out.below b kq.out.lt)
        clear b
        refine wpPT_one rfl (by rfl) (fun K hK => ?_)
        go_simp
        refine (hWds.out _).mono ?_; rintro e w9 ⟨rfl, rfl⟩
        refine hK _ _ bW ?_
        clear hK K
        refine wpPT_one rfl (by rfl) (fun K hK => ?_)
        go_simp
        obtain ⟨gl, hG⟩ : ∃ G, G = (World.heap v8).size := ⟨_, rfl⟩
        obtain ⟨v9, hw⟩ : ∃ X : World, X = World.alloc v8 (.cells (zeros nw (.int .u64 0)) 99) := ⟨_, rfl⟩
        rw [← hw, ← hG]
        have b : Below (World.heap v8).size v8 v9 := by rw [hw]; exact (Below.refl _ _).alloc (Nat.le_refl _) _
        have hgl : U.heap.size ≤ gl := by rw [hG]; exact bW.size
        replace bW := below_trans2 bW b
        refine hK _ _ bW ?_
        clear hK K
        have kl := Lib.hid (show Blk v9 gl 99 (List.replicate nw (.int .u64 0)) from by rw [hw, hG]; exact Blk.new _ _ _)
        clear hw hG
        replace kq := Lib.hid (kq.out.below b kq.out.lt)
        replace kf := Lib.hid (kf.out.below b kf.out.lt)
        clear b
        iterate 1
          refine wpPT_float (v := ?_) rfl (by rfl) (fun w' hw' => ?_) (fun K hK => ?_)
          rotate_left
          · (go_simp; try with_reducible rfl)
          go_simp
          refine hK _ ?_
          clear hK K
        refine wpPT_one rfl (by rfl) (fun K hK => ?_)
        go_simp
        obtain ⟨gs, hG⟩ : ∃ G, G = (World.heap v9).size := ⟨_, rfl⟩
        obtain ⟨v10, hw⟩ : ∃ X : World, X = World.alloc v9 (.cells #[.slice A n c, .slice (some ⟨gq, 0, none⟩) 1 1, .slice (some ⟨gl, 0, none⟩) nw nw, .slice (some ⟨gf, 0, none⟩) n n] 83) := ⟨_, rfl⟩
        rw [← hw, ← hG]
        have b : Below (World.heap v9).size v9 v10 := by rw [hw]; exact (Below.refl _ _).alloc (Nat.le_refl _) _
        have hgs : U.heap.size ≤ gs := by rw [hG]; exact bW.size
        replace bW := below_trans2 bW b
        refine hK _ _ bW ?_
        clear hK K
        have ks := Lib.hid (show Blk v10 gs 83 [.slice A n c, .slice (some ⟨gq, 0, none⟩) 1 1, .slice (some ⟨gl, 0, none⟩) nw nw, .slice (some ⟨gf, 0, none⟩) n n] from by rw [hw, hG]; exact Blk.new _ _ _)
        clear hw hG
        replace kq := Lib.hid (kq.out.below b kq.out.lt)
        replace kf := Lib.hid (kf.out.below b kf.out.lt)
        replace kl := Lib.hid (kl.out.below b kl.out.lt)
        clear b
        iterate 1
          refine wpPT_float (v := ?_) rfl (by rfl) (fun w' hw' => ?_) (fun K hK => ?_)
          rotate_left
          · (go_simp; try with_reducible rfl)
          go_simp
          refine hK _ ?_
          clear hK K
        refine wpPT_done (NoPanic.normal ?_)
        exact key gq gl gf gs v10 ⟨kq.out, kl.out, kf.out, ks.out, hne, hgq, hgl, hgf, hgs, bW⟩
    · go_simp
      refine (hWds.out _).mono ?_; rintro e w9 ⟨rfl, rfl⟩
      refine hK _ _ bW ?_
      clear hK K
      refine wpPT_three rfl (by rfl) rfl (by rfl) rfl (by rfl) (fun K hK => ?_) (fun K hK => ?_) (fun K hK => ?_)
      · go_simp
        obtain ⟨gq, hG⟩ : ∃ G, G = (World.heap U).size := ⟨_, rfl⟩
        obtain ⟨v11, hw⟩ : ∃ X : World, X = World.alloc U (.cells #[.int .i64 (i : Int)] 3) := ⟨_, rfl⟩
        rw [← hw, ← hG]
        have b : Below (World.heap U).size U v11 := by rw [hw]; exact (Below.refl _ _).alloc (Nat.le_refl _) _
        have hgq : U.heap.size ≤ gq := by rw [hG]; exact bW.size
        replace bW := below_trans2 bW b
        refine hK _ _ bW ?_
        clear hK K
        have kq := Lib.hid (show Blk v11 gq 3 [.int .i64 (i : Int)] from by rw [hw, hG]; exact Blk.new _ _ _)
        clear hw hG
        clear b
        refine wpPT_two rfl (by rfl) rfl (by rfl) (fun K hK => ?_) (fun K hK => ?_)
        · go_simp
          obtain ⟨gl, hG⟩ : ∃ G, G = (World.heap v11).size := ⟨_, rfl⟩
          obtain ⟨v12, hw⟩ : ∃ X : World, X = World.alloc v11 (.cells (zeros nw (.int .u64 0)) 99) := ⟨_, rfl⟩
          rw [← hw, ← hG]
          have b : Below (World.heap v11).size v11 v12 := by rw [hw]; exact (Below.refl _ _).alloc (Nat.le_refl _) _
          have hgl : U.heap.size ≤ gl := by rw [hG]; exact bW.size
          replace bW := below_trans2 bW b
          refine hK _ _ bW ?_
          clear hK K
          have kl := Lib.hid (show Blk v12 gl 99 (List.replicate nw (.int .u64 0)) from by rw [hw, hG]; exact Blk.new _ _ _)
          clear hw hG
          replace kq := Lib.hid (kq.out.below b kq.out.lt)
          clear b
          refine wpPT_one rfl (by rfl) (fun K hK => ?_)
          go_simp
          obtain ⟨gf, hG⟩ : ∃ G, G = (World.heap v12).size := ⟨_, rfl⟩
          obtain ⟨v13, hw⟩ : ∃ X : World, X = World.alloc v12 (.cells (zeros n (.int .i64 0)) 3) := ⟨_, rfl⟩
          rw [← hw, ← hG]
          have b : Below (World.heap v12).size v12 v13 := by rw [hw]; exact (Below.refl _ _).alloc (Nat.le_refl _) _
          have hgf : U.heap.size ≤ gf := by rw [hG]; exact bW.size
          have hne : gq ≠ gf := by have := kq.out.lt; omega
          replace bW := below_trans2 bW b
          refine hK _ _ bW ?_
          clear hK K
          have kf := Lib.hid (show Blk v13 gf 3 (List.replicate n (.int .i64 0)) from by rw [hw, hG]; exact Blk.new _ _ _)
          clear hw hG
          replace kq := Lib.hid (kq.out.below b kq.out.lt)
          replace kl := Lib.hid (kl.out.below b kl.out.lt)
          clear b
          iterate 1
            refine wpPT_float (v := ?_) rfl (by rfl) (fun w' hw' => ?_) (fun K hK => ?_)
            rotate_left
            · (go_simp; try with_reducible rfl)
            go_simp
            refine hK _ ?_
            clear hK K
          refine wpPT_one rfl (by rfl) (fun K hK => ?_)
          go_simp
          obtain ⟨gs, hG⟩ : ∃ G, G = (World.heap v13).size := ⟨_, rfl⟩
          obtain ⟨v14, hw⟩ : ∃ X : World, X = World.alloc v13 (.cells #[.slice A n c, .slice (some ⟨gq, 0, none⟩) 1 1, .slice (some ⟨gl, 0, none⟩) nw nw, .slice (some ⟨gf, 0, none⟩) n n] 83) := ⟨_, rfl⟩
          rw [← hw, ← hG]
          have b : Below (World.heap v13).size v13 v14 := by rw [hw]; exact (Below.refl _ _).alloc (Nat.le_refl _) _
          have hgs : U.heap.size ≤ gs := by rw [hG]; exact bW.size
          replace bW := below_trans2 bW b
          refine hK _ _ bW ?_
          clear hK K
          have ks := Lib.hid (show Blk v14 gs 83 [.slice A n c, .slice (some ⟨gq, 0, none⟩) 1 1, .slice (some ⟨gl, 0, none⟩) nw nw, .slice (some ⟨gf, 0, none⟩) n n] from by rw [hw, hG]; exact Blk.new _ _ _)
          clear hw hG
          replace kq := Lib.hid (kq.out.below b kq.out.lt)
          replace kl := Lib.hid (kl.out.below b kl.out.lt)
          replace kf := Lib.hid (kf.out.below b kf.out.lt)
          clear b
          iterate 1
            refine wpPT_float (v := ?_) rfl (by rfl) (fun w' hw' => ?_) (fun K hK => ?_)
            rotate_left
            · (go_simp; try with_reducible rfl)
            go_simp
            refine hK _ ?_
            clear hK K
          refine wpPT_done (NoPanic.normal ?_)
          exact key gq gl gf gs v14 ⟨kq.out, kl.out, kf.out, ks.out, hne, hgq, hgl, hgf, hgs, bW⟩
        · go_simp
          obtain ⟨gf, hG⟩ : ∃ G, G = (World.heap v11).size := ⟨_, rfl⟩
          obtain ⟨v15, hw⟩ : ∃ X : World, X = World.alloc v11 (.cells (zeros n (.int .i64 0)) 3) := ⟨_, rfl⟩
          rw [← hw, ← hG]
          have b : Below (World.heap v11).size v11 v15 := by rw [hw]; exact (Below.refl _ _).alloc (Nat.le_refl _) _
          have hgf : U.heap.size ≤ gf := by rw [hG]; exact bW.size
          have hne : gq ≠ gf := by have := kq.out.lt; omega
          replace bW := below_trans2 bW b
          refine hK _ _ bW ?_
          clear hK K
          have kf := Lib.hid (show Blk v15 gf 3 (List.replicate n (.int .i64 0)) from by rw [hw, hG]; exact Blk.new _ _ _)
          clear hw hG
          replace kq := Lib.hid (kq.out.below b kq.out.lt)
          clear b
          refine wpPT_one rfl (by rfl) (fun K hK => ?_)
          go_simp
          obtain ⟨gl, hG⟩ : ∃ G, G = (World.heap v15).size := ⟨_, rfl⟩
          obtain ⟨v16, hw⟩ : ∃ X : World, X = World.alloc v15 (.cells (zeros nw (.int .u64 0)) 99) := ⟨_, rfl⟩
          rw [← hw, ← hG]
          have b : Below (World.heap v15).size v15 v16 := by rw [hw]; exact (Below.refl _ _).alloc (Nat.le_refl _) _
          have hgl : U.heap.size ≤ gl := by rw [hG]; exact bW.size
          replace bW := below_trans2 bW b
          refine hK _ _ bW ?_
          clear hK K
          have kl := Lib.hid (show Blk v16 gl 99 (List.replicate nw (.int .u64 0)) from by rw [hw, hG]; exact Blk.new _ _ _)
          clear hw hG
          replace kq := Lib.hid (kq.out.below b kq.out.lt)
          replace kf := Lib.hid (kf.out.below b kf.out.lt)
          clear b
          iterate 1
            refine wpPT_float (v := ?_) rfl (by rfl) (fun w' hw' => ?_) (fun K hK => ?_)
            rotate_left
            · (go_simp; try with_reducible rfl)
            go_simp
            refine hK _ ?_
            clear hK K
          refine wpPT_one rfl (by rfl) (fun K hK => ?_)
          go_simp
          obtain ⟨gs, hG⟩ : ∃ G, G = (World.heap v16).size := ⟨_, rfl⟩
          obtain ⟨v17, hw⟩ : ∃ X : World, X = World.alloc v16 (.cells #[.slice A n c, .slice (some ⟨gq, 0, none⟩) 1 1, .slice (some ⟨gl, 0, none⟩) nw nw, .slice (some ⟨gf, 0, none⟩) n n] 83) := ⟨_, rfl⟩
          rw [← hw, ← hG]
          have b : Below (World.heap v16).size v16 v17 := by rw [hw]; exact (Below.refl _ _).alloc (Nat.le_refl _) _
          have hgs : U.heap.size ≤ gs := by rw [hG]; exact bW.size
          replace bW := below_trans2 bW b
          refine hK _ _ bW ?_
          clear hK K
          have ks := Lib.hid (show Blk v17 gs 83 [.slice A n c, .slice (some ⟨gq, 0, none⟩) 1 1, .slice (some ⟨gl, 0, none⟩) nw nw, .slice (some ⟨gf, 0, none⟩) n n] from by rw [hw, hG]; exact Blk.new _ _ _)
          clear hw hG
          replace kq := Lib.hid (kq.out.below b kq.out.lt)
          replace kf := Lib.hid (kf.out.below b kf.out.lt)
          replace kl := Lib.hid (kl.out.below b kl.out.lt)
          clear b
          iterate 1
            refine wpPT_float (v := ?_) rfl (by rfl) (fun w' hw' => ?_) (fun K hK => ?_)
            rotate_left
            · (go_simp; try with_reducible rfl)
            go_simp
            refine hK _ ?_
            clear hK K
          refine wpPT_done (NoPanic.normal ?_)
          exact key gq gl gf gs v17 ⟨kq.out, kl.out, kf.out, ks.out, hne, hgq, hgl, hgf, hgs, bW⟩
      · go_simp
        obtain ⟨gl, hG⟩ : ∃ G, G = (World.heap U).size := ⟨_, rfl⟩
        obtain ⟨v18, hw⟩ : ∃ X : World, X = World.alloc U (.cells (zeros nw (.int .u64 0)) 99) := ⟨_, rfl⟩
        rw [← hw, ← hG]
        have b : Below (World.heap U).size U v18 := by rw [hw]; exact (Below.refl _ _).alloc (Nat.le_refl _) _
        have hgl : U.heap.size ≤ gl := by rw [hG]; exact bW.size
        replace bW := below_trans2 bW b
        refine hK _ _ bW ?_
        clear hK K
        have kl := Lib.hid (show Blk v18 gl 99 (List.replicate nw (.int .u64 0)) from by rw [hw, hG]; exact Blk.new _ _ _)
        clear hw hG
        clear b
        refine wpPT_two rfl (by rfl) rfl (by rfl) (fun K hK => ?_) (fun K hK => ?_)
        · go_simp
          obtain ⟨gq, hG⟩ : ∃ G, G = (World.heap v18).size := ⟨_, rfl⟩
          obtain ⟨v19, hw⟩ : ∃ X : World, X = World.alloc v18 (.cells #[.int .i64 (i : Int)] 3) := ⟨_, rfl⟩
          rw [← hw, ← hG]
          have b : Below (World.heap v18).size v18 v19 := by rw [hw]; exact (Below.refl _ _).alloc (Nat.le_refl _) _
          have hgq : U.heap.size ≤ gq := by rw [hG]; exact bW.size
          replace bW := below_trans2 bW b
          refine hK _ _ bW ?_
          clear hK K
          have kq := Lib.hid (show Blk v19 gq 3 [.int .i64 (i : Int)] from by rw [hw, hG]; exact Blk.new _ _ _)
          clear hw hG
          replace kl := Lib.hid (kl.out.below b kl.out.lt)
          clear b
          refine wpPT_one rfl (by rfl) (fun K hK => ?_)
          go_simp
          obtain ⟨gf, hG⟩ : ∃ G, G = (World.heap v19).size := ⟨_, rfl⟩
          obtain ⟨v20, hw⟩ : ∃ X : World, X = World.alloc v19 (.cells (zeros n (.int .i64 0)) 3) := ⟨_, rfl⟩
          rw [← hw, ← hG]
          have b : Below (World.heap v19).size v19 v20 := by rw [hw]; exact (Below.refl _ _).alloc (Nat.le_refl _) _
          have hgf : U.heap.size ≤ gf := by rw [hG]; exact bW.size
          have hne : gq ≠ gf := by have := kq.out.lt; omega
          replace bW := below_trans2 bW b
          refine hK _ _ bW ?_
          clear hK K
          have kf := Lib.hid (show Blk v20 gf 3 (List.replicate n (.int .i64 0)) from by rw [hw, hG]; exact Blk.new _ _ _)
          clear hw hG
          replace kl := Lib.hid (kl.out.below b kl.out.lt)
          replace kq := Lib.hid (kq.out.below b kq.out.lt)
          clear b
          iterate 1
            refine wpPT_float (v := ?_) rfl (by rfl) (fun w' hw' => ?_) (fun K hK => ?_)
            rotate_left
            · (go_simp; try with_reducible rfl)
            go_simp
            refine hK _ ?_
            clear hK K
          refine wpPT_one rfl (by rfl) (fun K hK => ?_)
          go_simp
          obtain ⟨gs, hG⟩ : ∃ G, G = (World.heap v20).size := ⟨_, rfl⟩
          obtain ⟨v21, hw⟩ : ∃ X : World, X = World.alloc v20 (.cells #[.slice A n c, .slice (some ⟨gq, 0, none⟩) 1 1, .slice (some ⟨gl, 0, none⟩) nw nw, .slice (some ⟨gf, 0, none⟩) n n] 83) := ⟨_, rfl⟩
          rw [← hw, ← hG]
          have b : Below (World.heap v20).size v20 v21 := by rw [hw]; exact (Below.refl _ _).alloc (Nat.le_refl _) _
          have hgs : U.heap.size ≤ gs := by rw [hG]; exact bW.size
          replace bW := below_trans2 bW b
          refine hK _ _ bW ?_
          clear hK K
          have ks := Lib.hid (show Blk v21 gs 83 [.slice A n c, .slice (some ⟨gq, 0, none⟩) 1 1, .slice (some ⟨gl, 0, none⟩) nw nw, .slice (some ⟨gf, 0, none⟩) n n] from by rw [hw, hG]; exact Blk.new _ _ _)
          clear hw hG
          replace kl := Lib.hid (kl.out.below b kl.out.lt)
          replace kq := Lib.hid (kq.out.below b kq.out.lt)
          replace kf := Lib.hid (kf.out.below b kf.out.lt)
          clear b
          iterate 1
            refine wpPT_float (v := ?_) rfl (by rfl) (fun w' hw' => ?_) (fun K hK => ?_)
            rotate_left
            · (go_simp; try with_reducible rfl)
            go_simp
            refine hK _ ?_
            clear hK K
          refine wpPT_done (NoPanic.normal ?_)
          exact key gq gl gf gs v21 ⟨kq.out, kl.out, kf.out, ks.out, hne, hgq, hgl, hgf, hgs, bW⟩
        · go_simp
          obtain ⟨gf, hG⟩ : ∃ G, G = (World.heap v18).size := ⟨_, rfl⟩
          obtain ⟨v22, hw⟩ : ∃ X : World, X = World.alloc v18 (.cells (zeros n (.int .i64 0)) 3) := ⟨_, rfl⟩
          rw [← hw, ← hG]
          have b : Below (World.heap v18).size v18 v22 := by rw [hw]; exact (Below.refl _ _).alloc (Nat.le_refl _) _
          have hgf : U.heap.size ≤ gf := by rw [hG]; exact bW.size
          replace bW := below_trans2 bW b
          refine hK _ _ bW ?_
          clear hK K
          have kf := Lib.hid (show Blk v22 gf 3 (List.replicate n (.int .i64 0)) from by rw [hw, hG]; exact Blk.new _ _ _)
          clear hw hG
          replace kl := Lib.hid (kl.out.below b kl.out.lt)
          clear b
          refine wpPT_one rfl (by rfl) (fun K hK => ?_)
          go_simp
          obtain ⟨gq, hG⟩ : ∃ G, G = (World.heap v22).size := ⟨_, rfl⟩
          obtain ⟨v23, hw⟩ : ∃ X : World, X = World.alloc v22 (.cells #[.int .i64 (i : Int)] 3) := ⟨_, rfl⟩
          rw [← hw, ← hG]
          have b : Below (World.heap v22).size v22 v23 := by rw [hw]; exact (Below.refl _ _).alloc (Nat.le_refl _) _
          have hgq : U.heap.size ≤ gq := by rw [hG]; exact bW.size
          have hne : gq ≠ gf := by have := kf.out.lt; omega
          replace bW := below_trans2 bW b
          refine hK _ _ bW ?_
          clear hK K
          have kq := Lib.hid (show Blk v23 gq 3 [.int .i64 (i : Int)] from by rw [hw, hG]; exact Blk.new _ _ _)
          clear hw hG
          replace kl := Lib.hid (kl.out.below b kl.out.lt)
          replace kf := Lib.hid (kf.out.below b kf.out.lt)
          clear b
          iterate 1
            refine wpPT_float (v := ?_) rfl (by rfl) (fun w' hw' => ?_) (fun K hK => ?_)
            rotate_left
            · (go_simp; try with_reducible rfl)
            go_simp
            refine hK _ ?_
            clear hK K
          refine wpPT_one rfl (by rfl) (fun K hK => ?_)
          go_simp
          obtain ⟨gs, hG⟩ : ∃ G, G = (World.heap v23).size := ⟨_, rfl⟩
          obtain ⟨v24, hw⟩ : ∃ X : World, X = World.alloc v23 (.cells #[.slice A n c, .slice (some ⟨gq, 0, none⟩) 1 1, .slice (some ⟨gl, 0, none⟩) nw nw, .slice (some ⟨gf, 0, none⟩) n n] 83) := ⟨_, rfl⟩
          rw [← hw, ← hG]
          have b : Below (World.heap v23).size v23 v24 := by rw [hw]; exact (Below.refl _ _).alloc (Nat.le_refl _) _
          have hgs : U.heap.size ≤ gs := by rw [hG]; exact bW.size
          replace bW := below_trans2 bW b
          refine hK _ _ bW ?_
          clear hK K
          have ks := Lib.hid (show Blk v24 gs 83 [.slice A n c, .slice (some ⟨gq, 0, none⟩) 1 1, .slice (some ⟨gl, 0, none⟩) nw nw, .slice (some ⟨gf, 0, none⟩) n n] from by rw [hw, hG]; exact Blk.new _ _ _)
          clear hw hG
          replace kl := Lib.hid (kl.out.below b kl.out.lt)
          replace kf := Lib.hid (kf.out.below b kf.out.lt)
          replace kq := Lib.hid (kq.out.below b kq.out.lt)
          clear b
          iterate 1
            refine wpPT_float (v := ?_) rfl (by rfl) (fun w' hw' => ?_) (fun K hK => ?_)
            rotate_left
            · (go_simp; try with_reducible rfl)
            go_simp
            refine hK _ ?_
            clear hK K
          refine wpPT_done (NoPanic.normal ?_)
          exact key gq gl gf gs v24 ⟨kq.out, kl.out, kf.out, ks.out, hne, hgq, hgl, hgf, hgs, bW⟩
      · go_simp
        obtain ⟨gf, hG⟩ : ∃ G, G = (World.heap U).size := ⟨_, rfl⟩
        obtain ⟨v25, hw⟩ : ∃ X : World, X = World.alloc U (.cells (zeros n (.int .i64 0)) 3) := ⟨_, rfl⟩
        rw [← hw, ← hG]
        have b : Below (World.heap U).size U v25 := by rw [hw]; exact (Below.refl _ _).alloc (Nat.le_refl _) _
        have hgf : U.heap.size ≤ gf := by rw [hG]; exact bW.size
        replace bW := below_trans2 bW b
        refine hK _ _ bW ?_
        clear hK K
        have kf := Lib.hid (show Blk v25 gf 3 (List.replicate n (.int .i64 0)) from by rw [hw, hG]; exact Blk.new _ _ _)
        clear hw hG
        clear b
        refine wpPT_two rfl (by rfl) rfl (by rfl) (fun K hK => ?_) (fun K hK => ?_)
        · go_simp
          obtain ⟨gq, hG⟩ : ∃ G, G = (World.heap v25).size := ⟨_, rfl⟩
          obtain ⟨v26, hw⟩ : ∃ X : World, X = World.alloc v25 (.cells #[.int .i64 (i : Int)] 3) := ⟨_, rfl⟩
          rw [← hw, ← hG]
          have b : Below (World.heap v25).size v25 v26 := by rw [hw]; exact (Below.refl _ _).alloc (Nat.le_refl _) _
          have hgq : U.heap.size ≤ gq := by rw [hG]; exact bW.size
          have hne : gq ≠ gf := by have := kf.out.lt; omega
          replace bW := below_trans2 bW b
          refine hK _ _ bW ?_
          clear hK K
          have kq := Lib.hid (show Blk v26 gq 3 [.int .i64 (i : Int)] from by rw [hw, hG]; exact Blk.new _ _ _)
          clear hw hG
          replace kf := Lib.hid (kf.out.below b kf.out.lt)
          clear b
          refine wpPT_one rfl (by rfl) (fun K hK => ?_)
          go_simp
          obtain ⟨gl, hG⟩ : ∃ G, G = (World.heap v26).size := ⟨_, rfl⟩
          obtain ⟨v27, hw⟩ : ∃ X : World, X = World.alloc v26 (.cells (zeros nw (.int .u64 0)) 99) := ⟨_, rfl⟩
          rw [← hw, ← hG]
          have b : Below (World.heap v26).size v26 v27 := by rw [hw]; exact (Below.refl _ _).alloc (Nat.le_refl _) _
          have hgl : U.heap.size ≤ gl := by rw [hG]; exact bW.size
          replace bW := below_trans2 bW b
          refine hK _ _ bW ?_
          clear hK K
          have kl := Lib.hid (show Blk v27 gl 99 (List.replicate nw (.int .u64 0)) from by rw [hw, hG]; exact Blk.new _ _ _)
          clear hw hG
          replace kf := Lib.hid (kf.out.below b kf.out.lt)
          replace kq := Lib.hid (kq.out.below b kq.out.lt)
          clear b
          iterate 1
            refine wpPT_float (v := ?_) rfl (by rfl) (fun w' hw' => ?_) (fun K hK => ?_)
            rotate_left
            · (go_simp; try with_reducible rfl)
            go_simp
            refine hK _ ?_
            clear hK K
          refine wpPT_one rfl (by rfl) (fun K hK => ?_)
          go_simp
          obtain ⟨gs, hG⟩ : ∃ G, G = (World.heap v27).size := ⟨_, rfl⟩
          obtain ⟨v28, hw⟩ : ∃ X : World, X = World.alloc v27 (.cells #[.slice A n c, .slice (some ⟨gq, 0, none⟩) 1 1, .slice (some ⟨gl, 0, none⟩) nw nw, .slice (some ⟨gf, 0, none⟩) n n] 83) := ⟨_, rfl⟩
          rw [← hw, ← hG]
          have b : Below (World.heap v27).size v27 v28 := by rw [hw]; exact (Below.refl _ _).alloc (Nat.le_refl _) _
          have hgs : U.heap.size ≤ gs := by rw [hG]; exact bW.size
          replace bW := below_trans2 bW b
          refine hK _ _ bW ?_
          clear hK K
          have ks := Lib.hid (show Blk v28 gs 83 [.slice A n c, .slice (some ⟨gq, 0, none⟩) 1 1, .slice (some ⟨gl, 0, none⟩) nw nw, .slice (some ⟨gf, 0, none⟩) n n] from by rw [hw, hG]; exact Blk.new _ _ _)
          clear hw hG
          replace kf := Lib.hid (kf.out.below b kf.out.lt)
          replace kq := Lib.hid (kq.out.below b kq.out.lt)
          replace kl := Lib.hid (kl.out.below b kl.out.lt)
          clear b
          iterate 1
            refine wpPT_float (v := ?_) rfl (by rfl) (fun w' hw' => ?_) (fun K hK => ?_)
            rotate_left
            · (go_simp; try with_reducible rfl)
            go_simp
            refine hK _ ?_
            clear hK K
          refine wpPT_done (NoPanic.normal ?_)
          exact key gq gl gf gs v28 ⟨kq.out, kl.out, kf.out, ks.out, hne, hgq, hgl, hgf, hgs, bW⟩
        · go_simp
          obtain ⟨gl, hG⟩ : ∃ G, G = (World.heap v25).size := ⟨_, rfl⟩
          obtain ⟨v29, hw⟩ : ∃ X : World, X = World.alloc v25 (.cells (zeros nw (.int .u64 0)) 99) := ⟨_, rfl⟩
          rw [← hw, ← hG]
          have b : Below (World.heap v25).size v25 v29 := by rw [hw]; exact (Below.refl _ _).alloc (Nat.le_refl _) _
          have hgl : U.heap.size ≤ gl := by rw [hG]; exact bW.size
          replace bW := below_trans2 bW b
          refine hK _ _ bW ?_
          clear hK K
          have kl := Lib.hid (show Blk v29 gl 99 (List.replicate nw (.int .u64 0)) from by rw [hw, hG]; exact Blk.new _ _ _)
          clear hw hG
          replace kf := Lib.hid (kf.out.below b kf.out.lt)
          clear b
          refine wpPT_one rfl (by rfl) (fun K hK => ?_)
          go_simp
          obtain ⟨gq, hG⟩ : ∃ G, G = (World.heap v29).size := ⟨_, rfl⟩
          obtain ⟨v30, hw⟩ : ∃ X : World, X = World.alloc v29 (.cells #[.int .i64 (i : Int)] 3) := ⟨_, rfl⟩
          rw [← hw, ← hG]
          have b : Below (World.heap v29).size v29 v30 := by rw [hw]; exact (Below.refl _ _).alloc (Nat.le_refl _) _
          have hgq : U.heap.size ≤ gq := by rw [hG]; exact bW.size
          have hne : gq ≠ gf := by have := kf.out.lt; omega
          replace bW := below_trans2 bW b
          refine hK _ _ bW ?_
          clear hK K
          have kq := Lib.hid (show Blk v30 gq 3 [.int .i64 (i : Int)] from by rw [hw, hG]; exact Blk.new _ _ _)
          clear hw hG
          replace kf := Lib.hid (kf.out.below b kf.out.lt)
          replace kl := Lib.hid (kl.out.below b kl.out.lt)
          clear b
          iterate 1
            refine wpPT_float (v := ?_) rfl (by rfl) (fun w' hw' => ?_) (fun K hK => ?_)
            rotate_left
            · (go_simp; try with_reducible rfl)
            go_simp
            refine hK _ ?_
            clear hK K
          refine wpPT_one rfl (by rfl) (fun K hK => ?_)
          go_simp
          obtain ⟨gs, hG⟩ : ∃ G, G = (World.heap v30).size := ⟨_, rfl⟩
          obtain ⟨v31, hw⟩ : ∃ X : World, X = World.alloc v30 (.cells #[.slice A n c, .slice (some ⟨gq, 0, none⟩) 1 1, .slice (some ⟨gl, 0, none⟩) nw nw, .slice (some ⟨gf, 0, none⟩) n n] 83) := ⟨_, rfl⟩
          rw [← hw, ← hG]
          have b : Below (World.heap v30).size v30 v31 := by rw [hw]; exact (Below.refl _ _).alloc (Nat.le_refl _) _
          have hgs : U.heap.size ≤ gs := by rw [hG]; exact bW.size
          replace bW := below_trans2 bW b
          refine hK _ _ bW ?_
          clear hK K
          have ks := Lib.hid (show Blk v31 gs 83 [.slice A n c, .slice (some ⟨gq, 0, none⟩) 1 1, .slice (some ⟨gl, 0, none⟩) nw nw, .slice (some ⟨gf, 0, none⟩) n n] from by rw [hw, hG]; exact Blk.new _ _ _)
          clear hw hG
          replace kf := Lib.hid (kf.out.below b kf.out.lt)
          replace kl := Lib.hid (kl.out.below b kl.out.lt)
          replace kq := Lib.hid (kq.out.below b kq.out.lt)
          clear b
          iterate 1
            refine wpPT_float (v := ?_) rfl (by rfl) (fun w' hw' => ?_) (fun K hK => ?_)
            rotate_left
            · (go_simp; try with_reducible rfl)
            go_simp
            refine hK _ ?_
            clear hK K
          refine wpPT_done (NoPanic.normal ?_)
          exact key gq gl gf gs v31 ⟨kq.out, kl.out, kf.out, ks.out, hne, hgq, hgl, hgf, hgs, bW⟩
    · go_simp
      obtain ⟨gf, hG⟩ : ∃ G, G = (World.heap U).size := ⟨_, rfl⟩
      obtain ⟨v32, hw⟩ : ∃ X : World, X = World.alloc U (.cells (zeros n (.int .i64 0)) 3) := ⟨_, rfl⟩
      rw [← hw, ← hG]
      have b : Below (World.heap U).size U v32 := by rw [hw]; exact (Below.refl _ _).alloc (Nat.le_refl _) _
      have hgf : U.heap.size ≤ gf := by rw [hG]; exact bW.size
      replace bW := below_trans2 bW b
      refine hK _ _ bW ?_
      clear hK K
      have kf := Lib.hid (show Blk v32 gf 3 (List.replicate n (.int .i64 0)) from by rw [hw, hG]; exact Blk.new _ _ _)
      clear hw hG
      clear b
      refine wpPT_two rfl (by rfl) rfl (by rfl) (fun K hK => ?_) (fun K hK => ?_)
      · go_simp
        obtain ⟨gq, hG⟩ : ∃ G, G = (World.heap v32).size := ⟨_, rfl⟩
        obtain ⟨v33, hw⟩ : ∃ X : World, X = World.alloc v32 (.cells #[.int .i64 (i : Int)] 3) := ⟨_, rfl⟩
        rw [← hw, ← hG]
        have b : Below (World.heap v32).size v32 v33 := by rw [hw]; exact (Below.refl _ _).alloc (Nat.le_refl _) _
        have hgq : U.heap.size ≤ gq := by rw [hG]; exact bW.size
        have hne : gq ≠ gf := by have := kf.out.lt; omega
        replace bW := below_trans2 bW b
        refine hK _ _ bW ?_
        clear hK K
        have kq := Lib.hid (show Blk v33 gq 3 [.int .i64 (i : Int)] from by rw [hw, hG]; exact Blk.new _ _ _)
        clear hw hG
        replace kf := Lib.hid (kf.out.below b kf.out.lt)
        clear b
        refine wpPT_one rfl (by rfl) (fun K hK => ?_)
        go_simp
        refine (hWds.out _).mono ?_; rintro e w9 ⟨rfl, rfl⟩
        refine hK _ _ bW ?_
        clear hK K
        refine wpPT_one rfl (by rfl) (fun K hK => ?_)
        go_simp
        obtain ⟨gl, hG⟩ : ∃ G, G = (World.heap v33).size := ⟨_, rfl⟩
        obtain ⟨v34, hw⟩ : ∃ X : World, X = World.alloc v33 (.cells (zeros nw (.int .u64 0)) 99) := ⟨_, rfl⟩
        rw [← hw, ← hG]
        have b : Below (World.heap v33).size v33 v34 := by rw [hw]; exact (Below.refl _ _).alloc (Nat.le_refl _) _
        have hgl : U.heap.size ≤ gl := by rw [hG]; exact bW.size
        replace bW := below_trans2 bW b
        refine hK _ _ bW ?_
        clear hK K
        have kl := Lib.hid (show Blk v34 gl 99 (List.replicate nw (.int .u64 0)) from by rw [hw, hG]; exact Blk.new _ _ _)
        clear hw hG
        replace kf := Lib.hid (kf.out.below b kf.out.lt)
        replace kq := Lib.hid (kq.out.below b kq.out.lt)
        clear b
        iterate 1
          refine wpPT_float (v := ?_) rfl (by rfl) (fun w' hw' => ?_) (fun K hK => ?_)
          rotate_left
          · (go_simp; try with_reducible rfl)
          go_simp
          refine hK _ ?_
          clear hK K
        refine wpPT_one rfl (by rfl) (fun K hK => ?_)
        go_simp
        obtain ⟨gs, hG⟩ : ∃ G, G = (World.heap v34).size := ⟨_, rfl⟩
        obtain ⟨v35, hw⟩ : ∃ X : World, X = World.alloc v34 (.cells #[.slice A n c, .slice (some ⟨gq, 0, none⟩) 1 1, .slice (some ⟨gl, 0, none⟩) nw nw, .slice (some ⟨gf, 0, none⟩) n n] 83) := ⟨_, rfl⟩
        rw [← hw, ← hG]
        have b : Below (World.heap v34).size v34 v35 := by rw [hw]; exact (Below.refl _ _).alloc (Nat.le_refl _) _
        have hgs : U.heap.size ≤ gs := by rw [hG]; exact bW.size
        replace bW := below_trans2 bW b
        refine hK _ _ bW ?_
        clear hK K
        have ks := Lib.hid (show Blk v35 gs 83 [.slice A n c, .slice (some ⟨gq, 0, none⟩) 1 1, .slice (some ⟨gl, 0, none⟩) nw nw, .slice (some ⟨gf, 0, none⟩) n n] from by rw [hw, hG]; exact Blk.new _ _ _)
        clear hw hG
        replace kf := Lib.hid (kf.out.below b kf.out.lt)
        replace kq := Lib.hid (kq.out.below b kq.out.lt)
        replace kl := Lib.hid (kl.out.below b kl.out.lt)
        clear b
        iterate 1
          refine wpPT_float (v := ?_) rfl (by rfl) (fun w' hw' => ?_) (fun K hK => ?_)
          rotate_left
          · (go_simp; try with_reducible rfl)
          go_simp
          refine hK _ ?_
          clear hK K
        refine wpPT_done (NoPanic.normal ?_)
        exact key gq gl gf gs v35 ⟨kq.out, kl.out, kf.out, ks.out, hne, hgq, hgl, hgf, hgs, bW⟩
      · go_simp
        refine (hWds.out _).mono ?_; rintro e w9 ⟨rfl, rfl⟩
        refine hK _ _ bW ?_
        clear hK K
        refine wpPT_two rfl (by rfl) rfl (by rfl) (fun K hK => ?_) (fun K hK => ?_)
        · go_simp
          obtain ⟨gq, hG⟩ : ∃ G, G = (World.heap v32).size := ⟨_, rfl⟩
          obtain ⟨v36, hw⟩ : ∃ X : World, X = World.alloc v32 (.cells #[.int .i64 (i : Int)] 3) := ⟨_, rfl⟩
          rw [← hw, ← hG]
          have b : Below (World.heap v32).size v32 v36 := by rw [hw]; exact (Below.refl _ _).alloc (Nat.le_refl _) _
          have hgq : U.heap.size ≤ gq := by rw [hG]; exact bW.size
          have hne : gq ≠ gf := by have := kf.out.lt; omega
          replace bW := below_trans2 bW b
          refine hK _ _ bW ?_
          clear hK K
          have kq := Lib.hid (show Blk v36 gq 3 [.int .i64 (i : Int)] from by rw [hw, hG]; exact Blk.new _ _ _)
          clear hw hG
          replace kf := Lib.hid (kf.out.below b kf.out.lt)
          clear b
          refine wpPT_one rfl (by rfl) (fun K hK => ?_)
          go_simp
          obtain ⟨gl, hG⟩ : ∃ G, G = (World.heap v36).size := ⟨_, rfl⟩
          obtain ⟨v37, hw⟩ : ∃ X : World, X = World.alloc v36 (.cells (zeros nw (.int .u64 0)) 99) := ⟨_, rfl⟩
          rw [← hw, ← hG]
          have b : Below (World.heap v36).size v36 v37 := by rw [hw]; exact (Below.refl _ _).alloc (Nat.le_refl _) _
          have hgl : U.heap.size ≤ gl := by rw [hG]; exact bW.size
          replace bW := below_trans2 bW b
          refine hK _ _ bW ?_
          clear hK K
          have kl := Lib.hid (show Blk v37 gl 99 (List.replicate nw (.int .u64 0)) from by rw [hw, hG]; exact Blk.new _ _ _)
          clear hw hG
          replace kf := Lib.hid (kf.out.below b kf.out.lt)
          replace kq := Lib.hid (kq.out.below b kq.out.lt)
          clear b
          iterate 1
            refine wpPT_float (v := ?_) rfl (by rfl) (fun w' hw' => ?_) (fun K hK => ?_)
            rotate_left
            · (go_simp; try with_reducible rfl)
            go_simp
            refine hK _ ?_
            clear hK K
          refine wpPT_one rfl (by rfl) (fun K hK => ?_)
          go_simp
          obtain ⟨gs, hG⟩ : ∃ G, G = (World.heap v37).size := ⟨_, rfl⟩
          obtain ⟨v38, hw⟩ : ∃ X : World, X = World.alloc v37 (.cells #[.slice A n c, .slice (some ⟨gq, 0, none⟩) 1 1, .slice (some ⟨gl, 0, none⟩) nw nw, .slice (some ⟨gf, 0, none⟩) n n] 83) := ⟨_, rfl⟩
          rw [← hw, ← hG]
          have b : Below (World.heap v37).size v37 v38 := by rw [hw]; exact (Below.refl _ _).alloc (Nat.le_refl _) _
          have hgs : U.heap.size ≤ gs := by rw [hG]; exact bW.size
          replace bW := below_trans2 bW b
          refine hK _ _ bW ?_
          clear hK K
          have ks := Lib.hid (show Blk v38 gs 83 [.slice A n c, .slice (some ⟨gq, 0, none⟩) 1 1, .slice (some ⟨gl, 0, none⟩) nw nw, .slice (some ⟨gf, 0, none⟩) n n] from by rw [hw, hG]; exact Blk.new _ _ _)
          clear hw hG
          replace kf := Lib.hid (kf.out.below b kf.out.lt)
          replace kq := Lib.hid (kq.out.below b kq.out.lt)
          replace kl := Lib.hid (kl.out.below b kl.out.lt)
          clear b
          iterate 1
            refine wpPT_float (v := ?_) rfl (by rfl) (fun w' hw' => ?_) (fun K hK => ?_)
            rotate_left
            · (go_simp; try with_reducible rfl)
            go_simp
            refine hK _ ?_
            clear hK K
          refine wpPT_done (NoPanic.normal ?_)
          exact key gq gl gf gs v38 ⟨kq.out, kl.out, kf.out, ks.out, hne, hgq, hgl, hgf, hgs, bW⟩
        · go_simp
          obtain ⟨gl, hG⟩ : ∃ G, G = (World.heap v32).size := ⟨_, rfl⟩
          obtain ⟨v39, hw⟩ : ∃ X : World, X = World.alloc v32 (.cells (zeros nw (.int .u64 0)) 99) := ⟨_, rfl⟩
          rw [← hw, ← hG]
          have b : Below (World.heap v32).size v32 v39 := by rw [hw]; exact (Below.refl _ _).alloc (Nat.le_refl _) _
          have hgl : U.heap.size ≤ gl := by rw [hG]; exact bW.size
          replace bW := below_trans2 bW b
          refine hK _ _ bW ?_
          clear hK K
          have kl := Lib.hid (show Blk v39 gl 99 (List.replicate nw (.int .u64 0)) from by rw [hw, hG]; exact Blk.new _ _ _)
          clear hw hG
          replace kf := Lib.hid (kf.out.below b kf.out.lt)
          clear b
          refine wpPT_one rfl (by rfl) (fun K hK => ?_)
          go_simp
          obtain ⟨gq, hG⟩ : ∃ G, G = (World.heap v39).size := ⟨_, rfl⟩
          obtain ⟨v40, hw⟩ : ∃ X : World, X = World.alloc v39 (.cells #[.int .i64 (i : Int)] 3) := ⟨_, rfl⟩
          rw [← hw, ← hG]
          have b : Below (World.heap v39).size v39 v40 := by rw [hw]; exact (Below.refl _ _).alloc (Nat.le_refl _) _
          have hgq : U.heap.size ≤ gq := by rw [hG]; exact bW.size
          have hne : gq ≠ gf := by have := kf.out.lt; omega
          replace bW := below_trans2 bW b
          refine hK _ _ bW ?_
          clear hK K
          have kq := Lib.hid (show Blk v40 gq 3 [.int .i64 (i : Int)] from by rw [hw, hG]; exact Blk.new _ _ _)
          clear hw hG
          replace kf := Lib.hid (kf.out.below b kf.out.lt)
          replace kl := Lib.hid (kl.out.below b kl.out.lt)
          clear b
          iterate 1
            refine wpPT_float (v := ?_) rfl (by rfl) (fun w' hw' => ?_) (fun K hK => ?_)
            rotate_left
            · (go_simp; try with_reducible rfl)
            go_simp
            refine hK _ ?_
            clear hK K
          refine wpPT_one rfl (by rfl) (fun K hK => ?_)
          go_simp
          obtain ⟨gs, hG⟩ : ∃ G, G = (World.heap v40).size := ⟨_, rfl⟩
          obtain ⟨v41, hw⟩ : ∃ X : World, X = World.alloc v40 (.cells #[.slice A n c, .slice (some ⟨gq, 0, none⟩) 1 1, .slice (some ⟨gl, 0, none⟩) nw nw, .slice (some ⟨gf, 0, none⟩) n n] 83) := ⟨_, rfl⟩
          rw [← hw, ← hG]
          have b : Below (World.heap v40).size v40 v41 := by rw [hw]; exact (Below.refl _ _).alloc (Nat.le_refl _) _
          have hgs : U.heap.size ≤ gs := by rw [hG]; exact bW.size
          replace bW := below_trans2 bW b
          refine hK _ _ bW ?_
          clear hK K
          have ks := Lib.hid (show Blk v41 gs 83 [.slice A n c, .slice (some ⟨gq, 0, none⟩) 1 1, .slice (some ⟨gl, 0, none⟩) nw nw, .slice (some ⟨gf, 0, none⟩) n n] from by rw [hw, hG]; exact Blk.new _ _ _)
          clear hw hG
          replace kf := Lib.hid (kf.out.below b kf.out.lt)
          replace kl := Lib.hid (kl.out.below b kl.out.lt)
          replace kq := Lib.hid (kq.out.below b kq.out.lt)
          clear b
          iterate 1
            refine wpPT_float (v := ?_) rfl (by rfl) (fun w' hw' => ?_) (fun K hK => ?_)
            rotate_left
            · (go_simp; try with_reducible rfl)
            go_simp
            refine hK _ ?_
            clear hK K
          refine wpPT_done (NoPanic.normal ?_)
          exact key gq gl gf gs v41 ⟨kq.out, kl.out, kf.out, ks.out, hne, hgq, hgl, hgf, hgs, bW⟩
  · intro gq gl gf gs w9 hF
    obtain ⟨kq, kl, kf, ks, hne, hgq, hgl, hgf, hgs, bW9⟩ := hF
    have hwu := hbU.out.size
    have hS0 : SrS w gs gl gf n nw A c (.slice (some ⟨gq, 0, none⟩) 1 1) (leftK n nw 0) (List.replicate n 0) [i] w9 :=
      { s := ks
        q := ⟨gq, 0, 1, #[.int .i64 (i : Int)], rfl, by omega, kq, Nat.le_refl _, by unfold maxLen; omega, by simp, fun j z hj => by
          match j, hj with
          | 0, hj => simp at hj; subst hj; rfl
          | j + 1, hj => simp at hj⟩
        l := by rw [leftK_zero]; simpa [u64v] using kl
        f := by simpa [natv] using kf
        nf := fun e => hne (by simpa [Value.ownBlock] using e)
        bg := by omega
        bl := by omega
        bf := by omega
        bel := below_trans2 hbU.out bW9 }
    have hS := Lib.hid hS0
    have hM := Lib.hid (hMU.out.below bW9)
    clear kq kl kf ks hne hgq hgl hgf hgs hwu bW bW9 hS0
    obtain ⟨s0, s1, s2, s3⟩ := hS.out.cells
    clear mk64 mki
    go_wp2_with fail
    clear s0 s1 s2 s3
    go_loopw [25] (fun t wr => ∃ k : Nat, k ≤ nw ∧ t = .int .i64 (k : Int) ∧ Hid (SrS w gs gl gf n nw A c (.slice (some ⟨gq, 0, none⟩) 1 1) (leftK n nw k) (List.replicate n 0) [i] wr) ∧ Hid (MatK wr g 39 (n : Int) A n c a)) (fun t _ => nw - (intOf t).toNat)
    case atStart => exact ⟨0, Nat.zero_le _, rfl, hS, hM⟩
    case round =>
      clear hS hM
      obtain ⟨k, hk, rfl, hS, hM⟩ := hrel
      by_cases hkn : k < nw
      · have h64 := hw64.2 k hkn
        obtain ⟨q, hq⟩ : ∃ q, q = min (n - 64 * k) 64 := ⟨_, rfl⟩
        obtain ⟨z, hz⟩ : ∃ z : Int, z = (n : Int) - (k : Int) * 64 := ⟨_, rfl⟩
        have hlow := Lib.hid (fun W => word_Low z (by omega) (by omega) W)
        rw [lowZ_pos (q := q) (by omega) (by omega)] at hlow
        have hset := Lib.hid (leftK_set n nw k)
        rw [← hq] at hset
        obtain ⟨y, hy⟩ : ∃ y, (leftK n nw k)[k]? = some y := ⟨_, List.getElem?_eq_getElem (by rw [leftK_len]; exact hkn)⟩
        have hbk : 0 ≤ (k : Int) ∧ (k : Int) < (nw : Int) := by omega
        have hw1 := Lib.hid (show IntKind.i64.wrap ((k : Int) * 64) = (k : Int) * 64 from by rw [IntKind.wrap_i64]; omega)
        have hw2 := Lib.hid (show IntKind.i64.wrap ((n : Int) - (k : Int) * 64) = z from by rw [IntKind.wrap_i64]; omega)
        replace hz := Lib.hid hz
        replace hq := Lib.hid hq
        replace hy := Lib.hid hy
        replace hkn := Lib.hid hkn
        replace hw64 := Lib.hid hw64
        go_wp2_with fail
        refine wp_region_plan 12 [(true, 0), (true, 1), (true, 2), (true, 3), (true, 4), (true, 5), (true, 6), (true, 7), (true, 8), (true, 9), (false, 10), (true, 11)] (by kernel_rfl) (by kernel_rfl) (fun X hX => ?_)
        have hSX := Lib.hid (show SrS w gs gl gf n nw A c (.slice (some ⟨gq, 0, none⟩) 1 1) (leftK n nw k) (List.replicate n 0) [i] X from by rw [hX.out]; exact hS.out.later (Below.refl _ _).drew)
        have hMX := Lib.hid (show MatK X g 39 (n : Int) A n c a from by rw [hX.out]; exact hM.out.drew)
        clear hX hS hM
        obtain ⟨s0, s1, s2, s3⟩ := hSX.out.cells
        have m0 := hMX.out.1.c0
        have cL : X.cell? ⟨gl, k, none⟩ = some (.int .u64 (y : Int)) := by rw [Blk.cell hSX.out.l k, List.getElem?_map, hy.out]; rfl
        have fL := Blk.frozen hSX.out.l k
        simp only [List.drop_succ_cons]
        iterate 10
          refine wpPlan_float (v := ?_) rfl (by rfl) (fun w' hw' => ?_) (fun K hK => ?_)
          rotate_left
          · (go_simp; try with_reducible rfl)
          go_simp
          refine hK _ ?_
          clear hK K
        rw [hw1.out, hw2.out]
        refine wpPlan_only rfl (by rfl) (fun K hK => ?_)
        go_simp
        refine (hlow.out X).mono ?_
        rintro e x1 ⟨rfl, rfl⟩
        refine hK _ _ (Below.refl _ _) ?_
        clear hK K
        iterate 1
          refine wpPlan_float (v := ?_) rfl (by rfl) (fun w' hw' => ?_) (fun K hK => ?_)
          rotate_left
          · (go_simp; try with_reducible rfl)
          go_simp
          refine hK _ ?_
          clear hK K
        obtain ⟨Y, hY⟩ : ∃ Y, Y = X.setCell ⟨gl, k, none⟩ (.int .u64 ((2 ^ q - 1 : Nat) : Int)) := ⟨_, rfl⟩
        have hSY := Lib.hid (show SrS w gs gl gf n nw A c (.slice (some ⟨gq, 0, none⟩) 1 1) (leftK n nw (k + 1)) (List.replicate n 0) [i] Y from by rw [hY, ← hset.out]; exact hSX.out.setL k _)
        have hMY := Lib.hid (show MatK Y g 39 (n : Int) A n c a from by rw [hY]; exact ⟨Blk.far hMX.out.1 (show g ≠ gl from Blk.type_ne hMX.out.1 hSX.out.l (by decide)) _, hr.below (hSX.out.bel.setCell hSX.out.bl _)⟩)
        refine wpPlan_nil ?_
        go_wp2_with (rw [← hY]; clear hY)
        refine NoPanic.normal ?_
        clear s0 s1 s2 s3 m0 cL fL hSX hMX
        go_wp2_with fail
        go_roundw
        case rel => exact ⟨k + 1, by have := hkn.out; omega, by go_num, hSY, hMY⟩
        case measure => simp [intOf]; have := hkn.out; omega
      · obtain rfl : k = nw := by omega
        obtain ⟨s0, s1, s2, s3⟩ := hS.out.cells
        go_wp2_with fail
        go_ret
        exact ⟨gs, gl, gf, _, rfl, hS.out⟩
end Go.Proofs.Ytfeomhoicnjgpaa

namespace Go.Proofs.Ytfeomhoicnjgpaa
open Go.RowKit
set_option linter.unusedVariables false

end Go.Proofs.Ytfeomhoicnjgpaa

namespace Go.Proofs.Ytfeomhoicnjgpaa
open Go.RowKit
set_option linter.unusedVariables false

theorem ref3_HasG (A : Option Addr) (n c : Nat) (a : List (List Nat)) (hG : Good n a) (i j : Int) (w : World) (hr : RowsAt w A n a) :
    Calls Try.prog 25 #[.agg #[.int .i64 (n : Int), .slice A n c], .int .i64 i, .int .i64 j] w (RetB (hasM a i j) w) := by
  have h := ref3_Has A n c a i j w hr hG.le (fun k xs hx => by have := hG.small xs (List.mem_of_getElem? hx); omega)
  rwa [hG.in_has] at h

end Go.Proofs.Ytfeomhoicnjgpaa

namespace Go.Proofs.Ytfeomhoicnjgpaa
open Go.RowKit
set_option linter.unusedVariables false
/-- are some numbers a path? -/
def pathB (a : List (List Nat)) (l : List Int) : Bool := (List.range (l.length - 1)).all (fun q => hasM a (l.getD q 0) (l.getD (q + 1) 0)) && decide (2 ≤ l.length)
theorem pathB_yes {a : List (List Nat)} {l : List Int} (h : ∀ q, q + 1 < l.length → hasM a (l.getD q 0) (l.getD (q + 1) 0) = true) : pathB a l = decide (2 ≤ l.length) := by
  unfold pathB
  rw [List.all_eq_true.2 (fun q hq => h q (by have := List.mem_range.1 hq; omega)), Bool.true_and]
theorem pathB_no {a : List (List Nat)} {l : List Int} {q : Nat} (hq : q + 1 < l.length) (h : hasM a (l.getD q 0) (l.getD (q + 1) 0) = false) : pathB a l = false := by
  unfold pathB
  have : (List.range (l.length - 1)).all (fun q => hasM a (l.getD q 0) (l.getD (q + 1) 0)) = false := by
    rw [List.all_eq_false]
    exact ⟨q, List.mem_range.2 (by omega), by rw [h]; simp⟩
  rw [this, Bool.false_and]
theorem getD_of {l : List Int} {q : Nat} {z : Int} (h : l[q]? = some z) : l.getD q 0 = z := by rw [List.getD_eq_getElem?_getD, h]; rfl
set_option maxRecDepth 100000 in
set_option maxHeartbeats 2000000 in
theorem ref14_Is (A : Option Addr) (n c : Nat) (a : List (List Nat)) (D : Option Addr) (m d : Nat) (l : List Int) (w : World) (hr : RowsAt w A n a) (hG : Good n a) (hL : LAt encI w D m l) (hm : m ≤ 1048576) :
    Calls Try.prog 24 #[.agg #[.int .i64 (n : Int), .slice A n c], .slice D m d] w (RetB (pathB a l) w) := by
  have hnn := hG.le
  -- a call with the matrix (A n c a): it is boxed at g, the world is W0 then
  have hM0 := Lib.hid (MatK.new (N := (n : Int)) (c := c) w 39 hr)
  obtain ⟨g, hg⟩ : ∃ g, g = w.heap.size := ⟨_, rfl⟩
  obtain ⟨W0, hW0⟩ : ∃ W, W = w.alloc (.cells #[.int .i64 (n : Int), .slice A n c] 39) := ⟨_, rfl⟩
  rw [← hW0, ← hg] at hM0
  have hbo := Lib.hid (show Below w.heap.size w W0 from by rw [hW0]; exact below_alloc _ _)
  have hll := Lib.hid hL.len
  replace hL := Lib.hid (hL.below hbo.out)
  go_enter Try.func24, Try.ntmps24
  go_wp2_with (rw [← hW0, ← hg]; clear hW0 hg)
  go_loopw [5] (fun t wr => ∃ k : Nat, k ≤ m ∧ t = .int .i64 (k : Int) ∧ Hid (∀ q, q < k → q + 1 < m → hasM a (l.getD q 0) (l.getD (q + 1) 0) = true) ∧ Hid (Below W0.heap.size W0 wr)) (fun t _ => m - (intOf t).toNat)
  case atStart => exact ⟨0, Nat.zero_le _, rfl, Lib.hid (fun q h => by omega), Lib.hid (Below.refl _ _)⟩
  case round =>
    obtain ⟨k, hk, rfl, hall, hb⟩ := hrel
    have hM := Lib.hid (hM0.out.below hb.out)
    have hLr := hL.out.below hb.out
    have hw1 : wrap64 ((k : Int) + 1) = (k : Int) + 1 := by unfold wrap64; omega
    by_cases hlt : k + 1 < m
    · have hlt' : (k : Int) + 1 < (m : Int) := by omega
      obtain ⟨lb, lo, z, hD, hlb, hz, zok, j0⟩ := hLr.int (show k < m by omega)
      obtain ⟨lb2, lo2, z2, hD2, hlb2, hz2, zok2, j1⟩ := hLr.int hlt
      subst hD
      injection hD2 with hD2
      injection hD2 with hD1 hD2
      subst hD1; subst hD2
      have hH := ref3_HasG A n c a hG z z2
      have hzz : Hid (l.getD k 0 = z ∧ l.getD (k + 1) 0 = z2) := Lib.hid ⟨getD_of hz, getD_of hz2⟩
      obtain ⟨ki, hki⟩ : ∃ ki : Int, ki = (k : Int) + 1 := ⟨_, rfl⟩
      have hkt : ki.toNat = k + 1 := by omega
      rw [← hkt] at j1
      rw [← hki] at hw1 hlt'
      have bk : 0 ≤ (k : Int) ∧ (k : Int) < (m : Int) := by omega
      have bi : 0 ≤ ki ∧ ki < (m : Int) := by omega
      have hwi : IntKind.i64.wrap ((k : Int) + 1) = ki := by rw [IntKind.wrap_i64]; omega
      have hki2 : (k : Int) + 1 = ki := hki.symm
      have hwi2 : IntKind.i64.wrap ki = ki := by rw [IntKind.wrap_i64]; omega
      clear hz hz2 hlb hlb2 hki
      replace hlt := Lib.hid hlt
      replace hkt := Lib.hid hkt
      go_wp2_with fail
      refine wp_region_plan 12 [(true, 0), (true, 1), (true, 2), (true, 3), (true, 4), (true, 5), (true, 6), (true, 7), (true, 8), (true, 9), (false, 10), (true, 11)] (by kernel_rfl) (by kernel_rfl) (fun X hX => ?_)
      have hX' : Below wr.heap.size wr X := by rw [hX.out]; exact (Below.refl _ _).drew
      replace hM := Lib.hid (hM.out.below hX')
      replace hb := Lib.hid (below_trans2 hb.out hX')
      replace j0 : X.cell? ⟨lb, lo + k, none⟩ = some (.int .i64 z) := by rw [hX.out]; exact j0
      replace j1 : X.cell? ⟨lb, lo + ki.toNat, none⟩ = some (.int .i64 z2) := by rw [hX.out]; exact j1
      clear hX hX' hLr
      have m0 := hM.out.1.c0
      have m1 := hM.out.1.c1
      simp only [List.drop_succ_cons, List.drop_nil]
      iterate 10
        refine wpPlan_float (v := ?_) rfl (by rfl) (fun w' hw' => ?_) (fun K hK => ?_)
        rotate_left
        · (go_simp; try with_reducible rfl)
        go_simp
        refine hK _ ?_
        clear hK K
      clear m0 m1 j0 j1
      have cH := hH X hM.out.2
      cases hz : hasM a z z2 with
      | true =>
        rw [hz] at cH
        replace cH := Lib.hid cH
        replace hz := Lib.hid hz
        refine wpPlan_only rfl (by rfl) (fun K hK => ?_)
        go_simp
        refine cH.out.mono ?_
        rintro e x1 ⟨rfl, b⟩
        refine hK _ _ b ?_
        clear hK K
        replace hb := Lib.hid (below_trans2 hb.out b)
        clear b
        iterate 1
          refine wpPlan_float (v := ?_) rfl (by rfl) (fun w' hw' => ?_) (fun K hK => ?_)
          rotate_left
          · (go_simp; try with_reducible rfl)
          go_simp
          refine hK _ ?_
          clear hK K
        refine wpPlan_nil (NoPanic.normal ?_)
        go_wp2_with fail
        refine ⟨⟨k + 1, by have := hlt.out; omega, by have := hkt.out; (try go_num), Lib.hid (fun q h1 h2 => ?_), hb⟩, by have := hlt.out; have := hkt.out; simp [intOf] <;> omega⟩
        rcases Nat.lt_or_ge q k with h3 | h3
        · exact hall.out q h3 h2
        · obtain rfl : q = k := by omega
          rw [hzz.out.1, hzz.out.2]; exact hz.out
      | false =>
        rw [hz] at cH
        have hno : pathB a l = false := pathB_no (q := k) (by rw [hll.out]; exact hlt.out) (by rw [hzz.out.1, hzz.out.2]; exact hz)
        replace cH := Lib.hid cH
        replace hno := Lib.hid hno
        clear hz
        refine wpPlan_only rfl (by rfl) (fun K hK => ?_)
        go_simp
        refine cH.out.mono ?_
        rintro e x1 ⟨rfl, b⟩
        refine hK _ _ b ?_
        clear hK K
        replace hb := Lib.hid (below_trans2 hb.out b)
        clear b
        iterate 1
          refine wpPlan_float (v := ?_) rfl (by rfl) (fun w' hw' => ?_) (fun K hK => ?_)
          rotate_left
          · (go_simp; try with_reducible rfl)
          go_simp
          refine hK _ ?_
          clear hK K
        refine wpPlan_nil (NoPanic.normal ?_)
        go_wp2_with fail
        go_ret
        exact ⟨by rw [hno.out]; rfl, below_trans2 hbo.out hb.out⟩
    · have hlt' : ¬ (k : Int) + 1 < (m : Int) := by omega
      have hyes := pathB_yes (a := a) (l := l) (fun q h => hall.out q (by rw [hll.out] at h; omega) (by rw [← hll.out]; exact h))
      rw [hll.out] at hyes
      obtain ⟨ki, hki⟩ : ∃ ki : Int, ki = (k : Int) + 1 := ⟨_, rfl⟩
      rw [← hki] at hw1 hlt'
      have hki2 : (k : Int) + 1 = ki := hki.symm
      by_cases h2 : 2 ≤ m
      · have d2 : decide ((2 : Int) ≤ (m : Int)) = true := decide_eq_true (by omega)
        rw [decide_eq_true h2] at hyes
        replace hyes := Lib.hid hyes
        replace hki := Lib.hid hki
        clear hlt hLr h2
        go_wp2_with fail
        go_ret
        exact ⟨by rw [hyes.out]; rfl, below_trans2 hbo.out hb.out⟩
      · have d2 : decide ((2 : Int) ≤ (m : Int)) = false := decide_eq_false (by omega)
        rw [decide_eq_false h2] at hyes
        replace hyes := Lib.hid hyes
        replace hki := Lib.hid hki
        clear hlt hLr h2
        go_wp2_with fail
        go_ret
        exact ⟨by rw [hyes.out]; rfl, below_trans2 hbo.out hb.out⟩
end Go.Proofs.Ytfeomhoicnjgpaa

namespace Go.Proofs.Ytfeomhoicnjgpaa
open Go.RowKit
set_option linter.unusedVariables false
section
variable {W0 wr w' : World} {g1 n : Nat} {ds : List Int}
end
section
variable {r : Nat → Nat → Prop} {j s n x k : Nat} {ds : List Int}
end
end Go.Proofs.Ytfeomhoicnjgpaa

namespace Go.Proofs.Ytfeomhoicnjgpaa
open Go.RowKit
set_option linter.unusedVariables false
def natI (l : List Nat) : List Int := l.map fun (x : Nat) => (x : Int)
theorem natI_len (l : List Nat) : (natI l).length = l.length := List.length_map _
/-- what is answered when a path is asked for -/
def PathIs (r : Nat → Nat → Prop) (n : Nat) (i j : Int) (l : List Int) (ok : Bool) : Prop :=
  (ok = false ∧ l = [] ∧ ∀ x y : Nat, i = (x : Int) → j = (y : Int) → x < n → y < n → ¬ Conn r x y) ∨ (ok = true ∧ ∃ (x y : Nat) (rest : List Nat), i = (x : Int) ∧ j = (y : Int) ∧ x < n ∧ y < n ∧ First r x y rest ∧ l = natI (x :: rest))
def RetPath (r : Nat → Nat → Prop) (n : Nat) (i j : Int) (w : World) (e : Ending) (w' : World) : Prop :=
  ∃ (D : Option Addr) (m c : Nat) (l : List Int) (ok : Bool), e = .returned (.tuple #[.slice D m c, .bool ok]) ∧ LAt encI w' D m l ∧ m ≤ c ∧ c ≤ 9223372036854775807 ∧ PathIs r n i j l ok ∧ Below w.heap.size w w'
end Go.Proofs.Ytfeomhoicnjgpaa

namespace Go.Proofs.Ytfeomhoicnjgpaa
open Go.RowKit
set_option linter.unusedVariables false
/-- back at number k, behind which rest stands -/
def WalkI (x : Nat) (T : Nat → Prop) (p : Nat → List Nat) (l : List Nat) (k : Nat) (rest : List Nat) : Prop :=
  (k = x ∧ l = rest) ∨ (T k ∧ k ≠ x ∧ l = p k ++ rest)
section
variable {n x : Nat} {T : Nat → Prop} {fs : List Nat} {p : Nat → List Nat} {l rest : List Nat} {k y : Nat}
theorem WalkI.step (hw : WayOk n x T fs p) (hy : T y) (hl : l = p y ++ rest) : WalkI x T p l (fs.getD y 0) (y :: rest) := by
  rcases hw.from_ y hy with ⟨h1, h2⟩ | ⟨h1, h2, h3⟩
  · exact .inl ⟨h1, by rw [hl, h2]; rfl⟩
  · refine .inr ⟨h1, h2, ?_⟩
    rw [hl, h3]; simp
def walkM (x : Nat) (p : Nat → List Nat) (k : Nat) : Nat := if k = x then 0 else (p k).length
theorem WalkI.less (hw : WayOk n x T fs p) (hy : T y) (hne : y ≠ x) : walkM x p (fs.getD y 0) < walkM x p y := by
  unfold walkM
  rw [if_neg hne]
  rcases hw.from_ y hy with ⟨h1, h2⟩ | ⟨h1, h2, h3⟩
  · have h1 : fs.getD y 0 = x := h1
    rw [if_pos h1, h2]; simp
  · have h2 : fs.getD y 0 ≠ x := h2
    rw [if_neg h2, h3]
    simp
theorem WayOk.at_ (hw : WayOk n x T fs p) (hy : T y) : ∃ z, fs[y]? = some z ∧ fs.getD y 0 = z ∧ z < n := by
  have h1 : y < fs.length := by rw [hw.fl]; exact hw.lt y hy
  refine ⟨fs[y], List.getElem?_eq_getElem h1, ?_, hw.fb _ (List.getElem_mem h1)⟩
  rw [List.getD_eq_getElem?_getD, List.getElem?_eq_getElem h1]; rfl
theorem natI_cells (l : List Nat) : encI.all (natI l) = l.map natv := by
  induction l with
  | nil => rfl
  | cons a l ih =>
    show encI.cells (a : Int) ++ encI.all (natI l) = _
    rw [ih]; rfl
/-- the numbers from k on, zeros ahead -/
def fillL (ys : List Nat) (k : Nat) : List Nat := List.replicate k 0 ++ ys.drop k
theorem fillL_len {ys : List Nat} {k : Nat} (hk : k ≤ ys.length) : (fillL ys k).length = ys.length := by
  unfold fillL; rw [List.length_append, List.length_replicate, List.length_drop]; omega
theorem fillL_all (ys : List Nat) : fillL ys 0 = ys := rfl
theorem fillL_at {ys : List Nat} {k : Nat} (hk : k < ys.length) : (fillL ys k)[k]? = some (ys.getD k 0) := by
  unfold fillL
  rw [List.getElem?_append_right (by simp), List.length_replicate, Nat.sub_self, List.getElem?_drop, Nat.add_zero, List.getD_eq_getElem?_getD, List.getElem?_eq_getElem hk]; rfl
theorem fillL_set {ys : List Nat} {k : Nat} (hk : k < ys.length) : (fillL ys (k + 1)).set k (ys.getD k 0) = fillL ys k := by
  unfold fillL
  have hd : ys.drop k = ys.getD k 0 :: ys.drop (k + 1) := by
    rw [List.drop_eq_getElem_cons hk, List.getD_eq_getElem?_getD, List.getElem?_eq_getElem hk]; rfl
  rw [hd, List.replicate_succ', List.append_assoc, List.set_append_right _ _ (by simp)]
  simp
theorem fillL_none (ys : List Nat) : fillL ys ys.length = List.replicate ys.length 0 := by unfold fillL; simp
end
/-- a call that answers a path -/
def RetWay (l : List Nat) (w : World) (e : Ending) (w' : World) : Prop := ∃ (D : Option Addr) (m c : Nat), e = .returned (.slice D m c) ∧ LAt encI w' D m (natI l) ∧ m ≤ c ∧ c ≤ 9223372036854775807 ∧ Below w.heap.size w w'
set_option maxRecDepth 100000 in
set_option maxHeartbeats 4000000 in
theorem path_way (w0 : World) (g gl gf n nw : Nat) (A : Option Addr) (c : Nat) (v : Value) (ls fs zs : List Nat) (x j : Nat) (T : Nat → Prop) (p : Nat → List Nat) (w : World) (h : SrS w0 g gl gf n nw A c v ls fs zs w) (hw : WayOk n x T fs p) (hj : T j) (hn : n ≤ 4096) :
    Calls Try.prog 45 #[.pointer (some ⟨g, 0, none⟩), .int .i64 (x : Int), .int .i64 (j : Int)] w (RetWay (x :: p j) w) := by
  obtain ⟨s0, s1, s2, s3⟩ := h.cells
  obtain ⟨z, hz, hz2, hzn⟩ := hw.at_ hj
  have cz : w.cell? ⟨gf, j, none⟩ = some (.int .i64 (z : Int)) := by rw [Blk.cell h.f j, List.getElem?_map, hz]; rfl
  have hjn : 0 ≤ (j : Int) ∧ (j : Int) < (n : Int) := by have := hw.lt j hj; omega
  have hI0 := Lib.hid (WalkI.step (l := p j) (rest := []) hw hj (List.append_nil _).symm)
  rw [hz2] at hI0
  have hpl := hw.len j hj
  have hback := Lib.hid (hw.from_.back (p j).length j (Nat.le_refl _) hj)
  have hlast := Lib.hid (hw.from_.last hj)
  have hS := Lib.hid h
  replace hw := Lib.hid hw
  replace hj := Lib.hid hj
  replace hz := Lib.hid hz
  replace hz2 := Lib.hid hz2
  clear h
  go_enter Try.func45, Try.ntmps45
  go_wp2_with fail
  clear cz
  go_loopw [7, 8] (fun t u wr => ∃ (M kz : Nat) (rest : List Nat), t = .int .i64 (M : Int) ∧ u = .int .i64 (kz : Int) ∧ Hid (M = rest.length + 1) ∧ kz < n ∧ Hid (WalkI x T p (p j) kz rest) ∧ wr = w) (fun _ u _ => walkM x p (intOf u).toNat)
  case atStart => exact ⟨2, z, [j], rfl, rfl, Lib.hid rfl, hzn, hI0, rfl⟩
  case round =>
    clear hI0 hzn
    obtain ⟨M, kz, rest, rfl, rfl, hM, hkz, hI, rfl⟩ := hrel
    by_cases hkx : kz = x
    · subst hkx
      obtain ⟨Wo, rfl⟩ : ∃ Wo, Wo = wr := ⟨_, rfl⟩
      have hne : ((kz : Int) != (kz : Int)) = false := by simp
      obtain he : p j = rest := by
        rcases hI.out with ⟨_, h1⟩ | ⟨_, h1, _⟩
        · exact h1
        · exact absurd rfl h1
      have hMl : (kz :: p j).length = M := by rw [he, hM.out]; rfl
      have hM1 : 1 ≤ M := by have := hM.out; omega
      have hMb : M ≤ 4097 := by rw [← hMl, List.length_cons]; omega
      have hmk := mk_int .i64 .i64 M M (Nat.le_refl _) (by omega)
      obtain ⟨gr, hgr⟩ : ∃ G, G = Wo.heap.size := ⟨_, rfl⟩
      obtain ⟨V, hV⟩ : ∃ V, V = Wo.alloc (.cells (zeros M (.int .i64 0)) 3) := ⟨_, rfl⟩
      have hB : Blk V gr 3 (List.replicate M (.int .i64 0)) := by rw [hV, hgr]; exact Blk.new _ _ _
      have bV := Lib.hid (show Below Wo.heap.size Wo V from by rw [hV]; exact below_alloc _ _)
      have hM0 : 0 ≤ (M : Int) - 1 ∧ (M : Int) - 1 < (M : Int) := by omega
      obtain ⟨K, hK⟩ : ∃ K, M = K + 1 := ⟨M - 1, by omega⟩
      have cM : V.cell? ⟨gr, M - 1, none⟩ = some (.int .i64 0) := by rw [Blk.cell hB, List.getElem?_replicate, if_pos (by omega)]
      have fM := Blk.frozen hB (M - 1)
      have hys := Lib.hid (show (kz :: p j).getD K 0 = j from by
        have h1 := hlast.out.2
        rw [show (p j).length = K by rw [List.length_cons] at hMl; omega] at h1
        exact h1)
      replace he := Lib.hid he
      replace hMl := Lib.hid hMl
      replace hK := Lib.hid hK
      replace hB := Lib.hid hB
      go_wp2_with (rw [← hV, ← hgr]; clear hV; replace hgr := Lib.hid hgr)
      have hB1 := Lib.hid (show Blk (V.setCell ⟨gr, M - 1, none⟩ (.int .i64 (j : Int))) gr 3 ((fillL (kz :: p j) K).map natv) from by
        have h1 := hB.out.set_ (M - 1) (.int .i64 (j : Int))
        have h2 : (List.replicate M (Value.int .i64 0)).set (M - 1) (.int .i64 (j : Int)) = (fillL (kz :: p j) K).map natv := by
          have e1 : M - 1 = K := by have := hK.out; omega
          have hl : (kz :: p j).length = K + 1 := by rw [hMl.out]; exact hK.out
          rw [e1, ← fillL_set (by omega), hys.out, ← hl, fillL_none, hl, List.map_set, hK.out]
          simp [natv]
        rw [h2] at h1
        exact h1)
      have bW := Lib.hid (show Below Wo.heap.size Wo (V.setCell ⟨gr, M - 1, none⟩ (.int .i64 (j : Int))) from bV.out.setCell (show Wo.heap.size ≤ gr by rw [hgr.out]; exact Nat.le_refl _) _)
      obtain ⟨X, hX⟩ : ∃ X, X = V.setCell ⟨gr, M - 1, none⟩ (.int .i64 (j : Int)) := ⟨_, rfl⟩
      rw [← hX] at hB1 bW ⊢
      have hK2 : (M : Int) - 1 = (K : Int) := by have := hK.out; omega
      rw [hK2]
      clear hX hB bV cM fM hmk hM0 hK2 s0 s1 s2 s3
      go_loopw [10] (fun t wi => ∃ k : Nat, k ≤ K ∧ t = .int .i64 (k : Int) ∧ Hid (Blk wi gr 3 ((fillL (kz :: p j) k).map natv)) ∧ Hid (Below Wo.heap.size Wo wi)) (fun t _ => (intOf t).toNat)
      case atStart => exact ⟨K, Nat.le_refl _, rfl, hB1, bW⟩
      case round =>
        clear hB1 bW
        obtain ⟨k, hk, rfl, hB, hb⟩ := hrel
        have hgr2 : Wo.heap.size ≤ gr := by rw [hgr.out]; exact Nat.le_refl _
        cases k with
        | zero =>
          have hL : Hid (LAt encI wr (some ⟨gr, 0, none⟩) M (natI (kz :: p j))) := Lib.hid (LAt.of_blk (E := encI) (by
            have h1 := hB.out
            rw [fillL_all] at h1
            rw [natI_cells]; exact h1) (fun z hz => by
              obtain ⟨y, hy, rfl⟩ := List.mem_map.1 hz
              have : y < n := by
                rcases List.mem_cons.1 hy with rfl | hy
                · exact hkz
                · obtain ⟨q, hq, rfl⟩ := List.getElem_of_mem hy
                  have h3 := (hback.out q hq).1
                  rw [List.getD_eq_getElem?_getD, List.getElem?_eq_getElem hq] at h3
                  exact hw.out.lt _ h3
              show -9223372036854775808 ≤ (y : Int) ∧ (y : Int) < 9223372036854775808
              omega) (by rw [natI_len]; exact hMl.out))
          go_wp2_with fail
          go_ret
          exact ⟨some ⟨gr, 0, none⟩, M, M, rfl, hL.out, Nat.le_refl _, by omega, hb.out⟩
        | succ k =>
          have hkl : k < (p j).length := by have h1 := hMl.out; have h2 := hK.out; rw [List.length_cons] at h1; omega
          obtain ⟨y, hye⟩ : ∃ y, y = (kz :: p j).getD (k + 1) 0 := ⟨_, rfl⟩
          obtain ⟨u, hue⟩ : ∃ u, u = (kz :: p j).getD k 0 := ⟨_, rfl⟩
          have hbk := hback.out k hkl
          have hye2 : (p j).getD k 0 = y := by rw [hye]; rfl
          rw [hye2, ← hue] at hbk
          obtain ⟨u', hu1, hu2, hu3⟩ := hw.out.at_ hbk.1
          have hu4 : u' = u := by rw [← hu2]; exact hbk.2
          subst hu4
          have hyn : 0 ≤ (y : Int) ∧ (y : Int) < (n : Int) := by have := hw.out.lt y hbk.1; omega
          have hkM : 0 ≤ (k : Int) + 1 ∧ (k : Int) + 1 < (M : Int) := by have := hK.out; omega
          have hkM2 : 0 ≤ (k : Int) ∧ (k : Int) < (M : Int) := by omega
          have hML : (kz :: p j).length = M := hMl.out
          have hset := Lib.hid (fillL_set (ys := kz :: p j) (k := k) (by omega))
          rw [← hue] at hset
          have c1 : wr.cell? ⟨gr, k + 1, none⟩ = some (.int .i64 (y : Int)) := by rw [Blk.cell hB.out (k + 1), List.getElem?_map, fillL_at (by omega), ← hye]; rfl
          obtain ⟨q, hq⟩ : ∃ q, (fillL (kz :: p j) (k + 1))[k]? = some q := ⟨_, List.getElem?_eq_getElem (by rw [fillL_len (by omega)]; omega)⟩
          have c0 : wr.cell? ⟨gr, k, none⟩ = some (.int .i64 (q : Int)) := by rw [Blk.cell hB.out k, List.getElem?_map, hq]; rfl
          have hSr := Lib.hid (hS.out.later hb.out)
          have cy : wr.cell? ⟨gf, y, none⟩ = some (.int .i64 (u' : Int)) := by rw [Blk.cell hSr.out.f y, List.getElem?_map, hu1]; rfl
          have hwk : IntKind.i64.wrap (k : Int) = (k : Int) := by rw [IntKind.wrap_i64]; omega
          replace hye := Lib.hid hye
          replace hue := Lib.hid hue
          replace hye2 := Lib.hid hye2
          replace hbk := Lib.hid hbk
          replace hu1 := Lib.hid hu1
          replace hu2 := Lib.hid hu2
          replace hq := Lib.hid hq
          replace hkl := Lib.hid hkl
          replace hML := Lib.hid hML
          replace hgr2 := Lib.hid hgr2
          go_wp2_with fail
          refine wp_region_plan 14 [(true, 0), (true, 1), (true, 2), (true, 3), (true, 4), (true, 5), (true, 6), (true, 7), (true, 8), (true, 9), (true, 10), (true, 11), (true, 12), (true, 13)] (by kernel_rfl) (by kernel_rfl) (fun X hX => ?_)
          have hBX : Blk X gr 3 ((fillL (kz :: p j) (k + 1)).map natv) := by rw [hX.out]; exact hB.out.drew
          have hbX := Lib.hid (show Below Wo.heap.size Wo X from by rw [hX.out]; exact hb.out.drew)
          replace c0 : X.cell? ⟨gr, k, none⟩ = some (.int .i64 (q : Int)) := by rw [hX.out]; exact c0
          replace c1 : X.cell? ⟨gr, k + 1, none⟩ = some (.int .i64 (y : Int)) := by rw [hX.out]; exact c1
          replace cy : X.cell? ⟨gf, y, none⟩ = some (.int .i64 (u' : Int)) := by rw [hX.out]; exact cy
          have hSX := Lib.hid (hS.out.later hbX.out)
          obtain ⟨s0, s1, s2, s3⟩ := hSX.out.cells
          have fk := Blk.frozen hBX k
          have hB2 := Lib.hid (show Blk (X.setCell ⟨gr, k, none⟩ (.int .i64 (u' : Int))) gr 3 ((fillL (kz :: p j) k).map natv) from by
            have h1 := hBX.set_ k (.int .i64 (u' : Int))
            rw [← hset.out, List.map_set]; exact h1)
          have hb2 := Lib.hid (show Below Wo.heap.size Wo (X.setCell ⟨gr, k, none⟩ (.int .i64 (u' : Int))) from hbX.out.setCell hgr2.out _)
          obtain ⟨Y, hY⟩ : ∃ Y, Y = X.setCell ⟨gr, k, none⟩ (.int .i64 (u' : Int)) := ⟨_, rfl⟩
          rw [← hY] at hB2 hb2
          replace hBX := Lib.hid hBX
          clear hX hB hb
          simp only [List.drop_succ_cons]
          iterate 14
            refine wpPlan_float (v := ?_) rfl (by rfl) (fun w' hw' => ?_) (fun K hK => ?_)
            rotate_left
            · (go_simp; try with_reducible rfl)
            go_simp
            refine hK _ ?_
            clear hK K
          refine wpPlan_nil ?_
          go_wp2_with (rw [← hY]; clear hY)
          refine NoPanic.normal ?_
          clear c0 c1 cy s0 s1 s2 s3 fk
          go_wp2_with fail
          go_roundw
          case rel => exact ⟨k, by omega, rfl, hB2, hb2⟩
          case measure => simp [intOf]
    · have hne : ((kz : Int) != (x : Int)) = true := by rw [bne_iff_ne]; omega
      obtain ⟨hT, he⟩ : T kz ∧ p j = p kz ++ rest := by
        rcases hI.out with ⟨h1, _⟩ | ⟨h1, _, h2⟩
        · exact absurd h1 hkx
        · exact ⟨h1, h2⟩
      obtain ⟨y, hy, hy2, hyn⟩ := hw.out.at_ hT
      have cz : wr.cell? ⟨gf, kz, none⟩ = some (.int .i64 (y : Int)) := by rw [Blk.cell hS.out.f kz, List.getElem?_map, hy]; rfl
      have hkn : 0 ≤ (kz : Int) ∧ (kz : Int) < (n : Int) := by omega
      have hI2 := Lib.hid (WalkI.step (rest := rest) hw.out hT he)
      have hless := Lib.hid (WalkI.less hw.out hT hkx)
      rw [hy2] at hI2 hless
      have hMb : M ≤ 4097 := by
        have h1 := hM.out
        have h2 : (p j).length = (p kz).length + rest.length := by rw [he, List.length_append]
        omega
      replace hy := Lib.hid hy
      replace hy2 := Lib.hid hy2
      replace hT := Lib.hid hT
      replace he := Lib.hid he
      replace hkx := Lib.hid hkx
      go_wp2_with fail
      go_roundw
      case rel => exact ⟨M + 1, y, kz :: rest, by go_num, rfl, Lib.hid (by rw [hM.out]; rfl), hyn, hI2, trivial⟩
      case measure => simpa [intOf] using hless.out
end Go.Proofs.Ytfeomhoicnjgpaa
