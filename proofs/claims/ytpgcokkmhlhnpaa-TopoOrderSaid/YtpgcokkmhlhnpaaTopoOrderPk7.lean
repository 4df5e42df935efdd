/- The code's own contract of layer 15: Sort (the least number that may go is taken off a mask, counts tell when the next ones may). Layer 15's helpers: may, awake. Layer 15's law TopoOrder, walked. Arguments opened: a slice of pairs ('[][2]int'), and the rows of a matrix. An argument opened: a matrix, with its capacity. Arguments opened: a matrix by its cells, inside a struct. Arguments opened: a history (a slice of slices of operations), and what the bound of an '..Upto' statement says of it. Arguments opened: slices of anything that has an encoding; facts. An argument opened: a struct of a matrix, a number, a history, numbers, a number. -/
import Derived.Test.YtpgcokkmhlhnpaaTopoOrderPk6
import Derived.Test.YtpgcokkmhlhnpaaTopoOrderPk2
import Derived.Test.YtpgcokkmhlhnpaaTopoOrderPk3
import Derived.Test.YtpgcokkmhlhnpaaTopoOrderPk4
import Derived.Test.YtpgcokkmhlhnpaaTopoOrderPk5
import Derived.Test.YtpgcokkmhlhnpaaTopoOrderPk1
import Derived.Deep.Slices
import Derived.Deep.Matrix
import Derived.OpenShut
import Derived.ChangeArms
import Derived.Lib.SmallJoins
import Derived.Test.YtpgcokkmhlhnpaaRows
import Derived.WalkKit
import Derived.ProofKit
namespace Go.Proofs.Ytpgcokkmhlhnpaa
open Go.RowKit
set_option linter.unusedVariables false
theorem SortS.lens {r : Int → Int → Prop} {zs O L : List Int} (h : SortS r zs O L) : O.length + L.length = zs.length := by
  have := h.p.length_eq
  rwa [List.length_append] at this
/-- what is known at each round of Sort -/
def SortL (a : List (List Nat)) (n nw : Nat) (zs O L : List Int) (ms ns : List Nat) (css : List (List Nat)) (z : Int) (ok : Bool) : Prop :=
  (ok = true ∧ ∃ x : Nat, z = (x : Int) ∧ x < 64 * nw ∧ KahnT a n nw zs O L x ms ns css) ∨ (ok = false ∧ KahnS a n nw zs O L ms ns css ∧ ∀ j : Nat, hasR ns (j : Int) = false)
theorem SortL.of_take {w0 w w' : World} {g gm gn gc nw n c : Nat} {A : Option Addr} {a : List (List Nat)} {zs O L : List Int} {ms ns : List Nat} {css : List (List Nat)} {e : Ending} (hK : KahnS a n nw zs O L ms ns css) (h : RetTake w0 g gm gn gc nw A n c ms ns css w e w') :
    ∃ (z : Int) (ok : Bool) (ns' : List Nat), e = .returned (.tuple #[.int .i64 z, .bool ok]) ∧ SortL a n nw zs O L ms ns' css z ok ∧ QuS w0 g gm gn gc nw A n c ms ns' css w' ∧ OnlyAt gn w w' := by
  rcases h with ⟨h1, h2, h3, h4⟩ | ⟨x, ns', h1, h2, h3, h4, h5, h6, h7, h8, h9⟩
  · exact ⟨0, false, ns, h2, .inr ⟨rfl, hK, h1⟩, h3, h4⟩
  · exact ⟨x, true, ns', h7, .inl ⟨rfl, x, rfl, h6, hK.take h1 h2 h3 h4 h5⟩, h8, h9⟩
def lenT15 : Value → Nat | .slice _ n _ => n | _ => 0
theorem info_int15b : (Try.prog.info? 3).map (fun i => (i.zero, i.size, i.bytes)) = some (some (.int .i64 0), 1, 8) := by kernel_rfl
set_option maxRecDepth 100000 in
set_option maxHeartbeats 4000000 in
theorem topo_SortO (A : Option Addr) (n c : Nat) (a : List (List Nat)) (D : Option Addr) (m d : Nat) (zs : List Int) (w : World) (hr : RowsAt w A n a) (hG : Good n a) (hL : LAt encI w D m zs) (hm : m ≤ 1048576) :
    Calls Try.prog 18 #[.agg #[.int .i64 (n : Int), .slice A n c], .slice D m d] w (RetSortO (RelZ a) n zs w) := by
  have hn4 := hG.le
  obtain ⟨nw, hnw⟩ : ∃ nw, nw = (wordsZ (n : Int)).toNat := ⟨_, rfl⟩
  obtain ⟨hnz, hn1, hn2⟩ := words15 hnw
  have hml := Lib.hid hL.len
  have hzok := Lib.hid hL.okAll
  -- a call with the matrix (A n c a): it is boxed at g, the world is W0 then
  have hM0 := Lib.hid (MatK.new (N := (n : Int)) (c := c) w 39 hr)
  obtain ⟨g, hg⟩ : ∃ g, g = w.heap.size := ⟨_, rfl⟩
  obtain ⟨W0, hW0⟩ : ∃ W, W = w.alloc (.cells #[.int .i64 (n : Int), .slice A n c] 39) := ⟨_, rfl⟩
  rw [← hW0, ← hg] at hM0
  have hbo := Lib.hid (show Below w.heap.size w W0 from by rw [hW0]; exact below_alloc _ _)
  obtain ⟨i0, hi, hz0, hz1, hz2⟩ := info_parts info_int15b
  replace hi := Lib.hid hi
  replace hz0 := Lib.hid hz0
  replace hz1 := Lib.hid hz1
  replace hz2 := Lib.hid hz2
  have m0 := hM0.out.1.c0
  have m1 := hM0.out.1.c1
  have cO := Lib.hid (topo_once D m d zs n nw W0 (hL.below hbo.out) hm (by omega) hnw)
  have hMb := Lib.hid (show Blk W0 g 39 [.int .i64 (n : Int), .slice A n c] from hM0.out.1)
  replace hnz := Lib.hid hnz
  replace hnw := Lib.hid hnw
  replace hr := Lib.hid hr
  replace hG := Lib.hid hG
  replace hL := Lib.hid hL
  clear hM0
  go_enter Try.func18, Try.ntmps18
  go_wp2_with (rw [← hW0, ← hg]; clear hW0 hg)
  refine cO.out.mono ?_; rintro e w1 (⟨hF, gm, ms, rfl, hgm, hB1, hM1, b1⟩ | ⟨hF, rfl, b1⟩)
  · replace hF := Lib.hid hF
    have hbel := Lib.hid (below_trans2 hbo.out b1)
    have hMb1 := hMb.out.below b1 hMb.out.lt
    have hgm' := Lib.hid (show w.heap.size ≤ gm from Nat.le_trans hbo.out.size hgm)
    have cB := Lib.hid (topo_begin w gm nw A n c a D m d zs ms w1 hr.out hG.out hL.out hbel.out hB1 hgm'.out hM1 hF.out hnw.out)
    have q0 := Blk.cell hMb1 0
    have q1 := Blk.cell hMb1 1
    replace hM1 := Lib.hid hM1
    clear hB1 hMb1 hgm b1 cO m0 m1 hMb
    go_wp2_with fail
    refine cB.out.mono ?_; rintro e w2 ⟨gq, gn, gc, ns, css, rfl, hS, hK⟩
    clear q0 q1 cB hbel
    have mki := mk_int .i64 .i64 0 m (Nat.zero_le _) (by omega)
    rw [show ((0 : Nat) : Int) = 0 from rfl] at mki
    obtain ⟨go, hgo⟩ : ∃ G, G = w2.heap.size := ⟨_, rfl⟩
    obtain ⟨W3, hW3⟩ : ∃ W, W = w2.alloc (.cells (zeros m (.int .i64 0)) 3) := ⟨_, rfl⟩
    have b3 : Below w2.heap.size w2 W3 := by rw [hW3]; exact below_alloc _ _
    have hown0 := Lib.hid (show W3.ownsRow w.heap.size 3 1 (.slice (some ⟨go, 0, none⟩) 0 m) 0 (encI.all []) from by
      rw [hW3, hgo]; exact World.ownsRow_made w2 _ _ hS.bel.size (by unfold maxLen; omega) (by simp [zeros]))
    have hS3 := Lib.hid (hS.later b3)
    have hnwb : nw ≤ 1048576 := by omega
    have cT := Lib.hid (topo_take w gq gm gn gc nw A n c ms ns css W3 hS3.out hK.nl hK.nw64 hnwb)
    replace hK := Lib.hid hK
    clear hS b3
    go_wp2_with (rw [← hW3, ← hgo]; clear hW3 hgo)
    refine cT.out.mono ?_; rintro e w4 h4
    obtain ⟨z, ok, ns4, rfl, hSL, hS4, hO4⟩ := SortL.of_take hK.out h4
    have hown4 := Lib.hid (own_only hown0.out hO4 (Blk.not_row hS3.out.x (by decide) hown0.out))
    replace hSL := Lib.hid hSL
    replace hS4 := Lib.hid hS4
    clear h4 hO4 hS3 hown0 cT hK mki
    go_wp2_with fail
    go_loopw [9, 10, 11] (fun v i b wr => ∃ (z : Int) (ok : Bool) (O L : List Int) (ns : List Nat) (css : List (List Nat)) (Dv : Option Addr) (cv : Nat), v = .slice Dv O.length cv ∧ i = .int .i64 z ∧ b = .bool ok ∧ Hid (SortL a n nw zs O L ms ns css z ok) ∧ Hid (QuS w gq gm gn gc nw A n c ms ns css wr) ∧ Hid (wr.ownsRow w.heap.size 3 1 (.slice Dv O.length cv) O.length (encI.all O))) (fun v _ _ _ => m - lenT15 v)
    case atStart => exact ⟨z, ok, [], zs, ns4, css, _, m, rfl, rfl, rfl, hSL, hS4, hown4⟩
    case round =>
      clear hSL hS4 hown4
      obtain ⟨z, ok, O, L, ns, css, Dv, cv, rfl, rfl, rfl, hSL, hS, hown⟩ := hrel
      rcases hSL.out with ⟨rfl, x, rfl, hx64, hT⟩ | ⟨rfl, hK, h0⟩
      · have hlens := hT.s.lens
        rw [hml.out] at hlens
        have hLp : 0 < L.length := List.length_pos_of_mem hT.xL
        obtain ⟨N, hN⟩ : ∃ N, N = O.length := ⟨_, rfl⟩
        rw [← hN] at hown hlens ⊢
        obtain ⟨gl, hgl⟩ : ∃ g, g = wr.heap.size := ⟨_, rfl⟩
        obtain ⟨VL, hVL⟩ : ∃ W, W = World.alloc wr (.cells #[.int .i64 (x : Int)] 3) := ⟨_, rfl⟩
        have bL : Below wr.heap.size wr VL := by rw [hVL]; exact (Below.refl _ _).alloc (Nat.le_refl _) _
        have hlit := Lib.hid (show LAt encI VL (some ⟨gl, 0, none⟩) 1 [(x : Int)] from by rw [hVL, hgl]; exact LAt.lit1 (E := encI) wr 3 (x : Int) ⟨by omega, by omega⟩)
        have hownL := Lib.hid (own_below hown.out bL)
        have hSL2 := Lib.hid (hS.out.later bL)
        have hbase := Lib.hid hSL2.out.bel.size
        replace hT := Lib.hid hT
        replace hN := Lib.hid hN
        replace hSL := Lib.hid True.intro
        clear bL hown hS
        go_wp2_with (first
          | (rw [← hVL, ← hgl]; clear hVL hgl)
          | (at_builtin; refine wpList_append_L (E := encI) rfl (.tmp 39) (.tmp 41) _ rfl w.heap.size 3 i0 _ 8 Try.underlying23 hi.out hz0.out hz1.out hz2.out rfl _ N O (by rfl) hownL.out _ 1 1 _ rfl hlit.out (by unfold maxLen; omega) (by omega) hbase.out ?_; intro v' w7 hown' hb7 hgr hnew))
        have hg1 := Blk.not_row hSL2.out.s (by decide) hownL.out
        have hg2 := Blk.not_row hSL2.out.m (by decide) hownL.out
        have hg3 := Blk.not_row hSL2.out.x (by decide) hownL.out
        have hg4 := Blk.not_row hSL2.out.k (by decide) hownL.out
        have hS7 := hSL2.out.grown hgr hg1 hg2 hg3 hg4 hb7
        have cF := Lib.hid (topo_free w gq gm gn gc nw A n c a zs O L x ms ns css w7 hS7 hT.out hr.out hG.out hnw.out)
        have hOk : ∀ y ∈ O ++ [(x : Int)], encI.ok y := fun y hy => hzok.out y (hT.out.s.p.mem_iff.1 (by
          rcases List.mem_append.1 hy with h1 | h1
          · exact List.mem_append.2 (.inl h1)
          · rw [List.mem_singleton.1 h1]; exact List.mem_append.2 (.inr hT.out.xL)))
        obtain ⟨A7, c7, rfl, h71, h72, hL7⟩ := LAt.of_own (E := encI) hown' hOk (by rw [List.length_append, ← hN.out]; rfl)
        replace hown' := Lib.hid hown'
        clear hg1 hg2 hg3 hg4 hgr hnew hb7 hSL2 hownL hlit hbase h71 h72 hL7 hOk
        go_wp2_with fail
        refine cF.out.mono ?_; rintro e w8 ⟨rfl, ns8, css8, hS8, hK8, hO8⟩
        have hown8 := Lib.hid (hO8.own hown'.out (Blk.not_row hS7.x (by decide) hown'.out) (Blk.not_row hS7.k (by decide) hown'.out))
        have cT := Lib.hid (topo_take w gq gm gn gc nw A n c ms ns8 css8 w8 hS8 hK8.nl hK8.nw64 hnwb)
        replace hS8 := Lib.hid hS8
        replace hK8 := Lib.hid hK8
        clear hO8 hown' hS7 cF
        go_wp2_with fail
        refine cT.out.mono ?_; rintro e w9 h9
        obtain ⟨z9, ok9, ns9, rfl, hSL9, hS9, hO9⟩ := SortL.of_take hK8.out h9
        have hown9 := Lib.hid (own_only hown8.out hO9 (Blk.not_row hS8.out.x (by decide) hown8.out))
        replace hSL9 := Lib.hid hSL9
        replace hS9 := Lib.hid hS9
        clear h9 hO9 hS8 hown8 cT hK8
        go_wp2_with fail
        go_roundw
        case rel => exact ⟨z9, ok9, O ++ [(x : Int)], L.erase (x : Int), ns9, css8, A7, c7, by rw [List.length_append, ← hN.out]; rfl, rfl, rfl, hSL9, hS9, Lib.hid (by rw [List.length_append, ← hN.out]; exact hown9.out)⟩
        case measure => simp only [lenT15]; omega
      · have hlens := hK.s.lens
        rw [hml.out] at hlens
        obtain ⟨N, hN⟩ : ∃ N, N = O.length := ⟨_, rfl⟩
        rw [← hN] at hown hlens ⊢
        have hst := hK.stuck h0
        replace hN := Lib.hid hN
        replace hSL := Lib.hid True.intro
        clear hK h0
        rcases hst with ⟨rfl, hI⟩ | ⟨hne, hI⟩
        · obtain rfl : N = m := by simpa using hlens
          replace hI := Lib.hid hI
          clear hlens
          have hlt : ¬ (N : Int) < (N : Int) := by omega
          go_wp2_with fail
          exact bodyPost_ret (v := .tuple #[.slice Dv N cv, .int .i64 0]) (by simp [results, go_sem]) rfl ⟨.slice Dv N cv, O, 0, rfl, by rw [← hN.out]; exact hown.out, hI.out, hS.out.bel⟩
        · have hlt : (N : Int) < (m : Int) := by have := List.length_pos_iff.2 hne; omega
          replace hI := Lib.hid hI
          replace hne := Lib.hid hne
          clear hlens
          go_wp2_with fail
          exact bodyPost_ret (v := .tuple #[.slice none 0 0, .int .i64 7]) (by simp [results, go_sem]) rfl ⟨.slice none 0 0, [], 7, rfl, World.ownsRow_nil _ _ _ _, hI.out, hS.out.bel⟩
  · have hno : Hid (SortIs (RelZ a) n zs [] 1) := Lib.hid (.inl ⟨hF, rfl, rfl⟩)
    replace hF := Lib.hid hF
    have hbe := Lib.hid (below_trans2 hbo.out b1)
    clear b1 m0 m1
    go_wp2_with fail
    exact bodyPost_ret (v := .tuple #[.slice none 0 0, .int .i64 1]) (by simp [results, go_sem]) rfl ⟨.slice none 0 0, [], 1, rfl, World.ownsRow_nil _ _ _ _, hno.out, hbe.out⟩
theorem topo_Sort (A : Option Addr) (n c : Nat) (a : List (List Nat)) (D : Option Addr) (m d : Nat) (zs : List Int) (w : World) (hr : RowsAt w A n a) (hG : Good n a) (hL : LAt encI w D m zs) (hm : m ≤ 1048576) :
    Calls Try.prog 18 #[.agg #[.int .i64 (n : Int), .slice A n c], .slice D m d] w (RetSort (RelZ a) n zs w) :=
  (topo_SortO A n c a D m d zs w hr hG hL hm).mono fun _ _ h => h.ret hL.okAll
end Go.Proofs.Ytpgcokkmhlhnpaa

namespace Go.Proofs.Ytpgcokkmhlhnpaa
open Go.RowKit
set_option linter.unusedVariables false
set_option maxHeartbeats 1000000 in
theorem law15_may (N : Int) (A : Option Addr) (n c : Nat) (xss : List (List Nat)) (w : World) (hr : RowsAt w A n xss) (hn : n ≤ 9223372036854775807) (hl : ∀ (k : Nat) (xs : List Nat), xss[k]? = some xs → xs.length ≤ 9223372036854775807) :
    Calls Try.prog 16 #[.agg #[.int .i64 N, .slice A n c]] w (RetB (smallM xss 16 && rightM N xss) w) := by
  have hlen := hr.len
  obtain ⟨W0, hW0⟩ : ∃ W0, W0 = w.alloc (.cells #[.int .i64 N, .slice A n c] 39) := ⟨_, rfl⟩
  have ha : Below w.heap.size w W0 := by rw [hW0]; exact below_alloc _ _
  have k1 := Lib.hid (show MatK W0 w.heap.size 39 N A n c xss by rw [hW0]; exact MatK.new w _ hr)
  have hS := Lib.hid (ref3_Small N A n c xss 16 W0 k1.out.2 hn hl (by omega))
  have bb := Lib.hid ha
  clear ha hr
  have qk10 := k1.out.1.c0
  have qk11 := k1.out.1.c1
  go_enter Try.func16, Try.ntmps16
  go_wp2_with fail
  rw [← hW0]
  clear hW0
  go_wp2_with fail
  refine hS.out.mono ?_; rintro e w1 ⟨rfl, b⟩
  replace k1 := Lib.hid (k1.out.below b)
  replace qk10 := k1.out.1.c0
  replace qk11 := k1.out.1.c1
  replace bb := Lib.hid (below_trans2 bb.out b)
  clear b
  clear hS
  cases hs : smallM xss 16 with
  | false =>
    replace hs := Lib.hid hs
    go_wp2_with fail
    go_ret
    rw [hs.out]
    exact ⟨rfl, bb.out⟩
  | true =>
    obtain ⟨s1, s2⟩ := smallM_len hs
    have hR := Lib.hid (ref3_Right N A n c xss w1 k1.out.2 (by omega) (fun k xs hx => by have := s2 xs (List.mem_of_getElem? hx); omega))
    clear s1 s2 hlen
    go_wp2_with fail
    refine hR.out.mono ?_; rintro e w2 ⟨rfl, b⟩
    replace k1 := Lib.hid (k1.out.below b)
    replace qk10 := k1.out.1.c0
    replace qk11 := k1.out.1.c1
    replace bb := Lib.hid (below_trans2 bb.out b)
    clear b
    clear hR
    replace hs := Lib.hid hs
    go_wp2_with fail
    go_ret
    rw [hs.out]
    exact ⟨rfl, bb.out⟩
theorem ints_is15 {A B : Option Addr} {n m c d c' d' : Nat} {s t : List Int} {w : World} (h1 : LAt encI w A n s) (h2 : LAt encI w B m t) (hn : n ≤ c) (hc : c ≤ 9223372036854775807) (hm : m ≤ d) (hd : d ≤ 9223372036854775807) :
    Calls Try.prog 13 #[.slice A n c', .slice B m d'] w (RetB (decide (s = t)) w) := by
  refine (ref2_IntsL A B n c' m d' s t w h1 h2 (by omega) (by omega)).mono ?_
  rintro e w' ⟨rfl, q, rfl⟩
  exact ⟨rfl, below_drewN (Below.refl _ _) q⟩
theorem awake15_of : ofN 3 [(2, 0)] = 3 ∧ ofM 3 [(2, 0)] = [[0], [0], [1]] ∧ ofE 3 [(2, 0)] = 0 := by decide
theorem awake15_of1 : ofN 1 [(0, 0)] = 1 ∧ ofM 1 [(0, 0)] = [[1]] ∧ ofE 1 [(0, 0)] = 0 := by decide
theorem awake15_good : Good 3 [[0], [0], [1]] := by
  obtain ⟨n, h1, h2⟩ := Good.of (show rightM 3 [[0], [0], [1]] = true by decide) (by intro r hr; simp at hr; rcases hr with rfl | rfl | rfl <;> (intro x hx; simp at hx; omega))
  obtain rfl : n = 3 := by omega
  exact h2
theorem awake15_good1 : Good 1 [[1]] := by
  obtain ⟨n, h1, h2⟩ := Good.of (show rightM 1 [[1]] = true by decide) (by intro r hr; simp at hr; subst hr; intro x hx; simp at hx; omega)
  obtain rfl : n = 1 := by omega
  exact h2
theorem awake15_relZ {x y : Int} (h : RelZ [[0], [0], [1]] x y) : x = 2 ∧ y = 0 := by
  obtain ⟨i, j, rfl, rfl, hi, hj, h⟩ := h.nat awake15_good
  have hd : ∀ i : Nat, i < 3 → ∀ j : Nat, j < 3 → hasM [[0], [0], [1]] (i : Int) (j : Int) = true → i = 2 ∧ j = 0 := by decide
  have := hd i hi j hj h
  omega
theorem awake15_sort {l : List Int} {E : Int} (h : SortIs (RelZ [[0], [0], [1]]) 3 [0, 1, 2] l E) : l = [1, 2, 0] ∧ E = 0 := by
  refine h.unique (.inr (.inl ⟨⟨by decide, by decide⟩, rfl, by decide, ?_, ?_, ?_, ?_, ?_, ?_, trivial⟩))
  · intro y hy h
    have := awake15_relZ h
    omega
  · intro y hy hlt
    simp only [List.mem_cons, List.not_mem_nil, or_false] at hy
    obtain rfl : y = 0 := by omega
    exact ⟨2, by simp, by unfold RelZ; decide⟩
  · intro y hy h
    have := awake15_relZ h
    omega
  · intro y hy hlt
    simp only [List.mem_cons, List.not_mem_nil, or_false] at hy
    subst hy
    exact ⟨2, by simp, by unfold RelZ; decide⟩
  · intro y hy h
    have := awake15_relZ h
    simp at hy
    omega
  · intro y hy
    cases hy
theorem awake15_sort1 {l : List Int} {E : Int} (h : SortIs (RelZ [[1]]) 1 [0] l E) : l = [] ∧ E = 7 := by
  refine h.unique (.inr (.inr ⟨⟨by decide, by decide⟩, rfl, rfl, (· = 0), ⟨0, by simp, rfl⟩, fun x hx => ⟨by simp [hx], 0, rfl, ?_⟩⟩))
  have hx : x = 0 := hx
  subst hx
  unfold RelZ; decide
theorem awake15_resp {b : Bool} (h : b = true ↔ RespO (RelZ [[0], [0], [1]]) [1, 2, 0]) : b = true := by
  refine h.2 (fun i k hi hk hr => ?_)
  have h1 := awake15_relZ hr
  simp only [List.length_cons, List.length_nil] at hi
  match i, k, hi, hk, h1 with
  | 0, 0, _, _, h1 => have := h1.1; simp at this
  | 1, 0, _, _, h1 => have := h1.2; simp at this
  | 1, 1, _, _, h1 => have := h1.2; simp at this
  | 2, k, _, _, h1 => have := h1.1; simp at this
  | 0, k + 1, _, hk, _ => omega
  | 1, k + 2, _, hk, _ => omega
  | i + 3, _, hi, _, _ => omega
theorem awake15_respno {b : Bool} (h : b = true ↔ RespO (RelZ [[0], [0], [1]]) [0, 2]) : b = false := by
  cases b with
  | false => rfl
  | true => exact absurd (show RelZ [[0], [0], [1]] 2 0 by unfold RelZ; decide) (h.1 rfl 1 0 (by decide) (by decide))
theorem awake15_perm {b : Bool} (h : b = true ↔ PermB [1, 2, 0] 3) : b = true := h.2 ⟨by decide, by decide, by decide⟩
set_option maxRecDepth 100000 in
set_option maxHeartbeats 2000000 in
theorem law15_awake (w : World) : Calls Try.prog 17 #[] w (RetBool true w) := by
  obtain ⟨W0, hW0⟩ : ∃ W0, W0 = w.alloc (.cells #[.int .i64 2, .int .i64 0] 70) := ⟨_, rfl⟩
  have bb := Lib.hid (show Below w.heap.size w W0 by rw [hW0]; exact below_alloc _ _)
  have hP : PairsAt W0 (some ⟨w.heap.size, 0, none⟩) 1 [(2, 0)] := by
    refine ⟨rfl, by simp, fun _ => ⟨_, _, rfl, by rw [hW0]; simp, fun j p hj => ?_⟩⟩
    have hB : Blk W0 w.heap.size 70 [.int .i64 2, .int .i64 0] := by rw [hW0]; exact Blk.new w _ _
    match j, hj with
    | 0, hj => simp at hj; subst hj; exact ⟨hB.cell 0, hB.cell 1⟩
    | j + 1, hj => simp at hj
  have hO := ref3_Of 3 _ 1 1 _ W0 hP (by omega)
  rw [awake15_of.1, awake15_of.2.1, awake15_of.2.2] at hO
  replace hO := Lib.hid hO
  clear hP
  have cS := Lib.hid (fun A c D m d zs W hW hL hm => topo_Sort A 3 c [[0], [0], [1]] D m d zs W hW awake15_good hL hm)
  have cS1 := Lib.hid (fun A c D m d zs W hW hL hm => topo_Sort A 1 c [[1]] D m d zs W hW awake15_good1 hL hm)
  have cR := Lib.hid (fun A c D m d zs W hW hL hm => topo_Respects A 3 c [[0], [0], [1]] D m d zs W hW awake15_good hL hm)
  go_enter Try.func17, Try.ntmps17
  go_wp2_with fail
  rw [← hW0]
  clear hW0
  refine hO.out.mono ?_; rintro e w1 ⟨A1, n1, c1, rfl, r1, _, b⟩
  obtain rfl : n1 = 3 := by have := r1.len; simpa using this.symm
  clear hO
  obtain ⟨W1, hW1⟩ : ∃ W, W = w1.alloc (.cells #[.int .i64 3, .slice A1 3 c1] 39) := ⟨_, rfl⟩
  obtain ⟨G1, hG1⟩ : ∃ G, G = w1.heap.size := ⟨_, rfl⟩
  have ba : Below w1.heap.size w1 W1 := by rw [hW1]; exact below_alloc _ _
  have k1 := Lib.hid (show MatK W1 G1 39 3 A1 3 c1 [[0],[0],[1]] from ⟨by rw [hW1, hG1]; exact MatB.new _ _, r1.below ba⟩)
  replace b := below_trans2 b ba
  clear ba r1
  replace bb := Lib.hid (below_trans2 bb.out b)
  clear b
  go_wp2_with fail
  rw [← hW1, ← hG1]
  have hsW1 : W1.heap.size = G1 + 1 := by rw [hW1, World.size_alloc, ← hG1]
  clear hW1 hG1
  have qk10 := k1.out.1.c0
  have qk11 := k1.out.1.c1
  obtain ⟨V2, hV2⟩ : ∃ V, V = W1.alloc (.cells #[.int .i64 0, .int .i64 1, .int .i64 2] 3) := ⟨_, rfl⟩
  have bV : Below W1.heap.size W1 V2 := by rw [hV2]; exact below_alloc _ _
  have hl2 := (show LAt encI V2 (some ⟨G1 + 1, 0, none⟩) 3 [0, 1, 2] from by rw [hV2, ← hsW1]; exact LAt.of_blk (t := 3) (Blk.new W1 _ (encI.all [0, 1, 2])) (fun x hx => by simp only [List.mem_cons, List.not_mem_nil, or_false] at hx; rcases hx with rfl | rfl | rfl <;> exact ⟨by decide, by decide⟩) rfl)
  replace k1 := Lib.hid (k1.out.below bV)
  replace qk10 := k1.out.1.c0
  replace qk11 := k1.out.1.c1
  replace bb := Lib.hid (below_trans2 bb.out bV)
  clear bV
  have cS2 := Lib.hid (cS.out A1 c1 (some ⟨G1 + 1, 0, none⟩) 3 3 _ V2 k1.out.2 hl2 (by omega))
  rw [← hV2]
  clear hV2 hl2 hsW1
  refine cS2.out.mono ?_; rintro e w2 ⟨D, m, d, l, E, rfl, hL, hmd, hdm, hR, b⟩
  obtain ⟨rfl, rfl⟩ := awake15_sort hR
  obtain rfl : m = 3 := hL.len.symm
  replace hL := Lib.hid hL
  clear hR cS2
  replace k1 := Lib.hid (k1.out.below b)
  replace qk10 := k1.out.1.c0
  replace qk11 := k1.out.1.c1
  replace bb := Lib.hid (below_trans2 bb.out b)
  clear b
  -- the other matrix
  obtain ⟨gp, hgp⟩ : ∃ g, g = w2.heap.size := ⟨_, rfl⟩
  obtain ⟨W3, hW3⟩ : ∃ W, W = w2.alloc (.cells #[.int .i64 0, .int .i64 0] 70) := ⟨_, rfl⟩
  have b : Below w2.heap.size w2 W3 := by rw [hW3]; exact below_alloc _ _
  have hP : PairsAt W3 (some ⟨gp, 0, none⟩) 1 [(0, 0)] := by
    refine ⟨rfl, by simp, fun _ => ⟨_, _, rfl, by rw [hW3, hgp]; simp, fun j p hj => ?_⟩⟩
    have hB : Blk W3 gp 70 [.int .i64 0, .int .i64 0] := by rw [hW3, hgp]; exact Blk.new w2 _ _
    match j, hj with
    | 0, hj => simp at hj; subst hj; exact ⟨hB.cell 0, hB.cell 1⟩
    | j + 1, hj => simp at hj
  replace hL := Lib.hid (hL.out.below b)
  replace k1 := Lib.hid (k1.out.below b)
  replace qk10 := k1.out.1.c0
  replace qk11 := k1.out.1.c1
  replace bb := Lib.hid (below_trans2 bb.out b)
  clear b
  have hO := ref3_Of 1 _ 1 1 _ W3 hP (by omega)
  rw [awake15_of1.1, awake15_of1.2.1, awake15_of1.2.2] at hO
  replace hO := Lib.hid hO
  clear hP
  go_wp2_with fail
  rw [← hgp, ← hW3]
  clear hW3 hgp
  refine hO.out.mono ?_; rintro e w3 ⟨A4, n4, c4, rfl, r4, _, b⟩
  obtain rfl : n4 = 1 := by have := r4.len; simpa using this.symm
  clear hO
  obtain ⟨W4, hW4⟩ : ∃ W, W = w3.alloc (.cells #[.int .i64 1, .slice A4 1 c4] 39) := ⟨_, rfl⟩
  obtain ⟨G4, hG4⟩ : ∃ G, G = w3.heap.size := ⟨_, rfl⟩
  have ba : Below w3.heap.size w3 W4 := by rw [hW4]; exact below_alloc _ _
  have k4 := Lib.hid (show MatK W4 G4 39 1 A4 1 c4 [[1]] from ⟨by rw [hW4, hG4]; exact MatB.new _ _, r4.below ba⟩)
  replace b := below_trans2 b ba
  clear ba r4
  replace k1 := Lib.hid (k1.out.below b)
  replace qk10 := k1.out.1.c0
  replace qk11 := k1.out.1.c1
  replace hL := Lib.hid (hL.out.below b)
  replace bb := Lib.hid (below_trans2 bb.out b)
  clear b
  rw [hW4] at qk10 qk11
  go_wp2_with fail
  rw [← hW4, ← hG4]
  rw [← hW4] at qk10 qk11
  have hsW4 : W4.heap.size = G4 + 1 := by rw [hW4, World.size_alloc, ← hG4]
  clear hW4 hG4
  have qk40 := k4.out.1.c0
  have qk41 := k4.out.1.c1
  obtain ⟨V5, hV5⟩ : ∃ V, V = W4.alloc (.cells #[.int .i64 0] 3) := ⟨_, rfl⟩
  have bV : Below W4.heap.size W4 V5 := by rw [hV5]; exact below_alloc _ _
  have hl2 := (show LAt encI V5 (some ⟨G4 + 1, 0, none⟩) 1 [0] from by rw [hV5, ← hsW4]; exact LAt.of_blk (t := 3) (Blk.new W4 _ (encI.all [0])) (fun x hx => by simp only [List.mem_cons, List.not_mem_nil, or_false] at hx; subst hx; exact ⟨by decide, by decide⟩) rfl)
  replace k1 := Lib.hid (k1.out.below bV)
  replace qk10 := k1.out.1.c0
  replace qk11 := k1.out.1.c1
  replace k4 := Lib.hid (k4.out.below bV)
  replace qk40 := k4.out.1.c0
  replace qk41 := k4.out.1.c1
  replace hL := Lib.hid (hL.out.below bV)
  replace bb := Lib.hid (below_trans2 bb.out bV)
  clear bV
  have cS2 := Lib.hid (cS1.out A4 c4 (some ⟨G4 + 1, 0, none⟩) 1 1 _ V5 k4.out.2 hl2 (by omega))
  rw [← hV5]
  clear hV5 hl2 hsW4
  refine cS2.out.mono ?_; rintro e w5 ⟨D5, m5, d5, l5, E5, rfl, _, _, _, hR, b⟩
  obtain ⟨rfl, rfl⟩ := awake15_sort1 hR
  clear hR cS2
  replace k1 := Lib.hid (k1.out.below b)
  replace qk10 := k1.out.1.c0
  replace qk11 := k1.out.1.c1
  replace hL := Lib.hid (hL.out.below b)
  replace bb := Lib.hid (below_trans2 bb.out b)
  clear b
  clear k4 qk40 qk41
  -- what is held
  obtain ⟨gp, hgp⟩ : ∃ g, g = w5.heap.size := ⟨_, rfl⟩
  obtain ⟨V6, hV6⟩ : ∃ V, V = w5.alloc (.cells #[.int .i64 1, .int .i64 2, .int .i64 0] 3) := ⟨_, rfl⟩
  have bV : Below w5.heap.size w5 V6 := by rw [hV6]; exact below_alloc _ _
  have hl2 := (show LAt encI V6 (some ⟨gp, 0, none⟩) 3 [1, 2, 0] from by rw [hV6, hgp]; exact LAt.of_blk (t := 3) (Blk.new w5 _ (encI.all [1, 2, 0])) (fun x hx => by simp only [List.mem_cons, List.not_mem_nil, or_false] at hx; rcases hx with rfl | rfl | rfl <;> exact ⟨by decide, by decide⟩) rfl)
  replace k1 := Lib.hid (k1.out.below bV)
  replace qk10 := k1.out.1.c0
  replace qk11 := k1.out.1.c1
  replace hL := Lib.hid (hL.out.below bV)
  replace bb := Lib.hid (below_trans2 bb.out bV)
  clear bV
  have cE := Lib.hid (ints_is15 (c' := d) (d' := 3) hL.out hl2 hmd hdm (Nat.le_refl 3) (by omega))
  rw [show decide (([1, 2, 0] : List Int) = [1, 2, 0]) = true from by decide] at cE
  clear hl2
  go_wp2_with (rw [← hgp, ← hV6]; clear hV6 hgp)
  refine cE.out.mono ?_; rintro e w6 ⟨rfl, b⟩
  replace k1 := Lib.hid (k1.out.below b)
  replace qk10 := k1.out.1.c0
  replace qk11 := k1.out.1.c1
  replace hL := Lib.hid (hL.out.below b)
  replace bb := Lib.hid (below_trans2 bb.out b)
  clear b
  clear cE
  have cR1 := Lib.hid (cR.out A1 c1 D 3 d _ w6 k1.out.2 hL.out (by omega))
  go_wp2_with fail
  refine cR1.out.mono ?_; rintro e w7 ⟨rb, rfl, hrb, b⟩
  obtain rfl := awake15_resp hrb
  replace k1 := Lib.hid (k1.out.below b)
  replace qk10 := k1.out.1.c0
  replace qk11 := k1.out.1.c1
  replace hL := Lib.hid (hL.out.below b)
  replace bb := Lib.hid (below_trans2 bb.out b)
  clear b
  clear cR1 hrb
  obtain ⟨gp, hgp⟩ : ∃ g, g = w7.heap.size := ⟨_, rfl⟩
  obtain ⟨V8, hV8⟩ : ∃ V, V = w7.alloc (.cells #[.int .i64 0, .int .i64 2] 3) := ⟨_, rfl⟩
  have bV : Below w7.heap.size w7 V8 := by rw [hV8]; exact below_alloc _ _
  have hl2 := (show LAt encI V8 (some ⟨gp, 0, none⟩) 2 [0, 2] from by rw [hV8, hgp]; exact LAt.of_blk (t := 3) (Blk.new w7 _ (encI.all [0, 2])) (fun x hx => by simp only [List.mem_cons, List.not_mem_nil, or_false] at hx; rcases hx with rfl | rfl <;> exact ⟨by decide, by decide⟩) rfl)
  have q70 := k1.out.1.c0
  have q71 := k1.out.1.c1
  replace k1 := Lib.hid (k1.out.below bV)
  replace qk10 := k1.out.1.c0
  replace qk11 := k1.out.1.c1
  replace hL := Lib.hid (hL.out.below bV)
  replace bb := Lib.hid (below_trans2 bb.out bV)
  clear bV
  have cR1 := Lib.hid (cR.out A1 c1 (some ⟨gp, 0, none⟩) 2 2 _ V8 k1.out.2 hl2 (by omega))
  clear hl2
  go_wp2_with (rw [← hgp, ← hV8]; clear hV8 hgp)
  refine cR1.out.mono ?_; rintro e w9 ⟨rb, rfl, hrb, b⟩
  obtain rfl := awake15_respno hrb
  replace k1 := Lib.hid (k1.out.below b)
  replace qk10 := k1.out.1.c0
  replace qk11 := k1.out.1.c1
  replace hL := Lib.hid (hL.out.below b)
  replace bb := Lib.hid (below_trans2 bb.out b)
  clear b
  clear cR1 hrb
  have cP := Lib.hid (topo_Perm D 3 d _ 3 w9 hL.out (by omega))
  go_wp2_with fail
  refine cP.out.mono ?_; rintro e w10 ⟨rb, rfl, hrb, b⟩
  obtain rfl := awake15_perm hrb
  replace bb := Lib.hid (below_trans2 bb.out b)
  clear cP hrb b
  go_wp2_with fail
  go_ret
  exact ⟨rfl, bb.out⟩
end Go.Proofs.Ytpgcokkmhlhnpaa

namespace Go.Proofs.Ytpgcokkmhlhnpaa
open Go.RowKit
set_option linter.unusedVariables false
set_option maxRecDepth 100000 in
set_option maxHeartbeats 4000000 in
theorem law15_TopoOrder (N : Int) (A : Option Addr) (n c : Nat) (a : List (List Nat)) (w : World)
    (hr : RowsAt w A n a) (hn : n ≤ 9223372036854775807) (hl : ∀ (k : Nat) (xs : List Nat), a[k]? = some xs → xs.length ≤ 9223372036854775807) (hw64 : ∀ r ∈ a, ∀ x ∈ r, x < 18446744073709551616) :
    Calls Try.prog 4 #[.agg #[.int .i64 N, .slice A n c]] w (RetBool true w) := by
  -- the matrix, whether it is looked at, all numbers: hL : LAt w2 AL n (allZ n), hM : MatK at w2, bb
  obtain ⟨i0, hi, hz0, hz1, hz2⟩ := info_parts info_int15
  replace hi := Lib.hid hi
  replace hz0 := Lib.hid hz0
  replace hz1 := Lib.hid hz1
  replace hz2 := Lib.hid hz2
  have k1 := Lib.hid (MatK.new (N := N) (c := c) w 39 hr)
  obtain ⟨g, hg⟩ : ∃ g, g = w.heap.size := ⟨_, rfl⟩
  obtain ⟨W0, hW0⟩ : ∃ W, W = w.alloc (.cells #[.int .i64 N, .slice A n c] 39) := ⟨_, rfl⟩
  rw [← hW0, ← hg] at k1
  have bb := Lib.hid (show Below w.heap.size w W0 from by rw [hW0]; exact below_alloc _ _)
  have hla := hr.len
  have cS := Lib.hid (law15_may N A n c a W0 k1.out.2 hn hl)
  replace hl := Lib.hid hl
  replace hw64 := Lib.hid hw64
  have qk10 := k1.out.1.c0
  have qk11 := k1.out.1.c1
  clear hr
  go_enter Try.func4, Try.ntmps4
  go_wp2_with (rw [← hW0, ← hg]; clear hW0 hg)
  refine cS.out.mono ?_; rintro e w1 ⟨rfl, b⟩
  replace k1 := Lib.hid (k1.out.below b)
  replace qk10 := k1.out.1.c0
  replace qk11 := k1.out.1.c1
  replace bb := Lib.hid (below_trans2 bb.out b)
  clear b
  clear cS
  cases hsm : (smallM a 16 && rightM N a) with
  | false =>
    clear hsm
    go_wp2_with fail
    refine (law15_awake w1).mono ?_; rintro e w9 ⟨rfl, b9⟩
    go_wp2_with fail
    go_ret
    exact ⟨rfl, below_trans2 bb.out b9⟩
  | true =>
    rw [Bool.and_eq_true] at hsm
    obtain ⟨s1, s2⟩ := smallM_len hsm.1
    obtain ⟨p, rfl, hGa⟩ := Good.of hsm.2 hw64.out
    obtain rfl : n = p := by have := hGa.len; omega
    have hn16 : n ≤ 16 := by omega
    clear hsm s1 s2 hw64 hl hla
    have hown0 : Hid (w1.ownsRow w1.heap.size 3 1 (.slice none 0 0) 0 (encI.all (allZ 0))) := Lib.hid (World.ownsRow_nil _ _ _ _)
    go_wp2_with fail
    go_loopw [3, 4] (fun v t wr => ∃ q : Nat, q ≤ n ∧ t = .int .i64 (q : Int) ∧ Hid (wr.ownsRow w1.heap.size 3 1 v q (encI.all (allZ q))) ∧ Hid (Below w1.heap.size w1 wr)) (fun _ t _ => n - (intOf t).toNat)
    case atStart => exact ⟨0, Nat.zero_le _, rfl, hown0, Lib.hid (Below.refl _ _)⟩
    case round =>
      clear qk10 qk11 hown0
      obtain ⟨q, hq, rfl, hown, hb⟩ := hrel
      have m0 := (k1.out.below hb.out).1.c0
      by_cases hqn : q < n
      · have hqn' : (q : Int) < (n : Int) := by omega
        obtain ⟨VL, hVL⟩ : ∃ W, W = wr.alloc (.cells #[.int .i64 (q : Int)] 3) := ⟨_, rfl⟩
        obtain ⟨gl2, hgl2⟩ : ∃ g, g = wr.heap.size := ⟨_, rfl⟩
        have bL : Below wr.heap.size wr VL := by rw [hVL]; exact below_alloc _ _
        have hlit := Lib.hid (show LAt encI VL (some ⟨gl2, 0, none⟩) 1 [(q : Int)] from by rw [hVL, hgl2]; exact LAt.lit1 (E := encI) wr 3 (q : Int) ⟨by omega, by omega⟩)
        have hovL := Lib.hid (own_below hown.out bL)
        have bWL := Lib.hid (below_trans2 hb.out bL)
        have hbase := Lib.hid bWL.out.size
        replace hqn := Lib.hid hqn
        clear bL hown hb
        go_wp2_with (first
          | (rw [← hVL, ← hgl2]; clear hVL hgl2)
          | (at_builtin; refine wpList_append_L (E := encI) rfl (.tmp 22) (.tmp 24) _ rfl w1.heap.size 3 i0 _ 8 Try.underlying23 hi.out hz0.out hz1.out hz2.out rfl _ q (allZ q) (by rfl) hovL.out _ 1 1 _ rfl hlit.out (by unfold maxLen; omega) (by omega) hbase.out ?_; intro v7 w7 hown7 hb7 _ _))
        exact ⟨⟨q + 1, by have := hqn.out; omega, by go_num, Lib.hid (by rw [allZ_succ]; exact hown7), Lib.hid (bWL.out.trans hb7)⟩, by have := hqn.out; simp [intOf]; omega⟩
      · have hqn' : ¬ (q : Int) < (n : Int) := by omega
        obtain rfl : q = n := by omega
        clear hqn
        obtain ⟨AL, cL, rfl, hL1, hL2, hL⟩ := LAt.of_own (E := encI) hown.out (fun x hx => by have := allZ_mem.1 hx; exact ⟨by omega, by omega⟩) (allZ_len q)
        replace k1 := Lib.hid (k1.out.below hb.out)
        replace bb := Lib.hid (below_trans2 bb.out hb.out)
        replace hL := Lib.hid hL
        clear hown hb m0
        have qk10 := k1.out.1.c0
        have qk11 := k1.out.1.c1
        have hH := closeK_hull hGa
        obtain ⟨cM, hcM⟩ : ∃ m, m = closeK a q := ⟨_, rfl⟩
        have gC := hH.1
        have cC := fun W hW => ref4_Close A q c a W hW hGa (by omega)
        rw [← hcM] at hH gC cC
        have hcl := Lib.hid gC.len
        have cS := Lib.hid (fun D m d zs W hW hL hm => topo_Sort A q c a D m d zs W hW hGa hL hm)
        have cSc := Lib.hid (fun A2 c2 D m d zs W hW hL hm => topo_Sort A2 q c2 cM D m d zs W hW gC hL hm)
        have cR := Lib.hid (fun D m d zs W hW hL hm => topo_Respects A q c a D m d zs W hW hGa hL hm)
        have cRc := Lib.hid (fun A2 c2 D m d zs W hW hL hm => topo_Respects A2 q c2 cM D m d zs W hW gC hL hm)
        have cRr := Lib.hid (fun A2 c2 D m d zs W hW hL hm => ref15_Respects A2 q c2 cM D m d zs W hW gC hL hm)
        have cLp := Lib.hid (fun A2 c2 W hW => ref4_Loop A2 q c2 cM W hW gC)
        replace cC := Lib.hid cC
        have hround := Lib.hid (fun (l : List Int) E (h : SortIs (RelZ a) q (allZ q) l E) (x : Nat) (hx : Conn (Rel a) x x) => topo_round hGa h hx)
        have horder := Lib.hid (fun (hno : ∀ i : Nat, ¬ Conn (Rel a) i i) (l : List Int) E (h : SortIs (RelZ a) q (allZ q) l E) => topo_order hGa hH hno h)
        have hconn := Lib.hid (fun (i j : Nat) => hH.2 i j)
        have hlt := Lib.hid (fun (i j : Nat) (h : Rel cM i j) => gC.has_lt h)
        clear hGa hH gC hcM
        go_wp2_with fail
        refine (cS.out AL q cL _ wr k1.out.2 hL.out (by omega)).mono ?_; rintro e w2 ⟨D1, m1, d1, l, E, rfl, hL1', hmd1, hdm1, hSo, b⟩
        replace k1 := Lib.hid (k1.out.below b)
        replace qk10 := k1.out.1.c0
        replace qk11 := k1.out.1.c1
        replace hL := Lib.hid (hL.out.below b)
        replace bb := Lib.hid (below_trans2 bb.out b)
        clear b
        replace hL1' := Lib.hid hL1'
        replace hSo := Lib.hid hSo
        clear cS
        go_wp2_with fail
        refine (cC.out w2 k1.out.2).mono ?_; rintro e w3 ⟨A2, n2, c2, rfl, r2, _, b⟩
        obtain rfl : n2 = q := by rw [← r2.len]; exact hcl.out
        clear cC
        obtain ⟨W4, hW4⟩ : ∃ W, W = w3.alloc (.cells #[.int .i64 n2, .slice A2 n2 c2] 39) := ⟨_, rfl⟩
        obtain ⟨G7, hG7⟩ : ∃ G, G = w3.heap.size := ⟨_, rfl⟩
        have ba : Below w3.heap.size w3 W4 := by rw [hW4]; exact below_alloc _ _
        have k7 := Lib.hid (show MatK W4 G7 39 n2 A2 n2 c2 cM from ⟨by rw [hW4, hG7]; exact MatB.new _ _, r2.below ba⟩)
        replace b := below_trans2 b ba
        clear ba r2
        replace k1 := Lib.hid (k1.out.below b)
        replace qk10 := k1.out.1.c0
        replace qk11 := k1.out.1.c1
        replace hL := Lib.hid (hL.out.below b)
        replace hL1' := Lib.hid (hL1'.out.below b)
        replace bb := Lib.hid (below_trans2 bb.out b)
        clear b
        rw [hW4] at qk10 qk11
        go_wp2_with fail
        rw [← hW4, ← hG7]
        rw [← hW4] at qk10 qk11
        clear hW4 hG7
        have qk70 := k7.out.1.c0
        have qk71 := k7.out.1.c1
        refine (cLp.out A2 c2 W4 k7.out.2).mono ?_; rintro e w5 ⟨lr, lb, rfl, hlp, b⟩
        replace k1 := Lib.hid (k1.out.below b)
        replace qk10 := k1.out.1.c0
        replace qk11 := k1.out.1.c1
        replace k7 := Lib.hid (k7.out.below b)
        replace qk70 := k7.out.1.c0
        replace qk71 := k7.out.1.c1
        replace hL := Lib.hid (hL.out.below b)
        replace hL1' := Lib.hid (hL1'.out.below b)
        replace bb := Lib.hid (below_trans2 bb.out b)
        clear b
        clear cLp
        rcases hlp with ⟨rfl, x, rfl, hx, hxx, _⟩ | ⟨rfl, rfl, hno⟩
        · obtain ⟨rfl, rfl⟩ := hround.out l E hSo.out x ((hconn.out x x).1 hxx)
          obtain rfl : m1 = 0 := hL1'.out.len.symm
          clear hxx hx hround horder hconn
          go_wp2_with fail
          refine (law15_awake w5).mono ?_; rintro e w6 ⟨rfl, b⟩
          go_wp2_with fail
          go_ret
          exact ⟨rfl, below_trans2 bb.out b⟩
        · have hno' : ∀ i : Nat, ¬ Conn (Rel a) i i := fun i h => hno i (hlt.out i i ((hconn.out i i).2 h)).1 ((hconn.out i i).2 h)
          obtain ⟨rfl, hp, hRa, hRc, hun⟩ := horder.out hno' l E hSo.out
          have hlm : Hid (m1 ≤ 16) := Lib.hid (by have := hL1'.out.len; have h2 := hp.length_eq; rw [allZ_len] at h2; omega)
          have hpm := Lib.hid (perm_all hp)
          replace hRa := Lib.hid hRa
          replace hRc := Lib.hid hRc
          replace hun := Lib.hid hun
          clear hno hno' hp hround horder hconn hlt hSo
          go_wp2_with fail
          refine (cSc.out A2 c2 AL n2 cL _ w5 k7.out.2 hL.out (by omega)).mono ?_; rintro e w6 ⟨D3, m3, d3, l3, E3, rfl, hL3, hmd3, hdm3, hSo, b⟩
          obtain ⟨rfl, rfl⟩ := hun.out l3 E3 hSo
          replace k1 := Lib.hid (k1.out.below b)
          replace qk10 := k1.out.1.c0
          replace qk11 := k1.out.1.c1
          replace k7 := Lib.hid (k7.out.below b)
          replace qk70 := k7.out.1.c0
          replace qk71 := k7.out.1.c1
          replace hL1' := Lib.hid (hL1'.out.below b)
          replace bb := Lib.hid (below_trans2 bb.out b)
          clear b
          replace hL3 := Lib.hid hL3
          clear hSo hun cSc hL
          go_wp2_with fail
          refine (law15_awake w6).mono ?_; rintro e w7 ⟨rfl, b⟩
          replace k1 := Lib.hid (k1.out.below b)
          replace qk10 := k1.out.1.c0
          replace qk11 := k1.out.1.c1
          replace k7 := Lib.hid (k7.out.below b)
          replace qk70 := k7.out.1.c0
          replace qk71 := k7.out.1.c1
          replace hL1' := Lib.hid (hL1'.out.below b)
          replace hL3 := Lib.hid (hL3.out.below b)
          replace bb := Lib.hid (below_trans2 bb.out b)
          clear b
          go_wp2_with fail
          refine (topo_Perm D1 m1 d1 _ (n2 : Int) w7 hL1'.out (by have := hlm.out; omega)).mono ?_; rintro e w8 ⟨rb, rfl, hrb, b⟩
          obtain rfl := hrb.2 hpm.out
          replace k1 := Lib.hid (k1.out.below b)
          replace qk10 := k1.out.1.c0
          replace qk11 := k1.out.1.c1
          replace k7 := Lib.hid (k7.out.below b)
          replace qk70 := k7.out.1.c0
          replace qk71 := k7.out.1.c1
          replace hL1' := Lib.hid (hL1'.out.below b)
          replace hL3 := Lib.hid (hL3.out.below b)
          replace bb := Lib.hid (below_trans2 bb.out b)
          clear b
          clear hrb
          go_wp2_with fail
          refine (cR.out D1 m1 d1 _ w8 k1.out.2 hL1'.out (by have := hlm.out; omega)).mono ?_; rintro e w9 ⟨rb, rfl, hrb, b⟩
          obtain rfl := hrb.2 hRa.out
          replace k1 := Lib.hid (k1.out.below b)
          replace qk10 := k1.out.1.c0
          replace qk11 := k1.out.1.c1
          replace k7 := Lib.hid (k7.out.below b)
          replace qk70 := k7.out.1.c0
          replace qk71 := k7.out.1.c1
          replace hL1' := Lib.hid (hL1'.out.below b)
          replace hL3 := Lib.hid (hL3.out.below b)
          replace bb := Lib.hid (below_trans2 bb.out b)
          clear b
          clear hrb
          go_wp2_with fail
          refine (cRc.out A2 c2 D1 m1 d1 _ w9 k7.out.2 hL1'.out (by have := hlm.out; omega)).mono ?_; rintro e w10 ⟨rb, rfl, hrb, b⟩
          obtain rfl := hrb.2 hRc.out
          replace k1 := Lib.hid (k1.out.below b)
          replace qk10 := k1.out.1.c0
          replace qk11 := k1.out.1.c1
          replace k7 := Lib.hid (k7.out.below b)
          replace qk70 := k7.out.1.c0
          replace qk71 := k7.out.1.c1
          replace hL1' := Lib.hid (hL1'.out.below b)
          replace hL3 := Lib.hid (hL3.out.below b)
          replace bb := Lib.hid (below_trans2 bb.out b)
          clear b
          clear hrb
          go_wp2_with fail
          refine (cRr.out A2 c2 D1 m1 d1 _ w10 k7.out.2 hL1'.out (by have := hlm.out; omega)).mono ?_; rintro e w11 ⟨rb, rfl, hrb, b⟩
          obtain rfl := hrb.2 hRc.out
          replace k1 := Lib.hid (k1.out.below b)
          replace qk10 := k1.out.1.c0
          replace qk11 := k1.out.1.c1
          replace k7 := Lib.hid (k7.out.below b)
          replace qk70 := k7.out.1.c0
          replace qk71 := k7.out.1.c1
          replace hL1' := Lib.hid (hL1'.out.below b)
          replace hL3 := Lib.hid (hL3.out.below b)
          replace bb := Lib.hid (below_trans2 bb.out b)
          clear b
          clear hrb
          have cE := Lib.hid (ints_is15 (c' := d3) (d' := d1) hL3.out hL1'.out hmd3 hdm3 hmd1 hdm1)
          rw [show ∀ x : List Int, decide (x = x) = true from fun x => decide_eq_true rfl] at cE
          go_wp2_with fail
          refine cE.out.mono ?_; rintro e w12 ⟨rfl, b⟩
          replace bb := Lib.hid (below_trans2 bb.out b)
          clear b cE
          go_wp2_with fail
          go_ret
          exact ⟨rfl, bb.out⟩
end Go.Proofs.Ytpgcokkmhlhnpaa

namespace Go.Proofs.Ytpgcokkmhlhnpaa
open Go.RowKit Go.ChangeShapes Go.WideShapes Go.Deep Go.Joins
set_option linter.unusedVariables false

theorem addr_add (b off j : Nat) : (⟨b, off, none⟩ : Addr).add j = ⟨b, off + j, none⟩ := by unfold Addr.add; split <;> simp_all

section
variable {H : Type} {enc : TypeId × Value → H} {P : Program} {w : World} {base : Nat} {spare : Nat → Bool} {held : Bool}
theorem row_of_ints {a' : Option Addr} {L C : Nat} {zs : List Int} (hl : L ≤ C) (hm : C ≤ maxLen) (hz : zs.length = C) (hwz : ∀ n ∈ zs, (Lit.int .u64 n).wf = true) (hnil : a' = none → C = 0)
    (hcell : ∀ x, a' = some x → ∀ c, c < C → w.cell? (x.add c) = some (.int .u64 (zs.getD c 0))) : ∃ xs, Row w a' L xs ∧ L ≤ 9223372036854775807 := by
  cases a' with
  | none =>
    have := hnil rfl
    obtain rfl : L = 0 := by omega
    exact ⟨[], Row.nil _ _, by omega⟩
  | some x => exact row_of_is (c := C) (zs := zs) (.inr ⟨x, rfl, hl, hm, hz, fun i hi => hcell x rfl i (by omega), hwz⟩)
theorem open_mat {t e q : TypeId} {fuel : Nat} {A : Option Addr} {len cap : Nat} {x : DataW H × List MemPlace} (ht : P.underlying t = some (.slice e)) (he : P.underlying e = some (.slice q)) (hq : P.underlying q = some (.int .u64))
    (ce : P.cellsOf e = 1) (cq : P.cellsOf q = 1) (h : DataW.trod enc P w base (fun _ => true) held fuel t [.slice A len cap] = some x) :
    ∃ xss, RowsAt w A len xss ∧ len ≤ 9223372036854775807 ∧ ∀ (k : Nat) (xs : List Nat), xss[k]? = some xs → xs.length ≤ 9223372036854775807 := by
  rcases open_int_rows ht he hq ce cq h with ⟨hcs, _⟩ | ⟨⟨b, off, spot⟩, l, c, B, L, C, Z, hcs, hb, hl, hm, hx, hrow⟩
  · injection hcs with hcs
    injection hcs with h1 h2 h3
    subst h1 h2 h3
    exact ⟨[], RowsAt.nil _ _, by omega, fun k xs hx => by simp at hx⟩
  · injection hcs with hcs
    injection hcs with h1 h2 h3
    subst h1 h2 h3
    have hlm : len ≤ 9223372036854775807 := by unfold maxLen at hm; omega
    have hrow' : ∀ k, k < len → ∃ xs, Row w (B k) (L k) xs ∧ L k ≤ 9223372036854775807 := fun k hk => by
      obtain ⟨_, h1, h2, h3, h4, h5, h6⟩ := hrow k (by omega)
      exact row_of_ints h1 h2 h3 h4 h5 (fun x e c hc => (h6 x e).2 c hc)
    by_cases h0 : len = 0
    · subst h0
      exact ⟨[], RowsAt.nil _ _, by omega, fun k xs hx => by simp at hx⟩
    · have hc0 := (hrow 0 (by omega)).1
      have hspot : spot = none := by
        have h := World.cell?_spot hc0
        cases spot with
        | none => rfl
        | some s => unfold Addr.add at h; simp at h
      subst hspot
      have hblt : b < w.heap.size := by
        have := World.block_lt_of_cell? w _ hc0
        rwa [addr_add] at this
      have hall : ∀ k, k ≤ len → ∃ xss : List (List Nat), RowsC w ((List.range k).map fun i => .slice (B i) (L i) (C i)) xss ∧ ∀ (j : Nat) (xs : List Nat), xss[j]? = some xs → xs.length ≤ 9223372036854775807 := by
        intro k
        induction k with
        | zero => exact fun _ => ⟨[], RowsC.nil _, fun j xs h => by simp at h⟩
        | succ k ih =>
          intro hk
          obtain ⟨xss, p1, p2⟩ := ih (by omega)
          obtain ⟨xs, hx1, hx2⟩ := hrow' k (by omega)
          refine ⟨xss ++ [xs], ?_, fun j ys hj => ?_⟩
          · rw [List.range_succ, List.map_append]
            exact p1.snoc ⟨_, _, _, rfl, hx1⟩
          · rcases Nat.lt_or_ge j xss.length with hlt | hge
            · rw [List.getElem?_append_left hlt] at hj; exact p2 j ys hj
            · rw [List.getElem?_append_right hge] at hj
              have hj' := List.mem_of_getElem? hj
              rw [List.mem_singleton.1 hj', hx1.len]; exact hx2
      obtain ⟨xss, p1, p2⟩ := hall len (Nat.le_refl _)
      refine ⟨xss, ⟨_, ⟨by simp, fun _ => ⟨b, off, rfl, hblt, fun j u hu => ?_⟩⟩, p1⟩, hlm, p2⟩
      have hj : j < len := by have := (List.getElem?_eq_some_iff.1 hu).1; simpa using this
      rw [List.getElem?_map, List.getElem?_range hj, Option.map_some] at hu
      have h1 := (hrow j (by omega)).1
      rw [addr_add] at h1
      rw [h1]; exact hu
theorem open_matV {r : Reach} {b0 : Nat} {t e q : TypeId} {f0 f1 : Field} {v : Value} {d : DataW H} {p : List MemPlace} (ht : P.underlying t = some (.struct #[f0, f1])) (hone : oneCellFields P #[f0, f1] = true) (cT : P.cellsOf t = 2)
    (hi : P.underlying f0.type = some (.int .i64)) (hr : P.underlying f1.type = some (.slice e)) (he : P.underlying e = some (.slice q)) (hq : P.underlying q = some (.int .u64)) (ce : P.cellsOf e = 1) (cq : P.cellsOf q = 1)
    (hv : Value.okWide P w r b0 t v) (h : DataW.Trod enc P w base (fun _ => true) held t v d p) :
    ∃ (N : Int) (A : Option Addr) (n c : Nat) (xss : List (List Nat)), v = .agg #[.int .i64 N, .slice A n c] ∧ (-9223372036854775808 ≤ N ∧ N ≤ 9223372036854775807) ∧ RowsAt w A n xss ∧ n ≤ 9223372036854775807 ∧
      ∀ (k : Nat) (xs : List Nat), xss[k]? = some xs → xs.length ≤ 9223372036854775807 := by
  obtain ⟨v0, v1, y0, y1, m, rfl, _, _, h0, h1⟩ := open_agg2 ht hone cT hv h
  obtain ⟨N, e0, _, hw⟩ := DataW.trod_int hi h0
  injection e0 with e0
  subst e0
  obtain ⟨A, n, c, rfl⟩ : ∃ A n c, v1 = .slice A n c := by
    rcases open_int_rows hr he hq ce cq h1 with ⟨hcs, _⟩ | ⟨a, l, c, B, L, C, Z, hcs, _⟩
    · injection hcs with hcs; exact ⟨_, _, _, hcs⟩
    · injection hcs with hcs; exact ⟨_, _, _, hcs⟩
  obtain ⟨xss, hx1, hx2, hx3⟩ := open_mat hr he hq ce cq h1
  exact ⟨N, A, n, c, xss, rfl, bounds_i64 hw, hx1, hx2, hx3⟩
end

end Go.Proofs.Ytpgcokkmhlhnpaa

namespace Go.Proofs.Ytpgcokkmhlhnpaa
open Go.RowKit Go.ChangeShapes Go.WideShapes Go.Deep Go.Joins
set_option linter.unusedVariables false
section
variable {H : Type} {enc : TypeId × Value → H} {P : Program} {w : World} {base : Nat} {held : Bool}
theorem open_cap {t e q : TypeId} {fuel : Nat} {A : Option Addr} {len cap : Nat} {x : DataW H × List MemPlace} (ht : P.underlying t = some (.slice e)) (he : P.underlying e = some (.slice q)) (hq : P.underlying q = some (.int .u64))
    (ce : P.cellsOf e = 1) (cq : P.cellsOf q = 1) (h : DataW.trod enc P w base (fun _ => true) held fuel t [.slice A len cap] = some x) : len ≤ cap := by
  rcases open_int_rows ht he hq ce cq h with ⟨hcs, _⟩ | ⟨a, l, c, B, L, C, Z, hcs, hb, hl, hm, hx, hrow⟩
  · injection hcs with hcs
    injection hcs with h1 h2 h3
    omega
  · injection hcs with hcs
    injection hcs with h1 h2 h3
    omega
theorem open_matV_cap {r : Reach} {b0 : Nat} {t e q : TypeId} {f0 f1 : Field} {N : Int} {A : Option Addr} {n c : Nat} {d : DataW H} {p : List MemPlace} (ht : P.underlying t = some (.struct #[f0, f1])) (hone : oneCellFields P #[f0, f1] = true) (cT : P.cellsOf t = 2)
    (hr : P.underlying f1.type = some (.slice e)) (he : P.underlying e = some (.slice q)) (hq : P.underlying q = some (.int .u64)) (ce : P.cellsOf e = 1) (cq : P.cellsOf q = 1)
    (hv : Value.okWide P w r b0 t (.agg #[.int .i64 N, .slice A n c])) (h : DataW.Trod enc P w base (fun _ => true) held t (.agg #[.int .i64 N, .slice A n c]) d p) : n ≤ c := by
  obtain ⟨v0, v1, y0, y1, m, e1, _, _, h0, h1⟩ := open_agg2 ht hone cT hv h
  injection e1 with e1
  simp at e1
  obtain ⟨_, rfl⟩ := e1
  exact open_cap hr he hq ce cq h1
end
end Go.Proofs.Ytpgcokkmhlhnpaa

namespace Go.Proofs.Ytpgcokkmhlhnpaa
open Go.RowKit Go.ChangeShapes Go.WideShapes Go.Deep Go.Joins
set_option linter.unusedVariables false
section
variable {H : Type} {enc : TypeId × Value → H} {P : Program} {w : World} {base : Nat} {held : Bool}
end
end Go.Proofs.Ytpgcokkmhlhnpaa

namespace Go.Proofs.Ytpgcokkmhlhnpaa
open Go.RowKit Go.ChangeShapes Go.WideShapes Go.Deep
set_option linter.unusedVariables false

section
variable {H : Type} {enc : TypeId × Value → H} {P : Program} {w : World} {base : Nat} {held : Bool}
end
end Go.Proofs.Ytpgcokkmhlhnpaa

namespace Go.Proofs.Ytpgcokkmhlhnpaa
open Go.RowKit Go.ChangeShapes Go.WideShapes Go.Deep
set_option linter.unusedVariables false

section
variable {H : Type} {enc : TypeId × Value → H} {P : Program} {w : World} {base : Nat} {held : Bool}
end
end Go.Proofs.Ytpgcokkmhlhnpaa

namespace Go.Proofs.Ytpgcokkmhlhnpaa
open Go.RowKit Go.ChangeShapes Go.WideShapes Go.Deep Go.Joins
set_option linter.unusedVariables false
section
variable {H : Type} {enc : TypeId × Value → H} {P : Program} {w : World} {base : Nat} {held : Bool}
end
end Go.Proofs.Ytpgcokkmhlhnpaa
