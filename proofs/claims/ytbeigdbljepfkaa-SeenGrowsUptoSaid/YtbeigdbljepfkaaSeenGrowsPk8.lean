/- Contracts of the document's own answers of layer 4: Close, Add. Contracts of the document's own answers for matrices: Pairs. Contracts of the document's own answers for matrices: Turn. Contract of the document's own answer: Within. A region that draws its order, walked by a tree of orders: what only reads (in every world that meets S) is taken as soon as it may come up; what changes memory, and stays in S, comes up alone, or as one of two: then both ways are walked. S is the prover's: as a rule 'the blocks that were there at the region's start are as they were': so an alloc beside calls, and stores into what the region made, are steps too. No function of the program is named here. The contracts of the document's own answers of layer 13: Rf, Edges, Co. The contracts of the document's own answers of layer 13: Edges, Co. The contract of the document's own answer of layer 18: Of. -/
import Derived.Test.YtbeigdbljepfkaaSeenGrowsPk7
import Derived.Test.YtbeigdbljepfkaaSeenGrowsPk5
import Derived.Test.YtbeigdbljepfkaaSeenGrowsPk4
namespace Go.Proofs.Ytbeigdbljepfkaa
open Go.RowKit
set_option linter.unusedVariables false

theorem RowsAt.farK {w : World} {C : Option Addr} {p g : Nat} {t : TypeId} {xss : List (List Nat)} {N : Int} {A : Option Addr} {n c : Nat} {yss : List (List Nat)} (h : RowsAt w C p xss) (hM : MatK w g t N A n c yss) (hn : 0 < n) : 0 < p → ∀ ad, C = some ad → ad.block ≠ g := by
  intro h0 ad e
  obtain ⟨b, off, B, m, d, xs, e2, _, hx, hc, hr⟩ := h.at_ h0
  rw [e] at e2
  cases e2
  intro hb
  have hb' : b = g := hb
  subst hb'
  rw [Blk.cell hM.1] at hc
  match off + 0, hc with
  | 0, hc => simp at hc
  | 1, hc =>
    simp at hc
    obtain ⟨rfl, rfl, rfl⟩ := hc
    obtain ⟨b3, o3, x, e3, _, _, _, h3⟩ := hr.at_ hn
    obtain ⟨b4, o4, B4, m4, d4, xs4, e4, _, _, h4, _⟩ := hM.2.at_ hn
    rw [e3] at e4
    cases e4
    rw [h3] at h4
    cases h4
  | k + 2, hc => simp at hc
theorem MatK.put2 {w : World} {g : Nat} {t : TypeId} {N : Int} {A : Option Addr} {n c : Nat} (h : MatB w g t N A n c) {G : Nat} {t' : TypeId} {M : Int} {B : Option Addr} {m d : Nat} {yss : List (List Nat)} (k : MatK w G t' M B m d yss) (hne : G ≠ g) (hb : 0 < m → ∀ ad, B = some ad → ad.block ≠ g) (x y : Value) : MatK ((w.setCell ⟨g, 0, none⟩ x).setCell ⟨g, 1, none⟩ y) G t' M B m d yss :=
  ⟨(k.1.farB (p := ⟨g, 0, none⟩) (by simpa using hne) _).farB (p := ⟨g, 1, none⟩) (by simpa using hne) _, k.2.putB h hb _ _⟩
theorem Ints.setCell {w : World} {A : Option Addr} {n : Nat} {zs : List Int} {p : Addr} (h : Ints w A n zs) (hne : ∀ ad, A = some ad → ad.block ≠ p.block) (u : Value) : Ints (w.setCell p u) A n zs := ⟨h.1.setCell hne u, h.2⟩
theorem Conn.lt {n : Nat} {a : List (List Nat)} (hG : Good n a) {i j : Nat} (h : Conn (Rel a) i j) : i < n ∧ j < n := by
  induction h with
  | one h => exact hG.has_lt h
  | step _ h ih => exact ⟨ih.1, (hG.has_lt h).2⟩
/-- what is laid so far: the rows ahead of i, and some of row i -/
def CloseR (n : Nat) (a : List (List Nat)) (i : Nat) (l : List Nat) (X : List (List Nat)) : Prop := Good n X ∧ ∀ x y : Nat, Rel X x y ↔ (x < i ∧ Conn (Rel a) x y) ∨ (x = i ∧ y ∈ l)
section
variable {n : Nat} {a X : List (List Nat)} {i : Nat} {l : List Nat}
theorem CloseR.start (hn : n ≤ 4096) : CloseR n a 0 [] (newM n) := ⟨Good.new hn, fun x y => by
  unfold Rel
  rw [newM_has]
  constructor
  · intro h; cases h
  · rintro (⟨h, _⟩ | ⟨_, h⟩)
    · omega
    · cases h⟩
theorem CloseR.set (h : CloseR n a i l X) {y : Nat} (hi : i < n) (hy : y < n) : CloseR n a i (l ++ [y]) (setM X (i : Int) (y : Int)) := ⟨h.1.set hi hy, fun u v => by
  rw [rel_set h.1 hi hy, h.2]
  simp only [List.mem_append, List.mem_singleton]
  constructor
  · rintro ((h1 | ⟨h1, h2⟩) | ⟨h1, h2⟩)
    · exact .inl h1
    · exact .inr ⟨h1, .inl h2⟩
    · exact .inr ⟨h1, .inr h2⟩
  · rintro (h1 | ⟨h1, h2 | h2⟩)
    · exact .inl (.inl h1)
    · exact .inl (.inr ⟨h1, h2⟩)
    · exact .inr ⟨h1, h2⟩⟩
theorem CloseR.next (h : CloseR n a i l X) (hG : Good n a) (hl : ∀ x : Nat, x ∈ l ↔ x < n ∧ Conn (Rel a) i x) : CloseR n a (i + 1) [] X := ⟨h.1, fun u v => by
  rw [h.2, hl]
  constructor
  · rintro (⟨h1, h2⟩ | ⟨rfl, _, h2⟩)
    · exact .inl ⟨by omega, h2⟩
    · exact .inl ⟨by omega, h2⟩
  · rintro (⟨h1, h2⟩ | ⟨_, h2⟩)
    · rcases Nat.lt_succ_iff_lt_or_eq.1 h1 with h3 | h3
      · exact .inl ⟨h3, h2⟩
      · subst h3
        exact .inr ⟨rfl, (Conn.lt hG h2).2, h2⟩
    · cases h2⟩
theorem CloseR.all (h : CloseR n a n [] X) (hG : Good n a) : X = closeK a n :=
  IsHull.unique (r := Rel a) ⟨h.1, fun u v => by
    rw [h.2]
    constructor
    · rintro (⟨_, h2⟩ | ⟨_, h2⟩)
      · exact h2
      · cases h2
    · intro h2
      exact .inl ⟨(Conn.lt hG h2).1, h2⟩⟩ (closeK_hull hG) fun _ _ => Iff.rfl
end
/-- a matrix all of whose blocks are the call's own -/
def RetMat1G (N : Int) (xss : List (List Nat)) (w : World) (e : Ending) (w' : World) : Prop :=
  ∃ A n c, e = .returned (.agg #[.int .i64 N, .slice A n c]) ∧ RowsG w.heap.size w' A n xss ∧ n ≤ c ∧ Below w.heap.size w w'
set_option maxRecDepth 100000 in
set_option maxHeartbeats 4000000 in
theorem ref4_CloseG (A : Option Addr) (n c : Nat) (a : List (List Nat)) (w : World) (hr : RowsAt w A n a) (hG : Good n a) (hn64 : n < 64) :
    Calls Try.prog 17 #[.agg #[.int .i64 (n : Int), .slice A n c]] w (RetMat1G (n : Int) (closeK a n) w) := by
  have hnn : n ≤ 4096 := hG.le
  obtain ⟨W0, hW0⟩ : ∃ W0, W0 = (w.alloc (.cells #[.int .i64 n, .slice A n c] 34)).alloc (.cells #[.int .i64 0, .slice none 0 0] 34) := ⟨_, rfl⟩
  have bb := Lib.hid (show Below w.heap.size w W0 by rw [hW0]; exact ((Below.refl _ _).alloc (Nat.le_refl _) _).alloc (by simp) _)
  have k1 := Lib.hid (show MatK W0 w.heap.size 34 n A n c a by rw [hW0]; exact (MatK.new w _ hr).below (below_alloc _ _))
  have m2 := Lib.hid (show MatB W0 (w.heap.size + 1) 34 0 none 0 0 by rw [hW0]; exact MatB.new1 w _ _)
  have cN := Lib.hid (fun W => ref3_NewG n hnn W)
  have cR := Lib.hid (fun (i : Nat) (hi : i < n) W (hW : RowsAt W A n a) => ref4_Reach A n c a i W hW hG hi)
  have cS := Lib.hid (fun (i y : Nat) (hi : i < n) (hy : y < n) C d X (hX : Good n X) W (hW : RowsG w.heap.size W C n X) (hs : w.heap.size ≤ W.heap.size) => ref3_SetG w.heap.size (n : Int) C n d X (i : Int) (y : Int) W hW hs rfl hnn (fun xs hx => by have := hX.small xs hx; omega) (by unfold inM; simp; omega))
  replace hG := Lib.hid hG
  clear hr
  have qk10 := k1.out.1.c0
  have qk11 := k1.out.1.c1
  go_enter Try.func17, Try.ntmps17
  go_wp2_with fail
  rw [← hW0]
  clear hW0
  go_wp2_with fail
  refine (cN.out W0).mono ?_; rintro e w1 ⟨A3, n3, c3, rfl, s3, hc3, b, -⟩
  have r3 := s3.at
  obtain rfl : n = n3 := by have := r3.len; simp [newM] at this; omega
  replace s3 := s3.mono (show w.heap.size ≤ W0.heap.size from bb.out.size)
  replace m2 := Lib.hid (m2.out.below b)
  obtain ⟨W1, hW1⟩ : ∃ W1, W1 = w1.alloc (.cells #[.int .i64 n, .slice A3 n c3] 34) := ⟨_, rfl⟩
  obtain ⟨G3, hG3⟩ : ∃ G, G = w1.heap.size := ⟨_, rfl⟩
  have ba : Below w1.heap.size w1 W1 := by rw [hW1]; exact below_alloc _ _
  have k3 := Lib.hid (show MatK W1 G3 34 n A3 n c3 (newM n) from ⟨by rw [hW1, hG3]; exact MatB.new _ _, r3.below ba⟩)
  replace s3 := Lib.hid (s3.below ba)
  have hlt := m2.out.lt
  have h23 : w.heap.size + 1 < G3 := by omega
  replace m2 := Lib.hid (m2.out.below ba)
  replace b := below_trans2 b ba
  replace k1 := Lib.hid (k1.out.below b)
  replace qk10 := k1.out.1.c0
  replace qk11 := k1.out.1.c1
  replace bb := Lib.hid (below_trans2 bb.out b)
  clear b
  rw [hW1] at qk10 qk11
  clear ba r3 hlt
  go_wp2_with fail
  rw [← hW1, ← hG3]
  clear hW1 hG3 qk10 qk11
  go_loopw [5] (fun t wr => ∃ (i : Nat) (A3 : Option Addr) (c3 : Nat) (X : List (List Nat)), i ≤ n ∧ t = .int .i64 i ∧ Hid (CloseR n a i [] X) ∧ Hid (n ≤ c3) ∧ Hid (MatK wr w.heap.size 34 n A n c a) ∧ Hid (MatB wr (w.heap.size + 1) 34 0 none 0 0) ∧ Hid (MatK wr G3 34 n A3 n c3 X) ∧ Hid (RowsG w.heap.size wr A3 n X) ∧ Hid (Below w.heap.size w wr)) (fun t _ => n - (intOf t).toNat)
  case atStart => exact ⟨0, A3, c3, newM n, Nat.zero_le _, rfl, Lib.hid (CloseR.start hnn), Lib.hid hc3, k1, m2, k3, s3, bb⟩
  case round =>
    clear k1 m2 k3 s3 bb
    obtain ⟨i, A3, c3, X, hi, rfl, hX, hc3', k1, m2, k3, s3, bb⟩ := hrel
    have qk10 := k1.out.1.c0
    have qk11 := k1.out.1.c1
    by_cases hlt : i < n
    · have cRi := Lib.hid (cR.out i hlt wr k1.out.2)
      go_wp2_with fail
      refine cRi.out.mono ?_; rintro e w2 ⟨B, m, d, l, rfl, hl, hmem, hll, hfr, b⟩
      have hlm : l.length = m := by have := hl.len; simpa using this
      have h3 : G3 < wr.heap.size := k3.out.1.lt
      have hfr3 : Hid (∀ ad, B = some ad → ad.block ≠ G3) := Lib.hid (fun ad e => by have := hfr ad e; omega)
      replace m2 := Lib.hid (m2.out.below b)
      replace s3 := Lib.hid (s3.out.below b)
      replace k1 := Lib.hid (k1.out.below b)
      replace qk10 := k1.out.1.c0
      replace qk11 := k1.out.1.c1
      replace k3 := Lib.hid (k3.out.below b)
      replace qk30 := k3.out.1.c0
      replace qk31 := k3.out.1.c1
      replace bb := Lib.hid (below_trans2 bb.out b)
      clear b
      replace hl := Lib.hid hl
      replace hmem := Lib.hid hmem
      have hm64 : m ≤ 64 := by omega
      replace hlm := Lib.hid hlm
      clear cRi hfr h3 hll
      go_wp2_with fail
      clear qk10 qk11 qk30 qk31
      go_loopw [7] (fun t wr => ∃ (k : Nat) (A3 : Option Addr) (c3 : Nat) (X : List (List Nat)), k ≤ m ∧ t = .int .i64 k ∧ Hid (CloseR n a i (l.take k) X) ∧ Hid (n ≤ c3) ∧ Hid (MatK wr w.heap.size 34 n A n c a) ∧ Hid (MatB wr (w.heap.size + 1) 34 0 none 0 0) ∧ Hid (MatK wr G3 34 n A3 n c3 X) ∧ Hid (RowsG w.heap.size wr A3 n X) ∧ Hid (Below w.heap.size w wr) ∧ Hid (Ints wr B m (l.map Int.ofNat))) (fun t _ => m - (intOf t).toNat)
      case atStart => exact ⟨0, A3, c3, X, Nat.zero_le _, rfl, hX, hc3', k1, m2, k3, s3, bb, hl⟩
      case round =>
        clear hX hc3' k1 m2 k3 s3 bb hl
        obtain ⟨k, A3, c3, X, hk, rfl, hX, hc3', k1, m2, k3, s3, bb, hl⟩ := hrel
        by_cases hkm : k < m
        · obtain ⟨b4, o4, x, rfl, hb4, hx, hx64, c4⟩ := hl.out.at_ hkm
          obtain ⟨y, hy, rfl⟩ : ∃ y : Nat, l[k]? = some y ∧ (y : Int) = x := by
            rw [List.getElem?_map] at hx
            cases hh : l[k]? with
            | none => rw [hh] at hx; cases hx
            | some y => rw [hh] at hx; exact ⟨y, rfl, by simpa using hx⟩
          have hyn : y < n := ((hmem.out y).1 (List.mem_of_getElem? hy)).1
          have cSk := Lib.hid (cS.out i y hlt hyn A3 c3 X hX.out.1)
          have hX2 := Lib.hid (hX.out.set hlt hyn)
          rw [show l.take k ++ [y] = l.take (k + 1) by rw [List.take_succ_eq_append_getElem (List.getElem?_eq_some_iff.1 hy).1, (List.getElem?_eq_some_iff.1 hy).2]] at hX2
          have hk0 : (0 : Int) ≤ (k : Int) := by omega
          have hkm' : (k : Int) < (m : Int) := by omega
          clear hx hx64 hy
          have qk30 := k3.out.1.c0
          have qk31 := k3.out.1.c1
          go_wp2_with fail
          refine wp_region_planT 8 [(true, 0), (true, 1), (true, 2), (true, 3), (true, 4), (true, 5), (false, 6), (true, 7)] 10 [8, 9] (by kernel_rfl) (by kernel_rfl) (fun W1 hW1 => ?_)
          replace k1 := Lib.hid (show MatK W1 w.heap.size 34 n A n c a by rw [hW1.out]; exact k1.out.drew)
          replace s3 := Lib.hid (show RowsG w.heap.size W1 A3 n X by rw [hW1.out]; exact s3.out.below (Below.refl _ _).drew)
          replace k3 := Lib.hid (show MatK W1 G3 34 n A3 n c3 X by rw [hW1.out]; exact k3.out.drew)
          replace m2 := Lib.hid (show MatB W1 (w.heap.size + 1) 34 0 none 0 0 by rw [hW1.out]; exact Blk.drew m2.out)
          replace bb := Lib.hid (show Below w.heap.size w W1 by rw [hW1.out]; exact bb.out.drew)
          replace hl := Lib.hid (show Ints W1 (some ⟨b4, o4, none⟩) m (l.map Int.ofNat) by rw [hW1.out]; exact hl.out)
          replace c4 : W1.cell? ⟨b4, o4 + k, none⟩ = some (.int .i64 (y : Int)) := by rw [hW1.out]; exact c4
          clear hW1 qk30 qk31
          simp only [List.drop_succ_cons, List.drop_zero]
          have qk30 := k3.out.1.c0
          have qk31 := k3.out.1.c1
          iterate 6
            refine wpPlanE_float (v := ?_) rfl (by rfl) (fun w' hw' => ?_) (fun K hK => ?_)
            rotate_left
            · (go_simp; try with_reducible rfl)
            go_simp
            refine hK _ ?_
            clear hK K
          clear c4 qk30 qk31
          refine wpPlanE_only rfl (by rfl) (fun K hK => ?_)
          go_simp
          refine (cSk.out W1 s3.out bb.out.size).mono ?_
          rintro e w3 ⟨D, nn, dd, rfl, sD, hcD, b, -⟩
          have rD := sD.at
          obtain rfl : n = nn := by have := rD.len; have := hX2.out.1.len; omega
          refine hK _ _ b ?_
          clear hK K cSk
          replace m2 := Lib.hid (m2.out.below b)
          replace hl := Lib.hid (hl.out.below b)
          replace k1 := Lib.hid (k1.out.below b)
          replace k3 := Lib.hid (k3.out.below b)
          replace bb := Lib.hid (below_trans2 bb.out b)
          replace rD := Lib.hid rD
          replace sD := Lib.hid sD
          clear s3
          replace hcD := Lib.hid hcD
          clear b
          iterate 1
            refine wpPlanE_float (v := ?_) rfl (by rfl) (fun w' hw' => ?_) (fun K hK => ?_)
            rotate_left
            · (go_simp; try with_reducible rfl)
            go_simp
            refine hK _ ?_
            clear hK K
          refine wpPlanE_nil ?_
          iterate 2
            refine wpPlanT_float (v := ?_) rfl (by rfl) (fun w' => ?_) (fun K hK => ?_)
            rotate_left
            · (go_simp; try with_reducible rfl)
            go_simp
            refine hK _ ?_
            clear hK K
          refine wpPlanT_nil ?_
          have qk30 := k3.out.1.c0
          have qk31 := k3.out.1.c1
          have f0 := k3.out.1.frozen 0
          have f1 := k3.out.1.frozen 1
          go_wp2_with fail
          refine NoPanic.normal ?_
          clear f0 f1 qk30 qk31
          obtain ⟨Wz, hWz⟩ : ∃ X : World, X = (w3.setCell ⟨G3, 0, none⟩ (.int .i64 n)).setCell ⟨G3, 1, none⟩ (.slice D n dd) := ⟨_, rfl⟩
          rw [← hWz]
          have hn0 : 0 < n := by omega
          have k3' := Lib.hid (show MatK Wz G3 34 n D n dd (setM X (i : Int) (y : Int)) by rw [hWz]; exact ⟨k3.out.1.put n D n dd, rD.out.putB k3.out.1 (rD.out.farK k3.out hn0) _ _⟩)
          have s3' := Lib.hid (show RowsG w.heap.size Wz D n (setM X (i : Int) (y : Int)) by rw [hWz]; exact sD.out.putB k3.out.1 (rD.out.farK k3.out hn0) _ _)
          have k1' := Lib.hid (show MatK Wz w.heap.size 34 n A n c a by rw [hWz]; exact MatK.put2 k3.out.1 k1.out (by omega) (k1.out.2.farK k3.out hn0) _ _)
          have m2' := Lib.hid (show MatB Wz (w.heap.size + 1) 34 0 none 0 0 by rw [hWz]; exact (m2.out.farB (p := ⟨G3, 0, none⟩) (by simp <;> omega) _).farB (p := ⟨G3, 1, none⟩) (by simp <;> omega) _)
          have hl' := Lib.hid (show Ints Wz (some ⟨b4, o4, none⟩) m (l.map Int.ofNat) by rw [hWz]; exact (hl.out.setCell (p := ⟨G3, 0, none⟩) (fun ad e => hfr3.out ad e) _).setCell (p := ⟨G3, 1, none⟩) (fun ad e => hfr3.out ad e) _)
          replace bb := Lib.hid (show Below w.heap.size w Wz by rw [hWz]; exact (bb.out.setCell (p := ⟨G3, 0, none⟩) (by simp <;> omega) _).setCell (p := ⟨G3, 1, none⟩) (by simp <;> omega) _)
          clear hWz k1 k3 m2 hl rD sD
          go_wp2_with fail
          go_roundw
          case rel => exact ⟨k + 1, D, dd, _, by omega, by go_num, hX2, hcD, k1', m2', k3', s3', bb, hl'⟩
          case measure => simp [intOf]; omega
        · obtain rfl : k = m := by omega
          rw [List.take_of_length_le (by rw [hlm.out]; exact Nat.le_refl _)] at hX
          have hX2 := Lib.hid (hX.out.next hG.out hmem.out)
          clear hl
          go_wp2_with fail
          go_roundw
          case rel => exact ⟨i + 1, A3, c3, X, by omega, by go_num, hX2, hc3', k1, m2, k3, s3, bb⟩
          case measure => simp [intOf]; omega
    · obtain rfl : i = n := by omega
      have he := hX.out.all hG.out
      have hone := hX.out.1.one hn64
      replace he := Lib.hid he
      replace hone := Lib.hid hone
      have qk30 := k3.out.1.c0
      have qk31 := k3.out.1.c1
      have f0 := m2.out.c0
      have f1 := m2.out.c1
      have g0 := m2.out.frozen 0
      have g1 := m2.out.frozen 1
      clear hX
      go_wp2_with fail
      have hcc := m2.out.two (.int .i64 i) (.slice A3 i c3)
      have hc1 := hcc.1
      have hc2 := hcc.2
      clear hcc f0 f1 g0 g1
      refine bodyPost_ret (v := .agg #[.int .i64 i, .slice A3 i c3]) (by simp [results, Try.results17, go_sem, hc1, hc2]) rfl ⟨_, _, _, rfl, ?_, hc3'.out, ?_⟩
      · rw [← he.out]
        exact s3.out.putB m2.out (k3.out.2.farM m2.out hone.out) _ _
      · exact (bb.out.setCell (p := ⟨w.heap.size + 1, 0, none⟩) (by simp) _).setCell (p := ⟨w.heap.size + 1, 1, none⟩) (by simp) _
theorem ref4_Close (A : Option Addr) (n c : Nat) (a : List (List Nat)) (w : World) (hr : RowsAt w A n a) (hG : Good n a) (hn64 : n < 64) :
    Calls Try.prog 17 #[.agg #[.int .i64 (n : Int), .slice A n c]] w (RetMat1 (n : Int) (closeK a n) w) :=
  (ref4_CloseG A n c a w hr hG hn64).mono fun _ _ ⟨A', n', c', h1, h2, h3, h4⟩ => ⟨A', n', c', h1, h2.at, h3, h4⟩

end Go.Proofs.Ytbeigdbljepfkaa

namespace Go.Proofs.Ytbeigdbljepfkaa
open Go.RowKit
set_option linter.unusedVariables false

end Go.Proofs.Ytbeigdbljepfkaa

namespace Go.Proofs.Ytbeigdbljepfkaa
open Go.RowKit
set_option linter.unusedVariables false

def turned (ps : List (Int × Int)) : List (Int × Int) := ps.map fun x => (x.2, x.1)

end Go.Proofs.Ytbeigdbljepfkaa

namespace Go.Proofs.Ytbeigdbljepfkaa
open Go.RowKit
set_option linter.unusedVariables false

/-- both numbers are among l -/
def bothIn (l : List Int) (p : Int × Int) : Bool := decide (p.1 ∈ l) && decide (p.2 ∈ l)
def withinM (n : Nat) (a : List (List Nat)) (l : List Int) : List (List Nat) := foldP n ((pairsM a).filter (bothIn l))
theorem within_facts {n : Nat} {a : List (List Nat)} (hG : Good n a) (l : List Int) : Good n (withinM n a l) ∧ ∀ x y : Nat, Rel (withinM n a l) x y ↔ Rel a x y ∧ (x : Int) ∈ l ∧ (y : Int) ∈ l := by
  have h := foldP_facts hG.le ((pairsM a).filter (bothIn l)) (fun x hx => hG.ok x (List.mem_filter.1 hx).1)
  refine ⟨h.1, fun x y => ?_⟩
  unfold Rel withinM
  rw [h.2 x y, decide_eq_true_eq, List.mem_filter, mem_pairsM]
  unfold bothIn
  simp

end Go.Proofs.Ytbeigdbljepfkaa

namespace Go.Proofs.Ytbeigdbljepfkaa
open Go.RowKit
set_option linter.unusedVariables false

section
variable {P : Program} {ops : Array Oper} {md : Region.Mode} {Q : Exit → Act → World → Prop} {S : World → Prop}

def wpAnyS (S : World → Prop) (P : Program) (md : Region.Mode) (ops : Array Oper) (Q : Exit → Act → World → Prop) : Nat → Array Bool → Act → World → Prop
  | 0, listed, a, w => Region.ready md ops listed = [] ∧ Q .normal a w
  | f + 1, listed, a, w => Region.ready md ops listed ≠ [] ∧ ∀ i ∈ Region.ready md ops listed, wpOp P ops Q i (fun a' w' => S w' ∧ wpAnyS S P md ops Q f (listed.setIfInBounds i true) a' w') a w
theorem wpAny_of_S : ∀ (f : Nat) (listed : Array Bool) (a : Act) (w : World), wpAnyS S P md ops Q f listed a w → wpAny P md ops Q f listed a w
  | 0, _, _, _, h => h
  | f + 1, listed, a, w, h => ⟨fun h0 => absurd h0 h.1, fun i hi => wpOp_mono (fun a' w' h' => wpAny_of_S f _ a' w' h'.2) (h.2 i hi)⟩

theorem wpAnyS_first {i : Nat} {oi : Oper} {v : Value} (hi : ops[i]? = some oi) (hsel : ∀ (j : Nat) (o : Oper) cs b, ops[j]? = some o → o.op ≠ .select cs b)
    (hQ : ∀ c a w, Q (.panic c) (a.put oi.dst v) w → Q (.panic c) a w) :
    ∀ (f : Nat) (listed : Array Bool) (a : Act) (w : World), S w →
      (∀ j oj, ops[j]? = some oj → j ≠ i → listed.getD j true = false → (∀ e ∈ oj.after, Region.binds md e = true → e.on ≠ i) → oi.apart ops oj = true) →
      i ∈ Region.ready md ops listed → YieldsIf P ops S oi v a →
      wpAnyS S P md ops Q f (listed.setIfInBounds i true) (a.put oi.dst v) w → wpAnyS S P md ops Q (f + 1) listed a w := by
  intro f
  induction f with
  | zero =>
    intro listed a w hS _ hr hy H
    refine ⟨fun h => (by rw [h] at hr; cases hr), fun j hj => ?_⟩
    by_cases hji : j = i
    · subst hji; exact hy.wpOp hi hS ⟨hS, H⟩
    · have h1 := ready_mono hj hji
      rw [H.1] at h1
      cases h1
  | succ f ih =>
    intro listed a w hS hfree hr hy H
    have hun := (mem_ready.1 hr).1
    refine ⟨fun h => (by rw [h] at hr; cases hr), fun j hj => ?_⟩
    by_cases hji : j = i
    · subst hji; exact hy.wpOp hi hS ⟨hS, H⟩
    · have h1 := H.2 j (ready_mono hj hji)
      obtain ⟨hjun, oj, hoj, hall⟩ := mem_ready.1 hj
      have hnot : ∀ e ∈ oj.after, Region.binds md e = true → e.on ≠ i := fun e he hb heq => by
        have h1 := hall e he hb
        rw [heq, getD_both hun] at h1
        cases h1
      have h2 := wpOp_putIf hoj (hfree j oj hoj hji hjun hnot) (fun cs b => hsel i oi cs b hi) (fun cs b => hsel j oj cs b hoj) hQ hy h1
      have hfree' : ∀ k ok, ops[k]? = some ok → k ≠ i → (listed.setIfInBounds j true).getD k true = false →
          (∀ e ∈ ok.after, Region.binds md e = true → e.on ≠ i) → oi.apart ops ok = true := fun k ok hk hki hun hno => by
        refine hfree k ok hk hki ?_ hno
        by_cases hjk : j = k
        · subst hjk; exact hjun
        · rw [getD_set_ne true hjk] at hun; exact hun
      refine wpOp_mono (fun a' w' h3 => ⟨h3.2.1, ih (listed.setIfInBounds j true) a' w' h3.2.1 hfree' (ready_mono hr (Ne.symm hji)) h3.1 ?_⟩) h2
      rw [Array.setIfInBounds_comm _ _ hji]
      exact h3.2.2

/-- a tree of orders -/
inductive PT where
  | done
  | flt (i : Nat) (t : PT)
  | one (i : Nat) (t : PT)
  | two (i j : Nat) (ti tj : PT)
  | three (i j k : Nat) (ti tj tk : PT)
def PT.depth : PT → Nat
  | .done => 0
  | .flt _ t => t.depth + 1
  | .one _ t => t.depth + 1
  | .two _ _ t _ => t.depth + 1
  | .three _ _ _ t _ _ => t.depth + 1
def PT.ok (md : Region.Mode) (ops : Array Oper) : PT → Array Bool → Bool
  | .done, listed => (Region.ready md ops listed).isEmpty
  | .flt i t, listed => (Region.ready md ops listed).contains i && Region.free md ops listed i && t.ok md ops (listed.setIfInBounds i true)
  | .one i t, listed => decide (Region.ready md ops listed = [i]) && t.ok md ops (listed.setIfInBounds i true)
  | .two i j t u, listed => decide (Region.ready md ops listed = [i, j]) && decide (t.depth = u.depth) && t.ok md ops (listed.setIfInBounds i true) && u.ok md ops (listed.setIfInBounds j true)
  | .three i j k t u v, listed => decide (Region.ready md ops listed = [i, j, k]) && (decide (t.depth = u.depth) && decide (t.depth = v.depth)) && t.ok md ops (listed.setIfInBounds i true) && u.ok md ops (listed.setIfInBounds j true) && v.ok md ops (listed.setIfInBounds k true)
def wpPT (S : World → Prop) (P : Program) (ops : Array Oper) (Q : Exit → Act → World → Prop) : PT → Act → World → Prop
  | .done, a, w => Q .normal a w
  | .flt i t, a, w => ∃ o v, ops[i]? = some o ∧ YieldsIf P ops S o v a ∧ wpPT S P ops Q t (a.put o.dst v) w
  | .one i t, a, w => wpOp P ops Q i (fun a' w' => S w' ∧ wpPT S P ops Q t a' w') a w
  | .two i j t u, a, w => wpOp P ops Q i (fun a' w' => S w' ∧ wpPT S P ops Q t a' w') a w ∧ wpOp P ops Q j (fun a' w' => S w' ∧ wpPT S P ops Q u a' w') a w
  | .three i j k t u v, a, w => wpOp P ops Q i (fun a' w' => S w' ∧ wpPT S P ops Q t a' w') a w ∧ wpOp P ops Q j (fun a' w' => S w' ∧ wpPT S P ops Q u a' w') a w ∧ wpOp P ops Q k (fun a' w' => S w' ∧ wpPT S P ops Q v a' w') a w

theorem wpAnyS_tree (hsel : Region.noSelect ops = true) (hQ : ∀ c a d v w, Q (.panic c) (a.put d v) w → Q (.panic c) a w) :
    ∀ (t : PT) (listed : Array Bool) (a : Act) (w : World), S w → t.ok md ops listed = true → wpPT S P ops Q t a w → wpAnyS S P md ops Q t.depth listed a w
  | .done, listed, a, w, _, hB, h => ⟨by simpa [PT.ok] using hB, h⟩
  | .flt i t, listed, a, w, hS, hB, h => by
    simp only [PT.ok, Bool.and_eq_true] at hB
    obtain ⟨⟨hr, hf⟩, hB'⟩ := hB
    obtain ⟨o, v, ho, hy, h'⟩ := h
    exact wpAnyS_first ho (Region.noSelect_spec hsel) (fun c a w => hQ c a o.dst v w) t.depth listed a w hS (Region.free_spec ho hf) (by simpa using hr) hy (wpAnyS_tree hsel hQ t _ _ _ hS hB' h')
  | .one i t, listed, a, w, hS, hB, h => by
    simp only [PT.ok, Bool.and_eq_true, decide_eq_true_eq] at hB
    refine ⟨by rw [hB.1]; simp, fun j hj => ?_⟩
    rw [hB.1] at hj
    have hji : j = i := by simpa using hj
    subst hji
    exact wpOp_mono (fun a' w' h3 => ⟨h3.1, wpAnyS_tree hsel hQ t _ a' w' h3.1 hB.2 h3.2⟩) h
  | .two i k t u, listed, a, w, hS, hB, h => by
    simp only [PT.ok, Bool.and_eq_true, decide_eq_true_eq] at hB
    obtain ⟨⟨⟨hr, hd⟩, h1⟩, h2⟩ := hB
    refine ⟨by rw [hr]; simp, fun j hj => ?_⟩
    rw [hr] at hj
    have hjik : j = i ∨ j = k := by simpa using hj
    rcases hjik with rfl | rfl
    · exact wpOp_mono (fun a' w' h3 => ⟨h3.1, wpAnyS_tree hsel hQ t _ a' w' h3.1 h1 h3.2⟩) h.1
    · refine wpOp_mono (fun a' w' h3 => ⟨h3.1, ?_⟩) h.2
      rw [hd]
      exact wpAnyS_tree hsel hQ u _ a' w' h3.1 h2 h3.2
  | .three i j k t u v, listed, a, w, hS, hB, h => by
    simp only [PT.ok, Bool.and_eq_true, decide_eq_true_eq] at hB
    obtain ⟨⟨⟨⟨hr, hd, hd2⟩, h1⟩, h2⟩, h3⟩ := hB
    refine ⟨by rw [hr]; simp, fun q hq => ?_⟩
    rw [hr] at hq
    have hqs : q = i ∨ q = j ∨ q = k := by simpa using hq
    rcases hqs with rfl | rfl | rfl
    · exact wpOp_mono (fun a' w' h3' => ⟨h3'.1, wpAnyS_tree hsel hQ t _ a' w' h3'.1 h1 h3'.2⟩) h.1
    · refine wpOp_mono (fun a' w' h3' => ⟨h3'.1, ?_⟩) h.2.1
      rw [hd]
      exact wpAnyS_tree hsel hQ u _ a' w' h3'.1 h2 h3'.2
    · refine wpOp_mono (fun a' w' h3' => ⟨h3'.1, ?_⟩) h.2.2
      rw [hd2]
      exact wpAnyS_tree hsel hQ v _ a' w' h3'.1 h3 h3'.2

theorem wp_region_tree {id : Nat} {a : Act} {w : World} {l : List Oper} (t : PT) (hm : P.follows .mixedOrders = true) (hB : (Region.noSelect l.toArray && decide (t.depth = l.toArray.size) && t.ok .any l.toArray (Array.replicate l.toArray.size false)) = true)
    (h : ∀ W : World, Hid (W = w.drew) → wpPT (fun x => Below W.heap.size W x) P l.toArray (NoPanic Q) t a W) : (Code.region id l.toArray true).wp P Q a w := by
  refine wp_region_noPanic ?_
  have hQ : ∀ c a d v w, NoPanic Q (.panic c) (a.put d v) w → NoPanic Q (.panic c) a w := fun _ _ _ _ _ h => h
  simp only [Bool.and_eq_true, decide_eq_true_eq] at hB
  obtain ⟨⟨hsel, hd⟩, hok⟩ := hB
  refine wp_region_any hm ?_
  have H := wpAny_of_S _ _ _ _ (wpAnyS_tree (md := .any) hsel hQ t _ a w.drew (Below.refl _ _) hok (h w.drew (Lib.hid rfl)))
  rw [hd] at H
  exact H

/-! ### the steps -/
section
variable {W : World} {t u : PT} {a : Act} {w : World} {i j : Nat} {o : Oper}
theorem wpPT_float {v : Value} (hi : ops[i]? = some o) (hw : Region.wanted o (yielded ops a.tmps) = true)
    (hy : ∀ w' : World, (∀ p, (W.cell? p).isSome = true → w'.cell? p = W.cell? p) → (execOp a.eval o).run P w' = .ok (.value v) w') (h : ∀ K : Act → Prop, (∀ a', wpPT (fun x => Below W.heap.size W x) P ops Q t a' w → K a') → K (a.put o.dst v)) : wpPT (fun x => Below W.heap.size W x) P ops Q (.flt i t) a w :=
  ⟨o, v, hi, .inl ⟨hw, fun w' hb => hy w' (fun p hp => by
    have hlt : p.block < W.heap.size := by
      cases hc : W.cell? p with
      | none => rw [hc] at hp; cases hp
      | some u => exact block_lt_of_cell hc
    exact hb.cell hlt)⟩, h _ (fun _ h => h)⟩
theorem wpOp_step {K0 : Act → World → Prop} (hi : ops[i]? = some o) (hw : Region.wanted o (yielded ops a.tmps) = true)
    (h : ∀ K : Act → World → Prop, (∀ a' w', S w' → K0 a' w' → K a' w') → o.wp P a w K Q) : wpOp P ops Q i (fun a' w' => S w' ∧ K0 a' w') a w := by
  unfold wpOp
  simp only [hi, hw, if_true]
  exact .inl (h _ (fun a' w' hb hp => ⟨hb, hp⟩))
theorem wpPT_one (hi : ops[i]? = some o) (hw : Region.wanted o (yielded ops a.tmps) = true)
    (h : ∀ K : Act → World → Prop, (∀ a' w', S w' → wpPT S P ops Q t a' w' → K a' w') → o.wp P a w K Q) : wpPT S P ops Q (.one i t) a w := wpOp_step hi hw h
theorem wpPT_two {o' : Oper} (hi : ops[i]? = some o) (hw : Region.wanted o (yielded ops a.tmps) = true) (hj : ops[j]? = some o') (hw' : Region.wanted o' (yielded ops a.tmps) = true)
    (h : ∀ K : Act → World → Prop, (∀ a' w', S w' → wpPT S P ops Q t a' w' → K a' w') → o.wp P a w K Q)
    (h' : ∀ K : Act → World → Prop, (∀ a' w', S w' → wpPT S P ops Q u a' w' → K a' w') → o'.wp P a w K Q) : wpPT S P ops Q (.two i j t u) a w := ⟨wpOp_step hi hw h, wpOp_step hj hw' h'⟩
theorem wpPT_done (h : Q .normal a w) : wpPT S P ops Q .done a w := h
end
end
end Go.Proofs.Ytbeigdbljepfkaa

namespace Go.Proofs.Ytbeigdbljepfkaa
open Go.RowKit
set_option linter.unusedVariables false
theorem foldP_len1024 {n : Nat} (hn : n ≤ 4096) (ps : List (Int × Int)) : ∀ xs ∈ foldP n ps, xs.length ≤ 1024 := poM_len hn ps
set_option maxRecDepth 100000 in
set_option maxHeartbeats 2000000 in
theorem ref13_Rf (v : FV) (f : Fac) (w : World) (hF : FactsAt w v f) (hm : v.m ≤ 4096) (hw : WholeF f) :
    Calls Try.prog 37 #[.agg #[.slice v.A v.n v.c, .slice v.B v.m v.d, .slice v.C v.k v.e]] w (RetMat1F (v.m : Int) (rfM f.items.length f.frm) w) := by
  have hil := hF.is.len
  have hfl := hF.fs.len
  have hkv : v.k = v.m := by rw [← hil, ← hfl]; exact hw.len
  rw [show rfM f.items.length f.frm = foldP v.m (rfPs f.frm v.m) from by unfold rfM; rw [hil, hfl, hkv]]
  have hlt' := hw.lt
  rw [hil] at hlt'
  replace hlt' := Lib.hid hlt'
  have cN := Lib.hid (ref3_NewF v.m hm)
  replace hil := Lib.hid hil
  replace hfl := Lib.hid hfl
  replace hkv := Lib.hid hkv
  -- a call with facts v: they are boxed at g, the world is W0 then
  have hB0 := Lib.hid (FBox.new hF)
  obtain ⟨g, hg⟩ : ∃ g, g = w.heap.size := ⟨_, rfl⟩
  obtain ⟨W0, hW0⟩ : ∃ W, W = w.alloc (.cells #[.slice v.A v.n v.c, .slice v.B v.m v.d, .slice v.C v.k v.e] 29) := ⟨_, rfl⟩
  rw [← hW0, ← hg] at hB0
  clear hF
  obtain ⟨gr, hgr⟩ : ∃ g, g = W0.heap.size := ⟨_, rfl⟩
  obtain ⟨W1, hW1⟩ : ∃ W, W = W0.alloc (.cells #[.int .i64 0, .slice none 0 0] 34) := ⟨_, rfl⟩
  have b1 : Below W0.heap.size W0 W1 := by rw [hW1]; exact (Below.refl _ _).alloc (Nat.le_refl _) _
  have kR : MatB W1 gr 34 0 none 0 0 := by rw [hW1, hgr]; exact MatB.new W0 _
  have hB1 := Lib.hid (hB0.out.later b1)
  have p0 := hB1.out.c0
  have p1 := hB1.out.c1
  have p2 := hB1.out.c2
  go_enter Try.func37, Try.ntmps37
  go_wp2_with (first | (rw [← hW0, ← hg]; clear hW0 hg) | (rw [← hW1, ← hgr]; clear hW1))
  refine (cN.out _).mono ?_; rintro e w2 ⟨C, p, q, rfl, hrows, hcap, b2, hfar⟩
  have hpn : p = v.m := by rw [← hrows.len]; exact (DimM.new v.m).1
  subst hpn
  obtain ⟨M, hM⟩ : ∃ M, M = w2.heap.size := ⟨_, rfl⟩
  obtain ⟨W2, hW2⟩ : ∃ W2, W2 = w2.alloc (.cells #[.int .i64 v.m, .slice C v.m q] 34) := ⟨_, rfl⟩
  have b3 : Below w2.heap.size w2 W2 := by rw [hW2]; exact (Below.refl _ _).alloc (Nat.le_refl _) _
  have hbb := Lib.hid (below_trans2 (below_trans2 b1 b2) b3)
  have hMV := Lib.hid (show MV W2 M v.m C q (foldP v.m (rfPs f.frm 0)) from ⟨by rw [hW2, hM]; exact MatB.new w2 _, by rw [show rfPs f.frm 0 = [] from rfl, foldP_nil]; exact hrows.below b3, hcap, fun h0 ad e => by have := hrows.block_lt h0 ad e; omega⟩)
  have hgrM : gr < M := by have := kR.lt; have := b2.size; omega
  have kR2 := Lib.hid ((kR.below_ b2).below_ b3)
  have hgW : W0.heap.size ≤ gr := by omega
  have hAf := Lib.hid (show ∀ ad, C = some ad → gr < ad.block from fun ad e => by have := hfar ad e; have := kR.lt; omega)
  replace hgr := Lib.hid hgr
  clear hrows hcap b2 b3 hfar kR b1 hB1 p0 p1 p2 cN
  go_wp2_with (rw [← hW2, ← hM]; clear hW2; replace hM := Lib.hid hM)
  go_loopw [5] (fun t wr => ∃ (i : Nat) (A : Option Addr) (c : Nat), i ≤ v.m ∧ t = .int .i64 i ∧ Hid (Below W0.heap.size W0 wr) ∧ Hid (MatB wr gr 34 0 none 0 0) ∧ Hid (MV wr M v.m A c (foldP v.m (rfPs f.frm i))) ∧ Hid (∀ ad, A = some ad → gr < ad.block)) (fun t _ => v.m - (intOf t).toNat)
  case atStart => exact ⟨0, _, _, Nat.zero_le _, rfl, hbb, kR2, hMV, hAf⟩
  case round =>
    clear hbb kR2 hMV hAf
    obtain ⟨i, A, c, hi, rfl, hbb, kR, hMV, hAf⟩ := hrel
    have hB := Lib.hid (hB0.out.later hbb.out)
    by_cases hlt : i < v.m
    · have hik : (i : Int) < (v.k : Int) := by have := hkv.out; omega
      have p0 := hB.out.c0
      have p1 := hB.out.c1
      have p2 := hB.out.c2
      obtain ⟨ib, io, z, hzC, hib, hz, hzo, j0⟩ := hB.out.f.fs.int (show i < v.k by have := hkv.out; omega)
      rw [hzC] at p2
      have hgd : f.frm.getD i 0 = z := by rw [List.getD_eq_getElem?_getD, hz]; rfl
      have hrs := rfPs_succ f.frm i
      rw [hgd] at hrs
      have hzm : z < (v.m : Int) := hlt'.out z (List.mem_of_getElem? hz)
      replace hgd := Lib.hid hgd
      by_cases hz0 : 0 ≤ z
      · rw [if_pos hz0] at hrs
        have e0 : decide (0 ≤ z) = true := decide_eq_true hz0
        have cS := fun W (hW : RowsAt W A v.m (foldP v.m (rfPs f.frm i))) => ref3_SetF (v.m : Int) A v.m c _ z (i : Int) W hW rfl hm (foldP_len1024 hm _) (by unfold inM; simp; omega)
        replace cS := Lib.hid cS
        replace hrs := Lib.hid hrs
        replace hz := Lib.hid hz
        clear hzo hzC hib
        go_wp2_with fail
        refine wp_region_planT 9 [(true, 0), (true, 1), (true, 2), (true, 3), (true, 4), (true, 5), (true, 6), (false, 7), (true, 8)] 11 [9, 10] (by kernel_rfl) (by kernel_rfl) (fun W hW => ?_)
        have hWb : Below wr.heap.size wr W := by rw [hW.out]; exact (Below.refl _ _).drew
        replace hbb := Lib.hid (below_trans2 hbb.out hWb)
        replace kR := Lib.hid (kR.out.below_ hWb)
        replace hMV := Lib.hid (hMV.out.later hWb)
        replace hB := Lib.hid (hB.out.later hWb)
        clear p0 p1 p2 j0 hW hWb
        have p0 := hB.out.c0
        have p1 := hB.out.c1
        have p2 := hB.out.c2
        obtain ⟨ib', io', z', hzC, hib, hz', hzo, j0⟩ := hB.out.f.fs.int (show i < v.k by have := hkv.out; omega)
        rw [hz.out] at hz'
        injection hz' with hz'
        subst hz'
        rw [hzC] at p2
        have m0 := hMV.out.loc.c0
        have m1 := hMV.out.loc.c1
        clear hzo hib hzC
        simp only [List.drop_succ_cons, List.drop_zero]
        iterate 7
          refine wpPlanE_float (v := ?_) rfl (by rfl) (fun w' hw' => ?_) (fun K hK => ?_)
          rotate_left
          · (go_simp; try with_reducible rfl)
          go_simp
          refine hK _ ?_
          clear hK K
        refine wpPlanE_only rfl (by rfl) (fun K hK => ?_)
        go_simp
        refine (cS.out W hMV.out.rows).mono ?_
        rintro e w4 ⟨C2, n2, c2, rfl, hrows2, hcap2, b4, hfar2⟩
        have hn2 : n2 = v.m := by
          have h1 := hrows2.len
          rw [← foldP_last v.m (rfPs f.frm i) (z, (i : Int))] at h1
          rw [← h1]; exact (DimM.fold v.m _).1
        subst hn2
        refine hK _ _ b4 ?_
        clear hK K p0 p1 p2 j0 m0 m1
        have hMV4 := Lib.hid (hMV.out.put b4 hrows2 hcap2 hfar2)
        have hAf4 := Lib.hid (show ∀ ad, C2 = some ad → gr < ad.block from fun ad e => by have := hfar2 ad e; have := kR.out.lt; omega)
        have kM := hMV.out.loc.below_ b4
        have hbb4 := Lib.hid (((below_trans2 hbb.out b4).setCell (p := ⟨M, 0, none⟩) (by show W0.heap.size ≤ M; omega) (.int .i64 (v.m : Int))).setCell (p := ⟨M, 1, none⟩) (by show W0.heap.size ≤ M; omega) (.slice C2 v.m c2))
        have kR4 := Lib.hid (((kR.out.below_ b4).farB (p := ⟨M, 0, none⟩) (by show gr ≠ M; omega) (.int .i64 (v.m : Int))).farB (p := ⟨M, 1, none⟩) (by show gr ≠ M; omega) (.slice C2 v.m c2))
        clear cS hrows2 hfar2 b4
        iterate 1
          refine wpPlanE_float (v := ?_) rfl (by rfl) (fun w' hw' => ?_) (fun K hK => ?_)
          rotate_left
          · (go_simp; try with_reducible rfl)
          go_simp
          refine hK _ ?_
          clear hK K
        refine wpPlanE_nil ?_
        iterate 2
          refine wpPlanT_float (v := ?_) rfl (by rfl) (fun w' => ?_) (fun K hK => ?_)
          rotate_left
          · (go_simp; try with_reducible rfl)
          go_simp
          refine hK _ ?_
          clear hK K
        refine wpPlanT_nil ?_
        have m0 := kM.c0
        have m1 := kM.c1
        have g0 := kM.frozen 0
        have g1 := kM.frozen 1
        clear kM
        go_wp2_with fail
        refine NoPanic.normal ?_
        go_wp2_with fail
        go_roundw
        case rel => exact ⟨i + 1, C2, c2, by omega, by go_num, hbb4, kR4, Lib.hid (by rw [hrs.out, foldP_last]; exact hMV4.out), hAf4⟩
        case measure => simp [intOf]; omega
      · rw [if_neg hz0] at hrs
        have e0 : decide (0 ≤ z) = false := decide_eq_false hz0
        replace hrs := Lib.hid hrs
        clear hzC hz hzo
        go_wp2_with fail
        exact ⟨⟨i + 1, A, c, by omega, by go_num, hbb, kR, Lib.hid (by rw [hrs.out]; exact hMV.out), hAf⟩, by simp [intOf]; omega⟩
    · have hik : ¬ (i : Int) < (v.k : Int) := by have := hkv.out; omega
      have him : i = v.m := by omega
      rw [him] at hMV
      replace him := Lib.hid him
      have p2 := hB.out.c2
      have m0 := hMV.out.loc.c0
      have m1 := hMV.out.loc.c1
      have f0 := kR.out.c0
      have f1 := kR.out.c1
      have g0 := kR.out.frozen 0
      have g1 := kR.out.frozen 1
      have hcc := kR.out.two (.int .i64 (v.m : Int)) (.slice A v.m c)
      have hc1 := Lib.hid hcc.1
      have hc2 := Lib.hid hcc.2
      have hrf := Lib.hid (show RowsAt ((wr.setCell ⟨gr, 0, none⟩ (.int .i64 (v.m : Int))).setCell ⟨gr, 1, none⟩ (.slice A v.m c)) A v.m (foldP v.m (rfPs f.frm v.m)) from hMV.out.rows.putB kR.out (fun h0 ad e hb => by have := hAf.out ad e; omega) _ _)
      have hbf := Lib.hid (((below_trans2 hB0.out.o hbb.out).setCell (p := ⟨gr, 0, none⟩) (by have := hB0.out.o.size; show w.heap.size ≤ gr; omega) (.int .i64 (v.m : Int))).setCell (p := ⟨gr, 1, none⟩) (by have := hB0.out.o.size; show w.heap.size ≤ gr; omega) (.slice A v.m c))
      clear hcc hlt
      go_wp2_with fail
      exact bodyPost_ret (v := .agg #[.int .i64 (v.m : Int), .slice A v.m c]) (by simp [results, Try.results37, go_sem, hc1.out, hc2.out]) rfl ⟨A, v.m, c, rfl, hrf.out, hMV.out.cap, hbf.out, fun ad e => by have := hAf.out ad e; have := hB0.out.o.size; omega⟩
end Go.Proofs.Ytbeigdbljepfkaa

namespace Go.Proofs.Ytbeigdbljepfkaa
open Go.RowKit
set_option linter.unusedVariables false
theorem rows_len_pos {n : Nat} {xss : List (List Nat)} (h : Good n xss) (hn : 0 < n) : ∀ xs ∈ xss, 0 < xs.length := fun xs hx => by
  have := (h.row xs hx).2.1; omega
theorem RowsAt.farZ {w : World} {C : Option Addr} {p g : Nat} {t : TypeId} {xss : List (List Nat)} {N : Int} (h : RowsAt w C p xss) (hM : MatB w g t N none 0 0) (hl : ∀ xs ∈ xss, 0 < xs.length) : 0 < p → ∀ ad, C = some ad → ad.block ≠ g := by
  intro h0 ad e
  obtain ⟨b, off, B, m, d, xs, e2, _, hx, hc, hr⟩ := h.at_ h0
  rw [e] at e2
  cases e2
  intro hb
  have hb' : b = g := hb
  subst hb'
  rw [Blk.cell hM] at hc
  match off + 0, hc with
  | 0, hc => simp at hc
  | 1, hc =>
    simp at hc
    obtain ⟨rfl, rfl, rfl⟩ := hc
    have h1 := hr.len
    have := hl xs (List.mem_of_getElem? hx)
    omega
  | k + 2, hc => simp at hc
set_option maxRecDepth 100000 in
set_option maxHeartbeats 2000000 in
theorem ref13_Edges (v : FV) (f : Fac) (w : World) (hF : FactsAt w v f) (hm : v.m ≤ 4096) (hw : WholeF f) :
    Calls Try.prog 18 #[.agg #[.slice v.A v.n v.c, .slice v.B v.m v.d, .slice v.C v.k v.e]] w (RetMat1F (v.m : Int) (edgeM f) w) := by
  have hil := hF.is.len
  have gp := poM_good (is := f.items) (by omega)
  have gq := rfM_good hw (by omega)
  rw [hil] at gp gq
  obtain ⟨pm, hpm⟩ : ∃ m, m = poM f.items := ⟨_, rfl⟩
  obtain ⟨rm, hrm⟩ : ∃ m, m = rfM f.items.length f.frm := ⟨_, rfl⟩
  rw [hil] at hrm
  have cPo := fun W hW => ref12_Po v f W hW hm
  have cRf := fun W hW => ref13_Rf v f W hW hm hw
  unfold edgeM
  rw [hil] at cRf ⊢
  rw [← hpm] at gp cPo ⊢
  rw [← hrm] at gq cRf ⊢
  have hpl := Lib.hid gp.1.len
  have hrl := Lib.hid gq.1.len
  have hp24 := Lib.hid (show ∀ (i : Nat) (xs : List Nat), pm[i]? = some xs → xs.length ≤ 1024 from fun i xs h => Nat.le_trans (gp.1.small xs (List.mem_of_getElem? h)) (by decide))
  have hr24 := Lib.hid (show ∀ (i : Nat) (xs : List Nat), rm[i]? = some xs → xs.length ≤ 1024 from fun i xs h => Nat.le_trans (gq.1.small xs (List.mem_of_getElem? h)) (by decide))
  replace cPo := Lib.hid cPo
  replace cRf := Lib.hid cRf
  clear gp gq hpm hrm hil
  -- a call with facts v: they are boxed at g, the world is W0 then
  have hB0 := Lib.hid (FBox.new hF)
  obtain ⟨g, hg⟩ : ∃ g, g = w.heap.size := ⟨_, rfl⟩
  obtain ⟨W0, hW0⟩ : ∃ W, W = w.alloc (.cells #[.slice v.A v.n v.c, .slice v.B v.m v.d, .slice v.C v.k v.e] 29) := ⟨_, rfl⟩
  rw [← hW0, ← hg] at hB0
  clear hF
  obtain ⟨gr, hgr⟩ : ∃ g, g = W0.heap.size := ⟨_, rfl⟩
  obtain ⟨W1, hW1⟩ : ∃ W, W = W0.alloc (.cells #[.int .i64 0, .slice none 0 0] 34) := ⟨_, rfl⟩
  have b1 : Below W0.heap.size W0 W1 := by rw [hW1]; exact (Below.refl _ _).alloc (Nat.le_refl _) _
  have kR : MatB W1 gr 34 0 none 0 0 := by rw [hW1, hgr]; exact MatB.new W0 _
  have hB1 := Lib.hid (hB0.out.later b1)
  have hgw := Lib.hid (show w.heap.size ≤ gr from by rw [hgr]; exact hB0.out.o.size)
  go_enter Try.func18, Try.ntmps18
  go_wp2_with (first | (rw [← hW0, ← hg]; clear hW0 hg) | (rw [← hW1, ← hgr]; clear hW1; replace hgr := Lib.hid hgr))
  refine wp_region_tree (.flt 0 (.flt 2 (.two 1 8 (.two 3 8 (.two 4 8 (.flt 5 (.flt 6 (.flt 7 (.one 8 (.one 9 (.flt 10 .done)))))) (.one 4 (.flt 5 (.flt 6 (.flt 7 (.one 9 (.flt 10 .done))))))) (.one 3 (.one 4 (.flt 5 (.flt 6 (.flt 7 (.one 9 (.flt 10 .done)))))))) (.one 1 (.one 3 (.one 4 (.flt 5 (.flt 6 (.flt 7 (.one 9 (.flt 10 .done))))))))))) (by kernel_rfl) (by kernel_rfl) (fun U hU => ?_)
  have hkR := Lib.hid (show MatB U gr 34 0 none 0 0 from by rw [hU.out]; exact kR.below_ (Below.refl _ _).drew)
  have hBU := Lib.hid (show FBox w g v f U from by rw [hU.out]; exact hB1.out.later (Below.refl _ _).drew)
  clear hU hB1 b1 kR hB0
  have bW : Below U.heap.size U U := Below.refl _ _
  have p0 := hBU.out.c0
  have p1 := hBU.out.c1
  have p2 := hBU.out.c2
  iterate 2
    refine wpPT_float (v := ?_) rfl (by rfl) (fun w' hw' => ?_) (fun K hK => ?_)
    rotate_left
    · (go_simp; try with_reducible rfl)
    go_simp
    refine hK _ ?_
    clear hK K
  clear p0 p1 p2
  refine wpPT_two rfl (by rfl) rfl (by rfl) (fun K hK => ?_) (fun K hK => ?_)
  · skip
    go_simp
    -- a call's matrix r1 : RowsAt, in the world U; the new world is v1
    refine (cPo.out U (hBU.out.later bW).f).mono ?_; rintro e v1 ⟨A1, n1, c1, rfl, r1, hc1, b, -⟩
    obtain rfl : n1 = v.m := by rw [← r1.len]; exact hpl.out
    replace bW := below_trans2 bW b
    refine hK _ _ bW ?_
    clear hK K
    replace r1 := Lib.hid r1
    clear b
    refine wpPT_two rfl (by rfl) rfl (by rfl) (fun K hK => ?_) (fun K hK => ?_)
    · skip
      go_simp
      -- a call's matrix r2 : RowsAt, in the world v1; the new world is v2
      refine (cRf.out v1 (hBU.out.later bW).f).mono ?_; rintro e v2 ⟨A2, n2, c2, rfl, r2, hc2, b, -⟩
      obtain rfl : n2 = v.m := by rw [← r2.len]; exact hrl.out
      replace bW := below_trans2 bW b
      refine hK _ _ bW ?_
      clear hK K
      replace r2 := Lib.hid r2
      replace r1 := Lib.hid (r1.out.below b)
      clear b
      refine wpPT_two rfl (by rfl) rfl (by rfl) (fun K hK => ?_) (fun K hK => ?_)
      · skip
        have cE := Lib.hid (ref3_OrF A1 A2 v.m c1 c2 pm rm v2 r1.out r2.out hm hp24.out hr24.out)
        go_simp
        refine cE.out.mono ?_; rintro e v3 ⟨A3, n3, c3, rfl, r3, hc3, b, hfar⟩
        obtain rfl : n3 = v.m := by rw [← r3.len, orM_len]; exact hpl.out
        have hfz3 := hfar
        replace hfar : ∀ ad, A3 = some ad → U.heap.size ≤ ad.block := fun ad e => Nat.le_trans bW.size (hfar ad e)
        replace bW := below_trans2 bW b
        refine hK _ _ bW ?_
        clear hK K cE r1 r2
        clear b
        iterate 3
          refine wpPT_float (v := ?_) rfl (by rfl) (fun w' hw' => ?_) (fun K hK => ?_)
          rotate_left
          · (go_simp; try with_reducible rfl)
          go_simp
          refine hK _ ?_
          clear hK K
        refine wpPT_one rfl (by rfl) (fun K hK => ?_)
        go_simp
        obtain ⟨M, hM⟩ : ∃ M, M = (World.heap v3).size := ⟨_, rfl⟩
        obtain ⟨v4, hw⟩ : ∃ X : World, X = World.alloc v3 (.cells #[.int .i64 0, .slice none 0 0] 34) := ⟨_, rfl⟩
        rw [← hw, ← hM]
        have b : Below (World.heap v3).size v3 v4 := by rw [hw]; exact below_alloc _ _
        have hUM : U.heap.size ≤ M := by rw [hM]; exact bW.size
        replace bW := below_trans2 bW b
        refine hK _ _ bW ?_
        clear hK K
        have kM := Lib.hid (show MatB v4 M 34 0 none 0 0 from by rw [hw, hM]; exact MatB.new _ _)
        have hne : 0 < v.m → ∀ ad, A3 = some ad → ad.block ≠ M := fun h0 ad e => by have := r3.block_lt h0 ad e; omega
        replace r3 := r3.below b
        clear b
        clear hw hM
        -- M holds the zero matrix in v4; the rows lie apart from it (hne)
        have f0 := kM.out.c0
        have f1 := kM.out.c1
        have g0 := kM.out.frozen 0
        have g1 := kM.out.frozen 1
        refine wpPT_one rfl (by rfl) (fun K hK => ?_)
        go_simp
        obtain ⟨wz, hw⟩ : ∃ X : World, X = (World.setCell v4 ⟨M, 0, none⟩ (.int .i64 (v.m : Int))).setCell ⟨M, 1, none⟩ (.slice A3 v.m c3) := ⟨_, rfl⟩
        rw [← hw]
        have r4 := Lib.hid (show RowsAt wz A3 v.m (orM pm rm) from by rw [hw]; exact r3.putB kM.out hne _ _)
        have k4 := Lib.hid (show MatB wz M 34 (v.m : Int) A3 v.m c3 from by rw [hw]; exact kM.out.put _ _ _ _)
        replace bW : Below U.heap.size U wz := by rw [hw]; exact (bW.setCell (p := ⟨M, 0, none⟩) hUM _).setCell (p := ⟨M, 1, none⟩) hUM _
        refine hK _ _ bW ?_
        clear hK K f0 f1 g0 g1 hw r3 kM
        iterate 1
          refine wpPT_float (v := ?_) rfl (by rfl) (fun w' hw' => ?_) (fun K hK => ?_)
          rotate_left
          · (go_simp; try with_reducible rfl)
          go_simp
          refine hK _ ?_
          clear hK K
        refine wpPT_done (NoPanic.normal ?_)
        have kR4 := hkR.out.below_ bW
        have m0 := k4.out.c0
        have m1 := k4.out.c1
        have f0 := kR4.c0
        have f1 := kR4.c1
        have g0 := kR4.frozen 0
        have g1 := kR4.frozen 1
        have hcc := kR4.two (.int .i64 (v.m : Int)) (.slice A3 v.m c3)
        have hc1 := Lib.hid hcc.1
        have hc2 := Lib.hid hcc.2
        have hrf := Lib.hid (r4.out.putB kR4 (fun h0 ad e hb => by have := hfar ad e; have := hkR.out.lt; omega) (.int .i64 (v.m : Int)) (.slice A3 v.m c3))
        have hbf := Lib.hid (((below_trans2 hBU.out.o bW).setCell (p := ⟨gr, 0, none⟩) hgw.out (.int .i64 (v.m : Int))).setCell (p := ⟨gr, 1, none⟩) hgw.out (.slice A3 v.m c3))
        have hfz := Lib.hid (show ∀ ad, A3 = some ad → w.heap.size ≤ ad.block from fun ad e => Nat.le_trans hBU.out.o.size (hfar ad e))
        clear hcc bW hfar hne k4 r4
        go_wp2_with fail
        exact bodyPost_ret (v := .agg #[.int .i64 (v.m : Int), .slice A3 v.m c3]) (by simp [results, Try.results18, go_sem, hc1.out, hc2.out]) rfl ⟨A3, v.m, c3, rfl, hrf.out, hc3, hbf.out, hfz.out⟩
      · skip
        go_simp
        obtain ⟨M, hM⟩ : ∃ M, M = (World.heap v2).size := ⟨_, rfl⟩
        obtain ⟨v5, hw⟩ : ∃ X : World, X = World.alloc v2 (.cells #[.int .i64 0, .slice none 0 0] 34) := ⟨_, rfl⟩
        rw [← hw, ← hM]
        have b : Below (World.heap v2).size v2 v5 := by rw [hw]; exact below_alloc _ _
        have hUM : U.heap.size ≤ M := by rw [hM]; exact bW.size
        replace bW := below_trans2 bW b
        refine hK _ _ bW ?_
        clear hK K
        have kM := Lib.hid (show MatB v5 M 34 0 none 0 0 from by rw [hw, hM]; exact MatB.new _ _)
        replace r1 := Lib.hid (r1.out.below b)
        replace r2 := Lib.hid (r2.out.below b)
        clear b
        clear hw hM
        refine wpPT_one rfl (by rfl) (fun K hK => ?_)
        have cE := Lib.hid (ref3_OrF A1 A2 v.m c1 c2 pm rm v5 r1.out r2.out hm hp24.out hr24.out)
        go_simp
        refine cE.out.mono ?_; rintro e v6 ⟨A3, n3, c3, rfl, r3, hc3, b, hfar⟩
        obtain rfl : n3 = v.m := by rw [← r3.len, orM_len]; exact hpl.out
        have hfz3 := hfar
        replace hfar : ∀ ad, A3 = some ad → U.heap.size ≤ ad.block := fun ad e => Nat.le_trans bW.size (hfar ad e)
        replace bW := below_trans2 bW b
        refine hK _ _ bW ?_
        clear hK K cE r1 r2
        have hne : 0 < v.m → ∀ ad, A3 = some ad → ad.block ≠ M := fun h0 ad e => by have := hfz3 ad e; have := kM.out.lt; omega
        replace kM := Lib.hid (kM.out.below_ b)
        clear b
        iterate 3
          refine wpPT_float (v := ?_) rfl (by rfl) (fun w' hw' => ?_) (fun K hK => ?_)
          rotate_left
          · (go_simp; try with_reducible rfl)
          go_simp
          refine hK _ ?_
          clear hK K
        -- M holds the zero matrix in v6; the rows lie apart from it (hne)
        have f0 := kM.out.c0
        have f1 := kM.out.c1
        have g0 := kM.out.frozen 0
        have g1 := kM.out.frozen 1
        refine wpPT_one rfl (by rfl) (fun K hK => ?_)
        go_simp
        obtain ⟨wz, hw⟩ : ∃ X : World, X = (World.setCell v6 ⟨M, 0, none⟩ (.int .i64 (v.m : Int))).setCell ⟨M, 1, none⟩ (.slice A3 v.m c3) := ⟨_, rfl⟩
        rw [← hw]
        have r4 := Lib.hid (show RowsAt wz A3 v.m (orM pm rm) from by rw [hw]; exact r3.putB kM.out hne _ _)
        have k4 := Lib.hid (show MatB wz M 34 (v.m : Int) A3 v.m c3 from by rw [hw]; exact kM.out.put _ _ _ _)
        replace bW : Below U.heap.size U wz := by rw [hw]; exact (bW.setCell (p := ⟨M, 0, none⟩) hUM _).setCell (p := ⟨M, 1, none⟩) hUM _
        refine hK _ _ bW ?_
        clear hK K f0 f1 g0 g1 hw r3 kM
        iterate 1
          refine wpPT_float (v := ?_) rfl (by rfl) (fun w' hw' => ?_) (fun K hK => ?_)
          rotate_left
          · (go_simp; try with_reducible rfl)
          go_simp
          refine hK _ ?_
          clear hK K
        refine wpPT_done (NoPanic.normal ?_)
        have kR4 := hkR.out.below_ bW
        have m0 := k4.out.c0
        have m1 := k4.out.c1
        have f0 := kR4.c0
        have f1 := kR4.c1
        have g0 := kR4.frozen 0
        have g1 := kR4.frozen 1
        have hcc := kR4.two (.int .i64 (v.m : Int)) (.slice A3 v.m c3)
        have hc1 := Lib.hid hcc.1
        have hc2 := Lib.hid hcc.2
        have hrf := Lib.hid (r4.out.putB kR4 (fun h0 ad e hb => by have := hfar ad e; have := hkR.out.lt; omega) (.int .i64 (v.m : Int)) (.slice A3 v.m c3))
        have hbf := Lib.hid (((below_trans2 hBU.out.o bW).setCell (p := ⟨gr, 0, none⟩) hgw.out (.int .i64 (v.m : Int))).setCell (p := ⟨gr, 1, none⟩) hgw.out (.slice A3 v.m c3))
        have hfz := Lib.hid (show ∀ ad, A3 = some ad → w.heap.size ≤ ad.block from fun ad e => Nat.le_trans hBU.out.o.size (hfar ad e))
        clear hcc bW hfar hne k4 r4
        go_wp2_with fail
        exact bodyPost_ret (v := .agg #[.int .i64 (v.m : Int), .slice A3 v.m c3]) (by simp [results, Try.results18, go_sem, hc1.out, hc2.out]) rfl ⟨A3, v.m, c3, rfl, hrf.out, hc3, hbf.out, hfz.out⟩
    · skip
      go_simp
      obtain ⟨M, hM⟩ : ∃ M, M = (World.heap v1).size := ⟨_, rfl⟩
      obtain ⟨v7, hw⟩ : ∃ X : World, X = World.alloc v1 (.cells #[.int .i64 0, .slice none 0 0] 34) := ⟨_, rfl⟩
      rw [← hw, ← hM]
      have b : Below (World.heap v1).size v1 v7 := by rw [hw]; exact below_alloc _ _
      have hUM : U.heap.size ≤ M := by rw [hM]; exact bW.size
      replace bW := below_trans2 bW b
      refine hK _ _ bW ?_
      clear hK K
      have kM := Lib.hid (show MatB v7 M 34 0 none 0 0 from by rw [hw, hM]; exact MatB.new _ _)
      replace r1 := Lib.hid (r1.out.below b)
      clear b
      clear hw hM
      refine wpPT_one rfl (by rfl) (fun K hK => ?_)
      go_simp
      -- a call's matrix r2 : RowsAt, in the world v7; the new world is v8
      refine (cRf.out v7 (hBU.out.later bW).f).mono ?_; rintro e v8 ⟨A2, n2, c2, rfl, r2, hc2, b, -⟩
      obtain rfl : n2 = v.m := by rw [← r2.len]; exact hrl.out
      replace bW := below_trans2 bW b
      refine hK _ _ bW ?_
      clear hK K
      replace r2 := Lib.hid r2
      replace r1 := Lib.hid (r1.out.below b)
      replace kM := Lib.hid (kM.out.below_ b)
      clear b
      refine wpPT_one rfl (by rfl) (fun K hK => ?_)
      have cE := Lib.hid (ref3_OrF A1 A2 v.m c1 c2 pm rm v8 r1.out r2.out hm hp24.out hr24.out)
      go_simp
      refine cE.out.mono ?_; rintro e v9 ⟨A3, n3, c3, rfl, r3, hc3, b, hfar⟩
      obtain rfl : n3 = v.m := by rw [← r3.len, orM_len]; exact hpl.out
      have hfz3 := hfar
      replace hfar : ∀ ad, A3 = some ad → U.heap.size ≤ ad.block := fun ad e => Nat.le_trans bW.size (hfar ad e)
      replace bW := below_trans2 bW b
      refine hK _ _ bW ?_
      clear hK K cE r1 r2
      have hne : 0 < v.m → ∀ ad, A3 = some ad → ad.block ≠ M := fun h0 ad e => by have := hfz3 ad e; have := kM.out.lt; omega
      replace kM := Lib.hid (kM.out.below_ b)
      clear b
      iterate 3
        refine wpPT_float (v := ?_) rfl (by rfl) (fun w' hw' => ?_) (fun K hK => ?_)
        rotate_left
        · (go_simp; try with_reducible rfl)
        go_simp
        refine hK _ ?_
        clear hK K
      -- M holds the zero matrix in v9; the rows lie apart from it (hne)
      have f0 := kM.out.c0
      have f1 := kM.out.c1
      have g0 := kM.out.frozen 0
      have g1 := kM.out.frozen 1
      refine wpPT_one rfl (by rfl) (fun K hK => ?_)
      go_simp
      obtain ⟨wz, hw⟩ : ∃ X : World, X = (World.setCell v9 ⟨M, 0, none⟩ (.int .i64 (v.m : Int))).setCell ⟨M, 1, none⟩ (.slice A3 v.m c3) := ⟨_, rfl⟩
      rw [← hw]
      have r4 := Lib.hid (show RowsAt wz A3 v.m (orM pm rm) from by rw [hw]; exact r3.putB kM.out hne _ _)
      have k4 := Lib.hid (show MatB wz M 34 (v.m : Int) A3 v.m c3 from by rw [hw]; exact kM.out.put _ _ _ _)
      replace bW : Below U.heap.size U wz := by rw [hw]; exact (bW.setCell (p := ⟨M, 0, none⟩) hUM _).setCell (p := ⟨M, 1, none⟩) hUM _
      refine hK _ _ bW ?_
      clear hK K f0 f1 g0 g1 hw r3 kM
      iterate 1
        refine wpPT_float (v := ?_) rfl (by rfl) (fun w' hw' => ?_) (fun K hK => ?_)
        rotate_left
        · (go_simp; try with_reducible rfl)
        go_simp
        refine hK _ ?_
        clear hK K
      refine wpPT_done (NoPanic.normal ?_)
      have kR4 := hkR.out.below_ bW
      have m0 := k4.out.c0
      have m1 := k4.out.c1
      have f0 := kR4.c0
      have f1 := kR4.c1
      have g0 := kR4.frozen 0
      have g1 := kR4.frozen 1
      have hcc := kR4.two (.int .i64 (v.m : Int)) (.slice A3 v.m c3)
      have hc1 := Lib.hid hcc.1
      have hc2 := Lib.hid hcc.2
      have hrf := Lib.hid (r4.out.putB kR4 (fun h0 ad e hb => by have := hfar ad e; have := hkR.out.lt; omega) (.int .i64 (v.m : Int)) (.slice A3 v.m c3))
      have hbf := Lib.hid (((below_trans2 hBU.out.o bW).setCell (p := ⟨gr, 0, none⟩) hgw.out (.int .i64 (v.m : Int))).setCell (p := ⟨gr, 1, none⟩) hgw.out (.slice A3 v.m c3))
      have hfz := Lib.hid (show ∀ ad, A3 = some ad → w.heap.size ≤ ad.block from fun ad e => Nat.le_trans hBU.out.o.size (hfar ad e))
      clear hcc bW hfar hne k4 r4
      go_wp2_with fail
      exact bodyPost_ret (v := .agg #[.int .i64 (v.m : Int), .slice A3 v.m c3]) (by simp [results, Try.results18, go_sem, hc1.out, hc2.out]) rfl ⟨A3, v.m, c3, rfl, hrf.out, hc3, hbf.out, hfz.out⟩
  · skip
    go_simp
    obtain ⟨M, hM⟩ : ∃ M, M = (World.heap U).size := ⟨_, rfl⟩
    obtain ⟨v10, hw⟩ : ∃ X : World, X = World.alloc U (.cells #[.int .i64 0, .slice none 0 0] 34) := ⟨_, rfl⟩
    rw [← hw, ← hM]
    have b : Below (World.heap U).size U v10 := by rw [hw]; exact below_alloc _ _
    have hUM : U.heap.size ≤ M := by rw [hM]; exact bW.size
    replace bW := below_trans2 bW b
    refine hK _ _ bW ?_
    clear hK K
    have kM := Lib.hid (show MatB v10 M 34 0 none 0 0 from by rw [hw, hM]; exact MatB.new _ _)
    clear b
    clear hw hM
    refine wpPT_one rfl (by rfl) (fun K hK => ?_)
    go_simp
    -- a call's matrix r1 : RowsAt, in the world v10; the new world is v11
    refine (cPo.out v10 (hBU.out.later bW).f).mono ?_; rintro e v11 ⟨A1, n1, c1, rfl, r1, hc1, b, -⟩
    obtain rfl : n1 = v.m := by rw [← r1.len]; exact hpl.out
    replace bW := below_trans2 bW b
    refine hK _ _ bW ?_
    clear hK K
    replace r1 := Lib.hid r1
    replace kM := Lib.hid (kM.out.below_ b)
    clear b
    refine wpPT_one rfl (by rfl) (fun K hK => ?_)
    go_simp
    -- a call's matrix r2 : RowsAt, in the world v11; the new world is v12
    refine (cRf.out v11 (hBU.out.later bW).f).mono ?_; rintro e v12 ⟨A2, n2, c2, rfl, r2, hc2, b, -⟩
    obtain rfl : n2 = v.m := by rw [← r2.len]; exact hrl.out
    replace bW := below_trans2 bW b
    refine hK _ _ bW ?_
    clear hK K
    replace r2 := Lib.hid r2
    replace kM := Lib.hid (kM.out.below_ b)
    replace r1 := Lib.hid (r1.out.below b)
    clear b
    refine wpPT_one rfl (by rfl) (fun K hK => ?_)
    have cE := Lib.hid (ref3_OrF A1 A2 v.m c1 c2 pm rm v12 r1.out r2.out hm hp24.out hr24.out)
    go_simp
    refine cE.out.mono ?_; rintro e v13 ⟨A3, n3, c3, rfl, r3, hc3, b, hfar⟩
    obtain rfl : n3 = v.m := by rw [← r3.len, orM_len]; exact hpl.out
    have hfz3 := hfar
    replace hfar : ∀ ad, A3 = some ad → U.heap.size ≤ ad.block := fun ad e => Nat.le_trans bW.size (hfar ad e)
    replace bW := below_trans2 bW b
    refine hK _ _ bW ?_
    clear hK K cE r1 r2
    have hne : 0 < v.m → ∀ ad, A3 = some ad → ad.block ≠ M := fun h0 ad e => by have := hfz3 ad e; have := kM.out.lt; omega
    replace kM := Lib.hid (kM.out.below_ b)
    clear b
    iterate 3
      refine wpPT_float (v := ?_) rfl (by rfl) (fun w' hw' => ?_) (fun K hK => ?_)
      rotate_left
      · (go_simp; try with_reducible rfl)
      go_simp
      refine hK _ ?_
      clear hK K
    -- M holds the zero matrix in v13; the rows lie apart from it (hne)
    have f0 := kM.out.c0
    have f1 := kM.out.c1
    have g0 := kM.out.frozen 0
    have g1 := kM.out.frozen 1
    refine wpPT_one rfl (by rfl) (fun K hK => ?_)
    go_simp
    obtain ⟨wz, hw⟩ : ∃ X : World, X = (World.setCell v13 ⟨M, 0, none⟩ (.int .i64 (v.m : Int))).setCell ⟨M, 1, none⟩ (.slice A3 v.m c3) := ⟨_, rfl⟩
    rw [← hw]
    have r4 := Lib.hid (show RowsAt wz A3 v.m (orM pm rm) from by rw [hw]; exact r3.putB kM.out hne _ _)
    have k4 := Lib.hid (show MatB wz M 34 (v.m : Int) A3 v.m c3 from by rw [hw]; exact kM.out.put _ _ _ _)
    replace bW : Below U.heap.size U wz := by rw [hw]; exact (bW.setCell (p := ⟨M, 0, none⟩) hUM _).setCell (p := ⟨M, 1, none⟩) hUM _
    refine hK _ _ bW ?_
    clear hK K f0 f1 g0 g1 hw r3 kM
    iterate 1
      refine wpPT_float (v := ?_) rfl (by rfl) (fun w' hw' => ?_) (fun K hK => ?_)
      rotate_left
      · (go_simp; try with_reducible rfl)
      go_simp
      refine hK _ ?_
      clear hK K
    refine wpPT_done (NoPanic.normal ?_)
    have kR4 := hkR.out.below_ bW
    have m0 := k4.out.c0
    have m1 := k4.out.c1
    have f0 := kR4.c0
    have f1 := kR4.c1
    have g0 := kR4.frozen 0
    have g1 := kR4.frozen 1
    have hcc := kR4.two (.int .i64 (v.m : Int)) (.slice A3 v.m c3)
    have hc1 := Lib.hid hcc.1
    have hc2 := Lib.hid hcc.2
    have hrf := Lib.hid (r4.out.putB kR4 (fun h0 ad e hb => by have := hfar ad e; have := hkR.out.lt; omega) (.int .i64 (v.m : Int)) (.slice A3 v.m c3))
    have hbf := Lib.hid (((below_trans2 hBU.out.o bW).setCell (p := ⟨gr, 0, none⟩) hgw.out (.int .i64 (v.m : Int))).setCell (p := ⟨gr, 1, none⟩) hgw.out (.slice A3 v.m c3))
    have hfz := Lib.hid (show ∀ ad, A3 = some ad → w.heap.size ≤ ad.block from fun ad e => Nat.le_trans hBU.out.o.size (hfar ad e))
    clear hcc bW hfar hne k4 r4
    go_wp2_with fail
    exact bodyPost_ret (v := .agg #[.int .i64 (v.m : Int), .slice A3 v.m c3]) (by simp [results, Try.results18, go_sem, hc1.out, hc2.out]) rfl ⟨A3, v.m, c3, rfl, hrf.out, hc3, hbf.out, hfz.out⟩
set_option maxRecDepth 100000 in
set_option maxHeartbeats 2000000 in
theorem ref13_Co (v : FV) (f : Fac) (w : World) (hF : FactsAt w v f) (hm : v.m < 64) (hw : WholeF f) :
    Calls Try.prog 7 #[.agg #[.slice v.A v.n v.c, .slice v.B v.m v.d, .slice v.C v.k v.e]] w (RetMat1 (v.m : Int) (coM f) w) := by
  have hil := hF.is.len
  have ge := (edgeM_good hw (by omega)).1
  have gc := (coM_hull hw (by omega)).1
  have cE := Lib.hid (fun W hW => ref13_Edges v f W hW (by omega) hw)
  rw [hil] at ge gc
  have hlc := Lib.hid gc.len
  have hpos := Lib.hid (fun h0 => rows_len_pos gc h0)
  have cC := fun A c W hW => ref4_Close A v.m c (edgeM f) W hW ge hm
  rw [show closeK (edgeM f) v.m = coM f from by unfold coM; rw [hil]] at cC
  have hel := Lib.hid ge.len
  replace cC := Lib.hid cC
  clear ge gc hil
  -- a call with facts v: they are boxed at g, the world is W0 then
  have hB0 := Lib.hid (FBox.new hF)
  obtain ⟨g, hg⟩ : ∃ g, g = w.heap.size := ⟨_, rfl⟩
  obtain ⟨W0, hW0⟩ : ∃ W, W = w.alloc (.cells #[.slice v.A v.n v.c, .slice v.B v.m v.d, .slice v.C v.k v.e] 29) := ⟨_, rfl⟩
  rw [← hW0, ← hg] at hB0
  clear hF
  obtain ⟨gr, hgr⟩ : ∃ g, g = W0.heap.size := ⟨_, rfl⟩
  obtain ⟨W1, hW1⟩ : ∃ W, W = W0.alloc (.cells #[.int .i64 0, .slice none 0 0] 34) := ⟨_, rfl⟩
  have b1 : Below W0.heap.size W0 W1 := by rw [hW1]; exact (Below.refl _ _).alloc (Nat.le_refl _) _
  have kR : MatB W1 gr 34 0 none 0 0 := by rw [hW1, hgr]; exact MatB.new W0 _
  have hB1 := Lib.hid (hB0.out.later b1)
  have hgw := Lib.hid (show w.heap.size ≤ gr from by rw [hgr]; exact hB0.out.o.size)
  have p0 := hB1.out.c0
  have p1 := hB1.out.c1
  have p2 := hB1.out.c2
  clear b1 hB0
  go_enter Try.func7, Try.ntmps7
  go_wp2_with (first | (rw [← hW0, ← hg]; clear hW0 hg) | (rw [← hW1, ← hgr]; clear hW1; replace hgr := Lib.hid hgr))
  refine (cE.out _ hB1.out.f).mono ?_; rintro e w2 ⟨A1, n1, c1, rfl, r1, hc1, b2, -⟩
  obtain rfl : n1 = v.m := by rw [← r1.len]; exact hel.out
  replace kR := kR.below_ b2
  have hB2 := Lib.hid (hB1.out.later b2)
  replace r1 := Lib.hid r1
  clear p0 p1 p2 b2 hB1
  go_wp2_with fail
  refine (cC.out A1 c1 w2 r1.out).mono ?_; rintro e w3 ⟨A3, n3, c3, rfl, r3, hc3, b3⟩
  obtain rfl : n3 = v.m := by rw [← r3.len]; exact hlc.out
  have kR4 := kR.below_ b3
  have hfz := r3.farZ kR4
  have hB3 := Lib.hid (hB2.out.later b3)
  have f0 := kR4.c0
  have f1 := kR4.c1
  have g0 := kR4.frozen 0
  have g1 := kR4.frozen 1
  have hcc := kR4.two (.int .i64 (v.m : Int)) (.slice A3 v.m c3)
  have hd1 := Lib.hid hcc.1
  have hd2 := Lib.hid hcc.2
  have hrf := Lib.hid (r3.putB kR4 (fun h0 => hfz (hpos.out h0) h0) (.int .i64 (v.m : Int)) (.slice A3 v.m c3))
  have hbf := Lib.hid ((hB3.out.o.setCell (p := ⟨gr, 0, none⟩) hgw.out (.int .i64 (v.m : Int))).setCell (p := ⟨gr, 1, none⟩) hgw.out (.slice A3 v.m c3))
  clear hcc hfz kR b3 r3 kR4
  go_wp2_with fail
  exact bodyPost_ret (v := .agg #[.int .i64 (v.m : Int), .slice A3 v.m c3]) (by simp [results, Try.results7, go_sem, hd1.out, hd2.out]) rfl ⟨A3, v.m, c3, rfl, hrf.out, hc3, hbf.out⟩
end Go.Proofs.Ytbeigdbljepfkaa

namespace Go.Proofs.Ytbeigdbljepfkaa
open Go.RowKit
set_option linter.unusedVariables false
theorem LAt.setFar {α : Type} {E : Enc α} {w : World} {A : Option Addr} {n : Nat} {xs : List α} (h : LAt E w A n xs) {p : Addr} (hne : ∀ ad, A = some ad → ad.block ≠ p.block) (u : Value) : LAt E (w.setCell p u) A n xs :=
  ⟨h.1, h.2.1, fun hn => by
    obtain ⟨b, off, e, hb, hc⟩ := h.2.2 hn
    exact ⟨b, off, e, by simpa using hb, fun j v hv => (World.cell?_of_block (Below.heap_setCell w p u b (fun e' => hne _ e e'))).trans (hc j v hv)⟩⟩
theorem LAt.grown18 {α : Type} {E : Enc α} {w w' : World} {A : Option Addr} {n : Nat} {xs : List α} {row : Option Nat} (h : LAt E w A n xs) (hg : w.grownBy w' row) (hne : ∀ ad, A = some ad → row ≠ some ad.block) : LAt E w' A n xs :=
  ⟨h.1, h.2.1, fun h0 => by
    obtain ⟨b, off, e, hb, hc⟩ := h.2.2 h0
    exact ⟨b, off, e, Nat.lt_of_lt_of_le hb hg.size, fun j u hu => (World.cell?_of_block (hg.block b hb (fun e' => hne _ e e'.symm))).trans (hc j u hu)⟩⟩
/-- what was seen: the matrix, the edges, the rounds -/
def RetSeen (n : Nat) (f : Fac) (kept : List Int) (B : List (List Nat)) (w : World) (e : Ending) (w' : World) : Prop := ∃ (k : Nat) (A : Option Addr) (d : Nat) (E : Option Addr) (ne ce : Nat),
  e = .returned (.tuple #[.agg #[.int .i64 (n : Int), .slice A n d], .slice E ne ce, .int .i64 ((k + 1 : Nat) : Int), .int .i64 0]) ∧ SeenIs f kept B k ∧ RowsAt w' A n (seX f kept B k) ∧ n ≤ d ∧ LAt encE w' E ne (seL f kept B k) ∧ ne ≤ ce ∧ ce ≤ 9223372036854775807 ∧ Below w.heap.size w w'
def RetNoSeen (w : World) (e : Ending) (w' : World) : Prop := e = .returned (.tuple #[.agg #[.int .i64 0, .slice none 0 0], .slice none 0 0, .int .i64 0, .int .i64 1]) ∧ Below w.heap.size w w'
theorem keptF_ok (is : List It) (o : Int) : ∀ r ∈ keptF is (pastF is o is.length), 0 ≤ r ∧ r < (is.length : Int) := fun r hr => pastF_ok is o is.length r (List.mem_filter.1 hr).1
theorem keptF_len (is : List It) (o : Int) : (keptF is (pastF is o is.length)).length ≤ is.length := Nat.le_trans (List.length_filter_le _ _) (pastF_len _ _ _)
end Go.Proofs.Ytbeigdbljepfkaa
