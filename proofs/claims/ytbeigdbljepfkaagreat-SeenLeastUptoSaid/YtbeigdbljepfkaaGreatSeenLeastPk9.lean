/- Contracts of the document's own answers of layer 4: Close, Add. Contracts of the document's own answers for matrices: Pairs. Contracts of the document's own answers for matrices: Turn. Contract of the document's own answer: Within. A region that draws its order, walked by a tree of orders: what only reads (in every world that meets S) is taken as soon as it may come up; what changes memory, and stays in S, comes up alone, or as one of two: then both ways are walked. S is the prover's: as a rule 'the blocks that were there at the region's start are as they were': so an alloc beside calls, and stores into what the region made, are steps too. No function of the program is named here. The contracts of the document's own answers of layer 13: Rf, Edges, Co. -/
import Derived.Test.YtbeigdbljepfkaaGreatSeenLeastPk8
import Derived.Test.YtbeigdbljepfkaaGreatSeenLeastPk5
import Derived.Test.YtbeigdbljepfkaaGreatSeenLeastPk4
import Derived.Test.YtbeigdbljepfkaaGreatSeenLeastPk7
namespace Go.Proofs.YtbeigdbljepfkaaGreat
open Go.RowKit
set_option linter.unusedVariables false

theorem RowsAt.farK {w : World} {C : Option Addr} {p g : Nat} {t : TypeId} {xss : List (List Nat)} {N : Int} {A : Option Addr} {n c : Nat} {yss : List (List Nat)} (h : RowsAt w C p xss) (hM : MatK w g t N A n c yss) (hn : 0 < n) : 0 < p → ∀ ad, C = some ad → ad.block ≠ g := by
  intro h0 ad e
  obtain ⟨b, off, B, m, d, xs, e2, _, hx, hc, hr⟩ := h.at_ h0
  rw [e] at e2
  cases e2
  intro hb
  have hb' : b = g := hb
  subst hb'
  rw [Blk.cell hM.1] at hc
  match off + 0, hc with
  | 0, hc => simp at hc
  | 1, hc =>
    simp at hc
    obtain ⟨rfl, rfl, rfl⟩ := hc
    obtain ⟨b3, o3, x, e3, _, _, _, h3⟩ := hr.at_ hn
    obtain ⟨b4, o4, B4, m4, d4, xs4, e4, _, _, h4, _⟩ := hM.2.at_ hn
    rw [e3] at e4
    cases e4
    rw [h3] at h4
    cases h4
  | k + 2, hc => simp at hc
theorem MatK.put2 {w : World} {g : Nat} {t : TypeId} {N : Int} {A : Option Addr} {n c : Nat} (h : MatB w g t N A n c) {G : Nat} {t' : TypeId} {M : Int} {B : Option Addr} {m d : Nat} {yss : List (List Nat)} (k : MatK w G t' M B m d yss) (hne : G ≠ g) (hb : 0 < m → ∀ ad, B = some ad → ad.block ≠ g) (x y : Value) : MatK ((w.setCell ⟨g, 0, none⟩ x).setCell ⟨g, 1, none⟩ y) G t' M B m d yss :=
  ⟨(k.1.farB (p := ⟨g, 0, none⟩) (by simpa using hne) _).farB (p := ⟨g, 1, none⟩) (by simpa using hne) _, k.2.putB h hb _ _⟩
theorem Ints.setCell {w : World} {A : Option Addr} {n : Nat} {zs : List Int} {p : Addr} (h : Ints w A n zs) (hne : ∀ ad, A = some ad → ad.block ≠ p.block) (u : Value) : Ints (w.setCell p u) A n zs := ⟨h.1.setCell hne u, h.2⟩
theorem Conn.lt {n : Nat} {a : List (List Nat)} (hG : Good n a) {i j : Nat} (h : Conn (Rel a) i j) : i < n ∧ j < n := by
  induction h with
  | one h => exact hG.has_lt h
  | step _ h ih => exact ⟨ih.1, (hG.has_lt h).2⟩
/-- what is laid so far: the rows ahead of i, and some of row i -/
def CloseR (n : Nat) (a : List (List Nat)) (i : Nat) (l : List Nat) (X : List (List Nat)) : Prop := Good n X ∧ ∀ x y : Nat, Rel X x y ↔ (x < i ∧ Conn (Rel a) x y) ∨ (x = i ∧ y ∈ l)
section
variable {n : Nat} {a X : List (List Nat)} {i : Nat} {l : List Nat}
theorem CloseR.start (hn : n ≤ 4096) : CloseR n a 0 [] (newM n) := ⟨Good.new hn, fun x y => by
  unfold Rel
  rw [newM_has]
  constructor
  · intro h; cases h
  · rintro (⟨h, _⟩ | ⟨_, h⟩)
    · omega
    · cases h⟩
theorem CloseR.set (h : CloseR n a i l X) {y : Nat} (hi : i < n) (hy : y < n) : CloseR n a i (l ++ [y]) (setM X (i : Int) (y : Int)) := ⟨h.1.set hi hy, fun u v => by
  rw [rel_set h.1 hi hy, h.2]
  simp only [List.mem_append, List.mem_singleton]
  constructor
  · rintro ((h1 | ⟨h1, h2⟩) | ⟨h1, h2⟩)
    · exact .inl h1
    · exact .inr ⟨h1, .inl h2⟩
    · exact .inr ⟨h1, .inr h2⟩
  · rintro (h1 | ⟨h1, h2 | h2⟩)
    · exact .inl (.inl h1)
    · exact .inl (.inr ⟨h1, h2⟩)
    · exact .inr ⟨h1, h2⟩⟩
theorem CloseR.next (h : CloseR n a i l X) (hG : Good n a) (hl : ∀ x : Nat, x ∈ l ↔ x < n ∧ Conn (Rel a) i x) : CloseR n a (i + 1) [] X := ⟨h.1, fun u v => by
  rw [h.2, hl]
  constructor
  · rintro (⟨h1, h2⟩ | ⟨rfl, _, h2⟩)
    · exact .inl ⟨by omega, h2⟩
    · exact .inl ⟨by omega, h2⟩
  · rintro (⟨h1, h2⟩ | ⟨_, h2⟩)
    · rcases Nat.lt_succ_iff_lt_or_eq.1 h1 with h3 | h3
      · exact .inl ⟨h3, h2⟩
      · subst h3
        exact .inr ⟨rfl, (Conn.lt hG h2).2, h2⟩
    · cases h2⟩
theorem CloseR.all (h : CloseR n a n [] X) (hG : Good n a) : X = closeK a n :=
  IsHull.unique (r := Rel a) ⟨h.1, fun u v => by
    rw [h.2]
    constructor
    · rintro (⟨_, h2⟩ | ⟨_, h2⟩)
      · exact h2
      · cases h2
    · intro h2
      exact .inl ⟨(Conn.lt hG h2).1, h2⟩⟩ (closeK_hull hG) fun _ _ => Iff.rfl
end
/-- a matrix all of whose blocks are the call's own -/
def RetMat1G (N : Int) (xss : List (List Nat)) (w : World) (e : Ending) (w' : World) : Prop :=
  ∃ A n c, e = .returned (.agg #[.int .i64 N, .slice A n c]) ∧ RowsG w.heap.size w' A n xss ∧ n ≤ c ∧ Below w.heap.size w w'
set_option maxRecDepth 100000 in
set_option maxHeartbeats 4000000 in
theorem ref4_CloseG (A : Option Addr) (n c : Nat) (a : List (List Nat)) (w : World) (hr : RowsAt w A n a) (hG : Good n a) (hn64 : n < 64) :
    Calls Tryz.prog 21 #[.agg #[.int .i64 (n : Int), .slice A n c]] w (RetMat1G (n : Int) (closeK a n) w) := by
  have hnn : n ≤ 4096 := hG.le
  obtain ⟨W0, hW0⟩ : ∃ W0, W0 = (w.alloc (.cells #[.int .i64 n, .slice A n c] 34)).alloc (.cells #[.int .i64 0, .slice none 0 0] 34) := ⟨_, rfl⟩
  have bb := Lib.hid (show Below w.heap.size w W0 by rw [hW0]; exact ((Below.refl _ _).alloc (Nat.le_refl _) _).alloc (by simp) _)
  have k1 := Lib.hid (show MatK W0 w.heap.size 34 n A n c a by rw [hW0]; exact (MatK.new w _ hr).below (below_alloc _ _))
  have m2 := Lib.hid (show MatB W0 (w.heap.size + 1) 34 0 none 0 0 by rw [hW0]; exact MatB.new1 w _ _)
  have cN := Lib.hid (fun W => ref3_NewG n hnn W)
  have cR := Lib.hid (fun (i : Nat) (hi : i < n) W (hW : RowsAt W A n a) => ref4_Reach A n c a i W hW hG hi)
  have cS := Lib.hid (fun (i y : Nat) (hi : i < n) (hy : y < n) C d X (hX : Good n X) W (hW : RowsG w.heap.size W C n X) (hs : w.heap.size ≤ W.heap.size) => ref3_SetG w.heap.size (n : Int) C n d X (i : Int) (y : Int) W hW hs rfl hnn (fun xs hx => by have := hX.small xs hx; omega) (by unfold inM; simp; omega))
  replace hG := Lib.hid hG
  clear hr
  have qk10 := k1.out.1.c0
  have qk11 := k1.out.1.c1
  go_enter Tryz.func21, Tryz.ntmps21
  go_wp2_with fail
  rw [← hW0]
  clear hW0
  go_wp2_with fail
  refine (cN.out W0).mono ?_; rintro e w1 ⟨A3, n3, c3, rfl, s3, hc3, b, -⟩
  have r3 := s3.at
  obtain rfl : n = n3 := by have := r3.len; simp [newM] at this; omega
  replace s3 := s3.mono (show w.heap.size ≤ W0.heap.size from bb.out.size)
  replace m2 := Lib.hid (m2.out.below b)
  obtain ⟨W1, hW1⟩ : ∃ W1, W1 = w1.alloc (.cells #[.int .i64 n, .slice A3 n c3] 34) := ⟨_, rfl⟩
  obtain ⟨G3, hG3⟩ : ∃ G, G = w1.heap.size := ⟨_, rfl⟩
  have ba : Below w1.heap.size w1 W1 := by rw [hW1]; exact below_alloc _ _
  have k3 := Lib.hid (show MatK W1 G3 34 n A3 n c3 (newM n) from ⟨by rw [hW1, hG3]; exact MatB.new _ _, r3.below ba⟩)
  replace s3 := Lib.hid (s3.below ba)
  have hlt := m2.out.lt
  have h23 : w.heap.size + 1 < G3 := by omega
  replace m2 := Lib.hid (m2.out.below ba)
  replace b := below_trans2 b ba
  replace k1 := Lib.hid (k1.out.below b)
  replace qk10 := k1.out.1.c0
  replace qk11 := k1.out.1.c1
  replace bb := Lib.hid (below_trans2 bb.out b)
  clear b
  rw [hW1] at qk10 qk11
  clear ba r3 hlt
  go_wp2_with fail
  rw [← hW1, ← hG3]
  clear hW1 hG3 qk10 qk11
  go_loopw [5] (fun t wr => ∃ (i : Nat) (A3 : Option Addr) (c3 : Nat) (X : List (List Nat)), i ≤ n ∧ t = .int .i64 i ∧ Hid (CloseR n a i [] X) ∧ Hid (n ≤ c3) ∧ Hid (MatK wr w.heap.size 34 n A n c a) ∧ Hid (MatB wr (w.heap.size + 1) 34 0 none 0 0) ∧ Hid (MatK wr G3 34 n A3 n c3 X) ∧ Hid (RowsG w.heap.size wr A3 n X) ∧ Hid (Below w.heap.size w wr)) (fun t _ => n - (intOf t).toNat)
  case atStart => exact ⟨0, A3, c3, newM n, Nat.zero_le _, rfl, Lib.hid (CloseR.start hnn), Lib.hid hc3, k1, m2, k3, s3, bb⟩
  case round =>
    clear k1 m2 k3 s3 bb
    obtain ⟨i, A3, c3, X, hi, rfl, hX, hc3', k1, m2, k3, s3, bb⟩ := hrel
    have qk10 := k1.out.1.c0
    have qk11 := k1.out.1.c1
    by_cases hlt : i < n
    · have cRi := Lib.hid (cR.out i hlt wr k1.out.2)
      go_wp2_with fail
      refine cRi.out.mono ?_; rintro e w2 ⟨B, m, d, l, rfl, hl, hmem, hll, hfr, b⟩
      have hlm : l.length = m := by have := hl.len; simpa using this
      have h3 : G3 < wr.heap.size := k3.out.1.lt
      have hfr3 : Hid (∀ ad, B = some ad → ad.block ≠ G3) := Lib.hid (fun ad e => by have := hfr ad e; omega)
      replace m2 := Lib.hid (m2.out.below b)
      replace s3 := Lib.hid (s3.out.below b)
      replace k1 := Lib.hid (k1.out.below b)
      replace qk10 := k1.out.1.c0
      replace qk11 := k1.out.1.c1
      replace k3 := Lib.hid (k3.out.below b)
      replace qk30 := k3.out.1.c0
      replace qk31 := k3.out.1.c1
      replace bb := Lib.hid (below_trans2 bb.out b)
      clear b
      replace hl := Lib.hid hl
      replace hmem := Lib.hid hmem
      have hm64 : m ≤ 64 := by omega
      replace hlm := Lib.hid hlm
      clear cRi hfr h3 hll
      go_wp2_with fail
      clear qk10 qk11 qk30 qk31
      go_loopw [7] (fun t wr => ∃ (k : Nat) (A3 : Option Addr) (c3 : Nat) (X : List (List Nat)), k ≤ m ∧ t = .int .i64 k ∧ Hid (CloseR n a i (l.take k) X) ∧ Hid (n ≤ c3) ∧ Hid (MatK wr w.heap.size 34 n A n c a) ∧ Hid (MatB wr (w.heap.size + 1) 34 0 none 0 0) ∧ Hid (MatK wr G3 34 n A3 n c3 X) ∧ Hid (RowsG w.heap.size wr A3 n X) ∧ Hid (Below w.heap.size w wr) ∧ Hid (Ints wr B m (l.map Int.ofNat))) (fun t _ => m - (intOf t).toNat)
      case atStart => exact ⟨0, A3, c3, X, Nat.zero_le _, rfl, hX, hc3', k1, m2, k3, s3, bb, hl⟩
      case round =>
        clear hX hc3' k1 m2 k3 s3 bb hl
        obtain ⟨k, A3, c3, X, hk, rfl, hX, hc3', k1, m2, k3, s3, bb, hl⟩ := hrel
        by_cases hkm : k < m
        · obtain ⟨b4, o4, x, rfl, hb4, hx, hx64, c4⟩ := hl.out.at_ hkm
          obtain ⟨y, hy, rfl⟩ : ∃ y : Nat, l[k]? = some y ∧ (y : Int) = x := by
            rw [List.getElem?_map] at hx
            cases hh : l[k]? with
            | none => rw [hh] at hx; cases hx
            | some y => rw [hh] at hx; exact ⟨y, rfl, by simpa using hx⟩
          have hyn : y < n := ((hmem.out y).1 (List.mem_of_getElem? hy)).1
          have cSk := Lib.hid (cS.out i y hlt hyn A3 c3 X hX.out.1)
          have hX2 := Lib.hid (hX.out.set hlt hyn)
          rw [show l.take k ++ [y] = l.take (k + 1) by rw [List.take_succ_eq_append_getElem (List.getElem?_eq_some_iff.1 hy).1, (List.getElem?_eq_some_iff.1 hy).2]] at hX2
          have hk0 : (0 : Int) ≤ (k : Int) := by omega
          have hkm' : (k : Int) < (m : Int) := by omega
          clear hx hx64 hy
          have qk30 := k3.out.1.c0
          have qk31 := k3.out.1.c1
          go_wp2_with fail
          refine wp_region_planT 8 [(true, 0), (true, 1), (true, 2), (true, 3), (true, 4), (true, 5), (false, 6), (true, 7)] 10 [8, 9] (by kernel_rfl) (by kernel_rfl) (fun W1 hW1 => ?_)
          replace k1 := Lib.hid (show MatK W1 w.heap.size 34 n A n c a by rw [hW1.out]; exact k1.out.drew)
          replace s3 := Lib.hid (show RowsG w.heap.size W1 A3 n X by rw [hW1.out]; exact s3.out.below (Below.refl _ _).drew)
          replace k3 := Lib.hid (show MatK W1 G3 34 n A3 n c3 X by rw [hW1.out]; exact k3.out.drew)
          replace m2 := Lib.hid (show MatB W1 (w.heap.size + 1) 34 0 none 0 0 by rw [hW1.out]; exact Blk.drew m2.out)
          replace bb := Lib.hid (show Below w.heap.size w W1 by rw [hW1.out]; exact bb.out.drew)
          replace hl := Lib.hid (show Ints W1 (some ⟨b4, o4, none⟩) m (l.map Int.ofNat) by rw [hW1.out]; exact hl.out)
          replace c4 : W1.cell? ⟨b4, o4 + k, none⟩ = some (.int .i64 (y : Int)) := by rw [hW1.out]; exact c4
          clear hW1 qk30 qk31
          simp only [List.drop_succ_cons, List.drop_zero]
          have qk30 := k3.out.1.c0
          have qk31 := k3.out.1.c1
          iterate 6
            refine wpPlanE_float (v := ?_) rfl (by rfl) (fun w' hw' => ?_) (fun K hK => ?_)
            rotate_left
            · (go_simp; try with_reducible rfl)
            go_simp
            refine hK _ ?_
            clear hK K
          clear c4 qk30 qk31
          refine wpPlanE_only rfl (by rfl) (fun K hK => ?_)
          go_simp
          refine (cSk.out W1 s3.out bb.out.size).mono ?_
          rintro e w3 ⟨D, nn, dd, rfl, sD, hcD, b, -⟩
          have rD := sD.at
          obtain rfl : n = nn := by have := rD.len; have := hX2.out.1.len; omega
          refine hK _ _ b ?_
          clear hK K cSk
          replace m2 := Lib.hid (m2.out.below b)
          replace hl := Lib.hid (hl.out.below b)
          replace k1 := Lib.hid (k1.out.below b)
          replace k3 := Lib.hid (k3.out.below b)
          replace bb := Lib.hid (below_trans2 bb.out b)
          replace rD := Lib.hid rD
          replace sD := Lib.hid sD
          clear s3
          replace hcD := Lib.hid hcD
          clear b
          iterate 1
            refine wpPlanE_float (v := ?_) rfl (by rfl) (fun w' hw' => ?_) (fun K hK => ?_)
            rotate_left
            · (go_simp; try with_reducible rfl)
            go_simp
            refine hK _ ?_
            clear hK K
          refine wpPlanE_nil ?_
          iterate 2
            refine wpPlanT_float (v := ?_) rfl (by rfl) (fun w' => ?_) (fun K hK => ?_)
            rotate_left
            · (go_simp; try with_reducible rfl)
            go_simp
            refine hK _ ?_
            clear hK K
          refine wpPlanT_nil ?_
          have qk30 := k3.out.1.c0
          have qk31 := k3.out.1.c1
          have f0 := k3.out.1.frozen 0
          have f1 := k3.out.1.frozen 1
          go_wp2_with fail
          refine NoPanic.normal ?_
          clear f0 f1 qk30 qk31
          obtain ⟨Wz, hWz⟩ : ∃ X : World, X = (w3.setCell ⟨G3, 0, none⟩ (.int .i64 n)).setCell ⟨G3, 1, none⟩ (.slice D n dd) := ⟨_, rfl⟩
          rw [← hWz]
          have hn0 : 0 < n := by omega
          have k3' := Lib.hid (show MatK Wz G3 34 n D n dd (setM X (i : Int) (y : Int)) by rw [hWz]; exact ⟨k3.out.1.put n D n dd, rD.out.putB k3.out.1 (rD.out.farK k3.out hn0) _ _⟩)
          have s3' := Lib.hid (show RowsG w.heap.size Wz D n (setM X (i : Int) (y : Int)) by rw [hWz]; exact sD.out.putB k3.out.1 (rD.out.farK k3.out hn0) _ _)
          have k1' := Lib.hid (show MatK Wz w.heap.size 34 n A n c a by rw [hWz]; exact MatK.put2 k3.out.1 k1.out (by omega) (k1.out.2.farK k3.out hn0) _ _)
          have m2' := Lib.hid (show MatB Wz (w.heap.size + 1) 34 0 none 0 0 by rw [hWz]; exact (m2.out.farB (p := ⟨G3, 0, none⟩) (by simp <;> omega) _).farB (p := ⟨G3, 1, none⟩) (by simp <;> omega) _)
          have hl' := Lib.hid (show Ints Wz (some ⟨b4, o4, none⟩) m (l.map Int.ofNat) by rw [hWz]; exact (hl.out.setCell (p := ⟨G3, 0, none⟩) (fun ad e => hfr3.out ad e) _).setCell (p := ⟨G3, 1, none⟩) (fun ad e => hfr3.out ad e) _)
          replace bb := Lib.hid (show Below w.heap.size w Wz by rw [hWz]; exact (bb.out.setCell (p := ⟨G3, 0, none⟩) (by simp <;> omega) _).setCell (p := ⟨G3, 1, none⟩) (by simp <;> omega) _)
          clear hWz k1 k3 m2 hl rD sD
          go_wp2_with fail
          go_roundw
          case rel => exact ⟨k + 1, D, dd, _, by omega, by go_num, hX2, hcD, k1', m2', k3', s3', bb, hl'⟩
          case measure => simp [intOf]; omega
        · obtain rfl : k = m := by omega
          rw [List.take_of_length_le (by rw [hlm.out]; exact Nat.le_refl _)] at hX
          have hX2 := Lib.hid (hX.out.next hG.out hmem.out)
          clear hl
          go_wp2_with fail
          go_roundw
          case rel => exact ⟨i + 1, A3, c3, X, by omega, by go_num, hX2, hc3', k1, m2, k3, s3, bb⟩
          case measure => simp [intOf]; omega
    · obtain rfl : i = n := by omega
      have he := hX.out.all hG.out
      have hone := hX.out.1.one hn64
      replace he := Lib.hid he
      replace hone := Lib.hid hone
      have qk30 := k3.out.1.c0
      have qk31 := k3.out.1.c1
      have f0 := m2.out.c0
      have f1 := m2.out.c1
      have g0 := m2.out.frozen 0
      have g1 := m2.out.frozen 1
      clear hX
      go_wp2_with fail
      have hcc := m2.out.two (.int .i64 i) (.slice A3 i c3)
      have hc1 := hcc.1
      have hc2 := hcc.2
      clear hcc f0 f1 g0 g1
      refine bodyPost_ret (v := .agg #[.int .i64 i, .slice A3 i c3]) (by simp [results, Tryz.results21, go_sem, hc1, hc2]) rfl ⟨_, _, _, rfl, ?_, hc3'.out, ?_⟩
      · rw [← he.out]
        exact s3.out.putB m2.out (k3.out.2.farM m2.out hone.out) _ _
      · exact (bb.out.setCell (p := ⟨w.heap.size + 1, 0, none⟩) (by simp) _).setCell (p := ⟨w.heap.size + 1, 1, none⟩) (by simp) _
theorem ref4_Close (A : Option Addr) (n c : Nat) (a : List (List Nat)) (w : World) (hr : RowsAt w A n a) (hG : Good n a) (hn64 : n < 64) :
    Calls Tryz.prog 21 #[.agg #[.int .i64 (n : Int), .slice A n c]] w (RetMat1 (n : Int) (closeK a n) w) :=
  (ref4_CloseG A n c a w hr hG hn64).mono fun _ _ ⟨A', n', c', h1, h2, h3, h4⟩ => ⟨A', n', c', h1, h2.at, h3, h4⟩

set_option maxHeartbeats 2000000 in
theorem ref4_Add (A : Option Addr) (n c : Nat) (a : List (List Nat)) (i j : Nat) (w : World) (hr : RowsAt w A n a) (hG : Good n a) (hn64 : n < 64) (hi : i < n) (hj : j < n) :
    Calls Tryz.prog 22 #[.agg #[.int .i64 (n : Int), .slice A n c], .int .i64 (i : Int), .int .i64 (j : Int)] w (RetMat (n : Int) (closeK (setM a (i : Int) (j : Int)) n) 0 w) := by
  have cS := Lib.hid (fun W (hW : RowsAt W A n a) => ref3_Set (n : Int) A n c a (i : Int) (j : Int) W hW rfl hG.le (fun xs hx => by have := hG.small xs hx; omega) (by unfold inM; simp; omega))
  have hGs := hG.set hi hj
  have cC := Lib.hid (fun C d W hW => ref4_Close C n d (setM a (i : Int) (j : Int)) W hW hGs hn64)
  have hsl := Lib.hid hGs.len
  have hH := closeK_hull hGs
  have hcl := Lib.hid hH.1.len
  have hone := Lib.hid (hH.1.one hn64)
  clear hH hGs
  obtain ⟨W0, hW0⟩ : ∃ W0, W0 = (w.alloc (.cells #[.int .i64 n, .slice A n c] 34)).alloc (.cells #[.int .i64 0, .slice none 0 0] 34) := ⟨_, rfl⟩
  have bb := Lib.hid (show Below w.heap.size w W0 by rw [hW0]; exact ((Below.refl _ _).alloc (Nat.le_refl _) _).alloc (by simp) _)
  have k1 := Lib.hid (show MatK W0 w.heap.size 34 n A n c a by rw [hW0]; exact (MatK.new w _ hr).below (below_alloc _ _))
  have m2 := Lib.hid (show MatB W0 (w.heap.size + 1) 34 0 none 0 0 by rw [hW0]; exact MatB.new1 w _ _)
  clear hr
  have qk10 := k1.out.1.c0
  have qk11 := k1.out.1.c1
  go_enter Tryz.func22, Tryz.ntmps22
  go_wp2_with fail
  rw [← hW0]
  clear hW0
  go_wp2_with fail
  refine (cS.out W0 k1.out.2).mono ?_; rintro e w1 ⟨A3, n3, c3, rfl, r3, hc3, b⟩
  replace m2 := Lib.hid (m2.out.below b)
  obtain rfl : n = n3 := by have := r3.len; have := hsl.out; omega
  obtain ⟨W1, hW1⟩ : ∃ W1, W1 = w1.alloc (.cells #[.int .i64 n, .slice A3 n c3] 34) := ⟨_, rfl⟩
  obtain ⟨G3, hG3⟩ : ∃ G, G = w1.heap.size := ⟨_, rfl⟩
  have ba : Below w1.heap.size w1 W1 := by rw [hW1]; exact below_alloc _ _
  have k3 := Lib.hid (show MatK W1 G3 34 n A3 n c3 (setM a (i : Int) (j : Int)) from ⟨by rw [hW1, hG3]; exact MatB.new _ _, r3.below ba⟩)
  replace m2 := Lib.hid (m2.out.below ba)
  replace bb := Lib.hid (below_trans2 (below_trans2 bb.out b) ba)
  have q0 := k3.out.1.c0
  have q1 := k3.out.1.c1
  rw [hG3] at q0 q1
  rw [hW1] at q0 q1
  clear ba r3 b k1 qk10 qk11
  go_wp2_with fail
  rw [← hW1]
  clear hW1 hG3 q0 q1
  refine (cC.out A3 c3 W1 k3.out.2).mono ?_; rintro e w2 ⟨D, nn, dd, rfl, rD, hcD, b⟩
  obtain rfl : n = nn := by have := rD.len; have := hcl.out; omega
  replace m2 := Lib.hid (m2.out.below b)
  replace bb := Lib.hid (below_trans2 bb.out b)
  have f0 := m2.out.c0
  have f1 := m2.out.c1
  have g0 := m2.out.frozen 0
  have g1 := m2.out.frozen 1
  replace rD := Lib.hid rD
  replace hcD := Lib.hid hcD
  clear b k3
  go_wp2_with fail
  have hcc := m2.out.two (.int .i64 n) (.slice D n dd)
  have hc1 := hcc.1
  have hc2 := hcc.2
  clear hcc f0 f1 g0 g1
  exact bodyPost_ret (v := .tuple #[.agg #[.int .i64 n, .slice D n dd], .int .i64 0]) (by simp [results, Tryz.results22, go_sem, hc1, hc2]) rfl ⟨_, _, _, rfl, rD.out.putB m2.out (rD.out.farM m2.out hone.out) _ _, hcD.out, (bb.out.setCell (p := ⟨w.heap.size + 1, 0, none⟩) (by simp) _).setCell (p := ⟨w.heap.size + 1, 1, none⟩) (by simp) _⟩
set_option maxHeartbeats 1000000 in
theorem ref4_has (A : Option Addr) (m c : Nat) (zs : List Int) (x : Int) (w : World) (hz : Ints w A m zs) (hm : m ≤ 1073741824) :
    Calls Tryz.prog 38 #[.slice A m c, .int .i64 x] w fun e w' => e = .returned (.bool (decide (x ∈ zs))) ∧ w = w' := by
  have hlen := Lib.hid hz.len
  replace hz := Lib.hid hz
  go_enter Tryz.func38, Tryz.ntmps38
  go_wp2_with fail
  go_loop [5] (fun t => ∃ k : Nat, k ≤ m ∧ t = .int .i64 k ∧ Hid (x ∉ zs.take k)) (fun t => m - (intOf t).toNat)
  case atStart => exact ⟨0, Nat.zero_le _, rfl, Lib.hid (by simp)⟩
  case round =>
    obtain ⟨k, hk, rfl, hall⟩ := hrel
    by_cases hlt : k < m
    · obtain ⟨b, off, y, rfl, hb, hy, hy64, hc⟩ := hz.out.at_ hlt
      have hk0 : (0 : Int) ≤ (k : Int) := by omega
      have hkm : (k : Int) < (m : Int) := by omega
      by_cases hyx : y = x
      · subst hyx
        have hmem : decide (y ∈ zs) = true := decide_eq_true (List.mem_of_getElem? hy)
        replace hmem := Lib.hid hmem
        clear hy hall hy64
        go_wp2_with fail
        go_ret
        rw [hmem.out]; exact ⟨rfl, rfl⟩
      · have hne : (y == x) = false := beq_eq_false_iff_ne.2 hyx
        have hall' : Hid (x ∉ zs.take (k + 1)) := Lib.hid (by
          rw [List.take_succ_eq_append_getElem (List.getElem?_eq_some_iff.1 hy).1, (List.getElem?_eq_some_iff.1 hy).2, List.mem_append, List.mem_singleton]
          rintro (h | h)
          · exact hall.out h
          · exact hyx h.symm)
        clear hy hall hy64
        go_wp2_with fail
        go_round
        case rel => exact ⟨k + 1, by omega, by go_num, hall'⟩
        case measure => simp [intOf]; omega
    · obtain rfl : k = m := by omega
      have hmem : decide (x ∈ zs) = false := decide_eq_false (by
        have h := hall.out
        rwa [List.take_of_length_le (by rw [hlen.out]; exact Nat.le_refl _)] at h)
      replace hmem := Lib.hid hmem
      clear hall
      go_wp2_with fail
      go_ret
      rw [hmem.out]; exact ⟨rfl, rfl⟩

end Go.Proofs.YtbeigdbljepfkaaGreat

namespace Go.Proofs.YtbeigdbljepfkaaGreat
open Go.RowKit
set_option linter.unusedVariables false

set_option maxRecDepth 100000 in
set_option maxHeartbeats 2000000 in
theorem ref3_Pairs (A : Option Addr) (n c : Nat) (xss : List (List Nat)) (w : World) (hr : RowsAt w A n xss) (hn : n ≤ 4096) (hl : ∀ (i : Nat) (xs : List Nat), xss[i]? = some xs → xs.length ≤ 1024) :
    Calls Tryz.prog 37 #[.agg #[.int .i64 (n : Int), .slice A n c]] w (RetPairs (pairsM xss) w) := by
  have hlen := hr.len
  obtain ⟨i0, hi, hz0, hz1, hz2⟩ := info_parts info_pair
  replace hi := Lib.hid hi
  replace hz0 := Lib.hid hz0
  replace hz1 := Lib.hid hz1
  replace hz2 := Lib.hid hz2
  obtain ⟨W0, hW0⟩ : ∃ W0, W0 = w.alloc (.cells #[.int .i64 n, .slice A n c] 34) := ⟨_, rfl⟩
  have ha : Below w.heap.size w W0 := by rw [hW0]; exact (Below.refl _ _).alloc (Nat.le_refl _) _
  have hB : MatB W0 w.heap.size 34 n A n c := by rw [hW0]; exact MatB.new w _
  have hsl : ∀ k, k ≤ n → sumK xss k ≤ 268435456 := fun k hk => by
    have := sumK_le 1024 hl k
    have : k * (64 * 1024) ≤ 4096 * 65536 := Nat.mul_le_mul (by omega) (by omega)
    omega
  have hok := Lib.hid (pairsM_ok xss (by omega) (fun i xs hx => Nat.le_trans (hl i xs hx) (by omega)))
  have hs0 : w.heap.size + 1 ≤ W0.heap.size := by rw [hW0]; simp
  have hown0 : W0.ownsRow (w.heap.size + 1) 80 2 (.slice none 0 0) 0 [] := World.ownsRow_nil _ _ _ _
  replace hB := Lib.hid hB
  replace ha := Lib.hid ha
  replace hown0 := Lib.hid hown0
  replace hr := Lib.hid hr
  replace hl := Lib.hid hl
  replace hlen := Lib.hid hlen
  replace hsl := Lib.hid hsl
  go_enter Tryz.func37, Tryz.ntmps37
  go_wp2_with fail
  rw [← hW0]
  clear hW0
  go_loopw [3, 4] (fun l i wr => ∃ q : Nat, q ≤ n ∧ i = .int .i64 q ∧ Hid (wr.ownsRow (w.heap.size + 1) 80 2 l (pairsK xss q).length (cellsP (pairsK xss q))) ∧ Hid (Below w.heap.size w wr) ∧ Hid (MatB wr w.heap.size 34 n A n c) ∧ Hid (w.heap.size + 1 ≤ wr.heap.size)) (fun _ i _ => n - (intOf i).toNat)
  case atStart => exact ⟨0, Nat.zero_le _, rfl, hown0, ha, hB, Lib.hid hs0⟩
  case round =>
    obtain ⟨q, hq, rfl, hown, hbr, hBr, hsr⟩ := hrel
    clear hown0 hB hs0 ha
    have l0 := hBr.out.c0
    have l1 := hBr.out.c1
    by_cases hlt : q < n
    · obtain ⟨b, off, B, m, d, xs, rfl, hbl, hx, hc, hxr⟩ := (hr.out.below hbr.out).at_ hlt
      have hm : m ≤ 1024 := by have := hxr.len; have := hl.out q xs hx; omega
      have hL := Lib.hid (ref2_ListO B m d xs wr hxr (by omega))
      have hst := Lib.hid (pairsK_succ hx)
      have hcl := Lib.hid (listR_len xs)
      have hcount : countR xs ≤ 65536 := by have := countR_le xs; have := hxr.len; omega
      have hpl : (pairsK xss q).length ≤ 268435456 := by rw [pairsK_len]; exact hsl.out q hq
      clear hx hxr
      go_wp2_with fail
      refine hL.out.mono ?_; rintro e w1 ⟨C, y, z, rfl, hIo, hI64, hb1⟩
      have hI := Ints.of_own hIo hI64
      have hy : y ≤ 65536 := by have := hI.len; rw [hcl.out] at this; omega
      have hlist := Lib.hid hI.len
      have hown1 := own_below hown.out hb1
      have hbr1 := Lib.hid (below_trans2 hbr.out hb1)
      have hB1 := Lib.hid (MatB.below_ hBr.out hb1)
      have hib : wr.heap.size ≤ w1.heap.size := hb1.size
      have hs1 := Lib.hid (show w.heap.size + 1 ≤ w1.heap.size from Nat.le_trans hsr.out hib)
      replace hI64 := Lib.hid hI64
      clear hI hb1 hL l0 l1 hc
      go_wp2_with fail
      go_loopw [3, 6] (fun l i wi => ∃ (u : Nat) (D : List (Int × Int)), u ≤ y ∧ i = .int .i64 u ∧ Hid (D = pairsK xss q ++ ((listR xs).take u).map fun j => ((q : Int), j)) ∧ wi.ownsRow (w.heap.size + 1) 80 2 l D.length (cellsP D) ∧ wi.ownsRow (w.heap.size + 1) 3 1 (.slice C y z) y ((listR xs).map i64v) ∧ Below w.heap.size w wi ∧ Hid (MatB wi w.heap.size 34 n (some ⟨b, off, none⟩) n c) ∧ Hid (w.heap.size + 1 ≤ wi.heap.size)) (fun _ i _ => y - (intOf i).toNat)
      case atStart => exact ⟨0, _, Nat.zero_le _, rfl, Lib.hid (by simp), hown1, own_base hIo hsr.out, hbr1.out, hB1, hs1⟩
      case round =>
        obtain ⟨u, D, hu, rfl, hD, hownD, hIo', hbD, hBD, hsD⟩ := hrel
        clear hown1 hIo hB1 hs1
        have hDl : D.length ≤ 268500992 := by
          rw [hD.out, List.length_append, List.length_map, List.length_take]; omega
        by_cases hlu : u < y
        · obtain ⟨b2, o2, x, rfl, hbl2, hx2, hx64, hc2⟩ := (Ints.of_own hIo' hI64.out).at_ hlu
          have hD2 : Hid (D ++ [((q : Int), x)] = pairsK xss q ++ ((listR xs).take (u + 1)).map fun j => ((q : Int), j)) := Lib.hid (by
            rw [List.take_succ_eq_append_getElem (List.getElem?_eq_some_iff.1 hx2).1, (List.getElem?_eq_some_iff.1 hx2).2, hD.out]; simp)
          clear hx2 hx64 hD
          have hsz := hsD.out
          go_wp2_with (at_builtin; refine wpList_append_lies _ rfl (.tmp 25) (.tmp 32) _ rfl (w.heap.size + 1) 80 i0 _ 2 16 Tryz.underlying77 hi.out hz0.out hz1.out hz2.out rfl (by omega) _ _ _ (by rfl) (hownD.alloc _) ⟨wr.heap.size, 0, none⟩ 1 1 [.int .i64 (q : Int), .int .i64 x] rfl rfl (cell_two_new _ _ _ _) (by simp [Value.oneCell']) (by omega) (by unfold maxLen; omega) (by omega) (by simp; omega) _ rfl ?_; intro g cap w2 hown2 hgrow hat hlt1; have hb2 := (hbD.alloc hbD.size _).grown hgrow (by have := hbD.size; simp; omega) (fun g e => by have := own_lt_block hownD g e; omega); have hB2 := Lib.hid (Blk.grown (Blk.alloc hBD.out _) hgrow (fun e => by have := own_lt_block hownD _ e.symm; omega)); have hs2 := Lib.hid (show w.heap.size + 1 ≤ w2.heap.size by have := hgrow.size; simp at this; omega); have hIo2 := own_grown (own_below hIo' ((Below.refl _ _).alloc (Nat.le_refl _) _)) (own_below hownD ((Below.refl _ _).alloc (Nat.le_refl _) _)) (by decide) hgrow; clear hgrow hat hlt1)
          go_roundw
          case rel =>
            refine ⟨u + 1, D ++ [((q : Int), x)], by omega, by go_num, hD2, ?_, hIo2, hb2, hB2, hs2⟩
            rw [List.length_append, cellsP_snoc]
            exact hown2
          case measure => simp [intOf]; omega
        · have hDe : D = pairsK xss (q + 1) := by
            rw [hD.out, hst.out, List.take_of_length_le (by rw [hlist.out]; omega)]
          have hbr2 := Lib.hid hbD
          rw [hDe] at hownD
          clear hDe hD hDl hbD hIo'
          go_wp2_with fail
          go_roundw
          case rel => exact ⟨q + 1, by omega, by go_num, Lib.hid hownD, hbr2, hBD, hsD⟩
          case measure => simp [intOf]; omega
    · obtain rfl : q = n := by omega
      have he : pairsK xss q = pairsM xss := by unfold pairsM; rw [hlen.out]
      have hown2 := hown.out
      rw [he] at hown2
      obtain ⟨A', c', rfl, hP⟩ := PairsAt.of_own hown2 hok.out
      have hbf := hbr
      clear he hown2 hown
      go_wp2_with fail
      go_ret
      exact ⟨_, _, _, rfl, hP, hbf.out⟩

end Go.Proofs.YtbeigdbljepfkaaGreat

namespace Go.Proofs.YtbeigdbljepfkaaGreat
open Go.RowKit
set_option linter.unusedVariables false

def turned (ps : List (Int × Int)) : List (Int × Int) := ps.map fun x => (x.2, x.1)

end Go.Proofs.YtbeigdbljepfkaaGreat

namespace Go.Proofs.YtbeigdbljepfkaaGreat
open Go.RowKit
set_option linter.unusedVariables false

theorem PairsAt.farB {w : World} {A : Option Addr} {m g : Nat} {ps : List (Int × Int)} {t : TypeId} {N : Int} {B : Option Addr} {n c : Nat} (h : PairsAt w A m ps) (hM : MatB w g t N B n c) : 0 < m → ∀ ad, A = some ad → ad.block ≠ g := by
  intro h0 ad e
  obtain ⟨b, off, p, e2, _, _, _, c0, c1⟩ := h.at_ h0
  rw [e] at e2
  cases e2
  intro hb
  have hb' : b = g := hb
  subst hb'
  rw [Blk.cell hM] at c0 c1
  match off + 0 * 2, c0, c1 with
  | 0, c0, c1 => simp at c1
  | 1, c0, c1 => simp at c0
  | k + 2, c0, c1 => simp at c0
theorem PairsAt.setCell {w : World} {A : Option Addr} {m : Nat} {ps : List (Int × Int)} {p : Addr} (h : PairsAt w A m ps) (hne : 0 < m → ∀ ad, A = some ad → ad.block ≠ p.block) (u : Value) : PairsAt (w.setCell p u) A m ps :=
  ⟨h.1, h.2.1, fun hn => by
    obtain ⟨b, off, e, hb, hc⟩ := h.2.2 hn
    have hbp := hne hn _ e
    refine ⟨b, off, e, by simpa using hb, fun j q hq => ?_⟩
    obtain ⟨h1, h2⟩ := hc j q hq
    exact ⟨by rw [World.cell?_setCell_other w p ⟨b, off + j * 2, none⟩ u (fun e => hbp (by rw [e]))]; exact h1, by rw [World.cell?_setCell_other w p ⟨b, off + j * 2 + 1, none⟩ u (fun e => hbp (by rw [e]))]; exact h2⟩⟩
/-- both numbers are among l -/
def bothIn (l : List Int) (p : Int × Int) : Bool := decide (p.1 ∈ l) && decide (p.2 ∈ l)
def withinM (n : Nat) (a : List (List Nat)) (l : List Int) : List (List Nat) := foldP n ((pairsM a).filter (bothIn l))
theorem foldP_app (n : Nat) (ps : List (Int × Int)) (p : Int × Int) : foldP n (ps ++ [p]) = setM (foldP n ps) p.1 p.2 := by
  unfold foldP; rw [List.foldl_append]; rfl
theorem within_facts {n : Nat} {a : List (List Nat)} (hG : Good n a) (l : List Int) : Good n (withinM n a l) ∧ ∀ x y : Nat, Rel (withinM n a l) x y ↔ Rel a x y ∧ (x : Int) ∈ l ∧ (y : Int) ∈ l := by
  have h := foldP_facts hG.le ((pairsM a).filter (bothIn l)) (fun x hx => hG.ok x (List.mem_filter.1 hx).1)
  refine ⟨h.1, fun x y => ?_⟩
  unfold Rel withinM
  rw [h.2 x y, decide_eq_true_eq, List.mem_filter, mem_pairsM]
  unfold bothIn
  simp
set_option maxRecDepth 100000 in
set_option maxHeartbeats 4000000 in
theorem ref4_Within (A L : Option Addr) (n c m d : Nat) (a : List (List Nat)) (zs : List Int) (w : World) (hr : RowsAt w A n a) (hG : Good n a) (hn64 : n < 64) (hz : Ints w L m zs) (hm : m ≤ 1073741824) :
    Calls Tryz.prog 13 #[.agg #[.int .i64 (n : Int), .slice A n c], .slice L m d] w (RetMat1 (n : Int) (withinM n a zs) w) := by
  have hnn : n ≤ 4096 := hG.le
  obtain ⟨W0, hW0⟩ : ∃ W0, W0 = (w.alloc (.cells #[.int .i64 n, .slice A n c] 34)).alloc (.cells #[.int .i64 0, .slice none 0 0] 34) := ⟨_, rfl⟩
  have bb := Lib.hid (show Below w.heap.size w W0 by rw [hW0]; exact ((Below.refl _ _).alloc (Nat.le_refl _) _).alloc (by simp) _)
  have k1 := Lib.hid (show MatK W0 w.heap.size 34 n A n c a by rw [hW0]; exact (MatK.new w _ hr).below (below_alloc _ _))
  have m2 := Lib.hid (show MatB W0 (w.heap.size + 1) 34 0 none 0 0 by rw [hW0]; exact MatB.new1 w _ _)
  have cN := Lib.hid (fun W => ref3_New n hnn W)
  have cP := Lib.hid (fun W hW => ref3_Pairs A n c a W hW hnn (fun k xs hx => by have := hG.small xs (List.mem_of_getElem? hx); omega))
  have cH := Lib.hid (fun x W (hW : Ints W L m zs) => ref4_has L m d zs x W hW hm)
  have cS := Lib.hid (fun i j (h3 : inM (n : Int) i j = true) C e X (hX : Good n X) W (hW : RowsAt W C n X) => ref3_Set (n : Int) C n e X i j W hW rfl hnn (fun xs hx => by have := hX.small xs hx; omega) h3)
  have hpl := Lib.hid (show (pairsM a).length ≤ 16777216 from by
    rw [pairs_sum hG]
    have h1 : ∀ k, sumF k (fun i => sumF n fun j => (hasM a (i : Int) (j : Int)).toNat) ≤ k * n := by
      intro k
      induction k with
      | zero => simp [sumF]
      | succ k ih =>
        have h2 : ∀ q, sumF q (fun j => (hasM a (k : Int) (j : Int)).toNat) ≤ q := by
          intro q
          induction q with
          | zero => simp [sumF]
          | succ q ih2 => rw [sumF_succ]; have := Bool.toNat_le (hasM a (k : Int) (q : Int)); omega
        rw [sumF_succ, Nat.add_mul, Nat.one_mul]
        have := h2 n
        omega
    have h3 := h1 n
    have h4 : n * n ≤ 64 * 64 := Nat.mul_le_mul (by omega) (by omega)
    omega)
  have hF := Lib.hid (fun (k : Nat) => foldP_facts hnn (((pairsM a).take k).filter (bothIn zs)) (fun x hx => hG.ok x (List.mem_of_mem_take (List.mem_filter.1 hx).1)))
  have hok := Lib.hid hG.ok
  replace hG := Lib.hid hG
  replace hz := Lib.hid hz
  clear hr
  have qk10 := k1.out.1.c0
  have qk11 := k1.out.1.c1
  go_enter Tryz.func13, Tryz.ntmps13
  go_wp2_with fail
  rw [← hW0]
  clear hW0
  go_wp2_with fail
  refine (cN.out W0).mono ?_; rintro e w1 ⟨A3, n3, c3, rfl, r3, hc3, b⟩
  obtain rfl : n = n3 := by have := r3.len; simp [newM] at this; omega
  replace m2 := Lib.hid (m2.out.below b)
  obtain ⟨W1, hW1⟩ : ∃ W1, W1 = w1.alloc (.cells #[.int .i64 n, .slice A3 n c3] 34) := ⟨_, rfl⟩
  obtain ⟨G3, hG3⟩ : ∃ G, G = w1.heap.size := ⟨_, rfl⟩
  have ba : Below w1.heap.size w1 W1 := by rw [hW1]; exact below_alloc _ _
  have k3 := Lib.hid (show MatK W1 G3 34 n A3 n c3 (newM n) from ⟨by rw [hW1, hG3]; exact MatB.new _ _, r3.below ba⟩)
  have hlt := m2.out.lt
  have h23 : w.heap.size + 1 < G3 := by omega
  replace m2 := Lib.hid (m2.out.below ba)
  replace b := below_trans2 b ba
  replace k1 := Lib.hid (k1.out.below b)
  replace qk10 := k1.out.1.c0
  replace qk11 := k1.out.1.c1
  replace bb := Lib.hid (below_trans2 bb.out b)
  clear b
  rw [hW1] at qk10 qk11
  clear ba r3 hlt
  go_wp2_with fail
  rw [← hW1, ← hG3]
  rw [← hW1] at qk10 qk11
  clear hW1 hG3
  refine (cP.out W1 k1.out.2).mono ?_; rintro e w2 ⟨P, mp, dp, rfl, hP, b⟩
  have hmp : mp ≤ 16777216 := by have := hpl.out; have := hP.1; omega
  have hpm := Lib.hid hP.1
  replace m2 := Lib.hid (m2.out.below b)
  replace k1 := Lib.hid (k1.out.below b)
  replace qk10 := k1.out.1.c0
  replace qk11 := k1.out.1.c1
  replace k3 := Lib.hid (k3.out.below b)
  replace qk30 := k3.out.1.c0
  replace qk31 := k3.out.1.c1
  replace bb := Lib.hid (below_trans2 bb.out b)
  clear b
  replace hP := Lib.hid hP
  clear qk10 qk11 qk30 qk31
  go_wp2_with fail
  go_loopw [8] (fun t wr => ∃ (k : Nat) (A3 : Option Addr) (c3 : Nat), k ≤ mp ∧ t = .int .i64 k ∧ Hid (n ≤ c3) ∧ Hid (MatB wr (w.heap.size + 1) 34 0 none 0 0) ∧ Hid (MatK wr G3 34 n A3 n c3 (foldP n (((pairsM a).take k).filter (bothIn zs)))) ∧ Hid (Below w.heap.size w wr) ∧ Hid (PairsAt wr P mp (pairsM a))) (fun t _ => mp - (intOf t).toNat)
  case atStart => exact ⟨0, A3, c3, Nat.zero_le _, rfl, Lib.hid hc3, m2, k3, bb, hP⟩
  case round =>
    clear k1 m2 k3 bb hP
    obtain ⟨k, A3, c3, hk, rfl, hc3', m2, k3, bb, hP⟩ := hrel
    by_cases hlt : k < mp
    · obtain ⟨b4, o4, ⟨x, y⟩, rfl, hb4, hx, hxy, c4, c5⟩ := hP.out.at_ hlt
      simp only at c4 c5
      have h3 := hok.out _ (List.mem_of_getElem? hx)
      have hfk := (hF.out k).1
      have cHx := Lib.hid (cH.out x wr (hz.out.below bb.out))
      have cHy := Lib.hid (cH.out y wr (hz.out.below bb.out))
      have cSk := Lib.hid (cS.out x y h3 A3 c3 _ hfk)
      have hn0 : 0 < n := by
        obtain ⟨i, j, _, hi, _⟩ := okP_nat h3
        omega
      have htake : (pairsM a).take (k + 1) = (pairsM a).take k ++ [(x, y)] := by
        rw [List.take_succ_eq_append_getElem (List.getElem?_eq_some_iff.1 hx).1, (List.getElem?_eq_some_iff.1 hx).2]
      have hk0 : (0 : Int) ≤ (k : Int) := by omega
      have hkm' : (k : Int) < (mp : Int) := by omega
      have hF1 := Lib.hid (hF.out (k + 1)).1.len
      clear hx hxy hfk
      replace h3 := Lib.hid h3
      cases hx1 : decide (x ∈ zs) with
      | false =>
        have hst : Hid (((pairsM a).take (k + 1)).filter (bothIn zs) = ((pairsM a).take k).filter (bothIn zs)) := Lib.hid (by
          rw [htake, List.filter_append]
          simp [bothIn, hx1])
        clear htake
        go_wp2_with fail
        refine cHx.out.mono ?_; rintro e w' ⟨rfl, rfl⟩
        rw [hx1]
        clear hx1
        go_wp2_with fail
        go_roundw
        case rel => exact ⟨k + 1, A3, c3, by omega, by go_num, hc3', m2, Lib.hid (by rw [hst.out]; exact k3.out), bb, hP⟩
        case measure => simp [intOf]; omega
      | true =>
        cases hy1 : decide (y ∈ zs) with
        | false =>
          have hst : Hid (((pairsM a).take (k + 1)).filter (bothIn zs) = ((pairsM a).take k).filter (bothIn zs)) := Lib.hid (by
            rw [htake, List.filter_append]
            simp [bothIn, hy1])
          clear htake
          replace hx1 := Lib.hid hx1
          replace hy1 := Lib.hid hy1
          go_wp2_with fail
          refine cHx.out.mono ?_; rintro e w' ⟨rfl, rfl⟩
          rw [hx1.out]
          go_wp2_with fail
          refine cHy.out.mono ?_; rintro e w' ⟨rfl, rfl⟩
          rw [hy1.out]
          go_wp2_with fail
          go_roundw
          case rel => exact ⟨k + 1, A3, c3, by omega, by go_num, hc3', m2, Lib.hid (by rw [hst.out]; exact k3.out), bb, hP⟩
          case measure => simp [intOf]; omega
        | true =>
          have hst : Hid (foldP n (((pairsM a).take (k + 1)).filter (bothIn zs)) = setM (foldP n (((pairsM a).take k).filter (bothIn zs))) x y) := Lib.hid (by
            rw [htake, List.filter_append, show [(x, y)].filter (bothIn zs) = [(x, y)] by simp [bothIn, of_decide_eq_true hx1, of_decide_eq_true hy1], foldP_app])
          clear htake
          replace hx1 := Lib.hid hx1
          replace hy1 := Lib.hid hy1
          go_wp2_with fail
          refine cHx.out.mono ?_; rintro e w' ⟨rfl, rfl⟩
          rw [hx1.out]
          go_wp2_with fail
          refine cHy.out.mono ?_; rintro e w' ⟨rfl, rfl⟩
          rw [hy1.out]
          go_wp2_with fail
          refine wp_region_planT 13 [(true, 0), (true, 1), (true, 2), (true, 3), (true, 4), (true, 5), (true, 6), (true, 7), (true, 8), (true, 9), (true, 10), (false, 11), (true, 12)] 15 [13, 14] (by kernel_rfl) (by kernel_rfl) (fun W1 hW1 => ?_)
          replace k3 := Lib.hid (show MatK W1 G3 34 n A3 n c3 (foldP n (((pairsM a).take k).filter (bothIn zs))) by rw [hW1.out]; exact k3.out.drew)
          replace m2 := Lib.hid (show MatB W1 (w.heap.size + 1) 34 0 none 0 0 by rw [hW1.out]; exact Blk.drew m2.out)
          replace bb := Lib.hid (show Below w.heap.size w W1 by rw [hW1.out]; exact bb.out.drew)
          replace hP := Lib.hid (show PairsAt W1 (some ⟨b4, o4, none⟩) mp (pairsM a) by rw [hW1.out]; exact hP.out)
          replace c4 : W1.cell? ⟨b4, o4 + k * 2, none⟩ = some (.int .i64 x) := by rw [hW1.out]; exact c4
          replace c5 : W1.cell? ⟨b4, o4 + k * 2 + 1, none⟩ = some (.int .i64 y) := by rw [hW1.out]; exact c5
          clear hW1 cHx cHy
          simp only [List.drop_succ_cons, List.drop_zero]
          have qk30 := k3.out.1.c0
          have qk31 := k3.out.1.c1
          iterate 11
            refine wpPlanE_float (v := ?_) rfl (by rfl) (fun w' hw' => ?_) (fun K hK => ?_)
            rotate_left
            · (go_simp; try with_reducible rfl)
            go_simp
            refine hK _ ?_
            clear hK K
          clear c4 c5 qk30 qk31
          refine wpPlanE_only rfl (by rfl) (fun K hK => ?_)
          go_simp
          refine (cSk.out W1 k3.out.2).mono ?_
          rintro e w3 ⟨D, nn, dd, rfl, rD, hcD, b⟩
          obtain rfl : n = nn := by have := rD.len; have := hF1.out; rw [hst.out] at this; omega
          refine hK _ _ b ?_
          clear hK K cSk
          replace m2 := Lib.hid (m2.out.below b)
          replace hP := Lib.hid (hP.out.below b)
          replace k3 := Lib.hid (k3.out.below b)
          replace bb := Lib.hid (below_trans2 bb.out b)
          replace rD := Lib.hid rD
          replace hcD := Lib.hid hcD
          clear b
          iterate 1
            refine wpPlanE_float (v := ?_) rfl (by rfl) (fun w' hw' => ?_) (fun K hK => ?_)
            rotate_left
            · (go_simp; try with_reducible rfl)
            go_simp
            refine hK _ ?_
            clear hK K
          refine wpPlanE_nil ?_
          iterate 2
            refine wpPlanT_float (v := ?_) rfl (by rfl) (fun w' => ?_) (fun K hK => ?_)
            rotate_left
            · (go_simp; try with_reducible rfl)
            go_simp
            refine hK _ ?_
            clear hK K
          refine wpPlanT_nil ?_
          have qk30 := k3.out.1.c0
          have qk31 := k3.out.1.c1
          have f0 := k3.out.1.frozen 0
          have f1 := k3.out.1.frozen 1
          go_wp2_with fail
          refine NoPanic.normal ?_
          clear f0 f1 qk30 qk31
          obtain ⟨Wz, hWz⟩ : ∃ X : World, X = (w3.setCell ⟨G3, 0, none⟩ (.int .i64 n)).setCell ⟨G3, 1, none⟩ (.slice D n dd) := ⟨_, rfl⟩
          rw [← hWz]
          have k3' := Lib.hid (show MatK Wz G3 34 n D n dd (setM (foldP n (((pairsM a).take k).filter (bothIn zs))) x y) by rw [hWz]; exact ⟨k3.out.1.put n D n dd, rD.out.putB k3.out.1 (rD.out.farK k3.out hn0) _ _⟩)
          have m2' := Lib.hid (show MatB Wz (w.heap.size + 1) 34 0 none 0 0 by rw [hWz]; exact (m2.out.farB (p := ⟨G3, 0, none⟩) (by simp <;> omega) _).farB (p := ⟨G3, 1, none⟩) (by simp <;> omega) _)
          have hP' := Lib.hid (show PairsAt Wz (some ⟨b4, o4, none⟩) mp (pairsM a) by rw [hWz]; exact (hP.out.setCell (p := ⟨G3, 0, none⟩) (hP.out.farB k3.out.1) _).setCell (p := ⟨G3, 1, none⟩) (hP.out.farB k3.out.1) _)
          replace bb := Lib.hid (show Below w.heap.size w Wz by rw [hWz]; exact (bb.out.setCell (p := ⟨G3, 0, none⟩) (by simp <;> omega) _).setCell (p := ⟨G3, 1, none⟩) (by simp <;> omega) _)
          clear hWz k3 m2 hP rD
          go_wp2_with fail
          go_roundw
          case rel => exact ⟨k + 1, D, dd, by omega, by go_num, hcD, m2', Lib.hid (by rw [hst.out]; exact k3'.out), bb, hP'⟩
          case measure => simp [intOf]; omega
    · obtain rfl : k = mp := by omega
      have he : Hid (foldP n (((pairsM a).take k).filter (bothIn zs)) = withinM n a zs) := Lib.hid (by rw [List.take_of_length_le (by rw [hpm.out]; exact Nat.le_refl _)]; rfl)
      have hone := Lib.hid ((within_facts hG.out zs).1.one hn64)
      rw [he.out] at k3
      have qk30 := k3.out.1.c0
      have qk31 := k3.out.1.c1
      have f0 := m2.out.c0
      have f1 := m2.out.c1
      have g0 := m2.out.frozen 0
      have g1 := m2.out.frozen 1
      go_wp2_with fail
      have hcc := m2.out.two (.int .i64 n) (.slice A3 n c3)
      have hc1 := hcc.1
      have hc2 := hcc.2
      clear hcc f0 f1 g0 g1
      exact bodyPost_ret (v := .agg #[.int .i64 n, .slice A3 n c3]) (by simp [results, Tryz.results13, go_sem, hc1, hc2]) rfl ⟨_, _, _, rfl, k3.out.2.putB m2.out (k3.out.2.farM m2.out hone.out) _ _, hc3'.out, (bb.out.setCell (p := ⟨w.heap.size + 1, 0, none⟩) (by simp) _).setCell (p := ⟨w.heap.size + 1, 1, none⟩) (by simp) _⟩

end Go.Proofs.YtbeigdbljepfkaaGreat

namespace Go.Proofs.YtbeigdbljepfkaaGreat
open Go.RowKit
set_option linter.unusedVariables false

section
variable {P : Program} {ops : Array Oper} {md : Region.Mode} {Q : Exit → Act → World → Prop} {S : World → Prop}

def wpAnyS (S : World → Prop) (P : Program) (md : Region.Mode) (ops : Array Oper) (Q : Exit → Act → World → Prop) : Nat → Array Bool → Act → World → Prop
  | 0, listed, a, w => Region.ready md ops listed = [] ∧ Q .normal a w
  | f + 1, listed, a, w => Region.ready md ops listed ≠ [] ∧ ∀ i ∈ Region.ready md ops listed, wpOp P ops Q i (fun a' w' => S w' ∧ wpAnyS S P md ops Q f (listed.setIfInBounds i true) a' w') a w
theorem wpAny_of_S : ∀ (f : Nat) (listed : Array Bool) (a : Act) (w : World), wpAnyS S P md ops Q f listed a w → wpAny P md ops Q f listed a w
  | 0, _, _, _, h => h
  | f + 1, listed, a, w, h => ⟨fun h0 => absurd h0 h.1, fun i hi => wpOp_mono (fun a' w' h' => wpAny_of_S f _ a' w' h'.2) (h.2 i hi)⟩

theorem wpAnyS_first {i : Nat} {oi : Oper} {v : Value} (hi : ops[i]? = some oi) (hsel : ∀ (j : Nat) (o : Oper) cs b, ops[j]? = some o → o.op ≠ .select cs b)
    (hQ : ∀ c a w, Q (.panic c) (a.put oi.dst v) w → Q (.panic c) a w) :
    ∀ (f : Nat) (listed : Array Bool) (a : Act) (w : World), S w →
      (∀ j oj, ops[j]? = some oj → j ≠ i → listed.getD j true = false → (∀ e ∈ oj.after, Region.binds md e = true → e.on ≠ i) → oi.apart ops oj = true) →
      i ∈ Region.ready md ops listed → YieldsIf P ops S oi v a →
      wpAnyS S P md ops Q f (listed.setIfInBounds i true) (a.put oi.dst v) w → wpAnyS S P md ops Q (f + 1) listed a w := by
  intro f
  induction f with
  | zero =>
    intro listed a w hS _ hr hy H
    refine ⟨fun h => (by rw [h] at hr; cases hr), fun j hj => ?_⟩
    by_cases hji : j = i
    · subst hji; exact hy.wpOp hi hS ⟨hS, H⟩
    · have h1 := ready_mono hj hji
      rw [H.1] at h1
      cases h1
  | succ f ih =>
    intro listed a w hS hfree hr hy H
    have hun := (mem_ready.1 hr).1
    refine ⟨fun h => (by rw [h] at hr; cases hr), fun j hj => ?_⟩
    by_cases hji : j = i
    · subst hji; exact hy.wpOp hi hS ⟨hS, H⟩
    · have h1 := H.2 j (ready_mono hj hji)
      obtain ⟨hjun, oj, hoj, hall⟩ := mem_ready.1 hj
      have hnot : ∀ e ∈ oj.after, Region.binds md e = true → e.on ≠ i := fun e he hb heq => by
        have h1 := hall e he hb
        rw [heq, getD_both hun] at h1
        cases h1
      have h2 := wpOp_putIf hoj (hfree j oj hoj hji hjun hnot) (fun cs b => hsel i oi cs b hi) (fun cs b => hsel j oj cs b hoj) hQ hy h1
      have hfree' : ∀ k ok, ops[k]? = some ok → k ≠ i → (listed.setIfInBounds j true).getD k true = false →
          (∀ e ∈ ok.after, Region.binds md e = true → e.on ≠ i) → oi.apart ops ok = true := fun k ok hk hki hun hno => by
        refine hfree k ok hk hki ?_ hno
        by_cases hjk : j = k
        · subst hjk; exact hjun
        · rw [getD_set_ne true hjk] at hun; exact hun
      refine wpOp_mono (fun a' w' h3 => ⟨h3.2.1, ih (listed.setIfInBounds j true) a' w' h3.2.1 hfree' (ready_mono hr (Ne.symm hji)) h3.1 ?_⟩) h2
      rw [Array.setIfInBounds_comm _ _ hji]
      exact h3.2.2

/-- a tree of orders -/
inductive PT where
  | done
  | flt (i : Nat) (t : PT)
  | one (i : Nat) (t : PT)
  | two (i j : Nat) (ti tj : PT)
  | three (i j k : Nat) (ti tj tk : PT)
def PT.depth : PT → Nat
  | .done => 0
  | .flt _ t => t.depth + 1
  | .one _ t => t.depth + 1
  | .two _ _ t _ => t.depth + 1
  | .three _ _ _ t _ _ => t.depth + 1
def PT.ok (md : Region.Mode) (ops : Array Oper) : PT → Array Bool → Bool
  | .done, listed => (Region.ready md ops listed).isEmpty
  | .flt i t, listed => (Region.ready md ops listed).contains i && Region.free md ops listed i && t.ok md ops (listed.setIfInBounds i true)
  | .one i t, listed => decide (Region.ready md ops listed = [i]) && t.ok md ops (listed.setIfInBounds i true)
  | .two i j t u, listed => decide (Region.ready md ops listed = [i, j]) && decide (t.depth = u.depth) && t.ok md ops (listed.setIfInBounds i true) && u.ok md ops (listed.setIfInBounds j true)
  | .three i j k t u v, listed => decide (Region.ready md ops listed = [i, j, k]) && (decide (t.depth = u.depth) && decide (t.depth = v.depth)) && t.ok md ops (listed.setIfInBounds i true) && u.ok md ops (listed.setIfInBounds j true) && v.ok md ops (listed.setIfInBounds k true)
def wpPT (S : World → Prop) (P : Program) (ops : Array Oper) (Q : Exit → Act → World → Prop) : PT → Act → World → Prop
  | .done, a, w => Q .normal a w
  | .flt i t, a, w => ∃ o v, ops[i]? = some o ∧ YieldsIf P ops S o v a ∧ wpPT S P ops Q t (a.put o.dst v) w
  | .one i t, a, w => wpOp P ops Q i (fun a' w' => S w' ∧ wpPT S P ops Q t a' w') a w
  | .two i j t u, a, w => wpOp P ops Q i (fun a' w' => S w' ∧ wpPT S P ops Q t a' w') a w ∧ wpOp P ops Q j (fun a' w' => S w' ∧ wpPT S P ops Q u a' w') a w
  | .three i j k t u v, a, w => wpOp P ops Q i (fun a' w' => S w' ∧ wpPT S P ops Q t a' w') a w ∧ wpOp P ops Q j (fun a' w' => S w' ∧ wpPT S P ops Q u a' w') a w ∧ wpOp P ops Q k (fun a' w' => S w' ∧ wpPT S P ops Q v a' w') a w

theorem wpAnyS_tree (hsel : Region.noSelect ops = true) (hQ : ∀ c a d v w, Q (.panic c) (a.put d v) w → Q (.panic c) a w) :
    ∀ (t : PT) (listed : Array Bool) (a : Act) (w : World), S w → t.ok md ops listed = true → wpPT S P ops Q t a w → wpAnyS S P md ops Q t.depth listed a w
  | .done, listed, a, w, _, hB, h => ⟨by simpa [PT.ok] using hB, h⟩
  | .flt i t, listed, a, w, hS, hB, h => by
    simp only [PT.ok, Bool.and_eq_true] at hB
    obtain ⟨⟨hr, hf⟩, hB'⟩ := hB
    obtain ⟨o, v, ho, hy, h'⟩ := h
    exact wpAnyS_first ho (Region.noSelect_spec hsel) (fun c a w => hQ c a o.dst v w) t.depth listed a w hS (Region.free_spec ho hf) (by simpa using hr) hy (wpAnyS_tree hsel hQ t _ _ _ hS hB' h')
  | .one i t, listed, a, w, hS, hB, h => by
    simp only [PT.ok, Bool.and_eq_true, decide_eq_true_eq] at hB
    refine ⟨by rw [hB.1]; simp, fun j hj => ?_⟩
    rw [hB.1] at hj
    have hji : j = i := by simpa using hj
    subst hji
    exact wpOp_mono (fun a' w' h3 => ⟨h3.1, wpAnyS_tree hsel hQ t _ a' w' h3.1 hB.2 h3.2⟩) h
  | .two i k t u, listed, a, w, hS, hB, h => by
    simp only [PT.ok, Bool.and_eq_true, decide_eq_true_eq] at hB
    obtain ⟨⟨⟨hr, hd⟩, h1⟩, h2⟩ := hB
    refine ⟨by rw [hr]; simp, fun j hj => ?_⟩
    rw [hr] at hj
    have hjik : j = i ∨ j = k := by simpa using hj
    rcases hjik with rfl | rfl
    · exact wpOp_mono (fun a' w' h3 => ⟨h3.1, wpAnyS_tree hsel hQ t _ a' w' h3.1 h1 h3.2⟩) h.1
    · refine wpOp_mono (fun a' w' h3 => ⟨h3.1, ?_⟩) h.2
      rw [hd]
      exact wpAnyS_tree hsel hQ u _ a' w' h3.1 h2 h3.2
  | .three i j k t u v, listed, a, w, hS, hB, h => by
    simp only [PT.ok, Bool.and_eq_true, decide_eq_true_eq] at hB
    obtain ⟨⟨⟨⟨hr, hd, hd2⟩, h1⟩, h2⟩, h3⟩ := hB
    refine ⟨by rw [hr]; simp, fun q hq => ?_⟩
    rw [hr] at hq
    have hqs : q = i ∨ q = j ∨ q = k := by simpa using hq
    rcases hqs with rfl | rfl | rfl
    · exact wpOp_mono (fun a' w' h3' => ⟨h3'.1, wpAnyS_tree hsel hQ t _ a' w' h3'.1 h1 h3'.2⟩) h.1
    · refine wpOp_mono (fun a' w' h3' => ⟨h3'.1, ?_⟩) h.2.1
      rw [hd]
      exact wpAnyS_tree hsel hQ u _ a' w' h3'.1 h2 h3'.2
    · refine wpOp_mono (fun a' w' h3' => ⟨h3'.1, ?_⟩) h.2.2
      rw [hd2]
      exact wpAnyS_tree hsel hQ v _ a' w' h3'.1 h3 h3'.2

theorem wp_region_tree {id : Nat} {a : Act} {w : World} {l : List Oper} (t : PT) (hm : P.follows .mixedOrders = true) (hB : (Region.noSelect l.toArray && decide (t.depth = l.toArray.size) && t.ok .any l.toArray (Array.replicate l.toArray.size false)) = true)
    (h : ∀ W : World, Hid (W = w.drew) → wpPT (fun x => Below W.heap.size W x) P l.toArray (NoPanic Q) t a W) : (Code.region id l.toArray true).wp P Q a w := by
  refine wp_region_noPanic ?_
  have hQ : ∀ c a d v w, NoPanic Q (.panic c) (a.put d v) w → NoPanic Q (.panic c) a w := fun _ _ _ _ _ h => h
  simp only [Bool.and_eq_true, decide_eq_true_eq] at hB
  obtain ⟨⟨hsel, hd⟩, hok⟩ := hB
  refine wp_region_any hm ?_
  have H := wpAny_of_S _ _ _ _ (wpAnyS_tree (md := .any) hsel hQ t _ a w.drew (Below.refl _ _) hok (h w.drew (Lib.hid rfl)))
  rw [hd] at H
  exact H

/-! ### the steps -/
section
variable {W : World} {t u : PT} {a : Act} {w : World} {i j : Nat} {o : Oper}
theorem wpPT_float {v : Value} (hi : ops[i]? = some o) (hw : Region.wanted o (yielded ops a.tmps) = true)
    (hy : ∀ w' : World, (∀ p, (W.cell? p).isSome = true → w'.cell? p = W.cell? p) → (execOp a.eval o).run P w' = .ok (.value v) w') (h : ∀ K : Act → Prop, (∀ a', wpPT (fun x => Below W.heap.size W x) P ops Q t a' w → K a') → K (a.put o.dst v)) : wpPT (fun x => Below W.heap.size W x) P ops Q (.flt i t) a w :=
  ⟨o, v, hi, .inl ⟨hw, fun w' hb => hy w' (fun p hp => by
    have hlt : p.block < W.heap.size := by
      cases hc : W.cell? p with
      | none => rw [hc] at hp; cases hp
      | some u => exact block_lt_of_cell hc
    exact hb.cell hlt)⟩, h _ (fun _ h => h)⟩
theorem wpOp_step {K0 : Act → World → Prop} (hi : ops[i]? = some o) (hw : Region.wanted o (yielded ops a.tmps) = true)
    (h : ∀ K : Act → World → Prop, (∀ a' w', S w' → K0 a' w' → K a' w') → o.wp P a w K Q) : wpOp P ops Q i (fun a' w' => S w' ∧ K0 a' w') a w := by
  unfold wpOp
  simp only [hi, hw, if_true]
  exact .inl (h _ (fun a' w' hb hp => ⟨hb, hp⟩))
theorem wpPT_one (hi : ops[i]? = some o) (hw : Region.wanted o (yielded ops a.tmps) = true)
    (h : ∀ K : Act → World → Prop, (∀ a' w', S w' → wpPT S P ops Q t a' w' → K a' w') → o.wp P a w K Q) : wpPT S P ops Q (.one i t) a w := wpOp_step hi hw h
theorem wpPT_two {o' : Oper} (hi : ops[i]? = some o) (hw : Region.wanted o (yielded ops a.tmps) = true) (hj : ops[j]? = some o') (hw' : Region.wanted o' (yielded ops a.tmps) = true)
    (h : ∀ K : Act → World → Prop, (∀ a' w', S w' → wpPT S P ops Q t a' w' → K a' w') → o.wp P a w K Q)
    (h' : ∀ K : Act → World → Prop, (∀ a' w', S w' → wpPT S P ops Q u a' w' → K a' w') → o'.wp P a w K Q) : wpPT S P ops Q (.two i j t u) a w := ⟨wpOp_step hi hw h, wpOp_step hj hw' h'⟩
theorem wpPT_done (h : Q .normal a w) : wpPT S P ops Q .done a w := h
end
end
end Go.Proofs.YtbeigdbljepfkaaGreat

namespace Go.Proofs.YtbeigdbljepfkaaGreat
open Go.RowKit
set_option linter.unusedVariables false
theorem foldP_len1024 {n : Nat} (hn : n ≤ 4096) (ps : List (Int × Int)) : ∀ xs ∈ foldP n ps, xs.length ≤ 1024 := poM_len hn ps
set_option maxRecDepth 100000 in
set_option maxHeartbeats 2000000 in
theorem ref13_Rf (v : FV) (f : Fac) (w : World) (hF : FactsAt w v f) (hm : v.m ≤ 4096) (hw : WholeF f) :
    Calls Tryz.prog 52 #[.agg #[.slice v.A v.n v.c, .slice v.B v.m v.d, .slice v.C v.k v.e]] w (RetMat1F (v.m : Int) (rfM f.items.length f.frm) w) := by
  have hil := hF.is.len
  have hfl := hF.fs.len
  have hkv : v.k = v.m := by rw [← hil, ← hfl]; exact hw.len
  rw [show rfM f.items.length f.frm = foldP v.m (rfPs f.frm v.m) from by unfold rfM; rw [hil, hfl, hkv]]
  have hlt' := hw.lt
  rw [hil] at hlt'
  replace hlt' := Lib.hid hlt'
  have cN := Lib.hid (ref3_NewF v.m hm)
  replace hil := Lib.hid hil
  replace hfl := Lib.hid hfl
  replace hkv := Lib.hid hkv
  -- a call with facts v: they are boxed at g, the world is W0 then
  have hB0 := Lib.hid (FBox.new hF)
  obtain ⟨g, hg⟩ : ∃ g, g = w.heap.size := ⟨_, rfl⟩
  obtain ⟨W0, hW0⟩ : ∃ W, W = w.alloc (.cells #[.slice v.A v.n v.c, .slice v.B v.m v.d, .slice v.C v.k v.e] 29) := ⟨_, rfl⟩
  rw [← hW0, ← hg] at hB0
  clear hF
  obtain ⟨gr, hgr⟩ : ∃ g, g = W0.heap.size := ⟨_, rfl⟩
  obtain ⟨W1, hW1⟩ : ∃ W, W = W0.alloc (.cells #[.int .i64 0, .slice none 0 0] 34) := ⟨_, rfl⟩
  have b1 : Below W0.heap.size W0 W1 := by rw [hW1]; exact (Below.refl _ _).alloc (Nat.le_refl _) _
  have kR : MatB W1 gr 34 0 none 0 0 := by rw [hW1, hgr]; exact MatB.new W0 _
  have hB1 := Lib.hid (hB0.out.later b1)
  have p0 := hB1.out.c0
  have p1 := hB1.out.c1
  have p2 := hB1.out.c2
  go_enter Tryz.func52, Tryz.ntmps52
  go_wp2_with (first | (rw [← hW0, ← hg]; clear hW0 hg) | (rw [← hW1, ← hgr]; clear hW1))
  refine (cN.out _).mono ?_; rintro e w2 ⟨C, p, q, rfl, hrows, hcap, b2, hfar⟩
  have hpn : p = v.m := by rw [← hrows.len]; exact (DimM.new v.m).1
  subst hpn
  obtain ⟨M, hM⟩ : ∃ M, M = w2.heap.size := ⟨_, rfl⟩
  obtain ⟨W2, hW2⟩ : ∃ W2, W2 = w2.alloc (.cells #[.int .i64 v.m, .slice C v.m q] 34) := ⟨_, rfl⟩
  have b3 : Below w2.heap.size w2 W2 := by rw [hW2]; exact (Below.refl _ _).alloc (Nat.le_refl _) _
  have hbb := Lib.hid (below_trans2 (below_trans2 b1 b2) b3)
  have hMV := Lib.hid (show MV W2 M v.m C q (foldP v.m (rfPs f.frm 0)) from ⟨by rw [hW2, hM]; exact MatB.new w2 _, by rw [show rfPs f.frm 0 = [] from rfl, foldP_nil]; exact hrows.below b3, hcap, fun h0 ad e => by have := hrows.block_lt h0 ad e; omega⟩)
  have hgrM : gr < M := by have := kR.lt; have := b2.size; omega
  have kR2 := Lib.hid ((kR.below_ b2).below_ b3)
  have hgW : W0.heap.size ≤ gr := by omega
  have hAf := Lib.hid (show ∀ ad, C = some ad → gr < ad.block from fun ad e => by have := hfar ad e; have := kR.lt; omega)
  replace hgr := Lib.hid hgr
  clear hrows hcap b2 b3 hfar kR b1 hB1 p0 p1 p2 cN
  go_wp2_with (rw [← hW2, ← hM]; clear hW2; replace hM := Lib.hid hM)
  go_loopw [5] (fun t wr => ∃ (i : Nat) (A : Option Addr) (c : Nat), i ≤ v.m ∧ t = .int .i64 i ∧ Hid (Below W0.heap.size W0 wr) ∧ Hid (MatB wr gr 34 0 none 0 0) ∧ Hid (MV wr M v.m A c (foldP v.m (rfPs f.frm i))) ∧ Hid (∀ ad, A = some ad → gr < ad.block)) (fun t _ => v.m - (intOf t).toNat)
  case atStart => exact ⟨0, _, _, Nat.zero_le _, rfl, hbb, kR2, hMV, hAf⟩
  case round =>
    clear hbb kR2 hMV hAf
    obtain ⟨i, A, c, hi, rfl, hbb, kR, hMV, hAf⟩ := hrel
    have hB := Lib.hid (hB0.out.later hbb.out)
    by_cases hlt : i < v.m
    · have hik : (i : Int) < (v.k : Int) := by have := hkv.out; omega
      have p0 := hB.out.c0
      have p1 := hB.out.c1
      have p2 := hB.out.c2
      obtain ⟨ib, io, z, hzC, hib, hz, hzo, j0⟩ := hB.out.f.fs.int (show i < v.k by have := hkv.out; omega)
      rw [hzC] at p2
      have hgd : f.frm.getD i 0 = z := by rw [List.getD_eq_getElem?_getD, hz]; rfl
      have hrs := rfPs_succ f.frm i
      rw [hgd] at hrs
      have hzm : z < (v.m : Int) := hlt'.out z (List.mem_of_getElem? hz)
      replace hgd := Lib.hid hgd
      by_cases hz0 : 0 ≤ z
      · rw [if_pos hz0] at hrs
        have e0 : decide (0 ≤ z) = true := decide_eq_true hz0
        have cS := fun W (hW : RowsAt W A v.m (foldP v.m (rfPs f.frm i))) => ref3_SetF (v.m : Int) A v.m c _ z (i : Int) W hW rfl hm (foldP_len1024 hm _) (by unfold inM; simp; omega)
        replace cS := Lib.hid cS
        replace hrs := Lib.hid hrs
        replace hz := Lib.hid hz
        clear hzo hzC hib
        go_wp2_with fail
        refine wp_region_planT 9 [(true, 0), (true, 1), (true, 2), (true, 3), (true, 4), (true, 5), (true, 6), (false, 7), (true, 8)] 11 [9, 10] (by kernel_rfl) (by kernel_rfl) (fun W hW => ?_)
        have hWb : Below wr.heap.size wr W := by rw [hW.out]; exact (Below.refl _ _).drew
        replace hbb := Lib.hid (below_trans2 hbb.out hWb)
        replace kR := Lib.hid (kR.out.below_ hWb)
        replace hMV := Lib.hid (hMV.out.later hWb)
        replace hB := Lib.hid (hB.out.later hWb)
        clear p0 p1 p2 j0 hW hWb
        have p0 := hB.out.c0
        have p1 := hB.out.c1
        have p2 := hB.out.c2
        obtain ⟨ib', io', z', hzC, hib, hz', hzo, j0⟩ := hB.out.f.fs.int (show i < v.k by have := hkv.out; omega)
        rw [hz.out] at hz'
        injection hz' with hz'
        subst hz'
        rw [hzC] at p2
        have m0 := hMV.out.loc.c0
        have m1 := hMV.out.loc.c1
        clear hzo hib hzC
        simp only [List.drop_succ_cons, List.drop_zero]
        iterate 7
          refine wpPlanE_float (v := ?_) rfl (by rfl) (fun w' hw' => ?_) (fun K hK => ?_)
          rotate_left
          · (go_simp; try with_reducible rfl)
          go_simp
          refine hK _ ?_
          clear hK K
        refine wpPlanE_only rfl (by rfl) (fun K hK => ?_)
        go_simp
        refine (cS.out W hMV.out.rows).mono ?_
        rintro e w4 ⟨C2, n2, c2, rfl, hrows2, hcap2, b4, hfar2⟩
        have hn2 : n2 = v.m := by
          have h1 := hrows2.len
          rw [← foldP_last v.m (rfPs f.frm i) (z, (i : Int))] at h1
          rw [← h1]; exact (DimM.fold v.m _).1
        subst hn2
        refine hK _ _ b4 ?_
        clear hK K p0 p1 p2 j0 m0 m1
        have hMV4 := Lib.hid (hMV.out.put b4 hrows2 hcap2 hfar2)
        have hAf4 := Lib.hid (show ∀ ad, C2 = some ad → gr < ad.block from fun ad e => by have := hfar2 ad e; have := kR.out.lt; omega)
        have kM := hMV.out.loc.below_ b4
        have hbb4 := Lib.hid (((below_trans2 hbb.out b4).setCell (p := ⟨M, 0, none⟩) (by show W0.heap.size ≤ M; omega) (.int .i64 (v.m : Int))).setCell (p := ⟨M, 1, none⟩) (by show W0.heap.size ≤ M; omega) (.slice C2 v.m c2))
        have kR4 := Lib.hid (((kR.out.below_ b4).farB (p := ⟨M, 0, none⟩) (by show gr ≠ M; omega) (.int .i64 (v.m : Int))).farB (p := ⟨M, 1, none⟩) (by show gr ≠ M; omega) (.slice C2 v.m c2))
        clear cS hrows2 hfar2 b4
        iterate 1
          refine wpPlanE_float (v := ?_) rfl (by rfl) (fun w' hw' => ?_) (fun K hK => ?_)
          rotate_left
          · (go_simp; try with_reducible rfl)
          go_simp
          refine hK _ ?_
          clear hK K
        refine wpPlanE_nil ?_
        iterate 2
          refine wpPlanT_float (v := ?_) rfl (by rfl) (fun w' => ?_) (fun K hK => ?_)
          rotate_left
          · (go_simp; try with_reducible rfl)
          go_simp
          refine hK _ ?_
          clear hK K
        refine wpPlanT_nil ?_
        have m0 := kM.c0
        have m1 := kM.c1
        have g0 := kM.frozen 0
        have g1 := kM.frozen 1
        clear kM
        go_wp2_with fail
        refine NoPanic.normal ?_
        go_wp2_with fail
        go_roundw
        case rel => exact ⟨i + 1, C2, c2, by omega, by go_num, hbb4, kR4, Lib.hid (by rw [hrs.out, foldP_last]; exact hMV4.out), hAf4⟩
        case measure => simp [intOf]; omega
      · rw [if_neg hz0] at hrs
        have e0 : decide (0 ≤ z) = false := decide_eq_false hz0
        replace hrs := Lib.hid hrs
        clear hzC hz hzo
        go_wp2_with fail
        exact ⟨⟨i + 1, A, c, by omega, by go_num, hbb, kR, Lib.hid (by rw [hrs.out]; exact hMV.out), hAf⟩, by simp [intOf]; omega⟩
    · have hik : ¬ (i : Int) < (v.k : Int) := by have := hkv.out; omega
      have him : i = v.m := by omega
      rw [him] at hMV
      replace him := Lib.hid him
      have p2 := hB.out.c2
      have m0 := hMV.out.loc.c0
      have m1 := hMV.out.loc.c1
      have f0 := kR.out.c0
      have f1 := kR.out.c1
      have g0 := kR.out.frozen 0
      have g1 := kR.out.frozen 1
      have hcc := kR.out.two (.int .i64 (v.m : Int)) (.slice A v.m c)
      have hc1 := Lib.hid hcc.1
      have hc2 := Lib.hid hcc.2
      have hrf := Lib.hid (show RowsAt ((wr.setCell ⟨gr, 0, none⟩ (.int .i64 (v.m : Int))).setCell ⟨gr, 1, none⟩ (.slice A v.m c)) A v.m (foldP v.m (rfPs f.frm v.m)) from hMV.out.rows.putB kR.out (fun h0 ad e hb => by have := hAf.out ad e; omega) _ _)
      have hbf := Lib.hid (((below_trans2 hB0.out.o hbb.out).setCell (p := ⟨gr, 0, none⟩) (by have := hB0.out.o.size; show w.heap.size ≤ gr; omega) (.int .i64 (v.m : Int))).setCell (p := ⟨gr, 1, none⟩) (by have := hB0.out.o.size; show w.heap.size ≤ gr; omega) (.slice A v.m c))
      clear hcc hlt
      go_wp2_with fail
      exact bodyPost_ret (v := .agg #[.int .i64 (v.m : Int), .slice A v.m c]) (by simp [results, Tryz.results52, go_sem, hc1.out, hc2.out]) rfl ⟨A, v.m, c, rfl, hrf.out, hMV.out.cap, hbf.out, fun ad e => by have := hAf.out ad e; have := hB0.out.o.size; omega⟩
end Go.Proofs.YtbeigdbljepfkaaGreat
