/- Contracts of the document's own answers of layer 4: Close, Add. -/
import Derived.Test.YtkikoniihmieiaaHullReach
import Derived.Test.YtkikoniihmieiaaPlanT
import Derived.Test.YtkikoniihmieiaaMatRefE
namespace Go.Proofs.Ytkikoniihmieiaa
open Go.RowKit
set_option linter.unusedVariables false

theorem RowsAt.farK {w : World} {C : Option Addr} {p g : Nat} {t : TypeId} {xss : List (List Nat)} {N : Int} {A : Option Addr} {n c : Nat} {yss : List (List Nat)} (h : RowsAt w C p xss) (hM : MatK w g t N A n c yss) (hn : 0 < n) : 0 < p → ∀ ad, C = some ad → ad.block ≠ g := by
  intro h0 ad e
  obtain ⟨b, off, B, m, d, xs, e2, _, hx, hc, hr⟩ := h.at_ h0
  rw [e] at e2
  cases e2
  intro hb
  have hb' : b = g := hb
  subst hb'
  rw [Blk.cell hM.1] at hc
  match off + 0, hc with
  | 0, hc => simp at hc
  | 1, hc =>
    simp at hc
    obtain ⟨rfl, rfl, rfl⟩ := hc
    obtain ⟨b3, o3, x, e3, _, _, _, h3⟩ := hr.at_ hn
    obtain ⟨b4, o4, B4, m4, d4, xs4, e4, _, _, h4, _⟩ := hM.2.at_ hn
    rw [e3] at e4
    cases e4
    rw [h3] at h4
    cases h4
  | k + 2, hc => simp at hc
theorem MatK.put2 {w : World} {g : Nat} {t : TypeId} {N : Int} {A : Option Addr} {n c : Nat} (h : MatB w g t N A n c) {G : Nat} {t' : TypeId} {M : Int} {B : Option Addr} {m d : Nat} {yss : List (List Nat)} (k : MatK w G t' M B m d yss) (hne : G ≠ g) (hb : 0 < m → ∀ ad, B = some ad → ad.block ≠ g) (x y : Value) : MatK ((w.setCell ⟨g, 0, none⟩ x).setCell ⟨g, 1, none⟩ y) G t' M B m d yss :=
  ⟨(k.1.farB (p := ⟨g, 0, none⟩) (by simpa using hne) _).farB (p := ⟨g, 1, none⟩) (by simpa using hne) _, k.2.putB h hb _ _⟩
theorem Ints.setCell {w : World} {A : Option Addr} {n : Nat} {zs : List Int} {p : Addr} (h : Ints w A n zs) (hne : ∀ ad, A = some ad → ad.block ≠ p.block) (u : Value) : Ints (w.setCell p u) A n zs := ⟨h.1.setCell hne u, h.2⟩
theorem Conn.lt {n : Nat} {a : List (List Nat)} (hG : Good n a) {i j : Nat} (h : Conn (Rel a) i j) : i < n ∧ j < n := by
  induction h with
  | one h => exact hG.has_lt h
  | step _ h ih => exact ⟨ih.1, (hG.has_lt h).2⟩
/-- what is laid so far: the rows ahead of i, and some of row i -/
def CloseR (n : Nat) (a : List (List Nat)) (i : Nat) (l : List Nat) (X : List (List Nat)) : Prop := Good n X ∧ ∀ x y : Nat, Rel X x y ↔ (x < i ∧ Conn (Rel a) x y) ∨ (x = i ∧ y ∈ l)
section
variable {n : Nat} {a X : List (List Nat)} {i : Nat} {l : List Nat}
theorem CloseR.start (hn : n ≤ 4096) : CloseR n a 0 [] (newM n) := ⟨Good.new hn, fun x y => by
  unfold Rel
  rw [newM_has]
  constructor
  · intro h; cases h
  · rintro (⟨h, _⟩ | ⟨_, h⟩)
    · omega
    · cases h⟩
theorem CloseR.set (h : CloseR n a i l X) {y : Nat} (hi : i < n) (hy : y < n) : CloseR n a i (l ++ [y]) (setM X (i : Int) (y : Int)) := ⟨h.1.set hi hy, fun u v => by
  rw [rel_set h.1 hi hy, h.2]
  simp only [List.mem_append, List.mem_singleton]
  constructor
  · rintro ((h1 | ⟨h1, h2⟩) | ⟨h1, h2⟩)
    · exact .inl h1
    · exact .inr ⟨h1, .inl h2⟩
    · exact .inr ⟨h1, .inr h2⟩
  · rintro (h1 | ⟨h1, h2 | h2⟩)
    · exact .inl (.inl h1)
    · exact .inl (.inr ⟨h1, h2⟩)
    · exact .inr ⟨h1, h2⟩⟩
theorem CloseR.next (h : CloseR n a i l X) (hG : Good n a) (hl : ∀ x : Nat, x ∈ l ↔ x < n ∧ Conn (Rel a) i x) : CloseR n a (i + 1) [] X := ⟨h.1, fun u v => by
  rw [h.2, hl]
  constructor
  · rintro (⟨h1, h2⟩ | ⟨rfl, _, h2⟩)
    · exact .inl ⟨by omega, h2⟩
    · exact .inl ⟨by omega, h2⟩
  · rintro (⟨h1, h2⟩ | ⟨_, h2⟩)
    · rcases Nat.lt_succ_iff_lt_or_eq.1 h1 with h3 | h3
      · exact .inl ⟨h3, h2⟩
      · subst h3
        exact .inr ⟨rfl, (Conn.lt hG h2).2, h2⟩
    · cases h2⟩
theorem CloseR.all (h : CloseR n a n [] X) (hG : Good n a) : X = closeK a n :=
  IsHull.unique (r := Rel a) ⟨h.1, fun u v => by
    rw [h.2]
    constructor
    · rintro (⟨_, h2⟩ | ⟨_, h2⟩)
      · exact h2
      · cases h2
    · intro h2
      exact .inl ⟨(Conn.lt hG h2).1, h2⟩⟩ (closeK_hull hG) fun _ _ => Iff.rfl
end
set_option maxRecDepth 100000 in
set_option maxHeartbeats 4000000 in
theorem ref4_Close (A : Option Addr) (n c : Nat) (a : List (List Nat)) (w : World) (hr : RowsAt w A n a) (hG : Good n a) (hn64 : n < 64) :
    Calls Try.prog 31 #[.agg #[.int .i64 (n : Int), .slice A n c]] w (RetMat1 (n : Int) (closeK a n) w) := by
  have hnn : n ≤ 4096 := hG.le
  obtain ⟨W0, hW0⟩ : ∃ W0, W0 = (w.alloc (.cells #[.int .i64 n, .slice A n c] 24)).alloc (.cells #[.int .i64 0, .slice none 0 0] 24) := ⟨_, rfl⟩
  have bb := Lib.hid (show Below w.heap.size w W0 by rw [hW0]; exact ((Below.refl _ _).alloc (Nat.le_refl _) _).alloc (by simp) _)
  have k1 := Lib.hid (show MatK W0 w.heap.size 24 n A n c a by rw [hW0]; exact (MatK.new w _ hr).below (below_alloc _ _))
  have m2 := Lib.hid (show MatB W0 (w.heap.size + 1) 24 0 none 0 0 by rw [hW0]; exact MatB.new1 w _ _)
  have cN := Lib.hid (fun W => ref3_New n hnn W)
  have cR := Lib.hid (fun (i : Nat) (hi : i < n) W (hW : RowsAt W A n a) => ref4_Reach A n c a i W hW hG hi)
  have cS := Lib.hid (fun (i y : Nat) (hi : i < n) (hy : y < n) C d X (hX : Good n X) W (hW : RowsAt W C n X) => ref3_Set (n : Int) C n d X (i : Int) (y : Int) W hW rfl hnn (fun xs hx => by have := hX.small xs hx; omega) (by unfold inM; simp; omega))
  replace hG := Lib.hid hG
  clear hr
  have qk10 := k1.out.1.c0
  have qk11 := k1.out.1.c1
  go_enter Try.func31, Try.ntmps31
  go_wp2_with fail
  rw [← hW0]
  clear hW0
  go_wp2_with fail
  refine (cN.out W0).mono ?_; rintro e w1 ⟨A3, n3, c3, rfl, r3, hc3, b⟩
  obtain rfl : n = n3 := by have := r3.len; simp [newM] at this; omega
  replace m2 := Lib.hid (m2.out.below b)
  obtain ⟨W1, hW1⟩ : ∃ W1, W1 = w1.alloc (.cells #[.int .i64 n, .slice A3 n c3] 24) := ⟨_, rfl⟩
  obtain ⟨G3, hG3⟩ : ∃ G, G = w1.heap.size := ⟨_, rfl⟩
  have ba : Below w1.heap.size w1 W1 := by rw [hW1]; exact below_alloc _ _
  have k3 := Lib.hid (show MatK W1 G3 24 n A3 n c3 (newM n) from ⟨by rw [hW1, hG3]; exact MatB.new _ _, r3.below ba⟩)
  have hlt := m2.out.lt
  have h23 : w.heap.size + 1 < G3 := by omega
  replace m2 := Lib.hid (m2.out.below ba)
  replace b := below_trans2 b ba
  replace k1 := Lib.hid (k1.out.below b)
  replace qk10 := k1.out.1.c0
  replace qk11 := k1.out.1.c1
  replace bb := Lib.hid (below_trans2 bb.out b)
  clear b
  rw [hW1] at qk10 qk11
  clear ba r3 hlt
  go_wp2_with fail
  rw [← hW1, ← hG3]
  clear hW1 hG3 qk10 qk11
  go_loopw [5] (fun t wr => ∃ (i : Nat) (A3 : Option Addr) (c3 : Nat) (X : List (List Nat)), i ≤ n ∧ t = .int .i64 i ∧ Hid (CloseR n a i [] X) ∧ Hid (n ≤ c3) ∧ Hid (MatK wr w.heap.size 24 n A n c a) ∧ Hid (MatB wr (w.heap.size + 1) 24 0 none 0 0) ∧ Hid (MatK wr G3 24 n A3 n c3 X) ∧ Hid (Below w.heap.size w wr)) (fun t _ => n - (intOf t).toNat)
  case atStart => exact ⟨0, A3, c3, newM n, Nat.zero_le _, rfl, Lib.hid (CloseR.start hnn), Lib.hid hc3, k1, m2, k3, bb⟩
  case round =>
    clear k1 m2 k3 bb
    obtain ⟨i, A3, c3, X, hi, rfl, hX, hc3', k1, m2, k3, bb⟩ := hrel
    have qk10 := k1.out.1.c0
    have qk11 := k1.out.1.c1
    by_cases hlt : i < n
    · have cRi := Lib.hid (cR.out i hlt wr k1.out.2)
      go_wp2_with fail
      refine cRi.out.mono ?_; rintro e w2 ⟨B, m, d, l, rfl, hl, hmem, hll, hfr, b⟩
      have hlm : l.length = m := by have := hl.len; simpa using this
      have h3 : G3 < wr.heap.size := k3.out.1.lt
      have hfr3 : Hid (∀ ad, B = some ad → ad.block ≠ G3) := Lib.hid (fun ad e => by have := hfr ad e; omega)
      replace m2 := Lib.hid (m2.out.below b)
      replace k1 := Lib.hid (k1.out.below b)
      replace qk10 := k1.out.1.c0
      replace qk11 := k1.out.1.c1
      replace k3 := Lib.hid (k3.out.below b)
      replace qk30 := k3.out.1.c0
      replace qk31 := k3.out.1.c1
      replace bb := Lib.hid (below_trans2 bb.out b)
      clear b
      replace hl := Lib.hid hl
      replace hmem := Lib.hid hmem
      have hm64 : m ≤ 64 := by omega
      replace hlm := Lib.hid hlm
      clear cRi hfr h3 hll
      go_wp2_with fail
      clear qk10 qk11 qk30 qk31
      go_loopw [7] (fun t wr => ∃ (k : Nat) (A3 : Option Addr) (c3 : Nat) (X : List (List Nat)), k ≤ m ∧ t = .int .i64 k ∧ Hid (CloseR n a i (l.take k) X) ∧ Hid (n ≤ c3) ∧ Hid (MatK wr w.heap.size 24 n A n c a) ∧ Hid (MatB wr (w.heap.size + 1) 24 0 none 0 0) ∧ Hid (MatK wr G3 24 n A3 n c3 X) ∧ Hid (Below w.heap.size w wr) ∧ Hid (Ints wr B m (l.map Int.ofNat))) (fun t _ => m - (intOf t).toNat)
      case atStart => exact ⟨0, A3, c3, X, Nat.zero_le _, rfl, hX, hc3', k1, m2, k3, bb, hl⟩
      case round =>
        clear hX hc3' k1 m2 k3 bb hl
        obtain ⟨k, A3, c3, X, hk, rfl, hX, hc3', k1, m2, k3, bb, hl⟩ := hrel
        by_cases hkm : k < m
        · obtain ⟨b4, o4, x, rfl, hb4, hx, hx64, c4⟩ := hl.out.at_ hkm
          obtain ⟨y, hy, rfl⟩ : ∃ y : Nat, l[k]? = some y ∧ (y : Int) = x := by
            rw [List.getElem?_map] at hx
            cases hh : l[k]? with
            | none => rw [hh] at hx; cases hx
            | some y => rw [hh] at hx; exact ⟨y, rfl, by simpa using hx⟩
          have hyn : y < n := ((hmem.out y).1 (List.mem_of_getElem? hy)).1
          have cSk := Lib.hid (cS.out i y hlt hyn A3 c3 X hX.out.1)
          have hX2 := Lib.hid (hX.out.set hlt hyn)
          rw [show l.take k ++ [y] = l.take (k + 1) by rw [List.take_succ_eq_append_getElem (List.getElem?_eq_some_iff.1 hy).1, (List.getElem?_eq_some_iff.1 hy).2]] at hX2
          have hk0 : (0 : Int) ≤ (k : Int) := by omega
          have hkm' : (k : Int) < (m : Int) := by omega
          clear hx hx64 hy
          have qk30 := k3.out.1.c0
          have qk31 := k3.out.1.c1
          go_wp2_with fail
          refine wp_region_planT 8 [(true, 0), (true, 1), (true, 2), (true, 3), (true, 4), (true, 5), (false, 6), (true, 7)] 10 [8, 9] (by kernel_rfl) (by kernel_rfl) (fun W1 hW1 => ?_)
          replace k1 := Lib.hid (show MatK W1 w.heap.size 24 n A n c a by rw [hW1.out]; exact k1.out.drew)
          replace k3 := Lib.hid (show MatK W1 G3 24 n A3 n c3 X by rw [hW1.out]; exact k3.out.drew)
          replace m2 := Lib.hid (show MatB W1 (w.heap.size + 1) 24 0 none 0 0 by rw [hW1.out]; exact Blk.drew m2.out)
          replace bb := Lib.hid (show Below w.heap.size w W1 by rw [hW1.out]; exact bb.out.drew)
          replace hl := Lib.hid (show Ints W1 (some ⟨b4, o4, none⟩) m (l.map Int.ofNat) by rw [hW1.out]; exact hl.out)
          replace c4 : W1.cell? ⟨b4, o4 + k, none⟩ = some (.int .i64 (y : Int)) := by rw [hW1.out]; exact c4
          clear hW1 qk30 qk31
          simp only [List.drop_succ_cons, List.drop_zero]
          have qk30 := k3.out.1.c0
          have qk31 := k3.out.1.c1
          iterate 6
            refine wpPlanE_float (v := ?_) rfl (by rfl) (fun w' hw' => ?_) (fun K hK => ?_)
            rotate_left
            · (go_simp; try with_reducible rfl)
            go_simp
            refine hK _ ?_
            clear hK K
          clear c4 qk30 qk31
          refine wpPlanE_only rfl (by rfl) (fun K hK => ?_)
          go_simp
          refine (cSk.out W1 k3.out.2).mono ?_
          rintro e w3 ⟨D, nn, dd, rfl, rD, hcD, b⟩
          obtain rfl : n = nn := by have := rD.len; have := hX2.out.1.len; omega
          refine hK _ _ b ?_
          clear hK K cSk
          replace m2 := Lib.hid (m2.out.below b)
          replace hl := Lib.hid (hl.out.below b)
          replace k1 := Lib.hid (k1.out.below b)
          replace k3 := Lib.hid (k3.out.below b)
          replace bb := Lib.hid (below_trans2 bb.out b)
          replace rD := Lib.hid rD
          replace hcD := Lib.hid hcD
          clear b
          iterate 1
            refine wpPlanE_float (v := ?_) rfl (by rfl) (fun w' hw' => ?_) (fun K hK => ?_)
            rotate_left
            · (go_simp; try with_reducible rfl)
            go_simp
            refine hK _ ?_
            clear hK K
          refine wpPlanE_nil ?_
          iterate 2
            refine wpPlanT_float (v := ?_) rfl (by rfl) (fun w' => ?_) (fun K hK => ?_)
            rotate_left
            · (go_simp; try with_reducible rfl)
            go_simp
            refine hK _ ?_
            clear hK K
          refine wpPlanT_nil ?_
          have qk30 := k3.out.1.c0
          have qk31 := k3.out.1.c1
          have f0 := k3.out.1.frozen 0
          have f1 := k3.out.1.frozen 1
          go_wp2_with fail
          refine NoPanic.normal ?_
          clear f0 f1 qk30 qk31
          obtain ⟨Wz, hWz⟩ : ∃ X : World, X = (w3.setCell ⟨G3, 0, none⟩ (.int .i64 n)).setCell ⟨G3, 1, none⟩ (.slice D n dd) := ⟨_, rfl⟩
          rw [← hWz]
          have hn0 : 0 < n := by omega
          have k3' := Lib.hid (show MatK Wz G3 24 n D n dd (setM X (i : Int) (y : Int)) by rw [hWz]; exact ⟨k3.out.1.put n D n dd, rD.out.putB k3.out.1 (rD.out.farK k3.out hn0) _ _⟩)
          have k1' := Lib.hid (show MatK Wz w.heap.size 24 n A n c a by rw [hWz]; exact MatK.put2 k3.out.1 k1.out (by omega) (k1.out.2.farK k3.out hn0) _ _)
          have m2' := Lib.hid (show MatB Wz (w.heap.size + 1) 24 0 none 0 0 by rw [hWz]; exact (m2.out.farB (p := ⟨G3, 0, none⟩) (by simp <;> omega) _).farB (p := ⟨G3, 1, none⟩) (by simp <;> omega) _)
          have hl' := Lib.hid (show Ints Wz (some ⟨b4, o4, none⟩) m (l.map Int.ofNat) by rw [hWz]; exact (hl.out.setCell (p := ⟨G3, 0, none⟩) (fun ad e => hfr3.out ad e) _).setCell (p := ⟨G3, 1, none⟩) (fun ad e => hfr3.out ad e) _)
          replace bb := Lib.hid (show Below w.heap.size w Wz by rw [hWz]; exact (bb.out.setCell (p := ⟨G3, 0, none⟩) (by simp <;> omega) _).setCell (p := ⟨G3, 1, none⟩) (by simp <;> omega) _)
          clear hWz k1 k3 m2 hl rD
          go_wp2_with fail
          go_roundw
          case rel => exact ⟨k + 1, D, dd, _, by omega, by go_num, hX2, hcD, k1', m2', k3', bb, hl'⟩
          case measure => simp [intOf]; omega
        · obtain rfl : k = m := by omega
          rw [List.take_of_length_le (by rw [hlm.out]; exact Nat.le_refl _)] at hX
          have hX2 := Lib.hid (hX.out.next hG.out hmem.out)
          clear hl
          go_wp2_with fail
          go_roundw
          case rel => exact ⟨i + 1, A3, c3, X, by omega, by go_num, hX2, hc3', k1, m2, k3, bb⟩
          case measure => simp [intOf]; omega
    · obtain rfl : i = n := by omega
      have he := hX.out.all hG.out
      have hone := hX.out.1.one hn64
      replace he := Lib.hid he
      replace hone := Lib.hid hone
      have qk30 := k3.out.1.c0
      have qk31 := k3.out.1.c1
      have f0 := m2.out.c0
      have f1 := m2.out.c1
      have g0 := m2.out.frozen 0
      have g1 := m2.out.frozen 1
      clear hX
      go_wp2_with fail
      have hcc := m2.out.two (.int .i64 i) (.slice A3 i c3)
      have hc1 := hcc.1
      have hc2 := hcc.2
      clear hcc f0 f1 g0 g1
      refine bodyPost_ret (v := .agg #[.int .i64 i, .slice A3 i c3]) (by simp [results, Try.results31, go_sem, hc1, hc2]) rfl ⟨_, _, _, rfl, ?_, hc3'.out, ?_⟩
      · rw [← he.out]
        exact k3.out.2.putB m2.out (k3.out.2.farM m2.out hone.out) _ _
      · exact (bb.out.setCell (p := ⟨w.heap.size + 1, 0, none⟩) (by simp) _).setCell (p := ⟨w.heap.size + 1, 1, none⟩) (by simp) _

set_option maxHeartbeats 2000000 in
theorem ref4_Add_no (A : Option Addr) (n c : Nat) (a : List (List Nat)) (i j : Int) (w : World) (hr : RowsAt w A n a) (h3 : inM (n : Int) i j = false) :
    Calls Try.prog 35 #[.agg #[.int .i64 (n : Int), .slice A n c], .int .i64 i, .int .i64 j] w (RetMat 0 [] 1 w) := by
  have cS := Lib.hid (fun W (hW : RowsAt W A n a) => ref3_Set_no (n : Int) A n c i j W h3)
  obtain ⟨W0, hW0⟩ : ∃ W0, W0 = (w.alloc (.cells #[.int .i64 n, .slice A n c] 24)).alloc (.cells #[.int .i64 0, .slice none 0 0] 24) := ⟨_, rfl⟩
  have bb := Lib.hid (show Below w.heap.size w W0 by rw [hW0]; exact ((Below.refl _ _).alloc (Nat.le_refl _) _).alloc (by simp) _)
  have k1 := Lib.hid (show MatK W0 w.heap.size 24 n A n c a by rw [hW0]; exact (MatK.new w _ hr).below (below_alloc _ _))
  have m2 := Lib.hid (show MatB W0 (w.heap.size + 1) 24 0 none 0 0 by rw [hW0]; exact MatB.new1 w _ _)
  clear hr
  have qk10 := k1.out.1.c0
  have qk11 := k1.out.1.c1
  go_enter Try.func35, Try.ntmps35
  go_wp2_with fail
  rw [← hW0]
  clear hW0
  go_wp2_with fail
  refine (cS.out W0 k1.out.2).mono ?_; rintro e w1 ⟨A3, n3, c3, rfl, r3, hc3, b⟩
  replace m2 := Lib.hid (m2.out.below b)
  have m2' := Lib.hid (m2.out.below (below_alloc w1 (.cells #[.int .i64 0, .slice A3 n3 c3] 24)))
  have bb' := Lib.hid (below_trans2 (below_trans2 bb.out b) (below_alloc w1 (.cells #[.int .i64 0, .slice A3 n3 c3] 24)))
  have f0 := m2'.out.c0
  have f1 := m2'.out.c1
  have g0 := m2'.out.frozen 0
  have g1 := m2'.out.frozen 1
  clear bb b k1 qk10 qk11
  go_wp2_with fail
  have hcc := m2'.out.two (.int .i64 0) (.slice none 0 0)
  have hc1 := hcc.1
  have hc2 := hcc.2
  clear hcc f0 f1 g0 g1
  exact bodyPost_ret (v := .tuple #[.agg #[.int .i64 0, .slice none 0 0], .int .i64 1]) (by simp [results, Try.results35, go_sem, hc1, hc2]) rfl ⟨none, 0, 0, rfl, RowsAt.nil _ _, Nat.le_refl _, (bb'.out.setCell (by simp) _).setCell (by simp) _⟩
set_option maxHeartbeats 2000000 in
theorem ref4_Add (A : Option Addr) (n c : Nat) (a : List (List Nat)) (i j : Nat) (w : World) (hr : RowsAt w A n a) (hG : Good n a) (hn64 : n < 64) (hi : i < n) (hj : j < n) :
    Calls Try.prog 35 #[.agg #[.int .i64 (n : Int), .slice A n c], .int .i64 (i : Int), .int .i64 (j : Int)] w (RetMat (n : Int) (closeK (setM a (i : Int) (j : Int)) n) 0 w) := by
  have cS := Lib.hid (fun W (hW : RowsAt W A n a) => ref3_Set (n : Int) A n c a (i : Int) (j : Int) W hW rfl hG.le (fun xs hx => by have := hG.small xs hx; omega) (by unfold inM; simp; omega))
  have hGs := hG.set hi hj
  have cC := Lib.hid (fun C d W hW => ref4_Close C n d (setM a (i : Int) (j : Int)) W hW hGs hn64)
  have hsl := Lib.hid hGs.len
  have hH := closeK_hull hGs
  have hcl := Lib.hid hH.1.len
  have hone := Lib.hid (hH.1.one hn64)
  clear hH hGs
  obtain ⟨W0, hW0⟩ : ∃ W0, W0 = (w.alloc (.cells #[.int .i64 n, .slice A n c] 24)).alloc (.cells #[.int .i64 0, .slice none 0 0] 24) := ⟨_, rfl⟩
  have bb := Lib.hid (show Below w.heap.size w W0 by rw [hW0]; exact ((Below.refl _ _).alloc (Nat.le_refl _) _).alloc (by simp) _)
  have k1 := Lib.hid (show MatK W0 w.heap.size 24 n A n c a by rw [hW0]; exact (MatK.new w _ hr).below (below_alloc _ _))
  have m2 := Lib.hid (show MatB W0 (w.heap.size + 1) 24 0 none 0 0 by rw [hW0]; exact MatB.new1 w _ _)
  clear hr
  have qk10 := k1.out.1.c0
  have qk11 := k1.out.1.c1
  go_enter Try.func35, Try.ntmps35
  go_wp2_with fail
  rw [← hW0]
  clear hW0
  go_wp2_with fail
  refine (cS.out W0 k1.out.2).mono ?_; rintro e w1 ⟨A3, n3, c3, rfl, r3, hc3, b⟩
  replace m2 := Lib.hid (m2.out.below b)
  obtain rfl : n = n3 := by have := r3.len; have := hsl.out; omega
  obtain ⟨W1, hW1⟩ : ∃ W1, W1 = w1.alloc (.cells #[.int .i64 n, .slice A3 n c3] 24) := ⟨_, rfl⟩
  obtain ⟨G3, hG3⟩ : ∃ G, G = w1.heap.size := ⟨_, rfl⟩
  have ba : Below w1.heap.size w1 W1 := by rw [hW1]; exact below_alloc _ _
  have k3 := Lib.hid (show MatK W1 G3 24 n A3 n c3 (setM a (i : Int) (j : Int)) from ⟨by rw [hW1, hG3]; exact MatB.new _ _, r3.below ba⟩)
  replace m2 := Lib.hid (m2.out.below ba)
  replace bb := Lib.hid (below_trans2 (below_trans2 bb.out b) ba)
  have q0 := k3.out.1.c0
  have q1 := k3.out.1.c1
  rw [hG3] at q0 q1
  rw [hW1] at q0 q1
  clear ba r3 b k1 qk10 qk11
  go_wp2_with fail
  rw [← hW1]
  clear hW1 hG3 q0 q1
  refine (cC.out A3 c3 W1 k3.out.2).mono ?_; rintro e w2 ⟨D, nn, dd, rfl, rD, hcD, b⟩
  obtain rfl : n = nn := by have := rD.len; have := hcl.out; omega
  replace m2 := Lib.hid (m2.out.below b)
  replace bb := Lib.hid (below_trans2 bb.out b)
  have f0 := m2.out.c0
  have f1 := m2.out.c1
  have g0 := m2.out.frozen 0
  have g1 := m2.out.frozen 1
  replace rD := Lib.hid rD
  replace hcD := Lib.hid hcD
  clear b k3
  go_wp2_with fail
  have hcc := m2.out.two (.int .i64 n) (.slice D n dd)
  have hc1 := hcc.1
  have hc2 := hcc.2
  clear hcc f0 f1 g0 g1
  exact bodyPost_ret (v := .tuple #[.agg #[.int .i64 n, .slice D n dd], .int .i64 0]) (by simp [results, Try.results35, go_sem, hc1, hc2]) rfl ⟨_, _, _, rfl, rD.out.putB m2.out (rD.out.farM m2.out hone.out) _ _, hcD.out, (bb.out.setCell (p := ⟨w.heap.size + 1, 0, none⟩) (by simp) _).setCell (p := ⟨w.heap.size + 1, 1, none⟩) (by simp) _⟩
set_option maxHeartbeats 1000000 in
theorem ref4_has (A : Option Addr) (m c : Nat) (zs : List Int) (x : Int) (w : World) (hz : Ints w A m zs) (hm : m ≤ 1073741824) :
    Calls Try.prog 75 #[.slice A m c, .int .i64 x] w fun e w' => e = .returned (.bool (decide (x ∈ zs))) ∧ w = w' := by
  have hlen := Lib.hid hz.len
  replace hz := Lib.hid hz
  go_enter Try.func75, Try.ntmps75
  go_wp2_with fail
  go_loop [5] (fun t => ∃ k : Nat, k ≤ m ∧ t = .int .i64 k ∧ Hid (x ∉ zs.take k)) (fun t => m - (intOf t).toNat)
  case atStart => exact ⟨0, Nat.zero_le _, rfl, Lib.hid (by simp)⟩
  case round =>
    obtain ⟨k, hk, rfl, hall⟩ := hrel
    by_cases hlt : k < m
    · obtain ⟨b, off, y, rfl, hb, hy, hy64, hc⟩ := hz.out.at_ hlt
      have hk0 : (0 : Int) ≤ (k : Int) := by omega
      have hkm : (k : Int) < (m : Int) := by omega
      by_cases hyx : y = x
      · subst hyx
        have hmem : decide (y ∈ zs) = true := decide_eq_true (List.mem_of_getElem? hy)
        replace hmem := Lib.hid hmem
        clear hy hall hy64
        go_wp2_with fail
        go_ret
        rw [hmem.out]; exact ⟨rfl, rfl⟩
      · have hne : (y == x) = false := beq_eq_false_iff_ne.2 hyx
        have hall' : Hid (x ∉ zs.take (k + 1)) := Lib.hid (by
          rw [List.take_succ_eq_append_getElem (List.getElem?_eq_some_iff.1 hy).1, (List.getElem?_eq_some_iff.1 hy).2, List.mem_append, List.mem_singleton]
          rintro (h | h)
          · exact hall.out h
          · exact hyx h.symm)
        clear hy hall hy64
        go_wp2_with fail
        go_round
        case rel => exact ⟨k + 1, by omega, by go_num, hall'⟩
        case measure => simp [intOf]; omega
    · obtain rfl : k = m := by omega
      have hmem : decide (x ∈ zs) = false := decide_eq_false (by
        have h := hall.out
        rwa [List.take_of_length_le (by rw [hlen.out]; exact Nat.le_refl _)] at h)
      replace hmem := Lib.hid hmem
      clear hall
      go_wp2_with fail
      go_ret
      rw [hmem.out]; exact ⟨rfl, rfl⟩

end Go.Proofs.Ytkikoniihmieiaa
