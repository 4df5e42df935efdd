/- Contracts of the document's own answers for matrices: Set. -/
import Derived.Test.YtlfdmjlllikmcaaMatRefF
namespace Go.Proofs.Ytlfdmjlllikmcaa
open Go.RowKit
set_option linter.unusedVariables false

theorem MatB.belowB {w w' : World} {g : Nat} {t : TypeId} {N : Int} {A : Option Addr} {n c B : Nat} (h : MatB w g t N A n c) (hb : Below B w w') (hg : g < B) : MatB w' g t N A n c := Blk.below h hb hg
theorem MatB.farB {w : World} {g : Nat} {t : TypeId} {N : Int} {A : Option Addr} {n c : Nat} (h : MatB w g t N A n c) {p : Addr} (hp : g ≠ p.block) (u : Value) : MatB (w.setCell p u) g t N A n c := Blk.far h hp u
set_option maxHeartbeats 400000 in
theorem ref3_Set_noF (N : Int) (A : Option Addr) (n c : Nat) (i j : Int) (w : World) (h3 : inM N i j = false) :
    Calls Try.prog 12 #[.agg #[.int .i64 N, .slice A n c], .int .i64 i, .int .i64 j] w (RetMatF 0 [] 1 w) := by
  obtain ⟨W0, hW0⟩ : ∃ W0, W0 = (w.alloc (.cells #[.int .i64 N, .slice A n c] 24)).alloc (.cells #[.int .i64 0, .slice none 0 0] 24) := ⟨_, rfl⟩
  have ha : Below w.heap.size w W0 := by rw [hW0]; exact ((Below.refl _ _).alloc (Nat.le_refl _) _).alloc (by simp) _
  have hB2 : MatB W0 (w.heap.size + 1) 24 0 none 0 0 := by rw [hW0]; exact MatB.new1 w _ _
  have hin := Lib.hid (ref3_in N A n c i j W0)
  replace h3 := Lib.hid h3
  replace ha := Lib.hid ha
  replace hB2 := Lib.hid hB2
  go_enter Try.func12, Try.ntmps12
  go_wp2_with fail
  rw [← hW0]
  clear hW0
  refine hin.out.mono ?_; rintro e w1 ⟨rfl, hb1⟩
  rw [h3.out]
  have hbb := Lib.hid (below_trans2 ha.out hb1)
  have hres := hB2.out.below_ hb1
  have f0 := hres.c0
  have f1 := hres.c1
  have g0 := hres.frozen 0
  have g1 := hres.frozen 1
  have hcc := hres.two (.int .i64 0) (.slice none 0 0)
  have hc1 := Lib.hid hcc.1
  have hc2 := Lib.hid hcc.2
  clear hcc hres hb1
  go_wp2_with fail
  exact bodyPost_ret (v := .tuple #[.agg #[.int .i64 0, .slice none 0 0], .int .i64 1]) (by simp [results, Try.results12, go_sem, hc1.out, hc2.out]) rfl ⟨none, 0, 0, rfl, RowsAt.nil _ _, Nat.le_refl _, (hbb.out.setCell (by simp) _).setCell (by simp) _, fun ad e => by cases e⟩

set_option maxRecDepth 100000 in
set_option maxHeartbeats 1000000 in
theorem ref3_SetF (N : Int) (A : Option Addr) (n c : Nat) (xss : List (List Nat)) (i j : Int) (w : World) (hr : RowsAt w A n xss) (hN : N = (n : Int)) (hn : n ≤ 4096) (hl : ∀ xs ∈ xss, xs.length ≤ 1024)
    (h3 : inM N i j = true) :
    Calls Try.prog 12 #[.agg #[.int .i64 N, .slice A n c], .int .i64 i, .int .i64 j] w (RetMatF N (setM xss i j) 0 w) := by
  subst hN
  obtain ⟨x0, hxi, hxz0, hxz1, hxz2⟩ := info_parts info_row
  replace hxi := Lib.hid hxi
  replace hxz0 := Lib.hid hxz0
  replace hxz1 := Lib.hid hxz1
  replace hxz2 := Lib.hid hxz2
  obtain ⟨i0, i1, j0, j1⟩ := inM_yes h3
  obtain ⟨k, rfl⟩ := Int.eq_ofNat_of_zero_le i0
  have hk : k < n := by omega
  obtain ⟨W0, hW0⟩ : ∃ W0, W0 = (w.alloc (.cells #[.int .i64 n, .slice A n c] 24)).alloc (.cells #[.int .i64 0, .slice none 0 0] 24) := ⟨_, rfl⟩
  have ha : Below w.heap.size w W0 := by rw [hW0]; exact ((Below.refl _ _).alloc (Nat.le_refl _) _).alloc (by simp) _
  have hB1 : MatB W0 w.heap.size 24 n A n c := by rw [hW0]; exact (MatB.new w _).below_ ((Below.refl _ _).alloc (Nat.le_refl _) _)
  have hB2 : MatB W0 (w.heap.size + 1) 24 0 none 0 0 := by rw [hW0]; exact MatB.new1 w _ _
  have hin := Lib.hid (ref3_in (n : Int) A n c k j W0)
  have hsz : W0.heap.size = w.heap.size + 2 := by rw [hW0]; simp
  have hlen := hr.len
  have hlt := Lib.hid hr.w64
  obtain ⟨vs, hrdw, hrcw⟩ := hr
  obtain ⟨b, off, u, rfl, hbl, hu, hc⟩ := hrdw.at_ hk
  obtain ⟨xs, hx⟩ : ∃ xs, xss[k]? = some xs := ⟨_, List.getElem?_eq_getElem (by omega)⟩
  obtain ⟨B, m, d, rfl, hxr⟩ := hrcw.2 k u xs hu hx
  have hm : m ≤ 1024 := by have := hxr.len; have := hl xs (List.mem_of_getElem? hx); omega
  have hst := Lib.hid (ref2_SetO B m d xs j)
  have hx2 := Lib.hid hx
  have hu2 := Lib.hid hu
  have hone := Lib.hid (one_rows hrcw)
  replace hB1 := Lib.hid hB1
  replace hB2 := Lib.hid hB2
  replace hsz := Lib.hid hsz
  replace ha := Lib.hid ha
  replace h3 := Lib.hid h3
  replace hxr := Lib.hid hxr
  replace hrcw := Lib.hid hrcw
  replace hrdw := Lib.hid hrdw
  have hk0 : (0 : Int) ≤ (k : Int) := by omega
  have hkn : (k : Int) < (n : Int) := by omega
  clear hc hu hx hlen hl i0 i1
  go_enter Try.func12, Try.ntmps12
  go_wp2_with fail
  rw [← hW0]
  clear hW0
  refine hin.out.mono ?_; rintro e w1 ⟨rfl, hb1⟩
  rw [h3.out]
  have hbb := Lib.hid (below_trans2 ha.out hb1)
  have hs1 : w.heap.size + 2 ≤ w1.heap.size := by have := hb1.size; have := hsz.out; omega
  have hA1 := Lib.hid (hB1.out.below_ hb1)
  have hR1 := Lib.hid (hB2.out.below_ hb1)
  have hba : Below w1.heap.size w1 (w1.alloc (.cells #[] 45)) := (Below.refl _ _).alloc (Nat.le_refl _) _
  have hlit : (w1.alloc (.cells #[] 45)).ownsRow w1.heap.size 45 1 (.slice (some ⟨w1.heap.size, 0, none⟩) 0 0) 0 [] := by
    have h := World.ownsRow_lit (size := 1) (base := w1.heap.size) (e := 45) w1 #[] 0 (Nat.le_refl _) (by omega) (by simp)
    simpa using h
  have l1 : (w1.alloc (.cells #[] 45)).cell? ⟨w.heap.size, 1, none⟩ = some (.slice (some ⟨b, off, none⟩) n c) := (hA1.out.below_ hba).c1
  have hrd : Rd (w1.alloc (.cells #[] 45)) (some ⟨b, off, none⟩) n vs := (hrdw.out.below hbb.out).below hba
  have hbba := Lib.hid (below_trans2 hbb.out hba)
  have hRa := Lib.hid (hR1.out.below_ hba)
  have hAa := Lib.hid (hA1.out.below_ hba)
  clear hb1
  go_wp2_with (at_builtin; refine wpList_append_rd rfl (.tmp 15) (.tmp 17) _ rfl w1.heap.size 45 x0 _ 24 Try.underlying22 hxi.out hxz0.out hxz1.out hxz2.out rfl _ 0 _ (by rfl) hlit _ n c _ rfl hrd hone.out (by unfold maxLen; omega) (by omega) hba.size ?_; intro v2 w2 hown2 hbc hform; simp only [Nat.zero_add, List.nil_append] at hown2 hform; obtain ⟨g, cap, rfl⟩ := hform (by omega); have hcg := hown2.cellAt k (by omega); rw [hu2.out] at hcg; have hfg := hown2.frozenAt k; clear hform l1)
  have hglt := (hown2.lt g rfl).1
  have hb2 : Below w.heap.size w w2 := hbba.out.trans (hbc.mono (by omega))
  have hR2 := Lib.hid (MatB.belowB hRa.out hbc (by omega))
  have hA2 := Lib.hid (MatB.belowB hAa.out hbc (by omega))
  replace hb2 := Lib.hid hb2
  replace hown2 := Lib.hid hown2
  clear hba hlit hrd hbc hcg hfg
  refine (hst.out w2 (hxr.out.below hb2.out) (by omega) (by omega) (by omega)).mono ?_; rintro e w3 ⟨C, p, q, rfl, hxr2, hx64, hb3⟩
  have hown3 := Lib.hid (own_below hown2.out hb3)
  have hcg := hown3.out.cellAt k (by omega)
  rw [hu2.out] at hcg
  have hfg := hown3.out.frozenAt k
  have hR3 := Lib.hid (hR2.out.below_ hb3)
  have hA3 := Lib.hid (hA2.out.below_ hb3)
  have hbb3 := Lib.hid (below_trans2 hb2.out hb3)
  have hCb : Hid (∀ ad, C = some ad → w2.heap.size ≤ ad.block) := Lib.hid (fun ad e => by subst e; exact own_lt_block hxr2 _ rfl)
  have hgl2 : g < w2.heap.size := (hown2.out.lt g rfl).2
  replace hxr2 := Lib.hid (Row.of_own hxr2 hx64)
  have hA4 := MatB.farB (p := ⟨g, k, none⟩) hA3.out (by simp <;> omega) (.slice C p q)
  have hR4 := hR3.out.farB (p := ⟨g, k, none⟩) (by simp <;> omega) (.slice C p q)
  have f10 := hA4.c0
  have f20 := hR4.c0
  have f21 := hR4.c1
  have g20 := hR4.frozen 0
  have g21 := hR4.frozen 1
  have hcc := MatB.two hR4 (.int .i64 n) (.slice (some ⟨g, 0, none⟩) n cap)
  have hc1 := Lib.hid hcc.1
  have hc2 := Lib.hid hcc.2
  clear hA4 hR4 hcc hb3 hx64
  go_wp2_with fail
  have hfin : Below w.heap.size w ((((w3.setCell ⟨g, k, none⟩ (.slice C p q)).setCell ⟨w.heap.size + 1, 0, none⟩ (.int .i64 n)).setCell ⟨w.heap.size + 1, 1, none⟩ (.slice (some ⟨g, 0, none⟩) n cap))) := ((hbb3.out.setCell (by simp <;> omega) _).setCell (by simp) _).setCell (by simp) _
  refine bodyPost_ret (v := .tuple #[.agg #[.int .i64 n, .slice (some ⟨g, 0, none⟩) n cap], .int .i64 0]) (by simp [results, Try.results12, go_sem, hc1.out, hc2.out]) rfl ⟨_, _, _, rfl, ?_, own_cap hown3.out, hfin, fun ad e => by cases e; show w.heap.size ≤ g; omega⟩
  refine ⟨_, Rd.of_own' (own_far (own_far (hown3.out.stored k (.slice C p q)).1 (p := ⟨w.heap.size + 1, 0, none⟩) (by simp [Value.ownBlock]; omega) _) (p := ⟨w.heap.size + 1, 1, none⟩) (by simp [Value.ownBlock]; omega) _), ?_⟩
  have h1 := hrcw.out.below hfin
  rw [setM_nat hx2.out]
  refine h1.set ⟨C, p, q, rfl, ?_⟩ k
  exact ((hxr2.out.setCell (fun ad e => by have := hCb.out ad e; simp <;> omega) _).setCell (fun ad e => by have := hCb.out ad e; simp <;> omega) _).setCell (fun ad e => by have := hCb.out ad e; simp <;> omega) _
theorem ref3_Set_no (N : Int) (A : Option Addr) (n c : Nat) (i j : Int) (w : World) (h3 : inM N i j = false) :
    Calls Try.prog 12 #[.agg #[.int .i64 N, .slice A n c], .int .i64 i, .int .i64 j] w (RetMat 0 [] 1 w) :=
  (ref3_Set_noF N A n c i j w h3).mono fun _ _ ⟨A', n', c', h1, h2, h3, h4, _⟩ => ⟨A', n', c', h1, h2, h3, h4⟩
theorem ref3_Set (N : Int) (A : Option Addr) (n c : Nat) (xss : List (List Nat)) (i j : Int) (w : World) (hr : RowsAt w A n xss) (hN : N = (n : Int)) (hn : n ≤ 4096) (hl : ∀ xs ∈ xss, xs.length ≤ 1024)
    (h3 : inM N i j = true) :
    Calls Try.prog 12 #[.agg #[.int .i64 N, .slice A n c], .int .i64 i, .int .i64 j] w (RetMat N (setM xss i j) 0 w) :=
  (ref3_SetF N A n c xss i j w hr hN hn hl h3).mono fun _ _ ⟨A', n', c', h1, h2, h3, h4, _⟩ => ⟨A', n', c', h1, h2, h3, h4⟩

end Go.Proofs.Ytlfdmjlllikmcaa
