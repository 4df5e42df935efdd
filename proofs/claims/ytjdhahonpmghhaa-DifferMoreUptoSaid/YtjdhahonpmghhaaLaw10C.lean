/- Layer 10's law DifferMore, walked (where what comes in is of no more than 2^40 operations). -/
import Derived.Test.YtjdhahonpmghhaaLaw10A
import Derived.Test.YtjdhahonpmghhaaHistJoin
namespace Go.Proofs.Ytjdhahonpmghhaa
open Go.RowKit
set_option linter.unusedVariables false
theorem info_sess10 : (Try.prog.info? 43).map (fun i => (i.zero, i.size, i.bytes)) = some (some (.slice none 0 0), 1, 24) := by kernel_rfl
set_option maxRecDepth 100000 in
set_option maxHeartbeats 4000000 in
theorem law10_DifferMore (A B : Option Addr) (n c m d : Nat) (xs ys : List (List OpT)) (w : World) (hX : HistAt w A n xs) (hY : HistAt w B m ys) (hnc : n ≤ c) (hc : c ≤ 1099511627776) (hmd : m ≤ d) (hd : d ≤ 1099511627776)
    (hFx : (allO xs).length ≤ 1099511627776) (hFy : (allO ys).length ≤ 1099511627776) :
    Calls Try.prog 5 #[.slice A n c, .slice B m d] w (RetBool true w) := by
  have hXl := hX.len
  have hYl := hY.len
  have hI := Lib.hid (⟨hX, hY, Below.refl _ _⟩ : JoinI w A n xs B m ys w)
  clear hX hY
  replace hXl := Lib.hid hXl
  replace hYl := Lib.hid hYl
  have cSa := Lib.hid (ref6_Small A n c 40 xs w hI.out.x (by omega) (by omega))
  cases hsa : smallL xs 40 with
  | false =>
    rw [hsa] at cSa
    clear hsa
    go_enter Try.func5, Try.ntmps5
    go_wp2_with fail
    refine cSa.out.mono ?_; rintro e w1 ⟨rfl, b4⟩
    replace hI := Lib.hid (hI.out.later b4)
    go_wp2_with fail
    refine (law10_awake w1).mono ?_; rintro e w9 ⟨rfl, b9⟩
    go_wp2_with fail
    go_ret
    exact ⟨rfl, below_trans2 hI.out.b b9⟩
  | true =>
    rw [hsa] at cSa
    obtain ⟨hnx, hFx40, -⟩ := smallL_says hsa
    rw [hXl.out] at hnx
    clear hsa
    go_enter Try.func5, Try.ntmps5
    go_wp2_with fail
    refine cSa.out.mono ?_; rintro e w1 ⟨rfl, b4⟩
    replace hI := Lib.hid (hI.out.later b4)
    clear b4 cSa
    have cSb := Lib.hid (ref6_Small B m d 40 ys w1 hI.out.y (by omega) (by omega))
    cases hsb : smallL ys 40 with
    | false =>
      rw [hsb] at cSb
      clear hsb
      go_wp2_with fail
      refine cSb.out.mono ?_; rintro e w2 ⟨rfl, b5⟩
      replace hI := Lib.hid (hI.out.later b5)
      go_wp2_with fail
      refine (law10_awake w2).mono ?_; rintro e w9 ⟨rfl, b9⟩
      go_wp2_with fail
      go_ret
      exact ⟨rfl, below_trans2 hI.out.b b9⟩
    | true =>
      rw [hsb] at cSb
      obtain ⟨hny, hFy40, -⟩ := smallL_says hsb
      rw [hYl.out] at hny
      clear hsb
      go_wp2_with fail
      refine cSb.out.mono ?_; rintro e w2 ⟨rfl, b5⟩
      replace hI := Lib.hid (hI.out.later b5)
      clear b5 cSb
      have cRa := Lib.hid (ref6_Right A n c xs w2 hI.out.x (by omega) (by omega))
      cases hra : rightL xs with
      | false =>
        rw [hra] at cRa
        clear hra
        go_wp2_with fail
        refine cRa.out.mono ?_; rintro e w3 ⟨rfl, b5⟩
        replace hI := Lib.hid (hI.out.later b5)
        go_wp2_with fail
        refine (law10_awake w3).mono ?_; rintro e w9 ⟨rfl, b9⟩
        go_wp2_with fail
        go_ret
        exact ⟨rfl, below_trans2 hI.out.b b9⟩
      | true =>
        rw [hra] at cRa
        replace hra := Lib.hid hra
        go_wp2_with fail
        refine cRa.out.mono ?_; rintro e w3 ⟨rfl, b5⟩
        replace hI := Lib.hid (hI.out.later b5)
        clear b5 cRa
        have cRb := Lib.hid (ref6_Right B m d ys w3 hI.out.y (by omega) (by omega))
        cases hrb : rightL ys with
        | false =>
          rw [hrb] at cRb
          clear hrb
          go_wp2_with fail
          refine cRb.out.mono ?_; rintro e w4 ⟨rfl, b5⟩
          replace hI := Lib.hid (hI.out.later b5)
          go_wp2_with fail
          refine (law10_awake w4).mono ?_; rintro e w9 ⟨rfl, b9⟩
          go_wp2_with fail
          go_ret
          exact ⟨rfl, below_trans2 hI.out.b b9⟩
        | true =>
          rw [hrb] at cRb
          replace hrb := Lib.hid hrb
          go_wp2_with fail
          refine cRb.out.mono ?_; rintro e w4 ⟨rfl, b5⟩
          replace hI := Lib.hid (hI.out.later b5)
          clear b5 cRb
          obtain ⟨f, hf⟩ : ∃ f : Fac, f = facO xs := ⟨_, rfl⟩
          have c1 := ref9_Of A n c xs w4 hI.out.x (by omega) hFx
          rw [hra.out, if_pos rfl, if_pos rfl, ← hf] at c1
          replace c1 := Lib.hid c1
          replace hf := Lib.hid hf
          go_wp2_with fail
          refine c1.out.mono ?_; rintro e wq ⟨x, rfl, hG, b3⟩
          have hB := Lib.hid ((FBox.new hG).from_ (below_trans2 hI.out.b b3))
          obtain ⟨V, hV⟩ : ∃ W, W = wq.alloc (.cells #[.slice x.A x.n x.c, .slice x.B x.m x.d, .slice x.C x.k x.e] 30) := ⟨_, rfl⟩
          obtain ⟨g, hg⟩ : ∃ g, g = wq.heap.size := ⟨_, rfl⟩
          replace hI := Lib.hid (show JoinI w A n xs B m ys V from by rw [hV]; exact (hI.out.later b3).later ((Below.refl _ _).alloc (Nat.le_refl _) _))
          rw [← hV, ← hg] at hB
          clear b3 c1 hG
          -- 'append(append([][]api.Op{}, x...), y...)' in the world V: hI : JoinI .. V; temps 40 41 (the first append's), $c $d (the second's); behind it: the slice C q cc, hH : HistAt w6 C q (xs ++ ys), hI in w6
          obtain ⟨i0, hi, hz0, hz1, hz2⟩ := info_parts info_sess10
          replace hi := Lib.hid hi
          replace hz0 := Lib.hid hz0
          replace hz1 := Lib.hid hz1
          replace hz2 := Lib.hid hz2
          obtain ⟨vs, hvr, hvl, hv1, hvs⟩ := hI.out.x.rd
          obtain ⟨us, hur, hul, hu1, hus⟩ := hI.out.y.rd
          have hlit : (World.alloc V (.cells #[] 43)).ownsRow (World.heap V).size 43 1 (.slice (some ⟨(World.heap V).size, 0, none⟩) 0 0) 0 [] := by
            have h := World.ownsRow_lit (size := 1) (base := (World.heap V).size) (e := 43) V #[] 0 (Nat.le_refl _) (by omega) (by simp)
            simpa using h
          have hb0 : Below (World.heap V).size V (World.alloc V (.cells #[] 43)) := (Below.refl _ _).alloc (Nat.le_refl _) _
          have hrd := Lib.hid (hvr.below hb0)
          have hrd2 := Lib.hid hur
          replace hlit := Lib.hid hlit
          replace hb0 := Lib.hid hb0
          replace hv1 := Lib.hid hv1
          replace hu1 := Lib.hid hu1
          replace hvs := Lib.hid hvs
          replace hus := Lib.hid hus
          replace hvl := Lib.hid hvl
          replace hul := Lib.hid hul
          have hvn := Lib.hid hvr.1
          have hun := Lib.hid hur.1
          clear hvr hur
          go_wp2_with (first
            | (rw [← hV, ← hg]; clear hV; replace hg := Lib.hid hg)
            | (at_builtin; refine wpList_append_rd rfl (.tmp 40) (.tmp 41) _ rfl (World.heap V).size 43 i0 _ 24 Try.underlying22 hi.out hz0.out hz1.out hz2.out rfl _ 0 _ (by rfl) hlit.out _ n c _ rfl hrd.out hv1.out (by unfold maxLen; omega) (by omega) hb0.out.size ?_; intro v1 w5 hown1 hbb hform; clear hform; rw [Nat.zero_add, List.nil_append] at hown1; replace hown1 := Lib.hid hown1; replace hb0 := Lib.hid (hb0.out.trans hbb); replace hrd2 := Lib.hid (hrd2.out.below hb0.out); clear hbb)
            | (at_builtin; refine wpList_append_rd rfl (.tmp 42) (.tmp 43) _ rfl (World.heap V).size 43 i0 _ 24 Try.underlying22 hi.out hz0.out hz1.out hz2.out rfl _ n _ (by rfl) hown1.out _ m d _ rfl hrd2.out hu1.out (by unfold maxLen; omega) (by omega) hb0.out.size ?_; intro v2 w6 hown2 hbb2 hform; clear hform; replace hown2 := Lib.hid hown2; replace hb0 := Lib.hid (hb0.out.trans hbb2); clear hbb2))
          obtain ⟨C, cc, rfl, hnmc, hcc, hH⟩ := HistAt.joined hown2.out hvn.out hun.out hvl.out hul.out (fun i v os h1 h2 => (hvs.out i v os h1 h2).below hb0.out) (fun i v os h1 h2 => (hus.out i v os h1 h2).below hb0.out)
          replace hI := Lib.hid (hI.out.later hb0.out)
          clear hrd hrd2 hlit hown1 hown2 hv1 hu1 hvs hus hvl hul hvn hun hi hz0 hz1 hz2 i0 vs us
          obtain ⟨q, hq⟩ : ∃ q, q = n + m := ⟨_, rfl⟩
          rw [← hq] at hH hnmc ⊢
          have hFj : (allO (xs ++ ys)).length ≤ 1099511627776 := by rw [allO_append, List.length_append]; omega
          have hB6 := Lib.hid (hB.out.later hb0.out)
          clear hb0 hB
          have hrr := rightL_append (xs := xs) (ys := ys) (by omega) (by omega)
          rw [hra.out, hrb.out] at hrr
          obtain ⟨k, hk⟩ : ∃ k : Fac, k = facO (xs ++ ys) := ⟨_, rfl⟩
          have c1 := ref9_Of C q cc (xs ++ ys) w6 hH (by omega) hFj
          rw [hrr, Bool.and_true, if_pos rfl, if_pos rfl, ← hk] at c1
          replace c1 := Lib.hid c1
          obtain ⟨l, hl⟩ := hisF_append xs ys
          have hkl : k.items = f.items ++ l := by rw [hk, hf.out]; exact hl
          have hap := checkF_append f.items l
          rw [← hkl] at hap
          have hfm : f.items.length = x.m := hB6.out.f.is.len
          rw [hfm] at hap
          replace hk := Lib.hid hk
          replace hl := Lib.hid hl
          replace hkl := Lib.hid hkl
          replace hfm := Lib.hid hfm
          replace hq := Lib.hid hq
          clear hrr hH
          go_wp2_with fail
          refine c1.out.mono ?_; rintro e wq ⟨z, rfl, hG, b3⟩
          replace hB6 := Lib.hid (hB6.out.later b3)
          have hZ := Lib.hid (FBox.new hG)
          obtain ⟨V2, hV2⟩ : ∃ W, W = wq.alloc (.cells #[.slice z.A z.n z.c, .slice z.B z.m z.d, .slice z.C z.k z.e] 30) := ⟨_, rfl⟩
          obtain ⟨g2, hg2⟩ : ∃ g, g = wq.heap.size := ⟨_, rfl⟩
          replace hB6 := Lib.hid (show FBox w g x f V2 from by rw [hV2]; exact hB6.out.later ((Below.refl _ _).alloc (Nat.le_refl _) _))
          rw [← hV2, ← hg2] at hZ
          clear b3 c1 hG
          have p0 := hB6.out.c0
          have p1 := hB6.out.c1
          have p2 := hB6.out.c2
          obtain ⟨⟨r1, r2, r3⟩, hr⟩ : ∃ r, r = checkF f.items := ⟨_, rfl⟩
          obtain ⟨⟨s1, s2, s3⟩, hs⟩ : ∃ r, r = checkF k.items := ⟨_, rfl⟩
          have cA := fun W hW => differ_Check x f W hW
          have cB := fun W hW => differ_Check z k W hW
          rw [← hr] at cA
          rw [← hs] at cB
          rw [← hr, ← hs] at hap
          simp only at hap
          replace cA := Lib.hid cA
          replace cB := Lib.hid cB
          replace hr := Lib.hid hr
          replace hs := Lib.hid hs
          replace hap := Lib.hid hap
          go_wp2_with (rw [← hV2, ← hg2]; clear hV2; replace hg2 := Lib.hid hg2)
          refine (cA.out _ hB6.out.f).mono ?_; rintro e w7 ⟨rfl, b⟩
          replace hB6 := Lib.hid (hB6.out.later b)
          replace hZ := Lib.hid (hZ.out.later b)
          clear p0 p1 p2 b
          have p0 := hZ.out.c0
          have p1 := hZ.out.c1
          have p2 := hZ.out.c2
          go_wp2_with fail
          refine (cB.out _ hZ.out.f).mono ?_; rintro e w8 ⟨rfl, b⟩
          replace hB6 := Lib.hid (hB6.out.later b)
          clear p0 p1 p2 b hZ
          go_wp2_with fail
          refine (law10_awake w8).mono ?_; rintro e w9 ⟨rfl, b⟩
          replace hB6 := Lib.hid (hB6.out.later b)
          have p1 := hB6.out.c1
          clear b
          rcases hap.out with ⟨h0, h1 | h1⟩ | ⟨h0, h1⟩
          · have e1 : (r3 == 0) = true := by rw [h0]; rfl
            have e2 : (s3 == 0) = true := by rw [h1]; rfl
            replace h0 := Lib.hid h0
            replace h1 := Lib.hid h1
            go_wp2_with fail
            go_ret
            exact ⟨rfl, hB6.out.o⟩
          · have e1 : (r3 == 0) = true := by rw [h0]; rfl
            have e3 : decide ((x.m : Int) ≤ s2) = true := decide_eq_true h1
            replace h0 := Lib.hid h0
            replace h1 := Lib.hid h1
            by_cases h2 : s3 = 0
            · have e2 : (s3 == 0) = true := by rw [h2]; rfl
              replace h2 := Lib.hid h2
              go_wp2_with fail
              go_ret
              exact ⟨rfl, hB6.out.o⟩
            · have e2 : (s3 == 0) = false := by simpa using h2
              replace h2 := Lib.hid h2
              go_wp2_with fail
              go_ret
              exact ⟨rfl, hB6.out.o⟩
          · injection h1 with h1 h2
            injection h2 with h2 h3
            have e1 : (r3 == 0) = false := by simpa using h0
            have e4 : (r3 != 0) = true := by simpa using h0
            have e5 : (r3 == s3) = true := by simp [h3]
            have e6 : (r1 == s1) = true := by simp [h1]
            have e7 : (r2 == s2) = true := by simp [h2]
            replace h0 := Lib.hid h0
            replace h1 := Lib.hid h1
            replace h2 := Lib.hid h2
            replace h3 := Lib.hid h3
            go_wp2_with fail
            go_ret
            exact ⟨rfl, hB6.out.o⟩
end Go.Proofs.Ytjdhahonpmghhaa
