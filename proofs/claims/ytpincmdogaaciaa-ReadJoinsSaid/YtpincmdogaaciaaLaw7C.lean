/- Layer 7's law ReadJoins. -/
import Derived.Test.YtpincmdogaaciaaLaw7A
import Derived.Test.YtpincmdogaaciaaReadMathE
import Derived.Test.YtpincmdogaaciaaHistJoin
namespace Go.Proofs.Ytpincmdogaaciaa
open Go.RowKit
set_option linter.unusedVariables false

theorem append_list (s t : ByteArray) : (s ++ t).data.toList = s.data.toList ++ t.data.toList := by
  rw [ByteArray.data_append, Array.toList_append]
theorem append_size (s t : ByteArray) : (s ++ t).size = s.size + t.size := by
  rw [← size_list, append_list, List.length_append, size_list, size_list]
theorem wpList_wanted7 {P : Program} {ops : Array Oper} {rest : List Oper} {o : Oper} {a : Act} {w : World} {Q : Exit → Act → World → Prop} (hw : Region.wanted o (yielded ops a.tmps) = true)
    (h : ∀ K : Act → World → Prop, (∀ a w, wpList P ops Q rest a w → K a w) → o.wp P a w K Q) : wpList P ops Q (o :: rest) a w :=
  wpList_step fun K hK => by rw [if_pos hw]; exact h K hK
/-- 'append(s, xs...)' of one-cell elements, behind a guard that holds -/
theorem wpList_append_rd_g {P : Program} {w : World} {ops : Array Oper} {rest : List Oper} {o : Oper} {a : Act} {Q : Exit → Act → World → Prop} (hw : Region.wanted o (yielded ops a.tmps) = true) (s x : Operand) (t : TypeId)
    (ho : o.op = .call { callee := .builtin .append, args := #[s, x], argTypes := #[t, t] })
    (base : Nat) (e : TypeId) (i : TypeInfo) (z : Value) (bytes : Nat) (ht : P.underlying t = some (.slice e)) (hi : P.info? e = some i) (hz : i.zero = some z)
    (hsize : i.size = 1) (hby : i.bytes = bytes) (hzs : z.cells.size = 1)
    (v : Value) (n : Nat) (xs : List Value) (hs : a.eval s = v) (hown : w.ownsRow base e 1 v n xs)
    (A : Option Addr) (m c : Nat) (news : List Value) (hx : a.eval x = .slice A m c) (hr : Rd w A m news) (h1 : ∀ u ∈ news, u.oneCell' = true)
    (h63 : n + m ≤ maxLen) (hbytes : (n + m) * bytes ≤ 140737488355328) (hbase : base ≤ w.heap.size)
    (h : ∀ v' w', w'.ownsRow base e 1 v' (n + m) (xs ++ news) → Below base w w' → wpList P ops Q rest (a.put o.dst v') w') :
    wpList P ops Q (o :: rest) a w := by
  rcases A with _ | ad
  · have hm : m = 0 := by
      rcases Nat.eq_zero_or_pos m with h0 | h0
      · exact h0
      · obtain ⟨_, _, hh, _⟩ := hr.2 h0
        cases hh
    subst hm
    obtain rfl := hr.of_nil
    refine wpList_wanted7 hw fun K hK => ?_
    have hrun := run_append_nothing (P := P) (w := w) base t o.type e i 1 ht hi v n xs hown c
    unfold Oper.wp
    simp [execOp, ho, resolve, invoke, builtin, hs, hx, hrun, Result.andThen]
    exact hK _ _ (h v w (by simpa using hown) (Below.refl _ _))
  · have hcells : ∀ j u, news[j]? = some u → w.cell? (ad.add j) = some u := by
      intro j u hu
      have hj : 0 < m := by
        rcases Nat.eq_zero_or_pos m with h0 | h0
        · subst h0; rw [hr.of_nil] at hu; simp at hu
        · exact h0
      obtain ⟨b, off, hh, _, hc⟩ := hr.2 hj
      injection hh with hh
      subst hh
      have he : (⟨b, off, none⟩ : Addr).add j = ⟨b, off + j, none⟩ := by unfold Addr.add; split <;> simp_all
      rw [he]; exact hc j u hu
    obtain ⟨v', w', hrun, h2, h3, _, _⟩ := run_append_own_at (P := P) w base t o.type e i z 1 bytes ht hi hz hsize hby hzs (by omega) v n xs hown ad m c news (by rw [hr.1]; omega) hcells h1 h63 hbytes hbase
    refine wpList_wanted7 hw fun K hK => ?_
    unfold Oper.wp execOp
    simp only [ho, resolve, invoke, builtin, Sem.run_bind, Sem.run_pure, Result.andThen_ok, List.map_toArray, List.map_cons, List.map_nil, hs, hx, hrun]
    exact hK _ _ (h v' w' h2 ((Below.refl _ _).grown h3 hbase (own_lt_block hown)))
set_option maxRecDepth 100000 in
set_option maxHeartbeats 1000000 in
theorem law7_ReadJoins (s t : ByteArray) (w : World) : Calls Try.prog 5 #[.string s, .string t] w fun e w' => e = .returned (.bool true) ∧ Below w.heap.size w w' := by
  by_cases hbig : 1000 < s.size ∨ 1000 < t.size
  · have hcase : 1000 < s.size ∨ (¬ 1000 < s.size ∧ 1000 < t.size) := by omega
    clear hbig
    rcases hcase with h | ⟨h, h2⟩
    · have h' : (1000 : Int) < (s.size : Int) := by omega
      clear h
      go_enter Try.func5, Try.ntmps5
      go_wp2_with fail
      refine (law7_awake w).mono ?_; rintro e w1 ⟨rfl, b⟩
      go_wp2_with fail
      go_ret
      exact ⟨rfl, b⟩
    · have h' : ¬ (1000 : Int) < (s.size : Int) := by omega
      have h2' : (1000 : Int) < (t.size : Int) := by omega
      clear h h2
      go_enter Try.func5, Try.ntmps5
      go_wp2_with fail
      refine (law7_awake w).mono ?_; rintro e w1 ⟨rfl, b⟩
      go_wp2_with fail
      go_ret
      exact ⟨rfl, b⟩
  · have h1 : ¬ (1000 : Int) < (s.size : Int) := by omega
    have h2 : ¬ (1000 : Int) < (t.size : Int) := by omega
    have c1 := Lib.hid (read_Text s w (by omega))
    have hj := fun a (h : textL s.data.toList = .ok a) => textL_append (t := t.data.toList) h (by rw [size_list, size_list]; omega)
    obtain ⟨r1, hr1⟩ : ∃ r, r = textL s.data.toList := ⟨_, rfl⟩
    obtain ⟨r2, hr2⟩ : ∃ r, r = textL t.data.toList := ⟨_, rfl⟩
    obtain ⟨r3, hr3⟩ : ∃ r, r = textL (s ++ t).data.toList := ⟨_, rfl⟩
    rw [← append_list, ← hr1, ← hr2, ← hr3, size_list] at hj
    rw [← hr1] at c1
    have hl1 := fun a (h : r1 = .ok a) => textT_len _ s.data.toList (Nat.le_refl _) 0 a (by rw [hr1] at h; exact h)
    have hl2 := fun a (h : r2 = .ok a) => textT_len _ t.data.toList (Nat.le_refl _) 0 a (by rw [hr2] at h; exact h)
    have hb1 := fun k e (h : r1 = .bad k e) => textL_bad (s := s.data.toList) (by rw [hr1] at h; exact h)
    have hb2 := fun k e (h : r2 = .bad k e) => textL_bad (s := t.data.toList) (by rw [hr2] at h; exact h)
    rw [size_list] at hl1 hl2 hb1 hb2
    have hsz := append_size s t
    have hsz' : (s ++ t).size ≤ 1073741824 := by omega
    replace hj := Lib.hid hj
    replace hl1 := Lib.hid hl1
    replace hl2 := Lib.hid hl2
    replace hb1 := Lib.hid hb1
    replace hb2 := Lib.hid hb2
    replace hsz := Lib.hid hsz
    replace hr1 := Lib.hid hr1
    obtain ⟨ta1, ht1⟩ : ∃ x, x = txtA r1 := ⟨_, rfl⟩
    obtain ⟨te1, he1⟩ : ∃ x, x = txtE r1 := ⟨_, rfl⟩
    obtain ⟨ta2, ht2⟩ : ∃ x, x = txtA r2 := ⟨_, rfl⟩
    obtain ⟨te2, he2⟩ : ∃ x, x = txtE r2 := ⟨_, rfl⟩
    obtain ⟨ta3, ht3⟩ : ∃ x, x = txtA r3 := ⟨_, rfl⟩
    obtain ⟨te3, he3⟩ : ∃ x, x = txtE r3 := ⟨_, rfl⟩
    unfold RetText at c1
    rw [← ht1, ← he1] at c1
    replace ht1 := Lib.hid ht1
    replace he1 := Lib.hid he1
    clear hbig
    go_enter Try.func5, Try.ntmps5
    go_wp2_with fail
    refine c1.out.mono ?_; rintro x w1 ⟨A, n, c, rfl, hA, hnc, hc, b⟩
    have c2 := read_Text t w1 (by omega)
    unfold RetText at c2
    rw [← hr2, ← ht2, ← he2] at c2
    replace c2 := Lib.hid c2
    replace hr2 := Lib.hid hr2
    replace ht2 := Lib.hid ht2
    replace he2 := Lib.hid he2
    replace b := Lib.hid b
    replace hA := Lib.hid hA
    clear c1
    go_wp2_with fail
    refine c2.out.mono ?_; rintro x w2 ⟨B, m, d, rfl, hB, hmd, hd, b2⟩
    replace b := Lib.hid (below_trans2 b.out b2)
    replace hA := Lib.hid (hA.out.below b2)
    replace hB := Lib.hid hB
    have c3 := read_Text (s ++ t) w2 hsz'
    unfold RetText at c3
    rw [← hr3, ← ht3, ← he3] at c3
    replace c3 := Lib.hid c3
    replace hr3 := Lib.hid hr3
    replace ht3 := Lib.hid ht3
    replace he3 := Lib.hid he3
    clear c2 b2
    go_wp2_with fail
    refine c3.out.mono ?_; rintro x w3 ⟨C, q, f, rfl, hC, hqf, hf, b3⟩
    replace b := Lib.hid (below_trans2 b.out b3)
    replace hA := Lib.hid (hA.out.below b3)
    replace hB := Lib.hid (hB.out.below b3)
    replace hC := Lib.hid hC
    clear c3 b3
    cases r1 with
    | bad k1 e1 =>
      have hne : (te1 != 0) = true := by
        have h := (hb1.out k1 e1 rfl).2
        have h2 : te1 = e1 := he1.out
        rw [h2]; rcases h with h | h <;> (subst h; rfl)
      go_wp2_with fail
      refine (law7_awake w3).mono ?_; rintro e w4 ⟨rfl, b4⟩
      replace b := Lib.hid (below_trans2 b.out b4)
      go_wp2_with fail
      go_ret
      exact ⟨rfl, b.out⟩
    | ok a1 =>
      have h3 := hj.out a1 rfl
      have e1 : te1 = 0 := he1.out
      subst e1
      cases r2 with
      | bad k2 e2 =>
        have hh := (hb2.out k2 e2 rfl)
        have e2' : te2 = e2 := he2.out
        have a2' : ta2 = k2 := ht2.out
        have e3' : te3 = e2 := by rw [he3.out, h3]; rfl
        have a3' : ta3 = s.size + k2 := by rw [ht3.out, h3]; rfl
        subst e2'
        subst a2'
        subst e3'
        subst a3'
        have hne : (te3 != 0) = true := by rcases hh.2 with h | h <;> (subst h; rfl)
        have hadd : (((s.size + ta2 : Nat) : Int) == (s.size : Int) + (ta2 : Int)) = true := by rw [beq_iff_eq]; omega
        have hee : (te3 == te3) = true := by simp
        have hk := hh.1
        replace hh := Lib.hid hh
        replace h3 := Lib.hid h3
        go_wp2_with fail
        refine (law7_awake w3).mono ?_; rintro e w4 ⟨rfl, b4⟩
        replace b := Lib.hid (below_trans2 b.out b4)
        go_wp2_with fail
        go_ret
        exact ⟨rfl, b.out⟩
      | ok a2 =>
        have e2' : te2 = 0 := he2.out
        have e3' : te3 = 0 := by rw [he3.out, h3]; rfl
        subst e2'
        subst e3'
        have hH3 : txtH r3 = a1 ++ a2 := by rw [h3]; rfl
        rw [hH3] at hC
        have hA' : Hid (HistAt w3 A n a1) := hA
        have hB' : Hid (HistAt w3 B m a2) := hB
        have hnn := hA'.out.len
        have hmm := hB'.out.len
        have hn1 := (hl1.out a1 rfl).2
        have hm1 := (hl2.out a2 rfl).2
        have hn2 : n ≤ 1000 := by omega
        have hm2 : m ≤ 1000 := by omega
        replace h3 := Lib.hid h3
        clear hA hB hH3 hnn hmm hn1 hm1
        go_wp2_with fail
        refine (law7_awake w3).mono ?_; rintro e w4 ⟨rfl, b4⟩
        replace b := Lib.hid (below_trans2 b.out b4)
        replace hC := Lib.hid (hC.out.below b4)
        replace hA' := Lib.hid (hA'.out.below b4)
        replace hB' := Lib.hid (hB'.out.below b4)
        clear b4
        obtain ⟨i0, hi, hz0, hz1, hz2⟩ := info_parts info_sess7
        replace hi := Lib.hid hi
        replace hz0 := Lib.hid hz0
        replace hz1 := Lib.hid hz1
        replace hz2 := Lib.hid hz2
        obtain ⟨vs, hvr, hvl, hv1, hvs⟩ := hA'.out.rd
        obtain ⟨us, hur, hul, hu1, hus⟩ := hB'.out.rd
        have hlit : (w4.alloc (.cells #[] 33)).ownsRow w4.heap.size 33 1 (.slice (some ⟨w4.heap.size, 0, none⟩) 0 0) 0 [] := by
          have h := World.ownsRow_lit (size := 1) (base := w4.heap.size) (e := 33) w4 #[] 0 (Nat.le_refl _) (by omega) (by simp)
          simpa using h
        have hb0 : Below w4.heap.size w4 (w4.alloc (.cells #[] 33)) := (Below.refl _ _).alloc (Nat.le_refl _) _
        have hrd := Lib.hid (hvr.below hb0)
        have hrd2 := Lib.hid hur
        replace hlit := Lib.hid hlit
        replace hb0 := Lib.hid hb0
        replace hv1 := Lib.hid hv1
        replace hu1 := Lib.hid hu1
        replace hvs := Lib.hid hvs
        replace hus := Lib.hid hus
        replace hvl := Lib.hid hvl
        replace hul := Lib.hid hul
        have hvn := Lib.hid hvr.1
        have hun := Lib.hid hur.1
        clear hvr hur
        go_wp2_with (first
          | (at_builtin; refine wpList_append_rd_g (by rfl) (.tmp 69) (.tmp 70) _ rfl w4.heap.size 33 i0 _ 24 Try.underlying23 hi.out hz0.out hz1.out hz2.out rfl _ 0 _ (by rfl) hlit.out _ n c _ rfl hrd.out hv1.out (by unfold maxLen; omega) (by omega) hb0.out.size ?_; intro v1 w5 hown1 hbb; rw [Nat.zero_add, List.nil_append] at hown1; replace hown1 := Lib.hid hown1; replace hb0 := Lib.hid (hb0.out.trans hbb); replace hrd2 := Lib.hid (hrd2.out.below hb0.out); clear hbb)
          | (at_builtin; refine wpList_append_rd_g (by rfl) (.tmp 71) (.tmp 72) _ rfl w4.heap.size 33 i0 _ 24 Try.underlying23 hi.out hz0.out hz1.out hz2.out rfl _ n _ (by rfl) hown1.out _ m d _ rfl hrd2.out hu1.out (by unfold maxLen; omega) (by omega) hb0.out.size ?_; intro v2 w6 hown2 hbb2; replace hown2 := Lib.hid hown2; replace hb0 := Lib.hid (hb0.out.trans hbb2); clear hbb2))
        obtain ⟨D, cc, rfl, hnmc, hcc, hH⟩ := HistAt.joined hown2.out hvn.out hun.out hvl.out hul.out (fun i v os h1 h2 => (hvs.out i v os h1 h2).below hb0.out) (fun i v os h1 h2 => (hus.out i v os h1 h2).below hb0.out)
        have hq := hC.out.len
        have cS := Lib.hid (ref6_Same C D q f (n + m) cc (a1 ++ a2) (a1 ++ a2) w6 (hC.out.below hb0.out) hH (by omega) (by omega))
        rw [decide_eq_true (rfl : a1 ++ a2 = a1 ++ a2)] at cS
        replace b := Lib.hid (below_trans2 b.out hb0.out)
        refine cS.out.mono ?_; rintro e w7 ⟨rfl, q', rfl⟩
        go_wp2_with fail
        go_ret
        exact ⟨rfl, below_drewN b.out q'⟩

end Go.Proofs.Ytpincmdogaaciaa
