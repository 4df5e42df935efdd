/- Plain mathematics of layer 7: what is read may be; texts cut. -/
import Derived.Test.YtkccefgmiaoinaaReadMathD
namespace Go.Proofs.Ytkccefgmiaoinaa
set_option linter.unusedVariables false

theorem oneL_name {l : List UInt8} {o : OpT} {k : Nat} (h : oneL l = .ok (o, k)) : nameL o.2.1.data.toList = true := by
  obtain ⟨c, d, q, rfl, _, _, hv⟩ := oneL_shape h
  obtain ⟨h0, _, _, rfl, _⟩ := varL_shape hv
  have hn := nameN_le q
  have hl : (q.take (nameN q)).length = nameN q := by rw [List.length_take]; omega
  show nameL (q.take (nameN q)) = true
  unfold nameL
  rw [hl, decide_eq_true (by omega : 1 ≤ nameN q), decide_eq_true hn.2]
  have : (q.take (nameN q)).all (fun c => decide (97 ≤ c.toNat) && decide (c.toNat ≤ 122)) = true := by
    rw [List.all_eq_true]
    intro c hc
    obtain ⟨j, hj⟩ := List.getElem?_of_mem hc
    have hjl := (List.getElem?_eq_some_iff.1 hj).1
    rw [hl] at hjl
    obtain ⟨e, he, hpe⟩ := nameN_all q j hjl
    rw [List.getElem?_take_of_lt hjl, he] at hj
    injection hj with hj
    subst hj
    exact hpe
  rw [this]; rfl
theorem lineT_names : ∀ (n : Nat) (l : List UInt8), l.length ≤ n → ∀ (first : Bool) (all : Nat) (os : List OpT) (k : Nat), lineT l first all = .ok (os, k) → (∀ o ∈ os, nameL o.2.1.data.toList = true) ∧ ∃ c, l[k - 1]? = some c ∧ c.toNat = 10
  | n, [], _, first, all, os, k, h => by rw [lineT_nil] at h; cases h
  | 0, c :: r, hn, _, _, _, _, _ => by simp at hn
  | n + 1, c :: r, hn, first, all, os, k, h => by
    by_cases hc : c.toNat = 10
    · rw [lineT_end hc] at h
      injection h with h; injection h with h1 h2
      subst h1; subst h2
      exact ⟨fun o ho => by simp at ho, c, rfl, hc⟩
    · cases ho : opS first all (c :: r) with
      | bad m e => rw [lineT_bad hc ho] at h; cases h
      | ok x =>
        obtain ⟨o, m⟩ := x
        rw [lineT_op hc ho] at h
        have hpos := opS_pos ho
        obtain ⟨_, _, q, hq, _⟩ := opS_shape ho
        cases hr : lineT ((c :: r).drop m) false (all + 1) with
        | bad p e => rw [hr] at h; cases h
        | ok y =>
          obtain ⟨ps, p⟩ := y
          rw [hr] at h
          injection h with h; injection h with h1 h2
          subst h1; subst h2
          obtain ⟨ih1, d, hd, hd10⟩ := lineT_names n ((c :: r).drop m) (by rw [List.length_drop]; simp at hn ⊢; omega) false (all + 1) ps p hr
          have hpp := lineT_pos hr
          refine ⟨fun o' ho' => ?_, d, ?_, hd10⟩
          · rcases List.mem_cons.1 ho' with rfl | h
            · exact oneL_name hq
            · exact ih1 o' h
          · rw [List.getElem?_drop] at hd
            rw [show m + p - 1 = m + (p - 1) by omega]; exact hd
theorem textT_names : ∀ (n : Nat) (l : List UInt8), l.length ≤ n → ∀ (all : Nat) (hs : List (List OpT)), textT l all = .ok hs → (∀ o ∈ allO hs, nameL o.2.1.data.toList = true) ∧ (l ≠ [] → ∃ c, l[l.length - 1]? = some c ∧ c.toNat = 10)
  | n, [], _, all, hs, h => by rw [textT_nil] at h; injection h with h; subst h; exact ⟨fun o ho => by simp [allO] at ho, fun h => absurd rfl h⟩
  | 0, c :: r, hn, _, _, _ => by simp at hn
  | n + 1, c :: r, hn, all, hs, h => by
    cases hl : lineT (c :: r) true all with
    | bad k e => rw [textT_bad hl] at h; cases h
    | ok x =>
      obtain ⟨os, k⟩ := x
      have hk := lineT_len _ _ (Nat.le_refl _) _ _ _ _ hl
      obtain ⟨hn1, d, hd, hd10⟩ := lineT_names _ _ (Nat.le_refl _) _ _ _ _ hl
      rw [textT_line hl] at h
      cases ht : textT ((c :: r).drop k) (all + os.length) with
      | bad m e => rw [ht] at h; cases h
      | ok ls =>
        rw [ht] at h
        injection h with h
        subst h
        obtain ⟨ih1, ih2⟩ := textT_names n ((c :: r).drop k) (by rw [List.length_drop]; simp at hn ⊢; omega) (all + os.length) ls ht
        refine ⟨fun o ho => ?_, fun _ => ?_⟩
        · rw [allO_cons] at ho
          rcases List.mem_append.1 ho with h | h
          · exact hn1 o h
          · exact ih1 o h
        · by_cases he : (c :: r).drop k = []
          · have hkl : (c :: r).length ≤ k := List.drop_eq_nil_iff.1 he
            rw [show (c :: r).length - 1 = k - 1 by omega]
            exact ⟨d, hd, hd10⟩
          · obtain ⟨e, h1, h2⟩ := ih2 he
            rw [List.getElem?_drop, List.length_drop] at h1
            have hkl : k < (c :: r).length := by
              rcases Nat.lt_or_ge k (c :: r).length with h | h
              · exact h
              · exact absurd (List.drop_eq_nil_of_le h) he
            rw [show k + ((c :: r).length - k - 1) = (c :: r).length - 1 by omega] at h1
            exact ⟨e, h1, h2⟩
/-- what is read may be -/
theorem textL_right {s : List UInt8} {hs : List (List OpT)} (h : textL s = .ok hs) (hl : s.length ≤ 4096) : rightL hs = true := by
  have h1 := (textT_names _ s (Nat.le_refl _) 0 hs h).1
  have h2 := (textT_len _ s (Nat.le_refl _) 0 hs h).1
  unfold rightL
  rw [decide_eq_true (by omega : (allO hs).length ≤ 4096), Bool.and_true, List.all_eq_true]
  exact h1
theorem textL_last {s : List UInt8} {hs : List (List OpT)} (h : textL s = .ok hs) (hn : s ≠ []) : ∃ c, s[s.length - 1]? = some c ∧ c.toNat = 10 := (textT_names _ s (Nat.le_refl _) 0 hs h).2 hn
theorem textL_bad {s : List UInt8} {k : Nat} {e : Int} (h : textL s = .bad k e) : k ≤ s.length ∧ (e = 2 ∨ e = 3) := textT_le _ s (Nat.le_refl _) 0 k e h
theorem textL_ten : textL [10] = .ok [[]] := by
  have l1 : lineT [10] true 0 = .ok ([], 1) := lineT_end rfl true 0
  show textT [10] 0 = _
  rw [textT_line l1]
  show addT [] 1 (textT [] 0) = _
  rw [textT_nil]; rfl
/-- a text whose end is cut off -/
theorem textL_cut {s : List UInt8} {hs g : List (List OpT)} (h : textL s = .ok hs) (hn : s ≠ []) (hl : s.length ≤ 4096) (hg : textL (s.take (s.length - 1)) = .ok g) : hs.length = g.length + 1 := by
  obtain ⟨c, hc, h10⟩ := textL_last h hn
  have hc10 : c = 10 := UInt8.toNat_inj.1 (by rw [h10]; rfl)
  subst hc10
  have hpos : 0 < s.length := by cases s with
    | nil => exact absurd rfl hn
    | cons c r => simp
  have hs' : s = s.take (s.length - 1) ++ [10] := by
    conv => lhs; rw [← List.take_length (l := s), show s.length = s.length - 1 + 1 by omega, List.take_add_one, hc]
    simp
  have ha := textL_append (t := [10]) hg (by rw [List.length_take]; simp; omega)
  rw [← hs', textL_ten, h] at ha
  injection ha with ha
  rw [ha, List.length_append]; rfl

end Go.Proofs.Ytkccefgmiaoinaa
