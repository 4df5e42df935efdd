/- Plain mathematics of the model of a cursor: what an operation comes to. -/
import Derived.Test.YtpincmdogaaciaaReadCurD
namespace Go.Proofs.Ytpincmdogaaciaa
set_option linter.unusedVariables false

/-- a cursor that has stopped at p -/
def downS (s : ByteArray) (p o : Nat) (e : Int) : CS := ⟨s.extract 0 p, p, o, e⟩
theorem onS_rest (S : CS) (c : Nat) : onS S c = match (restS S)[0]? with | none => false | some d => decide (d.toNat = c) := by
  unfold onS restS; rw [List.getElem?_drop]; rfl
theorem stop_down {S : CS} (he : S.e ≠ 0) (why : Int) : stopS S why = S := if_neg he
theorem must_down {S : CS} (he : S.e ≠ 0) (ha : S.a = S.x.size) (c : Nat) : mustS S c = S := by
  unfold mustS; rw [onS_end (by omega)]; exact stop_down he 2
theorem begin_down {S : CS} (he : S.e ≠ 0) (ha : S.a = S.x.size) : beginS S = S := by
  unfold beginS; rw [onS_end (by omega), onS_end (by omega)]; exact stop_down he 2
theorem rest_down {S : CS} (ha : S.a = S.x.size) : restS S = [] := by
  unfold restS; exact List.drop_eq_nil_of_le (by rw [size_list]; omega)
theorem name_down {S : CS} (he : S.e ≠ 0) (ha : S.a = S.x.size) : nameS S = S := by
  unfold nameS lenS; rw [rest_down ha]; exact stop_down he 2
theorem num_down {S : CS} (he : S.e ≠ 0) (ha : S.a = S.x.size) : numS S = S := by
  unfold numS; rw [rest_down ha]
  rw [if_neg (by decide)]
  exact stop_down he _
theorem op_down {S : CS} (he : S.e ≠ 0) (ha : S.a = S.x.size) : opTo S = S := by
  unfold opTo opS1 opS0
  rw [begin_down he ha, must_down he ha, name_down he ha, must_down he ha, num_down he ha]
theorem down_size {s : ByteArray} {p o : Nat} {e : Int} (h : p ≤ s.size) : (downS s p o e).a = (downS s p o e).x.size := by
  show p = (s.extract 0 p).size; rw [ByteArray.size_extract]; omega
theorem stop_up (s : ByteArray) (a o : Nat) (why : Int) : stopS ⟨s, a, o, 0⟩ why = downS s a o why := if_pos rfl
theorem must_up {s : ByteArray} {a o c : Nat} (h : onS ⟨s, a, o, 0⟩ c = true) : mustS ⟨s, a, o, 0⟩ c = ⟨s, a + 1, o, 0⟩ := if_pos h
theorem must_no {s : ByteArray} {a o c : Nat} (h : onS ⟨s, a, o, 0⟩ c = false) : mustS ⟨s, a, o, 0⟩ c = downS s a o 2 := by
  unfold mustS; rw [h]; exact stop_up s a o 2
theorem rest_up {s : ByteArray} {a o : Nat} {e : Int} : restS ⟨s, a, o, e⟩ = s.data.toList.drop a := rfl
theorem on_up {s : ByteArray} {a o c : Nat} {e : Int} {l : List UInt8} (h : s.data.toList.drop a = l) : onS ⟨s, a, o, e⟩ c = match l[0]? with | none => false | some d => decide (d.toNat = c) := by
  rw [onS_rest, rest_up, h]
theorem drop_tail {s : List UInt8} {a : Nat} {c : UInt8} {r : List UInt8} (h : s.drop a = c :: r) : s.drop (a + 1) = r := by
  rw [← List.drop_drop, h]; rfl
/-- behind the start of an operation that stops: nothing more happens -/
theorem op_stopped0 {S : CS} {s : ByteArray} {p o : Nat} {e : Int} (hp : p ≤ s.size) (he : e ≠ 0) (h : beginS S = downS s p o e) : opTo S = downS s p o e := by
  have ha := down_size (o := o) (e := e) hp
  unfold opTo opS1 opS0
  rw [h, must_down he ha, name_down he ha, must_down he ha, num_down he ha]
theorem op_stopped1 {S : CS} {s : ByteArray} {p o : Nat} {e : Int} (hp : p ≤ s.size) (he : e ≠ 0) (h : opS0 S = downS s p o e) : opTo S = downS s p o e := by
  have ha := down_size (o := o) (e := e) hp
  unfold opTo opS1
  rw [h, name_down he ha, must_down he ha, num_down he ha]
theorem op_stopped2 {S : CS} {s : ByteArray} {p o : Nat} {e : Int} (hp : p ≤ s.size) (he : e ≠ 0) (h : opS1 S = downS s p o e) : opTo S = downS s p o e := by
  have ha := down_size (o := o) (e := e) hp
  unfold opTo
  rw [h, num_down he ha]
theorem drop_le {s : ByteArray} {a : Nat} {l : List UInt8} (h : s.data.toList.drop a = l) (hl : 0 < l.length) : a + l.length = s.size := by
  have := congrArg List.length h
  rw [List.length_drop, size_list] at this
  omega
/-- what an operation comes to, where not too many have begun -/
theorem op_up {s : ByteArray} {a o : Nat} (ha : a ≤ s.size) (hw : ¬ (o = 4096 ∧ isWR (s.data.toList.drop a) = true)) :
    (∀ k e, oneL (s.data.toList.drop a) = .bad k e → ∃ o', opTo ⟨s, a, o, 0⟩ = downS s (a + k) o' e) ∧
    (∀ x k, oneL (s.data.toList.drop a) = .ok (x, k) → opOf ⟨s, a, o, 0⟩ = x ∧ opTo ⟨s, a, o, 0⟩ = ⟨s, a + k, o + 1, 0⟩) := by
  cases hl : s.data.toList.drop a with
  | nil =>
    refine ⟨fun k e h => ?_, fun x k h => by simp [oneL] at h⟩
    have h : PRes.bad 0 2 = PRes.bad k e := h
    injection h with h1 h2
    subst h1; subst h2
    refine ⟨o, op_stopped0 (by omega) (by decide) ?_⟩
    unfold beginS
    rw [on_up hl, on_up hl]
    exact stop_up s a o 2
  | cons c r =>
    rw [hl] at hw
    have hlen := drop_le hl (by simp)
    rw [List.length_cons] at hlen
    have h1 := drop_tail hl
    have on119 : onS ⟨s, a, o, 0⟩ 119 = isW c := by rw [on_up hl]; rfl
    have on114 : onS ⟨s, a, o, 0⟩ 114 = isR c := by rw [on_up hl]; rfl
    by_cases hc : (isW c || isR c) = false
    · have ho : oneL (c :: r) = .bad 0 2 := by unfold oneL; exact if_pos hc
      rw [ho]
      refine ⟨fun k e h => ?_, fun x k h => by cases h⟩
      injection h with h1 h2
      subst h1; subst h2
      refine ⟨o, op_stopped0 (by omega) (by decide) ?_⟩
      unfold beginS
      rw [on119, on114, if_pos hc]
      exact stop_up s a o 2
    · have hc' : (isW c || isR c) = true := by cases h : (isW c || isR c) with | true => rfl | false => exact absurd h hc
      have ho : ¬ o = 4096 := fun h => hw ⟨h, hc'⟩
      have hb : beginS ⟨s, a, o, 0⟩ = ⟨s, a + 1, o + 1, 0⟩ := by
        unfold beginS
        rw [on119, on114, if_neg hc]
        exact if_neg ho
      cases r with
      | nil =>
        have h2 : oneL [c] = .bad 1 2 := if_neg hc
        rw [h2]
        refine ⟨fun k e h => ?_, fun x k h => by cases h⟩
        injection h with h3 h4
        subst h3; subst h4
        refine ⟨o + 1, op_stopped1 (by simp at hlen; omega) (by decide) ?_⟩
        unfold opS0
        rw [hb]
        exact must_no (by rw [on_up h1]; rfl)
      | cons d q =>
        have h2 := drop_tail h1
        have on58 : onS ⟨s, a + 1, o + 1, 0⟩ 58 = decide (d.toNat = 58) := by rw [on_up h1]; rfl
        rw [List.length_cons] at hlen
        by_cases hd : d.toNat = 58
        · have h3 : oneL (c :: d :: q) = varL (isW c) q := (if_neg hc).trans (if_pos hd)
          rw [h3]
          have hS0 : opS0 ⟨s, a, o, 0⟩ = ⟨s, a + 2, o + 1, 0⟩ := by
            unfold opS0; rw [hb]; exact must_up (by rw [on58]; exact decide_eq_true hd)
          have hq : restS ⟨s, a + 2, o + 1, 0⟩ = q := h2
          obtain ⟨n, hn⟩ : ∃ n, n = nameN q := ⟨_, rfl⟩
          have hnq : n ≤ q.length := by rw [hn]; exact Nat.le_trans (Nat.min_le_right _ _) (List.takeWhile_prefix _).length_le
          have hlenS : lenS ⟨s, a + 2, o + 1, 0⟩ = n := by unfold lenS; rw [hq, hn]
          by_cases hv : n = 0 ∨ q[n]? ≠ some 61
          · rw [varL_bad hn.symm hv]
            refine ⟨fun k e h => ?_, fun x k h => by cases h⟩
            injection h with h4 h5
            subst h4; subst h5
            by_cases hn0 : n = 0
            · refine ⟨o + 1, op_stopped2 (by omega) (by decide) ?_⟩
              unfold opS1
              have hnm : nameS (opS0 ⟨s, a, o, 0⟩) = downS s (a + (2 + n)) (o + 1) 2 := by
                rw [hS0]; unfold nameS; rw [hlenS, if_pos hn0, hn0]; exact stop_up s (a + 2) (o + 1) 2
              rw [hnm]
              exact must_down (show (2 : Int) ≠ 0 by decide) (down_size (by omega)) 61
            · refine ⟨o + 1, op_stopped2 (by omega) (by decide) ?_⟩
              unfold opS1
              have hnm : nameS (opS0 ⟨s, a, o, 0⟩) = ⟨s, a + (2 + n), o + 1, 0⟩ := by
                rw [hS0]; unfold nameS; rw [hlenS, if_neg hn0, Nat.add_assoc]
              rw [hnm]
              refine must_no ?_
              rw [on_up (l := q.drop n) (by rw [← Nat.add_assoc, ← List.drop_drop, h2])]
              rw [List.getElem?_drop, Nat.add_zero]
              cases hqn : q[n]? with
              | none => rfl
              | some f =>
                refine decide_eq_false (fun h => ?_)
                have : f = 61 := UInt8.toNat_inj.1 (by rw [h]; rfl)
                rw [hqn, this] at hv
                rcases hv with h6 | h6
                · exact hn0 h6
                · exact h6 rfl
          · have hn0 : n ≠ 0 := fun h => hv (.inl h)
            have h61 : q[n]? = some 61 := Classical.byContradiction fun h => hv (.inr h)
            have hnl : n < q.length := (List.getElem?_eq_some_iff.1 h61).1
            have hS1 : opS1 ⟨s, a, o, 0⟩ = ⟨s, a + (3 + n), o + 1, 0⟩ := by
              unfold opS1
              have hnm : nameS (opS0 ⟨s, a, o, 0⟩) = ⟨s, a + (2 + n), o + 1, 0⟩ := by
                rw [hS0]; unfold nameS; rw [hlenS, if_neg hn0, Nat.add_assoc]
              rw [hnm, show a + (3 + n) = a + (2 + n) + 1 by omega]
              refine must_up ?_
              rw [on_up (l := q.drop n) (by rw [← Nat.add_assoc, ← List.drop_drop, h2]), List.getElem?_drop, Nat.add_zero, h61]
              rfl
            have hrest : restS ⟨s, a + (3 + n), o + 1, 0⟩ = q.drop (n + 1) := by
              rw [rest_up, show a + (3 + n) = a + 2 + (n + 1) by omega, ← List.drop_drop, h2]
            by_cases he : getE (numAt (q.drop (n + 1))) = 0
            · rw [varL_ok hn.symm hn0 h61 he]
              refine ⟨fun k e h => (by cases h), fun x k h => ?_⟩
              injection h with h
              injection h with h4 h5
              subst h4; subst h5
              constructor
              · unfold opOf nmS numVS
                rw [on119, hS0, hS1, hq, hrest, hlenS, if_pos he]
              · unfold opTo numS
                rw [hS1, hrest, if_pos he]
                show atS _ _ = _
                unfold atS
                rw [show a + (3 + n + spanN (q.drop (n + 1))) = a + (3 + n) + spanN (q.drop (n + 1)) by omega]
            · rw [varL_num hn.symm hn0 h61 he]
              refine ⟨fun k e h => ?_, fun x k h => by cases h⟩
              injection h with h4 h5
              subst h4; subst h5
              refine ⟨o + 1, ?_⟩
              unfold opTo numS
              rw [hS1, hrest, if_neg he]
              exact stop_up s (a + (3 + n)) (o + 1) _
        · have h3 : oneL (c :: d :: q) = .bad 1 2 := (if_neg hc).trans (if_neg hd)
          rw [h3]
          refine ⟨fun k e h => ?_, fun x k h => by cases h⟩
          injection h with h4 h5
          subst h4; subst h5
          refine ⟨o + 1, op_stopped1 (by omega) (by decide) ?_⟩
          unfold opS0
          rw [hb]
          exact must_no (by rw [on58]; exact decide_eq_false hd)
theorem op_large {s : ByteArray} {a : Nat} (ha : a ≤ s.size) (hw : isWR (s.data.toList.drop a) = true) : opTo ⟨s, a, 4096, 0⟩ = downS s a 4096 3 := by
  refine op_stopped0 ha (by decide) ?_
  cases hl : s.data.toList.drop a with
  | nil => rw [hl] at hw; cases hw
  | cons c r =>
    rw [hl] at hw
    have hw : (isW c || isR c) = true := hw
    have on119 : onS ⟨s, a, 4096, 0⟩ 119 = isW c := by rw [on_up hl]; rfl
    have on114 : onS ⟨s, a, 4096, 0⟩ 114 = isR c := by rw [on_up hl]; rfl
    unfold beginS
    rw [on119, on114, if_neg (by rw [hw]; simp)]
    exact stop_up s a 4096 3
/-- the next operation of a line, behind the blank ahead of it -/
theorem op_next {s : ByteArray} {a o : Nat} {first : Bool} (ha : a + skN first ≤ s.size) (hsp : first = true ∨ ∃ c, (s.data.toList.drop a)[0]? = some c ∧ c.toNat = 32) :
    (∀ k e, opS first o (s.data.toList.drop a) = .bad k e → e ≠ 0 ∧ ∃ o', opTo ⟨s, a + skN first, o, 0⟩ = downS s (a + k) o' e) ∧
    (∀ x k, opS first o (s.data.toList.drop a) = .ok (x, k) → opOf ⟨s, a + skN first, o, 0⟩ = x ∧ opTo ⟨s, a + skN first, o, 0⟩ = ⟨s, a + k, o + 1, 0⟩) := by
  have hd : (s.data.toList.drop a).drop (skN first) = s.data.toList.drop (a + skN first) := List.drop_drop
  have h0 : ¬ (first = false ∧ ∀ c, (s.data.toList.drop a)[0]? = some c → c.toNat ≠ 32) := by
    rintro ⟨h1, h2⟩
    rcases hsp with h | ⟨c, h3, h4⟩
    · rw [h] at h1; cases h1
    · exact h2 c h3 h4
  unfold opS
  rw [if_neg h0, hd]
  by_cases hw : o = 4096 ∧ isWR (s.data.toList.drop (a + skN first)) = true
  · rw [if_pos hw]
    refine ⟨fun k e h => ?_, fun x k h => by cases h⟩
    injection h with h1 h2
    subst h1; subst h2
    refine ⟨by decide, 4096, ?_⟩
    rw [hw.1]
    exact op_large ha hw.2
  · rw [if_neg hw]
    obtain ⟨u1, u2⟩ := op_up ha hw
    cases h : oneL (s.data.toList.drop (a + skN first)) with
    | bad k e =>
      refine ⟨fun k' e' h' => ?_, fun x k h => by cases h⟩
      injection h' with h1 h2
      subst h1; subst h2
      refine ⟨by rcases oneL_bad_ne h with h | h <;> (subst h; decide), ?_⟩
      rw [← Nat.add_assoc]
      exact u1 k e h
    | ok x =>
      obtain ⟨x, k⟩ := x
      refine ⟨fun k e h => (by cases h), fun x' k' h' => ?_⟩
      have h' : PRes.ok (x, skN first + k) = PRes.ok (x', k') := h'
      injection h' with h'
      injection h' with h1 h2
      subst h1; subst h2
      rw [← Nat.add_assoc]
      exact u2 x k h
end Go.Proofs.Ytpincmdogaaciaa
