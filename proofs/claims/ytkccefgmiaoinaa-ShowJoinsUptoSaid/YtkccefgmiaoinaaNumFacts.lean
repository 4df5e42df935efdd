/- Plain mathematics of layer 5's laws: a number is read of its digits, digits that are a number's are its. Nothing of the program is named. -/
import Derived.Test.YtkccefgmiaoinaaNumMath
namespace Go.Proofs.Ytkccefgmiaoinaa

theorem toNat_dig {g : Nat} (h : g ≤ 9) : (UInt8.ofNat (48 + g)).toNat = 48 + g := by rw [UInt8.toNat_ofNat']; omega
theorem isD_iff (c : UInt8) : isD c = true ↔ 48 ≤ c.toNat ∧ c.toNat ≤ 57 := by unfold isD; simp
theorem isD_dig {g : Nat} (h : g ≤ 9) : isD (UInt8.ofNat (48 + g)) = true := by rw [isD_iff, toNat_dig h]; omega
theorem dig_isD {c : UInt8} (h : isD c = true) : UInt8.ofNat (48 + digV c) = c := by
  rw [isD_iff] at h
  apply UInt8.toNat_inj.1
  unfold digV
  rw [UInt8.toNat_ofNat']; omega
theorem digV_dig {g : Nat} (h : g ≤ 9) : digV (UInt8.ofNat (48 + g)) = g := by unfold digV; rw [toNat_dig h]; omega

theorem decL_facts (m : Nat) : (decL m).all isD = true ∧ decL m ≠ [] ∧ valN (decL m) = m ∧ noughtL (decL m) = decide (m = 0) := by
  induction m using Nat.strongRecOn with
  | ind m ih =>
    by_cases h : m < 10
    · rw [decL_small h]
      refine ⟨by rw [List.all_cons, isD_dig (by omega)]; rfl, by simp, ?_, ?_⟩
      · show 10 * 0 + digV _ = m
        rw [digV_dig (by omega)]; omega
      · show decide ((UInt8.ofNat (48 + m)).toNat = 48) = _
        rw [toNat_dig (by omega)]
        exact decide_eq_decide.2 (by omega)
    · obtain ⟨h1, h2, h3, h4⟩ := ih (m / 10) (by omega)
      rw [decL_step h]
      refine ⟨?_, by simp, ?_, ?_⟩
      · rw [List.all_append, h1, List.all_cons, isD_dig (by omega)]; rfl
      · rw [valN_snoc, h3, digV_dig (by omega)]; omega
      · cases hd : decL (m / 10) with
        | nil => exact absurd hd h2
        | cons c r =>
          rw [hd] at h4
          show decide (c.toNat = 48) = _
          rw [show decide (c.toNat = 48) = decide (m / 10 = 0) from h4]
          exact decide_eq_decide.2 (by omega)
theorem decL_head {m : Nat} : ∃ c r, decL m = c :: r ∧ isD c = true := by
  obtain ⟨h1, h2, _, _⟩ := decL_facts m
  cases hd : decL m with
  | nil => exact absurd hd h2
  | cons c r =>
    rw [hd, List.all_cons, Bool.and_eq_true] at h1
    exact ⟨c, r, rfl, h1.1⟩
theorem putL_pos {n : Int} (h : 0 ≤ n) : putL n = decL n.natAbs := by unfold putL; rw [if_neg (by omega)]; rfl
theorem putL_neg {n : Int} (h : n < 0) : putL n = 45 :: decL n.natAbs := by unfold putL; rw [if_pos h]; rfl
theorem put_sign (n : Int) : negL (putL n) = decide (n < 0) ∧ digL (putL n) = decL n.natAbs := by
  by_cases h : n < 0
  · have e : negL (putL n) = true := by rw [putL_neg h]; rfl
    refine ⟨by rw [e, decide_eq_true h], ?_⟩
    unfold digL
    rw [e, if_pos rfl, putL_neg h]; rfl
  · have e : negL (putL n) = false := by
      rw [putL_pos (by omega)]
      obtain ⟨c, r, hc, hd⟩ := decL_head (m := n.natAbs)
      rw [hc]
      rw [isD_iff] at hd
      unfold negL
      exact decide_eq_false (by omega)
    refine ⟨by rw [e, decide_eq_false h], ?_⟩
    unfold digL
    rw [e, if_neg (by decide), putL_pos (by omega)]
theorem put_ok (n : Int) : okL (putL n) = true := by
  obtain ⟨h1, h2⟩ := put_sign n
  obtain ⟨f1, f2, f3, f4⟩ := decL_facts n.natAbs
  unfold okL
  rw [h1, h2, f1, f4]
  have hne : (decL n.natAbs).isEmpty = false := by cases hd : decL n.natAbs with
    | nil => exact absurd hd f2
    | cons c r => rfl
  rw [hne]
  by_cases h0 : n.natAbs = 0
  · rw [h0, decL_small (by decide)]
    have : ¬ n < 0 := by omega
    simp [this]
  · simp [h0]
theorem put_val (n : Int) : valZ (putL n) = n := by
  obtain ⟨h1, h2⟩ := put_sign n
  obtain ⟨f1, f2, f3, f4⟩ := decL_facts n.natAbs
  by_cases h : n < 0
  · rw [valZ_neg (by rw [h1]; exact decide_eq_true h), h2, f3]; omega
  · rw [valZ_pos (by rw [h1]; exact decide_eq_false h), h2, f3]; omega
theorem put_get {n : Int} (n0 : -9223372036854775808 ≤ n) (n1 : n < 9223372036854775808) : getV (putL n) = n ∧ getE (putL n) = 0 := by
  have h := get_good (put_ok n) (by rw [put_val]; exact fits64_yes n0 (by omega))
  rw [put_val] at h
  exact h
theorem put_span (n : Int) : spanN (putL n) = (putL n).length := by
  rw [span_full, (put_sign n).2]
  exact (decL_facts _).1
theorem digsN_stop {l : List UInt8} {c : UInt8} (h : l.all isD = true) (hc : isD c = false) : digsN (l ++ [c]) = l.length := by
  unfold digsN
  induction l with
  | nil => rw [List.nil_append, List.takeWhile_cons_of_neg (by rw [hc]; simp)]
  | cons d l ih =>
    rw [List.all_cons, Bool.and_eq_true] at h
    rw [List.cons_append, List.takeWhile_cons_of_pos h.1, List.length_cons, List.length_cons, ih h.2]
theorem put_stop (n : Int) : spanN (putL n ++ [59]) = (putL n).length := by
  have hc : isD 59 = false := by decide
  by_cases h : n < 0
  · rw [putL_neg h]
    show (if (45 : UInt8).toNat = 45 then 1 + digsN (decL n.natAbs ++ [59]) else digsN (45 :: (decL n.natAbs ++ [59]))) = _
    rw [if_pos (show UInt8.toNat 45 = 45 from rfl), digsN_stop (decL_facts n.natAbs).1 hc, List.length_cons, Nat.add_comm]
  · rw [putL_pos (by omega)]
    obtain ⟨c, r, hd, hD⟩ := decL_head (m := n.natAbs)
    have hs := digsN_stop (decL_facts n.natAbs).1 hc
    rw [hd] at hs ⊢
    rw [isD_iff] at hD
    show (if c.toNat = 45 then _ else digsN (c :: r ++ [59])) = _
    rw [if_neg (by omega), hs]

/-! ### back -/
theorem val_pos {c : UInt8} {r : List UInt8} (h : isD c = true) (h0 : c.toNat ≠ 48) : 1 ≤ valN (c :: r) := by
  have h1 := valN_take_le (c :: r) 1
  have h2 : valN ((c :: r).take 1) = digV c := by show 10 * 0 + digV c = digV c; omega
  rw [h2] at h1
  rw [isD_iff] at h
  unfold digV at h1
  omega
theorem dec_val : ∀ (k : Nat) (d : List UInt8), d.length = k + 1 → d.all isD = true → (noughtL d = true → d.length ≤ 1) → decL (valN d) = d
  | 0, [c], _, h, _ => by
    rw [List.all_cons, Bool.and_eq_true] at h
    have e : valN [c] = digV c := by show 10 * 0 + digV c = digV c; omega
    have h9 := h.1
    rw [isD_iff] at h9
    rw [e, decL_small (by unfold digV; omega), dig_isD h.1]
  | k + 1, d, hl, h, hn => by
    obtain ⟨d', c, rfl⟩ : ∃ d' c, d = d' ++ [c] := ⟨d.dropLast, d.getLast (by intro e; rw [e] at hl; simp at hl), (List.dropLast_concat_getLast _).symm⟩
    rw [List.length_append, List.length_singleton] at hl
    rw [List.all_append, Bool.and_eq_true, List.all_cons, Bool.and_eq_true] at h
    cases d' with
    | nil => simp at hl
    | cons x r =>
      have hx : noughtL (x :: r) = false := by
        rw [← Bool.not_eq_true]
        intro e
        have := hn e
        rw [List.length_append, List.length_cons, List.length_singleton] at this
        omega
      have h1 := h.1
      rw [List.all_cons, Bool.and_eq_true] at h1
      have hv := val_pos (r := r) h1.1 (by unfold noughtL at hx; exact of_decide_eq_false hx)
      have hc := h.2.1
      have hcD := hc
      rw [isD_iff] at hc
      have ih := dec_val k (x :: r) (by omega) h.1 (fun e => by rw [hx] at e; cases e)
      rw [valN_snoc]
      have hg : digV c ≤ 9 := by unfold digV; omega
      rw [decL_step (by omega), show (10 * valN (x :: r) + digV c) / 10 = valN (x :: r) from by omega, show (10 * valN (x :: r) + digV c) % 10 = digV c from by omega, ih, dig_isD hcD]
theorem put_of {l : List UInt8} (h : okL l = true) : putL (valZ l) = l := by
  unfold okL at h
  rw [Bool.and_eq_true, Bool.and_eq_true] at h
  obtain ⟨⟨h1, h2⟩, h3⟩ := h
  obtain ⟨d, hd⟩ : ∃ d, d = digL l := ⟨_, rfl⟩
  rw [← hd] at h1 h2 h3
  cases d with
  | nil => simp at h1
  | cons x r =>
    cases hn : negL l with
    | false =>
      rw [hn] at h3
      rw [valZ_pos hn, ← hd, putL_pos (by omega), Int.natAbs_natCast, dec_val r.length (x :: r) rfl h2 (fun e => by
        rw [e] at h3
        simp at h3
        simp; omega)]
      rw [hd]; unfold digL; rw [hn]; rfl
    | true =>
      rw [hn] at h3
      have hx : noughtL (x :: r) = false := by
        rw [← Bool.not_eq_true]
        intro e
        rw [e] at h3
        simp at h3
      have h2' := h2
      rw [List.all_cons, Bool.and_eq_true] at h2'
      have hv := val_pos (r := r) h2'.1 (by unfold noughtL at hx; exact of_decide_eq_false hx)
      rw [valZ_neg hn, ← hd, putL_neg (by omega), Int.natAbs_neg, Int.natAbs_natCast, dec_val r.length (x :: r) rfl h2 (fun e => by rw [hx] at e; cases e)]
      cases l with
      | nil => cases hn
      | cons y t =>
        unfold negL at hn
        have hy := of_decide_eq_true hn
        have e : y = 45 := UInt8.toNat_inj.1 hy
        subst e
        have hd' : x :: r = t := hd
        rw [hd']
theorem get_back (l : List UInt8) : (getE l ≠ 0 ∧ getV l = 0) ∨ (getE l = 0 ∧ putL (getV l) = l) := by
  cases h : okL l with
  | false =>
    obtain ⟨a, b⟩ := get_bad h
    exact .inl ⟨by rw [b]; decide, a⟩
  | true =>
    cases h2 : fits64 (valZ l) with
    | false =>
      obtain ⟨a, b⟩ := get_large h h2
      exact .inl ⟨by rw [b]; decide, a⟩
    | true =>
      obtain ⟨a, b⟩ := get_good h h2
      exact .inr ⟨b, by rw [a]; exact put_of h⟩
theorem getV_fits (l : List UInt8) : -9223372036854775808 ≤ getV l ∧ getV l < 9223372036854775808 := by
  unfold getV
  split
  · rename_i h
    rw [Bool.and_eq_true] at h
    have := h.2
    unfold fits64 at this
    rw [Bool.and_eq_true, decide_eq_true_eq, decide_eq_true_eq] at this
    omega
  · omega

end Go.Proofs.Ytkccefgmiaoinaa
