/- Plain mathematics of layer 8: the text of a history, and that it is read as it was. Nothing of the program is named. -/
import Derived.Test.YtkccefgmiaoinaaReadMathE
import Derived.Test.YtkccefgmiaoinaaNumFacts
namespace Go.Proofs.Ytkccefgmiaoinaa
set_option linter.unusedVariables false

/-- an operation's text -/
def showO (o : OpT) : List UInt8 := (if o.1 = true then 119 else 114) :: 58 :: (o.2.1.data.toList ++ (61 :: putL o.2.2))
/-- operations, each with a blank ahead -/
def showR : List OpT → List UInt8
  | [] => []
  | o :: r => 32 :: (showO o ++ showR r)
def showS : List OpT → List UInt8
  | [] => []
  | o :: r => showO o ++ showR r
/-- a history's text -/
def showT : List (List OpT) → List UInt8
  | [] => []
  | os :: r => showS os ++ (10 :: showT r)
theorem showR_snoc (os : List OpT) (o : OpT) : showR (os ++ [o]) = showR os ++ (32 :: showO o) := by
  induction os with
  | nil => simp [showR]
  | cons p os ih => simp [showR, ih]
theorem showS_snoc {os : List OpT} (h : os ≠ []) (o : OpT) : showS (os ++ [o]) = showS os ++ (32 :: showO o) := by
  cases os with
  | nil => exact absurd rfl h
  | cons p os => show showO p ++ showR (os ++ [o]) = _; rw [showR_snoc, ← List.append_assoc]; rfl
theorem showT_append (a b : List (List OpT)) : showT (a ++ b) = showT a ++ showT b := by
  induction a with
  | nil => rfl
  | cons os a ih => simp [showT, ih]
theorem showT_snoc (a : List (List OpT)) (os : List OpT) : showT (a ++ [os]) = showT a ++ (showS os ++ [10]) := by rw [showT_append]; rfl

/-! ### read of its text -/
theorem put_stopc (n : Int) {e : UInt8} (he : isD e = false) (r : List UInt8) : spanN (putL n ++ e :: r) = (putL n).length := by
  have h0 : spanN (putL n ++ [e]) = (putL n).length := by
    by_cases h : n < 0
    · rw [putL_neg h]
      show (if (45 : UInt8).toNat = 45 then 1 + digsN (decL n.natAbs ++ [e]) else digsN (45 :: (decL n.natAbs ++ [e]))) = _
      rw [if_pos (show UInt8.toNat 45 = 45 from rfl), digsN_stop (decL_facts n.natAbs).1 he, List.length_cons, Nat.add_comm]
    · rw [putL_pos (by omega)]
      obtain ⟨c, r, hd, hD⟩ := decL_head (m := n.natAbs)
      have hs := digsN_stop (decL_facts n.natAbs).1 he
      rw [hd] at hs ⊢
      rw [isD_iff] at hD
      show (if c.toNat = 45 then _ else digsN (c :: r ++ [e])) = _
      rw [if_neg (by omega), hs]
  rw [show putL n ++ e :: r = (putL n ++ [e]) ++ r from by simp, spanN_append (by rw [h0]; simp), h0]
theorem name_len {l : List UInt8} (h : nameL l = true) : 1 ≤ l.length ∧ l.length ≤ 8 ∧ ∀ j, j < l.length → ∃ c, l[j]? = some c ∧ isAZ c = true := by
  unfold nameL at h
  rw [Bool.and_eq_true, Bool.and_eq_true] at h
  refine ⟨of_decide_eq_true h.1.2, of_decide_eq_true h.2, fun j hj => ⟨l[j], List.getElem?_eq_getElem hj, ?_⟩⟩
  exact List.all_eq_true.1 h.1.1 _ (List.getElem_mem hj)
theorem bytes_eta (s : ByteArray) : (⟨s.data.toList.toArray⟩ : ByteArray) = s := by cases s; rfl
/-- may be told: a name, a number -/
def Told (o : OpT) : Prop := nameL o.2.1.data.toList = true ∧ -9223372036854775808 ≤ o.2.2 ∧ o.2.2 < 9223372036854775808
theorem showO_len (o : OpT) : (showO o).length = 3 + o.2.1.data.toList.length + (putL o.2.2).length := by
  unfold showO; simp only [List.length_cons, List.length_append]; omega
theorem oneL_show {o : OpT} (ho : Told o) {e : UInt8} (he : isD e = false) (r : List UInt8) : oneL (showO o ++ e :: r) = .ok (o, (showO o).length) := by
  obtain ⟨hn, h0, h1⟩ := ho
  obtain ⟨l1, l8, hall⟩ := name_len hn
  obtain ⟨w, s, z⟩ := o
  simp only at hn h0 h1 l1 l8 hall
  have hw : isW (if w = true then 119 else 114) = w := by cases w <;> rfl
  have hwr : (isW (if w = true then 119 else 114) || isR (if w = true then 119 else 114)) = true := by cases w <;> rfl
  obtain ⟨Q, hQ⟩ : ∃ Q, Q = s.data.toList ++ (61 :: (putL z ++ e :: r)) := ⟨_, rfl⟩
  have e1 : showO (w, s, z) ++ e :: r = (if w = true then 119 else 114) :: 58 :: Q := by rw [hQ]; simp [showO]
  have hN : nameN Q = s.data.toList.length := nameN_is l8 (fun j hj => by
    obtain ⟨c, hc, ha⟩ := hall j hj
    exact ⟨c, by rw [hQ, List.getElem?_append_left hj]; exact hc, ha⟩) (fun _ c hc => by
    rw [hQ, List.getElem?_append_right (Nat.le_refl _), Nat.sub_self] at hc
    simp at hc
    rw [← hc]; rfl)
  have h61 : Q[s.data.toList.length]? = some 61 := by rw [hQ, List.getElem?_append_right (Nat.le_refl _), Nat.sub_self]; rfl
  have hd : Q.drop (s.data.toList.length + 1) = putL z ++ e :: r := by
    rw [hQ, show s.data.toList ++ (61 :: (putL z ++ e :: r)) = (s.data.toList ++ [61]) ++ (putL z ++ e :: r) from by simp]
    exact List.drop_left' (by simp)
  have hA : numAt (Q.drop (s.data.toList.length + 1)) = putL z := by
    unfold numAt; rw [hd, put_stopc z he, List.take_left']; rfl
  have ht : Q.take s.data.toList.length = s.data.toList := by rw [hQ]; exact List.take_left' rfl
  rw [e1, oneL_mk hwr rfl, hw, varL_ok hN (by omega) h61 (by rw [hA]; exact (put_get h0 h1).2), hA, (put_get h0 h1).1, hd, put_stopc z he, ht, bytes_eta, showO_len]
theorem isWR_show (o : OpT) (t : List UInt8) : isWR (showO o ++ t) = true := by
  obtain ⟨w, s, z⟩ := o
  cases w <;> rfl
theorem opS_show {o : OpT} (ho : Told o) {all : Nat} (ha : all < 4096) {e : UInt8} (he : isD e = false) (r : List UInt8) : opS true all (showO o ++ e :: r) = .ok (o, (showO o).length) := by
  unfold opS
  rw [if_neg (fun h => by simp at h), if_neg (by omega)]
  show (match oneL ((showO o ++ e :: r).drop 0) with | .bad k e => PRes.bad (0 + k) e | .ok (o, k) => .ok (o, 0 + k)) = _
  rw [List.drop_zero, oneL_show ho he]
  simp
theorem opS_show' {o : OpT} (ho : Told o) {all : Nat} (ha : all < 4096) {e : UInt8} (he : isD e = false) (r : List UInt8) : opS false all (32 :: (showO o ++ e :: r)) = .ok (o, 1 + (showO o).length) := by
  unfold opS
  rw [if_neg (fun h => h.2 32 rfl rfl), if_neg (by omega)]
  show (match oneL ((32 :: (showO o ++ e :: r)).drop 1) with | .bad k e => PRes.bad (1 + k) e | .ok (o, k) => .ok (o, 1 + k)) = _
  rw [List.drop_succ_cons, List.drop_zero, oneL_show ho he]
theorem showO_cons (o : OpT) (t : List UInt8) : ∃ c r, showO o ++ t = c :: r ∧ ¬ c.toNat = 10 := by
  obtain ⟨w, s, z⟩ := o
  cases w
  · exact ⟨114, _, rfl, by decide⟩
  · exact ⟨119, _, rfl, by decide⟩
theorem showR_tail (os : List OpT) (t : List UInt8) : ∃ e r, showR os ++ (10 :: t) = e :: r ∧ isD e = false := by
  cases os with
  | nil => exact ⟨10, t, rfl, by decide⟩
  | cons o os => exact ⟨32, _, rfl, by decide⟩
theorem lineT_showR : ∀ (os : List OpT) (t : List UInt8) (all : Nat), (∀ o ∈ os, Told o) → all + os.length ≤ 4096 → lineT (showR os ++ (10 :: t)) false all = .ok (os, (showR os).length + 1)
  | [], t, all, _, _ => lineT_end (r := t) (by decide) false all
  | o :: os, t, all, ho, ha => by
    obtain ⟨e, r, he, hD⟩ := showR_tail os t
    simp only [List.length_cons] at ha
    have e1 : showR (o :: os) ++ (10 :: t) = 32 :: (showO o ++ (e :: r)) := by rw [← he]; simp [showR]
    have hop := opS_show' (o := o) (ho o (by simp)) (all := all) (by omega) hD r
    have hd : (32 :: (showO o ++ (e :: r))).drop (1 + (showO o).length) = showR os ++ (10 :: t) := by
      rw [Nat.add_comm, List.drop_succ_cons, List.drop_left' rfl, he]
    rw [e1, lineT_op (by decide) hop, hd, lineT_showR os t (all + 1) (fun o' h => ho o' (by simp [h])) (by omega)]
    show PRes.ok (o :: os, _) = _
    simp [showR]; omega
theorem lineT_showS (os : List OpT) (t : List UInt8) (all : Nat) (ho : ∀ o ∈ os, Told o) (ha : all + os.length ≤ 4096) : lineT (showS os ++ (10 :: t)) true all = .ok (os, (showS os).length + 1) := by
  cases os with
  | nil => exact lineT_end (r := t) (by decide) true all
  | cons o os =>
    obtain ⟨e, r, he, hD⟩ := showR_tail os t
    simp only [List.length_cons] at ha
    have e1 : showS (o :: os) ++ (10 :: t) = showO o ++ (e :: r) := by rw [← he]; simp [showS]
    have hop := opS_show (o := o) (ho o (by simp)) (all := all) (by omega) hD r
    obtain ⟨c, q, hc, h10⟩ := showO_cons o (e :: r)
    have hd : (showO o ++ (e :: r)).drop (showO o).length = showR os ++ (10 :: t) := by rw [List.drop_left' rfl, he]
    rw [hc] at hop hd
    rw [e1, hc, lineT_op h10 hop, hd, lineT_showR os t (all + 1) (fun o' h => ho o' (by simp [h])) (by omega)]
    show PRes.ok (o :: os, _) = _
    simp [showS]; omega
theorem textT_show : ∀ (hs : List (List OpT)) (all : Nat), (∀ o ∈ allO hs, Told o) → all + (allO hs).length ≤ 4096 → textT (showT hs) all = .ok hs
  | [], all, _, _ => textT_nil all
  | os :: hs, all, ho, ha => by
    rw [allO_cons, List.length_append] at ha
    have hl := lineT_showS os (showT hs) all (fun o h => ho o (by rw [allO_cons]; simp [h])) (by omega)
    obtain ⟨c, r, hc⟩ : ∃ c r, showS os ++ (10 :: showT hs) = c :: r := by
      cases h : showS os with
      | nil => exact ⟨_, _, rfl⟩
      | cons a b => exact ⟨_, _, rfl⟩
    have hd : (showS os ++ (10 :: showT hs)).drop ((showS os).length + 1) = showT hs := by
      rw [show showS os ++ (10 :: showT hs) = (showS os ++ [10]) ++ showT hs from by simp]
      exact List.drop_left' (by simp)
    show textT (showS os ++ (10 :: showT hs)) all = _
    rw [hc] at hl hd ⊢
    rw [textT_line hl, hd, textT_show hs (all + os.length) (fun o h => ho o (by rw [allO_cons]; simp [h])) (by omega)]
    rfl
/-- a history is read of its text as it was -/
theorem textL_show {hs : List (List OpT)} (hr : rightL hs = true) (ho : OkO (allO hs)) : textL (showT hs) = .ok hs := by
  unfold rightL at hr
  rw [Bool.and_eq_true] at hr
  exact textT_show hs 0 (fun o h => ⟨List.all_eq_true.1 hr.1 o h, (ho o h).1⟩) (by rw [Nat.zero_add]; exact of_decide_eq_true hr.2)

/-! ### what is read has the text -/
theorem oneL_text {l : List UInt8} {o : OpT} {k : Nat} (h : oneL l = .ok (o, k)) : l.take k = showO o ∧ k ≤ l.length := by
  have hk := (oneL_ok h).1
  obtain ⟨c, d, q, rfl, hwr, hd, hv⟩ := oneL_shape h
  obtain ⟨h0, h61, hE, rfl, rfl⟩ := varL_shape hv
  refine ⟨?_, hk⟩
  obtain ⟨n, hn⟩ : ∃ n, n = nameN q := ⟨_, rfl⟩
  rw [← hn] at h0 h61 hE hk ⊢
  have hput : putL (getV (numAt (q.drop (n + 1)))) = numAt (q.drop (n + 1)) := by
    rcases get_back (numAt (q.drop (n + 1))) with h | h
    · exact absurd hE h.1
    · exact h.2
  have hc : c = if isW c = true then 119 else 114 := by
    unfold isW isR at *
    by_cases h119 : c.toNat = 119
    · rw [decide_eq_true h119, if_pos rfl]; exact UInt8.toNat_inj.1 h119
    · rw [decide_eq_false h119, if_neg (by decide)]
      rw [decide_eq_false h119, Bool.false_or] at hwr
      exact UInt8.toNat_inj.1 (of_decide_eq_true hwr)
  have hd58 : d = 58 := UInt8.toNat_inj.1 hd
  have hnl : n < q.length := (List.getElem?_eq_some_iff.1 h61).1
  have e1 : q.take (n + 1) = q.take n ++ [61] := by
    rw [List.take_succ_eq_append_getElem hnl, (List.getElem?_eq_some_iff.1 h61).2]
  have e2 : q.take (1 + n + spanN (q.drop (n + 1))) = q.take n ++ (61 :: numAt (q.drop (n + 1))) := by
    rw [show 1 + n + spanN (q.drop (n + 1)) = (n + 1) + spanN (q.drop (n + 1)) from by omega, List.take_add, e1]
    simp [numAt]
  show (c :: d :: q).take (3 + n + spanN (q.drop (n + 1))) = _
  rw [show 3 + n + spanN (q.drop (n + 1)) = (1 + n + spanN (q.drop (n + 1))) + 1 + 1 from by omega, List.take_succ_cons, List.take_succ_cons, e2]
  unfold showO
  simp only [hput]
  rw [← hc, hd58]
theorem opS_text {first : Bool} {all k : Nat} {o : OpT} {l : List UInt8} (h : opS first all l = .ok (o, k)) : l.take k = (if first = true then [] else [32]) ++ showO o ∧ k ≤ l.length := by
  obtain ⟨h1, _, m, hm, rfl⟩ := opS_shape h
  obtain ⟨ht, hk⟩ := oneL_text hm
  rw [List.length_drop] at hk
  have hm3 := oneL_pos hm
  cases first with
  | true =>
    simp only [skN, if_true] at ht hk ⊢
    rw [List.drop_zero] at ht
    exact ⟨by rw [Nat.zero_add]; simpa using ht, by omega⟩
  | false =>
    obtain ⟨c, hc, hc32⟩ := h1.resolve_left (by decide)
    simp only [skN, Bool.false_eq_true, if_false] at ht hk ⊢
    obtain ⟨r, hr⟩ : ∃ r, l = c :: r := by
      cases l with
      | nil => simp at hc
      | cons a r => simp at hc; subst hc; exact ⟨r, rfl⟩
    subst hr
    have : c = 32 := UInt8.toNat_inj.1 hc32
    subst this
    refine ⟨?_, by omega⟩
    rw [Nat.add_comm, List.take_succ_cons]
    rw [List.drop_succ_cons, List.drop_zero] at ht
    rw [ht]; rfl
theorem lineT_text : ∀ (n : Nat) (l : List UInt8), l.length ≤ n → ∀ (first : Bool) (all : Nat) (os : List OpT) (k : Nat), lineT l first all = .ok (os, k) → l.take k = (if first = true then showS os else showR os) ++ [10]
  | n, [], _, first, all, os, k, h => by rw [lineT_nil] at h; cases h
  | 0, c :: r, hn, _, _, _, _, _ => by simp at hn
  | n + 1, c :: r, hn, first, all, os, k, h => by
    by_cases hc : c.toNat = 10
    · rw [lineT_end hc] at h
      injection h with h; injection h with h1 h2
      subst h1; subst h2
      have : c = 10 := UInt8.toNat_inj.1 hc
      subst this
      cases first <;> rfl
    · cases ho : opS first all (c :: r) with
      | bad m e => rw [lineT_bad hc ho] at h; cases h
      | ok x =>
        obtain ⟨o, m⟩ := x
        rw [lineT_op hc ho] at h
        have hpos := opS_pos ho
        obtain ⟨ht, hm⟩ := opS_text ho
        cases hr : lineT ((c :: r).drop m) false (all + 1) with
        | bad p e => rw [hr] at h; cases h
        | ok y =>
          obtain ⟨ps, p⟩ := y
          rw [hr] at h
          injection h with h; injection h with h1 h2
          subst h1; subst h2
          have ih := lineT_text n ((c :: r).drop m) (by rw [List.length_drop]; simp at hn ⊢; omega) false (all + 1) ps p hr
          rw [List.take_add, ht, ih]
          cases first <;> simp [showS, showR]
theorem textT_text : ∀ (n : Nat) (l : List UInt8), l.length ≤ n → ∀ (all : Nat) (hs : List (List OpT)), textT l all = .ok hs → showT hs = l
  | n, [], _, all, hs, h => by rw [textT_nil] at h; injection h with h; subst h; rfl
  | 0, c :: r, hn, _, _, _ => by simp at hn
  | n + 1, c :: r, hn, all, hs, h => by
    cases hl : lineT (c :: r) true all with
    | bad k e => rw [textT_bad hl] at h; cases h
    | ok x =>
      obtain ⟨os, k⟩ := x
      have hk := lineT_len _ _ (Nat.le_refl _) _ _ _ _ hl
      have ht1 := lineT_text _ _ (Nat.le_refl _) _ _ _ _ hl
      rw [textT_line hl] at h
      cases ht : textT ((c :: r).drop k) (all + os.length) with
      | bad m e => rw [ht] at h; cases h
      | ok ls =>
        rw [ht] at h
        injection h with h
        subst h
        have ih := textT_text n ((c :: r).drop k) (by rw [List.length_drop]; simp at hn ⊢; omega) (all + os.length) ls ht
        show showS os ++ (10 :: showT ls) = _
        rw [ih]
        rw [if_pos rfl] at ht1
        rw [show showS os ++ 10 :: (c :: r).drop k = (showS os ++ [10]) ++ (c :: r).drop k from by simp, ← ht1, List.take_append_drop]
/-- a text that is read is the text of what was read -/
theorem textL_text {s : List UInt8} {hs : List (List OpT)} (h : textL s = .ok hs) : showT hs = s := textT_text _ s (Nat.le_refl _) 0 hs h
end Go.Proofs.Ytkccefgmiaoinaa
