/- Words for memory: operations appended to a call's own slice of them; mathematics of histories: numbers and spots. No function of the program is named here. -/
import Derived.Test.YtcdfpodhiogpiaaHistMem
namespace Go.Proofs.Ytcdfpodhiogpiaa
open Go.RowKit
set_option linter.unusedVariables false

theorem cellsO_one (os : List OpT) : ∀ u ∈ cellsO os, u.oneCell' = true := by
  intro u hu
  unfold cellsO at hu
  obtain ⟨o, _, h⟩ := List.mem_flatMap.1 hu
  simp only [List.mem_cons, List.not_mem_nil, or_false] at h
  rcases h with rfl | rfl | rfl <;> rfl
section
variable {P : Program} {w : World}
/-- 'append(s, xs...)' of operations: s the call's own, xs whatever reads as operations -/
theorem wpList_append_ops {ops : Array Oper} {rest : List Oper} {o : Oper} {a : Act} {Q : Exit → Act → World → Prop} (hgd : o.guard = none) (s x : Operand) (t : TypeId)
    (ho : o.op = .call { callee := .builtin .append, args := #[s, x], argTypes := #[t, t] })
    (base : Nat) (e : TypeId) (i : TypeInfo) (z : Value) (ht : P.underlying t = some (.slice e)) (hi : P.info? e = some i) (hz : i.zero = some z)
    (hsize : i.size = 3) (hby : i.bytes = 32) (hzs : z.cells.size = 3)
    (v : Value) (n : Nat) (os : List OpT) (hs : a.eval s = v) (hown : w.ownsRow base e 3 v n (cellsO os))
    (A : Option Addr) (m c : Nat) (news : List OpT) (hx : a.eval x = .slice A m c) (hr : OpsAt w A m news)
    (hb : n + m ≤ 4398046511104) (hbase : base ≤ w.heap.size)
    (h : ∀ v' w', w'.ownsRow base e 3 v' (n + m) (cellsO (os ++ news)) → Below base w w' → wpList P ops Q rest (a.put o.dst v') w') :
    wpList P ops Q (o :: rest) a w := by
  rcases A with _ | ad
  · have hm : m = 0 := by
      rcases Nat.eq_zero_or_pos m with h0 | h0
      · exact h0
      · obtain ⟨_, _, hh, _⟩ := hr.2.2 h0
        cases hh
    subst hm
    have hn : news = [] := List.eq_nil_of_length_eq_zero hr.1
    subst hn
    refine wpList_plain hgd fun K hK => ?_
    have hrun := run_append_nothing (P := P) (w := w) base t o.type e i 3 ht hi v n (cellsO os) hown c
    unfold Oper.wp
    simp [execOp, ho, resolve, invoke, builtin, hs, hx, hrun, Result.andThen]
    exact hK _ _ (h v w (by simpa using hown) (Below.refl _ _))
  · have hcells : ∀ j u, (cellsO news)[j]? = some u → w.cell? (ad.add j) = some u := by
      intro j u hu
      have hj : 0 < m := by
        rcases Nat.eq_zero_or_pos m with h0 | h0
        · subst h0; rw [List.eq_nil_of_length_eq_zero hr.1] at hu; simp [cellsO] at hu
        · exact h0
      obtain ⟨b, off, hh, _, hc⟩ := hr.2.2 hj
      injection hh with hh
      subst hh
      have he : (⟨b, off, none⟩ : Addr).add j = ⟨b, off + j, none⟩ := by unfold Addr.add; split <;> simp_all
      rw [he]; exact hc j u hu
    refine wpList_append_own_at w hgd s x t ho base e i z 3 32 ht hi hz hsize hby hzs (by omega) v n (cellsO os) hs hown ad m c (cellsO news) hx (by rw [cellsO_len, hr.1]) hcells (cellsO_one news) (by unfold maxLen; omega) (by omega) hbase ?_
    intro v' w' hown' hg _ hat
    rw [← cellsO_append] at hown'
    exact h v' w' hown' ((Below.refl _ _).grown hg hbase (own_lt_block hown))
theorem wpList_wanted {ops : Array Oper} {rest : List Oper} {o : Oper} {a : Act} {Q : Exit → Act → World → Prop} (hw : Region.wanted o (yielded ops a.tmps) = true)
    (h : ∀ K : Act → World → Prop, (∀ a w, wpList P ops Q rest a w → K a w) → o.wp P a w K Q) : wpList P ops Q (o :: rest) a w :=
  wpList_step fun K hK => by rw [if_pos hw]; exact h K hK
/-- the same, behind a guard that holds -/
theorem wpList_append_ops_g {ops : Array Oper} {rest : List Oper} {o : Oper} {a : Act} {Q : Exit → Act → World → Prop} (hw : Region.wanted o (yielded ops a.tmps) = true) (s x : Operand) (t : TypeId)
    (ho : o.op = .call { callee := .builtin .append, args := #[s, x], argTypes := #[t, t] })
    (base : Nat) (e : TypeId) (i : TypeInfo) (z : Value) (ht : P.underlying t = some (.slice e)) (hi : P.info? e = some i) (hz : i.zero = some z)
    (hsize : i.size = 3) (hby : i.bytes = 32) (hzs : z.cells.size = 3)
    (v : Value) (n : Nat) (os : List OpT) (hs : a.eval s = v) (hown : w.ownsRow base e 3 v n (cellsO os))
    (A : Option Addr) (m c : Nat) (news : List OpT) (hx : a.eval x = .slice A m c) (hr : OpsAt w A m news)
    (hb : n + m ≤ 4398046511104) (hbase : base ≤ w.heap.size)
    (h : ∀ v' w', w'.ownsRow base e 3 v' (n + m) (cellsO (os ++ news)) → Below base w w' → wpList P ops Q rest (a.put o.dst v') w') :
    wpList P ops Q (o :: rest) a w := by
  rcases A with _ | ad
  · have hm : m = 0 := by
      rcases Nat.eq_zero_or_pos m with h0 | h0
      · exact h0
      · obtain ⟨_, _, hh, _⟩ := hr.2.2 h0
        cases hh
    subst hm
    have hn : news = [] := List.eq_nil_of_length_eq_zero hr.1
    subst hn
    refine wpList_wanted hw fun K hK => ?_
    have hrun := run_append_nothing (P := P) (w := w) base t o.type e i 3 ht hi v n (cellsO os) hown c
    unfold Oper.wp
    simp [execOp, ho, resolve, invoke, builtin, hs, hx, hrun, Result.andThen]
    exact hK _ _ (h v w (by simpa using hown) (Below.refl _ _))
  · have hcells : ∀ j u, (cellsO news)[j]? = some u → w.cell? (ad.add j) = some u := by
      intro j u hu
      have hj : 0 < m := by
        rcases Nat.eq_zero_or_pos m with h0 | h0
        · subst h0; rw [List.eq_nil_of_length_eq_zero hr.1] at hu; simp [cellsO] at hu
        · exact h0
      obtain ⟨b, off, hh, _, hc⟩ := hr.2.2 hj
      injection hh with hh
      subst hh
      have he : (⟨b, off, none⟩ : Addr).add j = ⟨b, off + j, none⟩ := by unfold Addr.add; split <;> simp_all
      rw [he]; exact hc j u hu
    obtain ⟨v', w', hrun, h2, h3, _, _⟩ := run_append_own_at (P := P) w base t o.type e i z 3 32 ht hi hz hsize hby hzs (by omega) v n (cellsO os) hown ad m c (cellsO news) (by rw [cellsO_len, hr.1]) hcells (cellsO_one news) (by unfold maxLen; omega) (by omega) hbase
    refine wpList_wanted hw fun K hK => ?_
    unfold Oper.wp execOp
    simp only [ho, resolve, invoke, builtin, Sem.run_bind, Sem.run_pure, Result.andThen_ok, List.map_toArray, List.map_cons, List.map_nil, hs, hx, hrun]
    rw [← cellsO_append] at h2
    exact hK _ _ (h v' w' h2 ((Below.refl _ _).grown h3 hbase (own_lt_block hown)))
end
theorem OwnsRow.cap_le {w : World} {base n m c : Nat} {e : TypeId} {size : Nat} {A : Option Addr} {xs : List Value} (h : w.ownsRow base e size (.slice A m c) n xs) : m ≤ c := by
  rcases h.2 with ⟨hv, h0⟩ | ⟨g, cap, cur, hv, _, _, hnc, _⟩
  · injection hv with _ h1 h2; omega
  · injection hv with _ h1 h2; omega
theorem OwnsRow.cap_max {w : World} {base n m c : Nat} {e : TypeId} {size : Nat} {A : Option Addr} {xs : List Value} (h : w.ownsRow base e size (.slice A m c) n xs) : c ≤ maxLen := by
  rcases h.2 with ⟨hv, h0⟩ | ⟨g, cap, cur, hv, _, _, _, hcm, _⟩
  · injection hv with _ h1 h2; rw [h2]; exact Nat.zero_le _
  · injection hv with _ h1 h2; rw [h2]; exact hcm
/-- a call's answer: operations of its own -/
def RetOps (t : TypeId) (os : List OpT) (w : World) (e : Ending) (w' : World) : Prop := ∃ A n c, e = .returned (.slice A n c) ∧ w'.ownsRow w.heap.size t 3 (.slice A n c) n (cellsO os) ∧ n = os.length ∧ OkO os ∧ OpsAt w' A n os ∧ n ≤ c ∧ Below w.heap.size w w'

/-! ### numbers and spots -/
/-- all operations, in order -/
def allO (hs : List (List OpT)) : List OpT := hs.flatten
theorem allO_cons (x : List OpT) (r : List (List OpT)) : allO (x :: r) = x ++ allO r := rfl
theorem allO_append (a b : List (List OpT)) : allO (a ++ b) = allO a ++ allO b := List.flatten_append
theorem allO_take_succ {hs : List (List OpT)} {k : Nat} {os : List OpT} (h : hs[k]? = some os) : allO (hs.take (k + 1)) = allO (hs.take k) ++ os := flat_take_succ h
theorem allO_take_le (hs : List (List OpT)) (k : Nat) : (allO (hs.take k)).length ≤ (allO hs).length := flat_take_le hs k
def spotN : List (List OpT) → Nat → Option (Nat × Nat)
  | [], _ => none
  | s :: r, i => if i < s.length then some (0, i) else (spotN r (i - s.length)).map fun x => (x.1 + 1, x.2)
def spotZ (hs : List (List OpT)) (i : Int) : Option (Nat × Nat) := if i < 0 then none else spotN hs i.toNat
def numZ (hs : List (List OpT)) (a b : Int) : Option Nat :=
  if 0 ≤ a ∧ a < hs.length ∧ 0 ≤ b ∧ b < (hs.getD a.toNat []).length then some ((allO (hs.take a.toNat)).length + b.toNat) else none
theorem spotN_some : ∀ (hs : List (List OpT)) (i s p : Nat), spotN hs i = some (s, p) → s < hs.length ∧ p < (hs.getD s []).length ∧ (allO (hs.take s)).length + p = i ∧ (allO hs)[i]? = (hs.getD s [])[p]?
  | [], i, s, p, h => by simp [spotN] at h
  | x :: r, i, s, p, h => by
    unfold spotN at h
    by_cases hi : i < x.length
    · rw [if_pos hi] at h
      injection h with h
      injection h with h1 h2
      subst h1; subst h2
      refine ⟨by simp, by simpa using hi, by simp [allO], ?_⟩
      rw [allO_cons, List.getElem?_append_left hi]; rfl
    · rw [if_neg hi] at h
      cases hr : spotN r (i - x.length) with
      | none => rw [hr] at h; simp at h
      | some y =>
        obtain ⟨s', p'⟩ := y
        rw [hr] at h
        simp at h
        obtain ⟨rfl, rfl⟩ := h
        obtain ⟨h1, h2, h3, h4⟩ := spotN_some r _ s' p' hr
        refine ⟨by simpa using h1, by simpa using h2, ?_, ?_⟩
        · rw [List.take_succ_cons, allO_cons, List.length_append]; omega
        · rw [allO_cons, List.getElem?_append_right (by omega), h4]; rfl
theorem spotN_none : ∀ (hs : List (List OpT)) (i : Nat), (allO hs).length ≤ i → spotN hs i = none
  | [], i, _ => rfl
  | x :: r, i, h => by
    have h' : x.length + (allO r).length ≤ i := by rw [← List.length_append, ← allO_cons]; exact h
    unfold spotN
    rw [if_neg (by omega), spotN_none r _ (by omega)]; rfl
theorem spotN_is : ∀ (hs : List (List OpT)) (i : Nat), i < (allO hs).length → ∃ s p, spotN hs i = some (s, p)
  | [], i, h => by simp [allO] at h
  | x :: r, i, h => by
    have h' : i < x.length + (allO r).length := by rw [← List.length_append, ← allO_cons]; exact h
    unfold spotN
    by_cases hi : i < x.length
    · rw [if_pos hi]; exact ⟨_, _, rfl⟩
    · rw [if_neg hi]
      obtain ⟨s, p, e⟩ := spotN_is r (i - x.length) (by omega)
      rw [e]; exact ⟨_, _, rfl⟩
/-- the search, from the k-th session on -/
theorem spotN_drop {hs : List (List OpT)} {k i : Nat} {os : List OpT} (h : hs[k]? = some os) :
    spotN (hs.drop k) i = if i < os.length then some (0, i) else (spotN (hs.drop (k + 1)) (i - os.length)).map fun x => (x.1 + 1, x.2) := by
  rw [List.drop_eq_getElem_cons (List.getElem?_eq_some_iff.1 h).1, (List.getElem?_eq_some_iff.1 h).2]
  conv => lhs; unfold spotN
/-- a name of a variable -/
def nameL (l : List UInt8) : Bool := l.all (fun c => decide (97 ≤ c.toNat) && decide (c.toNat ≤ 122)) && decide (1 ≤ l.length) && decide (l.length ≤ 8)
def rightL (hs : List (List OpT)) : Bool := (allO hs).all (fun o => nameL o.2.1.data.toList) && decide ((allO hs).length ≤ 4096)
def smallL (hs : List (List OpT)) (most : Int) : Bool := decide ((hs.length : Int) ≤ most) && decide (((allO hs).length : Int) ≤ most) && (allO hs).all (fun o => decide (o.2.1.size ≤ 20))
theorem smallL_says {hs : List (List OpT)} {most : Int} (h : smallL hs most = true) : (hs.length : Int) ≤ most ∧ ((allO hs).length : Int) ≤ most ∧ ∀ o ∈ allO hs, o.2.1.size ≤ 20 := by
  unfold smallL at h
  simp only [Bool.and_eq_true, decide_eq_true_eq, List.all_eq_true] at h
  exact ⟨h.1.1, h.1.2, h.2⟩

/-! ### histories of literals -/
theorem OpsAt.of_blk {w : World} {g : Nat} {t : TypeId} {os : List OpT} {n : Nat} (h : Blk w g t (cellsO os)) (ho : OkO os) (hn : os.length = n) : OpsAt w (some ⟨g, 0, none⟩) n os :=
  ⟨hn, ho, fun _ => ⟨g, 0, rfl, h.lt, fun j u hu => by rw [Nat.zero_add, h.cell]; exact hu⟩⟩
theorem HistAt.of_blk {w : World} {g : Nat} {t : TypeId} {vs : List Value} {hs : List (List OpT)} {n : Nat} (h : Blk w g t vs) (hn : vs.length = n) (hl : vs.length = hs.length) (hv : ∀ (i : Nat) (v : Value) (os : List OpT), vs[i]? = some v → hs[i]? = some os → SessV w v os) :
    HistAt w (some ⟨g, 0, none⟩) n hs :=
  ⟨vs, ⟨hn, fun _ => ⟨g, 0, rfl, h.lt, fun j u hu => by rw [Nat.zero_add, h.cell]; exact hu⟩⟩, hl, hv⟩
theorem HistAt.one {w : World} {g : Nat} {t : TypeId} {A : Option Addr} {n c : Nat} {os : List OpT} (h : Blk w g t [.slice A n c]) (hO : OpsAt w A n os) (hc : n ≤ c) (hn : n ≤ 9223372036854775807) : HistAt w (some ⟨g, 0, none⟩) 1 [os] :=
  HistAt.of_blk h rfl rfl (fun i v o hv ho => by
    match i with
    | 0 =>
      simp at hv ho
      subst hv; subst ho
      exact ⟨A, n, c, rfl, hc, hn, hO⟩
    | i + 1 => simp at hv)
theorem HistAt.two {w : World} {g : Nat} {t : TypeId} {A B : Option Addr} {n c m d : Nat} {os ps : List OpT} (h : Blk w g t [.slice A n c, .slice B m d]) (hO : OpsAt w A n os) (hP : OpsAt w B m ps) (hc : n ≤ c) (hn : n ≤ 9223372036854775807) (hd : m ≤ d) (hm : m ≤ 9223372036854775807) : HistAt w (some ⟨g, 0, none⟩) 2 [os, ps] :=
  HistAt.of_blk h rfl rfl (fun i v o hv ho => by
    match i with
    | 0 =>
      simp at hv ho
      subst hv; subst ho
      exact ⟨A, n, c, rfl, hc, hn, hO⟩
    | 1 =>
      simp at hv ho
      subst hv; subst ho
      exact ⟨B, m, d, rfl, hd, hm, hP⟩
    | i + 2 => simp at hv)
/-- a call's answer: operations, whoever's -/
def RetOpsW (os : List OpT) (w : World) (e : Ending) (w' : World) : Prop := ∃ A n c, e = .returned (.slice A n c) ∧ n = os.length ∧ OpsAt w' A n os ∧ n ≤ c ∧ Below w.heap.size w w'
def RetInt (z : Int) (w : World) (e : Ending) (w' : World) : Prop := e = .returned (.int .i64 z) ∧ Below w.heap.size w w'
def RetBool (b : Bool) (w : World) (e : Ending) (w' : World) : Prop := e = .returned (.bool b) ∧ Below w.heap.size w w'

end Go.Proofs.Ytcdfpodhiogpiaa
