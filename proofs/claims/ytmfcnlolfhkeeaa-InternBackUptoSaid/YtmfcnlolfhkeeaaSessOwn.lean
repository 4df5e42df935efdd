/- Words for memory: slices of operations of a call's own, each in a block of its own. No function of the program is named here. -/
import Derived.Test.YtmfcnlolfhkeeaaHistMemB
import Derived.Test.YtmfcnlolfhkeeaaPlanG
import Derived.OneCell
namespace Go.Proofs.Ytmfcnlolfhkeeaa
open Go.RowKit
set_option linter.unusedVariables false

theorem Blk.not_row' {w : World} {g : Nat} {t e : TypeId} {cs : List Value} {base size n : Nat} {v : Value} {xs : List Value} (h : Blk w g t cs) (hte : t ≠ e) (hr : w.ownsRow base e size v n xs) : v.ownBlock ≠ some g := by
  rcases hr.2 with ⟨rfl, _⟩ | ⟨k, cap, cur, rfl, _, hk, _⟩
  · intro h; cases h
  · intro he
    have : k = g := by simpa [Value.ownBlock] using he
    subst this
    rw [show w.heap[k]? = _ from h] at hk
    injection hk with hk
    injection hk with _ h2 _
    exact hte h2
theorem rows_apart {w : World} {b1 b2 s1 s2 n1 n2 : Nat} {e1 e2 : TypeId} {v1 v2 : Value} {xs1 xs2 : List Value} (h1 : w.ownsRow b1 e1 s1 v1 n1 xs1) (h2 : w.ownsRow b2 e2 s2 v2 n2 xs2) (hne : e1 ≠ e2) {b : Nat} (hb : v1.ownBlock = some b) : v2.ownBlock ≠ some b := by
  rcases h1.2 with ⟨rfl, _⟩ | ⟨g, cap, cur, rfl, _, hg, _⟩
  · cases hb
  · have : g = b := by simpa [Value.ownBlock] using hb
    subst this
    rcases h2.2 with ⟨rfl, _⟩ | ⟨k, cap2, cur2, rfl, _, hk, _⟩
    · intro h; cases h
    · intro he
      have : k = g := by simpa [Value.ownBlock] using he
      subst this
      rw [hg] at hk
      injection hk with hk
      injection hk with _ h2 _
      exact hne h2
/-- the i-th cell of an own row of one-cell elements is put -/
theorem own_put {w : World} {base g n c : Nat} {e : TypeId} {vs : List Value} (h : w.ownsRow base e 1 (.slice (some ⟨g, 0, none⟩) n c) n vs) {i : Nat} (hi : i < n) (u : Value) :
    (w.setCell ⟨g, i, none⟩ u).ownsRow base e 1 (.slice (some ⟨g, 0, none⟩) n c) n (vs.set i u) := by
  refine ⟨by rw [List.length_set]; exact h.1, ?_⟩
  rcases h.2 with ⟨h1, _⟩ | ⟨k, cap, cur, hv, hb, hk, hnc, hcm, hcs, ht⟩
  · cases h1
  · injection hv with h1 h2 h3
    injection h1 with h1
    injection h1 with h1
    subst h1; subst h3
    refine .inr ⟨g, c, cur.set! i u, rfl, hb, ?_, hnc, hcm, by simpa using hcs, ?_⟩
    · simp [World.setCell, Array.getElem?_modify, hk]
    · rw [Array.set!_eq_setIfInBounds, Array.toList_setIfInBounds, ← ht, List.take_set]
/-- sessions of a call's own -/
structure OwnS (T : TypeId) (w : World) (base : Nat) (vs : List Value) (hs : List (List OpT)) : Prop where
  len : vs.length = hs.length
  row : ∀ (i : Nat) (v : Value) (os : List OpT), vs[i]? = some v → hs[i]? = some os → OkO os ∧ w.ownsRow base T 3 v os.length (cellsO os)
  dis : ∀ (i j : Nat) (v u : Value) (b : Nat), vs[i]? = some v → vs[j]? = some u → v.ownBlock = some b → u.ownBlock = some b → i = j
section
variable {T e : TypeId} {w w' : World} {base b2 : Nat} {vs : List Value} {hs : List (List OpT)}
theorem OwnS.nil (T : TypeId) (w : World) (base : Nat) : OwnS T w base [] [] := ⟨rfl, fun i v os h => by simp at h, fun i j v u b h => by simp at h⟩
theorem OwnS.below (h : OwnS T w base vs hs) (hb : Below w.heap.size w w') : OwnS T w' base vs hs :=
  ⟨h.len, fun i v os h1 h2 => ⟨(h.row i v os h1 h2).1, own_below (h.row i v os h1 h2).2 hb⟩, h.dis⟩
theorem OwnS.grown {n : Nat} {v : Value} {xs : List Value} (h : OwnS T w base vs hs) (h2 : w.ownsRow b2 e 1 v n xs) (hne : T ≠ e) (hg : w.grownBy w' v.ownBlock) : OwnS T w' base vs hs :=
  ⟨h.len, fun i v os h1 h3 => ⟨(h.row i v os h1 h3).1, own_grown (h.row i v os h1 h3).2 h2 hne hg⟩, h.dis⟩
theorem OwnS.snoc (h : OwnS T w base vs hs) : OwnS T w base (vs ++ [.slice none 0 0]) (hs ++ [[]]) := by
  refine ⟨by simp [h.len], fun i v os h1 h2 => ?_, fun i j v u b h1 h2 hv hu => ?_⟩
  · by_cases hi : i < vs.length
    · rw [List.getElem?_append_left hi] at h1
      rw [List.getElem?_append_left (by rw [← h.len]; exact hi)] at h2
      exact h.row i v os h1 h2
    · rw [List.getElem?_append_right (by omega)] at h1
      rw [List.getElem?_append_right (by rw [← h.len]; omega)] at h2
      have e1 := List.mem_of_getElem? h1
      have e2 := List.mem_of_getElem? h2
      simp at e1 e2
      subst e1; subst e2
      exact ⟨fun o ho => by simp at ho, World.ownsRow_nil _ _ _ _⟩
  · have hin : ∀ (k : Nat) (x : Value), (vs ++ [Value.slice none 0 0])[k]? = some x → x.ownBlock = some b → vs[k]? = some x := by
      intro k x hk hx
      by_cases hkl : k < vs.length
      · rwa [List.getElem?_append_left hkl] at hk
      · rw [List.getElem?_append_right (by omega)] at hk
        have e1 := List.mem_of_getElem? hk
        simp at e1
        subst e1; cases hx
    exact h.dis i j v u b (hin i v h1 hv) (hin j u h2 hu) hv hu
/-- one session has grown -/
theorem OwnS.put {i : Nat} {v v' : Value} {os os' : List OpT} (h : OwnS T w base vs hs) (hv : vs[i]? = some v) (ho : hs[i]? = some os) (hg : w.grownBy w' v.ownBlock) (hr : w'.ownsRow base T 3 v' os'.length (cellsO os')) (hok : OkO os')
    (hb : v'.ownBlock = v.ownBlock ∨ v'.ownBlock = some w.heap.size) : OwnS T w' base (vs.set i v') (hs.set i os') := by
  have hil : i < vs.length := (List.getElem?_eq_some_iff.1 hv).1
  have hfresh : ∀ (k : Nat) (x : Value) (b : Nat), vs[k]? = some x → x.ownBlock = some b → b < w.heap.size := by
    intro k x b hk hx
    have hkl : k < hs.length := by rw [← h.len]; exact (List.getElem?_eq_some_iff.1 hk).1
    exact ((h.row k x hs[k] hk (List.getElem?_eq_getElem hkl)).2.lt b hx).2
  refine ⟨by simp [h.len], fun k x ps h1 h2 => ?_, fun k j x u b h1 h2 hx hu => ?_⟩
  · by_cases hk : i = k
    · subst hk
      rw [List.getElem?_set_self hil] at h1
      rw [List.getElem?_set_self (by rw [← h.len]; exact hil)] at h2
      injection h1 with h1; injection h2 with h2
      subst h1; subst h2
      exact ⟨hok, hr⟩
    · rw [List.getElem?_set_ne hk] at h1 h2
      obtain ⟨h3, h4⟩ := h.row k x ps h1 h2
      refine ⟨h3, h4.kept hg ?_⟩
      cases hxb : x.ownBlock with
      | none => exact .inl rfl
      | some b => exact .inr (fun e => hk (h.dis i k v x b hv h1 (by rw [← e]) hxb))
  · have key : ∀ (k : Nat) (x : Value), k ≠ i → (vs.set i v')[k]? = some x → vs[k]? = some x := fun k x hk h => by rwa [List.getElem?_set_ne (fun e => hk e.symm)] at h
    have self : ∀ (x : Value), (vs.set i v')[i]? = some x → x = v' := fun x h => by rw [List.getElem?_set_self hil] at h; injection h with h; exact h.symm
    by_cases hk : k = i
    · by_cases hj : j = i
      · rw [hk, hj]
      · subst hk
        have e1 := self x h1
        subst e1
        have h2' := key j u hj h2
        rcases hb with hb | hb
        · exact (h.dis k j v u b hv h2' (by rw [← hb]; exact hx) hu)
        · have := hfresh j u b h2' hu
          rw [hb] at hx; injection hx with hx
          omega
    · have h1' := key k x hk h1
      by_cases hj : j = i
      · subst hj
        have e1 := self u h2
        subst e1
        rcases hb with hb | hb
        · exact (h.dis k j x v b h1' hv hx (by rw [← hb]; exact hu))
        · have := hfresh k x b h1' hx
          rw [hb] at hu; injection hu with hu
          omega
      · exact h.dis k j x u b h1' (key j u hj h2) hx hu
/-- a store into the row of the sessions themselves -/
theorem OwnS.far {g n c : Nat} {us : List Value} (h : OwnS T w base vs hs) (ho : w.ownsRow b2 e 1 (.slice (some ⟨g, 0, none⟩) n c) n us) (hne : T ≠ e) (i : Nat) (u : Value) : OwnS T (w.setCell ⟨g, i, none⟩ u) base vs hs :=
  ⟨h.len, fun k v os h1 h2 => ⟨(h.row k v os h1 h2).1, ownsRow_setCell_other (a := ⟨g, i, none⟩) (h.row k v os h1 h2).2 (rows_apart ho (h.row k v os h1 h2).2 (fun e => hne e.symm) rfl) u⟩, h.dis⟩
theorem OwnS.hist {n : Nat} {v : Value} (h : OwnS T w base vs hs) (hv : w.ownsRow b2 e 1 v n vs) (hn : vs.length = n) : ∃ A c, v = .slice A n c ∧ n ≤ c ∧ c ≤ 9223372036854775807 ∧ HistAt w A n hs := by
  obtain ⟨A, c, e, hr⟩ := Rd.of_own hv
  subst e
  refine ⟨A, c, rfl, OwnsRow.cap_le hv, OwnsRow.cap_max hv, vs, hr, h.len, fun i u os h1 h2 => ?_⟩
  obtain ⟨ho, hu⟩ := h.row i u os h1 h2
  obtain ⟨A', c', e', hO⟩ := OpsAt.of_own hu ho rfl
  subst e'
  have := OwnsRow.cap_max hu
  have := OwnsRow.cap_le hu
  exact ⟨A', _, c', rfl, OwnsRow.cap_le hu, by unfold maxLen at *; omega, hO⟩
end
end Go.Proofs.Ytmfcnlolfhkeeaa
