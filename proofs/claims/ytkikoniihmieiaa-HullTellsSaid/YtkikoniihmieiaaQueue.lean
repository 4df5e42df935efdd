/- A queue of numbers of a call's own: 'q = q[1:]', 'q = append(q, x)'. No function of the program is named here. And the search over a matrix's pairs, as plain mathematics. -/
import Derived.Test.YtkikoniihmieiaaHullMath
import Derived.Test.YtkikoniihmieiaaBlkMem
import Derived.ArgAppend
namespace Go.Proofs.Ytkikoniihmieiaa
open Go.RowKit
set_option linter.unusedVariables false

/-- a slice somewhere in a block of the call's own, that reads as the numbers zs -/
def QN (w : World) (base : Nat) (t : TypeId) (v : Value) (zs : List Nat) : Prop :=
  ∃ g off cap cs, v = .slice (some ⟨g, off, none⟩) zs.length cap ∧ base ≤ g ∧ w.heap[g]? = some (.cells cs t (0, 0)) ∧ zs.length ≤ cap ∧ cap ≤ maxLen ∧ off + cap ≤ cs.size ∧ ∀ (j z : Nat), zs[j]? = some z → cs[off + j]? = some (.int .i64 (z : Int))
def qlen : Value → Nat
  | .slice _ n _ => n
  | _ => 0
section
variable {w w' : World} {base : Nat} {t : TypeId} {v : Value} {zs : List Nat}
theorem cell_cells {w : World} {g : Nat} {cs : Array Value} {t : TypeId} {fr : Nat × Nat} (h : w.heap[g]? = some (.cells cs t fr)) (i : Nat) : w.cell? ⟨g, i, none⟩ = cs[i]? := cell_of_row w g i cs t fr h
theorem frozen_cells {w : World} {g : Nat} {cs : Array Value} {t : TypeId} (h : w.heap[g]? = some (.cells cs t (0, 0))) (i : Nat) : w.frozen? ⟨g, i, none⟩ = false := by simp [World.frozen?, h]
theorem QN.qlen_ (h : QN w base t v zs) : qlen v = zs.length := by obtain ⟨g, off, cap, cs, rfl, _⟩ := h; rfl
theorem QN.of_own {n : Nat} (h : w.ownsRow base t 1 v n (zs.map natv)) (h0 : 0 < n) : QN w base t v zs := by
  have hl : zs.length = n := by have := h.1; simpa using this
  rcases h.2 with ⟨h1, h2⟩ | ⟨g, cap, cur, rfl, hbg, hg, hnc, hcm, hcs, htake⟩
  · omega
  · refine ⟨g, 0, cap, cur, by rw [hl], hbg, hg, by omega, hcm, by omega, fun j z hj => ?_⟩
    have hjl := (List.getElem?_eq_some_iff.1 hj).1
    have : (zs.map natv)[j]? = some (natv z) := by rw [List.getElem?_map, hj]; rfl
    rw [← htake, List.getElem?_take_of_lt (by omega)] at this
    rw [Nat.zero_add]
    simpa [natv] using this
theorem QN.lt (h : QN w base t v zs) : ∀ g, v.ownBlock = some g → base ≤ g ∧ g < w.heap.size := by
  obtain ⟨g, off, cap, cs, rfl, hb, hg, _⟩ := h
  intro k hk
  have : g = k := by simpa [Value.ownBlock] using hk
  subst this
  exact ⟨hb, (Array.getElem?_eq_some_iff.1 hg).1⟩
theorem QN.below (h : QN w base t v zs) (hb : Below w.heap.size w w') : QN w' base t v zs := by
  obtain ⟨g, off, cap, cs, hv, h1, hg, r⟩ := h
  exact ⟨g, off, cap, cs, hv, h1, (hb.block g (Array.getElem?_eq_some_iff.1 hg).1).trans hg, r⟩
theorem QN.far (h : QN w base t v zs) {p : Addr} (hp : v.ownBlock ≠ some p.block) (u : Value) : QN (w.setCell p u) base t v zs := by
  obtain ⟨g, off, cap, cs, rfl, h1, hg, r⟩ := h
  refine ⟨g, off, cap, cs, rfl, h1, ?_, r⟩
  rw [Below.heap_setCell w p u g (fun e => hp (by rw [← e]; rfl))]; exact hg
/-- 'q[0]', 'q[1:]' -/
theorem QN.pop {z : Nat} (h : QN w base t v (z :: zs)) : ∃ g off cap, v = .slice (some ⟨g, off, none⟩) (zs.length + 1) cap ∧ w.cell? ⟨g, off, none⟩ = some (.int .i64 (z : Int)) ∧ zs.length + 1 ≤ cap ∧
    (cap = 1 → QN w base t (.slice (some ⟨g, off, none⟩) zs.length 0) zs) ∧ (cap ≠ 1 → QN w base t (.slice (some ⟨g, off + 1, none⟩) zs.length (cap - 1)) zs) := by
  obtain ⟨g, off, cap, cs, hv, h1, hg, hl, hm, hs, hc⟩ := h
  have hl' : zs.length + 1 ≤ cap := by simpa using hl
  refine ⟨g, off, cap, by rw [hv]; simp, ?_, hl', fun hc1 => ?_, fun hc1 => ?_⟩
  · rw [cell_cells hg]
    have := hc 0 z rfl
    simpa using this
  · have : zs = [] := List.eq_nil_of_length_eq_zero (by omega)
    subst this
    exact ⟨g, off, 0, cs, rfl, h1, hg, Nat.le_refl _, by omega, by omega, fun j z h => by simp at h⟩
  · refine ⟨g, off + 1, cap - 1, cs, rfl, h1, hg, by omega, by omega, by omega, fun j z' hj => ?_⟩
    have := hc (j + 1) z' (by simpa using hj)
    rw [show off + 1 + j = off + (j + 1) by omega]; exact this
theorem QN.nil (h : QN w base t v []) : ∃ g off cap, v = .slice (some ⟨g, off, none⟩) 0 cap := by
  obtain ⟨g, off, cap, cs, hv, _⟩ := h
  exact ⟨g, off, cap, by simpa using hv⟩
end
section
variable {P : Program}
/-- 'q = append(q, x)' -/
theorem run_append_q (w : World) (base : Nat) (t ty e : TypeId) (i : TypeInfo) (z : Value) (ht : P.underlying t = some (.slice e)) (hi : P.info? e = some i) (hz : i.zero = some z) (hsize : i.size = 1) (hby : i.bytes = 8) (hzs : z.cells.size = 1)
    {v : Value} {zs : List Nat} (hq : QN w base e v zs) (ad : Addr) (c x : Nat) (hx : w.cell? ad = some (.int .i64 (x : Int))) (hn : zs.length ≤ 1073741824) (hbase : base ≤ w.heap.size) :
    ∃ v' w', (Builtin.append_ #[t, t] ty #[v, .slice (some ad) 1 c]).run P w = .ok v' w' ∧ QN w' base e v' (zs ++ [x]) ∧ w.grownBy w' v.ownBlock := by
  obtain ⟨g, off, cap, cs, rfl, hb, hg, hl, hm, hs, hc⟩ := hq
  have hnews : ∀ j u, [Value.int .i64 (x : Int)][j]? = some u → w.cell? (ad.add j) = some u := fun j u hj => by
    match j, hj with
    | 0, hj =>
      have ha : ad.add 0 = ad := by obtain ⟨b, o, s⟩ := ad; unfold Addr.add; split <;> simp_all
      rw [ha, hx]
      simpa using hj
    | j + 1, hj => simp at hj
  by_cases hr : zs.length + 1 ≤ cap
  · have hcell : (w.cell? ⟨g, off + zs.length, none⟩).isSome = true := by
      rw [cell_cells hg, Array.getElem?_eq_getElem (by omega)]; rfl
    have hrun := run_append_room_cells (P := P) w t ty e i ht hi g off zs.length cap ad 1 c [.int .i64 (x : Int)] (by rw [hsize]; rfl) hnews (by simp [Value.oneCell']) hr
      (fun j hj => by
        have : j = 0 := by simpa using hj
        subst this
        rw [hsize]; simpa using hcell)
      (fun j hj => frozen_cells hg _)
    rw [hsize, Nat.mul_one] at hrun
    have hset : w.setCells g (off + zs.length) [.int .i64 (x : Int)] = w.setCell ⟨g, off + zs.length, none⟩ (.int .i64 (x : Int)) := rfl
    rw [hset] at hrun
    refine ⟨_, _, hrun, ⟨g, off, cap, cs.set! (off + zs.length) (.int .i64 (x : Int)), by simp, hb, ?_, by simpa using hr, hm, by simpa using hs, fun j z' hj => ?_⟩, ?_⟩
    · simp [World.setCell, Array.getElem?_modify, hg]
    · simp only [Array.set!_eq_setIfInBounds, Array.getElem?_setIfInBounds]
      rcases Nat.lt_or_ge j zs.length with hj' | hj'
      · rw [List.getElem?_append_left hj'] at hj
        rw [if_neg (by omega)]
        exact hc j z' hj
      · rw [List.getElem?_append_right hj'] at hj
        have hj0 : j - zs.length = 0 := by
          have := (List.getElem?_eq_some_iff.1 hj).1
          simpa using this
        rw [hj0] at hj
        simp at hj
        rw [if_pos (by omega), if_pos (by omega), hj]
    · exact ⟨rfl, rfl, rfl, by simp, fun k hk hne => Below.heap_setCell w _ _ k (by
        intro e'
        apply hne
        have e2 : k = g := e'
        rw [e2]; rfl)⟩
  · obtain ⟨v', w', hrun, hown, hgrow⟩ := run_append_arg_grows (P := P) w t ty e i z 1 8 ht hi hz hsize hby hzs (by omega) ⟨g, off, none⟩ zs.length cap (zs.map natv) (by simp)
      (fun j u hj => by
        rw [List.getElem?_map] at hj
        cases hh : zs[j]? with
        | none => rw [hh] at hj; cases hj
        | some y =>
          rw [hh] at hj
          have ha : (⟨g, off, none⟩ : Addr).add j = ⟨g, off + j, none⟩ := by unfold Addr.add; split <;> simp_all
          rw [ha, cell_cells hg, hc j y hh]
          simpa [natv] using hj)
      ad 1 c [.int .i64 (x : Int)] rfl hnews (by omega) (by unfold maxLen; omega) (by omega)
    refine ⟨v', w', hrun, ?_, ⟨hgrow.os, hgrow.tape, hgrow.output, hgrow.size, fun k hk _ => hgrow.block k hk (by simp)⟩⟩
    have h2 : w'.ownsRow base e 1 v' (zs.length + 1) ((zs ++ [x]).map natv) := by
      rw [List.map_append]
      exact own_base hown hbase
    exact QN.of_own h2 (by omega)
theorem wpList_append_q (w : World) {ops : Array Oper} {rest : List Oper} {o : Oper} {a : Act} {Q : Exit → Act → World → Prop} (hgd : o.guard = none) (s x : Operand) (t : TypeId)
    (ho : o.op = .call { callee := .builtin .append, args := #[s, x], argTypes := #[t, t] })
    (base : Nat) (e : TypeId) (i : TypeInfo) (z : Value) (ht : P.underlying t = some (.slice e)) (hi : P.info? e = some i) (hz : i.zero = some z) (hsize : i.size = 1) (hby : i.bytes = 8) (hzs : z.cells.size = 1)
    {v : Value} {zs : List Nat} (hs : a.eval s = v) (hq : QN w base e v zs) (ad : Addr) (c y : Nat) (hx : a.eval x = .slice (some ad) 1 c) (hy : w.cell? ad = some (.int .i64 (y : Int))) (hn : zs.length ≤ 1073741824) (hbase : base ≤ w.heap.size)
    (hK : ∀ v' w', QN w' base e v' (zs ++ [y]) → w.grownBy w' v.ownBlock → wpList P ops Q rest (a.put o.dst v') w') : wpList P ops Q (o :: rest) a w := by
  refine wpList_plain hgd fun K hK' => ?_
  obtain ⟨v', w', hrun, h1, h2⟩ := run_append_q (P := P) w base t o.type e i z ht hi hz hsize hby hzs hq ad c y hy hn hbase
  unfold Oper.wp
  simp [execOp, ho, resolve, invoke, builtin, hs, hx, hrun, Result.andThen]
  exact hK' _ _ (hK v' w' h1 h2)
end

/-! ### how many are not seen yet -/
def zeroOf : Bool → Nat
  | true => 0
  | false => 1
def unseen (bs : List Bool) : Nat := (bs.map zeroOf).sum
theorem unseen_set {bs : List Bool} {j : Nat} (h : bs[j]? = some false) : unseen (bs.set j true) + 1 = unseen bs := by
  unfold unseen
  rw [List.map_set]
  have := sum_set (bs.map zeroOf) j (zeroOf true) (zeroOf false) (by rw [List.getElem?_map, h]; rfl)
  simpa [zeroOf] using this
theorem unseen_all (n : Nat) : unseen (List.replicate n false) = n := by
  unfold unseen
  induction n with
  | zero => rfl
  | succ n ih => rw [List.replicate_succ, List.map_cons, List.sum_cons, ih]; simp [zeroOf]; omega
def zeroV : Value → Nat
  | .bool false => 1
  | _ => 0
/-- .. as memory has it -/
def unseenW (w : World) (g : Nat) : Nat := match w.heap[g]? with
  | some (.cells cs _ _) => (cs.toList.map zeroV).sum
  | _ => 0
theorem unseenW_blk {w : World} {g : Nat} {t : TypeId} {bs : List Bool} (h : Blk w g t (bs.map .bool)) : unseenW w g = unseen bs := by
  unfold Blk at h
  unfold unseenW unseen
  rw [h]
  simp only [List.map_map]
  congr 1
  apply List.map_congr_left
  intro b _
  cases b <;> rfl

/-! ### the search -/
structure ReachI (n : Nat) (a : List (List Nat)) (i : Nat) (E : Nat → Nat → Prop) (bs : List Bool) (zs : List Nat) : Prop where
  len : bs.length = n
  seen : ∀ x : Nat, bs[x]? = some true → Conn (Rel a) i x
  todo : ∀ z ∈ zs, z < n ∧ (z = i ∨ Conn (Rel a) i z)
  done : ∀ x y : Nat, (x = i ∨ bs[x]? = some true) → Rel a x y → bs[y]? = some true ∨ x ∈ zs ∨ E x y
section
variable {n : Nat} {a : List (List Nat)} {i : Nat} {bs : List Bool} {zs : List Nat}
theorem ReachI.start (hi : i < n) : ReachI n a i (fun _ _ => False) (List.replicate n false) [i] :=
  ⟨by simp, fun x h => by rw [List.getElem?_replicate] at h; split at h <;> simp at h, fun z hz => by rw [List.mem_singleton.1 hz]; exact ⟨hi, .inl rfl⟩, fun x y h _ => by
    rcases h with rfl | h
    · exact .inr (.inl (List.mem_singleton.2 rfl))
    · rw [List.getElem?_replicate] at h; split at h <;> simp at h⟩
theorem ReachI.pop {z : Nat} (h : ReachI n a i (fun _ _ => False) bs (z :: zs)) : ReachI n a i (fun x y => x = z ∧ 0 ≤ y) bs zs :=
  ⟨h.len, h.seen, fun y hy => h.todo y (List.mem_cons_of_mem _ hy), fun x y h1 h2 => by
    rcases h.done x y h1 h2 with h3 | h3 | h3
    · exact .inl h3
    · rcases List.mem_cons.1 h3 with rfl | h4
      · exact .inr (.inr ⟨rfl, Nat.zero_le _⟩)
      · exact .inr (.inl h4)
    · exact h3.elim⟩
theorem ReachI.skip {z j : Nat} (h : ReachI n a i (fun x y => x = z ∧ j ≤ y) bs zs) (hj : ¬ Rel a z j ∨ bs[j]? = some true) : ReachI n a i (fun x y => x = z ∧ j + 1 ≤ y) bs zs :=
  ⟨h.len, h.seen, h.todo, fun x y h1 h2 => by
    rcases h.done x y h1 h2 with h3 | h3 | ⟨rfl, h4⟩
    · exact .inl h3
    · exact .inr (.inl h3)
    · rcases Nat.lt_or_ge j y with h5 | h5
      · exact .inr (.inr ⟨rfl, h5⟩)
      · obtain rfl : j = y := by omega
        rcases hj with hj | hj
        · exact absurd h2 hj
        · exact .inl hj⟩
theorem ReachI.push {z j : Nat} (h : ReachI n a i (fun x y => x = z ∧ j ≤ y) bs zs) (hz : z = i ∨ Conn (Rel a) i z) (hj : Rel a z j) (hjn : j < n) : ReachI n a i (fun x y => x = z ∧ j + 1 ≤ y) (bs.set j true) (zs ++ [j]) := by
  have hc : Conn (Rel a) i j := by
    rcases hz with rfl | hz
    · exact .one hj
    · exact .step hz hj
  have hjs : (bs.set j true)[j]? = some true := by rw [List.getElem?_set, if_pos rfl, if_pos (by rw [h.len]; exact hjn)]
  have old : ∀ x : Nat, (bs.set j true)[x]? = some true → x = j ∨ bs[x]? = some true := fun x hx => by
    rw [List.getElem?_set] at hx
    by_cases e : j = x
    · exact .inl e.symm
    · rw [if_neg e] at hx; exact .inr hx
  have new : ∀ x : Nat, bs[x]? = some true → (bs.set j true)[x]? = some true := fun x hx => by
    by_cases e : j = x
    · subst e; exact hjs
    · rw [List.getElem?_set, if_neg e]; exact hx
  refine ⟨by rw [List.length_set]; exact h.len, fun x hx => ?_, fun y hy => ?_, fun x y h1 h2 => ?_⟩
  · rcases old x hx with rfl | hx
    · exact hc
    · exact h.seen x hx
  · rcases List.mem_append.1 hy with hy | hy
    · exact h.todo y hy
    · rw [List.mem_singleton.1 hy]; exact ⟨hjn, .inr hc⟩
  · have h1' : x = j ∨ (x = i ∨ bs[x]? = some true) := by
      rcases h1 with h1 | h1
      · exact .inr (.inl h1)
      · rcases old x h1 with h3 | h3
        · exact .inl h3
        · exact .inr (.inr h3)
    rcases h1' with rfl | h1'
    · exact .inr (.inl (List.mem_append.2 (.inr (List.mem_singleton.2 rfl))))
    · rcases h.done x y h1' h2 with h3 | h3 | ⟨rfl, h4⟩
      · exact .inl (new y h3)
      · exact .inr (.inl (List.mem_append.2 (.inl h3)))
      · rcases Nat.lt_or_ge j y with h5 | h5
        · exact .inr (.inr ⟨rfl, h5⟩)
        · obtain rfl : j = y := by omega
          exact .inl hjs
theorem ReachI.next {z : Nat} (hG : Good n a) (h : ReachI n a i (fun x y => x = z ∧ n ≤ y) bs zs) : ReachI n a i (fun _ _ => False) bs zs :=
  ⟨h.len, h.seen, h.todo, fun x y h1 h2 => by
    rcases h.done x y h1 h2 with h3 | h3 | ⟨rfl, h4⟩
    · exact .inl h3
    · exact .inr (.inl h3)
    · exact absurd (hG.has_lt h2).2 (by omega)⟩
theorem ReachI.all (h : ReachI n a i (fun _ _ => False) bs []) (x : Nat) : bs[x]? = some true ↔ Conn (Rel a) i x := by
  refine ⟨h.seen x, fun hc => ?_⟩
  induction hc with
  | one h1 =>
    rcases h.done i _ (.inl rfl) h1 with h2 | h2 | h2
    · exact h2
    · cases h2
    · exact h2.elim
  | step _ h1 ih =>
    rcases h.done _ _ (.inr ih) h1 with h2 | h2 | h2
    · exact h2
    · cases h2
    · exact h2.elim
end

end Go.Proofs.Ytkikoniihmieiaa
