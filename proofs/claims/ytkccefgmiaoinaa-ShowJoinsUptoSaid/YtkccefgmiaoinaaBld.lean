/- A strings.Builder that is the one field of a variable of the code's own type (show.text, 'struct{ strings.Builder }'): copyCheck, WriteString, String. -/
import Derived.Test.YtkccefgmiaoinaaProg
import Derived.Test.YtkccefgmiaoinaaMem
import Derived.Lib.Builder
import Derived.Lib.AppendStr
import Derived.Lib.UnsafeStr
import Derived.Lib.MakeNoZero
import Derived.Lib.FrozenHead
import Derived.Lib.Walk
import Derived.Laws.Externs
import Derived.BigCall
namespace Go.Proofs.Ytkccefgmiaoinaa
open Go.RowKit
set_option linter.unusedVariables false

/-- the variable at block b holds the bytes l; all from w0 on is the call's own, and what lay there is as it was -/
structure BdS (w0 w : World) (b : Nat) (l : List UInt8) : Prop where
  is : Lib.IsBuilder 45 5 w0.heap.size b (Lib.byteCells l) w
  bel : Below w0.heap.size w0 w
/-- what a writer does: the bytes are l, and all other blocks but rows of bytes are as they were -/
structure Wr (w0 : World) (b : Nat) (l : List UInt8) (w w' : World) : Prop where
  bd : BdS w0 w' b l
  size : w.heap.size ≤ w'.heap.size
  kept : ∀ k cs T fr, w.heap[k]? = some (.cells cs T fr) → T ≠ 5 → k ≠ b → w'.heap[k]? = w.heap[k]?
theorem Wr.trans {w0 w w1 w2 : World} {b : Nat} {l l' : List UInt8} (h : Wr w0 b l w w1) (k : Wr w0 b l' w1 w2) : Wr w0 b l' w w2 :=
  ⟨k.bd, Nat.le_trans h.size k.size, fun j cs T fr hj hT hb => by
    have h1 := h.kept j cs T fr hj hT hb
    exact (k.kept j cs T fr (h1.trans hj) hT hb).trans h1⟩
theorem Wr.blk {w0 w w' : World} {b k : Nat} {l : List UInt8} {t : TypeId} {cs : List Value} (h : Wr w0 b l w w') (hk : Blk w k t cs) (hT : t ≠ 5) (hb : k ≠ b) : Blk w' k t cs := (h.kept k _ _ _ hk hT hb).trans hk
theorem BdS.here {w0 w : World} {b : Nat} {l : List UInt8} (h : BdS w0 w b l) : Wr w0 b l w w := ⟨h, Nat.le_refl _, fun _ _ _ _ _ _ _ => rfl⟩
theorem BdS.lt {w0 w : World} {b : Nat} {l : List UInt8} (h : BdS w0 w b l) : b < w.heap.size := by rcases h.is with h | h <;> exact h.lt
/-- a new block beside it -/
theorem BdS.later {w0 w w' : World} {b : Nat} {l : List UInt8} (h : BdS w0 w b l) (hb : Below w.heap.size w w') : BdS w0 w' b l := by
  refine ⟨?_, h.bel.trans (hb.mono h.bel.size)⟩
  rcases h.is with ⟨h1, v, h2, h3, h4⟩ | ⟨h1, v, h2, h3, h4⟩
  · exact .inl ⟨h1, v, (hb.block b (Array.getElem?_eq_some_iff.1 h2).1).trans h2, own_below h3 hb, h4⟩
  · exact .inr ⟨h1, v, (hb.block b (Array.getElem?_eq_some_iff.1 h2).1).trans h2, own_below h3 hb, h4⟩
theorem BdS.new (w : World) : BdS w (w.alloc (.cells #[.pointer none, .slice none 0 0] 45)) w.heap.size [] :=
  ⟨Lib.fresh_isBuilder _ _ w, (Below.refl _ w).alloc (Nat.le_refl _) _⟩
theorem Wr.after {w0 w w1 w' : World} {b : Nat} {l : List UInt8} (hb : Below w.heap.size w w1) (h : Wr w0 b l w1 w') : Wr w0 b l w w' :=
  ⟨h.bd, Nat.le_trans hb.size h.size, fun k cs T fr hk hT hne => by
    have h1 := hb.block k (Array.getElem?_eq_some_iff.1 hk).1
    exact (h.kept k cs T fr (h1.trans hk) hT hne).trans h1⟩

set_option maxRecDepth 100000 in
set_option maxHeartbeats 1000000 in
theorem bd_check_used (b : Nat) (w : World) (h0 : w.cell? ⟨b, 0, none⟩ = some (.pointer (some ⟨b, 0, none⟩))) :
    Calls Try.prog 32 #[.pointer (some ⟨b, 0, none⟩)] w fun e w' => e = .returned (.tuple #[]) ∧ w' = w := by
  obtain ⟨j, hj, _⟩ := Option.map_eq_some_iff.1 (show (Try.prog.info? 43).map (·.size) = some 2 by kernel_rfl)
  go_enter Try.func32, Try.ntmps32
  go_wp2
  rw [Lib.run_neq_ptr_same (te := 43) w _ (by kernel_rfl) hj]
  go_wp2
  go_end0
  exact ⟨rfl, rfl⟩
set_option maxRecDepth 100000 in
set_option maxHeartbeats 1000000 in
theorem bd_check_fresh (b : Nat) (w : World) (h0 : w.cell? ⟨b, 0, none⟩ = some (.pointer none)) (hsh : w.shape? b = some (45, 2)) (hfz : w.frozen? ⟨b, 0, none⟩ = false) :
    Calls Try.prog 32 #[.pointer (some ⟨b, 0, none⟩)] w fun e w' => e = .returned (.tuple #[]) ∧ w' = w.setCell ⟨b, 0, none⟩ (.pointer (some ⟨b, 0, none⟩)) := by
  obtain ⟨j, hj, hjs⟩ := Option.map_eq_some_iff.1 (show (Try.prog.info? 43).map (·.size) = some 2 by kernel_rfl)
  have hlies : liesAt Try.prog Try.prog.depth 45 (2 / Try.prog.cellsOf 45) 0 43 1 = true := by kernel_rfl
  go_enter Try.func32, Try.ntmps32
  go_wp2
  rw [Lib.run_to_unsafe (t := 43) w ⟨b, 0, none⟩ (by kernel_rfl) (by kernel_rfl) hj (by rw [hjs]; decide) hsh (Nat.zero_lt_succ 1)]
  simp only [Result.andThen]
  rw [Oper.upon_value]
  go_wp2
  rw [run_callFunc_extern Try.func33 (by kernel_rfl) (by kernel_rfl) (by kernel_rfl) (e := Extern.AbiNoEscape.same) (by kernel_rfl)]
  rw [Lib.run_noEscape]
  simp only [Result.andThen]
  rw [Oper.upon_value]
  go_wp2
  rw [Lib.run_from_unsafe (u := 43) w ⟨b, 0, none⟩ (by kernel_rfl) (by kernel_rfl) hj hsh hlies]
  simp only [Result.andThen]
  rw [Oper.upon_value]
  go_wp2
  go_end0
  exact ⟨rfl, rfl⟩
theorem bd_check (w0 : World) (b : Nat) (l : List UInt8) (w : World) (h : BdS w0 w b l) :
    Calls Try.prog 32 #[.pointer (some ⟨b, 0, none⟩)] w fun e w' => e = .returned (.tuple #[]) ∧ Lib.BuilderAt 45 5 w0.heap.size b (.pointer (some ⟨b, 0, none⟩)) (Lib.byteCells l) w' ∧ Wr w0 b l w w' := by
  rcases h.is with k | k
  · refine (bd_check_fresh b w k.cell0 k.shape k.frozen0).mono ?_
    rintro e w' ⟨rfl, rfl⟩
    refine ⟨rfl, k.used _, ⟨⟨.inr (k.used _), h.bel.setCell (p := ⟨b, 0, none⟩) k.1 _⟩, by simp [World.setCell], fun j cs T fr _ _ hne => Below.heap_setCell _ _ _ _ (by simpa using hne)⟩⟩
  · refine (bd_check_used b w k.cell0).mono ?_
    rintro e w' ⟨rfl, rfl⟩
    exact ⟨rfl, k, h.here⟩

set_option maxRecDepth 100000 in
set_option maxHeartbeats 2000000 in
theorem bd_write (w0 : World) (b : Nat) (l : List UInt8) (s : ByteArray) (w : World) (h : BdS w0 w b l) (hlen : l.length + s.size ≤ 140737488355328) :
    Calls Try.prog 31 #[.pointer (some ⟨b, 0, none⟩), .string s] w fun e w' => e = .returned (.tuple #[.int .i64 s.size, .nilIface]) ∧ Wr w0 b (l ++ s.data.toList) w w' := by
  obtain ⟨i0, hi, hz0, hz1, hz2⟩ := info_parts (show (Try.prog.info? 5).map (fun i => (i.zero, i.size, i.bytes)) = some (some (.int .u8 0), 1, 1) by kernel_rfl)
  have cC := Lib.hid (bd_check w0 b l w h)
  have hw0 : w0.heap.size ≤ w.heap.size := h.bel.size
  go_enter Try.func31, Try.ntmps31
  go_wp2_with fail
  refine cC.out.mono ?_
  rintro e w1 ⟨rfl, ⟨hB, v, hbk, hown, hne⟩, h1⟩
  have hown1 := hown
  rw [Lib.byteCells_length] at hown
  have c0 : w1.cell? ⟨b, 0, none⟩ = some (.pointer (some ⟨b, 0, none⟩)) := by rw [Lib.cell_of_heap hbk]; rfl
  have c1 : w1.cell? ⟨b, 1, none⟩ = some v := by rw [Lib.cell_of_heap hbk]; rfl
  have hsz1 := h1.size
  go_wp2_with (at_builtin; refine Lib.wpList_append_own_string _ rfl _ _ 41 9 rfl w0.heap.size 5 i0 (by kernel_rfl) (by kernel_rfl) hi hz0 hz1 hz2 _ _ _ rfl hown s rfl ?c3 ?c4 ?c5 ?_)
  case c3 => unfold maxLen; omega
  case c4 => omega
  case c5 => omega
  intro v' w2 hown' hgrow _
  have hlt : b < w1.heap.size := (Array.getElem?_eq_some_iff.1 hbk).1
  have hb2 : w2.heap[b]? = some (.cells #[.pointer (some ⟨b, 0, none⟩), v] 45 (0, 0)) := by
    rw [hgrow.block b hlt (fun e => hne e.symm)]
    exact hbk
  have d0 : w2.cell? ⟨b, 0, none⟩ = some (.pointer (some ⟨b, 0, none⟩)) := by rw [Lib.cell_of_heap hb2]; rfl
  have d1 : w2.cell? ⟨b, 1, none⟩ = some v := by rw [Lib.cell_of_heap hb2]; rfl
  have f1 : w2.frozen? ⟨b, 1, none⟩ = false := Lib.frozen_of_heap hb2 1
  obtain ⟨ao, n', cap, rfl⟩ : ∃ ao n' cap, v' = .slice ao n' cap := by
    rcases hown'.2 with ⟨hv, _⟩ | ⟨g, cap, cur, hv, _⟩
    · exact ⟨_, _, _, hv⟩
    · exact ⟨_, _, _, hv⟩
  have hcs : Lib.byteCells l ++ Lib.strCells s = Lib.byteCells (l ++ s.data.toList) := by rw [Lib.strCells_eq, Lib.byteCells_append]
  have hfin := Lib.hid (show BdS w0 (w2.setCell ⟨b, 1, none⟩ (.slice ao n' cap)) b (l ++ s.data.toList) from by
    refine ⟨.inr ?_, ?_⟩
    · refine Lib.BuilderAt.put (T := 45) (e := 5) hB hb2 ?_ (by decide)
      rw [← hcs]
      simpa [Lib.strCells_length, Lib.byteCells_length] using hown'
    · exact (h1.bd.bel.grown hgrow (by omega) (fun k hk => (hown.lt k hk).1)).setCell (p := ⟨b, 1, none⟩) hB _)
  have hkp := Lib.hid (show Wr w0 b (l ++ s.data.toList) w (w2.setCell ⟨b, 1, none⟩ (.slice ao n' cap)) from by
    refine ⟨hfin.out, Nat.le_trans hsz1 (by simpa [World.setCell] using hgrow.size), fun k cs T fr hk hT hkb => ?_⟩
    have e1 := h1.kept k cs T fr hk hT hkb
    rw [Below.heap_setCell _ _ _ _ (by simpa using hkb)]
    rw [hgrow.block k (Array.getElem?_eq_some_iff.1 (e1.trans hk)).1 (fun e => ?_)]
    · exact e1
    · rcases hown1.2 with ⟨rfl, _⟩ | ⟨g, cap, cur, rfl, hbg, hg, _⟩
      · cases e
      · have : g = k := by simpa [Value.ownBlock] using e.symm
        subst this
        rw [e1, hk] at hg
        cases hg; exact hT rfl)
  clear hcs hfin hown hown1 hown' hgrow hbk hb2 h1
  go_wp2
  go_ret2
  exact ⟨rfl, hkp.out⟩

set_option maxHeartbeats 2000000 in
set_option maxRecDepth 100000 in
theorem bd_string (w0 : World) (b : Nat) (l : List UInt8) (w : World) (h : BdS w0 w b l) :
    Calls Try.prog 19 #[.pointer (some ⟨b, 0, none⟩)] w fun e w' => e = .returned (.string ⟨l.toArray⟩) ∧ Below w0.heap.size w0 w' := by
  have hbel := h.bel
  obtain ⟨p, hB, v, hbk, hown, hne⟩ : ∃ p, Lib.BuilderAt 45 5 w0.heap.size b p (Lib.byteCells l) w := by
    rcases h.is with h | h
    · exact ⟨_, h⟩
    · exact ⟨_, h⟩
  rw [Lib.byteCells_length] at hown
  have hlt : b < w.heap.size := (Array.getElem?_eq_some_iff.1 hbk).1
  have c1 : w.drew.cell? ⟨b, 1, none⟩ = some v := by
    have : w.drew.heap[b]? = some (.cells #[p, v] 45 (0, 0)) := hbk
    rw [Lib.cell_of_heap this]; rfl
  rcases hown.2 with ⟨rfl, hl0⟩ | ⟨g, cap, cur, rfl, hbg, hg, hnc, hcm, hcs, htake⟩
  · have hl : l = [] := List.eq_nil_of_length_eq_zero hl0
    subst hl
    have hUS := Lib.run_unsafeString_none (P := Try.prog) w.drew 58 3 9 none
    have hSD : (Builtin.unsafeSliceData_ #[41] 58 #[.slice none 0 0]).run Try.prog w.drew = .ok (.pointer none) w.drew := rfl
    clear hown hne h hl0
    go_enter Try.func19, Try.ntmps19
    go_wp2
    go_region
    all_goals (go_wp2; go_ret; exact ⟨rfl, hbel.drew⟩)
  · have hg' : w.drew.heap[g]? = some (.cells cur 5 (0, 0)) := hg
    by_cases hl0 : l = []
    · subst hl0
      by_cases hc0 : cap = 0
      · subst hc0
        have hUS := fun W : World => Lib.run_unsafeString_none (P := Try.prog) W 58 3 9 (some ⟨w.heap.size, 0, none⟩)
        have hSD : (Builtin.unsafeSliceData_ #[41] 58 #[.slice (some ⟨g, 0, none⟩) 0 0]).run Try.prog w.drew = .ok (.pointer (some ⟨w.drew.heap.size, 0, none⟩)) (w.drew.alloc (.view ⟨g, 0, none⟩ 5)) :=
          Lib.run_unsafeSliceData_zero w.drew _ _ 5 (by kernel_rfl) ⟨g, 0, none⟩ 0 (5, cur.size) (by simp [World.shape?, hg'])
        have c2 : (w.drew.alloc (.view ⟨g, 0, none⟩ 5)).cell? ⟨b, 1, none⟩ = some (.slice (some ⟨g, 0, none⟩) 0 0) := by
          have : (w.drew.alloc (.view ⟨g, 0, none⟩ 5)).heap[b]? = _ := (Lib.alloc_old w.drew _ b hlt).trans hbk
          rw [Lib.cell_of_heap this]; rfl
        have c3 : (w.alloc (.view ⟨g, 0, none⟩ 5)).drew.cell? ⟨b, 1, none⟩ = some (.slice (some ⟨g, 0, none⟩) 0 0) := c2
        have c0 : w.cell? ⟨b, 1, none⟩ = some (.slice (some ⟨g, 0, none⟩) 0 0) := c1
        have hsz := h.bel.size
        clear hown hne h htake hcs hg hg'
        go_enter Try.func19, Try.ntmps19
        go_wp2
        go_region
        all_goals (go_wp2; go_ret; exact ⟨rfl, (hbel.drew).alloc (by simpa using hsz) _⟩)
      · have hUS := fun W : World => Lib.run_unsafeString_none (P := Try.prog) W 58 3 9 (some ⟨g, 0, none⟩)
        have hSD : (Builtin.unsafeSliceData_ #[41] 58 #[.slice (some ⟨g, 0, none⟩) 0 cap]).run Try.prog w.drew = .ok (.pointer (some ⟨g, 0, none⟩)) w.drew :=
          Lib.run_unsafeSliceData_row _ _ _ _ _ _ hc0
        clear hown hne h htake hcs hg hg' hc0
        go_enter Try.func19, Try.ntmps19
        go_wp2
        go_region
        all_goals (go_wp2; go_ret; exact ⟨rfl, hbel.drew⟩)
    · have hl1 : l.length ≠ 0 := by simpa using hl0
      have hSD : (Builtin.unsafeSliceData_ #[41] 58 #[.slice (some ⟨g, 0, none⟩) l.length cap]).run Try.prog w.drew = .ok (.pointer (some ⟨g, 0, none⟩)) w.drew :=
        Lib.run_unsafeSliceData_row _ _ _ _ _ _ (by omega)
      have hUS : (Builtin.unsafeString_ #[58, 3] 9 #[.pointer (some ⟨g, 0, none⟩), .int .i64 l.length]).run Try.prog w.drew = .ok (.string ⟨l.toArray⟩) (w.drew.freeze ⟨g, 0, none⟩ l.length) := by
        refine Lib.run_unsafeString_row w.drew 58 3 9 5 (by kernel_rfl) (by kernel_rfl) g cur.size (by simp [World.shape?, hg']) l hl0 (by omega) (by unfold maxLen at hcm; omega) ?_
        intro j x hx
        exact hown.cells (g := g) rfl j (.int .u8 x.toNat) (by simp [Lib.byteCells, hx])
      clear hown hne h htake hcs hg hg' hcm
      go_enter Try.func19, Try.ntmps19
      go_wp2
      go_region
      all_goals (go_wp2; go_ret; exact ⟨rfl, Lib.below_freeze hbel.drew (p := ⟨g, 0, none⟩) hbg _⟩)

end Go.Proofs.Ytkccefgmiaoinaa
