/- Contracts of package mat: New. -/
import Derived.Test.YtkikoniihmieiaaMatSet
namespace Go.Proofs.Ytkikoniihmieiaa
open Go.RowKit
set_option linter.unusedVariables false

theorem mk_rows (kl kc : IntKind) (n c : Nat) (hnc : n ≤ c) (hc : c ≤ 1099511627776) (W : World) :
    (Instr.makeSlice 22 (.int kl (n : Int)) (.int kc (c : Int))).run Try.prog W = .ok (.slice (some ⟨W.heap.size, 0, none⟩) n c) (W.alloc (.cells (zeros c (.slice none 0 0)) 53)) := by
  obtain ⟨i, hi, hz0, hz1, hz2⟩ := info_parts info_row
  exact run_make_one _ _ i _ Try.underlying22 hi hz0 hz1 rfl kl kc n c hnc (by rw [hz2]; omega) (by omega) W
/-- rows that are laid one by one: those laid, then nils -/
def filled (vs : List Value) (n : Nat) : List Value := vs ++ List.replicate (n - vs.length) (.slice none 0 0)
theorem filled_nil (n : Nat) : filled [] n = List.replicate n (.slice none 0 0) := by simp [filled]
theorem filled_all {vs : List Value} {n : Nat} (h : vs.length = n) : filled vs n = vs := by simp [filled, h]
theorem filled_len {vs : List Value} {n : Nat} (h : vs.length ≤ n) : (filled vs n).length = n := by simp [filled]; omega
theorem filled_set {vs : List Value} {n : Nat} (h : vs.length < n) (v : Value) : (filled vs n).set vs.length v = filled (vs ++ [v]) n := by
  unfold filled
  obtain ⟨d, hd⟩ : ∃ d, n - vs.length = d + 1 := ⟨n - vs.length - 1, by omega⟩
  rw [List.set_append_right _ _ (Nat.le_refl _), hd, List.length_append, show n - (vs.length + [v].length) = d from by simp; omega]
  simp [List.replicate_succ]
theorem filled_get {vs : List Value} {n : Nat} (h : vs.length < n) : (filled vs n)[vs.length]? = some (.slice none 0 0) := by
  unfold filled
  rw [List.getElem?_append_right (Nat.le_refl _), Nat.sub_self, List.getElem?_replicate, if_pos (by omega)]

set_option maxHeartbeats 1000000 in
theorem mat_New (n : Nat) (hn : n ≤ 4096) (w : World) :
    Calls Try.prog 57 #[.int .i64 (n : Int)] w (RetMatO 53 56 (n : Int) (newM n) w) := by
  have hb := Lib.hid (belowZ_yes (i := (n : Int)) (n := 4097) (by omega) (by omega))
  have hmk := mk_rows .i64 .i64 n n (Nat.le_refl _) (by omega)
  obtain ⟨W0, hW0⟩ : ∃ W0, W0 = w.alloc (.cells #[.int .i64 0, .slice none 0 0] 24) := ⟨_, rfl⟩
  have ha : Below w.heap.size w W0 := by rw [hW0]; exact (Below.refl _ _).alloc (Nat.le_refl _) _
  have hB : MatB W0 w.heap.size 24 0 none 0 0 := by rw [hW0]; exact MatB.new w _
  have hs0 : W0.heap.size = w.heap.size + 1 := by rw [hW0]; simp
  obtain ⟨W1, hW1⟩ : ∃ W1, W1 = W0.alloc (.cells (zeros n (.slice none 0 0)) 53) := ⟨_, rfl⟩
  have ha1 : Below w.heap.size w W1 := by rw [hW1]; exact ha.alloc (by omega) _
  have hB1 : MatB W1 w.heap.size 24 0 none 0 0 := by rw [hW1]; exact hB.below_ ((Below.refl _ _).alloc (Nat.le_refl _) _)
  have hs1 : W1.heap.size = w.heap.size + 2 := by rw [hW1]; simp [hs0]
  have hown0 : W1.ownsRow (w.heap.size + 1) 53 1 (.slice (some ⟨w.heap.size + 1, 0, none⟩) n n) n (filled [] n) := by
    have h := own_zeros W0 n (.slice none 0 0) 53 (by unfold maxLen; omega)
    rw [← hW1, hs0] at h
    rw [filled_nil]; exact h
  have hrow := Lib.hid (fun W => row_NewO (n : Int) (by omega) (by omega) W)
  have hs0' := Lib.hid hs0
  have hs1' := Lib.hid hs1
  replace hB1 := Lib.hid hB1
  replace hown0 := Lib.hid hown0
  replace ha1 := Lib.hid ha1
  clear ha hB hs0 hs1
  go_enter Try.func57, Try.ntmps57
  go_wp2_with fail
  rw [← hW0]
  have hp : W0.heap.size = w.heap.size + 1 := hs0'.out
  clear hW0
  refine (mat_below _ _ _).mono ?_; rintro e w' ⟨rfl, rfl⟩
  rw [hb.out]
  go_wp2_with fail
  rw [← hW1]
  clear hW1 hmk hp
  go_loopw [14] (fun i wr => ∃ vs : List Value, vs.length ≤ n ∧ i = .int .i64 vs.length ∧ Hid (wr.ownsRow (w.heap.size + 1) 53 1 (.slice (some ⟨w.heap.size + 1, 0, none⟩) n n) n (filled vs n)) ∧ Hid (OwnRows 56 wr (w.heap.size + 2) vs (List.replicate vs.length (List.replicate (wordsZ (n : Int)).toNat 0))) ∧ Hid (MatB wr w.heap.size 24 0 none 0 0) ∧ Hid (Below w.heap.size w wr) ∧ Hid (w.heap.size + 2 ≤ wr.heap.size)) (fun i _ => n - (intOf i).toNat)
  case atStart => exact ⟨[], Nat.zero_le _, rfl, hown0, Lib.hid (OwnRows.nil _ _ _), hB1, ha1, Lib.hid (by rw [hs1'.out]; exact Nat.le_refl _)⟩
  case round =>
    obtain ⟨vs, hk, rfl, hown, hrows, hBr, hbr, hsr⟩ := hrel
    clear hown0 hB1 ha1
    obtain ⟨k, hke⟩ : ∃ k, k = vs.length := ⟨_, rfl⟩
    rw [← hke] at hk
    rw [← hke]
    by_cases hlt : k < n
    · have hke' := Lib.hid hke
      clear hke
      go_wp2_with fail
      refine (hrow.out _).mono ?_; rintro e w1 ⟨C, p, q, rfl, ho, hx64, hb1⟩
      have hown1 := own_below hown.out hb1
      have hget := filled_get (vs := vs) (n := n) (by rw [← hke'.out]; exact hlt)
      have hcg := hown1.cellAt k (by omega)
      rw [hke'.out, hget, ← hke'.out] at hcg
      have hfg := hown1.frozenAt k
      have hrows1 := Lib.hid (hrows.out.snoc hb1 ho hx64 (hsr.out))
      have hBr1 := Lib.hid (hBr.out.below_ hb1)
      have hbr1 := Lib.hid (below_trans2 hbr.out hb1)
      have hsr1 := Lib.hid (Nat.le_trans hsr.out hb1.size)
      replace hown1 := Lib.hid hown1
      clear ho hx64 hget hown hrows hBr hbr hsr hb1
      go_wp2_with fail
      go_roundw
      case rel =>
        refine ⟨vs ++ [.slice C p q], by have := hke'.out; simp; omega, by rw [List.length_append, ← hke'.out]; simp; try omega, ?_, ?_, ?_, ?_, ?_⟩
        · refine Lib.hid ?_
          rw [← filled_set (by rw [← hke'.out]; exact hlt), ← hke'.out]
          exact (hown1.out.stored k (.slice C p q)).1
        · refine Lib.hid ?_
          have h := hrows1.out.far (p := ⟨w.heap.size + 1, k, none⟩) (by simp) (.slice C p q)
          rw [List.length_append, List.length_singleton, List.replicate_succ']
          exact h
        · exact Lib.hid (hBr1.out.far (by simp) _)
        · exact Lib.hid (hbr1.out.setCell (by simp) _)
        · exact Lib.hid (by simpa using hsr1.out)
      case measure => simp [intOf]; omega
    · have hkn : k = n := by omega
      have hvn : vs.length = n := by rw [← hke, hkn]
      clear hlt
      have f20 := hBr.out.cell 0
      have f21 := hBr.out.cell 1
      have g20 := hBr.out.frozen 0
      have g21 := hBr.out.frozen 1
      simp only [List.getElem?_cons_zero, List.getElem?_cons_succ] at f20 f21
      replace hvn := Lib.hid hvn
      replace hke := Lib.hid hke
      obtain rfl := hkn
      go_wp2_with fail
      have hcc := hBr.out.two (.int .i64 k) (.slice (some ⟨w.heap.size + 1, 0, none⟩) k k)
      have hc1 := hcc.1
      have hc2 := hcc.2
      clear hcc f20 f21 g20 g21
      refine bodyPost_ret (v := .tuple #[.agg #[.int .i64 k, .slice (some ⟨w.heap.size + 1, 0, none⟩) k k], .int .i64 0]) (by simp [results, Try.results57, go_sem, hc1, hc2]) rfl ⟨_, _, _, vs, rfl, ?_, ?_, ?_, ?_⟩
      · have h := hown.out
        rw [filled_all hvn.out] at h
        exact own_base (own_far (own_far h (p := ⟨w.heap.size, 0, none⟩) (by simp [Value.ownBlock]) _) (p := ⟨w.heap.size, 1, none⟩) (by simp [Value.ownBlock]) _) (by omega)
      · have h := (hrows.out.far (p := ⟨w.heap.size, 0, none⟩) (by simp) (.int .i64 k)).far (p := ⟨w.heap.size, 1, none⟩) (by simp) (.slice (some ⟨w.heap.size + 1, 0, none⟩) k k)
        rw [hvn.out] at h
        exact h.base_ (by omega)
      · intro v hv g hg hh
        have := (hrows.out.lt v hv g hg).1
        simp [Value.ownBlock] at hh
        omega
      · exact (hbr.out.setCell (by simp) _).setCell (by simp) _

end Go.Proofs.Ytkikoniihmieiaa
