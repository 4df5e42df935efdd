/- Layer 8's laws: what they share: the fixed example. -/
import Derived.Test.YtkccefgmiaoinaaShow
namespace Go.Proofs.Ytkccefgmiaoinaa
open Go.RowKit
set_option linter.unusedVariables false

theorem shown_yes {hs : List (List OpT)} (h : rightL hs = true) : shownS hs = bytesL (showT hs) ∧ shownE hs = 0 := by unfold shownS shownE; rw [h]; exact ⟨rfl, rfl⟩
theorem shown_no {hs : List (List OpT)} (h : rightL hs = false) : shownS hs = ⟨#[]⟩ ∧ shownE hs = 1 := by unfold shownS shownE; rw [h]; exact ⟨rfl, rfl⟩
def ex8A : List OpT := [(true, ⟨#[120]⟩, 1), (false, ⟨#[121]⟩, 0)]
def ex8B : List OpT := [(false, ⟨#[]⟩, 0)]
theorem ok8A : OkO ex8A := fun o h => by
  unfold ex8A at h
  simp only [List.mem_cons, List.not_mem_nil, or_false] at h
  rcases h with rfl | rfl <;> exact ⟨by decide, by decide⟩
theorem ok8B : OkO ex8B := fun o h => by
  unfold ex8B at h
  simp only [List.mem_cons, List.not_mem_nil, or_false] at h
  subst h; exact ⟨by decide, by decide⟩
theorem dec0 : decL 0 = [48] := by rw [decL_small (by omega)]; rfl
theorem dec1 : decL 1 = [49] := by rw [decL_small (by omega)]; rfl
theorem ex8_facts : shownS [ex8A] = ⟨#[119, 58, 120, 61, 49, 32, 114, 58, 121, 61, 48, 10]⟩ ∧ shownE [ex8A] = 0 ∧ shownS [ex8B] = ⟨#[]⟩ ∧ shownE [ex8B] = 1 := by
  have h1 : rightL [ex8A] = true := by decide
  have h2 : rightL [ex8B] = false := by decide
  refine ⟨?_, (shown_yes h1).2, (shown_no h2).1, (shown_no h2).2⟩
  rw [(shown_yes h1).1]
  simp [bytesL, showT, showS, showR, showO, ex8A, putL, dec0, dec1]
set_option maxRecDepth 100000 in
set_option maxHeartbeats 2000000 in
theorem law8_awake (w : World) : Calls Try.prog 7 #[] w (RetBool true w) := by
  obtain ⟨W, hW⟩ : ∃ W, W = (w.alloc (.cells #[.bool true, .string ⟨#[120]⟩, .int .i64 1, .bool false, .string ⟨#[121]⟩, .int .i64 0] 24)).alloc (.cells #[.slice (some ⟨w.heap.size, 0, none⟩) 2 2] 38) := ⟨_, rfl⟩
  have bb := Lib.hid (show Below w.heap.size w W from by rw [hW]; exact ((Below.refl _ w).alloc (Nat.le_refl _) _).alloc (by simp) _)
  have hH : HistAt W (some ⟨w.heap.size + 1, 0, none⟩) 1 [ex8A] := by
    have h1 := (Blk.new w 24 (cellsO ex8A)).alloc (.cells #[.slice (some ⟨w.heap.size, 0, none⟩) 2 2] 38)
    have h2 := Blk.new (w.alloc (.cells #[.bool true, .string ⟨#[120]⟩, .int .i64 1, .bool false, .string ⟨#[121]⟩, .int .i64 0] 24)) 38 [.slice (some ⟨w.heap.size, 0, none⟩) 2 2]
    rw [World.size_alloc] at h2
    rw [hW]
    exact HistAt.one h2 (OpsAt.of_blk h1 ok8A rfl) (by omega) (by omega)
  have c1 := show_Text _ 1 1 [ex8A] W hH (by omega) (by omega) (by omega) (by decide)
  unfold RetShow at c1
  rw [ex8_facts.1, ex8_facts.2.1] at c1
  replace c1 := Lib.hid c1
  clear hH
  go_enter Try.func7, Try.ntmps7
  go_wp2_with fail
  rw [← hW]
  clear hW
  refine c1.out.mono ?_; rintro e w1 ⟨rfl, b⟩
  replace bb := Lib.hid (below_trans2 bb.out b)
  clear b c1
  obtain ⟨V, hV⟩ : ∃ V, V = (w1.alloc (.cells #[.bool false, .string ⟨#[]⟩, .int .i64 0] 24)).alloc (.cells #[.slice (some ⟨w1.heap.size, 0, none⟩) 1 1] 38) := ⟨_, rfl⟩
  have bv := Lib.hid (show Below w1.heap.size w1 V from by rw [hV]; exact ((Below.refl _ w1).alloc (Nat.le_refl _) _).alloc (by simp) _)
  have hH : HistAt V (some ⟨w1.heap.size + 1, 0, none⟩) 1 [ex8B] := by
    have h1 := (Blk.new w1 24 (cellsO ex8B)).alloc (.cells #[.slice (some ⟨w1.heap.size, 0, none⟩) 1 1] 38)
    have h2 := Blk.new (w1.alloc (.cells #[.bool false, .string ⟨#[]⟩, .int .i64 0] 24)) 38 [.slice (some ⟨w1.heap.size, 0, none⟩) 1 1]
    rw [World.size_alloc] at h2
    rw [hV]
    exact HistAt.one h2 (OpsAt.of_blk h1 ok8B rfl) (by omega) (by omega)
  have c2 := show_Text _ 1 1 [ex8B] V hH (by omega) (by omega) (by omega) (by decide)
  unfold RetShow at c2
  rw [ex8_facts.2.2.1, ex8_facts.2.2.2] at c2
  replace c2 := Lib.hid c2
  clear hH
  go_wp2_with fail
  rw [← hV]
  clear hV
  refine c2.out.mono ?_; rintro e w2 ⟨rfl, b⟩
  replace bb := Lib.hid (below_trans2 bb.out (below_trans2 bv.out b))
  clear b c2 bv
  go_wp2_with fail
  go_ret
  exact ⟨rfl, bb.out⟩

end Go.Proofs.Ytkccefgmiaoinaa
