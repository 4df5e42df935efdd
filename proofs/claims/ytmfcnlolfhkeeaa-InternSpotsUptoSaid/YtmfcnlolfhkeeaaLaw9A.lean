/- Layer 9's laws: what they share: the fixed example. -/
import Derived.Test.YtmfcnlolfhkeeaaIntern
namespace Go.Proofs.Ytmfcnlolfhkeeaa
open Go.RowKit
set_option linter.unusedVariables false

def ex9A : List OpT := [(true, ⟨#[120]⟩, 1), (false, ⟨#[121]⟩, 0)]
def ex9B : List OpT := [(false, ⟨#[]⟩, 0)]
theorem ok9A : OkO ex9A := fun o h => by
  unfold ex9A at h
  simp only [List.mem_cons, List.not_mem_nil, or_false] at h
  rcases h with rfl | rfl <;> exact ⟨by decide, by decide⟩
theorem ok9B : OkO ex9B := fun o h => by
  unfold ex9B at h
  simp only [List.mem_cons, List.not_mem_nil, or_false] at h
  subst h; exact ⟨by decide, by decide⟩
theorem ex9_facts : rightL [ex9A] = true ∧ rightL [ex9B] = false ∧ facO [ex9A] = ⟨[⟨#[120]⟩, ⟨#[121]⟩], [⟨0, 0, true, 0, 1⟩, ⟨0, 1, false, 1, 0⟩], []⟩ := by
  refine ⟨by decide, by decide, by decide⟩
set_option maxRecDepth 100000 in
set_option maxHeartbeats 2000000 in
theorem law9_awake (w : World) : Calls Try.prog 8 #[] w (RetBool true w) := by
  obtain ⟨W, hW⟩ : ∃ W, W = (w.alloc (.cells #[.bool true, .string ⟨#[120]⟩, .int .i64 1, .bool false, .string ⟨#[121]⟩, .int .i64 0] 50)).alloc (.cells #[.slice (some ⟨w.heap.size, 0, none⟩) 2 2] 41) := ⟨_, rfl⟩
  have bb := Lib.hid (show Below w.heap.size w W from by rw [hW]; exact ((Below.refl _ w).alloc (Nat.le_refl _) _).alloc (by simp) _)
  have hH : HistAt W (some ⟨w.heap.size + 1, 0, none⟩) 1 [ex9A] := by
    have h1 := (Blk.new w 50 (cellsO ex9A)).alloc (.cells #[.slice (some ⟨w.heap.size, 0, none⟩) 2 2] 41)
    have h2 := Blk.new (w.alloc (.cells #[.bool true, .string ⟨#[120]⟩, .int .i64 1, .bool false, .string ⟨#[121]⟩, .int .i64 0] 50)) 41 [.slice (some ⟨w.heap.size, 0, none⟩) 2 2]
    rw [World.size_alloc] at h2
    rw [hW]
    exact HistAt.one h2 (OpsAt.of_blk h1 ok9A rfl) (by omega) (by omega)
  have c1 := intern_Of _ 1 1 [ex9A] W hH (by omega) (by omega) (by omega) (by decide)
  unfold RetOf at c1
  rw [ex9_facts.1, if_pos rfl, if_pos rfl, ex9_facts.2.2] at c1
  replace c1 := Lib.hid c1
  clear hH
  go_enter Try.func8, Try.ntmps8
  go_wp2_with fail
  rw [← hW]
  clear hW
  refine c1.out.mono ?_; rintro e w1 ⟨⟨A1, n1, d1, B1, m1, d2, C1, k1, d3⟩, rfl, hG, b⟩
  replace bb := Lib.hid (below_trans2 bb.out b)
  have hn1 : n1 = 2 := hG.vs.len.symm
  have hm1 : m1 = 2 := hG.is.len.symm
  subst hn1; subst hm1
  clear b c1
  obtain ⟨F, hF⟩ : ∃ F, F = w1.alloc (.cells #[.slice A1 2 d1, .slice B1 2 d2, .slice C1 k1 d3] 27) := ⟨_, rfl⟩
  obtain ⟨gF, hgF⟩ : ∃ g, g = w1.heap.size := ⟨_, rfl⟩
  have bF : Below w1.heap.size w1 F := by rw [hF]; exact (Below.refl _ _).alloc (Nat.le_refl _) _
  have kF : Blk F gF 27 [.slice A1 2 d1, .slice B1 2 d2, .slice C1 k1 d3] := by rw [hF, hgF]; exact Blk.new w1 _ _
  replace hG := hG.below bF
  replace bb := Lib.hid (below_trans2 bb.out bF)
  clear bF
  obtain ⟨V, hV⟩ : ∃ V, V = (F.alloc (.cells #[.bool false, .string ⟨#[]⟩, .int .i64 0] 50)).alloc (.cells #[.slice (some ⟨F.heap.size, 0, none⟩) 1 1] 41) := ⟨_, rfl⟩
  have bv := Lib.hid (show Below F.heap.size F V from by rw [hV]; exact ((Below.refl _ F).alloc (Nat.le_refl _) _).alloc (by simp) _)
  have hH : HistAt V (some ⟨F.heap.size + 1, 0, none⟩) 1 [ex9B] := by
    have h1 := (Blk.new F 50 (cellsO ex9B)).alloc (.cells #[.slice (some ⟨F.heap.size, 0, none⟩) 1 1] 41)
    have h2 := Blk.new (F.alloc (.cells #[.bool false, .string ⟨#[]⟩, .int .i64 0] 50)) 41 [.slice (some ⟨F.heap.size, 0, none⟩) 1 1]
    rw [World.size_alloc] at h2
    rw [hV]
    exact HistAt.one h2 (OpsAt.of_blk h1 ok9B rfl) (by omega) (by omega)
  have c2 := intern_Of _ 1 1 [ex9B] V hH (by omega) (by omega) (by omega) (by decide)
  unfold RetOf at c2
  rw [ex9_facts.2.1] at c2
  replace c2 := Lib.hid c2
  clear hH
  replace hG := Lib.hid (hG.below bv.out)
  replace kF := Lib.hid (kF.below bv.out kF.lt)
  replace bb := Lib.hid (below_trans2 bb.out bv.out)
  clear bv
  go_wp2_with (first | (rw [← hF, ← hgF]; clear hF hgF) | (rw [← hV]; clear hV))
  refine c2.out.mono ?_; rintro e w2 ⟨v2, rfl, -, b⟩
  obtain ⟨W3, hW3⟩ : ∃ W, W = w2.alloc (.cells #[.slice v2.A v2.n v2.c, .slice v2.B v2.m v2.d, .slice v2.C v2.k v2.e] 27) := ⟨_, rfl⟩
  have b3 : Below w2.heap.size w2 W3 := by rw [hW3]; exact (Below.refl _ _).alloc (Nat.le_refl _) _
  have hG3 := (hG.out.below b).below b3
  have kF3 := (kF.out.below b kF.out.lt).below b3 (kF.out.below b kF.out.lt).lt
  replace bb := Lib.hid (below_trans2 (below_trans2 bb.out b) b3)
  have hv := hG3.vs
  have hi := hG3.is
  dsimp only at hv hi
  obtain ⟨b1, o1, s1, rfl, hb1, hs1, _, hc1⟩ := hv.str (k := 1) (by omega)
  obtain rfl : (⟨#[121]⟩ : ByteArray) = s1 := by simpa using hs1
  obtain ⟨b2, o2, i1, rfl, hb2, hi1, _, x0, x1, x2, x3, x4⟩ := hi.item (k := 1) (by omega)
  obtain rfl : (⟨0, 1, false, 1, 0⟩ : It) = i1 := by simpa using hi1
  simp only [Nat.one_mul] at x0 x1 x2 x3 x4
  have q0 := kF3.cell 0
  have q1 := kF3.cell 1
  clear hG hG3 kF kF3 b b3 c2 hv hi hs1 hi1
  go_wp2_with (rw [← hW3]; clear hW3)
  go_ret
  exact ⟨rfl, bb.out⟩

end Go.Proofs.Ytmfcnlolfhkeeaa
