/- Layer 6's laws: what they share: flat, the fixed example. -/
import Derived.Test.YtkocknlhlljlcaaHistN
namespace Go.Proofs.Ytkocknlhlljlcaa
open Go.RowKit
set_option linter.unusedVariables false

theorem OpsAt.of_blk {w : World} {g : Nat} {t : TypeId} {os : List OpT} {n : Nat} (h : Blk w g t (cellsO os)) (ho : OkO os) (hn : os.length = n) : OpsAt w (some ⟨g, 0, none⟩) n os :=
  ⟨hn, ho, fun _ => ⟨g, 0, rfl, h.lt, fun j u hu => by rw [Nat.zero_add, h.cell]; exact hu⟩⟩
theorem HistAt.of_blk {w : World} {g : Nat} {t : TypeId} {vs : List Value} {hs : List (List OpT)} {n : Nat} (h : Blk w g t vs) (hn : vs.length = n) (hl : vs.length = hs.length) (hv : ∀ (i : Nat) (v : Value) (os : List OpT), vs[i]? = some v → hs[i]? = some os → SessV w v os) :
    HistAt w (some ⟨g, 0, none⟩) n hs :=
  ⟨vs, ⟨hn, fun _ => ⟨g, 0, rfl, h.lt, fun j u hu => by rw [Nat.zero_add, h.cell]; exact hu⟩⟩, hl, hv⟩
theorem HistAt.one {w : World} {g : Nat} {t : TypeId} {A : Option Addr} {n c : Nat} {os : List OpT} (h : Blk w g t [.slice A n c]) (hO : OpsAt w A n os) (hc : n ≤ c) (hn : n ≤ 9223372036854775807) : HistAt w (some ⟨g, 0, none⟩) 1 [os] :=
  HistAt.of_blk h rfl rfl (fun i v o hv ho => by
    match i with
    | 0 =>
      simp at hv ho
      subst hv; subst ho
      exact ⟨A, n, c, rfl, hc, hn, hO⟩
    | i + 1 => simp at hv)
theorem HistAt.two {w : World} {g : Nat} {t : TypeId} {A B : Option Addr} {n c m d : Nat} {os ps : List OpT} (h : Blk w g t [.slice A n c, .slice B m d]) (hO : OpsAt w A n os) (hP : OpsAt w B m ps) (hc : n ≤ c) (hn : n ≤ 9223372036854775807) (hd : m ≤ d) (hm : m ≤ 9223372036854775807) : HistAt w (some ⟨g, 0, none⟩) 2 [os, ps] :=
  HistAt.of_blk h rfl rfl (fun i v o hv ho => by
    match i with
    | 0 =>
      simp at hv ho
      subst hv; subst ho
      exact ⟨A, n, c, rfl, hc, hn, hO⟩
    | 1 =>
      simp at hv ho
      subst hv; subst ho
      exact ⟨B, m, d, rfl, hd, hm, hP⟩
    | i + 2 => simp at hv)
set_option maxRecDepth 100000 in
theorem law6_flat (A B : Option Addr) (n c m d : Nat) (xs ys : List OpT) (w : World) (hX : OpsAt w A n xs) (hY : OpsAt w B m ys) (hn : n ≤ c) (hm : m ≤ d) (hn63 : n ≤ 9223372036854775807) (hm63 : m ≤ 9223372036854775807) :
    Calls Try.prog 16 #[.slice A n c, .slice B m d] w (RetBool (decide (xs = ys)) w) := by
  have bb : Below w.heap.size w ((w.alloc (.cells #[.slice A n c] 36)).alloc (.cells #[.slice B m d] 36)) := ((Below.refl _ w).alloc (Nat.le_refl _) _).alloc (by simp) _
  have h1 := (Blk.new w 36 [.slice A n c]).alloc (.cells #[.slice B m d] 36)
  have h2 := Blk.new (w.alloc (.cells #[.slice A n c] 36)) 36 [.slice B m d]
  have hs1 : (w.alloc (.cells #[.slice A n c] 36)).heap.size = w.heap.size + 1 := by simp
  rw [hs1] at h2
  have cS := Lib.hid (ref6_Same (some ⟨w.heap.size, 0, none⟩) (some ⟨w.heap.size + 1, 0, none⟩) 1 1 1 1 [xs] [ys] _ (HistAt.one h1 (hX.below bb) hn hn63) (HistAt.one h2 (hY.below bb) hm hm63) (by omega) (by omega))
  rw [show decide ([xs] = [ys]) = decide (xs = ys) from by simp] at cS
  replace bb := Lib.hid bb
  clear h1 h2 hs1 hX hY
  go_enter Try.func16, Try.ntmps16
  go_wp2_with fail
  refine cS.out.mono ?_; rintro e w1 ⟨rfl, q, rfl⟩
  go_wp2_with fail
  go_ret
  exact ⟨rfl, below_drewN bb.out q⟩
def exA : OpT := (true, ⟨#[120]⟩, 1)
def exB : OpT := (false, ⟨#[120]⟩, 1)
def exH : List (List OpT) := [[exA], [exB]]
theorem exH_facts : spotZ exH 1 = some (1, 0) ∧ numZ exH 1 0 = some 1 ∧ rightL exH = true ∧ (allO exH).length = 2 := by
  refine ⟨by decide, by decide, by decide, by decide⟩
theorem OkO.exA : OkO [exA] := fun o h => by simp at h; subst h; exact ⟨by decide, by decide⟩
theorem OkO.exB : OkO [exB] := fun o h => by simp at h; subst h; exact ⟨by decide, by decide⟩
theorem exH_at (w : World) (e s : TypeId) : ∃ W, W = (((w.alloc (.cells #[.bool true, .string ⟨#[120]⟩, .int .i64 1] e)).alloc (.cells #[.bool false, .string ⟨#[120]⟩, .int .i64 1] e)).alloc (.cells #[.slice (some ⟨w.heap.size, 0, none⟩) 1 1, .slice (some ⟨w.heap.size + 1, 0, none⟩) 1 1] s)) ∧
    HistAt W (some ⟨w.heap.size + 1 + 1, 0, none⟩) 2 exH ∧ Below w.heap.size w W := by
  refine ⟨_, rfl, ?_, (((Below.refl _ w).alloc (Nat.le_refl _) _).alloc (by simp) _).alloc (by simp; omega) _⟩
  have s1 : (w.alloc (.cells #[.bool true, .string ⟨#[120]⟩, .int .i64 1] e)).heap.size = w.heap.size + 1 := by simp
  have s2 : ((w.alloc (.cells #[.bool true, .string ⟨#[120]⟩, .int .i64 1] e)).alloc (.cells #[.bool false, .string ⟨#[120]⟩, .int .i64 1] e)).heap.size = w.heap.size + 1 + 1 := by simp
  have h1 := ((Blk.new w e (cellsO [exA])).alloc (.cells #[.bool false, .string ⟨#[120]⟩, .int .i64 1] e)).alloc (.cells #[.slice (some ⟨w.heap.size, 0, none⟩) 1 1, .slice (some ⟨w.heap.size + 1, 0, none⟩) 1 1] s)
  have h2 := (Blk.new (w.alloc (.cells #[.bool true, .string ⟨#[120]⟩, .int .i64 1] e)) e (cellsO [exB])).alloc (.cells #[.slice (some ⟨w.heap.size, 0, none⟩) 1 1, .slice (some ⟨w.heap.size + 1, 0, none⟩) 1 1] s)
  rw [s1] at h2
  have h3 := Blk.new ((w.alloc (.cells #[.bool true, .string ⟨#[120]⟩, .int .i64 1] e)).alloc (.cells #[.bool false, .string ⟨#[120]⟩, .int .i64 1] e)) s [.slice (some ⟨w.heap.size, 0, none⟩) 1 1, .slice (some ⟨w.heap.size + 1, 0, none⟩) 1 1]
  rw [s2] at h3
  exact HistAt.two h3 (OpsAt.of_blk h1 OkO.exA rfl) (OpsAt.of_blk h2 OkO.exB rfl) (Nat.le_refl _) (by omega) (Nat.le_refl _) (by omega)
set_option maxRecDepth 100000 in
set_option maxHeartbeats 2000000 in
theorem law6_awake (w : World) : Calls Try.prog 7 #[] w (RetBool true w) := by
  obtain ⟨W, hW, hH, bb⟩ := exH_at w 41 36
  replace bb := Lib.hid bb
  have cS : Hid (Calls Try.prog 8 #[.slice (some ⟨w.heap.size + 1 + 1, 0, none⟩) 2 2, .int .i64 1] W fun e w' => e = .returned (.tuple #[.agg #[.int .i64 1, .int .i64 0], .bool true]) ∧ Below W.heap.size W w') := Lib.hid (by
    have h := hist_Spot _ 2 2 exH W hH (by omega) (by omega) (by omega) (by decide) 1 (by omega) (by omega)
    rw [exH_facts.1] at h
    exact h)
  replace hH := Lib.hid hH
  go_enter Try.func7, Try.ntmps7
  go_wp2_with fail
  rw [← hW]
  clear hW
  refine cS.out.mono ?_; rintro e w1 ⟨rfl, b⟩
  replace hH := Lib.hid (hH.out.below b)
  replace bb := Lib.hid (below_trans2 bb.out b)
  clear b cS
  -- behind a call that answers a spot (1, 0): the variable g that it is laid into; the world is W2 then; walked to what comes next
  obtain ⟨W1, hW1⟩ : ∃ W, W = w1.alloc (.cells #[.int .i64 0, .int .i64 0] 24) := ⟨_, rfl⟩
  obtain ⟨g, hg⟩ : ∃ g, g = w1.heap.size := ⟨_, rfl⟩
  have k0 := show TwoI W1 g 24 0 0 from by rw [hW1, hg]; exact TwoI.new _ _ _ _
  have ba := show Below w1.heap.size w1 W1 from by rw [hW1]; exact (Below.refl _ _).alloc (Nat.le_refl _) _
  have f0 := Blk.frozen k0 0
  have f1 := Blk.frozen k0 1
  have q0 := k0.c0
  have q1 := k0.c1
  obtain ⟨W2, hW2⟩ : ∃ W, W = ((W1.setCell ⟨g, 0, none⟩ (.int .i64 1)).setCell ⟨g, 1, none⟩ (.int .i64 0)) := ⟨_, rfl⟩
  have k1 := Lib.hid (show TwoI W2 g 24 1 0 from by rw [hW2]; exact k0.put 1 0)
  have ba2 := Lib.hid (show Below w1.heap.size w1 W2 from by rw [hW2]; exact (ba.setCell (by rw [hg]; exact Nat.le_refl _) _).setCell (by rw [hg]; exact Nat.le_refl _) _)
  clear ba k0
  go_wp2_with (rw [← hW1, ← hg]; clear hW1; replace hg := Lib.hid hg; replace hW2 := Lib.hid hW2; replace q0 := q0; go_wp2_with fail)
  rw [← hW2.out]
  clear f0 f1 q0 q1 hW2 W1
  replace hH := Lib.hid (hH.out.below ba2.out)
  replace bb := Lib.hid (below_trans2 bb.out ba2.out)
  clear ba2
  have cN : Hid (Calls Try.prog 10 #[.slice (some ⟨w.heap.size + 1 + 1, 0, none⟩) 2 2, .agg #[.int .i64 1, .int .i64 0]] W2 fun e w' => e = .returned (.tuple #[.int .i64 1, .bool true]) ∧ Below W2.heap.size W2 w') := Lib.hid (by
    have h := hist_Number _ 2 2 exH W2 hH.out (by omega) (by omega) (by omega) (by decide) 1 0 (by omega) (by omega) (by omega) (by omega)
    rw [exH_facts.2.1] at h
    exact h)
  refine cN.out.mono ?_; rintro e w3 ⟨rfl, b⟩
  replace hH := Lib.hid (hH.out.below b)
  replace bb := Lib.hid (below_trans2 bb.out b)
  replace k1 := Lib.hid (k1.out.below b)
  clear b cN
  have q0 := k1.out.c0
  have q1 := k1.out.c1
  have cR := Lib.hid (hist_Right _ 2 2 exH w3 hH.out (by omega) (by omega) (by omega) (by decide))
  rw [exH_facts.2.2.1] at cR
  go_wp2_with fail
  refine cR.out.mono ?_; rintro e w4 ⟨rfl, b⟩
  replace hH := Lib.hid (hH.out.below b)
  replace bb := Lib.hid (below_trans2 bb.out b)
  clear b cR q0 q1
  have cC := Lib.hid (hist_Count _ 2 2 exH w4 hH.out (by omega) (by omega) (by omega) (by decide))
  rw [exH_facts.2.2.2] at cC
  go_wp2_with fail
  refine cC.out.mono ?_; rintro e w5 ⟨rfl, b⟩
  replace bb := Lib.hid (below_trans2 bb.out b)
  clear b cC
  go_wp2_with fail
  go_ret
  exact ⟨rfl, bb.out⟩

end Go.Proofs.Ytkocknlhlljlcaa
