/- The contract of the document's own answer of layer 7: one operation. -/
import Derived.Test.YtkccefgmiaoinaaProg
import Derived.Test.YtkccefgmiaoinaaReadMath
import Derived.Test.YtkccefgmiaoinaaNumRef
import Derived.Test.YtkccefgmiaoinaaNumGet
namespace Go.Proofs.Ytkccefgmiaoinaa
open Go.RowKit
set_option linter.unusedVariables false

/-- a variable that holds an operation -/
def Op3 (w : World) (g : Nat) (t : TypeId) (o : OpT) : Prop := Blk w g t [.bool o.1, .string o.2.1, .int .i64 o.2.2]
section
variable {w w' : World} {g : Nat} {t : TypeId} {o : OpT}
theorem Op3.c0 (h : Op3 w g t o) : w.cell? ⟨g, 0, none⟩ = some (.bool o.1) := Blk.cell h 0
theorem Op3.c1 (h : Op3 w g t o) : w.cell? ⟨g, 1, none⟩ = some (.string o.2.1) := Blk.cell h 1
theorem Op3.c2 (h : Op3 w g t o) : w.cell? ⟨g, 2, none⟩ = some (.int .i64 o.2.2) := Blk.cell h 2
theorem Op3.new (w : World) (t : TypeId) (o : OpT) : Op3 (w.alloc (.cells #[.bool o.1, .string o.2.1, .int .i64 o.2.2] t)) w.heap.size t o := Blk.new w t _
theorem Op3.put (h : Op3 w g t o) (p : OpT) : Op3 (((w.setCell ⟨g, 0, none⟩ (.bool p.1)).setCell ⟨g, 1, none⟩ (.string p.2.1)).setCell ⟨g, 2, none⟩ (.int .i64 p.2.2)) g t p :=
  Blk.set_ (Blk.set_ (Blk.set_ h 0 _) 1 _) 2 _
theorem Op3.put0 (h : Op3 w g t o) (x : Value) : (w.setCell ⟨g, 0, none⟩ x).cell? ⟨g, 0, none⟩ = some x := by rw [(Blk.set_ h 0 x).cell 0]; rfl
theorem Op3.put1 (h : Op3 w g t o) (x y : Value) : ((w.setCell ⟨g, 0, none⟩ x).setCell ⟨g, 1, none⟩ y).cell? ⟨g, 1, none⟩ = some y := by rw [(Blk.set_ (Blk.set_ h 0 x) 1 y).cell 1]; rfl
theorem Op3.put2 (h : Op3 w g t o) (x y z : Value) : (((w.setCell ⟨g, 0, none⟩ x).setCell ⟨g, 1, none⟩ y).setCell ⟨g, 2, none⟩ z).cell? ⟨g, 2, none⟩ = some z := by rw [(Blk.set_ (Blk.set_ (Blk.set_ h 0 x) 1 y) 2 z).cell 2]; rfl
theorem Op3.below (h : Op3 w g t o) (hb : Below w.heap.size w w') : Op3 w' g t o := Blk.below h hb h.lt
end
def opZ : OpT := (false, ⟨#[]⟩, 0)
def oneO : PRes (OpT × Nat) → OpT | .bad _ _ => opZ | .ok x => x.1
def oneA : PRes (OpT × Nat) → Nat | .bad k _ => k | .ok x => x.2
def oneE : PRes (OpT × Nat) → Int | .bad _ e => e | .ok _ => 0
def RetOne (a : Int) (r : PRes (OpT × Nat)) (w : World) (e : Ending) (w' : World) : Prop :=
  e = .returned (.tuple #[.agg #[.bool (oneO r).1, .string (oneO r).2.1, .int .i64 (oneO r).2.2], .int .i64 (a + (oneA r : Nat)), .int .i64 (oneE r)]) ∧ Below w.heap.size w w'
theorem oneL_first {l : List UInt8} {c : UInt8} (h : l[0]? = some c) (hc : (isW c || isR c) = false) : oneL l = .bad 0 2 := by
  cases l with
  | nil => rfl
  | cons b r => simp at h; subst h; unfold oneL; show (if (isW b || isR b) = false then _ else _) = _; rw [if_pos hc]
theorem oneL_colon {l : List UInt8} {c : UInt8} (h : l[0]? = some c) (hc : (isW c || isR c) = true) (h1 : ∀ d, l[1]? = some d → ¬ d.toNat = 58) : oneL l = .bad 1 2 := by
  match l, h with
  | [b], h =>
    simp at h; subst h
    unfold oneL; show (if (isW b || isR b) = false then _ else _) = _; rw [if_neg (by rw [hc]; simp)]
  | b :: d :: q, h =>
    simp at h; subst h
    have := h1 d rfl
    unfold oneL; show (if (isW b || isR b) = false then _ else (if d.toNat = 58 then _ else _)) = _; rw [if_neg (by rw [hc]; simp), if_neg this]
theorem oneL_var {l : List UInt8} {c d : UInt8} (h : l[0]? = some c) (hc : (isW c || isR c) = true) (h1 : l[1]? = some d) (hd : d.toNat = 58) : oneL l = varL (isW c) (l.drop 2) := by
  match l, h with
  | [b], h => simp at h1
  | b :: e :: q, h =>
    simp at h h1; subst h; subst h1
    unfold oneL; show (if (isW b || isR b) = false then _ else (if e.toNat = 58 then _ else _)) = _; rw [if_neg (by rw [hc]; simp), if_pos hd]; rfl
theorem at_drop (s : ByteArray) (a : Int) (j : Nat) (a0 : 0 ≤ a) (c : UInt8) (h : a + j < (s.size : Int)) (hc : s[(a + j).toNat]'(by omega) = c) : (s.data.toList.drop a.toNat)[j]? = some c := by
  rw [List.getElem?_drop, show a.toNat + j = (a + (j : Int)).toNat from by omega, byte_at s _ (by omega), hc]
set_option maxRecDepth 100000 in
set_option maxHeartbeats 1000000 in
theorem ref7_one (s : ByteArray) (a : Int) (w : World) (hs : s.size ≤ 1073741824) (a0 : 0 ≤ a) (a1 : a ≤ (s.size : Int)) :
    Calls Try.prog 23 #[.string s, .int .i64 a] w (RetOne a (oneL (s.data.toList.drop a.toNat)) w) := by
  obtain ⟨g, hg⟩ : ∃ g, g = w.heap.size := ⟨_, rfl⟩
  obtain ⟨W, hW⟩ : ∃ W, W = w.alloc (.cells #[.bool false, .string ⟨#[]⟩, .int .i64 0] 24) := ⟨_, rfl⟩
  have bb := Lib.hid (show Below w.heap.size w W from by rw [hW]; exact (Below.refl _ w).alloc (Nat.le_refl _) _)
  have hr := show Op3 W g 24 opZ from by rw [hW, hg]; exact Op3.new w _ opZ
  have f0 := Blk.frozen hr 0
  have f1 := Blk.frozen hr 1
  have f2 := Blk.frozen hr 2
  have q0 : W.cell? ⟨g, 0, none⟩ = some (.bool false) := hr.c0
  have q1 : W.cell? ⟨g, 1, none⟩ = some (.string ⟨#[]⟩) := hr.c1
  have q2 : W.cell? ⟨g, 2, none⟩ = some (.int .i64 0) := hr.c2
  by_cases h0 : (s.size : Int) ≤ a
  · have hres : Hid (oneL (s.data.toList.drop a.toNat) = .bad 0 2) := Lib.hid (by rw [List.drop_eq_nil_of_le (by rw [size_list]; omega)]; rfl)
    have hr2 := hr.put opZ
    have r0 := hr.put0 (.bool false)
    have r1 := hr.put1 (.bool false) (.string ⟨#[]⟩)
    have r2 := hr.put2 (.bool false) (.string ⟨#[]⟩) (.int .i64 0)
    go_enter Try.func23, Try.ntmps23
    go_wp2_with (rw [← hW, ← hg]; clear hW; replace hg := Lib.hid hg)
    -- a bad end: place $k, error 2; the result's variable g in the world that hr speaks of
    refine bodyPost_ret (v := .tuple #[.agg #[.bool false, .string ⟨#[]⟩, .int .i64 0], .int .i64 a, .int .i64 2]) (by simp [results, Try.results23, go_sem, r0, r1, r2]) rfl ⟨by rw [hres.out]; simp [oneO, oneA, oneE, opZ], ?_⟩
    exact ((bb.out.setCell (p := ⟨g, 0, none⟩) (by rw [hg.out]; exact Nat.le_refl _) _).setCell (p := ⟨g, 1, none⟩) (by rw [hg.out]; exact Nat.le_refl _) _).setCell (p := ⟨g, 2, none⟩) (by rw [hg.out]; exact Nat.le_refl _) _
  have h0' : a < (s.size : Int) := by omega
  have hi : 0 ≤ a ∧ a < (s.size : Int) := ⟨a0, h0'⟩
  obtain ⟨c, hc⟩ : ∃ c : UInt8, s[a.toNat]'(by omega) = c := ⟨_, rfl⟩
  have hcl := at_drop s a 0 a0 c (by omega) (by simpa using hc)
  have da : decide ((s.size : Int) ≤ a) = false := decide_eq_false h0
  by_cases hw : c.toNat = 119 ∨ c.toNat = 114
  · rcases hw with hw | hw
    · have n1 : ((c.toNat : Int) != 119) = false := by simp; omega
      have n2 : ((c.toNat : Int) == 119) = true := by simp; omega
      -- true: does it write
      obtain ⟨g2, hg2⟩ : ∃ g2, g2 = W.heap.size := ⟨_, rfl⟩
      obtain ⟨V0, hV0⟩ : ∃ V0, V0 = W.alloc (.cells #[.bool false, .string ⟨#[]⟩, .int .i64 0] 24) := ⟨_, rfl⟩
      have b0 := show Below W.heap.size W V0 from by rw [hV0]; exact (Below.refl _ _).alloc (Nat.le_refl _) _
      have ko := show Op3 V0 g2 24 opZ from by rw [hV0, hg2]; exact Op3.new _ _ opZ
      obtain ⟨V, hV⟩ : ∃ V, V = (((V0.setCell ⟨g2, 0, none⟩ (.bool true)).setCell ⟨g2, 1, none⟩ (.string ⟨#[]⟩)).setCell ⟨g2, 2, none⟩ (.int .i64 0)) := ⟨_, rfl⟩
      have kv := show Op3 V g2 24 (true, ⟨#[]⟩, 0) from by rw [hV]; exact ko.put (true, ⟨#[]⟩, 0)
      have b1 := show Below W.heap.size W V from by rw [hV]; exact ((b0.setCell (p := ⟨g2, 0, none⟩) (by rw [hg2]; exact Nat.le_refl _) _).setCell (p := ⟨g2, 1, none⟩) (by rw [hg2]; exact Nat.le_refl _) _).setCell (p := ⟨g2, 2, none⟩) (by rw [hg2]; exact Nat.le_refl _) _
      have hgg : Hid (g < g2) := Lib.hid (by rw [hg2]; exact hr.lt)
      have p0 : V0.cell? ⟨g2, 0, none⟩ = some (.bool false) := ko.c0
      have p1 : V0.cell? ⟨g2, 1, none⟩ = some (.string ⟨#[]⟩) := ko.c1
      have p2 : V0.cell? ⟨g2, 2, none⟩ = some (.int .i64 0) := ko.c2
      have e0 := Blk.frozen ko 0
      have e1 := Blk.frozen ko 1
      have e2 := Blk.frozen ko 2
      replace bb := Lib.hid (below_trans2 bb.out b1)
      replace hr := hr.below b1
      have hr2 := Lib.hid hr
      have i0 := Blk.frozen hr 0
      have i1 := Blk.frozen hr 1
      have i2 := Blk.frozen hr 2
      have j0 : V.cell? ⟨g, 0, none⟩ = some (.bool false) := hr.c0
      have j1 : V.cell? ⟨g, 1, none⟩ = some (.string ⟨#[]⟩) := hr.c1
      have j2 : V.cell? ⟨g, 2, none⟩ = some (.int .i64 0) := hr.c2
      have r0 := hr.put0 (.bool false)
      have r1 := hr.put1 (.bool false) (.string ⟨#[]⟩)
      have r2 := hr.put2 (.bool false) (.string ⟨#[]⟩) (.int .i64 0)
      replace kv := Lib.hid kv
      clear ko b0 b1 hr f0 f1 f2 q0 q1 q2
      have hwr : (isW c || isR c) = true := by unfold isW isR; simp; omega
      have hwv : isW c = true := by unfold isW; simp; omega
      by_cases h1 : (s.size : Int) ≤ a + 1
      · have hres : Hid (oneL (s.data.toList.drop a.toNat) = .bad 1 2) := Lib.hid (oneL_colon hcl hwr (fun d hd => by
          have := (List.getElem?_eq_some_iff.1 hd).1
          rw [List.length_drop, size_list] at this; omega))
        replace hcl := Lib.hid hcl
        replace hwr := Lib.hid hwr
        replace hwv := Lib.hid hwv
        replace hw := Lib.hid hw
        replace h0 := Lib.hid h0
        go_enter Try.func23, Try.ntmps23
        go_wp2_with (first | (rw [← hW, ← hg]; clear hW; replace hg := Lib.hid hg) | (rw [← hV0, ← hg2]; clear hV0; replace hg2 := Lib.hid hg2) | (rw [← hV]; clear hV))
        -- a bad end: place $k, error 2; the result's variable g in the world that hr speaks of
        refine bodyPost_ret (v := .tuple #[.agg #[.bool false, .string ⟨#[]⟩, .int .i64 0], .int .i64 (a + 1), .int .i64 2]) (by simp [results, Try.results23, go_sem, r0, r1, r2]) rfl ⟨by rw [hres.out]; simp [oneO, oneA, oneE, opZ], ?_⟩
        exact ((bb.out.setCell (p := ⟨g, 0, none⟩) (by rw [hg.out]; exact Nat.le_refl _) _).setCell (p := ⟨g, 1, none⟩) (by rw [hg.out]; exact Nat.le_refl _) _).setCell (p := ⟨g, 2, none⟩) (by rw [hg.out]; exact Nat.le_refl _) _
      have h1' : a + 1 < (s.size : Int) := by omega
      have hi1 : 0 ≤ a + 1 ∧ a + 1 < (s.size : Int) := ⟨by omega, h1'⟩
      obtain ⟨d, hd⟩ : ∃ d : UInt8, s[(a + 1).toNat]'(by omega) = d := ⟨_, rfl⟩
      have hdl := at_drop s a 1 a0 d (by omega) (by simpa using hd)
      have da1 : decide ((s.size : Int) ≤ a + 1) = false := decide_eq_false h1
      by_cases h58 : d.toNat = 58
      · have n5 : ((d.toNat : Int) != 58) = false := by simp; omega
        have hvar := oneL_var hcl hwr hdl h58
        rw [hwv] at hvar
        obtain ⟨Q, hQ⟩ : ∃ Q, Q = (s.data.toList.drop a.toNat).drop 2 := ⟨_, rfl⟩
        rw [← hQ] at hvar
        rw [hvar]
        replace hvar := Lib.hid hvar
        replace hcl := Lib.hid hcl
        replace hdl := Lib.hid hdl
        replace hwr := Lib.hid hwr
        replace hwv := Lib.hid hwv
        replace hw := Lib.hid hw
        replace h0 := Lib.hid h0
        replace h1 := Lib.hid h1
        replace h58 := Lib.hid h58
        replace hQ := Lib.hid hQ
        go_enter Try.func23, Try.ntmps23
        go_wp2_with (first | (rw [← hW, ← hg]; clear hW; replace hg := Lib.hid hg) | (rw [← hV0, ← hg2]; clear hV0; replace hg2 := Lib.hid hg2) | (rw [← hV]; clear hV))
        obtain ⟨p, hp⟩ : ∃ p, p = a + 1 + 1 := ⟨_, rfl⟩
        rw [← hp]
        have pge : (0 : Int) ≤ p := by omega
        have ple : p ≤ (s.size : Int) := by have := h1.out; omega
        have hQi : ∀ j : Nat, Q[j]? = s.data.toList[(p + j).toNat]? := fun j => by
          rw [hQ.out, List.getElem?_drop, List.getElem?_drop, show a.toNat + (2 + j) = (p + (j : Int)).toNat from by omega]
        have hQp : Hid (Q = s.data.toList.drop p.toNat) := Lib.hid (by rw [hQ.out, List.drop_drop, show a.toNat + 2 = p.toNat from by omega])
        have hQl : Q.length = s.size - p.toNat := by rw [hQ.out, List.length_drop, List.length_drop, size_list]; omega
        replace hQi := Lib.hid hQi
        replace hQl := Lib.hid hQl
        replace hp := Lib.hid hp
        clear hi hi1 n1 n5 da da1 hc hd p0 p1 p2 e0 e1 e2 V0 h0'
        go_loop [8] (fun t => ∃ n : Nat, t = .int .i64 n ∧ n ≤ 8 ∧ p + n ≤ (s.size : Int) ∧ Hid (∀ j, j < n → ∃ c, Q[j]? = some c ∧ isAZ c = true)) (fun t => 8 - (intOf t).toNat)
        case atStart => exact ⟨0, rfl, by omega, by omega, Lib.hid (fun j hj => absurd hj (by omega))⟩
        case round =>
          obtain ⟨n, rfl, hn8, hpn, hall⟩ := hrel
          by_cases hlt : n < 8
          · have hlt' : (n : Int) < 8 := by omega
            by_cases hin : p + (n : Int) < (s.size : Int)
            · have hix : 0 ≤ p + (n : Int) ∧ p + (n : Int) < (s.size : Int) := ⟨by omega, hin⟩
              obtain ⟨b, hb⟩ : ∃ b : UInt8, s[(p + (n : Int)).toNat]'(by omega) = b := ⟨_, rfl⟩
              have hbl : Q[n]? = some b := by rw [hQi.out, byte_at s _ (by omega), hb]
              by_cases h97 : 97 ≤ b.toNat
              · by_cases h122 : b.toNat ≤ 122
                · have x1 : (97 : Int) ≤ (b.toNat : Int) := by omega
                  have x2 : (b.toNat : Int) ≤ 122 := by omega
                  have hall' : Hid (∀ j, j < n + 1 → ∃ c, Q[j]? = some c ∧ isAZ c = true) := Lib.hid (fun j hj => by
                    rcases Nat.lt_succ_iff_lt_or_eq.1 hj with h1 | h1
                    · exact hall.out j h1
                    · subst h1; exact ⟨b, hbl, by unfold isAZ; simp [h97, h122]⟩)
                  replace hbl := Lib.hid hbl
                  clear hall h97 h122
                  go_wp2_with fail
                  go_round
                  case rel => exact ⟨n + 1, by go_num, by omega, by omega, hall'⟩
                  case measure => simp [intOf]; omega
                · have x1 : (97 : Int) ≤ (b.toNat : Int) := by omega
                  have x2 : ¬ (b.toNat : Int) ≤ 122 := by omega
                  have hnm := nameN_is hn8 hall.out (fun _ c hc => by rw [hbl] at hc; injection hc with hc; subst hc; unfold isAZ; simp; omega)
                  replace hbl := Lib.hid hbl
                  clear hall h97 h122
                  clear i0 i1 i2 j0 j1 j2 r0 r1 r2
                  obtain ⟨x, hx⟩ : ∃ x, x = s.extract p.toNat (p + (n : Int)).toNat := ⟨_, rfl⟩
                  have hxl : x.data.toList = Q.take n := by
                    rw [hx, ByteArray.data_extract, Array.toList_extract, List.extract, show (p + (n : Int)).toNat - p.toNat = n by omega, hQp.out]
                  have hsl : ∀ W', (Instr.slice 9 (.string s) (some (.int .i64 p)) (some (.int .i64 (p + (n : Int)))) none).run Try.prog W' = .ok (.string x) W' := fun W' => by
                    rw [run_slice_string W' _ s .i64 .i64 p (p + (n : Int)) Try.underlying9 pge (by omega) hpn, hx]
                  have l1 : V.cell? ⟨g2, 1, none⟩ = some (.string ⟨#[]⟩) := kv.out.c1
                  have m1 := Blk.frozen kv.out 1
                  obtain ⟨V2, hV2⟩ : ∃ V2, V2 = V.setCell ⟨g2, 1, none⟩ (.string x) := ⟨_, rfl⟩
                  have kv2 := Lib.hid (show Op3 V2 g2 24 (true, x, 0) from by rw [hV2]; exact Blk.set_ kv.out 1 (.string x))
                  have hr3 : Op3 V2 g 24 opZ := by rw [hV2]; exact Blk.far hr2.out (by have := hgg.out; show g ≠ g2; omega) _
                  have bb2 := Lib.hid (show Below w.heap.size w V2 from by rw [hV2]; exact bb.out.setCell (by have := hgg.out; have := hg.out; show w.heap.size ≤ g2; omega) _)
                  replace hx := Lib.hid hx
                  replace hxl := Lib.hid hxl
                  replace hnm := Lib.hid hnm
                  -- the result's variable g in the world V2 (hr3 : Op3 V2 g .. opZ), told anew; (Value.bool false) (Value.string ⟨#[]⟩) (Value.int .i64 0): what will be stored
                  have i0 := Blk.frozen hr3 0
                  have i1 := Blk.frozen hr3 1
                  have i2 := Blk.frozen hr3 2
                  have j0 : World.cell? V2 ⟨g, 0, none⟩ = some (.bool false) := Op3.c0 hr3
                  have j1 : World.cell? V2 ⟨g, 1, none⟩ = some (.string ⟨#[]⟩) := Op3.c1 hr3
                  have j2 : World.cell? V2 ⟨g, 2, none⟩ = some (.int .i64 0) := Op3.c2 hr3
                  have r0 := Op3.put0 hr3 (Value.bool false)
                  have r1 := Op3.put1 hr3 (Value.bool false) (Value.string ⟨#[]⟩)
                  have r2 := Op3.put2 hr3 (Value.bool false) (Value.string ⟨#[]⟩) (Value.int .i64 0)
                  replace hr3 := Lib.hid hr3
                  clear bb
                  have bb := bb2
                  by_cases hn0 : n = 0
                  · have hres := Lib.hid (varL_bad (w := true) hnm.out (Or.inl hn0))
                    have en : ((n : Int) == 0) = true := by simp; omega
                    replace hn0 := Lib.hid hn0
                    go_wp2_with (rw [← hV2]; clear hV2)
                    -- a bad end: place $k, error 2; the result's variable g in the world that hr speaks of
                    refine bodyPost_ret (v := .tuple #[.agg #[.bool false, .string ⟨#[]⟩, .int .i64 0], .int .i64 (p + (n : Int)), .int .i64 2]) (by simp [results, Try.results23, go_sem, r0, r1, r2]) rfl ⟨by rw [hres.out]; simp [oneO, oneA, oneE, opZ]; have := hp.out; omega, ?_⟩
                    exact ((bb.out.setCell (p := ⟨g, 0, none⟩) (by rw [hg.out]; exact Nat.le_refl _) _).setCell (p := ⟨g, 1, none⟩) (by rw [hg.out]; exact Nat.le_refl _) _).setCell (p := ⟨g, 2, none⟩) (by rw [hg.out]; exact Nat.le_refl _) _
                  have en : ((n : Int) == 0) = false := by simp; omega
                  have he : ¬ (s.size : Int) ≤ p + (n : Int) := by omega
                  have ee : decide ((s.size : Int) ≤ p + (n : Int)) = false := decide_eq_false he
                  have hpl : p + (n : Int) < (s.size : Int) := by omega
                  have hpi : 0 ≤ p + (n : Int) ∧ p + (n : Int) < (s.size : Int) := ⟨by omega, hpl⟩
                  have hf := hb
                  clear hb
                  have hfl : Q[n]? = some b := by rw [hQi.out, byte_at s _ (by omega), hf]
                  by_cases h61 : b.toNat = 61
                  · have hf61 : b = 61 := UInt8.toNat_inj.1 (by rw [h61]; rfl)
                    have ef : ((b.toNat : Int) != 61) = false := by simp; omega
                    obtain ⟨v, hv⟩ : ∃ v, v = p + (n : Int) + 1 := ⟨_, rfl⟩
                    obtain ⟨m, hm⟩ : ∃ m, m = spanZ s v := ⟨_, rfl⟩
                    have hvQ : s.data.toList.drop v.toNat = Q.drop (n + 1) := by
                      rw [hQp.out, List.drop_drop, show p.toNat + (n + 1) = v.toNat by omega]
                    have hmN : m = spanN (Q.drop (n + 1)) := by rw [hm, ← hvQ]; unfold spanZ; rw [if_pos (by omega)]
                    have hmle : m ≤ s.size - v.toNat := by
                      have h := spanN_le (Q.drop (n + 1))
                      rw [← hmN, ← hvQ, List.length_drop, size_list] at h
                      exact h
                    have hvm : v + (m : Int) ≤ (s.size : Int) := by omega
                    have vge : (0 : Int) ≤ v := by omega
                    obtain ⟨y, hy⟩ : ∃ y, y = s.extract v.toNat (v + (m : Int)).toNat := ⟨_, rfl⟩
                    have hyl : y.data.toList = numAt (Q.drop (n + 1)) := by
                      rw [hy, ByteArray.data_extract, Array.toList_extract, List.extract, show (v + (m : Int)).toNat - v.toNat = m by omega, hvQ, hmN]; rfl
                    have hys : y.size ≤ 1073741824 := by
                      rw [← size_list, hyl]
                      refine Nat.le_trans (List.length_take_le _ _) ?_
                      rw [← hmN]; omega
                    have hsl2 : ∀ W', (Instr.slice 9 (.string s) (some (.int .i64 v)) (some (.int .i64 (v + (m : Int)))) none).run Try.prog W' = .ok (.string y) W' := fun W' => by
                      rw [run_slice_string W' _ s .i64 .i64 v (v + (m : Int)) Try.underlying9 vge (by omega) hvm, hy]
                    have cS := ref5_Span s v V2 hs (by omega) (by omega)
                    rw [← hm] at cS
                    have cG := ref5_Get y V2 hys
                    unfold RetGet at cG
                    rw [hyl] at cG
                    obtain ⟨gv, hgv⟩ : ∃ gv, gv = getV (numAt (Q.drop (n + 1))) := ⟨_, rfl⟩
                    obtain ⟨ge, hge⟩ : ∃ ge, ge = getE (numAt (Q.drop (n + 1))) := ⟨_, rfl⟩
                    rw [← hgv, ← hge] at cG
                    have hbad := fun h => varL_num (w := true) hnm.out hn0 (by rw [hfl, hf61]) (by rw [← hge]; exact h)
                    have hgood := fun h => varL_ok (w := true) hnm.out hn0 (by rw [hfl, hf61]) (by rw [← hge]; exact h)
                    rw [← hge] at hbad
                    rw [← hgv, ← hmN] at hgood
                    have hva : v = a + ((3 + n : Nat) : Int) := by have := hp.out; omega
                    replace hbad := Lib.hid hbad
                    replace hgood := Lib.hid hgood
                    replace cS := Lib.hid cS
                    replace cG := Lib.hid cG
                    replace hgv := Lib.hid hgv
                    replace hge := Lib.hid hge
                    replace hyl := Lib.hid hyl
                    replace hy := Lib.hid hy
                    replace hmN := Lib.hid hmN
                    replace hvQ := Lib.hid hvQ
                    replace hm := Lib.hid hm
                    replace hva := Lib.hid hva
                    replace hfl := Lib.hid hfl
                    replace h61 := Lib.hid h61
                    replace hf61 := Lib.hid hf61
                    replace hn0 := Lib.hid hn0
                    replace he := Lib.hid he
                    clear hmle
                    go_wp2_with (rw [← hV2]; clear hV2)
                    rw [← hv]
                    replace hv := Lib.hid hv
                    refine cS.out.mono ?_; rintro e w3 ⟨rfl, rfl⟩
                    clear i0 i1 i2 j0 j1 j2 r0 r1 r2
                    go_wp2_with fail
                    refine cG.out.mono ?_; rintro e w4 ⟨rfl, b4⟩
                    have bb3 := Lib.hid (below_trans2 bb.out b4)
                    replace kv2 := Lib.hid (kv2.out.below b4)
                    have hr4 := hr3.out.below b4
                    clear b4 hr3 bb bb2 hsl hsl2 cS cG
                    by_cases hz : ge = 0
                    · have hres := Lib.hid (hgood.out hz)
                      subst hz
                      have l2 : w4.cell? ⟨g2, 2, none⟩ = some (.int .i64 0) := kv2.out.c2
                      have m2 := Blk.frozen kv2.out 2
                      obtain ⟨W5, hW5⟩ : ∃ W5, W5 = w4.setCell ⟨g2, 2, none⟩ (.int .i64 gv) := ⟨_, rfl⟩
                      have kv5 : Op3 W5 g2 24 (true, x, gv) := by rw [hW5]; exact Blk.set_ kv2.out 2 (.int .i64 gv)
                      have hr5 : Op3 W5 g 24 opZ := by rw [hW5]; exact Blk.far hr4 (by have := hgg.out; show g ≠ g2; omega) _
                      have bb := Lib.hid (show Below w.heap.size w W5 from by rw [hW5]; exact bb3.out.setCell (by have := hgg.out; have := hg.out; show w.heap.size ≤ g2; omega) _)
                      have l0 := kv5.c0
                      have l1 : W5.cell? ⟨g2, 1, none⟩ = some (.string x) := kv5.c1
                      have l3 : W5.cell? ⟨g2, 2, none⟩ = some (.int .i64 gv) := kv5.c2
                      -- the result's variable g in the world W5 (hr5 : Op3 W5 g .. opZ), told anew; (Value.bool true) (Value.string x) (Value.int .i64 gv): what will be stored
                      have i0 := Blk.frozen hr5 0
                      have i1 := Blk.frozen hr5 1
                      have i2 := Blk.frozen hr5 2
                      have j0 : World.cell? W5 ⟨g, 0, none⟩ = some (.bool false) := Op3.c0 hr5
                      have j1 : World.cell? W5 ⟨g, 1, none⟩ = some (.string ⟨#[]⟩) := Op3.c1 hr5
                      have j2 : World.cell? W5 ⟨g, 2, none⟩ = some (.int .i64 0) := Op3.c2 hr5
                      have r0 := Op3.put0 hr5 (Value.bool true)
                      have r1 := Op3.put1 hr5 (Value.bool true) (Value.string x)
                      have r2 := Op3.put2 hr5 (Value.bool true) (Value.string x) (Value.int .i64 gv)
                      replace hr5 := Lib.hid hr5
                      replace kv5 := Lib.hid kv5
                      clear bb3 hr4
                      go_wp2_with (rw [← hW5]; clear hW5)
                      refine bodyPost_ret (v := .tuple #[.agg #[.bool true, .string x, .int .i64 gv], .int .i64 (v + (m : Int)), .int .i64 0]) (by simp [results, Try.results23, go_sem, r0, r1, r2]) rfl ⟨?_, ?_⟩
                      · rw [hres.out, ← hxl.out]
                        have e1 : a + ((3 + n + m : Nat) : Int) = v + (m : Int) := by have := hva.out; omega
                        show Ending.returned _ = Ending.returned (.tuple #[.agg #[.bool true, .string ⟨x.data.toList.toArray⟩, .int .i64 gv], .int .i64 (a + ((3 + n + m : Nat) : Int)), .int .i64 0])
                        rw [e1]
                      · exact ((bb.out.setCell (p := ⟨g, 0, none⟩) (by rw [hg.out]; exact Nat.le_refl _) _).setCell (p := ⟨g, 1, none⟩) (by rw [hg.out]; exact Nat.le_refl _) _).setCell (p := ⟨g, 2, none⟩) (by rw [hg.out]; exact Nat.le_refl _) _
                    · have hres := Lib.hid (hbad.out hz)
                      have hz' : (ge != 0) = true := by simp [hz]
                      -- the result's variable g in the world w4 (hr4 : Op3 w4 g .. opZ), told anew; (Value.bool false) (Value.string ⟨#[]⟩) (Value.int .i64 0): what will be stored
                      have i0 := Blk.frozen hr4 0
                      have i1 := Blk.frozen hr4 1
                      have i2 := Blk.frozen hr4 2
                      have j0 : World.cell? w4 ⟨g, 0, none⟩ = some (.bool false) := Op3.c0 hr4
                      have j1 : World.cell? w4 ⟨g, 1, none⟩ = some (.string ⟨#[]⟩) := Op3.c1 hr4
                      have j2 : World.cell? w4 ⟨g, 2, none⟩ = some (.int .i64 0) := Op3.c2 hr4
                      have r0 := Op3.put0 hr4 (Value.bool false)
                      have r1 := Op3.put1 hr4 (Value.bool false) (Value.string ⟨#[]⟩)
                      have r2 := Op3.put2 hr4 (Value.bool false) (Value.string ⟨#[]⟩) (Value.int .i64 0)
                      have bb := bb3
                      replace hz := Lib.hid hz
                      replace hr4 := Lib.hid hr4
                      go_wp2_with fail
                      -- a bad end: place $k, error ge; the result's variable g in the world that hr speaks of
                      refine bodyPost_ret (v := .tuple #[.agg #[.bool false, .string ⟨#[]⟩, .int .i64 0], .int .i64 v, .int .i64 ge]) (by simp [results, Try.results23, go_sem, r0, r1, r2]) rfl ⟨by rw [hres.out]; simp [oneO, oneA, oneE, opZ]; have := hva.out; omega, ?_⟩
                      exact ((bb.out.setCell (p := ⟨g, 0, none⟩) (by rw [hg.out]; exact Nat.le_refl _) _).setCell (p := ⟨g, 1, none⟩) (by rw [hg.out]; exact Nat.le_refl _) _).setCell (p := ⟨g, 2, none⟩) (by rw [hg.out]; exact Nat.le_refl _) _
                  · have ef : ((b.toNat : Int) != 61) = true := by simp; omega
                    have hres := Lib.hid (varL_bad (w := true) hnm.out (Or.inr (by rw [hfl]; intro h; injection h with h; subst h; exact h61 rfl)))
                    replace hfl := Lib.hid hfl
                    replace hn0 := Lib.hid hn0
                    replace he := Lib.hid he
                    go_wp2_with (rw [← hV2]; clear hV2)
                    -- a bad end: place $k, error 2; the result's variable g in the world that hr speaks of
                    refine bodyPost_ret (v := .tuple #[.agg #[.bool false, .string ⟨#[]⟩, .int .i64 0], .int .i64 (p + (n : Int)), .int .i64 2]) (by simp [results, Try.results23, go_sem, r0, r1, r2]) rfl ⟨by rw [hres.out]; simp [oneO, oneA, oneE, opZ]; have := hp.out; omega, ?_⟩
                    exact ((bb.out.setCell (p := ⟨g, 0, none⟩) (by rw [hg.out]; exact Nat.le_refl _) _).setCell (p := ⟨g, 1, none⟩) (by rw [hg.out]; exact Nat.le_refl _) _).setCell (p := ⟨g, 2, none⟩) (by rw [hg.out]; exact Nat.le_refl _) _
              · have x1 : ¬ (97 : Int) ≤ (b.toNat : Int) := by omega
                have hnm := nameN_is hn8 hall.out (fun _ c hc => by rw [hbl] at hc; injection hc with hc; subst hc; unfold isAZ; simp; omega)
                replace hbl := Lib.hid hbl
                clear hall h97
                clear i0 i1 i2 j0 j1 j2 r0 r1 r2
                obtain ⟨x, hx⟩ : ∃ x, x = s.extract p.toNat (p + (n : Int)).toNat := ⟨_, rfl⟩
                have hxl : x.data.toList = Q.take n := by
                  rw [hx, ByteArray.data_extract, Array.toList_extract, List.extract, show (p + (n : Int)).toNat - p.toNat = n by omega, hQp.out]
                have hsl : ∀ W', (Instr.slice 9 (.string s) (some (.int .i64 p)) (some (.int .i64 (p + (n : Int)))) none).run Try.prog W' = .ok (.string x) W' := fun W' => by
                  rw [run_slice_string W' _ s .i64 .i64 p (p + (n : Int)) Try.underlying9 pge (by omega) hpn, hx]
                have l1 : V.cell? ⟨g2, 1, none⟩ = some (.string ⟨#[]⟩) := kv.out.c1
                have m1 := Blk.frozen kv.out 1
                obtain ⟨V2, hV2⟩ : ∃ V2, V2 = V.setCell ⟨g2, 1, none⟩ (.string x) := ⟨_, rfl⟩
                have kv2 := Lib.hid (show Op3 V2 g2 24 (true, x, 0) from by rw [hV2]; exact Blk.set_ kv.out 1 (.string x))
                have hr3 : Op3 V2 g 24 opZ := by rw [hV2]; exact Blk.far hr2.out (by have := hgg.out; show g ≠ g2; omega) _
                have bb2 := Lib.hid (show Below w.heap.size w V2 from by rw [hV2]; exact bb.out.setCell (by have := hgg.out; have := hg.out; show w.heap.size ≤ g2; omega) _)
                replace hx := Lib.hid hx
                replace hxl := Lib.hid hxl
                replace hnm := Lib.hid hnm
                -- the result's variable g in the world V2 (hr3 : Op3 V2 g .. opZ), told anew; (Value.bool false) (Value.string ⟨#[]⟩) (Value.int .i64 0): what will be stored
                have i0 := Blk.frozen hr3 0
                have i1 := Blk.frozen hr3 1
                have i2 := Blk.frozen hr3 2
                have j0 : World.cell? V2 ⟨g, 0, none⟩ = some (.bool false) := Op3.c0 hr3
                have j1 : World.cell? V2 ⟨g, 1, none⟩ = some (.string ⟨#[]⟩) := Op3.c1 hr3
                have j2 : World.cell? V2 ⟨g, 2, none⟩ = some (.int .i64 0) := Op3.c2 hr3
                have r0 := Op3.put0 hr3 (Value.bool false)
                have r1 := Op3.put1 hr3 (Value.bool false) (Value.string ⟨#[]⟩)
                have r2 := Op3.put2 hr3 (Value.bool false) (Value.string ⟨#[]⟩) (Value.int .i64 0)
                replace hr3 := Lib.hid hr3
                clear bb
                have bb := bb2
                by_cases hn0 : n = 0
                · have hres := Lib.hid (varL_bad (w := true) hnm.out (Or.inl hn0))
                  have en : ((n : Int) == 0) = true := by simp; omega
                  replace hn0 := Lib.hid hn0
                  go_wp2_with (rw [← hV2]; clear hV2)
                  -- a bad end: place $k, error 2; the result's variable g in the world that hr speaks of
                  refine bodyPost_ret (v := .tuple #[.agg #[.bool false, .string ⟨#[]⟩, .int .i64 0], .int .i64 (p + (n : Int)), .int .i64 2]) (by simp [results, Try.results23, go_sem, r0, r1, r2]) rfl ⟨by rw [hres.out]; simp [oneO, oneA, oneE, opZ]; have := hp.out; omega, ?_⟩
                  exact ((bb.out.setCell (p := ⟨g, 0, none⟩) (by rw [hg.out]; exact Nat.le_refl _) _).setCell (p := ⟨g, 1, none⟩) (by rw [hg.out]; exact Nat.le_refl _) _).setCell (p := ⟨g, 2, none⟩) (by rw [hg.out]; exact Nat.le_refl _) _
                have en : ((n : Int) == 0) = false := by simp; omega
                have he : ¬ (s.size : Int) ≤ p + (n : Int) := by omega
                have ee : decide ((s.size : Int) ≤ p + (n : Int)) = false := decide_eq_false he
                have hpl : p + (n : Int) < (s.size : Int) := by omega
                have hpi : 0 ≤ p + (n : Int) ∧ p + (n : Int) < (s.size : Int) := ⟨by omega, hpl⟩
                have hf := hb
                clear hb
                have hfl : Q[n]? = some b := by rw [hQi.out, byte_at s _ (by omega), hf]
                by_cases h61 : b.toNat = 61
                · have hf61 : b = 61 := UInt8.toNat_inj.1 (by rw [h61]; rfl)
                  have ef : ((b.toNat : Int) != 61) = false := by simp; omega
                  obtain ⟨v, hv⟩ : ∃ v, v = p + (n : Int) + 1 := ⟨_, rfl⟩
                  obtain ⟨m, hm⟩ : ∃ m, m = spanZ s v := ⟨_, rfl⟩
                  have hvQ : s.data.toList.drop v.toNat = Q.drop (n + 1) := by
                    rw [hQp.out, List.drop_drop, show p.toNat + (n + 1) = v.toNat by omega]
                  have hmN : m = spanN (Q.drop (n + 1)) := by rw [hm, ← hvQ]; unfold spanZ; rw [if_pos (by omega)]
                  have hmle : m ≤ s.size - v.toNat := by
                    have h := spanN_le (Q.drop (n + 1))
                    rw [← hmN, ← hvQ, List.length_drop, size_list] at h
                    exact h
                  have hvm : v + (m : Int) ≤ (s.size : Int) := by omega
                  have vge : (0 : Int) ≤ v := by omega
                  obtain ⟨y, hy⟩ : ∃ y, y = s.extract v.toNat (v + (m : Int)).toNat := ⟨_, rfl⟩
                  have hyl : y.data.toList = numAt (Q.drop (n + 1)) := by
                    rw [hy, ByteArray.data_extract, Array.toList_extract, List.extract, show (v + (m : Int)).toNat - v.toNat = m by omega, hvQ, hmN]; rfl
                  have hys : y.size ≤ 1073741824 := by
                    rw [← size_list, hyl]
                    refine Nat.le_trans (List.length_take_le _ _) ?_
                    rw [← hmN]; omega
                  have hsl2 : ∀ W', (Instr.slice 9 (.string s) (some (.int .i64 v)) (some (.int .i64 (v + (m : Int)))) none).run Try.prog W' = .ok (.string y) W' := fun W' => by
                    rw [run_slice_string W' _ s .i64 .i64 v (v + (m : Int)) Try.underlying9 vge (by omega) hvm, hy]
                  have cS := ref5_Span s v V2 hs (by omega) (by omega)
                  rw [← hm] at cS
                  have cG := ref5_Get y V2 hys
                  unfold RetGet at cG
                  rw [hyl] at cG
                  obtain ⟨gv, hgv⟩ : ∃ gv, gv = getV (numAt (Q.drop (n + 1))) := ⟨_, rfl⟩
                  obtain ⟨ge, hge⟩ : ∃ ge, ge = getE (numAt (Q.drop (n + 1))) := ⟨_, rfl⟩
                  rw [← hgv, ← hge] at cG
                  have hbad := fun h => varL_num (w := true) hnm.out hn0 (by rw [hfl, hf61]) (by rw [← hge]; exact h)
                  have hgood := fun h => varL_ok (w := true) hnm.out hn0 (by rw [hfl, hf61]) (by rw [← hge]; exact h)
                  rw [← hge] at hbad
                  rw [← hgv, ← hmN] at hgood
                  have hva : v = a + ((3 + n : Nat) : Int) := by have := hp.out; omega
                  replace hbad := Lib.hid hbad
                  replace hgood := Lib.hid hgood
                  replace cS := Lib.hid cS
                  replace cG := Lib.hid cG
                  replace hgv := Lib.hid hgv
                  replace hge := Lib.hid hge
                  replace hyl := Lib.hid hyl
                  replace hy := Lib.hid hy
                  replace hmN := Lib.hid hmN
                  replace hvQ := Lib.hid hvQ
                  replace hm := Lib.hid hm
                  replace hva := Lib.hid hva
                  replace hfl := Lib.hid hfl
                  replace h61 := Lib.hid h61
                  replace hf61 := Lib.hid hf61
                  replace hn0 := Lib.hid hn0
                  replace he := Lib.hid he
                  clear hmle
                  go_wp2_with (rw [← hV2]; clear hV2)
                  rw [← hv]
                  replace hv := Lib.hid hv
                  refine cS.out.mono ?_; rintro e w3 ⟨rfl, rfl⟩
                  clear i0 i1 i2 j0 j1 j2 r0 r1 r2
                  go_wp2_with fail
                  refine cG.out.mono ?_; rintro e w4 ⟨rfl, b4⟩
                  have bb3 := Lib.hid (below_trans2 bb.out b4)
                  replace kv2 := Lib.hid (kv2.out.below b4)
                  have hr4 := hr3.out.below b4
                  clear b4 hr3 bb bb2 hsl hsl2 cS cG
                  by_cases hz : ge = 0
                  · have hres := Lib.hid (hgood.out hz)
                    subst hz
                    have l2 : w4.cell? ⟨g2, 2, none⟩ = some (.int .i64 0) := kv2.out.c2
                    have m2 := Blk.frozen kv2.out 2
                    obtain ⟨W5, hW5⟩ : ∃ W5, W5 = w4.setCell ⟨g2, 2, none⟩ (.int .i64 gv) := ⟨_, rfl⟩
                    have kv5 : Op3 W5 g2 24 (true, x, gv) := by rw [hW5]; exact Blk.set_ kv2.out 2 (.int .i64 gv)
                    have hr5 : Op3 W5 g 24 opZ := by rw [hW5]; exact Blk.far hr4 (by have := hgg.out; show g ≠ g2; omega) _
                    have bb := Lib.hid (show Below w.heap.size w W5 from by rw [hW5]; exact bb3.out.setCell (by have := hgg.out; have := hg.out; show w.heap.size ≤ g2; omega) _)
                    have l0 := kv5.c0
                    have l1 : W5.cell? ⟨g2, 1, none⟩ = some (.string x) := kv5.c1
                    have l3 : W5.cell? ⟨g2, 2, none⟩ = some (.int .i64 gv) := kv5.c2
                    -- the result's variable g in the world W5 (hr5 : Op3 W5 g .. opZ), told anew; (Value.bool true) (Value.string x) (Value.int .i64 gv): what will be stored
                    have i0 := Blk.frozen hr5 0
                    have i1 := Blk.frozen hr5 1
                    have i2 := Blk.frozen hr5 2
                    have j0 : World.cell? W5 ⟨g, 0, none⟩ = some (.bool false) := Op3.c0 hr5
                    have j1 : World.cell? W5 ⟨g, 1, none⟩ = some (.string ⟨#[]⟩) := Op3.c1 hr5
                    have j2 : World.cell? W5 ⟨g, 2, none⟩ = some (.int .i64 0) := Op3.c2 hr5
                    have r0 := Op3.put0 hr5 (Value.bool true)
                    have r1 := Op3.put1 hr5 (Value.bool true) (Value.string x)
                    have r2 := Op3.put2 hr5 (Value.bool true) (Value.string x) (Value.int .i64 gv)
                    replace hr5 := Lib.hid hr5
                    replace kv5 := Lib.hid kv5
                    clear bb3 hr4
                    go_wp2_with (rw [← hW5]; clear hW5)
                    refine bodyPost_ret (v := .tuple #[.agg #[.bool true, .string x, .int .i64 gv], .int .i64 (v + (m : Int)), .int .i64 0]) (by simp [results, Try.results23, go_sem, r0, r1, r2]) rfl ⟨?_, ?_⟩
                    · rw [hres.out, ← hxl.out]
                      have e1 : a + ((3 + n + m : Nat) : Int) = v + (m : Int) := by have := hva.out; omega
                      show Ending.returned _ = Ending.returned (.tuple #[.agg #[.bool true, .string ⟨x.data.toList.toArray⟩, .int .i64 gv], .int .i64 (a + ((3 + n + m : Nat) : Int)), .int .i64 0])
                      rw [e1]
                    · exact ((bb.out.setCell (p := ⟨g, 0, none⟩) (by rw [hg.out]; exact Nat.le_refl _) _).setCell (p := ⟨g, 1, none⟩) (by rw [hg.out]; exact Nat.le_refl _) _).setCell (p := ⟨g, 2, none⟩) (by rw [hg.out]; exact Nat.le_refl _) _
                  · have hres := Lib.hid (hbad.out hz)
                    have hz' : (ge != 0) = true := by simp [hz]
                    -- the result's variable g in the world w4 (hr4 : Op3 w4 g .. opZ), told anew; (Value.bool false) (Value.string ⟨#[]⟩) (Value.int .i64 0): what will be stored
                    have i0 := Blk.frozen hr4 0
                    have i1 := Blk.frozen hr4 1
                    have i2 := Blk.frozen hr4 2
                    have j0 : World.cell? w4 ⟨g, 0, none⟩ = some (.bool false) := Op3.c0 hr4
                    have j1 : World.cell? w4 ⟨g, 1, none⟩ = some (.string ⟨#[]⟩) := Op3.c1 hr4
                    have j2 : World.cell? w4 ⟨g, 2, none⟩ = some (.int .i64 0) := Op3.c2 hr4
                    have r0 := Op3.put0 hr4 (Value.bool false)
                    have r1 := Op3.put1 hr4 (Value.bool false) (Value.string ⟨#[]⟩)
                    have r2 := Op3.put2 hr4 (Value.bool false) (Value.string ⟨#[]⟩) (Value.int .i64 0)
                    have bb := bb3
                    replace hz := Lib.hid hz
                    replace hr4 := Lib.hid hr4
                    go_wp2_with fail
                    -- a bad end: place $k, error ge; the result's variable g in the world that hr speaks of
                    refine bodyPost_ret (v := .tuple #[.agg #[.bool false, .string ⟨#[]⟩, .int .i64 0], .int .i64 v, .int .i64 ge]) (by simp [results, Try.results23, go_sem, r0, r1, r2]) rfl ⟨by rw [hres.out]; simp [oneO, oneA, oneE, opZ]; have := hva.out; omega, ?_⟩
                    exact ((bb.out.setCell (p := ⟨g, 0, none⟩) (by rw [hg.out]; exact Nat.le_refl _) _).setCell (p := ⟨g, 1, none⟩) (by rw [hg.out]; exact Nat.le_refl _) _).setCell (p := ⟨g, 2, none⟩) (by rw [hg.out]; exact Nat.le_refl _) _
                · have ef : ((b.toNat : Int) != 61) = true := by simp; omega
                  have hres := Lib.hid (varL_bad (w := true) hnm.out (Or.inr (by rw [hfl]; intro h; injection h with h; subst h; exact h61 rfl)))
                  replace hfl := Lib.hid hfl
                  replace hn0 := Lib.hid hn0
                  replace he := Lib.hid he
                  go_wp2_with (rw [← hV2]; clear hV2)
                  -- a bad end: place $k, error 2; the result's variable g in the world that hr speaks of
                  refine bodyPost_ret (v := .tuple #[.agg #[.bool false, .string ⟨#[]⟩, .int .i64 0], .int .i64 (p + (n : Int)), .int .i64 2]) (by simp [results, Try.results23, go_sem, r0, r1, r2]) rfl ⟨by rw [hres.out]; simp [oneO, oneA, oneE, opZ]; have := hp.out; omega, ?_⟩
                  exact ((bb.out.setCell (p := ⟨g, 0, none⟩) (by rw [hg.out]; exact Nat.le_refl _) _).setCell (p := ⟨g, 1, none⟩) (by rw [hg.out]; exact Nat.le_refl _) _).setCell (p := ⟨g, 2, none⟩) (by rw [hg.out]; exact Nat.le_refl _) _
            · have hin' : ¬ p + (n : Int) < (s.size : Int) := hin
              have hnm := nameN_is hn8 hall.out (fun _ c hc => by have := (List.getElem?_eq_some_iff.1 hc).1; rw [hQl.out] at this; omega)
              clear hall
              clear i0 i1 i2 j0 j1 j2 r0 r1 r2
              obtain ⟨x, hx⟩ : ∃ x, x = s.extract p.toNat (p + (n : Int)).toNat := ⟨_, rfl⟩
              have hxl : x.data.toList = Q.take n := by
                rw [hx, ByteArray.data_extract, Array.toList_extract, List.extract, show (p + (n : Int)).toNat - p.toNat = n by omega, hQp.out]
              have hsl : ∀ W', (Instr.slice 9 (.string s) (some (.int .i64 p)) (some (.int .i64 (p + (n : Int)))) none).run Try.prog W' = .ok (.string x) W' := fun W' => by
                rw [run_slice_string W' _ s .i64 .i64 p (p + (n : Int)) Try.underlying9 pge (by omega) hpn, hx]
              have l1 : V.cell? ⟨g2, 1, none⟩ = some (.string ⟨#[]⟩) := kv.out.c1
              have m1 := Blk.frozen kv.out 1
              obtain ⟨V2, hV2⟩ : ∃ V2, V2 = V.setCell ⟨g2, 1, none⟩ (.string x) := ⟨_, rfl⟩
              have kv2 := Lib.hid (show Op3 V2 g2 24 (true, x, 0) from by rw [hV2]; exact Blk.set_ kv.out 1 (.string x))
              have hr3 : Op3 V2 g 24 opZ := by rw [hV2]; exact Blk.far hr2.out (by have := hgg.out; show g ≠ g2; omega) _
              have bb2 := Lib.hid (show Below w.heap.size w V2 from by rw [hV2]; exact bb.out.setCell (by have := hgg.out; have := hg.out; show w.heap.size ≤ g2; omega) _)
              replace hx := Lib.hid hx
              replace hxl := Lib.hid hxl
              replace hnm := Lib.hid hnm
              -- the result's variable g in the world V2 (hr3 : Op3 V2 g .. opZ), told anew; (Value.bool false) (Value.string ⟨#[]⟩) (Value.int .i64 0): what will be stored
              have i0 := Blk.frozen hr3 0
              have i1 := Blk.frozen hr3 1
              have i2 := Blk.frozen hr3 2
              have j0 : World.cell? V2 ⟨g, 0, none⟩ = some (.bool false) := Op3.c0 hr3
              have j1 : World.cell? V2 ⟨g, 1, none⟩ = some (.string ⟨#[]⟩) := Op3.c1 hr3
              have j2 : World.cell? V2 ⟨g, 2, none⟩ = some (.int .i64 0) := Op3.c2 hr3
              have r0 := Op3.put0 hr3 (Value.bool false)
              have r1 := Op3.put1 hr3 (Value.bool false) (Value.string ⟨#[]⟩)
              have r2 := Op3.put2 hr3 (Value.bool false) (Value.string ⟨#[]⟩) (Value.int .i64 0)
              replace hr3 := Lib.hid hr3
              clear bb
              have bb := bb2
              by_cases hn0 : n = 0
              · have hres := Lib.hid (varL_bad (w := true) hnm.out (Or.inl hn0))
                have en : ((n : Int) == 0) = true := by simp; omega
                replace hn0 := Lib.hid hn0
                go_wp2_with (rw [← hV2]; clear hV2)
                -- a bad end: place $k, error 2; the result's variable g in the world that hr speaks of
                refine bodyPost_ret (v := .tuple #[.agg #[.bool false, .string ⟨#[]⟩, .int .i64 0], .int .i64 (p + (n : Int)), .int .i64 2]) (by simp [results, Try.results23, go_sem, r0, r1, r2]) rfl ⟨by rw [hres.out]; simp [oneO, oneA, oneE, opZ]; have := hp.out; omega, ?_⟩
                exact ((bb.out.setCell (p := ⟨g, 0, none⟩) (by rw [hg.out]; exact Nat.le_refl _) _).setCell (p := ⟨g, 1, none⟩) (by rw [hg.out]; exact Nat.le_refl _) _).setCell (p := ⟨g, 2, none⟩) (by rw [hg.out]; exact Nat.le_refl _) _
              have en : ((n : Int) == 0) = false := by simp; omega
              have he : (s.size : Int) ≤ p + (n : Int) := by omega
              have hres := Lib.hid (varL_bad (w := true) hnm.out (Or.inr (by rw [hQi.out, List.getElem?_eq_none (by rw [size_list]; omega)]; simp)))
              have ee : decide ((s.size : Int) ≤ p + (n : Int)) = true := decide_eq_true he
              replace hn0 := Lib.hid hn0
              go_wp2_with (rw [← hV2]; clear hV2)
              -- a bad end: place $k, error 2; the result's variable g in the world that hr speaks of
              refine bodyPost_ret (v := .tuple #[.agg #[.bool false, .string ⟨#[]⟩, .int .i64 0], .int .i64 (p + (n : Int)), .int .i64 2]) (by simp [results, Try.results23, go_sem, r0, r1, r2]) rfl ⟨by rw [hres.out]; simp [oneO, oneA, oneE, opZ]; have := hp.out; omega, ?_⟩
              exact ((bb.out.setCell (p := ⟨g, 0, none⟩) (by rw [hg.out]; exact Nat.le_refl _) _).setCell (p := ⟨g, 1, none⟩) (by rw [hg.out]; exact Nat.le_refl _) _).setCell (p := ⟨g, 2, none⟩) (by rw [hg.out]; exact Nat.le_refl _) _
          · have hlt' : ¬ (n : Int) < 8 := by omega
            have hnm := nameN_is hn8 hall.out (fun h => absurd h hlt)
            clear hall
            clear i0 i1 i2 j0 j1 j2 r0 r1 r2
            obtain ⟨x, hx⟩ : ∃ x, x = s.extract p.toNat (p + (n : Int)).toNat := ⟨_, rfl⟩
            have hxl : x.data.toList = Q.take n := by
              rw [hx, ByteArray.data_extract, Array.toList_extract, List.extract, show (p + (n : Int)).toNat - p.toNat = n by omega, hQp.out]
            have hsl : ∀ W', (Instr.slice 9 (.string s) (some (.int .i64 p)) (some (.int .i64 (p + (n : Int)))) none).run Try.prog W' = .ok (.string x) W' := fun W' => by
              rw [run_slice_string W' _ s .i64 .i64 p (p + (n : Int)) Try.underlying9 pge (by omega) hpn, hx]
            have l1 : V.cell? ⟨g2, 1, none⟩ = some (.string ⟨#[]⟩) := kv.out.c1
            have m1 := Blk.frozen kv.out 1
            obtain ⟨V2, hV2⟩ : ∃ V2, V2 = V.setCell ⟨g2, 1, none⟩ (.string x) := ⟨_, rfl⟩
            have kv2 := Lib.hid (show Op3 V2 g2 24 (true, x, 0) from by rw [hV2]; exact Blk.set_ kv.out 1 (.string x))
            have hr3 : Op3 V2 g 24 opZ := by rw [hV2]; exact Blk.far hr2.out (by have := hgg.out; show g ≠ g2; omega) _
            have bb2 := Lib.hid (show Below w.heap.size w V2 from by rw [hV2]; exact bb.out.setCell (by have := hgg.out; have := hg.out; show w.heap.size ≤ g2; omega) _)
            replace hx := Lib.hid hx
            replace hxl := Lib.hid hxl
            replace hnm := Lib.hid hnm
            -- the result's variable g in the world V2 (hr3 : Op3 V2 g .. opZ), told anew; (Value.bool false) (Value.string ⟨#[]⟩) (Value.int .i64 0): what will be stored
            have i0 := Blk.frozen hr3 0
            have i1 := Blk.frozen hr3 1
            have i2 := Blk.frozen hr3 2
            have j0 : World.cell? V2 ⟨g, 0, none⟩ = some (.bool false) := Op3.c0 hr3
            have j1 : World.cell? V2 ⟨g, 1, none⟩ = some (.string ⟨#[]⟩) := Op3.c1 hr3
            have j2 : World.cell? V2 ⟨g, 2, none⟩ = some (.int .i64 0) := Op3.c2 hr3
            have r0 := Op3.put0 hr3 (Value.bool false)
            have r1 := Op3.put1 hr3 (Value.bool false) (Value.string ⟨#[]⟩)
            have r2 := Op3.put2 hr3 (Value.bool false) (Value.string ⟨#[]⟩) (Value.int .i64 0)
            replace hr3 := Lib.hid hr3
            clear bb
            have bb := bb2
            have hn0 : ¬ n = 0 := by omega
            have en : ((n : Int) == 0) = false := by simp; omega
            by_cases he : (s.size : Int) ≤ p + (n : Int)
            · have hres := Lib.hid (varL_bad (w := true) hnm.out (Or.inr (by rw [hQi.out, List.getElem?_eq_none (by rw [size_list]; omega)]; simp)))
              have ee : decide ((s.size : Int) ≤ p + (n : Int)) = true := decide_eq_true he
              replace hn0 := Lib.hid hn0
              go_wp2_with (rw [← hV2]; clear hV2)
              -- a bad end: place $k, error 2; the result's variable g in the world that hr speaks of
              refine bodyPost_ret (v := .tuple #[.agg #[.bool false, .string ⟨#[]⟩, .int .i64 0], .int .i64 (p + (n : Int)), .int .i64 2]) (by simp [results, Try.results23, go_sem, r0, r1, r2]) rfl ⟨by rw [hres.out]; simp [oneO, oneA, oneE, opZ]; have := hp.out; omega, ?_⟩
              exact ((bb.out.setCell (p := ⟨g, 0, none⟩) (by rw [hg.out]; exact Nat.le_refl _) _).setCell (p := ⟨g, 1, none⟩) (by rw [hg.out]; exact Nat.le_refl _) _).setCell (p := ⟨g, 2, none⟩) (by rw [hg.out]; exact Nat.le_refl _) _
            have ee : decide ((s.size : Int) ≤ p + (n : Int)) = false := decide_eq_false he
            have hpl : p + (n : Int) < (s.size : Int) := by omega
            have hpi : 0 ≤ p + (n : Int) ∧ p + (n : Int) < (s.size : Int) := ⟨by omega, hpl⟩
            obtain ⟨f, hf⟩ : ∃ f : UInt8, s[(p + (n : Int)).toNat]'(by omega) = f := ⟨_, rfl⟩
            have hfl : Q[n]? = some f := by rw [hQi.out, byte_at s _ (by omega), hf]
            by_cases h61 : f.toNat = 61
            · have hf61 : f = 61 := UInt8.toNat_inj.1 (by rw [h61]; rfl)
              have ef : ((f.toNat : Int) != 61) = false := by simp; omega
              obtain ⟨v, hv⟩ : ∃ v, v = p + (n : Int) + 1 := ⟨_, rfl⟩
              obtain ⟨m, hm⟩ : ∃ m, m = spanZ s v := ⟨_, rfl⟩
              have hvQ : s.data.toList.drop v.toNat = Q.drop (n + 1) := by
                rw [hQp.out, List.drop_drop, show p.toNat + (n + 1) = v.toNat by omega]
              have hmN : m = spanN (Q.drop (n + 1)) := by rw [hm, ← hvQ]; unfold spanZ; rw [if_pos (by omega)]
              have hmle : m ≤ s.size - v.toNat := by
                have h := spanN_le (Q.drop (n + 1))
                rw [← hmN, ← hvQ, List.length_drop, size_list] at h
                exact h
              have hvm : v + (m : Int) ≤ (s.size : Int) := by omega
              have vge : (0 : Int) ≤ v := by omega
              obtain ⟨y, hy⟩ : ∃ y, y = s.extract v.toNat (v + (m : Int)).toNat := ⟨_, rfl⟩
              have hyl : y.data.toList = numAt (Q.drop (n + 1)) := by
                rw [hy, ByteArray.data_extract, Array.toList_extract, List.extract, show (v + (m : Int)).toNat - v.toNat = m by omega, hvQ, hmN]; rfl
              have hys : y.size ≤ 1073741824 := by
                rw [← size_list, hyl]
                refine Nat.le_trans (List.length_take_le _ _) ?_
                rw [← hmN]; omega
              have hsl2 : ∀ W', (Instr.slice 9 (.string s) (some (.int .i64 v)) (some (.int .i64 (v + (m : Int)))) none).run Try.prog W' = .ok (.string y) W' := fun W' => by
                rw [run_slice_string W' _ s .i64 .i64 v (v + (m : Int)) Try.underlying9 vge (by omega) hvm, hy]
              have cS := ref5_Span s v V2 hs (by omega) (by omega)
              rw [← hm] at cS
              have cG := ref5_Get y V2 hys
              unfold RetGet at cG
              rw [hyl] at cG
              obtain ⟨gv, hgv⟩ : ∃ gv, gv = getV (numAt (Q.drop (n + 1))) := ⟨_, rfl⟩
              obtain ⟨ge, hge⟩ : ∃ ge, ge = getE (numAt (Q.drop (n + 1))) := ⟨_, rfl⟩
              rw [← hgv, ← hge] at cG
              have hbad := fun h => varL_num (w := true) hnm.out hn0 (by rw [hfl, hf61]) (by rw [← hge]; exact h)
              have hgood := fun h => varL_ok (w := true) hnm.out hn0 (by rw [hfl, hf61]) (by rw [← hge]; exact h)
              rw [← hge] at hbad
              rw [← hgv, ← hmN] at hgood
              have hva : v = a + ((3 + n : Nat) : Int) := by have := hp.out; omega
              replace hbad := Lib.hid hbad
              replace hgood := Lib.hid hgood
              replace cS := Lib.hid cS
              replace cG := Lib.hid cG
              replace hgv := Lib.hid hgv
              replace hge := Lib.hid hge
              replace hyl := Lib.hid hyl
              replace hy := Lib.hid hy
              replace hmN := Lib.hid hmN
              replace hvQ := Lib.hid hvQ
              replace hm := Lib.hid hm
              replace hva := Lib.hid hva
              replace hfl := Lib.hid hfl
              replace h61 := Lib.hid h61
              replace hf61 := Lib.hid hf61
              replace hn0 := Lib.hid hn0
              replace he := Lib.hid he
              clear hmle
              go_wp2_with (rw [← hV2]; clear hV2)
              rw [← hv]
              replace hv := Lib.hid hv
              refine cS.out.mono ?_; rintro e w3 ⟨rfl, rfl⟩
              clear i0 i1 i2 j0 j1 j2 r0 r1 r2
              go_wp2_with fail
              refine cG.out.mono ?_; rintro e w4 ⟨rfl, b4⟩
              have bb3 := Lib.hid (below_trans2 bb.out b4)
              replace kv2 := Lib.hid (kv2.out.below b4)
              have hr4 := hr3.out.below b4
              clear b4 hr3 bb bb2 hsl hsl2 cS cG
              by_cases hz : ge = 0
              · have hres := Lib.hid (hgood.out hz)
                subst hz
                have l2 : w4.cell? ⟨g2, 2, none⟩ = some (.int .i64 0) := kv2.out.c2
                have m2 := Blk.frozen kv2.out 2
                obtain ⟨W5, hW5⟩ : ∃ W5, W5 = w4.setCell ⟨g2, 2, none⟩ (.int .i64 gv) := ⟨_, rfl⟩
                have kv5 : Op3 W5 g2 24 (true, x, gv) := by rw [hW5]; exact Blk.set_ kv2.out 2 (.int .i64 gv)
                have hr5 : Op3 W5 g 24 opZ := by rw [hW5]; exact Blk.far hr4 (by have := hgg.out; show g ≠ g2; omega) _
                have bb := Lib.hid (show Below w.heap.size w W5 from by rw [hW5]; exact bb3.out.setCell (by have := hgg.out; have := hg.out; show w.heap.size ≤ g2; omega) _)
                have l0 := kv5.c0
                have l1 : W5.cell? ⟨g2, 1, none⟩ = some (.string x) := kv5.c1
                have l3 : W5.cell? ⟨g2, 2, none⟩ = some (.int .i64 gv) := kv5.c2
                -- the result's variable g in the world W5 (hr5 : Op3 W5 g .. opZ), told anew; (Value.bool true) (Value.string x) (Value.int .i64 gv): what will be stored
                have i0 := Blk.frozen hr5 0
                have i1 := Blk.frozen hr5 1
                have i2 := Blk.frozen hr5 2
                have j0 : World.cell? W5 ⟨g, 0, none⟩ = some (.bool false) := Op3.c0 hr5
                have j1 : World.cell? W5 ⟨g, 1, none⟩ = some (.string ⟨#[]⟩) := Op3.c1 hr5
                have j2 : World.cell? W5 ⟨g, 2, none⟩ = some (.int .i64 0) := Op3.c2 hr5
                have r0 := Op3.put0 hr5 (Value.bool true)
                have r1 := Op3.put1 hr5 (Value.bool true) (Value.string x)
                have r2 := Op3.put2 hr5 (Value.bool true) (Value.string x) (Value.int .i64 gv)
                replace hr5 := Lib.hid hr5
                replace kv5 := Lib.hid kv5
                clear bb3 hr4
                go_wp2_with (rw [← hW5]; clear hW5)
                refine bodyPost_ret (v := .tuple #[.agg #[.bool true, .string x, .int .i64 gv], .int .i64 (v + (m : Int)), .int .i64 0]) (by simp [results, Try.results23, go_sem, r0, r1, r2]) rfl ⟨?_, ?_⟩
                · rw [hres.out, ← hxl.out]
                  have e1 : a + ((3 + n + m : Nat) : Int) = v + (m : Int) := by have := hva.out; omega
                  show Ending.returned _ = Ending.returned (.tuple #[.agg #[.bool true, .string ⟨x.data.toList.toArray⟩, .int .i64 gv], .int .i64 (a + ((3 + n + m : Nat) : Int)), .int .i64 0])
                  rw [e1]
                · exact ((bb.out.setCell (p := ⟨g, 0, none⟩) (by rw [hg.out]; exact Nat.le_refl _) _).setCell (p := ⟨g, 1, none⟩) (by rw [hg.out]; exact Nat.le_refl _) _).setCell (p := ⟨g, 2, none⟩) (by rw [hg.out]; exact Nat.le_refl _) _
              · have hres := Lib.hid (hbad.out hz)
                have hz' : (ge != 0) = true := by simp [hz]
                -- the result's variable g in the world w4 (hr4 : Op3 w4 g .. opZ), told anew; (Value.bool false) (Value.string ⟨#[]⟩) (Value.int .i64 0): what will be stored
                have i0 := Blk.frozen hr4 0
                have i1 := Blk.frozen hr4 1
                have i2 := Blk.frozen hr4 2
                have j0 : World.cell? w4 ⟨g, 0, none⟩ = some (.bool false) := Op3.c0 hr4
                have j1 : World.cell? w4 ⟨g, 1, none⟩ = some (.string ⟨#[]⟩) := Op3.c1 hr4
                have j2 : World.cell? w4 ⟨g, 2, none⟩ = some (.int .i64 0) := Op3.c2 hr4
                have r0 := Op3.put0 hr4 (Value.bool false)
                have r1 := Op3.put1 hr4 (Value.bool false) (Value.string ⟨#[]⟩)
                have r2 := Op3.put2 hr4 (Value.bool false) (Value.string ⟨#[]⟩) (Value.int .i64 0)
                have bb := bb3
                replace hz := Lib.hid hz
                replace hr4 := Lib.hid hr4
                go_wp2_with fail
                -- a bad end: place $k, error ge; the result's variable g in the world that hr speaks of
                refine bodyPost_ret (v := .tuple #[.agg #[.bool false, .string ⟨#[]⟩, .int .i64 0], .int .i64 v, .int .i64 ge]) (by simp [results, Try.results23, go_sem, r0, r1, r2]) rfl ⟨by rw [hres.out]; simp [oneO, oneA, oneE, opZ]; have := hva.out; omega, ?_⟩
                exact ((bb.out.setCell (p := ⟨g, 0, none⟩) (by rw [hg.out]; exact Nat.le_refl _) _).setCell (p := ⟨g, 1, none⟩) (by rw [hg.out]; exact Nat.le_refl _) _).setCell (p := ⟨g, 2, none⟩) (by rw [hg.out]; exact Nat.le_refl _) _
            · have ef : ((f.toNat : Int) != 61) = true := by simp; omega
              have hres := Lib.hid (varL_bad (w := true) hnm.out (Or.inr (by rw [hfl]; intro h; injection h with h; subst h; exact h61 rfl)))
              replace hfl := Lib.hid hfl
              replace hn0 := Lib.hid hn0
              replace he := Lib.hid he
              go_wp2_with (rw [← hV2]; clear hV2)
              -- a bad end: place $k, error 2; the result's variable g in the world that hr speaks of
              refine bodyPost_ret (v := .tuple #[.agg #[.bool false, .string ⟨#[]⟩, .int .i64 0], .int .i64 (p + (n : Int)), .int .i64 2]) (by simp [results, Try.results23, go_sem, r0, r1, r2]) rfl ⟨by rw [hres.out]; simp [oneO, oneA, oneE, opZ]; have := hp.out; omega, ?_⟩
              exact ((bb.out.setCell (p := ⟨g, 0, none⟩) (by rw [hg.out]; exact Nat.le_refl _) _).setCell (p := ⟨g, 1, none⟩) (by rw [hg.out]; exact Nat.le_refl _) _).setCell (p := ⟨g, 2, none⟩) (by rw [hg.out]; exact Nat.le_refl _) _
      · have n5 : ((d.toNat : Int) != 58) = true := by simp; omega
        have hres : Hid (oneL (s.data.toList.drop a.toNat) = .bad 1 2) := Lib.hid (oneL_colon hcl hwr (fun d' hd' => by
          rw [hdl] at hd'; injection hd' with hd'; subst hd'; exact h58))
        replace hcl := Lib.hid hcl
        replace hdl := Lib.hid hdl
        replace hwr := Lib.hid hwr
        replace hwv := Lib.hid hwv
        replace hw := Lib.hid hw
        replace h0 := Lib.hid h0
        replace h1 := Lib.hid h1
        replace h58 := Lib.hid h58
        go_enter Try.func23, Try.ntmps23
        go_wp2_with (first | (rw [← hW, ← hg]; clear hW; replace hg := Lib.hid hg) | (rw [← hV0, ← hg2]; clear hV0; replace hg2 := Lib.hid hg2) | (rw [← hV]; clear hV))
        -- a bad end: place $k, error 2; the result's variable g in the world that hr speaks of
        refine bodyPost_ret (v := .tuple #[.agg #[.bool false, .string ⟨#[]⟩, .int .i64 0], .int .i64 (a + 1), .int .i64 2]) (by simp [results, Try.results23, go_sem, r0, r1, r2]) rfl ⟨by rw [hres.out]; simp [oneO, oneA, oneE, opZ], ?_⟩
        exact ((bb.out.setCell (p := ⟨g, 0, none⟩) (by rw [hg.out]; exact Nat.le_refl _) _).setCell (p := ⟨g, 1, none⟩) (by rw [hg.out]; exact Nat.le_refl _) _).setCell (p := ⟨g, 2, none⟩) (by rw [hg.out]; exact Nat.le_refl _) _
    · have n1 : ((c.toNat : Int) != 119) = true := by simp; omega
      have n2 : ((c.toNat : Int) != 114) = false := by simp; omega
      have n3 : ((c.toNat : Int) == 119) = false := by simp; omega
      -- false: does it write
      obtain ⟨g2, hg2⟩ : ∃ g2, g2 = W.heap.size := ⟨_, rfl⟩
      obtain ⟨V0, hV0⟩ : ∃ V0, V0 = W.alloc (.cells #[.bool false, .string ⟨#[]⟩, .int .i64 0] 24) := ⟨_, rfl⟩
      have b0 := show Below W.heap.size W V0 from by rw [hV0]; exact (Below.refl _ _).alloc (Nat.le_refl _) _
      have ko := show Op3 V0 g2 24 opZ from by rw [hV0, hg2]; exact Op3.new _ _ opZ
      obtain ⟨V, hV⟩ : ∃ V, V = (((V0.setCell ⟨g2, 0, none⟩ (.bool false)).setCell ⟨g2, 1, none⟩ (.string ⟨#[]⟩)).setCell ⟨g2, 2, none⟩ (.int .i64 0)) := ⟨_, rfl⟩
      have kv := show Op3 V g2 24 (false, ⟨#[]⟩, 0) from by rw [hV]; exact ko.put (false, ⟨#[]⟩, 0)
      have b1 := show Below W.heap.size W V from by rw [hV]; exact ((b0.setCell (p := ⟨g2, 0, none⟩) (by rw [hg2]; exact Nat.le_refl _) _).setCell (p := ⟨g2, 1, none⟩) (by rw [hg2]; exact Nat.le_refl _) _).setCell (p := ⟨g2, 2, none⟩) (by rw [hg2]; exact Nat.le_refl _) _
      have hgg : Hid (g < g2) := Lib.hid (by rw [hg2]; exact hr.lt)
      have p0 : V0.cell? ⟨g2, 0, none⟩ = some (.bool false) := ko.c0
      have p1 : V0.cell? ⟨g2, 1, none⟩ = some (.string ⟨#[]⟩) := ko.c1
      have p2 : V0.cell? ⟨g2, 2, none⟩ = some (.int .i64 0) := ko.c2
      have e0 := Blk.frozen ko 0
      have e1 := Blk.frozen ko 1
      have e2 := Blk.frozen ko 2
      replace bb := Lib.hid (below_trans2 bb.out b1)
      replace hr := hr.below b1
      have hr2 := Lib.hid hr
      have i0 := Blk.frozen hr 0
      have i1 := Blk.frozen hr 1
      have i2 := Blk.frozen hr 2
      have j0 : V.cell? ⟨g, 0, none⟩ = some (.bool false) := hr.c0
      have j1 : V.cell? ⟨g, 1, none⟩ = some (.string ⟨#[]⟩) := hr.c1
      have j2 : V.cell? ⟨g, 2, none⟩ = some (.int .i64 0) := hr.c2
      have r0 := hr.put0 (.bool false)
      have r1 := hr.put1 (.bool false) (.string ⟨#[]⟩)
      have r2 := hr.put2 (.bool false) (.string ⟨#[]⟩) (.int .i64 0)
      replace kv := Lib.hid kv
      clear ko b0 b1 hr f0 f1 f2 q0 q1 q2
      have hwr : (isW c || isR c) = true := by unfold isW isR; simp; omega
      have hwv : isW c = false := by unfold isW; simp; omega
      by_cases h1 : (s.size : Int) ≤ a + 1
      · have hres : Hid (oneL (s.data.toList.drop a.toNat) = .bad 1 2) := Lib.hid (oneL_colon hcl hwr (fun d hd => by
          have := (List.getElem?_eq_some_iff.1 hd).1
          rw [List.length_drop, size_list] at this; omega))
        replace hcl := Lib.hid hcl
        replace hwr := Lib.hid hwr
        replace hwv := Lib.hid hwv
        replace hw := Lib.hid hw
        replace h0 := Lib.hid h0
        go_enter Try.func23, Try.ntmps23
        go_wp2_with (first | (rw [← hW, ← hg]; clear hW; replace hg := Lib.hid hg) | (rw [← hV0, ← hg2]; clear hV0; replace hg2 := Lib.hid hg2) | (rw [← hV]; clear hV))
        -- a bad end: place $k, error 2; the result's variable g in the world that hr speaks of
        refine bodyPost_ret (v := .tuple #[.agg #[.bool false, .string ⟨#[]⟩, .int .i64 0], .int .i64 (a + 1), .int .i64 2]) (by simp [results, Try.results23, go_sem, r0, r1, r2]) rfl ⟨by rw [hres.out]; simp [oneO, oneA, oneE, opZ], ?_⟩
        exact ((bb.out.setCell (p := ⟨g, 0, none⟩) (by rw [hg.out]; exact Nat.le_refl _) _).setCell (p := ⟨g, 1, none⟩) (by rw [hg.out]; exact Nat.le_refl _) _).setCell (p := ⟨g, 2, none⟩) (by rw [hg.out]; exact Nat.le_refl _) _
      have h1' : a + 1 < (s.size : Int) := by omega
      have hi1 : 0 ≤ a + 1 ∧ a + 1 < (s.size : Int) := ⟨by omega, h1'⟩
      obtain ⟨d, hd⟩ : ∃ d : UInt8, s[(a + 1).toNat]'(by omega) = d := ⟨_, rfl⟩
      have hdl := at_drop s a 1 a0 d (by omega) (by simpa using hd)
      have da1 : decide ((s.size : Int) ≤ a + 1) = false := decide_eq_false h1
      by_cases h58 : d.toNat = 58
      · have n5 : ((d.toNat : Int) != 58) = false := by simp; omega
        have hvar := oneL_var hcl hwr hdl h58
        rw [hwv] at hvar
        obtain ⟨Q, hQ⟩ : ∃ Q, Q = (s.data.toList.drop a.toNat).drop 2 := ⟨_, rfl⟩
        rw [← hQ] at hvar
        rw [hvar]
        replace hvar := Lib.hid hvar
        replace hcl := Lib.hid hcl
        replace hdl := Lib.hid hdl
        replace hwr := Lib.hid hwr
        replace hwv := Lib.hid hwv
        replace hw := Lib.hid hw
        replace h0 := Lib.hid h0
        replace h1 := Lib.hid h1
        replace h58 := Lib.hid h58
        replace hQ := Lib.hid hQ
        go_enter Try.func23, Try.ntmps23
        go_wp2_with (first | (rw [← hW, ← hg]; clear hW; replace hg := Lib.hid hg) | (rw [← hV0, ← hg2]; clear hV0; replace hg2 := Lib.hid hg2) | (rw [← hV]; clear hV))
        obtain ⟨p, hp⟩ : ∃ p, p = a + 1 + 1 := ⟨_, rfl⟩
        rw [← hp]
        have pge : (0 : Int) ≤ p := by omega
        have ple : p ≤ (s.size : Int) := by have := h1.out; omega
        have hQi : ∀ j : Nat, Q[j]? = s.data.toList[(p + j).toNat]? := fun j => by
          rw [hQ.out, List.getElem?_drop, List.getElem?_drop, show a.toNat + (2 + j) = (p + (j : Int)).toNat from by omega]
        have hQp : Hid (Q = s.data.toList.drop p.toNat) := Lib.hid (by rw [hQ.out, List.drop_drop, show a.toNat + 2 = p.toNat from by omega])
        have hQl : Q.length = s.size - p.toNat := by rw [hQ.out, List.length_drop, List.length_drop, size_list]; omega
        replace hQi := Lib.hid hQi
        replace hQl := Lib.hid hQl
        replace hp := Lib.hid hp
        clear hi hi1 n1 n5 da da1 hc hd p0 p1 p2 e0 e1 e2 V0 h0'
        go_loop [8] (fun t => ∃ n : Nat, t = .int .i64 n ∧ n ≤ 8 ∧ p + n ≤ (s.size : Int) ∧ Hid (∀ j, j < n → ∃ c, Q[j]? = some c ∧ isAZ c = true)) (fun t => 8 - (intOf t).toNat)
        case atStart => exact ⟨0, rfl, by omega, by omega, Lib.hid (fun j hj => absurd hj (by omega))⟩
        case round =>
          obtain ⟨n, rfl, hn8, hpn, hall⟩ := hrel
          by_cases hlt : n < 8
          · have hlt' : (n : Int) < 8 := by omega
            by_cases hin : p + (n : Int) < (s.size : Int)
            · have hix : 0 ≤ p + (n : Int) ∧ p + (n : Int) < (s.size : Int) := ⟨by omega, hin⟩
              obtain ⟨b, hb⟩ : ∃ b : UInt8, s[(p + (n : Int)).toNat]'(by omega) = b := ⟨_, rfl⟩
              have hbl : Q[n]? = some b := by rw [hQi.out, byte_at s _ (by omega), hb]
              by_cases h97 : 97 ≤ b.toNat
              · by_cases h122 : b.toNat ≤ 122
                · have x1 : (97 : Int) ≤ (b.toNat : Int) := by omega
                  have x2 : (b.toNat : Int) ≤ 122 := by omega
                  have hall' : Hid (∀ j, j < n + 1 → ∃ c, Q[j]? = some c ∧ isAZ c = true) := Lib.hid (fun j hj => by
                    rcases Nat.lt_succ_iff_lt_or_eq.1 hj with h1 | h1
                    · exact hall.out j h1
                    · subst h1; exact ⟨b, hbl, by unfold isAZ; simp [h97, h122]⟩)
                  replace hbl := Lib.hid hbl
                  clear hall h97 h122
                  go_wp2_with fail
                  go_round
                  case rel => exact ⟨n + 1, by go_num, by omega, by omega, hall'⟩
                  case measure => simp [intOf]; omega
                · have x1 : (97 : Int) ≤ (b.toNat : Int) := by omega
                  have x2 : ¬ (b.toNat : Int) ≤ 122 := by omega
                  have hnm := nameN_is hn8 hall.out (fun _ c hc => by rw [hbl] at hc; injection hc with hc; subst hc; unfold isAZ; simp; omega)
                  replace hbl := Lib.hid hbl
                  clear hall h97 h122
                  clear i0 i1 i2 j0 j1 j2 r0 r1 r2
                  obtain ⟨x, hx⟩ : ∃ x, x = s.extract p.toNat (p + (n : Int)).toNat := ⟨_, rfl⟩
                  have hxl : x.data.toList = Q.take n := by
                    rw [hx, ByteArray.data_extract, Array.toList_extract, List.extract, show (p + (n : Int)).toNat - p.toNat = n by omega, hQp.out]
                  have hsl : ∀ W', (Instr.slice 9 (.string s) (some (.int .i64 p)) (some (.int .i64 (p + (n : Int)))) none).run Try.prog W' = .ok (.string x) W' := fun W' => by
                    rw [run_slice_string W' _ s .i64 .i64 p (p + (n : Int)) Try.underlying9 pge (by omega) hpn, hx]
                  have l1 : V.cell? ⟨g2, 1, none⟩ = some (.string ⟨#[]⟩) := kv.out.c1
                  have m1 := Blk.frozen kv.out 1
                  obtain ⟨V2, hV2⟩ : ∃ V2, V2 = V.setCell ⟨g2, 1, none⟩ (.string x) := ⟨_, rfl⟩
                  have kv2 := Lib.hid (show Op3 V2 g2 24 (false, x, 0) from by rw [hV2]; exact Blk.set_ kv.out 1 (.string x))
                  have hr3 : Op3 V2 g 24 opZ := by rw [hV2]; exact Blk.far hr2.out (by have := hgg.out; show g ≠ g2; omega) _
                  have bb2 := Lib.hid (show Below w.heap.size w V2 from by rw [hV2]; exact bb.out.setCell (by have := hgg.out; have := hg.out; show w.heap.size ≤ g2; omega) _)
                  replace hx := Lib.hid hx
                  replace hxl := Lib.hid hxl
                  replace hnm := Lib.hid hnm
                  -- the result's variable g in the world V2 (hr3 : Op3 V2 g .. opZ), told anew; (Value.bool false) (Value.string ⟨#[]⟩) (Value.int .i64 0): what will be stored
                  have i0 := Blk.frozen hr3 0
                  have i1 := Blk.frozen hr3 1
                  have i2 := Blk.frozen hr3 2
                  have j0 : World.cell? V2 ⟨g, 0, none⟩ = some (.bool false) := Op3.c0 hr3
                  have j1 : World.cell? V2 ⟨g, 1, none⟩ = some (.string ⟨#[]⟩) := Op3.c1 hr3
                  have j2 : World.cell? V2 ⟨g, 2, none⟩ = some (.int .i64 0) := Op3.c2 hr3
                  have r0 := Op3.put0 hr3 (Value.bool false)
                  have r1 := Op3.put1 hr3 (Value.bool false) (Value.string ⟨#[]⟩)
                  have r2 := Op3.put2 hr3 (Value.bool false) (Value.string ⟨#[]⟩) (Value.int .i64 0)
                  replace hr3 := Lib.hid hr3
                  clear bb
                  have bb := bb2
                  by_cases hn0 : n = 0
                  · have hres := Lib.hid (varL_bad (w := false) hnm.out (Or.inl hn0))
                    have en : ((n : Int) == 0) = true := by simp; omega
                    replace hn0 := Lib.hid hn0
                    go_wp2_with (rw [← hV2]; clear hV2)
                    -- a bad end: place $k, error 2; the result's variable g in the world that hr speaks of
                    refine bodyPost_ret (v := .tuple #[.agg #[.bool false, .string ⟨#[]⟩, .int .i64 0], .int .i64 (p + (n : Int)), .int .i64 2]) (by simp [results, Try.results23, go_sem, r0, r1, r2]) rfl ⟨by rw [hres.out]; simp [oneO, oneA, oneE, opZ]; have := hp.out; omega, ?_⟩
                    exact ((bb.out.setCell (p := ⟨g, 0, none⟩) (by rw [hg.out]; exact Nat.le_refl _) _).setCell (p := ⟨g, 1, none⟩) (by rw [hg.out]; exact Nat.le_refl _) _).setCell (p := ⟨g, 2, none⟩) (by rw [hg.out]; exact Nat.le_refl _) _
                  have en : ((n : Int) == 0) = false := by simp; omega
                  have he : ¬ (s.size : Int) ≤ p + (n : Int) := by omega
                  have ee : decide ((s.size : Int) ≤ p + (n : Int)) = false := decide_eq_false he
                  have hpl : p + (n : Int) < (s.size : Int) := by omega
                  have hpi : 0 ≤ p + (n : Int) ∧ p + (n : Int) < (s.size : Int) := ⟨by omega, hpl⟩
                  have hf := hb
                  clear hb
                  have hfl : Q[n]? = some b := by rw [hQi.out, byte_at s _ (by omega), hf]
                  by_cases h61 : b.toNat = 61
                  · have hf61 : b = 61 := UInt8.toNat_inj.1 (by rw [h61]; rfl)
                    have ef : ((b.toNat : Int) != 61) = false := by simp; omega
                    obtain ⟨v, hv⟩ : ∃ v, v = p + (n : Int) + 1 := ⟨_, rfl⟩
                    obtain ⟨m, hm⟩ : ∃ m, m = spanZ s v := ⟨_, rfl⟩
                    have hvQ : s.data.toList.drop v.toNat = Q.drop (n + 1) := by
                      rw [hQp.out, List.drop_drop, show p.toNat + (n + 1) = v.toNat by omega]
                    have hmN : m = spanN (Q.drop (n + 1)) := by rw [hm, ← hvQ]; unfold spanZ; rw [if_pos (by omega)]
                    have hmle : m ≤ s.size - v.toNat := by
                      have h := spanN_le (Q.drop (n + 1))
                      rw [← hmN, ← hvQ, List.length_drop, size_list] at h
                      exact h
                    have hvm : v + (m : Int) ≤ (s.size : Int) := by omega
                    have vge : (0 : Int) ≤ v := by omega
                    obtain ⟨y, hy⟩ : ∃ y, y = s.extract v.toNat (v + (m : Int)).toNat := ⟨_, rfl⟩
                    have hyl : y.data.toList = numAt (Q.drop (n + 1)) := by
                      rw [hy, ByteArray.data_extract, Array.toList_extract, List.extract, show (v + (m : Int)).toNat - v.toNat = m by omega, hvQ, hmN]; rfl
                    have hys : y.size ≤ 1073741824 := by
                      rw [← size_list, hyl]
                      refine Nat.le_trans (List.length_take_le _ _) ?_
                      rw [← hmN]; omega
                    have hsl2 : ∀ W', (Instr.slice 9 (.string s) (some (.int .i64 v)) (some (.int .i64 (v + (m : Int)))) none).run Try.prog W' = .ok (.string y) W' := fun W' => by
                      rw [run_slice_string W' _ s .i64 .i64 v (v + (m : Int)) Try.underlying9 vge (by omega) hvm, hy]
                    have cS := ref5_Span s v V2 hs (by omega) (by omega)
                    rw [← hm] at cS
                    have cG := ref5_Get y V2 hys
                    unfold RetGet at cG
                    rw [hyl] at cG
                    obtain ⟨gv, hgv⟩ : ∃ gv, gv = getV (numAt (Q.drop (n + 1))) := ⟨_, rfl⟩
                    obtain ⟨ge, hge⟩ : ∃ ge, ge = getE (numAt (Q.drop (n + 1))) := ⟨_, rfl⟩
                    rw [← hgv, ← hge] at cG
                    have hbad := fun h => varL_num (w := false) hnm.out hn0 (by rw [hfl, hf61]) (by rw [← hge]; exact h)
                    have hgood := fun h => varL_ok (w := false) hnm.out hn0 (by rw [hfl, hf61]) (by rw [← hge]; exact h)
                    rw [← hge] at hbad
                    rw [← hgv, ← hmN] at hgood
                    have hva : v = a + ((3 + n : Nat) : Int) := by have := hp.out; omega
                    replace hbad := Lib.hid hbad
                    replace hgood := Lib.hid hgood
                    replace cS := Lib.hid cS
                    replace cG := Lib.hid cG
                    replace hgv := Lib.hid hgv
                    replace hge := Lib.hid hge
                    replace hyl := Lib.hid hyl
                    replace hy := Lib.hid hy
                    replace hmN := Lib.hid hmN
                    replace hvQ := Lib.hid hvQ
                    replace hm := Lib.hid hm
                    replace hva := Lib.hid hva
                    replace hfl := Lib.hid hfl
                    replace h61 := Lib.hid h61
                    replace hf61 := Lib.hid hf61
                    replace hn0 := Lib.hid hn0
                    replace he := Lib.hid he
                    clear hmle
                    go_wp2_with (rw [← hV2]; clear hV2)
                    rw [← hv]
                    replace hv := Lib.hid hv
                    refine cS.out.mono ?_; rintro e w3 ⟨rfl, rfl⟩
                    clear i0 i1 i2 j0 j1 j2 r0 r1 r2
                    go_wp2_with fail
                    refine cG.out.mono ?_; rintro e w4 ⟨rfl, b4⟩
                    have bb3 := Lib.hid (below_trans2 bb.out b4)
                    replace kv2 := Lib.hid (kv2.out.below b4)
                    have hr4 := hr3.out.below b4
                    clear b4 hr3 bb bb2 hsl hsl2 cS cG
                    by_cases hz : ge = 0
                    · have hres := Lib.hid (hgood.out hz)
                      subst hz
                      have l2 : w4.cell? ⟨g2, 2, none⟩ = some (.int .i64 0) := kv2.out.c2
                      have m2 := Blk.frozen kv2.out 2
                      obtain ⟨W5, hW5⟩ : ∃ W5, W5 = w4.setCell ⟨g2, 2, none⟩ (.int .i64 gv) := ⟨_, rfl⟩
                      have kv5 : Op3 W5 g2 24 (false, x, gv) := by rw [hW5]; exact Blk.set_ kv2.out 2 (.int .i64 gv)
                      have hr5 : Op3 W5 g 24 opZ := by rw [hW5]; exact Blk.far hr4 (by have := hgg.out; show g ≠ g2; omega) _
                      have bb := Lib.hid (show Below w.heap.size w W5 from by rw [hW5]; exact bb3.out.setCell (by have := hgg.out; have := hg.out; show w.heap.size ≤ g2; omega) _)
                      have l0 := kv5.c0
                      have l1 : W5.cell? ⟨g2, 1, none⟩ = some (.string x) := kv5.c1
                      have l3 : W5.cell? ⟨g2, 2, none⟩ = some (.int .i64 gv) := kv5.c2
                      -- the result's variable g in the world W5 (hr5 : Op3 W5 g .. opZ), told anew; (Value.bool false) (Value.string x) (Value.int .i64 gv): what will be stored
                      have i0 := Blk.frozen hr5 0
                      have i1 := Blk.frozen hr5 1
                      have i2 := Blk.frozen hr5 2
                      have j0 : World.cell? W5 ⟨g, 0, none⟩ = some (.bool false) := Op3.c0 hr5
                      have j1 : World.cell? W5 ⟨g, 1, none⟩ = some (.string ⟨#[]⟩) := Op3.c1 hr5
                      have j2 : World.cell? W5 ⟨g, 2, none⟩ = some (.int .i64 0) := Op3.c2 hr5
                      have r0 := Op3.put0 hr5 (Value.bool false)
                      have r1 := Op3.put1 hr5 (Value.bool false) (Value.string x)
                      have r2 := Op3.put2 hr5 (Value.bool false) (Value.string x) (Value.int .i64 gv)
                      replace hr5 := Lib.hid hr5
                      replace kv5 := Lib.hid kv5
                      clear bb3 hr4
                      go_wp2_with (rw [← hW5]; clear hW5)
                      refine bodyPost_ret (v := .tuple #[.agg #[.bool false, .string x, .int .i64 gv], .int .i64 (v + (m : Int)), .int .i64 0]) (by simp [results, Try.results23, go_sem, r0, r1, r2]) rfl ⟨?_, ?_⟩
                      · rw [hres.out, ← hxl.out]
                        have e1 : a + ((3 + n + m : Nat) : Int) = v + (m : Int) := by have := hva.out; omega
                        show Ending.returned _ = Ending.returned (.tuple #[.agg #[.bool false, .string ⟨x.data.toList.toArray⟩, .int .i64 gv], .int .i64 (a + ((3 + n + m : Nat) : Int)), .int .i64 0])
                        rw [e1]
                      · exact ((bb.out.setCell (p := ⟨g, 0, none⟩) (by rw [hg.out]; exact Nat.le_refl _) _).setCell (p := ⟨g, 1, none⟩) (by rw [hg.out]; exact Nat.le_refl _) _).setCell (p := ⟨g, 2, none⟩) (by rw [hg.out]; exact Nat.le_refl _) _
                    · have hres := Lib.hid (hbad.out hz)
                      have hz' : (ge != 0) = true := by simp [hz]
                      -- the result's variable g in the world w4 (hr4 : Op3 w4 g .. opZ), told anew; (Value.bool false) (Value.string ⟨#[]⟩) (Value.int .i64 0): what will be stored
                      have i0 := Blk.frozen hr4 0
                      have i1 := Blk.frozen hr4 1
                      have i2 := Blk.frozen hr4 2
                      have j0 : World.cell? w4 ⟨g, 0, none⟩ = some (.bool false) := Op3.c0 hr4
                      have j1 : World.cell? w4 ⟨g, 1, none⟩ = some (.string ⟨#[]⟩) := Op3.c1 hr4
                      have j2 : World.cell? w4 ⟨g, 2, none⟩ = some (.int .i64 0) := Op3.c2 hr4
                      have r0 := Op3.put0 hr4 (Value.bool false)
                      have r1 := Op3.put1 hr4 (Value.bool false) (Value.string ⟨#[]⟩)
                      have r2 := Op3.put2 hr4 (Value.bool false) (Value.string ⟨#[]⟩) (Value.int .i64 0)
                      have bb := bb3
                      replace hz := Lib.hid hz
                      replace hr4 := Lib.hid hr4
                      go_wp2_with fail
                      -- a bad end: place $k, error ge; the result's variable g in the world that hr speaks of
                      refine bodyPost_ret (v := .tuple #[.agg #[.bool false, .string ⟨#[]⟩, .int .i64 0], .int .i64 v, .int .i64 ge]) (by simp [results, Try.results23, go_sem, r0, r1, r2]) rfl ⟨by rw [hres.out]; simp [oneO, oneA, oneE, opZ]; have := hva.out; omega, ?_⟩
                      exact ((bb.out.setCell (p := ⟨g, 0, none⟩) (by rw [hg.out]; exact Nat.le_refl _) _).setCell (p := ⟨g, 1, none⟩) (by rw [hg.out]; exact Nat.le_refl _) _).setCell (p := ⟨g, 2, none⟩) (by rw [hg.out]; exact Nat.le_refl _) _
                  · have ef : ((b.toNat : Int) != 61) = true := by simp; omega
                    have hres := Lib.hid (varL_bad (w := false) hnm.out (Or.inr (by rw [hfl]; intro h; injection h with h; subst h; exact h61 rfl)))
                    replace hfl := Lib.hid hfl
                    replace hn0 := Lib.hid hn0
                    replace he := Lib.hid he
                    go_wp2_with (rw [← hV2]; clear hV2)
                    -- a bad end: place $k, error 2; the result's variable g in the world that hr speaks of
                    refine bodyPost_ret (v := .tuple #[.agg #[.bool false, .string ⟨#[]⟩, .int .i64 0], .int .i64 (p + (n : Int)), .int .i64 2]) (by simp [results, Try.results23, go_sem, r0, r1, r2]) rfl ⟨by rw [hres.out]; simp [oneO, oneA, oneE, opZ]; have := hp.out; omega, ?_⟩
                    exact ((bb.out.setCell (p := ⟨g, 0, none⟩) (by rw [hg.out]; exact Nat.le_refl _) _).setCell (p := ⟨g, 1, none⟩) (by rw [hg.out]; exact Nat.le_refl _) _).setCell (p := ⟨g, 2, none⟩) (by rw [hg.out]; exact Nat.le_refl _) _
              · have x1 : ¬ (97 : Int) ≤ (b.toNat : Int) := by omega
                have hnm := nameN_is hn8 hall.out (fun _ c hc => by rw [hbl] at hc; injection hc with hc; subst hc; unfold isAZ; simp; omega)
                replace hbl := Lib.hid hbl
                clear hall h97
                clear i0 i1 i2 j0 j1 j2 r0 r1 r2
                obtain ⟨x, hx⟩ : ∃ x, x = s.extract p.toNat (p + (n : Int)).toNat := ⟨_, rfl⟩
                have hxl : x.data.toList = Q.take n := by
                  rw [hx, ByteArray.data_extract, Array.toList_extract, List.extract, show (p + (n : Int)).toNat - p.toNat = n by omega, hQp.out]
                have hsl : ∀ W', (Instr.slice 9 (.string s) (some (.int .i64 p)) (some (.int .i64 (p + (n : Int)))) none).run Try.prog W' = .ok (.string x) W' := fun W' => by
                  rw [run_slice_string W' _ s .i64 .i64 p (p + (n : Int)) Try.underlying9 pge (by omega) hpn, hx]
                have l1 : V.cell? ⟨g2, 1, none⟩ = some (.string ⟨#[]⟩) := kv.out.c1
                have m1 := Blk.frozen kv.out 1
                obtain ⟨V2, hV2⟩ : ∃ V2, V2 = V.setCell ⟨g2, 1, none⟩ (.string x) := ⟨_, rfl⟩
                have kv2 := Lib.hid (show Op3 V2 g2 24 (false, x, 0) from by rw [hV2]; exact Blk.set_ kv.out 1 (.string x))
                have hr3 : Op3 V2 g 24 opZ := by rw [hV2]; exact Blk.far hr2.out (by have := hgg.out; show g ≠ g2; omega) _
                have bb2 := Lib.hid (show Below w.heap.size w V2 from by rw [hV2]; exact bb.out.setCell (by have := hgg.out; have := hg.out; show w.heap.size ≤ g2; omega) _)
                replace hx := Lib.hid hx
                replace hxl := Lib.hid hxl
                replace hnm := Lib.hid hnm
                -- the result's variable g in the world V2 (hr3 : Op3 V2 g .. opZ), told anew; (Value.bool false) (Value.string ⟨#[]⟩) (Value.int .i64 0): what will be stored
                have i0 := Blk.frozen hr3 0
                have i1 := Blk.frozen hr3 1
                have i2 := Blk.frozen hr3 2
                have j0 : World.cell? V2 ⟨g, 0, none⟩ = some (.bool false) := Op3.c0 hr3
                have j1 : World.cell? V2 ⟨g, 1, none⟩ = some (.string ⟨#[]⟩) := Op3.c1 hr3
                have j2 : World.cell? V2 ⟨g, 2, none⟩ = some (.int .i64 0) := Op3.c2 hr3
                have r0 := Op3.put0 hr3 (Value.bool false)
                have r1 := Op3.put1 hr3 (Value.bool false) (Value.string ⟨#[]⟩)
                have r2 := Op3.put2 hr3 (Value.bool false) (Value.string ⟨#[]⟩) (Value.int .i64 0)
                replace hr3 := Lib.hid hr3
                clear bb
                have bb := bb2
                by_cases hn0 : n = 0
                · have hres := Lib.hid (varL_bad (w := false) hnm.out (Or.inl hn0))
                  have en : ((n : Int) == 0) = true := by simp; omega
                  replace hn0 := Lib.hid hn0
                  go_wp2_with (rw [← hV2]; clear hV2)
                  -- a bad end: place $k, error 2; the result's variable g in the world that hr speaks of
                  refine bodyPost_ret (v := .tuple #[.agg #[.bool false, .string ⟨#[]⟩, .int .i64 0], .int .i64 (p + (n : Int)), .int .i64 2]) (by simp [results, Try.results23, go_sem, r0, r1, r2]) rfl ⟨by rw [hres.out]; simp [oneO, oneA, oneE, opZ]; have := hp.out; omega, ?_⟩
                  exact ((bb.out.setCell (p := ⟨g, 0, none⟩) (by rw [hg.out]; exact Nat.le_refl _) _).setCell (p := ⟨g, 1, none⟩) (by rw [hg.out]; exact Nat.le_refl _) _).setCell (p := ⟨g, 2, none⟩) (by rw [hg.out]; exact Nat.le_refl _) _
                have en : ((n : Int) == 0) = false := by simp; omega
                have he : ¬ (s.size : Int) ≤ p + (n : Int) := by omega
                have ee : decide ((s.size : Int) ≤ p + (n : Int)) = false := decide_eq_false he
                have hpl : p + (n : Int) < (s.size : Int) := by omega
                have hpi : 0 ≤ p + (n : Int) ∧ p + (n : Int) < (s.size : Int) := ⟨by omega, hpl⟩
                have hf := hb
                clear hb
                have hfl : Q[n]? = some b := by rw [hQi.out, byte_at s _ (by omega), hf]
                by_cases h61 : b.toNat = 61
                · have hf61 : b = 61 := UInt8.toNat_inj.1 (by rw [h61]; rfl)
                  have ef : ((b.toNat : Int) != 61) = false := by simp; omega
                  obtain ⟨v, hv⟩ : ∃ v, v = p + (n : Int) + 1 := ⟨_, rfl⟩
                  obtain ⟨m, hm⟩ : ∃ m, m = spanZ s v := ⟨_, rfl⟩
                  have hvQ : s.data.toList.drop v.toNat = Q.drop (n + 1) := by
                    rw [hQp.out, List.drop_drop, show p.toNat + (n + 1) = v.toNat by omega]
                  have hmN : m = spanN (Q.drop (n + 1)) := by rw [hm, ← hvQ]; unfold spanZ; rw [if_pos (by omega)]
                  have hmle : m ≤ s.size - v.toNat := by
                    have h := spanN_le (Q.drop (n + 1))
                    rw [← hmN, ← hvQ, List.length_drop, size_list] at h
                    exact h
                  have hvm : v + (m : Int) ≤ (s.size : Int) := by omega
                  have vge : (0 : Int) ≤ v := by omega
                  obtain ⟨y, hy⟩ : ∃ y, y = s.extract v.toNat (v + (m : Int)).toNat := ⟨_, rfl⟩
                  have hyl : y.data.toList = numAt (Q.drop (n + 1)) := by
                    rw [hy, ByteArray.data_extract, Array.toList_extract, List.extract, show (v + (m : Int)).toNat - v.toNat = m by omega, hvQ, hmN]; rfl
                  have hys : y.size ≤ 1073741824 := by
                    rw [← size_list, hyl]
                    refine Nat.le_trans (List.length_take_le _ _) ?_
                    rw [← hmN]; omega
                  have hsl2 : ∀ W', (Instr.slice 9 (.string s) (some (.int .i64 v)) (some (.int .i64 (v + (m : Int)))) none).run Try.prog W' = .ok (.string y) W' := fun W' => by
                    rw [run_slice_string W' _ s .i64 .i64 v (v + (m : Int)) Try.underlying9 vge (by omega) hvm, hy]
                  have cS := ref5_Span s v V2 hs (by omega) (by omega)
                  rw [← hm] at cS
                  have cG := ref5_Get y V2 hys
                  unfold RetGet at cG
                  rw [hyl] at cG
                  obtain ⟨gv, hgv⟩ : ∃ gv, gv = getV (numAt (Q.drop (n + 1))) := ⟨_, rfl⟩
                  obtain ⟨ge, hge⟩ : ∃ ge, ge = getE (numAt (Q.drop (n + 1))) := ⟨_, rfl⟩
                  rw [← hgv, ← hge] at cG
                  have hbad := fun h => varL_num (w := false) hnm.out hn0 (by rw [hfl, hf61]) (by rw [← hge]; exact h)
                  have hgood := fun h => varL_ok (w := false) hnm.out hn0 (by rw [hfl, hf61]) (by rw [← hge]; exact h)
                  rw [← hge] at hbad
                  rw [← hgv, ← hmN] at hgood
                  have hva : v = a + ((3 + n : Nat) : Int) := by have := hp.out; omega
                  replace hbad := Lib.hid hbad
                  replace hgood := Lib.hid hgood
                  replace cS := Lib.hid cS
                  replace cG := Lib.hid cG
                  replace hgv := Lib.hid hgv
                  replace hge := Lib.hid hge
                  replace hyl := Lib.hid hyl
                  replace hy := Lib.hid hy
                  replace hmN := Lib.hid hmN
                  replace hvQ := Lib.hid hvQ
                  replace hm := Lib.hid hm
                  replace hva := Lib.hid hva
                  replace hfl := Lib.hid hfl
                  replace h61 := Lib.hid h61
                  replace hf61 := Lib.hid hf61
                  replace hn0 := Lib.hid hn0
                  replace he := Lib.hid he
                  clear hmle
                  go_wp2_with (rw [← hV2]; clear hV2)
                  rw [← hv]
                  replace hv := Lib.hid hv
                  refine cS.out.mono ?_; rintro e w3 ⟨rfl, rfl⟩
                  clear i0 i1 i2 j0 j1 j2 r0 r1 r2
                  go_wp2_with fail
                  refine cG.out.mono ?_; rintro e w4 ⟨rfl, b4⟩
                  have bb3 := Lib.hid (below_trans2 bb.out b4)
                  replace kv2 := Lib.hid (kv2.out.below b4)
                  have hr4 := hr3.out.below b4
                  clear b4 hr3 bb bb2 hsl hsl2 cS cG
                  by_cases hz : ge = 0
                  · have hres := Lib.hid (hgood.out hz)
                    subst hz
                    have l2 : w4.cell? ⟨g2, 2, none⟩ = some (.int .i64 0) := kv2.out.c2
                    have m2 := Blk.frozen kv2.out 2
                    obtain ⟨W5, hW5⟩ : ∃ W5, W5 = w4.setCell ⟨g2, 2, none⟩ (.int .i64 gv) := ⟨_, rfl⟩
                    have kv5 : Op3 W5 g2 24 (false, x, gv) := by rw [hW5]; exact Blk.set_ kv2.out 2 (.int .i64 gv)
                    have hr5 : Op3 W5 g 24 opZ := by rw [hW5]; exact Blk.far hr4 (by have := hgg.out; show g ≠ g2; omega) _
                    have bb := Lib.hid (show Below w.heap.size w W5 from by rw [hW5]; exact bb3.out.setCell (by have := hgg.out; have := hg.out; show w.heap.size ≤ g2; omega) _)
                    have l0 := kv5.c0
                    have l1 : W5.cell? ⟨g2, 1, none⟩ = some (.string x) := kv5.c1
                    have l3 : W5.cell? ⟨g2, 2, none⟩ = some (.int .i64 gv) := kv5.c2
                    -- the result's variable g in the world W5 (hr5 : Op3 W5 g .. opZ), told anew; (Value.bool false) (Value.string x) (Value.int .i64 gv): what will be stored
                    have i0 := Blk.frozen hr5 0
                    have i1 := Blk.frozen hr5 1
                    have i2 := Blk.frozen hr5 2
                    have j0 : World.cell? W5 ⟨g, 0, none⟩ = some (.bool false) := Op3.c0 hr5
                    have j1 : World.cell? W5 ⟨g, 1, none⟩ = some (.string ⟨#[]⟩) := Op3.c1 hr5
                    have j2 : World.cell? W5 ⟨g, 2, none⟩ = some (.int .i64 0) := Op3.c2 hr5
                    have r0 := Op3.put0 hr5 (Value.bool false)
                    have r1 := Op3.put1 hr5 (Value.bool false) (Value.string x)
                    have r2 := Op3.put2 hr5 (Value.bool false) (Value.string x) (Value.int .i64 gv)
                    replace hr5 := Lib.hid hr5
                    replace kv5 := Lib.hid kv5
                    clear bb3 hr4
                    go_wp2_with (rw [← hW5]; clear hW5)
                    refine bodyPost_ret (v := .tuple #[.agg #[.bool false, .string x, .int .i64 gv], .int .i64 (v + (m : Int)), .int .i64 0]) (by simp [results, Try.results23, go_sem, r0, r1, r2]) rfl ⟨?_, ?_⟩
                    · rw [hres.out, ← hxl.out]
                      have e1 : a + ((3 + n + m : Nat) : Int) = v + (m : Int) := by have := hva.out; omega
                      show Ending.returned _ = Ending.returned (.tuple #[.agg #[.bool false, .string ⟨x.data.toList.toArray⟩, .int .i64 gv], .int .i64 (a + ((3 + n + m : Nat) : Int)), .int .i64 0])
                      rw [e1]
                    · exact ((bb.out.setCell (p := ⟨g, 0, none⟩) (by rw [hg.out]; exact Nat.le_refl _) _).setCell (p := ⟨g, 1, none⟩) (by rw [hg.out]; exact Nat.le_refl _) _).setCell (p := ⟨g, 2, none⟩) (by rw [hg.out]; exact Nat.le_refl _) _
                  · have hres := Lib.hid (hbad.out hz)
                    have hz' : (ge != 0) = true := by simp [hz]
                    -- the result's variable g in the world w4 (hr4 : Op3 w4 g .. opZ), told anew; (Value.bool false) (Value.string ⟨#[]⟩) (Value.int .i64 0): what will be stored
                    have i0 := Blk.frozen hr4 0
                    have i1 := Blk.frozen hr4 1
                    have i2 := Blk.frozen hr4 2
                    have j0 : World.cell? w4 ⟨g, 0, none⟩ = some (.bool false) := Op3.c0 hr4
                    have j1 : World.cell? w4 ⟨g, 1, none⟩ = some (.string ⟨#[]⟩) := Op3.c1 hr4
                    have j2 : World.cell? w4 ⟨g, 2, none⟩ = some (.int .i64 0) := Op3.c2 hr4
                    have r0 := Op3.put0 hr4 (Value.bool false)
                    have r1 := Op3.put1 hr4 (Value.bool false) (Value.string ⟨#[]⟩)
                    have r2 := Op3.put2 hr4 (Value.bool false) (Value.string ⟨#[]⟩) (Value.int .i64 0)
                    have bb := bb3
                    replace hz := Lib.hid hz
                    replace hr4 := Lib.hid hr4
                    go_wp2_with fail
                    -- a bad end: place $k, error ge; the result's variable g in the world that hr speaks of
                    refine bodyPost_ret (v := .tuple #[.agg #[.bool false, .string ⟨#[]⟩, .int .i64 0], .int .i64 v, .int .i64 ge]) (by simp [results, Try.results23, go_sem, r0, r1, r2]) rfl ⟨by rw [hres.out]; simp [oneO, oneA, oneE, opZ]; have := hva.out; omega, ?_⟩
                    exact ((bb.out.setCell (p := ⟨g, 0, none⟩) (by rw [hg.out]; exact Nat.le_refl _) _).setCell (p := ⟨g, 1, none⟩) (by rw [hg.out]; exact Nat.le_refl _) _).setCell (p := ⟨g, 2, none⟩) (by rw [hg.out]; exact Nat.le_refl _) _
                · have ef : ((b.toNat : Int) != 61) = true := by simp; omega
                  have hres := Lib.hid (varL_bad (w := false) hnm.out (Or.inr (by rw [hfl]; intro h; injection h with h; subst h; exact h61 rfl)))
                  replace hfl := Lib.hid hfl
                  replace hn0 := Lib.hid hn0
                  replace he := Lib.hid he
                  go_wp2_with (rw [← hV2]; clear hV2)
                  -- a bad end: place $k, error 2; the result's variable g in the world that hr speaks of
                  refine bodyPost_ret (v := .tuple #[.agg #[.bool false, .string ⟨#[]⟩, .int .i64 0], .int .i64 (p + (n : Int)), .int .i64 2]) (by simp [results, Try.results23, go_sem, r0, r1, r2]) rfl ⟨by rw [hres.out]; simp [oneO, oneA, oneE, opZ]; have := hp.out; omega, ?_⟩
                  exact ((bb.out.setCell (p := ⟨g, 0, none⟩) (by rw [hg.out]; exact Nat.le_refl _) _).setCell (p := ⟨g, 1, none⟩) (by rw [hg.out]; exact Nat.le_refl _) _).setCell (p := ⟨g, 2, none⟩) (by rw [hg.out]; exact Nat.le_refl _) _
            · have hin' : ¬ p + (n : Int) < (s.size : Int) := hin
              have hnm := nameN_is hn8 hall.out (fun _ c hc => by have := (List.getElem?_eq_some_iff.1 hc).1; rw [hQl.out] at this; omega)
              clear hall
              clear i0 i1 i2 j0 j1 j2 r0 r1 r2
              obtain ⟨x, hx⟩ : ∃ x, x = s.extract p.toNat (p + (n : Int)).toNat := ⟨_, rfl⟩
              have hxl : x.data.toList = Q.take n := by
                rw [hx, ByteArray.data_extract, Array.toList_extract, List.extract, show (p + (n : Int)).toNat - p.toNat = n by omega, hQp.out]
              have hsl : ∀ W', (Instr.slice 9 (.string s) (some (.int .i64 p)) (some (.int .i64 (p + (n : Int)))) none).run Try.prog W' = .ok (.string x) W' := fun W' => by
                rw [run_slice_string W' _ s .i64 .i64 p (p + (n : Int)) Try.underlying9 pge (by omega) hpn, hx]
              have l1 : V.cell? ⟨g2, 1, none⟩ = some (.string ⟨#[]⟩) := kv.out.c1
              have m1 := Blk.frozen kv.out 1
              obtain ⟨V2, hV2⟩ : ∃ V2, V2 = V.setCell ⟨g2, 1, none⟩ (.string x) := ⟨_, rfl⟩
              have kv2 := Lib.hid (show Op3 V2 g2 24 (false, x, 0) from by rw [hV2]; exact Blk.set_ kv.out 1 (.string x))
              have hr3 : Op3 V2 g 24 opZ := by rw [hV2]; exact Blk.far hr2.out (by have := hgg.out; show g ≠ g2; omega) _
              have bb2 := Lib.hid (show Below w.heap.size w V2 from by rw [hV2]; exact bb.out.setCell (by have := hgg.out; have := hg.out; show w.heap.size ≤ g2; omega) _)
              replace hx := Lib.hid hx
              replace hxl := Lib.hid hxl
              replace hnm := Lib.hid hnm
              -- the result's variable g in the world V2 (hr3 : Op3 V2 g .. opZ), told anew; (Value.bool false) (Value.string ⟨#[]⟩) (Value.int .i64 0): what will be stored
              have i0 := Blk.frozen hr3 0
              have i1 := Blk.frozen hr3 1
              have i2 := Blk.frozen hr3 2
              have j0 : World.cell? V2 ⟨g, 0, none⟩ = some (.bool false) := Op3.c0 hr3
              have j1 : World.cell? V2 ⟨g, 1, none⟩ = some (.string ⟨#[]⟩) := Op3.c1 hr3
              have j2 : World.cell? V2 ⟨g, 2, none⟩ = some (.int .i64 0) := Op3.c2 hr3
              have r0 := Op3.put0 hr3 (Value.bool false)
              have r1 := Op3.put1 hr3 (Value.bool false) (Value.string ⟨#[]⟩)
              have r2 := Op3.put2 hr3 (Value.bool false) (Value.string ⟨#[]⟩) (Value.int .i64 0)
              replace hr3 := Lib.hid hr3
              clear bb
              have bb := bb2
              by_cases hn0 : n = 0
              · have hres := Lib.hid (varL_bad (w := false) hnm.out (Or.inl hn0))
                have en : ((n : Int) == 0) = true := by simp; omega
                replace hn0 := Lib.hid hn0
                go_wp2_with (rw [← hV2]; clear hV2)
                -- a bad end: place $k, error 2; the result's variable g in the world that hr speaks of
                refine bodyPost_ret (v := .tuple #[.agg #[.bool false, .string ⟨#[]⟩, .int .i64 0], .int .i64 (p + (n : Int)), .int .i64 2]) (by simp [results, Try.results23, go_sem, r0, r1, r2]) rfl ⟨by rw [hres.out]; simp [oneO, oneA, oneE, opZ]; have := hp.out; omega, ?_⟩
                exact ((bb.out.setCell (p := ⟨g, 0, none⟩) (by rw [hg.out]; exact Nat.le_refl _) _).setCell (p := ⟨g, 1, none⟩) (by rw [hg.out]; exact Nat.le_refl _) _).setCell (p := ⟨g, 2, none⟩) (by rw [hg.out]; exact Nat.le_refl _) _
              have en : ((n : Int) == 0) = false := by simp; omega
              have he : (s.size : Int) ≤ p + (n : Int) := by omega
              have hres := Lib.hid (varL_bad (w := false) hnm.out (Or.inr (by rw [hQi.out, List.getElem?_eq_none (by rw [size_list]; omega)]; simp)))
              have ee : decide ((s.size : Int) ≤ p + (n : Int)) = true := decide_eq_true he
              replace hn0 := Lib.hid hn0
              go_wp2_with (rw [← hV2]; clear hV2)
              -- a bad end: place $k, error 2; the result's variable g in the world that hr speaks of
              refine bodyPost_ret (v := .tuple #[.agg #[.bool false, .string ⟨#[]⟩, .int .i64 0], .int .i64 (p + (n : Int)), .int .i64 2]) (by simp [results, Try.results23, go_sem, r0, r1, r2]) rfl ⟨by rw [hres.out]; simp [oneO, oneA, oneE, opZ]; have := hp.out; omega, ?_⟩
              exact ((bb.out.setCell (p := ⟨g, 0, none⟩) (by rw [hg.out]; exact Nat.le_refl _) _).setCell (p := ⟨g, 1, none⟩) (by rw [hg.out]; exact Nat.le_refl _) _).setCell (p := ⟨g, 2, none⟩) (by rw [hg.out]; exact Nat.le_refl _) _
          · have hlt' : ¬ (n : Int) < 8 := by omega
            have hnm := nameN_is hn8 hall.out (fun h => absurd h hlt)
            clear hall
            clear i0 i1 i2 j0 j1 j2 r0 r1 r2
            obtain ⟨x, hx⟩ : ∃ x, x = s.extract p.toNat (p + (n : Int)).toNat := ⟨_, rfl⟩
            have hxl : x.data.toList = Q.take n := by
              rw [hx, ByteArray.data_extract, Array.toList_extract, List.extract, show (p + (n : Int)).toNat - p.toNat = n by omega, hQp.out]
            have hsl : ∀ W', (Instr.slice 9 (.string s) (some (.int .i64 p)) (some (.int .i64 (p + (n : Int)))) none).run Try.prog W' = .ok (.string x) W' := fun W' => by
              rw [run_slice_string W' _ s .i64 .i64 p (p + (n : Int)) Try.underlying9 pge (by omega) hpn, hx]
            have l1 : V.cell? ⟨g2, 1, none⟩ = some (.string ⟨#[]⟩) := kv.out.c1
            have m1 := Blk.frozen kv.out 1
            obtain ⟨V2, hV2⟩ : ∃ V2, V2 = V.setCell ⟨g2, 1, none⟩ (.string x) := ⟨_, rfl⟩
            have kv2 := Lib.hid (show Op3 V2 g2 24 (false, x, 0) from by rw [hV2]; exact Blk.set_ kv.out 1 (.string x))
            have hr3 : Op3 V2 g 24 opZ := by rw [hV2]; exact Blk.far hr2.out (by have := hgg.out; show g ≠ g2; omega) _
            have bb2 := Lib.hid (show Below w.heap.size w V2 from by rw [hV2]; exact bb.out.setCell (by have := hgg.out; have := hg.out; show w.heap.size ≤ g2; omega) _)
            replace hx := Lib.hid hx
            replace hxl := Lib.hid hxl
            replace hnm := Lib.hid hnm
            -- the result's variable g in the world V2 (hr3 : Op3 V2 g .. opZ), told anew; (Value.bool false) (Value.string ⟨#[]⟩) (Value.int .i64 0): what will be stored
            have i0 := Blk.frozen hr3 0
            have i1 := Blk.frozen hr3 1
            have i2 := Blk.frozen hr3 2
            have j0 : World.cell? V2 ⟨g, 0, none⟩ = some (.bool false) := Op3.c0 hr3
            have j1 : World.cell? V2 ⟨g, 1, none⟩ = some (.string ⟨#[]⟩) := Op3.c1 hr3
            have j2 : World.cell? V2 ⟨g, 2, none⟩ = some (.int .i64 0) := Op3.c2 hr3
            have r0 := Op3.put0 hr3 (Value.bool false)
            have r1 := Op3.put1 hr3 (Value.bool false) (Value.string ⟨#[]⟩)
            have r2 := Op3.put2 hr3 (Value.bool false) (Value.string ⟨#[]⟩) (Value.int .i64 0)
            replace hr3 := Lib.hid hr3
            clear bb
            have bb := bb2
            have hn0 : ¬ n = 0 := by omega
            have en : ((n : Int) == 0) = false := by simp; omega
            by_cases he : (s.size : Int) ≤ p + (n : Int)
            · have hres := Lib.hid (varL_bad (w := false) hnm.out (Or.inr (by rw [hQi.out, List.getElem?_eq_none (by rw [size_list]; omega)]; simp)))
              have ee : decide ((s.size : Int) ≤ p + (n : Int)) = true := decide_eq_true he
              replace hn0 := Lib.hid hn0
              go_wp2_with (rw [← hV2]; clear hV2)
              -- a bad end: place $k, error 2; the result's variable g in the world that hr speaks of
              refine bodyPost_ret (v := .tuple #[.agg #[.bool false, .string ⟨#[]⟩, .int .i64 0], .int .i64 (p + (n : Int)), .int .i64 2]) (by simp [results, Try.results23, go_sem, r0, r1, r2]) rfl ⟨by rw [hres.out]; simp [oneO, oneA, oneE, opZ]; have := hp.out; omega, ?_⟩
              exact ((bb.out.setCell (p := ⟨g, 0, none⟩) (by rw [hg.out]; exact Nat.le_refl _) _).setCell (p := ⟨g, 1, none⟩) (by rw [hg.out]; exact Nat.le_refl _) _).setCell (p := ⟨g, 2, none⟩) (by rw [hg.out]; exact Nat.le_refl _) _
            have ee : decide ((s.size : Int) ≤ p + (n : Int)) = false := decide_eq_false he
            have hpl : p + (n : Int) < (s.size : Int) := by omega
            have hpi : 0 ≤ p + (n : Int) ∧ p + (n : Int) < (s.size : Int) := ⟨by omega, hpl⟩
            obtain ⟨f, hf⟩ : ∃ f : UInt8, s[(p + (n : Int)).toNat]'(by omega) = f := ⟨_, rfl⟩
            have hfl : Q[n]? = some f := by rw [hQi.out, byte_at s _ (by omega), hf]
            by_cases h61 : f.toNat = 61
            · have hf61 : f = 61 := UInt8.toNat_inj.1 (by rw [h61]; rfl)
              have ef : ((f.toNat : Int) != 61) = false := by simp; omega
              obtain ⟨v, hv⟩ : ∃ v, v = p + (n : Int) + 1 := ⟨_, rfl⟩
              obtain ⟨m, hm⟩ : ∃ m, m = spanZ s v := ⟨_, rfl⟩
              have hvQ : s.data.toList.drop v.toNat = Q.drop (n + 1) := by
                rw [hQp.out, List.drop_drop, show p.toNat + (n + 1) = v.toNat by omega]
              have hmN : m = spanN (Q.drop (n + 1)) := by rw [hm, ← hvQ]; unfold spanZ; rw [if_pos (by omega)]
              have hmle : m ≤ s.size - v.toNat := by
                have h := spanN_le (Q.drop (n + 1))
                rw [← hmN, ← hvQ, List.length_drop, size_list] at h
                exact h
              have hvm : v + (m : Int) ≤ (s.size : Int) := by omega
              have vge : (0 : Int) ≤ v := by omega
              obtain ⟨y, hy⟩ : ∃ y, y = s.extract v.toNat (v + (m : Int)).toNat := ⟨_, rfl⟩
              have hyl : y.data.toList = numAt (Q.drop (n + 1)) := by
                rw [hy, ByteArray.data_extract, Array.toList_extract, List.extract, show (v + (m : Int)).toNat - v.toNat = m by omega, hvQ, hmN]; rfl
              have hys : y.size ≤ 1073741824 := by
                rw [← size_list, hyl]
                refine Nat.le_trans (List.length_take_le _ _) ?_
                rw [← hmN]; omega
              have hsl2 : ∀ W', (Instr.slice 9 (.string s) (some (.int .i64 v)) (some (.int .i64 (v + (m : Int)))) none).run Try.prog W' = .ok (.string y) W' := fun W' => by
                rw [run_slice_string W' _ s .i64 .i64 v (v + (m : Int)) Try.underlying9 vge (by omega) hvm, hy]
              have cS := ref5_Span s v V2 hs (by omega) (by omega)
              rw [← hm] at cS
              have cG := ref5_Get y V2 hys
              unfold RetGet at cG
              rw [hyl] at cG
              obtain ⟨gv, hgv⟩ : ∃ gv, gv = getV (numAt (Q.drop (n + 1))) := ⟨_, rfl⟩
              obtain ⟨ge, hge⟩ : ∃ ge, ge = getE (numAt (Q.drop (n + 1))) := ⟨_, rfl⟩
              rw [← hgv, ← hge] at cG
              have hbad := fun h => varL_num (w := false) hnm.out hn0 (by rw [hfl, hf61]) (by rw [← hge]; exact h)
              have hgood := fun h => varL_ok (w := false) hnm.out hn0 (by rw [hfl, hf61]) (by rw [← hge]; exact h)
              rw [← hge] at hbad
              rw [← hgv, ← hmN] at hgood
              have hva : v = a + ((3 + n : Nat) : Int) := by have := hp.out; omega
              replace hbad := Lib.hid hbad
              replace hgood := Lib.hid hgood
              replace cS := Lib.hid cS
              replace cG := Lib.hid cG
              replace hgv := Lib.hid hgv
              replace hge := Lib.hid hge
              replace hyl := Lib.hid hyl
              replace hy := Lib.hid hy
              replace hmN := Lib.hid hmN
              replace hvQ := Lib.hid hvQ
              replace hm := Lib.hid hm
              replace hva := Lib.hid hva
              replace hfl := Lib.hid hfl
              replace h61 := Lib.hid h61
              replace hf61 := Lib.hid hf61
              replace hn0 := Lib.hid hn0
              replace he := Lib.hid he
              clear hmle
              go_wp2_with (rw [← hV2]; clear hV2)
              rw [← hv]
              replace hv := Lib.hid hv
              refine cS.out.mono ?_; rintro e w3 ⟨rfl, rfl⟩
              clear i0 i1 i2 j0 j1 j2 r0 r1 r2
              go_wp2_with fail
              refine cG.out.mono ?_; rintro e w4 ⟨rfl, b4⟩
              have bb3 := Lib.hid (below_trans2 bb.out b4)
              replace kv2 := Lib.hid (kv2.out.below b4)
              have hr4 := hr3.out.below b4
              clear b4 hr3 bb bb2 hsl hsl2 cS cG
              by_cases hz : ge = 0
              · have hres := Lib.hid (hgood.out hz)
                subst hz
                have l2 : w4.cell? ⟨g2, 2, none⟩ = some (.int .i64 0) := kv2.out.c2
                have m2 := Blk.frozen kv2.out 2
                obtain ⟨W5, hW5⟩ : ∃ W5, W5 = w4.setCell ⟨g2, 2, none⟩ (.int .i64 gv) := ⟨_, rfl⟩
                have kv5 : Op3 W5 g2 24 (false, x, gv) := by rw [hW5]; exact Blk.set_ kv2.out 2 (.int .i64 gv)
                have hr5 : Op3 W5 g 24 opZ := by rw [hW5]; exact Blk.far hr4 (by have := hgg.out; show g ≠ g2; omega) _
                have bb := Lib.hid (show Below w.heap.size w W5 from by rw [hW5]; exact bb3.out.setCell (by have := hgg.out; have := hg.out; show w.heap.size ≤ g2; omega) _)
                have l0 := kv5.c0
                have l1 : W5.cell? ⟨g2, 1, none⟩ = some (.string x) := kv5.c1
                have l3 : W5.cell? ⟨g2, 2, none⟩ = some (.int .i64 gv) := kv5.c2
                -- the result's variable g in the world W5 (hr5 : Op3 W5 g .. opZ), told anew; (Value.bool false) (Value.string x) (Value.int .i64 gv): what will be stored
                have i0 := Blk.frozen hr5 0
                have i1 := Blk.frozen hr5 1
                have i2 := Blk.frozen hr5 2
                have j0 : World.cell? W5 ⟨g, 0, none⟩ = some (.bool false) := Op3.c0 hr5
                have j1 : World.cell? W5 ⟨g, 1, none⟩ = some (.string ⟨#[]⟩) := Op3.c1 hr5
                have j2 : World.cell? W5 ⟨g, 2, none⟩ = some (.int .i64 0) := Op3.c2 hr5
                have r0 := Op3.put0 hr5 (Value.bool false)
                have r1 := Op3.put1 hr5 (Value.bool false) (Value.string x)
                have r2 := Op3.put2 hr5 (Value.bool false) (Value.string x) (Value.int .i64 gv)
                replace hr5 := Lib.hid hr5
                replace kv5 := Lib.hid kv5
                clear bb3 hr4
                go_wp2_with (rw [← hW5]; clear hW5)
                refine bodyPost_ret (v := .tuple #[.agg #[.bool false, .string x, .int .i64 gv], .int .i64 (v + (m : Int)), .int .i64 0]) (by simp [results, Try.results23, go_sem, r0, r1, r2]) rfl ⟨?_, ?_⟩
                · rw [hres.out, ← hxl.out]
                  have e1 : a + ((3 + n + m : Nat) : Int) = v + (m : Int) := by have := hva.out; omega
                  show Ending.returned _ = Ending.returned (.tuple #[.agg #[.bool false, .string ⟨x.data.toList.toArray⟩, .int .i64 gv], .int .i64 (a + ((3 + n + m : Nat) : Int)), .int .i64 0])
                  rw [e1]
                · exact ((bb.out.setCell (p := ⟨g, 0, none⟩) (by rw [hg.out]; exact Nat.le_refl _) _).setCell (p := ⟨g, 1, none⟩) (by rw [hg.out]; exact Nat.le_refl _) _).setCell (p := ⟨g, 2, none⟩) (by rw [hg.out]; exact Nat.le_refl _) _
              · have hres := Lib.hid (hbad.out hz)
                have hz' : (ge != 0) = true := by simp [hz]
                -- the result's variable g in the world w4 (hr4 : Op3 w4 g .. opZ), told anew; (Value.bool false) (Value.string ⟨#[]⟩) (Value.int .i64 0): what will be stored
                have i0 := Blk.frozen hr4 0
                have i1 := Blk.frozen hr4 1
                have i2 := Blk.frozen hr4 2
                have j0 : World.cell? w4 ⟨g, 0, none⟩ = some (.bool false) := Op3.c0 hr4
                have j1 : World.cell? w4 ⟨g, 1, none⟩ = some (.string ⟨#[]⟩) := Op3.c1 hr4
                have j2 : World.cell? w4 ⟨g, 2, none⟩ = some (.int .i64 0) := Op3.c2 hr4
                have r0 := Op3.put0 hr4 (Value.bool false)
                have r1 := Op3.put1 hr4 (Value.bool false) (Value.string ⟨#[]⟩)
                have r2 := Op3.put2 hr4 (Value.bool false) (Value.string ⟨#[]⟩) (Value.int .i64 0)
                have bb := bb3
                replace hz := Lib.hid hz
                replace hr4 := Lib.hid hr4
                go_wp2_with fail
                -- a bad end: place $k, error ge; the result's variable g in the world that hr speaks of
                refine bodyPost_ret (v := .tuple #[.agg #[.bool false, .string ⟨#[]⟩, .int .i64 0], .int .i64 v, .int .i64 ge]) (by simp [results, Try.results23, go_sem, r0, r1, r2]) rfl ⟨by rw [hres.out]; simp [oneO, oneA, oneE, opZ]; have := hva.out; omega, ?_⟩
                exact ((bb.out.setCell (p := ⟨g, 0, none⟩) (by rw [hg.out]; exact Nat.le_refl _) _).setCell (p := ⟨g, 1, none⟩) (by rw [hg.out]; exact Nat.le_refl _) _).setCell (p := ⟨g, 2, none⟩) (by rw [hg.out]; exact Nat.le_refl _) _
            · have ef : ((f.toNat : Int) != 61) = true := by simp; omega
              have hres := Lib.hid (varL_bad (w := false) hnm.out (Or.inr (by rw [hfl]; intro h; injection h with h; subst h; exact h61 rfl)))
              replace hfl := Lib.hid hfl
              replace hn0 := Lib.hid hn0
              replace he := Lib.hid he
              go_wp2_with (rw [← hV2]; clear hV2)
              -- a bad end: place $k, error 2; the result's variable g in the world that hr speaks of
              refine bodyPost_ret (v := .tuple #[.agg #[.bool false, .string ⟨#[]⟩, .int .i64 0], .int .i64 (p + (n : Int)), .int .i64 2]) (by simp [results, Try.results23, go_sem, r0, r1, r2]) rfl ⟨by rw [hres.out]; simp [oneO, oneA, oneE, opZ]; have := hp.out; omega, ?_⟩
              exact ((bb.out.setCell (p := ⟨g, 0, none⟩) (by rw [hg.out]; exact Nat.le_refl _) _).setCell (p := ⟨g, 1, none⟩) (by rw [hg.out]; exact Nat.le_refl _) _).setCell (p := ⟨g, 2, none⟩) (by rw [hg.out]; exact Nat.le_refl _) _
      · have n5 : ((d.toNat : Int) != 58) = true := by simp; omega
        have hres : Hid (oneL (s.data.toList.drop a.toNat) = .bad 1 2) := Lib.hid (oneL_colon hcl hwr (fun d' hd' => by
          rw [hdl] at hd'; injection hd' with hd'; subst hd'; exact h58))
        replace hcl := Lib.hid hcl
        replace hdl := Lib.hid hdl
        replace hwr := Lib.hid hwr
        replace hwv := Lib.hid hwv
        replace hw := Lib.hid hw
        replace h0 := Lib.hid h0
        replace h1 := Lib.hid h1
        replace h58 := Lib.hid h58
        go_enter Try.func23, Try.ntmps23
        go_wp2_with (first | (rw [← hW, ← hg]; clear hW; replace hg := Lib.hid hg) | (rw [← hV0, ← hg2]; clear hV0; replace hg2 := Lib.hid hg2) | (rw [← hV]; clear hV))
        -- a bad end: place $k, error 2; the result's variable g in the world that hr speaks of
        refine bodyPost_ret (v := .tuple #[.agg #[.bool false, .string ⟨#[]⟩, .int .i64 0], .int .i64 (a + 1), .int .i64 2]) (by simp [results, Try.results23, go_sem, r0, r1, r2]) rfl ⟨by rw [hres.out]; simp [oneO, oneA, oneE, opZ], ?_⟩
        exact ((bb.out.setCell (p := ⟨g, 0, none⟩) (by rw [hg.out]; exact Nat.le_refl _) _).setCell (p := ⟨g, 1, none⟩) (by rw [hg.out]; exact Nat.le_refl _) _).setCell (p := ⟨g, 2, none⟩) (by rw [hg.out]; exact Nat.le_refl _) _
  · have n1 : ((c.toNat : Int) != 119) = true := by simp; omega
    have n2 : ((c.toNat : Int) != 114) = true := by simp; omega
    have hres : Hid (oneL (s.data.toList.drop a.toNat) = .bad 0 2) := Lib.hid (oneL_first hcl (by unfold isW isR; simp; omega))
    have hr2 := hr.put opZ
    have r0 := hr.put0 (.bool false)
    have r1 := hr.put1 (.bool false) (.string ⟨#[]⟩)
    have r2 := hr.put2 (.bool false) (.string ⟨#[]⟩) (.int .i64 0)
    replace hcl := Lib.hid hcl
    clear hw
    replace h0 := Lib.hid h0
    go_enter Try.func23, Try.ntmps23
    go_wp2_with (rw [← hW, ← hg]; clear hW; replace hg := Lib.hid hg)
    -- a bad end: place $k, error 2; the result's variable g in the world that hr speaks of
    refine bodyPost_ret (v := .tuple #[.agg #[.bool false, .string ⟨#[]⟩, .int .i64 0], .int .i64 a, .int .i64 2]) (by simp [results, Try.results23, go_sem, r0, r1, r2]) rfl ⟨by rw [hres.out]; simp [oneO, oneA, oneE, opZ], ?_⟩
    exact ((bb.out.setCell (p := ⟨g, 0, none⟩) (by rw [hg.out]; exact Nat.le_refl _) _).setCell (p := ⟨g, 1, none⟩) (by rw [hg.out]; exact Nat.le_refl _) _).setCell (p := ⟨g, 2, none⟩) (by rw [hg.out]; exact Nat.le_refl _) _

end Go.Proofs.Ytkccefgmiaoinaa
