/- The contracts of the document's own answers of layer 6: Spot, Number, Same. -/
import Derived.Test.YtmfcnlolfhkeeaaHistRef
import Derived.Test.YtmfcnlolfhkeeaaPlan
namespace Go.Proofs.Ytmfcnlolfhkeeaa
open Go.RowKit
set_option linter.unusedVariables false

/-- a variable of two numbers -/
def TwoI (w : World) (g : Nat) (t : TypeId) (x y : Int) : Prop := Blk w g t [.int .i64 x, .int .i64 y]
section
variable {w w' : World} {g : Nat} {t : TypeId} {x y : Int}
theorem TwoI.c0 (h : TwoI w g t x y) : w.cell? ⟨g, 0, none⟩ = some (.int .i64 x) := Blk.cell h 0
theorem TwoI.c1 (h : TwoI w g t x y) : w.cell? ⟨g, 1, none⟩ = some (.int .i64 y) := Blk.cell h 1
theorem TwoI.new (w : World) (t : TypeId) (x y : Int) : TwoI (w.alloc (.cells #[.int .i64 x, .int .i64 y] t)) w.heap.size t x y := Blk.new w t _
theorem TwoI.put (h : TwoI w g t x y) (x' y' : Int) : TwoI ((w.setCell ⟨g, 0, none⟩ (.int .i64 x')).setCell ⟨g, 1, none⟩ (.int .i64 y')) g t x' y' :=
  Blk.set_ (Blk.set_ h 0 (.int .i64 x')) 1 (.int .i64 y')
theorem TwoI.below (h : TwoI w g t x y) (hb : Below w.heap.size w w') : TwoI w' g t x y := Blk.below h hb h.lt
end

def spotS : Option (Nat × Nat) → Int | none => 0 | some x => x.1
def spotP : Option (Nat × Nat) → Int | none => 0 | some x => x.2
def spotB : Option (Nat × Nat) → Bool | none => false | some _ => true
def RetSpot (o : Option (Nat × Nat)) (w : World) (e : Ending) (w' : World) : Prop := e = .returned (.tuple #[.agg #[.int .i64 (spotS o), .int .i64 (spotP o)], .bool (spotB o)]) ∧ Below w.heap.size w w'
def numV : Option Nat → Int | none => 0 | some x => x
def numB : Option Nat → Bool | none => false | some _ => true
def RetNum (o : Option Nat) (w : World) (e : Ending) (w' : World) : Prop := e = .returned (.tuple #[.int .i64 (numV o), .bool (numB o)]) ∧ Below w.heap.size w w'
set_option maxRecDepth 100000 in
set_option maxHeartbeats 4000000 in
theorem ref6_Spot (A : Option Addr) (n c : Nat) (i : Int) (hs : List (List OpT)) (w : World) (hH : HistAt w A n hs) (hn : n ≤ 9223372036854775807) (i0 : -9223372036854775808 ≤ i) (i1 : i < 9223372036854775808) :
    Calls Try.prog 19 #[.slice A n c, .int .i64 i] w (RetSpot (spotZ hs i) w) := by
  have hHl := hH.len
  obtain ⟨g, hg⟩ : ∃ g, g = w.heap.size := ⟨_, rfl⟩
  obtain ⟨W, hW⟩ : ∃ W, W = w.alloc (.cells #[.int .i64 0, .int .i64 0] 46) := ⟨_, rfl⟩
  have bb := Lib.hid (show Below w.heap.size w W from by rw [hW]; exact (Below.refl _ w).alloc (Nat.le_refl _) _)
  have hr := show TwoI W g 46 0 0 from by rw [hW, hg]; exact TwoI.new w _ _ _
  have hHW := Lib.hid (hH.below bb.out)
  have f0 := Blk.frozen hr 0
  have f1 := Blk.frozen hr 1
  have q0 := hr.c0
  have q1 := hr.c1
  clear hH
  by_cases hi : i < 0
  · have hres : Hid (spotZ hs i = none) := Lib.hid (if_pos hi)
    have hr2 := hr.put 0 0
    go_enter Try.func19, Try.ntmps19
    go_wp2_with (rw [← hW, ← hg]; clear hW; replace hg := Lib.hid hg)
    refine bodyPost_ret (v := .tuple #[.agg #[.int .i64 0, .int .i64 0], .bool false]) (by simp [results, Try.results19, go_sem, hr2.c0, hr2.c1]) rfl ⟨by rw [hres.out]; rfl, ?_⟩
    exact (bb.out.setCell (by rw [hg.out]; exact Nat.le_refl _) _).setCell (by rw [hg.out]; exact Nat.le_refl _) _
  · obtain ⟨N, hN⟩ : ∃ N : Nat, i = N := ⟨i.toNat, by omega⟩
    have hz : spotZ hs i = spotN hs N := by unfold spotZ; rw [if_neg hi, show i.toNat = N by omega]
    rw [hz]
    have hi' : ¬ i < 0 := hi
    clear hz hi
    go_enter Try.func19, Try.ntmps19
    go_wp2_with (rw [← hW, ← hg]; clear hW; replace hg := Lib.hid hg)
    subst hN
    clear hi'
    go_loop [1, 6] (fun u t => ∃ k M : Nat, k ≤ n ∧ t = .int .i64 k ∧ u = .int .i64 M ∧ Hid (spotN hs N = (spotN (hs.drop k) M).map fun x => (x.1 + k, x.2)) ∧ M ≤ N) (fun _ t => n - (intOf t).toNat)
    case atStart => exact ⟨0, N, Nat.zero_le _, rfl, rfl, Lib.hid (by rw [List.drop_zero]; cases spotN hs N <;> rfl), Nat.le_refl _⟩
    case round =>
      obtain ⟨k, M, hk, rfl, rfl, hsp, hMN⟩ := hrel
      by_cases hlt : k < n
      · obtain ⟨b, off, B, m, cc, os, rfl, hb, hos, hcell, hmc, hm63, hO⟩ := hHW.out.at_ hlt
        have hlt' : (k : Int) < (n : Int) := by omega
        have hstep := spotN_drop (i := M) hos
        rw [hO.len] at hstep
        replace hos := Lib.hid hos
        replace hO := Lib.hid hO
        by_cases hM : M < m
        · rw [if_pos hM] at hstep
          have hres : Hid (spotN hs N = some (k, M)) := Lib.hid (by rw [hsp.out, hstep]; simp)
          have hM' : (M : Int) < (m : Int) := by omega
          have hr2 := hr.put k M
          clear hstep hlt hM
          go_wp2_with fail
          refine bodyPost_ret (v := .tuple #[.agg #[.int .i64 k, .int .i64 M], .bool true]) (by simp [results, Try.results19, go_sem, hr2.c0, hr2.c1]) rfl ⟨by rw [hres.out]; rfl, ?_⟩
          exact (bb.out.setCell (by rw [hg.out]; exact Nat.le_refl _) _).setCell (by rw [hg.out]; exact Nat.le_refl _) _
        · rw [if_neg hM] at hstep
          have hsp' : Hid (spotN hs N = (spotN (hs.drop (k + 1)) (M - m)).map fun x => (x.1 + (k + 1), x.2)) := Lib.hid (by
            rw [hsp.out, hstep, Option.map_map]
            congr 1
            funext x
            simp; omega)
          have hM' : ¬ (M : Int) < (m : Int) := by omega
          clear hstep hlt hM hsp
          go_wp2_with fail
          exact ⟨⟨k + 1, M - m, by omega, by go_num, by go_num, hsp', by omega⟩, by simp [intOf]; omega⟩
      · have hres : Hid (spotN hs N = none) := Lib.hid (by
          rw [hsp.out, List.drop_eq_nil_of_le (by omega)]; rfl)
        have hlt' : ¬ (k : Int) < (n : Int) := by omega
        have hr2 := hr.put 0 0
        clear hlt
        go_wp2_with fail
        refine bodyPost_ret (v := .tuple #[.agg #[.int .i64 0, .int .i64 0], .bool false]) (by simp [results, Try.results19, go_sem, hr2.c0, hr2.c1]) rfl ⟨by rw [hres.out]; rfl, ?_⟩
        exact (bb.out.setCell (by rw [hg.out]; exact Nat.le_refl _) _).setCell (by rw [hg.out]; exact Nat.le_refl _) _


theorem toList_inj {a b : ByteArray} (h : a.toList = b.toList) : a = b := by
  rw [ByteArray.toList_eq, ByteArray.toList_eq] at h
  obtain ⟨⟨x⟩⟩ := a
  obtain ⟨⟨y⟩⟩ := b
  have h' : x = y := h
  rw [h']
theorem sameH_no_len {a b : List (List OpT)} (h : a.length ≠ b.length) : decide (a = b) = false := decide_eq_false (fun e => h (by rw [e]))
theorem sameH_no_sess {a b : List (List OpT)} {i : Nat} {s t : List OpT} (ha : a[i]? = some s) (hb : b[i]? = some t) (h : s.length ≠ t.length) : decide (a = b) = false :=
  decide_eq_false (fun e => by subst e; rw [ha] at hb; injection hb with hb; exact h (by rw [hb]))
theorem sameH_no_op {a b : List (List OpT)} {i k : Nat} {s t : List OpT} {x y : OpT} (ha : a[i]? = some s) (hb : b[i]? = some t) (hx : s[k]? = some x) (hy : t[k]? = some y) (h : x ≠ y) : decide (a = b) = false :=
  decide_eq_false (fun e => by subst e; rw [ha] at hb; injection hb with hb; subst hb; rw [hx] at hy; injection hy with hy; exact h hy)
theorem sess_eq {s t : List OpT} (hl : s.length = t.length) (h : ∀ k, k < s.length → s[k]? = t[k]?) : s = t :=
  List.ext_getElem? (fun k => by
    by_cases hk : k < s.length
    · exact h k hk
    · rw [List.getElem?_eq_none (by omega), List.getElem?_eq_none (by omega)])
theorem sameH_yes {a b : List (List OpT)} (hl : a.length = b.length) (h : ∀ i, i < a.length → a[i]? = b[i]?) : decide (a = b) = true :=
  decide_eq_true (List.ext_getElem? (fun k => by
    by_cases hk : k < a.length
    · exact h k hk
    · rw [List.getElem?_eq_none (by omega), List.getElem?_eq_none (by omega)]))
set_option maxRecDepth 100000 in
set_option maxHeartbeats 800000 in
theorem ref6_Same (A B : Option Addr) (n c m d : Nat) (xs ys : List (List OpT)) (w : World) (hX : HistAt w A n xs) (hY : HistAt w B m ys) (hn : n ≤ 9223372036854775807) (hm : m ≤ 9223372036854775807) :
    Calls Try.prog 14 #[.slice A n c, .slice B m d] w fun e w' => e = .returned (.bool (decide (xs = ys))) ∧ ∃ q, w' = w.drewN q := by
  have hXl := hX.len
  have hYl := hY.len
  by_cases hnm : n = m
  · subst hnm
    have hee : ((n : Int) != (n : Int)) = false := by simp
    replace hX := Lib.hid hX
    replace hY := Lib.hid hY
    replace hXl := Lib.hid hXl
    replace hYl := Lib.hid hYl
    go_enter Try.func14, Try.ntmps14
    go_wp2_with fail
    go_loopw [5] (fun t wr => ∃ k q : Nat, k ≤ n ∧ t = .int .i64 k ∧ Hid (∀ i, i < k → xs[i]? = ys[i]?) ∧ wr = w.drewN q) (fun t _ => n - (intOf t).toNat)
    case atStart => exact ⟨0, 0, Nat.zero_le _, rfl, Lib.hid (fun i hi => absurd hi (by omega)), rfl⟩
    case round =>
      obtain ⟨k, q, hk, rfl, hall, rfl⟩ := hrel
      by_cases hlt : k < n
      · have hlt' : (k : Int) < (n : Int) := by omega
        obtain ⟨b1, off1, B1, m1, c1, s, rfl, hb1, hs, hcell1, hmc1, hm1, hO1⟩ := hX.out.at_ hlt
        obtain ⟨b2, off2, B2, m2, c2, t, rfl, hb2, ht, hcell2, hmc2, hm2, hO2⟩ := hY.out.at_ hlt
        by_cases hmm : m1 = m2
        · subst hmm
          have hee2 : ((m1 : Int) != (m1 : Int)) = false := by simp
          have hslen : s.length = t.length := by rw [hO1.len, hO2.len]
          replace hs := Lib.hid hs
          replace ht := Lib.hid ht
          replace hslen := Lib.hid hslen
          clear hlt
          go_wp2_with fail
          go_quiet (fail)
          go_wp2_with fail
          go_loopw [6] (fun t' wr => ∃ j q : Nat, j ≤ m1 ∧ t' = .int .i64 j ∧ Hid (∀ i, i < j → s[i]? = t[i]?) ∧ wr = w.drewN q) (fun t' _ => m1 - (intOf t').toNat)
          case atStart => exact ⟨0, _, Nat.zero_le _, rfl, Lib.hid (fun i hi => absurd hi (by omega)), World.drewN_drewN _ _ _⟩
          case round =>
            obtain ⟨j, q2, hj, rfl, hin, rfl⟩ := hrel
            by_cases hjl : j < m1
            · have hjl' : (j : Int) < (m1 : Int) := by omega
              obtain ⟨b3, off3, x, rfl, hb3, hx, hok3, x0, x1, x2⟩ := hO1.at_ hjl
              obtain ⟨b4, off4, y, rfl, hb4, hy, hok4, y0, y1, y2⟩ := hO2.at_ hjl
              obtain ⟨xw, xn, xv⟩ := x
              obtain ⟨yw, yn, yv⟩ := y
              simp only at hok3 hok4 x0 x1 x2 y0 y1 y2
              by_cases hxy : (xw, xn, xv) = (yw, yn, yv)
              · have e0 : (xw == yw) = true := by injection hxy with h1 h2; rw [h1]; simp
                have e1 : (xn.toList == yn.toList) = true := by injection hxy with h1 h2; injection h2 with h2 h3; rw [h2]; simp
                have e2 : (xv == yv) = true := by injection hxy with h1 h2; injection h2 with h2 h3; rw [h3]; simp
                have hin' : Hid (∀ i, i < j + 1 → s[i]? = t[i]?) := Lib.hid (fun i hi => by
                  rcases Nat.lt_succ_iff_lt_or_eq.1 hi with h1 | h1
                  · exact hin.out i h1
                  · subst h1; rw [hx, hy, hxy])
                clear hx hy hjl hxy
                go_wp2_with fail
                go_quiet (fail)
                go_wp2_with fail
                exact ⟨⟨j + 1, _, by omega, by go_num, hin', rfl⟩, by simp [intOf]; omega⟩
              · have hno := Lib.hid (sameH_no_op hs.out ht.out hx hy hxy)
                have hcs : (xw == yw) = false ∨ ((xw == yw) = true ∧ (xn.toList == yn.toList) = false) ∨ ((xw == yw) = true ∧ (xn.toList == yn.toList) = true ∧ (xv == yv) = false) := by
                  cases e0 : (xw == yw) with
                  | false => exact Or.inl rfl
                  | true =>
                    cases e1 : (xn.toList == yn.toList) with
                    | false => exact Or.inr (Or.inl ⟨rfl, rfl⟩)
                    | true =>
                      cases e2 : (xv == yv) with
                      | false => exact Or.inr (Or.inr ⟨rfl, rfl, rfl⟩)
                      | true =>
                        rw [beq_iff_eq] at e0 e1 e2
                        exact absurd (by rw [e0, toList_inj e1, e2]) hxy
                clear hx hy hjl hxy
                rcases hcs with e0 | ⟨e0, e1⟩ | ⟨e0, e1, e2⟩
                all_goals (
                  go_wp2_with fail
                  go_quiet (fail)
                  go_wp2_with fail
                  go_ret
                  exact ⟨by rw [hno.out]; rfl, _, by rw [World.drewN_drewN]⟩)
            · have hjm : j = m1 := by omega
              have hst : s = t := sess_eq hslen.out (fun i hi => hin.out i (by rw [hO1.len] at hi; omega))
              have hall' : Hid (∀ i, i < k + 1 → xs[i]? = ys[i]?) := Lib.hid (fun i hi => by
                rcases Nat.lt_succ_iff_lt_or_eq.1 hi with h1 | h1
                · exact hall.out i h1
                · subst h1; rw [hs.out, ht.out, hst])
              have hjl' : ¬ (j : Int) < (m1 : Int) := by omega
              clear hjm hst hjl hO1 hO2
              go_wp2_with fail
              exact ⟨⟨k + 1, _, by omega, by go_num, hall', rfl⟩, by simp [intOf]; omega⟩
        · have hee2 : ((m1 : Int) != (m2 : Int)) = true := by simp; omega
          have hno := Lib.hid (sameH_no_sess hs ht (by rw [hO1.len, hO2.len]; exact hmm))
          clear hs ht hlt hmm
          go_wp2_with fail
          go_quiet (fail)
          go_wp2_with fail
          go_ret
          exact ⟨by rw [hno.out]; rfl, _, by rw [World.drewN_drewN]⟩
      · have hkn : k = n := by omega
        have hyes := Lib.hid (sameH_yes (a := xs) (b := ys) (by rw [hXl.out, hYl.out]) (fun i hi => hall.out i (by rw [hXl.out] at hi; omega)))
        have hlt' : ¬ (k : Int) < (n : Int) := by omega
        clear hlt hkn
        go_wp2_with fail
        go_ret
        exact ⟨by rw [hyes.out]; rfl, _, rfl⟩
  · have hno := Lib.hid (sameH_no_len (a := xs) (b := ys) (by rw [hXl, hYl]; exact hnm))
    have hee : ((n : Int) != (m : Int)) = true := by simp; omega
    clear hnm hX hY
    replace hXl := Lib.hid hXl
    replace hYl := Lib.hid hYl
    go_enter Try.func14, Try.ntmps14
    go_wp2_with fail
    go_ret
    exact ⟨by rw [hno.out]; rfl, 0, rfl⟩

end Go.Proofs.Ytmfcnlolfhkeeaa
