/- Words for memory: names and their numbers, in a list and in a map. The contract of the code's own 'number'. -/
import Derived.Test.YtmfcnlolfhkeeaaPlanP
import Derived.Test.YtmfcnlolfhkeeaaInternRefB
import Derived.Test.YtmfcnlolfhkeeaaSessOwn
import Derived.Maps.OwnSet
import Derived.Maps.OwnOps
namespace Go.Proofs.Ytmfcnlolfhkeeaa
open Go.RowKit Go.Maps
set_option linter.unusedVariables false
theorem keyS_inj {a b : ByteArray} (h : a.data.toList = b.data.toList) : a = b := by
  cases a; cases b
  simp only [ByteArray.mk.injEq]
  exact Array.toList_inj.1 h
theorem keyL_ok (l : List UInt8) : Go.WideAt.IsKeyLit (.string l) := trivial
theorem keyS_ne {a b : ByteArray} (h : a ≠ b) : (Lit.string a.data.toList) ≠ .string b.data.toList := fun e => h (keyS_inj (by injection e))
theorem map_not_row {H : Type} {P : Program} {k : TypeId} {R : Value → Option (DataW H × List MemPlace)} {w : World} {B m : Nat} {D : DataW H} {base size n : Nat} {e : TypeId} {v : Value} {xs : List Value} (h : w.ownsMap P k R B m D) (hr : w.ownsRow base e size v n xs) : v.ownBlock ≠ some B := by
  obtain ⟨es, clock, hb, _⟩ := h
  rcases hr.2 with ⟨rfl, _⟩ | ⟨g, cap, cur, rfl, _, hg, _⟩
  · intro h; cases h
  · intro he
    have : g = B := by simpa [Value.ownBlock] using he
    subst this
    rw [hb] at hg
    cases hg
theorem map_not_blk {H : Type} {P : Program} {k : TypeId} {R : Value → Option (DataW H × List MemPlace)} {w : World} {B m g : Nat} {D : DataW H} {t : TypeId} {cs : List Value} (h : w.ownsMap P k R B m D) (hg : Blk w g t cs) : B ≠ g := by
  intro e
  subst e
  obtain ⟨es, clock, hb, _⟩ := h
  rw [show w.heap[B]? = _ from hg] at hb
  cases hb
theorem grown_of_below {w w' : World} (hb : Below w.heap.size w w') : w.grownBy w' none := ⟨hb.os, hb.tape, hb.output, hb.size, fun i hi _ => hb.block i hi⟩
theorem row_map {H : Type} {P : Program} {k : TypeId} {R : Value → Option (DataW H × List MemPlace)} {w w' : World} {B m : Nat} {D : DataW H} {base size n : Nat} {e : TypeId} {v : Value} {xs : List Value} (h : w.ownsMap P k R B m D) (hr : w.ownsRow base e size v n xs) (hg : w.grownBy w' (some B)) : w'.ownsRow base e size v n xs :=
  hr.kept hg (by
    have hne := map_not_row h hr
    cases hx : v.ownBlock with
    | none => exact .inl rfl
    | some b => exact .inr (fun e => hne (by rw [hx]; exact e)))
theorem lawS9 : Keyed Try.prog 9 := string_keyed Try.underlying9
theorem zeroI9 (w : World) : (zeroValue 3).run Try.prog w = .ok (.int .i64 0) w := by kernel_rfl
/-- names in the variable g: their list is v, and the map in block B has the number of each -/
structure NamesAt (w : World) (base g B : Nat) (v : Value) (L : List ByteArray) : Prop where
  k : Blk w g 53 [v, .map (some B)]
  o : w.ownsRow base 9 1 v L.length (encS.all L)
  m : ∃ D : DataW Unit, w.ownsMap Try.prog 9 (plainElem Try.prog 3) B L.length D ∧ (∀ s : ByteArray, Maps.has D (.string s.data.toList) = decide (0 ≤ findZ L s)) ∧ ∀ s ∈ L, D.atKey (.string s.data.toList) (.lit (.int .i64 0)) = .lit (.int .i64 (findZ L s))
  s : ∀ x ∈ L, x.size ≤ 9223372036854775807
  lg : base ≤ g
  lB : base ≤ B
  lw : base ≤ w.heap.size
theorem NamesAt.below {w w' : World} {base g B : Nat} {v : Value} {L : List ByteArray} (h : NamesAt w base g B v L) (hb : Below w.heap.size w w') : NamesAt w' base g B v L := by
  obtain ⟨D, hD, h1, h2⟩ := h.m
  exact ⟨h.k.below hb h.k.lt, own_below h.o hb, ⟨D, hD.kept (grown_of_below hb) (by simp), h1, h2⟩, h.s, h.lg, h.lB, Nat.le_trans h.lw hb.size⟩
theorem NamesAt.grown {w w' : World} {base g B : Nat} {v : Value} {L : List ByteArray} {b2 n size : Nat} {e : TypeId} {u : Value} {xs : List Value} (h : NamesAt w base g B v L) (hr : w.ownsRow b2 e size u n xs) (he : e ≠ 9) (he' : e ≠ 53) (hg : w.grownBy w' u.ownBlock) : NamesAt w' base g B v L := by
  obtain ⟨D, hD, h1, h2⟩ := h.m
  exact ⟨h.k.kept hg (h.k.not_row (fun e' => he' e'.symm) hr), own_grown h.o hr (fun e' => he e'.symm) hg, ⟨D, hD.kept hg (fun e' => map_not_row hD hr e'.symm), h1, h2⟩, h.s, h.lg, h.lB, Nat.le_trans h.lw hg.size⟩
/-- what the names' number may change -/
def NamesS (g B : Nat) (v : Value) (k : Nat) : Prop := k = g ∨ k = B ∨ v.ownBlock = some k
theorem NamesAt.above {w : World} {base g B : Nat} {v : Value} {L : List ByteArray} (h : NamesAt w base g B v L) : ∀ k, NamesS g B v k → base ≤ k := by
  intro k hk
  rcases hk with rfl | rfl | hk
  · exact h.lg
  · exact h.lB
  · exact own_lt_block h.o k hk
set_option maxRecDepth 100000 in
set_option maxHeartbeats 2000000 in
theorem names_number (w : World) (base g B : Nat) (v : Value) (L : List ByteArray) (s : ByteArray) (hN : NamesAt w base g B v L) (hs : s.size ≤ 9223372036854775807) (hL : L.length ≤ 1099511627776) :
    Calls Try.prog 22 #[.pointer (some ⟨g, 0, none⟩), .string s] w fun e w' => ∃ v', e = .returned (.int .i64 (findZ (addV L s) s)) ∧ NamesAt w' base g B v' (addV L s) ∧ BelowP (NamesS g B v) w w' := by
  obtain ⟨i0, hi, hz0, hz1, hz2⟩ := info_parts info_str
  replace hi := Lib.hid hi
  replace hz0 := Lib.hid hz0
  replace hz1 := Lib.hid hz1
  replace hz2 := Lib.hid hz2
  obtain ⟨D, hD, hhas, hat0⟩ := hN.m
  have hkey : keyOf Try.prog 9 (.string s) = some (.string s.data.toList) := Go.WideMaps.keyOf_string_mk Try.underlying9 (by unfold maxLen; omega)
  obtain ⟨key, hk0⟩ : ∃ key, key = s.data.toList := ⟨_, rfl⟩
  rw [← hk0] at hkey
  obtain ⟨A, c, rfl, h11, h12, hLv⟩ := LAt.of_own hN.o hN.s rfl
  have q0 := hN.k.cell 0
  have q1 := hN.k.cell 1
  replace hkey := Lib.hid hkey
  by_cases hm : s ∈ L
  · have hh : Hid (Maps.has D (.string key) = true) := Lib.hid (by rw [hk0, hhas]; exact decide_eq_true (findZ_mem.2 hm))
    have hadd : addV L s = L := addV_old (by have := findZ_mem.2 hm; omega)
    rw [hadd]
    obtain ⟨Z, hZ⟩ : ∃ Z, Z = findZ L s := ⟨_, rfl⟩
    have hatZ : Hid (D.atKey (.string key) (.lit (.int .i64 0)) = .lit (.int .i64 Z)) := Lib.hid (by rw [hk0, hat0 s hm, hZ])
    rw [← hZ]
    replace hN := Lib.hid hN
    replace hD := Lib.hid hD
    clear hhas hat0 hk0 hm hadd hLv hL hs hZ
    go_enter Try.func22, Try.ntmps22
    go_wp2_with (
      (at_lookup
       refine wpList_lookup_own_ok_int _ rfl _ _ 51 rfl 9 3 .i64 lawS9 Try.underlying51 Try.underlying3 (zeroI9 _) B _ D rfl hD.out _ _ rfl hkey.out ?_
       intro c' hat hwc
       obtain rfl : c' = Z := by rw [hatZ.out] at hat; injection hat with hat; injection hat with _ hat; exact hat.symm
       rw [hh.out]
       clear hat))
    go_ret
    exact ⟨_, rfl, hN.out, BelowP.refl _ _⟩
  · have hh : Hid (Maps.has D (.string key) = false) := Lib.hid (by rw [hk0, hhas]; exact decide_eq_false (fun h => hm (findZ_mem.1 h)))
    have hneg : findZ L s < 0 := by
      rcases Int.lt_or_le (findZ L s) 0 with h | h
      · exact h
      · exact absurd (findZ_mem.1 h) hm
    have hadd : addV L s = L ++ [s] := addV_new hneg
    rw [hadd, findZ_snoc hneg]
    obtain ⟨n, hn⟩ : ∃ n, n = L.length := ⟨_, rfl⟩
    have hlg := hN.lg
    have hlB := hN.lB
    have hlw := hN.lw
    have hBg := map_not_blk hD hN.k
    have hrow := Lib.hid hN.o
    have hNk := hN.k
    rw [← hn] at hD h11 hLv hrow q0 hL hNk ⊢
    have hNo := Lib.hid hNk
    clear hNk
    have hsz := Lib.hid hN.s
    have hBr := map_not_row hD hrow.out
    replace hBr := Lib.hid hBr
    replace hhas := Lib.hid hhas
    replace hat0 := Lib.hid hat0
    replace hD := Lib.hid hD
    replace hk0 := Lib.hid hk0
    replace hneg := Lib.hid hneg
    replace hBg := Lib.hid hBg
    replace hn := Lib.hid hn
    replace hN := Lib.hid True.intro
    replace hm := Lib.hid hm
    clear hLv hadd
    go_enter Try.func22, Try.ntmps22
    go_wp2_with (first
      | (at_lookup
         refine wpList_lookup_own_ok_int _ rfl _ _ 51 rfl 9 3 .i64 lawS9 Try.underlying51 Try.underlying3 (zeroI9 _) B _ D rfl hD.out _ _ rfl hkey.out ?_
         intro c' hat hwc
         rw [hh.out]
         clear hat)
      | (at_mapUpdate
         refine wpList_mapUpdate_own _ rfl _ _ _ 51 rfl 9 3 lawS9 Try.underlying51 _ B n D rfl hD.out (by unfold maxLen; omega) _ _ _ rfl rfl hkey.out _ [] (plainElem_int Try.underlying3 (WalkArith.wf_i64 (by omega))) ?_
         intro w1 hD1 hg1
         have k1 := hNo.out.kept hg1 (fun e => hBg.out (by injection e))
         have r1 := row_map hD.out hrow.out hg1
         clear q0 q1
         have q0 := k1.cell 0
         obtain ⟨W3, hW3⟩ : ∃ W, W = w1.alloc (.cells #[.string s] 9) := ⟨_, rfl⟩
         have b3 : Below w1.heap.size w1 W3 := by rw [hW3]; exact (Below.refl _ _).alloc (Nat.le_refl _) _
         have hlit : LAt encS W3 (some ⟨w1.heap.size, 0, none⟩) 1 [s] := by rw [hW3]; exact LAt.lit1 (E := encS) w1 _ s hs
         have k3 := k1.below b3 k1.lt
         have r3 := own_below r1 b3
         have D3 := hD1.kept (grown_of_below b3) (by simp)
         have hg13 := hg1
         have l3 : base ≤ W3.heap.size := Nat.le_trans hlw (Nat.le_trans hg1.size b3.size)
         replace D3 := Lib.hid D3
         clear k1 r1 hD1)
      | (rw [← hW3]
         clear hW3
         at_builtin
         refine wpList_append_L (E := encS) rfl (.tmp 33) (.tmp 35) _ rfl base 9 i0 _ 16 Try.underlying23 hi.out hz0.out hz1.out hz2.out rfl _ n L (by rfl) r3 _ 1 1 [s] rfl hlit (by unfold maxLen; omega) (by omega) l3 ?_
         intro v' w4 hown' hbb hg hob
         have hLs : ∀ x ∈ L ++ [s], x.size ≤ 9223372036854775807 := fun x hx => (List.mem_append.1 hx).elim (hsz.out x) (fun h => by rw [List.mem_singleton.1 h]; exact hs)
         obtain ⟨A3, c3, rfl, -, -, -⟩ := LAt.of_own (E := encS) hown' hLs (by rw [List.length_append, hn.out]; simp)
         replace hLs := Lib.hid hLs
         have k4 := k3.kept hg (k3.not_row (by decide) r3)
         have D4 := Lib.hid (D3.out.kept hg (fun e => hBr.out e.symm))
         have s0 := k4.frozen 0
         clear q0
         have q0 := k4.cell 0
         have bP : BelowP (NamesS g B (.slice A n c)) w w4 := ((BelowP.grown (S := NamesS g B (.slice A n c)) hg13 (fun k hk => by injection hk with hk; exact .inr (.inl hk.symm))).trans (BelowP.of b3)).trans (BelowP.grown hg (fun k hk => .inr (.inr hk)))
         replace bP := Lib.hid bP
         replace k4 := Lib.hid k4
         replace hown' := Lib.hid hown'
         have l4 := Nat.le_trans l3 hg.size
         clear hbb hg hob hlit k3 r3 b3 hg13))
    go_ret
    refine ⟨.slice A3 (n + 1) c3, rfl, ⟨by have := k4.out.set_ 0 (.slice A3 (n + 1) c3); exact this, by rw [List.length_append]; have := own_farT (i := 0) hown'.out k4.out (by decide) (.slice A3 (n + 1) c3); rw [← hn.out]; exact this, ⟨_, (World.ownsMap.setCell D4.out (a := ⟨g, 0, none⟩) hBg.out (.slice A3 (n + 1) c3)).mono (by rw [List.length_append, hn.out]; simp), fun t => ?_, fun t ht => ?_⟩, hLs.out, hlg, hlB, by simpa using l4⟩, bP.out.set (.inl rfl) (.slice A3 (n + 1) c3)⟩
    · have hIs := World.ownsMap.isMap hD.out
      by_cases hts : t = s
      · subst hts
        rw [hk0.out, has_put_same hIs (keyL_ok _)]
        exact (decide_eq_true (findZ_mem.2 (by simp))).symm
      · rw [hk0.out, has_put_other (keyS_ne hts), hhas.out]
        exact decide_eq_decide.2 ⟨fun h => findZ_mem.2 (List.mem_append.2 (.inl (findZ_mem.1 h))), fun h => findZ_mem.2 ((List.mem_append.1 (findZ_mem.1 h)).elim id (fun h => absurd (List.mem_singleton.1 h) hts))⟩
    · have hIs := World.ownsMap.isMap hD.out
      by_cases hts : t = s
      · subst hts
        rw [hk0.out, atKey_put_same hIs (keyL_ok _), findZ_snoc hneg.out, hn.out]
      · have htL : t ∈ L := (List.mem_append.1 ht).elim id (fun h => absurd (List.mem_singleton.1 h) hts)
        rw [hk0.out, atKey_put_other (keyS_ne hts), hat0.out t htL, findZ_append (findZ_mem.2 htL)]
end Go.Proofs.Ytmfcnlolfhkeeaa
