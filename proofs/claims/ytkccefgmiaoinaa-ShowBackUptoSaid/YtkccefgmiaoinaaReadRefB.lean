/- The contract of the document's own answer of layer 7: Text. -/
import Derived.Test.YtkccefgmiaoinaaReadRef
import Derived.Test.YtkccefgmiaoinaaReadMathB
import Derived.Test.YtkccefgmiaoinaaHistRef
namespace Go.Proofs.Ytkccefgmiaoinaa
open Go.RowKit
set_option linter.unusedVariables false

/-- slices of operations, each a call's own -/
def OutsO (T : TypeId) (w : World) (base : Nat) (vs : List Value) (hs : List (List OpT)) : Prop :=
  vs.length = hs.length ∧ ∀ (i : Nat) (v : Value) (os : List OpT), vs[i]? = some v → hs[i]? = some os → OkO os ∧ w.ownsRow base T 3 v os.length (cellsO os)
theorem OutsO.nil (T : TypeId) (w : World) (base : Nat) : OutsO T w base [] [] := ⟨rfl, fun i v os h => by simp at h⟩
theorem OutsO.below {T : TypeId} {w w' : World} {base : Nat} {vs : List Value} {hs : List (List OpT)} (h : OutsO T w base vs hs) (hb : Below w.heap.size w w') : OutsO T w' base vs hs :=
  ⟨h.1, fun i v os h1 h2 => ⟨(h.2 i v os h1 h2).1, own_below (h.2 i v os h1 h2).2 hb⟩⟩
theorem own_baseR {w : World} {base base' : Nat} {e : TypeId} {size : Nat} {v : Value} {n : Nat} {xs : List Value} (h : w.ownsRow base e size v n xs) (hb : base' ≤ base) : w.ownsRow base' e size v n xs :=
  ⟨h.1, h.2.imp id fun ⟨g, cap, cur, hv, hg, r⟩ => ⟨g, cap, cur, hv, Nat.le_trans hb hg, r⟩⟩
theorem OutsO.snoc {T : TypeId} {w : World} {base : Nat} {vs : List Value} {hs : List (List OpT)} (h : OutsO T w base vs hs) {v : Value} {os : List OpT} (ho : OkO os) (hv : w.ownsRow base T 3 v os.length (cellsO os)) : OutsO T w base (vs ++ [v]) (hs ++ [os]) := by
  refine ⟨by simp [h.1], fun i u ps h1 h2 => ?_⟩
  by_cases hi : i < vs.length
  · rw [List.getElem?_append_left hi] at h1
    rw [List.getElem?_append_left (by rw [← h.1]; exact hi)] at h2
    exact h.2 i u ps h1 h2
  · rw [List.getElem?_append_right (by omega)] at h1
    rw [List.getElem?_append_right (by rw [← h.1]; omega)] at h2
    have e1 := List.mem_of_getElem? h1
    have e2 := List.mem_of_getElem? h2
    simp at e1 e2
    subst e1; subst e2
    exact ⟨ho, hv⟩
/-- .. behind an append to another row, of elements of another type -/
theorem OutsO.grown {T e2 : TypeId} {w w' : World} {base b2 s2 n2 : Nat} {vs : List Value} {hs : List (List OpT)} {v2 : Value} {xs2 : List Value} (h : OutsO T w base vs hs) (h2 : w.ownsRow b2 e2 s2 v2 n2 xs2) (hne : T ≠ e2) (hg : w.grownBy w' v2.ownBlock) : OutsO T w' base vs hs :=
  ⟨h.1, fun i v os h1 h3 => ⟨(h.2 i v os h1 h3).1, own_grown (h.2 i v os h1 h3).2 h2 hne hg⟩⟩
theorem OutsO.hist {T e : TypeId} {w : World} {base b2 : Nat} {vs : List Value} {hs : List (List OpT)} {v : Value} {n : Nat} (h : OutsO T w base vs hs) (hv : w.ownsRow b2 e 1 v n vs) (hn : vs.length = n) : ∃ A c, v = .slice A n c ∧ n ≤ c ∧ c ≤ 9223372036854775807 ∧ HistAt w A n hs := by
  obtain ⟨A, c, e, hr⟩ := Rd.of_own hv
  subst e
  refine ⟨A, c, rfl, OwnsRow.cap_le hv, OwnsRow.cap_max hv, vs, hr, h.1, fun i u os h1 h2 => ?_⟩
  obtain ⟨ho, hu⟩ := h.2 i u os h1 h2
  obtain ⟨A', c', e', hO⟩ := OpsAt.of_own hu ho rfl
  subst e'
  have := OwnsRow.cap_max hu
  have := OwnsRow.cap_le hu
  exact ⟨A', _, c', rfl, OwnsRow.cap_le hu, by unfold maxLen at *; omega, hO⟩
def txtH : PRes (List (List OpT)) → List (List OpT) | .bad _ _ => [] | .ok a => a
def txtA : PRes (List (List OpT)) → Nat | .bad k _ => k | .ok _ => 0
def txtE : PRes (List (List OpT)) → Int | .bad _ e => e | .ok _ => 0
/-- what a call that answers a text's history ends in -/
def RetText (r : PRes (List (List OpT))) (w : World) (e : Ending) (w' : World) : Prop :=
  ∃ A n c, e = .returned (.tuple #[.slice A n c, .int .i64 (txtA r : Nat), .int .i64 (txtE r)]) ∧ HistAt w' A n (txtH r) ∧ n ≤ c ∧ c ≤ 9223372036854775807 ∧ Below w.heap.size w w'

theorem info_sess7 : (Try.prog.info? 38).map (fun i => (i.zero, i.size, i.bytes)) = some (some (.slice none 0 0), 1, 24) := by kernel_rfl
/-- between lines -/
structure OutI (w : World) (n : Nat) (S : List UInt8) (R : PRes (List (List OpT))) (wr : World) (v : Value) (a all : Nat) (vs : List Value) (hs : List (List OpT)) : Prop where
  own : wr.ownsRow w.heap.size 38 1 v hs.length vs
  outs : OutsO 24 wr w.heap.size vs hs
  b : Below w.heap.size w wr
  r : fromT S a hs all = R
  n : hs.length ≤ a
/-- within a line, that began in the world w1 -/
structure LineI (S : List UInt8) (R : PRes (List (List OpT))) (w1 wr : World) (v : Value) (a all : Nat) (l : List OpT) (hs : List (List OpT)) : Prop where
  own : wr.ownsRow w1.heap.size 24 3 v l.length (cellsO l)
  ok : OkO l
  b : Below w1.heap.size w1 wr
  r : fromL S a l hs all = R
  n : l.length ≤ all
theorem OpsAt.of_blk1 {w : World} {g : Nat} {t : TypeId} {os : List OpT} {n : Nat} (h : Blk w g t (cellsO os)) (ho : OkO os) (hn : os.length = n) : OpsAt w (some ⟨g, 0, none⟩) n os :=
  ⟨hn, ho, fun _ => ⟨g, 0, rfl, h.lt, fun j u hu => by rw [Nat.zero_add, h.cell]; exact hu⟩⟩
theorem isWR_at {l : List UInt8} {c : UInt8} (h : l[0]? = some c) : isWR l = (isW c || isR c) := by
  cases l with
  | nil => simp at h
  | cons b r => simp at h; subst h; rfl
theorem LineI.b' {S : List UInt8} {R : PRes (List (List OpT))} {w1 wr : World} {v : Value} {a all : Nat} {l : List OpT} {hs : List (List OpT)} (h : LineI S R w1 wr v a all l hs) : Below w1.heap.size w1 wr := h.b
set_option maxRecDepth 100000 in
set_option maxHeartbeats 1000000 in
theorem ref7_Text (s : ByteArray) (w : World) (hs : s.size ≤ 1073741824) : Calls Try.prog 13 #[.string s] w (RetText (textL s.data.toList) w) := by
  obtain ⟨i0, hi, hz0, hz1, hz2⟩ := info_parts info_sess7
  obtain ⟨j0, ji, jz0, jz1, jz2⟩ := info_parts info_op
  replace hi := Lib.hid hi
  replace hz0 := Lib.hid hz0
  replace hz1 := Lib.hid hz1
  replace hz2 := Lib.hid hz2
  replace ji := Lib.hid ji
  replace jz0 := Lib.hid jz0
  replace jz1 := Lib.hid jz1
  replace jz2 := Lib.hid jz2
  obtain ⟨R, hR⟩ : ∃ R, R = textL s.data.toList := ⟨_, rfl⟩
  rw [← hR]
  replace hR := Lib.hid hR
  go_enter Try.func13, Try.ntmps13
  go_wp2_with fail
  go_loopw [5, 6, 7] (fun v t u wr => ∃ (a all : Nat) (vs : List Value) (ls : List (List OpT)), t = .int .i64 a ∧ u = .int .i64 all ∧ a ≤ s.size ∧ all ≤ 4096 ∧ Hid (OutI w 0 s.data.toList R wr v a all vs ls)) (fun _ t _ _ => s.size - (intOf t).toNat)
  case atStart => exact ⟨0, 0, [], [], rfl, rfl, Nat.zero_le _, Nat.zero_le _, Lib.hid ⟨World.ownsRow_nil _ _ _ _, OutsO.nil _ _ _, Below.refl _ _, by rw [fromT_start, ← hR.out], Nat.le_refl _⟩⟩
  case round =>
    obtain ⟨a0, all0, vs, ls, rfl, rfl, ha0, hall0, hO⟩ := hrel
    by_cases hlt : a0 < s.size
    · have hlt' : (a0 : Int) < (s.size : Int) := by omega
      obtain ⟨w1, rfl⟩ : ∃ w1, w1 = wr := ⟨_, rfl⟩
      go_wp2_with fail
      go_loopw [6, 7, 8] (fun t u l wx => ∃ (a all : Nat) (os : List OpT), t = .int .i64 a ∧ u = .int .i64 all ∧ a < s.size ∧ all ≤ 4096 ∧ ls.length ≤ a ∧ a0 ≤ a ∧ Hid (LineI s.data.toList R w1 wx l a all os ls)) (fun t _ _ _ => s.size - (intOf t).toNat)
      case atStart =>
        exact ⟨a0, all0, [], rfl, rfl, hlt, hall0, hO.out.n, Nat.le_refl _, Lib.hid ⟨World.ownsRow_nil _ _ _ _, fun o h => by simp at h, Below.refl _ _, by rw [← hO.out.r]; exact (fromT_line (by rw [size_list]; exact hlt) ls all0).symm, Nat.zero_le _⟩⟩
      case round =>
        clear hall0 ha0 hlt hlt'
        obtain ⟨a, all, os, rfl, rfl, ha, hall, hla, haa0, hI⟩ := hrel
        have hi0 : 0 ≤ (a : Int) ∧ (a : Int) < (s.size : Int) := ⟨by omega, by omega⟩
        obtain ⟨c, hc⟩ : ∃ c : UInt8, s[a]'ha = c := ⟨_, rfl⟩
        have hcl : s.data.toList[a]? = some c := by rw [byte_at s a ha, hc]
        have hcd : (s.data.toList.drop a)[0]? = some c := by rw [List.getElem?_drop]; exact hcl
        by_cases h10 : c.toNat = 10
        · have n10 : ((c.toNat : Int) != 10) = false := by simp; omega
          have hnext := fromL_end hcl h10 os ls all
          rw [hI.out.r] at hnext
          obtain ⟨B, c2, hv, -⟩ := OpsAt.of_own hI.out.own hI.out.ok rfl
          subst hv
          have hown := own_below hO.out.own hI.out.b
          have houts := hO.out.outs.below hI.out.b
          have hb2 := below_trans2 hO.out.b hI.out.b
          obtain ⟨gy, hgy⟩ : ∃ g, g = wr.heap.size := ⟨_, rfl⟩
          obtain ⟨wy, hwy⟩ : ∃ W, W = wr.alloc (.cells #[.slice B os.length c2] 38) := ⟨_, rfl⟩
          have by1 : Below wr.heap.size wr wy := by rw [hwy]; exact (Below.refl _ _).alloc (Nat.le_refl _) _
          have hcell := Blk.cell (show Blk wy gy 38 [.slice B os.length c2] from by rw [hwy, hgy]; exact Blk.new wr _ _) 0
          replace hown := Lib.hid (own_below hown by1)
          replace houts := Lib.hid (houts.below by1)
          have hlv := Lib.hid (own_below hI.out.own by1)
          have hok := Lib.hid hI.out.ok
          have hsz := Lib.hid hI.out.b.size
          replace hb2 := Lib.hid (below_trans2 hb2 by1)
          have hbase := Lib.hid hb2.out.size
          have hnews : ∀ (j : Nat) (u : Value), [Value.slice B os.length c2][j]? = some u → wy.cell? ((⟨gy, 0, none⟩ : Addr).add j) = some u := fun j u hu => by
            match j with
            | 0 => have e : (⟨gy, 0, none⟩ : Addr).add 0 = ⟨gy, 0, none⟩ := rfl; rw [e, hcell]; exact hu
            | j + 1 => simp at hu
          have h1c : ∀ u ∈ [Value.slice B os.length c2], u.oneCell' = true := fun u hu => by simp at hu; subst hu; rfl
          have haa : ls.length ≤ s.size := by omega
          have hW := Lib.hid hO.out.b.size
          replace hnews := Lib.hid hnews
          replace h1c := Lib.hid h1c
          replace hnext := Lib.hid hnext
          replace hcl := Lib.hid hcl
          replace hcd := Lib.hid hcd
          replace h10 := Lib.hid h10
          clear hcell by1 hO hI
          go_wp2_with (first
            | (rw [← hwy, ← hgy]; clear hwy hgy)
            | (at_builtin; refine wpList_append_own_at wy rfl (.tmp 74) (.tmp 76) _ rfl w.heap.size 38 i0 _ 1 24 Try.underlying22 hi.out hz0.out hz1.out hz2.out rfl (by omega) _ _ _ (by rfl) hown.out ⟨gy, 0, none⟩ 1 1 [.slice B os.length c2] rfl rfl hnews.out h1c.out (by unfold maxLen; omega) (by omega) hbase.out ?_; intro v' w' hown' hg _ _))
          refine ⟨⟨a + 1, all, vs ++ [.slice B os.length c2], ls ++ [os], by go_num, rfl, by omega, hall, Lib.hid ⟨by rw [List.length_append]; exact hown', (houts.out.grown hown.out (by decide) hg).snoc hok.out (own_baseR (own_grown hlv.out hown.out (by decide) hg) (Nat.le_trans hW.out (Nat.le_refl _))), hb2.out.grown hg hbase.out (own_lt_block hown.out), hnext.out.symm, by rw [List.length_append, List.length_singleton]; omega⟩⟩, by simp [intOf]; omega⟩
        · have n10 : ((c.toNat : Int) != 10) = true := by simp; omega
          obtain ⟨B, c2, hv, -⟩ := OpsAt.of_own hI.out.own hI.out.ok rfl
          subst hv
          obtain ⟨L, hL⟩ : ∃ L, L = os.length := ⟨_, rfl⟩
          rw [← hL] at hI ⊢
          have hLa : L ≤ 4096 := by have := hI.out.n; omega
          have haI : (a : Int) < (s.size : Int) := by omega
          have hwr0 : isWR (s.data.toList.drop a) = (isW c || isR c) := isWR_at hcd
          by_cases hL0 : L = 0
          · subst hL0
            have hE : os.isEmpty = true := by cases os with
              | nil => rfl
              | cons x y => simp at hL
            have hsp : true = true ∨ ∃ c, (s.data.toList.drop a)[0]? = some c ∧ c.toNat = 32 := Or.inl rfl
            by_cases h4 : all = 4096
            · subst h4
              by_cases hw : c.toNat = 119 ∨ c.toNat = 114
              · have hb := fromL_bad (l := os) (all := 4096) hcl h10 (by rw [hE]; exact opS_large hsp (by show isWR (s.data.toList.drop a) = true; rw [hwr0]; unfold isW isR; simp; omega)) ls
                rw [hI.out.r] at hb
                have bF := Lib.hid (below_trans2 hO.out.b hI.out.b')
                replace hb := Lib.hid hb
                replace hcl := Lib.hid hcl
                replace hcd := Lib.hid hcd
                replace h10 := Lib.hid h10
                replace hwr0 := Lib.hid hwr0
                replace hL := Lib.hid hL
                replace hE := Lib.hid hE
                replace hsp := Lib.hid hsp
                rcases hw with hw | hw
                · have e1 : ((c.toNat : Int) == 119) = true := by simp; omega
                  replace hw := Lib.hid hw
                  go_wp2_with fail
                  rw [hb.out]
                  -- a bad end: place (a : Int), error 3
                  refine bodyPost_ret (v := .tuple #[.slice none 0 0, .int .i64 (a : Int), .int .i64 3]) (by simp [results, go_sem]) rfl ⟨none, 0, 0, ?_, HistAt.nil _ _, Nat.le_refl _, by omega, bF.out⟩
                  rfl
                · have e1 : ((c.toNat : Int) == 119) = false := by simp; omega
                  have e2 : ((c.toNat : Int) == 114) = true := by simp; omega
                  replace hw := Lib.hid hw
                  go_wp2_with fail
                  rw [hb.out]
                  -- a bad end: place (a : Int), error 3
                  refine bodyPost_ret (v := .tuple #[.slice none 0 0, .int .i64 (a : Int), .int .i64 3]) (by simp [results, go_sem]) rfl ⟨none, 0, 0, ?_, HistAt.nil _ _, Nat.le_refl _, by omega, bF.out⟩
                  rfl
              · have hw' : ¬ (4096 = 4096 ∧ isWR ((s.data.toList.drop a).drop (skN true)) = true) := by
                  rintro ⟨_, h⟩
                  have h' : isWR (s.data.toList.drop a) = true := h
                  rw [hwr0] at h'
                  unfold isW isR at h'; simp at h'; omega
                have e1 : ((c.toNat : Int) == 119) = false := by simp; omega
                have e2 : ((c.toNat : Int) == 114) = false := by simp; omega
                replace hw := Lib.hid hw
                -- an operation at the place (a : Int) (a), behind a blank or not (true: is it the first one; 0: blanks); 4096 so far
                have hdr : (s.data.toList.drop a).drop (skN true) = s.data.toList.drop ((a : Int)).toNat := by
                  rw [List.drop_drop]; exact congrArg (fun k => s.data.toList.drop k) (by show a + 0 = _; omega)
                have c1 := ref7_one s (a : Int) wr hs (by omega) (by omega)
                rw [← hdr] at c1
                cases hrr : oneL ((s.data.toList.drop a).drop (skN true)) with
                | bad k e =>
                  rw [hrr] at c1
                  have hb := fromL_bad (l := os) (all := 4096) hcl h10 (by rw [hE]; exact opS_one_bad hsp hw' hrr) ls
                  rw [hI.out.r] at hb
                  have he0 : (e != 0) = true := by rcases oneL_bad_ne hrr with h | h <;> (subst h; rfl)
                  have c1' := Lib.hid (show Calls Try.prog 23 #[.string s, .int .i64 (a : Int)] wr fun x w' => x = .returned (.tuple #[.agg #[.bool false, .string ⟨#[]⟩, .int .i64 0], .int .i64 ((a : Int) + (k : Nat)), .int .i64 e]) ∧ Below wr.heap.size wr w' from c1)
                  have bF := Lib.hid (below_trans2 hO.out.b hI.out.b')
                  replace hb := Lib.hid hb
                  replace hrr := Lib.hid hrr
                  replace hdr := Lib.hid hdr
                  replace hw' := Lib.hid hw'
                  replace hcl := Lib.hid hcl
                  replace hcd := Lib.hid hcd
                  replace h10 := Lib.hid h10
                  replace hwr0 := Lib.hid hwr0
                  replace hL := Lib.hid hL
                  replace hE := Lib.hid hE
                  replace hsp := Lib.hid hsp
                  clear c1
                  go_wp2_with fail
                  refine c1'.out.mono ?_; rintro x w3 ⟨rfl, b3⟩
                  replace bF := Lib.hid (below_trans2 bF.out b3)
                  obtain ⟨g, hg⟩ : ∃ g, g = w3.heap.size := ⟨_, rfl⟩
                  obtain ⟨V0, hV0⟩ : ∃ V0, V0 = w3.alloc (.cells #[.bool false, .string ⟨#[]⟩, .int .i64 0] 24) := ⟨_, rfl⟩
                  have k0 := show Op3 V0 g 24 opZ from by rw [hV0, hg]; exact Op3.new _ _ opZ
                  have p0 : V0.cell? ⟨g, 0, none⟩ = some (.bool false) := k0.c0
                  have p1 : V0.cell? ⟨g, 1, none⟩ = some (.string ⟨#[]⟩) := k0.c1
                  have p2 : V0.cell? ⟨g, 2, none⟩ = some (.int .i64 0) := k0.c2
                  have f0 := Blk.frozen k0 0
                  have f1 := Blk.frozen k0 1
                  have f2 := Blk.frozen k0 2
                  have bV := Lib.hid (show Below w.heap.size w (((V0.setCell ⟨g, 0, none⟩ (.bool false)).setCell ⟨g, 1, none⟩ (.string ⟨#[]⟩)).setCell ⟨g, 2, none⟩ (.int .i64 0)) from by
                    have h0 : Below w.heap.size w V0 := by rw [hV0]; exact bF.out.alloc bF.out.size _
                    exact ((h0.setCell (p := ⟨g, 0, none⟩) (by rw [hg]; exact bF.out.size) _).setCell (p := ⟨g, 1, none⟩) (by rw [hg]; exact bF.out.size) _).setCell (p := ⟨g, 2, none⟩) (by rw [hg]; exact bF.out.size) _)
                  clear k0
                  go_wp2_with (rw [← hV0, ← hg]; clear hV0 hg)
                  rw [hb.out]
                  -- a bad end: place ((a : Int) + (k : Nat)), error e
                  refine bodyPost_ret (v := .tuple #[.slice none 0 0, .int .i64 ((a : Int) + (k : Nat)), .int .i64 e]) (by simp [results, go_sem]) rfl ⟨none, 0, 0, ?_, HistAt.nil _ _, Nat.le_refl _, by omega, bV.out⟩
                  show Ending.returned _ = Ending.returned (.tuple #[.slice none 0 0, .int .i64 ((a + (skN true + k) : Nat) : Int), .int .i64 e])
                  rw [show ((a + (skN true + k) : Nat) : Int) = (a : Int) + (k : Nat) from by show ((a + (0 + k) : Nat) : Int) = _; omega]
                | ok x =>
                  exact absurd ⟨rfl, (oneL_ok hrr).2.1⟩ hw'
            · have hw' : ¬ (all = 4096 ∧ isWR ((s.data.toList.drop a).drop (skN true)) = true) := fun h => h4 h.1
              have e4 : ((all : Int) == 4096) = false := by simp; omega
              replace h4 := Lib.hid h4
              -- an operation at the place (a : Int) (a), behind a blank or not (true: is it the first one; 0: blanks); all so far
              have hdr : (s.data.toList.drop a).drop (skN true) = s.data.toList.drop ((a : Int)).toNat := by
                rw [List.drop_drop]; exact congrArg (fun k => s.data.toList.drop k) (by show a + 0 = _; omega)
              have c1 := ref7_one s (a : Int) wr hs (by omega) (by omega)
              rw [← hdr] at c1
              cases hrr : oneL ((s.data.toList.drop a).drop (skN true)) with
              | bad k e =>
                rw [hrr] at c1
                have hb := fromL_bad (l := os) (all := all) hcl h10 (by rw [hE]; exact opS_one_bad hsp hw' hrr) ls
                rw [hI.out.r] at hb
                have he0 : (e != 0) = true := by rcases oneL_bad_ne hrr with h | h <;> (subst h; rfl)
                have c1' := Lib.hid (show Calls Try.prog 23 #[.string s, .int .i64 (a : Int)] wr fun x w' => x = .returned (.tuple #[.agg #[.bool false, .string ⟨#[]⟩, .int .i64 0], .int .i64 ((a : Int) + (k : Nat)), .int .i64 e]) ∧ Below wr.heap.size wr w' from c1)
                have bF := Lib.hid (below_trans2 hO.out.b hI.out.b')
                replace hb := Lib.hid hb
                replace hrr := Lib.hid hrr
                replace hdr := Lib.hid hdr
                replace hw' := Lib.hid hw'
                replace hcl := Lib.hid hcl
                replace hcd := Lib.hid hcd
                replace h10 := Lib.hid h10
                replace hwr0 := Lib.hid hwr0
                replace hL := Lib.hid hL
                replace hE := Lib.hid hE
                replace hsp := Lib.hid hsp
                clear c1
                go_wp2_with fail
                refine c1'.out.mono ?_; rintro x w3 ⟨rfl, b3⟩
                replace bF := Lib.hid (below_trans2 bF.out b3)
                obtain ⟨g, hg⟩ : ∃ g, g = w3.heap.size := ⟨_, rfl⟩
                obtain ⟨V0, hV0⟩ : ∃ V0, V0 = w3.alloc (.cells #[.bool false, .string ⟨#[]⟩, .int .i64 0] 24) := ⟨_, rfl⟩
                have k0 := show Op3 V0 g 24 opZ from by rw [hV0, hg]; exact Op3.new _ _ opZ
                have p0 : V0.cell? ⟨g, 0, none⟩ = some (.bool false) := k0.c0
                have p1 : V0.cell? ⟨g, 1, none⟩ = some (.string ⟨#[]⟩) := k0.c1
                have p2 : V0.cell? ⟨g, 2, none⟩ = some (.int .i64 0) := k0.c2
                have f0 := Blk.frozen k0 0
                have f1 := Blk.frozen k0 1
                have f2 := Blk.frozen k0 2
                have bV := Lib.hid (show Below w.heap.size w (((V0.setCell ⟨g, 0, none⟩ (.bool false)).setCell ⟨g, 1, none⟩ (.string ⟨#[]⟩)).setCell ⟨g, 2, none⟩ (.int .i64 0)) from by
                  have h0 : Below w.heap.size w V0 := by rw [hV0]; exact bF.out.alloc bF.out.size _
                  exact ((h0.setCell (p := ⟨g, 0, none⟩) (by rw [hg]; exact bF.out.size) _).setCell (p := ⟨g, 1, none⟩) (by rw [hg]; exact bF.out.size) _).setCell (p := ⟨g, 2, none⟩) (by rw [hg]; exact bF.out.size) _)
                clear k0
                go_wp2_with (rw [← hV0, ← hg]; clear hV0 hg)
                rw [hb.out]
                -- a bad end: place ((a : Int) + (k : Nat)), error e
                refine bodyPost_ret (v := .tuple #[.slice none 0 0, .int .i64 ((a : Int) + (k : Nat)), .int .i64 e]) (by simp [results, go_sem]) rfl ⟨none, 0, 0, ?_, HistAt.nil _ _, Nat.le_refl _, by omega, bV.out⟩
                show Ending.returned _ = Ending.returned (.tuple #[.slice none 0 0, .int .i64 ((a + (skN true + k) : Nat) : Int), .int .i64 e])
                rw [show ((a + (skN true + k) : Nat) : Int) = (a : Int) + (k : Nat) from by show ((a + (0 + k) : Nat) : Int) = _; omega]
              | ok x =>
                obtain ⟨o, k⟩ := x
                rw [hrr] at c1
                obtain ⟨hk, hwk, hoo, ho8⟩ := oneL_ok hrr
                have h4096 : all < 4096 := by
                  rcases Nat.lt_or_ge all 4096 with h | h
                  · exact h
                  · exact absurd ⟨by omega, hwk⟩ hw'
                have hkp := oneL_pos hrr
                have hkl : a + k ≤ s.size := by
                  rw [hdr, List.length_drop, size_list] at hk
                  omega
                have hn := fromL_op hcl h10 (l := os) (all := all) (by rw [hE]; exact opS_one_ok hsp hw' hrr) ls
                rw [hI.out.r, show a + (skN true + k) = a + k from by show a + (0 + k) = _; omega] at hn
                have c1' := Lib.hid (show Calls Try.prog 23 #[.string s, .int .i64 (a : Int)] wr fun x w' => x = .returned (.tuple #[.agg #[.bool o.1, .string o.2.1, .int .i64 o.2.2], .int .i64 ((a : Int) + (k : Nat)), .int .i64 0]) ∧ Below wr.heap.size wr w' from c1)
                have hown := Lib.hid hI.out.own
                have hok := Lib.hid hI.out.ok
                have hLb := Lib.hid hI.out.b'
                have hLn := hI.out.n
                rw [← hL] at hLn
                replace hn := Lib.hid hn
                replace hrr := Lib.hid hrr
                replace hdr := Lib.hid hdr
                replace hw' := Lib.hid hw'
                replace hoo := Lib.hid hoo
                replace hwk := Lib.hid hwk
                replace hk := Lib.hid hk
                replace hcl := Lib.hid hcl
                replace hcd := Lib.hid hcd
                replace h10 := Lib.hid h10
                replace hwr0 := Lib.hid hwr0
                replace hL := Lib.hid hL
                replace hE := Lib.hid hE
                replace hsp := Lib.hid hsp
                clear c1 hI
                go_wp2_with fail
                refine c1'.out.mono ?_; rintro x w3 ⟨rfl, b3⟩
                obtain ⟨ob, on, oz⟩ := o
                simp only at ho8
                obtain ⟨g, hg⟩ : ∃ g, g = w3.heap.size := ⟨_, rfl⟩
                obtain ⟨V0, hV0⟩ : ∃ V0, V0 = w3.alloc (.cells #[.bool false, .string ⟨#[]⟩, .int .i64 0] 24) := ⟨_, rfl⟩
                have k0 := show Op3 V0 g 24 opZ from by rw [hV0, hg]; exact Op3.new _ _ opZ
                have p0 : V0.cell? ⟨g, 0, none⟩ = some (.bool false) := k0.c0
                have p1 : V0.cell? ⟨g, 1, none⟩ = some (.string ⟨#[]⟩) := k0.c1
                have p2 : V0.cell? ⟨g, 2, none⟩ = some (.int .i64 0) := k0.c2
                have f0 := Blk.frozen k0 0
                have f1 := Blk.frozen k0 1
                have f2 := Blk.frozen k0 2
                obtain ⟨V, hV⟩ : ∃ V, V = (((V0.setCell ⟨g, 0, none⟩ (.bool ob)).setCell ⟨g, 1, none⟩ (.string on)).setCell ⟨g, 2, none⟩ (.int .i64 oz)) := ⟨_, rfl⟩
                have kV := show Op3 V g 24 (ob, on, oz) from by rw [hV]; exact k0.put (ob, on, oz)
                have bV : Below w3.heap.size w3 V := by
                  rw [hV]
                  have h0 : Below w3.heap.size w3 V0 := by rw [hV0]; exact (Below.refl _ _).alloc (Nat.le_refl _) _
                  exact ((h0.setCell (p := ⟨g, 0, none⟩) (by rw [hg]; exact Nat.le_refl _) _).setCell (p := ⟨g, 1, none⟩) (by rw [hg]; exact Nat.le_refl _) _).setCell (p := ⟨g, 2, none⟩) (by rw [hg]; exact Nat.le_refl _) _
                have q0 : V.cell? ⟨g, 0, none⟩ = some (.bool ob) := kV.c0
                have q1 : V.cell? ⟨g, 1, none⟩ = some (.string on) := kV.c1
                have q2 : V.cell? ⟨g, 2, none⟩ = some (.int .i64 oz) := kV.c2
                obtain ⟨gz, hgz⟩ : ∃ g, g = V.heap.size := ⟨_, rfl⟩
                obtain ⟨V2, hV2⟩ : ∃ V2, V2 = V.alloc (.cells #[.bool ob, .string on, .int .i64 oz] 24) := ⟨_, rfl⟩
                have bV2 : Below V.heap.size V V2 := by rw [hV2]; exact (Below.refl _ _).alloc (Nat.le_refl _) _
                have hOne := Lib.hid (OpsAt.of_blk1 (show Blk V2 gz 24 (cellsO [(ob, on, oz)]) from by rw [hV2, hgz]; exact Blk.new V _ _) hoo.out rfl)
                replace hown := Lib.hid (own_below (own_below (own_below hown.out b3) bV) bV2)
                replace hLb := Lib.hid (below_trans2 (below_trans2 (below_trans2 hLb.out b3) bV) bV2)
                have hbase := Lib.hid hLb.out.size
                rw [← hL.out] at hown
                clear k0 kV bV bV2 b3
                have hPk : (((a + k : Nat)) : Int) = (a : Int) + (k : Nat) := by omega
                by_cases hend : a + k < s.size
                · have hend' : (a : Int) + (k : Nat) < (s.size : Int) := by omega
                  replace hPk := Lib.hid hPk
                  go_wp2_with (first
                    | (rw [← hV0, ← hg]; clear hV0 hg)
                    | (rw [← hV2, ← hgz]; clear hV2 hgz)
                    | (rw [← hV]; clear hV)
                    | (at_builtin; refine wpList_append_ops rfl (.tmp 62) (.tmp 64) _ rfl w1.heap.size 24 j0 _ Try.underlying38 ji.out jz0.out jz1.out jz2.out rfl _ 0 os (by rfl) hown.out _ 1 1 [(ob, on, oz)] rfl hOne.out (by omega) hbase.out ?_; intro v' w7 hown' hb7))
                  exact ⟨⟨a + k, all + 1, os ++ [(ob, on, oz)], by rw [hPk.out], by go_num, hend, by omega, by omega, by omega, Lib.hid ⟨by rw [List.length_append, ← hL.out]; exact hown', okO_append hok.out hoo.out, hLb.out.trans hb7, hn.out.symm, by rw [List.length_append, List.length_singleton, ← hL.out]; omega⟩⟩, by simp [intOf]; omega⟩
                · have hend' : ¬ (a : Int) + (k : Nat) < (s.size : Int) := by omega
                  have hb : R = .bad (a + k) 2 := by rw [hn.out, fromL_nil (by rw [size_list]; omega)]
                  have bF := Lib.hid (Lib.hid hO.out.b)
                  replace hb := Lib.hid hb
                  replace hPk := Lib.hid hPk
                  go_wp2_with (first
                    | (rw [← hV0, ← hg]; clear hV0 hg)
                    | (rw [← hV2, ← hgz]; clear hV2 hgz)
                    | (rw [← hV]; clear hV)
                    | (at_builtin; refine wpList_append_ops rfl (.tmp 62) (.tmp 64) _ rfl w1.heap.size 24 j0 _ Try.underlying38 ji.out jz0.out jz1.out jz2.out rfl _ 0 os (by rfl) hown.out _ 1 1 [(ob, on, oz)] rfl hOne.out (by omega) hbase.out ?_; intro v' w7 hown' hb7))
                  rw [hb.out]
                  -- a bad end: place ((a : Int) + (k : Nat)), error 2
                  refine bodyPost_ret (v := .tuple #[.slice none 0 0, .int .i64 ((a : Int) + (k : Nat)), .int .i64 2]) (by simp [results, go_sem]) rfl ⟨none, 0, 0, ?_, HistAt.nil _ _, Nat.le_refl _, by omega, (below_trans2 hO.out.b (hLb.out.trans hb7))⟩
                  show Ending.returned _ = Ending.returned (.tuple #[.slice none 0 0, .int .i64 ((a + k : Nat) : Int), .int .i64 2])
                  rw [hPk.out]
          · have hLp : (0 : Int) < (L : Int) := by omega
            have hE : os.isEmpty = false := by cases os with
              | nil => simp at hL; exact absurd hL hL0
              | cons x y => rfl
            replace hL0 := Lib.hid hL0
            by_cases h32 : c.toNat = 32
            · have e32 : ((c.toNat : Int) != 32) = false := by simp; omega
              have hsp : false = true ∨ ∃ c, (s.data.toList.drop a)[0]? = some c ∧ c.toNat = 32 := Or.inr ⟨c, hcd, h32⟩
              replace h32 := Lib.hid h32
              by_cases hps : a + 1 < s.size
              · have hps' : (a : Int) + 1 < (s.size : Int) := by omega
                have hi1 : 0 ≤ (a : Int) + 1 ∧ (a : Int) + 1 < (s.size : Int) := ⟨by omega, hps'⟩
                obtain ⟨d, hd⟩ : ∃ d : UInt8, s[a + 1]'hps = d := ⟨_, rfl⟩
                have hdd : ((s.data.toList.drop a).drop (skN false))[0]? = some d := by
                  rw [List.getElem?_drop, List.getElem?_drop]
                  show s.data.toList[a + (1 + 0)]? = _
                  rw [show a + (1 + 0) = a + 1 by omega, byte_at s _ hps, hd]
                have hwr1 := isWR_at hdd
                replace hdd := Lib.hid hdd
                by_cases h4 : all = 4096
                · subst h4
                  by_cases hw : d.toNat = 119 ∨ d.toNat = 114
                  · have hb := fromL_bad (l := os) (all := 4096) hcl h10 (by rw [hE]; exact opS_large hsp (by rw [hwr1]; unfold isW isR; simp; omega)) ls
                    rw [hI.out.r] at hb
                    have bF := Lib.hid (below_trans2 hO.out.b hI.out.b')
                    have hpl : ((a + 1 : Nat) : Int) = (a : Int) + 1 := by omega
                    replace hb := Lib.hid hb
                    replace hwr1 := Lib.hid hwr1
                    replace hcl := Lib.hid hcl
                    replace hcd := Lib.hid hcd
                    replace h10 := Lib.hid h10
                    replace hwr0 := Lib.hid hwr0
                    replace hL := Lib.hid hL
                    replace hE := Lib.hid hE
                    replace hsp := Lib.hid hsp
                    rcases hw with hw | hw
                    · have e1 : ((d.toNat : Int) == 119) = true := by simp; omega
                      replace hw := Lib.hid hw
                      go_wp2_with fail
                      rw [hb.out]
                      -- a bad end: place ((a : Int) + 1), error 3
                      refine bodyPost_ret (v := .tuple #[.slice none 0 0, .int .i64 ((a : Int) + 1), .int .i64 3]) (by simp [results, go_sem]) rfl ⟨none, 0, 0, ?_, HistAt.nil _ _, Nat.le_refl _, by omega, bF.out⟩
                      rfl
                    · have e1 : ((d.toNat : Int) == 119) = false := by simp; omega
                      have e2 : ((d.toNat : Int) == 114) = true := by simp; omega
                      replace hw := Lib.hid hw
                      go_wp2_with fail
                      rw [hb.out]
                      -- a bad end: place ((a : Int) + 1), error 3
                      refine bodyPost_ret (v := .tuple #[.slice none 0 0, .int .i64 ((a : Int) + 1), .int .i64 3]) (by simp [results, go_sem]) rfl ⟨none, 0, 0, ?_, HistAt.nil _ _, Nat.le_refl _, by omega, bF.out⟩
                      rfl
                  · have hw' : ¬ (4096 = 4096 ∧ isWR ((s.data.toList.drop a).drop (skN false)) = true) := by
                      rintro ⟨_, h⟩
                      rw [hwr1] at h
                      unfold isW isR at h; simp at h; omega
                    have e1 : ((d.toNat : Int) == 119) = false := by simp; omega
                    have e2 : ((d.toNat : Int) == 114) = false := by simp; omega
                    replace hw := Lib.hid hw
                    replace hwr1 := Lib.hid hwr1
                    -- an operation at the place ((a : Int) + 1) ((a + 1)), behind a blank or not (false: is it the first one; 1: blanks); 4096 so far
                    have hdr : (s.data.toList.drop a).drop (skN false) = s.data.toList.drop (((a : Int) + 1)).toNat := by
                      rw [List.drop_drop]; exact congrArg (fun k => s.data.toList.drop k) (by show a + 1 = _; omega)
                    have c1 := ref7_one s ((a : Int) + 1) wr hs (by omega) (by omega)
                    rw [← hdr] at c1
                    cases hrr : oneL ((s.data.toList.drop a).drop (skN false)) with
                    | bad k e =>
                      rw [hrr] at c1
                      have hb := fromL_bad (l := os) (all := 4096) hcl h10 (by rw [hE]; exact opS_one_bad hsp hw' hrr) ls
                      rw [hI.out.r] at hb
                      have he0 : (e != 0) = true := by rcases oneL_bad_ne hrr with h | h <;> (subst h; rfl)
                      have c1' := Lib.hid (show Calls Try.prog 23 #[.string s, .int .i64 ((a : Int) + 1)] wr fun x w' => x = .returned (.tuple #[.agg #[.bool false, .string ⟨#[]⟩, .int .i64 0], .int .i64 (((a : Int) + 1) + (k : Nat)), .int .i64 e]) ∧ Below wr.heap.size wr w' from c1)
                      have bF := Lib.hid (below_trans2 hO.out.b hI.out.b')
                      replace hb := Lib.hid hb
                      replace hrr := Lib.hid hrr
                      replace hdr := Lib.hid hdr
                      replace hw' := Lib.hid hw'
                      replace hcl := Lib.hid hcl
                      replace hcd := Lib.hid hcd
                      replace h10 := Lib.hid h10
                      replace hwr0 := Lib.hid hwr0
                      replace hL := Lib.hid hL
                      replace hE := Lib.hid hE
                      replace hsp := Lib.hid hsp
                      clear c1
                      go_wp2_with fail
                      refine c1'.out.mono ?_; rintro x w3 ⟨rfl, b3⟩
                      replace bF := Lib.hid (below_trans2 bF.out b3)
                      obtain ⟨g, hg⟩ : ∃ g, g = w3.heap.size := ⟨_, rfl⟩
                      obtain ⟨V0, hV0⟩ : ∃ V0, V0 = w3.alloc (.cells #[.bool false, .string ⟨#[]⟩, .int .i64 0] 24) := ⟨_, rfl⟩
                      have k0 := show Op3 V0 g 24 opZ from by rw [hV0, hg]; exact Op3.new _ _ opZ
                      have p0 : V0.cell? ⟨g, 0, none⟩ = some (.bool false) := k0.c0
                      have p1 : V0.cell? ⟨g, 1, none⟩ = some (.string ⟨#[]⟩) := k0.c1
                      have p2 : V0.cell? ⟨g, 2, none⟩ = some (.int .i64 0) := k0.c2
                      have f0 := Blk.frozen k0 0
                      have f1 := Blk.frozen k0 1
                      have f2 := Blk.frozen k0 2
                      have bV := Lib.hid (show Below w.heap.size w (((V0.setCell ⟨g, 0, none⟩ (.bool false)).setCell ⟨g, 1, none⟩ (.string ⟨#[]⟩)).setCell ⟨g, 2, none⟩ (.int .i64 0)) from by
                        have h0 : Below w.heap.size w V0 := by rw [hV0]; exact bF.out.alloc bF.out.size _
                        exact ((h0.setCell (p := ⟨g, 0, none⟩) (by rw [hg]; exact bF.out.size) _).setCell (p := ⟨g, 1, none⟩) (by rw [hg]; exact bF.out.size) _).setCell (p := ⟨g, 2, none⟩) (by rw [hg]; exact bF.out.size) _)
                      clear k0
                      go_wp2_with (rw [← hV0, ← hg]; clear hV0 hg)
                      rw [hb.out]
                      -- a bad end: place (((a : Int) + 1) + (k : Nat)), error e
                      refine bodyPost_ret (v := .tuple #[.slice none 0 0, .int .i64 (((a : Int) + 1) + (k : Nat)), .int .i64 e]) (by simp [results, go_sem]) rfl ⟨none, 0, 0, ?_, HistAt.nil _ _, Nat.le_refl _, by omega, bV.out⟩
                      show Ending.returned _ = Ending.returned (.tuple #[.slice none 0 0, .int .i64 ((a + (skN false + k) : Nat) : Int), .int .i64 e])
                      rw [show ((a + (skN false + k) : Nat) : Int) = ((a : Int) + 1) + (k : Nat) from by show ((a + (1 + k) : Nat) : Int) = _; omega]
                    | ok x =>
                      exact absurd ⟨rfl, (oneL_ok hrr).2.1⟩ hw'
                · have hw' : ¬ (all = 4096 ∧ isWR ((s.data.toList.drop a).drop (skN false)) = true) := fun h => h4 h.1
                  have e4 : ((all : Int) == 4096) = false := by simp; omega
                  replace h4 := Lib.hid h4
                  replace hwr1 := Lib.hid hwr1
                  -- an operation at the place ((a : Int) + 1) ((a + 1)), behind a blank or not (false: is it the first one; 1: blanks); all so far
                  have hdr : (s.data.toList.drop a).drop (skN false) = s.data.toList.drop (((a : Int) + 1)).toNat := by
                    rw [List.drop_drop]; exact congrArg (fun k => s.data.toList.drop k) (by show a + 1 = _; omega)
                  have c1 := ref7_one s ((a : Int) + 1) wr hs (by omega) (by omega)
                  rw [← hdr] at c1
                  cases hrr : oneL ((s.data.toList.drop a).drop (skN false)) with
                  | bad k e =>
                    rw [hrr] at c1
                    have hb := fromL_bad (l := os) (all := all) hcl h10 (by rw [hE]; exact opS_one_bad hsp hw' hrr) ls
                    rw [hI.out.r] at hb
                    have he0 : (e != 0) = true := by rcases oneL_bad_ne hrr with h | h <;> (subst h; rfl)
                    have c1' := Lib.hid (show Calls Try.prog 23 #[.string s, .int .i64 ((a : Int) + 1)] wr fun x w' => x = .returned (.tuple #[.agg #[.bool false, .string ⟨#[]⟩, .int .i64 0], .int .i64 (((a : Int) + 1) + (k : Nat)), .int .i64 e]) ∧ Below wr.heap.size wr w' from c1)
                    have bF := Lib.hid (below_trans2 hO.out.b hI.out.b')
                    replace hb := Lib.hid hb
                    replace hrr := Lib.hid hrr
                    replace hdr := Lib.hid hdr
                    replace hw' := Lib.hid hw'
                    replace hcl := Lib.hid hcl
                    replace hcd := Lib.hid hcd
                    replace h10 := Lib.hid h10
                    replace hwr0 := Lib.hid hwr0
                    replace hL := Lib.hid hL
                    replace hE := Lib.hid hE
                    replace hsp := Lib.hid hsp
                    clear c1
                    go_wp2_with fail
                    refine c1'.out.mono ?_; rintro x w3 ⟨rfl, b3⟩
                    replace bF := Lib.hid (below_trans2 bF.out b3)
                    obtain ⟨g, hg⟩ : ∃ g, g = w3.heap.size := ⟨_, rfl⟩
                    obtain ⟨V0, hV0⟩ : ∃ V0, V0 = w3.alloc (.cells #[.bool false, .string ⟨#[]⟩, .int .i64 0] 24) := ⟨_, rfl⟩
                    have k0 := show Op3 V0 g 24 opZ from by rw [hV0, hg]; exact Op3.new _ _ opZ
                    have p0 : V0.cell? ⟨g, 0, none⟩ = some (.bool false) := k0.c0
                    have p1 : V0.cell? ⟨g, 1, none⟩ = some (.string ⟨#[]⟩) := k0.c1
                    have p2 : V0.cell? ⟨g, 2, none⟩ = some (.int .i64 0) := k0.c2
                    have f0 := Blk.frozen k0 0
                    have f1 := Blk.frozen k0 1
                    have f2 := Blk.frozen k0 2
                    have bV := Lib.hid (show Below w.heap.size w (((V0.setCell ⟨g, 0, none⟩ (.bool false)).setCell ⟨g, 1, none⟩ (.string ⟨#[]⟩)).setCell ⟨g, 2, none⟩ (.int .i64 0)) from by
                      have h0 : Below w.heap.size w V0 := by rw [hV0]; exact bF.out.alloc bF.out.size _
                      exact ((h0.setCell (p := ⟨g, 0, none⟩) (by rw [hg]; exact bF.out.size) _).setCell (p := ⟨g, 1, none⟩) (by rw [hg]; exact bF.out.size) _).setCell (p := ⟨g, 2, none⟩) (by rw [hg]; exact bF.out.size) _)
                    clear k0
                    go_wp2_with (rw [← hV0, ← hg]; clear hV0 hg)
                    rw [hb.out]
                    -- a bad end: place (((a : Int) + 1) + (k : Nat)), error e
                    refine bodyPost_ret (v := .tuple #[.slice none 0 0, .int .i64 (((a : Int) + 1) + (k : Nat)), .int .i64 e]) (by simp [results, go_sem]) rfl ⟨none, 0, 0, ?_, HistAt.nil _ _, Nat.le_refl _, by omega, bV.out⟩
                    show Ending.returned _ = Ending.returned (.tuple #[.slice none 0 0, .int .i64 ((a + (skN false + k) : Nat) : Int), .int .i64 e])
                    rw [show ((a + (skN false + k) : Nat) : Int) = ((a : Int) + 1) + (k : Nat) from by show ((a + (1 + k) : Nat) : Int) = _; omega]
                  | ok x =>
                    obtain ⟨o, k⟩ := x
                    rw [hrr] at c1
                    obtain ⟨hk, hwk, hoo, ho8⟩ := oneL_ok hrr
                    have h4096 : all < 4096 := by
                      rcases Nat.lt_or_ge all 4096 with h | h
                      · exact h
                      · exact absurd ⟨by omega, hwk⟩ hw'
                    have hkp := oneL_pos hrr
                    have hkl : (a + 1) + k ≤ s.size := by
                      rw [hdr, List.length_drop, size_list] at hk
                      omega
                    have hn := fromL_op hcl h10 (l := os) (all := all) (by rw [hE]; exact opS_one_ok hsp hw' hrr) ls
                    rw [hI.out.r, show a + (skN false + k) = (a + 1) + k from by show a + (1 + k) = _; omega] at hn
                    have c1' := Lib.hid (show Calls Try.prog 23 #[.string s, .int .i64 ((a : Int) + 1)] wr fun x w' => x = .returned (.tuple #[.agg #[.bool o.1, .string o.2.1, .int .i64 o.2.2], .int .i64 (((a : Int) + 1) + (k : Nat)), .int .i64 0]) ∧ Below wr.heap.size wr w' from c1)
                    have hown := Lib.hid hI.out.own
                    have hok := Lib.hid hI.out.ok
                    have hLb := Lib.hid hI.out.b'
                    have hLn := hI.out.n
                    rw [← hL] at hLn
                    replace hn := Lib.hid hn
                    replace hrr := Lib.hid hrr
                    replace hdr := Lib.hid hdr
                    replace hw' := Lib.hid hw'
                    replace hoo := Lib.hid hoo
                    replace hwk := Lib.hid hwk
                    replace hk := Lib.hid hk
                    replace hcl := Lib.hid hcl
                    replace hcd := Lib.hid hcd
                    replace h10 := Lib.hid h10
                    replace hwr0 := Lib.hid hwr0
                    replace hL := Lib.hid hL
                    replace hE := Lib.hid hE
                    replace hsp := Lib.hid hsp
                    clear c1 hI
                    go_wp2_with fail
                    refine c1'.out.mono ?_; rintro x w3 ⟨rfl, b3⟩
                    obtain ⟨ob, on, oz⟩ := o
                    simp only at ho8
                    obtain ⟨g, hg⟩ : ∃ g, g = w3.heap.size := ⟨_, rfl⟩
                    obtain ⟨V0, hV0⟩ : ∃ V0, V0 = w3.alloc (.cells #[.bool false, .string ⟨#[]⟩, .int .i64 0] 24) := ⟨_, rfl⟩
                    have k0 := show Op3 V0 g 24 opZ from by rw [hV0, hg]; exact Op3.new _ _ opZ
                    have p0 : V0.cell? ⟨g, 0, none⟩ = some (.bool false) := k0.c0
                    have p1 : V0.cell? ⟨g, 1, none⟩ = some (.string ⟨#[]⟩) := k0.c1
                    have p2 : V0.cell? ⟨g, 2, none⟩ = some (.int .i64 0) := k0.c2
                    have f0 := Blk.frozen k0 0
                    have f1 := Blk.frozen k0 1
                    have f2 := Blk.frozen k0 2
                    obtain ⟨V, hV⟩ : ∃ V, V = (((V0.setCell ⟨g, 0, none⟩ (.bool ob)).setCell ⟨g, 1, none⟩ (.string on)).setCell ⟨g, 2, none⟩ (.int .i64 oz)) := ⟨_, rfl⟩
                    have kV := show Op3 V g 24 (ob, on, oz) from by rw [hV]; exact k0.put (ob, on, oz)
                    have bV : Below w3.heap.size w3 V := by
                      rw [hV]
                      have h0 : Below w3.heap.size w3 V0 := by rw [hV0]; exact (Below.refl _ _).alloc (Nat.le_refl _) _
                      exact ((h0.setCell (p := ⟨g, 0, none⟩) (by rw [hg]; exact Nat.le_refl _) _).setCell (p := ⟨g, 1, none⟩) (by rw [hg]; exact Nat.le_refl _) _).setCell (p := ⟨g, 2, none⟩) (by rw [hg]; exact Nat.le_refl _) _
                    have q0 : V.cell? ⟨g, 0, none⟩ = some (.bool ob) := kV.c0
                    have q1 : V.cell? ⟨g, 1, none⟩ = some (.string on) := kV.c1
                    have q2 : V.cell? ⟨g, 2, none⟩ = some (.int .i64 oz) := kV.c2
                    obtain ⟨gz, hgz⟩ : ∃ g, g = V.heap.size := ⟨_, rfl⟩
                    obtain ⟨V2, hV2⟩ : ∃ V2, V2 = V.alloc (.cells #[.bool ob, .string on, .int .i64 oz] 24) := ⟨_, rfl⟩
                    have bV2 : Below V.heap.size V V2 := by rw [hV2]; exact (Below.refl _ _).alloc (Nat.le_refl _) _
                    have hOne := Lib.hid (OpsAt.of_blk1 (show Blk V2 gz 24 (cellsO [(ob, on, oz)]) from by rw [hV2, hgz]; exact Blk.new V _ _) hoo.out rfl)
                    replace hown := Lib.hid (own_below (own_below (own_below hown.out b3) bV) bV2)
                    replace hLb := Lib.hid (below_trans2 (below_trans2 (below_trans2 hLb.out b3) bV) bV2)
                    have hbase := Lib.hid hLb.out.size
                    rw [← hL.out] at hown
                    clear k0 kV bV bV2 b3
                    have hPk : ((((a + 1) + k : Nat)) : Int) = ((a : Int) + 1) + (k : Nat) := by omega
                    by_cases hend : (a + 1) + k < s.size
                    · have hend' : ((a : Int) + 1) + (k : Nat) < (s.size : Int) := by omega
                      replace hPk := Lib.hid hPk
                      go_wp2_with (first
                        | (rw [← hV0, ← hg]; clear hV0 hg)
                        | (rw [← hV2, ← hgz]; clear hV2 hgz)
                        | (rw [← hV]; clear hV)
                        | (at_builtin; refine wpList_append_ops rfl (.tmp 62) (.tmp 64) _ rfl w1.heap.size 24 j0 _ Try.underlying38 ji.out jz0.out jz1.out jz2.out rfl _ L os (by rfl) hown.out _ 1 1 [(ob, on, oz)] rfl hOne.out (by omega) hbase.out ?_; intro v' w7 hown' hb7))
                      exact ⟨⟨(a + 1) + k, all + 1, os ++ [(ob, on, oz)], by rw [hPk.out], by go_num, hend, by omega, by omega, by omega, Lib.hid ⟨by rw [List.length_append, ← hL.out]; exact hown', okO_append hok.out hoo.out, hLb.out.trans hb7, hn.out.symm, by rw [List.length_append, List.length_singleton, ← hL.out]; omega⟩⟩, by simp [intOf]; omega⟩
                    · have hend' : ¬ ((a : Int) + 1) + (k : Nat) < (s.size : Int) := by omega
                      have hb : R = .bad ((a + 1) + k) 2 := by rw [hn.out, fromL_nil (by rw [size_list]; omega)]
                      have bF := Lib.hid (Lib.hid hO.out.b)
                      replace hb := Lib.hid hb
                      replace hPk := Lib.hid hPk
                      go_wp2_with (first
                        | (rw [← hV0, ← hg]; clear hV0 hg)
                        | (rw [← hV2, ← hgz]; clear hV2 hgz)
                        | (rw [← hV]; clear hV)
                        | (at_builtin; refine wpList_append_ops rfl (.tmp 62) (.tmp 64) _ rfl w1.heap.size 24 j0 _ Try.underlying38 ji.out jz0.out jz1.out jz2.out rfl _ L os (by rfl) hown.out _ 1 1 [(ob, on, oz)] rfl hOne.out (by omega) hbase.out ?_; intro v' w7 hown' hb7))
                      rw [hb.out]
                      -- a bad end: place (((a : Int) + 1) + (k : Nat)), error 2
                      refine bodyPost_ret (v := .tuple #[.slice none 0 0, .int .i64 (((a : Int) + 1) + (k : Nat)), .int .i64 2]) (by simp [results, go_sem]) rfl ⟨none, 0, 0, ?_, HistAt.nil _ _, Nat.le_refl _, by omega, (below_trans2 hO.out.b (hLb.out.trans hb7))⟩
                      show Ending.returned _ = Ending.returned (.tuple #[.slice none 0 0, .int .i64 (((a + 1) + k : Nat) : Int), .int .i64 2])
                      rw [hPk.out]
              · have hps' : ¬ (a : Int) + 1 < (s.size : Int) := by omega
                have hnil : (s.data.toList.drop a).drop (skN false) = [] := by
                  rw [List.drop_drop]
                  exact List.drop_eq_nil_of_le (by rw [size_list]; show s.size ≤ a + 1; omega)
                by_cases h4 : all = 4096
                · subst h4
                  have hw' : ¬ (4096 = 4096 ∧ isWR ((s.data.toList.drop a).drop (skN false)) = true) := by
                    rintro ⟨_, h⟩
                    rw [hnil] at h
                    cases h
                  replace hnil := Lib.hid hnil
                  -- an operation at the place ((a : Int) + 1) ((a + 1)), behind a blank or not (false: is it the first one; 1: blanks); 4096 so far
                  have hdr : (s.data.toList.drop a).drop (skN false) = s.data.toList.drop (((a : Int) + 1)).toNat := by
                    rw [List.drop_drop]; exact congrArg (fun k => s.data.toList.drop k) (by show a + 1 = _; omega)
                  have c1 := ref7_one s ((a : Int) + 1) wr hs (by omega) (by omega)
                  rw [← hdr] at c1
                  cases hrr : oneL ((s.data.toList.drop a).drop (skN false)) with
                  | bad k e =>
                    rw [hrr] at c1
                    have hb := fromL_bad (l := os) (all := 4096) hcl h10 (by rw [hE]; exact opS_one_bad hsp hw' hrr) ls
                    rw [hI.out.r] at hb
                    have he0 : (e != 0) = true := by rcases oneL_bad_ne hrr with h | h <;> (subst h; rfl)
                    have c1' := Lib.hid (show Calls Try.prog 23 #[.string s, .int .i64 ((a : Int) + 1)] wr fun x w' => x = .returned (.tuple #[.agg #[.bool false, .string ⟨#[]⟩, .int .i64 0], .int .i64 (((a : Int) + 1) + (k : Nat)), .int .i64 e]) ∧ Below wr.heap.size wr w' from c1)
                    have bF := Lib.hid (below_trans2 hO.out.b hI.out.b')
                    replace hb := Lib.hid hb
                    replace hrr := Lib.hid hrr
                    replace hdr := Lib.hid hdr
                    replace hw' := Lib.hid hw'
                    replace hcl := Lib.hid hcl
                    replace hcd := Lib.hid hcd
                    replace h10 := Lib.hid h10
                    replace hwr0 := Lib.hid hwr0
                    replace hL := Lib.hid hL
                    replace hE := Lib.hid hE
                    replace hsp := Lib.hid hsp
                    clear c1
                    go_wp2_with fail
                    refine c1'.out.mono ?_; rintro x w3 ⟨rfl, b3⟩
                    replace bF := Lib.hid (below_trans2 bF.out b3)
                    obtain ⟨g, hg⟩ : ∃ g, g = w3.heap.size := ⟨_, rfl⟩
                    obtain ⟨V0, hV0⟩ : ∃ V0, V0 = w3.alloc (.cells #[.bool false, .string ⟨#[]⟩, .int .i64 0] 24) := ⟨_, rfl⟩
                    have k0 := show Op3 V0 g 24 opZ from by rw [hV0, hg]; exact Op3.new _ _ opZ
                    have p0 : V0.cell? ⟨g, 0, none⟩ = some (.bool false) := k0.c0
                    have p1 : V0.cell? ⟨g, 1, none⟩ = some (.string ⟨#[]⟩) := k0.c1
                    have p2 : V0.cell? ⟨g, 2, none⟩ = some (.int .i64 0) := k0.c2
                    have f0 := Blk.frozen k0 0
                    have f1 := Blk.frozen k0 1
                    have f2 := Blk.frozen k0 2
                    have bV := Lib.hid (show Below w.heap.size w (((V0.setCell ⟨g, 0, none⟩ (.bool false)).setCell ⟨g, 1, none⟩ (.string ⟨#[]⟩)).setCell ⟨g, 2, none⟩ (.int .i64 0)) from by
                      have h0 : Below w.heap.size w V0 := by rw [hV0]; exact bF.out.alloc bF.out.size _
                      exact ((h0.setCell (p := ⟨g, 0, none⟩) (by rw [hg]; exact bF.out.size) _).setCell (p := ⟨g, 1, none⟩) (by rw [hg]; exact bF.out.size) _).setCell (p := ⟨g, 2, none⟩) (by rw [hg]; exact bF.out.size) _)
                    clear k0
                    go_wp2_with (rw [← hV0, ← hg]; clear hV0 hg)
                    rw [hb.out]
                    -- a bad end: place (((a : Int) + 1) + (k : Nat)), error e
                    refine bodyPost_ret (v := .tuple #[.slice none 0 0, .int .i64 (((a : Int) + 1) + (k : Nat)), .int .i64 e]) (by simp [results, go_sem]) rfl ⟨none, 0, 0, ?_, HistAt.nil _ _, Nat.le_refl _, by omega, bV.out⟩
                    show Ending.returned _ = Ending.returned (.tuple #[.slice none 0 0, .int .i64 ((a + (skN false + k) : Nat) : Int), .int .i64 e])
                    rw [show ((a + (skN false + k) : Nat) : Int) = ((a : Int) + 1) + (k : Nat) from by show ((a + (1 + k) : Nat) : Int) = _; omega]
                  | ok x =>
                    exact absurd ⟨rfl, (oneL_ok hrr).2.1⟩ hw'
                · have hw' : ¬ (all = 4096 ∧ isWR ((s.data.toList.drop a).drop (skN false)) = true) := fun h => h4 h.1
                  have e4 : ((all : Int) == 4096) = false := by simp; omega
                  replace h4 := Lib.hid h4
                  replace hnil := Lib.hid hnil
                  -- an operation at the place ((a : Int) + 1) ((a + 1)), behind a blank or not (false: is it the first one; 1: blanks); all so far
                  have hdr : (s.data.toList.drop a).drop (skN false) = s.data.toList.drop (((a : Int) + 1)).toNat := by
                    rw [List.drop_drop]; exact congrArg (fun k => s.data.toList.drop k) (by show a + 1 = _; omega)
                  have c1 := ref7_one s ((a : Int) + 1) wr hs (by omega) (by omega)
                  rw [← hdr] at c1
                  cases hrr : oneL ((s.data.toList.drop a).drop (skN false)) with
                  | bad k e =>
                    rw [hrr] at c1
                    have hb := fromL_bad (l := os) (all := all) hcl h10 (by rw [hE]; exact opS_one_bad hsp hw' hrr) ls
                    rw [hI.out.r] at hb
                    have he0 : (e != 0) = true := by rcases oneL_bad_ne hrr with h | h <;> (subst h; rfl)
                    have c1' := Lib.hid (show Calls Try.prog 23 #[.string s, .int .i64 ((a : Int) + 1)] wr fun x w' => x = .returned (.tuple #[.agg #[.bool false, .string ⟨#[]⟩, .int .i64 0], .int .i64 (((a : Int) + 1) + (k : Nat)), .int .i64 e]) ∧ Below wr.heap.size wr w' from c1)
                    have bF := Lib.hid (below_trans2 hO.out.b hI.out.b')
                    replace hb := Lib.hid hb
                    replace hrr := Lib.hid hrr
                    replace hdr := Lib.hid hdr
                    replace hw' := Lib.hid hw'
                    replace hcl := Lib.hid hcl
                    replace hcd := Lib.hid hcd
                    replace h10 := Lib.hid h10
                    replace hwr0 := Lib.hid hwr0
                    replace hL := Lib.hid hL
                    replace hE := Lib.hid hE
                    replace hsp := Lib.hid hsp
                    clear c1
                    go_wp2_with fail
                    refine c1'.out.mono ?_; rintro x w3 ⟨rfl, b3⟩
                    replace bF := Lib.hid (below_trans2 bF.out b3)
                    obtain ⟨g, hg⟩ : ∃ g, g = w3.heap.size := ⟨_, rfl⟩
                    obtain ⟨V0, hV0⟩ : ∃ V0, V0 = w3.alloc (.cells #[.bool false, .string ⟨#[]⟩, .int .i64 0] 24) := ⟨_, rfl⟩
                    have k0 := show Op3 V0 g 24 opZ from by rw [hV0, hg]; exact Op3.new _ _ opZ
                    have p0 : V0.cell? ⟨g, 0, none⟩ = some (.bool false) := k0.c0
                    have p1 : V0.cell? ⟨g, 1, none⟩ = some (.string ⟨#[]⟩) := k0.c1
                    have p2 : V0.cell? ⟨g, 2, none⟩ = some (.int .i64 0) := k0.c2
                    have f0 := Blk.frozen k0 0
                    have f1 := Blk.frozen k0 1
                    have f2 := Blk.frozen k0 2
                    have bV := Lib.hid (show Below w.heap.size w (((V0.setCell ⟨g, 0, none⟩ (.bool false)).setCell ⟨g, 1, none⟩ (.string ⟨#[]⟩)).setCell ⟨g, 2, none⟩ (.int .i64 0)) from by
                      have h0 : Below w.heap.size w V0 := by rw [hV0]; exact bF.out.alloc bF.out.size _
                      exact ((h0.setCell (p := ⟨g, 0, none⟩) (by rw [hg]; exact bF.out.size) _).setCell (p := ⟨g, 1, none⟩) (by rw [hg]; exact bF.out.size) _).setCell (p := ⟨g, 2, none⟩) (by rw [hg]; exact bF.out.size) _)
                    clear k0
                    go_wp2_with (rw [← hV0, ← hg]; clear hV0 hg)
                    rw [hb.out]
                    -- a bad end: place (((a : Int) + 1) + (k : Nat)), error e
                    refine bodyPost_ret (v := .tuple #[.slice none 0 0, .int .i64 (((a : Int) + 1) + (k : Nat)), .int .i64 e]) (by simp [results, go_sem]) rfl ⟨none, 0, 0, ?_, HistAt.nil _ _, Nat.le_refl _, by omega, bV.out⟩
                    show Ending.returned _ = Ending.returned (.tuple #[.slice none 0 0, .int .i64 ((a + (skN false + k) : Nat) : Int), .int .i64 e])
                    rw [show ((a + (skN false + k) : Nat) : Int) = ((a : Int) + 1) + (k : Nat) from by show ((a + (1 + k) : Nat) : Int) = _; omega]
                  | ok x =>
                    rw [hnil.out] at hrr
                    exact absurd hrr (by simp [oneL])
            · have e32 : ((c.toNat : Int) != 32) = true := by simp; omega
              have hb := fromL_bad (l := os) (all := all) hcl h10 (by rw [hE]; exact opS_blank hcd h32) ls
              rw [hI.out.r] at hb
              have bF := Lib.hid (below_trans2 hO.out.b hI.out.b')
              replace hb := Lib.hid hb
              replace h32 := Lib.hid h32
              have hsp := Lib.hid trivial
              replace hcl := Lib.hid hcl
              replace hcd := Lib.hid hcd
              replace h10 := Lib.hid h10
              replace hwr0 := Lib.hid hwr0
              replace hL := Lib.hid hL
              replace hE := Lib.hid hE
              replace hsp := Lib.hid hsp
              go_wp2_with fail
              rw [hb.out]
              -- a bad end: place (a : Int), error 2
              refine bodyPost_ret (v := .tuple #[.slice none 0 0, .int .i64 (a : Int), .int .i64 2]) (by simp [results, go_sem]) rfl ⟨none, 0, 0, ?_, HistAt.nil _ _, Nat.le_refl _, by omega, bF.out⟩
              rfl
    · have hlt' : ¬ (a0 : Int) < (s.size : Int) := by omega
      have hRr : R = .ok ls := by rw [← hO.out.r, fromT_end (by rw [size_list]; omega)]
      obtain ⟨A, c, hv, hnc, hcm, hH⟩ := hO.out.outs.hist hO.out.own hO.out.outs.1
      subst hv
      rw [hRr]
      clear hlt
      go_wp2_with fail
      exact bodyPost_ret (v := .tuple #[.slice A ls.length c, .int .i64 0, .int .i64 0]) (by simp [results, go_sem]) rfl ⟨A, _, c, rfl, hH, hnc, hcm, hO.out.b⟩

end Go.Proofs.Ytkccefgmiaoinaa
