/- Contracts of package mat: Turn. -/
import Derived.Test.YtkikoniihmieiaaMatLay
namespace Go.Proofs.Ytkikoniihmieiaa
open Go.RowKit
set_option linter.unusedVariables false

/-- a matrix of at most 63 rows turned about -/
def turnM (xss : List (List Nat)) : List (List Nat) := layK xss.length (flipB (padK xss xss.length)) xss.length

/-- what is known at the heads of Turn's rounds -/
structure TurnI (w : World) (n : Nat) (A : Option Addr) (c G c2 M : Nat) (vs : List Value) (yss : List (List Nat)) (wr : World) : Prop where
  arg : MatB wr w.heap.size 24 n A n c
  res : ∃ A' n' c', MatB wr (w.heap.size + 1) 24 0 A' n' c'
  loc : MatB wr M 24 n (some ⟨G, 0, none⟩) n c2
  out : wr.ownsRow (w.heap.size + 2) 53 1 (.slice (some ⟨G, 0, none⟩) n c2) n vs
  rows : OwnRows 56 wr (w.heap.size + 2) vs yss
  below : Below w.heap.size w wr
  high : M < wr.heap.size
theorem TurnI.keep {w : World} {n : Nat} {A : Option Addr} {c G c2 M : Nat} {vs : List Value} {yss : List (List Nat)} {wr w' : World} (h : TurnI w n A c G c2 M vs yss wr) (hb : Below wr.heap.size wr w') : TurnI w n A c G c2 M vs yss w' := by
  obtain ⟨A', n', c', hr⟩ := h.res
  exact ⟨h.arg.below_ hb, ⟨A', n', c', hr.below_ hb⟩, h.loc.below_ hb, own_below h.out hb, h.rows.below hb, below_trans2 h.below hb, Nat.lt_of_lt_of_le h.high hb.size⟩
theorem TurnI.only {w : World} {n : Nat} {A : Option Addr} {c G c2 M : Nat} {vs : List Value} {yss : List (List Nat)} {wr w' : World} {g : Nat} (h : TurnI w n A c G c2 M vs yss wr) (hs : OnlyAt g wr w') (hM : M < g) (hg : ∀ v ∈ vs, ∀ k, v.ownBlock = some k → k < M) (hG : G < M) : TurnI w n A c G c2 M vs yss w' := by
  obtain ⟨A', n', c', hr⟩ := h.res
  have h0 := h.below.size
  have hG2 := own_lt_block h.out G rfl
  have hb : Below g wr w' := hs.below
  refine ⟨Blk.below h.arg hb (by omega), ⟨A', n', c', Blk.below hr hb (by omega)⟩, Blk.below h.loc hb hM, ?_, ?_, h.below.trans (hb.mono (by omega)), by rw [hs.size]; exact h.high⟩
  · exact ⟨h.out.1, h.out.2.imp id fun ⟨g', cap, cur, hv, hbg, hh, r⟩ => ⟨g', cap, cur, hv, hbg, (hb.block g' (by injection hv with e; injection e with e; injection e with e; omega)).trans hh, r⟩⟩
  · refine ⟨h.rows.1, fun i v xs h1 h2 => ?_, h.rows.2.2⟩
    obtain ⟨B, m, d, e, ho, hx⟩ := h.rows.2.1 i v xs h1 h2
    refine ⟨B, m, d, e, ⟨ho.1, ho.2.imp id fun ⟨g', cap, cur, hv, hbg, hh, r⟩ => ⟨g', cap, cur, hv, hbg, (hb.block g' ?_).trans hh, r⟩⟩, hx⟩
    have := hg v (List.mem_of_getElem? h1) g' (by rw [e, hv]; rfl)
    omega
theorem TurnI.laid {w : World} {n : Nat} {A : Option Addr} {c G c2 M : Nat} {vs : List Value} {yss zss : List (List Nat)} {wr w' : World} (h : TurnI w n A c G c2 M vs yss wr) (hz : OwnRows 56 w' (w.heap.size + 2) vs zss) (hs : RowsOnly vs wr w') (hg : ∀ v ∈ vs, ∀ k, v.ownBlock = some k → k < M ∧ k ≠ G) : TurnI w n A c G c2 M vs zss w' := by
  obtain ⟨A', n', c', hr⟩ := h.res
  have hlo := fun v hv k hk => (hz.lt v hv k hk).1
  refine ⟨hs.blk h.arg (fun v hv e => by have := hlo v hv _ e; omega), ⟨A', n', c', hs.blk hr (fun v hv e => by have := hlo v hv _ e; omega)⟩, hs.blk h.loc (fun v hv e => by have := (hg v hv _ e).1; omega), hs.own h.out (fun v hv g e hh => ?_), hz, h.below.trans (hs.below h.below.size (fun v hv g e => by have := hlo v hv g e; omega)), Nat.lt_of_lt_of_le h.high hs.size⟩
  have := (hg v hv g e).2
  simp [Value.ownBlock] at hh
  omega

set_option maxRecDepth 100000 in
set_option maxHeartbeats 4000000 in
theorem mat_Turn_pos (A : Option Addr) (n c : Nat) (xss : List (List Nat)) (w : World) (hr : RowsAt w A n xss) (hn0 : 0 < n) (hn : n < 64) (hc : n ≤ c) (hl : ∀ (i : Nat) (xs : List Nat), xss[i]? = some xs → xs.length = 1) :
    Calls Try.prog 22 #[.agg #[.int .i64 (n : Int), .slice A n c]] w (RetMat1 (n : Int) (turnM xss) w) := by
  have hlen := hr.len
  have hN := Lib.hid (mat_New n (by omega))
  have hwz : wordsZ (n : Int) = 1 := by unfold wordsZ; rw [if_neg (by omega)]; omega
  obtain ⟨W0, hW0⟩ : ∃ W0, W0 = (w.alloc (.cells #[.int .i64 n, .slice A n c] 24)).alloc (.cells #[.int .i64 0, .slice none 0 0] 24) := ⟨_, rfl⟩
  have ha : Below w.heap.size w W0 := by rw [hW0]; exact ((Below.refl _ _).alloc (Nat.le_refl _) _).alloc (by simp) _
  have hB1 : MatB W0 w.heap.size 24 n A n c := by rw [hW0]; exact (MatB.new w _).below_ ((Below.refl _ _).alloc (Nat.le_refl _) _)
  have hB2 : MatB W0 (w.heap.size + 1) 24 0 none 0 0 := by rw [hW0]; exact MatB.new1 w _ _
  have hs0 : W0.heap.size = w.heap.size + 2 := by rw [hW0]; simp
  have l0 := hB1.c0
  replace ha := Lib.hid ha
  replace hB1 := Lib.hid hB1
  replace hB2 := Lib.hid hB2
  replace hs0 := Lib.hid hs0
  replace hwz := Lib.hid hwz
  replace hr := Lib.hid hr
  replace hl := Lib.hid hl
  replace hlen := Lib.hid hlen
  go_enter Try.func22, Try.ntmps22
  go_wp2_with fail
  rw [← hW0]
  clear hW0
  refine (hN.out _).mono ?_; rintro e w1 ⟨C, p, q, vs, rfl, hown, hrows, hsep, hb1⟩
  have hpn : p = n := by
    have h1 := hown.1
    have h2 := hrows.1
    have h3 := (DimM.new n).1
    omega
  subst hpn
  rw [hs0.out] at hown hrows
  obtain ⟨G, cap, hge, _, hGl⟩ := hown.form (by omega)
  injection hge with hg1 hg2 hg3
  subst hg1
  obtain ⟨M, hM⟩ : ∃ M, M = w1.heap.size := ⟨_, rfl⟩
  rw [← hM] at hGl
  obtain ⟨W2, hW2⟩ : ∃ W2, W2 = w1.alloc (.cells #[.int .i64 p, .slice (some ⟨G, 0, none⟩) p q] 24) := ⟨_, rfl⟩
  have hb2 : Below w1.heap.size w1 W2 := by rw [hW2]; exact (Below.refl _ _).alloc (Nat.le_refl _) _
  have hI : TurnI w p A c G q M vs (newM p) W2 := by
    refine ⟨(hB1.out.below_ hb1).below_ hb2, ⟨none, 0, 0, (hB2.out.below_ hb1).below_ hb2⟩, ?_, own_below hown hb2, hrows.below hb2, below_trans2 (below_trans2 ha.out hb1) hb2, ?_⟩
    · rw [hW2, hM]; exact MatB.new w1 _
    · rw [hW2, hM]; simp
  have hgs : ∀ v ∈ vs, ∀ k, v.ownBlock = some k → k < M ∧ k ≠ G := fun v hv k hk => ⟨by have := (hrows.lt v hv k hk).2; omega, fun e => hsep v hv k hk (by rw [e]; rfl)⟩
  replace hgs := Lib.hid hgs
  replace hI := Lib.hid hI
  have ht : Hid (turnM xss = layK p (flipB (padK xss p)) p) := Lib.hid (by unfold turnM; rw [hlen.out])
  have hqc : p ≤ q := own_cap hown
  have l1 : (w1.alloc (.cells #[.int .i64 p, .slice (some ⟨G, 0, none⟩) p q] 24)).cell? ⟨w.heap.size, 0, none⟩ = some (.int .i64 p) := by rw [← hW2]; exact hI.out.arg.c0
  clear hown hrows hsep hb1 hb2 hN l0 hB1 hB2 ha hg2 hg3
  go_wp2_with fail
  rw [← hW2, ← hM]
  clear hW2 hM
  refine (row_Words _ (by omega) (by omega) _).mono ?_; rintro e w' ⟨rfl, rfl⟩
  rw [hwz.out]
  go_wp2_with fail
  clear l1
  go_loopw [19] (fun i wr => (i = .int .i64 0 ∧ Hid (TurnI w p A c G q M vs (newM p) wr)) ∨ (i = .int .i64 1 ∧ Hid (TurnI w p A c G q M vs (turnM xss) wr))) (fun i _ => 1 - (intOf i).toNat)
  case atStart => exact .inl ⟨rfl, hI⟩
  case round =>
    clear hI
    rcases hrel with ⟨rfl, hI⟩ | ⟨rfl, hI⟩
    · go_wp2_with fail
      go_loopw [23] (fun i wr => (i = .int .i64 0 ∧ Hid (TurnI w p A c G q M vs (newM p) wr)) ∨ (i = .int .i64 1 ∧ Hid (TurnI w p A c G q M vs (turnM xss) wr))) (fun i _ => 1 - (intOf i).toNat)
      case atStart => exact .inl ⟨rfl, hI⟩
      case round =>
        clear hI
        rcases hrel with ⟨rfl, hI⟩ | ⟨rfl, hI⟩
        · have l1 := hI.out.arg.c1
          have hT := Lib.hid (mat_take A p c xss wr (hr.out.below hI.out.below) hn0 hn hc hl.out)
          go_wp2_with fail
          refine hT.out.mono ?_; rintro e w3 ⟨rfl, hb3⟩
          clear hT l1
          obtain ⟨B, hBe⟩ : ∃ B, B = w3.heap.size := ⟨_, rfl⟩
          have hI3 := hI.out.keep hb3
          have hMB : M < B := by rw [hBe]; exact hI3.high
          have hI3a := hI3.keep (w' := w3.alloc (.cells #[.int .u64 0, .int .u64 0, .int .u64 0, .int .u64 0, .int .u64 0, .int .u64 0, .int .u64 0, .int .u64 0, .int .u64 0, .int .u64 0, .int .u64 0, .int .u64 0, .int .u64 0, .int .u64 0, .int .u64 0, .int .u64 0, .int .u64 0, .int .u64 0, .int .u64 0, .int .u64 0, .int .u64 0, .int .u64 0, .int .u64 0, .int .u64 0, .int .u64 0, .int .u64 0, .int .u64 0, .int .u64 0, .int .u64 0, .int .u64 0, .int .u64 0, .int .u64 0, .int .u64 0, .int .u64 0, .int .u64 0, .int .u64 0, .int .u64 0, .int .u64 0, .int .u64 0, .int .u64 0, .int .u64 0, .int .u64 0, .int .u64 0, .int .u64 0, .int .u64 0, .int .u64 0, .int .u64 0, .int .u64 0, .int .u64 0, .int .u64 0, .int .u64 0, .int .u64 0, .int .u64 0, .int .u64 0, .int .u64 0, .int .u64 0, .int .u64 0, .int .u64 0, .int .u64 0, .int .u64 0, .int .u64 0, .int .u64 0, .int .u64 0, .int .u64 0] 67)) ((Below.refl _ _).alloc (Nat.le_refl _) _)
          have hBz : Blk (w3.alloc (.cells #[.int .u64 0, .int .u64 0, .int .u64 0, .int .u64 0, .int .u64 0, .int .u64 0, .int .u64 0, .int .u64 0, .int .u64 0, .int .u64 0, .int .u64 0, .int .u64 0, .int .u64 0, .int .u64 0, .int .u64 0, .int .u64 0, .int .u64 0, .int .u64 0, .int .u64 0, .int .u64 0, .int .u64 0, .int .u64 0, .int .u64 0, .int .u64 0, .int .u64 0, .int .u64 0, .int .u64 0, .int .u64 0, .int .u64 0, .int .u64 0, .int .u64 0, .int .u64 0, .int .u64 0, .int .u64 0, .int .u64 0, .int .u64 0, .int .u64 0, .int .u64 0, .int .u64 0, .int .u64 0, .int .u64 0, .int .u64 0, .int .u64 0, .int .u64 0, .int .u64 0, .int .u64 0, .int .u64 0, .int .u64 0, .int .u64 0, .int .u64 0, .int .u64 0, .int .u64 0, .int .u64 0, .int .u64 0, .int .u64 0, .int .u64 0, .int .u64 0, .int .u64 0, .int .u64 0, .int .u64 0, .int .u64 0, .int .u64 0, .int .u64 0, .int .u64 0] 67)) w3.heap.size 67 ((List.replicate 64 0).map u64v) := Blk.new w3 _ _
          have hpl := Lib.hid (padK_len xss p)
          have hpw := Lib.hid (padK_w64 hr.out.w64 p)
          have hrl := Lib.hid (List.length_replicate (n := 64) (a := 0))
          replace hI3a := Lib.hid hI3a
          replace hBz := Lib.hid hBz
          replace hBe := Lib.hid hBe
          clear hI3 hb3 hI
          go_wp2_with (with_reducible refine wpList_store_blk Try.underlying67 info_block rfl (.tmp 8) (.tmp 30) rfl w3.heap.size rfl (padK xss p) hpl.out rfl _ (List.replicate 64 0) hrl.out hBz.out ?_; intro w4 hB4 ho4)
          rw [← hBe.out] at hB4 ho4
          have hI4 := Lib.hid (hI3a.out.only ho4 hMB (fun v hv k hk => (hgs.out v hv k hk).1) hGl)
          have hF := Lib.hid (mat_flip B (padK xss p) w4 hB4 hpl.out hpw.out)
          clear hB4 ho4 hI3a hBz
          rw [← hBe.out]
          refine hF.out.mono ?_; rintro e w5 ⟨rfl, hB5, ho5⟩
          have hI5 := hI4.out.only ho5 hMB (fun v hv k hk => (hgs.out v hv k hk).1) hGl
          have l1 := hI5.loc.c1
          have hfl := Lib.hid (flipB_len (padK xss p))
          have hL := Lib.hid (mat_lay (some ⟨G, 0, none⟩) p q vs (flipB (padK xss p)) (w.heap.size + 2) w5 (Rd.of_own' hI5.out) (fun ad e v hv h => by injection e with e; exact (hgs.out v hv _ h).2 (by rw [← e])) (by rw [layK_zero hn0 (by omega)]; exact hI5.rows) hn0 hn hqc hfl.out (flipB_w64 hpw.out))
          replace hI5 := Lib.hid hI5
          replace hB5 := Lib.hid hB5
          clear ho5 hI4 hF
          go_wp2_with (with_reducible refine wpList_load_blk Try.underlying67 info_block rfl (.tmp 8) rfl B rfl _ (flipB (padK xss p)) hfl.out hB5.out ?_)
          refine hL.out.mono ?_; rintro e w6 ⟨rfl, hz, ho6⟩
          have hI6 := hI5.out.laid hz ho6 hgs.out
          rw [← ht.out] at hI6
          replace hI6 := Lib.hid hI6
          clear hz ho6 hI5 hL l1 hB5
          go_wp2_with fail
          go_roundw
          case rel => exact .inr ⟨by go_num, hI6⟩
          case measure => simp [intOf]
        · go_wp2_with fail
          go_roundw
          case rel => exact .inr ⟨by go_num, hI⟩
          case measure => simp [intOf]
    · obtain ⟨A', n', c', hres⟩ := hI.out.res
      have f0 := hres.c0
      have f1 := hres.c1
      have g0 := hres.frozen 0
      have g1 := hres.frozen 1
      have l0 := hI.out.loc.c0
      have l1 := hI.out.loc.c1
      have hcc := hres.two (.int .i64 p) (.slice (some ⟨G, 0, none⟩) p q)
      have hc1 := Lib.hid hcc.1
      have hc2 := Lib.hid hcc.2
      clear hcc hres
      go_wp2_with fail
      refine bodyPost_ret (v := .agg #[.int .i64 p, .slice (some ⟨G, 0, none⟩) p q]) (by simp [results, Try.results22, go_sem, hc1.out, hc2.out]) rfl ⟨_, _, _, rfl, ⟨vs, ?_, ?_⟩, hqc, (hI.out.below.setCell (by simp) _).setCell (by simp) _⟩
      · have hne : (Value.slice (some ⟨G, 0, none⟩) p q).ownBlock ≠ some (w.heap.size + 1) := fun e => by have := own_lt_block hI.out.out _ e; omega
        exact Rd.of_own' (own_far (own_far hI.out.out (p := ⟨w.heap.size + 1, 0, none⟩) hne _) (p := ⟨w.heap.size + 1, 1, none⟩) hne _)
      · exact ((hI.out.rows.far (p := ⟨w.heap.size + 1, 0, none⟩) (by simp) _).far (p := ⟨w.heap.size + 1, 1, none⟩) (by simp) _).rows
set_option maxRecDepth 100000 in
set_option maxHeartbeats 1000000 in
theorem mat_Turn_zero (A : Option Addr) (c : Nat) (w : World) :
    Calls Try.prog 22 #[.agg #[.int .i64 0, .slice A 0 c]] w (RetMat1 0 [] w) := by
  have hN := Lib.hid (mat_New 0 (by omega))
  have hwz : wordsZ 0 = 0 := by decide
  obtain ⟨W0, hW0⟩ : ∃ W0, W0 = (w.alloc (.cells #[.int .i64 0, .slice A 0 c] 24)).alloc (.cells #[.int .i64 0, .slice none 0 0] 24) := ⟨_, rfl⟩
  have ha : Below w.heap.size w W0 := by rw [hW0]; exact ((Below.refl _ _).alloc (Nat.le_refl _) _).alloc (by simp) _
  have hB1 : MatB W0 w.heap.size 24 0 A 0 c := by rw [hW0]; exact (MatB.new w _).below_ ((Below.refl _ _).alloc (Nat.le_refl _) _)
  have hB2 : MatB W0 (w.heap.size + 1) 24 0 none 0 0 := by rw [hW0]; exact MatB.new1 w _ _
  have hs0 : W0.heap.size = w.heap.size + 2 := by rw [hW0]; simp
  have l0 := hB1.c0
  replace ha := Lib.hid ha
  replace hB1 := Lib.hid hB1
  replace hB2 := Lib.hid hB2
  replace hs0 := Lib.hid hs0
  replace hwz := Lib.hid hwz
  go_enter Try.func22, Try.ntmps22
  go_wp2_with fail
  rw [← hW0]
  clear hW0
  refine (hN.out _).mono ?_; rintro e w1 ⟨C, p, q, vs, rfl, hown, hrows, hsep, hb1⟩
  have hp0 : p = 0 := by
    have h1 := hown.1
    have h2 := hrows.1
    have h3 := (DimM.new 0).1
    omega
  subst hp0
  rw [hs0.out] at hown
  have hqc := own_cap hown
  obtain ⟨M, hM⟩ : ∃ M, M = w1.heap.size := ⟨_, rfl⟩
  obtain ⟨W2, hW2⟩ : ∃ W2, W2 = w1.alloc (.cells #[.int .i64 0, .slice C 0 q] 24) := ⟨_, rfl⟩
  have hb2 : Below w1.heap.size w1 W2 := by rw [hW2]; exact (Below.refl _ _).alloc (Nat.le_refl _) _
  have hbb := Lib.hid (below_trans2 (below_trans2 ha.out hb1) hb2)
  have hloc : MatB W2 M 24 0 C 0 q := by rw [hW2, hM]; exact MatB.new w1 _
  have hres := (hB2.out.below_ hb1).below_ hb2
  have l1 : (w1.alloc (.cells #[.int .i64 0, .slice C 0 q] 24)).cell? ⟨w.heap.size, 0, none⟩ = some (.int .i64 0) := by rw [← hW2]; exact ((hB1.out.below_ hb1).below_ hb2).c0
  have f0 := hres.c0
  have f1 := hres.c1
  have g0 := hres.frozen 0
  have g1 := hres.frozen 1
  have k0 := hloc.c0
  have k1 := hloc.c1
  have hcc := hres.two (.int .i64 0) (.slice C 0 q)
  have hc1 := Lib.hid hcc.1
  have hc2 := Lib.hid hcc.2
  replace hloc := Lib.hid hloc
  clear hown hrows hsep hb1 hb2 hN l0 hB1 hB2 ha hcc hres
  go_wp2_with fail
  rw [← hW2, ← hM]
  clear hW2 hM l1
  refine (row_Words _ (by omega) (by omega) _).mono ?_; rintro e w' ⟨rfl, rfl⟩
  rw [hwz.out]
  go_wp2_with fail
  go_loop [19] (fun i => i = .int .i64 0) (fun i => 0)
  case atStart => exact rfl
  case round =>
    obtain rfl := hrel
    go_wp2_with fail
    refine bodyPost_ret (v := .agg #[.int .i64 0, .slice C 0 q]) (by simp [results, Try.results22, go_sem, hc1.out, hc2.out]) rfl ⟨_, _, _, rfl, RowsAt.nil _ _, hqc, (hbb.out.setCell (by simp) _).setCell (by simp) _⟩
theorem turnM_nil : turnM [] = [] := rfl
theorem mat_Turn (A : Option Addr) (n c : Nat) (xss : List (List Nat)) (w : World) (hr : RowsAt w A n xss) (hn : n < 64) (hc : n ≤ c) (hl : ∀ (i : Nat) (xs : List Nat), xss[i]? = some xs → xs.length = 1) :
    Calls Try.prog 22 #[.agg #[.int .i64 (n : Int), .slice A n c]] w (RetMat1 (n : Int) (turnM xss) w) := by
  rcases Nat.eq_zero_or_pos n with h0 | h0
  · subst h0
    obtain rfl : xss = [] := List.eq_nil_of_length_eq_zero hr.len
    exact mat_Turn_zero A c w
  · exact mat_Turn_pos A n c xss w hr h0 hn hc hl

end Go.Proofs.Ytkikoniihmieiaa
