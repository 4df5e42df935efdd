/- The code's own contracts of layer 19: sort.Search at the code's closure, least. The code's own contract of layer 19: lastReaders. The code's own contracts of layer 19: least. A region that draws its order, by a plan (XPlan), in which some cells of the caller's may change (those of a predicate): what reads must not read them. No function of the program is named here. -/
import Derived.Test.YtjhjojklfdjmdaaGreatBadLevelsPk14
import Derived.Test.YtjhjojklfdjmdaaGreatBadLevelsPk13
import Derived.Test.YtjhjojklfdjmdaaGreatBadLevelsPk3
import Derived.Test.YtjhjojklfdjmdaaGreatBadLevelsPk1
namespace Go.Proofs.YtjhjojklfdjmdaaGreat
open Go.RowKit
set_option linter.unusedVariables false
set_option maxRecDepth 100000 in
set_option maxHeartbeats 2000000 in
theorem sort_Search (u1 u2 u3 : Value) (m : Nat) (p : Nat → Bool) (w : World) (hm : m ≤ 1048576)
    (hp : ∀ (i : Nat) (W : World), i < m → Below w.heap.size w W → Calls Tryz.prog 93 #[.int .i64 (i : Int), u1, u2, u3] W (RetBool (p i) W))
    (hmono : ∀ a b, a ≤ b → b < m → p a = true → p b = true) :
    Calls Tryz.prog 92 #[.int .i64 (m : Int), .func (.func 93) #[] #[u1, u2, u3]] w (fun e w' => ∃ i : Nat, i ≤ m ∧ (∀ t, t < i → p t = false) ∧ (i < m → p i = true) ∧ e = .returned (.int .i64 (i : Int)) ∧ Below w.heap.size w w') := by
  replace hp := Lib.hid hp
  replace hmono := Lib.hid hmono
  go_enter Tryz.func92, Tryz.ntmps92
  go_wp2_with fail
  have hb0 := Lib.hid (Below.refl w.heap.size w)
  obtain ⟨V2, hV2⟩ : ∃ V, V = w := ⟨_, rfl⟩
  go_loopw [5, 6] (fun s5 s6 wr => ∃ lo hi : Nat, s5 = .int .i64 (lo : Int) ∧ s6 = .int .i64 (hi : Int) ∧ lo ≤ hi ∧ hi ≤ m ∧ Hid ((∀ t, t < lo → p t = false) ∧ (∀ t, hi ≤ t → t < m → p t = true)) ∧ Hid (Below V2.heap.size V2 wr)) (fun s5 s6 _ => (intOf s6).toNat - (intOf s5).toNat)
  case atStart => exact ⟨0, m, rfl, rfl, Nat.zero_le _, Nat.le_refl _, Lib.hid ⟨fun t ht => absurd ht (Nat.not_lt_zero _), fun t h1 h2 => by omega⟩, by rw [hV2]; exact hb0⟩
  case round =>
    subst hV2
    clear hb0
    obtain ⟨lo, hi, rfl, rfl, hlh, hin, hI, hb⟩ := hrel
    by_cases hlt : lo < hi
    · have hlt' : (lo : Int) < (hi : Int) := by omega
      have hc := hp.out ((lo + hi) / 2) wr (by omega) hb.out
      rw [show (((lo + hi) / 2 : Nat) : Int) = ((lo : Int) + (hi : Int)) / 2 by omega] at hc
      cases hpi : p ((lo + hi) / 2) with
      | false =>
        rw [hpi] at hc
        replace hc := Lib.hid hc
        have hI2 := Lib.hid (show (∀ t, t < (lo + hi) / 2 + 1 → p t = false) ∧ (∀ t, hi ≤ t → t < m → p t = true) from ⟨fun t ht => (by
          cases h : p t with
          | false => rfl
          | true => have := hmono.out t ((lo + hi) / 2) (by omega) (by omega) h; rw [hpi] at this; cases this), hI.out.2⟩)
        clear hpi
        go_wp2_with fail
        refine hc.out.mono ?_
        rintro e w2 ⟨rfl, b⟩
        replace hb := Lib.hid (below_trans2 hb.out b)
        clear hc b
        go_wp2_with fail
        exact ⟨⟨(lo + hi) / 2 + 1, hi, by go_num, rfl, by omega, hin, hI2, hb⟩, by simp [intOf]; omega⟩
      | true =>
        rw [hpi] at hc
        replace hc := Lib.hid hc
        have hI2 := Lib.hid (show (∀ t, t < lo → p t = false) ∧ (∀ t, (lo + hi) / 2 ≤ t → t < m → p t = true) from ⟨hI.out.1, fun t ht htn => hmono.out ((lo + hi) / 2) t ht htn hpi⟩)
        clear hpi
        go_wp2_with fail
        refine hc.out.mono ?_
        rintro e w2 ⟨rfl, b⟩
        replace hb := Lib.hid (below_trans2 hb.out b)
        clear hc b
        go_wp2_with fail
        exact ⟨⟨lo, (lo + hi) / 2, rfl, by go_num, by omega, by omega, hI2, hb⟩, by simp [intOf]; omega⟩
    · obtain rfl : hi = lo := by omega
      have hlt' : ¬ (hi : Int) < (hi : Int) := by omega
      clear hlt
      go_wp2_with fail
      go_ret
      exact ⟨hi, hin, hI.out.1, fun h => hI.out.2 hi (Nat.le_refl _) h, rfl, hb.out⟩
/-- a call's answer: the first one of a session that has seen something -/
def RetLeast (f : Fac) (p : Nat → Bool) (L : Nat) (w : World) (e : Ending) (w' : World) : Prop := ∃ z : Nat, e = .returned (.int .i64 (z : Int)) ∧ (z : Int) ∈ keptO f L ∧ p z = true ∧ (∀ q : Nat, (q : Int) ∈ keptO f L → q < z → p q = false) ∧ Below w.heap.size w w'
theorem RowsAt.len_eq19 {w : World} {C : Option Addr} {n m : Nat} {X : List (List Nat)} (h : RowsAt w C n X) (hl : X.length = m) : n = m := by rw [← h.len]; exact hl
set_option maxRecDepth 100000 in
set_option maxHeartbeats 2000000 in
theorem bad_least1M {w0 : World} {v : FV} {f : Fac} {A : Option Addr} {c s : Nat} {R : Value} (L ga gb gc i : Nat) (D : Option Addr) (n d : Nat) (U : World) (hE : EnvB v f) (hS : SrAt w0 v f A c s R U) (hL : LAt encI U D n (keptO f L)) (hi : i < (keptO f L).length)
    (qa : U.cell? ⟨ga, 0, none⟩ = some (.func (.func 61) #[.pointer (some ⟨s, 0, none⟩)] #[])) (qb : U.cell? ⟨gb, 0, none⟩ = some (.pointer (some ⟨s, 0, none⟩))) (qc : U.cell? ⟨gc, 0, none⟩ = some (.slice D n d)) :
    Calls Tryz.prog 93 #[.int .i64 (i : Int), .pointer (some ⟨ga, 0, none⟩), .pointer (some ⟨gb, 0, none⟩), .pointer (some ⟨gc, 0, none⟩)] U (RetBool (missB f ((keptO f L).getD i 0).toNat) U) := by
  -- the closure: ga, gb, gc: the boxes of what is asked, what is looked in, the list; $p what it answers of an operation
  have hvm := hE.hvm
  obtain ⟨zn, hzn, hzg, hzm⟩ := kept_nat hi
  have hz : zn < v.m := by have := (hE.ko hzm).2; omega
  have cS := Lib.hid (fun W (hW : SrAt w0 v f A c s R W) => bad_seen zn W hE hW hz)
  have gS := Lib.hid (hE.goodS zn)
  obtain ⟨db, dof, z, hD, -, hr, -, r0⟩ := hL.int (show i < n by rw [← hL.len]; exact hi)
  obtain rfl : z = (zn : Int) := by rw [hzn] at hr; injection hr with hr; exact hr.symm
  have bi : 0 ≤ (i : Int) ∧ (i : Int) < (n : Int) := by have := hL.len; omega
  rw [hzg]
  rw [hD] at qc
  replace hzn := Lib.hid hzn
  replace hzg := Lib.hid hzg
  replace hzm := Lib.hid hzm
  replace hi := Lib.hid hi
  have hS0 := Lib.hid hS
  clear hS hr hL
  replace hE := Lib.hid hE
  go_enter Tryz.func93, Tryz.ntmps93
  go_wp2_with fail
  refine wp_region_plan 13 [(true, 0), (true, 1), (true, 2), (true, 3), (true, 4), (true, 5), (true, 7), (true, 8), (true, 9), (true, 10), (false, 6), (false, 11), (true, 12)] (by kernel_rfl) (by kernel_rfl) (fun V hV => ?_)
  have hV' : Below U.heap.size U V := by rw [hV.out]; exact (Below.refl _ _).drew
  have drw : ∀ p u, U.cell? p = some u → V.cell? p = some u := fun p u h => by rw [hV.out]; exact h
  replace qa := drw _ _ qa
  replace qb := drw _ _ qb
  replace qc := drw _ _ qc
  replace r0 := drw _ _ r0
  replace hS0 := Lib.hid (hS0.out.later hV')
  have hbo := Lib.hid hV'
  clear hV hV' drw
  simp only [List.drop_succ_cons, List.drop_nil]
  iterate 10
    refine wpPlan_float (v := ?_) rfl (by rfl) (fun w' hw' => ?_) (fun K hK => ?_)
    rotate_left
    · (go_simp; try with_reducible rfl)
    go_simp
    refine hK _ ?_
    clear hK K
  clear qa qb qc r0
  refine wpPlan_only rfl (by rfl) (fun K hK => ?_)
  go_simp
  refine (cS.out V hS0.out).mono ?_
  rintro e x1 ⟨C, nn, d1, rfl, hrows, hdC, b⟩
  obtain rfl : nn = v.m := hrows.len_eq19 gS.out.len
  refine hK _ _ b ?_
  clear hK K
  replace hS0 := Lib.hid (hS0.out.later b)
  replace hbo := Lib.hid (below_trans2 hbo.out b)
  clear b cS
  have cW := Lib.hid (bad_hasMissed C d1 (seenM f (coM f) zn) zn x1 hE.out hS0.out hrows gS.out)
  clear hrows
  refine wpPlan_only rfl (by rfl) (fun K hK => ?_)
  go_simp
  refine cW.out.mono ?_
  rintro e x2 ⟨rfl, b⟩
  refine hK _ _ b ?_
  clear hK K
  replace hbo := Lib.hid (below_trans2 hbo.out b)
  clear b cW
  iterate 1
    refine wpPlan_float (v := ?_) rfl (by rfl) (fun w' hw' => ?_) (fun K hK => ?_)
    rotate_left
    · (go_simp; try with_reducible rfl)
    go_simp
    refine hK _ ?_
    clear hK K
  refine wpPlan_nil (NoPanic.normal ?_)
  go_wp2_with fail
  go_ret
  exact ⟨rfl, hbo.out⟩
set_option maxRecDepth 100000 in
set_option maxHeartbeats 2000000 in
theorem bad_least1R {w0 : World} {v : FV} {f : Fac} {A : Option Addr} {c s : Nat} {R : Value} (L ga gb gc i : Nat) (D : Option Addr) (n d : Nat) (U : World) (hE : EnvB v f) (hS : SrAt w0 v f A c s R U) (hL : LAt encI U D n (keptO f L)) (hi : i < (keptO f L).length)
    (qa : U.cell? ⟨ga, 0, none⟩ = some (.func (.func 64) #[] #[])) (qb : U.cell? ⟨gb, 0, none⟩ = some (.pointer (some ⟨s, 0, none⟩))) (qc : U.cell? ⟨gc, 0, none⟩ = some (.slice D n d)) :
    Calls Tryz.prog 93 #[.int .i64 (i : Int), .pointer (some ⟨ga, 0, none⟩), .pointer (some ⟨gb, 0, none⟩), .pointer (some ⟨gc, 0, none⟩)] U (RetBool (gorB f ((keptO f L).getD i 0).toNat) U) := by
  -- the closure: ga, gb, gc: the boxes of what is asked, what is looked in, the list; $p what it answers of an operation
  have hvm := hE.hvm
  obtain ⟨zn, hzn, hzg, hzm⟩ := kept_nat hi
  have hz : zn < v.m := by have := (hE.ko hzm).2; omega
  have cS := Lib.hid (fun W (hW : SrAt w0 v f A c s R W) => bad_seen zn W hE hW hz)
  have gS := Lib.hid (hE.goodS zn)
  obtain ⟨db, dof, z, hD, -, hr, -, r0⟩ := hL.int (show i < n by rw [← hL.len]; exact hi)
  obtain rfl : z = (zn : Int) := by rw [hzn] at hr; injection hr with hr; exact hr.symm
  have bi : 0 ≤ (i : Int) ∧ (i : Int) < (n : Int) := by have := hL.len; omega
  rw [hzg]
  rw [hD] at qc
  replace hzn := Lib.hid hzn
  replace hzg := Lib.hid hzg
  replace hzm := Lib.hid hzm
  replace hi := Lib.hid hi
  have hS0 := Lib.hid hS
  clear hS hr hL
  have hgo : Hid (gorB f zn = loopB v.m (seenM f (coM f) zn)) := Lib.hid (by unfold gorB; rw [hE.hil])
  rw [hgo.out]
  replace hE := Lib.hid hE
  go_enter Tryz.func93, Tryz.ntmps93
  go_wp2_with fail
  refine wp_region_plan 13 [(true, 0), (true, 1), (true, 2), (true, 3), (true, 4), (true, 5), (true, 7), (true, 8), (true, 9), (true, 10), (false, 6), (false, 11), (true, 12)] (by kernel_rfl) (by kernel_rfl) (fun V hV => ?_)
  have hV' : Below U.heap.size U V := by rw [hV.out]; exact (Below.refl _ _).drew
  have drw : ∀ p u, U.cell? p = some u → V.cell? p = some u := fun p u h => by rw [hV.out]; exact h
  replace qa := drw _ _ qa
  replace qb := drw _ _ qb
  replace qc := drw _ _ qc
  replace r0 := drw _ _ r0
  replace hS0 := Lib.hid (hS0.out.later hV')
  have hbo := Lib.hid hV'
  clear hV hV' drw
  simp only [List.drop_succ_cons, List.drop_nil]
  iterate 10
    refine wpPlan_float (v := ?_) rfl (by rfl) (fun w' hw' => ?_) (fun K hK => ?_)
    rotate_left
    · (go_simp; try with_reducible rfl)
    go_simp
    refine hK _ ?_
    clear hK K
  clear qa qb qc r0
  refine wpPlan_only rfl (by rfl) (fun K hK => ?_)
  go_simp
  refine (cS.out V hS0.out).mono ?_
  rintro e x1 ⟨C, nn, d1, rfl, hrows, hdC, b⟩
  obtain rfl : nn = v.m := hrows.len_eq19 gS.out.len
  refine hK _ _ b ?_
  clear hK K
  replace hS0 := Lib.hid (hS0.out.later b)
  replace hbo := Lib.hid (below_trans2 hbo.out b)
  clear b cS
  have cW := Lib.hid (bad_goesRound C d1 (seenM f (coM f) zn) (zn : Int) x1 hrows gS.out)
  clear hrows
  refine wpPlan_only rfl (by rfl) (fun K hK => ?_)
  go_simp
  refine cW.out.mono ?_
  rintro e x2 ⟨rfl, b⟩
  refine hK _ _ b ?_
  clear hK K
  replace hbo := Lib.hid (below_trans2 hbo.out b)
  clear b cW
  iterate 1
    refine wpPlan_float (v := ?_) rfl (by rfl) (fun w' hw' => ?_) (fun K hK => ?_)
    rotate_left
    · (go_simp; try with_reducible rfl)
    go_simp
    refine hK _ ?_
    clear hK K
  refine wpPlan_nil (NoPanic.normal ?_)
  go_wp2_with fail
  go_ret
  exact ⟨rfl, hbo.out⟩
end Go.Proofs.YtjhjojklfdjmdaaGreat

namespace Go.Proofs.YtjhjojklfdjmdaaGreat
open Go.RowKit
set_option linter.unusedVariables false
/-- a reader: an operation, whether it has seen that a read missed a write, whether something is ahead of itself in what it has seen -/
structure RdT where
  o : Int
  mi : Bool
  ro : Bool
def encRd : Enc RdT := { cells := fun x => [.int .i64 x.o, .bool x.mi, .bool x.ro], sz := 3, pos := by decide, len := fun _ => rfl, one := fun x u h => by simp only [List.mem_cons, List.not_mem_nil, or_false] at h; rcases h with rfl | rfl | rfl <;> rfl, ok := fun x => -9223372036854775808 ≤ x.o ∧ x.o < 9223372036854775808 }
theorem LAt.rd {w : World} {A : Option Addr} {n k : Nat} {xs : List RdT} (h : LAt encRd w A n xs) (hk : k < n) : ∃ b off x, A = some ⟨b, off, none⟩ ∧ b < w.heap.size ∧ xs[k]? = some x ∧
    w.cell? ⟨b, off + k * 3, none⟩ = some (.int .i64 x.o) ∧ w.cell? ⟨b, off + k * 3 + 1, none⟩ = some (.bool x.mi) ∧ w.cell? ⟨b, off + k * 3 + 2, none⟩ = some (.bool x.ro) := by
  obtain ⟨b, off, x, e, hb, hx, hok, hc⟩ := h.at_ hk
  exact ⟨b, off, x, e, hb, hx, hc 0 _ rfl, hc 1 _ rfl, hc 2 _ rfl⟩
def rdT (f : Fac) (z : Int) : RdT := ⟨z, missB f z.toNat, gorB f z.toNat⟩
def rdL (f : Fac) (n i : Nat) : List RdT := ((ldF f n).take i).map (rdT f)
/-- the readers up to one that has seen that a read missed a write -/
def RdOk (f : Fac) (n : Nat) (l : List RdT) : Prop := ∃ i, i ≤ (ldF f n).length ∧ l = rdL f n i ∧ (∀ j z, j + 1 < i → (ldF f n)[j]? = some z → missB f z.toNat = false) ∧ (i = (ldF f n).length ∨ ∃ j z, i = j + 1 ∧ (ldF f n)[j]? = some z ∧ missB f z.toNat = true)
theorem rdL_len {f : Fac} {n i : Nat} (h : i ≤ (ldF f n).length) : (rdL f n i).length = i := by unfold rdL; rw [List.length_map, List.length_take]; omega
theorem rdL_succ {f : Fac} {n i : Nat} {z : Int} (h : (ldF f n)[i]? = some z) : rdL f n (i + 1) = rdL f n i ++ [rdT f z] := by
  unfold rdL
  rw [List.take_add_one, h, List.map_append]; rfl
/-- the readers lie in memory, in a block of their own that is none of the first B ones -/
def RdsAt (f : Fac) (m B : Nat) (R : Value) (U : World) : Prop := (R = .slice none 0 0 ∧ RdOk f m []) ∨ ∃ (g n d : Nat) (l : List RdT), R = .slice (some ⟨g, 0, none⟩) n d ∧ LAt encRd U (some ⟨g, 0, none⟩) n l ∧ RdOk f m l ∧ B ≤ g
theorem own_lt19 {w : World} {base size n : Nat} {e : TypeId} {v : Value} {xs : List Value} (h : w.ownsRow base e size v n xs) {b : Nat} (hb : v.ownBlock = some b) : base ≤ b ∧ b < w.heap.size := by
  rcases h.2 with ⟨rfl, _⟩ | ⟨k, cap, cur, rfl, hbg, hk, _⟩
  · cases hb
  · have : k = b := by simpa [Value.ownBlock] using hb
    subst this
    exact ⟨hbg, (Array.getElem?_eq_some_iff.1 hk).1⟩
theorem own_far19 {w : World} {base size n : Nat} {e : TypeId} {v : Value} {xs : List Value} (h : w.ownsRow base e size v n xs) {g : Nat} (hg : v.ownBlock ≠ some g) (o : Nat) (u : Value) : (w.setCell ⟨g, o, none⟩ u).ownsRow base e size v n xs :=
  ⟨h.1, h.2.imp id fun ⟨k, cap, cur, hv, hbg, hk, r⟩ => ⟨k, cap, cur, hv, hbg, (Below.heap_setCell w ⟨g, o, none⟩ u k (fun e => hg (by rw [hv]; simp only [Value.ownBlock]; rw [e]))).trans hk, r⟩⟩
theorem cut_two19 {Goal F : Nat → World → Prop} {R : Prop} (h1 : (∀ a b, F a b → Goal a b) → R) (h2 : ∀ a b, F a b → Goal a b) : R := h1 h2
def RetReaders (w0 : World) (v : FV) (f : Fac) (A : Option Addr) (c s : Nat) (U : World) (e : Ending) (U' : World) : Prop := ∃ R, e = .returned R ∧ SrAt w0 v f A c s R U' ∧ BelowB s U U' ∧ RdsAt f v.m U.heap.size R U'
theorem RdsAt.weaken {f : Fac} {m B B' : Nat} {R : Value} {U : World} (h : RdsAt f m B R U) (hb : B' ≤ B) : RdsAt f m B' R U := h.imp id fun ⟨g, n, d, l, h1, h2, h3, h4⟩ => ⟨g, n, d, l, h1, h2, h3, Nat.le_trans hb h4⟩
theorem BelowB.next19 {s : Nat} {a b c : World} (h : BelowB s a b) (h2 : Below a.heap.size b c) : BelowB s a c := ⟨h2.os.trans h.os, h2.tape.trans h.tape, h2.output.trans h.output, Nat.le_trans h.size h2.size, fun k hk hs => (h2.block k hk).trans (h.block k hk hs)⟩
theorem rdL_ok {f : Fac} {n i : Nat} (hin : ∀ z ∈ ldF f n, ∃ (q : Nat) (y : It), z = (q : Int) ∧ q < n ∧ f.items[q]? = some y ∧ 0 ≤ f.frm.getD q 0) (hn : n ≤ 4096) : ∀ x ∈ rdL f n i, encRd.ok x := fun x hx => by
  unfold rdL at hx
  obtain ⟨z, hz, rfl⟩ := List.mem_map.1 hx
  obtain ⟨q, y, rfl, hq, -⟩ := hin z (List.mem_of_mem_take hz)
  exact ⟨show (-9223372036854775808 : Int) ≤ (q : Int) by omega, show (q : Int) < 9223372036854775808 by omega⟩
theorem rds_of {f : Fac} {n i B : Nat} {R : Value} {U : World} {t : TypeId} (hown : U.ownsRow B t 3 R i (encRd.all (rdL f n i))) (hok : ∀ x ∈ rdL f n i, encRd.ok x) (hl : (rdL f n i).length = i) (hr : RdOk f n (rdL f n i)) : RdsAt f n B R U := by
  obtain ⟨D, d, rfl, -, -, hLA⟩ := LAt.of_own (E := encRd) hown hok hl
  cases D with
  | none =>
    refine .inl ?_
    rcases hown.2 with ⟨hv, h0⟩ | ⟨g, cap, cur, hv, -⟩
    · subst h0
      have : rdL f n 0 = [] := by unfold rdL; simp
      rw [this] at hr
      exact ⟨hv, hr⟩
    · injection hv with h1; cases h1
  | some ad =>
    rcases hown.2 with ⟨hv, h0⟩ | ⟨g, cap, cur, hv, hbg, -⟩
    · injection hv with h1; cases h1
    · injection hv with h1 h2 h3
      injection h1 with h1
      subst h1
      exact .inr ⟨g, i, d, _, rfl, hLA, hr, hbg⟩
theorem rds_fin {f : Fac} {n i B : Nat} {R : Value} {U : World} {t : TypeId} (hi : i ≤ (ldF f n).length) (hown : U.ownsRow B t 3 R i (encRd.all (rdL f n i))) (hil : i = (ldF f n).length) (hall : ∀ j z, j < i → (ldF f n)[j]? = some z → missB f z.toNat = false) (hok : ∀ x ∈ rdL f n i, encRd.ok x) : RdsAt f n B R U :=
  rds_of hown hok (rdL_len hi) ⟨i, hi, rfl, fun j z hj => hall j z (by omega), .inl hil⟩
theorem rds_brk {f : Fac} {n i B : Nat} {R : Value} {U : World} {t : TypeId} {z : Int} (hi : i + 1 ≤ (ldF f n).length) (hown : U.ownsRow B t 3 R (i + 1) (encRd.all (rdL f n (i + 1)))) (hz : (ldF f n)[i]? = some z) (hm : missB f z.toNat = true) (hall : ∀ j z, j < i → (ldF f n)[j]? = some z → missB f z.toNat = false) (hok : ∀ x ∈ rdL f n (i + 1), encRd.ok x) : RdsAt f n B R U :=
  rds_of hown hok (rdL_len hi) ⟨i + 1, hi, rfl, fun j z hj => hall j z (by omega), .inr ⟨i, z, rfl, hz, hm⟩⟩
theorem info_rd : (Tryz.prog.info? 103).map (fun i => (i.zero, i.size, i.bytes)) = some (some (.agg #[.int .i64 0, .bool false, .bool false]), 3, 16) := by kernel_rfl
set_option maxRecDepth 100000 in
set_option maxHeartbeats 1000000 in
theorem bad_readers {w0 : World} {v : FV} {f : Fac} {A : Option Addr} {c s : Nat} (U : World) (hE : EnvB v f) (hS : SrAt w0 v f A c s (.slice none 0 0) U) :
    Calls Tryz.prog 59 #[.pointer (some ⟨s, 0, none⟩)] U (RetReaders w0 v f A c s U) := by
  have hvm := hE.hvm
  have cL := Lib.hid (bad_lastReads U hE hS)
  have hin := Lib.hid (ldF_is hE.hx.nb v.m (by rw [hE.hil]; exact Nat.le_refl _)).inn
  have hsU := Lib.hid hS.k.lt
  have hw0U := Lib.hid hS.o.size
  have cS := Lib.hid (fun (o : Nat) (ho : o < v.m) R W (hW : SrAt w0 v f A c s R W) => bad_seen o W hE hW ho)
  have gS := Lib.hid (fun (o : Nat) => hE.goodS o)
  have hgo := Lib.hid (fun (o : Nat) => show gorB f o = loopB v.m (seenM f (coM f) o) from by unfold gorB; rw [hE.hil])
  have hEh := Lib.hid hE
  obtain ⟨ji0, ji, jz0, jz1, jz2⟩ := info_parts info_rd
  replace ji := Lib.hid ji
  replace jz0 := Lib.hid jz0
  replace jz1 := Lib.hid jz1
  replace jz2 := Lib.hid jz2
  have hnilT : ∀ W : World, (binOp .eql 59 (.slice none 0 0) (.slice none 0 0)).run Tryz.prog W = .ok (.bool true) W := fun W => by kernel_rfl
  have hS0 := Lib.hid hS
  clear hE hS
  -- the cells of what is looked in (hS0 : Hid SrAt): p0 .. p5
  have p0 := hS0.out.c0
  have p1 := hS0.out.c1
  have p2 := hS0.out.c2
  have p3 := hS0.out.c3
  have p4 := hS0.out.c4
  have p5 := hS0.out.c5
  go_enter Tryz.func59, Tryz.ntmps59
  go_wp2_with fail
  refine cL.out.mono ?_
  rintro e w1 ⟨D0, nL, d0, rfl, hL0, -, -, b1, hfr0⟩
  obtain ⟨ld, hld⟩ : ∃ l, l = ldF f v.m := ⟨_, rfl⟩
  have hLl : nL = ld.length := by rw [hld]; exact hL0.len.symm
  have hnm : nL ≤ v.m := by rw [hLl, hld]; exact ldF_len _
  rw [← hld] at hin hL0
  have hD0s := Lib.hid (show ∀ ad, D0 = some ad → ad.block ≠ s from fun ad e => by have h1 := hfr0 ad e; have h2 := hsU.out; omega)
  replace hS0 := Lib.hid (hS0.out.later b1)
  have hL := Lib.hid hL0
  have hbU := Lib.hid (BelowB.of (g := s) b1)
  replace hld := Lib.hid hld
  replace hLl := Lib.hid hLl
  have hUw := Lib.hid b1.size
  clear p0 p1 p2 p3 p4 p5 hL0 hfr0 b1 cL hnilT
  go_wp2_with fail
  go_loopw [15] (fun t wr => ∃ (i : Nat) (R : Value), i ≤ nL ∧ t = .int .i64 (i : Int) ∧ Hid (SrAt w0 v f A c s R wr) ∧ Hid (wr.ownsRow w1.heap.size 103 3 R i (encRd.all (rdL f v.m i))) ∧ Hid (BelowB s w1 wr) ∧ Hid (∀ j z, j < i → ld[j]? = some z → missB f z.toNat = false)) (fun t _ => nL - (intOf t).toNat)
  case atStart => exact ⟨0, .slice none 0 0, Nat.zero_le _, rfl, hS0, Lib.hid (World.ownsRow_nil _ _ _ _), Lib.hid (BelowB.refl _ _), Lib.hid (fun j z h => absurd h (by omega))⟩
  case round =>
    clear hS0
    obtain ⟨i, R, hik, rfl, hS0, hown, hb, hall⟩ := hrel
    by_cases hlt : i < nL
    · have hlt' : (i : Int) < (nL : Int) := by omega
      have bi : 0 ≤ (i : Int) ∧ (i : Int) < (nL : Int) := by omega
      obtain ⟨zb, zo, z, hzD, -, hz, -, k0⟩ := (hL.out.keptB hb.out hD0s.out).int hlt
      obtain ⟨zn, y, rfl, hzl, hy, -⟩ := hin.out z (List.mem_of_getElem? hz)
      rw [hzD]
      have cSr := Lib.hid (cS.out zn hzl R wr hS0.out)
      replace hzD := Lib.hid hzD
      replace hlt := Lib.hid hlt
      replace hz := Lib.hid hz
      clear hy
      go_wp2_with fail
      refine cSr.out.mono ?_
      rintro e w2 ⟨C, nn, dC, rfl, hrows, hdC, b2⟩
      obtain rfl : nn = v.m := hrows.len_eq19 (gS.out zn).len
      replace hS0 := Lib.hid (hS0.out.later b2)
      replace hown := Lib.hid (own_below hown.out b2)
      replace hb := Lib.hid (hb.out.trans (BelowB.of b2))
      clear k0 cSr
      obtain ⟨W5, hW5⟩ : ∃ W, W = w2.alloc (.cells #[.int .i64 (v.m : Int), .slice C v.m dC] 57) := ⟨_, rfl⟩
      obtain ⟨G5, hG5⟩ : ∃ G, G = w2.heap.size := ⟨_, rfl⟩
      have b5 : Below w2.heap.size w2 W5 := by rw [hW5]; exact below_alloc _ _
      have k5 := Lib.hid (show MatK W5 G5 57 (v.m : Int) C v.m dC (seenM f (coM f) zn) from ⟨by rw [hW5, hG5]; exact MatB.new _ _, hrows.below b5⟩)
      replace hS0 := Lib.hid (hS0.out.later b5)
      replace hown := Lib.hid (own_below hown.out b5)
      replace hb := Lib.hid (hb.out.trans (BelowB.of b5))
      clear b2 b5 hrows
      go_wp2_with (rw [← hW5, ← hG5]; clear hW5; replace hG5 := Lib.hid hG5)
      refine wp_region_tree (.flt 0 (.flt 1 (.flt 2 (.flt 3 (.flt 5 (.flt 6 (.two 4 9 (.two 7 9 (.flt 8 (.one 9 (.one 10 .done))) (.one 7 (.flt 8 (.one 10 .done)))) (.one 4 (.one 7 (.flt 8 (.one 10 .done))))))))))) (by kernel_rfl) (by kernel_rfl) (fun V hV => ?_)
      have hV' : Below W5.heap.size W5 V := by rw [hV.out]; exact (Below.refl _ _).drew
      have hSV := Lib.hid (hS0.out.later hV')
      have kV := Lib.hid (k5.out.below hV')
      replace hown := Lib.hid (own_below hown.out hV')
      replace hb := Lib.hid (hb.out.trans (BelowB.of hV'))
      clear hV hV' hS0 k5
      have cM := Lib.hid (fun W (hW : SrAt w0 v f A c s R W) (hk : MatK W G5 57 (v.m : Int) C v.m dC (seenM f (coM f) zn)) => bad_hasMissed C dC (seenM f (coM f) zn) zn W hEh.out hW hk.2 (gS.out zn))
      have cG := Lib.hid (fun W (hk : MatK W G5 57 (v.m : Int) C v.m dC (seenM f (coM f) zn)) => bad_goesRound C dC (seenM f (coM f) zn) (zn : Int) W hk.2 (gS.out zn))
      obtain ⟨mi, hmi⟩ : ∃ b, b = (earlyF f (seenM f (coM f) zn) 6 (keptO f zn)).isSome := ⟨_, rfl⟩
      obtain ⟨ro, hro⟩ : ∃ b, b = loopB v.m (seenM f (coM f) zn) := ⟨_, rfl⟩
      rw [← hmi] at cM
      rw [← hro] at cG
      have hmm : missB f zn = mi := by rw [hmi]; rfl
      have hrr : gorB f zn = ro := by rw [hro]; exact hgo.out zn
      have hrt : Hid (rdT f (zn : Int) = ⟨(zn : Int), mi, ro⟩) := Lib.hid (by unfold rdT; rw [Int.toNat_natCast, hmm, hrr])
      replace hmm := Lib.hid hmm
      clear hmi hro hrr
      have bW : Below V.heap.size V V := Below.refl _ _
      apply cut_two19 (F := fun (M : Nat) (w9 : World) => Blk w9 M 103 [.int .i64 (zn : Int), .bool mi, .bool ro] ∧ V.heap.size ≤ M ∧ Below V.heap.size V w9)
      · intro key
        have m0 := kV.out.1.c0
        have m1 := kV.out.1.c1
        iterate 6
          refine wpPT_float (v := ?_) rfl (by rfl) (fun w' hw' => ?_) (fun K hK => ?_)
          rotate_left
          · (go_simp; try with_reducible rfl)
          go_simp
          refine hK _ ?_
          clear hK K
        clear m0 m1
        refine wpPT_two rfl (by rfl) rfl (by rfl) (fun K hK => ?_) (fun K hK => ?_)
        · skip
          go_simp
          refine (cM.out V (hSV.out.later bW) (kV.out.below bW)).mono ?_; rintro e v1 ⟨rfl, b⟩
          replace bW := below_trans2 bW b
          refine hK _ _ bW ?_
          clear hK K
          clear b
          refine wpPT_two rfl (by rfl) rfl (by rfl) (fun K hK => ?_) (fun K hK => ?_)
          · skip
            go_simp
            refine (cG.out v1 (kV.out.below bW)).mono ?_; rintro e v2 ⟨rfl, b⟩
            replace bW := below_trans2 bW b
            refine hK _ _ bW ?_
            clear hK K
            clear b
            iterate 1
              refine wpPT_float (v := ?_) rfl (by rfl) (fun w' hw' => ?_) (fun K hK => ?_)
              rotate_left
              · (go_simp; try with_reducible rfl)
              go_simp
              refine hK _ ?_
              clear hK K
            refine wpPT_one rfl (by rfl) (fun K hK => ?_)
            go_simp
            obtain ⟨M, hM⟩ : ∃ M, M = (World.heap v2).size := ⟨_, rfl⟩
            obtain ⟨v3, hw⟩ : ∃ X : World, X = World.alloc v2 (.cells #[.int .i64 0, .bool false, .bool false] 103) := ⟨_, rfl⟩
            rw [← hw, ← hM]
            have b : Below (World.heap v2).size v2 v3 := by rw [hw]; exact below_alloc _ _
            have hUM : V.heap.size ≤ M := by rw [hM]; exact bW.size
            replace bW := below_trans2 bW b
            refine hK _ _ bW ?_
            clear hK K
            have kM := Lib.hid (show Blk v3 M 103 [.int .i64 0, .bool false, .bool false] from by rw [hw, hM]; exact Blk.new _ _ _)
            clear hM hw b
            have f0 := kM.out.frozen 0
            have f1 := kM.out.frozen 1
            have f2 := kM.out.frozen 2
            have g0 := kM.out.cell 0
            have g1 := kM.out.cell 1
            have g2 := kM.out.cell 2
            simp only [List.getElem?_cons_zero, List.getElem?_cons_succ] at g0 g1 g2
            refine wpPT_one rfl (by rfl) (fun K hK => ?_)
            go_simp
            obtain ⟨wz, hw⟩ : ∃ X : World, X = ((World.setCell v3 ⟨M, 0, none⟩ (.int .i64 (zn : Int))).setCell ⟨M, 1, none⟩ (.bool mi)).setCell ⟨M, 2, none⟩ (.bool ro) := ⟨_, rfl⟩
            rw [← hw]
            have kN := Lib.hid (show Blk wz M 103 [.int .i64 (zn : Int), .bool mi, .bool ro] from by rw [hw]; exact ((kM.out.set_ 0 _).set_ 1 _).set_ 2 _)
            replace bW : Below V.heap.size V wz := by rw [hw]; exact ((bW.setCell (p := ⟨M, 0, none⟩) hUM _).setCell (p := ⟨M, 1, none⟩) hUM _).setCell (p := ⟨M, 2, none⟩) hUM _
            refine hK _ _ bW ?_
            clear hK K f0 f1 f2 g0 g1 g2 hw kM
            refine wpPT_done (NoPanic.normal ?_)
            exact key M wz ⟨kN.out, hUM, bW⟩
          · skip
            go_simp
            obtain ⟨M, hM⟩ : ∃ M, M = (World.heap v1).size := ⟨_, rfl⟩
            obtain ⟨v4, hw⟩ : ∃ X : World, X = World.alloc v1 (.cells #[.int .i64 0, .bool false, .bool false] 103) := ⟨_, rfl⟩
            rw [← hw, ← hM]
            have b : Below (World.heap v1).size v1 v4 := by rw [hw]; exact below_alloc _ _
            have hUM : V.heap.size ≤ M := by rw [hM]; exact bW.size
            replace bW := below_trans2 bW b
            refine hK _ _ bW ?_
            clear hK K
            have kM := Lib.hid (show Blk v4 M 103 [.int .i64 0, .bool false, .bool false] from by rw [hw, hM]; exact Blk.new _ _ _)
            clear hM hw b
            refine wpPT_one rfl (by rfl) (fun K hK => ?_)
            go_simp
            refine (cG.out v4 (kV.out.below bW)).mono ?_; rintro e v5 ⟨rfl, b⟩
            replace bW := below_trans2 bW b
            refine hK _ _ bW ?_
            clear hK K
            replace kM := Lib.hid (kM.out.below b kM.out.lt)
            clear b
            iterate 1
              refine wpPT_float (v := ?_) rfl (by rfl) (fun w' hw' => ?_) (fun K hK => ?_)
              rotate_left
              · (go_simp; try with_reducible rfl)
              go_simp
              refine hK _ ?_
              clear hK K
            have f0 := kM.out.frozen 0
            have f1 := kM.out.frozen 1
            have f2 := kM.out.frozen 2
            have g0 := kM.out.cell 0
            have g1 := kM.out.cell 1
            have g2 := kM.out.cell 2
            simp only [List.getElem?_cons_zero, List.getElem?_cons_succ] at g0 g1 g2
            refine wpPT_one rfl (by rfl) (fun K hK => ?_)
            go_simp
            obtain ⟨wz, hw⟩ : ∃ X : World, X = ((World.setCell v5 ⟨M, 0, none⟩ (.int .i64 (zn : Int))).setCell ⟨M, 1, none⟩ (.bool mi)).setCell ⟨M, 2, none⟩ (.bool ro) := ⟨_, rfl⟩
            rw [← hw]
            have kN := Lib.hid (show Blk wz M 103 [.int .i64 (zn : Int), .bool mi, .bool ro] from by rw [hw]; exact ((kM.out.set_ 0 _).set_ 1 _).set_ 2 _)
            replace bW : Below V.heap.size V wz := by rw [hw]; exact ((bW.setCell (p := ⟨M, 0, none⟩) hUM _).setCell (p := ⟨M, 1, none⟩) hUM _).setCell (p := ⟨M, 2, none⟩) hUM _
            refine hK _ _ bW ?_
            clear hK K f0 f1 f2 g0 g1 g2 hw kM
            refine wpPT_done (NoPanic.normal ?_)
            exact key M wz ⟨kN.out, hUM, bW⟩
        · skip
          go_simp
          obtain ⟨M, hM⟩ : ∃ M, M = (World.heap V).size := ⟨_, rfl⟩
          obtain ⟨v6, hw⟩ : ∃ X : World, X = World.alloc V (.cells #[.int .i64 0, .bool false, .bool false] 103) := ⟨_, rfl⟩
          rw [← hw, ← hM]
          have b : Below (World.heap V).size V v6 := by rw [hw]; exact below_alloc _ _
          have hUM : V.heap.size ≤ M := by rw [hM]; exact bW.size
          replace bW := below_trans2 bW b
          refine hK _ _ bW ?_
          clear hK K
          have kM := Lib.hid (show Blk v6 M 103 [.int .i64 0, .bool false, .bool false] from by rw [hw, hM]; exact Blk.new _ _ _)
          clear hM hw b
          refine wpPT_one rfl (by rfl) (fun K hK => ?_)
          go_simp
          refine (cM.out v6 (hSV.out.later bW) (kV.out.below bW)).mono ?_; rintro e v7 ⟨rfl, b⟩
          replace bW := below_trans2 bW b
          refine hK _ _ bW ?_
          clear hK K
          replace kM := Lib.hid (kM.out.below b kM.out.lt)
          clear b
          refine wpPT_one rfl (by rfl) (fun K hK => ?_)
          go_simp
          refine (cG.out v7 (kV.out.below bW)).mono ?_; rintro e v8 ⟨rfl, b⟩
          replace bW := below_trans2 bW b
          refine hK _ _ bW ?_
          clear hK K
          replace kM := Lib.hid (kM.out.below b kM.out.lt)
          clear b
          iterate 1
            refine wpPT_float (v := ?_) rfl (by rfl) (fun w' hw' => ?_) (fun K hK => ?_)
            rotate_left
            · (go_simp; try with_reducible rfl)
            go_simp
            refine hK _ ?_
            clear hK K
          have f0 := kM.out.frozen 0
          have f1 := kM.out.frozen 1
          have f2 := kM.out.frozen 2
          have g0 := kM.out.cell 0
          have g1 := kM.out.cell 1
          have g2 := kM.out.cell 2
          simp only [List.getElem?_cons_zero, List.getElem?_cons_succ] at g0 g1 g2
          refine wpPT_one rfl (by rfl) (fun K hK => ?_)
          go_simp
          obtain ⟨wz, hw⟩ : ∃ X : World, X = ((World.setCell v8 ⟨M, 0, none⟩ (.int .i64 (zn : Int))).setCell ⟨M, 1, none⟩ (.bool mi)).setCell ⟨M, 2, none⟩ (.bool ro) := ⟨_, rfl⟩
          rw [← hw]
          have kN := Lib.hid (show Blk wz M 103 [.int .i64 (zn : Int), .bool mi, .bool ro] from by rw [hw]; exact ((kM.out.set_ 0 _).set_ 1 _).set_ 2 _)
          replace bW : Below V.heap.size V wz := by rw [hw]; exact ((bW.setCell (p := ⟨M, 0, none⟩) hUM _).setCell (p := ⟨M, 1, none⟩) hUM _).setCell (p := ⟨M, 2, none⟩) hUM _
          refine hK _ _ bW ?_
          clear hK K f0 f1 f2 g0 g1 g2 hw kM
          refine wpPT_done (NoPanic.normal ?_)
          exact key M wz ⟨kN.out, hUM, bW⟩
      · rintro M w9 ⟨kM', hVM, b9⟩
        have kM := Lib.hid kM'
        have hS9 := Lib.hid (hSV.out.later b9)
        have hown9 := Lib.hid (own_below hown.out b9)
        have hb9 := Lib.hid (hb.out.trans (BelowB.of b9))
        obtain ⟨gb, hgb, hgs, hgM, hg0⟩ : ∃ gb, (∀ b, R.ownBlock = some b → b = gb) ∧ gb ≠ s ∧ gb ≠ M ∧ w0.heap.size ≤ gb := by
          have h0 := hS9.out.o.size
          have h1 := hw0U.out
          have h2 := hsU.out
          have h3 := hUw.out
          cases hob : R.ownBlock with
          | none => exact ⟨w9.heap.size + 7, (fun b h => by cases h), (by have := hS9.out.k.lt; omega), (by have := kM'.lt; omega), (by omega)⟩
          | some b =>
            have h4 := own_lt19 hown.out hob
            exact ⟨b, (fun b' h => by injection h with h; exact h.symm), (fun e => hS9.out.k.not_row' (by decide) hown9.out (by rw [hob, e])), (by omega), (by omega)⟩
        have hokn := Lib.hid (show ∀ x ∈ rdL f v.m (i + 1), encRd.ok x from rdL_ok (by rw [← hld.out]; exact hin.out) (by omega))
        have hst := Lib.hid (show rdL f v.m (i + 1) = rdL f v.m i ++ [⟨(zn : Int), mi, ro⟩] from by rw [← hrt.out]; exact rdL_succ (by rw [← hld.out]; exact hz.out))
        have hll1 : i + 1 ≤ (ldF f v.m).length := by have h1 := hLl.out; have h2 := hlt.out; rw [← hld.out]; omega
        have him : i ≤ 4096 := by omega
        have hw19 := Lib.hid hb9.out.size
        replace hll1 := Lib.hid hll1
        replace hgb := Lib.hid hgb
        clear kM' hVM b9 hSV kV hown hb cM cG
        have p5 := hS9.out.c5
        have y0 := kM.out.cell 0
        have y1 := kM.out.cell 1
        have y2 := kM.out.cell 2
        simp only [List.getElem?_cons_zero, List.getElem?_cons_succ] at y0 y1 y2
        go_wp2_with fail
        have ns : s ≠ gb := Ne.symm hgs
        have nM : M ≠ gb := Ne.symm hgM
        refine wp_region_planG (gb := gb) 10 [(true, 0), (true, 1), (true, 2), (true, 3), (true, 4), (true, 5), (false, 6), (false, 7), (true, 8), (true, 9)] (by kernel_rfl) (by kernel_rfl) (fun X hX => ?_)
        obtain rfl := hX.out
        clear hX
        replace p5 : w9.drew.cell? ⟨s, 5, none⟩ = some R := p5
        replace y0 : w9.drew.cell? ⟨M, 0, none⟩ = some (.int .i64 (zn : Int)) := y0
        replace y1 : w9.drew.cell? ⟨M, 1, none⟩ = some (.bool mi) := y1
        replace y2 : w9.drew.cell? ⟨M, 2, none⟩ = some (.bool ro) := y2
        simp only [List.drop_succ_cons, List.drop_zero]
        iterate 6
          refine wpPG_float (v := ?_) rfl (by rfl) (fun w' hw' => ?_) (fun K hK => ?_)
          rotate_left
          · (go_simp; try with_reducible rfl)
          go_simp
          refine hK _ ?_
          clear hK K
        clear p5 y0 y1 y2
        refine wpPG_only rfl (by rfl) (fun K hK => ?_)
        go_simp
        obtain ⟨W3, hW3⟩ : ∃ W, W = (w9.alloc (.cells #[.int .i64 (zn : Int), .bool mi, .bool ro] 103)).drew := ⟨_, rfl⟩
        have b3 : Below w9.heap.size w9 W3 := by rw [hW3]; exact ((Below.refl _ w9).alloc (Nat.le_refl _) _).drew
        have hlit : LAt encRd W3 (some ⟨w9.heap.size, 0, none⟩) 1 [⟨(zn : Int), mi, ro⟩] := by rw [hW3]; exact LAt.lit1 (E := encRd) w9 _ ⟨(zn : Int), mi, ro⟩ ⟨by simp only; omega, by simp only; omega⟩
        have hS3 := hS9.out.later b3
        have kM3 := kM.out.below b3 kM.out.lt
        have hrow3 := own_below hown9.out b3
        have hb3 := hb9.out.trans (BelowB.of b3)
        have hw13 : w1.heap.size ≤ W3.heap.size := Nat.le_trans hw19.out b3.size
        rw [← hW3]
        refine hK _ _ ⟨b3.os, b3.tape, b3.output, b3.size, fun k hk _ => b3.block k hk⟩ ?_
        clear hK K hW3
        refine wpPG_only rfl (by rfl) (fun K hK => ?_)
        refine wp_append_L18 (E := encRd) (.tmp 35) (.tmp 37) _ rfl w1.heap.size 103 ji0 _ 16 Tryz.underlying59 ji.out jz0.out jz1.out jz2.out rfl _ i (rdL f v.m i) (by rfl) hrow3 _ 1 1 [⟨(zn : Int), mi, ro⟩] (by rfl) hlit (by unfold maxLen; omega) (by omega) hw13 ?_
        intro v' w4 hown' hbb hg4 hob
        rw [← hst.out] at hown'
        obtain ⟨D5, d5, rfl, -, -, -⟩ := LAt.of_own (E := encRd) hown' hokn.out (rdL_len hll1.out)
        have hBg := BelowB.grown hg4 (fun k hk => hgb.out k hk)
        refine hK _ _ hBg ?_
        clear hK K hob hg4 hlit
        have hS4 := Lib.hid (hS3.but hBg hgs hg0)
        have kM4 := Lib.hid (hBg.blk kM3 (Ne.symm hgM))
        have hb4 := Lib.hid (hb3.next19 hbb)
        have hrow4 := Lib.hid hown'
        have hv's : (Value.slice D5 (i + 1) d5).ownBlock ≠ some s := hS4.out.k.not_row' (by decide) hown'
        have hMs : M ≠ s := fun e => by
          have h1 := kM4.out
          rw [e] at h1
          have h2 := hS4.out.k.symm.trans h1
          injection h2 with h2
          injection h2 with _ h3
          exact absurd h3 (by decide)
        have hS5 := Lib.hid (hS4.out.readers (.slice D5 (i + 1) d5))
        have kM5 := Lib.hid (kM4.out.far (p := ⟨s, 5, none⟩) hMs (.slice D5 (i + 1) d5))
        have hrow5 := Lib.hid (own_far19 hown' hv's 5 (.slice D5 (i + 1) d5))
        have hb5 := Lib.hid (hb4.out.setG19 5 (.slice D5 (i + 1) d5))
        have s5 := hS4.out.c5
        have s5f := hS4.out.k.frozen 5
        have m1 := kM5.out.cell 1
        simp only [List.getElem?_cons_zero, List.getElem?_cons_succ] at m1
        have t5 := hS5.out.c5
        clear hown' hBg hbb hb3 hS3 kM3 hrow3 b3 hv's hMs hrow4 kM4 hb4 hgM hgs
        iterate 2
          refine wpPG_float (v := ?_) rfl (by rfl) (fun w' hw' => ?_) (fun K hK => ?_)
          rotate_left
          · (go_simp; try with_reducible rfl)
          go_simp
          refine hK _ ?_
          clear hK K
        refine wpPG_nil ?_
        go_wp2_with fail
        refine NoPanic.normal ?_
        cases mi with
        | false =>
          have hal1 := Lib.hid (show ∀ j z, j < i + 1 → ld[j]? = some z → missB f z.toNat = false from fun j z hj hjz => by
            rcases Nat.lt_succ_iff_lt_or_eq.1 hj with h1 | h1
            · exact hall.out j z h1 hjz
            · subst h1
              rw [hz.out] at hjz
              injection hjz with hjz
              rw [← hjz, Int.toNat_natCast]; exact hmm.out)
          go_wp2_with fail
          exact ⟨⟨i + 1, .slice D5 (i + 1) d5, by have := hlt.out; omega, by go_num, hS5, hrow5, hb5, hal1⟩, by have := hlt.out; simp [intOf]; omega⟩
        | true =>
          have hfin := Lib.hid (rds_brk (f := f) (n := v.m) (B := w1.heap.size) hll1.out hrow5.out (by rw [← hld.out]; exact hz.out) (by rw [Int.toNat_natCast]; exact hmm.out) (by rw [← hld.out]; exact hall.out) hokn.out)
          have hbe := Lib.hid (hbU.out.trans hb5.out)
          go_wp2_with fail
          go_ret
          exact ⟨.slice D5 (i + 1) d5, rfl, hS5.out, hbe.out, hfin.out.weaken hUw.out⟩
    · have hlt' : ¬ (i : Int) < (nL : Int) := by omega
      obtain rfl : i = nL := by omega
      have hfin := Lib.hid (rds_fin (f := f) (n := v.m) (U := wr) (B := w1.heap.size) (by rw [← hld.out]; exact Nat.le_of_eq hLl.out) hown.out (by rw [← hld.out]; exact hLl.out) (by rw [← hld.out]; exact hall.out) (rdL_ok (by rw [← hld.out]; exact hin.out) (by omega)))
      have hbe := Lib.hid (hbU.out.trans hb.out)
      clear hlt
      -- the cells of what is looked in (hS0 : Hid SrAt): p0 .. p5
      have p0 := hS0.out.c0
      have p1 := hS0.out.c1
      have p2 := hS0.out.c2
      have p3 := hS0.out.c3
      have p4 := hS0.out.c4
      have p5 := hS0.out.c5
      go_wp2_with fail
      go_ret
      exact ⟨R, rfl, hS0.out, hbe.out, hfin.out.weaken hUw.out⟩
end Go.Proofs.YtjhjojklfdjmdaaGreat

namespace Go.Proofs.YtjhjojklfdjmdaaGreat
open Go.RowKit
set_option linter.unusedVariables false
set_option maxRecDepth 100000 in
set_option maxHeartbeats 400000 in
theorem bad_leastM {w0 : World} {v : FV} {f : Fac} {A : Option Addr} {c s : Nat} {R : Value} (L : Nat) (y : It) (U : World) (hE : EnvB v f) (hS : SrAt w0 v f A c s R U) (hP : SeenBy f (missB f)) (hy : f.items[L]? = some y) (h0 : 0 ≤ f.frm.getD L 0) (hpL : missB f L = true) :
    Calls Tryz.prog 60 #[.pointer (some ⟨s, 0, none⟩), .int .i64 (L : Int), .func (.func 61) #[.pointer (some ⟨s, 0, none⟩)] #[]] U (RetLeast f (missB f) L U) := by
  -- least: .func (.func 61) #[.pointer (some ⟨s, 0, none⟩)] #[] what is asked (a value), missB what it answers, bad_least1M the closure's contract
  have hvm := hE.hvm
  have hwr := read_of hE.hx.fr hy (by omega)
  obtain ⟨hn0, hnl⟩ := kept_last hE.hx.nb hy hwr
  have hkl := hE.kl L
  have hmono := Lib.hid (fun (a b : Nat) (hab : a ≤ b) (hb : b < (keptO f L).length - 1) (h : missB f ((keptO f L).getD a 0).toNat = true) => show missB f ((keptO f L).getD b 0).toNat = true from by
    obtain ⟨za, hza, ea, hma⟩ := kept_nat (f := f) (L := L) (show a < (keptO f L).length by omega)
    obtain ⟨zb, hzb, eb, hmb⟩ := kept_nat (f := f) (L := L) (show b < (keptO f L).length by omega)
    rw [ea] at h
    rw [eb]
    refine hP.kept hE.hx.nb hy hma hmb ?_ h
    rcases Nat.lt_or_ge a b with h1 | h1
    · have := kept_lt hza hzb h1; omega
    · obtain rfl : a = b := by omega
      rw [hza] at hzb; injection hzb with hzb; omega)
  have hfin := Lib.hid (fun (i : Nat) (hi : i ≤ (keptO f L).length - 1) (h1 : ∀ t, t < i → missB f ((keptO f L).getD t 0).toNat = false) (h2 : i < (keptO f L).length - 1 → missB f ((keptO f L).getD i 0).toNat = true) => show ∃ z : Nat, (keptO f L)[i]? = some (z : Int) ∧ (z : Int) ∈ keptO f L ∧ missB f z = true ∧ (∀ q : Nat, (q : Int) ∈ keptO f L → q < z → missB f q = false) from by
    obtain ⟨z, hz, ez, hm⟩ := kept_nat (f := f) (L := L) (show i < (keptO f L).length by omega)
    refine ⟨z, hz, hm, ?_, fun q hq hqz => ?_⟩
    · rcases Nat.lt_or_ge i ((keptO f L).length - 1) with h3 | h3
      · have := h2 h3
        rwa [ez] at this
      · rw [show i = (keptO f L).length - 1 by omega, hnl] at hz
        injection hz with hz
        rw [show z = L by omega]
        exact hpL
    · obtain ⟨t, ht⟩ := List.getElem?_of_mem hq
      have htl := (List.getElem?_eq_some_iff.1 ht).1
      obtain ⟨z2, hz2, ez2, -⟩ := kept_nat (f := f) (L := L) htl
      rw [ht] at hz2; injection hz2 with hz2
      have h4 := h1 t (by
        rcases Nat.lt_or_ge t i with h5 | h5
        · exact h5
        · exfalso
          rcases Nat.lt_or_ge i t with h6 | h6
          · have := kept_lt hz ht h6; omega
          · obtain rfl : i = t := by omega
            rw [hz] at ht; injection ht with ht; omega)
      rw [ez2] at h4
      rwa [show q = z2 by omega])
  obtain ⟨gb, hgb⟩ : ∃ g, g = U.heap.size := ⟨_, rfl⟩
  obtain ⟨W1, hW1⟩ : ∃ W, W = U.alloc (.cells #[.pointer (some ⟨s, 0, none⟩)] 74) := ⟨_, rfl⟩
  have b1 : Below U.heap.size U W1 := by rw [hW1]; exact below_alloc _ _
  have kB1 : Blk W1 gb 74 [.pointer (some ⟨s, 0, none⟩)] := by rw [hW1, hgb]; exact Blk.new U _ _
  obtain ⟨ga, hga⟩ : ∃ g, g = W1.heap.size := ⟨_, rfl⟩
  obtain ⟨W2, hW2⟩ : ∃ W, W = W1.alloc (.cells #[.func (.func 61) #[.pointer (some ⟨s, 0, none⟩)] #[]] 105) := ⟨_, rfl⟩
  have b2 : Below W1.heap.size W1 W2 := by rw [hW2]; exact below_alloc _ _
  have kA := Lib.hid (show Blk W2 ga 105 [.func (.func 61) #[.pointer (some ⟨s, 0, none⟩)] #[]] from by rw [hW2, hga]; exact Blk.new W1 _ _)
  have kB := Lib.hid (kB1.below b2 kB1.lt)
  have hS2 := Lib.hid ((hS.later b1).later b2)
  have hbo := Lib.hid (below_trans2 b1 b2)
  have qb := kB.out.cell 0
  simp only [List.getElem?_cons_zero] at qb
  have cK := Lib.hid (past_Kept v f (L : Int) W2 hS2.out.fa (by omega) hE.hx.nb)
  replace hE := Lib.hid hE
  clear b1 b2 kB1 hS hP hpL hwr hy hnl
  -- the cells of what is looked in (hS2 : Hid SrAt): p0 .. p5
  have p0 := hS2.out.c0
  have p1 := hS2.out.c1
  have p2 := hS2.out.c2
  have p3 := hS2.out.c3
  have p4 := hS2.out.c4
  have p5 := hS2.out.c5
  go_enter Tryz.func60, Tryz.ntmps60
  go_wp2_with (first | (rw [← hW1, ← hgb]; clear hW1; replace hgb := Lib.hid hgb) | (rw [← hW2, ← hga]; clear hW2; replace hga := Lib.hid hga))
  refine cK.out.mono ?_
  rintro e w3 ⟨D, n, d, rfl, hL', -, -, b⟩
  have hL0 : LAt encI w3 D n (keptO f L) := hL'
  have hln := hL0.len
  replace kA := Lib.hid (kA.out.below b kA.out.lt)
  replace kB := Lib.hid (kB.out.below b kB.out.lt)
  replace hS2 := Lib.hid (hS2.out.later b)
  replace hbo := Lib.hid (below_trans2 hbo.out b)
  clear p0 p1 p2 p3 p4 p5 qb b cK hL'
  obtain ⟨gc, hgc⟩ : ∃ g, g = w3.heap.size := ⟨_, rfl⟩
  obtain ⟨W4, hW4⟩ : ∃ W, W = w3.alloc (.cells #[.slice D n d] 27) := ⟨_, rfl⟩
  have b4 : Below w3.heap.size w3 W4 := by rw [hW4]; exact below_alloc _ _
  have kC := Lib.hid (show Blk W4 gc 27 [.slice D n d] from by rw [hW4, hgc]; exact Blk.new w3 _ _)
  replace kA := Lib.hid (kA.out.below b4 kA.out.lt)
  replace kB := Lib.hid (kB.out.below b4 kB.out.lt)
  replace hS2 := Lib.hid (hS2.out.later b4)
  replace hbo := Lib.hid (below_trans2 hbo.out b4)
  have hL := Lib.hid (hL0.below b4)
  clear b4 hL0
  go_wp2_with (rw [← hW4, ← hgc]; clear hW4; replace hgc := Lib.hid hgc)
  refine wp_region_plan 9 [(true, 0), (true, 1), (true, 2), (true, 3), (false, 4), (false, 5), (true, 6), (true, 7), (true, 8)] (by kernel_rfl) (by kernel_rfl) (fun V hV => ?_)
  have hV' : Below W4.heap.size W4 V := by rw [hV.out]; exact (Below.refl _ _).drew
  replace kA := Lib.hid (kA.out.below hV' kA.out.lt)
  replace kB := Lib.hid (kB.out.below hV' kB.out.lt)
  replace kC := Lib.hid (kC.out.below hV' kC.out.lt)
  replace hS2 := Lib.hid (hS2.out.later hV')
  replace hL := Lib.hid (hL.out.below hV')
  replace hbo := Lib.hid (below_trans2 hbo.out hV')
  clear hV hV'
  simp only [List.drop_succ_cons, List.drop_nil]
  have qc := kC.out.cell 0
  simp only [List.getElem?_cons_zero] at qc
  have hn1 : (((keptO f L).length - 1 : Nat) : Int) = IntKind.i64.wrap ((n : Int) - 1) := by rw [IntKind.wrap_i64]; omega
  have cSr := sort_Search (.pointer (some ⟨ga, 0, none⟩)) (.pointer (some ⟨gb, 0, none⟩)) (.pointer (some ⟨gc, 0, none⟩)) ((keptO f L).length - 1) (fun i => missB f ((keptO f L).getD i 0).toNat) V (by omega)
    (fun i W hi hb => bad_least1M L ga gb gc i D n d W hE.out (hS2.out.later hb) (hL.out.below hb) (by omega) ((kA.out.below hb kA.out.lt).cell 0) ((kB.out.below hb kB.out.lt).cell 0) ((kC.out.below hb kC.out.lt).cell 0)) hmono.out
  rw [hn1] at cSr
  replace cSr := Lib.hid cSr
  replace hn1 := Lib.hid hn1
  iterate 4
    refine wpPlan_float (v := ?_) rfl (by rfl) (fun w' hw' => ?_) (fun K hK => ?_)
    rotate_left
    · (go_simp; try with_reducible rfl)
    go_simp
    refine hK _ ?_
    clear hK K
  refine wpPlan_only rfl (by rfl) (fun K hK => ?_)
  go_simp
  refine hK _ _ (Below.refl _ _) ?_
  clear hK K
  clear qc
  refine wpPlan_only rfl (by rfl) (fun K hK => ?_)
  go_simp
  refine cSr.out.mono ?_
  rintro e x5 ⟨i, hi1, hi2, hi3, rfl, b⟩
  refine hK _ _ b ?_
  clear hK K cSr
  obtain ⟨z, hz, hm, hpz, hlst⟩ := hfin.out i hi1 hi2 hi3
  obtain ⟨db, dof, z', hD, -, hr, -, r0⟩ := (hL.out.below b).int (show i < n by omega)
  obtain rfl : z' = (z : Int) := by rw [hz] at hr; injection hr with hr; exact hr.symm
  have bi : 0 ≤ (i : Int) ∧ (i : Int) < (n : Int) := by omega
  have hres := Lib.hid (show RetLeast f (missB f) L U (.returned (.int .i64 (z : Int))) x5 from ⟨z, rfl, hm, hpz, hlst, below_trans2 hbo.out b⟩)
  subst hD
  clear hz hm hpz hlst hr hi1 hi2 hi3 b hfin hmono hbo kA kB kC hS2 hL
  iterate 3
    refine wpPlan_float (v := ?_) rfl (by rfl) (fun w' hw' => ?_) (fun K hK => ?_)
    rotate_left
    · (go_simp; try with_reducible rfl)
    go_simp
    refine hK _ ?_
    clear hK K
  refine wpPlan_nil (NoPanic.normal ?_)
  go_wp2_with fail
  go_ret
  exact hres.out
set_option maxRecDepth 100000 in
set_option maxHeartbeats 400000 in
theorem bad_leastR {w0 : World} {v : FV} {f : Fac} {A : Option Addr} {c s : Nat} {R : Value} (L : Nat) (y : It) (U : World) (hE : EnvB v f) (hS : SrAt w0 v f A c s R U) (hP : SeenBy f (gorB f)) (hy : f.items[L]? = some y) (h0 : 0 ≤ f.frm.getD L 0) (hpL : gorB f L = true) :
    Calls Tryz.prog 60 #[.pointer (some ⟨s, 0, none⟩), .int .i64 (L : Int), .func (.func 64) #[] #[]] U (RetLeast f (gorB f) L U) := by
  -- least: .func (.func 64) #[] #[] what is asked (a value), gorB what it answers, bad_least1R the closure's contract
  have hvm := hE.hvm
  have hwr := read_of hE.hx.fr hy (by omega)
  obtain ⟨hn0, hnl⟩ := kept_last hE.hx.nb hy hwr
  have hkl := hE.kl L
  have hmono := Lib.hid (fun (a b : Nat) (hab : a ≤ b) (hb : b < (keptO f L).length - 1) (h : gorB f ((keptO f L).getD a 0).toNat = true) => show gorB f ((keptO f L).getD b 0).toNat = true from by
    obtain ⟨za, hza, ea, hma⟩ := kept_nat (f := f) (L := L) (show a < (keptO f L).length by omega)
    obtain ⟨zb, hzb, eb, hmb⟩ := kept_nat (f := f) (L := L) (show b < (keptO f L).length by omega)
    rw [ea] at h
    rw [eb]
    refine hP.kept hE.hx.nb hy hma hmb ?_ h
    rcases Nat.lt_or_ge a b with h1 | h1
    · have := kept_lt hza hzb h1; omega
    · obtain rfl : a = b := by omega
      rw [hza] at hzb; injection hzb with hzb; omega)
  have hfin := Lib.hid (fun (i : Nat) (hi : i ≤ (keptO f L).length - 1) (h1 : ∀ t, t < i → gorB f ((keptO f L).getD t 0).toNat = false) (h2 : i < (keptO f L).length - 1 → gorB f ((keptO f L).getD i 0).toNat = true) => show ∃ z : Nat, (keptO f L)[i]? = some (z : Int) ∧ (z : Int) ∈ keptO f L ∧ gorB f z = true ∧ (∀ q : Nat, (q : Int) ∈ keptO f L → q < z → gorB f q = false) from by
    obtain ⟨z, hz, ez, hm⟩ := kept_nat (f := f) (L := L) (show i < (keptO f L).length by omega)
    refine ⟨z, hz, hm, ?_, fun q hq hqz => ?_⟩
    · rcases Nat.lt_or_ge i ((keptO f L).length - 1) with h3 | h3
      · have := h2 h3
        rwa [ez] at this
      · rw [show i = (keptO f L).length - 1 by omega, hnl] at hz
        injection hz with hz
        rw [show z = L by omega]
        exact hpL
    · obtain ⟨t, ht⟩ := List.getElem?_of_mem hq
      have htl := (List.getElem?_eq_some_iff.1 ht).1
      obtain ⟨z2, hz2, ez2, -⟩ := kept_nat (f := f) (L := L) htl
      rw [ht] at hz2; injection hz2 with hz2
      have h4 := h1 t (by
        rcases Nat.lt_or_ge t i with h5 | h5
        · exact h5
        · exfalso
          rcases Nat.lt_or_ge i t with h6 | h6
          · have := kept_lt hz ht h6; omega
          · obtain rfl : i = t := by omega
            rw [hz] at ht; injection ht with ht; omega)
      rw [ez2] at h4
      rwa [show q = z2 by omega])
  obtain ⟨gb, hgb⟩ : ∃ g, g = U.heap.size := ⟨_, rfl⟩
  obtain ⟨W1, hW1⟩ : ∃ W, W = U.alloc (.cells #[.pointer (some ⟨s, 0, none⟩)] 74) := ⟨_, rfl⟩
  have b1 : Below U.heap.size U W1 := by rw [hW1]; exact below_alloc _ _
  have kB1 : Blk W1 gb 74 [.pointer (some ⟨s, 0, none⟩)] := by rw [hW1, hgb]; exact Blk.new U _ _
  obtain ⟨ga, hga⟩ : ∃ g, g = W1.heap.size := ⟨_, rfl⟩
  obtain ⟨W2, hW2⟩ : ∃ W, W = W1.alloc (.cells #[.func (.func 64) #[] #[]] 105) := ⟨_, rfl⟩
  have b2 : Below W1.heap.size W1 W2 := by rw [hW2]; exact below_alloc _ _
  have kA := Lib.hid (show Blk W2 ga 105 [.func (.func 64) #[] #[]] from by rw [hW2, hga]; exact Blk.new W1 _ _)
  have kB := Lib.hid (kB1.below b2 kB1.lt)
  have hS2 := Lib.hid ((hS.later b1).later b2)
  have hbo := Lib.hid (below_trans2 b1 b2)
  have qb := kB.out.cell 0
  simp only [List.getElem?_cons_zero] at qb
  have cK := Lib.hid (past_Kept v f (L : Int) W2 hS2.out.fa (by omega) hE.hx.nb)
  replace hE := Lib.hid hE
  clear b1 b2 kB1 hS hP hpL hwr hy hnl
  -- the cells of what is looked in (hS2 : Hid SrAt): p0 .. p5
  have p0 := hS2.out.c0
  have p1 := hS2.out.c1
  have p2 := hS2.out.c2
  have p3 := hS2.out.c3
  have p4 := hS2.out.c4
  have p5 := hS2.out.c5
  go_enter Tryz.func60, Tryz.ntmps60
  go_wp2_with (first | (rw [← hW1, ← hgb]; clear hW1; replace hgb := Lib.hid hgb) | (rw [← hW2, ← hga]; clear hW2; replace hga := Lib.hid hga))
  refine cK.out.mono ?_
  rintro e w3 ⟨D, n, d, rfl, hL', -, -, b⟩
  have hL0 : LAt encI w3 D n (keptO f L) := hL'
  have hln := hL0.len
  replace kA := Lib.hid (kA.out.below b kA.out.lt)
  replace kB := Lib.hid (kB.out.below b kB.out.lt)
  replace hS2 := Lib.hid (hS2.out.later b)
  replace hbo := Lib.hid (below_trans2 hbo.out b)
  clear p0 p1 p2 p3 p4 p5 qb b cK hL'
  obtain ⟨gc, hgc⟩ : ∃ g, g = w3.heap.size := ⟨_, rfl⟩
  obtain ⟨W4, hW4⟩ : ∃ W, W = w3.alloc (.cells #[.slice D n d] 27) := ⟨_, rfl⟩
  have b4 : Below w3.heap.size w3 W4 := by rw [hW4]; exact below_alloc _ _
  have kC := Lib.hid (show Blk W4 gc 27 [.slice D n d] from by rw [hW4, hgc]; exact Blk.new w3 _ _)
  replace kA := Lib.hid (kA.out.below b4 kA.out.lt)
  replace kB := Lib.hid (kB.out.below b4 kB.out.lt)
  replace hS2 := Lib.hid (hS2.out.later b4)
  replace hbo := Lib.hid (below_trans2 hbo.out b4)
  have hL := Lib.hid (hL0.below b4)
  clear b4 hL0
  go_wp2_with (rw [← hW4, ← hgc]; clear hW4; replace hgc := Lib.hid hgc)
  refine wp_region_plan 9 [(true, 0), (true, 1), (true, 2), (true, 3), (false, 4), (false, 5), (true, 6), (true, 7), (true, 8)] (by kernel_rfl) (by kernel_rfl) (fun V hV => ?_)
  have hV' : Below W4.heap.size W4 V := by rw [hV.out]; exact (Below.refl _ _).drew
  replace kA := Lib.hid (kA.out.below hV' kA.out.lt)
  replace kB := Lib.hid (kB.out.below hV' kB.out.lt)
  replace kC := Lib.hid (kC.out.below hV' kC.out.lt)
  replace hS2 := Lib.hid (hS2.out.later hV')
  replace hL := Lib.hid (hL.out.below hV')
  replace hbo := Lib.hid (below_trans2 hbo.out hV')
  clear hV hV'
  simp only [List.drop_succ_cons, List.drop_nil]
  have qc := kC.out.cell 0
  simp only [List.getElem?_cons_zero] at qc
  have hn1 : (((keptO f L).length - 1 : Nat) : Int) = IntKind.i64.wrap ((n : Int) - 1) := by rw [IntKind.wrap_i64]; omega
  have cSr := sort_Search (.pointer (some ⟨ga, 0, none⟩)) (.pointer (some ⟨gb, 0, none⟩)) (.pointer (some ⟨gc, 0, none⟩)) ((keptO f L).length - 1) (fun i => gorB f ((keptO f L).getD i 0).toNat) V (by omega)
    (fun i W hi hb => bad_least1R L ga gb gc i D n d W hE.out (hS2.out.later hb) (hL.out.below hb) (by omega) ((kA.out.below hb kA.out.lt).cell 0) ((kB.out.below hb kB.out.lt).cell 0) ((kC.out.below hb kC.out.lt).cell 0)) hmono.out
  rw [hn1] at cSr
  replace cSr := Lib.hid cSr
  replace hn1 := Lib.hid hn1
  iterate 4
    refine wpPlan_float (v := ?_) rfl (by rfl) (fun w' hw' => ?_) (fun K hK => ?_)
    rotate_left
    · (go_simp; try with_reducible rfl)
    go_simp
    refine hK _ ?_
    clear hK K
  refine wpPlan_only rfl (by rfl) (fun K hK => ?_)
  go_simp
  refine hK _ _ (Below.refl _ _) ?_
  clear hK K
  clear qc
  refine wpPlan_only rfl (by rfl) (fun K hK => ?_)
  go_simp
  refine cSr.out.mono ?_
  rintro e x5 ⟨i, hi1, hi2, hi3, rfl, b⟩
  refine hK _ _ b ?_
  clear hK K cSr
  obtain ⟨z, hz, hm, hpz, hlst⟩ := hfin.out i hi1 hi2 hi3
  obtain ⟨db, dof, z', hD, -, hr, -, r0⟩ := (hL.out.below b).int (show i < n by omega)
  obtain rfl : z' = (z : Int) := by rw [hz] at hr; injection hr with hr; exact hr.symm
  have bi : 0 ≤ (i : Int) ∧ (i : Int) < (n : Int) := by omega
  have hres := Lib.hid (show RetLeast f (gorB f) L U (.returned (.int .i64 (z : Int))) x5 from ⟨z, rfl, hm, hpz, hlst, below_trans2 hbo.out b⟩)
  subst hD
  clear hz hm hpz hlst hr hi1 hi2 hi3 b hfin hmono hbo kA kB kC hS2 hL
  iterate 3
    refine wpPlan_float (v := ?_) rfl (by rfl) (fun w' hw' => ?_) (fun K hK => ?_)
    rotate_left
    · (go_simp; try with_reducible rfl)
    go_simp
    refine hK _ ?_
    clear hK K
  refine wpPlan_nil (NoPanic.normal ?_)
  go_wp2_with fail
  go_ret
  exact hres.out
end Go.Proofs.YtjhjojklfdjmdaaGreat

namespace Go.Proofs.YtjhjojklfdjmdaaGreat
open Go.RowKit

/-- whatever cells there were, but for those of S, are as they were -/
structure BelowA (S : Addr → Prop) (w w' : World) : Prop where
  size : w.heap.size ≤ w'.heap.size
  cell : ∀ p : Addr, p.block < w.heap.size → ¬ S p → w'.cell? p = w.cell? p
theorem BelowA.refl (S : Addr → Prop) (w : World) : BelowA S w w := ⟨Nat.le_refl _, fun _ _ _ => rfl⟩
theorem BelowA.trans {S : Addr → Prop} {a b c : World} (h : BelowA S a b) (k : BelowA S b c) : BelowA S a c :=
  ⟨Nat.le_trans h.size k.size, fun p hp hn => (k.cell p (Nat.lt_of_lt_of_le hp h.size) hn).trans (h.cell p hp hn)⟩
theorem BelowA.of {S : Addr → Prop} {w w' : World} (h : Below w.heap.size w w') : BelowA S w w' := ⟨h.size, fun _ hp _ => h.cell hp⟩
theorem BelowA.set {S : Addr → Prop} {w w' : World} (h : BelowA S w w') {p : Addr} (hp : S p) (u : Value) : BelowA S w (w'.setCell p u) :=
  ⟨by simpa using h.size, fun q hq hn => (World.cell?_setCell_other w' p q u (fun e => hn (by rw [← e]; exact hp))).trans (h.cell q hq hn)⟩
section
variable {gb : Addr → Prop} {P : Program} {ops : Array Oper} {md : Region.Mode} {Q : Exit → Act → World → Prop}

/-- Whatever order is picked from here on, till the first n operations are done; each leaves what was there. -/
def wpAnyA (gb : Addr → Prop) (P : Program) (md : Region.Mode) (ops : Array Oper) (Q : Exit → Act → World → Prop) (n : Nat) (F : Array Bool → Act → World → Prop) : Nat → Array Bool → Act → World → Prop
  | 0, listed, a, w => F listed a w
  | f + 1, listed, a, w => Region.ready md ops listed ≠ [] ∧ ∀ i ∈ Region.ready md ops listed, i < n ∧ wpOp P ops Q i (fun a' w' => BelowA gb w w' ∧ wpAnyA gb P md ops Q n F f (listed.setIfInBounds i true) a' w') a w

theorem wpAny_of_A {n g : Nat} {F : Array Bool → Act → World → Prop} (hF : ∀ listed a w, F listed a w → wpAny P md ops Q g listed a w) :
    ∀ (f : Nat) (listed : Array Bool) (a : Act) (w : World), wpAnyA gb P md ops Q n F f listed a w → wpAny P md ops Q (f + g) listed a w
  | 0, _, _, _, h => by rw [Nat.zero_add]; exact hF _ _ _ h
  | f + 1, listed, a, w, h => by
    rw [show f + 1 + g = (f + g) + 1 by omega]
    exact ⟨fun h0 => absurd h0 h.1, fun i hi => wpOp_mono (fun a' w' h' => wpAny_of_A hF f _ a' w' h'.2) (h.2 i hi).2⟩

theorem belowA_of {w w' w'' : World} (h : BelowA gb w w') (h' : BelowA gb w' w'') : BelowA gb w w'' := h.trans h'
theorem yieldsA_later {w w' : World} {o : Oper} {v : Value} {a : Act} (hb : BelowA gb w w') (h : YieldsIf P ops (fun x => BelowA gb w x) o v a) : YieldsIf P ops (fun x => BelowA gb w' x) o v a :=
  h.imp (fun ⟨h1, h2⟩ => ⟨h1, fun x hx => h2 x (belowA_of hb hx)⟩) id

theorem wpAnyA_first {n i : Nat} {oi : Oper} {v : Value} {F : Array Bool → Act → World → Prop} (hi : ops[i]? = some oi) (hsel : ∀ (j : Nat) (o : Oper) cs b, ops[j]? = some o → o.op ≠ .select cs b)
    (hQ : ∀ c a w, Q (.panic c) (a.put oi.dst v) w → Q (.panic c) a w)
    (hlate : ∀ listed, HeadInv md ops n listed → listed.getD i true = false → ∀ t, n ≤ t → t ∉ Region.ready md ops listed) (hin : i < n)
    (hdone : ∀ listed a w, F listed a w → ∀ j ∈ Region.ready md ops listed, n ≤ j) :
    ∀ (f : Nat) (listed : Array Bool) (a : Act) (w : World), HeadInv md ops n listed →
      (∀ j oj, ops[j]? = some oj → j ≠ i → listed.getD j true = false → (∀ e ∈ oj.after, Region.binds md e = true → e.on ≠ i) → oi.apart ops oj = true) →
      i ∈ Region.ready md ops listed → YieldsIf P ops (fun x => BelowA gb w x) oi v a →
      wpAnyA gb P md ops Q n F f (listed.setIfInBounds i true) (a.put oi.dst v) w → wpAnyA gb P md ops Q n F (f + 1) listed a w := by
  intro f
  induction f with
  | zero =>
    intro listed a w inv _ hr hy H
    have hun := (mem_ready.1 hr).1
    refine ⟨fun h => (by rw [h] at hr; cases hr), fun j hj => ?_⟩
    have hjn : j < n := by
      rcases Nat.lt_or_ge j n with h | h
      · exact h
      · exact absurd hj (hlate listed inv hun j h)
    refine ⟨hjn, ?_⟩
    by_cases hji : j = i
    · subst hji; exact hy.wpOp hi (BelowA.refl _ _) ⟨BelowA.refl _ _, H⟩
    · have := hdone _ _ _ H j (ready_mono hj hji)
      omega
  | succ f ih =>
    intro listed a w inv hfree hr hy H
    have hun := (mem_ready.1 hr).1
    refine ⟨fun h => (by rw [h] at hr; cases hr), fun j hj => ?_⟩
    have hjn : j < n := by
      rcases Nat.lt_or_ge j n with h | h
      · exact h
      · exact absurd hj (hlate listed inv hun j h)
    refine ⟨hjn, ?_⟩
    by_cases hji : j = i
    · subst hji; exact hy.wpOp hi (BelowA.refl _ _) ⟨BelowA.refl _ _, H⟩
    · have h1 := (H.2 j (ready_mono hj hji)).2
      obtain ⟨hjun, oj, hoj, hall⟩ := mem_ready.1 hj
      have hnot : ∀ e ∈ oj.after, Region.binds md e = true → e.on ≠ i := fun e he hb heq => by
        have h1 := hall e he hb
        rw [heq, getD_both hun] at h1
        cases h1
      have h2 := wpOp_putIf hoj (hfree j oj hoj hji hjun hnot) (fun cs b => hsel i oi cs b hi) (fun cs b => hsel j oj cs b hoj) hQ hy h1
      have hfree' : ∀ k ok, ops[k]? = some ok → k ≠ i → (listed.setIfInBounds j true).getD k true = false →
          (∀ e ∈ ok.after, Region.binds md e = true → e.on ≠ i) → oi.apart ops ok = true := fun k ok hk hki hun hno => by
        refine hfree k ok hk hki ?_ hno
        by_cases hjk : j = k
        · subst hjk; exact hjun
        · rw [getD_set_ne true hjk] at hun; exact hun
      refine wpOp_mono (fun a' w' h3 => ⟨h3.2.1, ih (listed.setIfInBounds j true) a' w' (inv.set hj hjn) hfree' (ready_mono hr (Ne.symm hji)) (yieldsA_later h3.2.1 h3.1) ?_⟩) h2
      rw [Array.setIfInBounds_comm _ _ hji]
      exact h3.2.2

/-- the walk of the plan -/
def wpPA (gb : Addr → Prop) (P : Program) (ops : Array Oper) (Q : Exit → Act → World → Prop) (tail : List Oper) : List (Bool × Nat) → Act → World → Prop
  | [], a, w => wpList P ops Q tail a w
  | (true, i) :: rest, a, w => ∃ o v, ops[i]? = some o ∧ YieldsIf P ops (fun x => BelowA gb w x) o v a ∧ wpPA gb P ops Q tail rest (a.put o.dst v) w
  | (false, i) :: rest, a, w => wpOp P ops Q i (fun a' w' => BelowA gb w w' ∧ wpPA gb P ops Q tail rest a' w') a w

theorem wpAnyA_plan {n : Nat} {tail : List Oper} (hsel : Region.noSelect ops = true) (hQ : ∀ c a d v w, Q (.panic c) (a.put d v) w → Q (.panic c) a w)
    (hlate : ∀ listed, HeadInv md ops n listed → ∀ i, i < n → listed.getD i true = false → ∀ t, n ≤ t → t ∉ Region.ready md ops listed) :
    ∀ (pl : List (Bool × Nat)) (listed : Array Bool) (a : Act) (w : World), HeadInv md ops n listed → planB md ops n pl listed = true → wpPA gb P ops Q tail pl a w →
    wpAnyA gb P md ops Q n (fun listed' a' w' => Region.seqB md ops (ops.size - n) n listed' = true ∧ wpList P ops Q tail a' w') pl.length listed a w
  | [], listed, a, w, _, hB, h => ⟨hB, h⟩
  | (true, i) :: rest, listed, a, w, inv, hB, h => by
    simp only [planB, if_true, Bool.and_eq_true, decide_eq_true_eq] at hB
    obtain ⟨⟨hin, hr, hf⟩, hB'⟩ := hB
    obtain ⟨o, v, ho, hy, h'⟩ := h
    have hr' : i ∈ Region.ready md ops listed := by simpa using hr
    exact wpAnyA_first ho (Region.noSelect_spec hsel) (fun c a w => hQ c a o.dst v w) (fun l hl hu => hlate l hl i hin hu) hin (fun listed' a' w' hL => seqB_ready hL.1) rest.length listed a w inv (Region.free_spec ho hf) hr' hy
      (wpAnyA_plan hsel hQ hlate rest _ _ _ (inv.set hr' hin) hB' h')
  | (false, i) :: rest, listed, a, w, inv, hB, h => by
    simp only [planB, Bool.false_eq_true, if_false, Bool.and_eq_true, decide_eq_true_eq] at hB
    obtain ⟨⟨hin, hr⟩, hB'⟩ := hB
    have hr' : i ∈ Region.ready md ops listed := by rw [hr]; simp
    refine ⟨by rw [hr]; simp, fun j hj => ?_⟩
    rw [hr] at hj
    have hji : j = i := by simpa using hj
    subst hji
    exact ⟨hin, wpOp_mono (fun a' w' h3 => ⟨h3.1, wpAnyA_plan hsel hQ hlate rest _ a' w' (inv.set hr' hin) hB' h3.2⟩) h⟩

theorem wpAny_planA {a : Act} {w : World} {l : List Oper} (n : Nat) (pl : List (Bool × Nat)) (hB : planAll .any l.toArray n pl = true)
    (h : ∀ W : World, Hid (W = w.drew) → wpPA gb P l.toArray (NoPanic Q) (l.drop n) pl a W) : wpAny P .any l.toArray (NoPanic Q) l.toArray.size (Array.replicate l.toArray.size false) a { w with drawn := w.drawn + 1 } := by
  have hQ : ∀ c a d v w, NoPanic Q (.panic c) (a.put d v) w → NoPanic Q (.panic c) a w := fun _ _ _ _ _ h => h
  simp only [planAll, Bool.and_eq_true, decide_eq_true_eq] at hB
  obtain ⟨⟨⟨⟨hsel, hlen⟩, hn⟩, hsc⟩, hpl⟩ := hB
  have hn' : n ≤ l.length := by simpa using hn
  have hdl : (l.drop n).length = l.toArray.size - n := by simp
  have inv0 : HeadInv .any l.toArray n (Array.replicate l.toArray.size false) :=
    ⟨by simp, fun j oj _ hl => (by rw [getD_replicate_false] at hl; cases hl), fun t _ ht => getD_in (by simpa using ht) (getD_replicate_false _ _)⟩
  have hlate : ∀ listed, HeadInv .any l.toArray n listed → ∀ i, i < n → listed.getD i true = false → ∀ t, n ≤ t → t ∉ Region.ready .any l.toArray listed := by
    intro listed inv i hin hun t ht hr
    rw [Bool.or_eq_true, decide_eq_true_eq, Bool.and_eq_true] at hsc
    obtain ⟨_, ot, hot, _⟩ := mem_ready.1 hr
    have htl := (Array.getElem?_eq_some_iff.1 hot).1
    rcases hsc with h0 | ⟨hs, hc⟩
    · omega
    · exact tail_waits hs hc (by omega) inv _ i rfl hin hun t ht hr
  have H := wpAnyA_plan (md := .any) hsel hQ hlate pl _ a w.drew inv0 hpl (h w.drew (Lib.hid rfl))
  have := wpAny_of_A (Q := NoPanic Q) (g := l.toArray.size - n) (fun listed a' w' hL => by
    have := wpAny_of_seq (md := .any) (Q' := NoPanic Q) (l.drop n) n listed a' w' (fun j => by simp [List.getElem?_drop]) (by rw [hdl]; exact hL.1) hL.2
    rwa [hdl] at this) _ _ _ _ H
  rw [hlen, show n + (l.toArray.size - n) = l.toArray.size by omega] at this
  exact this
theorem wp_region_planA {id : Nat} {a : Act} {w : World} {l : List Oper} (n : Nat) (pl : List (Bool × Nat)) (hm : P.follows .mixedOrders = true) (hB : planAll .any l.toArray n pl = true)
    (h : ∀ W : World, Hid (W = w.drew) → wpPA gb P l.toArray (NoPanic Q) (l.drop n) pl a W) : (Code.region id l.toArray true).wp P Q a w :=
  wp_region_noPanic (wp_region_any hm (wpAny_planA n pl hB h))

/-! ### the steps -/
section
variable {tail : List Oper} {rest : List (Bool × Nat)} {a : Act} {w : World} {i : Nat} {o : Oper}
/-- what only reads: its value, in every world whose cells are those of w, where w has any -/
theorem wpPA_float {v : Value} (hi : ops[i]? = some o) (hw : Region.wanted o (yielded ops a.tmps) = true)
    (hy : ∀ w' : World, (∀ p : Addr, ¬ gb p → (w.cell? p).isSome = true → w'.cell? p = w.cell? p) → (execOp a.eval o).run P w' = .ok (.value v) w') (h : ∀ K : Act → Prop, (∀ a', wpPA gb P ops Q tail rest a' w → K a') → K (a.put o.dst v)) : wpPA gb P ops Q tail ((true, i) :: rest) a w :=
  ⟨o, v, hi, .inl ⟨hw, fun w' hb => hy w' (fun p hpg hp => by
    have hlt : p.block < w.heap.size := by
      cases hc : w.cell? p with
      | none => rw [hc] at hp; cases hp
      | some u => exact block_lt_of_cell hc
    exact hb.cell p hlt hpg)⟩, h _ (fun _ h => h)⟩
/-- what comes up alone: a call -/
theorem wpPA_only (hi : ops[i]? = some o) (hw : Region.wanted o (yielded ops a.tmps) = true)
    (h : ∀ K : Act → World → Prop, (∀ a' w', BelowA gb w w' → wpPA gb P ops Q tail rest a' w' → K a' w') → o.wp P a w K Q) : wpPA gb P ops Q tail ((false, i) :: rest) a w := by
  show wpOp P ops Q i _ a w
  unfold wpOp
  simp only [hi, hw, if_true]
  exact .inl (h _ (fun a' w' hb hp => ⟨hb, hp⟩))
theorem wpPA_nil (h : wpList P ops Q tail a w) : wpPA gb P ops Q tail [] a w := h
end
end
end Go.Proofs.YtjhjojklfdjmdaaGreat
