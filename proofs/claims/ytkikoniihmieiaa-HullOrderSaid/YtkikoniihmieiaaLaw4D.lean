/- The law HullOrder. -/
import Derived.Test.YtkikoniihmieiaaLaw4A
import Derived.Test.YtkikoniihmieiaaHullC
import Derived.Test.YtkikoniihmieiaaPlanS
import Derived.Test.YtkikoniihmieiaaOpen3
import Derived.Test.YtkikoniihmieiaaMatRefE
namespace Go.Proofs.Ytkikoniihmieiaa
open Go.RowKit
set_option linter.unusedVariables false

theorem RowsAt.farK {w : World} {C : Option Addr} {p g : Nat} {t : TypeId} {xss : List (List Nat)} {N : Int} {A : Option Addr} {n c : Nat} {yss : List (List Nat)} (h : RowsAt w C p xss) (hM : MatK w g t N A n c yss) (hn : 0 < n) : 0 < p → ∀ ad, C = some ad → ad.block ≠ g := by
  intro h0 ad e
  obtain ⟨b, off, B, m, d, xs, e2, _, hx, hc, hr⟩ := h.at_ h0
  rw [e] at e2
  cases e2
  intro hb
  have hb' : b = g := hb
  subst hb'
  rw [Blk.cell hM.1] at hc
  match off + 0, hc with
  | 0, hc => simp at hc
  | 1, hc =>
    simp at hc
    obtain ⟨rfl, rfl, rfl⟩ := hc
    obtain ⟨b3, o3, x, e3, _, _, _, h3⟩ := hr.at_ hn
    obtain ⟨b4, o4, B4, m4, d4, xs4, e4, _, _, h4, _⟩ := hM.2.at_ hn
    rw [e3] at e4
    cases e4
    rw [h3] at h4
    cases h4
  | k + 2, hc => simp at hc
theorem MatK.put2 {w : World} {g : Nat} {t : TypeId} {N : Int} {A : Option Addr} {n c : Nat} (h : MatB w g t N A n c) {G : Nat} {t' : TypeId} {M : Int} {B : Option Addr} {m d : Nat} {yss : List (List Nat)} (k : MatK w G t' M B m d yss) (hne : G ≠ g) (hb : 0 < m → ∀ ad, B = some ad → ad.block ≠ g) (x y : Value) : MatK ((w.setCell ⟨g, 0, none⟩ x).setCell ⟨g, 1, none⟩ y) G t' M B m d yss :=
  ⟨(k.1.farB (p := ⟨g, 0, none⟩) (by simpa using hne) _).farB (p := ⟨g, 1, none⟩) (by simpa using hne) _, k.2.putB h hb _ _⟩
/-- the slice '.slice A n c' of pairs of bytes reads as ps -/
def Pairs8 (w : World) (A : Option Addr) (n : Nat) (ps : List (Nat × Nat)) : Prop :=
  ps.length = n ∧ (∀ p ∈ ps, p.1 < 256 ∧ p.2 < 256) ∧
  (0 < n → ∃ b off, A = some ⟨b, off, none⟩ ∧ b < w.heap.size ∧ ∀ (j : Nat) (p : Nat × Nat), ps[j]? = some p → w.cell? ⟨b, off + j * 2, none⟩ = some (.int .u8 (p.1 : Int)) ∧ w.cell? ⟨b, off + j * 2 + 1, none⟩ = some (.int .u8 (p.2 : Int)))
theorem Pairs8.below {w w' : World} {A : Option Addr} {n : Nat} {ps : List (Nat × Nat)} (h : Pairs8 w A n ps) (hb : Below w.heap.size w w') : Pairs8 w' A n ps :=
  ⟨h.1, h.2.1, fun hn => by
    obtain ⟨b, off, e, hbl, hc⟩ := h.2.2 hn
    exact ⟨b, off, e, Nat.lt_of_lt_of_le hbl hb.size, fun j p hp => by
      obtain ⟨h1, h2⟩ := hc j p hp
      exact ⟨(hb.cell (p := ⟨b, off + j * 2, none⟩) hbl).trans h1, (hb.cell (p := ⟨b, off + j * 2 + 1, none⟩) hbl).trans h2⟩⟩⟩
theorem Pairs8.at_ {w : World} {A : Option Addr} {n : Nat} {ps : List (Nat × Nat)} {k : Nat} (h : Pairs8 w A n ps) (hk : k < n) : ∃ b off x y, A = some ⟨b, off, none⟩ ∧ b < w.heap.size ∧ ps[k]? = some (x, y) ∧ (x < 256 ∧ y < 256) ∧
    w.cell? ⟨b, off + k * 2, none⟩ = some (.int .u8 (x : Int)) ∧ w.cell? ⟨b, off + k * 2 + 1, none⟩ = some (.int .u8 (y : Int)) := by
  obtain ⟨b, off, e, hb, hc⟩ := h.2.2 (by omega)
  have hl : k < ps.length := by rw [h.1]; exact hk
  exact ⟨b, off, ps[k].1, ps[k].2, e, hb, List.getElem?_eq_getElem hl, h.2.1 _ (List.getElem_mem hl), (hc k _ (List.getElem?_eq_getElem hl)).1, (hc k _ (List.getElem?_eq_getElem hl)).2⟩
/-- the pairs, each number taken modulo k -/
def modP (k : Nat) (ps : List (Nat × Nat)) : List (Int × Int) := ps.map fun p => (((p.1 % k : Nat) : Int), ((p.2 % k : Nat) : Int))
theorem modP_ok {k : Nat} (hk : 0 < k) (ps : List (Nat × Nat)) : ∀ x ∈ modP k ps, okP (k : Int) x = true := by
  intro x hx
  obtain ⟨p, _, rfl⟩ := List.mem_map.1 hx
  have h1 := Nat.mod_lt p.1 hk
  have h2 := Nat.mod_lt p.2 hk
  unfold okP inM; simp; omega
/-- the first q pairs, from the one of number t on, round and round -/
def rotP (ps : List (Nat × Nat)) (t q : Nat) : List (Nat × Nat) := (List.range q).map fun p => ps.getD ((p + t) % ps.length) (0, 0)
theorem rotP_succ {ps : List (Nat × Nat)} {t q : Nat} {x : Nat × Nat} (h : ps[(q + t) % ps.length]? = some x) : rotP ps t (q + 1) = rotP ps t q ++ [x] := by
  unfold rotP
  rw [List.range_succ, List.map_append, List.map_singleton, getD_at h]
theorem rotP_mem (ps : List (Nat × Nat)) (t : Nat) (x : Nat × Nat) : x ∈ rotP ps t ps.length ↔ x ∈ ps := by
  unfold rotP
  rw [List.mem_map]
  constructor
  · rintro ⟨p, hp, rfl⟩
    have hp' := List.mem_range.1 hp
    have hl := Nat.mod_lt (p + t) (show 0 < ps.length by omega)
    rw [getD_at (List.getElem?_eq_getElem hl)]
    exact List.getElem_mem hl
  · intro hx
    obtain ⟨j, hj⟩ := List.getElem?_of_mem hx
    have hl := (List.getElem?_eq_some_iff.1 hj).1
    refine ⟨(j + (ps.length - t % ps.length)) % ps.length, List.mem_range.2 (Nat.mod_lt _ (by omega)), ?_⟩
    have ht := Nat.mod_lt t (show 0 < ps.length by omega)
    have he : ((j + (ps.length - t % ps.length)) % ps.length + t) % ps.length = j := by
      rw [Nat.mod_add_mod]
      have h1 : j + (ps.length - t % ps.length) + t = j + ps.length * (1 + t / ps.length) := by
        have h2 := Nat.div_add_mod t ps.length
        rw [Nat.mul_add, Nat.mul_one]
        omega
      rw [h1, Nat.add_mul_mod_self_left, Nat.mod_eq_of_lt hl]
    rw [he, getD_at hj]
theorem modP_rot (k : Nat) (ps : List (Nat × Nat)) (t : Nat) (x : Int × Int) : x ∈ modP k (rotP ps t ps.length) ↔ x ∈ modP k ps := by
  unfold modP
  rw [List.mem_map, List.mem_map]
  constructor
  · rintro ⟨p, hp, h⟩; exact ⟨p, (rotP_mem ps t p).1 hp, h⟩
  · rintro ⟨p, hp, h⟩; exact ⟨p, (rotP_mem ps t p).2 hp, h⟩
theorem fold_rot {k : Nat} (hk : 0 < k) (hk2 : k ≤ 4096) (ps : List (Nat × Nat)) (t : Nat) : foldP k (modP k (rotP ps t ps.length)) = foldP k (modP k ps) := by
  have h1 := foldP_facts hk2 _ (modP_ok hk (rotP ps t ps.length))
  have h2 := foldP_facts hk2 _ (modP_ok hk ps)
  refine good_ext h1.1 h2.1 (fun i j _ _ => ?_)
  rw [h1.2, h2.2]
  by_cases h : ((i : Int), (j : Int)) ∈ modP k ps
  · rw [decide_eq_true h, decide_eq_true ((modP_rot k ps t _).2 h)]
  · rw [decide_eq_false h, decide_eq_false (fun h' => h ((modP_rot k ps t _).1 h'))]
theorem modP_snoc (k : Nat) (ps : List (Nat × Nat)) (x y : Nat) : modP k (ps ++ [(x, y)]) = modP k ps ++ [(((x % k : Nat) : Int), ((y % k : Nat) : Int))] := by simp [modP]
theorem foldP_add (n : Nat) (ps : List (Int × Int)) (p : Int × Int) : foldP n (ps ++ [p]) = setM (foldP n ps) p.1 p.2 := by
  unfold foldP; rw [List.foldl_append]; rfl
theorem close_new {n : Nat} (hn : n ≤ 4096) : closeK (newM n) n = newM n := by
  refine (closeK_hull (Good.new hn)).unique (IsHull.self (Good.new hn) (fun i j k h => ?_)) (fun _ _ => Iff.rfl)
  unfold Rel at h
  rw [newM_has] at h; cases h
theorem close_set {n : Nat} {a : List (List Nat)} (ha : Good n a) {i j : Nat} (hi : i < n) (hj : j < n) : closeK (setM (closeK a n) (i : Int) (j : Int)) n = closeK (setM a (i : Int) (j : Int)) n := by
  have h := closeK_hull ha
  refine (closeK_hull (h.1.set hi hj)).unique (closeK_hull (ha.set hi hj)) (fun x y => ?_)
  exact (Conn.same (fun x y => rel_set h.1 hi hj x y) x y).trans (((Conn.same (fun a b => by rw [h.2]) x y).trans (conn_add i j x y)).trans (Conn.same (fun x y => (rel_set ha hi hj x y).symm) x y))

section
open Go.ChangeShapes Go.WideShapes Go.Deep Go.Joins
variable {H : Type} {enc : TypeId × Value → H} {P : Program} {w : World} {base : Nat} {spare : Nat → Bool} {held : Bool}
theorem open_pairs8 {t e i : TypeId} {fuel : Nat} {A : Option Addr} {len cap : Nat} {x : DataW H × List MemPlace} (ht : P.underlying t = some (.slice e)) (he : P.underlying e = some (.array 2 i)) (hi : P.underlying i = some (.int .u8))
    (ce : P.cellsOf e = 2) (ci : P.cellsOf i = 1) (h : DataW.trod enc P w base spare held fuel t [.slice A len cap] = some x) : ∃ ps, Pairs8 w A len ps ∧ len ≤ 9223372036854775807 := by
  rcases open_slice ht h with ⟨hcs, _⟩ | ⟨⟨b, off, spot⟩, l, c, m, n, D, Pl, hcs, hb, hl, hm, hmm, hx, hel⟩
  · injection hcs with hcs
    injection hcs with h1 h2 h3
    subst h1 h2 h3
    exact ⟨[], ⟨rfl, by simp, fun h => absurd h (by omega)⟩, by omega⟩
  · injection hcs with hcs
    injection hcs with h1 h2 h3
    subst h1 h2 h3
    have hlm : len ≤ m := by rw [hmm]; split <;> omega
    have hat : ∀ k, k < len → ∃ x y : Nat, w.cell? ((⟨b, off, spot⟩ : Addr).add (k * 2)) = some (.int .u8 (x : Int)) ∧ w.cell? (((⟨b, off, spot⟩ : Addr).add (k * 2)).add 1) = some (.int .u8 (y : Int)) ∧ x < 256 ∧ y < 256 := by
      intro k hk
      obtain ⟨cs', hc, ht'⟩ := hel k (by omega)
      rw [ce] at hc
      obtain ⟨_, hcl, hcat⟩ := World.cells?_some hc
      obtain ⟨xs, m', _, _, _, hxl, hf⟩ := DataW.trod_array he ht'
      match cs', hcl with
      | [u, v], _ =>
        have f0 := hf 0 (by omega)
        have f1 := hf 1 (by omega)
        rw [ci] at f0 f1
        rw [List.getElem?_eq_getElem (by omega)] at f0 f1
        obtain ⟨n0, e0, _, w0⟩ := DataW.trod_int hi f0
        obtain ⟨n1, e1, _, w1⟩ := DataW.trod_int hi f1
        simp at e0 e1
        subst e0 e1
        have c0 := hcat 0 (by omega)
        have c1 := hcat 1 (by omega)
        have b0 := bounds_u8 w0
        have b1 := bounds_u8 w1
        obtain ⟨x0, rfl⟩ := Int.eq_ofNat_of_zero_le b0.1
        obtain ⟨x1, rfl⟩ := Int.eq_ofNat_of_zero_le b1.1
        refine ⟨x0, x1, ?_, by simpa using c1, by omega, by omega⟩
        have hz : ∀ a : Addr, a.add 0 = a := fun a => by obtain ⟨b, o, s⟩ := a; unfold Addr.add; split <;> simp_all
        rw [hz] at c0
        simpa using c0
    by_cases h0 : len = 0
    · subst h0
      exact ⟨[], ⟨rfl, by simp, fun h => absurd h (by omega)⟩, by omega⟩
    · obtain ⟨_, _, hc0, _, _, _⟩ := hat 0 (by omega)
      have hspot : spot = none := by
        have h := World.cell?_spot hc0
        cases spot with
        | none => rfl
        | some s => unfold Addr.add at h; simp at h
      subst hspot
      have hblt : b < w.heap.size := by
        have := World.block_lt_of_cell? w _ hc0
        rwa [addr_add] at this
      have hall : ∀ k, k ≤ len → ∃ ps : List (Nat × Nat), ps.length = k ∧ (∀ p ∈ ps, p.1 < 256 ∧ p.2 < 256) ∧
          ∀ (j : Nat) (p : Nat × Nat), ps[j]? = some p → w.cell? ⟨b, off + j * 2, none⟩ = some (.int .u8 (p.1 : Int)) ∧ w.cell? ⟨b, off + j * 2 + 1, none⟩ = some (.int .u8 (p.2 : Int)) := by
        intro k
        induction k with
        | zero => exact fun _ => ⟨[], rfl, by simp, fun j p h => by simp at h⟩
        | succ k ih =>
          intro hk
          obtain ⟨ps, p1, p2, p3⟩ := ih (by omega)
          obtain ⟨x, y, cx, cy, wx, wy⟩ := hat k (by omega)
          rw [addr_add] at cx cy
          rw [addr_add] at cy
          refine ⟨ps ++ [(x, y)], by simp [p1], fun p hp => ?_, fun j p hj => ?_⟩
          · rcases List.mem_append.1 hp with hp | hp
            · exact p2 p hp
            · rw [List.mem_singleton.1 hp]; exact ⟨wx, wy⟩
          · rcases Nat.lt_or_ge j ps.length with hlt | hge
            · rw [List.getElem?_append_left hlt] at hj; exact p3 j p hj
            · rw [List.getElem?_append_right hge] at hj
              have hjk : j = k := by
                have := (List.getElem?_eq_some_iff.1 hj).1
                simp at this; omega
              subst hjk
              rw [p1, Nat.sub_self] at hj
              simp at hj
              subst hj
              exact ⟨cx, cy⟩
      obtain ⟨ps, p1, p2, p3⟩ := hall len (Nat.le_refl _)
      exact ⟨ps, ⟨p1, p2, fun _ => ⟨b, off, rfl, hblt, p3⟩⟩, by unfold maxLen at hm; omega⟩
end
theorem tmod_small (x n : Nat) (h : x < 256) : (IntKind.i64.wrap (x : Int)).tmod (n : Int) = ((x % n : Nat) : Int) := by
  rw [show IntKind.i64.wrap (x : Int) = (x : Int) from by rw [IntKind.wrap_i64]; omega]
  exact (Int.ofNat_tmod x n).symm
theorem cut4 {T1 T2 T3 T4 : Type} {Goal F : T1 → T2 → T3 → T4 → Prop} {R : Prop} (h1 : (∀ a b c d, F a b c d → Goal a b c d) → R) (h2 : ∀ a b c d, F a b c d → Goal a b c d) : R := h1 h2
set_option maxRecDepth 100000 in
set_option maxHeartbeats 16000000 in
theorem law_HullOrder (u t : Int) (A : Option Addr) (m c : Nat) (ps : List (Nat × Nat)) (w : World) (hp : Pairs8 w A m ps) (hm : m ≤ 9223372036854775807) (u0 : 0 ≤ u) (u1 : u ≤ 255) (t0 : 0 ≤ t) (t1 : t ≤ 255) :
    Calls Try.prog 6 #[.int .u8 u, .slice A m c, .int .u8 t] w (RetB true w) := by
  obtain ⟨u, rfl⟩ := Int.eq_ofNat_of_zero_le u0
  obtain ⟨t, rfl⟩ := Int.eq_ofNat_of_zero_le t0
  by_cases h40 : 40 < m
  · have bb := Lib.hid (Below.refl w.heap.size w)
    have h40' : (40 : Int) < (m : Int) := by omega
    clear hp
    go_enter Try.func6, Try.ntmps6
    go_wp2_with fail
    refine (law4_awake w).mono ?_; rintro e wz ⟨rfl, b⟩
    have bz := below_trans2 bb.out b
    clear b bb
    go_wp2_with fail
    go_ret
    exact ⟨rfl, bz⟩
  · obtain ⟨k, hk⟩ : ∃ k, k = 1 + u % 12 := ⟨_, rfl⟩
    have hk0 : 0 < k := by omega
    have hk12 : k ≤ 12 := by omega
    have hlen := hp.1
    have h40' : ¬ (40 : Int) < (m : Int) := by omega
    have cN := Lib.hid (fun W => ref3_New k (by omega) W)
    go_enter Try.func6, Try.ntmps6
    go_wp2_with fail
    have hke : (1 + (u : Int) % 12) = (k : Int) := by omega
    rw [hke]
    clear hke
    refine (cN.out w).mono ?_; rintro e w1 ⟨C, n8, c8, rfl, r8, _, b⟩
    obtain rfl : n8 = k := by have := r8.len; simp [newM] at this; omega
    obtain ⟨W1, hW1⟩ : ∃ X : World, X = w1.alloc (.cells #[.int .i64 n8, .slice C n8 c8] 24) := ⟨_, rfl⟩
    obtain ⟨W2, hW2⟩ : ∃ X : World, X = W1.alloc (.cells #[.int .i64 n8, .slice C n8 c8] 24) := ⟨_, rfl⟩
    obtain ⟨G8, hG8⟩ : ∃ G, G = w1.heap.size := ⟨_, rfl⟩
    obtain ⟨G10, hG10⟩ : ∃ G, G = w1.heap.size + 1 := ⟨_, rfl⟩
    have b1 : Below w1.heap.size w1 W1 := by rw [hW1]; exact below_alloc _ _
    have b2 : Below W1.heap.size W1 W2 := by rw [hW2]; exact below_alloc _ _
    have m8 : MatK W1 G8 24 n8 C n8 c8 (newM n8) := ⟨by rw [hW1, hG8]; exact MatB.new _ _, r8.below b1⟩
    have k8 := Lib.hid (m8.below b2)
    have k10 := Lib.hid (show MatK W2 G10 24 n8 C n8 c8 (newM n8) from ⟨by rw [hW2, hW1, hG10]; exact MatB.new1 _ _ _, m8.2.below b2⟩)
    have bb := Lib.hid (below_trans2 (below_trans2 b b1) b2)
    have h810 : G8 < G10 := by omega
    have hw8 : w.heap.size ≤ G8 := by have := b.size; omega
    have q0 := m8.1.c0
    have q1 := m8.1.c1
    rw [hG8] at q0 q1
    clear b b1 b2 m8 r8
    replace hp := Lib.hid hp
    replace hlen := Lib.hid hlen
    replace hk := Lib.hid hk
    rw [hW1] at q0 q1
    go_wp2_with fail
    rw [← hW1, ← hW2, ← hG10, ← hG8]
    clear hW1 hW2 hG8 hG10 q0 q1
    go_loopw [11] (fun i wr => ∃ (q : Nat) (A8 : Option Addr) (d8 : Nat) (A10 : Option Addr) (d10 : Nat), q ≤ m ∧ i = .int .i64 q ∧ Hid (MatK wr G8 24 n8 A8 n8 d8 (closeK (foldP n8 (modP n8 (rotP ps t q))) n8)) ∧ Hid (MatK wr G10 24 n8 A10 n8 d10 (foldP n8 (modP n8 (ps.take q)))) ∧ Hid (Below w.heap.size w wr)) (fun i _ => m - (intOf i).toNat)
    case atStart => exact ⟨0, C, c8, C, c8, Nat.zero_le _, rfl, Lib.hid (by rw [show foldP n8 (modP n8 (rotP ps t 0)) = newM n8 from rfl, close_new (by omega)]; exact k8.out), k10, bb⟩
    case round =>
      clear k8 k10 bb
      obtain ⟨q, A8, d8, A10, d10, hq, rfl, k8, k10, bb⟩ := hrel
      by_cases hlt : q < m
      · obtain ⟨p, hpe⟩ : ∃ p, p = (q + t) % m := ⟨_, rfl⟩
        have hpm : p < m := by rw [hpe]; exact Nat.mod_lt _ (by omega)
        have hidx : ((q : Int) + (t : Int)) % (m : Int) = (p : Int) := by rw [hpe]; simp
        have hm0 : ¬ (m : Int) = 0 := by omega
        have hp0 : (0 : Int) ≤ (p : Int) := by omega
        have hpm' : (p : Int) < (m : Int) := by omega
        have hq0 : (0 : Int) ≤ (q : Int) := by omega
        have hqm' : (q : Int) < (m : Int) := by omega
        obtain ⟨bl, off, x, y, rfl, hbl, hx, ⟨hx1, hy1⟩, c0, c1⟩ := (hp.out.below bb.out).at_ hpm
        replace hpe := Lib.hid hpe
        replace hx := Lib.hid hx
        -- the matrices ahead and behind
        have hxn : x % n8 < n8 := Nat.mod_lt _ hk0
        have hyn : y % n8 < n8 := Nat.mod_lt _ hk0
        have hF0 := foldP_facts (n := n8) (by omega) _ (modP_ok hk0 (rotP ps t q))
        have hF1 := foldP_facts (n := n8) (by omega) _ (modP_ok hk0 (rotP ps t (q + 1)))
        have hF2 := foldP_facts (n := n8) (by omega) _ (modP_ok hk0 (ps.take q))
        have hF3 := foldP_facts (n := n8) (by omega) _ (modP_ok hk0 (ps.take (q + 1)))
        have hH0 := closeK_hull hF0.1
        have hH1 := closeK_hull hF1.1
        have hstep : closeK (setM (closeK (foldP n8 (modP n8 (rotP ps t q))) n8) ((x % n8 : Nat) : Int) ((y % n8 : Nat) : Int)) n8 = closeK (foldP n8 (modP n8 (rotP ps t (q + 1)))) n8 := by
          rw [close_set hF0.1 hxn hyn, rotP_succ (x := (x, y)) (by rw [hlen.out, ← hpe.out]; exact hx.out), modP_snoc, foldP_add]
        obtain ⟨M0, hM0⟩ : ∃ X, X = closeK (foldP n8 (modP n8 (rotP ps t q))) n8 := ⟨_, rfl⟩
        obtain ⟨M1, hM1⟩ : ∃ X, X = closeK (foldP n8 (modP n8 (rotP ps t (q + 1)))) n8 := ⟨_, rfl⟩
        obtain ⟨S0, hS0⟩ : ∃ X, X = foldP n8 (modP n8 (ps.take q)) := ⟨_, rfl⟩
        obtain ⟨S1, hS1⟩ : ∃ X, X = foldP n8 (modP n8 (ps.take (q + 1))) := ⟨_, rfl⟩
        rw [← hM0] at hH0 k8 hstep
        rw [← hM1] at hH1 hstep
        rw [← hS0] at hF2 k10
        rw [← hS1] at hF3
        have hcl0 := hH0.closed
        have cAdd := Lib.hid (fun W hW => by
          have h := hull_Add A8 n8 d8 M0 (x % n8) (y % n8) W hW hH0.1 hcl0 hxn hyn
          rw [hstep] at h
          exact h)
        have hM1l := Lib.hid hH1.1.len
        have oneM0 := Lib.hid (hH0.1.one (by omega))
        have oneM1 := Lib.hid (hH1.1.one (by omega))
        have oneS0 := Lib.hid (hF2.1.one (by omega))
        have hxk : Hid ((IntKind.i64.wrap (x : Int)).tmod (n8 : Int) = ((x % n8 : Nat) : Int)) := Lib.hid (tmod_small x n8 hx1)
        have hyk : Hid ((IntKind.i64.wrap (y : Int)).tmod (n8 : Int) = ((y % n8 : Nat) : Int)) := Lib.hid (tmod_small y n8 hy1)
        obtain ⟨bl2, off2, x2, y2, e2, hbl2, hx2, ⟨hx21, hy21⟩, _, _⟩ := (hp.out.below bb.out).at_ hlt
        cases e2
        have hS1e : setM S0 ((x2 % n8 : Nat) : Int) ((y2 % n8 : Nat) : Int) = S1 := by
          rw [hS1, List.take_succ_eq_append_getElem (List.getElem?_eq_some_iff.1 hx2).1, (List.getElem?_eq_some_iff.1 hx2).2, modP_snoc, foldP_add, hS0]
        have hx2n : x2 % n8 < n8 := Nat.mod_lt _ hk0
        have hy2n : y2 % n8 < n8 := Nat.mod_lt _ hk0
        have cSet := Lib.hid (fun W hW => by
          have h := ref3_Set (n8 : Int) A10 n8 d10 S0 ((x2 % n8 : Nat) : Int) ((y2 % n8 : Nat) : Int) W hW rfl (by omega) (fun xs hx => by have := hF2.1.small xs hx; omega) (by unfold inM; simp; omega)
          rw [hS1e] at h
          exact h)
        have hS1l := Lib.hid hF3.1.len
        have hx2k : Hid ((IntKind.i64.wrap (x2 : Int)).tmod (n8 : Int) = ((x2 % n8 : Nat) : Int)) := Lib.hid (tmod_small x2 n8 hx21)
        have hy2k : Hid ((IntKind.i64.wrap (y2 : Int)).tmod (n8 : Int) = ((y2 % n8 : Nat) : Int)) := Lib.hid (tmod_small y2 n8 hy21)
        have hn80 : ¬ n8 = 0 := by omega
        replace hM1 := Lib.hid hM1
        replace hS1 := Lib.hid hS1
        replace hx2 := Lib.hid hx2
        clear hF0 hF1 hF2 hF3 hH0 hH1 hstep hM0 hS0 hcl0 hS1e hxn hyn hx2n hy2n
        have qk80 := k8.out.1.c0
        have qk81 := k8.out.1.c1
        have qk100 := k10.out.1.c0
        have qk101 := k10.out.1.c1
        go_wp2_with fail
        clear c0 c1 hidx qk80 qk81 qk100 qk101
        obtain ⟨Wx, hWx⟩ : ∃ X : World, X = wr.alloc (.cells #[.int .u8 (x : Int), .int .u8 (y : Int)] 50) := ⟨_, rfl⟩
        obtain ⟨G12, hG12⟩ : ∃ G, G = wr.heap.size := ⟨_, rfl⟩
        have b : Below wr.heap.size wr Wx := by rw [hWx]; exact below_alloc _ _
        have kX := Lib.hid (show Blk Wx G12 50 [.int .u8 (x : Int), .int .u8 (y : Int)] by rw [hWx, hG12]; exact Blk.new _ _ _)
        replace k8 := Lib.hid (k8.out.below b)
        replace k10 := Lib.hid (k10.out.below b)
        replace bb := Lib.hid (below_trans2 bb.out b)
        rw [← hWx, ← hG12]
        clear b hWx hG12
        refine wp_region_tree (.flt 0 (.flt 1 (.flt 2 (.flt 3 (.flt 4 (.flt 5 (.flt 6 (.flt 7 (.flt 8 (.flt 9 (.flt 10 (.two 11 15 (.flt 12 (.flt 13 (.flt 14 (.one 15 (.one 16 (.flt 17 .done)))))) (.one 11 (.flt 12 (.flt 13 (.flt 14 (.one 16 (.flt 17 .done)))))))))))))))))) (by kernel_rfl) (by kernel_rfl) (fun W hW => ?_)
        have z8 := Lib.hid (show MatK W G8 24 n8 A8 n8 d8 M0 by rw [hW.out]; exact k8.out.drew)
        have z10 := Lib.hid (show MatK W G10 24 n8 A10 n8 d10 S0 by rw [hW.out]; exact k10.out.drew)
        have zX := Lib.hid (show Blk W G12 50 [.int .u8 (x : Int), .int .u8 (y : Int)] by rw [hW.out]; exact Blk.drew kX.out)
        have bbW := Lib.hid (show Below w.heap.size w W by rw [hW.out]; exact bb.out.drew)
        have bW : Below W.heap.size W W := Below.refl _ _
        clear hW k8 k10 kX bb
        have l8 : G8 < W.heap.size := z8.out.1.lt
        have l10 : G10 < W.heap.size := z10.out.1.lt
        apply cut4 (F := fun (G13 : Nat) (w9 : World) (C' : Option Addr) (cc : Nat) => MatK w9 G8 24 n8 A8 n8 d8 M0 ∧ MatK w9 G10 24 n8 A10 n8 d10 S0 ∧ MatK w9 G13 24 n8 C' n8 cc M1 ∧ Below w.heap.size w w9)
        · intro key
          have qa0 := z8.out.1.c0
          have qa1 := z8.out.1.c1
          have qx0 := Blk.cell zX.out 0
          have qx1 := Blk.cell zX.out 1
          simp only [List.getElem?_cons_zero, List.getElem?_cons_succ] at qx0 qx1
          iterate 11
            refine wpPT_float (v := ?_) rfl (by rfl) (fun w' hw' => ?_) (fun K hK => ?_)
            rotate_left
            · (go_simp; try with_reducible rfl)
            go_simp
            refine hK _ ?_
            clear hK K
          clear qa0 qa1 qx0 qx1
          refine wpPT_two rfl (by rfl) rfl (by rfl) (fun K hK => ?_) (fun K hK => ?_)
          · go_simp
            rw [hxk.out, hyk.out]
            refine (cAdd.out W z8.out.2).mono ?_; rintro e v1 ⟨C', nn, cc, rfl, rC, _, b⟩
            obtain rfl : n8 = nn := by have := rC.len; have := hM1l.out; omega
            replace bW := below_trans2 bW b
            refine hK _ _ bW ?_
            clear hK K
            replace z8 := Lib.hid (z8.out.below b)
            replace z10 := Lib.hid (z10.out.below b)
            replace rC := Lib.hid rC
            clear b
            iterate 3
              refine wpPT_float (v := ?_) rfl (by rfl) (fun w' hw' => ?_) (fun K hK => ?_)
              rotate_left
              · (go_simp; try with_reducible rfl)
              go_simp
              refine hK _ ?_
              clear hK K
            refine wpPT_one rfl (by rfl) (fun K hK => ?_)
            go_simp
            obtain ⟨G13, hG⟩ : ∃ G, G = v1.heap.size := ⟨_, rfl⟩
            obtain ⟨v2, hw⟩ : ∃ X : World, X = v1.alloc (.cells #[.int .i64 0, .slice none 0 0] 24) := ⟨_, rfl⟩
            rw [← hw, ← hG]
            have b : Below v1.heap.size v1 v2 := by rw [hw]; exact below_alloc _ _
            have hW7 : W.heap.size ≤ G13 := by rw [hG]; exact bW.size
            replace bW := below_trans2 bW b
            refine hK _ _ bW ?_
            clear hK K
            have m13 := Lib.hid (show MatB v2 G13 24 0 none 0 0 by rw [hw, hG]; exact MatB.new _ _)
            clear hw hG
            replace z8 := Lib.hid (z8.out.below b)
            replace z10 := Lib.hid (z10.out.below b)
            replace rC := Lib.hid (rC.out.below b)
            clear b
            have f0 := m13.out.c0
            have f1 := m13.out.c1
            have g0 := m13.out.frozen 0
            have g1 := m13.out.frozen 1
            refine wpPT_one rfl (by rfl) (fun K hK => ?_)
            go_simp
            obtain ⟨v9, hw⟩ : ∃ X : World, X = (v2.setCell ⟨G13, 0, none⟩ (.int .i64 n8)).setCell ⟨G13, 1, none⟩ (.slice C' n8 cc) := ⟨_, rfl⟩
            rw [← hw]
            replace bW : Below W.heap.size W v9 := by rw [hw]; exact (bW.setCell (p := ⟨G13, 0, none⟩) (by simpa using hW7) _).setCell (p := ⟨G13, 1, none⟩) (by simpa using hW7) _
            refine hK _ _ bW ?_
            clear hK K f0 f1 g0 g1
            replace z8 := Lib.hid (show MatK v9 G8 24 n8 A8 n8 d8 M0 by rw [hw]; exact MatK.put m13.out z8.out (by omega) (z8.out.2.farM m13.out oneM0.out) _ _)
            replace z10 := Lib.hid (show MatK v9 G10 24 n8 A10 n8 d10 S0 by rw [hw]; exact MatK.put m13.out z10.out (by omega) (z10.out.2.farM m13.out oneS0.out) _ _)
            have n13 := Lib.hid (show MatK v9 G13 24 n8 C' n8 cc M1 by rw [hw]; exact ⟨m13.out.put n8 C' n8 cc, rC.out.putB m13.out (rC.out.farM m13.out oneM1.out) _ _⟩)
            clear hw m13 rC
            iterate 1
              refine wpPT_float (v := ?_) rfl (by rfl) (fun w' hw' => ?_) (fun K hK => ?_)
              rotate_left
              · (go_simp; try with_reducible rfl)
              go_simp
              refine hK _ ?_
              clear hK K
            refine wpPT_done (NoPanic.normal ?_)
            exact key G13 v9 C' cc ⟨z8.out, z10.out, n13.out, below_trans2 bbW.out bW⟩
          · go_simp
            obtain ⟨G13, hG⟩ : ∃ G, G = W.heap.size := ⟨_, rfl⟩
            obtain ⟨v1, hw⟩ : ∃ X : World, X = W.alloc (.cells #[.int .i64 0, .slice none 0 0] 24) := ⟨_, rfl⟩
            rw [← hw, ← hG]
            have b : Below W.heap.size W v1 := by rw [hw]; exact below_alloc _ _
            have hW7 : W.heap.size ≤ G13 := by rw [hG]; exact bW.size
            replace bW := below_trans2 bW b
            refine hK _ _ bW ?_
            clear hK K
            have m13 := Lib.hid (show MatB v1 G13 24 0 none 0 0 by rw [hw, hG]; exact MatB.new _ _)
            clear hw hG
            replace z8 := Lib.hid (z8.out.below b)
            replace z10 := Lib.hid (z10.out.below b)
            clear b
            refine wpPT_one rfl (by rfl) (fun K hK => ?_)
            go_simp
            rw [hxk.out, hyk.out]
            refine (cAdd.out v1 z8.out.2).mono ?_; rintro e v2 ⟨C', nn, cc, rfl, rC, _, b⟩
            obtain rfl : n8 = nn := by have := rC.len; have := hM1l.out; omega
            replace bW := below_trans2 bW b
            refine hK _ _ bW ?_
            clear hK K
            replace z8 := Lib.hid (z8.out.below b)
            replace z10 := Lib.hid (z10.out.below b)
            replace rC := Lib.hid rC
            replace m13 := Lib.hid (m13.out.below b)
            clear b
            iterate 3
              refine wpPT_float (v := ?_) rfl (by rfl) (fun w' hw' => ?_) (fun K hK => ?_)
              rotate_left
              · (go_simp; try with_reducible rfl)
              go_simp
              refine hK _ ?_
              clear hK K
            have f0 := m13.out.c0
            have f1 := m13.out.c1
            have g0 := m13.out.frozen 0
            have g1 := m13.out.frozen 1
            refine wpPT_one rfl (by rfl) (fun K hK => ?_)
            go_simp
            obtain ⟨v9, hw⟩ : ∃ X : World, X = (v2.setCell ⟨G13, 0, none⟩ (.int .i64 n8)).setCell ⟨G13, 1, none⟩ (.slice C' n8 cc) := ⟨_, rfl⟩
            rw [← hw]
            replace bW : Below W.heap.size W v9 := by rw [hw]; exact (bW.setCell (p := ⟨G13, 0, none⟩) (by simpa using hW7) _).setCell (p := ⟨G13, 1, none⟩) (by simpa using hW7) _
            refine hK _ _ bW ?_
            clear hK K f0 f1 g0 g1
            replace z8 := Lib.hid (show MatK v9 G8 24 n8 A8 n8 d8 M0 by rw [hw]; exact MatK.put m13.out z8.out (by omega) (z8.out.2.farM m13.out oneM0.out) _ _)
            replace z10 := Lib.hid (show MatK v9 G10 24 n8 A10 n8 d10 S0 by rw [hw]; exact MatK.put m13.out z10.out (by omega) (z10.out.2.farM m13.out oneS0.out) _ _)
            have n13 := Lib.hid (show MatK v9 G13 24 n8 C' n8 cc M1 by rw [hw]; exact ⟨m13.out.put n8 C' n8 cc, rC.out.putB m13.out (rC.out.farM m13.out oneM1.out) _ _⟩)
            clear hw m13 rC
            iterate 1
              refine wpPT_float (v := ?_) rfl (by rfl) (fun w' hw' => ?_) (fun K hK => ?_)
              rotate_left
              · (go_simp; try with_reducible rfl)
              go_simp
              refine hK _ ?_
              clear hK K
            refine wpPT_done (NoPanic.normal ?_)
            exact key G13 v9 C' cc ⟨z8.out, z10.out, n13.out, below_trans2 bbW.out bW⟩
        · intro G13 w9 C' cc hk'
          have k8 := Lib.hid hk'.1
          have k10 := Lib.hid hk'.2.1
          have k13 := Lib.hid hk'.2.2.1
          have bb := Lib.hid hk'.2.2.2
          clear hk' l8 l10 z8 z10 zX bbW bW cAdd oneM0 oneM1 oneS0 hxk hyk hM1l
          have qk80 := k8.out.1.c0
          have qk81 := k8.out.1.c1
          have qk130 := k13.out.1.c0
          have qk131 := k13.out.1.c1
          have f0 := k8.out.1.frozen 0
          have f1 := k8.out.1.frozen 1
          go_wp2_with fail
          clear f0 f1 qk80 qk81 qk130 qk131
          obtain ⟨Wy, hWy⟩ : ∃ X : World, X = (w9.setCell ⟨G8, 0, none⟩ (.int .i64 n8)).setCell ⟨G8, 1, none⟩ (.slice C' n8 cc) := ⟨_, rfl⟩
          rw [← hWy]
          have k8' := Lib.hid (show MatK Wy G8 24 n8 C' n8 cc M1 by rw [hWy]; exact ⟨k8.out.1.put n8 C' n8 cc, k13.out.2.putB k8.out.1 (k13.out.2.farK k8.out hk0) _ _⟩)
          have k10' := Lib.hid (show MatK Wy G10 24 n8 A10 n8 d10 S0 by rw [hWy]; exact MatK.put2 k8.out.1 k10.out (by omega) (k10.out.2.farK k8.out hk0) _ _)
          replace bb := Lib.hid (show Below w.heap.size w Wy by rw [hWy]; exact (bb.out.setCell (p := ⟨G8, 0, none⟩) hw8 _).setCell (p := ⟨G8, 1, none⟩) hw8 _)
          clear hWy k8 k10 k13
          obtain ⟨bl3, off3, x3, y3, e3, hbl3, hx3, _, c0, c1⟩ := (hp.out.below bb.out).at_ hlt
          cases e3
          rw [hx2.out] at hx3
          cases hx3
          refine wp_region_planT 19 [(true, 0), (true, 1), (true, 2), (true, 3), (true, 4), (true, 5), (true, 6), (true, 7), (true, 8), (true, 9), (true, 10), (true, 11), (true, 12), (true, 13), (true, 14), (true, 15), (true, 16), (false, 17), (true, 18)] 21 [19, 20] (by kernel_rfl) (by kernel_rfl) (fun W1 hW1 => ?_)
          have k8 := Lib.hid (show MatK W1 G8 24 n8 C' n8 cc M1 by rw [hW1.out]; exact k8'.out.drew)
          have k10 := Lib.hid (show MatK W1 G10 24 n8 A10 n8 d10 S0 by rw [hW1.out]; exact k10'.out.drew)
          replace bb := Lib.hid (show Below w.heap.size w W1 by rw [hW1.out]; exact bb.out.drew)
          replace c0 : W1.cell? ⟨bl, off + q * 2, none⟩ = some (.int .u8 (x2 : Int)) := by rw [hW1.out]; exact c0
          replace c1 : W1.cell? ⟨bl, off + q * 2 + 1, none⟩ = some (.int .u8 (y2 : Int)) := by rw [hW1.out]; exact c1
          clear hW1 k8' k10'
          simp only [List.drop_succ_cons, List.drop_zero]
          have qk100 := k10.out.1.c0
          have qk101 := k10.out.1.c1
          iterate 17
            refine wpPlanE_float (v := ?_) rfl (by rfl) (fun w' hw' => ?_) (fun K hK => ?_)
            rotate_left
            · (go_simp; try with_reducible rfl)
            go_simp
            refine hK _ ?_
            clear hK K
          rw [hx2k.out, hy2k.out]
          clear c0 c1 qk100 qk101
          refine wpPlanE_only rfl (by rfl) (fun K hK => ?_)
          go_simp
          refine (cSet.out W1 k10.out.2).mono ?_
          rintro e w11 ⟨D, nn, dd, rfl, rD, _, b⟩
          obtain rfl : n8 = nn := by have := rD.len; have := hS1l.out; omega
          refine hK _ _ b ?_
          clear hK K
          replace k8 := Lib.hid (k8.out.below b)
          replace k10 := Lib.hid (k10.out.below b)
          replace bb := Lib.hid (below_trans2 bb.out b)
          replace rD := Lib.hid rD
          clear b
          iterate 1
            refine wpPlanE_float (v := ?_) rfl (by rfl) (fun w' hw' => ?_) (fun K hK => ?_)
            rotate_left
            · (go_simp; try with_reducible rfl)
            go_simp
            refine hK _ ?_
            clear hK K
          refine wpPlanE_nil ?_
          iterate 2
            refine wpPlanT_float (v := ?_) rfl (by rfl) (fun w' => ?_) (fun K hK => ?_)
            rotate_left
            · (go_simp; try with_reducible rfl)
            go_simp
            refine hK _ ?_
            clear hK K
          refine wpPlanT_nil ?_
          have qk100 := k10.out.1.c0
          have qk101 := k10.out.1.c1
          have f0 := k10.out.1.frozen 0
          have f1 := k10.out.1.frozen 1
          go_wp2_with fail
          refine NoPanic.normal ?_
          clear f0 f1 qk100 qk101
          obtain ⟨Wz, hWz⟩ : ∃ X : World, X = (w11.setCell ⟨G10, 0, none⟩ (.int .i64 n8)).setCell ⟨G10, 1, none⟩ (.slice D n8 dd) := ⟨_, rfl⟩
          rw [← hWz]
          have k8' := Lib.hid (show MatK Wz G8 24 n8 C' n8 cc M1 by rw [hWz]; exact MatK.put2 k10.out.1 k8.out (by omega) (k8.out.2.farK k10.out hk0) _ _)
          have k10' := Lib.hid (show MatK Wz G10 24 n8 D n8 dd S1 by rw [hWz]; exact ⟨k10.out.1.put n8 D n8 dd, rD.out.putB k10.out.1 (rD.out.farK k10.out hk0) _ _⟩)
          replace bb := Lib.hid (show Below w.heap.size w Wz by rw [hWz]; exact (bb.out.setCell (p := ⟨G10, 0, none⟩) (by simp <;> omega) _).setCell (p := ⟨G10, 1, none⟩) (by simp <;> omega) _)
          rw [hM1.out] at k8'
          rw [hS1.out] at k10'
          clear hWz k8 k10 rD
          go_wp2_with fail
          go_roundw
          case rel => exact ⟨q + 1, C', cc, D, dd, by omega, by go_num, k8', k10', bb⟩
          case measure => simp [intOf]; omega
      · obtain rfl : q = m := by omega
        have hF := foldP_facts (n := n8) (by omega) _ (modP_ok hk0 ps)
        have hH := closeK_hull hF.1
        have hr1 := fold_rot hk0 (by omega) ps t
        rw [hlen.out] at hr1
        rw [hr1] at k8
        rw [List.take_of_length_le (by rw [hlen.out]; exact Nat.le_refl _)] at k10
        obtain ⟨S0, hS0⟩ : ∃ X, X = foldP n8 (modP n8 ps) := ⟨_, rfl⟩
        rw [← hS0] at hF hH k8 k10
        have cC := Lib.hid (fun W hW => hull_Close A10 n8 d10 S0 W hW hF.1)
        have hcl := Lib.hid hH.1.len
        have s64 : ∀ (k : Nat) (xs : List Nat), (closeK S0 n8)[k]? = some xs → xs.length ≤ 1073741824 := fun k xs hx => by have := hH.1.small xs (List.mem_of_getElem? hx); omega
        have cQ := Lib.hid (fun C D x y W hW hV => by
          have h := ref3_Equal (n8 : Int) (n8 : Int) C D n8 n8 x y (closeK S0 n8) (closeK S0 n8) W hW hV (by omega) (by omega) s64 s64
          rw [equalM_self'] at h
          exact h)
        clear hF hH hr1 s64 hS0
        have qk80 := k8.out.1.c0
        have qk81 := k8.out.1.c1
        have qk100 := k10.out.1.c0
        have qk101 := k10.out.1.c1
        go_wp2_with fail
        refine wp_region_plan 8 [(false, 0), (true, 1), (true, 2), (true, 3), (false, 4), (false, 5), (true, 6), (true, 7)] (by kernel_rfl) (by kernel_rfl) (fun W1 hW1 => ?_)
        replace k8 := Lib.hid (show MatK W1 G8 24 n8 A8 n8 d8 (closeK S0 n8) by rw [hW1.out]; exact k8.out.drew)
        replace k10 := Lib.hid (show MatK W1 G10 24 n8 A10 n8 d10 S0 by rw [hW1.out]; exact k10.out.drew)
        replace bb := Lib.hid (show Below w.heap.size w W1 by rw [hW1.out]; exact bb.out.drew)
        clear hW1 qk80 qk81 qk100 qk101
        simp only [List.drop_succ_cons, List.drop_nil]
        have qk80 := k8.out.1.c0
        have qk81 := k8.out.1.c1
        have qk100 := k10.out.1.c0
        have qk101 := k10.out.1.c1
        refine wpPlan_only rfl (by rfl) (fun K hK => ?_)
        go_simp
        refine (law4_awake W1).mono ?_
        rintro e w12 ⟨rfl, b⟩
        refine hK _ _ b ?_
        clear hK K
        replace k8 := Lib.hid (k8.out.below b)
        replace qk80 := k8.out.1.c0
        replace qk81 := k8.out.1.c1
        replace k10 := Lib.hid (k10.out.below b)
        replace qk100 := k10.out.1.c0
        replace qk101 := k10.out.1.c1
        replace bb := Lib.hid (below_trans2 bb.out b)
        clear b
        iterate 3
          refine wpPlan_float (v := ?_) rfl (by rfl) (fun w' hw' => ?_) (fun K hK => ?_)
          rotate_left
          · (go_simp; try with_reducible rfl)
          go_simp
          refine hK _ ?_
          clear hK K
        refine wpPlan_only rfl (by rfl) (fun K hK => ?_)
        go_simp
        refine (cC.out w12 k10.out.2).mono ?_
        rintro e w13 ⟨D, nn, dd, rfl, rD, _, b⟩
        obtain rfl : n8 = nn := by have := rD.len; have := hcl.out; omega
        refine hK _ _ b ?_
        clear hK K
        replace k8 := Lib.hid (k8.out.below b)
        replace qk80 := k8.out.1.c0
        replace qk81 := k8.out.1.c1
        replace k10 := Lib.hid (k10.out.below b)
        replace qk100 := k10.out.1.c0
        replace qk101 := k10.out.1.c1
        replace bb := Lib.hid (below_trans2 bb.out b)
        clear b
        have hqq := Lib.hid (cQ.out A8 D d8 dd w13 k8.out.2 rD)
        clear rD
        refine wpPlan_only rfl (by rfl) (fun K hK => ?_)
        go_simp
        refine (hqq.out).mono ?_
        rintro e w14 ⟨rfl, b⟩
        refine hK _ _ b ?_
        clear hK K
        replace bb := Lib.hid (below_trans2 bb.out b)
        clear b
        clear hqq
        iterate 2
          refine wpPlan_float (v := ?_) rfl (by rfl) (fun w' hw' => ?_) (fun K hK => ?_)
          rotate_left
          · (go_simp; try with_reducible rfl)
          go_simp
          refine hK _ ?_
          clear hK K
        refine wpPlan_nil (NoPanic.normal ?_)
        go_wp2_with fail
        go_ret
        exact ⟨rfl, bb.out⟩

end Go.Proofs.Ytkikoniihmieiaa
