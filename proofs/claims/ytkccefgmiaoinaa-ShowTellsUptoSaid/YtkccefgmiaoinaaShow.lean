/- The code's own contracts of layer 8 at b4a35148: put, op, line, Op, Text. -/
import Derived.Test.YtkccefgmiaoinaaShowRef
import Derived.Test.YtkccefgmiaoinaaBld
import Derived.Test.YtkccefgmiaoinaaHist
import Derived.Test.YtkccefgmiaoinaaNumPutC
namespace Go.Proofs.Ytkccefgmiaoinaa
open Go.RowKit
set_option linter.unusedVariables false

/-- words, one behind the other -/
def catB (ws : List ByteArray) : List UInt8 := ws.flatMap fun s => s.data.toList
theorem catB_snoc (ws : List ByteArray) (s : ByteArray) : catB (ws ++ [s]) = catB ws ++ s.data.toList := by simp [catB]
theorem catB_take_le (ws : List ByteArray) (k : Nat) : (catB (ws.take k)).length ≤ (catB ws).length := by
  have h : catB ws = catB (ws.take k) ++ catB (ws.drop k) := by unfold catB; rw [← List.flatMap_append, List.take_append_drop]
  rw [h, List.length_append]; omega
set_option maxRecDepth 100000 in
set_option maxHeartbeats 1000000 in
theorem text_put (w0 : World) (b g n : Nat) (l : List UInt8) (ws : List ByteArray) (w : World) (h : BdS w0 w b l) (hW : Blk w g 9 (ws.map .string)) (hgb : g ≠ b) (hn : ws.length = n) (hn1 : n ≤ 1000) (hlen : l.length + (catB ws).length ≤ 140737488355328) :
    Calls Try.prog 26 #[.pointer (some ⟨b, 0, none⟩), .slice (some ⟨g, 0, none⟩) n n] w fun e w' => e = .returned (.tuple #[]) ∧ Wr w0 b (l ++ catB ws) w w' := by
  have hh := Lib.hid (show Wr w0 b (l ++ catB (ws.take 0)) w w from by simpa [catB] using h.here)
  replace hW := Lib.hid hW
  replace hn := Lib.hid hn
  go_enter Try.func26, Try.ntmps26
  go_wp2_with fail
  go_loopw [8] (fun i wr => ∃ k : Nat, k ≤ n ∧ i = .int .i64 k ∧ Hid (Wr w0 b (l ++ catB (ws.take k)) w wr)) (fun i _ => n - (intOf i).toNat)
  case atStart => exact ⟨0, Nat.zero_le _, rfl, hh⟩
  case round =>
    obtain ⟨k, hk, rfl, hr⟩ := hrel
    by_cases hlt : k < n
    · have hlt' : (k : Int) < (n : Int) := by omega
      obtain ⟨s, hs⟩ : ∃ s, ws[k]? = some s := ⟨_, List.getElem?_eq_getElem (by rw [hn.out]; exact hlt)⟩
      have hc := (hr.out.blk hW.out (by decide) hgb).cell k
      rw [List.getElem?_map, hs] at hc
      simp only [Option.map_some] at hc
      have ht : catB (ws.take (k + 1)) = catB (ws.take k) ++ s.data.toList := by
        have h1 := List.take_succ_eq_append_getElem (List.getElem?_eq_some_iff.1 hs).1
        rw [(List.getElem?_eq_some_iff.1 hs).2] at h1
        rw [h1, catB_snoc]
      have hle := catB_take_le ws (k + 1)
      rw [ht, List.length_append] at hle
      have hss : s.data.toList.length = s.size := Array.length_toList
      have cW := Lib.hid (bd_write w0 b (l ++ catB (ws.take k)) s wr hr.out.bd (by rw [List.length_append]; omega))
      rw [List.append_assoc, ← ht] at cW
      clear hle hss ht hlt hs
      go_wp2_with fail
      refine cW.out.mono ?_; rintro e w2 ⟨rfl, h2⟩
      replace h2 := Lib.hid (hr.out.trans h2)
      go_wp2_with fail
      exact ⟨⟨k + 1, by omega, by go_num, h2⟩, by simp [intOf]; omega⟩
    · have hkn : ¬ (k : Int) < (n : Int) := by omega
      have he : ws.take k = ws := List.take_of_length_le (by rw [hn.out]; omega)
      rw [he] at hr
      clear hlt he
      go_wp2_with fail
      go_end0
      exact ⟨rfl, hr.out⟩
set_option maxRecDepth 100000 in
set_option maxHeartbeats 1000000 in
theorem text_op (w0 : World) (b : Nat) (l : List UInt8) (o : OpT) (w : World) (h : BdS w0 w b l) (h0 : -9223372036854775808 ≤ o.2.2) (h1 : o.2.2 < 9223372036854775808) (hlen : l.length + (showO o).length ≤ 140737488355328) :
    Calls Try.prog 20 #[.pointer (some ⟨b, 0, none⟩), .agg #[.bool o.1, .string o.2.1, .int .i64 o.2.2]] w fun e w' => e = .returned (.tuple #[]) ∧ Wr w0 b (l ++ showO o) w w' := by
  obtain ⟨wr, nm, z⟩ := o
  simp only at h0 h1
  obtain ⟨g, hg⟩ : ∃ g, g = w.heap.size := ⟨_, rfl⟩
  obtain ⟨W, hW⟩ : ∃ W, W = w.alloc (.cells #[.bool wr, .string nm, .int .i64 z] 24) := ⟨_, rfl⟩
  have bb := Lib.hid (show Below w.heap.size w W from by rw [hW]; exact (Below.refl _ w).alloc (Nat.le_refl _) _)
  have hr : Blk W g 24 [.bool wr, .string nm, .int .i64 z] := by rw [hW, hg]; exact Blk.new w _ _
  have q0 := hr.cell 0
  have cP := Lib.hid (fun (X : World) => num_Put z X h0 h1)
  replace h := Lib.hid h
  replace hlen := Lib.hid hlen
  have hgb : b < g := by rw [hg]; exact h.out.lt
  cases wr
  · go_enter Try.func20, Try.ntmps20
    go_wp2_with (rw [← hW, ← hg]; clear hW; replace hg := Lib.hid hg)
    refine wp_region_plan 8 [(true, 0), (true, 1), (true, 2), (true, 3), (true, 4), (true, 5), (false, 6), (false, 7)] (by kernel_rfl) (by kernel_rfl) (fun X hX => ?_)
    obtain rfl := hX.out
    clear hX
    have c1 : W.drew.cell? ⟨g, 1, none⟩ = _ := hr.cell 1
    have c2 : W.drew.cell? ⟨g, 2, none⟩ = _ := hr.cell 2
    have cQ := Lib.hid (cP.out W.drew)
    simp only [List.drop_succ_cons, List.drop_zero]
    iterate 6
      refine wpPlan_float (v := ?_) rfl (by rfl) (fun w' hw' => ?_) (fun K hK => ?_)
      rotate_left
      · (go_simp; try with_reducible rfl)
      go_simp
      refine hK _ ?_
      clear hK K
    refine wpPlan_only rfl (by rfl) (fun K hK => ?_)
    go_simp
    refine cQ.out.mono ?_
    rintro e w3 ⟨rfl, b3⟩
    refine hK _ _ b3 ?_
    clear hK K
    have hb3 := Lib.hid (below_trans2 bb.out.drew b3)
    refine wpPlan_only rfl (by rfl) (fun K hK => ?_)
    go_simp
    obtain ⟨ws, hws⟩ : ∃ ws : List ByteArray, ws = [⟨#[114]⟩, ⟨#[58]⟩, nm, ⟨#[61]⟩, ⟨(putL z).toArray⟩] := ⟨_, rfl⟩
    have hcat : catB ws = showO (false, nm, z) := by rw [hws]; simp [catB, showO]
    obtain ⟨W4, hW4⟩ : ∃ W4, W4 = w3.alloc (.cells #[.string ⟨#[114]⟩, .string ⟨#[58]⟩, .string nm, .string ⟨#[61]⟩, .string ⟨(putL z).toArray⟩] 9) := ⟨_, rfl⟩
    have ba := show Below w3.heap.size w3 W4 from by rw [hW4]; exact (Below.refl _ w3).alloc (Nat.le_refl _) _
    have b4 := Lib.hid (below_trans2 hb3.out ba)
    rw [← hW4]
    refine hK _ _ ba ?_
    clear hK K ba
    have hB4 : Blk W4 w3.heap.size 9 (ws.map .string) := by rw [hW4, hws]; exact Blk.new w3 _ _
    have hlb := h.out.lt
    have hs3 := hb3.out.size
    have cT := Lib.hid (text_put w0 b w3.heap.size 5 l ws W4 (h.out.later b4.out) hB4 (by omega) (by rw [hws]; rfl) (by omega) (by rw [hcat]; exact hlen.out))
    rw [hcat] at cT
    clear hcat hws hB4 hlb hs3 hW4
    refine wpPlan_nil ?_
    go_wp2_with fail
    refine cT.out.mono ?_; rintro e w5 ⟨rfl, h5⟩
    go_wp2_with fail
    refine NoPanic.normal ?_
    go_end0
    exact ⟨rfl, h5.after b4.out⟩
  · go_enter Try.func20, Try.ntmps20
    go_wp2_with (rw [← hW, ← hg]; clear hW; replace hg := Lib.hid hg)
    refine wp_region_plan 8 [(true, 0), (true, 1), (true, 2), (true, 3), (true, 4), (true, 5), (false, 6), (false, 7)] (by kernel_rfl) (by kernel_rfl) (fun X hX => ?_)
    obtain rfl := hX.out
    clear hX
    have c1 : W.drew.cell? ⟨g, 1, none⟩ = _ := hr.cell 1
    have c2 : W.drew.cell? ⟨g, 2, none⟩ = _ := hr.cell 2
    have cQ := Lib.hid (cP.out W.drew)
    simp only [List.drop_succ_cons, List.drop_zero]
    iterate 6
      refine wpPlan_float (v := ?_) rfl (by rfl) (fun w' hw' => ?_) (fun K hK => ?_)
      rotate_left
      · (go_simp; try with_reducible rfl)
      go_simp
      refine hK _ ?_
      clear hK K
    refine wpPlan_only rfl (by rfl) (fun K hK => ?_)
    go_simp
    refine cQ.out.mono ?_
    rintro e w3 ⟨rfl, b3⟩
    refine hK _ _ b3 ?_
    clear hK K
    have hb3 := Lib.hid (below_trans2 bb.out.drew b3)
    refine wpPlan_only rfl (by rfl) (fun K hK => ?_)
    go_simp
    obtain ⟨ws, hws⟩ : ∃ ws : List ByteArray, ws = [⟨#[119]⟩, ⟨#[58]⟩, nm, ⟨#[61]⟩, ⟨(putL z).toArray⟩] := ⟨_, rfl⟩
    have hcat : catB ws = showO (true, nm, z) := by rw [hws]; simp [catB, showO]
    obtain ⟨W4, hW4⟩ : ∃ W4, W4 = w3.alloc (.cells #[.string ⟨#[119]⟩, .string ⟨#[58]⟩, .string nm, .string ⟨#[61]⟩, .string ⟨(putL z).toArray⟩] 9) := ⟨_, rfl⟩
    have ba := show Below w3.heap.size w3 W4 from by rw [hW4]; exact (Below.refl _ w3).alloc (Nat.le_refl _) _
    have b4 := Lib.hid (below_trans2 hb3.out ba)
    rw [← hW4]
    refine hK _ _ ba ?_
    clear hK K ba
    have hB4 : Blk W4 w3.heap.size 9 (ws.map .string) := by rw [hW4, hws]; exact Blk.new w3 _ _
    have hlb := h.out.lt
    have hs3 := hb3.out.size
    have cT := Lib.hid (text_put w0 b w3.heap.size 5 l ws W4 (h.out.later b4.out) hB4 (by omega) (by rw [hws]; rfl) (by omega) (by rw [hcat]; exact hlen.out))
    rw [hcat] at cT
    clear hcat hws hB4 hlb hs3 hW4
    refine wpPlan_nil ?_
    go_wp2_with fail
    refine cT.out.mono ?_; rintro e w5 ⟨rfl, h5⟩
    go_wp2_with fail
    refine NoPanic.normal ?_
    go_end0
    exact ⟨rfl, h5.after b4.out⟩
set_option maxRecDepth 100000 in
set_option maxHeartbeats 1000000 in
theorem text_line (w0 : World) (b : Nat) (l : List UInt8) (A : Option Addr) (n c : Nat) (os : List OpT) (w : World) (h : BdS w0 w b l) (hX : OpsAt w0 A n os) (hn : n ≤ 1099511627776) (ht : ∀ o ∈ os, (showO o).length ≤ 49) (hlen : l.length + 50 * n ≤ 140737488355000) :
    Calls Try.prog 18 #[.pointer (some ⟨b, 0, none⟩), .slice A n c] w fun e w' => e = .returned (.tuple #[]) ∧ Wr w0 b (l ++ (showS os ++ [10])) w w' := by
  have hol := Lib.hid hX.len
  have hst := Lib.hid (show Wr w0 b (l ++ showS (os.take 0)) w w from by simpa [showS] using h.here)
  replace hX := Lib.hid hX
  replace ht := Lib.hid ht
  replace hlen := Lib.hid hlen
  clear h
  go_enter Try.func18, Try.ntmps18
  go_wp2_with fail
  go_loopw [8] (fun i wr => ∃ k : Nat, k ≤ n ∧ i = .int .i64 k ∧ Hid (Wr w0 b (l ++ showS (os.take k)) w wr)) (fun i _ => n - (intOf i).toNat)
  case atStart => exact ⟨0, Nat.zero_le _, rfl, hst⟩
  case round =>
    obtain ⟨k, hk, rfl, hr⟩ := hrel
    have hsz : (l ++ showS (os.take k)).length ≤ l.length + 50 * k := by
      have h1 := showS_le (os.take k) (fun o ho => ht.out o (List.mem_of_mem_take ho))
      have h2 := List.length_take_le k os
      rw [List.length_append]; omega
    have hh := hlen.out
    by_cases hlt : k < n
    · have hlt' : (k : Int) < (n : Int) := by omega
      obtain ⟨b2, off2, o, rfl, hb2, ho, hok, x0, x1, x2⟩ := (hX.out.below hr.out.bd.bel).at_ hlt
      have hom := List.mem_of_getElem? ho
      have hto := ht.out o hom
      have htk : os.take (k + 1) = os.take k ++ [o] := by
        have h1 := List.take_succ_eq_append_getElem (List.getElem?_eq_some_iff.1 ho).1
        rw [(List.getElem?_eq_some_iff.1 ho).2] at h1; exact h1
      obtain ⟨g, hg⟩ : ∃ g, g = wr.heap.size := ⟨_, rfl⟩
      obtain ⟨W1, hW1⟩ : ∃ W1, W1 = wr.alloc (.cells #[.bool o.1, .string o.2.1, .int .i64 o.2.2] 24) := ⟨_, rfl⟩
      have b1 := Lib.hid (show Below wr.heap.size wr W1 from by rw [hW1]; exact (Below.refl _ wr).alloc (Nat.le_refl _) _)
      have hB1 : Blk W1 g 24 [.bool o.1, .string o.2.1, .int .i64 o.2.2] := by rw [hW1, hg]; exact Blk.new wr _ _
      have hbg : b < g := by rw [hg]; exact hr.out.bd.lt
      have hWr1 := Lib.hid (show Wr w0 b (l ++ showS (os.take k)) w W1 from hr.out.trans ((hr.out.bd.later b1.out).here.after b1.out))
      have q0 := hB1.cell 0
      have q1 := hB1.cell 1
      have q2 := hB1.cell 2
      by_cases hk0 : k = 0
      · subst hk0
        simp only [Nat.zero_mul, Nat.add_zero] at x0 x1 x2
        have hnext : l ++ showS (os.take 0) ++ showO o = l ++ showS (os.take 1) := by rw [htk]; simp [showS, showR]
        have cO := Lib.hid (text_op w0 b (l ++ showS (os.take 0)) o W1 hWr1.out.bd hok.1.1 hok.1.2 (by omega))
        rw [hnext] at cO
        clear htk hnext hsz hto hom ho hok hh hB1
        go_wp2_with (rw [← hW1, ← hg]; clear hW1; replace hg := Lib.hid hg)
        refine cO.out.mono ?_; rintro e w3 ⟨rfl, h3⟩
        replace h3 := Lib.hid (hWr1.out.trans h3)
        go_wp2_with fail
        exact ⟨⟨1, by omega, by go_num, h3⟩, by simp [intOf]; omega⟩
      · have hk1 : (0 : Int) < (k : Int) := by omega
        have hk2 : 0 < k := by omega
        have hnext : l ++ showS (os.take k) ++ [32] ++ showO o = l ++ showS (os.take (k + 1)) := by
          have hne : os.take k ≠ [] := by intro h; have := congrArg List.length h; rw [List.length_take, hol.out] at this; simp at this; omega
          rw [htk, showS_snoc hne]; simp
        obtain ⟨W2, hW2⟩ : ∃ W2, W2 = W1.alloc (.cells #[.string ⟨#[32]⟩] 9) := ⟨_, rfl⟩
        have b2' := Lib.hid (show Below W1.heap.size W1 W2 from by rw [hW2]; exact (Below.refl _ W1).alloc (Nat.le_refl _) _)
        have hB2 : Blk W2 W1.heap.size 9 (([⟨#[32]⟩] : List ByteArray).map .string) := by rw [hW2]; exact Blk.new W1 _ _
        have hlb := hWr1.out.bd.lt
        have hca : catB [⟨#[32]⟩] = [32] := rfl
        have cT := Lib.hid (text_put w0 b W1.heap.size 1 (l ++ showS (os.take k)) [⟨#[32]⟩] W2 (hWr1.out.bd.later b2'.out) hB2 (by omega) rfl (by omega) (by rw [hca]; simp only [List.length_cons, List.length_nil]; omega))
        rw [hca] at cT
        replace hB1 := Lib.hid hB1
        have hsz1 : ((l ++ showS (os.take k)) ++ [32]).length ≤ l.length + 50 * k + 1 := by rw [List.length_append]; simp only [List.length_cons, List.length_nil]; omega
        clear htk hsz hom ho hB2 hlb hca hk0
        go_wp2_with (rw [← hW1, ← hg]; clear hW1; replace hg := Lib.hid hg)
        rw [← hW2]
        clear hW2
        refine cT.out.mono ?_; rintro e w3 ⟨rfl, h3⟩
        have hB3 := h3.blk (show Blk W2 g 24 [.bool o.1, .string o.2.1, .int .i64 o.2.2] from hB1.out.below b2'.out hB1.out.lt) (by decide) (by omega)
        replace h3 := Lib.hid (hWr1.out.trans (h3.after b2'.out))
        clear q0 q1 q2
        have q0 := hB3.cell 0
        have q1 := hB3.cell 1
        have q2 := hB3.cell 2
        have cO := Lib.hid (text_op w0 b (l ++ showS (os.take k) ++ [32]) o w3 h3.out.bd hok.1.1 hok.1.2 (by omega))
        rw [hnext] at cO
        clear hnext hto hok hh hB3
        go_wp2_with fail
        refine cO.out.mono ?_; rintro e w4 ⟨rfl, h4⟩
        replace h4 := Lib.hid (h3.out.trans h4)
        go_wp2_with fail
        exact ⟨⟨k + 1, by omega, by go_num, h4⟩, by simp [intOf]; omega⟩
    · have hkn : ¬ (k : Int) < (n : Int) := by omega
      have he : os.take k = os := List.take_of_length_le (by rw [hol.out]; omega)
      rw [he] at hr hsz
      obtain ⟨W2, hW2⟩ : ∃ W2, W2 = wr.alloc (.cells #[.string ⟨#[10]⟩] 9) := ⟨_, rfl⟩
      have b2' := Lib.hid (show Below wr.heap.size wr W2 from by rw [hW2]; exact (Below.refl _ wr).alloc (Nat.le_refl _) _)
      have hB2 : Blk W2 wr.heap.size 9 (([⟨#[10]⟩] : List ByteArray).map .string) := by rw [hW2]; exact Blk.new wr _ _
      have hlb := hr.out.bd.lt
      have hca : catB [⟨#[10]⟩] = [10] := rfl
      have cT := Lib.hid (text_put w0 b wr.heap.size 1 (l ++ showS os) [⟨#[10]⟩] W2 (hr.out.bd.later b2'.out) hB2 (by omega) rfl (by omega) (by rw [hca]; simp only [List.length_cons, List.length_nil]; omega))
      rw [hca, List.append_assoc] at cT
      clear hlt he hB2 hlb hca hsz hh
      go_wp2_with fail
      rw [← hW2]
      clear hW2
      refine cT.out.mono ?_; rintro e w3 ⟨rfl, h3⟩
      replace h3 := Lib.hid (hr.out.trans (h3.after b2'.out))
      go_wp2_with fail
      go_end0
      exact ⟨rfl, h3.out⟩
set_option maxRecDepth 100000 in
set_option maxHeartbeats 1000000 in
theorem show_Op (o : OpT) (w : World) (h0 : -9223372036854775808 ≤ o.2.2) (h1 : o.2.2 < 9223372036854775808) (hn : o.2.1.size ≤ 1000) :
    Calls Try.prog 10 #[.agg #[.bool o.1, .string o.2.1, .int .i64 o.2.2]] w (RetStr (bytesL (showO o)) w) := by
  obtain ⟨W, hW⟩ : ∃ W, W = w.alloc (.cells #[.bool o.1, .string o.2.1, .int .i64 o.2.2] 24) := ⟨_, rfl⟩
  have bb := Lib.hid (show Below w.heap.size w W from by rw [hW]; exact (Below.refl _ w).alloc (Nat.le_refl _) _)
  have hr : Blk W w.heap.size 24 [.bool o.1, .string o.2.1, .int .i64 o.2.2] := by rw [hW]; exact Blk.new w _ _
  obtain ⟨V, hV⟩ : ∃ V, V = W.alloc (.cells #[.pointer none, .slice none 0 0] 45) := ⟨_, rfl⟩
  have hd := Lib.hid (show BdS W V W.heap.size [] from by rw [hV]; exact BdS.new W)
  have hr' := hr.below hd.out.bel hr.lt
  have q0 := hr'.cell 0
  have q1 := hr'.cell 1
  have q2 := hr'.cell 2
  have hl : (showO o).length ≤ 2000 := by
    have h2 := putL_len h0 h1
    have h3 : o.2.1.data.toList.length = o.2.1.size := Array.length_toList
    rw [showO_len, h3]; omega
  have cO := Lib.hid (text_op W W.heap.size [] o V hd.out h0 h1 (by simp only [List.length_nil]; omega))
  rw [List.nil_append] at cO
  clear hr hr' hl
  go_enter Try.func10, Try.ntmps10
  go_wp2_with (first | (rw [← hW]; clear hW) | (rw [← hV]; clear hV))
  refine cO.out.mono ?_; rintro e w3 ⟨rfl, h3⟩
  have cS := Lib.hid (bd_string W W.heap.size (showO o) w3 h3.bd)
  go_wp2_with fail
  refine cS.out.mono ?_; rintro e w4 ⟨rfl, h4⟩
  go_wp2_with fail
  go_ret
  exact ⟨rfl, below_trans2 bb.out h4⟩
set_option maxRecDepth 100000 in
set_option maxHeartbeats 1000000 in
theorem show_Text (A : Option Addr) (n c : Nat) (hs : List (List OpT)) (w : World) (hH : HistAt w A n hs) (hnc : n ≤ c) (hn : n ≤ 1099511627776) (hc : c ≤ 9223372036854775807) (hF : (allO hs).length ≤ 1099511627776) :
    Calls Try.prog 8 #[.slice A n c] w (RetShow hs w) := by
  have hlen := hH.len
  have cR := Lib.hid (hist_Right A n c hs w hH hnc hn hc hF)
  cases hr : rightL hs with
  | false =>
    rw [hr] at cR
    have hres : Hid (shownS hs = ⟨#[]⟩ ∧ shownE hs = 1) := Lib.hid (by unfold shownS shownE; rw [hr]; exact ⟨rfl, rfl⟩)
    clear hr
    go_enter Try.func8, Try.ntmps8
    go_wp2_with fail
    refine cR.out.mono ?_; rintro e w1 ⟨rfl, b⟩
    go_wp2_with fail
    exact bodyPost_ret (v := .tuple #[.string ⟨#[]⟩, .int .i64 1]) (by simp [results, go_sem]) rfl ⟨by rw [hres.out.1, hres.out.2], b⟩
  | true =>
    rw [hr] at cR
    have hres : Hid (shownS hs = bytesL (showT hs) ∧ shownE hs = 0) := Lib.hid (by unfold shownS shownE; rw [hr]; exact ⟨rfl, rfl⟩)
    obtain ⟨htold, h4096⟩ := right_told hr (okO_all hH)
    replace htold := Lib.hid htold
    replace h4096 := Lib.hid h4096
    replace hH := Lib.hid hH
    replace hF := Lib.hid hF
    replace hlen := Lib.hid hlen
    clear hr
    go_enter Try.func8, Try.ntmps8
    go_wp2_with fail
    refine cR.out.mono ?_; rintro e w1 ⟨rfl, b⟩
    replace b := Lib.hid b
    obtain ⟨V, hV⟩ : ∃ V, V = w1.alloc (.cells #[.pointer none, .slice none 0 0] 45) := ⟨_, rfl⟩
    have hd := Lib.hid (show BdS w1 V w1.heap.size (showT (hs.take 0)) from by rw [hV]; exact BdS.new w1)
    obtain ⟨g, hg⟩ : ∃ g, g = w1.heap.size := ⟨_, rfl⟩
    rw [← hg] at hd
    go_wp2_with (rw [← hV, ← hg]; clear hV; replace hg := Lib.hid hg)
    go_loopw [12] (fun i wr => ∃ k : Nat, k ≤ n ∧ i = .int .i64 k ∧ Hid (BdS w1 wr g (showT (hs.take k)))) (fun i _ => n - (intOf i).toNat)
    case atStart => exact ⟨0, Nat.zero_le _, rfl, hd⟩
    case round =>
      obtain ⟨k, hk, rfl, hb⟩ := hrel
      by_cases hlt : k < n
      · obtain ⟨b1, off, B, m, cc, os, rfl, hbl, hos, hcell, hmc, hm63, hO⟩ := ((hH.out.below b.out).below hb.out.bel).at_ hlt
        obtain ⟨_, _, B', m', cc', os', e1, hbl', hos', hcell', hmc', hm63', hO'⟩ := (hH.out.below b.out).at_ hlt
        have hlt' : (k : Int) < (n : Int) := by omega
        cases e1
        have ec := (hb.out.bel.cell (p := ⟨b1, off + k, none⟩) hbl').trans hcell'
        rw [hcell] at ec
        cases ec
        rw [hos] at hos'
        cases hos'
        have hto : ∀ o ∈ os, (showO o).length ≤ 49 := fun o ho => (told_len (htold.out o (List.mem_flatten.2 ⟨os, List.mem_of_getElem? hos, ho⟩))).1
        have hmf : m ≤ 4096 := by
          have h1 : os.length ≤ (allO hs).length := by
            have := lenK_succ hos
            have h2 := lenK_le hs (k + 1)
            omega
          have := hO'.len; have := h4096.out; omega
        have hsz := shown_le htold.out h4096.out hos (j := 0)
        have hle := hlen.out
        have cL := Lib.hid (text_line w1 g (showT (hs.take k)) B m cc os wr hb.out hO' (by omega) hto (by omega))
        have ht : showT (hs.take k) ++ (showS os ++ [10]) = showT (hs.take (k + 1)) := by
          have h1 := List.take_succ_eq_append_getElem (List.getElem?_eq_some_iff.1 hos).1
          rw [(List.getElem?_eq_some_iff.1 hos).2] at h1
          rw [h1, showT_snoc]
        rw [ht] at cL
        clear hto hmf hsz hle ht hos hcell' hO hO' hlt hbl hbl'
        go_wp2_with fail
        refine cL.out.mono ?_; rintro e w3 ⟨rfl, h3⟩
        replace h3 := Lib.hid h3.bd
        go_wp2_with fail
        exact ⟨⟨k + 1, by omega, by go_num, h3⟩, by simp [intOf]; omega⟩
      · have hkn : ¬ (k : Int) < (n : Int) := by omega
        have he : hs.take k = hs := List.take_of_length_le (by rw [hlen.out]; omega)
        rw [he] at hb
        have cS := Lib.hid (bd_string w1 g (showT hs) wr hb.out)
        clear hlt he
        go_wp2_with fail
        refine cS.out.mono ?_; rintro e w4 ⟨rfl, h4⟩
        go_wp2_with fail
        exact bodyPost_ret (v := .tuple #[.string ⟨(showT hs).toArray⟩, .int .i64 0]) (by simp [results, go_sem]) rfl ⟨by rw [hres.out.1, hres.out.2]; rfl, below_trans2 b.out h4⟩

end Go.Proofs.Ytkccefgmiaoinaa
