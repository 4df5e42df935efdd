/- The contracts of the document's own answers of layer 8: Op, Text. -/
import Derived.Test.YtkccefgmiaoinaaProg
import Derived.Test.YtkccefgmiaoinaaHistRefB
import Derived.Test.YtkccefgmiaoinaaNumPut
import Derived.Test.YtkccefgmiaoinaaPlan
import Derived.Test.YtkccefgmiaoinaaShowMath
namespace Go.Proofs.Ytkccefgmiaoinaa
open Go.RowKit
set_option linter.unusedVariables false

theorem bytes_append (a b : List UInt8) : (⟨a.toArray⟩ ++ ⟨b.toArray⟩ : ByteArray) = ⟨(a ++ b).toArray⟩ := ByteArray.mk_append_mk a b
/-- a text as bytes -/
def bytesL (l : List UInt8) : ByteArray := ⟨l.toArray⟩
theorem bytesL_append (a b : List UInt8) : bytesL a ++ bytesL b = bytesL (a ++ b) := bytes_append a b
theorem bytesL_of (s : ByteArray) : bytesL s.data.toList = s := bytes_eta s
theorem bytesL_inj {a b : List UInt8} (h : bytesL a = bytesL b) : a = b := by
  have := congrArg (fun s : ByteArray => s.data.toList) h
  simpa [bytesL] using this
def RetStr (s : ByteArray) (w : World) (e : Ending) (w' : World) : Prop := e = .returned (.string s) ∧ Below w.heap.size w w'
def shownS (hs : List (List OpT)) : ByteArray := if rightL hs = true then bytesL (showT hs) else ⟨#[]⟩
def shownE (hs : List (List OpT)) : Int := if rightL hs = true then 0 else 1
/-- what a call that answers a history's text ends in -/
def RetShow (hs : List (List OpT)) (w : World) (e : Ending) (w' : World) : Prop := e = .returned (.tuple #[.string (shownS hs), .int .i64 (shownE hs)]) ∧ Below w.heap.size w w'

theorem showO_bytes (o : OpT) : bytesL (showO o) = bytesL (if o.1 = true then [119, 58] else [114, 58]) ++ o.2.1 ++ bytesL [61] ++ bytesL (putL o.2.2) := by
  rw [← bytesL_of o.2.1, bytesL_append, bytesL_append, bytesL_append]
  obtain ⟨w, s, z⟩ := o
  cases w <;> simp [showO, bytesL]
theorem putL_len {z : Int} (h0 : -9223372036854775808 ≤ z) (h1 : z < 9223372036854775808) : (putL z).length ≤ 30 := by
  have h := decL_length 19 z.natAbs (by omega)
  unfold putL
  rw [List.length_append]
  split <;> simp <;> omega
set_option maxRecDepth 100000 in
set_option maxHeartbeats 1000000 in
theorem ref8_Op (o : OpT) (w : World) (h0 : -9223372036854775808 ≤ o.2.2) (h1 : o.2.2 < 9223372036854775808) (hn : o.2.1.size ≤ 1000) :
    Calls Try.prog 11 #[.agg #[.bool o.1, .string o.2.1, .int .i64 o.2.2]] w (RetStr (bytesL (showO o)) w) := by
  obtain ⟨wr, nm, z⟩ := o
  simp only at h0 h1 hn
  have hll : (putL z).length ≤ 30 := putL_len h0 h1
  have k1 : ¬ (9223372036854775807 < 2 + nm.size) := by omega
  have k2 : ¬ (9223372036854775807 < 2 + nm.size + 1) := by omega
  have k3 : ¬ (9223372036854775807 < 2 + nm.size + 1 + (putL z).length) := by omega
  have hsb := Lib.hid (showO_bytes (wr, nm, z))
  obtain ⟨g, hg⟩ : ∃ g, g = w.heap.size := ⟨_, rfl⟩
  obtain ⟨W, hW⟩ : ∃ W, W = w.alloc (.cells #[.bool wr, .string nm, .int .i64 z] 24) := ⟨_, rfl⟩
  have bb := Lib.hid (show Below w.heap.size w W from by rw [hW]; exact (Below.refl _ w).alloc (Nat.le_refl _) _)
  have hr : Blk W g 24 [.bool wr, .string nm, .int .i64 z] := by rw [hW, hg]; exact Blk.new w _ _
  have q0 := hr.cell 0
  have cP := Lib.hid (fun (X : World) => ref5_Put z X h0 h1)
  cases wr
  all_goals (
    go_enter Try.func11, Try.ntmps11
    go_wp2_with (rw [← hW, ← hg]; clear hW; replace hg := Lib.hid hg)
    refine wp_region_plan 10 [(true, 0), (true, 1), (true, 2), (true, 3), (true, 4), (true, 5), (true, 6), (false, 7), (true, 8), (true, 9)] (by kernel_rfl) (by kernel_rfl) (fun X hX => ?_)
    obtain rfl := hX.out
    clear hX
    have c1 : W.drew.cell? ⟨g, 1, none⟩ = _ := hr.cell 1
    have c2 : W.drew.cell? ⟨g, 2, none⟩ = _ := hr.cell 2
    have cQ := Lib.hid (cP.out W.drew)
    simp only [List.drop_succ_cons, List.drop_nil]
    iterate 7
      refine wpPlan_float (v := ?_) rfl (by rfl) (fun w' hw' => ?_) (fun K hK => ?_)
      rotate_left
      · (go_simp; try with_reducible rfl)
      go_simp
      refine hK _ ?_
      clear hK K
    refine wpPlan_only rfl (by rfl) (fun K hK => ?_)
    go_simp
    refine cQ.out.mono ?_
    rintro e w3 ⟨rfl, b3⟩
    refine hK _ _ b3 ?_
    clear hK K
    have hb3 := Lib.hid (below_trans2 bb.out.drew b3)
    iterate 2
      refine wpPlan_float (v := ?_) rfl (by rfl) (fun w' hw' => ?_) (fun K hK => ?_)
      rotate_left
      · (go_simp; try with_reducible rfl)
      go_simp
      refine hK _ ?_
      clear hK K
    refine wpPlan_nil (NoPanic.normal ?_)
    go_wp2_with fail
    go_ret
    exact ⟨by rw [hsb.out]; rfl, hb3.out⟩)
theorem showR_le : ∀ (os : List OpT), (∀ o ∈ os, (showO o).length ≤ 49) → (showR os).length ≤ 50 * os.length
  | [], _ => Nat.le_refl _
  | o :: os, h => by
    have h1 := h o (by simp)
    have h2 := showR_le os (fun x hx => h x (by simp [hx]))
    simp only [showR, List.length_cons, List.length_append]; omega
theorem showS_le (os : List OpT) (h : ∀ o ∈ os, (showO o).length ≤ 49) : (showS os).length ≤ 50 * os.length := by
  cases os with
  | nil => exact Nat.le_refl _
  | cons o os =>
    have h1 := h o (by simp)
    have h2 := showR_le os (fun x hx => h x (by simp [hx]))
    simp only [showS, List.length_cons, List.length_append]; omega
theorem showT_le : ∀ (hs : List (List OpT)), (∀ o ∈ allO hs, (showO o).length ≤ 49) → (showT hs).length ≤ 50 * (allO hs).length + hs.length
  | [], _ => Nat.le_refl _
  | os :: hs, h => by
    have h1 := showS_le os (fun x hx => h x (by rw [allO_cons]; simp [hx]))
    have h2 := showT_le hs (fun x hx => h x (by rw [allO_cons]; simp [hx]))
    rw [allO_cons]
    simp only [showT, List.length_cons, List.length_append]; omega
theorem right_told {hs : List (List OpT)} (hr : rightL hs = true) (ho : OkO (allO hs)) : (∀ o ∈ allO hs, Told o) ∧ (allO hs).length ≤ 4096 := by
  unfold rightL at hr
  rw [Bool.and_eq_true] at hr
  exact ⟨fun o h => ⟨List.all_eq_true.1 hr.1 o h, (ho o h).1⟩, of_decide_eq_true hr.2⟩
theorem told_len {o : OpT} (h : Told o) : (showO o).length ≤ 49 ∧ o.2.1.size ≤ 8 := by
  have h1 := name_len h.1
  have h2 := putL_len h.2.1 h.2.2
  rw [showO_len]
  rw [name_size] at h1 ⊢
  omega
theorem shown_le {hs : List (List OpT)} (h : ∀ o ∈ allO hs, Told o) (hl : (allO hs).length ≤ 4096) {k j : Nat} {os : List OpT} (hk : hs[k]? = some os) :
    (showT (hs.take k)).length + (showS (os.take j)).length ≤ 204800 + hs.length := by
  have hks := (List.getElem?_eq_some_iff.1 hk).1
  have hsub : ∀ o ∈ allO (hs.take k ++ [os.take j]), o ∈ allO hs := fun o ho => by
    rw [allO_append] at ho
    rcases List.mem_append.1 ho with ho | ho
    · obtain ⟨s, h1, h2⟩ := List.mem_flatten.1 ho
      exact List.mem_flatten.2 ⟨s, List.mem_of_mem_take h1, h2⟩
    · have : o ∈ os := List.mem_of_mem_take (by simpa [allO] using ho)
      exact List.mem_flatten.2 ⟨os, List.mem_of_getElem? hk, this⟩
  have h1 := showT_le (hs.take k ++ [os.take j]) (fun o ho => (told_len (h o (hsub o ho))).1)
  have h2 : (allO (hs.take k ++ [os.take j])).length ≤ (allO hs).length := by
    have h3 := allO_take_le hs (k + 1)
    rw [allO_take_succ hk, List.length_append] at h3
    rw [allO_append, List.length_append]
    have : (allO [os.take j]).length ≤ os.length := by simp [allO]; omega
    omega
  rw [showT_snoc, List.length_append, List.length_append] at h1
  simp only [List.length_append, List.length_take, List.length_cons, List.length_nil] at h1
  omega
theorem bytesL_size (l : List UInt8) : (bytesL l).size = l.length := rfl
theorem okO_all {w : World} {A : Option Addr} {n : Nat} {hs : List (List OpT)} (hH : HistAt w A n hs) : OkO (allO hs) := fun o ho => by
  obtain ⟨s, h1, h2⟩ := List.mem_flatten.1 ho
  obtain ⟨k, hk⟩ := List.getElem?_of_mem h1
  obtain ⟨_, _, _, _, _, os, _, _, hos, _, _, _, hO⟩ := hH.at_ (k := k) (by rw [← hH.len]; exact (List.getElem?_eq_some_iff.1 hk).1)
  rw [hk] at hos; injection hos with hos
  exact hO.2.1 o (by rw [← hos]; exact h2)
set_option maxRecDepth 100000 in
set_option maxHeartbeats 2000000 in
theorem ref8_Text (A : Option Addr) (n c : Nat) (hs : List (List OpT)) (w : World) (hH : HistAt w A n hs) (hn : n ≤ 1099511627776) (hF : (allO hs).length ≤ 4398046511104) :
    Calls Try.prog 9 #[.slice A n c] w (RetShow hs w) := by
  have cR := Lib.hid (ref6_Right A n c hs w hH (by omega) hF)
  have hlen := hH.len
  cases hr : rightL hs with
  | false =>
    rw [hr] at cR
    have hres : Hid (shownS hs = ⟨#[]⟩ ∧ shownE hs = 1) := Lib.hid (by unfold shownS shownE; rw [hr]; exact ⟨rfl, rfl⟩)
    clear hH
    go_enter Try.func9, Try.ntmps9
    go_wp2_with fail
    refine cR.out.mono ?_; rintro e w1 ⟨rfl, b⟩
    go_wp2_with fail
    refine bodyPost_ret (v := .tuple #[.string ⟨#[]⟩, .int .i64 1]) (by simp [results, go_sem]) rfl ⟨by rw [hres.out.1, hres.out.2], b⟩
  | true =>
    rw [hr] at cR
    have hres : Hid (shownS hs = bytesL (showT hs) ∧ shownE hs = 0) := Lib.hid (by unfold shownS shownE; rw [hr]; exact ⟨rfl, rfl⟩)
    obtain ⟨htold, h4096⟩ := right_told hr (okO_all hH)
    replace htold := Lib.hid htold
    replace h4096 := Lib.hid h4096
    replace hH := Lib.hid hH
    replace hF := Lib.hid hF
    replace hlen := Lib.hid hlen
    clear hr
    go_enter Try.func9, Try.ntmps9
    go_wp2_with fail
    refine cR.out.mono ?_; rintro e w1 ⟨rfl, b⟩
    replace b := Lib.hid b
    go_wp2_with fail
    go_loopw [4, 5] (fun s i wr => ∃ (k : Nat) (S : ByteArray), k ≤ n ∧ i = .int .i64 k ∧ s = .string S ∧ Hid (S = bytesL (showT (hs.take k))) ∧ Hid (Below w.heap.size w wr)) (fun _ i _ => n - (intOf i).toNat)
    case atStart => exact ⟨0, ⟨#[]⟩, Nat.zero_le _, rfl, rfl, Lib.hid rfl, b⟩
    case round =>
      obtain ⟨k, S, hk, rfl, rfl, hS, hb⟩ := hrel
      by_cases hlt : k < n
      · obtain ⟨b1, off, B, m, cc, os, rfl, hbl, hos, hcell, hmc, hm63, hO⟩ := (hH.out.below hb.out).at_ hlt
        have hlt' : (k : Int) < (n : Int) := by omega
        have hol := Lib.hid hO.len
        replace hos := Lib.hid hos
        replace hO := Lib.hid hO
        clear hlt
        obtain ⟨Wo, rfl⟩ : ∃ Wo, Wo = wr := ⟨_, rfl⟩
        go_wp2_with fail
        go_loopw [4, 6] (fun s i wr => ∃ (j : Nat) (S' : ByteArray), j ≤ m ∧ i = .int .i64 j ∧ s = .string S' ∧ Hid (S' = bytesL (showT (hs.take k) ++ showS (os.take j))) ∧ Hid (Below Wo.heap.size Wo wr)) (fun _ i _ => m - (intOf i).toNat)
        case atStart => exact ⟨0, S, Nat.zero_le _, rfl, rfl, Lib.hid (by rw [hS.out]; simp [showS]), Lib.hid (Below.refl _ _)⟩
        case round =>
          obtain ⟨j, S', hj, rfl, rfl, hS', hb'⟩ := hrel
          have hcell' : wr.cell? ⟨b1, off + k, none⟩ = some (.slice B m cc) := (hb'.out.cell (p := ⟨b1, off + k, none⟩) hbl).trans hcell
          have hsz : S'.size ≤ 1099511832576 := by
            have h1 := shown_le htold.out h4096.out hos.out (j := j)
            rw [hS'.out, bytesL_size, List.length_append]
            have := hlen.out
            omega
          by_cases hjm : j < m
          · obtain ⟨b2, off2, o, rfl, hb2, ho, hok, x0, x1, x2⟩ := (hO.out.below hb'.out).at_ hjm
            have hjm' : (j : Int) < (m : Int) := by omega
            have hom : o ∈ allO hs := List.mem_flatten.2 ⟨os, List.mem_of_getElem? hos.out, List.mem_of_getElem? ho⟩
            have hto := told_len (htold.out o hom)
            have cO := Lib.hid (ref8_Op o wr hok.1.1 hok.1.2 (by omega))
            obtain ⟨T, hT⟩ : ∃ T, T = bytesL (showO o) := ⟨_, rfl⟩
            have hTs : T.size ≤ 49 := by rw [hT, bytesL_size]; exact hto.1
            rw [← hT] at cO
            have k1 : ¬ (9223372036854775807 < S'.size + 1) := by omega
            have k2 : ¬ (9223372036854775807 < S'.size + 1 + T.size) := by omega
            have k3 : ¬ (9223372036854775807 < S'.size + T.size) := by omega
            replace hT := Lib.hid hT
            replace ho := Lib.hid ho
            replace hom := Lib.hid hom
            clear hto hok
            by_cases hj0 : j = 0
            · subst hj0
              simp only [Nat.zero_mul, Nat.add_zero] at x0 x1 x2
              have hnext : Hid (S' ++ T = bytesL (showT (hs.take k) ++ showS (os.take 1))) := Lib.hid (by
                rw [hS'.out, hT.out, bytesL_append]
                have : os.take 1 = [o] := by
                  have := ho.out
                  cases os with
                  | nil => simp at this
                  | cons a r => simp at this; subst this; rfl
                rw [this]; simp [showS, showR])
              go_wp2_with fail
              refine cO.out.mono ?_; rintro e w3 ⟨rfl, b3⟩
              go_wp2_with fail
              exact ⟨⟨1, _, by omega, by go_num, rfl, hnext, Lib.hid (below_trans2 hb'.out b3)⟩, by simp [intOf]; omega⟩
            · have hj0' : (0 : Int) < (j : Int) := by omega
              have hnext : Hid (S' ++ ⟨#[32]⟩ ++ T = bytesL (showT (hs.take k) ++ showS (os.take (j + 1)))) := Lib.hid (by
                rw [hS'.out, hT.out, show (⟨#[32]⟩ : ByteArray) = bytesL [32] from rfl, bytesL_append, bytesL_append]
                have h1 := List.take_succ_eq_append_getElem (List.getElem?_eq_some_iff.1 ho.out).1
                rw [(List.getElem?_eq_some_iff.1 ho.out).2] at h1
                rw [h1, showS_snoc (by intro h; have := congrArg List.length h; rw [List.length_take, hol.out] at this; simp at this; omega)]
                simp)
              clear hj0
              go_wp2_with fail
              refine cO.out.mono ?_; rintro e w3 ⟨rfl, b3⟩
              go_wp2_with fail
              exact ⟨⟨j + 1, _, by omega, by go_num, rfl, hnext, Lib.hid (below_trans2 hb'.out b3)⟩, by simp [intOf]; omega⟩
          · have hjm' : ¬ (j : Int) < (m : Int) := by omega
            have htk : os.take j = os := List.take_of_length_le (by rw [hol.out]; omega)
            have k1 : ¬ (9223372036854775807 < S'.size + 1) := by omega
            have hnext : Hid (S' ++ ⟨#[10]⟩ = bytesL (showT (hs.take (k + 1)))) := Lib.hid (by
              rw [hS'.out, htk, show (⟨#[10]⟩ : ByteArray) = bytesL [10] from rfl, bytesL_append]
              have h1 := List.take_succ_eq_append_getElem (List.getElem?_eq_some_iff.1 hos.out).1
              rw [(List.getElem?_eq_some_iff.1 hos.out).2] at h1
              rw [h1, showT_snoc]; simp)
            clear hjm htk
            go_wp2_with fail
            exact ⟨⟨k + 1, _, by omega, by go_num, rfl, hnext, Lib.hid (below_trans2 hb.out hb'.out)⟩, by simp [intOf]; omega⟩
      · have hkn' : ¬ (k : Int) < (n : Int) := by omega
        have hSe : Hid (S = shownS hs) := Lib.hid (by rw [hS.out, hres.out.1, List.take_of_length_le (by rw [hlen.out]; omega)])
        clear hlt
        go_wp2_with fail
        refine bodyPost_ret (v := .tuple #[.string S, .int .i64 0]) (by simp [results, go_sem]) rfl ⟨by rw [hSe.out, hres.out.2], hb.out⟩

end Go.Proofs.Ytkccefgmiaoinaa
