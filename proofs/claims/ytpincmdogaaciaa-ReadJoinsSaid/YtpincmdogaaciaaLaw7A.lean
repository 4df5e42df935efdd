/- Layer 7's laws: the fixed example; ReadTells. -/
import Derived.Test.YtpincmdogaaciaaRead
import Derived.Test.YtpincmdogaaciaaHistRefB
namespace Go.Proofs.Ytpincmdogaaciaa
open Go.RowKit
set_option linter.unusedVariables false

def lit7a : List UInt8 := [119, 58, 120, 61, 49, 32, 114, 58, 121, 61, 48, 10]
def lit7b : List UInt8 := [119, 58, 120, 61, 49, 32, 114, 58, 121, 61, 48, 48, 10]
def ex7a : OpT := (true, ⟨#[120]⟩, 1)
def ex7b : OpT := (false, ⟨#[121]⟩, 0)
theorem lit7a_is : textL lit7a = .ok [[ex7a, ex7b]] := by
  have h1 : opS true 0 lit7a = .ok (ex7a, 0 + 5) := opS_one_ok (Or.inl rfl) (by rintro ⟨h, _⟩; cases h) (by rfl)
  have h2 : opS false 1 [32, 114, 58, 121, 61, 48, 10] = .ok (ex7b, 1 + 5) := opS_one_ok (Or.inr ⟨32, rfl, rfl⟩) (by rintro ⟨h, _⟩; cases h) (by rfl)
  have l3 : lineT [10] false 2 = .ok ([], 1) := lineT_end rfl false 2
  have l2 : lineT [32, 114, 58, 121, 61, 48, 10] false 1 = .ok ([ex7b], 7) := by
    rw [lineT_op (by decide) h2]
    show addL ex7b 6 (lineT [10] false 2) = _
    rw [l3]; rfl
  have l1 : lineT lit7a true 0 = .ok ([ex7a, ex7b], 12) := by
    unfold lit7a at *
    rw [lineT_op (by decide) h1]
    show addL ex7a 5 (lineT [32, 114, 58, 121, 61, 48, 10] false 1) = _
    rw [l2]; rfl
  show textT lit7a 0 = _
  unfold lit7a at *
  rw [textT_line l1]
  show addT [ex7a, ex7b] 12 (textT [] 2) = _
  rw [textT_nil]; rfl
theorem lit7b_is : textL lit7b = .bad 10 2 := by
  have h1 : opS true 0 lit7b = .ok (ex7a, 0 + 5) := opS_one_ok (Or.inl rfl) (by rintro ⟨h, _⟩; cases h) (by rfl)
  have h2 : opS false 1 [32, 114, 58, 121, 61, 48, 48, 10] = .bad (1 + 4) 2 := opS_one_bad (Or.inr ⟨32, rfl, rfl⟩) (by rintro ⟨h, _⟩; cases h) (by rfl)
  have l2 : lineT [32, 114, 58, 121, 61, 48, 48, 10] false 1 = .bad 5 2 := lineT_bad (by decide) h2
  have l1 : lineT lit7b true 0 = .bad 10 2 := by
    unfold lit7b at *
    rw [lineT_op (by decide) h1]
    show addL ex7a 5 (lineT [32, 114, 58, 121, 61, 48, 48, 10] false 1) = _
    rw [l2]; rfl
  show textT lit7b 0 = _
  unfold lit7b at *
  exact textT_bad l1
set_option maxRecDepth 100000 in
set_option maxHeartbeats 1000000 in
theorem law7_awake (w : World) : Calls Try.prog 7 #[] w fun e w' => e = .returned (.bool true) ∧ Below w.heap.size w w' := by
  have c1 : Hid (Calls Try.prog 8 #[.string ⟨#[119, 58, 120, 61, 49, 32, 114, 58, 121, 61, 48, 10]⟩] w fun e w' => ∃ A n c, e = .returned (.tuple #[.slice A n c, .int .i64 0, .int .i64 0]) ∧ HistAt w' A n [[ex7a, ex7b]] ∧ Below w.heap.size w w') := Lib.hid ((read_Text _ w (by decide)).mono fun e w' h => by
    rw [show textL (⟨#[119, 58, 120, 61, 49, 32, 114, 58, 121, 61, 48, 10]⟩ : ByteArray).data.toList = .ok [[ex7a, ex7b]] from lit7a_is] at h
    obtain ⟨A, n, c, he, h1, _, _, b⟩ := h
    exact ⟨A, n, c, he, h1, b⟩)
  go_enter Try.func7, Try.ntmps7
  go_wp2_with fail
  refine c1.out.mono ?_; rintro e w1 ⟨A, n, c, rfl, hH, b⟩
  have hn := hH.len
  simp at hn
  subst hn
  have c2 : Hid (Calls Try.prog 8 #[.string ⟨#[119, 58, 120, 61, 49, 32, 114, 58, 121, 61, 48, 48, 10]⟩] w1 fun e w' => ∃ A n c, e = .returned (.tuple #[.slice A n c, .int .i64 10, .int .i64 2]) ∧ Below w1.heap.size w1 w') := Lib.hid ((read_Text _ w1 (by decide)).mono fun e w' h => by
    rw [show textL (⟨#[119, 58, 120, 61, 49, 32, 114, 58, 121, 61, 48, 48, 10]⟩ : ByteArray).data.toList = .bad 10 2 from lit7b_is] at h
    obtain ⟨A, n, c, he, h1, _, _, b⟩ := h
    exact ⟨A, n, c, he, b⟩)
  clear c1
  replace hH := Lib.hid hH
  replace b := Lib.hid b
  go_wp2_with fail
  refine c2.out.mono ?_; rintro e w2 ⟨A2, n2, d2, rfl, b2⟩
  obtain ⟨b1, off, B, m, cc, os, rfl, hb1, hos, hcell, hmc, hm63, hO⟩ := (hH.out.below b2).at_ (show 0 < 1 by omega)
  simp at hos
  subst hos
  have hm := hO.len
  simp at hm
  subst hm
  obtain ⟨b3, off3, x, rfl, hb3, hx, hok, x0, x1, x2⟩ := hO.at_ (show 0 < 2 by omega)
  simp at hx
  subst hx
  have bb := Lib.hid (below_trans2 b.out b2)
  simp only [Nat.zero_mul, Nat.add_zero] at x0 x1 x2 hcell
  replace x0 : w2.cell? ⟨b3, off3, none⟩ = some (.bool true) := x0
  replace x1 : w2.cell? ⟨b3, off3 + 1, none⟩ = some (.string ⟨#[120]⟩) := x1
  replace x2 : w2.cell? ⟨b3, off3 + 2, none⟩ = some (.int .i64 1) := x2
  have e120 : (⟨#[120]⟩ : ByteArray).toList = [120] := by rw [ByteArray.toList_eq]
  clear hO hH b2 b c2 hok
  go_wp2_with fail
  go_ret
  exact ⟨rfl, bb.out⟩

set_option maxRecDepth 100000 in
set_option maxHeartbeats 1000000 in
theorem law7_ReadTells (s : ByteArray) (w : World) : Calls Try.prog 3 #[.string s] w fun e w' => e = .returned (.bool true) ∧ Below w.heap.size w w' := by
  by_cases hs : 1000 < s.size
  · have hs' : (1000 : Int) < (s.size : Int) := by omega
    clear hs
    go_enter Try.func3, Try.ntmps3
    go_wp2_with fail
    refine (law7_awake w).mono ?_; rintro e w1 ⟨rfl, b⟩
    go_wp2_with fail
    go_ret
    exact ⟨rfl, b⟩
  · have hs' : ¬ (1000 : Int) < (s.size : Int) := by omega
    obtain ⟨r, hr⟩ : ∃ r, r = textL s.data.toList := ⟨_, rfl⟩
    have c1 := Lib.hid (read_Text s w (by omega))
    rw [← hr] at c1
    go_enter Try.func3, Try.ntmps3
    go_wp2_with fail
    refine c1.out.mono ?_; rintro e w1 ⟨A, n, c, rfl, hH, hnc, hc, b⟩
    have c2 := Lib.hid (ref7_Text s w1 (by omega))
    rw [← hr] at c2
    replace hr := Lib.hid hr
    obtain ⟨ta, hta⟩ : ∃ ta, ta = txtA r := ⟨_, rfl⟩
    obtain ⟨te, hte⟩ : ∃ te, te = txtE r := ⟨_, rfl⟩
    replace hH := Lib.hid hH
    replace b := Lib.hid b
    unfold RetText at c2
    rw [← hta, ← hte] at c2 ⊢
    replace hta := Lib.hid hta
    replace hte := Lib.hid hte
    clear c1
    go_wp2_with fail
    refine c2.out.mono ?_; rintro e w2 ⟨B, m, d, rfl, hG, hmd, hd, b2⟩
    replace hH := Lib.hid (hH.out.below b2)
    replace b := Lib.hid (below_trans2 b.out b2)
    replace hG := Lib.hid hG
    clear c2 b2
    go_wp2_with fail
    refine (law7_awake w2).mono ?_; rintro e w3 ⟨rfl, b3⟩
    replace b := Lib.hid (below_trans2 b.out b3)
    have cS := Lib.hid (ref6_Same A B n c m d (txtH r) (txtH r) w3 (hH.out.below b3) (hG.out.below b3) (by omega) (by omega))
    rw [decide_eq_true (rfl : txtH r = txtH r)] at cS
    clear b3
    go_wp2_with fail
    refine cS.out.mono ?_; rintro e w4 ⟨rfl, q, rfl⟩
    go_wp2_with fail
    go_ret
    exact ⟨rfl, below_drewN b.out q⟩

end Go.Proofs.Ytpincmdogaaciaa
