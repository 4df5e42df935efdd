/- The statement 'InternTells' where what it reads is of no more than the given bulk: the law returns true and its arguments read as they did. -/
import Derived.Test.YtmfcnlolfhkeeaaRows
import Derived.Test.YtmfcnlolfhkeeaaLaw9B
import Derived.Test.YtmfcnlolfhkeeaaOpen6
import Derived.WalkKit
import Derived.ProofKit
import Derived.OpenShut
import Derived.ShutString
import Derived.ChangeOld
import Derived.Below
import Derived.JoinedCond
import Derived.Test.YtmfcnlolfhkeeaaOpen9
namespace Go.Proofs.Ytmfcnlolfhkeeaa.internTellsUpto
open Go.ChangeShapes Go.WideShapes Go.ChangeAt Go.RowKit
open Go.ChangeMaps (open_string shut_string)
set_option linter.unusedVariables false

theorem own : ownKnob Try.prog.godebug = none := by kernel_rfl
theorem laidOut : laidOutB Try.prog = true := by kernel_rfl

set_option maxRecDepth 100000 in
theorem contract (H : Type) (enc : TypeId × Value → H) (W : World) (base : Nat) (args : Array Value) (ds gs : List (DataW H)) (before : List MemPlace)
    (hval : ∀ (j : Nat) t v, Try.f3.params[j]? = some t → args[j]? = some v → Value.okWide Try.prog W .any base t v)
    (hW : DataW.Whole enc Try.prog Try.f3.params.toList Rows.internTellsSpec.vars false W args.toList ds gs before) (hk : Rows.uptoSmall H (ds ++ gs) = true) :
    Calls Try.prog 3 args W fun e W' => ∃ v, e = .returned v ∧ Rows.internTellsSpec.post enc Try.prog Try.f3 false true false false W args v W' := by
  have hW' := hW
  obtain ⟨p, q, hA0, hV, rfl, hfz, hnd⟩ := hW
  have hA : DataW.TrodAll enc Try.prog W 0 (fun _ => true) true Try.f3.params.toList args.toList ds p := hA0
  rw [Try.params3] at hA hval
  obtain ⟨v0, vs0, d0, ds0, p0, q0, hargs, rfl, rfl, h0, r0⟩ := trodAll_cons hA
  obtain ⟨v1, vs1, d1, ds1, p1, q1, rfl, rfl, rfl, h1, r1⟩ := trodAll_cons r0
  obtain ⟨v2, vs2, d2, ds2, p2, q2, rfl, rfl, rfl, h2, r2⟩ := trodAll_cons r1
  obtain ⟨rfl, rfl, rfl⟩ := trodAll_nil r2
  obtain rfl : args = #[v0, v1, v2] := by cases args; simp_all
  obtain ⟨rfl, rfl⟩ := trodVars_none hV
  have hB : Rows.uptoBulkAll [d0, d1, d2] ≤ 1048576 := by have h := of_decide_eq_true hk; simpa only [List.append_nil] using h
  simp only [Rows.uptoBulkAll] at hB
  have k0 := h0
  have lt0 : ∀ x ∈ p0, x.block < W.heap.size := by obtain ⟨m, hm⟩ := k0; exact DataW.trod_lt m _ _ _ hm
  obtain ⟨A0, n0, c0, rfl⟩ := okWide_slice Try.underlying22 (hval 0 22 v0 rfl rfl)
  obtain ⟨fu0, hf0⟩ := h0
  obtain ⟨A', n', c', hs0, e0, hh0, hnc0, hcm0, hcb0, hob0⟩ := open_hist Try.underlying22 (by kernel_rfl) Try.underlying41 Try.underlying50 (by kernel_rfl) rfl rfl rfl (by kernel_rfl) (by kernel_rfl) (by kernel_rfl) Try.underlying4 Try.underlying9 Try.underlying3 hf0
  injection e0 with e1 e2 e3
  subst e1; subst e2; subst e3
  replace hcb0 : c0 ≤ Rows.uptoBulk d0 := hcb0
  replace hob0 : (allO hs0).length ≤ Rows.uptoBulk d0 := hob0
  have k1 := h1
  have lt1 : ∀ x ∈ p1, x.block < W.heap.size := by obtain ⟨m, hm⟩ := k1; exact DataW.trod_lt m _ _ _ hm
  obtain ⟨fa1, fb1, fc1, ya1, yb1, yc1, fu1, rfl, rfl, ta1, tb1, tc1⟩ := open_three Try.underlying27 (by kernel_rfl) rfl rfl rfl (by kernel_rfl) (by kernel_rfl) (by kernel_rfl) (hval 1 27 v1 rfl rfl) h1
  obtain ⟨aa1, na1, ca1, rfl⟩ : ∃ A n c, fa1 = .slice A n c := by
    rcases Go.Deep.open_slice Try.underlying23 ta1 with ⟨hcs, _⟩ | ⟨_, _, _, _, _, _, _, hcs, _⟩ <;> (injection hcs with hcs; exact ⟨_, _, _, hcs⟩)
  obtain ⟨ab1, nb1, cb1, rfl⟩ : ∃ A n c, fb1 = .slice A n c := by
    rcases Go.Deep.open_slice Try.underlying24 tb1 with ⟨hcs, _⟩ | ⟨_, _, _, _, _, _, _, hcs, _⟩ <;> (injection hcs with hcs; exact ⟨_, _, _, hcs⟩)
  obtain ⟨ac1, nc1, cc1, rfl⟩ : ∃ A n c, fc1 = .slice A n c := by
    rcases Go.Deep.open_slice Try.underlying25 tc1 with ⟨hcs, _⟩ | ⟨_, _, _, _, _, _, _, hcs, _⟩ <;> (injection hcs with hcs; exact ⟨_, _, _, hcs⟩)
  obtain ⟨xa1, la1, l1a1, l2a1, l3a1⟩ := open_L encS Try.underlying23 (by kernel_rfl) (el_str Try.underlying9) ta1
  obtain ⟨xb1, lb1, l1b1, l2b1, l3b1⟩ := open_L encT Try.underlying24 (by kernel_rfl) (el_item Try.underlying44 rfl rfl rfl rfl rfl (by kernel_rfl) (by kernel_rfl) (by kernel_rfl) (by kernel_rfl) (by kernel_rfl) Try.underlying3 Try.underlying3 Try.underlying4 Try.underlying3 Try.underlying3) tb1
  obtain ⟨xc1, lc1, l1c1, l2c1, l3c1⟩ := open_L encI Try.underlying25 (by kernel_rfl) (el_int Try.underlying3) tc1
  have hF1 : FactsAt W ⟨aa1, na1, ca1, ab1, nb1, cb1, ac1, nc1, cc1⟩ ⟨xa1, xb1, xc1⟩ := ⟨la1, l1a1, l2a1, lb1, l1b1, l2b1, lc1, l1c1, l2c1⟩
  rw [bulk_agg] at hB
  simp only [Rows.uptoBulkAll] at hB
  have k2 := h2
  have lt2 : ∀ x ∈ p2, x.block < W.heap.size := by obtain ⟨m, hm⟩ := k2; exact DataW.trod_lt m _ _ _ hm
  obtain ⟨fa2, fb2, fc2, ya2, yb2, yc2, fu2, rfl, rfl, ta2, tb2, tc2⟩ := open_three Try.underlying27 (by kernel_rfl) rfl rfl rfl (by kernel_rfl) (by kernel_rfl) (by kernel_rfl) (hval 2 27 v2 rfl rfl) h2
  obtain ⟨aa2, na2, ca2, rfl⟩ : ∃ A n c, fa2 = .slice A n c := by
    rcases Go.Deep.open_slice Try.underlying23 ta2 with ⟨hcs, _⟩ | ⟨_, _, _, _, _, _, _, hcs, _⟩ <;> (injection hcs with hcs; exact ⟨_, _, _, hcs⟩)
  obtain ⟨ab2, nb2, cb2, rfl⟩ : ∃ A n c, fb2 = .slice A n c := by
    rcases Go.Deep.open_slice Try.underlying24 tb2 with ⟨hcs, _⟩ | ⟨_, _, _, _, _, _, _, hcs, _⟩ <;> (injection hcs with hcs; exact ⟨_, _, _, hcs⟩)
  obtain ⟨ac2, nc2, cc2, rfl⟩ : ∃ A n c, fc2 = .slice A n c := by
    rcases Go.Deep.open_slice Try.underlying25 tc2 with ⟨hcs, _⟩ | ⟨_, _, _, _, _, _, _, hcs, _⟩ <;> (injection hcs with hcs; exact ⟨_, _, _, hcs⟩)
  obtain ⟨xa2, la2, l1a2, l2a2, l3a2⟩ := open_L encS Try.underlying23 (by kernel_rfl) (el_str Try.underlying9) ta2
  obtain ⟨xb2, lb2, l1b2, l2b2, l3b2⟩ := open_L encT Try.underlying24 (by kernel_rfl) (el_item Try.underlying44 rfl rfl rfl rfl rfl (by kernel_rfl) (by kernel_rfl) (by kernel_rfl) (by kernel_rfl) (by kernel_rfl) Try.underlying3 Try.underlying3 Try.underlying4 Try.underlying3 Try.underlying3) tb2
  obtain ⟨xc2, lc2, l1c2, l2c2, l3c2⟩ := open_L encI Try.underlying25 (by kernel_rfl) (el_int Try.underlying3) tc2
  have hF2 : FactsAt W ⟨aa2, na2, ca2, ab2, nb2, cb2, ac2, nc2, cc2⟩ ⟨xa2, xb2, xc2⟩ := ⟨la2, l1a2, l2a2, lb2, l1b2, l2b2, lc2, l1c2, l2c2⟩
  rw [bulk_agg] at hB
  simp only [Rows.uptoBulkAll] at hB
  clear hA0
  refine (law9_InternTells A0 n0 c0 hs0 ⟨aa1, na1, ca1, ab1, nb1, cb1, ac1, nc1, cc1⟩ ⟨aa2, na2, ca2, ab2, nb2, cb2, ac2, nc2, cc2⟩ ⟨xa1, xb1, xc1⟩ ⟨xa2, xb2, xc2⟩ W hh0 hF1 hF2 hnc0 (by omega) (by omega)).mono fun e W' ⟨he, bel⟩ => ?_
  subst he
  exact ⟨_, rfl, _, _, _, [], _, [], hW', trodAll_mk1 (shut_bool Try.underlying4 _), (trodAll_cons_mk (Below.trod laidOut (by kernel_rfl) (of_decide_eq_true (by kernel_rfl)) k0 bel lt0) (trodAll_cons_mk (Below.trod laidOut (by kernel_rfl) (of_decide_eq_true (by kernel_rfl)) k1 bel lt1) (trodAll_cons_mk (Below.trod laidOut (by kernel_rfl) (of_decide_eq_true (by kernel_rfl)) k2 bel lt2) trodAll_mk0))), rfl, bel.frame _, fun h => by cases h⟩

set_option maxRecDepth 100000 in
theorem lifted (os : Os) (started : os.Started) (H : Type) (enc : TypeId × Value → H) (F : Stop.Interp) :
    ReturnsInHanded {} Try.checked os 3 .any ((Rows.OpenSpec.upto Rows.internTellsSpec).pre6 enc Try.prog Try.f3 Rows.internTellsUptoRow.domain false) (((Rows.OpenSpec.upto Rows.internTellsSpec).at F).post enc Try.prog Try.f3 false true false false) := by
  refine returnsInHanded_of_cond (C := Try.checked) (s := Rows.OpenSpec.upto Rows.internTellsSpec) (k := Rows.uptoSmall) rfl own started (by kernel_rfl) Try.func3
    (OpenSpec.witness (enc := enc) (C := Try.checked) (s := Rows.OpenSpec.upto Rows.internTellsSpec) (k := Rows.uptoSmall) rfl false ⟨#[], #[.slice none 0 0, .agg #[.slice none 0 0, .slice none 0 0, .slice none 0 0], .agg #[.slice none 0 0, .slice none 0 0, .slice none 0 0]], []⟩ 8 (by kernel_rfl) (by kernel_rfl) (by kernel_rfl)
      (x := ([.nil, .agg [.nil, .nil, .nil], .agg [.nil, .nil, .nil]], [], [])) (by kernel_rfl) rfl (by kernel_rfl)) ?_
  intro W base args ds gs before hval hW _ hk _
  exact contract H enc W base args ds gs before hval hW hk

/-- ████ THE STATEMENT ████ -/
theorem proved : Rows.InternTellsUptoSaid :=
  OpenClaim.holds_of_cond 3 Try.f3 rfl rfl rfl rfl rfl rfl rfl ⟨rfl, rfl, rfl, rfl, rfl⟩ rfl rfl rfl rfl rfl (by kernel_rfl) Try.func3 (by kernel_rfl)
    (of_decide_eq_true (by kernel_rfl)) (by unfold Func.isWrapper; first | (rw [if_pos (by decide +kernel)]; kernel_rfl) | (rw [if_neg (by decide +kernel)]; exact ⟨rfl, rfl⟩))
    (fun os started H enc _ F => lifted os started H enc F)
#print axioms proved
end Go.Proofs.Ytmfcnlolfhkeeaa.internTellsUpto
