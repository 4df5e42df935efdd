/-
  No cell of these rows narrows 'for every input' (looked for: loops, veiled, ifaces, maps, wideKeys, modest, calm, conditions, laid).
  DERIVED. THE GIVEN ROWS OF THIS SEAT. 3 by the template 'for every input the law returns true; each argument reads behind the call as it read before'; 0 by the template 'total and deterministic' (their statements: YtjdhahonpmghhaaTotals.lean).
  GIVEN WITH THE SEED: the statements are not yours to turn. If you find one false, say at which input.
  Laid BY PROGRAM, IN A SANDBOX (cutbox-rows.mjs): the forced cells as the released guide's own fill.sh prints them over the translation 134f59466597167c… (all of the seat's roots in one cut). By AI agents, Wed Nov 11 2026. No macro, syntax, notation, axiom, sorry.
-/
import Derived.Test.YtjdhahonpmghhaaChecked
import GoSem.Claim
import GoSem.ClaimJoined
import GoSem.ClaimMapViews
import Derived.JoinedTies
import Derived.KernelRfl
namespace Go.Proofs.Ytjdhahonpmghhaa
/- THE CELL 'sum', in the pinned program and in every row, IS THE sha256 OF THE DUMP (.gsa) THAT YtjdhahonpmghhaaProg.lean LOADS. Nothing in Lean hashes anything: it is a label: what it is worth is what the hold of that sum in a sandbox is worth. -/
noncomputable def Try.pinned : Pinned := { name := "ytjdhahonpmghhaa", sum := "134f59466597167c79cec644b901dc8ab0943a499f1b9f9bdf59d7b2fa140bd6", checked := Try.checked }
namespace Rows
def none {H : Type} : Left H := { results := [], args := [] }

/-- 'eyewitnesslaw10.DifferTells': WHATEVER THE INPUT: true; the input reads as it did. -/
def differTellsSpec : ChangeSpec := { name := "differTells", fn := fun _ => fun
  | [d1, d2, d3] => { results := [.lit (.bool true)], args := [d1, d2, d3] }
  | _ => none }
def differTellsRow : OpenClaim := { program := "ytjdhahonpmghhaa", sum := "134f59466597167c79cec644b901dc8ab0943a499f1b9f9bdf59d7b2fa140bd6", func := "eyewitness/eyewitnesslaw10.DifferTells", spec := "differTells", plainKeys := false, apart := false }
def DifferTellsSaid : Prop := differTellsRow.holds Try.pinned (OpenSpec.ofChange differTellsSpec)

/-- ITS FALSE NEIGHBOUR: 'it returns false'. Refute it at one input. -/
def differTellsWrong : ChangeSpec := { name := "differTells", fn := fun _ => fun
  | [d1, d2, d3] => { results := [.lit (.bool false)], args := [d1, d2, d3] }
  | _ => none }
def DifferTellsWrongFalsely : Prop := differTellsRow.holds Try.pinned (OpenSpec.ofChange differTellsWrong)

/-- 'eyewitnesslaw10.DifferOnly': WHATEVER THE INPUT: true; the input reads as it did. -/
def differOnlySpec : ChangeSpec := { name := "differOnly", fn := fun _ => fun
  | [d] => { results := [.lit (.bool true)], args := [d] }
  | _ => none }
def differOnlyRow : OpenClaim := { program := "ytjdhahonpmghhaa", sum := "134f59466597167c79cec644b901dc8ab0943a499f1b9f9bdf59d7b2fa140bd6", func := "eyewitness/eyewitnesslaw10.DifferOnly", spec := "differOnly", plainKeys := false, apart := false }
def DifferOnlySaid : Prop := differOnlyRow.holds Try.pinned (OpenSpec.ofChange differOnlySpec)

/-- ITS FALSE NEIGHBOUR: 'it returns false'. Refute it at one input. -/
def differOnlyWrong : ChangeSpec := { name := "differOnly", fn := fun _ => fun
  | [d] => { results := [.lit (.bool false)], args := [d] }
  | _ => none }
def DifferOnlyWrongFalsely : Prop := differOnlyRow.holds Try.pinned (OpenSpec.ofChange differOnlyWrong)

/-- 'eyewitnesslaw10.DifferMore': WHATEVER THE INPUT: true; the input reads as it did. -/
def differMoreSpec : ChangeSpec := { name := "differMore", fn := fun _ => fun
  | [d1, d2] => { results := [.lit (.bool true)], args := [d1, d2] }
  | _ => none }
def differMoreRow : OpenClaim := { program := "ytjdhahonpmghhaa", sum := "134f59466597167c79cec644b901dc8ab0943a499f1b9f9bdf59d7b2fa140bd6", func := "eyewitness/eyewitnesslaw10.DifferMore", spec := "differMore", plainKeys := false, apart := false }
def DifferMoreSaid : Prop := differMoreRow.holds Try.pinned (OpenSpec.ofChange differMoreSpec)

/-- ITS FALSE NEIGHBOUR: 'it returns false'. Refute it at one input. -/
def differMoreWrong : ChangeSpec := { name := "differMore", fn := fun _ => fun
  | [d1, d2] => { results := [.lit (.bool false)], args := [d1, d2] }
  | _ => none }
def DifferMoreWrongFalsely : Prop := differMoreRow.holds Try.pinned (OpenSpec.ofChange differMoreWrong)

/- THE SECOND FORM. 'bulk': how many values and letters a reading holds, each counted each time it is reached (what is shared counts as often as it is met; a slice's spare places count too). A statement '..UptoSaid' is the law's where the arguments, and the package variables that the reading takes, are together of bulk at most 1048576: NARROWER than '..Said'. Prove '..Said' where nothing that the law and all that it calls make is longer than what came in: it says more and counts as full. Else prove '..UptoSaid'. A law counts once. -/
mutual
def uptoBulk {H : Type} : DataW H → Nat
  | .lit (.string bytes) => bytes.length + 1
  | .lit _ => 1
  | .nil => 1
  | .ptr d => uptoBulk d + 1
  | .slice elems spare => uptoBulkAll elems + uptoBulkAll spare + 1
  | .agg parts => uptoBulkAll parts + 1
  | .iface _ d => uptoBulk d + 1
  | .map entries => uptoBulkEntries entries + 1
  | .held _ => 1
def uptoBulkAll {H : Type} : List (DataW H) → Nat
  | [] => 0
  | d :: r => uptoBulk d + uptoBulkAll r
def uptoBulkEntries {H : Type} : List (Lit × DataW H) → Nat
  | [] => 0
  | x :: r => uptoBulkEntry x + uptoBulkEntries r
def uptoBulkEntry {H : Type} : Lit × DataW H → Nat
  | (.string bytes, d) => bytes.length + uptoBulk d + 1
  | (_, d) => uptoBulk d + 1
 end
def uptoSmall : (H : Type) → List (DataW H) → Bool := fun _ ds => decide (uptoBulkAll ds ≤ 1048576)
def OpenSpec.upto (s : _root_.Go.ChangeSpec) : _root_.Go.OpenSpec := { _root_.Go.OpenSpec.ofChange s with cond := some uptoSmall }

/-- 'eyewitnesslaw10.DifferTells', WHERE WHAT IT READS IS OF BULK AT MOST 1048576: true; the input reads as it did. -/
def differTellsUptoRow : OpenClaim := { program := "ytjdhahonpmghhaa", sum := "134f59466597167c79cec644b901dc8ab0943a499f1b9f9bdf59d7b2fa140bd6", func := "eyewitness/eyewitnesslaw10.DifferTells", spec := "differTells", plainKeys := false, apart := false, narrowed := true }
def DifferTellsUptoSaid : Prop := differTellsUptoRow.holds Try.pinned (OpenSpec.upto differTellsSpec)

/-- 'eyewitnesslaw10.DifferOnly', WHERE WHAT IT READS IS OF BULK AT MOST 1048576: true; the input reads as it did. -/
def differOnlyUptoRow : OpenClaim := { program := "ytjdhahonpmghhaa", sum := "134f59466597167c79cec644b901dc8ab0943a499f1b9f9bdf59d7b2fa140bd6", func := "eyewitness/eyewitnesslaw10.DifferOnly", spec := "differOnly", plainKeys := false, apart := false, narrowed := true }
def DifferOnlyUptoSaid : Prop := differOnlyUptoRow.holds Try.pinned (OpenSpec.upto differOnlySpec)

/-- 'eyewitnesslaw10.DifferMore', WHERE WHAT IT READS IS OF BULK AT MOST 1048576: true; the input reads as it did. -/
def differMoreUptoRow : OpenClaim := { program := "ytjdhahonpmghhaa", sum := "134f59466597167c79cec644b901dc8ab0943a499f1b9f9bdf59d7b2fa140bd6", func := "eyewitness/eyewitnesslaw10.DifferMore", spec := "differMore", plainKeys := false, apart := false, narrowed := true }
def DifferMoreUptoSaid : Prop := differMoreUptoRow.holds Try.pinned (OpenSpec.upto differMoreSpec)

end Rows
end Go.Proofs.Ytjdhahonpmghhaa
