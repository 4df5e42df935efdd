/-
  No cell of these rows narrows 'for every input' (looked for: loops, veiled, ifaces, maps, wideKeys, modest, calm, conditions, laid).
  DERIVED. THE GIVEN ROWS OF THIS SEAT. 5 by the template 'for every input the law returns true; each argument reads behind the call as it read before'; 0 by the template 'total and deterministic' (their statements: YtkikoniihmieiaaTotals.lean).
  GIVEN WITH THE SEED: the statements are not yours to turn. If you find one false, say at which input.
  Laid BY PROGRAM, IN A SANDBOX (cutbox-rows.mjs): the forced cells as the released guide's own fill.sh prints them over the translation 577208860efd85a3… (all of the seat's roots in one cut). By AI agents, Wed Nov 11 2026. No macro, syntax, notation, axiom, sorry.
-/
import Derived.Test.YtkikoniihmieiaaChecked
import GoSem.Claim
import GoSem.ClaimJoined
import GoSem.ClaimMapViews
import Derived.JoinedTies
import Derived.KernelRfl
namespace Go.Proofs.Ytkikoniihmieiaa
/- THE CELL 'sum', in the pinned program and in every row, IS THE sha256 OF THE DUMP (.gsa) THAT YtkikoniihmieiaaProg.lean LOADS. Nothing in Lean hashes anything: it is a label: what it is worth is what the hold of that sum in a sandbox is worth. -/
noncomputable def Try.pinned : Pinned := { name := "ytkikoniihmieiaa", sum := "577208860efd85a31411ee420e580738e9901caa477ee32f287b33340954f46a", checked := Try.checked }
namespace Rows
def none {H : Type} : Left H := { results := [], args := [] }

/-- 'eyewitnesslaw03.MatTells': WHATEVER THE INPUT: true; the input reads as it did. -/
def matTellsSpec : ChangeSpec := { name := "matTells", fn := fun _ => fun
  | [d] => { results := [.lit (.bool true)], args := [d] }
  | _ => none }
def matTellsRow : OpenClaim := { program := "ytkikoniihmieiaa", sum := "577208860efd85a31411ee420e580738e9901caa477ee32f287b33340954f46a", func := "eyewitness/eyewitnesslaw03.MatTells", spec := "matTells", unfollowed := true, recurses := true, apart := false }
def MatTellsSaid : Prop := matTellsRow.holds Try.pinned (OpenSpec.ofChange matTellsSpec)

/-- ITS FALSE NEIGHBOUR: 'it returns false'. Refute it at one input. -/
def matTellsWrong : ChangeSpec := { name := "matTells", fn := fun _ => fun
  | [d] => { results := [.lit (.bool false)], args := [d] }
  | _ => none }
def MatTellsWrongFalsely : Prop := matTellsRow.holds Try.pinned (OpenSpec.ofChange matTellsWrong)

/-- 'eyewitnesslaw04.HullTells': WHATEVER THE INPUT: true; the input reads as it did. -/
def hullTellsSpec : ChangeSpec := { name := "hullTells", fn := fun _ => fun
  | [d] => { results := [.lit (.bool true)], args := [d] }
  | _ => none }
def hullTellsRow : OpenClaim := { program := "ytkikoniihmieiaa", sum := "577208860efd85a31411ee420e580738e9901caa477ee32f287b33340954f46a", func := "eyewitness/eyewitnesslaw04.HullTells", spec := "hullTells", apart := false }
def HullTellsSaid : Prop := hullTellsRow.holds Try.pinned (OpenSpec.ofChange hullTellsSpec)

/-- ITS FALSE NEIGHBOUR: 'it returns false'. Refute it at one input. -/
def hullTellsWrong : ChangeSpec := { name := "hullTells", fn := fun _ => fun
  | [d] => { results := [.lit (.bool false)], args := [d] }
  | _ => none }
def HullTellsWrongFalsely : Prop := hullTellsRow.holds Try.pinned (OpenSpec.ofChange hullTellsWrong)

/-- 'eyewitnesslaw04.HullLeast': WHATEVER THE INPUT: true; the input reads as it did. -/
def hullLeastSpec : ChangeSpec := { name := "hullLeast", fn := fun _ => fun
  | [d1, d2] => { results := [.lit (.bool true)], args := [d1, d2] }
  | _ => none }
def hullLeastRow : OpenClaim := { program := "ytkikoniihmieiaa", sum := "577208860efd85a31411ee420e580738e9901caa477ee32f287b33340954f46a", func := "eyewitness/eyewitnesslaw04.HullLeast", spec := "hullLeast", apart := false }
def HullLeastSaid : Prop := hullLeastRow.holds Try.pinned (OpenSpec.ofChange hullLeastSpec)

/-- ITS FALSE NEIGHBOUR: 'it returns false'. Refute it at one input. -/
def hullLeastWrong : ChangeSpec := { name := "hullLeast", fn := fun _ => fun
  | [d1, d2] => { results := [.lit (.bool false)], args := [d1, d2] }
  | _ => none }
def HullLeastWrongFalsely : Prop := hullLeastRow.holds Try.pinned (OpenSpec.ofChange hullLeastWrong)

/-- 'eyewitnesslaw04.HullOrder': WHATEVER THE INPUT: true; the input reads as it did. -/
def hullOrderSpec : ChangeSpec := { name := "hullOrder", fn := fun _ => fun
  | [d1, d2, d3] => { results := [.lit (.bool true)], args := [d1, d2, d3] }
  | _ => none }
def hullOrderRow : OpenClaim := { program := "ytkikoniihmieiaa", sum := "577208860efd85a31411ee420e580738e9901caa477ee32f287b33340954f46a", func := "eyewitness/eyewitnesslaw04.HullOrder", spec := "hullOrder", apart := false }
def HullOrderSaid : Prop := hullOrderRow.holds Try.pinned (OpenSpec.ofChange hullOrderSpec)

/-- ITS FALSE NEIGHBOUR: 'it returns false'. Refute it at one input. -/
def hullOrderWrong : ChangeSpec := { name := "hullOrder", fn := fun _ => fun
  | [d1, d2, d3] => { results := [.lit (.bool false)], args := [d1, d2, d3] }
  | _ => none }
def HullOrderWrongFalsely : Prop := hullOrderRow.holds Try.pinned (OpenSpec.ofChange hullOrderWrong)

/-- 'eyewitnesslaw04.HullTurned': WHATEVER THE INPUT: true; the input reads as it did. -/
def hullTurnedSpec : ChangeSpec := { name := "hullTurned", fn := fun _ => fun
  | [d1, d2, d3] => { results := [.lit (.bool true)], args := [d1, d2, d3] }
  | _ => none }
def hullTurnedRow : OpenClaim := { program := "ytkikoniihmieiaa", sum := "577208860efd85a31411ee420e580738e9901caa477ee32f287b33340954f46a", func := "eyewitness/eyewitnesslaw04.HullTurned", spec := "hullTurned", apart := false }
def HullTurnedSaid : Prop := hullTurnedRow.holds Try.pinned (OpenSpec.ofChange hullTurnedSpec)

/-- ITS FALSE NEIGHBOUR: 'it returns false'. Refute it at one input. -/
def hullTurnedWrong : ChangeSpec := { name := "hullTurned", fn := fun _ => fun
  | [d1, d2, d3] => { results := [.lit (.bool false)], args := [d1, d2, d3] }
  | _ => none }
def HullTurnedWrongFalsely : Prop := hullTurnedRow.holds Try.pinned (OpenSpec.ofChange hullTurnedWrong)

/- THE SECOND FORM. 'bulk': how many values and letters a reading holds, each counted each time it is reached (what is shared counts as often as it is met; a slice's spare places count too). A statement '..UptoSaid' is the law's where the arguments, and the package variables that the reading takes, are together of bulk at most 1048576: NARROWER than '..Said'. Prove '..Said' where nothing that the law and all that it calls make is longer than what came in: it says more and counts as full. Else prove '..UptoSaid'. A law counts once. -/
mutual
def uptoBulk {H : Type} : DataW H → Nat
  | .lit (.string bytes) => bytes.length + 1
  | .lit _ => 1
  | .nil => 1
  | .ptr d => uptoBulk d + 1
  | .slice elems spare => uptoBulkAll elems + uptoBulkAll spare + 1
  | .agg parts => uptoBulkAll parts + 1
  | .iface _ d => uptoBulk d + 1
  | .map entries => uptoBulkEntries entries + 1
  | .held _ => 1
def uptoBulkAll {H : Type} : List (DataW H) → Nat
  | [] => 0
  | d :: r => uptoBulk d + uptoBulkAll r
def uptoBulkEntries {H : Type} : List (Lit × DataW H) → Nat
  | [] => 0
  | x :: r => uptoBulkEntry x + uptoBulkEntries r
def uptoBulkEntry {H : Type} : Lit × DataW H → Nat
  | (.string bytes, d) => bytes.length + uptoBulk d + 1
  | (_, d) => uptoBulk d + 1
 end
def uptoSmall : (H : Type) → List (DataW H) → Bool := fun _ ds => decide (uptoBulkAll ds ≤ 1048576)
def OpenSpec.upto (s : _root_.Go.ChangeSpec) : _root_.Go.OpenSpec := { _root_.Go.OpenSpec.ofChange s with cond := some uptoSmall }

/-- 'eyewitnesslaw03.MatTells', WHERE WHAT IT READS IS OF BULK AT MOST 1048576: true; the input reads as it did. -/
def matTellsUptoRow : OpenClaim := { program := "ytkikoniihmieiaa", sum := "577208860efd85a31411ee420e580738e9901caa477ee32f287b33340954f46a", func := "eyewitness/eyewitnesslaw03.MatTells", spec := "matTells", unfollowed := true, recurses := true, apart := false, narrowed := true }
def MatTellsUptoSaid : Prop := matTellsUptoRow.holds Try.pinned (OpenSpec.upto matTellsSpec)

/-- 'eyewitnesslaw04.HullTells', WHERE WHAT IT READS IS OF BULK AT MOST 1048576: true; the input reads as it did. -/
def hullTellsUptoRow : OpenClaim := { program := "ytkikoniihmieiaa", sum := "577208860efd85a31411ee420e580738e9901caa477ee32f287b33340954f46a", func := "eyewitness/eyewitnesslaw04.HullTells", spec := "hullTells", apart := false, narrowed := true }
def HullTellsUptoSaid : Prop := hullTellsUptoRow.holds Try.pinned (OpenSpec.upto hullTellsSpec)

/-- 'eyewitnesslaw04.HullLeast', WHERE WHAT IT READS IS OF BULK AT MOST 1048576: true; the input reads as it did. -/
def hullLeastUptoRow : OpenClaim := { program := "ytkikoniihmieiaa", sum := "577208860efd85a31411ee420e580738e9901caa477ee32f287b33340954f46a", func := "eyewitness/eyewitnesslaw04.HullLeast", spec := "hullLeast", apart := false, narrowed := true }
def HullLeastUptoSaid : Prop := hullLeastUptoRow.holds Try.pinned (OpenSpec.upto hullLeastSpec)

/-- 'eyewitnesslaw04.HullOrder', WHERE WHAT IT READS IS OF BULK AT MOST 1048576: true; the input reads as it did. -/
def hullOrderUptoRow : OpenClaim := { program := "ytkikoniihmieiaa", sum := "577208860efd85a31411ee420e580738e9901caa477ee32f287b33340954f46a", func := "eyewitness/eyewitnesslaw04.HullOrder", spec := "hullOrder", apart := false, narrowed := true }
def HullOrderUptoSaid : Prop := hullOrderUptoRow.holds Try.pinned (OpenSpec.upto hullOrderSpec)

/-- 'eyewitnesslaw04.HullTurned', WHERE WHAT IT READS IS OF BULK AT MOST 1048576: true; the input reads as it did. -/
def hullTurnedUptoRow : OpenClaim := { program := "ytkikoniihmieiaa", sum := "577208860efd85a31411ee420e580738e9901caa477ee32f287b33340954f46a", func := "eyewitness/eyewitnesslaw04.HullTurned", spec := "hullTurned", apart := false, narrowed := true }
def HullTurnedUptoSaid : Prop := hullTurnedUptoRow.holds Try.pinned (OpenSpec.upto hullTurnedSpec)

end Rows
end Go.Proofs.Ytkikoniihmieiaa
