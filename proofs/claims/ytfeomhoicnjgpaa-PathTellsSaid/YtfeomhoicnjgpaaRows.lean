/-
  No cell of these rows narrows 'for every input' (looked for: loops, veiled, ifaces, maps, wideKeys, modest, calm, conditions, laid).
  DERIVED. THE GIVEN ROWS OF THIS SEAT. 4 by the template 'for every input the law returns true; each argument reads behind the call as it read before'; 0 by the template 'total and deterministic' (their statements: YtfeomhoicnjgpaaTotals.lean).
  GIVEN WITH THE SEED: the statements are not yours to turn. If you find one false, say at which input.
  Laid BY PROGRAM, IN A SANDBOX (cutbox-rows.mjs): the forced cells as the released guide's own fill.sh prints them over the translation b7fc1ff670d230f3… (all of the seat's roots in one cut). By AI agents, Wed Nov 11 2026. No macro, syntax, notation, axiom, sorry.
-/
import Derived.Test.YtfeomhoicnjgpaaChecked
import GoSem.Claim
import GoSem.ClaimJoined
import GoSem.ClaimMapViews
import Derived.JoinedTies
import Derived.KernelRfl
namespace Go.Proofs.Ytfeomhoicnjgpaa
/- THE CELL 'sum', in the pinned program and in every row, IS THE sha256 OF THE DUMP (.gsa) THAT YtfeomhoicnjgpaaProg.lean LOADS. Nothing in Lean hashes anything: it is a label: what it is worth is what the hold of that sum in a sandbox is worth. -/
noncomputable def Try.pinned : Pinned := { name := "ytfeomhoicnjgpaa", sum := "b7fc1ff670d230f3b1daeb5e700e810153ecba682e3fd1332aee35b3d8036e0d", checked := Try.checked }
namespace Rows
def none {H : Type} : Left H := { results := [], args := [] }

/-- 'eyewitnesslaw11.OriginTells': WHATEVER THE INPUT: true; the input reads as it did. -/
def originTellsSpec : ChangeSpec := { name := "originTells", fn := fun _ => fun
  | [d1, d2, d3] => { results := [.lit (.bool true)], args := [d1, d2, d3] }
  | _ => none }
def originTellsRow : OpenClaim := { program := "ytfeomhoicnjgpaa", sum := "b7fc1ff670d230f3b1daeb5e700e810153ecba682e3fd1332aee35b3d8036e0d", func := "eyewitness/eyewitnesslaw11.OriginTells", spec := "originTells", plainKeys := false, apart := false }
def OriginTellsSaid : Prop := originTellsRow.holds Try.pinned (OpenSpec.ofChange originTellsSpec)

/-- ITS FALSE NEIGHBOUR: 'it returns false'. Refute it at one input. -/
def originTellsWrong : ChangeSpec := { name := "originTells", fn := fun _ => fun
  | [d1, d2, d3] => { results := [.lit (.bool false)], args := [d1, d2, d3] }
  | _ => none }
def OriginTellsWrongFalsely : Prop := originTellsRow.holds Try.pinned (OpenSpec.ofChange originTellsWrong)

/-- 'eyewitnesslaw14.PathTells': WHATEVER THE INPUT: true; the input reads as it did. -/
def pathTellsSpec : ChangeSpec := { name := "pathTells", fn := fun _ => fun
  | [d] => { results := [.lit (.bool true)], args := [d] }
  | _ => none }
def pathTellsRow : OpenClaim := { program := "ytfeomhoicnjgpaa", sum := "b7fc1ff670d230f3b1daeb5e700e810153ecba682e3fd1332aee35b3d8036e0d", func := "eyewitness/eyewitnesslaw14.PathTells", spec := "pathTells", plainKeys := false, apart := false }
def PathTellsSaid : Prop := pathTellsRow.holds Try.pinned (OpenSpec.ofChange pathTellsSpec)

/-- ITS FALSE NEIGHBOUR: 'it returns false'. Refute it at one input. -/
def pathTellsWrong : ChangeSpec := { name := "pathTells", fn := fun _ => fun
  | [d] => { results := [.lit (.bool false)], args := [d] }
  | _ => none }
def PathTellsWrongFalsely : Prop := pathTellsRow.holds Try.pinned (OpenSpec.ofChange pathTellsWrong)

/-- 'eyewitnesslaw14.PathHull': WHATEVER THE INPUT: true; the input reads as it did. -/
def pathHullSpec : ChangeSpec := { name := "pathHull", fn := fun _ => fun
  | [d1, d2, d3] => { results := [.lit (.bool true)], args := [d1, d2, d3] }
  | _ => none }
def pathHullRow : OpenClaim := { program := "ytfeomhoicnjgpaa", sum := "b7fc1ff670d230f3b1daeb5e700e810153ecba682e3fd1332aee35b3d8036e0d", func := "eyewitness/eyewitnesslaw14.PathHull", spec := "pathHull", plainKeys := false, apart := false }
def PathHullSaid : Prop := pathHullRow.holds Try.pinned (OpenSpec.ofChange pathHullSpec)

/-- ITS FALSE NEIGHBOUR: 'it returns false'. Refute it at one input. -/
def pathHullWrong : ChangeSpec := { name := "pathHull", fn := fun _ => fun
  | [d1, d2, d3] => { results := [.lit (.bool false)], args := [d1, d2, d3] }
  | _ => none }
def PathHullWrongFalsely : Prop := pathHullRow.holds Try.pinned (OpenSpec.ofChange pathHullWrong)

/-- 'eyewitnesslaw14.PathShort': WHATEVER THE INPUT: true; the input reads as it did. -/
def pathShortSpec : ChangeSpec := { name := "pathShort", fn := fun _ => fun
  | [d] => { results := [.lit (.bool true)], args := [d] }
  | _ => none }
def pathShortRow : OpenClaim := { program := "ytfeomhoicnjgpaa", sum := "b7fc1ff670d230f3b1daeb5e700e810153ecba682e3fd1332aee35b3d8036e0d", func := "eyewitness/eyewitnesslaw14.PathShort", spec := "pathShort", plainKeys := false, apart := false }
def PathShortSaid : Prop := pathShortRow.holds Try.pinned (OpenSpec.ofChange pathShortSpec)

/-- ITS FALSE NEIGHBOUR: 'it returns false'. Refute it at one input. -/
def pathShortWrong : ChangeSpec := { name := "pathShort", fn := fun _ => fun
  | [d] => { results := [.lit (.bool false)], args := [d] }
  | _ => none }
def PathShortWrongFalsely : Prop := pathShortRow.holds Try.pinned (OpenSpec.ofChange pathShortWrong)

/- THE SECOND FORM. 'bulk': how many values and letters a reading holds, each counted each time it is reached (what is shared counts as often as it is met; a slice's spare places count too). A statement '..UptoSaid' is the law's where the arguments, and the package variables that the reading takes, are together of bulk at most 1048576: NARROWER than '..Said'. Prove '..Said' where nothing that the law and all that it calls make is longer than what came in: it says more and counts as full. Else prove '..UptoSaid'. A law counts once. -/
mutual
def uptoBulk {H : Type} : DataW H → Nat
  | .lit (.string bytes) => bytes.length + 1
  | .lit _ => 1
  | .nil => 1
  | .ptr d => uptoBulk d + 1
  | .slice elems spare => uptoBulkAll elems + uptoBulkAll spare + 1
  | .agg parts => uptoBulkAll parts + 1
  | .iface _ d => uptoBulk d + 1
  | .map entries => uptoBulkEntries entries + 1
  | .held _ => 1
def uptoBulkAll {H : Type} : List (DataW H) → Nat
  | [] => 0
  | d :: r => uptoBulk d + uptoBulkAll r
def uptoBulkEntries {H : Type} : List (Lit × DataW H) → Nat
  | [] => 0
  | x :: r => uptoBulkEntry x + uptoBulkEntries r
def uptoBulkEntry {H : Type} : Lit × DataW H → Nat
  | (.string bytes, d) => bytes.length + uptoBulk d + 1
  | (_, d) => uptoBulk d + 1
 end
def uptoSmall : (H : Type) → List (DataW H) → Bool := fun _ ds => decide (uptoBulkAll ds ≤ 1048576)
def OpenSpec.upto (s : _root_.Go.ChangeSpec) : _root_.Go.OpenSpec := { _root_.Go.OpenSpec.ofChange s with cond := some uptoSmall }

/-- 'eyewitnesslaw11.OriginTells', WHERE WHAT IT READS IS OF BULK AT MOST 1048576: true; the input reads as it did. -/
def originTellsUptoRow : OpenClaim := { program := "ytfeomhoicnjgpaa", sum := "b7fc1ff670d230f3b1daeb5e700e810153ecba682e3fd1332aee35b3d8036e0d", func := "eyewitness/eyewitnesslaw11.OriginTells", spec := "originTells", plainKeys := false, apart := false, narrowed := true }
def OriginTellsUptoSaid : Prop := originTellsUptoRow.holds Try.pinned (OpenSpec.upto originTellsSpec)

/-- 'eyewitnesslaw14.PathTells', WHERE WHAT IT READS IS OF BULK AT MOST 1048576: true; the input reads as it did. -/
def pathTellsUptoRow : OpenClaim := { program := "ytfeomhoicnjgpaa", sum := "b7fc1ff670d230f3b1daeb5e700e810153ecba682e3fd1332aee35b3d8036e0d", func := "eyewitness/eyewitnesslaw14.PathTells", spec := "pathTells", plainKeys := false, apart := false, narrowed := true }
def PathTellsUptoSaid : Prop := pathTellsUptoRow.holds Try.pinned (OpenSpec.upto pathTellsSpec)

/-- 'eyewitnesslaw14.PathHull', WHERE WHAT IT READS IS OF BULK AT MOST 1048576: true; the input reads as it did. -/
def pathHullUptoRow : OpenClaim := { program := "ytfeomhoicnjgpaa", sum := "b7fc1ff670d230f3b1daeb5e700e810153ecba682e3fd1332aee35b3d8036e0d", func := "eyewitness/eyewitnesslaw14.PathHull", spec := "pathHull", plainKeys := false, apart := false, narrowed := true }
def PathHullUptoSaid : Prop := pathHullUptoRow.holds Try.pinned (OpenSpec.upto pathHullSpec)

/-- 'eyewitnesslaw14.PathShort', WHERE WHAT IT READS IS OF BULK AT MOST 1048576: true; the input reads as it did. -/
def pathShortUptoRow : OpenClaim := { program := "ytfeomhoicnjgpaa", sum := "b7fc1ff670d230f3b1daeb5e700e810153ecba682e3fd1332aee35b3d8036e0d", func := "eyewitness/eyewitnesslaw14.PathShort", spec := "pathShort", plainKeys := false, apart := false, narrowed := true }
def PathShortUptoSaid : Prop := pathShortUptoRow.holds Try.pinned (OpenSpec.upto pathShortSpec)

end Rows
end Go.Proofs.Ytfeomhoicnjgpaa
