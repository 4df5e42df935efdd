/-
  No cell of these rows narrows 'for every input' (looked for: loops, veiled, ifaces, maps, wideKeys, modest, calm, conditions, laid).
  DERIVED. THE GIVEN ROWS OF THIS SEAT. 3 by the template 'for every input the law returns true; each argument reads behind the call as it read before'; 0 by the template 'total and deterministic' (their statements: YtmfcnlolfhkeeaaTotals.lean).
  GIVEN WITH THE SEED: the statements are not yours to turn. If you find one false, say at which input.
  Laid BY PROGRAM, IN A SANDBOX (cutbox-rows.mjs): the forced cells as the released guide's own fill.sh prints them over the translation 65249e48673c2866… (all of the seat's roots in one cut). By AI agents, Wed Nov 11 2026. No macro, syntax, notation, axiom, sorry.
-/
import Derived.Test.YtmfcnlolfhkeeaaChecked
import GoSem.Claim
import GoSem.ClaimJoined
import GoSem.ClaimMapViews
import Derived.JoinedTies
import Derived.KernelRfl
namespace Go.Proofs.Ytmfcnlolfhkeeaa
/- THE CELL 'sum', in the pinned program and in every row, IS THE sha256 OF THE DUMP (.gsa) THAT YtmfcnlolfhkeeaaProg.lean LOADS. Nothing in Lean hashes anything: it is a label: what it is worth is what the hold of that sum in a sandbox is worth. -/
noncomputable def Try.pinned : Pinned := { name := "ytmfcnlolfhkeeaa", sum := "65249e48673c2866889b2650b3374e255dfb0d3594aea1604c4fe70252baecc9", checked := Try.checked }
namespace Rows
def none {H : Type} : Left H := { results := [], args := [] }

/-- 'eyewitnesslaw09.InternTells': WHATEVER THE INPUT: true; the input reads as it did. -/
def internTellsSpec : ChangeSpec := { name := "internTells", fn := fun _ => fun
  | [d1, d2, d3] => { results := [.lit (.bool true)], args := [d1, d2, d3] }
  | _ => none }
def internTellsRow : OpenClaim := { program := "ytmfcnlolfhkeeaa", sum := "65249e48673c2866889b2650b3374e255dfb0d3594aea1604c4fe70252baecc9", func := "eyewitness/eyewitnesslaw09.InternTells", spec := "internTells", unfollowed := true, recurses := true, apart := false }
def InternTellsSaid : Prop := internTellsRow.holds Try.pinned (OpenSpec.ofChange internTellsSpec)

/-- ITS FALSE NEIGHBOUR: 'it returns false'. Refute it at one input. -/
def internTellsWrong : ChangeSpec := { name := "internTells", fn := fun _ => fun
  | [d1, d2, d3] => { results := [.lit (.bool false)], args := [d1, d2, d3] }
  | _ => none }
def InternTellsWrongFalsely : Prop := internTellsRow.holds Try.pinned (OpenSpec.ofChange internTellsWrong)

/-- 'eyewitnesslaw09.InternBack': WHATEVER THE INPUT: true; the input reads as it did. -/
def internBackSpec : ChangeSpec := { name := "internBack", fn := fun _ => fun
  | [d] => { results := [.lit (.bool true)], args := [d] }
  | _ => none }
def internBackRow : OpenClaim := { program := "ytmfcnlolfhkeeaa", sum := "65249e48673c2866889b2650b3374e255dfb0d3594aea1604c4fe70252baecc9", func := "eyewitness/eyewitnesslaw09.InternBack", spec := "internBack", unfollowed := true, recurses := true, apart := false }
def InternBackSaid : Prop := internBackRow.holds Try.pinned (OpenSpec.ofChange internBackSpec)

/-- ITS FALSE NEIGHBOUR: 'it returns false'. Refute it at one input. -/
def internBackWrong : ChangeSpec := { name := "internBack", fn := fun _ => fun
  | [d] => { results := [.lit (.bool false)], args := [d] }
  | _ => none }
def InternBackWrongFalsely : Prop := internBackRow.holds Try.pinned (OpenSpec.ofChange internBackWrong)

/-- 'eyewitnesslaw09.InternSpots': WHATEVER THE INPUT: true; the input reads as it did. -/
def internSpotsSpec : ChangeSpec := { name := "internSpots", fn := fun _ => fun
  | [d] => { results := [.lit (.bool true)], args := [d] }
  | _ => none }
def internSpotsRow : OpenClaim := { program := "ytmfcnlolfhkeeaa", sum := "65249e48673c2866889b2650b3374e255dfb0d3594aea1604c4fe70252baecc9", func := "eyewitness/eyewitnesslaw09.InternSpots", spec := "internSpots", unfollowed := true, recurses := true, apart := false }
def InternSpotsSaid : Prop := internSpotsRow.holds Try.pinned (OpenSpec.ofChange internSpotsSpec)

/-- ITS FALSE NEIGHBOUR: 'it returns false'. Refute it at one input. -/
def internSpotsWrong : ChangeSpec := { name := "internSpots", fn := fun _ => fun
  | [d] => { results := [.lit (.bool false)], args := [d] }
  | _ => none }
def InternSpotsWrongFalsely : Prop := internSpotsRow.holds Try.pinned (OpenSpec.ofChange internSpotsWrong)

/- THE SECOND FORM. 'bulk': how many values and letters a reading holds, each counted each time it is reached (what is shared counts as often as it is met; a slice's spare places count too). A statement '..UptoSaid' is the law's where the arguments, and the package variables that the reading takes, are together of bulk at most 1048576: NARROWER than '..Said'. Prove '..Said' where nothing that the law and all that it calls make is longer than what came in: it says more and counts as full. Else prove '..UptoSaid'. A law counts once. -/
mutual
def uptoBulk {H : Type} : DataW H → Nat
  | .lit (.string bytes) => bytes.length + 1
  | .lit _ => 1
  | .nil => 1
  | .ptr d => uptoBulk d + 1
  | .slice elems spare => uptoBulkAll elems + uptoBulkAll spare + 1
  | .agg parts => uptoBulkAll parts + 1
  | .iface _ d => uptoBulk d + 1
  | .map entries => uptoBulkEntries entries + 1
  | .held _ => 1
def uptoBulkAll {H : Type} : List (DataW H) → Nat
  | [] => 0
  | d :: r => uptoBulk d + uptoBulkAll r
def uptoBulkEntries {H : Type} : List (Lit × DataW H) → Nat
  | [] => 0
  | x :: r => uptoBulkEntry x + uptoBulkEntries r
def uptoBulkEntry {H : Type} : Lit × DataW H → Nat
  | (.string bytes, d) => bytes.length + uptoBulk d + 1
  | (_, d) => uptoBulk d + 1
 end
def uptoSmall : (H : Type) → List (DataW H) → Bool := fun _ ds => decide (uptoBulkAll ds ≤ 1048576)
def OpenSpec.upto (s : _root_.Go.ChangeSpec) : _root_.Go.OpenSpec := { _root_.Go.OpenSpec.ofChange s with cond := some uptoSmall }

/-- 'eyewitnesslaw09.InternTells', WHERE WHAT IT READS IS OF BULK AT MOST 1048576: true; the input reads as it did. -/
def internTellsUptoRow : OpenClaim := { program := "ytmfcnlolfhkeeaa", sum := "65249e48673c2866889b2650b3374e255dfb0d3594aea1604c4fe70252baecc9", func := "eyewitness/eyewitnesslaw09.InternTells", spec := "internTells", unfollowed := true, recurses := true, apart := false, narrowed := true }
def InternTellsUptoSaid : Prop := internTellsUptoRow.holds Try.pinned (OpenSpec.upto internTellsSpec)

/-- 'eyewitnesslaw09.InternBack', WHERE WHAT IT READS IS OF BULK AT MOST 1048576: true; the input reads as it did. -/
def internBackUptoRow : OpenClaim := { program := "ytmfcnlolfhkeeaa", sum := "65249e48673c2866889b2650b3374e255dfb0d3594aea1604c4fe70252baecc9", func := "eyewitness/eyewitnesslaw09.InternBack", spec := "internBack", unfollowed := true, recurses := true, apart := false, narrowed := true }
def InternBackUptoSaid : Prop := internBackUptoRow.holds Try.pinned (OpenSpec.upto internBackSpec)

/-- 'eyewitnesslaw09.InternSpots', WHERE WHAT IT READS IS OF BULK AT MOST 1048576: true; the input reads as it did. -/
def internSpotsUptoRow : OpenClaim := { program := "ytmfcnlolfhkeeaa", sum := "65249e48673c2866889b2650b3374e255dfb0d3594aea1604c4fe70252baecc9", func := "eyewitness/eyewitnesslaw09.InternSpots", spec := "internSpots", unfollowed := true, recurses := true, apart := false, narrowed := true }
def InternSpotsUptoSaid : Prop := internSpotsUptoRow.holds Try.pinned (OpenSpec.upto internSpotsSpec)

end Rows
end Go.Proofs.Ytmfcnlolfhkeeaa
