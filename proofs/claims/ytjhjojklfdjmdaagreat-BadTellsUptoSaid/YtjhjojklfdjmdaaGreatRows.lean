/-
  No cell of these rows narrows 'for every input' (looked for: loops, veiled, ifaces, maps, wideKeys, modest, calm, conditions, laid).
  DERIVED. THE GIVEN ROWS OF THIS SEAT. 3 by the template 'for every input the law returns true; each argument reads behind the call as it read before'; 0 by the template 'total and deterministic' (their statements: YtjhjojklfdjmdaaGreatTotals.lean).
  GIVEN WITH THE SEED: the statements are not yours to turn. If you find one false, say at which input.
  Laid BY PROGRAM, IN A SANDBOX (cutbox-rows.mjs): the forced cells as the released guide's own fill.sh prints them over the translation b7e50967bec7175d… (all of the seat's roots in one cut). By AI agents, Wed Nov 11 2026. No macro, syntax, notation, axiom, sorry.
-/
import Derived.Test.YtjhjojklfdjmdaaGreatChecked
import GoSem.Claim
import GoSem.ClaimJoined
import GoSem.ClaimMapViews
import Derived.JoinedTies
import Derived.KernelRfl
namespace Go.Proofs.YtjhjojklfdjmdaaGreat
/- THE CELL 'sum', in the pinned program and in every row, IS THE sha256 OF THE DUMP (.gsa) THAT YtjhjojklfdjmdaaGreatProg.lean LOADS. Nothing in Lean hashes anything: it is a label: what it is worth is what the hold of that sum in a sandbox is worth. -/
noncomputable def Tryz.pinned : Pinned := { name := "ytjhjojklfdjmdaagreat", sum := "b7e50967bec7175d17f65bccf7aaf1ee447902ee75f723c6f0884059a7b01d1a", checked := Tryz.checked }
namespace Rows
def none {H : Type} : Left H := { results := [], args := [] }

/-- 'eyewitnesslaw19.BadTells': WHATEVER THE INPUT: true; the input reads as it did. -/
def badTellsSpec : ChangeSpec := { name := "badTells", fn := fun _ => fun
  | [d1, d2] => { results := [.lit (.bool true)], args := [d1, d2] }
  | _ => none }
def badTellsRow : OpenClaim := { program := "ytjhjojklfdjmdaagreat", sum := "b7e50967bec7175d17f65bccf7aaf1ee447902ee75f723c6f0884059a7b01d1a", func := "eyewitness/eyewitnesslaw19.BadTells", spec := "badTells", unfollowed := true, recurses := true, plainKeys := false, apart := false }
def BadTellsSaid : Prop := badTellsRow.holds Tryz.pinned (OpenSpec.ofChange badTellsSpec)

/-- ITS FALSE NEIGHBOUR: 'it returns false'. Refute it at one input. -/
def badTellsWrong : ChangeSpec := { name := "badTells", fn := fun _ => fun
  | [d1, d2] => { results := [.lit (.bool false)], args := [d1, d2] }
  | _ => none }
def BadTellsWrongFalsely : Prop := badTellsRow.holds Tryz.pinned (OpenSpec.ofChange badTellsWrong)

/-- 'eyewitnesslaw19.BadLevels': WHATEVER THE INPUT: true; the input reads as it did. -/
def badLevelsSpec : ChangeSpec := { name := "badLevels", fn := fun _ => fun
  | [d] => { results := [.lit (.bool true)], args := [d] }
  | _ => none }
def badLevelsRow : OpenClaim := { program := "ytjhjojklfdjmdaagreat", sum := "b7e50967bec7175d17f65bccf7aaf1ee447902ee75f723c6f0884059a7b01d1a", func := "eyewitness/eyewitnesslaw19.BadLevels", spec := "badLevels", unfollowed := true, recurses := true, plainKeys := false, apart := false }
def BadLevelsSaid : Prop := badLevelsRow.holds Tryz.pinned (OpenSpec.ofChange badLevelsSpec)

/-- ITS FALSE NEIGHBOUR: 'it returns false'. Refute it at one input. -/
def badLevelsWrong : ChangeSpec := { name := "badLevels", fn := fun _ => fun
  | [d] => { results := [.lit (.bool false)], args := [d] }
  | _ => none }
def BadLevelsWrongFalsely : Prop := badLevelsRow.holds Tryz.pinned (OpenSpec.ofChange badLevelsWrong)

/-- 'eyewitnesslaw19.BadFields': WHATEVER THE INPUT: true; the input reads as it did. -/
def badFieldsSpec : ChangeSpec := { name := "badFields", fn := fun _ => fun
  | [d1, d2] => { results := [.lit (.bool true)], args := [d1, d2] }
  | _ => none }
def badFieldsRow : OpenClaim := { program := "ytjhjojklfdjmdaagreat", sum := "b7e50967bec7175d17f65bccf7aaf1ee447902ee75f723c6f0884059a7b01d1a", func := "eyewitness/eyewitnesslaw19.BadFields", spec := "badFields", unfollowed := true, recurses := true, plainKeys := false, apart := false }
def BadFieldsSaid : Prop := badFieldsRow.holds Tryz.pinned (OpenSpec.ofChange badFieldsSpec)

/-- ITS FALSE NEIGHBOUR: 'it returns false'. Refute it at one input. -/
def badFieldsWrong : ChangeSpec := { name := "badFields", fn := fun _ => fun
  | [d1, d2] => { results := [.lit (.bool false)], args := [d1, d2] }
  | _ => none }
def BadFieldsWrongFalsely : Prop := badFieldsRow.holds Tryz.pinned (OpenSpec.ofChange badFieldsWrong)

/- THE SECOND FORM. 'bulk': how many values and letters a reading holds, each counted each time it is reached (what is shared counts as often as it is met; a slice's spare places count too). A statement '..UptoSaid' is the law's where the arguments, and the package variables that the reading takes, are together of bulk at most 1048576: NARROWER than '..Said'. Prove '..Said' where nothing that the law and all that it calls make is longer than what came in: it says more and counts as full. Else prove '..UptoSaid'. A law counts once. -/
mutual
def uptoBulk {H : Type} : DataW H → Nat
  | .lit (.string bytes) => bytes.length + 1
  | .lit _ => 1
  | .nil => 1
  | .ptr d => uptoBulk d + 1
  | .slice elems spare => uptoBulkAll elems + uptoBulkAll spare + 1
  | .agg parts => uptoBulkAll parts + 1
  | .iface _ d => uptoBulk d + 1
  | .map entries => uptoBulkEntries entries + 1
  | .held _ => 1
def uptoBulkAll {H : Type} : List (DataW H) → Nat
  | [] => 0
  | d :: r => uptoBulk d + uptoBulkAll r
def uptoBulkEntries {H : Type} : List (Lit × DataW H) → Nat
  | [] => 0
  | x :: r => uptoBulkEntry x + uptoBulkEntries r
def uptoBulkEntry {H : Type} : Lit × DataW H → Nat
  | (.string bytes, d) => bytes.length + uptoBulk d + 1
  | (_, d) => uptoBulk d + 1
 end
def uptoSmall : (H : Type) → List (DataW H) → Bool := fun _ ds => decide (uptoBulkAll ds ≤ 1048576)
def OpenSpec.upto (s : _root_.Go.ChangeSpec) : _root_.Go.OpenSpec := { _root_.Go.OpenSpec.ofChange s with cond := some uptoSmall }

/-- 'eyewitnesslaw19.BadTells', WHERE WHAT IT READS IS OF BULK AT MOST 1048576: true; the input reads as it did. -/
def badTellsUptoRow : OpenClaim := { program := "ytjhjojklfdjmdaagreat", sum := "b7e50967bec7175d17f65bccf7aaf1ee447902ee75f723c6f0884059a7b01d1a", func := "eyewitness/eyewitnesslaw19.BadTells", spec := "badTells", unfollowed := true, recurses := true, plainKeys := false, apart := false, narrowed := true }
def BadTellsUptoSaid : Prop := badTellsUptoRow.holds Tryz.pinned (OpenSpec.upto badTellsSpec)

/-- 'eyewitnesslaw19.BadLevels', WHERE WHAT IT READS IS OF BULK AT MOST 1048576: true; the input reads as it did. -/
def badLevelsUptoRow : OpenClaim := { program := "ytjhjojklfdjmdaagreat", sum := "b7e50967bec7175d17f65bccf7aaf1ee447902ee75f723c6f0884059a7b01d1a", func := "eyewitness/eyewitnesslaw19.BadLevels", spec := "badLevels", unfollowed := true, recurses := true, plainKeys := false, apart := false, narrowed := true }
def BadLevelsUptoSaid : Prop := badLevelsUptoRow.holds Tryz.pinned (OpenSpec.upto badLevelsSpec)

/-- 'eyewitnesslaw19.BadFields', WHERE WHAT IT READS IS OF BULK AT MOST 1048576: true; the input reads as it did. -/
def badFieldsUptoRow : OpenClaim := { program := "ytjhjojklfdjmdaagreat", sum := "b7e50967bec7175d17f65bccf7aaf1ee447902ee75f723c6f0884059a7b01d1a", func := "eyewitness/eyewitnesslaw19.BadFields", spec := "badFields", unfollowed := true, recurses := true, plainKeys := false, apart := false, narrowed := true }
def BadFieldsUptoSaid : Prop := badFieldsUptoRow.holds Tryz.pinned (OpenSpec.upto badFieldsSpec)

end Rows
end Go.Proofs.YtjhjojklfdjmdaaGreat
