/- An argument opened: a slice of integers by its cell, inside a struct. -/
import Derived.Test.YtkikoniihmieiaaLaw4E
namespace Go.Proofs.Ytkikoniihmieiaa
open Go.RowKit Go.ChangeShapes Go.WideShapes Go.Deep Go.Joins
set_option linter.unusedVariables false
section
variable {H : Type} {enc : TypeId × Value → H} {P : Program} {w : World} {base : Nat} {spare : Nat → Bool} {held : Bool}
theorem open_intsV {t e : TypeId} {fuel : Nat} {v : Value} {x : DataW H × List MemPlace} (ht : P.underlying t = some (.slice e)) (hi : P.underlying e = some (.int .i64)) (ce : P.cellsOf e = 1)
    (h : DataW.trod enc P w base spare held fuel t [v] = some x) : ∃ (A : Option Addr) (len cap : Nat) (zs : List Int), v = .slice A len cap ∧ Ints w A len zs ∧ len ≤ 9223372036854775807 := by
  obtain ⟨A, len, cap, rfl⟩ : ∃ A len cap, v = .slice A len cap := by
    rcases open_slice ht h with ⟨hcs, _⟩ | ⟨a, l, c, m, n, D, Pl, hcs, _⟩
    · injection hcs with hcs; exact ⟨_, _, _, hcs⟩
    · injection hcs with hcs; exact ⟨_, _, _, hcs⟩
  obtain ⟨zs, h1, h2⟩ := open_intsC ht hi ce h
  exact ⟨A, len, cap, zs, rfl, h1, h2⟩
end
end Go.Proofs.Ytkikoniihmieiaa
