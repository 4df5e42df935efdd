/- The contracts of the document's own answers of layer 6: Spot, Number, Same. -/
import Derived.Test.YtcdfpodhiogpiaaHistRef
import Derived.Test.YtcdfpodhiogpiaaPlan
namespace Go.Proofs.Ytcdfpodhiogpiaa
open Go.RowKit
set_option linter.unusedVariables false

/-- a variable of two numbers -/
def TwoI (w : World) (g : Nat) (t : TypeId) (x y : Int) : Prop := Blk w g t [.int .i64 x, .int .i64 y]
section
variable {w w' : World} {g : Nat} {t : TypeId} {x y : Int}
theorem TwoI.c0 (h : TwoI w g t x y) : w.cell? ⟨g, 0, none⟩ = some (.int .i64 x) := Blk.cell h 0
theorem TwoI.c1 (h : TwoI w g t x y) : w.cell? ⟨g, 1, none⟩ = some (.int .i64 y) := Blk.cell h 1
theorem TwoI.new (w : World) (t : TypeId) (x y : Int) : TwoI (w.alloc (.cells #[.int .i64 x, .int .i64 y] t)) w.heap.size t x y := Blk.new w t _
theorem TwoI.put (h : TwoI w g t x y) (x' y' : Int) : TwoI ((w.setCell ⟨g, 0, none⟩ (.int .i64 x')).setCell ⟨g, 1, none⟩ (.int .i64 y')) g t x' y' :=
  Blk.set_ (Blk.set_ h 0 (.int .i64 x')) 1 (.int .i64 y')
theorem TwoI.below (h : TwoI w g t x y) (hb : Below w.heap.size w w') : TwoI w' g t x y := Blk.below h hb h.lt
end

def spotS : Option (Nat × Nat) → Int | none => 0 | some x => x.1
def spotP : Option (Nat × Nat) → Int | none => 0 | some x => x.2
def spotB : Option (Nat × Nat) → Bool | none => false | some _ => true
def RetSpot (o : Option (Nat × Nat)) (w : World) (e : Ending) (w' : World) : Prop := e = .returned (.tuple #[.agg #[.int .i64 (spotS o), .int .i64 (spotP o)], .bool (spotB o)]) ∧ Below w.heap.size w w'
def numV : Option Nat → Int | none => 0 | some x => x
def numB : Option Nat → Bool | none => false | some _ => true
def RetNum (o : Option Nat) (w : World) (e : Ending) (w' : World) : Prop := e = .returned (.tuple #[.int .i64 (numV o), .bool (numB o)]) ∧ Below w.heap.size w w'


theorem toList_inj {a b : ByteArray} (h : a.toList = b.toList) : a = b := by
  rw [ByteArray.toList_eq, ByteArray.toList_eq] at h
  obtain ⟨⟨x⟩⟩ := a
  obtain ⟨⟨y⟩⟩ := b
  have h' : x = y := h
  rw [h']
theorem sameH_no_len {a b : List (List OpT)} (h : a.length ≠ b.length) : decide (a = b) = false := decide_eq_false (fun e => h (by rw [e]))
theorem sameH_no_sess {a b : List (List OpT)} {i : Nat} {s t : List OpT} (ha : a[i]? = some s) (hb : b[i]? = some t) (h : s.length ≠ t.length) : decide (a = b) = false :=
  decide_eq_false (fun e => by subst e; rw [ha] at hb; injection hb with hb; exact h (by rw [hb]))
theorem sameH_no_op {a b : List (List OpT)} {i k : Nat} {s t : List OpT} {x y : OpT} (ha : a[i]? = some s) (hb : b[i]? = some t) (hx : s[k]? = some x) (hy : t[k]? = some y) (h : x ≠ y) : decide (a = b) = false :=
  decide_eq_false (fun e => by subst e; rw [ha] at hb; injection hb with hb; subst hb; rw [hx] at hy; injection hy with hy; exact h hy)
theorem sess_eq {s t : List OpT} (hl : s.length = t.length) (h : ∀ k, k < s.length → s[k]? = t[k]?) : s = t :=
  List.ext_getElem? (fun k => by
    by_cases hk : k < s.length
    · exact h k hk
    · rw [List.getElem?_eq_none (by omega), List.getElem?_eq_none (by omega)])
theorem sameH_yes {a b : List (List OpT)} (hl : a.length = b.length) (h : ∀ i, i < a.length → a[i]? = b[i]?) : decide (a = b) = true :=
  decide_eq_true (List.ext_getElem? (fun k => by
    by_cases hk : k < a.length
    · exact h k hk
    · rw [List.getElem?_eq_none (by omega), List.getElem?_eq_none (by omega)]))

end Go.Proofs.Ytcdfpodhiogpiaa
