/- The code's own contracts of layer 5 at db37a9ac: what is cut, runs of digits, what is written, sums; Get and Span. -/
import Derived.Test.YtkccefgmiaoinaaNumRef
import Derived.Test.YtkccefgmiaoinaaNumGet
import Derived.Test.YtkccefgmiaoinaaNumPut
import Derived.Lib.Slices
import Derived.Lib.Strings
namespace Go.Proofs.Ytkccefgmiaoinaa
open Go.RowKit
set_option linter.unusedVariables false

def RetS (l : List UInt8) (w : World) (e : Ending) (w' : World) : Prop := e = .returned (.string ⟨l.toArray⟩) ∧ Below w.heap.size w w'
def RetI (z : Int) (w : World) (e : Ending) (w' : World) : Prop := e = .returned (.int .i64 z) ∧ Below w.heap.size w w'

theorem head_byte (s : ByteArray) (h : 0 < s.size) : ∃ r, s.data.toList = s[0]'h :: r := by
  have hb := byte_at s 0 h
  cases hh : s.data.toList with
  | nil => rw [hh] at hb; simp at hb
  | cons y r => rw [hh] at hb; simp at hb; subst hb; exact ⟨r, rfl⟩
theorem extract_tail (s : ByteArray) (h : 0 < s.size) : (s.extract 1 s.size).data.toList = s.data.toList.tail := by
  rw [ByteArray.data_extract, Array.toList_extract, List.extract, List.drop_one]
  exact List.take_of_length_le (by rw [List.length_tail, size_list]; exact Nat.le_refl _)
theorem bytes_ext {s t : ByteArray} (h : s.data.toList = t.data.toList) : s = t := by
  obtain ⟨⟨a⟩⟩ := s; obtain ⟨⟨b⟩⟩ := t
  simp at h; subst h; rfl
theorem extract_one (s : ByteArray) (h : 0 < s.size) : (s.extract 0 1).data.toList = [s[0]'h] := by
  obtain ⟨r, hr⟩ := head_byte s h
  rw [ByteArray.data_extract, Array.toList_extract, List.extract, hr]; rfl

theorem fast_list (s : ByteArray) : s.toList = s.data.toList := Lib.toList_data s
theorem one_minus (b : UInt8) : ([b] == [45]) = decide (b.toNat = 45) := by
  by_cases h : b = 45
  · subst h; rfl
  · have : b.toNat ≠ 45 := fun h2 => h (UInt8.toNat_inj.1 h2)
    simp [h, this]
theorem cut_ext {s d : ByteArray} (h : d.data.toList = digL s.data.toList) : d = ⟨(digL s.data.toList).toArray⟩ := bytes_ext (by rw [h])

/-- digits as they are written -/
def wroteL (d : List UInt8) (below : Bool) : Bool := !d.isEmpty && d.all isD && !(noughtL d && (decide (1 < d.length) || below))
/-- a sum that is no more than m -/
def sumV (l : List UInt8) (m : Nat) : Nat := if valN l ≤ m then valN l else 0
def sumB (l : List UInt8) (m : Nat) : Bool := decide (valN l ≤ m)
theorem sum_yes {l : List UInt8} {m : Nat} (h : valN l ≤ m) : sumV l m = valN l ∧ sumB l m = true := ⟨if_pos h, decide_eq_true h⟩
theorem sum_no {l : List UInt8} {m : Nat} (h : ¬ valN l ≤ m) : sumV l m = 0 ∧ sumB l m = false := ⟨if_neg h, decide_eq_false h⟩


theorem neg_back (x : Nat) (h : x ≤ 9223372036854775808) : wrap64 (IntKind.u64.wrap (-(x : Int))) = -(x : Int) := by
  unfold wrap64
  simp [IntKind.wrap, IntKind.bits, IntKind.signed]
  omega

end Go.Proofs.Ytkccefgmiaoinaa
