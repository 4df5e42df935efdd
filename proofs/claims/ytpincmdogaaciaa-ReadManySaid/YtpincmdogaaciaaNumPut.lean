/- The contract of the document's own answer of layer 5: Put. -/
import Derived.Test.YtpincmdogaaciaaProg
import Derived.Test.YtpincmdogaaciaaNumMath
import Derived.Laws.IdiomStrings
import Derived.Below
import Derived.Lib.Hide
namespace Go.Proofs.Ytpincmdogaaciaa
open Go.RowKit
set_option linter.unusedVariables false

theorem tdiv10 (z : Int) : (z.tdiv 10).natAbs = z.natAbs / 10 := by rw [Int.natAbs_tdiv]; rfl
theorem tmod10 (z : Int) : (z.tmod 10).natAbs = z.natAbs % 10 := by rw [Int.natAbs_tmod]; rfl

theorem conv_one {P : Program} (w : World) (src dst e : TypeId) (g : Nat) (c : UInt8) (hc : c.toNat = 48 + g) (hs : P.underlying src = some (.slice e)) (he : P.underlying e = some (.int .u8)) (hd : P.underlying dst = some .string) :
    (convert src dst (.slice (some ⟨w.heap.size, 0, none⟩) 1 1)).run P (w.alloc (.cells #[.int .u8 (48 + (g : Int))] e)) = .ok (.string ⟨#[c]⟩) (w.alloc (.cells #[.int .u8 (48 + (g : Int))] e)) := by
  refine run_convert_bytes_back _ src dst e ⟨w.heap.size, 0, none⟩ 1 [c] hs he hd (fun j hj => ?_)
  obtain rfl : j = 0 := by simp at hj; exact hj
  have e1 : (⟨w.heap.size, 0, none⟩ : Addr).add 0 = ⟨w.heap.size, 0, none⟩ := rfl
  rw [e1, World.cell?_alloc_mark]
  simp; omega
theorem one_append (c : UInt8) (l : List UInt8) : (⟨#[c]⟩ ++ ⟨l.toArray⟩ : ByteArray) = ⟨(c :: l).toArray⟩ := ByteArray.mk_append_mk [c] l

theorem below_alloc2 {a w : World} (h : Below a.heap.size a w) (o : Obj) : Below a.heap.size a (w.alloc o) := h.alloc h.size o

end Go.Proofs.Ytpincmdogaaciaa
