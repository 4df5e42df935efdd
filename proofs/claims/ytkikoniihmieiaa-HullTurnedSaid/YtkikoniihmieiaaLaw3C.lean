/- The law MatOne. -/
import Derived.Test.YtkikoniihmieiaaLaw3A
import Derived.Test.YtkikoniihmieiaaMatFacts
import Derived.Test.YtkikoniihmieiaaMatRefC
namespace Go.Proofs.Ytkikoniihmieiaa
open Go.RowKit
set_option linter.unusedVariables false

theorem sum_le : ∀ (l : List Nat) (B : Nat), (∀ x ∈ l, x ≤ B) → l.sum ≤ l.length * B
  | [], B, _ => by simp
  | x :: l, B, h => by
    have h1 := sum_le l B (fun y hy => h y (List.mem_cons_of_mem _ hy))
    have h2 := h x (List.mem_cons_self ..)
    simp only [List.sum_cons, List.length_cons, Nat.add_mul, Nat.one_mul]
    omega
theorem Good.pairs_le {n : Nat} {xss : List (List Nat)} (h : Good n xss) : (pairsM xss).length ≤ 16777216 := by
  rw [pairsM_len]
  have h1 := sum_le (xss.map countR) 4096 (fun x hx => by
    obtain ⟨r, hr, rfl⟩ := List.mem_map.1 hx
    have := countR_le r
    have := h.small r hr
    omega)
  rw [List.length_map, h.len] at h1
  have := h.le
  omega
theorem sameM_self (xss : List (List Nat)) : sameM xss xss = true := by simp [sameM]
theorem rem_nat (i : Int) (n : Nat) (hn : 0 < n) (i0 : 0 ≤ i) (i1 : i ≤ 255) : ∃ a : Nat, (IntKind.i64.wrap i).tmod (n : Int) = (a : Int) ∧ a < n := by
  have h : IntKind.i64.wrap i = i := by rw [IntKind.wrap_i64]; omega
  obtain ⟨k, rfl⟩ := Int.eq_ofNat_of_zero_le i0
  refine ⟨k % n, ?_, Nat.mod_lt _ hn⟩
  rw [h]
  exact (Int.ofNat_tmod k n).symm

end Go.Proofs.Ytkikoniihmieiaa
