/- An argument opened: a matrix, with its capacity. -/
import Derived.Test.YtlfdmjlllikmcaaOpen3
namespace Go.Proofs.Ytlfdmjlllikmcaa
open Go.RowKit Go.ChangeShapes Go.WideShapes Go.Deep Go.Joins
set_option linter.unusedVariables false
section
variable {H : Type} {enc : TypeId × Value → H} {P : Program} {w : World} {base : Nat} {held : Bool}
theorem open_cap {t e q : TypeId} {fuel : Nat} {A : Option Addr} {len cap : Nat} {x : DataW H × List MemPlace} (ht : P.underlying t = some (.slice e)) (he : P.underlying e = some (.slice q)) (hq : P.underlying q = some (.int .u64))
    (ce : P.cellsOf e = 1) (cq : P.cellsOf q = 1) (h : DataW.trod enc P w base (fun _ => true) held fuel t [.slice A len cap] = some x) : len ≤ cap := by
  rcases open_int_rows ht he hq ce cq h with ⟨hcs, _⟩ | ⟨a, l, c, B, L, C, Z, hcs, hb, hl, hm, hx, hrow⟩
  · injection hcs with hcs
    injection hcs with h1 h2 h3
    omega
  · injection hcs with hcs
    injection hcs with h1 h2 h3
    omega
theorem open_matV_cap {r : Reach} {b0 : Nat} {t e q : TypeId} {f0 f1 : Field} {N : Int} {A : Option Addr} {n c : Nat} {d : DataW H} {p : List MemPlace} (ht : P.underlying t = some (.struct #[f0, f1])) (hone : oneCellFields P #[f0, f1] = true) (cT : P.cellsOf t = 2)
    (hr : P.underlying f1.type = some (.slice e)) (he : P.underlying e = some (.slice q)) (hq : P.underlying q = some (.int .u64)) (ce : P.cellsOf e = 1) (cq : P.cellsOf q = 1)
    (hv : Value.okWide P w r b0 t (.agg #[.int .i64 N, .slice A n c])) (h : DataW.Trod enc P w base (fun _ => true) held t (.agg #[.int .i64 N, .slice A n c]) d p) : n ≤ c := by
  obtain ⟨v0, v1, y0, y1, m, e1, _, _, h0, h1⟩ := open_agg2 ht hone cT hv h
  injection e1 with e1
  simp at e1
  obtain ⟨_, rfl⟩ := e1
  exact open_cap hr he hq ce cq h1
end
end Go.Proofs.Ytlfdmjlllikmcaa
