/- Facts in a variable (FBox), as the document's answers of layers 10 and on box them. -/
import Derived.Test.YtcdfpodhiogpiaaLMem
import Derived.Test.YtcdfpodhiogpiaaProg
namespace Go.Proofs.Ytcdfpodhiogpiaa
open Go.RowKit
set_option linter.unusedVariables false

/-- facts f, told by the slices v, lie in the variable g; of what was there in w nothing has turned -/
structure FBox (w : World) (g : Nat) (v : FV) (f : Fac) (wr : World) : Prop where
  f : FactsAt wr v f
  k : Blk wr g 27 [.slice v.A v.n v.c, .slice v.B v.m v.d, .slice v.C v.k v.e]
  o : Below w.heap.size w wr
section
variable {w wr w' : World} {g : Nat} {v : FV} {f : Fac}
theorem FBox.later (h : FBox w g v f wr) (hb : Below wr.heap.size wr w') : FBox w g v f w' := ⟨h.f.below hb, h.k.below hb h.k.lt, below_trans2 h.o hb⟩
theorem FBox.new (h : FactsAt w v f) : FBox w w.heap.size v f (w.alloc (.cells #[.slice v.A v.n v.c, .slice v.B v.m v.d, .slice v.C v.k v.e] 27)) :=
  ⟨h.below ((Below.refl _ _).alloc (Nat.le_refl _) _), Blk.new w _ _, (Below.refl _ _).alloc (Nat.le_refl _) _⟩
theorem FBox.c0 (h : FBox w g v f wr) : wr.cell? ⟨g, 0, none⟩ = some (.slice v.A v.n v.c) := h.k.cell 0
theorem FBox.c1 (h : FBox w g v f wr) : wr.cell? ⟨g, 1, none⟩ = some (.slice v.B v.m v.d) := h.k.cell 1
theorem FBox.c2 (h : FBox w g v f wr) : wr.cell? ⟨g, 2, none⟩ = some (.slice v.C v.k v.e) := h.k.cell 2
theorem FBox.drewN (h : FBox w g v f wr) (q : Nat) : FBox w g v f (wr.drewN q) := h.later (below_drewN (Below.refl _ _) q)
/-- .. and all that was told from an earlier world on -/
theorem FBox.from_ {w0 : World} (h : FBox w g v f wr) (hb : Below w0.heap.size w0 w) : FBox w0 g v f wr := ⟨h.f, h.k, below_trans2 hb h.o⟩
end

/-! ### facts stored into a variable of facts -/
def zF : List Value := [.slice none 0 0, .slice none 0 0, .slice none 0 0]
def FV.vals (v : FV) : List Value := [.slice v.A v.n v.c, .slice v.B v.m v.d, .slice v.C v.k v.e]
def putF (w : World) (g : Nat) (v : FV) : World := ((w.setCell ⟨g, 0, none⟩ (.slice v.A v.n v.c)).setCell ⟨g, 1, none⟩ (.slice v.B v.m v.d)).setCell ⟨g, 2, none⟩ (.slice v.C v.k v.e)
section
variable {w w0 : World} {g k : Nat} {t : TypeId} {cs : List Value} {v u : FV} {f : Fac}
theorem putF_facts (h : FactsAt w u f) (hk : Blk w g t zF) (v : FV) : FactsAt (putF w g v) u f := by
  unfold putF
  refine ((h.setBlk hk (fun x hx => ?_) _).setBlk (hk.set_ 0 _) (fun x hx => ?_) _).setBlk ((hk.set_ 0 _).set_ 1 _) (fun x hx => ?_) _
  · simp only [zF, List.mem_cons, List.not_mem_nil, or_false] at hx; rcases hx with rfl | rfl | rfl <;> exact ⟨_, _, _, rfl⟩
  · simp only [zF, List.set_cons_zero, List.mem_cons, List.not_mem_nil, or_false] at hx; rcases hx with rfl | rfl | rfl <;> exact ⟨_, _, _, rfl⟩
  · simp only [zF, List.set_cons_zero, List.set_cons_succ, List.mem_cons, List.not_mem_nil, or_false] at hx; rcases hx with rfl | rfl | rfl <;> exact ⟨_, _, _, rfl⟩
theorem putF_blk (h : Blk w g t zF) (v : FV) : Blk (putF w g v) g t v.vals := Blk.set_ (Blk.set_ (Blk.set_ h 0 _) 1 _) 2 _
theorem putF_far (h : Blk w k t cs) (hne : k ≠ g) (v : FV) : Blk (putF w g v) k t cs :=
  Blk.far (Blk.far (Blk.far h (p := ⟨g, 0, none⟩) hne _) (p := ⟨g, 1, none⟩) hne _) (p := ⟨g, 2, none⟩) hne _
theorem putF_below (h : Below w0.heap.size w0 w) (hg : w0.heap.size ≤ g) (v : FV) : Below w0.heap.size w0 (putF w g v) :=
  ((h.setCell (p := ⟨g, 0, none⟩) hg _).setCell (p := ⟨g, 1, none⟩) hg _).setCell (p := ⟨g, 2, none⟩) hg _
end
/-- facts in a variable -/
def InVar (w : World) (g : Nat) (v : FV) (f : Fac) : Prop := FactsAt w v f ∧ Blk w g 27 v.vals
theorem InVar.below {w w' : World} {g : Nat} {v : FV} {f : Fac} (h : InVar w g v f) (hb : Below w.heap.size w w') : InVar w' g v f := ⟨h.1.below hb, h.2.below hb h.2.lt⟩
theorem InVar.c0 {w : World} {g : Nat} {v : FV} {f : Fac} (h : InVar w g v f) : w.cell? ⟨g, 0, none⟩ = some (.slice v.A v.n v.c) := h.2.cell 0
theorem InVar.c1 {w : World} {g : Nat} {v : FV} {f : Fac} (h : InVar w g v f) : w.cell? ⟨g, 1, none⟩ = some (.slice v.B v.m v.d) := h.2.cell 1
theorem InVar.c2 {w : World} {g : Nat} {v : FV} {f : Fac} (h : InVar w g v f) : w.cell? ⟨g, 2, none⟩ = some (.slice v.C v.k v.e) := h.2.cell 2

/-! ### an item in a variable -/
def It.cells (i : It) : List Value := [.int .i64 i.se, .int .i64 i.pl, .bool i.wr, .int .i64 i.va, .int .i64 i.vl]
def itZ : It := ⟨0, 0, false, 0, 0⟩
/-- an item stored into a variable -/
def putIt (w : World) (g : Nat) (i : It) : World := ((((w.setCell ⟨g, 0, none⟩ (.int .i64 i.se)).setCell ⟨g, 1, none⟩ (.int .i64 i.pl)).setCell ⟨g, 2, none⟩ (.bool i.wr)).setCell ⟨g, 3, none⟩ (.int .i64 i.va)).setCell ⟨g, 4, none⟩ (.int .i64 i.vl)
theorem putIt_blk {w : World} {g : Nat} {t : TypeId} {j : It} (h : Blk w g t j.cells) (i : It) : Blk (putIt w g i) g t i.cells :=
  Blk.set_ (Blk.set_ (Blk.set_ (Blk.set_ (Blk.set_ h 0 _) 1 _) 2 _) 3 _) 4 _
theorem putIt_far {w : World} {g k : Nat} {t : TypeId} {cs : List Value} (h : Blk w k t cs) (hne : k ≠ g) (i : It) : Blk (putIt w g i) k t cs :=
  Blk.far (Blk.far (Blk.far (Blk.far (Blk.far h (p := ⟨g, 0, none⟩) hne _) (p := ⟨g, 1, none⟩) hne _) (p := ⟨g, 2, none⟩) hne _) (p := ⟨g, 3, none⟩) hne _) (p := ⟨g, 4, none⟩) hne _
theorem putIt_below {w0 w : World} {g : Nat} (h : Below w0.heap.size w0 w) (hg : w0.heap.size ≤ g) (i : It) : Below w0.heap.size w0 (putIt w g i) :=
  ((((h.setCell (p := ⟨g, 0, none⟩) hg _).setCell (p := ⟨g, 1, none⟩) hg _).setCell (p := ⟨g, 2, none⟩) hg _).setCell (p := ⟨g, 3, none⟩) hg _).setCell (p := ⟨g, 4, none⟩) hg _
end Go.Proofs.Ytcdfpodhiogpiaa
