/- A whole array of words, loaded and stored: at a plain region's list. No function of the program is named here. -/
import Derived.Test.YtkikoniihmieiaaFlipMath
import Derived.Deep.MidRow
namespace Go.Proofs.Ytkikoniihmieiaa
open Go.RowKit

theorem OnlyAt.setCells {g : Nat} {w : World} : ∀ (vs : List Value) (o : Nat) (w' : World), OnlyAt g w w' → OnlyAt g w (w'.setCells g o vs)
  | [], _, _, h => h
  | v :: r, o, _, h => OnlyAt.setCells r (o + 1) _ (h.set o v)
theorem set_span (cs : List Value) (o : Nat) (v : Value) (r : List Value) (h : o < cs.length) : (cs.set o v).take (o + 1) ++ r ++ (cs.set o v).drop (o + 1 + r.length) = cs.take o ++ (v :: r) ++ cs.drop (o + (r.length + 1)) := by
  have h1 : (cs.set o v).take (o + 1) = cs.take o ++ [v] := by
    rw [List.take_succ_eq_append_getElem (by rw [List.length_set]; exact h), List.take_set_of_le (Nat.le_refl _), List.getElem_set_self]
  have h2 : (cs.set o v).drop (o + 1 + r.length) = cs.drop (o + (r.length + 1)) := by
    rw [List.drop_set_of_lt (by omega)]; congr 1; omega
  rw [h1, h2]; simp
theorem Blk.setCells {g : Nat} {t : TypeId} : ∀ (vs : List Value) (o : Nat) (cs : List Value) (w : World), Blk w g t cs → o + vs.length ≤ cs.length → Blk (w.setCells g o vs) g t (cs.take o ++ vs ++ cs.drop (o + vs.length))
  | [], o, cs, w, h, _ => by
    have : cs.take o ++ [] ++ cs.drop (o + ([] : List Value).length) = cs := by simp
    rw [this]; exact h
  | v :: r, o, cs, w, h, hl => by
    have hl' : o + (r.length + 1) ≤ cs.length := by simpa using hl
    have ih := Blk.setCells r (o + 1) (cs.set o v) _ (h.set_ o v) (by rw [List.length_set]; omega)
    rw [set_span cs o v r (by omega)] at ih
    exact ih
theorem Blk.setAll {g : Nat} {t : TypeId} {cs vs : List Value} {w : World} (h : Blk w g t cs) (hl : vs.length = cs.length) : Blk (w.setCells g 0 vs) g t vs := by
  have := Blk.setCells vs 0 cs w h (by omega)
  rwa [List.take_zero, List.nil_append, Nat.zero_add, List.drop_eq_nil_of_le (by omega), List.append_nil] at this
theorem Blk.there {g : Nat} {t : TypeId} {cs : List Value} {w : World} (h : Blk w g t cs) : w.there g 0 cs.length := fun j hj => by
  rw [Nat.zero_add, h.cell, h.frozen]
  exact ⟨by rw [List.getElem?_eq_getElem hj]; rfl, rfl⟩
theorem Blk.range {g : Nat} {t : TypeId} {cs : List Value} {w : World} (h : Blk w g t cs) : w.rangeAt g 0 cs := fun j v hv => by
  rw [Nat.zero_add, h.cell]; exact hv
theorem all_one (ys : List Nat) : (ys.map u64v).toArray.all (·.oneCell') = true := all_oneCell_toArray (fun v hv => by
  obtain ⟨x, _, rfl⟩ := List.mem_map.1 hv; rfl)

theorem results_cell {P : Program} {w : World} {fn : Func} {t : Tmp} {ty : TypeId} {v : Value} (h : fn.results = #[.cell t ty]) (tmps : Array Value) (b : Nat) (ht : tmps.getD t undef = .pointer (some ⟨b, 0, none⟩)) (hl : (loadVar ty ⟨b, 0, none⟩).run P w = .ok v w) :
    (results fn tmps).run P w = .ok v w := by
  have ht' : tmps[t]?.getD undef = .pointer (some ⟨b, 0, none⟩) := by rw [← Array.getD_eq_getD_getElem?]; exact ht
  simp [results, h, ht', asAddr, hl]

section
variable {P : Program} {ops : Array Oper} {rest : List Oper} {op : Oper} {a : Act} {w : World} {Q : Exit → Act → World → Prop}
/-- 'b := *p', p an array of so many words -/
theorem wpList_load_blk {t e : TypeId} {n : Nat} (hu : P.underlying t = some (.array n e)) (hi : (P.info? t).map (·.size) = some n) (hgd : op.guard = none) (x : Operand) (ho : op.op = .load t x) (b : Nat) (hx : a.eval x = .pointer (some ⟨b, 0, none⟩)) (te : TypeId) (ys : List Nat) (hl : ys.length = n) (hB : Blk w b te (ys.map u64v))
    (h : wpList P ops Q rest (a.put op.dst (.agg (ys.map u64v).toArray)) w) : wpList P ops Q (op :: rest) a w :=
  wpList_load_mid hgd t x ho b 0 hx (ys.map u64v) _ hB.range hu rfl (by rw [List.length_map, hl]; exact hi) h
/-- '*p = b' -/
theorem wpList_store_blk {t e : TypeId} {n : Nat} (_hu : P.underlying t = some (.array n e)) (hi : (P.info? t).map (·.size) = some n) (hgd : op.guard = none) (x y : Operand) (ho : op.op = .store t x y) (b : Nat) (hx : a.eval x = .pointer (some ⟨b, 0, none⟩)) (ys : List Nat) (hl : ys.length = n) (hy : a.eval y = .agg (ys.map u64v).toArray) (te : TypeId) (zs : List Nat) (hz : zs.length = n) (hB : Blk w b te (zs.map u64v))
    (h : ∀ w', Blk w' b te (ys.map u64v) → OnlyAt b w w' → wpList P ops Q rest (a.put op.dst undef) w') : wpList P ops Q (op :: rest) a w :=
  wpList_store_mid hgd t x y ho b 0 _ hx hy (by have := hB.there; simpa [hl, hz] using this) (by simpa [hl] using hi) (all_one ys)
    (h _ (by simpa using hB.setAll (vs := ys.map u64v) (by simp [hl, hz])) (OnlyAt.setCells _ _ _ (OnlyAt.refl _ _)))
end

end Go.Proofs.Ytkikoniihmieiaa
