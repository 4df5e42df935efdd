/- A region that draws its order, in a round of a range over a function: by a plan (XPlan), as outside of one, in the fence that lets everything in. No function of the program is named here. -/
import Derived.Test.YtmfcnlolfhkeeaaPlan
import Derived.RangeFuncNested
import Derived.RangeFuncBound
import Derived.RangeFuncCalls
import Derived.RangeFuncLeaves
import Derived.Shelf.Abstract
import Derived.Shelf.RegionOpen
import Derived.OwnWalkIn
import Derived.TacticsInMore
import Derived.LoopNIn
import Derived.LoopIn
namespace Go.Proofs.Ytmfcnlolfhkeeaa
open Go.RowKit

section
variable {l n : Nat} {P : Program} {Q : Exit → Act → World → Prop}
theorem rowsIn_round {row : String} {args : Array Value} {w : World} {R : Value → World → Prop} (h : Rows P row args w R) : RowsIn (Fence.wide.inRound l) n P row args w R :=
  fun c cs _ => let ⟨v, w', r, s⟩ := h c cs; ⟨v, w', r, stepsIn_wide.2 s⟩
theorem operIn_round {o : Oper} {a : Act} {w : World} {K : Act → World → Prop} (hd : ∀ c, o.op ≠ .defer c) (h : o.wp P a w K Q) : o.wpIn (Fence.wide.inRound l) n P a w K Q := by
  refine ⟨fun _ _ => trivial, ?_⟩
  show o.uponIn _ n P a K Q ((o.semAt (some l) a.eval).run P w)
  rw [Oper.semAt_some l _ _ hd]
  unfold Oper.wp at h
  generalize (execOp a.eval o).run P w = r at *
  cases r with
  | ok x w' =>
    cases x with
    | value v => exact h
    | skip => exact h
    | defer d => exact h
    | enter f args => exact ⟨fun h => (by cases h), CallsIn.inRound l (callsIn_wide.2 h)⟩
    | row r args => exact ⟨fun h => (by cases h), rowsIn_round h⟩
    | round l f tmps assign body => exact h.elim
    | _ => exact h.elim
  | halt x w' =>
    cases x <;> exact h
def noDefer (l : List Oper) : Bool := l.all fun o => match o.op with | .defer _ => false | _ => true
theorem noDefer_spec {ops : List Oper} (h : noDefer ops = true) {i : Nat} {o : Oper} (ho : ops.toArray[i]? = some o) : ∀ c, o.op ≠ .defer c := by
  intro c e
  have := List.all_eq_true.1 h o (List.mem_of_getElem? (by simpa using ho))
  rw [e] at this
  cases this
theorem wpOpsIn_round {ops : List Oper} (hL : ¬ LetsOut Q) (hd : noDefer ops = true) : ∀ (is : List Nat) (a : Act) (w : World), wpOps P ops.toArray Q is a w → wpOpsIn (Fence.wide.inRound l) n P ops.toArray Q is a w
  | [], _, _, h => h
  | i :: rest, a, w, h => by
    unfold wpOps at h
    unfold wpOpsIn
    cases ho : ops.toArray[i]? with
    | none => rw [ho] at h; exact wpOpsIn_round hL hd rest a w h
    | some o =>
      rw [ho] at h
      simp only at h ⊢
      split
      · rename_i hw
        rw [if_pos hw] at h
        rcases h with h | h
        · exact Oper.wpIn_mono (fun a w => wpOpsIn_round hL hd rest a w) (operIn_round (noDefer_spec hd ho) h)
        · exact absurd h.2 hL
      · rename_i hw
        rw [if_neg hw] at h
        exact ⟨fun _ _ => trivial, wpOpsIn_round hL hd rest _ w h⟩
theorem wpIn_round_plan {id : Nat} {a : Act} {w : World} {ops : List Oper} (m : Nat) (pl : List (Bool × Nat)) (hL : ¬ LetsOut Q) (hd : noDefer ops = true) (hm : P.follows .mixedOrders = true) (hB : planAll .any ops.toArray m pl = true)
    (h : ∀ W : World, Hid (W = w.drew) → wpPlan P ops.toArray (NoPanic Q) (ops.drop m) pl a W) : (Code.region id ops.toArray true).wpIn (Fence.wide.inRound l) n P Q a w := by
  refine wpIn_mono (wpIn_region_draw (Q := NoPanic Q) fun t => ?_) NoPanic.imp
  simp only [Region.schedule, hm, Bool.true_or, if_true]
  exact wpOpsIn_round (fun ⟨a, w, h⟩ => hL ⟨a, w, NoPanic.imp _ _ _ h⟩) hd _ _ _ (wpAny_sound _ t _ a _ (wpAny_plan m pl hB h))
end
end Go.Proofs.Ytmfcnlolfhkeeaa
