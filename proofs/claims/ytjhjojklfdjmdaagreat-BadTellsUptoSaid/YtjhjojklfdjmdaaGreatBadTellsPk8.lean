/- The contract of the document's own answer of layer 19: sees. The contracts of the document's own answers of layer 19: Kinds, Core. The contract of the document's own answer of layer 19: One. The contract of the document's own answer of layer 19: Find. A region that draws its order, by a plan (XPlan), in which one block of the caller's may change (an append in place): what reads must not read it. No function of the program is named here. Plain mathematics of layer 18's own code: what a round finds, write by write and read by read, in whatever order; put in order it is the document's. Nothing of the program is named. -/
import Derived.Test.YtjhjojklfdjmdaaGreatBadTellsPk7
import Derived.Test.YtjhjojklfdjmdaaGreatBadTellsPk3
import Derived.Test.YtjhjojklfdjmdaaGreatBadTellsPk1
import Derived.Test.YtjhjojklfdjmdaaGreatBadTellsPk4
import Derived.Test.YtjhjojklfdjmdaaGreatBadTellsPk5
namespace Go.Proofs.YtjhjojklfdjmdaaGreat
set_option maxRecDepth 100000
set_option maxHeartbeats 8000000
open Go.RowKit
set_option linter.unusedVariables false
def seesG (f : Fac) (co : List (List Nat)) (k : Int) (o : Nat) : Option Wit := if k = 6 then (earlyF f (seenM f co o) k (keptO f o)).map fun x => { x with o := (o : Int) }
  else ((List.range f.items.length).find? fun (i : Nat) => hasM (seenM f co o) (i : Int) (i : Int)).map fun (i : Nat) => ⟨k, -1, (i : Int), -1, (o : Int), -1, -1⟩
theorem seesF_eq (f : Fac) (co : List (List Nat)) (k : Int) : seesF f co k = (List.range f.items.length).findSome? (seesG f co k) := rfl
theorem LoopIs.sees {n : Nat} {X : List (List Nat)} {r : Int} {b : Bool} (h : LoopIs n X r b) (k : Int) (o : Nat) : ((List.range n).find? fun (i : Nat) => hasM X (i : Int) (i : Int)).map (fun (i : Nat) => (⟨k, -1, (i : Int), -1, (o : Int), -1, -1⟩ : Wit)) = if b = true then some ⟨k, -1, r, -1, (o : Int), -1, -1⟩ else none := by
 have h1 := h.find 0;unfold roundF at h1
 cases hf : (List.range n).find? fun (i : Nat) => hasM X (i : Int) (i : Int) with
 | none =>
  rw [hf] at h1
  cases b with
  | true => simp at h1
  | false => rfl
 | some i =>
  rw [hf] at h1
  cases b with
  | true =>
   simp only [Option.map_some, if_true] at h1 ⊢;injection h1 with h1;injection h1 with _ _ _ _ h1 _ _;rw [h1]
  | false => simp at h1
theorem ref19_sees (v : FV) (f : Fac) (A : Option Addr) (c : Nat) (co : List (List Nat)) (k : Int) (w : World) (hF : FactsAt w v f) (hr : RowsAt w A v.m co) (hG : Good v.m co) (hvm : v.m < 64) (hw : WholeF f) :
  Calls Tryz.prog 45 #[.agg #[.slice v.A v.n v.c, .slice v.B v.m v.d, .slice v.C v.k v.e], .agg #[.int .i64 (v.m : Int), .slice A v.m c], .int .i64 k] w (RetWit k (seesF f co k) w) := by
 have hil := hF.is.len;have cS := Hd (fun (o : Nat) (ho : o < v.m) W hW hR => ref18_Of v f A c co (o : Int) W hW hR hG hvm hw (by omega) (by omega));have cKo := Hd (fun (o : Nat) W hW => ref16_Kept v f (o : Int) W hW (by omega));have cEo := Hd (fun A c X (hX : Good v.m X) D m d rd W hF hR hL hrd hm => ref19_early v f A c X k D m d rd W hF hR hX hL hrd (by omega) hm hw);have hko := Hd (fun (o : Nat) r (h : r ∈ keptO f o) => by have := keptF_ok f.items (o : Int) r h; rwa [hil] at this);have hkl := Hd (fun (o : Nat) => show (keptO f o).length ≤ v.m from Nat.le_trans (keptF_len f.items (o : Int)) (Nat.le_of_eq hil));have hgB : Hid (∀ o, Good f.items.length (baseM f co o)) := Hd (fun o => by unfold baseM; rw [hil]; exact (within_facts hG _).1);have hbs : Hid (∀ o : Nat, baseM f co o = withinM v.m co (wihO co (o : Int) v.m)) := Hd (fun o => by unfold baseM; rw [hil]);rw [seesF_eq, hil];replace hil := Hd hil;clear hw;have hB0 := Hd (FBox.new hF);obtain ⟨g, hg⟩ : ∃ g, g = w.heap.size := ⟨_, rfl⟩;obtain ⟨W0, hW0⟩ : ∃ W, W = w.alloc (.cells #[.slice v.A v.n v.c, .slice v.B v.m v.d, .slice v.C v.k v.e] 29) := ⟨_, rfl⟩;rw [← hW0, ← hg] at hB0;clear hF;replace hr := hr.below hB0.out.o;have hM1 := Hd (MatK.new (N := (v.m : Int)) (c := c) W0 57 hr);obtain ⟨gm, hgm⟩ : ∃ g, g = W0.heap.size := ⟨_, rfl⟩;obtain ⟨W1, hW1⟩ : ∃ W, W = W0.alloc (.cells #[.int .i64 (v.m : Int), .slice A v.m c] 57) := ⟨_, rfl⟩;rw [← hW1, ← hgm] at hM1;have hB1 := Hd (hB0.out.later (show Below W0.heap.size W0 W1 from by rw [hW1]; exact bAl _ _));clear hr hB0;obtain ⟨W2, hW2⟩ : ∃ W, W = World.alloc W1 (.cells #[.int .i64 0, .int .i64 0, .int .i64 0, .int .i64 0, .int .i64 0, .slice none 0 0, .int .i64 0, .int .i64 0] 34) := ⟨_, rfl⟩;obtain ⟨gr, hgr⟩ : ∃ g, g = (World.heap W1).size := ⟨_, rfl⟩;have bW2 : Below (World.heap W1).size W1 W2 := by rw [hW2]; exact bAl _ _
 have kR := Hd (show Blk W2 gr 34 [.int .i64 0, .int .i64 0, .int .i64 0, .int .i64 0, .int .i64 0, .slice none 0 0, .int .i64 0, .int .i64 0] from by rw [hW2, hgr]; exact Blk.new W1 _ _);have hB := Hd (hB1.out.later bW2);have hM := Hd (hM1.out.below bW2);have hgrw := Hd (show w.heap.size ≤ gr from by rw [hgr]; exact hB1.out.o.size);clear hB1 hM1 bW2;have cN := Hd (fun W => ref19_None k W)
 go_enter Tryz.func45, Tryz.ntmps45
 go_wp2_with (first | (rw [← hW0, ← hg]; clear hW0 hg) | (rw [← hW1, ← hgm]; clear hW1 hgm) | (rw [← hW2, ← hgr]; clear hW2; replace hgr := Hd hgr));have hb0 := Hd (Below.refl W2.heap.size W2);obtain ⟨V2, hV2⟩ : ∃ V, V = W2 := ⟨_, rfl⟩
 go_loopw [8] (fun t wr => ∃ i : Nat, i ≤ v.m ∧ t = .int .i64 (i : Int) ∧ Hid (((List.range v.m).take i).findSome? (seesG f co k) = none) ∧ Hid (Below V2.heap.size V2 wr)) (fun t _ => v.m - (intOf t).toNat)
 case atStart => exact ⟨0, Nat.zero_le _, rfl, Hd rfl, by rw [hV2]; exact hb0⟩
 case round =>
  subst hV2;clear hb0;obtain ⟨i, hi, rfl, hno, hb⟩ := hrel;replace hB := Hd (hB.out.later hb.out);have kM := Hd (hM.out.below hb.out);have kQr := Hd (kR.out.below hb.out kR.out.lt);have p0 := hB.out.c0;have p1 := hB.out.c1;have p2 := hB.out.c2;by_cases hlt : i < v.m
  ·have hlt' : (i : Int) < (v.m : Int) := by omega
   have hst := Hd (findSome_step (List.getElem?_range hlt) hno.out);have m0 := kM.out.1.c0;have m1 := kM.out.1.c1;have cSr := Hd (cS.out i hlt wr hB.out.f kM.out.2);replace hlt := Hd hlt;go_wp2_with fail;refine cSr.out.mono ?_; rintro e w3 ⟨j, A2, dX, E1, k1, e1, rfl, hsn, hR, hcX, -, -, -, b⟩;have hjk : j = seenK f (keptO f i) (baseM f co i) := by
    have h := seenK_is (kept := keptO f i) (hgB.out i);refine SeenIs.unique ?_ h;rw [hbs.out i]; exact hsn
   have hXe : seX f (keptF f.items (pastF f.items (i : Int) f.items.length)) (withinM v.m co (wihO co (i : Int) v.m)) j = seenM f co i := by
    unfold seenM;rw [← hjk, hbs.out i]; rfl
   rw [hXe] at hR;have gX : Good v.m (seenM f co i) := by rw [← hil.out]; exact seX_good (hgB.out i) _
   have hsg : seesG f co k i = if k = 6 then (earlyF f (seenM f co i) k (keptO f i)).map fun x => { x with o := (i : Int) } else ((List.range v.m).find? fun (q : Nat) => hasM (seenM f co i) (q : Int) (q : Int)).map fun (q : Nat) => ⟨k, -1, (q : Int), -1, (i : Int), -1, -1⟩ := by unfold seesG; rw [hil.out]
   obtain ⟨X, hX⟩ : ∃ X, X = seenM f co i := ⟨_, rfl⟩;rw [← hX] at hR gX hsg;replace hX := Hd hX;obtain ⟨W4, hW4⟩ : ∃ W, W = World.alloc w3 (.cells #[.int .i64 (v.m : Int), .slice A2 v.m dX] 57) := ⟨_, rfl⟩;obtain ⟨gx, hgx⟩ : ∃ g, g = (World.heap w3).size := ⟨_, rfl⟩;have bW4 : Below (World.heap w3).size w3 W4 := by rw [hW4]; exact bAl _ _
   have kX := Hd (show MatK W4 gx 57 (v.m : Int) A2 v.m dX X from by rw [hW4, hgx]; exact MatK.new w3 _ hR);replace hb := Hd (bT2 (bT2 hb.out b) bW4);replace hB := Hd ((hB.out.later b).later bW4);clear b bW4 hR p0 p1 p2 m0 m1 cSr hsn hXe hjk kM kQr;have x0 := kX.out.1.c0;have x1 := kX.out.1.c1;have p0 := hB.out.c0;have p1 := hB.out.c1;have p2 := hB.out.c2;by_cases hk6 : k = 6
   ·have e6 : (k == 6) = true := by rw [hk6]; rfl
    rw [if_pos hk6] at hsg;replace hk6 := Hd hk6;replace hsg := Hd hsg;go_wp2_with (rw [← hW4, ← hgx]; clear hW4; replace hgx := Hd hgx);refine wp_region_tree (.flt 0 (.flt 1 (.flt 2 (.flt 3 (.flt 4 (.two 5 10 (.two 6 10 (.flt 7 (.flt 8 (.flt 9 (.one 10 (.one 11 (.flt 12 .done)))))) (.one 6 (.flt 7 (.flt 8 (.flt 9 (.one 11 (.flt 12 .done))))))) (.one 5 (.one 6 (.flt 7 (.flt 8 (.flt 9 (.one 11 (.flt 12 .done))))))))))))) (by kernel_rfl) (by kernel_rfl) (fun U hU => ?_);have hU' : Below W4.heap.size W4 U := by rw [hU.out]; exact (Below.refl _ _).drew
    replace hb := Hd (bT2 hb.out hU');replace hB := Hd (hB.out.later hU');have kM := Hd (kX.out.below hU');clear hU hU' x0 x1 p0 p1 p2 kX;have bW : Below U.heap.size U U := Below.refl _ _;obtain ⟨ans, hae⟩ : ∃ a, a = earlyF f X k (keptO f i) := ⟨_, rfl⟩;obtain ⟨x0, hx0⟩ : ∃ x, x = ans.getD (noneW k) := ⟨_, rfl⟩;obtain ⟨ob, hob⟩ : ∃ b, b = ans.isSome := ⟨_, rfl⟩;have hklen : (keptO f i).length ≤ v.m := hkl.out i;have cK := Hd (cKo.out i);have cE := Hd (fun D m d W hF hR (hL : LAt encI W D m (keptO f i)) hm => (cEo.out A2 dX X gX D m d (keptO f i) W hF hR hL (hko.out i) hm).mono (R' := fun e w' => e = .returned (.tuple #[.agg #[.int .i64 x0.ki, .int .i64 x0.r, .int .i64 x0.w1, .int .i64 x0.w2, .int .i64 x0.o, .slice none 0 0, .int .i64 x0.fi, .int .i64 x0.se], .bool ob]) ∧ Below W.heap.size W w') (fun e w' h => by
     obtain ⟨y, hy, he, hb'⟩ := h;rw [← hae] at hy he;rw [← hx0] at hy;rw [← hob] at he;subst hy;exact ⟨he, hb'⟩))
    rw [← hae] at hsg;replace hae := Hd hae;replace hx0 := Hd hx0;replace hob := Hd hob
    apply cut_five (F := fun (M : Nat) (w9 : World) (D3 : Option Addr) (m3 d3 : Nat) => Blk w9 M 34 [.int .i64 x0.ki, .int .i64 x0.r, .int .i64 x0.w1, .int .i64 x0.w2, .int .i64 x0.o, .slice none 0 0, .int .i64 x0.fi, .int .i64 x0.se] ∧ U.heap.size ≤ M ∧ Below U.heap.size U w9)
    ·intro key
     have p0 := hB.out.c0;have p1 := hB.out.c1;have p2 := hB.out.c2;have m0 := kM.out.1.c0;have m1 := kM.out.1.c1
     iterate 5
      refine wpTf (v := ?_) rfl (by rfl) (fun w' hw' => ?_) (fun K hK => ?_);rotate_left
      ·(go_simp; try with_reducible rfl)
      go_simp;refine hK _ ?_;clear hK K
     clear p0 p1 p2 m0 m1;refine wpPT_two rfl (by rfl) rfl (by rfl) (fun K hK => ?_) (fun K hK => ?_)
     ·skip
      go_simp;refine (cK.out U (hB.out.later bW).f).mono ?_; rintro e v1 ⟨D3, m3, d3, rfl, hI, hmd3, hdm3, b⟩;replace hI : LAt encI v1 D3 m3 (keptO f i) := hI;have hm3 : m3 ≤ 1048576 := by have h1 : m3 = (keptO f i).length := hI.len.symm; omega
      replace bW := bT2 bW b;refine hK _ _ bW ?_;clear hK K;refine wpPT_two rfl (by rfl) rfl (by rfl) (fun K hK => ?_) (fun K hK => ?_)
      ·skip
       clear b;go_simp;refine (cE.out D3 m3 d3 v1 (hB.out.later bW).f (kM.out.below bW).2 hI hm3).mono ?_; rintro e v2 ⟨rfl, b⟩;replace bW := bT2 bW b;refine hK _ _ bW ?_;clear hK K
       iterate 3
        refine wpTf (v := ?_) rfl (by rfl) (fun w' hw' => ?_) (fun K hK => ?_);rotate_left
        ·(go_simp; try with_reducible rfl)
        go_simp;refine hK _ ?_;clear hK K
       refine wpT1 rfl (by rfl) (fun K hK => ?_);clear b;go_simp;obtain ⟨M, hM⟩ : ∃ M, M = (World.heap v2).size := ⟨_, rfl⟩;obtain ⟨v3, hw'⟩ : ∃ X : World, X = World.alloc v2 (.cells #[.int .i64 0, .int .i64 0, .int .i64 0, .int .i64 0, .int .i64 0, .slice none 0 0, .int .i64 0, .int .i64 0] 34) := ⟨_, rfl⟩;rw [← hw', ← hM];have b : Below (World.heap v2).size v2 v3 := by rw [hw']; exact bAl _ _
       have hUM : U.heap.size ≤ M := by rw [hM]; exact bW.size
       replace bW := bT2 bW b;refine hK _ _ bW ?_;clear hK K;have kN := Hd (show Blk v3 M 34 [.int .i64 0, .int .i64 0, .int .i64 0, .int .i64 0, .int .i64 0, .slice none 0 0, .int .i64 0, .int .i64 0] from by rw [hw', hM]; exact Blk.new _ _ _);clear hM hw' b;obtain ⟨z0x, z1x, z2x, z3x, z4x, z5x, z6x, z7x⟩ := kN.out.cells8;obtain ⟨z0fx, z1fx, z2fx, z3fx, z4fx, z5fx, z6fx, z7fx⟩ := kN.out.frozen8;refine wpT1 rfl (by rfl) (fun K hK => ?_);go_simp;obtain ⟨wz, hwz⟩ : ∃ X : World, X = (((((((World.setCell v3 ⟨M, 0, none⟩ (.int .i64 x0.ki)).setCell ⟨M, 1, none⟩ (.int .i64 x0.r)).setCell ⟨M, 2, none⟩ (.int .i64 x0.w1)).setCell ⟨M, 3, none⟩ (.int .i64 x0.w2)).setCell ⟨M, 4, none⟩ (.int .i64 x0.o)).setCell ⟨M, 5, none⟩ (.slice none 0 0)).setCell ⟨M, 6, none⟩ (.int .i64 x0.fi)).setCell ⟨M, 7, none⟩ (.int .i64 x0.se) := ⟨_, rfl⟩;rw [← hwz];have kV := kN.out.put8 (.int .i64 x0.ki) (.int .i64 x0.r) (.int .i64 x0.w1) (.int .i64 x0.w2) (.int .i64 x0.o) (.slice none 0 0) (.int .i64 x0.fi) (.int .i64 x0.se);have bV := bP8 bW (g := M) hUM (.int .i64 x0.ki) (.int .i64 x0.r) (.int .i64 x0.w1) (.int .i64 x0.w2) (.int .i64 x0.o) (.slice none 0 0) (.int .i64 x0.fi) (.int .i64 x0.se);rw [← hwz] at kV bV;clear hwz;refine hK _ _ bV ?_;clear hK K z0x z1x z2x z3x z4x z5x z6x z7x z0fx z1fx z2fx z3fx z4fx z5fx z6fx z7fx kN
       iterate 1
        refine wpTf (v := ?_) rfl (by rfl) (fun w' hw' => ?_) (fun K hK => ?_);rotate_left
        ·(go_simp; try with_reducible rfl)
        go_simp;refine hK _ ?_;clear hK K
       refine wpTd (NoPanic.normal ?_);exact key M wz D3 m3 d3 ⟨kV, hUM, bV⟩
      ·skip
       clear b;go_simp;obtain ⟨M, hM⟩ : ∃ M, M = (World.heap v1).size := ⟨_, rfl⟩;obtain ⟨v4, hw'⟩ : ∃ X : World, X = World.alloc v1 (.cells #[.int .i64 0, .int .i64 0, .int .i64 0, .int .i64 0, .int .i64 0, .slice none 0 0, .int .i64 0, .int .i64 0] 34) := ⟨_, rfl⟩;rw [← hw', ← hM];have b : Below (World.heap v1).size v1 v4 := by rw [hw']; exact bAl _ _
       have hUM : U.heap.size ≤ M := by rw [hM]; exact bW.size
       replace bW := bT2 bW b;refine hK _ _ bW ?_;clear hK K;have kN := Hd (show Blk v4 M 34 [.int .i64 0, .int .i64 0, .int .i64 0, .int .i64 0, .int .i64 0, .slice none 0 0, .int .i64 0, .int .i64 0] from by rw [hw', hM]; exact Blk.new _ _ _);have hI := hI.below b;clear hM hw' b;refine wpT1 rfl (by rfl) (fun K hK => ?_);go_simp;refine (cE.out D3 m3 d3 v4 (hB.out.later bW).f (kM.out.below bW).2 hI hm3).mono ?_; rintro e v5 ⟨rfl, b⟩;replace bW := bT2 bW b;refine hK _ _ bW ?_;clear hK K;replace kN := Hd (kN.out.below b kN.out.lt);clear b
       iterate 3
        refine wpTf (v := ?_) rfl (by rfl) (fun w' hw' => ?_) (fun K hK => ?_);rotate_left
        ·(go_simp; try with_reducible rfl)
        go_simp;refine hK _ ?_;clear hK K
       obtain ⟨z0x, z1x, z2x, z3x, z4x, z5x, z6x, z7x⟩ := kN.out.cells8;obtain ⟨z0fx, z1fx, z2fx, z3fx, z4fx, z5fx, z6fx, z7fx⟩ := kN.out.frozen8;refine wpT1 rfl (by rfl) (fun K hK => ?_);go_simp;obtain ⟨wz, hwz⟩ : ∃ X : World, X = (((((((World.setCell v5 ⟨M, 0, none⟩ (.int .i64 x0.ki)).setCell ⟨M, 1, none⟩ (.int .i64 x0.r)).setCell ⟨M, 2, none⟩ (.int .i64 x0.w1)).setCell ⟨M, 3, none⟩ (.int .i64 x0.w2)).setCell ⟨M, 4, none⟩ (.int .i64 x0.o)).setCell ⟨M, 5, none⟩ (.slice none 0 0)).setCell ⟨M, 6, none⟩ (.int .i64 x0.fi)).setCell ⟨M, 7, none⟩ (.int .i64 x0.se) := ⟨_, rfl⟩;rw [← hwz];have kV := kN.out.put8 (.int .i64 x0.ki) (.int .i64 x0.r) (.int .i64 x0.w1) (.int .i64 x0.w2) (.int .i64 x0.o) (.slice none 0 0) (.int .i64 x0.fi) (.int .i64 x0.se);have bV := bP8 bW (g := M) hUM (.int .i64 x0.ki) (.int .i64 x0.r) (.int .i64 x0.w1) (.int .i64 x0.w2) (.int .i64 x0.o) (.slice none 0 0) (.int .i64 x0.fi) (.int .i64 x0.se);rw [← hwz] at kV bV;clear hwz;refine hK _ _ bV ?_;clear hK K z0x z1x z2x z3x z4x z5x z6x z7x z0fx z1fx z2fx z3fx z4fx z5fx z6fx z7fx kN
       iterate 1
        refine wpTf (v := ?_) rfl (by rfl) (fun w' hw' => ?_) (fun K hK => ?_);rotate_left
        ·(go_simp; try with_reducible rfl)
        go_simp;refine hK _ ?_;clear hK K
       refine wpTd (NoPanic.normal ?_);exact key M wz D3 m3 d3 ⟨kV, hUM, bV⟩
     ·skip
      go_simp;obtain ⟨M, hM⟩ : ∃ M, M = (World.heap U).size := ⟨_, rfl⟩;obtain ⟨v6, hw'⟩ : ∃ X : World, X = World.alloc U (.cells #[.int .i64 0, .int .i64 0, .int .i64 0, .int .i64 0, .int .i64 0, .slice none 0 0, .int .i64 0, .int .i64 0] 34) := ⟨_, rfl⟩;rw [← hw', ← hM];have b : Below (World.heap U).size U v6 := by rw [hw']; exact bAl _ _
      have hUM : U.heap.size ≤ M := by rw [hM]; exact bW.size
      replace bW := bT2 bW b;refine hK _ _ bW ?_;clear hK K;have kN := Hd (show Blk v6 M 34 [.int .i64 0, .int .i64 0, .int .i64 0, .int .i64 0, .int .i64 0, .slice none 0 0, .int .i64 0, .int .i64 0] from by rw [hw', hM]; exact Blk.new _ _ _);clear hM hw' b;refine wpT1 rfl (by rfl) (fun K hK => ?_);go_simp;refine (cK.out v6 (hB.out.later bW).f).mono ?_; rintro e v7 ⟨D3, m3, d3, rfl, hI, hmd3, hdm3, b⟩;replace hI : LAt encI v7 D3 m3 (keptO f i) := hI;have hm3 : m3 ≤ 1048576 := by have h1 : m3 = (keptO f i).length := hI.len.symm; omega
      replace bW := bT2 bW b;refine hK _ _ bW ?_;clear hK K;replace kN := Hd (kN.out.below b kN.out.lt);clear b;refine wpT1 rfl (by rfl) (fun K hK => ?_);go_simp;refine (cE.out D3 m3 d3 v7 (hB.out.later bW).f (kM.out.below bW).2 hI hm3).mono ?_; rintro e v8 ⟨rfl, b⟩;replace bW := bT2 bW b;refine hK _ _ bW ?_;clear hK K;replace kN := Hd (kN.out.below b kN.out.lt);clear b
      iterate 3
       refine wpTf (v := ?_) rfl (by rfl) (fun w' hw' => ?_) (fun K hK => ?_);rotate_left
       ·(go_simp; try with_reducible rfl)
       go_simp;refine hK _ ?_;clear hK K
      obtain ⟨z0x, z1x, z2x, z3x, z4x, z5x, z6x, z7x⟩ := kN.out.cells8;obtain ⟨z0fx, z1fx, z2fx, z3fx, z4fx, z5fx, z6fx, z7fx⟩ := kN.out.frozen8;refine wpT1 rfl (by rfl) (fun K hK => ?_);go_simp;obtain ⟨wz, hwz⟩ : ∃ X : World, X = (((((((World.setCell v8 ⟨M, 0, none⟩ (.int .i64 x0.ki)).setCell ⟨M, 1, none⟩ (.int .i64 x0.r)).setCell ⟨M, 2, none⟩ (.int .i64 x0.w1)).setCell ⟨M, 3, none⟩ (.int .i64 x0.w2)).setCell ⟨M, 4, none⟩ (.int .i64 x0.o)).setCell ⟨M, 5, none⟩ (.slice none 0 0)).setCell ⟨M, 6, none⟩ (.int .i64 x0.fi)).setCell ⟨M, 7, none⟩ (.int .i64 x0.se) := ⟨_, rfl⟩;rw [← hwz];have kV := kN.out.put8 (.int .i64 x0.ki) (.int .i64 x0.r) (.int .i64 x0.w1) (.int .i64 x0.w2) (.int .i64 x0.o) (.slice none 0 0) (.int .i64 x0.fi) (.int .i64 x0.se);have bV := bP8 bW (g := M) hUM (.int .i64 x0.ki) (.int .i64 x0.r) (.int .i64 x0.w1) (.int .i64 x0.w2) (.int .i64 x0.o) (.slice none 0 0) (.int .i64 x0.fi) (.int .i64 x0.se);rw [← hwz] at kV bV;clear hwz;refine hK _ _ bV ?_;clear hK K z0x z1x z2x z3x z4x z5x z6x z7x z0fx z1fx z2fx z3fx z4fx z5fx z6fx z7fx kN
      iterate 1
       refine wpTf (v := ?_) rfl (by rfl) (fun w' hw' => ?_) (fun K hK => ?_);rotate_left
       ·(go_simp; try with_reducible rfl)
       go_simp;refine hK _ ?_;clear hK K
      refine wpTd (NoPanic.normal ?_);exact key M wz D3 m3 d3 ⟨kV, hUM, bV⟩
    ·intro gw w9 D3 m3 d3 hk9
     obtain ⟨kW, hUM, hb9⟩ := hk9;have kQ9 := kR.out.below hb.out kR.out.lt;have hgrU := kQ9.lt;replace kQ9 := kQ9.below hb9 kQ9.lt;replace hb := Hd (bT2 hb.out hb9);replace hB := Hd (hB.out.later hb9);have hne : gr ≠ gw := by omega
     have hbw : w.heap.size ≤ gw := by have := hgrw.out; omega
     clear hb9 bW cE cK kM
     cases ob with
     | false =>
      have hnn : ans = none := by
       have h := hob.out
       cases ans with
       | none => rfl
       | some _ => simp at h
      have hnx := Hd (hst.out.1 (by rw [hsg.out, hnn]; rfl));clear kQ9 kW;go_wp2_with fail;exact ⟨⟨i + 1, by have := hlt.out; omega, by go_num, hnx, hb⟩, by have := hlt.out; simp [intOf]; omega⟩
     | true =>
      have hss : ans = some x0 := by
       have h := hob.out;have h2 := hx0.out
       cases ans with
       | none => simp at h
       | some y => rw [h2]; rfl
      have hans := Hd (hst.out.2 _ (by rw [hsg.out, hss]; rfl));have kV := kW.set_ 4 (.int .i64 (i : Int));simp only [List.set_cons_zero, List.set_cons_succ] at kV;have kQ := kQ9.far (p := ⟨gw, 4, none⟩) hne (.int .i64 (i : Int));have bV := hB.out.o.setCell (p := ⟨gw, 4, none⟩) hbw (.int .i64 (i : Int));replace hne := Hd hne;replace hss := Hd hss;obtain ⟨z0x, z1x, z2x, z3x, z4x, z5x, z6x, z7x⟩ := kW.cells8;obtain ⟨z0fx, z1fx, z2fx, z3fx, z4fx, z5fx, z6fx, z7fx⟩ := kW.frozen8;clear kQ9 kW;obtain ⟨z0w, z1w, z2w, z3w, z4w, z5w, z6w, z7w⟩ := kV.cells8;obtain ⟨z0c, z1c, z2c, z3c, z4c, z5c, z6c, z7c⟩ := kQ.cells8;obtain ⟨z0fz, z1fz, z2fz, z3fz, z4fz, z5fz, z6fz, z7fz⟩ := kQ.frozen8;have kN := kQ.put8 (.int .i64 x0.ki) (.int .i64 x0.r) (.int .i64 x0.w1) (.int .i64 x0.w2) (.int .i64 (i : Int)) (.slice none 0 0) (.int .i64 x0.fi) (.int .i64 x0.se);have hbf := Hd (bP8 bV (g := gr) hgrw.out (.int .i64 x0.ki) (.int .i64 x0.r) (.int .i64 x0.w1) (.int .i64 x0.w2) (.int .i64 (i : Int)) (.slice none 0 0) (.int .i64 x0.fi) (.int .i64 x0.se));have hdd := Hd kN.cells8;clear kN kQ kV bV;go_wp2_with fail;obtain ⟨d0, d1, d2, d3, d4, d5, d6, d7⟩ := hdd.out;exact bodyPost_ret (v := .tuple #[.agg #[.int .i64 x0.ki, .int .i64 x0.r, .int .i64 x0.w1, .int .i64 x0.w2, .int .i64 (i : Int), .slice none 0 0, .int .i64 x0.fi, .int .i64 x0.se], .bool true]) (by simp [results, Tryz.results45, go_sem, d0, d1, d2, d3, d4, d5, d6, d7]) rfl ⟨⟨x0.ki, x0.r, x0.w1, x0.w2, (i : Int), x0.fi, x0.se⟩, by rw [hans.out]; rfl, by rw [hans.out]; rfl, hbf.out⟩
   ·have e6 : (k == 6) = false := by simpa using hk6
    rw [if_neg hk6] at hsg;replace hk6 := Hd hk6;replace hsg := Hd hsg;have cL := Hd (ref4_Loop A2 v.m dX X W4 kX.out.2 gX);go_wp2_with (rw [← hW4, ← hgx]; clear hW4; replace hgx := Hd hgx);refine cL.out.mono ?_; rintro e w5 ⟨q, bq, rfl, hLp, b⟩;have hs5 := hLp.sees k i;rw [← hsg.out] at hs5;replace hb := Hd (bT2 hb.out b);replace hB := Hd (hB.out.later b);have kQ5 := Hd (kR.out.below hb.out kR.out.lt);clear b cL hLp x0 x1 p0 p1 p2 kX
    cases bq with
    | false =>
     have hnx := Hd (hst.out.1 hs5);clear hs5 kQ5;go_wp2_with fail;exact ⟨⟨i + 1, by have := hlt.out; omega, by go_num, hnx, hb⟩, by have := hlt.out; simp [intOf]; omega⟩
    | true =>
     have hans := Hd (hst.out.2 _ hs5);clear hs5;go_wp2_with fail;refine (cN.out w5).mono ?_; rintro e w6 ⟨he, b2⟩;have he' : e = .returned (.agg #[.int .i64 k, .int .i64 (-1), .int .i64 (-1), .int .i64 (-1), .int .i64 (-1), .slice none 0 0, .int .i64 (-1), .int .i64 (-1)]) := he;subst he';obtain ⟨W7, hW7⟩ : ∃ W, W = World.alloc w6 (.cells #[.int .i64 k, .int .i64 (-1), .int .i64 (-1), .int .i64 (-1), .int .i64 (-1), .slice none 0 0, .int .i64 (-1), .int .i64 (-1)] 34) := ⟨_, rfl⟩;obtain ⟨gw, hgw⟩ : ∃ g, g = (World.heap w6).size := ⟨_, rfl⟩;have bW7 : Below (World.heap w6).size w6 W7 := by rw [hW7]; exact bAl _ _
     have kW := Hd (show Blk W7 gw 34 [.int .i64 k, .int .i64 (-1), .int .i64 (-1), .int .i64 (-1), .int .i64 (-1), .slice none 0 0, .int .i64 (-1), .int .i64 (-1)] from by rw [hW7, hgw]; exact Blk.new w6 _ _);have hne : gr ≠ gw := by have := (kQ5.out.below b2 kQ5.out.lt).lt; omega
     have hbw : w.heap.size ≤ gw := by have := hgrw.out; have := (kQ5.out.below b2 kQ5.out.lt).lt; omega
     have kQ7 := (kQ5.out.below b2 kQ5.out.lt).below bW7 (kQ5.out.below b2 kQ5.out.lt).lt;have b7 := bT2 (bT2 hB.out.o b2) bW7;have kV := (kW.out.set_ 4 (.int .i64 (i : Int))).set_ 2 (.int .i64 q);simp only [List.set_cons_zero, List.set_cons_succ] at kV;have kQ := (kQ7.far (p := ⟨gw, 4, none⟩) hne (.int .i64 (i : Int))).far (p := ⟨gw, 2, none⟩) hne (.int .i64 q);have bV := (b7.setCell (p := ⟨gw, 4, none⟩) hbw (.int .i64 (i : Int))).setCell (p := ⟨gw, 2, none⟩) hbw (.int .i64 q);replace hne := Hd hne;obtain ⟨z0x, z1x, z2x, z3x, z4x, z5x, z6x, z7x⟩ := kW.out.cells8;obtain ⟨z0fx, z1fx, z2fx, z3fx, z4fx, z5fx, z6fx, z7fx⟩ := kW.out.frozen8;clear kQ5 b2 he kQ7 b7 bW7;obtain ⟨z0w, z1w, z2w, z3w, z4w, z5w, z6w, z7w⟩ := kV.cells8;obtain ⟨z0c, z1c, z2c, z3c, z4c, z5c, z6c, z7c⟩ := kQ.cells8;obtain ⟨z0fz, z1fz, z2fz, z3fz, z4fz, z5fz, z6fz, z7fz⟩ := kQ.frozen8;have kN := kQ.put8 (.int .i64 k) (.int .i64 (-1)) (.int .i64 q) (.int .i64 (-1)) (.int .i64 (i : Int)) (.slice none 0 0) (.int .i64 (-1)) (.int .i64 (-1));have hbf := Hd (bP8 bV (g := gr) hgrw.out (.int .i64 k) (.int .i64 (-1)) (.int .i64 q) (.int .i64 (-1)) (.int .i64 (i : Int)) (.slice none 0 0) (.int .i64 (-1)) (.int .i64 (-1)));have hdd := Hd kN.cells8;clear kN kQ kV bV;go_wp2_with (rw [← hW7, ← hgw]; clear hW7; replace hgw := Hd hgw);obtain ⟨d0, d1, d2, d3, d4, d5, d6, d7⟩ := hdd.out;exact bodyPost_ret (v := .tuple #[.agg #[.int .i64 k, .int .i64 (-1), .int .i64 q, .int .i64 (-1), .int .i64 (i : Int), .slice none 0 0, .int .i64 (-1), .int .i64 (-1)], .bool true]) (by simp [results, Tryz.results45, go_sem, d0, d1, d2, d3, d4, d5, d6, d7]) rfl ⟨⟨k, (-1), q, (-1), (i : Int), -1, -1⟩, by rw [hans.out]; rfl, by rw [hans.out]; rfl, hbf.out⟩
  ·have hlt' : ¬ (i : Int) < (v.m : Int) := by omega
   obtain rfl : i = v.m := by omega
   have hans : Hid ((List.range v.m).findSome? (seesG f co k) = none) := Hd (by
    have h := hno.out
    rwa [List.take_of_length_le (by rw [List.length_range]; exact Nat.le_refl _)] at h)
   clear hlt;go_wp2_with fail;refine (cN.out wr).mono ?_; rintro e w3 ⟨he, b2⟩;have he' : e = .returned (.agg #[.int .i64 k, .int .i64 (-1), .int .i64 (-1), .int .i64 (-1), .int .i64 (-1), .slice none 0 0, .int .i64 (-1), .int .i64 (-1)]) := he;subst he';have kQ := kQr.out.below b2 kQr.out.lt;have bV := bT2 hB.out.o b2;clear b2 he kQr kM p0 p1 p2;obtain ⟨z0c, z1c, z2c, z3c, z4c, z5c, z6c, z7c⟩ := kQ.cells8;obtain ⟨z0fz, z1fz, z2fz, z3fz, z4fz, z5fz, z6fz, z7fz⟩ := kQ.frozen8;have kN := kQ.put8 (.int .i64 k) (.int .i64 (-1)) (.int .i64 (-1)) (.int .i64 (-1)) (.int .i64 (-1)) (.slice none 0 0) (.int .i64 (-1)) (.int .i64 (-1));have hbf := Hd (bP8 bV (g := gr) hgrw.out (.int .i64 k) (.int .i64 (-1)) (.int .i64 (-1)) (.int .i64 (-1)) (.int .i64 (-1)) (.slice none 0 0) (.int .i64 (-1)) (.int .i64 (-1)));have hdd := Hd kN.cells8;clear kN kQ bV;go_wp2_with fail;obtain ⟨d0, d1, d2, d3, d4, d5, d6, d7⟩ := hdd.out;exact bodyPost_ret (v := .tuple #[.agg #[.int .i64 k, .int .i64 (-1), .int .i64 (-1), .int .i64 (-1), .int .i64 (-1), .slice none 0 0, .int .i64 (-1), .int .i64 (-1)], .bool false]) (by simp [results, Tryz.results45, go_sem, d0, d1, d2, d3, d4, d5, d6, d7]) rfl ⟨⟨k, (-1), (-1), (-1), (-1), -1, -1⟩, by rw [hans.out]; rfl, by rw [hans.out]; rfl, hbf.out⟩
theorem rdl_succ (n : Nat) : rdl (n + 1) = rdl n ++ [(n : Int)] := by
 unfold rdl;rw [List.range_succ, List.map_append]; rfl
theorem rdl_mem {n : Nat} {r : Int} (h : r ∈ rdl n) : 0 ≤ r ∧ r < (n : Int) := by
 unfold rdl at h;obtain ⟨k, hk, rfl⟩ := List.mem_map.1 h;have := List.mem_range.1 hk
 omega
theorem ref19_Kinds (l : Int) (w : World) : Calls Tryz.prog 14 #[.int .i64 l] w (RetIL (kindsF l) w) := by
 by_cases h1 : l = 1
 ·have e1 : (l == 1) = true := by rw [h1]; rfl
  have hk := Hd (show kindsF l = [1, 2, 3, 4] from by rw [h1]; rfl);replace h1 := Hd h1;obtain ⟨W1, hW1⟩ : ∃ W, W = w.alloc (.cells #[.int .i64 1, .int .i64 2, .int .i64 3, .int .i64 4] 3) := ⟨_, rfl⟩;obtain ⟨g1, hg1⟩ : ∃ g, g = w.heap.size := ⟨_, rfl⟩;have b1 := Hd (show Below w.heap.size w W1 from by rw [hW1]; exact bAl _ _);have hl := Hd (show LAt encI W1 (some ⟨g1, 0, none⟩) 4 [1, 2, 3, 4] from by
   rw [hW1, hg1];exact LAt.of_blk (t := 3) (Blk.new w _ (encI.all [1, 2, 3, 4])) (fun x hx => by
    simp only [List.mem_cons, List.not_mem_nil, or_false] at hx
    show -9223372036854775808 ≤ x ∧ x < 9223372036854775808
    omega) rfl)
  go_enter Tryz.func14, Tryz.ntmps14
  go_wp2_with (rw [← hW1, ← hg1]; clear hW1; replace hg1 := Hd hg1);exact bodyPost_ret (v := .slice (some ⟨g1, 0, none⟩) 4 4) (by simp [results, go_sem]) rfl ⟨_, 4, 4, rfl, by rw [hk.out]; exact hl.out, Nat.le_refl _, by omega, b1.out⟩
 ·have e1 : (l == 1) = false := by simpa using h1
  by_cases h2 : l = 2
  ·have e2 : (l == 2) = true := by rw [h2]; rfl
   have hk := Hd (show kindsF l = [1, 2, 3, 4, 5] from by rw [h2]; rfl);replace h1 := Hd h1;replace h2 := Hd h2;obtain ⟨W1, hW1⟩ : ∃ W, W = w.alloc (.cells #[.int .i64 1, .int .i64 2, .int .i64 3, .int .i64 4, .int .i64 5] 3) := ⟨_, rfl⟩;obtain ⟨g1, hg1⟩ : ∃ g, g = w.heap.size := ⟨_, rfl⟩;have b1 := Hd (show Below w.heap.size w W1 from by rw [hW1]; exact bAl _ _);have hl := Hd (show LAt encI W1 (some ⟨g1, 0, none⟩) 5 [1, 2, 3, 4, 5] from by
    rw [hW1, hg1];exact LAt.of_blk (t := 3) (Blk.new w _ (encI.all [1, 2, 3, 4, 5])) (fun x hx => by
     simp only [List.mem_cons, List.not_mem_nil, or_false] at hx
     show -9223372036854775808 ≤ x ∧ x < 9223372036854775808
     omega) rfl)
   go_enter Tryz.func14, Tryz.ntmps14
   go_wp2_with (rw [← hW1, ← hg1]; clear hW1; replace hg1 := Hd hg1);exact bodyPost_ret (v := .slice (some ⟨g1, 0, none⟩) 5 5) (by simp [results, go_sem]) rfl ⟨_, 5, 5, rfl, by rw [hk.out]; exact hl.out, Nat.le_refl _, by omega, b1.out⟩
  ·have e2 : (l == 2) = false := by simpa using h2
   by_cases h3 : l = 3
   ·have e3 : (l == 3) = true := by rw [h3]; rfl
    have hk := Hd (show kindsF l = [1, 2, 3, 4, 6, 7] from by rw [h3]; rfl);replace h1 := Hd h1;replace h2 := Hd h2;replace h3 := Hd h3;obtain ⟨W1, hW1⟩ : ∃ W, W = w.alloc (.cells #[.int .i64 1, .int .i64 2, .int .i64 3, .int .i64 4, .int .i64 6, .int .i64 7] 3) := ⟨_, rfl⟩;obtain ⟨g1, hg1⟩ : ∃ g, g = w.heap.size := ⟨_, rfl⟩;have b1 := Hd (show Below w.heap.size w W1 from by rw [hW1]; exact bAl _ _);have hl := Hd (show LAt encI W1 (some ⟨g1, 0, none⟩) 6 [1, 2, 3, 4, 6, 7] from by
     rw [hW1, hg1];exact LAt.of_blk (t := 3) (Blk.new w _ (encI.all [1, 2, 3, 4, 6, 7])) (fun x hx => by
      simp only [List.mem_cons, List.not_mem_nil, or_false] at hx
      show -9223372036854775808 ≤ x ∧ x < 9223372036854775808
      omega) rfl)
    go_enter Tryz.func14, Tryz.ntmps14
    go_wp2_with (rw [← hW1, ← hg1]; clear hW1; replace hg1 := Hd hg1);exact bodyPost_ret (v := .slice (some ⟨g1, 0, none⟩) 6 6) (by simp [results, go_sem]) rfl ⟨_, 6, 6, rfl, by rw [hk.out]; exact hl.out, Nat.le_refl _, by omega, b1.out⟩
   ·have e3 : (l == 3) = false := by simpa using h3
    have hk := Hd (show kindsF l = [] from by unfold kindsF; rw [if_neg h1, if_neg h2, if_neg h3]);replace h1 := Hd h1;replace h2 := Hd h2;replace h3 := Hd h3
    go_enter Tryz.func14, Tryz.ntmps14
    go_wp2_with fail;exact bodyPost_ret (v := .slice none 0 0) (by simp [results, go_sem]) rfl ⟨none, 0, 0, rfl, by rw [hk.out]; exact LAt.nil _ _ _, Nat.le_refl _, by omega, Below.refl _ _⟩
theorem ref19_Core (x y : Wit) (A B : Option Addr) (n c m d : Nat) (w : World) (h1 : x.ki = y.ki) (h2 : x.r = y.r) (h3 : x.w1 = y.w1) (h4 : x.w2 = y.w2) (h5 : x.o = y.o) :
  Calls Tryz.prog 11 #[.agg #[.int .i64 x.ki, .int .i64 x.r, .int .i64 x.w1, .int .i64 x.w2, .int .i64 x.o, .slice A n c, .int .i64 x.fi, .int .i64 x.se], .agg #[.int .i64 y.ki, .int .i64 y.r, .int .i64 y.w1, .int .i64 y.w2, .int .i64 y.o, .slice B m d, .int .i64 y.fi, .int .i64 y.se]] w (RetBool true w) := by
 obtain ⟨a0, a1, a2, a3, a4, a6, a7⟩ := x;obtain ⟨b0, b1, b2, b3, b4, b6, b7⟩ := y
 simp only at h1 h2 h3 h4 h5 ⊢
 subst h1; subst h2; subst h3; subst h4; subst h5;obtain ⟨W1, hW1⟩ : ∃ W, W = w.alloc (.cells #[.int .i64 a0, .int .i64 a1, .int .i64 a2, .int .i64 a3, .int .i64 a4, .slice A n c, .int .i64 a6, .int .i64 a7] 34) := ⟨_, rfl⟩;obtain ⟨g1, hg1⟩ : ∃ g, g = w.heap.size := ⟨_, rfl⟩;have k1 : Blk W1 g1 34 [.int .i64 a0, .int .i64 a1, .int .i64 a2, .int .i64 a3, .int .i64 a4, .slice A n c, .int .i64 a6, .int .i64 a7] := by rw [hW1, hg1]; exact Blk.new w _ _
 have bb1 : Below w.heap.size w W1 := by rw [hW1]; exact bAl _ _
 obtain ⟨W2, hW2⟩ : ∃ W, W = W1.alloc (.cells #[.int .i64 a0, .int .i64 a1, .int .i64 a2, .int .i64 a3, .int .i64 a4, .slice B m d, .int .i64 b6, .int .i64 b7] 34) := ⟨_, rfl⟩;obtain ⟨g2, hg2⟩ : ∃ g, g = W1.heap.size := ⟨_, rfl⟩;have k2 : Blk W2 g2 34 [.int .i64 a0, .int .i64 a1, .int .i64 a2, .int .i64 a3, .int .i64 a4, .slice B m d, .int .i64 b6, .int .i64 b7] := by rw [hW2, hg2]; exact Blk.new W1 _ _
 have bb2 : Below W1.heap.size W1 W2 := by rw [hW2]; exact bAl _ _
 replace k1 := k1.below bb2 k1.lt;have bb := Hd (bT2 bb1 bb2);obtain ⟨z0x, z1x, z2x, z3x, z4x, z5x, z6x, z7x⟩ := k1.cells8;obtain ⟨z0y, z1y, z2y, z3y, z4y, z5y, z6y, z7y⟩ := k2.cells8;have e0 : (a0 == a0) = true := by simp
 have e1 : (a1 == a1) = true := by simp
 have e2 : (a2 == a2) = true := by simp
 have e3 : (a3 == a3) = true := by simp
 have e4 : (a4 == a4) = true := by simp
 clear bb1 bb2 k1 k2
 go_enter Tryz.func11, Tryz.ntmps11
 go_wp2_with (first | (rw [← hW1, ← hg1]; clear hW1; replace hg1 := Hd hg1) | (rw [← hW2, ← hg2]; clear hW2; replace hg2 := Hd hg2));go_ret;exact ⟨rfl, bb.out⟩
theorem LAt.setShortO {α : Type} {E : Enc α} {w : World} {A : Option Addr} {n : Nat} {xs : List α} {g i : Nat} {t : TypeId} {cs : List Value} (h : LAt E w A n xs) (k : Blk w g t cs) (hsz : cs.length < E.sz) (u : Value) : LAt E (w.setCell ⟨g, i, none⟩ u) A n xs := by
 rcases Nat.eq_zero_or_pos n with h0 | h0
 ·subst h0
  have : xs = [] := List.eq_nil_of_length_eq_zero h.len;subst this;exact LAt.nil _ _ _
 ·refine h.setFar (fun ad e hb => ?_) u
  obtain ⟨b, off, e2, -, hc⟩ := h.2.2 h0;rw [e] at e2
  cases e2
  have hb' : b = g := hb;subst hb';have hl : E.sz - 1 < (E.all xs).length := by
   rw [Enc.all_len, h.len];have := E.pos;have : E.sz ≤ n * E.sz := Nat.le_mul_of_pos_left _ h0
   omega
  have h1 := hc (E.sz - 1) _ (List.getElem?_eq_getElem hl);rw [Blk.cell k, List.getElem?_eq_none (by omega)] at h1
  cases h1
theorem ref19_One (v : FV) (f : Fac) (k : Int) (w : World) (hF : FactsAt w v f) (hvm : v.m < 64) (hw : WholeF f) :
  Calls Tryz.prog 23 #[.agg #[.slice v.A v.n v.c, .slice v.B v.m v.d, .slice v.C v.k v.e], .int .i64 k] w (RetWit k (kindF f k) w) := by
 have hil := hF.is.len;have hvk : v.k ≤ 1048576 := by have h1 := hF.fs.len; have h2 := hw.len; omega
 obtain ⟨i0, hi, hz0, hz1, hz2⟩ := info_parts info_int16;replace hi := Hd hi;replace hz0 := Hd hz0;replace hz1 := Hd hz1;replace hz2 := Hd hz2;obtain ⟨a, ha⟩ : ∃ a, a = coM f := ⟨_, rfl⟩;have hG : Good v.m a := by rw [ha, ← hil]; exact (coM_hull hw (by omega)).1
 have cT := Hd (fun W hW => ref19_thin v f W hW hvk);have cR := Hd (fun A n c X W (hW : RowsAt W A n X) (hg : Good n X) => ref19_round k A n c X W hW hg);have cEa := Hd (fun A c D d W hW hR hL => ref19_early v f A c a k D v.m d (rdl v.m) W hW hR hG hL (fun r hr => rdl_mem hr) (by omega) (by omega) hw);have cB := Hd (fun A c W hW hR => ref19_between v f A c a W hW hR hG (by omega) hw);have cSe := Hd (fun A c W hW hR => ref19_sees v f A c a k W hW hR hG hvm hw);have cE := Hd (fun A c W hW hR => ref17_Edges v f A c a W hW hR hG (by omega) hw);have cC := ref13_Co v f;have hkF : Hid (kindF f k = if k = 1 then thinF f else if k = 2 then roundF k v.m a else if k = 3 then earlyF f a k (rdl v.m) else if k = 4 then betwF f a else if k = 5 then roundF k v.m (cfM f a) else seesF f a k) := Hd (by unfold kindF; rw [ha, hil]; rfl);have hat : Hid (∀ (q : Nat) (x : Ed), (edgesF f a)[q]? = some x → inM (v.m : Int) x.w1 x.w2 = true) := Hd (fun q x h => by rw [← hil]; exact edgesF_at h);have hgq : Hid (∀ q, Good v.m ((edP ((edgesF f a).take q)).foldl setP a)) := Hd (fun q => by rw [← hil] at hG ⊢; exact edP_take_good hG q);have hres : Hid (cfX f a = (edP (edgesF f a)).foldl setP a ∧ cfM f a = closeK (cfX f a) v.m) := Hd (by
  unfold cfM cfX; rw [hil]; exact ⟨rfl, rfl⟩)
 obtain ⟨es, hes⟩ : ∃ l, l = edgesF f a := ⟨_, rfl⟩;rw [← hes] at cE hat hgq hres;replace hes := Hd hes;have hB0 := Hd (FBox.new hF);obtain ⟨g, hg⟩ : ∃ g, g = w.heap.size := ⟨_, rfl⟩;obtain ⟨W0, hW0⟩ : ∃ W, W = w.alloc (.cells #[.slice v.A v.n v.c, .slice v.B v.m v.d, .slice v.C v.k v.e] 29) := ⟨_, rfl⟩;rw [← hW0, ← hg] at hB0;clear hF;obtain ⟨W1, hW1⟩ : ∃ W, W = World.alloc W0 (.cells #[.int .i64 0, .int .i64 0, .int .i64 0, .int .i64 0, .int .i64 0, .slice none 0 0, .int .i64 0, .int .i64 0] 34) := ⟨_, rfl⟩;obtain ⟨gr, hgr⟩ : ∃ g, g = (World.heap W0).size := ⟨_, rfl⟩;have bW1 : Below (World.heap W0).size W0 W1 := by rw [hW1]; exact bAl _ _
 have kR := Hd (show Blk W1 gr 34 [.int .i64 0, .int .i64 0, .int .i64 0, .int .i64 0, .int .i64 0, .slice none 0 0, .int .i64 0, .int .i64 0] from by rw [hW1, hgr]; exact Blk.new W0 _ _);have hB1 := Hd (hB0.out.later bW1);have hgrw := Hd (show w.heap.size ≤ gr from by rw [hgr]; exact hB0.out.o.size);clear hB0 bW1;replace cC := Hd (cC W1 hB1.out.f hvm hw);rw [← ha] at cC;replace hw := Hd hw;replace ha := Hd ha;replace hil := Hd hil;replace hG := Hd hG;have p0 := hB1.out.c0;have p1 := hB1.out.c1;have p2 := hB1.out.c2
 go_enter Tryz.func23, Tryz.ntmps23
 go_wp2_with (first | (rw [← hW0, ← hg]; clear hW0 hg) | (rw [← hW1, ← hgr]; clear hW1; replace hgr := Hd hgr));refine cC.out.mono ?_; rintro e w2 ⟨A, n2, c, rfl, r2, hcv, b2⟩;obtain rfl : n2 = v.m := by have h1 := r2.len; have h2 := hG.out.len; omega
 obtain ⟨W3, hW3⟩ : ∃ W, W = World.alloc w2 (.cells #[.int .i64 (v.m : Int), .slice A v.m c] 57) := ⟨_, rfl⟩;obtain ⟨gm, hgm⟩ : ∃ g, g = (World.heap w2).size := ⟨_, rfl⟩;have bW3 : Below (World.heap w2).size w2 W3 := by rw [hW3]; exact bAl _ _
 have kM := Hd (show MatK W3 gm 57 (v.m : Int) A v.m c a from by rw [hW3, hgm]; exact MatK.new w2 _ r2);have hB := Hd ((hB1.out.later b2).later bW3);have kQ := Hd ((kR.out.below b2 kR.out.lt).below bW3 (kR.out.below b2 kR.out.lt).lt);clear p0 p1 p2 cC b2 bW3 r2 hB1 kR;have p0 := hB.out.c0;have p1 := hB.out.c1;have p2 := hB.out.c2;go_wp2_with (rw [← hW3, ← hgm]; clear hW3; replace hgm := Hd hgm);clear p0 p1 p2
 go_loopw [7, 8] (fun u t wr => ∃ i : Nat, i ≤ v.m ∧ t = .int .i64 i ∧ Hid (Below W3.heap.size W3 wr) ∧ Hid (wr.ownsRow W3.heap.size 3 1 u (rdl i).length (encI.all (rdl i)))) (fun _ t _ => v.m - (intOf t).toNat)
 case atStart => exact ⟨0, Nat.zero_le _, rfl, Hd (Below.refl _ _), Hd (World.ownsRow_nil _ _ _ _)⟩
 case round =>
  obtain ⟨i, hiv, rfl, hb, hown⟩ := hrel;have hBr := Hd (hB.out.later hb.out);have p0 := hBr.out.c0;have p1 := hBr.out.c1;have p2 := hBr.out.c2;have hrl := rdl_len i;obtain ⟨L, hL⟩ : ∃ L, L = (rdl i).length := ⟨_, rfl⟩;rw [← hL] at hown hrl;replace hL := Hd hL;have hrs := Hd (rdl_succ i);by_cases hlt : i < v.m
  ·have hlt' : (i : Int) < (v.m : Int) := by omega
   clear hlt;obtain ⟨gl, hgl⟩ : ∃ g, g = (wr).heap.size := ⟨_, rfl⟩;obtain ⟨VL, hVL⟩ : ∃ W, W = World.alloc (wr) (.cells #[.int .i64 (i : Int)] 3) := ⟨_, rfl⟩;have bL : Below (wr).heap.size (wr) VL := by rw [hVL]; exact (Below.refl _ _).alloc (Nat.le_refl _) _
   have hlit := Hd (show LAt encI VL (some ⟨gl, 0, none⟩) 1 [(i : Int)] from by rw [hVL, hgl]; exact LAt.lit1 (E := encI) (wr) 3 (i : Int) ⟨by omega, by omega⟩);have hownL := Hd (oBl hown.out bL);have bWL := Hd (bT2 hb.out bL);have hbase := Hd bWL.out.size;clear bL;go_wp2_with (first
    | (rw [← hVL, ← hgl]; clear hVL hgl)
    | (at_builtin; refine wpAL (E := encI) rfl (.tmp 21) (.tmp 23) _ rfl W3.heap.size 3 i0 _ 8 Tryz.underlying27 hi.out hz0.out hz1.out hz2.out rfl _ L (rdl i) (by rfl) hownL.out _ 1 1 _ rfl hlit.out (by unfold maxLen; omega) (by omega) hbase.out ?_; intro v' w7 hown' hb7 _ _))
   exact ⟨⟨i + 1, by omega, by go_num, Hd (bWL.out.trans hb7), Hd (by rw [hrs.out, List.length_append, ← hL.out]; exact hown')⟩, by simp [intOf]; omega⟩
  ·have hlt' : ¬ (i : Int) < (v.m : Int) := by omega
   obtain rfl : i = v.m := by omega
   have hLm : L = v.m := hrl;obtain ⟨D, d, rfl, hnd, hdm, hLA⟩ := LAt.of_own hown.out (fun z hz => by
    have := rdl_mem hz;exact ⟨by omega, by omega⟩) hL.out.symm
   subst hLm;replace hLA := Hd hLA;have kMr := Hd (kM.out.below hb.out);have kQr := Hd (kQ.out.below hb.out kQ.out.lt);have hbb := Hd hBr.out.o;have m0 := kMr.out.1.c0;have m1 := kMr.out.1.c1;replace hnd := Hd hnd;clear hlt hown hL hB hb kM kQ hrs;by_cases hk1 : k = 1
   ·have e1 : (k == 1) = true := by rw [hk1]; rfl
    have hkf : Hid (kindF f k = thinF f) := Hd (by rw [hkF.out, if_pos hk1]);have hn1 : noneW 1 = noneW k := by rw [hk1]
    replace hk1 := Hd hk1;have c1 := Hd (cT.out wr hBr.out.f);go_wp2_with fail;refine c1.out.mono ?_; rintro e w5 ⟨x, hx, rfl, bo⟩;rw [hn1] at hx;clear hn1;obtain ⟨ob, hob⟩ : ∃ b, b = Option.isSome (thinF f) := ⟨_, rfl⟩;rw [← hob];rw [← hkf.out] at hx hob;replace hx := Hd hx;replace hob := Hd hob;have kQ := kQr.out.below bo kQr.out.lt;have bV := bT2 hbb.out bo;clear bo p0 p1 p2 m0 m1 hkf;obtain ⟨z0c, z1c, z2c, z3c, z4c, z5c, z6c, z7c⟩ := kQ.cells8;obtain ⟨z0fz, z1fz, z2fz, z3fz, z4fz, z5fz, z6fz, z7fz⟩ := kQ.frozen8;have kN := kQ.put8 (.int .i64 x.ki) (.int .i64 x.r) (.int .i64 x.w1) (.int .i64 x.w2) (.int .i64 x.o) (.slice none 0 0) (.int .i64 x.fi) (.int .i64 x.se);have hbf := Hd (bP8 bV (g := gr) hgrw.out (.int .i64 x.ki) (.int .i64 x.r) (.int .i64 x.w1) (.int .i64 x.w2) (.int .i64 x.o) (.slice none 0 0) (.int .i64 x.fi) (.int .i64 x.se));have hdd := Hd kN.cells8;clear kN kQ bV;go_wp2_with fail;obtain ⟨d0, d1, d2, d3, d4, d5, d6, d7⟩ := hdd.out;exact bodyPost_ret (v := .tuple #[.agg #[.int .i64 x.ki, .int .i64 x.r, .int .i64 x.w1, .int .i64 x.w2, .int .i64 x.o, .slice none 0 0, .int .i64 x.fi, .int .i64 x.se], .bool ob]) (by simp [results, Tryz.results23, go_sem, d0, d1, d2, d3, d4, d5, d6, d7]) rfl ⟨x, hx.out, by rw [hob.out], hbf.out⟩
   ·have e1 : (k == 1) = false := by simpa using hk1
    by_cases hk2 : k = 2
    ·have e2 : (k == 2) = true := by rw [hk2]; rfl
     have hkf : Hid (kindF f k = roundF k v.m a) := Hd (by rw [hkF.out, if_neg hk1, if_pos hk2]);replace hk1 := Hd hk1;replace hk2 := Hd hk2;have c1 := Hd (cR.out A v.m c a wr kMr.out.2 hG.out);go_wp2_with fail;refine c1.out.mono ?_; rintro e w5 ⟨x, hx, rfl, bo⟩;obtain ⟨ob, hob⟩ : ∃ b, b = Option.isSome (roundF k v.m a) := ⟨_, rfl⟩;rw [← hob];rw [← hkf.out] at hx hob;replace hx := Hd hx;replace hob := Hd hob;have kQ := kQr.out.below bo kQr.out.lt;have bV := bT2 hbb.out bo;clear bo p0 p1 p2 m0 m1 hkf;obtain ⟨z0c, z1c, z2c, z3c, z4c, z5c, z6c, z7c⟩ := kQ.cells8;obtain ⟨z0fz, z1fz, z2fz, z3fz, z4fz, z5fz, z6fz, z7fz⟩ := kQ.frozen8;have kN := kQ.put8 (.int .i64 x.ki) (.int .i64 x.r) (.int .i64 x.w1) (.int .i64 x.w2) (.int .i64 x.o) (.slice none 0 0) (.int .i64 x.fi) (.int .i64 x.se);have hbf := Hd (bP8 bV (g := gr) hgrw.out (.int .i64 x.ki) (.int .i64 x.r) (.int .i64 x.w1) (.int .i64 x.w2) (.int .i64 x.o) (.slice none 0 0) (.int .i64 x.fi) (.int .i64 x.se));have hdd := Hd kN.cells8;clear kN kQ bV;go_wp2_with fail;obtain ⟨d0, d1, d2, d3, d4, d5, d6, d7⟩ := hdd.out;exact bodyPost_ret (v := .tuple #[.agg #[.int .i64 x.ki, .int .i64 x.r, .int .i64 x.w1, .int .i64 x.w2, .int .i64 x.o, .slice none 0 0, .int .i64 x.fi, .int .i64 x.se], .bool ob]) (by simp [results, Tryz.results23, go_sem, d0, d1, d2, d3, d4, d5, d6, d7]) rfl ⟨x, hx.out, by rw [hob.out], hbf.out⟩
    ·have e2 : (k == 2) = false := by simpa using hk2
     by_cases hk3 : k = 3
     ·have e3 : (k == 3) = true := by rw [hk3]; rfl
      have hkf : Hid (kindF f k = earlyF f a k (rdl v.m)) := Hd (by rw [hkF.out, if_neg hk1, if_neg hk2, if_pos hk3]);replace hk1 := Hd hk1;replace hk2 := Hd hk2;replace hk3 := Hd hk3;have c1 := Hd (cEa.out A c D d wr hBr.out.f kMr.out.2 hLA.out);go_wp2_with fail;refine c1.out.mono ?_; rintro e w5 ⟨x, hx, rfl, bo⟩;obtain ⟨ob, hob⟩ : ∃ b, b = Option.isSome (earlyF f a k (rdl v.m)) := ⟨_, rfl⟩;rw [← hob];rw [← hkf.out] at hx hob;replace hx := Hd hx;replace hob := Hd hob;have kQ := kQr.out.below bo kQr.out.lt;have bV := bT2 hbb.out bo;clear bo p0 p1 p2 m0 m1 hkf;obtain ⟨z0c, z1c, z2c, z3c, z4c, z5c, z6c, z7c⟩ := kQ.cells8;obtain ⟨z0fz, z1fz, z2fz, z3fz, z4fz, z5fz, z6fz, z7fz⟩ := kQ.frozen8;have kN := kQ.put8 (.int .i64 x.ki) (.int .i64 x.r) (.int .i64 x.w1) (.int .i64 x.w2) (.int .i64 x.o) (.slice none 0 0) (.int .i64 x.fi) (.int .i64 x.se);have hbf := Hd (bP8 bV (g := gr) hgrw.out (.int .i64 x.ki) (.int .i64 x.r) (.int .i64 x.w1) (.int .i64 x.w2) (.int .i64 x.o) (.slice none 0 0) (.int .i64 x.fi) (.int .i64 x.se));have hdd := Hd kN.cells8;clear kN kQ bV;go_wp2_with fail;obtain ⟨d0, d1, d2, d3, d4, d5, d6, d7⟩ := hdd.out;exact bodyPost_ret (v := .tuple #[.agg #[.int .i64 x.ki, .int .i64 x.r, .int .i64 x.w1, .int .i64 x.w2, .int .i64 x.o, .slice none 0 0, .int .i64 x.fi, .int .i64 x.se], .bool ob]) (by simp [results, Tryz.results23, go_sem, d0, d1, d2, d3, d4, d5, d6, d7]) rfl ⟨x, hx.out, by rw [hob.out], hbf.out⟩
     ·have e3 : (k == 3) = false := by simpa using hk3
      by_cases hk4 : k = 4
      ·have e4 : (k == 4) = true := by rw [hk4]; rfl
       have hkf : Hid (kindF f k = betwF f a) := Hd (by rw [hkF.out, if_neg hk1, if_neg hk2, if_neg hk3, if_pos hk4]);have hn4 : noneW 4 = noneW k := by rw [hk4]
       replace hk1 := Hd hk1;replace hk2 := Hd hk2;replace hk3 := Hd hk3;replace hk4 := Hd hk4;have c1 := Hd (cB.out A c wr hBr.out.f kMr.out.2);go_wp2_with fail;refine c1.out.mono ?_; rintro e w5 ⟨x, hx, rfl, bo⟩;rw [hn4] at hx;clear hn4;obtain ⟨ob, hob⟩ : ∃ b, b = Option.isSome (betwF f a) := ⟨_, rfl⟩;rw [← hob];rw [← hkf.out] at hx hob;replace hx := Hd hx;replace hob := Hd hob;have kQ := kQr.out.below bo kQr.out.lt;have bV := bT2 hbb.out bo;clear bo p0 p1 p2 m0 m1 hkf;obtain ⟨z0c, z1c, z2c, z3c, z4c, z5c, z6c, z7c⟩ := kQ.cells8;obtain ⟨z0fz, z1fz, z2fz, z3fz, z4fz, z5fz, z6fz, z7fz⟩ := kQ.frozen8;have kN := kQ.put8 (.int .i64 x.ki) (.int .i64 x.r) (.int .i64 x.w1) (.int .i64 x.w2) (.int .i64 x.o) (.slice none 0 0) (.int .i64 x.fi) (.int .i64 x.se);have hbf := Hd (bP8 bV (g := gr) hgrw.out (.int .i64 x.ki) (.int .i64 x.r) (.int .i64 x.w1) (.int .i64 x.w2) (.int .i64 x.o) (.slice none 0 0) (.int .i64 x.fi) (.int .i64 x.se));have hdd := Hd kN.cells8;clear kN kQ bV;go_wp2_with fail;obtain ⟨d0, d1, d2, d3, d4, d5, d6, d7⟩ := hdd.out;exact bodyPost_ret (v := .tuple #[.agg #[.int .i64 x.ki, .int .i64 x.r, .int .i64 x.w1, .int .i64 x.w2, .int .i64 x.o, .slice none 0 0, .int .i64 x.fi, .int .i64 x.se], .bool ob]) (by simp [results, Tryz.results23, go_sem, d0, d1, d2, d3, d4, d5, d6, d7]) rfl ⟨x, hx.out, by rw [hob.out], hbf.out⟩
      ·have e4 : (k == 4) = false := by simpa using hk4
       by_cases hk5 : k = 5
       ·have e5 : (k == 5) = true := by rw [hk5]; rfl
        have hkf : Hid (kindF f k = roundF k v.m (cfM f a)) := Hd (by rw [hkF.out, if_neg hk1, if_neg hk2, if_neg hk3, if_neg hk4, if_pos hk5]);replace hk1 := Hd hk1;replace hk2 := Hd hk2;replace hk3 := Hd hk3;replace hk4 := Hd hk4;replace hk5 := Hd hk5;obtain ⟨gn, hgn⟩ : ∃ g, g = wr.heap.size := ⟨_, rfl⟩;obtain ⟨W4, hW4⟩ : ∃ W, W = wr.alloc (.cells #[.int .i64 (v.m : Int), .slice A v.m c] 57) := ⟨_, rfl⟩;have b4 : Below wr.heap.size wr W4 := by rw [hW4]; exact bAl _ _
        have hN4 := Hd (show MV W4 gn v.m A c a from ⟨by rw [hW4, hgn]; exact MatB.new wr _, kMr.out.2.below b4, hcv, fun h0 ad e => by have := kMr.out.2.block_lt h0 ad e; omega⟩);have hgB : Hid (w.heap.size ≤ gn) := Hd (by rw [hgn]; exact hbb.out.size);have hB4 := Hd (hBr.out.later b4);have kM4 := Hd (kMr.out.below b4);have kQ4 := Hd (kQr.out.below b4 kQr.out.lt);have hgq4 : Hid (gr < gn) := Hd (by rw [hgn]; exact kQr.out.lt);clear hBr kMr kQr b4 hbb;have c1 := Hd (cE.out A c W4 hB4.out.f kM4.out.2);have m0' := kM4.out.1.c0;have m1' := kM4.out.1.c1;have q0 := hB4.out.c0;have q1 := hB4.out.c1;have q2 := hB4.out.c2;go_wp2_with (rw [← hW4, ← hgn]; clear hW4; replace hgn := Hd hgn);refine c1.out.mono ?_; rintro e w5 ⟨E, ne, ce, rfl, hLE, hnc, hcm, b5⟩;have hN5 := Hd (hN4.out.later b5);have kQ5 := Hd (kQ4.out.below b5 kQ4.out.lt);have hb5 := Hd (bT2 hB4.out.o b5);have hnl := Hd hLE.len;replace hLE := Hd hLE;have hg5 : Hid (w.heap.size ≤ gn) := hgB;clear m0 m1 m0' m1' p0 p1 p2 q0 q1 q2 hB4 kM4 kQ4 hN4 b5 c1;go_wp2_with fail;clear hgB
        go_loopw [11] (fun t wx => ∃ (q : Nat) (A2 : Option Addr) (d2 : Nat) (X : List (List Nat)), q ≤ ne ∧ t = .int .i64 (q : Int) ∧ Hid (X = (edP (es.take q)).foldl setP a) ∧ Hid (Below w.heap.size w wx) ∧ Hid (MV wx gn v.m A2 d2 X) ∧ Hid (LAt encE wx E ne es) ∧ Hid (Blk wx gr 34 [.int .i64 0, .int .i64 0, .int .i64 0, .int .i64 0, .int .i64 0, .slice none 0 0, .int .i64 0, .int .i64 0])) (fun t _ => ne - (intOf t).toNat)
        case atStart => exact ⟨0, _, _, _, Nat.zero_le _, rfl, Hd rfl, hb5, hN5, hLE, kQ5⟩
        case round =>
         clear hb5 hN5 hLE kQ5;obtain ⟨q, A2, d2, X, hq, rfl, hX, hbx, hN, hL, kQx⟩ := hrel;have hgX := hgq.out q;rw [← hX.out] at hgX;replace hgX := Hd hgX;by_cases hlt : q < ne
         ·have hlt' : (q : Int) < (ne : Int) := by omega
          have bq : 0 ≤ (q : Int) ∧ (q : Int) < (ne : Int) := by omega
          have hLs := hL;obtain ⟨eb, eo, x, hE, heb, hx, hxo, x0, x1, x2⟩ := hL.out.edge hlt;subst hE;have hin := hat.out q x hx;have hXn := edP_take hx a;rw [← hX.out] at hXn;have hgN := hgq.out (q + 1);rw [hXn] at hgN;replace hXn := Hd hXn.symm;replace hgN := Hd hgN;obtain ⟨xa, xb, xr⟩ := x
          simp only at x0 x1 hin hXn hgN
          have cS := Hd (fun W (hW : RowsAt W A2 v.m X) => ref3_SetF (v.m : Int) A2 v.m d2 X xa xb W hW rfl (by omega) (fun xs hx => Nat.le_trans (hgX.out.small xs hx) (by decide)) hin);clear hx hxo x2 hin heb hlt;go_wp2_with fail;refine wp_region_planT 13 [(true, 0), (true, 1), (true, 2), (true, 3), (true, 4), (true, 5), (true, 6), (true, 7), (true, 8), (true, 9), (true, 10), (false, 11), (true, 12)] 15 [13, 14] (by kernel_rfl) (by kernel_rfl) (fun U hU => ?_);have hU' : Below wr.heap.size wr U := by rw [hU.out]; exact (Below.refl _ _).drew
          replace hbx := Hd (bT2 hbx.out hU');replace hN := Hd (hN.out.later hU');replace hLs := Hd (hLs.out.below hU');replace kQx := Hd (kQx.out.below hU' kQx.out.lt);replace x0 : U.cell? ⟨eb, eo + q * 3, none⟩ = some (.int .i64 xa) := by rw [hU.out]; exact x0
          replace x1 : U.cell? ⟨eb, eo + q * 3 + 1, none⟩ = some (.int .i64 xb) := by rw [hU.out]; exact x1
          clear hU hU' hL;simp only [List.drop_succ_cons, List.drop_zero];have t0 := hN.out.loc.c0;have t1 := hN.out.loc.c1
          iterate 11
           refine wpEf (v := ?_) rfl (by rfl) (fun w' hw' => ?_) (fun K hK => ?_);rotate_left
           ·(go_simp; try with_reducible rfl)
           go_simp;refine hK _ ?_;clear hK K
          clear x0 x1 t0 t1;refine wpPlanE_only rfl (by rfl) (fun K hK => ?_);go_simp;refine (cS.out U hN.out.rows).mono ?_;rintro e w8 ⟨C2, n2, c2, rfl, hrows2, hcap2, b4, hfar2⟩;obtain rfl : n2 = v.m := by rw [← hrows2.len]; exact hgN.out.len
          refine hK _ _ b4 ?_;clear hK K;have hT4 := Hd (hN.out.put b4 hrows2 hcap2 hfar2);have kM := hN.out.loc.below_ b4;have hb4 := Hd (((bT2 hbx.out b4).setCell (p := ⟨gn, 0, none⟩) hg5.out (.int .i64 (v.m : Int))).setCell (p := ⟨gn, 1, none⟩) hg5.out (.slice C2 v.m c2));have hL4 := Hd (((hLs.out.below b4).setShortO (i := 0) kM (by show 2 < 3; omega) (.int .i64 (v.m : Int))).setShortO (i := 1) (Blk.set_ kM 0 (.int .i64 (v.m : Int))) (by rw [List.length_set]; show 2 < 3; omega) (.slice C2 v.m c2));have kQ4 := Hd (((kQx.out.below b4 kQx.out.lt).far (p := ⟨gn, 0, none⟩) (by have := hgq4.out; intro e; have e' : gr = gn := e; omega) (.int .i64 (v.m : Int))).far (p := ⟨gn, 1, none⟩) (by have := hgq4.out; intro e; have e' : gr = gn := e; omega) (.slice C2 v.m c2));clear cS hrows2 hfar2 b4
          iterate 1
           refine wpEf (v := ?_) rfl (by rfl) (fun w' hw' => ?_) (fun K hK => ?_);rotate_left
           ·(go_simp; try with_reducible rfl)
           go_simp;refine hK _ ?_;clear hK K
          refine wpPlanE_nil ?_
          iterate 2
           refine wpPlanT_float (v := ?_) rfl (by rfl) (fun w' => ?_) (fun K hK => ?_);rotate_left
           ·(go_simp; try with_reducible rfl)
           go_simp;refine hK _ ?_;clear hK K
          refine wpPlanT_nil ?_;have m0 := kM.c0;have m1 := kM.c1;have g0 := kM.frozen 0;have g1 := kM.frozen 1;clear kM;go_wp2_with fail;refine NoPanic.normal ?_;go_wp2_with fail
          go_roundw
          case rel => exact ⟨q + 1, C2, c2, _, by omega, by go_num, hXn, hb4, hT4, hL4, kQ4⟩
          case measure => simp [intOf]; omega
         ·have hlt' : ¬ (q : Int) < (ne : Int) := by omega
          obtain rfl : q = ne := by omega
          have hXe : Hid (X = cfX f a) := Hd (by rw [hres.out.1, hX.out, List.take_of_length_le (by rw [hnl.out]; omega)]);have hcM := hres.out.2;have cC := Hd (ref4_Close A2 v.m d2 X wr hN.out.rows hgX.out hvm);have hgC := (closeK_hull hgX.out).1;rw [hXe.out, ← hcM] at hgC;rw [hXe.out, ← hcM] at cC;have t0 := hN.out.loc.c0;have t1 := hN.out.loc.c1;replace hgC := Hd hgC;clear hlt hcM;go_wp2_with fail;refine cC.out.mono ?_; rintro e w6 ⟨A3, n3, c3, rfl, r3, hc3, b6⟩;obtain rfl : n3 = v.m := by rw [← r3.len]; exact hgC.out.len
          have c2 := Hd (cR.out A3 v.m c3 (cfM f a) w6 r3 hgC.out);replace hbx := Hd (bT2 hbx.out b6);replace kQx := Hd (kQx.out.below b6 kQx.out.lt);clear t0 t1 cC hN hL hX hXe r3 b6;go_wp2_with fail;refine c2.out.mono ?_; rintro e w7 ⟨x, hx, rfl, bo⟩;obtain ⟨ob, hob⟩ : ∃ b, b = Option.isSome (roundF k v.m (cfM f a)) := ⟨_, rfl⟩;rw [← hob];rw [← hkf.out] at hx hob;replace hx := Hd hx;replace hob := Hd hob;have kQ := kQx.out.below bo kQx.out.lt;have bV := bT2 hbx.out bo;clear bo hkf kQx hbx;obtain ⟨z0c, z1c, z2c, z3c, z4c, z5c, z6c, z7c⟩ := kQ.cells8;obtain ⟨z0fz, z1fz, z2fz, z3fz, z4fz, z5fz, z6fz, z7fz⟩ := kQ.frozen8;have kN := kQ.put8 (.int .i64 x.ki) (.int .i64 x.r) (.int .i64 x.w1) (.int .i64 x.w2) (.int .i64 x.o) (.slice none 0 0) (.int .i64 x.fi) (.int .i64 x.se);have hbf := Hd (bP8 bV (g := gr) hgrw.out (.int .i64 x.ki) (.int .i64 x.r) (.int .i64 x.w1) (.int .i64 x.w2) (.int .i64 x.o) (.slice none 0 0) (.int .i64 x.fi) (.int .i64 x.se));have hdd := Hd kN.cells8;clear kN kQ bV;go_wp2_with fail;obtain ⟨d0, d1, d2, d3, d4, d5, d6, d7⟩ := hdd.out;exact bodyPost_ret (v := .tuple #[.agg #[.int .i64 x.ki, .int .i64 x.r, .int .i64 x.w1, .int .i64 x.w2, .int .i64 x.o, .slice none 0 0, .int .i64 x.fi, .int .i64 x.se], .bool ob]) (by simp [results, Tryz.results23, go_sem, d0, d1, d2, d3, d4, d5, d6, d7]) rfl ⟨x, hx.out, by rw [hob.out], hbf.out⟩
       ·have e5 : (k == 5) = false := by simpa using hk5
        have hkf : Hid (kindF f k = seesF f a k) := Hd (by rw [hkF.out, if_neg hk1, if_neg hk2, if_neg hk3, if_neg hk4, if_neg hk5]);replace hk1 := Hd hk1;replace hk2 := Hd hk2;replace hk3 := Hd hk3;replace hk4 := Hd hk4;replace hk5 := Hd hk5;have c1 := Hd (cSe.out A c wr hBr.out.f kMr.out.2);go_wp2_with fail;refine c1.out.mono ?_; rintro e w5 ⟨x, hx, rfl, bo⟩;obtain ⟨ob, hob⟩ : ∃ b, b = Option.isSome (seesF f a k) := ⟨_, rfl⟩;rw [← hob];rw [← hkf.out] at hx hob;replace hx := Hd hx;replace hob := Hd hob;have kQ := kQr.out.below bo kQr.out.lt;have bV := bT2 hbb.out bo;clear bo p0 p1 p2 m0 m1 hkf;obtain ⟨z0c, z1c, z2c, z3c, z4c, z5c, z6c, z7c⟩ := kQ.cells8;obtain ⟨z0fz, z1fz, z2fz, z3fz, z4fz, z5fz, z6fz, z7fz⟩ := kQ.frozen8;have kN := kQ.put8 (.int .i64 x.ki) (.int .i64 x.r) (.int .i64 x.w1) (.int .i64 x.w2) (.int .i64 x.o) (.slice none 0 0) (.int .i64 x.fi) (.int .i64 x.se);have hbf := Hd (bP8 bV (g := gr) hgrw.out (.int .i64 x.ki) (.int .i64 x.r) (.int .i64 x.w1) (.int .i64 x.w2) (.int .i64 x.o) (.slice none 0 0) (.int .i64 x.fi) (.int .i64 x.se));have hdd := Hd kN.cells8;clear kN kQ bV;go_wp2_with fail;obtain ⟨d0, d1, d2, d3, d4, d5, d6, d7⟩ := hdd.out;exact bodyPost_ret (v := .tuple #[.agg #[.int .i64 x.ki, .int .i64 x.r, .int .i64 x.w1, .int .i64 x.w2, .int .i64 x.o, .slice none 0 0, .int .i64 x.fi, .int .i64 x.se], .bool ob]) (by simp [results, Tryz.results23, go_sem, d0, d1, d2, d3, d4, d5, d6, d7]) rfl ⟨x, hx.out, by rw [hob.out], hbf.out⟩
def RetFind (o : Option Wit) (er : Int) (w : World) (e : Ending) (w' : World) : Prop := ∃ x : Wit, x = o.getD zeroW ∧ e = .returned (.tuple #[.agg #[.int .i64 x.ki, .int .i64 x.r, .int .i64 x.w1, .int .i64 x.w2, .int .i64 x.o, .slice none 0 0, .int .i64 x.fi, .int .i64 x.se], .int .i64 er]) ∧ Below w.heap.size w w'
theorem cut_wit {Goal F : Nat → World → Prop} {R : Prop} (h1 : (∀ a b, F a b → Goal a b) → R) (h2 : ∀ a b, F a b → Goal a b) : R := h1 h2
theorem ref19_Find (v : FV) (f : Fac) (l : Int) (w : World) (hF : FactsAt w v f) (hvm : v.m < 64) (hw : WholeF f) :
  Calls Tryz.prog 10 #[.agg #[.slice v.A v.n v.c, .slice v.B v.m v.d, .slice v.C v.k v.e], .int .i64 l] w (RetFind (findF f l) (findE f l) w) := by
 have cO := Hd (fun k W hW => ref19_One v f k W hW hvm hw);obtain ⟨ks, hks⟩ : ∃ k, k = kindsF l := ⟨_, rfl⟩;have hfF : Hid (findF f l = ks.findSome? (kindF f)) := Hd (by rw [hks]; rfl);have hfE : Hid (findE f l = if ks.isEmpty = true then 1 else if (findF f l).isSome = true then 0 else 8) := Hd (by rw [hks]; rfl);have hkl : ks.length ≤ 6 := by rw [hks]; unfold kindsF; split; decide; split; decide; split; decide; decide
 have hB0 := Hd (FBox.new hF);obtain ⟨g, hg⟩ : ∃ g, g = w.heap.size := ⟨_, rfl⟩;obtain ⟨W0, hW0⟩ : ∃ W, W = w.alloc (.cells #[.slice v.A v.n v.c, .slice v.B v.m v.d, .slice v.C v.k v.e] 29) := ⟨_, rfl⟩;rw [← hW0, ← hg] at hB0;clear hF;obtain ⟨W1, hW1⟩ : ∃ W, W = World.alloc W0 (.cells #[.int .i64 0, .int .i64 0, .int .i64 0, .int .i64 0, .int .i64 0, .slice none 0 0, .int .i64 0, .int .i64 0] 34) := ⟨_, rfl⟩;obtain ⟨gr, hgr⟩ : ∃ g, g = (World.heap W0).size := ⟨_, rfl⟩;have bW1 : Below (World.heap W0).size W0 W1 := by rw [hW1]; exact bAl _ _
 have kR := Hd (show Blk W1 gr 34 [.int .i64 0, .int .i64 0, .int .i64 0, .int .i64 0, .int .i64 0, .slice none 0 0, .int .i64 0, .int .i64 0] from by rw [hW1, hgr]; exact Blk.new W0 _ _);have hB1 := Hd (hB0.out.later bW1);have hgrw := Hd (show w.heap.size ≤ gr from by rw [hgr]; exact hB0.out.o.size);clear hB0 bW1;have cK := ref19_Kinds l W1;rw [← hks] at cK;replace cK := Hd cK;replace hks := Hd hks;clear hw
 go_enter Tryz.func10, Tryz.ntmps10
 go_wp2_with (first | (rw [← hW0, ← hg]; clear hW0 hg) | (rw [← hW1, ← hgr]; clear hW1; replace hgr := Hd hgr));refine cK.out.mono ?_; rintro e w2 ⟨A, n, c, rfl, hL, hnc, hcm, b2⟩;have hB := Hd (hB1.out.later b2);have kQ2 := Hd (kR.out.below b2 kR.out.lt);have hln := hL.len;have hn6 : n ≤ 6 := by omega
 replace hL := Hd hL;replace hnc := Hd hnc;clear b2 hB1 kR cK hkl;by_cases hn0 : n = 0
 ·have e0 : ((n : Int) == 0) = true := by rw [hn0]; rfl
  have hke : ks = [] := List.eq_nil_of_length_eq_zero (by omega);have hans : Hid (findF f l = none) := Hd (by rw [hfF.out, hke]; rfl);have here : Hid (findE f l = 1) := Hd (by rw [hfE.out, hke]; rfl);replace hn0 := Hd hn0;replace hke := Hd hke;replace hln := Hd hln;have kQ := kQ2.out;have bV := hB.out.o;clear kQ2;obtain ⟨z0c, z1c, z2c, z3c, z4c, z5c, z6c, z7c⟩ := kQ.cells8;obtain ⟨z0fz, z1fz, z2fz, z3fz, z4fz, z5fz, z6fz, z7fz⟩ := kQ.frozen8;have kN := kQ.put8 (.int .i64 0) (.int .i64 0) (.int .i64 0) (.int .i64 0) (.int .i64 0) (.slice none 0 0) (.int .i64 0) (.int .i64 0);have hbf := Hd (bP8 bV (g := gr) hgrw.out (.int .i64 0) (.int .i64 0) (.int .i64 0) (.int .i64 0) (.int .i64 0) (.slice none 0 0) (.int .i64 0) (.int .i64 0));have hdd := Hd kN.cells8;clear kN kQ bV;go_wp2_with fail;obtain ⟨d0, d1, d2, d3, d4, d5, d6, d7⟩ := hdd.out;exact bodyPost_ret (v := .tuple #[.agg #[.int .i64 0, .int .i64 0, .int .i64 0, .int .i64 0, .int .i64 0, .slice none 0 0, .int .i64 0, .int .i64 0], .int .i64 1]) (by simp [results, Tryz.results10, go_sem, d0, d1, d2, d3, d4, d5, d6, d7]) rfl ⟨zeroW, by rw [hans.out] <;> rfl, by rw [here.out] <;> rfl, hbf.out⟩
 ·have e0 : ((n : Int) == 0) = false := by simp; omega
  have hne : Hid (ks.isEmpty = false) := Hd (by cases h : ks with | nil => rw [h] at hln; simp at hln; omega | cons _ _ => rfl);replace hn0 := Hd hn0;replace hln := Hd hln;go_wp2_with fail;have hb0 := Hd (Below.refl w2.heap.size w2);obtain ⟨V2, hV2⟩ : ∃ V, V = w2 := ⟨_, rfl⟩
  go_loopw [7] (fun t wr => ∃ i : Nat, i ≤ n ∧ t = .int .i64 (i : Int) ∧ Hid ((ks.take i).findSome? (kindF f) = none) ∧ Hid (Below V2.heap.size V2 wr)) (fun t _ => n - (intOf t).toNat)
  case atStart => exact ⟨0, Nat.zero_le _, rfl, Hd rfl, by rw [hV2]; exact hb0⟩
  case round =>
   subst hV2;clear hb0;obtain ⟨i, hi, rfl, hno, hb⟩ := hrel;replace hB := Hd (hB.out.later hb.out);have kQr := Hd (kQ2.out.below hb.out kQ2.out.lt);by_cases hlt : i < n
   ·have hlt' : (i : Int) < (n : Int) := by omega
    have bi : 0 ≤ (i : Int) ∧ (i : Int) < (n : Int) := by omega
    obtain ⟨zb, zo, z, hzA, -, hz, -, k0⟩ := (hL.out.below hb.out).int hlt;subst hzA;have hst := Hd (findSome_step hz hno.out);obtain ⟨ans, hae⟩ : ∃ a, a = kindF f z := ⟨_, rfl⟩;obtain ⟨x0, hx0⟩ : ∃ x, x = ans.getD (noneW z) := ⟨_, rfl⟩;obtain ⟨ob, hob⟩ : ∃ b, b = ans.isSome := ⟨_, rfl⟩;have c1 := Hd (fun W hW => (cO.out z W hW).mono (R' := fun e w' => e = .returned (.tuple #[.agg #[.int .i64 x0.ki, .int .i64 x0.r, .int .i64 x0.w1, .int .i64 x0.w2, .int .i64 x0.o, .slice none 0 0, .int .i64 x0.fi, .int .i64 x0.se], .bool ob]) ∧ Below W.heap.size W w') (fun e w' h => by
     obtain ⟨y, hy, he, hb'⟩ := h;rw [← hae] at hy he;rw [← hx0] at hy;rw [← hob] at he;subst hy;exact ⟨he, hb'⟩))
    rw [← hae] at hst;replace hae := Hd hae;replace hx0 := Hd hx0;replace hob := Hd hob;replace hz := Hd hz;replace hlt := Hd hlt;go_wp2_with fail;refine wp_region_tree (.flt 0 (.flt 1 (.flt 2 (.flt 3 (.flt 4 (.two 5 9 (.flt 6 (.flt 7 (.flt 8 (.one 9 (.one 10 (.flt 11 .done)))))) (.one 5 (.flt 6 (.flt 7 (.flt 8 (.one 10 (.flt 11 .done)))))))))))) (by kernel_rfl) (by kernel_rfl) (fun U hU => ?_);have hU' : Below wr.heap.size wr U := by rw [hU.out]; exact (Below.refl _ _).drew
    replace hb := Hd (bT2 hb.out hU');replace hB := Hd (hB.out.later hU');replace kQr := Hd (kQr.out.below hU' kQr.out.lt);replace k0 : U.cell? ⟨zb, zo + i, none⟩ = some (.int .i64 z) := by rw [hU.out]; exact k0
    clear hU hU';have bW : Below U.heap.size U U := Below.refl _ _;have zk := Hd k0;clear k0
    apply cut_wit (F := fun (M : Nat) (w9 : World) => Blk w9 M 34 [.int .i64 x0.ki, .int .i64 x0.r, .int .i64 x0.w1, .int .i64 x0.w2, .int .i64 x0.o, .slice none 0 0, .int .i64 x0.fi, .int .i64 x0.se] ∧ U.heap.size ≤ M ∧ Below U.heap.size U w9)
    ·intro key
     have p0 := hB.out.c0;have p1 := hB.out.c1;have p2 := hB.out.c2;have k0 := zk.out
     iterate 5
      refine wpTf (v := ?_) rfl (by rfl) (fun w' hw' => ?_) (fun K hK => ?_);rotate_left
      ·(go_simp; try with_reducible rfl)
      go_simp;refine hK _ ?_;clear hK K
     clear p0 p1 p2 k0;refine wpPT_two rfl (by rfl) rfl (by rfl) (fun K hK => ?_) (fun K hK => ?_)
     ·skip
      go_simp;refine (c1.out U (hB.out.later bW).f).mono ?_; rintro e v1 ⟨rfl, b⟩;replace bW := bT2 bW b;refine hK _ _ bW ?_;clear hK K;clear b
      iterate 3
       refine wpTf (v := ?_) rfl (by rfl) (fun w' hw' => ?_) (fun K hK => ?_);rotate_left
       ·(go_simp; try with_reducible rfl)
       go_simp;refine hK _ ?_;clear hK K
      refine wpT1 rfl (by rfl) (fun K hK => ?_);go_simp;obtain ⟨M, hM⟩ : ∃ M, M = (World.heap v1).size := ⟨_, rfl⟩;obtain ⟨v2, hw'⟩ : ∃ X : World, X = World.alloc v1 (.cells #[.int .i64 0, .int .i64 0, .int .i64 0, .int .i64 0, .int .i64 0, .slice none 0 0, .int .i64 0, .int .i64 0] 34) := ⟨_, rfl⟩;rw [← hw', ← hM];have b : Below (World.heap v1).size v1 v2 := by rw [hw']; exact bAl _ _
      have hUM : U.heap.size ≤ M := by rw [hM]; exact bW.size
      replace bW := bT2 bW b;refine hK _ _ bW ?_;clear hK K;have kN := Hd (show Blk v2 M 34 [.int .i64 0, .int .i64 0, .int .i64 0, .int .i64 0, .int .i64 0, .slice none 0 0, .int .i64 0, .int .i64 0] from by rw [hw', hM]; exact Blk.new _ _ _);clear hM hw' b;obtain ⟨z0x, z1x, z2x, z3x, z4x, z5x, z6x, z7x⟩ := kN.out.cells8;obtain ⟨z0fx, z1fx, z2fx, z3fx, z4fx, z5fx, z6fx, z7fx⟩ := kN.out.frozen8;refine wpT1 rfl (by rfl) (fun K hK => ?_);go_simp;obtain ⟨wz, hwz⟩ : ∃ X : World, X = (((((((World.setCell v2 ⟨M, 0, none⟩ (.int .i64 x0.ki)).setCell ⟨M, 1, none⟩ (.int .i64 x0.r)).setCell ⟨M, 2, none⟩ (.int .i64 x0.w1)).setCell ⟨M, 3, none⟩ (.int .i64 x0.w2)).setCell ⟨M, 4, none⟩ (.int .i64 x0.o)).setCell ⟨M, 5, none⟩ (.slice none 0 0)).setCell ⟨M, 6, none⟩ (.int .i64 x0.fi)).setCell ⟨M, 7, none⟩ (.int .i64 x0.se) := ⟨_, rfl⟩;rw [← hwz];have kV := kN.out.put8 (.int .i64 x0.ki) (.int .i64 x0.r) (.int .i64 x0.w1) (.int .i64 x0.w2) (.int .i64 x0.o) (.slice none 0 0) (.int .i64 x0.fi) (.int .i64 x0.se);have bV := bP8 bW (g := M) hUM (.int .i64 x0.ki) (.int .i64 x0.r) (.int .i64 x0.w1) (.int .i64 x0.w2) (.int .i64 x0.o) (.slice none 0 0) (.int .i64 x0.fi) (.int .i64 x0.se);rw [← hwz] at kV bV;clear hwz;refine hK _ _ bV ?_;clear hK K z0x z1x z2x z3x z4x z5x z6x z7x z0fx z1fx z2fx z3fx z4fx z5fx z6fx z7fx kN
      iterate 1
       refine wpTf (v := ?_) rfl (by rfl) (fun w' hw' => ?_) (fun K hK => ?_);rotate_left
       ·(go_simp; try with_reducible rfl)
       go_simp;refine hK _ ?_;clear hK K
      refine wpTd (NoPanic.normal ?_);exact key M wz ⟨kV, hUM, bV⟩
     ·skip
      go_simp;obtain ⟨M, hM⟩ : ∃ M, M = (World.heap U).size := ⟨_, rfl⟩;obtain ⟨v3, hw'⟩ : ∃ X : World, X = World.alloc U (.cells #[.int .i64 0, .int .i64 0, .int .i64 0, .int .i64 0, .int .i64 0, .slice none 0 0, .int .i64 0, .int .i64 0] 34) := ⟨_, rfl⟩;rw [← hw', ← hM];have b : Below (World.heap U).size U v3 := by rw [hw']; exact bAl _ _
      have hUM : U.heap.size ≤ M := by rw [hM]; exact bW.size
      replace bW := bT2 bW b;refine hK _ _ bW ?_;clear hK K;have kN := Hd (show Blk v3 M 34 [.int .i64 0, .int .i64 0, .int .i64 0, .int .i64 0, .int .i64 0, .slice none 0 0, .int .i64 0, .int .i64 0] from by rw [hw', hM]; exact Blk.new _ _ _);clear hM hw' b;refine wpT1 rfl (by rfl) (fun K hK => ?_);go_simp;refine (c1.out v3 (hB.out.later bW).f).mono ?_; rintro e v4 ⟨rfl, b⟩;replace bW := bT2 bW b;refine hK _ _ bW ?_;clear hK K;replace kN := Hd (kN.out.below b kN.out.lt);clear b
      iterate 3
       refine wpTf (v := ?_) rfl (by rfl) (fun w' hw' => ?_) (fun K hK => ?_);rotate_left
       ·(go_simp; try with_reducible rfl)
       go_simp;refine hK _ ?_;clear hK K
      obtain ⟨z0x, z1x, z2x, z3x, z4x, z5x, z6x, z7x⟩ := kN.out.cells8;obtain ⟨z0fx, z1fx, z2fx, z3fx, z4fx, z5fx, z6fx, z7fx⟩ := kN.out.frozen8;refine wpT1 rfl (by rfl) (fun K hK => ?_);go_simp;obtain ⟨wz, hwz⟩ : ∃ X : World, X = (((((((World.setCell v4 ⟨M, 0, none⟩ (.int .i64 x0.ki)).setCell ⟨M, 1, none⟩ (.int .i64 x0.r)).setCell ⟨M, 2, none⟩ (.int .i64 x0.w1)).setCell ⟨M, 3, none⟩ (.int .i64 x0.w2)).setCell ⟨M, 4, none⟩ (.int .i64 x0.o)).setCell ⟨M, 5, none⟩ (.slice none 0 0)).setCell ⟨M, 6, none⟩ (.int .i64 x0.fi)).setCell ⟨M, 7, none⟩ (.int .i64 x0.se) := ⟨_, rfl⟩;rw [← hwz];have kV := kN.out.put8 (.int .i64 x0.ki) (.int .i64 x0.r) (.int .i64 x0.w1) (.int .i64 x0.w2) (.int .i64 x0.o) (.slice none 0 0) (.int .i64 x0.fi) (.int .i64 x0.se);have bV := bP8 bW (g := M) hUM (.int .i64 x0.ki) (.int .i64 x0.r) (.int .i64 x0.w1) (.int .i64 x0.w2) (.int .i64 x0.o) (.slice none 0 0) (.int .i64 x0.fi) (.int .i64 x0.se);rw [← hwz] at kV bV;clear hwz;refine hK _ _ bV ?_;clear hK K z0x z1x z2x z3x z4x z5x z6x z7x z0fx z1fx z2fx z3fx z4fx z5fx z6fx z7fx kN
      iterate 1
       refine wpTf (v := ?_) rfl (by rfl) (fun w' hw' => ?_) (fun K hK => ?_);rotate_left
       ·(go_simp; try with_reducible rfl)
       go_simp;refine hK _ ?_;clear hK K
      refine wpTd (NoPanic.normal ?_);exact key M wz ⟨kV, hUM, bV⟩
    ·intro gw w9 hk9
     obtain ⟨kW, hUM, hb9⟩ := hk9;have kQ9 := kQr.out.below hb9 kQr.out.lt;have hne9 : gr ≠ gw := by have := kQr.out.lt; omega
     replace hb := Hd (bT2 hb.out hb9);replace hB := Hd (hB.out.later hb9);clear hb9 bW c1 zk
     cases ob with
     | false =>
      have hnn : ans = none := by
       have h := hob.out
       cases ans with
       | none => rfl
       | some _ => simp at h
      have hnx := Hd (hst.out.1 hnn);clear kQ9 kW;go_wp2_with fail;exact ⟨⟨i + 1, by have := hlt.out; omega, by go_num, hnx, hb⟩, by have := hlt.out; simp [intOf]; omega⟩
     | true =>
      have hss : ans = some x0 := by
       have h := hob.out;have h2 := hx0.out
       cases ans with
       | none => simp at h
       | some y => rw [h2]; rfl
      have hff := hst.out.2 _ hss;have hans : Hid (findF f l = some x0) := Hd (by rw [hfF.out]; exact hff);have here : Hid (findE f l = 0) := Hd (by rw [hfE.out, hne.out, hans.out]; rfl);have bV := hB.out.o;have kQ := kQ9;clear hff hss;obtain ⟨z0x, z1x, z2x, z3x, z4x, z5x, z6x, z7x⟩ := kW.cells8;clear kW kQ9;replace hne9 := Hd hne9;obtain ⟨z0c, z1c, z2c, z3c, z4c, z5c, z6c, z7c⟩ := kQ.cells8;obtain ⟨z0fz, z1fz, z2fz, z3fz, z4fz, z5fz, z6fz, z7fz⟩ := kQ.frozen8;have kN := kQ.put8 (.int .i64 x0.ki) (.int .i64 x0.r) (.int .i64 x0.w1) (.int .i64 x0.w2) (.int .i64 x0.o) (.slice none 0 0) (.int .i64 x0.fi) (.int .i64 x0.se);have hbf := Hd (bP8 bV (g := gr) hgrw.out (.int .i64 x0.ki) (.int .i64 x0.r) (.int .i64 x0.w1) (.int .i64 x0.w2) (.int .i64 x0.o) (.slice none 0 0) (.int .i64 x0.fi) (.int .i64 x0.se));have hdd := Hd kN.cells8;clear kN kQ bV;go_wp2_with fail;obtain ⟨d0, d1, d2, d3, d4, d5, d6, d7⟩ := hdd.out;exact bodyPost_ret (v := .tuple #[.agg #[.int .i64 x0.ki, .int .i64 x0.r, .int .i64 x0.w1, .int .i64 x0.w2, .int .i64 x0.o, .slice none 0 0, .int .i64 x0.fi, .int .i64 x0.se], .int .i64 0]) (by simp [results, Tryz.results10, go_sem, d0, d1, d2, d3, d4, d5, d6, d7]) rfl ⟨x0, by rw [hans.out] <;> rfl, by rw [here.out] <;> rfl, hbf.out⟩
   ·have hlt' : ¬ (i : Int) < (n : Int) := by omega
    have hans : Hid (findF f l = none) := Hd (by
     rw [hfF.out];have h := hno.out
     rwa [List.take_of_length_le (by have := hln.out; omega)] at h)
    have here : Hid (findE f l = 8) := Hd (by rw [hfE.out, hne.out, hans.out]; rfl);have kQ := kQr.out;have bV := hB.out.o;clear hlt kQr;obtain ⟨z0c, z1c, z2c, z3c, z4c, z5c, z6c, z7c⟩ := kQ.cells8;obtain ⟨z0fz, z1fz, z2fz, z3fz, z4fz, z5fz, z6fz, z7fz⟩ := kQ.frozen8;have kN := kQ.put8 (.int .i64 0) (.int .i64 0) (.int .i64 0) (.int .i64 0) (.int .i64 0) (.slice none 0 0) (.int .i64 0) (.int .i64 0);have hbf := Hd (bP8 bV (g := gr) hgrw.out (.int .i64 0) (.int .i64 0) (.int .i64 0) (.int .i64 0) (.int .i64 0) (.slice none 0 0) (.int .i64 0) (.int .i64 0));have hdd := Hd kN.cells8;clear kN kQ bV;go_wp2_with fail;obtain ⟨d0, d1, d2, d3, d4, d5, d6, d7⟩ := hdd.out;exact bodyPost_ret (v := .tuple #[.agg #[.int .i64 0, .int .i64 0, .int .i64 0, .int .i64 0, .int .i64 0, .slice none 0 0, .int .i64 0, .int .i64 0], .int .i64 8]) (by simp [results, Tryz.results10, go_sem, d0, d1, d2, d3, d4, d5, d6, d7]) rfl ⟨zeroW, by rw [hans.out] <;> rfl, by rw [here.out] <;> rfl, hbf.out⟩

structure BelowB (g : Nat) (w w' : World) : Prop where
 os : w'.os = w.os
 tape : w'.tape = w.tape
 output : w'.output = w.output
 size : w.heap.size ≤ w'.heap.size
 block : ∀ k, k < w.heap.size → k ≠ g → w'.heap[k]? = w.heap[k]?
theorem BelowB.refl (g : Nat) (w : World) : BelowB g w w := ⟨rfl, rfl, rfl, Nat.le_refl _, fun _ _ _ => rfl⟩
theorem BelowB.trans {g : Nat} {a b c : World} (h : BelowB g a b) (k : BelowB g b c) : BelowB g a c :=
 ⟨k.os.trans h.os, k.tape.trans h.tape, k.output.trans h.output, Nat.le_trans h.size k.size, fun i hi hg => (k.block i (Nat.lt_of_lt_of_le hi h.size) hg).trans (h.block i hi hg)⟩
theorem BelowB.of {g : Nat} {w w' : World} (h : Below w.heap.size w w') : BelowB g w w' := ⟨h.os, h.tape, h.output, h.size, fun k hk _ => h.block k hk⟩
theorem BelowB.grown {g : Nat} {w w' : World} {row : Option Nat} (hg : w.grownBy w' row) (h : ∀ k, row = some k → k = g) : BelowB g w w' :=
 ⟨hg.os, hg.tape, hg.output, hg.size, fun k hk hne => hg.block k hk (fun e => hne (h k e.symm))⟩
theorem BelowB.cell {g : Nat} {w w' : World} (h : BelowB g w w') {p : Addr} (hp : p.block < w.heap.size) (hg : p.block ≠ g) : w'.cell? p = w.cell? p := World.cell?_of_block (w := w) (h.block p.block hp hg)
theorem BelowB.below {g B : Nat} {w w' : World} (h : BelowB g w w') (hB : B ≤ w.heap.size) (hg : B ≤ g) : Below B w w' := ⟨h.os, h.tape, h.output, h.size, fun k hk => h.block k (by omega) (by omega)⟩
theorem BelowB.blk {g k : Nat} {t : TypeId} {cs : List Value} {w w' : World} (h : BelowB g w w') (hk : Blk w k t cs) (hne : k ≠ g) : Blk w' k t cs := (h.block k hk.lt hne).trans hk
section
variable {gb : Nat} {P : Program} {ops : Array Oper} {md : Region.Mode} {Q : Exit → Act → World → Prop}

def wpAnyG (gb : Nat) (P : Program) (md : Region.Mode) (ops : Array Oper) (Q : Exit → Act → World → Prop) (n : Nat) (F : Array Bool → Act → World → Prop) : Nat → Array Bool → Act → World → Prop
 | 0, listed, a, w => F listed a w
 | f + 1, listed, a, w => Region.ready md ops listed ≠ [] ∧ ∀ i ∈ Region.ready md ops listed, i < n ∧ wpOp P ops Q i (fun a' w' => BelowB gb w w' ∧ wpAnyG gb P md ops Q n F f (listed.setIfInBounds i true) a' w') a w

theorem wpAny_of_G {n g : Nat} {F : Array Bool → Act → World → Prop} (hF : ∀ listed a w, F listed a w → wpAny P md ops Q g listed a w) :
  ∀ (f : Nat) (listed : Array Bool) (a : Act) (w : World), wpAnyG gb P md ops Q n F f listed a w → wpAny P md ops Q (f + g) listed a w
 | 0, _, _, _, h => by rw [Nat.zero_add]; exact hF _ _ _ h
 | f + 1, listed, a, w, h => by
  rw [show f + 1 + g = (f + g) + 1 by omega];exact ⟨fun h0 => absurd h0 h.1, fun i hi => wpOp_mono (fun a' w' h' => wpAny_of_G hF f _ a' w' h'.2) (h.2 i hi).2⟩

theorem belowB_of {w w' w'' : World} (h : BelowB gb w w') (h' : BelowB gb w' w'') : BelowB gb w w'' := h.trans h'
theorem yieldsB_later {w w' : World} {o : Oper} {v : Value} {a : Act} (hb : BelowB gb w w') (h : YieldsIf P ops (fun x => BelowB gb w x) o v a) : YieldsIf P ops (fun x => BelowB gb w' x) o v a :=
 h.imp (fun ⟨h1, h2⟩ => ⟨h1, fun x hx => h2 x (belowB_of hb hx)⟩) id

theorem wpAnyG_first {n i : Nat} {oi : Oper} {v : Value} {F : Array Bool → Act → World → Prop} (hi : ops[i]? = some oi) (hsel : ∀ (j : Nat) (o : Oper) cs b, ops[j]? = some o → o.op ≠ .select cs b)
  (hQ : ∀ c a w, Q (.panic c) (a.put oi.dst v) w → Q (.panic c) a w)
  (hlate : ∀ listed, HeadInv md ops n listed → listed.getD i true = false → ∀ t, n ≤ t → t ∉ Region.ready md ops listed) (hin : i < n)
  (hdone : ∀ listed a w, F listed a w → ∀ j ∈ Region.ready md ops listed, n ≤ j) :
  ∀ (f : Nat) (listed : Array Bool) (a : Act) (w : World), HeadInv md ops n listed →
   (∀ j oj, ops[j]? = some oj → j ≠ i → listed.getD j true = false → (∀ e ∈ oj.after, Region.binds md e = true → e.on ≠ i) → oi.apart ops oj = true) →
   i ∈ Region.ready md ops listed → YieldsIf P ops (fun x => BelowB gb w x) oi v a →
   wpAnyG gb P md ops Q n F f (listed.setIfInBounds i true) (a.put oi.dst v) w → wpAnyG gb P md ops Q n F (f + 1) listed a w := by
 intro f
 induction f with
 | zero =>
  intro listed a w inv _ hr hy H;have hun := (mem_ready.1 hr).1;refine ⟨fun h => (by rw [h] at hr; cases hr), fun j hj => ?_⟩;have hjn : j < n := by
   rcases Nat.lt_or_ge j n with h | h
   ·exact h
   ·exact absurd hj (hlate listed inv hun j h)
  refine ⟨hjn, ?_⟩;by_cases hji : j = i
  ·subst hji; exact hy.wpOp hi (BelowB.refl _ _) ⟨BelowB.refl _ _, H⟩
  ·have := hdone _ _ _ H j (ready_mono hj hji)
   omega
 | succ f ih =>
  intro listed a w inv hfree hr hy H;have hun := (mem_ready.1 hr).1;refine ⟨fun h => (by rw [h] at hr; cases hr), fun j hj => ?_⟩;have hjn : j < n := by
   rcases Nat.lt_or_ge j n with h | h
   ·exact h
   ·exact absurd hj (hlate listed inv hun j h)
  refine ⟨hjn, ?_⟩;by_cases hji : j = i
  ·subst hji; exact hy.wpOp hi (BelowB.refl _ _) ⟨BelowB.refl _ _, H⟩
  ·have h1 := (H.2 j (ready_mono hj hji)).2
   obtain ⟨hjun, oj, hoj, hall⟩ := mem_ready.1 hj;have hnot : ∀ e ∈ oj.after, Region.binds md e = true → e.on ≠ i := fun e he hb heq => by
    have h1 := hall e he hb;rw [heq, getD_both hun] at h1
    cases h1
   have h2 := wpOp_putIf hoj (hfree j oj hoj hji hjun hnot) (fun cs b => hsel i oi cs b hi) (fun cs b => hsel j oj cs b hoj) hQ hy h1;have hfree' : ∀ k ok, ops[k]? = some ok → k ≠ i → (listed.setIfInBounds j true).getD k true = false →
     (∀ e ∈ ok.after, Region.binds md e = true → e.on ≠ i) → oi.apart ops ok = true := fun k ok hk hki hun hno => by
    refine hfree k ok hk hki ?_ hno;by_cases hjk : j = k
    ·subst hjk; exact hjun
    ·rw [getD_set_ne true hjk] at hun; exact hun
   refine wpOp_mono (fun a' w' h3 => ⟨h3.2.1, ih (listed.setIfInBounds j true) a' w' (inv.set hj hjn) hfree' (ready_mono hr (Ne.symm hji)) (yieldsB_later h3.2.1 h3.1) ?_⟩) h2;rw [Array.setIfInBounds_comm _ _ hji];exact h3.2.2

def wpPG (gb : Nat) (P : Program) (ops : Array Oper) (Q : Exit → Act → World → Prop) (tail : List Oper) : List (Bool × Nat) → Act → World → Prop
 | [], a, w => wpList P ops Q tail a w
 | (true, i) :: rest, a, w => ∃ o v, ops[i]? = some o ∧ YieldsIf P ops (fun x => BelowB gb w x) o v a ∧ wpPG gb P ops Q tail rest (a.put o.dst v) w
 | (false, i) :: rest, a, w => wpOp P ops Q i (fun a' w' => BelowB gb w w' ∧ wpPG gb P ops Q tail rest a' w') a w

theorem wpAnyG_plan {n : Nat} {tail : List Oper} (hsel : Region.noSelect ops = true) (hQ : ∀ c a d v w, Q (.panic c) (a.put d v) w → Q (.panic c) a w)
  (hlate : ∀ listed, HeadInv md ops n listed → ∀ i, i < n → listed.getD i true = false → ∀ t, n ≤ t → t ∉ Region.ready md ops listed) :
  ∀ (pl : List (Bool × Nat)) (listed : Array Bool) (a : Act) (w : World), HeadInv md ops n listed → planB md ops n pl listed = true → wpPG gb P ops Q tail pl a w →
  wpAnyG gb P md ops Q n (fun listed' a' w' => Region.seqB md ops (ops.size - n) n listed' = true ∧ wpList P ops Q tail a' w') pl.length listed a w
 | [], listed, a, w, _, hB, h => ⟨hB, h⟩
 | (true, i) :: rest, listed, a, w, inv, hB, h => by
  simp only [planB, if_true, Bool.and_eq_true, decide_eq_true_eq] at hB;obtain ⟨⟨hin, hr, hf⟩, hB'⟩ := hB;obtain ⟨o, v, ho, hy, h'⟩ := h;have hr' : i ∈ Region.ready md ops listed := by simpa using hr
  exact wpAnyG_first ho (Region.noSelect_spec hsel) (fun c a w => hQ c a o.dst v w) (fun l hl hu => hlate l hl i hin hu) hin (fun listed' a' w' hL => seqB_ready hL.1) rest.length listed a w inv (Region.free_spec ho hf) hr' hy
   (wpAnyG_plan hsel hQ hlate rest _ _ _ (inv.set hr' hin) hB' h')
 | (false, i) :: rest, listed, a, w, inv, hB, h => by
  simp only [planB, Bool.false_eq_true, if_false, Bool.and_eq_true, decide_eq_true_eq] at hB;obtain ⟨⟨hin, hr⟩, hB'⟩ := hB;have hr' : i ∈ Region.ready md ops listed := by rw [hr]; simp
  refine ⟨by rw [hr]; simp, fun j hj => ?_⟩;rw [hr] at hj;have hji : j = i := by simpa using hj
  subst hji;exact ⟨hin, wpOp_mono (fun a' w' h3 => ⟨h3.1, wpAnyG_plan hsel hQ hlate rest _ a' w' (inv.set hr' hin) hB' h3.2⟩) h⟩

theorem wpAny_planG {a : Act} {w : World} {l : List Oper} (n : Nat) (pl : List (Bool × Nat)) (hB : planAll .any l.toArray n pl = true)
  (h : ∀ W : World, Hid (W = w.drew) → wpPG gb P l.toArray (NoPanic Q) (l.drop n) pl a W) : wpAny P .any l.toArray (NoPanic Q) l.toArray.size (Array.replicate l.toArray.size false) a { w with drawn := w.drawn + 1 } := by
 have hQ : ∀ c a d v w, NoPanic Q (.panic c) (a.put d v) w → NoPanic Q (.panic c) a w := fun _ _ _ _ _ h => h;simp only [planAll, Bool.and_eq_true, decide_eq_true_eq] at hB;obtain ⟨⟨⟨⟨hsel, hlen⟩, hn⟩, hsc⟩, hpl⟩ := hB;have hn' : n ≤ l.length := by simpa using hn
 have hdl : (l.drop n).length = l.toArray.size - n := by simp
 have inv0 : HeadInv .any l.toArray n (Array.replicate l.toArray.size false) :=
  ⟨by simp, fun j oj _ hl => (by rw [getD_replicate_false] at hl; cases hl), fun t _ ht => getD_in (by simpa using ht) (getD_replicate_false _ _)⟩
 have hlate : ∀ listed, HeadInv .any l.toArray n listed → ∀ i, i < n → listed.getD i true = false → ∀ t, n ≤ t → t ∉ Region.ready .any l.toArray listed := by
  intro listed inv i hin hun t ht hr;rw [Bool.or_eq_true, decide_eq_true_eq, Bool.and_eq_true] at hsc;obtain ⟨_, ot, hot, _⟩ := mem_ready.1 hr;have htl := (Array.getElem?_eq_some_iff.1 hot).1;rcases hsc with h0 | ⟨hs, hc⟩
  ·omega
  ·exact tail_waits hs hc (by omega) inv _ i rfl hin hun t ht hr
 have H := wpAnyG_plan (md := .any) hsel hQ hlate pl _ a w.drew inv0 hpl (h w.drew (Hd rfl));have := wpAny_of_G (Q := NoPanic Q) (g := l.toArray.size - n) (fun listed a' w' hL => by
  have := wpAny_of_seq (md := .any) (Q' := NoPanic Q) (l.drop n) n listed a' w' (fun j => by simp [List.getElem?_drop]) (by rw [hdl]; exact hL.1) hL.2
  rwa [hdl] at this) _ _ _ _ H
 rw [hlen, show n + (l.toArray.size - n) = l.toArray.size by omega] at this;exact this
theorem wp_region_planG {id : Nat} {a : Act} {w : World} {l : List Oper} (n : Nat) (pl : List (Bool × Nat)) (hm : P.follows .mixedOrders = true) (hB : planAll .any l.toArray n pl = true)
  (h : ∀ W : World, Hid (W = w.drew) → wpPG gb P l.toArray (NoPanic Q) (l.drop n) pl a W) : (Code.region id l.toArray true).wp P Q a w :=
 wp_region_noPanic (wp_region_any hm (wpAny_planG n pl hB h))

/-! ### the steps -/
section
variable {tail : List Oper} {rest : List (Bool × Nat)} {a : Act} {w : World} {i : Nat} {o : Oper}
theorem wpPG_float {v : Value} (hi : ops[i]? = some o) (hw : Region.wanted o (yielded ops a.tmps) = true)
  (hy : ∀ w' : World, (∀ p : Addr, p.block ≠ gb → (w.cell? p).isSome = true → w'.cell? p = w.cell? p) → (execOp a.eval o).run P w' = .ok (.value v) w') (h : ∀ K : Act → Prop, (∀ a', wpPG gb P ops Q tail rest a' w → K a') → K (a.put o.dst v)) : wpPG gb P ops Q tail ((true, i) :: rest) a w :=
 ⟨o, v, hi, .inl ⟨hw, fun w' hb => hy w' (fun p hpg hp => by
  have hlt : p.block < w.heap.size := by
   cases hc : w.cell? p with
   | none => rw [hc] at hp; cases hp
   | some u => exact block_lt_of_cell hc
  exact hb.cell hlt hpg)⟩, h _ (fun _ h => h)⟩
theorem wpPG_only (hi : ops[i]? = some o) (hw : Region.wanted o (yielded ops a.tmps) = true)
  (h : ∀ K : Act → World → Prop, (∀ a' w', BelowB gb w w' → wpPG gb P ops Q tail rest a' w' → K a' w') → o.wp P a w K Q) : wpPG gb P ops Q tail ((false, i) :: rest) a w := by
 show wpOp P ops Q i _ a w
 unfold wpOp;simp only [hi, hw, if_true];exact .inl (h _ (fun a' w' hb hp => ⟨hb, hp⟩))
theorem wpPG_nil (h : wpList P ops Q tail a w) : wpPG gb P ops Q tail [] a w := h
end
end

theorem find_congr18 {α : Type} {p q : α → Bool} : ∀ {l : List α}, (∀ z ∈ l, p z = q z) → l.find? p = l.find? q
 | [], _ => rfl
 | a :: l, h => by
  rw [List.find?_cons, List.find?_cons, h a List.mem_cons_self, find_congr18 (fun z hz => h z (List.mem_cons_of_mem _ hz))]
def fromZ (f : Fac) (z : Int) : Int := f.frm.getD z.toNat 0
def vaZ (f : Fac) (z : Int) : Int := match f.items[z.toNat]? with | some x => x.va | none => -1
def isW (f : Fac) (z : Int) : Bool := match f.items[z.toNat]? with | some x => x.wr | none => false
def lkW (f : Fac) (X : List (List Nat)) (a z : Int) : Bool := decide (a ≠ fromZ f z) && hasM X a z && !hasM X a (fromZ f z)
def lkO (f : Fac) (X : List (List Nat)) (acc : List Ed) (a z : Int) : List Ed := if lkW f X a z = true ∧ (a, fromZ f z) ∉ edP acc then acc ++ [⟨a, fromZ f z, z⟩] else acc
def lkR (f : Fac) (X : List (List Nat)) (acc : List Ed) (a : Int) (zs : List Int) : List Ed := zs.foldl (fun l z => lkO f X l a z) acc
def rdsP (f : Fac) (v z : Int) : Bool := decide (0 ≤ fromZ f z) && decide (vaZ f z = v)
def rdsV (f : Fac) (kept : List Int) (v : Int) : List Int := kept.filter (rdsP f v)
def lkA (f : Fac) (X : List (List Nat)) (kept : List Int) (ws : List Int) : List Ed := ws.foldl (fun l a => lkR f X l a (rdsV f kept (vaZ f a))) []
def lkP (f : Fac) (X : List (List Nat)) (a b z : Int) : Bool := lkW f X a z && decide (fromZ f z = b)
section
variable {f : Fac} {X : List (List Nat)} {kept : List Int}
theorem lkR_nil (acc : List Ed) (a : Int) : lkR f X acc a [] = acc := rfl
theorem lkR_snoc (acc : List Ed) (a z : Int) (zs : List Int) : lkR f X acc a (zs ++ [z]) = lkO f X (lkR f X acc a zs) a z := by unfold lkR; rw [List.foldl_append]; rfl
theorem lkR_take {acc : List Ed} {a z : Int} {zs : List Int} {q : Nat} (h : zs[q]? = some z) : lkR f X acc a (zs.take (q + 1)) = lkO f X (lkR f X acc a (zs.take q)) a z := by
 rw [List.take_add_one, h]; exact lkR_snoc _ _ _ _
theorem lkA_nil : lkA f X kept [] = [] := rfl
theorem lkA_snoc (ws : List Int) (a : Int) : lkA f X kept (ws ++ [a]) = lkR f X (lkA f X kept ws) a (rdsV f kept (vaZ f a)) := by unfold lkA; rw [List.foldl_append]; rfl
theorem lkA_take {ws : List Int} {a : Int} {q : Nat} (h : ws[q]? = some a) : lkA f X kept (ws.take (q + 1)) = lkR f X (lkA f X kept (ws.take q)) a (rdsV f kept (vaZ f a)) := by
 rw [List.take_add_one, h]; exact lkA_snoc _ _
theorem lkO_len (acc : List Ed) (a z : Int) : (lkO f X acc a z).length ≤ acc.length + 1 := by unfold lkO; split <;> simp
theorem lkR_len (acc : List Ed) (a : Int) (zs : List Int) : (lkR f X acc a zs).length ≤ acc.length + zs.length := by
 induction zs using snoc_ind with
 | h0 => simp [lkR_nil]
 | h1 l z ih => rw [lkR_snoc, List.length_append]; have := lkO_len (f := f) (X := X) (lkR f X acc a l) a z; simp; omega
theorem rdsV_len (v : Int) : (rdsV f kept v).length ≤ kept.length := List.length_filter_le _ _
theorem lkA_len (ws : List Int) : (lkA f X kept ws).length ≤ ws.length * kept.length := by
 induction ws using snoc_ind with
 | h0 => simp [lkA_nil]
 | h1 l a ih =>
  rw [lkA_snoc, List.length_append];have h1 := lkR_len (f := f) (X := X) (lkA f X kept l) a (rdsV f kept (vaZ f a));have h2 := rdsV_len (f := f) (kept := kept) (vaZ f a);have h3 : (l.length + [a].length) * kept.length = l.length * kept.length + kept.length := by simp [Nat.add_mul]
  omega
theorem lkO_nodup {acc : List Ed} (a z : Int) (h : (edP acc).Nodup) : (edP (lkO f X acc a z)).Nodup := by
 unfold lkO
 split
 ·rename_i hc
  unfold edP at h hc ⊢;rw [List.map_append];refine List.nodup_append.2 ⟨h, by simp, fun p hp q hq e => ?_⟩;simp only [List.map_cons, List.map_nil, List.mem_singleton] at hq;subst hq;subst e;exact hc.2 hp
 ·exact h
theorem lkR_nodup {acc : List Ed} (a : Int) (zs : List Int) (h : (edP acc).Nodup) : (edP (lkR f X acc a zs)).Nodup := by
 induction zs using snoc_ind with
 | h0 => exact h
 | h1 l z ih => rw [lkR_snoc]; exact lkO_nodup a z ih
theorem lkA_nodup (ws : List Int) : (edP (lkA f X kept ws)).Nodup := by
 induction ws using snoc_ind with
 | h0 => simp [lkA_nil, edP]
 | h1 l a ih => rw [lkA_snoc]; exact lkR_nodup a _ ih
theorem mem_edP {l : List Ed} {a b : Int} : (a, b) ∈ edP l ↔ ∃ x ∈ l, x.w1 = a ∧ x.w2 = b := by
 unfold edP;rw [List.mem_map]
 constructor
 ·rintro ⟨x, hx, e⟩; injection e with e1 e2; exact ⟨x, hx, e1, e2⟩
 ·rintro ⟨x, hx, e1, e2⟩; exact ⟨x, hx, by rw [e1, e2]⟩
theorem mem_lkR (acc : List Ed) (a : Int) (zs : List Int) (x : Ed) : x ∈ lkR f X acc a zs ↔ x ∈ acc ∨ (x.w1 = a ∧ (a, x.w2) ∉ edP acc ∧ zs.find? (lkP f X a x.w2) = some x.rd) := by
 induction zs using snoc_ind generalizing x with
 | h0 => simp [lkR_nil]
 | h1 l z ih =>
  rw [lkR_snoc, List.find?_append];have hin : ∀ b, (a, b) ∈ edP (lkR f X acc a l) ↔ (a, b) ∈ edP acc ∨ ∃ y, l.find? (lkP f X a b) = some y := fun b => by
   rw [mem_edP]
   constructor
   ·rintro ⟨y, hy, e1, e2⟩
    rcases (ih y).1 hy with h | ⟨_, h2, h3⟩
    ·exact .inl (mem_edP.2 ⟨y, h, e1, e2⟩)
    ·subst e2; exact .inr ⟨_, h3⟩
   ·rintro (h | ⟨y, h⟩)
    ·obtain ⟨u, hu, e1, e2⟩ := mem_edP.1 h
     exact ⟨u, (ih u).2 (.inl hu), e1, e2⟩
    ·by_cases hb : (a, b) ∈ edP acc
     ·obtain ⟨u, hu, e1, e2⟩ := mem_edP.1 hb
      exact ⟨u, (ih u).2 (.inl hu), e1, e2⟩
     ·exact ⟨⟨a, b, y⟩, (ih ⟨a, b, y⟩).2 (.inr ⟨rfl, hb, h⟩), rfl, rfl⟩
  have hz : ([z] : List Int).find? (lkP f X a x.w2) = if lkW f X a z = true ∧ fromZ f z = x.w2 then some z else none := by
   rw [List.find?_cons, List.find?_nil];unfold lkP;by_cases h1 : lkW f X a z = true
   ·by_cases h2 : fromZ f z = x.w2
    ·rw [h1, decide_eq_true h2, if_pos ⟨rfl, h2⟩]; rfl
    ·rw [decide_eq_false h2, Bool.and_false, if_neg (fun h => h2 h.2)]
   ·rw [if_neg (fun h => h1 h.1)]
    simp only [Bool.not_eq_true] at h1;rw [h1, Bool.false_and]
  rw [hz];unfold lkO;by_cases hc : lkW f X a z = true ∧ (a, fromZ f z) ∉ edP (lkR f X acc a l)
  ·rw [if_pos hc, List.mem_append, ih]
   have hc2 := hc.2;rw [hin, not_or] at hc2
   constructor
   ·rintro ((h | ⟨h1, h2, h3⟩) | h)
    ·exact .inl h
    ·exact .inr ⟨h1, h2, by rw [h3]; rfl⟩
    ·rw [List.mem_singleton] at h
     subst h;refine .inr ⟨rfl, hc2.1, ?_⟩
     cases hf : l.find? (lkP f X a (fromZ f z)) with
     | some y => exact absurd ⟨y, hf⟩ hc2.2
     | none => rw [if_pos ⟨hc.1, rfl⟩]; rfl
   ·rintro (h | ⟨h1, h2, h3⟩)
    ·exact .inl (.inl h)
    ·cases hf : l.find? (lkP f X a x.w2) with
     | some y =>
      rw [hf] at h3;exact .inl (.inr ⟨h1, h2, h3⟩)
     | none =>
      rw [hf, Option.none_or] at h3
      split at h3
      ·rename_i hh
       injection h3 with h3;obtain ⟨x1, x2, x3⟩ := x
       simp only at h1 h3 hh
       obtain ⟨h4, h5⟩ := hh;rw [h1, ← h3, ← h5];exact .inr (List.mem_singleton.2 rfl)
      ·cases h3
  ·rw [if_neg hc, ih]
   constructor
   ·rintro (h | ⟨h1, h2, h3⟩)
    ·exact .inl h
    ·exact .inr ⟨h1, h2, by rw [h3]; rfl⟩
   ·rintro (h | ⟨h1, h2, h3⟩)
    ·exact .inl h
    ·cases hf : l.find? (lkP f X a x.w2) with
     | some y =>
      rw [hf] at h3;exact .inr ⟨h1, h2, h3⟩
     | none =>
      rw [hf, Option.none_or] at h3
      split at h3
      ·rename_i hh
       exfalso
       refine hc ⟨hh.1, fun h => ?_⟩;rw [hin, hh.2] at h;rcases h with h | ⟨y, h⟩
       ·exact h2 h
       ·rw [hf] at h; cases h
      ·cases h3
theorem mem_lkA {ws : List Int} (hnd : ws.Nodup) (x : Ed) : x ∈ lkA f X kept ws ↔ x.w1 ∈ ws ∧ (rdsV f kept (vaZ f x.w1)).find? (lkP f X x.w1 x.w2) = some x.rd := by
 induction ws using snoc_ind generalizing x with
 | h0 => simp [lkA_nil]
 | h1 l a ih =>
  have h0 := List.nodup_append.1 hnd;have hal : a ∉ l := fun h => h0.2.2 a h a (List.mem_singleton.2 rfl) rfl;have ih := ih h0.1;rw [lkA_snoc, mem_lkR, ih, List.mem_append, List.mem_singleton];have hno : ∀ b, (a, b) ∉ edP (lkA f X kept l) := fun b h => by
   obtain ⟨u, hu, e1, e2⟩ := mem_edP.1 h;have := ((ih u).1 hu).1;rw [e1] at this;exact hal this
  constructor
  ·rintro (⟨h1, h2⟩ | ⟨h1, _, h3⟩)
   ·exact ⟨.inl h1, h2⟩
   ·refine ⟨.inr h1, ?_⟩
    rw [h1]; exact h3
  ·rintro ⟨h1 | h1, h2⟩
   ·exact .inl ⟨h1, h2⟩
   ·rw [h1] at h2
    exact .inr ⟨h1, hno _, h2⟩
end
/-! ### it is the document's -/
def EdLt (x y : Ed) : Prop := x.w1 < y.w1 ∨ (x.w1 = y.w1 ∧ x.w2 < y.w2)
section
variable {f : Fac} {X : List (List Nat)} {kept : List Int}
theorem nwB_sorted (a : Nat) : ∀ k, (nwB f X kept a k).Pairwise EdLt
 | 0 => by simp [nwB_zero]
 | k + 1 => by
  rw [nwB_succ];refine List.pairwise_append.2 ⟨nwB_sorted a k, ?_, fun x hx y hy => ?_⟩
  ·cases nwO f X kept a k <;> simp
  ·rw [Option.mem_toList] at hy
   obtain ⟨b, hb, hx⟩ := mem_nwB.1 hx;obtain ⟨-, e1, e2, -, -⟩ := nwO_some hx;obtain ⟨-, e3, e4, -, -⟩ := nwO_some hy;exact .inr ⟨by rw [e1, e3], by rw [e2, e4]; omega⟩
theorem nwA_sorted (n : Nat) : ∀ k, (nwA f X kept n k).Pairwise EdLt
 | 0 => by simp [nwA_zero]
 | k + 1 => by
  rw [nwA_succ];refine List.pairwise_append.2 ⟨nwA_sorted n k, nwB_sorted k n, fun x hx y hy => ?_⟩;obtain ⟨a, b, ha, -, hx⟩ := mem_nwA.1 hx;obtain ⟨b', -, hy⟩ := mem_nwB.1 hy;obtain ⟨-, e1, -, -, -⟩ := nwO_some hx;obtain ⟨-, e3, -, -, -⟩ := nwO_some hy;exact .inl (by rw [e1, e3]; omega)
theorem newF_sorted : (newF f X kept).Pairwise EdLt := nwA_sorted _ _
theorem fromF_hit {is : List It} {i b : Nat} (hi : i < is.length) (h : (fromF is).getD i 0 = (b : Int)) : ∃ x y, is[i]? = some x ∧ is[b]? = some y ∧ y.wr = true ∧ y.va = x.va := by
 have hx : is[i]? = some is[i] := List.getElem?_eq_getElem hi;rw [getD_at (fromF_at hx)] at h;unfold fromOne at h
 split at h
 ·omega
 ·split at h
  ·omega
  ·cases hw : writeF is is[i].va is[i].vl with
   | none => rw [hw] at h; simp at h
   | some k =>
    rw [hw] at h
    simp only at h
    obtain ⟨y, h1, h2, -⟩ := writeF_some hw;obtain rfl : k = b := by omega
    unfold hitW at h2;simp only [Bool.and_eq_true, decide_eq_true_eq] at h2;exact ⟨_, y, hx, h1, h2.1, h2.2.1⟩
theorem lkA_perm {ws : List Int} (hfr : f.frm = fromF f.items) (hnd : ws.Nodup) (hws : ∀ z ∈ ws, 0 ≤ z ∧ z < (f.items.length : Int) ∧ isW f z = true) (hk : ∀ z ∈ kept, 0 ≤ z ∧ z < (f.items.length : Int))
  (hX : ∀ a y : Nat, Rel X a y → isW f (a : Int) = true → (a : Int) ∈ ws) : (lkA f X kept ws).Perm (newF f X kept) := by
 have n1 : (lkA f X kept ws).Nodup := List.Pairwise.of_map _ (fun a b h e => h (by rw [e])) (lkA_nodup ws);have n2 : (newF f X kept).Nodup := List.Pairwise.of_map _ (fun a b h e => h (by rw [e])) (nwA_nodup _ _);refine (List.perm_ext_iff_of_nodup n1 n2).2 (fun x => ?_);rw [mem_lkA hnd];have key : ∀ a b : Nat, nwG f X a b = true → (rdsV f kept (vaZ f (a : Int))).find? (lkP f X (a : Int) (b : Int)) = kept.find? (nwK f X a b) := fun a b hg => by
  unfold rdsV;rw [List.find?_filter];refine find_congr18 (fun z hz => ?_);obtain ⟨h0, h1⟩ := hk z hz;obtain ⟨r, rfl⟩ := Int.eq_ofNat_of_zero_le h0;unfold nwG at hg;simp only [Bool.and_eq_true, Bool.not_eq_true', decide_eq_true_eq] at hg;obtain ⟨⟨hne, hbo⟩, hno⟩ := hg;unfold rdsP lkP lkW nwK;by_cases hb : fromZ f (r : Int) = (b : Int)
  ·have hb' := hb
   unfold fromZ at hb';rw [Int.toNat_natCast] at hb' ⊢;have hb2 := hb';rw [hfr] at hb';obtain ⟨x1, y1, q1, q2, q3, q4⟩ := fromF_hit (by omega) hb';have hva : vaZ f (r : Int) = vaZ f (a : Int) := by
    unfold bothW at hbo;unfold vaZ;rw [Int.toNat_natCast, Int.toNat_natCast, q1]
    cases hq : f.items[a]? with
    | none => rw [hq] at hbo; simp at hbo
    | some u =>
     rw [hq, q2] at hbo;simp only [Bool.and_eq_true, decide_eq_true_eq] at hbo
     simp only
     rw [← q4, hbo.2]
   rw [hb, hva, hb2, hno, decide_eq_true (show (0 : Int) ≤ (b : Int) by omega), decide_eq_true (show (a : Int) ≠ (b : Int) by omega)]
   simp
  ·have hb2 : f.frm.getD r 0 ≠ (b : Int) := fun h => hb (by unfold fromZ; rw [Int.toNat_natCast]; exact h)
   rw [decide_eq_false hb, Int.toNat_natCast, decide_eq_false hb2]
   simp
 constructor
 ·rintro ⟨hw, hf⟩
  obtain ⟨h0, h1, h2⟩ := hws _ hw;have hp := List.find?_some hf;have hm := List.mem_of_find?_eq_some hf;unfold rdsV at hm;obtain ⟨hmk, hmp⟩ := List.mem_filter.1 hm;obtain ⟨k0, k1⟩ := hk _ hmk;obtain ⟨x1, x2, x3⟩ := x
  simp only at hw hf h0 h1 h2 hp hmp hmk k0 k1 ⊢
  obtain ⟨a, rfl⟩ := Int.eq_ofNat_of_zero_le h0;obtain ⟨r, rfl⟩ := Int.eq_ofNat_of_zero_le k0;unfold lkP lkW at hp;unfold rdsP at hmp;simp only [Bool.and_eq_true, Bool.not_eq_true', decide_eq_true_eq] at hp hmp;obtain ⟨⟨⟨p1, p2⟩, p3⟩, p4⟩ := hp;obtain ⟨m1, m2⟩ := hmp;rw [p4] at p1 p3 m1;obtain ⟨b, rfl⟩ := Int.eq_ofNat_of_zero_le m1;have hb' := p4;unfold fromZ at hb';rw [Int.toNat_natCast, hfr] at hb';obtain ⟨u, y, q1, q2, q3, q4⟩ := fromF_hit (by omega) hb';have hbl := (List.getElem?_eq_some_iff.1 q2).1;unfold isW at h2;unfold vaZ at m2;rw [Int.toNat_natCast] at h2 m2;rw [Int.toNat_natCast, q1] at m2;have hg : nwG f X a b = true := by
   unfold nwG bothW
   cases hq : f.items[a]? with
   | none => rw [hq] at h2; cases h2
   | some e =>
    rw [hq] at h2 m2
    simp only at h2 m2
    simp only [q2, p3, Bool.not_false, Bool.and_true, Bool.and_eq_true, decide_eq_true_eq];exact ⟨by omega, ⟨h2, q3⟩, by rw [q4, m2]⟩
  refine mem_newF.2 ⟨a, b, by omega, hbl, ?_⟩;unfold nwO;rw [if_pos hg, ← key a b hg, hf]; rfl
 ·intro h
  obtain ⟨a, b, ha, hb, h⟩ := mem_newF.1 h;obtain ⟨hg, e1, e2, hm, hK⟩ := nwO_some h;unfold nwO at h;rw [if_pos hg, ← key a b hg] at h;have hf : (rdsV f kept (vaZ f (a : Int))).find? (lkP f X (a : Int) (b : Int)) = some x.rd := by
   cases hq : (rdsV f kept (vaZ f (a : Int))).find? (lkP f X (a : Int) (b : Int)) with
   | none => rw [hq] at h; cases h
   | some r =>
    rw [hq] at h;simp only [Option.map_some, Option.some.injEq] at h;rw [← h]
  rw [e1, e2];refine ⟨?_, hf⟩;obtain ⟨k0, k1⟩ := hk _ hm;obtain ⟨r, hr⟩ := Int.eq_ofNat_of_zero_le k0;unfold nwK at hK;simp only [Bool.and_eq_true, decide_eq_true_eq] at hK;rw [hr] at hK;refine hX a r hK.2 ?_;unfold nwG at hg;simp only [Bool.and_eq_true, Bool.not_eq_true', decide_eq_true_eq] at hg;have := bothW_wr hg.1.2;unfold wrB at this;unfold isW;rw [Int.toNat_natCast];exact this.1
theorem lk_sorted {l l' : List Ed} (hp : l.Perm (newF f X kept)) (hq : l.Perm l') (hs : l'.Pairwise fun x y => ¬ EdLt y x) : l' = newF f X kept := by
 refine List.Perm.eq_of_pairwise (le := fun x y => ¬ EdLt y x) (fun x y hx hy h1 h2 => ?_) hs (newF_sorted.imp (fun {x y} h h' => ?_)) (hq.symm.trans hp)
 ·have hx' : x ∈ newF f X kept := hp.subset (hq.symm.subset hx)
  have e : x.w1 = y.w1 ∧ x.w2 = y.w2 := by
   unfold EdLt at h1 h2; omega
  obtain ⟨a, b, ha, hb, h3⟩ := mem_newF.1 hx';obtain ⟨a', b', ha', hb', h4⟩ := mem_newF.1 hy;obtain ⟨-, i1, i2, -, -⟩ := nwO_some h3;obtain ⟨-, i3, i4, -, -⟩ := nwO_some h4;obtain rfl : a = a' := by omega
  obtain rfl : b = b' := by omega
  rw [h3] at h4;injection h4
 ·unfold EdLt at h h'; omega
theorem Conn.first {r : Nat → Nat → Prop} {P : Nat → Prop} (h : ∀ i j, r i j → P i) {a y : Nat} (hc : Conn r a y) : P a := by
 induction hc with
 | one h1 => exact h _ _ h1
 | step _ _ ih => exact ih
theorem seX_first {B : List (List Nat)} (hB : Good f.items.length B) {P : Nat → Prop} (h : ∀ a y : Nat, Rel B a y → P a) : ∀ k (a y : Nat), Rel (seX f kept B k) a y → P a
 | 0, a, y, hh => h a y hh
 | k + 1, a, y, hh => by
  have ih := seX_first hB h k;refine Conn.first (fun i j h1 => ?_) (((seX_hull hB k).2 a y).1 hh)
  rcases (seX_rel hB k i j).1 h1 with h2 | h2
  ·exact ih i j h2
  ·obtain ⟨x, hx, e1, e2⟩ := mem_edP.1 h2
   obtain ⟨p, q, hp, hq, e3, e4, hne, hbo, -, hrk, hfr, hha⟩ := newF_some hx;obtain rfl : p = i := by omega
   by_cases h0 : 0 ≤ x.rd
   ·obtain ⟨r, hr'⟩ := Int.eq_ofNat_of_zero_le h0
    rw [hr'] at hha;exact ih p r hha
   ·exfalso
    unfold hasM at hha;simp only [Bool.and_eq_true] at hha;have := hha.2;unfold hasR at this;rw [decide_eq_false h0] at this;simp at this
end
end Go.Proofs.YtjhjojklfdjmdaaGreat
