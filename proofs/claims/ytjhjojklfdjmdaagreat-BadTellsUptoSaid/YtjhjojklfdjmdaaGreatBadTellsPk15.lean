/- The code's own contract of layer 19: Find. Layer 19's example, walked. Layer 19's law BadTells, walked (where what comes in is of no more than 2^40 operations). Arguments opened: a history (a slice of slices of operations), and what the bound of an '..Upto' statement says of it. -/
import Derived.Test.YtjhjojklfdjmdaaGreatBadTellsPk14
import Derived.Test.YtjhjojklfdjmdaaGreatBadTellsPk11
import Derived.Test.YtjhjojklfdjmdaaGreatBadTellsPk5
import Derived.Test.YtjhjojklfdjmdaaGreatRows
import Derived.Test.YtjhjojklfdjmdaaGreatBadTellsPk1
import Derived.Deep.Slices
import Derived.OpenShut
import Derived.ChangeArms
import Derived.WalkKit
import Derived.ProofKit
set_option linter.unusedVariables false
namespace Go.Proofs.YtjhjojklfdjmdaaGreat
set_option maxRecDepth 100000
set_option maxHeartbeats 8000000
open Go.RowKit
theorem kinds_in {l z:Int} {i:Nat} (h:(kindsF l)[i]?=some z):z=1\/z=2\/z=3\/z=4\/z=5\/z=6\/z=7:=by
 have hm:=List.mem_of_getElem? h;unfold kindsF at hm
 split at hm
 ·simp only [List.mem_cons,List.not_mem_nil,or_false] at hm; omega
 ·split at hm
  ·simp only [List.mem_cons,List.not_mem_nil,or_false] at hm; omega
  ·split at hm
   ·simp only [List.mem_cons,List.not_mem_nil,or_false] at hm; omega
   ·cases hm
theorem kinds_prev {l z:Int} {i:Nat} (h:(kindsF l)[i]?=some z) (hz:6<=z):(2:Int)∈(kindsF l).take i/\(3:Int)∈(kindsF l).take i:=by
 unfold kindsF at h ⊢
 split at h
 ·rcases i with _ | _ | _ | _ | i <;> simp at h <;> omega
 ·rename_i h1
  split at h
  ·rcases i with _ | _ | _ | _ | _ | i <;> simp at h <;> omega
  ·rename_i h2
   split at h
   ·rename_i h3
    rw [if_neg h1,if_neg h2,if_pos h3];rcases i with _ | _ | _ | _ | _ | _ | i <;> simp at h ⊢ <;> omega
   ·cases h
theorem kinds_next {l z z':Int} {i:Nat} (h:(kindsF l)[i]?=some z) (h':(kindsF l)[i+1]?=some z'):(z<=5->z'<=6)/\(z=6->z'=7)/\z≠7:=by
 unfold kindsF at h h'
 split at h
 ·rename_i h1
  rw [if_pos h1] at h';rcases i with _ | _ | _ | _ | i <;> simp at h h' <;> omega
 ·rename_i h1
  rw [if_neg h1] at h'
  split at h
  ·rename_i h2
   rw [if_pos h2] at h';rcases i with _ | _ | _ | _ | _ | i <;> simp at h h' <;> omega
  ·rename_i h2
   rw [if_neg h2] at h'
   split at h
   ·rename_i h3
    rw [if_pos h3] at h';rcases i with _ | _ | _ | _ | _ | _ | i <;> simp at h h' <;> omega
   ·cases h
theorem sees6_all {f:Fac} (h:seesF f (coM f) 6=none):∀o,o<f.items.length->missB f o=false:=fun o ho=>by
 unfold seesF at h;have h1:=List.findSome?_eq_none_iff.1 h o (List.mem_range.2 ho);rw [if_pos rfl,Option.map_eq_none_iff] at h1;unfold missB;rw [h1]; rfl
theorem kinds_first {l z:Int} (h:(kindsF l)[0]?=some z):z=1:=by
 unfold kindsF at h
 split at h
 ·simp at h; omega
 ·split at h
  ·simp at h; omega
  ·split at h
   ·simp at h; omega
   ·cases h
def LkInv (f:Fac) (m:Nat) (z:Int) (R:Value) (U:World):Prop:=(z<=6->R=.slice none 0 0)/\(z=7->∃B,RdsAt f m B R U/\∀y∈ldF f m,missB f y.toNat=false)
def LkNext (f:Fac) (m:Nat) (z:Int) (R:Value) (U:World):Prop:=(z<=5->R=.slice none 0 0)/\(z=6->∃B,RdsAt f m B R U/\∀y∈ldF f m,missB f y.toNat=false)
theorem LkInv.later {f:Fac} {m:Nat} {z:Int} {R:Value} {U U':World} (h:LkInv f m z R U) (hb:Below U.heap.size U U'):LkInv f m z R U':=
 ⟨h.1,fun hz=>by
  obtain ⟨B,h1,h2⟩:=h.2 hz;exact ⟨B,h1.later hb,h2⟩⟩
theorem LkNext.inv {f:Fac} {m:Nat} {l z z':Int} {i:Nat} {R:Value} {U:World} (h:LkNext f m z R U) (hz:(kindsF l)[i]?=some z) (hz':(kindsF l)[i+1]?=some z'):LkInv f m z' R U:=by
 obtain ⟨h1,h2,h3⟩:=kinds_next hz hz';have h4:=kinds_in hz;refine ⟨fun h5=>h.1 ?_,fun h5=>h.2 ?_⟩
 ·omega
 ·omega
def RetLook (w0:World) (v:FV) (f:Fac) (A:Option Addr) (c s g:Nat) (z:Int) (U:World) (e:Ending) (U':World):Prop:=
 ∃(x:Wit) (R:Value),x=(kindF f z).getD (noneW z)/\e=.returned (.bool (kindF f z).isSome)/\Blk U' g 34 [.int .i64 x.ki,.int .i64 x.r,.int .i64 x.w1,.int .i64 x.w2,.int .i64 x.o,.slice none 0 0,.int .i64 x.fi,.int .i64 x.se]/\SrAt w0 v f A c s R U'/\But2 g s U U'/\(kindF f z=none->LkNext f v.m z R U')
section
variable {w0 U U' : World} {v : FV} {f : Fac} {A : Option Addr} {c s g : Nat} {R : Value} {e : Ending}
theorem RetLk.look {z:Int} {o:Option Wit} (h:RetLk g z o U e U') (ho:kindF f z=o) (hS:SrAt w0 v f A c s R U) (hne:g≠s) (h0:w0.heap.size<=g) (hz:z<=5) (hR:R=.slice none 0 0):RetLook w0 v f A c s g z U e U':=by
 obtain ⟨x,h1,h2,h3,h4⟩:=h;exact ⟨x,R,by rw [ho]; exact h1,by rw [ho]; exact h2,h3,hS.but h4 hne h0,But2.ofL h4,fun _=>⟨fun _=>hR,fun h6=>by omega⟩⟩
theorem RetLk6.look (h:RetLk6 w0 v f A c s g 6 U e U') (hE:EnvB v f):RetLook w0 v f A c s g 6 U e U':=by
 obtain ⟨x,R',h1,h2,h3,h4,h5,h6⟩:=h;have hk:kindF f 6=seesF f (coM f) 6:=by unfold kindF; rw [if_neg (by decide),if_neg (by decide),if_neg (by decide),if_neg (by decide),if_neg (by decide)]
 refine ⟨x,R',by rw [hk]; exact h1,by rw [hk]; exact h2,h3,h4,h5,fun hn=>⟨fun h7=>absurd h7 (by decide),fun _=>⟨_,h6,fun y hy=>?_⟩⟩⟩;rw [hk] at hn;obtain ⟨q,it,rfl,hq,-⟩:=(ldF_is hE.hx.nb v.m (by rw [hE.hil]; exact Nat.le_refl _)).inn y hy;rw [Int.toNat_natCast];exact sees6_all hn q (by rw [hE.hil]; exact hq)
theorem RetLk7.look (h:RetLk7 w0 v f A c s g 7 U e U'):RetLook w0 v f A c s g 7 U e U':=by
 obtain ⟨x,R',h1,h2,h3,h4,h5⟩:=h;have hk:kindF f 7=seesF f (coM f) 7:=by unfold kindF; rw [if_neg (by decide),if_neg (by decide),if_neg (by decide),if_neg (by decide),if_neg (by decide)]
 exact ⟨x,R',by rw [hk]; exact h1,by rw [hk]; exact h2,h3,h4,h5,fun _=>⟨fun h7=>absurd h7 (by decide),fun h7=>absurd h7 (by decide)⟩⟩
theorem look1 (hE:EnvB v f) (hS:SrAt w0 v f A c s R U) (hne:g≠s) (h0:w0.heap.size<=g) (hI:LkInv f v.m 1 R U) (hW:Blk U g 34 [.int .i64 1,.int .i64 (-1),.int .i64 (-1),.int .i64 (-1),.int .i64 (-1),.slice none 0 0,.int .i64 (-1),.int .i64 (-1)]) :
  Calls Tryz.prog 30 #[.pointer (some ⟨s,0,none⟩),.pointer (some ⟨g,0,none⟩)] U (RetLook w0 v f A c s g 1 U):=
 (bad_thin g U hE hS hW).mono fun _ _ h=>h.look (by unfold kindF; rw [if_pos rfl]) hS hne h0 (by decide) (hI.1 (by decide))
theorem look2 (hE:EnvB v f) (hS:SrAt w0 v f A c s R U) (hne:g≠s) (h0:w0.heap.size<=g) (hI:LkInv f v.m 2 R U) (hW:Blk U g 34 [.int .i64 2,.int .i64 (-1),.int .i64 (-1),.int .i64 (-1),.int .i64 (-1),.slice none 0 0,.int .i64 (-1),.int .i64 (-1)]) :
  Calls Tryz.prog 31 #[.pointer (some ⟨s,0,none⟩),.pointer (some ⟨g,0,none⟩)] U (RetLook w0 v f A c s g 2 U):=
 (bad_cyclicCO g U hE hS hW).mono fun _ _ h=>h.look (by unfold kindF; rw [if_neg (by decide),if_pos rfl,hE.hil]) hS hne h0 (by decide) (hI.1 (by decide))
theorem look3 (hE:EnvB v f) (hS:SrAt w0 v f A c s R U) (hne:g≠s) (h0:w0.heap.size<=g) (hI:LkInv f v.m 3 R U) (hW:Blk U g 34 [.int .i64 3,.int .i64 (-1),.int .i64 (-1),.int .i64 (-1),.int .i64 (-1),.slice none 0 0,.int .i64 (-1),.int .i64 (-1)]) :
  Calls Tryz.prog 32 #[.pointer (some ⟨s,0,none⟩),.pointer (some ⟨g,0,none⟩)] U (RetLook w0 v f A c s g 3 U):=
 (bad_coInit g U hE hS hW).mono fun _ _ h=>h.look (by unfold kindF; rw [if_neg (by decide),if_neg (by decide),if_pos rfl,hE.hil]; rfl) hS hne h0 (by decide) (hI.1 (by decide))
theorem look4 (hE:EnvB v f) (hS:SrAt w0 v f A c s R U) (hne:g≠s) (h0:w0.heap.size<=g) (hI:LkInv f v.m 4 R U) (hW:Blk U g 34 [.int .i64 4,.int .i64 (-1),.int .i64 (-1),.int .i64 (-1),.int .i64 (-1),.slice none 0 0,.int .i64 (-1),.int .i64 (-1)]) :
  Calls Tryz.prog 33 #[.pointer (some ⟨s,0,none⟩),.pointer (some ⟨g,0,none⟩)] U (RetLook w0 v f A c s g 4 U):=
 (bad_coRead g U hE hS hW).mono fun _ _ h=>h.look (by unfold kindF; rw [if_neg (by decide),if_neg (by decide),if_neg (by decide),if_pos rfl]) hS hne h0 (by decide) (hI.1 (by decide))
theorem look5 (hE:EnvB v f) (hS:SrAt w0 v f A c s R U) (hne:g≠s) (h0:w0.heap.size<=g) (hI:LkInv f v.m 5 R U) (hW:Blk U g 34 [.int .i64 5,.int .i64 (-1),.int .i64 (-1),.int .i64 (-1),.int .i64 (-1),.slice none 0 0,.int .i64 (-1),.int .i64 (-1)]) :
  Calls Tryz.prog 34 #[.pointer (some ⟨s,0,none⟩),.pointer (some ⟨g,0,none⟩)] U (RetLook w0 v f A c s g 5 U):=
 (bad_cyclicCF g U hE hS hW).mono fun _ _ h=>h.look (by unfold kindF; rw [if_neg (by decide),if_neg (by decide),if_neg (by decide),if_neg (by decide),if_pos rfl,hE.hil]) hS hne h0 (by decide) (hI.1 (by decide))
theorem look6 (hE:EnvB v f) (hS:SrAt w0 v f A c s R U) (hne:g≠s) (h0:w0.heap.size<=g) (hI:LkInv f v.m 6 R U) (hk:kindF f 2=none/\kindF f 3=none) (hW:Blk U g 34 [.int .i64 6,.int .i64 (-1),.int .i64 (-1),.int .i64 (-1),.int .i64 (-1),.slice none 0 0,.int .i64 (-1),.int .i64 (-1)]) :
  Calls Tryz.prog 35 #[.pointer (some ⟨s,0,none⟩),.pointer (some ⟨g,0,none⟩)] U (RetLook w0 v f A c s g 6 U):=by
 have hR:=hI.1 (by decide);subst hR;exact (bad_six g U hE hS hne h0 hk.1 hk.2 hW).mono fun _ _ h=>h.look hE
theorem look7 (hE:EnvB v f) (hS:SrAt w0 v f A c s R U) (hne:g≠s) (h0:w0.heap.size<=g) (hI:LkInv f v.m 7 R U) (hk:kindF f 2=none/\kindF f 3=none) (hW:Blk U g 34 [.int .i64 7,.int .i64 (-1),.int .i64 (-1),.int .i64 (-1),.int .i64 (-1),.slice none 0 0,.int .i64 (-1),.int .i64 (-1)]) :
  Calls Tryz.prog 36 #[.pointer (some ⟨s,0,none⟩),.pointer (some ⟨g,0,none⟩)] U (RetLook w0 v f A c s g 7 U):=by
 obtain ⟨B,h1,h2⟩:=hI.2 rfl;exact (bad_seven g B U hE hS h1 h2 hne h0 hk.1 hW).mono fun _ _ h=>h.look
end
theorem bad_Find (v:FV) (f:Fac) (l:Int) (w:World) (hF:FactsAt w v f) (hvm:v.m<64) (hw:WholeF f) (hx:SeenX v f) :
  Calls Tryz.prog 9 #[.agg #[.slice v.A v.n v.c,.slice v.B v.m v.d,.slice v.C v.k v.e],.int .i64 l] w (RetFind (findF f l) (findE f l) w):=by
 have hE:EnvB v f:=⟨hw,hvm,hx,hF.is.len⟩;have hEh:=Hd hE;obtain ⟨ks,hks⟩:∃k,k=kindsF l:=⟨_,rfl⟩;have hfF:Hid (findF f l=ks.findSome? (kindF f)):=Hd (by rw [hks]; rfl);have hfE:Hid (findE f l=if ks.isEmpty=true then 1 else if (findF f l).isSome=true then 0 else 8):=Hd (by rw [hks]; rfl);have hkl:ks.length<=6:=by rw [hks]; unfold kindsF; split; decide; split; decide; split; decide; decide
 have hCl:=Hd hE.good.len;have hpos:=Hd (fun h0=>rows_len_pos hE.good h0);have hB0:=Hd (FBox.new hF);obtain ⟨g,hg⟩:∃g,g=w.heap.size:=⟨_,rfl⟩;obtain ⟨W0,hW0⟩:∃W,W=w.alloc (.cells #[.slice v.A v.n v.c,.slice v.B v.m v.d,.slice v.C v.k v.e] 29):=⟨_,rfl⟩;rw [<-hW0,<-hg] at hB0;clear hF;obtain ⟨W1,hW1⟩:∃W,W=World.alloc W0 (.cells #[.int .i64 0,.int .i64 0,.int .i64 0,.int .i64 0,.int .i64 0,.slice none 0 0,.int .i64 0,.int .i64 0] 34):=⟨_,rfl⟩;obtain ⟨gr,hgr⟩:∃g,g=(World.heap W0).size:=⟨_,rfl⟩;have bW1:Below (World.heap W0).size W0 W1:=by rw [hW1]; exact bAl _ _
 have kR:=Hd (show Blk W1 gr 34 [.int .i64 0,.int .i64 0,.int .i64 0,.int .i64 0,.int .i64 0,.slice none 0 0,.int .i64 0,.int .i64 0] from by rw [hW1,hgr]; exact Blk.new W0 _ _);have hB1:=Hd (hB0.out.later bW1);have hgrw:=Hd (show w.heap.size<=gr from by rw [hgr]; exact hB0.out.o.size);clear hB0 bW1;have cK:=bad_Kinds l W1;rw [<-hks] at cK;replace cK:=Hd cK;replace hks:=Hd hks;have cC:=Hd (fun W hW=>cause_Co v f W hW hvm hw hx.nb);clear hw hx hE
 go_enter Tryz.func9,Tryz.ntmps9
 go_wp2_with (first | (rw [<-hW0,<-hg]; clear hW0 hg) | (rw [<-hW1,<-hgr]; clear hW1; replace hgr:=Hd hgr));refine cK.out.mono ?_; rintro e w2 ⟨A0,n,c0,rfl,hL,hnc,hcm,b2⟩;have hB:=Hd (hB1.out.later b2);have kQ1:=Hd (kR.out.below b2 kR.out.lt);have hln:=hL.len;have hn6:n<=6:=by omega
 replace hL:=Hd hL;replace hnc:=Hd hnc;clear b2 hB1 kR cK hkl;by_cases hn0:n=0
 ·have e0:((n:Int) == 0)=true:=by rw [hn0]; rfl
  have hke:ks=[]:=List.eq_nil_of_length_eq_zero (by omega);have hans:Hid (findF f l=none):=Hd (by rw [hfF.out,hke]; rfl);have here:Hid (findE f l=1):=Hd (by rw [hfE.out,hke]; rfl);replace hn0:=Hd hn0;replace hke:=Hd hke;replace hln:=Hd hln;have kQ:=kQ1.out;have bV:=hB.out.o;clear kQ1;obtain ⟨z0c,z1c,z2c,z3c,z4c,z5c,z6c,z7c⟩:=kQ.cells8;obtain ⟨z0fz,z1fz,z2fz,z3fz,z4fz,z5fz,z6fz,z7fz⟩:=kQ.frozen8;have kN:=kQ.put8 (.int .i64 0) (.int .i64 0) (.int .i64 0) (.int .i64 0) (.int .i64 0) (.slice none 0 0) (.int .i64 0) (.int .i64 0);have hbf:=Hd (bP8 bV (g:=gr) hgrw.out (.int .i64 0) (.int .i64 0) (.int .i64 0) (.int .i64 0) (.int .i64 0) (.slice none 0 0) (.int .i64 0) (.int .i64 0));have hdd:=Hd kN.cells8;clear kN kQ bV;go_wp2_with fail;obtain ⟨d0,d1,d2,d3,d4,d5,d6,d7⟩:=hdd.out;exact bodyPost_ret (v:=.tuple #[.agg #[.int .i64 0,.int .i64 0,.int .i64 0,.int .i64 0,.int .i64 0,.slice none 0 0,.int .i64 0,.int .i64 0],.int .i64 1]) (by simp [results,Tryz.results9,go_sem,d0,d1,d2,d3,d4,d5,d6,d7]) rfl ⟨zeroW,by rw [hans.out] <;> rfl,by rw [here.out] <;> rfl,hbf.out⟩
 ·have e0:((n:Int) == 0)=false:=by simp; omega
  have hne0:Hid (ks.isEmpty=false):=Hd (by cases h:ks with | nil=>rw [h] at hln; simp at hln; omega | cons _ _=>rfl);replace hn0:=Hd hn0;replace hln:=Hd hln;go_wp2_with fail;refine wp_region_tree (.flt 0 (.flt 1 (.two 2 4 (.flt 3 (.one 4 (.one 5 .done))) (.one 2 (.flt 3 (.one 5 .done)))))) (by kernel_rfl) (by kernel_rfl) (fun V hV=>?_);have hV':Below w2.heap.size w2 V:=by rw [hV.out]; exact (Below.refl _ _).drew
  have hBV:=Hd (hB.out.later hV');replace kQ1:=Hd (kQ1.out.below hV' kQ1.out.lt);replace hL:=Hd (hL.out.below hV');clear hV hV' hB;have bW:Below V.heap.size V V:=Below.refl _ _
  apply cut_four19 (F:=fun (s:Nat) (w9:World) (A:Option Addr) (c:Nat)=>SrAt w9 v f A c s (.slice none 0 0) w9/\V.heap.size<=s/\Below V.heap.size V w9)
  ·intro key
   have p0:=hBV.out.c0;have p1:=hBV.out.c1;have p2:=hBV.out.c2
   iterate 2
    refine wpTf (v:=?_) rfl (by rfl) (fun w' hw'=>?_) (fun K hK=>?_);rotate_left
    ·(go_simp; try with_reducible rfl)
    go_simp;refine hK _ ?_;clear hK K
   clear p0 p1 p2;refine wpPT_two rfl (by rfl) rfl (by rfl) (fun K hK=>?_) (fun K hK=>?_)
   ·skip
    go_simp;refine (cC.out V (hBV.out.later bW).f).mono ?_; rintro e v1 ⟨A,nA,c,rfl,rA,hcA,b⟩;obtain rfl:nA=v.m:=by rw [<-rA.len]; exact hCl.out
    replace bW:=bT2 bW b;refine hK _ _ bW ?_;clear hK K
    iterate 1
     refine wpTf (v:=?_) rfl (by rfl) (fun w' hw'=>?_) (fun K hK=>?_);rotate_left
     ·(go_simp; try with_reducible rfl)
     go_simp;refine hK _ ?_;clear hK K
    refine wpT1 rfl (by rfl) (fun K hK=>?_);have hf1:=(hBV.out.later b).f;clear b;go_simp;obtain ⟨M,hM⟩:∃M,M=(World.heap v1).size:=⟨_,rfl⟩;obtain ⟨v2,hw⟩:∃X:World,X=World.alloc v1 (.cells #[.slice none 0 0,.slice none 0 0,.slice none 0 0,.int .i64 0,.slice none 0 0,.slice none 0 0] 61):=⟨_,rfl⟩;rw [<-hw,<-hM];have b:Below (World.heap v1).size v1 v2:=by rw [hw]; exact bAl _ _
    have hUM:V.heap.size<=M:=by rw [hM]; exact bW.size
    replace bW:=bT2 bW b;refine hK _ _ bW ?_;clear hK K;have kM:=Hd (show Blk v2 M 61 [.slice none 0 0,.slice none 0 0,.slice none 0 0,.int .i64 0,.slice none 0 0,.slice none 0 0] from by rw [hw,hM]; exact Blk.new _ _ _);have hkp:=Hd (show ∀U',BelowB M v2 U'->FactsAt U' v f/\RowsAt U' A v.m (coM f) from fun U' hU'=>by
     have hb1:Below v1.heap.size v1 U':=b.trans (hU'.below b.size (Nat.le_of_eq hM.symm));exact ⟨hf1.below hb1,rA.below hb1⟩)
    clear hM hw b rA hf1;have f0:=kM.out.frozen 0;have f1:=kM.out.frozen 1;have f2:=kM.out.frozen 2;have f3:=kM.out.frozen 3;have f4:=kM.out.frozen 4;have f5:=kM.out.frozen 5;have g0:=kM.out.cell 0;have g1:=kM.out.cell 1;have g2:=kM.out.cell 2;have g3:=kM.out.cell 3;have g4:=kM.out.cell 4;have g5:=kM.out.cell 5;simp only [List.getElem?_cons_zero,List.getElem?_cons_succ] at g0 g1 g2 g3 g4 g5;refine wpT1 rfl (by rfl) (fun K hK=>?_);go_simp;obtain ⟨wz,hw⟩:∃X:World,X=(((((World.setCell v2 ⟨M,0,none⟩ (.slice v.A v.n v.c)).setCell ⟨M,1,none⟩ (.slice v.B v.m v.d)).setCell ⟨M,2,none⟩ (.slice v.C v.k v.e)).setCell ⟨M,3,none⟩ (.int .i64 (v.m:Int))).setCell ⟨M,4,none⟩ (.slice A v.m c)).setCell ⟨M,5,none⟩ (.slice none 0 0):=⟨_,rfl⟩;rw [<-hw];have kN:Blk wz M 61 [.slice v.A v.n v.c,.slice v.B v.m v.d,.slice v.C v.k v.e,.int .i64 (v.m:Int),.slice A v.m c,.slice none 0 0]:=by rw [hw]; exact (((((kM.out.set_ 0 _).set_ 1 _).set_ 2 _).set_ 3 _).set_ 4 _).set_ 5 _
    have hbz:BelowB M v2 wz:=by rw [hw]; exact ((((((BelowB.refl M v2).setG19 0 _).setG19 1 _).setG19 2 _).setG19 3 _).setG19 4 _).setG19 5 _
    have hSn:=Hd (show SrAt wz v f A c M (.slice none 0 0) wz from ⟨fun U' hU'=>hkp.out U' (hbz.trans hU'),hcA,BelowB.refl _ _,kN.lt,kN⟩);replace bW:Below V.heap.size V wz:=bW.trans (hbz.below bW.size hUM);refine hK _ _ bW ?_;clear hK K f0 f1 f2 f3 f4 f5 g0 g1 g2 g3 g4 g5 hw kM kN hbz hkp;refine wpTd (NoPanic.normal ?_);exact key M wz A c ⟨hSn.out,hUM,bW⟩
   ·skip
    go_simp;obtain ⟨M,hM⟩:∃M,M=(World.heap V).size:=⟨_,rfl⟩;obtain ⟨v3,hw⟩:∃X:World,X=World.alloc V (.cells #[.slice none 0 0,.slice none 0 0,.slice none 0 0,.int .i64 0,.slice none 0 0,.slice none 0 0] 61):=⟨_,rfl⟩;rw [<-hw,<-hM];have b:Below (World.heap V).size V v3:=by rw [hw]; exact bAl _ _
    have hUM:V.heap.size<=M:=by rw [hM]; exact bW.size
    replace bW:=bT2 bW b;refine hK _ _ bW ?_;clear hK K;have kM:=Hd (show Blk v3 M 61 [.slice none 0 0,.slice none 0 0,.slice none 0 0,.int .i64 0,.slice none 0 0,.slice none 0 0] from by rw [hw,hM]; exact Blk.new _ _ _);have hf1:=hBV.out.f;have hMV:=Hd (show M=V.heap.size from hM);have b3:=b;clear hM hw b;refine wpT1 rfl (by rfl) (fun K hK=>?_);go_simp;refine (cC.out v3 (hBV.out.later bW).f).mono ?_; rintro e v4 ⟨A,nA,c,rfl,rA,hcA,b⟩;obtain rfl:nA=v.m:=by rw [<-rA.len]; exact hCl.out
    replace bW:=bT2 bW b;refine hK _ _ bW ?_;clear hK K;have kM4:=kM.out.below b kM.out.lt;have hkp:=Hd (show ∀U',BelowB M v4 U'->FactsAt U' v f/\RowsAt U' A v.m (coM f) from fun U' hU'=>by
     have hb1:Below V.heap.size V U':=(bT2 b3 b).trans (hU'.below (bT2 b3 b).size (Nat.le_of_eq hMV.out.symm));exact ⟨hf1.below hb1,rA.keptB19 kM4 nou19 (rA.farC19 kM4 zero19 (fun xs hxs=>hpos.out (by have h1:=hCl.out; have h2:=List.length_pos_of_mem hxs; omega) xs hxs)) hU'⟩)
    replace kM:=Hd kM4;clear b b3 kM4 rA hf1 hMV
    iterate 1
     refine wpTf (v:=?_) rfl (by rfl) (fun w' hw'=>?_) (fun K hK=>?_);rotate_left
     ·(go_simp; try with_reducible rfl)
     go_simp;refine hK _ ?_;clear hK K
    have f0:=kM.out.frozen 0;have f1:=kM.out.frozen 1;have f2:=kM.out.frozen 2;have f3:=kM.out.frozen 3;have f4:=kM.out.frozen 4;have f5:=kM.out.frozen 5;have g0:=kM.out.cell 0;have g1:=kM.out.cell 1;have g2:=kM.out.cell 2;have g3:=kM.out.cell 3;have g4:=kM.out.cell 4;have g5:=kM.out.cell 5;simp only [List.getElem?_cons_zero,List.getElem?_cons_succ] at g0 g1 g2 g3 g4 g5;refine wpT1 rfl (by rfl) (fun K hK=>?_);go_simp;obtain ⟨wz,hw⟩:∃X:World,X=(((((World.setCell v4 ⟨M,0,none⟩ (.slice v.A v.n v.c)).setCell ⟨M,1,none⟩ (.slice v.B v.m v.d)).setCell ⟨M,2,none⟩ (.slice v.C v.k v.e)).setCell ⟨M,3,none⟩ (.int .i64 (v.m:Int))).setCell ⟨M,4,none⟩ (.slice A v.m c)).setCell ⟨M,5,none⟩ (.slice none 0 0):=⟨_,rfl⟩;rw [<-hw];have kN:Blk wz M 61 [.slice v.A v.n v.c,.slice v.B v.m v.d,.slice v.C v.k v.e,.int .i64 (v.m:Int),.slice A v.m c,.slice none 0 0]:=by rw [hw]; exact (((((kM.out.set_ 0 _).set_ 1 _).set_ 2 _).set_ 3 _).set_ 4 _).set_ 5 _
    have hbz:BelowB M v4 wz:=by rw [hw]; exact ((((((BelowB.refl M v4).setG19 0 _).setG19 1 _).setG19 2 _).setG19 3 _).setG19 4 _).setG19 5 _
    have hSn:=Hd (show SrAt wz v f A c M (.slice none 0 0) wz from ⟨fun U' hU'=>hkp.out U' (hbz.trans hU'),hcA,BelowB.refl _ _,kN.lt,kN⟩);replace bW:Below V.heap.size V wz:=bW.trans (hbz.below bW.size hUM);refine hK _ _ bW ?_;clear hK K f0 f1 f2 f3 f4 f5 g0 g1 g2 g3 g4 g5 hw kM kN hbz hkp;refine wpTd (NoPanic.normal ?_);exact key M wz A c ⟨hSn.out,hUM,bW⟩
  ·rintro s w9 A c ⟨hS9,hVs,b9⟩
   have hgs:=Hd (show gr≠s from by have h1:=kQ1.out.lt; omega);have hws:=Hd (show w.heap.size<=s from Nat.le_trans hBV.out.o.size hVs);have hLs:=Hd (show ∀ad,A0=some ad->ad.block≠s from fun ad e=>by
    obtain ⟨b,off,e2,hb,-⟩:=hL.out.2.2 (by have:=hn0.out; omega);rw [e] at e2
    cases e2
    show b≠s
    omega)
   have hbV:=Hd (bT2 hBV.out.o b9);replace kQ1:=Hd (kQ1.out.below b9 kQ1.out.lt);replace hL:=Hd (hL.out.below b9);have hsw:=Hd hS9.lt;replace hS9:=Hd hS9;have cLk:=Hd (bad_looks s w9);clear hVs b9 hBV cC hCl hpos bW;go_wp2_with fail;refine cLk.out.mono ?_;rintro e V2 ⟨gl,rfl,kL,bL⟩;have hS2:=Hd (hS9.out.later bL);have kQ2:=Hd (kQ1.out.below bL kQ1.out.lt);replace hL:=Hd (hL.out.below bL);replace hbV:=Hd (bT2 hbV.out bL);have hgl:=Hd (show gl≠s from fun e=>by
    have h1:=hS2.out.k;rw [<-e] at h1;have h2:=h1.symm.trans kL;injection h2 with h2;injection h2 with _ h3;exact absurd h3 (by decide))
   have hw9V:=Hd bL.size;replace kL:=Hd kL;clear bL cLk hS9 kQ1;go_wp2_with fail
   go_loopw [25] (fun t wr=>∃(i:Nat) (R:Value),i<=n/\t=.int .i64 (i:Int)/\Hid ((ks.take i).findSome? (kindF f)=none)/\Hid (SrAt w9 v f A c s R wr)/\Hid (BelowB s V2 wr)/\Hid (∀z,ks[i]?=some z->LkInv f v.m z R wr)) (fun t _=>n - (intOf t).toNat)
   case atStart=>exact ⟨0,.slice none 0 0,Nat.zero_le _,rfl,Hd rfl,hS2,Hd (BelowB.refl _ _),Hd (fun z hz=>by
    have h1:=kinds_first (by rw [<-hks.out]; exact hz);exact ⟨fun _=>rfl,fun h=>by omega⟩)⟩
   case round=>
    clear hS2;obtain ⟨i,R,hik,rfl,hno,hS,hb,hI⟩:=hrel;by_cases hlt:i<n
    ·have hlt':(i:Int)<(n:Int):=by omega
     have bi:0<=(i:Int)/\(i:Int)<(n:Int):=by omega
     obtain ⟨zb,zo,z,hzA,-,hz,-,k0⟩:=(hL.out.keptB hb.out hLs.out).int hlt;subst hzA;have hst:=findSome_step hz hno.out;have hzz:=kinds_in (by rw [<-hks.out]; exact hz);have hprv:=Hd (show 6<=z->kindF f 2=none/\kindF f 3=none from fun h6=>by
      have h1:=kinds_prev (l:=l) (i:=i) (by rw [<-hks.out]; exact hz) h6;rw [<-hks.out] at h1;exact ⟨List.findSome?_eq_none_iff.1 hno.out 2 h1.1,List.findSome?_eq_none_iff.1 hno.out 3 h1.2⟩)
     replace hlt:=Hd hlt;rcases hzz with rfl | rfl | rfl | rfl | rfl | rfl | rfl
     ·have cB:=Hd (bad_blank 1 wr)
      go_wp2_with fail;refine cB.out.mono ?_;rintro e w3 ⟨he,b3⟩;have he':e=.returned (.agg #[.int .i64 1,.int .i64 (-1),.int .i64 (-1),.int .i64 (-1),.int .i64 (-1),.slice none 0 0,.int .i64 (-1),.int .i64 (-1)]):=he;subst he';obtain ⟨W3,hW3⟩:∃W,W=w3.alloc (.cells #[.int .i64 1,.int .i64 (-1),.int .i64 (-1),.int .i64 (-1),.int .i64 (-1),.slice none 0 0,.int .i64 (-1),.int .i64 (-1)] 34):=⟨_,rfl⟩;obtain ⟨g3,hg3⟩:∃g,g=w3.heap.size:=⟨_,rfl⟩;have ba:Below w3.heap.size w3 W3:=by rw [hW3]; exact bAl _ _
      have kW3:=Hd (show Blk W3 g3 34 [.int .i64 1,.int .i64 (-1),.int .i64 (-1),.int .i64 (-1),.int .i64 (-1),.slice none 0 0,.int .i64 (-1),.int .i64 (-1)] from by rw [hW3,hg3]; exact Blk.new _ _ _);have hgV2:V2.heap.size<=g3:=by have h1:=hb.out.size; have h2:=b3.size; omega
      have hne:g3≠s:=by have h1:=hsw.out; have h2:=hw9V.out; omega
      have hg0:w9.heap.size<=g3:=by have h2:=hw9V.out; omega
      have hS3:=Hd ((hS.out.later b3).later ba);have hb3:=Hd ((hb.out.trans (BelowB.of b3)).trans (BelowB.of ba));have hI3:=Hd (((hI.out _ hz).later b3).later ba);have kLr:=Hd (hb3.out.blk kL.out hgl.out);clear he b3 ba cB k0 hS hb;have yk:=kLr.out.cell 0;simp only [lookVs,List.getElem?_cons_zero] at yk;have cK:=Hd (look1 hEh.out hS3.out hne hg0 hI3.out kW3.out);obtain ⟨an,han⟩:∃a,a=kindF f 1:=⟨_,rfl⟩;rw [<-han] at hst;replace hst:=Hd hst;have hiz:=Hd hz;have hne3:=hne;have hg03:=hg0;clear hz hI kW3 hne hg0;go_wp2_with (rw [<-hW3,<-hg3]; clear hW3; replace hg3:=Hd hg3);refine cK.out.mono ?_;rintro e w4 ⟨x,R',hx,rfl,kV,hS4,hb4,hnx⟩;rw [<-han] at hx hnx ⊢;have hbs:BelowB s V2 w4:=⟨hb4.os.trans hb3.out.os,hb4.tape.trans hb3.out.tape,hb4.output.trans hb3.out.output,Nat.le_trans hb3.out.size hb4.size,fun k hk hks=>(hb4.block k (Nat.lt_of_lt_of_le hk hb3.out.size) (by omega) hks).trans (hb3.out.block k hk hks)⟩;replace hbs:=Hd hbs;replace hS4:=Hd hS4;replace han:=Hd han;clear hb4 cK yk kLr hS3
      cases an with
      | none=>
       have hnx1:=Hd (hnx rfl);have hno1:=Hd (hst.out.1 rfl);have hI1:=Hd (show ∀z',ks[i+1]?=some z'->LkInv f v.m z' R' w4 from fun z' hz'=>by
        rw [hks.out] at hz';have h1:=hiz.out;rw [hks.out] at h1;exact hnx1.out.inv h1 hz')
       clear hx kV hnx hst;go_wp2_with fail;exact ⟨⟨i+1,R',by have:=hlt.out; omega,by go_num,hno1,hS4,hbs,hI1⟩,by have:=hlt.out; simp [intOf]; omega⟩
      | some y=>
       have hxy:x=y:=hx;subst hxy;have hff:=hst.out.2 _ rfl;have hans:Hid (findF f l=some x):=Hd (by rw [hfF.out]; exact hff);have here:Hid (findE f l=0):=Hd (by rw [hfE.out,hne0.out,hans.out]; rfl);have kQ:=hbs.out.blk kQ2.out hgs.out;have bV:=hbV.out.trans (hbs.out.below hbV.out.size hws.out);obtain ⟨z0x,z1x,z2x,z3x,z4x,z5x,z6x,z7x⟩:=kV.cells8;clear hx kV hnx hff hst;obtain ⟨z0c,z1c,z2c,z3c,z4c,z5c,z6c,z7c⟩:=kQ.cells8;obtain ⟨z0fz,z1fz,z2fz,z3fz,z4fz,z5fz,z6fz,z7fz⟩:=kQ.frozen8;have kN:=kQ.put8 (.int .i64 x.ki) (.int .i64 x.r) (.int .i64 x.w1) (.int .i64 x.w2) (.int .i64 x.o) (.slice none 0 0) (.int .i64 x.fi) (.int .i64 x.se);have hbf:=Hd (bP8 bV (g:=gr) hgrw.out (.int .i64 x.ki) (.int .i64 x.r) (.int .i64 x.w1) (.int .i64 x.w2) (.int .i64 x.o) (.slice none 0 0) (.int .i64 x.fi) (.int .i64 x.se));have hdd:=Hd kN.cells8;clear kN kQ bV;go_wp2_with fail;obtain ⟨d0,d1,d2,d3,d4,d5,d6,d7⟩:=hdd.out;exact bodyPost_ret (v:=.tuple #[.agg #[.int .i64 x.ki,.int .i64 x.r,.int .i64 x.w1,.int .i64 x.w2,.int .i64 x.o,.slice none 0 0,.int .i64 x.fi,.int .i64 x.se],.int .i64 0]) (by simp [results,Tryz.results9,go_sem,d0,d1,d2,d3,d4,d5,d6,d7]) rfl ⟨x,by rw [hans.out] <;> rfl,by rw [here.out] <;> rfl,hbf.out⟩
     ·have cB:=Hd (bad_blank 2 wr)
      go_wp2_with fail;refine cB.out.mono ?_;rintro e w3 ⟨he,b3⟩;have he':e=.returned (.agg #[.int .i64 2,.int .i64 (-1),.int .i64 (-1),.int .i64 (-1),.int .i64 (-1),.slice none 0 0,.int .i64 (-1),.int .i64 (-1)]):=he;subst he';obtain ⟨W3,hW3⟩:∃W,W=w3.alloc (.cells #[.int .i64 2,.int .i64 (-1),.int .i64 (-1),.int .i64 (-1),.int .i64 (-1),.slice none 0 0,.int .i64 (-1),.int .i64 (-1)] 34):=⟨_,rfl⟩;obtain ⟨g3,hg3⟩:∃g,g=w3.heap.size:=⟨_,rfl⟩;have ba:Below w3.heap.size w3 W3:=by rw [hW3]; exact bAl _ _
      have kW3:=Hd (show Blk W3 g3 34 [.int .i64 2,.int .i64 (-1),.int .i64 (-1),.int .i64 (-1),.int .i64 (-1),.slice none 0 0,.int .i64 (-1),.int .i64 (-1)] from by rw [hW3,hg3]; exact Blk.new _ _ _);have hgV2:V2.heap.size<=g3:=by have h1:=hb.out.size; have h2:=b3.size; omega
      have hne:g3≠s:=by have h1:=hsw.out; have h2:=hw9V.out; omega
      have hg0:w9.heap.size<=g3:=by have h2:=hw9V.out; omega
      have hS3:=Hd ((hS.out.later b3).later ba);have hb3:=Hd ((hb.out.trans (BelowB.of b3)).trans (BelowB.of ba));have hI3:=Hd (((hI.out _ hz).later b3).later ba);have kLr:=Hd (hb3.out.blk kL.out hgl.out);clear he b3 ba cB k0 hS hb;have yk:=kLr.out.cell 1;simp only [lookVs,List.getElem?_cons_zero,List.getElem?_cons_succ] at yk;have cK:=Hd (look2 hEh.out hS3.out hne hg0 hI3.out kW3.out);obtain ⟨an,han⟩:∃a,a=kindF f 2:=⟨_,rfl⟩;rw [<-han] at hst;replace hst:=Hd hst;have hiz:=Hd hz;have hne3:=hne;have hg03:=hg0;clear hz hI kW3 hne hg0;go_wp2_with (rw [<-hW3,<-hg3]; clear hW3; replace hg3:=Hd hg3);refine cK.out.mono ?_;rintro e w4 ⟨x,R',hx,rfl,kV,hS4,hb4,hnx⟩;rw [<-han] at hx hnx ⊢;have hbs:BelowB s V2 w4:=⟨hb4.os.trans hb3.out.os,hb4.tape.trans hb3.out.tape,hb4.output.trans hb3.out.output,Nat.le_trans hb3.out.size hb4.size,fun k hk hks=>(hb4.block k (Nat.lt_of_lt_of_le hk hb3.out.size) (by omega) hks).trans (hb3.out.block k hk hks)⟩;replace hbs:=Hd hbs;replace hS4:=Hd hS4;replace han:=Hd han;clear hb4 cK yk kLr hS3
      cases an with
      | none=>
       have hnx1:=Hd (hnx rfl);have hno1:=Hd (hst.out.1 rfl);have hI1:=Hd (show ∀z',ks[i+1]?=some z'->LkInv f v.m z' R' w4 from fun z' hz'=>by
        rw [hks.out] at hz';have h1:=hiz.out;rw [hks.out] at h1;exact hnx1.out.inv h1 hz')
       clear hx kV hnx hst;go_wp2_with fail;exact ⟨⟨i+1,R',by have:=hlt.out; omega,by go_num,hno1,hS4,hbs,hI1⟩,by have:=hlt.out; simp [intOf]; omega⟩
      | some y=>
       have hxy:x=y:=hx;subst hxy;have hff:=hst.out.2 _ rfl;have hans:Hid (findF f l=some x):=Hd (by rw [hfF.out]; exact hff);have here:Hid (findE f l=0):=Hd (by rw [hfE.out,hne0.out,hans.out]; rfl);have kQ:=hbs.out.blk kQ2.out hgs.out;have bV:=hbV.out.trans (hbs.out.below hbV.out.size hws.out);obtain ⟨z0x,z1x,z2x,z3x,z4x,z5x,z6x,z7x⟩:=kV.cells8;clear hx kV hnx hff hst;obtain ⟨z0c,z1c,z2c,z3c,z4c,z5c,z6c,z7c⟩:=kQ.cells8;obtain ⟨z0fz,z1fz,z2fz,z3fz,z4fz,z5fz,z6fz,z7fz⟩:=kQ.frozen8;have kN:=kQ.put8 (.int .i64 x.ki) (.int .i64 x.r) (.int .i64 x.w1) (.int .i64 x.w2) (.int .i64 x.o) (.slice none 0 0) (.int .i64 x.fi) (.int .i64 x.se);have hbf:=Hd (bP8 bV (g:=gr) hgrw.out (.int .i64 x.ki) (.int .i64 x.r) (.int .i64 x.w1) (.int .i64 x.w2) (.int .i64 x.o) (.slice none 0 0) (.int .i64 x.fi) (.int .i64 x.se));have hdd:=Hd kN.cells8;clear kN kQ bV;go_wp2_with fail;obtain ⟨d0,d1,d2,d3,d4,d5,d6,d7⟩:=hdd.out;exact bodyPost_ret (v:=.tuple #[.agg #[.int .i64 x.ki,.int .i64 x.r,.int .i64 x.w1,.int .i64 x.w2,.int .i64 x.o,.slice none 0 0,.int .i64 x.fi,.int .i64 x.se],.int .i64 0]) (by simp [results,Tryz.results9,go_sem,d0,d1,d2,d3,d4,d5,d6,d7]) rfl ⟨x,by rw [hans.out] <;> rfl,by rw [here.out] <;> rfl,hbf.out⟩
     ·have cB:=Hd (bad_blank 3 wr)
      go_wp2_with fail;refine cB.out.mono ?_;rintro e w3 ⟨he,b3⟩;have he':e=.returned (.agg #[.int .i64 3,.int .i64 (-1),.int .i64 (-1),.int .i64 (-1),.int .i64 (-1),.slice none 0 0,.int .i64 (-1),.int .i64 (-1)]):=he;subst he';obtain ⟨W3,hW3⟩:∃W,W=w3.alloc (.cells #[.int .i64 3,.int .i64 (-1),.int .i64 (-1),.int .i64 (-1),.int .i64 (-1),.slice none 0 0,.int .i64 (-1),.int .i64 (-1)] 34):=⟨_,rfl⟩;obtain ⟨g3,hg3⟩:∃g,g=w3.heap.size:=⟨_,rfl⟩;have ba:Below w3.heap.size w3 W3:=by rw [hW3]; exact bAl _ _
      have kW3:=Hd (show Blk W3 g3 34 [.int .i64 3,.int .i64 (-1),.int .i64 (-1),.int .i64 (-1),.int .i64 (-1),.slice none 0 0,.int .i64 (-1),.int .i64 (-1)] from by rw [hW3,hg3]; exact Blk.new _ _ _);have hgV2:V2.heap.size<=g3:=by have h1:=hb.out.size; have h2:=b3.size; omega
      have hne:g3≠s:=by have h1:=hsw.out; have h2:=hw9V.out; omega
      have hg0:w9.heap.size<=g3:=by have h2:=hw9V.out; omega
      have hS3:=Hd ((hS.out.later b3).later ba);have hb3:=Hd ((hb.out.trans (BelowB.of b3)).trans (BelowB.of ba));have hI3:=Hd (((hI.out _ hz).later b3).later ba);have kLr:=Hd (hb3.out.blk kL.out hgl.out);clear he b3 ba cB k0 hS hb;have yk:=kLr.out.cell 2;simp only [lookVs,List.getElem?_cons_zero,List.getElem?_cons_succ] at yk;have cK:=Hd (look3 hEh.out hS3.out hne hg0 hI3.out kW3.out);obtain ⟨an,han⟩:∃a,a=kindF f 3:=⟨_,rfl⟩;rw [<-han] at hst;replace hst:=Hd hst;have hiz:=Hd hz;have hne3:=hne;have hg03:=hg0;clear hz hI kW3 hne hg0;go_wp2_with (rw [<-hW3,<-hg3]; clear hW3; replace hg3:=Hd hg3);refine cK.out.mono ?_;rintro e w4 ⟨x,R',hx,rfl,kV,hS4,hb4,hnx⟩;rw [<-han] at hx hnx ⊢;have hbs:BelowB s V2 w4:=⟨hb4.os.trans hb3.out.os,hb4.tape.trans hb3.out.tape,hb4.output.trans hb3.out.output,Nat.le_trans hb3.out.size hb4.size,fun k hk hks=>(hb4.block k (Nat.lt_of_lt_of_le hk hb3.out.size) (by omega) hks).trans (hb3.out.block k hk hks)⟩;replace hbs:=Hd hbs;replace hS4:=Hd hS4;replace han:=Hd han;clear hb4 cK yk kLr hS3
      cases an with
      | none=>
       have hnx1:=Hd (hnx rfl);have hno1:=Hd (hst.out.1 rfl);have hI1:=Hd (show ∀z',ks[i+1]?=some z'->LkInv f v.m z' R' w4 from fun z' hz'=>by
        rw [hks.out] at hz';have h1:=hiz.out;rw [hks.out] at h1;exact hnx1.out.inv h1 hz')
       clear hx kV hnx hst;go_wp2_with fail;exact ⟨⟨i+1,R',by have:=hlt.out; omega,by go_num,hno1,hS4,hbs,hI1⟩,by have:=hlt.out; simp [intOf]; omega⟩
      | some y=>
       have hxy:x=y:=hx;subst hxy;have hff:=hst.out.2 _ rfl;have hans:Hid (findF f l=some x):=Hd (by rw [hfF.out]; exact hff);have here:Hid (findE f l=0):=Hd (by rw [hfE.out,hne0.out,hans.out]; rfl);have kQ:=hbs.out.blk kQ2.out hgs.out;have bV:=hbV.out.trans (hbs.out.below hbV.out.size hws.out);obtain ⟨z0x,z1x,z2x,z3x,z4x,z5x,z6x,z7x⟩:=kV.cells8;clear hx kV hnx hff hst;obtain ⟨z0c,z1c,z2c,z3c,z4c,z5c,z6c,z7c⟩:=kQ.cells8;obtain ⟨z0fz,z1fz,z2fz,z3fz,z4fz,z5fz,z6fz,z7fz⟩:=kQ.frozen8;have kN:=kQ.put8 (.int .i64 x.ki) (.int .i64 x.r) (.int .i64 x.w1) (.int .i64 x.w2) (.int .i64 x.o) (.slice none 0 0) (.int .i64 x.fi) (.int .i64 x.se);have hbf:=Hd (bP8 bV (g:=gr) hgrw.out (.int .i64 x.ki) (.int .i64 x.r) (.int .i64 x.w1) (.int .i64 x.w2) (.int .i64 x.o) (.slice none 0 0) (.int .i64 x.fi) (.int .i64 x.se));have hdd:=Hd kN.cells8;clear kN kQ bV;go_wp2_with fail;obtain ⟨d0,d1,d2,d3,d4,d5,d6,d7⟩:=hdd.out;exact bodyPost_ret (v:=.tuple #[.agg #[.int .i64 x.ki,.int .i64 x.r,.int .i64 x.w1,.int .i64 x.w2,.int .i64 x.o,.slice none 0 0,.int .i64 x.fi,.int .i64 x.se],.int .i64 0]) (by simp [results,Tryz.results9,go_sem,d0,d1,d2,d3,d4,d5,d6,d7]) rfl ⟨x,by rw [hans.out] <;> rfl,by rw [here.out] <;> rfl,hbf.out⟩
     ·have cB:=Hd (bad_blank 4 wr)
      go_wp2_with fail;refine cB.out.mono ?_;rintro e w3 ⟨he,b3⟩;have he':e=.returned (.agg #[.int .i64 4,.int .i64 (-1),.int .i64 (-1),.int .i64 (-1),.int .i64 (-1),.slice none 0 0,.int .i64 (-1),.int .i64 (-1)]):=he;subst he';obtain ⟨W3,hW3⟩:∃W,W=w3.alloc (.cells #[.int .i64 4,.int .i64 (-1),.int .i64 (-1),.int .i64 (-1),.int .i64 (-1),.slice none 0 0,.int .i64 (-1),.int .i64 (-1)] 34):=⟨_,rfl⟩;obtain ⟨g3,hg3⟩:∃g,g=w3.heap.size:=⟨_,rfl⟩;have ba:Below w3.heap.size w3 W3:=by rw [hW3]; exact bAl _ _
      have kW3:=Hd (show Blk W3 g3 34 [.int .i64 4,.int .i64 (-1),.int .i64 (-1),.int .i64 (-1),.int .i64 (-1),.slice none 0 0,.int .i64 (-1),.int .i64 (-1)] from by rw [hW3,hg3]; exact Blk.new _ _ _);have hgV2:V2.heap.size<=g3:=by have h1:=hb.out.size; have h2:=b3.size; omega
      have hne:g3≠s:=by have h1:=hsw.out; have h2:=hw9V.out; omega
      have hg0:w9.heap.size<=g3:=by have h2:=hw9V.out; omega
      have hS3:=Hd ((hS.out.later b3).later ba);have hb3:=Hd ((hb.out.trans (BelowB.of b3)).trans (BelowB.of ba));have hI3:=Hd (((hI.out _ hz).later b3).later ba);have kLr:=Hd (hb3.out.blk kL.out hgl.out);clear he b3 ba cB k0 hS hb;have yk:=kLr.out.cell 3;simp only [lookVs,List.getElem?_cons_zero,List.getElem?_cons_succ] at yk;have cK:=Hd (look4 hEh.out hS3.out hne hg0 hI3.out kW3.out);obtain ⟨an,han⟩:∃a,a=kindF f 4:=⟨_,rfl⟩;rw [<-han] at hst;replace hst:=Hd hst;have hiz:=Hd hz;have hne3:=hne;have hg03:=hg0;clear hz hI kW3 hne hg0;go_wp2_with (rw [<-hW3,<-hg3]; clear hW3; replace hg3:=Hd hg3);refine cK.out.mono ?_;rintro e w4 ⟨x,R',hx,rfl,kV,hS4,hb4,hnx⟩;rw [<-han] at hx hnx ⊢;have hbs:BelowB s V2 w4:=⟨hb4.os.trans hb3.out.os,hb4.tape.trans hb3.out.tape,hb4.output.trans hb3.out.output,Nat.le_trans hb3.out.size hb4.size,fun k hk hks=>(hb4.block k (Nat.lt_of_lt_of_le hk hb3.out.size) (by omega) hks).trans (hb3.out.block k hk hks)⟩;replace hbs:=Hd hbs;replace hS4:=Hd hS4;replace han:=Hd han;clear hb4 cK yk kLr hS3
      cases an with
      | none=>
       have hnx1:=Hd (hnx rfl);have hno1:=Hd (hst.out.1 rfl);have hI1:=Hd (show ∀z',ks[i+1]?=some z'->LkInv f v.m z' R' w4 from fun z' hz'=>by
        rw [hks.out] at hz';have h1:=hiz.out;rw [hks.out] at h1;exact hnx1.out.inv h1 hz')
       clear hx kV hnx hst;go_wp2_with fail;exact ⟨⟨i+1,R',by have:=hlt.out; omega,by go_num,hno1,hS4,hbs,hI1⟩,by have:=hlt.out; simp [intOf]; omega⟩
      | some y=>
       have hxy:x=y:=hx;subst hxy;have hff:=hst.out.2 _ rfl;have hans:Hid (findF f l=some x):=Hd (by rw [hfF.out]; exact hff);have here:Hid (findE f l=0):=Hd (by rw [hfE.out,hne0.out,hans.out]; rfl);have kQ:=hbs.out.blk kQ2.out hgs.out;have bV:=hbV.out.trans (hbs.out.below hbV.out.size hws.out);obtain ⟨z0x,z1x,z2x,z3x,z4x,z5x,z6x,z7x⟩:=kV.cells8;clear hx kV hnx hff hst;obtain ⟨z0c,z1c,z2c,z3c,z4c,z5c,z6c,z7c⟩:=kQ.cells8;obtain ⟨z0fz,z1fz,z2fz,z3fz,z4fz,z5fz,z6fz,z7fz⟩:=kQ.frozen8;have kN:=kQ.put8 (.int .i64 x.ki) (.int .i64 x.r) (.int .i64 x.w1) (.int .i64 x.w2) (.int .i64 x.o) (.slice none 0 0) (.int .i64 x.fi) (.int .i64 x.se);have hbf:=Hd (bP8 bV (g:=gr) hgrw.out (.int .i64 x.ki) (.int .i64 x.r) (.int .i64 x.w1) (.int .i64 x.w2) (.int .i64 x.o) (.slice none 0 0) (.int .i64 x.fi) (.int .i64 x.se));have hdd:=Hd kN.cells8;clear kN kQ bV;go_wp2_with fail;obtain ⟨d0,d1,d2,d3,d4,d5,d6,d7⟩:=hdd.out;exact bodyPost_ret (v:=.tuple #[.agg #[.int .i64 x.ki,.int .i64 x.r,.int .i64 x.w1,.int .i64 x.w2,.int .i64 x.o,.slice none 0 0,.int .i64 x.fi,.int .i64 x.se],.int .i64 0]) (by simp [results,Tryz.results9,go_sem,d0,d1,d2,d3,d4,d5,d6,d7]) rfl ⟨x,by rw [hans.out] <;> rfl,by rw [here.out] <;> rfl,hbf.out⟩
     ·have cB:=Hd (bad_blank 5 wr)
      go_wp2_with fail;refine cB.out.mono ?_;rintro e w3 ⟨he,b3⟩;have he':e=.returned (.agg #[.int .i64 5,.int .i64 (-1),.int .i64 (-1),.int .i64 (-1),.int .i64 (-1),.slice none 0 0,.int .i64 (-1),.int .i64 (-1)]):=he;subst he';obtain ⟨W3,hW3⟩:∃W,W=w3.alloc (.cells #[.int .i64 5,.int .i64 (-1),.int .i64 (-1),.int .i64 (-1),.int .i64 (-1),.slice none 0 0,.int .i64 (-1),.int .i64 (-1)] 34):=⟨_,rfl⟩;obtain ⟨g3,hg3⟩:∃g,g=w3.heap.size:=⟨_,rfl⟩;have ba:Below w3.heap.size w3 W3:=by rw [hW3]; exact bAl _ _
      have kW3:=Hd (show Blk W3 g3 34 [.int .i64 5,.int .i64 (-1),.int .i64 (-1),.int .i64 (-1),.int .i64 (-1),.slice none 0 0,.int .i64 (-1),.int .i64 (-1)] from by rw [hW3,hg3]; exact Blk.new _ _ _);have hgV2:V2.heap.size<=g3:=by have h1:=hb.out.size; have h2:=b3.size; omega
      have hne:g3≠s:=by have h1:=hsw.out; have h2:=hw9V.out; omega
      have hg0:w9.heap.size<=g3:=by have h2:=hw9V.out; omega
      have hS3:=Hd ((hS.out.later b3).later ba);have hb3:=Hd ((hb.out.trans (BelowB.of b3)).trans (BelowB.of ba));have hI3:=Hd (((hI.out _ hz).later b3).later ba);have kLr:=Hd (hb3.out.blk kL.out hgl.out);clear he b3 ba cB k0 hS hb;have yk:=kLr.out.cell 4;simp only [lookVs,List.getElem?_cons_zero,List.getElem?_cons_succ] at yk;have cK:=Hd (look5 hEh.out hS3.out hne hg0 hI3.out kW3.out);obtain ⟨an,han⟩:∃a,a=kindF f 5:=⟨_,rfl⟩;rw [<-han] at hst;replace hst:=Hd hst;have hiz:=Hd hz;have hne3:=hne;have hg03:=hg0;clear hz hI kW3 hne hg0;go_wp2_with (rw [<-hW3,<-hg3]; clear hW3; replace hg3:=Hd hg3);refine cK.out.mono ?_;rintro e w4 ⟨x,R',hx,rfl,kV,hS4,hb4,hnx⟩;rw [<-han] at hx hnx ⊢;have hbs:BelowB s V2 w4:=⟨hb4.os.trans hb3.out.os,hb4.tape.trans hb3.out.tape,hb4.output.trans hb3.out.output,Nat.le_trans hb3.out.size hb4.size,fun k hk hks=>(hb4.block k (Nat.lt_of_lt_of_le hk hb3.out.size) (by omega) hks).trans (hb3.out.block k hk hks)⟩;replace hbs:=Hd hbs;replace hS4:=Hd hS4;replace han:=Hd han;clear hb4 cK yk kLr hS3
      cases an with
      | none=>
       have hnx1:=Hd (hnx rfl);have hno1:=Hd (hst.out.1 rfl);have hI1:=Hd (show ∀z',ks[i+1]?=some z'->LkInv f v.m z' R' w4 from fun z' hz'=>by
        rw [hks.out] at hz';have h1:=hiz.out;rw [hks.out] at h1;exact hnx1.out.inv h1 hz')
       clear hx kV hnx hst;go_wp2_with fail;exact ⟨⟨i+1,R',by have:=hlt.out; omega,by go_num,hno1,hS4,hbs,hI1⟩,by have:=hlt.out; simp [intOf]; omega⟩
      | some y=>
       have hxy:x=y:=hx;subst hxy;have hff:=hst.out.2 _ rfl;have hans:Hid (findF f l=some x):=Hd (by rw [hfF.out]; exact hff);have here:Hid (findE f l=0):=Hd (by rw [hfE.out,hne0.out,hans.out]; rfl);have kQ:=hbs.out.blk kQ2.out hgs.out;have bV:=hbV.out.trans (hbs.out.below hbV.out.size hws.out);obtain ⟨z0x,z1x,z2x,z3x,z4x,z5x,z6x,z7x⟩:=kV.cells8;clear hx kV hnx hff hst;obtain ⟨z0c,z1c,z2c,z3c,z4c,z5c,z6c,z7c⟩:=kQ.cells8;obtain ⟨z0fz,z1fz,z2fz,z3fz,z4fz,z5fz,z6fz,z7fz⟩:=kQ.frozen8;have kN:=kQ.put8 (.int .i64 x.ki) (.int .i64 x.r) (.int .i64 x.w1) (.int .i64 x.w2) (.int .i64 x.o) (.slice none 0 0) (.int .i64 x.fi) (.int .i64 x.se);have hbf:=Hd (bP8 bV (g:=gr) hgrw.out (.int .i64 x.ki) (.int .i64 x.r) (.int .i64 x.w1) (.int .i64 x.w2) (.int .i64 x.o) (.slice none 0 0) (.int .i64 x.fi) (.int .i64 x.se));have hdd:=Hd kN.cells8;clear kN kQ bV;go_wp2_with fail;obtain ⟨d0,d1,d2,d3,d4,d5,d6,d7⟩:=hdd.out;exact bodyPost_ret (v:=.tuple #[.agg #[.int .i64 x.ki,.int .i64 x.r,.int .i64 x.w1,.int .i64 x.w2,.int .i64 x.o,.slice none 0 0,.int .i64 x.fi,.int .i64 x.se],.int .i64 0]) (by simp [results,Tryz.results9,go_sem,d0,d1,d2,d3,d4,d5,d6,d7]) rfl ⟨x,by rw [hans.out] <;> rfl,by rw [here.out] <;> rfl,hbf.out⟩
     ·have cB:=Hd (bad_blank 6 wr)
      go_wp2_with fail;refine cB.out.mono ?_;rintro e w3 ⟨he,b3⟩;have he':e=.returned (.agg #[.int .i64 6,.int .i64 (-1),.int .i64 (-1),.int .i64 (-1),.int .i64 (-1),.slice none 0 0,.int .i64 (-1),.int .i64 (-1)]):=he;subst he';obtain ⟨W3,hW3⟩:∃W,W=w3.alloc (.cells #[.int .i64 6,.int .i64 (-1),.int .i64 (-1),.int .i64 (-1),.int .i64 (-1),.slice none 0 0,.int .i64 (-1),.int .i64 (-1)] 34):=⟨_,rfl⟩;obtain ⟨g3,hg3⟩:∃g,g=w3.heap.size:=⟨_,rfl⟩;have ba:Below w3.heap.size w3 W3:=by rw [hW3]; exact bAl _ _
      have kW3:=Hd (show Blk W3 g3 34 [.int .i64 6,.int .i64 (-1),.int .i64 (-1),.int .i64 (-1),.int .i64 (-1),.slice none 0 0,.int .i64 (-1),.int .i64 (-1)] from by rw [hW3,hg3]; exact Blk.new _ _ _);have hgV2:V2.heap.size<=g3:=by have h1:=hb.out.size; have h2:=b3.size; omega
      have hne:g3≠s:=by have h1:=hsw.out; have h2:=hw9V.out; omega
      have hg0:w9.heap.size<=g3:=by have h2:=hw9V.out; omega
      have hS3:=Hd ((hS.out.later b3).later ba);have hb3:=Hd ((hb.out.trans (BelowB.of b3)).trans (BelowB.of ba));have hI3:=Hd (((hI.out _ hz).later b3).later ba);have kLr:=Hd (hb3.out.blk kL.out hgl.out);clear he b3 ba cB k0 hS hb;have yk:=kLr.out.cell 5;simp only [lookVs,List.getElem?_cons_zero,List.getElem?_cons_succ] at yk;have cK:=Hd (look6 hEh.out hS3.out hne hg0 hI3.out (hprv.out (by decide)) kW3.out);obtain ⟨an,han⟩:∃a,a=kindF f 6:=⟨_,rfl⟩;rw [<-han] at hst;replace hst:=Hd hst;have hiz:=Hd hz;have hne3:=hne;have hg03:=hg0;clear hz hI kW3 hne hg0;go_wp2_with (rw [<-hW3,<-hg3]; clear hW3; replace hg3:=Hd hg3);refine cK.out.mono ?_;rintro e w4 ⟨x,R',hx,rfl,kV,hS4,hb4,hnx⟩;rw [<-han] at hx hnx ⊢;have hbs:BelowB s V2 w4:=⟨hb4.os.trans hb3.out.os,hb4.tape.trans hb3.out.tape,hb4.output.trans hb3.out.output,Nat.le_trans hb3.out.size hb4.size,fun k hk hks=>(hb4.block k (Nat.lt_of_lt_of_le hk hb3.out.size) (by omega) hks).trans (hb3.out.block k hk hks)⟩;replace hbs:=Hd hbs;replace hS4:=Hd hS4;replace han:=Hd han;clear hb4 cK yk kLr hS3
      cases an with
      | none=>
       have hnx1:=Hd (hnx rfl);have hno1:=Hd (hst.out.1 rfl);have hI1:=Hd (show ∀z',ks[i+1]?=some z'->LkInv f v.m z' R' w4 from fun z' hz'=>by
        rw [hks.out] at hz';have h1:=hiz.out;rw [hks.out] at h1;exact hnx1.out.inv h1 hz')
       clear hx kV hnx hst;go_wp2_with fail;exact ⟨⟨i+1,R',by have:=hlt.out; omega,by go_num,hno1,hS4,hbs,hI1⟩,by have:=hlt.out; simp [intOf]; omega⟩
      | some y=>
       have hxy:x=y:=hx;subst hxy;have hff:=hst.out.2 _ rfl;have hans:Hid (findF f l=some x):=Hd (by rw [hfF.out]; exact hff);have here:Hid (findE f l=0):=Hd (by rw [hfE.out,hne0.out,hans.out]; rfl);have kQ:=hbs.out.blk kQ2.out hgs.out;have bV:=hbV.out.trans (hbs.out.below hbV.out.size hws.out);obtain ⟨z0x,z1x,z2x,z3x,z4x,z5x,z6x,z7x⟩:=kV.cells8;clear hx kV hnx hff hst;obtain ⟨z0c,z1c,z2c,z3c,z4c,z5c,z6c,z7c⟩:=kQ.cells8;obtain ⟨z0fz,z1fz,z2fz,z3fz,z4fz,z5fz,z6fz,z7fz⟩:=kQ.frozen8;have kN:=kQ.put8 (.int .i64 x.ki) (.int .i64 x.r) (.int .i64 x.w1) (.int .i64 x.w2) (.int .i64 x.o) (.slice none 0 0) (.int .i64 x.fi) (.int .i64 x.se);have hbf:=Hd (bP8 bV (g:=gr) hgrw.out (.int .i64 x.ki) (.int .i64 x.r) (.int .i64 x.w1) (.int .i64 x.w2) (.int .i64 x.o) (.slice none 0 0) (.int .i64 x.fi) (.int .i64 x.se));have hdd:=Hd kN.cells8;clear kN kQ bV;go_wp2_with fail;obtain ⟨d0,d1,d2,d3,d4,d5,d6,d7⟩:=hdd.out;exact bodyPost_ret (v:=.tuple #[.agg #[.int .i64 x.ki,.int .i64 x.r,.int .i64 x.w1,.int .i64 x.w2,.int .i64 x.o,.slice none 0 0,.int .i64 x.fi,.int .i64 x.se],.int .i64 0]) (by simp [results,Tryz.results9,go_sem,d0,d1,d2,d3,d4,d5,d6,d7]) rfl ⟨x,by rw [hans.out] <;> rfl,by rw [here.out] <;> rfl,hbf.out⟩
     ·have cB:=Hd (bad_blank 7 wr)
      go_wp2_with fail;refine cB.out.mono ?_;rintro e w3 ⟨he,b3⟩;have he':e=.returned (.agg #[.int .i64 7,.int .i64 (-1),.int .i64 (-1),.int .i64 (-1),.int .i64 (-1),.slice none 0 0,.int .i64 (-1),.int .i64 (-1)]):=he;subst he';obtain ⟨W3,hW3⟩:∃W,W=w3.alloc (.cells #[.int .i64 7,.int .i64 (-1),.int .i64 (-1),.int .i64 (-1),.int .i64 (-1),.slice none 0 0,.int .i64 (-1),.int .i64 (-1)] 34):=⟨_,rfl⟩;obtain ⟨g3,hg3⟩:∃g,g=w3.heap.size:=⟨_,rfl⟩;have ba:Below w3.heap.size w3 W3:=by rw [hW3]; exact bAl _ _
      have kW3:=Hd (show Blk W3 g3 34 [.int .i64 7,.int .i64 (-1),.int .i64 (-1),.int .i64 (-1),.int .i64 (-1),.slice none 0 0,.int .i64 (-1),.int .i64 (-1)] from by rw [hW3,hg3]; exact Blk.new _ _ _);have hgV2:V2.heap.size<=g3:=by have h1:=hb.out.size; have h2:=b3.size; omega
      have hne:g3≠s:=by have h1:=hsw.out; have h2:=hw9V.out; omega
      have hg0:w9.heap.size<=g3:=by have h2:=hw9V.out; omega
      have hS3:=Hd ((hS.out.later b3).later ba);have hb3:=Hd ((hb.out.trans (BelowB.of b3)).trans (BelowB.of ba));have hI3:=Hd (((hI.out _ hz).later b3).later ba);have kLr:=Hd (hb3.out.blk kL.out hgl.out);clear he b3 ba cB k0 hS hb;have yk:=kLr.out.cell 6;simp only [lookVs,List.getElem?_cons_zero,List.getElem?_cons_succ] at yk;have cK:=Hd (look7 hEh.out hS3.out hne hg0 hI3.out (hprv.out (by decide)) kW3.out);obtain ⟨an,han⟩:∃a,a=kindF f 7:=⟨_,rfl⟩;rw [<-han] at hst;replace hst:=Hd hst;have hiz:=Hd hz;have hne3:=hne;have hg03:=hg0;clear hz hI kW3 hne hg0;go_wp2_with (rw [<-hW3,<-hg3]; clear hW3; replace hg3:=Hd hg3);refine cK.out.mono ?_;rintro e w4 ⟨x,R',hx,rfl,kV,hS4,hb4,hnx⟩;rw [<-han] at hx hnx ⊢;have hbs:BelowB s V2 w4:=⟨hb4.os.trans hb3.out.os,hb4.tape.trans hb3.out.tape,hb4.output.trans hb3.out.output,Nat.le_trans hb3.out.size hb4.size,fun k hk hks=>(hb4.block k (Nat.lt_of_lt_of_le hk hb3.out.size) (by omega) hks).trans (hb3.out.block k hk hks)⟩;replace hbs:=Hd hbs;replace hS4:=Hd hS4;replace han:=Hd han;clear hb4 cK yk kLr hS3
      cases an with
      | none=>
       have hnx1:=Hd (hnx rfl);have hno1:=Hd (hst.out.1 rfl);have hI1:=Hd (show ∀z',ks[i+1]?=some z'->LkInv f v.m z' R' w4 from fun z' hz'=>by
        rw [hks.out] at hz';have h1:=hiz.out;rw [hks.out] at h1;exact hnx1.out.inv h1 hz')
       clear hx kV hnx hst;go_wp2_with fail;exact ⟨⟨i+1,R',by have:=hlt.out; omega,by go_num,hno1,hS4,hbs,hI1⟩,by have:=hlt.out; simp [intOf]; omega⟩
      | some y=>
       have hxy:x=y:=hx;subst hxy;have hff:=hst.out.2 _ rfl;have hans:Hid (findF f l=some x):=Hd (by rw [hfF.out]; exact hff);have here:Hid (findE f l=0):=Hd (by rw [hfE.out,hne0.out,hans.out]; rfl);have kQ:=hbs.out.blk kQ2.out hgs.out;have bV:=hbV.out.trans (hbs.out.below hbV.out.size hws.out);obtain ⟨z0x,z1x,z2x,z3x,z4x,z5x,z6x,z7x⟩:=kV.cells8;clear hx kV hnx hff hst;obtain ⟨z0c,z1c,z2c,z3c,z4c,z5c,z6c,z7c⟩:=kQ.cells8;obtain ⟨z0fz,z1fz,z2fz,z3fz,z4fz,z5fz,z6fz,z7fz⟩:=kQ.frozen8;have kN:=kQ.put8 (.int .i64 x.ki) (.int .i64 x.r) (.int .i64 x.w1) (.int .i64 x.w2) (.int .i64 x.o) (.slice none 0 0) (.int .i64 x.fi) (.int .i64 x.se);have hbf:=Hd (bP8 bV (g:=gr) hgrw.out (.int .i64 x.ki) (.int .i64 x.r) (.int .i64 x.w1) (.int .i64 x.w2) (.int .i64 x.o) (.slice none 0 0) (.int .i64 x.fi) (.int .i64 x.se));have hdd:=Hd kN.cells8;clear kN kQ bV;go_wp2_with fail;obtain ⟨d0,d1,d2,d3,d4,d5,d6,d7⟩:=hdd.out;exact bodyPost_ret (v:=.tuple #[.agg #[.int .i64 x.ki,.int .i64 x.r,.int .i64 x.w1,.int .i64 x.w2,.int .i64 x.o,.slice none 0 0,.int .i64 x.fi,.int .i64 x.se],.int .i64 0]) (by simp [results,Tryz.results9,go_sem,d0,d1,d2,d3,d4,d5,d6,d7]) rfl ⟨x,by rw [hans.out] <;> rfl,by rw [here.out] <;> rfl,hbf.out⟩
    ·have hlt':¬(i:Int)<(n:Int):=by omega
     have hans:Hid (findF f l=none):=Hd (by
      rw [hfF.out];have h:=hno.out
      rwa [List.take_of_length_le (by have:=hln.out; omega)] at h)
     have here:Hid (findE f l=8):=Hd (by rw [hfE.out,hne0.out,hans.out]; rfl);have kQ:=hb.out.blk kQ2.out hgs.out;have bV:=hbV.out.trans (hb.out.below hbV.out.size hws.out);clear hlt;obtain ⟨z0c,z1c,z2c,z3c,z4c,z5c,z6c,z7c⟩:=kQ.cells8;obtain ⟨z0fz,z1fz,z2fz,z3fz,z4fz,z5fz,z6fz,z7fz⟩:=kQ.frozen8;have kN:=kQ.put8 (.int .i64 0) (.int .i64 0) (.int .i64 0) (.int .i64 0) (.int .i64 0) (.slice none 0 0) (.int .i64 0) (.int .i64 0);have hbf:=Hd (bP8 bV (g:=gr) hgrw.out (.int .i64 0) (.int .i64 0) (.int .i64 0) (.int .i64 0) (.int .i64 0) (.slice none 0 0) (.int .i64 0) (.int .i64 0));have hdd:=Hd kN.cells8;clear kN kQ bV;go_wp2_with fail;obtain ⟨d0,d1,d2,d3,d4,d5,d6,d7⟩:=hdd.out;exact bodyPost_ret (v:=.tuple #[.agg #[.int .i64 0,.int .i64 0,.int .i64 0,.int .i64 0,.int .i64 0,.slice none 0 0,.int .i64 0,.int .i64 0],.int .i64 8]) (by simp [results,Tryz.results9,go_sem,d0,d1,d2,d3,d4,d5,d6,d7]) rfl ⟨zeroW,by rw [hans.out] <;> rfl,by rw [here.out] <;> rfl,hbf.out⟩
theorem law19_awake (w:World):Calls Tryz.prog 7 #[] w (RetBool true w):=by
 obtain ⟨Z1,hZ1⟩:∃W,W=World.alloc w (.cells #[.bool false,.string ⟨#[120]⟩,.int .i64 1] 49):=⟨_,rfl⟩;obtain ⟨a1,ha1⟩:∃g,g=(World.heap w).size:=⟨_,rfl⟩;obtain ⟨Z2,hZ2⟩:∃W,W=World.alloc Z1 (.cells #[.slice (some ⟨a1,0,none⟩) 1 1] 46):=⟨_,rfl⟩;obtain ⟨a2,ha2⟩:∃g,g=(World.heap Z1).size:=⟨_,rfl⟩;have b1:Below (World.heap w).size w Z1:=by rw [hZ1]; exact bAl _ _
 have b2:Below (World.heap Z1).size Z1 Z2:=by rw [hZ2]; exact bAl _ _
 have hH:HistAt Z2 (some ⟨a2,0,none⟩) 1 [ex19A]:=by
  have h1:Blk Z1 a1 49 (cellsO ex19A):=by rw [hZ1,ha1]; exact Blk.new _ _ _
  have h2:Blk Z2 a2 46 [.slice (some ⟨a1,0,none⟩) 1 1]:=by rw [hZ2,ha2]; exact Blk.new Z1 _ _
  exact HistAt.one h2 (OpsAt.of_blk (h1.below b2 h1.lt) ok19A rfl) (by omega) (by omega)
 have c1:=Hd (ref11_Of _ 1 1 [ex19A] Z2 hH (by omega) (by decide));have bZ:=Hd (bT2 b1 b2);clear hH b1 b2
 go_enter Tryz.func7,Tryz.ntmps7
 go_wp2_with (first | (rw [<-hZ1,<-ha1]; clear hZ1; replace ha1:=Hd ha1) | (rw [<-hZ2,<-ha2]; clear hZ2; replace ha2:=Hd ha2));refine c1.out.mono ?_; rintro e w3 ⟨x,rfl,hG,b3⟩;replace hG:=hG ex19a_facts.1;rw [ex19a_facts.2] at hG;rw [ex19a_facts.1];have hxm:x.m=1:=by rw [<-hG.is.len]; rfl
 obtain ⟨V1,hV1⟩:∃W,W=World.alloc w3 (.cells #[.slice x.A x.n x.c,.slice x.B x.m x.d,.slice x.C x.k x.e] 29):=⟨_,rfl⟩;obtain ⟨g1,hg1⟩:∃g,g=(World.heap w3).size:=⟨_,rfl⟩;have bb3:=bT2 bZ.out b3;have hB:=Hd ((FBox.new hG).from_ bb3);rw [<-hV1,<-hg1] at hB;have cF:=fun W hW=>bad_Find x fa19 1 W hW (by omega) ex19a_whole (seenX_hist hW ex19a_facts.2.symm (by omega));rw [ex19a_find.1,ex19a_find.2] at cF;replace cF:=Hd (fun W hW=>(cF W hW).mono (R':=fun e w'=>e=.returned (.tuple #[.agg #[.int .i64 1,.int .i64 0,.int .i64 (-1),.int .i64 (-1),.int .i64 (-1),.slice none 0 0,.int .i64 (-1),.int .i64 (-1)],.int .i64 0])/\Below W.heap.size W w') (fun e w' ⟨y,hy,he,hb⟩=>by subst hy; exact ⟨he,hb⟩));replace hxm:=Hd hxm;clear b3 c1 hG bZ bb3;have p0:=hB.out.c0;have p1:=hB.out.c1;have p2:=hB.out.c2;go_wp2_with (rw [<-hV1,<-hg1]; clear hV1; replace hg1:=Hd hg1);refine (cF.out V1 hB.out.f).mono ?_; rintro e w4 ⟨rfl,b⟩;obtain ⟨W5,hW5⟩:∃W,W=World.alloc w4 (.cells #[.int .i64 1,.int .i64 0,.int .i64 (-1),.int .i64 (-1),.int .i64 (-1),.slice none 0 0,.int .i64 (-1),.int .i64 (-1)] 34):=⟨_,rfl⟩;obtain ⟨ga,hga⟩:∃g,g=(World.heap w4).size:=⟨_,rfl⟩;have bW5:Below (World.heap w4).size w4 W5:=by rw [hW5]; exact bAl _ _
 have kA:=Hd (show Blk W5 ga 34 [.int .i64 1,.int .i64 0,.int .i64 (-1),.int .i64 (-1),.int .i64 (-1),.slice none 0 0,.int .i64 (-1),.int .i64 (-1)] from by rw [hW5,hga]; exact Blk.new w4 _ _);have hO:=Hd (bT2 (bT2 hB.out.o b) bW5);clear p0 p1 p2 b bW5 hB cF hxm;obtain ⟨Z1,hZ1⟩:∃W,W=World.alloc W5 (.cells #[.bool false,.string ⟨#[120]⟩,.int .i64 0] 49):=⟨_,rfl⟩;obtain ⟨a1,ha1⟩:∃g,g=(World.heap W5).size:=⟨_,rfl⟩;obtain ⟨Z2,hZ2⟩:∃W,W=World.alloc Z1 (.cells #[.slice (some ⟨a1,0,none⟩) 1 1] 46):=⟨_,rfl⟩;obtain ⟨a2,ha2⟩:∃g,g=(World.heap Z1).size:=⟨_,rfl⟩;have b1:Below (World.heap W5).size W5 Z1:=by rw [hZ1]; exact bAl _ _
 have b2:Below (World.heap Z1).size Z1 Z2:=by rw [hZ2]; exact bAl _ _
 have hH:HistAt Z2 (some ⟨a2,0,none⟩) 1 [ex19B]:=by
  have h1:Blk Z1 a1 49 (cellsO ex19B):=by rw [hZ1,ha1]; exact Blk.new _ _ _
  have h2:Blk Z2 a2 46 [.slice (some ⟨a1,0,none⟩) 1 1]:=by rw [hZ2,ha2]; exact Blk.new Z1 _ _
  exact HistAt.one h2 (OpsAt.of_blk (h1.below b2 h1.lt) ok19B rfl) (by omega) (by omega)
 have c1:=Hd (ref11_Of _ 1 1 [ex19B] Z2 hH (by omega) (by decide));have bZ:=Hd (bT2 b1 b2);clear hH b1 b2;go_wp2_with (first | (rw [<-hW5,<-hga]; clear hW5; replace hga:=Hd hga) | (rw [<-hZ1,<-ha1]; clear hZ1; replace ha1:=Hd ha1) | (rw [<-hZ2,<-ha2]; clear hZ2; replace ha2:=Hd ha2));refine c1.out.mono ?_; rintro e w3 ⟨z,rfl,hG,b3⟩;replace hG:=hG ex19b_facts.1;rw [ex19b_facts.2] at hG;rw [ex19b_facts.1];have hxm:z.m=1:=by rw [<-hG.is.len]; rfl
 obtain ⟨V2,hV2⟩:∃W,W=World.alloc w3 (.cells #[.slice z.A z.n z.c,.slice z.B z.m z.d,.slice z.C z.k z.e] 29):=⟨_,rfl⟩;obtain ⟨g2,hg2⟩:∃g,g=(World.heap w3).size:=⟨_,rfl⟩;have bb3:=bT2 bZ.out b3;have hB:=Hd ((FBox.new hG).from_ (bT2 hO.out bb3));rw [<-hV2,<-hg2] at hB;have hBA:Below W5.heap.size W5 V2:=by rw [hV2]; exact bT2 bb3 (bAl _ _)
 replace kA:=Hd (kA.out.below hBA kA.out.lt);have cF:=fun W hW=>bad_Find z fb19 3 W hW (by omega) ex19b_whole (seenX_hist hW ex19b_facts.2.symm (by omega));have cG:=fun W hW=>bad_Find z fb19 0 W hW (by omega) ex19b_whole (seenX_hist hW ex19b_facts.2.symm (by omega));rw [ex19b_find.1,ex19b_find.2.1] at cF;rw [ex19b_find.2.2.1,ex19b_find.2.2.2] at cG;replace cF:=Hd cF;replace cG:=Hd cG;replace hxm:=Hd hxm;clear b3 c1 hG bZ bb3 hO hBA;have p0:=hB.out.c0;have p1:=hB.out.c1;have p2:=hB.out.c2;go_wp2_with (rw [<-hV2,<-hg2]; clear hV2; replace hg2:=Hd hg2);refine (cF.out V2 hB.out.f).mono ?_; rintro e w6 ⟨y,hy,rfl,b⟩;replace hy:=Hd True.intro;obtain ⟨W7,hW7⟩:∃W,W=World.alloc w6 (.cells #[.int .i64 y.ki,.int .i64 y.r,.int .i64 y.w1,.int .i64 y.w2,.int .i64 y.o,.slice none 0 0,.int .i64 y.fi,.int .i64 y.se] 34):=⟨_,rfl⟩;obtain ⟨gb,hgb⟩:∃g,g=(World.heap w6).size:=⟨_,rfl⟩;have bW7:Below (World.heap w6).size w6 W7:=by rw [hW7]; exact bAl _ _
 have kB:=Hd (show Blk W7 gb 34 [.int .i64 y.ki,.int .i64 y.r,.int .i64 y.w1,.int .i64 y.w2,.int .i64 y.o,.slice none 0 0,.int .i64 y.fi,.int .i64 y.se] from by rw [hW7,hgb]; exact Blk.new w6 _ _);replace hB:=Hd ((hB.out.later b).later bW7);replace kA:=Hd ((kA.out.below b kA.out.lt).below bW7 (kA.out.below b kA.out.lt).lt);clear p0 p1 p2 b bW7 cF;have p0:=hB.out.c0;have p1:=hB.out.c1;have p2:=hB.out.c2;go_wp2_with (rw [<-hW7,<-hgb]; clear hW7; replace hgb:=Hd hgb);refine (cG.out W7 hB.out.f).mono ?_; rintro e w8 ⟨y2,hy2,rfl,b⟩;replace hy2:=Hd True.intro;obtain ⟨W9,hW9⟩:∃W,W=World.alloc w8 (.cells #[.int .i64 y2.ki,.int .i64 y2.r,.int .i64 y2.w1,.int .i64 y2.w2,.int .i64 y2.o,.slice none 0 0,.int .i64 y2.fi,.int .i64 y2.se] 34):=⟨_,rfl⟩;obtain ⟨gc,hgc⟩:∃g,g=(World.heap w8).size:=⟨_,rfl⟩;have bW9:Below (World.heap w8).size w8 W9:=by rw [hW9]; exact bAl _ _
 have kC:=Hd (show Blk W9 gc 34 [.int .i64 y2.ki,.int .i64 y2.r,.int .i64 y2.w1,.int .i64 y2.w2,.int .i64 y2.o,.slice none 0 0,.int .i64 y2.fi,.int .i64 y2.se] from by rw [hW9,hgc]; exact Blk.new w8 _ _);replace hB:=Hd ((hB.out.later b).later bW9);replace kA:=Hd ((kA.out.below b kA.out.lt).below bW9 (kA.out.below b kA.out.lt).lt);clear p0 p1 p2 b bW9 cG;obtain ⟨z0a,z1a,z2a,z3a,z4a,z5a,z6a,z7a⟩:=kA.out.cells8;go_wp2_with (rw [<-hW9,<-hgc]; clear hW9; replace hgc:=Hd hgc);go_ret;exact ⟨rfl,hB.out.o⟩
theorem law19_BadTells (A:Option Addr) (n c:Nat) (l:Int) (hs:List (List OpT)) (w:World) (hX:HistAt w A n hs) (hnc:n<=c) (hc:c<=1099511627776) (hF:(allO hs).length<=1099511627776) :
  Calls Tryz.prog 3 #[.slice A n c,.int .i64 l] w (RetBool true w):=by
 have hXl:=Hd hX.len;have cS:=Hd (ref6_Small A n c 12 hs w hX (by omega) (by omega));replace hX:=Hd hX
 cases hsa:smallL hs 12 with
 | false=>
  rw [hsa] at cS;clear hsa
  go_enter Tryz.func3,Tryz.ntmps3
  go_wp2_with fail;refine cS.out.mono ?_; rintro e w1 ⟨rfl,b1⟩;go_wp2_with fail;refine (law19_awake w1).mono ?_; rintro e w9 ⟨rfl,b9⟩;go_wp2_with fail;go_ret;exact ⟨rfl,bT2 b1 b9⟩
 | true=>
  rw [hsa] at cS;obtain ⟨hnx,hFx,hnm8⟩:=smallL_says hsa;rw [hXl.out] at hnx;replace hnm8:=Hd hnm8;clear hsa
  go_enter Tryz.func3,Tryz.ntmps3
  go_wp2_with fail;refine cS.out.mono ?_; rintro e w1 ⟨rfl,b1⟩;replace hX:=Hd (hX.out.below b1);have c1:=Hd (ref11_Of A n c hs w1 hX.out (by omega) (by omega));go_wp2_with fail;refine c1.out.mono ?_; rintro e w3 ⟨x,rfl,hG,b3⟩;obtain ⟨V,hV⟩:∃W,W=w3.alloc (.cells #[.slice x.A x.n x.c,.slice x.B x.m x.d,.slice x.C x.k x.e] 29):=⟨_,rfl⟩;obtain ⟨g,hg⟩:∃g,g=w3.heap.size:=⟨_,rfl⟩;have bV:Below w3.heap.size w3 V:=by rw [hV]; exact (Below.refl _ _).alloc (Nat.le_refl _) _
  cases hok:okO11 hs with
  | false=>
   have bb:=Hd (bT2 (bT2 b1 b3) bV);clear hG b1 b3 bV hok c1 cS;go_wp2_with (rw [<-hV,<-hg]; clear hV; replace hg:=Hd hg);refine (law19_awake V).mono ?_; rintro e w9 ⟨rfl,b9⟩;go_wp2_with fail;go_ret;exact ⟨rfl,bT2 bb.out b9⟩
  | true=>
   obtain ⟨f,hf⟩:∃f:Fac,f=fillF (facO hs):=⟨_,rfl⟩;have hGf:=hG hok;rw [<-hf] at hGf;have hw:WholeF f:=by rw [hf]; exact fillF_whole _
   have hff:f.frm=fromF f.items:=by rw [hf]; rfl
   have hm30:x.m<=12:=by
    rw [<-hGf.is.len,hf]
    show (hisF hs).2.length<=12
    rw [hisF_len]; omega
   have hB:=Hd ((FBox.new hGf).from_ (bT2 b1 b3));rw [<-hV,<-hg] at hB;replace hX:=Hd ((hX.out.below b3).below bV);replace hok:=Hd hok;replace hf:=Hd hf;clear hG hGf b1 b3 bV c1 cS;clear hX;obtain ⟨y,hy⟩:∃y,y=(findF f l).getD zeroW:=⟨_,rfl⟩;obtain ⟨er,her⟩:∃r,r=findE f l:=⟨_,rfl⟩;have cA:=fun W hW=>bad_Find x f l W hW (by omega) hw (seenX_hist hW hf.out (by omega));have cB:=fun W hW=>ref19_Find x f l W hW (by omega) hw;rw [<-her] at cA cB;unfold RetFind at cA cB;rw [<-hy] at cA cB;replace cA:=Hd cA;replace cB:=Hd cB;replace hw:=Hd hw;replace hy:=Hd hy;replace her:=Hd her;have p0:=hB.out.c0;have p1:=hB.out.c1;have p2:=hB.out.c2;go_wp2_with (rw [<-hV,<-hg]; clear hV; replace hg:=Hd hg);refine (cA.out V hB.out.f).mono ?_; rintro e w4 ⟨z,rfl,rfl,b⟩;obtain ⟨W5,hW5⟩:∃W,W=World.alloc w4 (.cells #[.int .i64 z.ki,.int .i64 z.r,.int .i64 z.w1,.int .i64 z.w2,.int .i64 z.o,.slice none 0 0,.int .i64 z.fi,.int .i64 z.se] 34):=⟨_,rfl⟩;obtain ⟨ga,hga⟩:∃g,g=(World.heap w4).size:=⟨_,rfl⟩;have bW5:Below (World.heap w4).size w4 W5:=by rw [hW5]; exact bAl _ _
   have kA:=Hd (show Blk W5 ga 34 [.int .i64 z.ki,.int .i64 z.r,.int .i64 z.w1,.int .i64 z.w2,.int .i64 z.o,.slice none 0 0,.int .i64 z.fi,.int .i64 z.se] from by rw [hW5,hga]; exact Blk.new w4 _ _);replace hB:=Hd ((hB.out.later b).later bW5);clear p0 p1 p2 b bW5 cA;have p0:=hB.out.c0;have p1:=hB.out.c1;have p2:=hB.out.c2;go_wp2_with (rw [<-hW5,<-hga]; clear hW5; replace hga:=Hd hga);refine (cB.out W5 hB.out.f).mono ?_; rintro e w6 ⟨z2,rfl,rfl,b⟩;obtain ⟨W7,hW7⟩:∃W,W=World.alloc w6 (.cells #[.int .i64 z2.ki,.int .i64 z2.r,.int .i64 z2.w1,.int .i64 z2.w2,.int .i64 z2.o,.slice none 0 0,.int .i64 z2.fi,.int .i64 z2.se] 34):=⟨_,rfl⟩;obtain ⟨gb,hgb⟩:∃g,g=(World.heap w6).size:=⟨_,rfl⟩;have bW7:Below (World.heap w6).size w6 W7:=by rw [hW7]; exact bAl _ _
   have kB:=Hd (show Blk W7 gb 34 [.int .i64 z2.ki,.int .i64 z2.r,.int .i64 z2.w1,.int .i64 z2.w2,.int .i64 z2.o,.slice none 0 0,.int .i64 z2.fi,.int .i64 z2.se] from by rw [hW7,hgb]; exact Blk.new w6 _ _);replace hB:=Hd ((hB.out.later b).later bW7);replace kA:=Hd ((kA.out.below b kA.out.lt).below bW7 (kA.out.below b kA.out.lt).lt);clear p0 p1 p2 b bW7 cB;go_wp2_with (rw [<-hW7,<-hgb]; clear hW7; replace hgb:=Hd hgb);refine (law19_awake W7).mono ?_; rintro e w8 ⟨rfl,b⟩;replace hB:=Hd (hB.out.later b);replace kA:=Hd (kA.out.below b kA.out.lt);replace kB:=Hd (kB.out.below b kB.out.lt);clear b;obtain ⟨z0a,z1a,z2a,z3a,z4a,z5a,z6a,z7a⟩:=kA.out.cells8;obtain ⟨z0b,z1b,z2b,z3b,z4b,z5b,z6b,z7b⟩:=kB.out.cells8;have cC:=Hd (ref19_Core z2 z2 none none 0 0 0 0 w8 rfl rfl rfl rfl rfl);go_wp2_with fail;refine cC.out.mono ?_; rintro e w9 ⟨rfl,b⟩;replace hB:=Hd (hB.out.later b);replace kA:=Hd (kA.out.below b kA.out.lt);replace kB:=Hd (kB.out.below b kB.out.lt);clear b z0a z1a z2a z3a z4a z5a z6a z7a z0b z1b z2b z3b z4b z5b z6b z7b cC;obtain ⟨z0a,z1a,z2a,z3a,z4a,z5a,z6a,z7a⟩:=kA.out.cells8;obtain ⟨z0b,z1b,z2b,z3b,z4b,z5b,z6b,z7b⟩:=kB.out.cells8;have e1:(z2.fi == z2.fi)=true:=by simp
   have e2:(z2.se == z2.se)=true:=by simp
   have e3:(er == er)=true:=by simp
   have cK:=Hd (bad_Kinds l w9);go_wp2_with fail;refine cK.out.mono ?_; rintro e v1 ⟨A1,n1,c1,rfl,hL1,hn1,hc1,b⟩;replace hB:=Hd (hB.out.later b);have cK2:=Hd (ref19_Kinds l v1);replace hL1:=Hd hL1;clear b z0a z1a z2a z3a z4a z5a z6a z7a z0b z1b z2b z3b z4b z5b z6b z7b cK;go_wp2_with fail;refine cK2.out.mono ?_; rintro e v2 ⟨A2,n2,c2,rfl,hL2,hn2,hc2,b⟩;have cI:=ref2_IntsL A1 A2 n1 c1 n2 c2 _ _ v2 (hL1.out.below b) hL2 (by omega) (by omega);rw [show decide (kindsF l=kindsF l)=true from decide_eq_true rfl] at cI;replace cI:=Hd cI;replace hB:=Hd (hB.out.later b);clear b hL1 hL2 cK2;go_wp2_with fail;refine cI.out.mono ?_; rintro e v3 ⟨rfl,q,rfl⟩;have bb:=Hd (bT2 hB.out.o (bDN (Below.refl v2.heap.size v2) q));go_wp2_with fail;go_ret;exact ⟨rfl,bb.out⟩
end Go.Proofs.YtjhjojklfdjmdaaGreat

namespace Go.Proofs.YtjhjojklfdjmdaaGreat
set_option maxRecDepth 100000
set_option maxHeartbeats 8000000
open Go.RowKit Go.ChangeShapes Go.WideShapes Go.Deep

theorem bulk_append {H:Type} (l r:List (DataW H)):Rows.uptoBulkAll (l ++ r)=Rows.uptoBulkAll l+Rows.uptoBulkAll r:=by
 induction l with
 | nil=>simp [Rows.uptoBulkAll]
 | cons x l ih=>rw [List.cons_append,Rows.uptoBulkAll,Rows.uptoBulkAll,ih]; omega
theorem bulk_pos {H:Type} (d:DataW H):1<=Rows.uptoBulk d:=by
 cases d with
 | lit l=>cases l <;> simp [Rows.uptoBulk]
 | nil=>simp [Rows.uptoBulk]
 | ptr d=>simp [Rows.uptoBulk]
 | slice elems spare=>simp [Rows.uptoBulk]
 | agg parts=>simp [Rows.uptoBulk]
 | iface t d=>simp [Rows.uptoBulk]
 | map entries=>simp [Rows.uptoBulk]
 | held h=>simp [Rows.uptoBulk]
theorem bulk_len {H:Type} (l:List (DataW H)):l.length<=Rows.uptoBulkAll l:=by
 induction l with
 | nil=>simp
 | cons x r ih=>have:=bulk_pos x; rw [Rows.uptoBulkAll,List.length_cons]; omega
theorem bulk_slice {H:Type} (a b:List (DataW H)):Rows.uptoBulk (.slice a b)=Rows.uptoBulkAll a+Rows.uptoBulkAll b+1:=by rw [Rows.uptoBulk]
theorem addr_plus (b off j:Nat):(⟨b,off,none⟩:Addr).add j=⟨b,off+j,none⟩:=by unfold Addr.add; split <;> simp_all

section
variable {H : Type} {enc : TypeId × Value → H} {P : Program} {w : World} {base : Nat} {held : Bool}
theorem open_ops {t e:TypeId} {f0 f1 f2:Field} {fuel:Nat} {A:Option Addr} {len cap:Nat} {x:DataW H × List MemPlace} (ht:P.underlying t=some (.slice e)) (he:P.underlying e=some (.struct #[f0,f1,f2])) (ce:P.cellsOf e=3)
  (o0:f0.offset=0) (o1:f1.offset=1) (o2:f2.offset=2) (k0:P.cellsOf f0.type=1) (k1:P.cellsOf f1.type=1) (k2:P.cellsOf f2.type=1)
  (u0:P.underlying f0.type=some .bool) (u1:P.underlying f1.type=some .string) (u2:P.underlying f2.type=some (.int .i64))
  (h:DataW.trod enc P w base (fun _=>true) held fuel t [.slice A len cap]=some x):∃os,OpsAt w A len os/\len<=cap/\cap<=9223372036854775807/\cap<=Rows.uptoBulk x.1:=by
 rcases open_slice ht h with ⟨hcs,hx⟩ | ⟨⟨b,off,spot⟩,l,c,m,n,D,Pl,hcs,hb,hl,hm,hmm,hx,hel⟩
 ·injection hcs with hcs
  injection hcs with h1 h2 h3;subst h1 h2 h3;exact ⟨[],OpsAt.nil _ _,by omega,by omega,by omega⟩
 ·injection hcs with hcs
  injection hcs with h1 h2 h3;subst h1 h2 h3;rw [if_pos rfl] at hmm;subst hmm;have hbulk:m<=Rows.uptoBulk x.1:=by
   rw [hx,bulk_slice];have:=bulk_len ((List.range len).map D);have:=bulk_len ((List.range (m - len)).map fun j=>D (len+j));simp only [List.length_map,List.length_range] at *
   omega
  have hmm:m<=9223372036854775807:=by unfold maxLen at hm; omega
  have hat:∀k,k<len->∃o:OpT,((-9223372036854775808<=o.2.2/\o.2.2<9223372036854775808)/\o.2.1.size<=9223372036854775807) ∧
    w.cell? ((⟨b,off,spot⟩:Addr).add (k * 3))=some (.bool o.1)/\w.cell? (((⟨b,off,spot⟩:Addr).add (k * 3)).add 1)=some (.string o.2.1)/\w.cell? (((⟨b,off,spot⟩:Addr).add (k * 3)).add 2)=some (.int .i64 o.2.2):=by
   intro k hk;obtain ⟨cs',hc,ht'⟩:=hel k (by omega);rw [ce] at hc;obtain ⟨_,hcl,hcat⟩:=World.cells?_some hc;obtain ⟨xs,m',_,_,_,hxl,hf⟩:=DataW.trod_struct he ht'
   match cs',hcl with
   | [p,q,r],_=>
    match xs,hxl with
    | [y0,y1,y2],_=>
     have f0':=hf 0 f0 rfl;have f1':=hf 1 f1 rfl;have f2':=hf 2 f2 rfl;rw [o0,k0] at f0';rw [o1,k1] at f1';rw [o2,k2] at f2';simp at f0' f1' f2';obtain ⟨bv,e0,_⟩:=DataW.trod_bool u0 f0';obtain ⟨sv,e1,_,ws⟩:=DataW.trod_string u1 f1';obtain ⟨iv,e2,_,wi⟩:=DataW.trod_int u2 f2';injection e0 with e0;injection e1 with e1;injection e2 with e2;subst e0; subst e1; subst e2;have c0:=hcat 0 (by omega);have c1:=hcat 1 (by omega);have c2:=hcat 2 (by omega);have hz:∀a:Addr,a.add 0=a:=fun a=>by obtain ⟨b,o,s⟩:=a; unfold Addr.add; split <;> simp_all
     rw [hz] at c0;have hb:=bounds_i64 wi;exact ⟨(bv,sv,iv),⟨⟨hb.1,by have:=hb.2; show iv<_; omega⟩,by unfold maxLen at ws; exact ws⟩,by simpa using c0,by simpa using c1,by simpa using c2⟩
  by_cases h0:len=0
  ·subst h0
   exact ⟨[],OpsAt.nil _ _,by omega,hmm,hbulk⟩
  ·obtain ⟨_,_,hc0,_,_⟩:=hat 0 (by omega)
   have hspot:spot=none:=by
    have h:=World.cell?_spot hc0
    cases spot with
    | none=>rfl
    | some s=>unfold Addr.add at h; simp at h
   subst hspot;have hblt:b<w.heap.size:=by
    have:=World.block_lt_of_cell? w _ hc0
    rwa [addr_plus] at this
   have hall:∀k,k<=len->∃os:List OpT,os.length=k/\OkO os/\∀(j:Nat) (u:Value),(cellsO os)[j]?=some u->w.cell? ⟨b,off+j,none⟩=some u:=by
    intro k
    induction k with
    | zero=>exact fun _=>⟨[],rfl,fun o h=>by simp at h,fun j u h=>by simp [cellsO] at h⟩
    | succ k ih=>
     intro hk;obtain ⟨os,p1,p2,p3⟩:=ih (by omega);obtain ⟨o,hok,c0,c1,c2⟩:=hat k (by omega);rw [addr_plus] at c0 c1 c2;rw [addr_plus] at c1 c2;refine ⟨os ++ [o],by simp [p1],okO_append p2 (fun o' h=>by rw [List.mem_singleton.1 h]; exact hok),fun j u hj=>?_⟩;rw [cellsO_append] at hj;rcases Nat.lt_or_ge j (cellsO os).length with hlt | hge
     ·rw [List.getElem?_append_left hlt] at hj; exact p3 j u hj
     ·rw [List.getElem?_append_right hge] at hj
      have hlk:(cellsO os).length=k * 3:=by rw [cellsO_len,p1]
      obtain ⟨r,rfl⟩:∃r,j=k * 3+r:=⟨j - k * 3,by omega⟩;rw [hlk,Nat.add_sub_cancel_left] at hj
      match r,hj with
      | 0,hj=>
       have:u=.bool o.1:=by simpa [cellsO] using hj.symm
       rw [this]; exact c0
      | 1,hj=>
       have:u=.string o.2.1:=by simpa [cellsO] using hj.symm
       rw [this,<-Nat.add_assoc]; exact c1
      | 2,hj=>
       have:u=.int .i64 o.2.2:=by simpa [cellsO] using hj.symm
       rw [this,<-Nat.add_assoc]; exact c2
      | r+3,hj=>simp [cellsO] at hj
   obtain ⟨os,p1,p2,p3⟩:=hall len (Nat.le_refl _);exact ⟨os,⟨p1,p2,fun _=>⟨b,off,rfl,hblt,p3⟩⟩,hl,hmm,hbulk⟩
theorem open_hist {th t e:TypeId} {f0 f1 f2:Field} {fuel:Nat} {v:Value} {x:DataW H × List MemPlace} (hth:P.underlying th=some (.slice t)) (ct:P.cellsOf t=1) (ht:P.underlying t=some (.slice e)) (he:P.underlying e=some (.struct #[f0,f1,f2])) (ce:P.cellsOf e=3)
  (o0:f0.offset=0) (o1:f1.offset=1) (o2:f2.offset=2) (k0:P.cellsOf f0.type=1) (k1:P.cellsOf f1.type=1) (k2:P.cellsOf f2.type=1)
  (u0:P.underlying f0.type=some .bool) (u1:P.underlying f1.type=some .string) (u2:P.underlying f2.type=some (.int .i64))
  (h:DataW.trod enc P w base (fun _=>true) held fuel th [v]=some x):∃A len cap hs,v=.slice A len cap/\HistAt w A len hs/\len<=cap/\cap<=9223372036854775807/\cap<=Rows.uptoBulk x.1/\(allO hs).length<=Rows.uptoBulk x.1:=by
 rcases open_slice1 hth ct h with ⟨hcs,hx⟩ | ⟨⟨b,off,spot⟩,len,cap,m,n,V,D,Pl,hcs,hb,hl,hm,hmm,hx,hel⟩
 ·injection hcs with hcs
  exact ⟨none,0,0,[],hcs,HistAt.nil _ _,by omega,by omega,by omega,by simp [allO]⟩
 ·injection hcs with hcs
  rw [if_pos rfl] at hmm;subst hmm;have hmm:m<=9223372036854775807:=by unfold maxLen at hm; omega
  have hbulk:m<=Rows.uptoBulk x.1/\Rows.uptoBulkAll ((List.range len).map D)<=Rows.uptoBulk x.1:=by
   rw [hx,bulk_slice];have:=bulk_len ((List.range len).map D);have:=bulk_len ((List.range (m - len)).map fun j=>D (len+j));simp only [List.length_map,List.length_range] at *
   omega
  have hat:∀k,k<len->∃os,SessV w (V k) os/\os.length<=Rows.uptoBulk (D k):=by
   intro k hk;obtain ⟨_,hk2⟩:=hel k (by omega);obtain ⟨A',n',c',e'⟩:∃A' n' c',V k=.slice A' n' c':=by
    rcases open_slice ht hk2 with ⟨hcs,_⟩ | ⟨a,l,c,m,n,D,Pl,hcs,_⟩
    ·injection hcs with hcs; exact ⟨_,_,_,hcs⟩
    ·injection hcs with hcs; exact ⟨_,_,_,hcs⟩
   rw [e'] at hk2;obtain ⟨os,h1,h2,h3,h4⟩:=open_ops ht he ce o0 o1 o2 k0 k1 k2 u0 u1 u2 hk2;exact ⟨os,⟨A',n',c',e',h2,by omega,h1⟩,by rw [h1.len]; exact Nat.le_trans h2 h4⟩
  by_cases h0:len=0
  ·subst h0
   exact ⟨_,0,m,[],hcs,HistAt.nil _ _,by omega,hmm,hbulk.1,by simp [allO]⟩
  ·have hc0:=(hel 0 (by omega)).1
   have hspot:spot=none:=by
    have h:=World.cell?_spot hc0
    cases spot with
    | none=>rfl
    | some s=>unfold Addr.add at h; simp at h
   subst hspot;have hblt:b<w.heap.size:=by
    have:=World.block_lt_of_cell? w _ hc0
    rwa [addr_plus] at this
   have hall:∀k,k<=len->∃hs:List (List OpT),hs.length=k/\(∀(i:Nat) (v:Value) (os:List OpT),((List.range k).map V)[i]?=some v->hs[i]?=some os->SessV w v os)/\(allO hs).length<=Rows.uptoBulkAll ((List.range k).map D):=by
    intro k
    induction k with
    | zero=>exact fun _=>⟨[],rfl,fun i v os h=>by simp at h,by simp [allO]⟩
    | succ k ih=>
     intro hk;obtain ⟨hs,p1,p2,p3⟩:=ih (by omega);obtain ⟨os,q1,q2⟩:=hat k (by omega);refine ⟨hs ++ [os],by simp [p1],fun i v o hv ho=>?_,?_⟩
     ·rw [List.range_succ,List.map_append] at hv
      rcases Nat.lt_or_ge i k with hlt | hge
      ·rw [List.getElem?_append_left (by simpa using hlt)] at hv
       rw [List.getElem?_append_left (by omega)] at ho;exact p2 i v o hv ho
      ·rw [List.getElem?_append_right (by simpa using hge)] at hv
       rw [List.getElem?_append_right (by omega)] at ho;have hv':=List.mem_of_getElem? hv;have ho':=List.mem_of_getElem? ho;simp at hv' ho';subst hv'; subst ho';exact q1
     ·rw [allO_append,List.range_succ,List.map_append,bulk_append,List.length_append]
      have e1:(allO [os]).length=os.length:=by simp [allO]
      have e2:Rows.uptoBulkAll (List.map D [k])=Rows.uptoBulk (D k):=by simp [Rows.uptoBulkAll]
      omega
   obtain ⟨hs,p1,p2,p3⟩:=hall len (Nat.le_refl _);refine ⟨_,len,m,hs,hcs,⟨(List.range len).map V,⟨by simp,fun _=>⟨b,off,rfl,hblt,fun j u hu=>?_⟩⟩,by simp [p1],p2⟩,hl,hmm,hbulk.1,by omega⟩;have hj:j<len:=by have:=(List.getElem?_eq_some_iff.1 hu).1; simpa using this
   rw [List.getElem?_map,List.getElem?_range hj,Option.map_some] at hu;have h1:=(hel j (by omega)).1;rw [addr_plus] at h1;rw [h1]; exact hu
end
end Go.Proofs.YtjhjojklfdjmdaaGreat
