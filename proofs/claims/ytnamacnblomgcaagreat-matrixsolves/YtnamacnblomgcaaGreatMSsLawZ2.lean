/-
  What the text behind the last one leans on, part 2.
-/
import Derived.Deep.QuietTactic
import Derived.BigQuiet
import Derived.Deep.RegionWith
import Derived.Deep.RegionHeld3
import Derived.Deep.AppendLies
import Derived.Deep.DeepCutAuto
import Derived.BigRegion
import Derived.Laws.AppendOwn
import Derived.Deep.LoopGhost
import Derived.Test.YtnamacnblomgcaaGreatRows
import Derived.ProofKit
import Derived.OpenShut
import Derived.Deep.SlicePairs
import Derived.Handy
import Derived.Test.YtnamacnblomgcaaGreatMSsLawZ1
set_option maxRecDepth 20000
set_option maxHeartbeats 40000000
namespace Go.Proofs.YtnamacnblomgcaaGreat
namespace Dm
open Go.RowKit
open Lm (hide aal aaa)
def sg(ng:Bool)(x:Int):Int:=if ng then -x else x
def Wh(w:World)(ng:Bool)(ao:Option Addr)(cap:Nat)(rs:List Int)(z:Int):Prop:=Got w ao cap rs (z.natAbs:Int)/\ng=decide (z<0)
theorem Wh.sl{w:World}{ng:Bool}{ao:Option Addr}{cap:Nat}{rs:List Int}{z:Int}(h:Wh w ng ao cap rs z):Sl w (.slice ao rs.length cap) rs:=h.1.sl
theorem Wh.below{w w':World}{ng:Bool}{ao:Option Addr}{cap:Nat}{rs:List Int}{z:Int}(h:Wh w ng ao cap rs z)(hb:Below w.heap.size w w'):Wh w' ng ao cap rs z:=⟨h.1.below hb,h.2⟩
theorem Wh.worth{w:World}{ng:Bool}{ao:Option Addr}{cap:Nat}{rs:List Int}{z:Int}(h:Wh w ng ao cap rs z):sg ng (Dm.val rs)=z:=by
 rw[h.1.val,h.2,sg];by_cases hz:z<0
 ·simp[hz];omega
 ·simp[hz];omega
theorem Wh.of{w:World}{ao:Option Addr}{cap:Nat}{rs:List Int}{x:Int}(ng:Bool)(h:Got w ao cap rs x):Wh w (ng&&decide (0<rs.length)) ao cap rs (sg ng x):=by
 have h0:0<=x:=by rw[<-h.val];exact(aac h.canon.1).1
 have hz:=ac3 h.canon;rw[h.val]at hz;have hl:rs = []↔rs.length=0:=List.length_eq_zero_iff.symm;cases ng with
 |false=>
  refine⟨?_,?_⟩
  ·have e:((sg false x).natAbs:Int)=x:=by simp[sg];omega
   rw[e];exact h
  ·simp[sg];omega
 |true=>
  refine⟨?_,?_⟩
  ·have e:((sg true x).natAbs:Int)=x:=by simp[sg];omega
   rw[e];exact h
  ·have e3:(0<rs.length)↔(sg true x<0):=by
    simp only[sg,if_true];constructor
    ·intro h1;have:x≠0:=fun h2=>by have:=hl.1 (hz.1 h2);omega
     omega
    ·intro h1;have:rs.length≠0:=fun h2=>by have:=hz.2 (hl.2 h2);omega
     omega
   rw[Bool.true_and];exact decide_eq_decide.2 e3
def Box(w:World)(g:Nat)(ng:Bool)(v:Value):Prop:=w.heap[g]? = some (.cells #[.bool ng,v] 82 (0,0))
theorem Box.below{w w':World}{g:Nat}{ng:Bool}{v:Value}(h:Box w g ng v)(hb:Below w.heap.size w w'):Box w' g ng v:=(hb.block g (aaa h)).trans h
theorem Box.facts{w:World}{g:Nat}{ng:Bool}{v:Value}(h:Box w g ng v):w.cell? ⟨g,0,none⟩=some (.bool ng)/\w.cell? ⟨g,1,none⟩=some v/\w.frozen? ⟨g,0,none⟩=false/\w.frozen? ⟨g,1,none⟩=false:=
 ⟨by rw[cell_of_row _ _ _ _ _ (0,0) h];rfl,by rw[cell_of_row _ _ _ _ _ (0,0) h];rfl,frozen_of_row _ _ _ _ _ h,frozen_of_row _ _ _ _ _ h⟩
theorem Box.set{w:World}{g:Nat}{ng:Bool}{v:Value}(h:Box w g ng v)(b:Bool)(u:Value):Box ((w.setCell ⟨g,0,none⟩ (.bool b)).setCell ⟨g,1,none⟩ u) g b u:=by
 have h1:=heap_setCell_same w g 0 _ _ (.bool b) h;have h2:=heap_setCell_same _ g 1 _ _ u h1;exact h2
theorem Box.sl{w:World}{g:Nat}{ng:Bool}{ao:Option Addr}{n cap:Nat}(h:Box w g ng (.slice ao n cap))(b:Bool)(u:Value){v:Value}{zs:List Int}(hs:Sl w v zs):Sl ((w.setCell ⟨g,0,none⟩ (.bool b)).setCell ⟨g,1,none⟩ u) v zs:=by
 refine(hs.setCell h.facts.1 (fun z=>by simp) _).setCell (u0:=.slice ao n cap) ?_ (fun z=>by simp) _;rw[World.cell?_setCell_other _ _ _ _ (by simp)];exact h.facts.2.1
theorem Box.wh{w:World}{g:Nat}{ng:Bool}{ao:Option Addr}{n cap:Nat}(h:Box w g ng (.slice ao n cap))(b:Bool)(u:Value){nz:Bool}{az:Option Addr}{cz:Nat}{rs:List Int}{z:Int}(hs:Wh w nz az cz rs z):Wh ((w.setCell ⟨g,0,none⟩ (.bool b)).setCell ⟨g,1,none⟩ u) nz az cz rs z:=
 ⟨⟨h.sl b u hs.1.1,hs.1.2⟩,hs.2⟩
theorem aag{B:Nat}{w w1:World}{g:Nat}(hb:Below B w w1)(hg:B<=g)(b u:Value):Below B w ((w1.setCell ⟨g,0,none⟩ b).setCell ⟨g,1,none⟩ u):=(hb.setCell hg _).setCell hg _
theorem boxed(w:World)(ng:Bool)(v:Value):Box (w.alloc (.cells #[.bool ng,v] 82)) w.heap.size ng v/\Below w.heap.size w (w.alloc (.cells #[.bool ng,v] 82))/\(w.alloc (.cells #[.bool ng,v] 82)).heap.size=w.heap.size+1:=
 ⟨heap_alloc_new w _,(Below.refl _ _).alloc (Nat.le_refl _) _,by simp⟩
theorem acr(w:World)(ng:Bool)(v:Value):∃w0:World,(w.alloc (.cells #[.bool ng,v] 82)).alloc (.cells #[.bool false,.slice none 0 0] 82)=w0/\Box w0 w.heap.size ng v/\Box w0 (w.heap.size+1) false (.slice none 0 0)/\Below w.heap.size w w0/\w0.heap.size=w.heap.size+2:=by
 have h1:=boxed w ng v;have h2:=boxed (w.alloc (.cells #[.bool ng,v] 82)) false (.slice none 0 0);rw[h1.2.2]at h2;refine⟨_,rfl,h1.1.below (by rw[h1.2.2];exact h2.2.1),h2.1,h1.2.1.trans (h2.2.1.mono (by omega)),h2.2.2⟩
theorem aic(ng:Bool)(x:Int):sg (!ng) x = - sg ng x:=by cases ng <;> simp[sg]
theorem abv(w:World)(ng:Bool)(v:Value):∃w0:World,w.alloc (.cells #[.bool ng,v] 82)=w0/\Box w0 w.heap.size ng v/\Below w.heap.size w w0/\w0.heap.size=w.heap.size+1:=
 ⟨_,rfl,(boxed w ng v).1,(boxed w ng v).2.1,(boxed w ng v).2.2⟩
theorem aeo(w:World)(nx:Bool)(vx:Value)(ny:Bool)(vy:Value):∃w0:World,(w.alloc (.cells #[.bool nx,vx] 82)).alloc (.cells #[.bool ny,vy] 82)=w0/\Box w0 w.heap.size nx vx/\Box w0 (w.heap.size+1) ny vy/\Below w.heap.size w w0/\w0.heap.size=w.heap.size+2:=by
 have h1:=boxed w nx vx;have h2:=boxed (w.alloc (.cells #[.bool nx,vx] 82)) ny vy;rw[h1.2.2]at h2;refine⟨_,rfl,h1.1.below (by rw[h1.2.2];exact h2.2.1),h2.1,h1.2.1.trans (h2.2.1.mono (by omega)),h2.2.2⟩
theorem acs(w:World)(nx:Bool)(vx:Value)(ny:Bool)(vy:Value):∃w0:World,((w.alloc (.cells #[.bool nx,vx] 82)).alloc (.cells #[.bool ny,vy] 82)).alloc (.cells #[.bool false,.slice none 0 0] 82)=w0/\Box w0 w.heap.size nx vx/\Box w0 (w.heap.size+1) ny vy/\Box w0 (w.heap.size+1+1) false (.slice none 0 0)/\Below w.heap.size w w0/\w0.heap.size=w.heap.size+3:=by
 obtain⟨w2,e2,b1,b2,hb,hs⟩:=aeo w nx vx ny vy;have h2:=boxed w2 false (.slice none 0 0);rw[e2];refine⟨_,rfl,b1.below h2.2.1,b2.below h2.2.1,?_,hb.trans (h2.2.1.mono (by omega)),by rw[h2.2.2,hs]⟩;have h3:=h2.1;rw[hs]at h3;exact h3
theorem aid(ng:Bool)(x y:Int):sg ng (x+y)=sg ng x+sg ng y:=by cases ng <;> simp[sg] <;> omega
theorem ak1(n1 n2:Bool)(x y:Int):sg (n1 != n2) (x*y)=sg n1 x*sg n2 y:=by cases n1 <;> cases n2 <;> simp[sg,Int.mul_neg,Int.neg_mul]
theorem Dl.open{B:Nat}{w:World}{v:Value}{x:Int}{n:Nat}(h:Dl B w v x n):∃ao cap ds,v=.slice ao ds.length cap/\Sl w (.slice ao ds.length cap) ds/\Dm.val ds=x/\ds.length<=n:=by
 obtain⟨ds,ho,hv,hn⟩:=h;obtain⟨ao,cap,rfl,hs,_,_⟩:=ho.open;exact⟨ao,cap,ds,rfl,hs,hv,hn⟩
theorem abx(w:World)(ng:Bool)(ao:Option Addr)(cap:Nat)(ds:List Int)(x:Int)(h:Sl w (.slice ao ds.length cap) ds)(hv:Dm.val ds=x):
  Calls Tryz.prog 114 #[.bool ng,.slice ao ds.length cap] w fun e w'=>∃ng' rs,e=.returned (.agg #[.bool ng',.slice ao rs.length cap])/\Wh w' ng' ao cap rs (sg ng x)/\rs.length<=ds.length/\Below w.heap.size w w':=by
 refine(alo w ng ao ds.length cap ds h).mono ?_;rintro e w' ⟨rfl,hb⟩;have hl:=h.parts.2.2.2;have ht:=aaz ds;have e1:(ds.take (tl ds)).length=tl ds:=by rw[List.length_take];omega
 have g:Got w' ao cap (ds.take (tl ds)) x:=⟨by rw[e1];exact(h.take ht).below hb,aa5 hl,by rw[aak,hv]⟩;have g2:=Wh.of ng g;rw[e1]at g2;exact⟨_,ds.take (tl ds),by rw[e1],g2,by omega,hb⟩
theorem Wh.zero{w:World}{ng:Bool}{ao:Option Addr}{cap:Nat}{rs:List Int}{z:Int}(h:Wh w ng ao cap rs z):z=0↔rs = []:=by
 have:=ac3 h.1.canon;rw[h.1.val]at this;rw[<-this];omega
theorem Wh.len{w:World}{ng:Bool}{ao:Option Addr}{cap:Nat}{rs:List Int}{z:Int}(h:Wh w ng ao cap rs z){m:Nat}(hz:(z.natAbs:Int)<pw m):rs.length<=m:=aau h.1.canon (by rw[h.1.val];exact hz)
end Dm
namespace Dm
open Go.RowKit
open Lm (hide aal aaa cmpI abn abu)
theorem ar9(w:World)(n1:Bool)(a1:Option Addr)(c1:Nat)(xs:List Int)(x:Int)(hx:Got w a1 c1 xs x)(a2:Option Addr)(c2:Nat)(ys:List Int)(y:Int)(hy:Got w a2 c2 ys y)(m1:xs.length<=400000)(m2:ys.length<=400000):
  Calls Tryz.prog 75 #[.agg #[.bool n1,.slice a1 xs.length c1],.agg #[.bool n1,.slice a2 ys.length c2]] w fun e w'=>∃ng' ao cap rs,e=.returned (.agg #[.bool ng',.slice ao rs.length cap])/\Wh w' ng' ao cap rs (sg n1 x+sg n1 y)/\rs.length<=xs.length+ys.length+1/\Below w.heap.size w w':=by
 obtain⟨w0,e0,bx,by',br,hb0,hs0⟩:=acs w n1 (.slice a1 xs.length c1) (n1) (.slice a2 ys.length c2);have E0:=hide e0;have hx0:=hx.below hb0;have hy0:=hy.below hb0;have HB:=hb0;have ne1:¬(w.heap.size=w.heap.size+1+1):=by omega
 have ne2:¬(w.heap.size+1+1=w.heap.size):=by omega
 clear e0 hs0;cases n1 with
 |false=>
  go_enter Tryz.func75,Tryz.ntmps75
  go_wp2_with fail
  rw[E0.out];obtain⟨bx1,bx2,bx3,bx4⟩:=bx.facts;obtain⟨by1,by2,by3,by4⟩:=by'.facts;obtain⟨br1,br2,br3,br4⟩:=br.facts;go_region_held3 (fun w'=>w'.cell? ⟨w.heap.size,0,none⟩=some (.bool false)/\w'.cell? ⟨w.heap.size,1,none⟩=some (.slice a1 xs.length c1)/\w'.cell? ⟨w.heap.size+1,0,none⟩=some (.bool false)/\w'.cell? ⟨w.heap.size+1,1,none⟩=some (.slice a2 ys.length c2)) (go_keep) (first
    | (go_at_call 114;have _hq:=hb1';refine(abx _ _ p1 q1 d1 _ (s1.below (by repeat(first|exact Below.refl _ _|refine Below.drew ?_))) e1).mono ?_;rintro e w2 ⟨ng2,r2,rfl,G2,l2,hb2⟩;have hb2':Below w1.heap.size w1 w2:=(show Below w1.heap.size w1 _ by repeat(first|exact Below.refl _ _|refine Below.drew ?_)).trans hb2;have HB:=HB.trans (hb2'.mono HB.size);replace bx:=bx.below hb2';clear bx1 bx2 bx3 bx4;obtain⟨bx1,bx2,bx3,bx4⟩:=bx.facts;replace by':=by'.below hb2';clear by1 by2 by3 by4;obtain⟨by1,by2,by3,by4⟩:=by'.facts;replace br:=br.below hb2';clear br1 br2 br3 br4;obtain⟨br1,br2,br3,br4⟩:=br.facts)
    | (go_at_call 115;refine(alr _ _ _ _ xs (hx0.sl.below (by repeat(first|exact Below.refl _ _|refine Below.drew ?_))) _ _ _ ys (hy0.sl.below (by repeat(first|exact Below.refl _ _|refine Below.drew ?_))) (by omega) (by omega)).mono ?_;rintro e w1 ⟨v1,rfl,D1,hb1⟩;obtain⟨p1,q1,d1,rfl,s1,e1,l1⟩:=D1.open;clear D1;have hb1':Below w0.heap.size w0 w1:=(show Below w0.heap.size w0 _ by repeat(first|exact Below.refl _ _|refine Below.drew ?_)).trans hb1;have HB:=HB.trans (hb1'.mono HB.size);replace bx:=bx.below hb1';clear bx1 bx2 bx3 bx4;obtain⟨bx1,bx2,bx3,bx4⟩:=bx.facts;replace by':=by'.below hb1';clear by1 by2 by3 by4;obtain⟨by1,by2,by3,by4⟩:=by'.facts;replace br:=br.below hb1';clear br1 br2 br3 br4;obtain⟨br1,br2,br3,br4⟩:=br.facts))
  all_goals
   have X:=hide (br.set ng2 (.slice p1 r2.length q1)).facts;have Y:=hide (br.wh ng2 (.slice p1 r2.length q1) G2);have Z:=hide (aag HB (show w.heap.size<=w.heap.size+1+1 by omega) (.bool ng2) (.slice p1 r2.length q1));clear bx1 bx2 bx3 bx4 by1 by2 by3 by4;go_wp2;refine bodyPost_ret (v:=.agg #[.bool ng2,.slice p1 r2.length q1]) ?_ rfl ⟨ng2,p1,q1,r2,rfl,by rw[<-aid,<-hx.val,<-hy.val];exact Y.out,by omega,Z.out⟩;simp[results,Tryz.results75,go_sem,X.out.1,X.out.2.1]
 |true=>
  go_enter Tryz.func75,Tryz.ntmps75
  go_wp2_with fail
  rw[E0.out];obtain⟨bx1,bx2,bx3,bx4⟩:=bx.facts;obtain⟨by1,by2,by3,by4⟩:=by'.facts;obtain⟨br1,br2,br3,br4⟩:=br.facts;go_region_held3 (fun w'=>w'.cell? ⟨w.heap.size,0,none⟩=some (.bool true)/\w'.cell? ⟨w.heap.size,1,none⟩=some (.slice a1 xs.length c1)/\w'.cell? ⟨w.heap.size+1,0,none⟩=some (.bool true)/\w'.cell? ⟨w.heap.size+1,1,none⟩=some (.slice a2 ys.length c2)) (go_keep) (first
    | (go_at_call 114;have _hq:=hb1';refine(abx _ _ p1 q1 d1 _ (s1.below (by repeat(first|exact Below.refl _ _|refine Below.drew ?_))) e1).mono ?_;rintro e w2 ⟨ng2,r2,rfl,G2,l2,hb2⟩;have hb2':Below w1.heap.size w1 w2:=(show Below w1.heap.size w1 _ by repeat(first|exact Below.refl _ _|refine Below.drew ?_)).trans hb2;have HB:=HB.trans (hb2'.mono HB.size);replace bx:=bx.below hb2';clear bx1 bx2 bx3 bx4;obtain⟨bx1,bx2,bx3,bx4⟩:=bx.facts;replace by':=by'.below hb2';clear by1 by2 by3 by4;obtain⟨by1,by2,by3,by4⟩:=by'.facts;replace br:=br.below hb2';clear br1 br2 br3 br4;obtain⟨br1,br2,br3,br4⟩:=br.facts)
    | (go_at_call 115;refine(alr _ _ _ _ xs (hx0.sl.below (by repeat(first|exact Below.refl _ _|refine Below.drew ?_))) _ _ _ ys (hy0.sl.below (by repeat(first|exact Below.refl _ _|refine Below.drew ?_))) (by omega) (by omega)).mono ?_;rintro e w1 ⟨v1,rfl,D1,hb1⟩;obtain⟨p1,q1,d1,rfl,s1,e1,l1⟩:=D1.open;clear D1;have hb1':Below w0.heap.size w0 w1:=(show Below w0.heap.size w0 _ by repeat(first|exact Below.refl _ _|refine Below.drew ?_)).trans hb1;have HB:=HB.trans (hb1'.mono HB.size);replace bx:=bx.below hb1';clear bx1 bx2 bx3 bx4;obtain⟨bx1,bx2,bx3,bx4⟩:=bx.facts;replace by':=by'.below hb1';clear by1 by2 by3 by4;obtain⟨by1,by2,by3,by4⟩:=by'.facts;replace br:=br.below hb1';clear br1 br2 br3 br4;obtain⟨br1,br2,br3,br4⟩:=br.facts))
  all_goals
   have X:=hide (br.set ng2 (.slice p1 r2.length q1)).facts;have Y:=hide (br.wh ng2 (.slice p1 r2.length q1) G2);have Z:=hide (aag HB (show w.heap.size<=w.heap.size+1+1 by omega) (.bool ng2) (.slice p1 r2.length q1));clear bx1 bx2 bx3 bx4 by1 by2 by3 by4;go_wp2;refine bodyPost_ret (v:=.agg #[.bool ng2,.slice p1 r2.length q1]) ?_ rfl ⟨ng2,p1,q1,r2,rfl,by rw[<-aid,<-hx.val,<-hy.val];exact Y.out,by omega,Z.out⟩;simp[results,Tryz.results75,go_sem,X.out.1,X.out.2.1]
theorem ax1(w:World)(n1:Bool)(a1:Option Addr)(c1:Nat)(xs:List Int)(x:Int)(hx:Got w a1 c1 xs x)(a2:Option Addr)(c2:Nat)(ys:List Int)(y:Int)(hy:Got w a2 c2 ys y)(m1:xs.length<=400000)(m2:ys.length<=400000)(hle:y<=x)(h0:0<x):
  Calls Tryz.prog 75 #[.agg #[.bool n1,.slice a1 xs.length c1],.agg #[.bool (!n1),.slice a2 ys.length c2]] w fun e w'=>∃ng' ao cap rs,e=.returned (.agg #[.bool ng',.slice ao rs.length cap])/\Wh w' ng' ao cap rs (sg n1 x+sg (!n1) y)/\rs.length<=xs.length+ys.length+1/\Below w.heap.size w w':=by
 obtain⟨w0,e0,bx,by',br,hb0,hs0⟩:=acs w n1 (.slice a1 xs.length c1) (!n1) (.slice a2 ys.length c2);have E0:=hide e0;have hx0:=hx.below hb0;have hy0:=hy.below hb0;have HB:=hb0;have ne1:¬(w.heap.size=w.heap.size+1+1):=by omega
 have ne2:¬(w.heap.size+1+1=w.heap.size):=by omega
 clear e0 hs0;have K:=hide (fun w hx hy=>afw w n1 (!n1) a1 a2 c1 c2 xs ys x y hx hy);have hc:0<=cmpI x y:=by
  rcases Int.lt_trichotomy x y with h|h|h
  ·omega
  ·rw[Lm.aeg h];omega
  ·rw[abu h];omega
 have hpos:0<xs.length:=by
  apply Classical.byContradiction;intro hn;have:=alq hx (by omega);omega
 have hlen:ys.length<=xs.length:=by
  apply Classical.byContradiction;intro hn;have:=ado hx.canon hy.canon (by omega);rw[hx.val,hy.val]at this;omega
 generalize cmpI x y=cv at K hc;cases n1 with
 |false=>
  simp only[Bool.not_false]at E0 by' K ⊢;go_enter Tryz.func75,Tryz.ntmps75
  go_wp2_with fail
  rw[E0.out];obtain⟨bx1,bx2,bx3,bx4⟩:=bx.facts;obtain⟨by1,by2,by3,by4⟩:=by'.facts;obtain⟨br1,br2,br3,br4⟩:=br.facts;refine(K.out _ hx0 hy0).mono ?_;rintro e w9 ⟨rfl,hb9⟩;replace HB:=HB.trans (hb9.mono HB.size);replace hx0:=hx0.below hb9;replace hy0:=hy0.below hb9;replace bx:=bx.below hb9;replace by':=by'.below hb9;replace br:=br.below hb9;clear bx1 bx2 bx3 bx4 by1 by2 by3 by4 br1 br2 br3 br4;obtain⟨bx1,bx2,bx3,bx4⟩:=bx.facts;obtain⟨by1,by2,by3,by4⟩:=by'.facts;obtain⟨br1,br2,br3,br4⟩:=br.facts;go_wp2_with fail
  go_region_held3 (fun w'=>w'.cell? ⟨w.heap.size,0,none⟩=some (.bool false)/\w'.cell? ⟨w.heap.size,1,none⟩=some (.slice a1 xs.length c1)/\w'.cell? ⟨w.heap.size+1,0,none⟩=some (.bool true)/\w'.cell? ⟨w.heap.size+1,1,none⟩=some (.slice a2 ys.length c2)) (go_keep) (first
    | (go_at_call 114;have _hq:=hb1';refine(abx _ _ p1 q1 d1 _ (s1.below (by repeat(first|exact Below.refl _ _|refine Below.drew ?_))) e1).mono ?_;rintro e w2 ⟨ng2,r2,rfl,G2,l2,hb2⟩;have hb2':Below w1.heap.size w1 w2:=(show Below w1.heap.size w1 _ by repeat(first|exact Below.refl _ _|refine Below.drew ?_)).trans hb2;have HB:=HB.trans (hb2'.mono HB.size);replace bx:=bx.below hb2';clear bx1 bx2 bx3 bx4;obtain⟨bx1,bx2,bx3,bx4⟩:=bx.facts;replace by':=by'.below hb2';clear by1 by2 by3 by4;obtain⟨by1,by2,by3,by4⟩:=by'.facts;replace br:=br.below hb2';clear br1 br2 br3 br4;obtain⟨br1,br2,br3,br4⟩:=br.facts)
    | (go_at_call 117;refine(adr _ _ _ _ xs (hx0.sl.below (by repeat(first|exact Below.refl _ _|refine Below.drew ?_))) _ _ _ ys (hy0.sl.below (by repeat(first|exact Below.refl _ _|refine Below.drew ?_))) (by omega) hlen (by rw[hx.val,hy.val];exact hle) hpos).mono ?_;rintro e w1 ⟨v1,rfl,D1,hb1⟩;obtain⟨p1,q1,d1,rfl,s1,e1,l1⟩:=D1.open;clear D1;have hb1':Below w9.heap.size w9 w1:=(show Below w9.heap.size w9 _ by repeat(first|exact Below.refl _ _|refine Below.drew ?_)).trans hb1;have HB:=HB.trans (hb1'.mono HB.size);replace bx:=bx.below hb1';clear bx1 bx2 bx3 bx4;obtain⟨bx1,bx2,bx3,bx4⟩:=bx.facts;replace by':=by'.below hb1';clear by1 by2 by3 by4;obtain⟨by1,by2,by3,by4⟩:=by'.facts;replace br:=br.below hb1';clear br1 br2 br3 br4;obtain⟨br1,br2,br3,br4⟩:=br.facts))
  all_goals
   have X:=hide (br.set ng2 (.slice p1 r2.length q1)).facts;have Y:=hide (br.wh ng2 (.slice p1 r2.length q1) G2);have Z:=hide (aag HB (show w.heap.size<=w.heap.size+1+1 by omega) (.bool ng2) (.slice p1 r2.length q1));clear bx1 bx2 bx3 bx4 by1 by2 by3 by4;go_wp2;refine bodyPost_ret (v:=.agg #[.bool ng2,.slice p1 r2.length q1]) ?_ rfl ⟨ng2,p1,q1,r2,rfl,by rw[show sg false x+sg true y=sg false (Dm.val xs-Dm.val ys) by rw[hx.val,hy.val];simp[sg];omega];exact Y.out,by omega,Z.out⟩;simp[results,Tryz.results75,go_sem,X.out.1,X.out.2.1]
 |true=>
  simp only[Bool.not_true]at E0 by' K ⊢;go_enter Tryz.func75,Tryz.ntmps75
  go_wp2_with fail
  rw[E0.out];obtain⟨bx1,bx2,bx3,bx4⟩:=bx.facts;obtain⟨by1,by2,by3,by4⟩:=by'.facts;obtain⟨br1,br2,br3,br4⟩:=br.facts;refine(K.out _ hx0 hy0).mono ?_;rintro e w9 ⟨rfl,hb9⟩;replace HB:=HB.trans (hb9.mono HB.size);replace hx0:=hx0.below hb9;replace hy0:=hy0.below hb9;replace bx:=bx.below hb9;replace by':=by'.below hb9;replace br:=br.below hb9;clear bx1 bx2 bx3 bx4 by1 by2 by3 by4 br1 br2 br3 br4;obtain⟨bx1,bx2,bx3,bx4⟩:=bx.facts;obtain⟨by1,by2,by3,by4⟩:=by'.facts;obtain⟨br1,br2,br3,br4⟩:=br.facts;go_wp2_with fail
  go_region_held3 (fun w'=>w'.cell? ⟨w.heap.size,0,none⟩=some (.bool true)/\w'.cell? ⟨w.heap.size,1,none⟩=some (.slice a1 xs.length c1)/\w'.cell? ⟨w.heap.size+1,0,none⟩=some (.bool false)/\w'.cell? ⟨w.heap.size+1,1,none⟩=some (.slice a2 ys.length c2)) (go_keep) (first
    | (go_at_call 114;have _hq:=hb1';refine(abx _ _ p1 q1 d1 _ (s1.below (by repeat(first|exact Below.refl _ _|refine Below.drew ?_))) e1).mono ?_;rintro e w2 ⟨ng2,r2,rfl,G2,l2,hb2⟩;have hb2':Below w1.heap.size w1 w2:=(show Below w1.heap.size w1 _ by repeat(first|exact Below.refl _ _|refine Below.drew ?_)).trans hb2;have HB:=HB.trans (hb2'.mono HB.size);replace bx:=bx.below hb2';clear bx1 bx2 bx3 bx4;obtain⟨bx1,bx2,bx3,bx4⟩:=bx.facts;replace by':=by'.below hb2';clear by1 by2 by3 by4;obtain⟨by1,by2,by3,by4⟩:=by'.facts;replace br:=br.below hb2';clear br1 br2 br3 br4;obtain⟨br1,br2,br3,br4⟩:=br.facts)
    | (go_at_call 117;refine(adr _ _ _ _ xs (hx0.sl.below (by repeat(first|exact Below.refl _ _|refine Below.drew ?_))) _ _ _ ys (hy0.sl.below (by repeat(first|exact Below.refl _ _|refine Below.drew ?_))) (by omega) hlen (by rw[hx.val,hy.val];exact hle) hpos).mono ?_;rintro e w1 ⟨v1,rfl,D1,hb1⟩;obtain⟨p1,q1,d1,rfl,s1,e1,l1⟩:=D1.open;clear D1;have hb1':Below w9.heap.size w9 w1:=(show Below w9.heap.size w9 _ by repeat(first|exact Below.refl _ _|refine Below.drew ?_)).trans hb1;have HB:=HB.trans (hb1'.mono HB.size);replace bx:=bx.below hb1';clear bx1 bx2 bx3 bx4;obtain⟨bx1,bx2,bx3,bx4⟩:=bx.facts;replace by':=by'.below hb1';clear by1 by2 by3 by4;obtain⟨by1,by2,by3,by4⟩:=by'.facts;replace br:=br.below hb1';clear br1 br2 br3 br4;obtain⟨br1,br2,br3,br4⟩:=br.facts))
  all_goals
   have X:=hide (br.set ng2 (.slice p1 r2.length q1)).facts;have Y:=hide (br.wh ng2 (.slice p1 r2.length q1) G2);have Z:=hide (aag HB (show w.heap.size<=w.heap.size+1+1 by omega) (.bool ng2) (.slice p1 r2.length q1));clear bx1 bx2 bx3 bx4 by1 by2 by3 by4;go_wp2;refine bodyPost_ret (v:=.agg #[.bool ng2,.slice p1 r2.length q1]) ?_ rfl ⟨ng2,p1,q1,r2,rfl,by rw[show sg true x+sg false y=sg true (Dm.val xs-Dm.val ys) by rw[hx.val,hy.val];simp[sg];omega];exact Y.out,by omega,Z.out⟩;simp[results,Tryz.results75,go_sem,X.out.1,X.out.2.1]
theorem ax2(w:World)(n1:Bool)(a1:Option Addr)(c1:Nat)(xs:List Int)(x:Int)(hx:Got w a1 c1 xs x)(a2:Option Addr)(c2:Nat)(ys:List Int)(y:Int)(hy:Got w a2 c2 ys y)(m1:xs.length<=400000)(m2:ys.length<=400000)(hle:x<y):
  Calls Tryz.prog 75 #[.agg #[.bool n1,.slice a1 xs.length c1],.agg #[.bool (!n1),.slice a2 ys.length c2]] w fun e w'=>∃ng' ao cap rs,e=.returned (.agg #[.bool ng',.slice ao rs.length cap])/\Wh w' ng' ao cap rs (sg n1 x+sg (!n1) y)/\rs.length<=xs.length+ys.length+1/\Below w.heap.size w w':=by
 obtain⟨w0,e0,bx,by',br,hb0,hs0⟩:=acs w n1 (.slice a1 xs.length c1) (!n1) (.slice a2 ys.length c2);have E0:=hide e0;have hx0:=hx.below hb0;have hy0:=hy.below hb0;have HB:=hb0;have ne1:¬(w.heap.size=w.heap.size+1+1):=by omega
 have ne2:¬(w.heap.size+1+1=w.heap.size):=by omega
 clear e0 hs0;have K:=hide (fun w hx hy=>afw w n1 (!n1) a1 a2 c1 c2 xs ys x y hx hy);have hc:¬0<=cmpI x y:=by rw[abn hle];omega
 have hpos:0<ys.length:=by
  apply Classical.byContradiction;intro hn;have h1:=alq hy (by omega);have h2:=(aac hx.canon.1).1;rw[hx.val]at h2;omega
 have hlen:xs.length<=ys.length:=by
  apply Classical.byContradiction;intro hn;have:=ado hy.canon hx.canon (by omega);rw[hx.val,hy.val]at this;omega
 generalize cmpI x y=cv at K hc;cases n1 with
 |false=>
  simp only[Bool.not_false]at E0 by' K ⊢;go_enter Tryz.func75,Tryz.ntmps75
  go_wp2_with fail
  rw[E0.out];obtain⟨bx1,bx2,bx3,bx4⟩:=bx.facts;obtain⟨by1,by2,by3,by4⟩:=by'.facts;obtain⟨br1,br2,br3,br4⟩:=br.facts;refine(K.out _ hx0 hy0).mono ?_;rintro e w9 ⟨rfl,hb9⟩;replace HB:=HB.trans (hb9.mono HB.size);replace hx0:=hx0.below hb9;replace hy0:=hy0.below hb9;replace bx:=bx.below hb9;replace by':=by'.below hb9;replace br:=br.below hb9;clear bx1 bx2 bx3 bx4 by1 by2 by3 by4 br1 br2 br3 br4;obtain⟨bx1,bx2,bx3,bx4⟩:=bx.facts;obtain⟨by1,by2,by3,by4⟩:=by'.facts;obtain⟨br1,br2,br3,br4⟩:=br.facts;go_wp2_with fail
  go_region_held3 (fun w'=>w'.cell? ⟨w.heap.size,0,none⟩=some (.bool false)/\w'.cell? ⟨w.heap.size,1,none⟩=some (.slice a1 xs.length c1)/\w'.cell? ⟨w.heap.size+1,0,none⟩=some (.bool true)/\w'.cell? ⟨w.heap.size+1,1,none⟩=some (.slice a2 ys.length c2)) (go_keep) (first
    | (go_at_call 114;have _hq:=hb1';refine(abx _ _ p1 q1 d1 _ (s1.below (by repeat(first|exact Below.refl _ _|refine Below.drew ?_))) e1).mono ?_;rintro e w2 ⟨ng2,r2,rfl,G2,l2,hb2⟩;have hb2':Below w1.heap.size w1 w2:=(show Below w1.heap.size w1 _ by repeat(first|exact Below.refl _ _|refine Below.drew ?_)).trans hb2;have HB:=HB.trans (hb2'.mono HB.size);replace bx:=bx.below hb2';clear bx1 bx2 bx3 bx4;obtain⟨bx1,bx2,bx3,bx4⟩:=bx.facts;replace by':=by'.below hb2';clear by1 by2 by3 by4;obtain⟨by1,by2,by3,by4⟩:=by'.facts;replace br:=br.below hb2';clear br1 br2 br3 br4;obtain⟨br1,br2,br3,br4⟩:=br.facts)
    | (go_at_call 117;refine(adr _ _ _ _ ys (hy0.sl.below (by repeat(first|exact Below.refl _ _|refine Below.drew ?_))) _ _ _ xs (hx0.sl.below (by repeat(first|exact Below.refl _ _|refine Below.drew ?_))) (by omega) hlen (by rw[hx.val,hy.val];omega) hpos).mono ?_;rintro e w1 ⟨v1,rfl,D1,hb1⟩;obtain⟨p1,q1,d1,rfl,s1,e1,l1⟩:=D1.open;clear D1;have hb1':Below w9.heap.size w9 w1:=(show Below w9.heap.size w9 _ by repeat(first|exact Below.refl _ _|refine Below.drew ?_)).trans hb1;have HB:=HB.trans (hb1'.mono HB.size);replace bx:=bx.below hb1';clear bx1 bx2 bx3 bx4;obtain⟨bx1,bx2,bx3,bx4⟩:=bx.facts;replace by':=by'.below hb1';clear by1 by2 by3 by4;obtain⟨by1,by2,by3,by4⟩:=by'.facts;replace br:=br.below hb1';clear br1 br2 br3 br4;obtain⟨br1,br2,br3,br4⟩:=br.facts))
  all_goals
   have X:=hide (br.set ng2 (.slice p1 r2.length q1)).facts;have Y:=hide (br.wh ng2 (.slice p1 r2.length q1) G2);have Z:=hide (aag HB (show w.heap.size<=w.heap.size+1+1 by omega) (.bool ng2) (.slice p1 r2.length q1));clear bx1 bx2 bx3 bx4 by1 by2 by3 by4;go_wp2;refine bodyPost_ret (v:=.agg #[.bool ng2,.slice p1 r2.length q1]) ?_ rfl ⟨ng2,p1,q1,r2,rfl,by rw[show sg false x+sg true y=sg true (Dm.val ys-Dm.val xs) by rw[hx.val,hy.val];simp[sg];omega];exact Y.out,by omega,Z.out⟩;simp[results,Tryz.results75,go_sem,X.out.1,X.out.2.1]
 |true=>
  simp only[Bool.not_true]at E0 by' K ⊢;go_enter Tryz.func75,Tryz.ntmps75
  go_wp2_with fail
  rw[E0.out];obtain⟨bx1,bx2,bx3,bx4⟩:=bx.facts;obtain⟨by1,by2,by3,by4⟩:=by'.facts;obtain⟨br1,br2,br3,br4⟩:=br.facts;refine(K.out _ hx0 hy0).mono ?_;rintro e w9 ⟨rfl,hb9⟩;replace HB:=HB.trans (hb9.mono HB.size);replace hx0:=hx0.below hb9;replace hy0:=hy0.below hb9;replace bx:=bx.below hb9;replace by':=by'.below hb9;replace br:=br.below hb9;clear bx1 bx2 bx3 bx4 by1 by2 by3 by4 br1 br2 br3 br4;obtain⟨bx1,bx2,bx3,bx4⟩:=bx.facts;obtain⟨by1,by2,by3,by4⟩:=by'.facts;obtain⟨br1,br2,br3,br4⟩:=br.facts;go_wp2_with fail
  go_region_held3 (fun w'=>w'.cell? ⟨w.heap.size,0,none⟩=some (.bool true)/\w'.cell? ⟨w.heap.size,1,none⟩=some (.slice a1 xs.length c1)/\w'.cell? ⟨w.heap.size+1,0,none⟩=some (.bool false)/\w'.cell? ⟨w.heap.size+1,1,none⟩=some (.slice a2 ys.length c2)) (go_keep) (first
    | (go_at_call 114;have _hq:=hb1';refine(abx _ _ p1 q1 d1 _ (s1.below (by repeat(first|exact Below.refl _ _|refine Below.drew ?_))) e1).mono ?_;rintro e w2 ⟨ng2,r2,rfl,G2,l2,hb2⟩;have hb2':Below w1.heap.size w1 w2:=(show Below w1.heap.size w1 _ by repeat(first|exact Below.refl _ _|refine Below.drew ?_)).trans hb2;have HB:=HB.trans (hb2'.mono HB.size);replace bx:=bx.below hb2';clear bx1 bx2 bx3 bx4;obtain⟨bx1,bx2,bx3,bx4⟩:=bx.facts;replace by':=by'.below hb2';clear by1 by2 by3 by4;obtain⟨by1,by2,by3,by4⟩:=by'.facts;replace br:=br.below hb2';clear br1 br2 br3 br4;obtain⟨br1,br2,br3,br4⟩:=br.facts)
    | (go_at_call 117;refine(adr _ _ _ _ ys (hy0.sl.below (by repeat(first|exact Below.refl _ _|refine Below.drew ?_))) _ _ _ xs (hx0.sl.below (by repeat(first|exact Below.refl _ _|refine Below.drew ?_))) (by omega) hlen (by rw[hx.val,hy.val];omega) hpos).mono ?_;rintro e w1 ⟨v1,rfl,D1,hb1⟩;obtain⟨p1,q1,d1,rfl,s1,e1,l1⟩:=D1.open;clear D1;have hb1':Below w9.heap.size w9 w1:=(show Below w9.heap.size w9 _ by repeat(first|exact Below.refl _ _|refine Below.drew ?_)).trans hb1;have HB:=HB.trans (hb1'.mono HB.size);replace bx:=bx.below hb1';clear bx1 bx2 bx3 bx4;obtain⟨bx1,bx2,bx3,bx4⟩:=bx.facts;replace by':=by'.below hb1';clear by1 by2 by3 by4;obtain⟨by1,by2,by3,by4⟩:=by'.facts;replace br:=br.below hb1';clear br1 br2 br3 br4;obtain⟨br1,br2,br3,br4⟩:=br.facts))
  all_goals
   have X:=hide (br.set ng2 (.slice p1 r2.length q1)).facts;have Y:=hide (br.wh ng2 (.slice p1 r2.length q1) G2);have Z:=hide (aag HB (show w.heap.size<=w.heap.size+1+1 by omega) (.bool ng2) (.slice p1 r2.length q1));clear bx1 bx2 bx3 bx4 by1 by2 by3 by4;go_wp2;refine bodyPost_ret (v:=.agg #[.bool ng2,.slice p1 r2.length q1]) ?_ rfl ⟨ng2,p1,q1,r2,rfl,by rw[show sg true x+sg false y=sg false (Dm.val ys-Dm.val xs) by rw[hx.val,hy.val];simp[sg];omega];exact Y.out,by omega,Z.out⟩;simp[results,Tryz.results75,go_sem,X.out.1,X.out.2.1]
theorem asa(w:World)(n1:Bool)(a1:Option Addr)(c1:Nat)(xs:List Int)(x:Int)(hx:Wh w n1 a1 c1 xs x)(n2:Bool)(a2:Option Addr)(c2:Nat)(ys:List Int)(y:Int)(hy:Wh w n2 a2 c2 ys y)(m1:xs.length<=400000)(m2:ys.length<=400000):
  Calls Tryz.prog 75 #[.agg #[.bool n1,.slice a1 xs.length c1],.agg #[.bool n2,.slice a2 ys.length c2]] w fun e w'=>∃ng' ao cap rs,e=.returned (.agg #[.bool ng',.slice ao rs.length cap])/\Wh w' ng' ao cap rs (x+y)/\rs.length<=xs.length+ys.length+1/\Below w.heap.size w w':=by
 have wx:=hx.worth;have wy:=hy.worth;rw[hx.1.val]at wx;rw[hy.1.val]at wy;rw[show x+y=sg n1 (x.natAbs:Int)+sg n2 (y.natAbs:Int) by rw[wx,wy]];by_cases hn:n1=n2
 ·subst hn;exact ar9 w n1 a1 c1 xs _ hx.1 a2 c2 ys _ hy.1 m1 m2
 ·have hn2:n2 = !n1:=by cases n1 <;> cases n2 <;> simp_all
  have s1:=hx.2;have s2:=hy.2;subst hn2;by_cases hle:(y.natAbs:Int)<=(x.natAbs:Int)
  ·refine ax1 w n1 a1 c1 xs _ hx.1 a2 c2 ys _ hy.1 m1 m2 hle ?_;cases n1
   ·have:y<0:=by simpa using s2.symm
    omega
   ·have:x<0:=by simpa using s1.symm
    omega
  ·exact ax2 w n1 a1 c1 xs _ hx.1 a2 c2 ys _ hy.1 m1 m2 (by omega)
end Dm
namespace Dm
open Go.RowKit
open Lm (hide aal aaa cmpI abn abu)
theorem copied{w:World}{B g n cap:Nat}{zs:List Int}(h:w.ownsRow B 3 1 (.slice (some ⟨g,0,none⟩) n cap) n ([]++zs.map (Value.int .i64)))(hz:Limb zs):Sl w (.slice (some ⟨g,0,none⟩) zs.length cap) zs:=by
 have hn:zs.length=n:=by simpa using h.1
 subst hn;rw[List.nil_append]at h;exact(abt h hz).sl
theorem apk(w:World)(ng:Bool)(a1:Option Addr)(c1:Nat)(xs:List Int)(x:Int)(hx:Got w a1 c1 xs x)(m1:xs.length<=1000000)(h0:0<xs.length):
  Calls Tryz.prog 74 #[.agg #[.bool ng,.slice a1 xs.length c1]] w fun e w'=>∃ng' ao cap rs,e=.returned (.agg #[.bool ng',.slice ao rs.length cap])/\Wh w' ng' ao cap rs (sg (!ng) x)/\rs.length<=xs.length/\Below w.heap.size w w':=by
 obtain⟨b,off,rfl,_⟩:=hx.sl.cells h0;obtain⟨w0,e0,bx,br,hb0,hs0⟩:=acr w ng (.slice (some ⟨b,off,none⟩) xs.length c1);have E0:=hide e0;obtain⟨i0,hi,hz0,hz1,hz2⟩:=info_parts acu;obtain⟨_,p1,p2,p3⟩:=hx.sl.parts;have P3:=hide p3;have hx0:=hx.below hb0;have HB:=hb0;clear e0 hs0 p3;go_enter Tryz.func74,Tryz.ntmps74
 go_wp2_with fail
 rw[E0.out];obtain⟨bx1,bx2,bx3,bx4⟩:=bx.facts;obtain⟨br1,br2,br3,br4⟩:=br.facts;go_region_held3 (fun w'=>w'.cell? ⟨w.heap.size,0,none⟩=some (.bool ng)/\w'.cell? ⟨w.heap.size,1,none⟩=some (.slice (some ⟨b,off,none⟩) xs.length c1)) (go_keep) (first
  | (go_at_call 114;refine(abx _ _ _ _ xs _ (s1.below (by repeat(first|exact Below.refl _ _|refine Below.drew ?_))) hx.val).mono ?_;rintro e w2 ⟨ng2,r2,rfl,G2,l2,hb2⟩;have hb2':Below w1.heap.size w1 w2:=(show Below w1.heap.size w1 _ by repeat(first|exact Below.refl _ _|refine Below.drew ?_)).trans hb2;have HB:=HB.trans (hb2'.mono HB.size);replace bx:=bx.below hb2';clear bx1 bx2 bx3 bx4;obtain⟨bx1,bx2,bx3,bx4⟩:=bx.facts;replace br:=br.below hb2';clear br1 br2 br3 br4;obtain⟨br1,br2,br3,br4⟩:=br.facts)
  | ((refine step_append_lies _ (by rfl) _ _ _ (by rfl) w0.heap.size 3 i0 _ 1 8 Tryz.underlying61 hi hz0 hz1 hz2 rfl (by omega) (.slice none 0 0) 0 [] (by rfl) (World.ownsRow_nil _ _ _ _) ⟨b,off,none⟩ xs.length c1 (xs.map (Value.int .i64)) (by rfl) (by simp) (Sl.copy (hx0.sl.below (by repeat(first|exact Below.refl _ _|refine Below.drew ?_)))) (ad1 xs) (by omega) (by unfold maxLen;omega) (by omega) (by simp) w0.heap.size (by simp) ?_;intro g1 q1 w1 hown hgrow hat hlt;have hb1':Below w0.heap.size w0 w1:=(show Below w0.heap.size w0 _ by repeat(first|exact Below.refl _ _|refine Below.drew ?_)).grown hgrow (by simp) (by intro k hk;simp[Value.ownBlock]at hk);have HB:=HB.trans (hb1'.mono HB.size);have s1:=copied hown P3.out;replace bx:=bx.below hb1';clear bx1 bx2 bx3 bx4;obtain⟨bx1,bx2,bx3,bx4⟩:=bx.facts;replace br:=br.below hb1';clear br1 br2 br3 br4;obtain⟨br1,br2,br3,br4⟩:=br.facts)))
 all_goals
  have X:=hide (br.set ng2 (.slice (some ⟨g1,0,none⟩) r2.length q1)).facts;have Y:=hide (br.wh ng2 (.slice (some ⟨g1,0,none⟩) r2.length q1) G2);have Z:=hide (aag HB (show w.heap.size<=w.heap.size+1 by omega) (.bool ng2) (.slice (some ⟨g1,0,none⟩) r2.length q1));clear bx1 bx2 bx3 bx4;go_wp2;refine bodyPost_ret (v:=.agg #[.bool ng2,.slice (some ⟨g1,0,none⟩) r2.length q1]) ?_ rfl ⟨ng2,(some ⟨g1,0,none⟩),q1,r2,rfl,Y.out,by omega,Z.out⟩;simp[results,Tryz.results74,go_sem,X.out.1,X.out.2.1]
theorem avj(w:World)(ng:Bool)(a1:Option Addr)(c1:Nat)(xs:List Int)(x:Int)(hx:Got w a1 c1 xs x)(m1:xs.length<=1000000)(h0:0<xs.length):
  Calls Tryz.prog 138 #[.agg #[.bool ng,.slice a1 xs.length c1]] w fun e w'=>∃ng' ao cap rs,e=.returned (.agg #[.bool ng',.slice ao rs.length cap])/\Wh w' ng' ao cap rs (sg false x)/\rs.length<=xs.length/\Below w.heap.size w w':=by
 obtain⟨b,off,rfl,_⟩:=hx.sl.cells h0;obtain⟨w0,rfl,bx,br,hb0,hs0⟩:=acr w ng (.slice (some ⟨b,off,none⟩) xs.length c1);obtain⟨i0,hi,hz0,hz1,hz2⟩:=info_parts acu;obtain⟨_,p1,p2,p3⟩:=hx.sl.parts;have P3:=hide p3;have hx0:=hx.below hb0;have HB:=hb0;clear p3;go_enter Tryz.func138,Tryz.ntmps138
 go_wp2_with (at_builtin;refine wpList_append_lies _ rfl _ _ _ rfl w.heap.size 3 i0 _ 1 8 Tryz.underlying61 hi hz0 hz1 hz2 rfl (by omega) (.slice none 0 0) 0 [] rfl (World.ownsRow_nil _ _ _ _) ⟨b,off,none⟩ xs.length c1 (xs.map (Value.int .i64)) rfl (by simp) (Sl.copy hx0.sl) (ad1 xs) (by omega) (by unfold maxLen;omega) (by omega) (by simp;omega) (w.heap.size+2) (by simp) ?_)
 intro g1 q1 w1 hown hgrow hat hlt;have hb1:=Below.grown (Below.refl _ _) hgrow (Nat.le_refl _) (by intro k hk;simp[Value.ownBlock]at hk);have HB:=HB.trans (hb1.mono HB.size);have s1:=copied hown P3.out;replace bx:=bx.below hb1;replace br:=br.below hb1;clear hown hgrow hat hx0;go_wp2_with fail
 try rw[Nat.zero_add]
 refine(abx _ _ _ _ xs _ s1 hx.val).mono ?_;rintro e w2 ⟨ng2,r2,rfl,G2,l2,hb2⟩;replace HB:=HB.trans (hb2.mono HB.size);replace bx:=bx.below hb2;replace br:=br.below hb2;obtain⟨bx1,bx2,bx3,bx4⟩:=bx.facts;obtain⟨br1,br2,br3,br4⟩:=br.facts;all_goals
  have X:=hide (br.set ng2 (.slice (some ⟨g1,0,none⟩) r2.length q1)).facts;have Y:=hide (br.wh ng2 (.slice (some ⟨g1,0,none⟩) r2.length q1) G2);have Z:=hide (aag HB (show w.heap.size<=w.heap.size+1 by omega) (.bool ng2) (.slice (some ⟨g1,0,none⟩) r2.length q1));clear bx1 bx2 bx3 bx4;go_wp2;refine bodyPost_ret (v:=.agg #[.bool ng2,.slice (some ⟨g1,0,none⟩) r2.length q1]) ?_ rfl ⟨ng2,(some ⟨g1,0,none⟩),q1,r2,rfl,Y.out,by omega,Z.out⟩;simp[results,Tryz.results138,go_sem,X.out.1,X.out.2.1]
theorem adb(w:World):Sl w (.slice none ([]:List Int).length 0) []:=⟨none,0,rfl,Nat.le_refl _,by simp[maxLen],aad,.inl rfl⟩
theorem am7(w:World)(ng:Bool)(c1:Nat)(_hc:c1<=9223372036854775807):
  Calls Tryz.prog 74 #[.agg #[.bool ng,.slice none 0 c1]] w fun e w'=>∃ng' ao cap rs,e=.returned (.agg #[.bool ng',.slice ao rs.length cap])/\Wh w' ng' ao cap rs (sg (!ng) 0)/\rs.length<=0/\Below w.heap.size w w':=by
 obtain⟨w0,e0,bx,br,hb0,hs0⟩:=acr w ng (.slice none 0 c1);have E0:=hide e0;have HB:=hb0;clear e0 hs0;go_enter Tryz.func74,Tryz.ntmps74
 go_wp2_with fail
 rw[E0.out];obtain⟨bx1,bx2,bx3,bx4⟩:=bx.facts;obtain⟨br1,br2,br3,br4⟩:=br.facts;go_region_held3 (fun w'=>w'.cell? ⟨w.heap.size,0,none⟩=some (.bool ng)/\w'.cell? ⟨w.heap.size,1,none⟩=some (.slice none 0 c1)) (go_keep) (first
  | (go_at_call 114;refine(abx _ _ none 0 [] 0 (adb _) rfl).mono ?_;rintro e w2 ⟨ng2,r2,rfl,G2,l2,hb2⟩;have hb2':Below w0.heap.size w0 w2:=(show Below w0.heap.size w0 _ by repeat(first|exact Below.refl _ _|refine Below.drew ?_)).trans hb2;have HB:=HB.trans (hb2'.mono HB.size);replace bx:=bx.below hb2';clear bx1 bx2 bx3 bx4;obtain⟨bx1,bx2,bx3,bx4⟩:=bx.facts;replace br:=br.below hb2';clear br1 br2 br3 br4;obtain⟨br1,br2,br3,br4⟩:=br.facts))
 all_goals
  have X:=hide (br.set ng2 (.slice none r2.length 0)).facts;have Y:=hide (br.wh ng2 (.slice none r2.length 0) G2);have Z:=hide (aag HB (show w.heap.size<=w.heap.size+1 by omega) (.bool ng2) (.slice none r2.length 0));clear bx1 bx2 bx3 bx4;go_wp2;refine bodyPost_ret (v:=.agg #[.bool ng2,.slice none r2.length 0]) ?_ rfl ⟨ng2,none,0,r2,rfl,Y.out,by simpa using l2,Z.out⟩;simp[results,Tryz.results74,go_sem,X.out.1,X.out.2.1]
theorem am8(w:World)(ng:Bool)(ad:Addr)(c1:Nat)(_hc:c1<=9223372036854775807):
  Calls Tryz.prog 74 #[.agg #[.bool ng,.slice (some ad) 0 c1]] w fun e w'=>∃ng' ao cap rs,e=.returned (.agg #[.bool ng',.slice ao rs.length cap])/\Wh w' ng' ao cap rs (sg (!ng) 0)/\rs.length<=0/\Below w.heap.size w w':=by
 obtain⟨w0,e0,bx,br,hb0,hs0⟩:=acr w ng (.slice (some ad) 0 c1);have E0:=hide e0;have HB:=hb0;clear e0 hs0;go_enter Tryz.func74,Tryz.ntmps74
 go_wp2_with fail
 rw[E0.out];obtain⟨bx1,bx2,bx3,bx4⟩:=bx.facts;obtain⟨br1,br2,br3,br4⟩:=br.facts;go_region_held3 (fun w'=>w'.cell? ⟨w.heap.size,0,none⟩=some (.bool ng)/\w'.cell? ⟨w.heap.size,1,none⟩=some (.slice (some ad) 0 c1)) (go_keep) (first
  | (go_at_call 114;refine(abx _ _ none 0 [] 0 (adb _) rfl).mono ?_;rintro e w2 ⟨ng2,r2,rfl,G2,l2,hb2⟩;have hb2':Below w0.heap.size w0 w2:=(show Below w0.heap.size w0 _ by repeat(first|exact Below.refl _ _|refine Below.drew ?_)).trans hb2;have HB:=HB.trans (hb2'.mono HB.size);replace bx:=bx.below hb2';clear bx1 bx2 bx3 bx4;obtain⟨bx1,bx2,bx3,bx4⟩:=bx.facts;replace br:=br.below hb2';clear br1 br2 br3 br4;obtain⟨br1,br2,br3,br4⟩:=br.facts))
 all_goals
  have X:=hide (br.set ng2 (.slice none r2.length 0)).facts;have Y:=hide (br.wh ng2 (.slice none r2.length 0) G2);have Z:=hide (aag HB (show w.heap.size<=w.heap.size+1 by omega) (.bool ng2) (.slice none r2.length 0));clear bx1 bx2 bx3 bx4;go_wp2;refine bodyPost_ret (v:=.agg #[.bool ng2,.slice none r2.length 0]) ?_ rfl ⟨ng2,none,0,r2,rfl,Y.out,by simpa using l2,Z.out⟩;simp[results,Tryz.results74,go_sem,X.out.1,X.out.2.1]
theorem asb(w:World)(ng:Bool)(c1:Nat)(_hc:c1<=9223372036854775807):
  Calls Tryz.prog 138 #[.agg #[.bool ng,.slice none 0 c1]] w fun e w'=>∃ng' ao cap rs,e=.returned (.agg #[.bool ng',.slice ao rs.length cap])/\Wh w' ng' ao cap rs (sg false 0)/\rs.length<=0/\Below w.heap.size w w':=by
 obtain⟨w0,e0,bx,br,hb0,hs0⟩:=acr w ng (.slice none 0 c1);have E0:=hide e0;have HB:=hb0;clear e0 hs0;go_enter Tryz.func138,Tryz.ntmps138
 go_wp2_with fail
 rw[E0.out];obtain⟨bx1,bx2,bx3,bx4⟩:=bx.facts;obtain⟨br1,br2,br3,br4⟩:=br.facts;refine(abx _ _ none 0 [] 0 (adb _) rfl).mono ?_;rintro e w2 ⟨ng2,r2,rfl,G2,l2,hb2⟩;replace HB:=HB.trans (hb2.mono HB.size);replace bx:=bx.below hb2;replace br:=br.below hb2;clear bx1 bx2 bx3 bx4 br1 br2 br3 br4;obtain⟨bx1,bx2,bx3,bx4⟩:=bx.facts;obtain⟨br1,br2,br3,br4⟩:=br.facts;all_goals
  have X:=hide (br.set ng2 (.slice none r2.length 0)).facts;have Y:=hide (br.wh ng2 (.slice none r2.length 0) G2);have Z:=hide (aag HB (show w.heap.size<=w.heap.size+1 by omega) (.bool ng2) (.slice none r2.length 0));clear bx1 bx2 bx3 bx4;go_wp2;refine bodyPost_ret (v:=.agg #[.bool ng2,.slice none r2.length 0]) ?_ rfl ⟨ng2,none,0,r2,rfl,Y.out,by simpa using l2,Z.out⟩;simp[results,Tryz.results138,go_sem,X.out.1,X.out.2.1]
theorem asd(w:World)(ng:Bool)(ad:Addr)(c1:Nat)(_hc:c1<=9223372036854775807):
  Calls Tryz.prog 138 #[.agg #[.bool ng,.slice (some ad) 0 c1]] w fun e w'=>∃ng' ao cap rs,e=.returned (.agg #[.bool ng',.slice ao rs.length cap])/\Wh w' ng' ao cap rs (sg false 0)/\rs.length<=0/\Below w.heap.size w w':=by
 obtain⟨w0,e0,bx,br,hb0,hs0⟩:=acr w ng (.slice (some ad) 0 c1);have E0:=hide e0;have HB:=hb0;clear e0 hs0;go_enter Tryz.func138,Tryz.ntmps138
 go_wp2_with fail
 rw[E0.out];obtain⟨bx1,bx2,bx3,bx4⟩:=bx.facts;obtain⟨br1,br2,br3,br4⟩:=br.facts;refine(abx _ _ none 0 [] 0 (adb _) rfl).mono ?_;rintro e w2 ⟨ng2,r2,rfl,G2,l2,hb2⟩;replace HB:=HB.trans (hb2.mono HB.size);replace bx:=bx.below hb2;replace br:=br.below hb2;clear bx1 bx2 bx3 bx4 br1 br2 br3 br4;obtain⟨bx1,bx2,bx3,bx4⟩:=bx.facts;obtain⟨br1,br2,br3,br4⟩:=br.facts;all_goals
  have X:=hide (br.set ng2 (.slice none r2.length 0)).facts;have Y:=hide (br.wh ng2 (.slice none r2.length 0) G2);have Z:=hide (aag HB (show w.heap.size<=w.heap.size+1 by omega) (.bool ng2) (.slice none r2.length 0));clear bx1 bx2 bx3 bx4;go_wp2;refine bodyPost_ret (v:=.agg #[.bool ng2,.slice none r2.length 0]) ?_ rfl ⟨ng2,none,0,r2,rfl,Y.out,by simpa using l2,Z.out⟩;simp[results,Tryz.results138,go_sem,X.out.1,X.out.2.1]
theorem aj8(w:World)(ng:Bool)(a1:Option Addr)(c1:Nat)(xs:List Int)(x:Int)(hx:Got w a1 c1 xs x)(m1:xs.length<=1000000):
  Calls Tryz.prog 74 #[.agg #[.bool ng,.slice a1 xs.length c1]] w fun e w'=>∃ng' ao cap rs,e=.returned (.agg #[.bool ng',.slice ao rs.length cap])/\Wh w' ng' ao cap rs (sg (!ng) x)/\rs.length<=xs.length/\Below w.heap.size w w':=by
 by_cases h0:0<xs.length
 ·exact apk w ng a1 c1 xs x hx m1 h0
 ·have e:xs = []:=List.eq_nil_of_length_eq_zero (by omega);have hx0:x=0:=by rw[<-hx.val,e];rfl
  have hc:=hx.sl.parts.2.2.1;rw[hx0,e];cases a1 with
  |none=>exact am7 w ng c1 hc
  |some ad=>exact am8 w ng ad c1 hc
theorem anv(w:World)(ng:Bool)(a1:Option Addr)(c1:Nat)(xs:List Int)(x:Int)(hx:Got w a1 c1 xs x)(m1:xs.length<=1000000):
  Calls Tryz.prog 138 #[.agg #[.bool ng,.slice a1 xs.length c1]] w fun e w'=>∃ng' ao cap rs,e=.returned (.agg #[.bool ng',.slice ao rs.length cap])/\Wh w' ng' ao cap rs (sg false x)/\rs.length<=xs.length/\Below w.heap.size w w':=by
 by_cases h0:0<xs.length
 ·exact avj w ng a1 c1 xs x hx m1 h0
 ·have e:xs = []:=List.eq_nil_of_length_eq_zero (by omega);have hx0:x=0:=by rw[<-hx.val,e];rfl
  have hc:=hx.sl.parts.2.2.1;rw[hx0,e];cases a1 with
  |none=>exact asb w ng c1 hc
  |some ad=>exact asd w ng ad c1 hc
theorem ajf(w:World)(n1:Bool)(a1:Option Addr)(c1:Nat)(xs:List Int)(x:Int)(hx:Wh w n1 a1 c1 xs x)(m1:xs.length<=1000000):
  Calls Tryz.prog 74 #[.agg #[.bool n1,.slice a1 xs.length c1]] w fun e w'=>∃ng' ao cap rs,e=.returned (.agg #[.bool ng',.slice ao rs.length cap])/\Wh w' ng' ao cap rs (-x)/\rs.length<=xs.length/\Below w.heap.size w w':=by
 have wx:=hx.worth;rw[hx.1.val]at wx;rw[show -x=sg (!n1) (x.natAbs:Int) by rw[aic,wx]];exact aj8 w n1 a1 c1 xs _ hx.1 m1
end Dm
namespace Dm
open Go.RowKit
open Lm (hide aal aaa)
theorem a05(ng:Bool)(x:Int):sg ng x=Lm.sg ng x:=by cases ng <;> simp[sg,Lm.sg]
theorem Wh.nats{w:World}{ao:Option Addr}{cap:Nat}{rs:List Int}{x:Int}(h:Got w ao cap rs x):Wh w false ao cap rs x:=by
 have:=Wh.of false h;simpa[sg]using this
theorem a06(w:World)(ng:Bool)(a1:Option Addr)(n1 c1:Nat)(xs:List Int)(hx:Lm.Sl w (.slice a1 n1 c1) xs)(m1:xs.length<=100000):
  Calls Tryz.prog 67 #[.agg #[.bool ng,.slice a1 n1 c1]] w fun e w'=>∃ng' ao cap rs,e=.returned (.agg #[.bool ng',.slice ao rs.length cap])/\Wh w' ng' ao cap rs (Lm.sg ng (Lm.val xs))/\rs.length<=3*xs.length/\Below w.heap.size w w':=by
 obtain⟨w1,e1,bx,hb1,hs1⟩:=Lm.abv w ng (.slice a1 n1 c1);obtain⟨w2,e2,br,hb2,hs2⟩:=abv w1 false (.slice none 0 0);have E1:=hide e1;have E2:=hide e2;have HB:=hb1.trans (hb2.mono hb1.size);replace bx:=bx.below hb2;rw[hs1]at br;have hx2:=hx.below HB;have HS:w2.heap.size=w.heap.size+2:=by omega
 rw[<-a05];clear e1 e2 hb1 hb2 hs1 hs2;cases ng with
 |false=>
  go_enter Tryz.func67,Tryz.ntmps67
  go_upto_region 1 with fail
  rw[E1.out,E2.out];obtain⟨bx1,bx2,bx3,bx4⟩:=bx.facts;go_wp2_with fail
  refine(af8 _ _ _ _ xs hx2 (by omega)).mono ?_;rintro e w3 ⟨p3,q3,D3,rfl,G3,d3,hb3⟩;obtain⟨w4,e4,bn,hb4,hs4⟩:=abv w3 false (.slice p3 D3.length q3);have E4:=hide e4;have z3:=hb3.size;replace HB:=(HB.trans (hb3.mono HB.size)).trans (hb4.mono (Nat.le_trans HB.size z3));replace bx:=(bx.below hb3).below hb4;replace br:=(br.below hb3).below hb4;replace G3:=G3.below hb4;clear e4 hb3 hb4 bx1 bx2 bx3 bx4;go_upto_region 2 with fail
  rw[E4.out];obtain⟨bx1,bx2,bx3,bx4⟩:=bx.facts;obtain⟨br1,br2,br3,br4⟩:=br.facts;obtain⟨bn1,bn2,bn3,bn4⟩:=bn.facts;have F:=hide (br.set false (.slice p3 D3.length q3)).facts;have Y:=hide (br.wh false (.slice p3 D3.length q3) (Wh.nats G3));have Z:=hide (aag HB (show w.heap.size<=w.heap.size+1 by omega) (.bool false) (.slice p3 D3.length q3));go_wp2;refine bodyPost_ret (v:=.agg #[.bool false,.slice p3 D3.length q3]) ?_ rfl ⟨false,p3,q3,D3,rfl,Y.out,by omega,Z.out⟩;simp[results,Tryz.results67,go_sem,F.out.1,F.out.2.1]
 |true=>
  go_enter Tryz.func67,Tryz.ntmps67
  go_upto_region 1 with fail
  rw[E1.out,E2.out];obtain⟨bx1,bx2,bx3,bx4⟩:=bx.facts;go_wp2_with fail
  refine(af8 _ _ _ _ xs hx2 (by omega)).mono ?_;rintro e w3 ⟨p3,q3,D3,rfl,G3,d3,hb3⟩;obtain⟨w4,e4,bn,hb4,hs4⟩:=abv w3 false (.slice p3 D3.length q3);have E4:=hide e4;have z3:=hb3.size;replace HB:=(HB.trans (hb3.mono HB.size)).trans (hb4.mono (Nat.le_trans HB.size z3));replace bx:=(bx.below hb3).below hb4;replace br:=(br.below hb3).below hb4;replace G3:=G3.below hb4;clear e4 hb3 hb4 bx1 bx2 bx3 bx4;go_upto_region 2 with fail
  rw[E4.out];obtain⟨bx1,bx2,bx3,bx4⟩:=bx.facts;obtain⟨bn1,bn2,bn3,bn4⟩:=bn.facts;go_wp2_with fail
  refine(aj8 _ _ _ _ D3 _ G3 (by omega)).mono ?_;rintro e w5 ⟨n5,p5,q5,D5,rfl,G5,d5,hb5⟩;replace HB:=HB.trans (hb5.mono HB.size);replace br:=br.below hb5;clear bx1 bx2 bx3 bx4 bn1 bn2 bn3 bn4 hb5;obtain⟨br1,br2,br3,br4⟩:=br.facts;have F:=hide (br.set n5 (.slice p5 D5.length q5)).facts;have Y:=hide (br.wh n5 (.slice p5 D5.length q5) G5);have Z:=hide (aag HB (show w.heap.size<=w.heap.size+1 by omega) (.bool n5) (.slice p5 D5.length q5));go_wp2;refine bodyPost_ret (v:=.agg #[.bool n5,.slice p5 D5.length q5]) ?_ rfl ⟨n5,p5,q5,D5,rfl,Y.out,by omega,Z.out⟩;simp[results,Tryz.results67,go_sem,F.out.1,F.out.2.1]
theorem a07(w:World)(ng:Bool)(a1:Option Addr)(n1 c1:Nat)(xs:List Int)(x:Int)(hx:Lm.Ag w ng a1 n1 c1 xs x)(m1:xs.length<=100000):
  Calls Tryz.prog 67 #[.agg #[.bool ng,.slice a1 n1 c1]] w fun e w'=>∃ng' ao cap rs,e=.returned (.agg #[.bool ng',.slice ao rs.length cap])/\Wh w' ng' ao cap rs x/\rs.length<=3*xs.length/\Below w.heap.size w w':=by
 have h:=a06 w ng a1 n1 c1 xs hx.sl m1;rw[hx.worth]at h;exact h
structure WFr (B T:Nat) (w:World) (ng:Bool) (ao:Option Addr) (cap:Nat) (rs:List Int) (z:Int):Prop where
 fr:Lm.Fr B T w ao cap rs (z.natAbs:Int)
 sgn:ng=decide (z<0)
theorem WFr.wh{B T:Nat}{w:World}{ng:Bool}{ao:Option Addr}{cap:Nat}{rs:List Int}{z:Int}(h:WFr B T w ng ao cap rs z):Lm.Wh w ng ao cap rs z:=⟨h.fr.got,h.sgn⟩
theorem WFr.kept{B T:Nat}{w w':World}{ng:Bool}{ao:Option Addr}{cap:Nat}{rs:List Int}{z:Int}(h:WFr B T w ng ao cap rs z)(hk:∀g,g<w.heap.size->B<=g->g<T->w'.heap[g]? = w.heap[g]?):WFr B T w' ng ao cap rs z:=⟨h.fr.kept hk,h.sgn⟩
theorem WFr.kp{B T p:Nat}{bs:List Nat}{w w':World}{ng:Bool}{ao:Option Addr}{cap:Nat}{rs:List Int}{z:Int}(h:WFr B T w ng ao cap rs z)(k:Lm.Kp w w' p bs)(hp:p<B\/T<=p)(hb:∀j,j∈bs->j<B\/T<=j):WFr B T w' ng ao cap rs z:=⟨h.fr.kp k hp hb,h.sgn⟩
theorem WFr.wide{B B' T T':Nat}{w:World}{ng:Bool}{ao:Option Addr}{cap:Nat}{rs:List Int}{z:Int}(h:WFr B T w ng ao cap rs z)(hB:B'<=B)(hT:T<=T'):WFr B' T' w ng ao cap rs z:=
 ⟨⟨h.fr.ow.mono hB,h.fr.canon,h.fr.val,fun h0 g off e=>by have:=h.fr.lies h0 g off e;omega⟩,h.sgn⟩
theorem aj9{w:World}{k:Nat}(b u:Value){g:Nat}(h:g≠k):((w.setCell ⟨k,0,none⟩ b).setCell ⟨k,1,none⟩ u).heap[g]? = w.heap[g]? :=by
 rw[heap_setCell_other _ ⟨k,1,none⟩ g _ h,heap_setCell_other _ ⟨k,0,none⟩ g _ h]
theorem az6(w:World)(ng:Bool)(ao:Option Addr)(cap:Nat)(rs:List Int)(z:Int)(h:Wh w ng ao cap rs z)(M:Nat)(hz:(z.natAbs:Int)<Lm.pw M)(hM:M<=1000000)(hl:rs.length<=1000000):
  Calls Tryz.prog 45 #[.agg #[.bool ng,.slice ao rs.length cap]] w fun e w'=>∃bo dap ls,e=.returned (.agg #[.bool ng,.slice bo ls.length dap])/\WFr w.heap.size w'.heap.size w' ng bo dap ls z/\ls.length<=M/\Below w.heap.size w w':=by
 obtain⟨w1,e1,bx,hb1,hs1⟩:=abv w ng (.slice ao rs.length cap);obtain⟨w2,e2,br,hb2,hs2⟩:=Lm.abv w1 false (.slice none 0 0);have E1:=hide e1;have E2:=hide e2;have HB:=hb1.trans (hb2.mono hb1.size);replace bx:=bx.below hb2;rw[hs1]at br;have h2:=h.below HB;have HS:w2.heap.size=w.heap.size+2:=by omega
 have HSG:=hide h.2;have HZ:=hide hz;have ne1:¬(w.heap.size=w.heap.size+1):=by omega
 have ne2:¬(w.heap.size+1=w.heap.size):=by omega
 clear e1 e2 hb1 hb2 hs1 hs2 hz;go_enter Tryz.func45,Tryz.ntmps45
 go_upto_region 1 with fail
 rw[E1.out,E2.out];obtain⟨bx1,bx2,bx3,bx4⟩:=bx.facts;obtain⟨br1,br2,br3,br4⟩:=br.facts;go_region_held3 (fun w'=>w'.cell? ⟨w.heap.size,0,none⟩=some (.bool ng)/\w'.cell? ⟨w.heap.size,1,none⟩=some (.slice ao rs.length cap)) (go_keep) (first
  | (go_at_call 69;refine(agh _ _ _ _ rs _ (h2.1.below (by repeat(first|exact Below.refl _ _|refine Below.drew ?_))) M HZ.out hM hl).mono ?_;rintro e w1' ⟨v1,rfl,I1,hb1⟩;have hb1':Below w2.heap.size w2 w1':=(show Below w2.heap.size w2 _ by repeat(first|exact Below.refl _ _|refine Below.drew ?_)).trans hb1;obtain⟨p1,q1,r1,rfl,F1⟩:=I1.fr;clear I1;replace bx:=bx.below hb1';clear bx1 bx2 bx3 bx4;obtain⟨bx1,bx2,bx3,bx4⟩:=bx.facts;replace br:=br.below hb1';clear br1 br2 br3 br4;obtain⟨br1,br2,br3,br4⟩:=br.facts))
 all_goals
  have HB2:=HB.trans (hb1'.mono HB.size);have F:=hide (br.set ng (.slice p1 r1.length q1)).facts;have hkk:=aaa br;have Y:=hide (show WFr w2.heap.size w1'.heap.size _ ng p1 q1 r1 z from(WFr.kept (w:=w1') ⟨F1,HSG.out⟩ (fun g _ hg _=>aj9 (.bool ng) (.slice p1 r1.length q1) (show g≠w.heap.size+1 by omega))));have Z:=hide (aag HB2 (show w.heap.size<=w.heap.size+1 by omega) (.bool ng) (.slice p1 r1.length q1));have LL:=hide (Lm.aau F1.canon (m:=M) (by rw[F1.val];exact HZ.out));clear bx1 bx2 bx3 bx4;go_wp2;refine bodyPost_ret (v:=.agg #[.bool ng,.slice p1 r1.length q1]) ?_ rfl ⟨p1,q1,r1,rfl,Y.out.wide (by omega) (by simp[World.setCell]),LL.out,Z.out⟩;simp[results,Tryz.results45,go_sem,F.out.1,F.out.2.1]
end Dm
namespace Lm
open Go.RowKit
theorem aka{w:World}{B e n:Nat}{a:Option Addr}{c:Nat}{xs:List Value}(h:w.ownsRow B e 1 (.slice a n c) n xs){i:Nat}(hi:i<n):∃g u,a=some ⟨g,0,none⟩/\xs[i]? = some u/\w.cell? ⟨g,i,none⟩=some u:=by
 have hl:=h.1;rcases h.2 with⟨e,rfl⟩|⟨g,cap,cur,e,_,hh,h1,h2,hs,ht⟩
 ·omega
 ·simp only[Value.slice.injEq]at e;obtain⟨rfl,_,rfl⟩:=e;have hx:xs[i]? = some (xs[i]'(by omega)):=List.getElem?_eq_getElem (by omega);refine⟨g,_,rfl,hx,?_⟩;rw[cell_of_row w g i cur _ (0,0) hh,<-Array.getElem?_toList,<-hx,<-ht,List.getElem?_take,if_pos (by omega)]
theorem avk(w:World)(p Q:Nat)(bs:List Nat)(rv:List Value)(lv mv:Value)(hk:Bk w p Q bs rv rv.length lv mv)(_hr:rv.length<=100000):
  Calls Tryz.prog 17 #[.pointer (some ⟨p,0,none⟩)] w fun e w'=>e=.returned (.bool true)/\Below w.heap.size w w':=by
 obtain⟨al,cl,rfl,al1,al2⟩:=abp hk.lists;obtain⟨am,cm,rfl,am1,am2⟩:=abp hk.marks;go_enter Tryz.func17,Tryz.ntmps17
 go_wp2;go_loopw [3] (fun iv wr=>∃i:Nat,i<=rv.length/\iv=.int .i64 i/\Below w.heap.size w wr) (fun iv _=>rv.length-(intOf iv).toNat)
 case atStart=>exact⟨0,Nat.zero_le _,rfl,Below.refl _ _⟩
 case round=>
  obtain⟨i,hi,rfl,hbel⟩:=hrel;obtain⟨k0,k1,k2,k3⟩:=(hk.below hbel).facts;by_cases hlt:i<rv.length
  ·have dI:(i:Int)<(rv.length:Int):=by omega
   have HBL:=hide hbel;clear hbel;go_wp2;clear k0 k1 k2 k3;obtain⟨g1,u,rfl,hu,hc1⟩:=aka hk.lists hlt;obtain⟨g2,u2,rfl,hu2,hc2⟩:=aka hk.marks hlt;rw[ave hlt]at hu2;simp only[Option.some.injEq]at hu2;subst hu2;obtain⟨ao,n,cap,rfl,n1,n2,n3,n4⟩:=hk.rooms i u hu;have C1:=hide hc1;have C2:=hide hc2;have N4:=hide n4;clear hc1 hc2 n4 hu;go_loopw [4] (fun kv wr=>∃k:Nat,k<=n/\kv=.int .i64 k/\Below w.heap.size w wr) (fun kv _=>n-(intOf kv).toNat)
   case atStart=>exact⟨0,Nat.zero_le _,rfl,HBL.out⟩
   case round=>
    clear HBL;obtain⟨k,hkn,rfl,hbel⟩:=hrel;obtain⟨k0,k1,k2,k3⟩:=(hk.below hbel).facts;have c1:=(hbel.cell (p:=⟨g1,i,none⟩) (aal C1.out)).trans C1.out;have c2:=(hbel.cell (p:=⟨g2,i,none⟩) (aal C2.out)).trans C2.out;by_cases hlt2:k<n
    ·have dK:(k:Int)<(n:Int):=by omega
     rcases N4.out with h0|⟨g,off,rfl,_,_,_,hc⟩
     ·omega
     have c3:=(hbel.cell (p:=⟨g,off+k,none⟩) (aal (hc k hlt2))).trans (hc k hlt2);clear hc N4;simp only[bmk]at c2 c3;go_wp2;go_quiet (fail)
     go_wp2;go_roundw
     case rel=>exact⟨k+1,by omega,by go_num,below_drewN hbel _⟩
     case measure=>simp[intOf];omega
    ·have dK:¬(k:Int)<(n:Int):=by omega
     go_wp2;go_roundw
     case rel=>exact⟨i+1,by omega,by go_num,hbel⟩
     case measure=>simp[intOf];omega
  ·have dI:¬(i:Int)<(rv.length:Int):=by omega
   go_wp2;go_ret;exact⟨rfl,hbel⟩
theorem az7(w:World)(p Q n:Nat)(bs:List Nat)(hb:Bs w p Q bs n)(hn:n<=100000):
  Calls Tryz.prog 17 #[.pointer (some ⟨p,0,none⟩)] w fun e w'=>e=.returned (.bool true)/\Below w.heap.size w w':=by
 obtain⟨rv,lv,mv,rfl,hk⟩:=hb;exact avk w p Q bs rv lv mv hk hn
end Lm
namespace Lm
open Go.RowKit
def IsLen(x:Int)(n:Nat):Prop:=∃rs,Canon rs/\val rs=x/\rs.length=n
theorem agi{x:Int}{m n:Nat}(h:IsLen x m)(h':IsLen x n):m=n:=by
 obtain⟨rs,c,v,rfl⟩:=h;obtain⟨ss,c',v',rfl⟩:=h';rw[acb c c' (by rw[v,v'])]
theorem apl{x:Int}{k n:Nat}(h:IsLen x n)(hb:IsBits x k):(k+31)/32=n:=by
 obtain⟨rs,c,v,rfl⟩:=h;have hu:=(aac c.1).2;rw[v,aea]at hu;by_cases h0:rs.length=0
 ·have e:rs = []:=List.eq_nil_of_length_eq_zero h0;subst e;have:x=0:=by rw[<-v];rfl
  subst this;rw[ag7 hb];rfl
 ·have hlow:pw (rs.length-1)<=x:=by
   apply Classical.byContradiction;intro hn;have:=aau c (m:=rs.length-1) (by rw[v];omega);omega
  rw[aea]at hlow;have h1:32*(rs.length-1)<k:=by
   apply Classical.byContradiction;intro hn;have:=adj (m:=k) (n:=32*(rs.length-1)) (by omega);have:=hb.1;omega
  have h2:k<=32*rs.length:=by
   rcases hb.2 with h|h
   ·omega
   ·apply Classical.byContradiction;intro hn;have:=adj (m:=32*rs.length) (n:=k-1) (by omega);omega
  omega
theorem apm(w:World)(ng:Bool)(ao:Option Addr)(n cap:Nat)(zs:List Int)(h:Sl w (.slice ao n cap) zs)(hz:zs.length<=1000000)(m:Nat)(hm:IsLen (val zs) m):
  Calls Tryz.prog 41 #[.agg #[.bool ng,.slice ao n cap]] w fun e w'=>e=.returned (.int .i64 m)/\Below w.heap.size w w':=by
 obtain⟨w0,e0,bx,hb0,hs0⟩:=abv w ng (.slice ao n cap);have E0:=hide e0;have h0:=h.below hb0;have hu:=(aac h.parts.2.2.2).2;clear e0 hs0;go_enter Tryz.func41,Tryz.ntmps41
 go_wp2_with fail
 rw[E0.out];obtain⟨c0,c1,f0,f1⟩:=bx.facts;refine(aen _ _ _ _ zs h0 hz).mono ?_;rintro e w1 ⟨l,rfl,t,rfl⟩;have hl:=apl hm t;have hle:l<=32000000:=by
  rcases t.2 with h|h
  ·omega
  ·apply Classical.byContradiction;intro hn;rw[aea]at hu;have:=adj (m:=32*zs.length) (n:=l-1) (by omega);omega
 have HL:=hide hl;clear t hl hm hu;go_wp2;go_ret;have hl:=HL.out;exact⟨adh (by omega),hb0⟩
end Lm
namespace Lm
open Go Go.RowKit
open Dm (WFr)
theorem Ow.ru{B:Nat}{w w':World}{v:Value}{zs:List Int}(h:Ow B w v zs)(hr:Ru w w'):Ow B w' v zs:=by
 obtain⟨ao,cap,rfl,h1,h2,h3,h4⟩:=h;refine⟨ao,cap,rfl,h1,h2,h3,?_⟩;rcases h4 with h4|⟨g,off,cur,rfl,hB,hh,r⟩
 ·exact .inl h4
 ·exact .inr ⟨g,off,cur,rfl,hB,hr.rows g cur hh,r⟩
theorem Fr.ru{B T:Nat}{w w':World}{ao:Option Addr}{cap:Nat}{rs:List Int}{x:Int}(h:Fr B T w ao cap rs x)(hr:Ru w w'):Fr B T w' ao cap rs x:=⟨h.ow.ru hr,h.canon,h.val,h.lies⟩
theorem _root_.Go.Proofs.YtnamacnblomgcaaGreat.Dm.WFr.ru{B T:Nat}{w w':World}{ng:Bool}{ao:Option Addr}{cap:Nat}{rs:List Int}{z:Int}(h:WFr B T w ng ao cap rs z)(hr:Ru w w'):WFr B T w' ng ao cap rs z:=⟨h.fr.ru hr,h.sgn⟩
def FrW(K:Nat)(z:Int)(L:Nat):Says:=fun v w=>∃ng ao cap rs B T,v=.agg #[.bool ng,.slice ao rs.length cap]/\WFr B T w ng ao cap rs z/\K<=B/\T<=w.heap.size/\rs.length<=L
theorem FrW.mono5(K:Nat)(z:Int)(L:Nat):Mono5 (FrW K z L):=fun _ _ _ hr ⟨ng,ao,cap,rs,B,T,e,h,h1,h2,l⟩=>⟨ng,ao,cap,rs,B,T,e,h.ru hr,h1,Nat.le_trans h2 hr.size,l⟩
theorem FrW.mono4(K:Nat)(z:Int)(L:Nat):Mono4 (FrW K z L):=fun v w w' hr h=>FrW.mono5 K z L v w w' (Ru.of_rl hr) h
theorem FrW.out{z:Int}{L K:Nat}{v:Value}{w:World}: FrW K z L v w->OutW z L v w:=fun⟨ng,ao,cap,rs,_,_,e,h,_,_,l⟩=>⟨ng,ao,cap,rs,e,h.wh,l⟩
section
end
section
variable {dst:Option Tmp} {ty:TypeId} {pos:String} {after:Array Edge} {guard:Option (Nat×Bool)} {a:Act} {w:World} {ats:Array TypeId} {i j:Nat} {x y z u:Int} {L L1 L2:Nat}
theorem avl{b:Bool}(h1:a.eval (.tmp i)=.bool b)(h2:a.eval (.tmp j)=.bool b):
  Does Tryz.prog {dst,op:=.binOp .eql 4 (.tmp i) (.tmp j) 4,type:=ty,pos,after,guard} a.eval w fun v' w'=>Below w.heap.size w w'/\Eqs (.bool true) v' w':=by
 have:=axn (dst:=dst) (ty:=ty) (pos:=pos) (after:=after) (guard:=guard) (w:=w) h1 h2;rwa[beq_self_eq_true]at this
end
section
end
theorem avm{ng:Bool}{ao:Option Addr}{n c:Nat}{w:World}{xs:List Int}{z:Int}(h:Ag w ng ao n c xs z):∃m,IsLen (z.natAbs:Int) m:=by
 have hv:=(aac h.sl.parts.2.2.2).1;refine⟨_,xs.take (tl xs),aa5 h.sl.parts.2.2.2,?_,rfl⟩;rw[aak,<-h.worth];cases ng <;> simp[sg] <;> omega
end Lm
namespace Lm
open Go.RowKit
theorem alt(w:World)(a1:Option Addr)(n1 c1:Nat)(xs:List Int)(hx:Sl w (.slice a1 n1 c1) xs)(ny:Bool)(a2:Option Addr)(n2 c2:Nat)(ys:List Int)(hy:Sl w (.slice a2 n2 c2) ys)(hm1:xs.length<=400000)(hm2:ys.length<=400000)(h0:val ys≠0):
  Calls Tryz.prog 119 #[.agg #[.bool false,.slice a1 n1 c1],.agg #[.bool ny,.slice a2 n2 c2]] w fun e w'=>∃nq aq cq qs nr ar cr rs B1 T1 B2 T2,e=.returned (.tuple #[.agg #[.bool nq,.slice aq qs.length cq],.agg #[.bool nr,.slice ar rs.length cr],.bool true])/\Wh w' nq aq cq qs (sg false (val xs)/sg ny (val ys))/\Wh w' nr ar cr rs (sg false (val xs)%sg ny (val ys))/\qs.length<=xs.length+4/\rs.length<=ys.length/\Li B1 T1 w' aq cq qs/\Li B2 T2 w' ar cr rs/\(w.heap.size<=B1/\T1<=w'.heap.size/\w.heap.size<=B2/\T2<=w'.heap.size/\∀j,B1<=j->j<T1->j<B2\/T2<=j)/\Below w.heap.size w w':=by
 obtain⟨w0,e0,bx,by',bq,br,hb0,hs0⟩:=ail w false (.slice a1 n1 c1) ny (.slice a2 n2 c2);have E0:=hide e0;have hx0:=hx.below hb0;have hy0:=hy.below hb0;have HS0:=hide hs0;clear e0 hs0;have PY:Hid (0<val ys):=by have:=(aac hy.parts.2.2.2).1;show _<_;omega
 have LY:=hide hy.parts.2.2.2;have H0:=hide h0;clear h0;go_enter Tryz.func119,Tryz.ntmps119
 go_wp2_with fail
 rw[E0.out];refine(aep _ _ _ _ _ _ _ xs ys hx0 hy0 (by omega) H0.out).mono ?_;rintro e w1 ⟨p1,q1,r1,p2,q2,r2,B1,T1,B2,T2,rfl,G1,G2,l1,l2,o1,o2,oo,hb1⟩;have HB:Below w0.heap.size w0 w1:=hb1;obtain⟨xa,xb,xc,xd⟩:=(bx.below HB).facts;obtain⟨ya,yb,yc,yd⟩:=(by'.below HB).facts;go_wp2_with fail
 refine(abr _ _ _ _ r1 _ G1 (by omega)).mono ?_;rintro e w7 ⟨ng7,rfl,G7,hb7⟩;replace HB:=HB.trans (hb7.mono HB.size);have G2':=G2.below hb7;clear xa xb xc xd ya yb yc yd;obtain⟨xa,xb,xc,xd⟩:=(bx.below HB).facts;obtain⟨ya,yb,yc,yd⟩:=(by'.below HB).facts;go_wp2_with fail
 refine(abr _ _ _ _ r2 _ G2' (by omega)).mono ?_;rintro e w8 ⟨ng8,rfl,G8,hb8⟩;replace HB:=HB.trans (hb8.mono HB.size);replace G7:=G7.below hb8;clear xa xb xc xd ya yb yc yd;have bq8:=bq.below HB;have br8:=br.below HB;obtain⟨qa,qb,qc,qd⟩:=bq8.facts;obtain⟨ra,rb,rc,rd⟩:=br8.facts;have VQ:Hid (sg ny (val xs/val ys)=sg false (val xs)/sg ny (val ys)/\sg false (val xs%val ys)=sg false (val xs)%sg ny (val ys)):=by have h:=alh ny (val xs) (val ys);rwa[show(false != ny)=ny by cases ny <;> rfl]at h
 have Y1:=hide ((br8.other (show w.heap.size+1+1+1≠w.heap.size+1+1 by omega) (.bool ng7) (.slice p1 r1.length q1)).wh ng8 (.slice p2 r2.length q2) (bq8.wh ng7 (.slice p1 r1.length q1) G7));have Y2:=hide ((br8.other (show w.heap.size+1+1+1≠w.heap.size+1+1 by omega) (.bool ng7) (.slice p1 r1.length q1)).wh ng8 (.slice p2 r2.length q2) (bq8.wh ng7 (.slice p1 r1.length q1) G8));have F:=hide (agw (nq:=ng7) (vq:=.slice p1 r1.length q1) (nr:=ng8) (vr:=.slice p2 r2.length q2) bq8 br8 (by omega));have Z:=hide (hb0.trans (HB.mono hb0.size));have Z2:=hide (aag (aag Z.out (show w.heap.size<=w.heap.size+1+1 by omega) (.bool ng7) (.slice p1 r1.length q1)) (show w.heap.size<=w.heap.size+1+1+1 by omega) (.bool ng8) (.slice p2 r2.length q2));have hs9:=HS0.out;have s_hb1:=hb1.size;have s_hb7:=hb7.size;have s_hb8:=hb8.size;obtain⟨oo1,oo2,oo3,oo4,oo5⟩:=oo;have O1:=hide ((((o1.below hb7).below hb8).set2 (w.heap.size+1+1) (by omega) (.bool ng7) (.slice p1 r1.length q1)).set2 (w.heap.size+1+1+1) (by omega) (.bool ng8) (.slice p2 r2.length q2));have O2:=hide ((((o2.below hb7).below hb8).set2 (w.heap.size+1+1) (by omega) (.bool ng7) (.slice p1 r1.length q1)).set2 (w.heap.size+1+1+1) (by omega) (.bool ng8) (.slice p2 r2.length q2));have hsz:((((w8.setCell ⟨w.heap.size+1+1,0,none⟩ (.bool ng7)).setCell ⟨w.heap.size+1+1,1,none⟩ (.slice p1 r1.length q1)).setCell ⟨w.heap.size+1+1+1,0,none⟩ (.bool ng8)).setCell ⟨w.heap.size+1+1+1,1,none⟩ (.slice p2 r2.length q2)).heap.size=w8.heap.size:=by simp[World.setCell]
 have OO:Hid (B1≥w.heap.size/\T1<=w8.heap.size/\B2≥w.heap.size/\T2<=w8.heap.size/\∀j,B1<=j->j<T1->j<B2\/T2<=j):=⟨by omega,by omega,by omega,by omega,oo5⟩;rw[<-hsz]at OO;clear hsz;go_wp2;refine bodyPost_ret (v:=.tuple #[.agg #[.bool ng7,.slice p1 r1.length q1],.agg #[.bool ng8,.slice p2 r2.length q2],.bool true]) ?_ rfl ⟨ng7,p1,q1,r1,ng8,p2,q2,r2,B1,T1,B2,T2,rfl,by rw[<-VQ.out.1];exact Y1.out,by rw[<-VQ.out.2];exact Y2.out,by omega,by omega,O1.out,O2.out,OO.out,Z2.out⟩;simp[results,Tryz.results119,go_sem,F.out.1.facts.1,F.out.1.facts.2.1,F.out.2.facts.1,F.out.2.facts.2.1]
theorem ako(w:World)(a1:Option Addr)(n1 c1:Nat)(xs:List Int)(hx:Sl w (.slice a1 n1 c1) xs)(ny:Bool)(a2:Option Addr)(n2 c2:Nat)(ys:List Int)(hy:Sl w (.slice a2 n2 c2) ys)(hm1:xs.length<=400000)(_hm2:ys.length<=400000)(h0:val ys≠0)(hev:val xs%val ys=0):
  Calls Tryz.prog 119 #[.agg #[.bool true,.slice a1 n1 c1],.agg #[.bool ny,.slice a2 n2 c2]] w fun e w'=>∃nq aq cq qs nr ar cr rs B1 T1 B2 T2,e=.returned (.tuple #[.agg #[.bool nq,.slice aq qs.length cq],.agg #[.bool nr,.slice ar rs.length cr],.bool true])/\Wh w' nq aq cq qs (sg true (val xs)/sg ny (val ys))/\Wh w' nr ar cr rs (sg true (val xs)%sg ny (val ys))/\qs.length<=xs.length+4/\rs.length<=ys.length/\Li B1 T1 w' aq cq qs/\Li B2 T2 w' ar cr rs/\(w.heap.size<=B1/\T1<=w'.heap.size/\w.heap.size<=B2/\T2<=w'.heap.size/\∀j,B1<=j->j<T1->j<B2\/T2<=j)/\Below w.heap.size w w':=by
 obtain⟨w0,e0,bx,by',bq,br,hb0,hs0⟩:=ail w true (.slice a1 n1 c1) ny (.slice a2 n2 c2);have E0:=hide e0;have hx0:=hx.below hb0;have hy0:=hy.below hb0;have HS0:=hide hs0;clear e0 hs0;have PY:Hid (0<val ys):=by have:=(aac hy.parts.2.2.2).1;show _<_;omega
 have LY:=hide hy.parts.2.2.2;have H0:=hide h0;have HE:=hide hev;clear hev;clear h0;go_enter Tryz.func119,Tryz.ntmps119
 go_wp2_with fail
 rw[E0.out];refine(aep _ _ _ _ _ _ _ xs ys hx0 hy0 (by omega) H0.out).mono ?_;rintro e w1 ⟨p1,q1,r1,p2,q2,r2,B1,T1,B2,T2,rfl,G1,G2,l1,l2,o1,o2,oo,hb1⟩;have HB:Below w0.heap.size w0 w1:=hb1;have hr2:¬0<(r2.length:Int):=by
  have h9:r2 = []:=(ac3 G2.canon).1 (by rw[G2.val];exact HE.out);rw[h9];simp
 obtain⟨xa,xb,xc,xd⟩:=(bx.below HB).facts;obtain⟨ya,yb,yc,yd⟩:=(by'.below HB).facts;go_wp2_with fail
 refine(abr _ _ _ _ r1 _ G1 (by omega)).mono ?_;rintro e w7 ⟨ng7,rfl,G7,hb7⟩;replace HB:=HB.trans (hb7.mono HB.size);have G2':=G2.below hb7;clear xa xb xc xd ya yb yc yd;obtain⟨xa,xb,xc,xd⟩:=(bx.below HB).facts;obtain⟨ya,yb,yc,yd⟩:=(by'.below HB).facts;go_wp2_with fail
 refine(abr _ _ _ _ r2 _ G2' (by omega)).mono ?_;rintro e w8 ⟨ng8,rfl,G8,hb8⟩;replace HB:=HB.trans (hb8.mono HB.size);replace G7:=G7.below hb8;clear xa xb xc xd ya yb yc yd;have bq8:=bq.below HB;have br8:=br.below HB;obtain⟨qa,qb,qc,qd⟩:=bq8.facts;obtain⟨ra,rb,rc,rd⟩:=br8.facts;have VQ:Hid (sg (!ny) (val xs/val ys)=sg true (val xs)/sg ny (val ys)/\sg false (val xs%val ys)=sg true (val xs)%sg ny (val ys)):=by have h:=arv true ny PY.out HE.out;rwa[show(true != ny) = !ny by cases ny <;> rfl]at h
 have Y1:=hide ((br8.other (show w.heap.size+1+1+1≠w.heap.size+1+1 by omega) (.bool ng7) (.slice p1 r1.length q1)).wh ng8 (.slice p2 r2.length q2) (bq8.wh ng7 (.slice p1 r1.length q1) G7));have Y2:=hide ((br8.other (show w.heap.size+1+1+1≠w.heap.size+1+1 by omega) (.bool ng7) (.slice p1 r1.length q1)).wh ng8 (.slice p2 r2.length q2) (bq8.wh ng7 (.slice p1 r1.length q1) G8));have F:=hide (agw (nq:=ng7) (vq:=.slice p1 r1.length q1) (nr:=ng8) (vr:=.slice p2 r2.length q2) bq8 br8 (by omega));have Z:=hide (hb0.trans (HB.mono hb0.size));have Z2:=hide (aag (aag Z.out (show w.heap.size<=w.heap.size+1+1 by omega) (.bool ng7) (.slice p1 r1.length q1)) (show w.heap.size<=w.heap.size+1+1+1 by omega) (.bool ng8) (.slice p2 r2.length q2));have hs9:=HS0.out;have s_hb1:=hb1.size;have s_hb7:=hb7.size;have s_hb8:=hb8.size;obtain⟨oo1,oo2,oo3,oo4,oo5⟩:=oo;have O1:=hide ((((o1.below hb7).below hb8).set2 (w.heap.size+1+1) (by omega) (.bool ng7) (.slice p1 r1.length q1)).set2 (w.heap.size+1+1+1) (by omega) (.bool ng8) (.slice p2 r2.length q2));have O2:=hide ((((o2.below hb7).below hb8).set2 (w.heap.size+1+1) (by omega) (.bool ng7) (.slice p1 r1.length q1)).set2 (w.heap.size+1+1+1) (by omega) (.bool ng8) (.slice p2 r2.length q2));have hsz:((((w8.setCell ⟨w.heap.size+1+1,0,none⟩ (.bool ng7)).setCell ⟨w.heap.size+1+1,1,none⟩ (.slice p1 r1.length q1)).setCell ⟨w.heap.size+1+1+1,0,none⟩ (.bool ng8)).setCell ⟨w.heap.size+1+1+1,1,none⟩ (.slice p2 r2.length q2)).heap.size=w8.heap.size:=by simp[World.setCell]
 have OO:Hid (B1≥w.heap.size/\T1<=w8.heap.size/\B2≥w.heap.size/\T2<=w8.heap.size/\∀j,B1<=j->j<T1->j<B2\/T2<=j):=⟨by omega,by omega,by omega,by omega,oo5⟩;rw[<-hsz]at OO;clear hsz;go_wp2;refine bodyPost_ret (v:=.tuple #[.agg #[.bool ng7,.slice p1 r1.length q1],.agg #[.bool ng8,.slice p2 r2.length q2],.bool true]) ?_ rfl ⟨ng7,p1,q1,r1,ng8,p2,q2,r2,B1,T1,B2,T2,rfl,by rw[<-VQ.out.1];exact Y1.out,by rw[<-VQ.out.2];exact Y2.out,by omega,by omega,O1.out,O2.out,OO.out,Z2.out⟩;simp[results,Tryz.results119,go_sem,F.out.1.facts.1,F.out.1.facts.2.1,F.out.2.facts.1,F.out.2.facts.2.1]
theorem alu(w:World)(a1:Option Addr)(n1 c1:Nat)(xs:List Int)(hx:Sl w (.slice a1 n1 c1) xs)(ny:Bool)(a2:Option Addr)(n2 c2:Nat)(ys:List Int)(hy:Sl w (.slice a2 n2 c2) ys)(hm1:xs.length<=400000)(hm2:ys.length<=400000)(h0:val ys≠0)(hod:val xs%val ys≠0):
  Calls Tryz.prog 119 #[.agg #[.bool true,.slice a1 n1 c1],.agg #[.bool ny,.slice a2 n2 c2]] w fun e w'=>∃nq aq cq qs nr ar cr rs B1 T1 B2 T2,e=.returned (.tuple #[.agg #[.bool nq,.slice aq qs.length cq],.agg #[.bool nr,.slice ar rs.length cr],.bool true])/\Wh w' nq aq cq qs (sg true (val xs)/sg ny (val ys))/\Wh w' nr ar cr rs (sg true (val xs)%sg ny (val ys))/\qs.length<=xs.length+4/\rs.length<=ys.length/\Li B1 T1 w' aq cq qs/\Li B2 T2 w' ar cr rs/\(w.heap.size<=B1/\T1<=w'.heap.size/\w.heap.size<=B2/\T2<=w'.heap.size/\∀j,B1<=j->j<T1->j<B2\/T2<=j)/\Below w.heap.size w w':=by
 obtain⟨w0,e0,bx,by',bq,br,hb0,hs0⟩:=ail w true (.slice a1 n1 c1) ny (.slice a2 n2 c2);have E0:=hide e0;have hx0:=hx.below hb0;have hy0:=hy.below hb0;have HS0:=hide hs0;clear e0 hs0;have PY:Hid (0<val ys):=by have:=(aac hy.parts.2.2.2).1;show _<_;omega
 have LY:=hide hy.parts.2.2.2;have H0:=hide h0;have HE:=hide hod;clear hod;clear h0;go_enter Tryz.func119,Tryz.ntmps119
 go_wp2_with fail
 rw[E0.out];refine(aep _ _ _ _ _ _ _ xs ys hx0 hy0 (by omega) H0.out).mono ?_;rintro e w1 ⟨p1,q1,r1,p2,q2,r2,B1,T1,B2,T2,rfl,G1,G2,l1,l2,o1,o2,oo,hb1⟩;have HB:Below w0.heap.size w0 w1:=hb1;have hr2:0<(r2.length:Int):=by
  have h9:r2≠[]:=fun e=>HE.out (by rw[<-G2.val];exact(ac3 G2.canon).2 e)
  have h8:r2.length≠0:=fun e=>h9 (List.eq_nil_of_length_eq_zero e)
  omega
 obtain⟨xa,xb,xc,xd⟩:=(bx.below HB).facts;go_wp2_with fail
 refine(ab1 _ 1 (by omega) (by omega)).mono ?_;rintro e w3 ⟨v3,rfl,hi3,hb3⟩;obtain⟨p3,q3,r3,rfl,G3,l3⟩:=aez hi3 (by omega);clear hi3;replace HB:=HB.trans (hb3.mono HB.size);replace G1:=G1.below hb3;replace G2:=G2.below hb3;go_wp2_with fail
 refine(aw1 _ _ _ _ _ _ _ r1 r3 G1.sl G3.sl (by omega) (by omega)).mono ?_;rintro e w4 ⟨p4,q4,r4,rfl,G4,l4,o4,hb4⟩;replace HB:=HB.trans (hb4.mono HB.size);replace G2:=G2.below hb4;rw[G1.val,G3.val]at G4;have hy4:=hy0.below HB;obtain⟨ya,yb,yc,yd⟩:=(by'.below HB).facts;go_wp2_with fail
 refine(ape _ _ _ _ _ _ _ ys r2 hy4 G2.sl (by omega) (by rw[G2.val];exact Int.le_of_lt (Int.emod_lt_of_pos _ PY.out))).mono ?_;rintro e w5 ⟨p5,q5,r5,rfl,G5,l5,o5,hb5⟩;replace HB:=HB.trans (hb5.mono HB.size);replace G4:=G4.below hb5;rw[G2.val]at G5;clear xa xb xc xd ya yb yc yd G1 G2 G3 hy4;obtain⟨xa,xb,xc,xd⟩:=(bx.below HB).facts;obtain⟨ya,yb,yc,yd⟩:=(by'.below HB).facts;go_wp2_with fail
 refine(abr _ _ _ _ r4 _ G4 (by omega)).mono ?_;rintro e w7 ⟨ng7,rfl,G7,hb7⟩;replace HB:=HB.trans (hb7.mono HB.size);have G2':=G5.below hb7;clear xa xb xc xd ya yb yc yd;obtain⟨xa,xb,xc,xd⟩:=(bx.below HB).facts;obtain⟨ya,yb,yc,yd⟩:=(by'.below HB).facts;go_wp2_with fail
 refine(abr _ _ _ _ r5 _ G2' (by omega)).mono ?_;rintro e w8 ⟨ng8,rfl,G8,hb8⟩;replace HB:=HB.trans (hb8.mono HB.size);replace G7:=G7.below hb8;clear xa xb xc xd ya yb yc yd;have bq8:=bq.below HB;have br8:=br.below HB;obtain⟨qa,qb,qc,qd⟩:=bq8.facts;obtain⟨ra,rb,rc,rd⟩:=br8.facts;have VQ:Hid (sg (!ny) (val xs/val ys+1)=sg true (val xs)/sg ny (val ys)/\sg false (val ys-val xs%val ys)=sg true (val xs)%sg ny (val ys)):=by have h:=ava ny PY.out HE.out;rwa[show(true != ny) = !ny by cases ny <;> rfl]at h
 have Y1:=hide ((br8.other (show w.heap.size+1+1+1≠w.heap.size+1+1 by omega) (.bool ng7) (.slice p4 r4.length q4)).wh ng8 (.slice p5 r5.length q5) (bq8.wh ng7 (.slice p4 r4.length q4) G7));have Y2:=hide ((br8.other (show w.heap.size+1+1+1≠w.heap.size+1+1 by omega) (.bool ng7) (.slice p4 r4.length q4)).wh ng8 (.slice p5 r5.length q5) (bq8.wh ng7 (.slice p4 r4.length q4) G8));have F:=hide (agw (nq:=ng7) (vq:=.slice p4 r4.length q4) (nr:=ng8) (vr:=.slice p5 r5.length q5) bq8 br8 (by omega));have Z:=hide (hb0.trans (HB.mono hb0.size));have Z2:=hide (aag (aag Z.out (show w.heap.size<=w.heap.size+1+1 by omega) (.bool ng7) (.slice p4 r4.length q4)) (show w.heap.size<=w.heap.size+1+1+1 by omega) (.bool ng8) (.slice p5 r5.length q5));have hs9:=HS0.out;have s_hb1:=hb1.size;have s_hb7:=hb7.size;have s_hb8:=hb8.size;have s_hb3:=hb3.size;have s_hb4:=hb4.size;have s_hb5:=hb5.size;have O1:=hide (((((o4.below hb5).below hb7).below hb8).set2 (w.heap.size+1+1) (by omega) (.bool ng7) (.slice p4 r4.length q4)).set2 (w.heap.size+1+1+1) (by omega) (.bool ng8) (.slice p5 r5.length q5));have O2:=hide ((((o5.below hb7).below hb8).set2 (w.heap.size+1+1) (by omega) (.bool ng7) (.slice p4 r4.length q4)).set2 (w.heap.size+1+1+1) (by omega) (.bool ng8) (.slice p5 r5.length q5));have hsz:((((w8.setCell ⟨w.heap.size+1+1,0,none⟩ (.bool ng7)).setCell ⟨w.heap.size+1+1,1,none⟩ (.slice p4 r4.length q4)).setCell ⟨w.heap.size+1+1+1,0,none⟩ (.bool ng8)).setCell ⟨w.heap.size+1+1+1,1,none⟩ (.slice p5 r5.length q5)).heap.size=w8.heap.size:=by simp[World.setCell]
 have OO:Hid (w3.heap.size≥w.heap.size/\w4.heap.size<=w8.heap.size/\w4.heap.size≥w.heap.size/\w5.heap.size<=w8.heap.size/\∀j,w3.heap.size<=j->j<w4.heap.size->j<w4.heap.size\/w5.heap.size<=j):=⟨by omega,by omega,by omega,by omega,fun j h1 h2=>by omega⟩;rw[<-hsz]at OO;clear hsz;go_wp2;refine bodyPost_ret (v:=.tuple #[.agg #[.bool ng7,.slice p4 r4.length q4],.agg #[.bool ng8,.slice p5 r5.length q5],.bool true]) ?_ rfl ⟨ng7,p4,q4,r4,ng8,p5,q5,r5,w3.heap.size,w4.heap.size,w4.heap.size,w5.heap.size,rfl,by rw[<-VQ.out.1];exact Y1.out,by rw[<-VQ.out.2];exact Y2.out,by omega,by omega,O1.out,O2.out,OO.out,Z2.out⟩;simp[results,Tryz.results119,go_sem,F.out.1.facts.1,F.out.1.facts.2.1,F.out.2.facts.1,F.out.2.facts.2.1]
theorem ase(w:World)(nx:Bool)(a1:Option Addr)(n1 c1:Nat)(xs:List Int)(hx:Sl w (.slice a1 n1 c1) xs)(ny:Bool)(a2:Option Addr)(n2 c2:Nat)(ys:List Int)(hy:Sl w (.slice a2 n2 c2) ys)(hm1:xs.length<=400000)(hm2:ys.length<=400000)(h0:val ys≠0):
  Calls Tryz.prog 119 #[.agg #[.bool nx,.slice a1 n1 c1],.agg #[.bool ny,.slice a2 n2 c2]] w fun e w'=>∃nq aq cq qs nr ar cr rs B1 T1 B2 T2,e=.returned (.tuple #[.agg #[.bool nq,.slice aq qs.length cq],.agg #[.bool nr,.slice ar rs.length cr],.bool true])/\Wh w' nq aq cq qs (sg nx (val xs)/sg ny (val ys))/\Wh w' nr ar cr rs (sg nx (val xs)%sg ny (val ys))/\qs.length<=xs.length+4/\rs.length<=ys.length/\Li B1 T1 w' aq cq qs/\Li B2 T2 w' ar cr rs/\(w.heap.size<=B1/\T1<=w'.heap.size/\w.heap.size<=B2/\T2<=w'.heap.size/\∀j,B1<=j->j<T1->j<B2\/T2<=j)/\Below w.heap.size w w':=by
 cases nx with
 |false=>exact alt w a1 n1 c1 xs hx ny a2 n2 c2 ys hy hm1 hm2 h0
 |true=>
  by_cases he:val xs%val ys=0
  ·exact ako w a1 n1 c1 xs hx ny a2 n2 c2 ys hy hm1 hm2 h0 he
  ·exact alu w a1 n1 c1 xs hx ny a2 n2 c2 ys hy hm1 hm2 h0 he
theorem a08(w:World)(a1 a2:Option Addr)(n1 n2 c1 c2:Nat)(xs ys:List Int)(hx:Sl w (.slice a1 n1 c1) xs)(hy:Sl w (.slice a2 n2 c2) ys)(hm1:xs.length<=400000)(hm2:ys.length<=400000):
  Calls Tryz.prog 101 #[.slice a1 n1 c1,.slice a2 n2 c2] w fun e w'=>∃ao cap rs,e=.returned (.slice ao rs.length cap)/\Got w' ao cap rs (Int.gcd (val xs) (val ys))/\rs.length<=xs.length+ys.length+1/\Li w.heap.size w'.heap.size w' ao cap rs/\Below w.heap.size w w':=by
 refine(ans w a1 a2 n1 n2 c1 c2 xs ys hx hy hm1 hm2).mono ?_;rintro e w' ⟨v,rfl,hi,hb⟩;obtain⟨ao,cap,rs,rfl,hg⟩:=hi.fr;refine⟨ao,cap,rs,rfl,hg.got,aau hg.canon ?_,hg.li,hb⟩;rw[hg.val];have b1:=aac hx.parts.2.2.2;have b2:=aac hy.parts.2.2.2;have h1:=aj6 b1.1 b2.1;have m1:=aaw (m:=xs.length) (n:=xs.length+ys.length) (by omega);have m2:=aaw (m:=ys.length) (n:=xs.length+ys.length) (by omega);rw[pw];have:=aan (xs.length+ys.length);omega
theorem az8(w:World)(nx:Bool)(a1:Option Addr)(n1 c1:Nat)(xs:List Int)(hx:Sl w (.slice a1 n1 c1) xs)(ny:Bool)(a2:Option Addr)(n2 c2:Nat)(ys:List Int)(hy:Sl w (.slice a2 n2 c2) ys)(hm1:xs.length<=400000)(hm2:ys.length<=400000):
  Calls Tryz.prog 118 #[.agg #[.bool nx,.slice a1 n1 c1],.agg #[.bool ny,.slice a2 n2 c2]] w fun e w'=>∃ng' ao cap rs,e=.returned (.agg #[.bool ng',.slice ao rs.length cap])/\Wh w' ng' ao cap rs (((Int.gcd (sg nx (val xs)) (sg ny (val ys)):Nat):Int))/\rs.length<=xs.length+ys.length+1/\Li w.heap.size w'.heap.size w' ao cap rs/\Below w.heap.size w w':=by
 obtain⟨w0,e0,bx,by',br,hb0,hs0⟩:=acs w nx (.slice a1 n1 c1) ny (.slice a2 n2 c2);have E0:=hide e0;have hx0:=hx.below hb0;have hy0:=hy.below hb0;have HS0:=hide hs0;clear e0 hs0;go_enter Tryz.func118,Tryz.ntmps118
 go_wp2_with fail
 rw[E0.out];obtain⟨ca,cb,cc,cd⟩:=bx.facts;obtain⟨ea,eb,ec,ed⟩:=by'.facts;obtain⟨da,db,dc,dd⟩:=br.facts;refine(a08 _ _ _ _ _ _ _ xs ys hx0 hy0 (by omega) (by omega)).mono ?_;rintro e w1 ⟨p1,q1,r1,rfl,G1,l1,o1,hb1⟩;go_wp2_with fail
 refine(abr _ false _ _ r1 _ G1 (by omega)).mono ?_;rintro e w2 ⟨ng2,rfl,G2,hb2⟩;have br2:=(br.below hb1).below hb2;obtain⟨ka,kb,kc,kd⟩:=br2.facts;have SGF:Hid (sg false ((Int.gcd (val xs) (val ys):Nat):Int)=((Int.gcd (sg nx (val xs)) (sg ny (val ys)):Nat):Int)):=by show _=_;rw[az1];rfl
 have X:=hide (br2.set ng2 (.slice p1 r1.length q1)).facts;have Y:=hide (br2.wh ng2 (.slice p1 r1.length q1) G2);have Z:=hide (aag (hb0.trans ((hb1.trans (hb2.mono hb1.size)).mono hb0.size)) (Nat.le_add_right _ 2) (.bool ng2) (.slice p1 r1.length q1))
 skip;have hs9:=HS0.out;have s_1:=hb1.size;have s_2:=hb2.size;have O1:=hide ((o1.below hb2).set2 (w.heap.size+1+1) (by omega) (.bool ng2) (.slice p1 r1.length q1));have O2:=hide (show Li w.heap.size _ _ p1 q1 r1 from⟨O1.out.ow.mono (by omega),fun h0 g off e=>by have:=O1.out.lies h0 g off e;exact⟨by omega,Nat.lt_of_lt_of_le this.2 (show w1.heap.size<=((w2.setCell ⟨w.heap.size+1+1,0,none⟩ (.bool ng2)).setCell ⟨w.heap.size+1+1,1,none⟩ (.slice p1 r1.length q1)).heap.size by simp[World.setCell];exact s_2)⟩⟩);clear O1;go_wp2;refine bodyPost_ret (v:=.agg #[.bool ng2,.slice p1 r1.length q1]) ?_ rfl ⟨ng2,p1,q1,r1,rfl,by rw[<-SGF.out];exact Y.out,by omega,O2.out,Z.out⟩;simp[results,Tryz.results118,go_sem,X.out.1,X.out.2.1]
end Lm
namespace Dm
open Go.RowKit
open Lm (hide aal aaa cmpI abn abu)
theorem Wh.via{w0 w1 w2:World}{ng:Bool}{ao:Option Addr}{cap:Nat}{rs:List Int}{z:Int}(h:Wh w0 ng ao cap rs z)(h1:Below w0.heap.size w0 w1)(h2:Below w1.heap.size w1 w2):Wh w2 ng ao cap rs z:=(h.below h1).below h2
theorem asf(w:World)(n1:Bool)(a1:Option Addr)(c1:Nat)(xs:List Int)(x:Int)(hx:Wh w n1 a1 c1 xs x)(n2:Bool)(a2:Option Addr)(c2:Nat)(ys:List Int)(y:Int)(hy:Wh w n2 a2 c2 ys y)(m1:xs.length<=400000)(m2:ys.length<=400000):
  Calls Tryz.prog 137 #[.agg #[.bool n1,.slice a1 xs.length c1],.agg #[.bool n2,.slice a2 ys.length c2]] w fun e w'=>∃ng' ao cap rs,e=.returned (.agg #[.bool ng',.slice ao rs.length cap])/\Wh w' ng' ao cap rs (x-y)/\rs.length<=xs.length+ys.length+1/\Below w.heap.size w w':=by
 obtain⟨w0,e0,bx,by',br,hb0,hs0⟩:=acs w n1 (.slice a1 xs.length c1) n2 (.slice a2 ys.length c2);have E0:=hide e0;have hx0:=hx.below hb0;have hy0:=hy.below hb0;have HB:=hb0;have ne1:¬(w.heap.size=w.heap.size+1+1):=by omega
 have ne2:¬(w.heap.size+1+1=w.heap.size):=by omega
 clear e0 hs0;go_enter Tryz.func137,Tryz.ntmps137
 go_wp2_with fail
 rw[E0.out];obtain⟨bx1,bx2,bx3,bx4⟩:=bx.facts;obtain⟨by1,by2,by3,by4⟩:=by'.facts;obtain⟨br1,br2,br3,br4⟩:=br.facts;go_region_held3 (fun w'=>w'.cell? ⟨w.heap.size,0,none⟩=some (.bool n1)/\w'.cell? ⟨w.heap.size,1,none⟩=some (.slice a1 xs.length c1)/\w'.cell? ⟨w.heap.size+1,0,none⟩=some (.bool n2)/\w'.cell? ⟨w.heap.size+1,1,none⟩=some (.slice a2 ys.length c2)) (go_keep) (first
  | (go_at_call 75;have _hq:=hb1';refine(asa _ _ _ _ xs _ (hx0.via hb1' (by repeat(first|exact Below.refl _ _|refine Below.drew ?_))) _ _ _ r1 _ (G1.below (by repeat(first|exact Below.refl _ _|refine Below.drew ?_))) (by omega) (by omega)).mono ?_;rintro e w2 ⟨ng2,p2,q2,r2,rfl,G2,l2,hb2⟩;have hb2':Below w1.heap.size w1 w2:=(show Below w1.heap.size w1 _ by repeat(first|exact Below.refl _ _|refine Below.drew ?_)).trans hb2;have HB:=HB.trans (hb2'.mono HB.size);replace bx:=bx.below hb2';clear bx1 bx2 bx3 bx4;obtain⟨bx1,bx2,bx3,bx4⟩:=bx.facts;replace by':=by'.below hb2';clear by1 by2 by3 by4;obtain⟨by1,by2,by3,by4⟩:=by'.facts;replace br:=br.below hb2';clear br1 br2 br3 br4;obtain⟨br1,br2,br3,br4⟩:=br.facts)
  | (go_at_call 74;refine(ajf _ _ _ _ ys _ (hy0.below (by repeat(first|exact Below.refl _ _|refine Below.drew ?_))) (by omega)).mono ?_;rintro e w1 ⟨ng1,p1,q1,r1,rfl,G1,l1,hb1⟩;have hb1':Below w0.heap.size w0 w1:=(show Below w0.heap.size w0 _ by repeat(first|exact Below.refl _ _|refine Below.drew ?_)).trans hb1;have HB:=HB.trans (hb1'.mono HB.size);replace bx:=bx.below hb1';clear bx1 bx2 bx3 bx4;obtain⟨bx1,bx2,bx3,bx4⟩:=bx.facts;replace by':=by'.below hb1';clear by1 by2 by3 by4;obtain⟨by1,by2,by3,by4⟩:=by'.facts;replace br:=br.below hb1';clear br1 br2 br3 br4;obtain⟨br1,br2,br3,br4⟩:=br.facts))
 all_goals
  have X:=hide (br.set ng2 (.slice p2 r2.length q2)).facts;have Y:=hide (br.wh ng2 (.slice p2 r2.length q2) G2);have Z:=hide (aag HB (show w.heap.size<=w.heap.size+1+1 by omega) (.bool ng2) (.slice p2 r2.length q2));clear bx1 bx2 bx3 bx4 by1 by2 by3 by4;go_wp2;refine bodyPost_ret (v:=.agg #[.bool ng2,.slice p2 r2.length q2]) ?_ rfl ⟨ng2,p2,q2,r2,rfl,by rw[show x-y=x+-y by omega];exact Y.out,by omega,Z.out⟩;simp[results,Tryz.results137,go_sem,X.out.1,X.out.2.1]
end Dm
namespace Dm
open Go.RowKit
open Lm (hide aal aaa)
theorem ajg:∀(L:List Int) (i:Nat) (x:Int),i<L.length->val (L.set i x)=val L+pw i*(x-L.getD i 0)
 | [],i,x,h=>by simp at h
 |z::zs,0,x,_=>by simp[val,pw];omega
 |z::zs,i+1,x,h=>by
  have ih:=ajg zs i x (by simpa using h);rw[List.set_cons_succ,val,ih,val,List.getD_cons_succ,pw,Int.mul_add,<-Int.mul_assoc];omega
theorem alv:∀(L:List Int) (i:Nat),(∀z∈L,0<=z)->pw i*L.getD i 0<=val L
 | [],i,_=>by simp[val]
 |z::zs,0,h=>by
  have h1:0<=val zs:=by
   have:∀l:List Int,(∀z∈l,0<=z)->0<=val l:=by
    intro l;induction l with
    |nil=>intro _;simp[val]
    |cons a l ih=>
     intro hl;have:=ih (fun z hz=>hl z (List.mem_cons_of_mem _ hz));have:=hl a (List.mem_cons_self ..);rw[val];omega
   exact this zs (fun y hy=>h y (List.mem_cons_of_mem _ hy))
  simp[val,pw];omega
 |z::zs,i+1,h=>by
  have ih:=alv zs i (fun y hy=>h y (List.mem_cons_of_mem _ hy));have:=h z (List.mem_cons_self ..);rw[List.getD_cons_succ,val,pw,Int.mul_assoc];omega
theorem ahu{L:List Int}(h:Limb L)(i:Nat)(x:Int)(hx:0<=x/\x<10000):Limb (L.set i x):=by
 intro z hz;rcases List.mem_or_eq_of_mem_set hz with h1|h1
 ·exact h z h1
 ·rw[h1];exact hx
theorem apn{L:List Int}(h:Limb L)(i:Nat)(x:Int)(hx:0<=x):∀z∈L.set i x,0<=z:=by
 intro z hz;rcases List.mem_or_eq_of_mem_set hz with h1|h1
 ·exact(h z h1).1
 ·rw[h1];exact hx
theorem az9{a b:Int}(ha:0<=a/\a<10000)(hb:0<=b/\b<10000):0<=a*b/\a*b<=99980001:=by
 refine⟨Int.mul_nonneg ha.1 hb.1,?_⟩;have h1:a*b<=9999*b:=Int.mul_le_mul_of_nonneg_right (by omega) hb.1;omega
theorem a0a{B M:List Int}{k j:Nat}{P a b c t s:Int}(hl:k+j<M.length)(ht:M.getD (k+j) 0=t)(hb:B.getD j 0=b)(hs:s=c+t+a*b)(h:val M+pw (k+j)*c=P+pw k*(a*vf B j)):
  val (M.set (k+j) (s%10000))+pw (k+(j+1))*(s/10000)=P+pw k*(a*vf B (j+1)):=by
 rw[ajg M _ _ hl,ht,vf,hb,<-Nat.add_assoc,pw];have e:s=s%10000+10000*(s/10000):=by omega
 have e2:pw (k+j)*(s%10000-t)+10000*pw (k+j)*(s/10000)=pw (k+j)*(s-t):=by
  rw[Int.mul_comm 10000 (pw (k+j)),Int.mul_assoc,<-Int.mul_add];congr 1;omega
 have e3:pw (k+j)*(s-t)=pw (k+j)*c+pw (k+j)*(a*b):=by rw[<-Int.mul_add];congr 1;omega
 have e4:pw k*(a*(vf B j+pw j*b))=pw k*(a*vf B j)+pw (k+j)*(a*b):=by
  rw[acq,Int.mul_add,Int.mul_add,Int.mul_assoc (pw k) (pw j),<-Int.mul_assoc a (pw j),Int.mul_comm a (pw j),Int.mul_assoc (pw j) a]
 rw[Int.add_assoc,e2,e3,e4];omega
theorem ax3{A B M:List Int}{k:Nat}{a c t:Int}(hA:Limb A)(hB:Limb B)(hM:Limb M)(hk:k<A.length)(hl:k+B.length<M.length)(ht:M.getD (k+B.length) 0=t)(ha:A.getD k 0=a)(hc:0<=c)(h:val M+pw (k+B.length)*c=vf A k*val B+pw k*(a*vf B B.length)):
  val (M.set (k+B.length) (t+c))=vf A (k+1)*val B/\Limb (M.set (k+B.length) (t+c)):=by
 have h0:0<=t:=by rw[<-ht];exact(aae hM _).1
 have e1:val (M.set (k+B.length) (t+c))=vf A (k+1)*val B:=by
  rw[ajg M _ _ hl,ht,vf,ha,Int.add_mul,show t+c-t=c by omega,h,aa6 B _ (Nat.le_refl _),Int.mul_assoc]
 refine⟨e1,ahu hM _ _ ⟨by omega,?_⟩⟩;have h1:=alv _ (k+B.length) (apn hM (k+B.length) (t+c) (by omega));have h2:(M.set (k+B.length) (t+c)).getD (k+B.length) 0=t+c:=by
  rw[List.getD_eq_getElem?_getD,List.getElem?_set_self hl];rfl
 rw[h2,e1]at h1;have h3:=aac hB;have h4:=aac (aap hA (k+1));rw[<-agt,List.length_take,Nat.min_eq_left (by omega)]at h4;have h5:vf A (k+1)*val B<=(pw (k+1)-1)*val B:=Int.mul_le_mul_of_nonneg_right (by omega) h3.1;have h6:(pw (k+1)-1)*val B<=(pw (k+1)-1)*(pw B.length-1):=Int.mul_le_mul_of_nonneg_left (by omega) (by have:=aan (k+1);omega);have h7:(pw (k+1)-1)*(pw B.length-1)<pw (k+1)*pw B.length:=by
  have:=aan (k+1);have:=aan B.length;rw[Int.sub_mul,Int.mul_sub];omega
 have h8:pw (k+1)*pw B.length=pw (k+B.length)*10000:=by rw[<-acq,show k+1+B.length=(k+B.length)+1 by omega,pw,Int.mul_comm]
 apply Classical.byContradiction;intro hn;have h9:pw (k+B.length)*10000<=pw (k+B.length)*(t+c):=Int.mul_le_mul_of_nonneg_left (by omega) (by have:=aan (k+B.length);omega);omega
theorem Box.wr{w w':World}{g g':Nat}{cur:Array Value}{e:TypeId}{ng:Bool}{v:Value}(h:Box w g ng v)(hw:Wr w w' g' cur e)(hne:g≠g'):Box w' g ng v:=(hw.other g hne).trans h
theorem avn(w:World)(n1:Bool)(a1:Option Addr)(c1:Nat)(A:List Int)(x:Int)(hx:Got w a1 c1 A x)(n2:Bool)(a2:Option Addr)(c2:Nat)(B:List Int)(y:Int)(hy:Got w a2 c2 B y)(m1:A.length<=400000)(m2:B.length<=400000):
  Calls Tryz.prog 72 #[.agg #[.bool n1,.slice a1 A.length c1],.agg #[.bool n2,.slice a2 B.length c2]] w fun e w'=>∃ng' ao cap rs,e=.returned (.agg #[.bool ng',.slice ao rs.length cap])/\Wh w' ng' ao cap rs (sg (n1 != n2) (x*y))/\rs.length<=A.length+B.length+1/\Below w.heap.size w w':=by
 obtain⟨w0,e0,bx,by',br,hb0,hs0⟩:=acs w n1 (.slice a1 A.length c1) n2 (.slice a2 B.length c2);obtain⟨i0,hi,hz0,hz1,hz2⟩:=info_parts acu;have E0:=hide e0;have hx0:=hx.below hb0;have hy0:=hy.below hb0;obtain⟨_,p1,p2,p3⟩:=hx.sl.parts;obtain⟨_,q1,q2,q3⟩:=hy.sl.parts;have P3:=hide p3;have Q3:=hide q3;have HS:=hide hs0;clear p3 q3 e0 hs0;go_enter Tryz.func72,Tryz.ntmps72
 go_wp2_with (refine wpList_make_full _ rfl (.tmp 16) (.tmp 16) 61 rfl w0.heap.size 3 i0 (.int .i64 0) 1 Tryz.underlying61 hi hz0 hz1 .i64 .i64 _ _ (A.length+B.length+1) rfl rfl (by omega) (by omega) (by rw[hz2];omega) (by unfold maxLen;omega) (by rw[E0.out];exact Nat.le_refl _) ?hK)
 case hK=>
  intro w1 hown hgrow;rw[E0.out]at hgrow;generalize hgg:w.heap.size+1+1+1=g at hown ⊢;obtain⟨hgB,cur,hh,hcs,hat⟩:=aa8 hown;have hb1:Below w0.heap.size w0 w1:=(Below.refl _ _).grown hgrow (Nat.le_refl _) (by simp);have HB1:=hb0.trans (hb1.mono hb0.size);have hs0:=HS.out;replace bx:=bx.below hb1;replace by':=by'.below hb1;replace br:=br.below hb1;have n1g:w.heap.size≠g:=by omega
  have n2g:w.heap.size+1≠g:=by omega
  have n3g:w.heap.size+1+1≠g:=by omega
  have NG:=hide (And.intro n1g (And.intro n2g n3g));have HX:=hide hx0;have HY:=hide hy0;have BX:=hide bx;have BY:=hide by';have BR:=hide br;have HH:=hide hh;have HC:=hide hcs;have HAT:=hide hat;have HG:=hide hgB;clear hown hgrow hh hcs hat hgB hgg bx by' br hx0 hy0 n1g n2g n3g E0 hs0;go_wp2;go_loopw [6] (fun iv wr=>∃(k:Nat) (M:List Int) (cur':Array Value),k<=A.length/\iv=.int .i64 k/\M.length=A.length+B.length+1/\Limb M/\val M=vf A k*val B/\Wr w1 wr g cur' 3/\cur'.size=A.length+B.length+1/\At cur' .i64 0 M) (fun iv _=>A.length-(intOf iv).toNat)
  case atStart=>exact⟨0,List.replicate (A.length+B.length+1) 0,cur,Nat.zero_le _,rfl,by simp,ad8 _,by rw[aex];simp[vf],Wr.refl HH.out,HC.out,HAT.out⟩
  case round=>
   obtain⟨k,M,cur',hk,rfl,hml,hm,hv,hwr,hcs',hat'⟩:=hrel;obtain⟨bx1,bx2,bx3,bx4⟩:=(BX.out.wr hwr NG.out.1).facts;obtain⟨by1,by2,by3,by4⟩:=(BY.out.wr hwr NG.out.2.1).facts;by_cases hlt:k<A.length
   ·have dA:(k:Int)<(A.length:Int):=by omega
    obtain⟨a,hak⟩:∃a,A.getD k 0=a:=⟨_,rfl⟩;have HI:Hid (M.length=A.length+B.length+1/\Limb M/\val M+pw (k+0)*0=vf A k*val B+pw k*(a*vf B 0)/\Wr w1 wr g cur' 3/\cur'.size=A.length+B.length+1/\At cur' .i64 0 M):=⟨hml,hm,by rw[hv];simp[vf],hwr,hcs',hat'⟩;have HK:=hide hak;clear hml hm hv hwr hcs' hat' hak;go_wp2;clear bx1 bx2 bx3 bx4 by1 by2 by3 by4;go_loopw [7,8] (fun cv jv wr=>∃(j:Nat) (c:Int) (M:List Int) (cur':Array Value),j<=B.length/\jv=.int .i64 j/\cv=.int .i64 c/\(0<=c/\c<10000)/\M.length=A.length+B.length+1/\Limb M/\val M+pw (k+j)*c=vf A k*val B+pw k*(a*vf B j)/\Wr w1 wr g cur' 3/\cur'.size=A.length+B.length+1/\At cur' .i64 0 M) (fun _ jv _=>B.length-(intOf jv).toNat)
    case atStart=>exact⟨0,0,M,cur',Nat.zero_le _,rfl,rfl,by omega,HI.out.1,HI.out.2.1,HI.out.2.2.1,HI.out.2.2.2.1,HI.out.2.2.2.2.1,HI.out.2.2.2.2.2⟩
    case round=>
     clear HI;obtain⟨j,c,M,cur',hj,rfl,rfl,hc,hml,hm,hv,hwr,hcs',hat'⟩:=hrel;have bx':=BX.out.wr hwr NG.out.1;have by'':=BY.out.wr hwr NG.out.2.1;obtain⟨bx1,bx2,bx3,bx4⟩:=bx'.facts;obtain⟨by1,by2,by3,by4⟩:=by''.facts;have sA:=hwr.sl HG.out hb1 rfl HX.out.sl;have sB:=hwr.sl HG.out hb1 rfl HY.out.sl;obtain⟨b1,off1,rfl,hca⟩:=sA.cells (by omega);have ca:=hca k hlt;have ba:=aae P3.out k;rw[HK.out]at ca ba;have hm0:=hide hml;by_cases hltB:j<B.length
     ·have dB:(j:Int)<(B.length:Int):=by omega
      obtain⟨b2,off2,rfl,hcb⟩:=sB.cells (by omega);have cb:=hcb j hltB;have bb:=aae Q3.out j;obtain⟨b,hbk⟩:∃b,B.getD j 0=b:=⟨_,rfl⟩;rw[hbk]at cb bb;have cm:=hat'.cell hwr.here (k+j) (by omega);rw[Nat.zero_add]at cm;have bm:=aae hm (k+j);obtain⟨t,htk⟩:∃t,M.getD (k+j) 0=t:=⟨_,rfl⟩;rw[htk]at cm bm;have fm:=hwr.free (k+j);have hab:=az9 ba bb;have dM:(k:Int)+(j:Int)<(A.length:Int)+(B.length:Int)+1:=by omega
      have HV':=hide (a0a (a:=a) (by omega) htk hbk rfl hv);have HL':=hide (ahu hm (k+j) ((c+t+a*b)%10000) (by omega));have HT':=hide (hat'.set (k+j) ((c+t+a*b)%10000));have HW':=hide hwr;have HCS:=hide hcs';clear sA sB hca hcb hbk htk hml hm hv hwr hcs' hat' bx' by'';go_wp2;go_quiet (fail)
      replace cm:(wr.drewN nq).cell? ⟨g,k+j,none⟩=some (.int .i64 t):=cm;replace fm:(wr.drewN nq).frozen? ⟨g,k+j,none⟩=false:=fm;have HW2:=hide ((HW'.out.drewN nq).set (k+j) (.int .i64 ((c+t+a*b)%10000)));clear HW' ca cb bx1 bx2 bx3 bx4 by1 by2 by3 by4;generalize wr.drewN nq=wr2 at cm fm HW2 ⊢;go_wp2;go_roundw
      case rel=>exact⟨j+1,(c+t+a*b)/10000,M.set (k+j) ((c+t+a*b)%10000),_,by omega,by go_num,rfl,by omega,by rw[List.length_set];exact hm0.out,HL'.out,HV'.out,HW2.out,by rw[Array.size_setIfInBounds];exact HCS.out,by simpa using HT'.out⟩
      case measure=>simp[intOf];omega
     ·have hjB:j=B.length:=by omega
      subst hjB;have dB:¬(B.length:Int)<(B.length:Int):=by omega
      have cm:=hat'.cell hwr.here (k+B.length) (by omega);rw[Nat.zero_add]at cm;have bm:=aae hm (k+B.length);obtain⟨t,htk⟩:∃t,M.getD (k+B.length) 0=t:=⟨_,rfl⟩;rw[htk]at cm bm;have fm:=hwr.free (k+B.length);have dM:(k:Int)+(B.length:Int)<(A.length:Int)+(B.length:Int)+1:=by omega
      have HO:=hide (ax3 P3.out Q3.out hm hlt (by omega) htk HK.out hc.1 hv);have HT':=hide (hat'.set (k+B.length) (t+c));have HW':=hide (hwr.set (k+B.length) (.int .i64 (t+c)));have HCS:=hide hcs';have wr1:IntKind.i64.wrap ((k:Int)+(B.length:Int))=(k:Int)+(B.length:Int):=by rw[IntKind.wrap_i64];omega
      have wr2:IntKind.i64.wrap (t+c)=t+c:=by rw[IntKind.wrap_i64];omega
      have wr3:(0:Int)<=(k:Int)+(B.length:Int):=by omega
      have wr4:((k:Int)+(B.length:Int)).toNat=k+B.length:=by omega
      clear sA sB hca htk hml hm hv hwr hcs' hat' bx' by'' ca;go_wp2;go_region
      have HW2:=hide HW'.out.drew;clear HW' bx1 bx2 bx3 bx4 by1 by2 by3 by4 cm fm;generalize (wr.setCell ⟨g,k+B.length,none⟩ (.int .i64 (t+c))).drew=wr9 at HW2 ⊢;go_wp2;go_roundw
      case rel=>exact⟨k+1,M.set (k+B.length) (t+c),_,by omega,by go_num,by rw[List.length_set];exact hm0.out,HO.out.2,HO.out.1,HW2.out,by rw[Array.size_setIfInBounds];exact HCS.out,by simpa using HT'.out⟩
      case measure=>simp[intOf];omega
   ·have hkA:k=A.length:=by omega
    subst hkA;have dA:¬(A.length:Int)<(A.length:Int):=by omega
    have hvv:val M=x*y:=by rw[hv,aa6 A _ (Nat.le_refl _),HX.out.val,HY.out.val]
    have sM:Sl wr (.slice (some ⟨g,0,none⟩) (A.length+B.length+1) (A.length+B.length+1)) M:=(show Ow g wr _ M from⟨_,_,by rw[hml],by omega,by unfold maxLen;omega,hm,.inr ⟨g,0,cur',rfl,Nat.le_refl _,hwr.here,by omega,hat'⟩⟩).sl;have br:=BR.out.wr hwr NG.out.2.2;have HB:=HB1.trans ((hwr.below HG.out).mono hb0.size);rw[<-hml]at sM;have SM:=hide sM;have HVV:=hide hvv;have HML:=hide hml;clear hml hm hv hwr hcs' hat' hvv sM;go_wp2_with fail
    rw[<-HML.out];refine(abx _ _ _ _ M _ SM.out HVV.out).mono ?_;rintro e w2 ⟨ng2,r2,rfl,G2,l2,hb2⟩;rw[HML.out]at l2;replace HB:=HB.trans (hb2.mono HB.size);replace br:=br.below hb2;obtain⟨br1,br2,br3,br4⟩:=br.facts;have X:=hide (br.set ng2 (.slice (some ⟨g,0,none⟩) r2.length M.length)).facts;have Y:=hide (br.wh ng2 (.slice (some ⟨g,0,none⟩) r2.length M.length) G2);have Z:=hide (aag HB (show w.heap.size<=w.heap.size+1+1 by omega) (.bool ng2) (.slice (some ⟨g,0,none⟩) r2.length M.length));clear bx1 bx2 bx3 bx4 by1 by2 by3 by4;go_wp2;refine bodyPost_ret (v:=.agg #[.bool ng2,.slice (some ⟨g,0,none⟩) r2.length M.length]) ?_ rfl ⟨ng2,(some ⟨g,0,none⟩),M.length,r2,rfl,by first|exact Y.out|(rw[bne];exact Y.out),l2,Z.out⟩;simp[results,Tryz.results72,go_sem,X.out.1,X.out.2.1]
theorem a0b(w:World)(n1:Bool)(a1:Option Addr)(c1:Nat)(xs:List Int)(x:Int)(hx:Wh w n1 a1 c1 xs x)(n2:Bool)(a2:Option Addr)(c2:Nat)(ys:List Int)(y:Int)(hy:Wh w n2 a2 c2 ys y)(m1:xs.length<=400000)(m2:ys.length<=400000):
  Calls Tryz.prog 72 #[.agg #[.bool n1,.slice a1 xs.length c1],.agg #[.bool n2,.slice a2 ys.length c2]] w fun e w'=>∃ng' ao cap rs,e=.returned (.agg #[.bool ng',.slice ao rs.length cap])/\Wh w' ng' ao cap rs (x*y)/\rs.length<=xs.length+ys.length+1/\Below w.heap.size w w':=by
 have wx:=hx.worth;have wy:=hy.worth;rw[hx.1.val]at wx;rw[hy.1.val]at wy;rw[show x*y=sg (n1 != n2) ((x.natAbs:Int)*(y.natAbs:Int)) by rw[ak1,wx,wy]];exact avn w n1 a1 c1 xs _ hx.1 n2 a2 c2 ys _ hy.1 m1 m2
end Dm
namespace Dm
open Go.RowKit
open Lm (hide aal aaa cmpI abn abu)
theorem ax4(w:World)(ng:Bool)(a1:Option Addr)(c1:Nat)(xs:List Int)(x:Int)(hx:Got w a1 c1 xs x)(m1:xs.length<=1000000)(h0:0<xs.length):
  Calls Tryz.prog 138 #[.agg #[.bool ng,.slice a1 xs.length c1]] w fun e w'=>∃ng' ao cap rs,e=.returned (.agg #[.bool ng',.slice ao rs.length cap])/\Wh w' ng' ao cap rs (sg false x)/\rs.length<=xs.length/\(∀b off,ao=some ⟨b,off,none⟩->w.heap.size<=b)/\Below w.heap.size w w':=by
 obtain⟨b,off,rfl,_⟩:=hx.sl.cells h0;obtain⟨w0,rfl,bx,br,hb0,hs0⟩:=acr w ng (.slice (some ⟨b,off,none⟩) xs.length c1);obtain⟨i0,hi,hz0,hz1,hz2⟩:=info_parts acu;obtain⟨_,p1,p2,p3⟩:=hx.sl.parts;have P3:=hide p3;have hx0:=hx.below hb0;have HB:=hb0;clear p3;go_enter Tryz.func138,Tryz.ntmps138
 go_wp2_with (at_builtin;refine wpList_append_lies _ rfl _ _ _ rfl w.heap.size 3 i0 _ 1 8 Tryz.underlying61 hi hz0 hz1 hz2 rfl (by omega) (.slice none 0 0) 0 [] rfl (World.ownsRow_nil _ _ _ _) ⟨b,off,none⟩ xs.length c1 (xs.map (Value.int .i64)) rfl (by simp) (Sl.copy hx0.sl) (ad1 xs) (by omega) (by unfold maxLen;omega) (by omega) (by simp;omega) (w.heap.size+2) (by simp) ?_)
 intro g1 q1 w1 hown hgrow hat hlt;have hb1:=Below.grown (Below.refl _ _) hgrow (Nat.le_refl _) (by intro k hk;simp[Value.ownBlock]at hk);have HB:=HB.trans (hb1.mono HB.size);have s1:=copied hown P3.out;replace bx:=bx.below hb1;replace br:=br.below hb1;have FAR:Hid (w.heap.size<=g1):=by rcases hat with e|e;(simp[Value.ownBlock]at e);(show w.heap.size<=g1;omega)
 clear hown hgrow hat hx0;go_wp2_with fail
 try rw[Nat.zero_add]
 refine(abx _ _ _ _ xs _ s1 hx.val).mono ?_;rintro e w2 ⟨ng2,r2,rfl,G2,l2,hb2⟩;replace HB:=HB.trans (hb2.mono HB.size);replace bx:=bx.below hb2;replace br:=br.below hb2;obtain⟨bx1,bx2,bx3,bx4⟩:=bx.facts;obtain⟨br1,br2,br3,br4⟩:=br.facts;all_goals
  have X:=hide (br.set ng2 (.slice (some ⟨g1,0,none⟩) r2.length q1)).facts;have Y:=hide (br.wh ng2 (.slice (some ⟨g1,0,none⟩) r2.length q1) G2);have Z:=hide (aag HB (show w.heap.size<=w.heap.size+1 by omega) (.bool ng2) (.slice (some ⟨g1,0,none⟩) r2.length q1));clear bx1 bx2 bx3 bx4;go_wp2;refine bodyPost_ret (v:=.agg #[.bool ng2,.slice (some ⟨g1,0,none⟩) r2.length q1]) ?_ rfl ⟨ng2,(some ⟨g1,0,none⟩),q1,r2,rfl,Y.out,by omega,(fun b off e=>by simp only[Option.some.injEq,Addr.mk.injEq]at e;have:=FAR.out;omega),Z.out⟩;simp[results,Tryz.results138,go_sem,X.out.1,X.out.2.1]
theorem Is.far{B:Nat}{w:World}{v:Value}{x:Int}(h:Is B w v x):∃ao cap rs,v=.slice ao rs.length cap/\Got w ao cap rs x/\(0<rs.length->∀b off,ao=some ⟨b,off,none⟩->B<=b):=by
 obtain⟨rs,ho,hc,hv⟩:=h;have hs:=ho.sl;obtain⟨ao,cap,rfl,h1,h2,h3,h4⟩:=ho;refine⟨ao,cap,rs,rfl,⟨hs,hc,hv⟩,?_⟩;intro h0 b off e;rcases h4 with h4|⟨g',off',cur,e',hB,hh,_⟩
 ·omega
 ·rw[e']at e;simp only[Option.some.injEq,Addr.mk.injEq,and_true]at e;omega
theorem Wh.natu{w:World}{ao:Option Addr}{cap:Nat}{rs:List Int}{x:Int}(h:Got w ao cap rs x):Wh w false ao cap rs x:=by
 have:=Wh.of false h;simpa[sg]using this
theorem avo{x y:Int}: cmpI x y<=0↔x<=y:=by
 rcases Int.lt_trichotomy x y with h|h|h
 ·rw[abn h];omega
 ·subst h;simp[Lm.cmpI]
 ·rw[abu h];omega
def Cl(w:World)(b i:Nat)(v:Value):Prop:=w.cell? ⟨b,i,none⟩=some v
theorem Cl.below{w w':World}{b i:Nat}{v:Value}(h:Cl w b i v)(hb:Below w.heap.size w w'):Cl w' b i v:=(hb.cell (p:=⟨b,i,none⟩) (aal h)).trans h
theorem Cl.facts{w:World}{b i:Nat}{v:Value}(h:Cl w b i v):w.cell? ⟨b,i,none⟩=some v/\True/\True/\True:=⟨h,trivial,trivial,trivial⟩
theorem Sl.other{w w':World}{g n c:Nat}{a:Option Addr}{zs:List Int}(h:Sl w (.slice a n c) zs)(hne:0<zs.length->∀b off,a=some ⟨b,off,none⟩->b≠g)(ho:∀k,k≠g->w'.heap[k]? = w.heap[k]?):Sl w' (.slice a n c) zs:=by
 obtain⟨ao',cap',hv,h1,h2,h3,h4⟩:=h;obtain⟨rfl,rfl,rfl⟩:=(Value.slice.injEq .. ▸ hv);refine⟨_,_,rfl,h1,h2,h3,?_⟩;rcases h4 with h4|⟨b,off,rfl,hc⟩
 ·exact .inl h4
 ·by_cases h0:0<zs.length
  ·refine .inr ⟨b,off,rfl,fun i hi=>?_⟩;rw[World.cell?_of_block (w:=w) (ho b (hne h0 b off rfl))];exact hc i hi
  ·exact .inl (List.eq_nil_of_length_eq_zero (by omega))
structure Dv (w wr:World) (na:Bool) (va:Value) (g gy gr n:Nat) (Dl:List Int) (pY:Option Addr) (qY:Nat) (Y:List Int) (y:Int) (nR:Bool) (pR:Option Addr) (qR:Nat) (R:List Int) (r:Int):Prop where
 hb:Below w.heap.size w wr
 ba:Box wr w.heap.size na va
 b4:Box wr (w.heap.size+1+1) false (.slice none 0 0)
 b5:Box wr (w.heap.size+1+1+1) false (.slice none 0 0)
 bY:Box wr gy false (.slice pY Y.length qY)
 bR:Box wr gr nR (.slice pR R.length qR)
 d:∃cur,wr.heap[g]? = some (.cells cur 3 (0,0))/\cur.size=n/\At cur .i64 0 Dl
 dl:Dl.length=n/\Limb Dl
 hY:Wh wr false pY qY Y y
 hR:Wh wr nR pR qR R r
 lt:w.heap.size+4<=g/\g<gy/\gy<gr
 farY:∀b off,pY=some ⟨b,off,none⟩->g<b
section
variable {w wr wr':World} {na:Bool} {va:Value} {g gy gr n:Nat} {Dl:List Int} {pY:Option Addr} {qY:Nat} {Y:List Int} {y:Int} {nR:Bool} {pR:Option Addr} {qR:Nat} {R:List Int} {r:Int}
theorem Dv.below(h:Dv w wr na va g gy gr n Dl pY qY Y y nR pR qR R r)(hb:Below wr.heap.size wr wr'):Dv w wr' na va g gy gr n Dl pY qY Y y nR pR qR R r:=by
 obtain⟨cur,hh,r1⟩:=h.d;exact⟨h.hb.trans (hb.mono h.hb.size),h.ba.below hb,h.b4.below hb,h.b5.below hb,h.bY.below hb,h.bR.below hb,⟨cur,(hb.block g (aaa hh)).trans hh,r1⟩,h.dl,h.hY.below hb,h.hR.below hb,h.lt,h.farY⟩
theorem ab7{w:World}{g k:Nat}{ng:Bool}{v:Value}(h:Box w k ng v)(hne:k≠g)(b u:Value):Box ((w.setCell ⟨g,0,none⟩ b).setCell ⟨g,1,none⟩ u) k ng v:=by
 unfold Box;rw[heap_setCell_other _ ⟨g,1,none⟩ k _ hne,heap_setCell_other _ ⟨g,0,none⟩ k _ hne];exact h
theorem Dv.setR(h:Dv w wr na va g gy gr n Dl pY qY Y y nR pR qR R r){n2:Bool}{p2:Option Addr}{q2:Nat}{R2:List Int}{r2:Int}(h2:Wh wr n2 p2 q2 R2 r2):
  Dv w ((wr.setCell ⟨gr,0,none⟩ (.bool n2)).setCell ⟨gr,1,none⟩ (.slice p2 R2.length q2)) na va g gy gr n Dl pY qY Y y n2 p2 q2 R2 r2:=by
 obtain⟨cur,hh,r1⟩:=h.d;have l:=h.lt;refine⟨aag h.hb (by omega) _ _,ab7 h.ba (by omega) _ _,ab7 h.b4 (by omega) _ _,ab7 h.b5 (by omega) _ _,ab7 h.bY (by omega) _ _,h.bR.set _ _,⟨cur,?_,r1⟩,h.dl,h.bR.wh _ _ h.hY,h.bR.wh _ _ h2,h.lt,h.farY⟩;rw[heap_setCell_other _ ⟨gr,1,none⟩ g _ (by simp;omega),heap_setCell_other _ ⟨gr,0,none⟩ g _ (by simp;omega)];exact hh
theorem Dv.setD(h:Dv w wr na va g gy gr n Dl pY qY Y y nR pR qR R r)(i:Nat)(q:Int)(hq:0<=q/\q<10000)(hfar:0<R.length->∀b off,pR=some ⟨b,off,none⟩->b≠g):
  Dv w (wr.setCell ⟨g,i,none⟩ (.int .i64 q)) na va g gy gr n (Dl.set i q) pY qY Y y nR pR qR R r:=by
 obtain⟨cur,hh,hs,ha⟩:=h.d;have l:=h.lt;have ho:∀k,k≠g->(wr.setCell ⟨g,i,none⟩ (.int .i64 q)).heap[k]? = wr.heap[k]? :=fun k hk=>heap_setCell_other wr ⟨g,i,none⟩ k _ hk
 have hset:=ha.set i q;rw[Nat.zero_add]at hset;refine⟨h.hb.setCell (show w.heap.size<=g by omega) _,(ho _ (by omega)).trans h.ba,(ho _ (by omega)).trans h.b4,(ho _ (by omega)).trans h.b5,(ho _ (by omega)).trans h.bY,(ho _ (by omega)).trans h.bR,⟨_,heap_setCell_same wr g i cur _ _ hh,by rw[Array.size_setIfInBounds];exact hs,hset⟩,⟨by rw[List.length_set];exact h.dl.1,ahu h.dl.2 _ _ hq⟩,?_,?_,h.lt,h.farY⟩
 ·exact⟨⟨h.hY.1.1.other (fun _ b off e=>by have:=h.farY b off e;omega) ho,h.hY.1.2⟩,h.hY.2⟩
 ·exact⟨⟨h.hR.1.1.other hfar ho,h.hR.1.2⟩,h.hR.2⟩
theorem Dv.cell(h:Dv w wr na va g gy gr n Dl pY qY Y y nR pR qR R r)(i:Nat)(hi:i<n):wr.cell? ⟨g,i,none⟩=some (.int .i64 (Dl.getD i 0))/\wr.frozen? ⟨g,i,none⟩=false:=by
 obtain⟨cur,hh,hs,ha⟩:=h.d;have:=ha.cell hh i (by rw[h.dl.1];exact hi);rw[Nat.zero_add]at this;exact⟨this,frozen_of_row wr g i cur _ hh⟩
theorem Dv.sl(h:Dv w wr na va g gy gr n Dl pY qY Y y nR pR qR R r)(hn:n<=1000000):Sl wr (.slice (some ⟨g,0,none⟩) n n) Dl:=by
 obtain⟨cur,hh,hs,ha⟩:=h.d;exact(show Ow g wr _ Dl from⟨_,n,by rw[h.dl.1],by rw[h.dl.1];omega,by unfold maxLen;omega,h.dl.2,.inr ⟨g,0,cur,rfl,Nat.le_refl _,hh,by omega,ha⟩⟩).sl
end
theorem asg{A Dl:List Int}{k:Nat}{y r a q:Int}(hk:k<A.length)(hd:k<Dl.length)(ha:A.getD k 0=a)(h:val (A.drop (k+1))=y*val (Dl.drop (k+1))+r):val (A.drop k)=y*val ((Dl.set k q).drop k)+(r*10000+a-(y*q+0)):=by
 rw[aa7 A k hk,ha,val,h];have e:(Dl.set k q).drop k=q::Dl.drop (k+1):=by
  rw[aa7 _ k (by rw[List.length_set];exact hd),List.drop_set_of_lt (by omega)];congr 1;rw[List.getD_eq_getElem?_getD,List.getElem?_set_self hd];rfl
 rw[e,val,Int.mul_add,Int.mul_add,<-Int.mul_assoc,<-Int.mul_assoc,Int.mul_comm 10000 y];omega
theorem ash{A:List Int}(hA:Limb A){m:Nat}{y:Int}(hy:pw m<=y){sk:Nat}(hs:A.length-sk<=m):0<=val (A.drop sk)/\val (A.drop sk)<y:=by
 have h1:=aac (acx hA sk);have h2:=aaw (m:=(A.drop sk).length) (n:=m) (by rw[List.length_drop];exact hs);omega
theorem ax5{x y q r:Int}(h:x=y*q+r)(h0:0<=r)(h1:r<y):q=x/y/\r=x%y:=by
 have e:(r+y*q)/y=r/y+q:=Int.add_mul_ediv_left _ _ (by omega);have e2:(r+y*q)%y=r%y:=Int.add_mul_emod_self_left _ _ _;rw[Int.add_comm]at h;rw[h,e,e2,Int.ediv_eq_zero_of_lt h0 h1,Int.emod_eq_of_lt h0 h1];omega
end Dm
namespace Dm
open Go.RowKit
open Lm (hide aal aaa cmpI abn abu)
theorem Sl.drop{w:World}{b off n c:Nat}{zs:List Int}(h:Sl w (.slice (some ⟨b,off,none⟩) n c) zs)(k:Nat)(hk:k<=zs.length):Sl w (.slice (some ⟨b,off+k,none⟩) (zs.length-k) (c-k)) (zs.drop k):=by
 obtain⟨ao',cap',hv,h1,h2,h3,h4⟩:=h;obtain⟨rfl,rfl,rfl⟩:=(Value.slice.injEq .. ▸ hv);refine⟨_,_,by rw[List.length_drop],by rw[List.length_drop];omega,Nat.le_trans (Nat.sub_le _ _) h2,acx h3 k,?_⟩;rcases h4 with rfl|⟨b',off',e,hc⟩
 ·exact .inl (by simp)
 ·simp only[Option.some.injEq,Addr.mk.injEq,and_true]at e;obtain⟨rfl,rfl⟩:=e;refine .inr ⟨b,off+k,rfl,fun i hi=>?_⟩;rw[List.length_drop]at hi;have:=hc (k+i) (by omega);rw[List.getD_eq_getElem?_getD,List.getElem?_drop,<-List.getD_eq_getElem?_getD,Nat.add_assoc];exact this
theorem asi(w:World)(ng:Bool)(ao:Option Addr)(n cap:Nat)(ds:List Int)(x:Int)(h:Sl w (.slice ao n cap) ds)(hv:Dm.val ds=x):
  Calls Tryz.prog 114 #[.bool ng,.slice ao n cap] w fun e w'=>∃ng' rs,e=.returned (.agg #[.bool ng',.slice ao rs.length cap])/\Wh w' ng' ao cap rs (sg ng x)/\rs.length<=ds.length/\Below w.heap.size w w':=by
 obtain⟨rfl,_⟩:=h.parts;exact abx w ng ao cap ds x h hv
theorem akb(w:World)(n1:Bool)(a1:Option Addr)(c1:Nat)(A:List Int)(x:Int)(hx:Got w a1 c1 A x)(n2:Bool)(a2:Option Addr)(c2:Nat)(B:List Int)(y:Int)(hy:Got w a2 c2 B y)(m1:A.length<=300000)(m2:B.length<=300000)(y0:0<B.length):
  Calls Tryz.prog 139 #[.agg #[.bool n1,.slice a1 A.length c1],.agg #[.bool n2,.slice a2 B.length c2]] w fun e w'=>∃nq pq qq Q nr pr qr R,e=.returned (.tuple #[.agg #[.bool nq,.slice pq Q.length qq],.agg #[.bool nr,.slice pr R.length qr]])/\Wh w' nq pq qq Q (x/y)/\Wh w' nr pr qr R (x%y)/\Q.length<=A.length/\R.length<=B.length/\Below w.heap.size w w':=by
 obtain⟨w0,e0,bx,by',br,hb0,hs0⟩:=acs w n1 (.slice a1 A.length c1) n2 (.slice a2 B.length c2);obtain⟨bs5,hb5,hs5⟩:=boxed w0 false (.slice none 0 0);obtain⟨i0,hi,hz0,hz1,hz2⟩:=info_parts acu;have E0:=hide e0;rw[hs0]at bs5 hs5;replace bx:=bx.below hb5;replace by':=by'.below hb5;replace br:=br.below hb5;have HB0:=hb0.trans (hb5.mono hb0.size);have hx0:=hx.below HB0;have hy0:=hy.below HB0;obtain⟨_,p1,p2,p3⟩:=hx.sl.parts;obtain⟨_,q1,q2,q3⟩:=hy.sl.parts;have P3:=hide p3;have Q3:=hide q3;generalize hw0:w0.alloc (.cells #[.bool false,.slice none 0 0] 82)=w5 at *
 have E5:=hide hw0;have HS:=hide hs5;clear p3 q3 e0 hs0 hb5 hw0 hs5;go_enter Tryz.func139,Tryz.ntmps139
 obtain⟨bx1,bx2,bx3,bx4⟩:=bx.facts;go_wp2_with (refine wpList_make_full _ rfl (.tmp 16) (.tmp 16) 61 rfl w5.heap.size 3 i0 (.int .i64 0) 1 Tryz.underlying61 hi hz0 hz1 .i64 .i64 _ _ A.length rfl rfl (by omega) (by omega) (by rw[hz2];omega) (by unfold maxLen;omega) (by rw[E0.out,E5.out];exact Nat.le_refl _) ?hK)
 case hK=>
  intro w1 hown hgrow;rw[E0.out,E5.out]at hgrow;have hsz5:=HS.out;obtain⟨hgB,cur,hh,hcs,hat⟩:=aa8 hown;have hb1:Below w5.heap.size w5 w1:=(Below.refl _ _).grown hgrow (Nat.le_refl _) (by simp);have HB1:=HB0.trans (hb1.mono HB0.size);have hs1:=aaa hh;replace bx:=bx.below hb1;replace by':=by'.below hb1;replace br:=br.below hb1;replace bs5:=bs5.below hb1;have hx1:=hx0.below hb1;have hy1:=hy0.below hb1;have HH:=hide (And.intro hh (And.intro hcs hat));clear hown hgrow hh hcs hat hgB hx0 hy0 bx1 bx2 bx3 bx4 E0 E5 hb1 HB0 HS;generalize hgg:w.heap.size+1+1+1+1=g at HH hs1 ⊢;obtain⟨bx1,bx2,bx3,bx4⟩:=bx.facts;obtain⟨by1,by2,by3,by4⟩:=by'.facts;go_wp2_with fail
  refine(ax4 _ _ _ _ B _ hy1 (by omega) y0).mono ?_;rintro e w2 ⟨nY,pY,qY,Y,rfl,GY,lY,farY,hb2⟩;have HB2:=HB1.trans (hb2.mono HB1.size);have z2:=hb2.size;replace bx:=bx.below hb2;replace by':=by'.below hb2;replace br:=br.below hb2;replace bs5:=bs5.below hb2;replace hx1:=hx1.below hb2;have hh2:=(hb2.block g hs1).trans HH.out.1;obtain rfl:nY=false:=by
   rw[GY.2];have:=(aac Q3.out).1;rw[hy.val]at this;simp[sg];omega
  simp only[sg,Bool.false_eq_true,if_false]at GY;obtain⟨w3,e3,bY,hb3,hs3⟩:=abv w2 false (.slice pY Y.length qY);have HB3:=HB2.trans (hb3.mono HB2.size);replace bx:=bx.below hb3;replace by':=by'.below hb3;replace br:=br.below hb3;replace bs5:=bs5.below hb3;replace hx1:=hx1.below hb3;replace GY:=GY.below hb3;have hh3:=(hb3.block g (by omega)).trans hh2;have HH3:=hide (And.intro hh3 HH.out.2);have E3:=hide e3;clear hb2 hb3 hy1 HH hh2 hh3 e3 bx1 bx2 bx3 bx4 by1 by2 by3 by4;go_upto_region 3 with fail
  rw[E3.out];clear E3;obtain⟨bx1,bx2,bx3,bx4⟩:=bx.facts;obtain⟨by1,by2,by3,by4⟩:=by'.facts;generalize hgy:w2.heap.size=gy at *
  go_upto_if 29 with fail
  have hsk:∃sk:Nat,sk=A.length+1-B.length:=⟨_,rfl⟩;obtain⟨sk,hsk⟩:=hsk;go_cut [8] (fun v wx=>v=.int .i64 (sk:Int)/\wx=w3)
  case first=>
   by_cases hneg:(A.length:Int)-B.length+1<0
   ·go_wp2;go_meet
    case rel=>exact⟨by simp;omega,rfl⟩
   ·go_wp2;go_meet
    case rel=>exact⟨by simp;omega,rfl⟩
  case rest=>
   obtain⟨rfl,rfl⟩:=hcut;have HSK:=hide hsk;have hskA:sk<=A.length:=by omega
   clear hsk;have DV0:Hid (∀(wx:World) (gr:Nat) (nR:Bool) (pR:Option Addr) (qR:Nat) (R:List Int) (r:Int),Below wc.heap.size wc wx->Box wx gr nR (.slice pR R.length qR)->Wh wx nR pR qR R r->gy<gr->Dv w wx n1 (.slice a1 A.length c1) g gy gr A.length (List.replicate A.length 0) pY qY Y y nR pR qR R r):=by
    intro wx gr nR pR qR R r hbx bRx hRx hgr;have hd:=HH3.out.1;exact⟨HB3.trans (hbx.mono HB3.size),bx.below hbx,br.below hbx,bs5.below hbx,bY.below hbx,bRx,⟨cur,(hbx.block g (aaa hd)).trans hd,HH3.out.2⟩,⟨by simp,ad8 _⟩,GY.below hbx,hRx,⟨by omega,by omega,hgr⟩,fun b off e=>by have:=farY b off e;omega⟩
   go_upto_region 6 with fail
   go_cut [9] (fun v wx=>∃gr nR pR qR R,v=.pointer (some ⟨gr,0,none⟩)/\Dv w wx n1 (.slice a1 A.length c1) g gy gr A.length (List.replicate A.length 0) pY qY Y y nR pR qR R (val (A.drop sk)))
   case first=>
    by_cases hne:sk<A.length
    ·obtain⟨b,off,rfl,_⟩:=hx1.sl.cells (by omega);have sd:=hx1.sl.drop sk (by omega);have dI:(sk:Int)<=(A.length:Int):=by omega
     have sd2:=sd;rw[<-List.length_drop]at sd2;have hlen:(A.drop sk).length=A.length-sk:=List.length_drop;go_wp2_with (at_builtin;refine wpList_append_lies _ rfl _ _ _ rfl wc.heap.size 3 i0 _ 1 8 Tryz.underlying61 hi hz0 hz1 hz2 rfl (by omega) (.slice none 0 0) 0 [] rfl (World.ownsRow_nil _ _ _ _) ⟨b,off+sk,none⟩ (A.length-sk) (c1-sk) ((A.drop sk).map (Value.int .i64)) rfl (by simp) (Sl.copy sd) (ad1 _) (by omega) (by unfold maxLen;omega) (by omega) (Nat.le_refl _) wc.heap.size rfl ?_)
     intro g1 q1 w4 hown hgrow hat hlt;have hb4:=Below.grown (Below.refl wc.heap.size wc) hgrow (Nat.le_refl _) (by intro k hk;simp[Value.ownBlock]at hk);have s4:=copied (zs:=A.drop sk) (by rw[List.nil_append,List.map_drop];exact hown) (acx P3.out sk);clear hown hgrow hat;go_wp2_with fail
     refine(asi _ _ _ (A.length-sk) _ (A.drop sk) _ (by rw[hlen]at s4;exact s4) rfl).mono ?_;rintro e w5 ⟨nR,R,rfl,GR,lR,hb5⟩;have hb45:Below wc.heap.size wc w5:=hb4.trans (hb5.mono hb4.size);obtain⟨w6,e6,bR,hb6,hs6⟩:=abv w5 nR (.slice (some ⟨g1,0,none⟩) R.length q1);have E6:=hide e6;have z5:=hb45.size;have FIN:=hide (DV0.out w6 w5.heap.size nR (some ⟨g1,0,none⟩) q1 R _ (hb45.trans (hb6.mono hb45.size)) bR (GR.below hb6) (by omega));clear e6 bx1 bx2 bx3 bx4 by1 by2 by3 by4;go_wp2;rw[E6.out];go_meet
     case rel=>exact⟨w5.heap.size,nR,(some ⟨g1,0,none⟩),q1,R,rfl,FIN.out⟩
    ·have hsk2:sk=A.length:=by omega
     subst hsk2;cases a1 with
     |none=>
      go_wp2_with fail
      refine(abx _ _ none 0 [] 0 (adb _) rfl).mono ?_;rintro e w5 ⟨nR,R,rfl,GR,lR,hb5⟩;have hb45:Below wc.heap.size wc w5:=hb5;obtain⟨w6,e6,bR,hb6,hs6⟩:=abv w5 nR (.slice none R.length 0);have E6:=hide e6;have z5:=hb45.size;have FIN:=hide (DV0.out w6 w5.heap.size nR none 0 R _ (hb45.trans (hb6.mono hb45.size)) bR (GR.below hb6) (by omega));clear e6 bx1 bx2 bx3 bx4 by1 by2 by3 by4;go_wp2;rw[E6.out];go_meet
      case rel=>exact⟨w5.heap.size,nR,none,0,R,rfl,by rw[List.drop_length];exact FIN.out⟩
     |some ad=>
      rcases Nat.eq_or_lt_of_le p1 with hc|hc
      ·subst hc;go_wp2_with fail
       refine(abx _ _ none 0 [] 0 (adb _) rfl).mono ?_;rintro e w5 ⟨nR,R,rfl,GR,lR,hb5⟩;have hb45:Below wc.heap.size wc w5:=hb5;obtain⟨w6,e6,bR,hb6,hs6⟩:=abv w5 nR (.slice none R.length 0);have E6:=hide e6;have z5:=hb45.size;have FIN:=hide (DV0.out w6 w5.heap.size nR none 0 R _ (hb45.trans (hb6.mono hb45.size)) bR (GR.below hb6) (by omega));clear e6 bx1 bx2 bx3 bx4 by1 by2 by3 by4;go_wp2;rw[E6.out];go_meet
       case rel=>exact⟨w5.heap.size,nR,none,0,R,rfl,by rw[List.drop_length];exact FIN.out⟩
      ·have hc1:¬c1=A.length:=by omega
       have hc2:¬A.length=c1:=by omega
       go_wp2_with fail
       refine(abx _ _ none 0 [] 0 (adb _) rfl).mono ?_;rintro e w5 ⟨nR,R,rfl,GR,lR,hb5⟩;have hb45:Below wc.heap.size wc w5:=hb5;obtain⟨w6,e6,bR,hb6,hs6⟩:=abv w5 nR (.slice none R.length 0);have E6:=hide e6;have z5:=hb45.size;have FIN:=hide (DV0.out w6 w5.heap.size nR none 0 R _ (hb45.trans (hb6.mono hb45.size)) bR (GR.below hb6) (by omega));clear e6 bx1 bx2 bx3 bx4 by1 by2 by3 by4;go_wp2;rw[E6.out];go_meet
       case rel=>exact⟨w5.heap.size,nR,none,0,R,rfl,by rw[List.drop_length];exact FIN.out⟩
   case rest=>
    obtain⟨gr,nR,pR,qR,R,rfl,DV⟩:=hcut;have hyv:0<y:=by rw[<-hy.val];have:=abf hy.canon (by intro e;rw[e]at y0;simp at y0);have:=aan (B.length-1);omega
    have hyp:y<pw B.length:=by rw[<-hy.val];exact(aac Q3.out).2
    have HST:=hide (ash P3.out (m:=B.length-1) (y:=y) (sk:=sk) (by rw[<-hy.val];exact abf hy.canon (by intro e;rw[e]at y0;simp at y0)) (by have:=HSK.out;omega));have HYP:=hide hyp;clear DV0 bx1 bx2 bx3 bx4 by1 by2 by3 by4 bx by' br bs5 bY hx1 GY HH3 farY hyp;go_wp2;go_loopw [10] (fun iv wr=>∃(k:Nat) (Dl:List Int) (nR:Bool) (pR:Option Addr) (qR:Nat) (R:List Int) (r:Int),k<=sk/\iv=.int .i64 ((k:Int)-1)/\Dv w wr n1 (.slice a1 A.length c1) g gy gr A.length Dl pY qY Y y nR pR qR R r/\val (A.drop k)=y*val (Dl.drop k)+r/\0<=r/\r<y) (fun iv _=>(intOf iv+1).toNat)
    case atStart=>exact⟨sk,_,_,_,_,_,_,Nat.le_refl _,rfl,DV,by rw[List.drop_replicate,aex];omega,HST.out.1,HST.out.2⟩
    case round=>
     clear DV HST;obtain⟨k,Dl,nR,pR,qR,R,r,hk,rfl,DV,hv,hr0,hr1⟩:=hrel;have lR:=DV.hR.len (m:=B.length) (by have:=HYP.out;omega);have HV:=hide hv;clear hv;cases k with
     |zero=>
      have hv:=HV.out;rw[List.drop_zero,List.drop_zero,hx.val]at hv;have QE:=hide (ax5 hv hr0 hr1);have bR:=DV.bR;have b4:=DV.b4;have b5:=DV.b5;have HL9:=DV.lt;have ne1:¬(w.heap.size+1+1=gr):=by omega
      have ne2:¬(w.heap.size+1+1+1=gr):=by omega
      have ne3:¬(gr=w.heap.size+1+1):=by omega
      have ne4:¬(gr=w.heap.size+1+1+1):=by omega
      obtain⟨bR1,bR2,bR3,bR4⟩:=bR.facts;obtain⟨b41,b42,b43,b44⟩:=b4.facts;obtain⟨b51,b52,b53,b54⟩:=b5.facts;clear hv;go_wp2_with fail
      go_region_held3 (fun w'=>w'.cell? ⟨gr,0,none⟩=some (.bool nR)/\w'.cell? ⟨gr,1,none⟩=some (.slice pR R.length qR)) (go_keep) (first
       | (go_at_call 114;refine(asi _ _ _ _ _ Dl _ ((DV.sl (by omega)).below (by repeat(first|exact Below.refl _ _|refine Below.drew ?_))) rfl).mono ?_;rintro e w1 ⟨n2q,Q,rfl,GQ,lQ,hb1⟩;have hb1':Below wr.heap.size wr w1:=(show Below wr.heap.size wr _ by repeat(first|exact Below.refl _ _|refine Below.drew ?_)).trans hb1;replace DV:=DV.below hb1';replace bR:=bR.below hb1';clear bR1 bR2 bR3 bR4;obtain⟨bR1,bR2,bR3,bR4⟩:=bR.facts;replace b4:=b4.below hb1';clear b41 b42 b43 b44;obtain⟨b41,b42,b43,b44⟩:=b4.facts;replace b5:=b5.below hb1';clear b51 b52 b53 b54;obtain⟨b51,b52,b53,b54⟩:=b5.facts))
      all_goals
       have F1:=hide (ab7 (b4.set n2q (.slice (some ⟨g,0,none⟩) Q.length A.length)) (show w.heap.size+1+1≠w.heap.size+1+1+1 by omega) (.bool nR) (.slice pR R.length qR)).facts;have b5':=ab7 b5 (show w.heap.size+1+1+1≠w.heap.size+1+1 by omega) (.bool n2q) (.slice (some ⟨g,0,none⟩) Q.length A.length);have F2:=hide (b5'.set nR (.slice pR R.length qR)).facts;have Y1:=hide (b5'.wh nR (.slice pR R.length qR) (b4.wh n2q (.slice (some ⟨g,0,none⟩) Q.length A.length) GQ));have Y2:=hide (b5'.wh nR (.slice pR R.length qR) (b4.wh n2q (.slice (some ⟨g,0,none⟩) Q.length A.length) DV.hR));have Z2:=hide (aag (aag DV.hb (show w.heap.size<=w.heap.size+1+1 by omega) (.bool n2q) (.slice (some ⟨g,0,none⟩) Q.length A.length)) (show w.heap.size<=w.heap.size+1+1+1 by omega) (.bool nR) (.slice pR R.length qR));have lD:=DV.dl.1;clear bR1 bR2 bR3 bR4 DV;go_wp2;refine bodyPost_ret (v:=.tuple #[.agg #[.bool n2q,.slice (some ⟨g,0,none⟩) Q.length A.length],.agg #[.bool nR,.slice pR R.length qR]]) ?_ rfl ⟨n2q,some ⟨g,0,none⟩,A.length,Q,nR,pR,qR,R,rfl,by rw[<-QE.out.1];exact Y1.out,by rw[<-QE.out.2];exact Y2.out,by omega,by omega,Z2.out⟩;simp[results,Tryz.results139,go_sem,F1.out.1,F1.out.2.1,F2.out.1,F2.out.2.1]
     |succ k=>
      obtain⟨b,off,rfl,hca⟩:=hx.sl.cells (by omega);have cc:Cl wr b (off+k) (.int .i64 (A.getD k 0)):=(DV.hb.cell (p:=⟨b,off+k,none⟩) (aal (hca k (by omega)))).trans (hca k (by omega));have ba9:=aae P3.out k;obtain⟨a,hak⟩:∃a,A.getD k 0=a:=⟨_,rfl⟩;rw[hak]at cc ba9;have HAK:=hide hak;have ba:=DV.ba;have bR:=DV.bR;have vR:val R=r:=by rw[DV.hR.1.val];omega
      have dK:(k:Int)<(A.length:Int):=by omega
      have dK0:(0:Int)<=(k:Int):=by omega
      have HL9:=DV.lt;have hz9:=aaa DV.bR;clear hca hak;have ek:(((k+1:Nat):Int)-1)=(k:Int):=by omega
      rw[ek];clear ek;go_upto_region 10 with fail
      go_cut [] (fun wx=>∃pR qR R,Dv w wx n1 (.slice (some ⟨b,off,none⟩) A.length c1) g gy gr A.length Dl pY qY Y y false pR qR R (r*10000+a)/\(0<R.length->∀b off,pR=some ⟨b,off,none⟩->b≠g))
      case first=>
       obtain⟨cc1,cc2,cc3,cc4⟩:=cc.facts;obtain⟨ba1,ba2,ba3,ba4⟩:=ba.facts;obtain⟨bR1,bR2,bR3,bR4⟩:=bR.facts;go_region_with (first
        | (go_at_call 114;have _hq:=hb1';refine(air _ p1 q1 r1 _ (G1.below (by repeat(first|exact Below.refl _ _|refine Below.drew ?_)))).mono ?_;rintro e w2 ⟨rfl,hb2⟩;have hb2':Below w1.heap.size w1 w2:=(show Below w1.heap.size w1 _ by repeat(first|exact Below.refl _ _|refine Below.drew ?_)).trans hb2;replace G1:=G1.below hb2';replace DV:=DV.below hb2';replace ba:=ba.below hb2';clear ba1 ba2 ba3 ba4;obtain⟨ba1,ba2,ba3,ba4⟩:=ba.facts;replace bR:=bR.below hb2';clear bR1 bR2 bR3 bR4;obtain⟨bR1,bR2,bR3,bR4⟩:=bR.facts;replace cc:=cc.below hb2';clear cc1 cc2 cc3 cc4;obtain⟨cc1,cc2,cc3,cc4⟩:=cc.facts)
        | (go_at_call 140;refine(ab1 _ _ _ _ R (DV.hR.sl.below (by repeat(first|exact Below.refl _ _|refine Below.drew ?_))) 10000 a (by omega) (by omega) (by omega)).mono ?_;rintro e w1 ⟨v1,rfl,I1,hb1⟩;have hb1':Below wr.heap.size wr w1:=(show Below wr.heap.size wr _ by repeat(first|exact Below.refl _ _|refine Below.drew ?_)).trans hb1;obtain⟨p1,q1,r1,rfl,G1,far1⟩:=I1.far;clear I1;replace DV:=DV.below hb1';replace ba:=ba.below hb1';clear ba1 ba2 ba3 ba4;obtain⟨ba1,ba2,ba3,ba4⟩:=ba.facts;replace bR:=bR.below hb1';clear bR1 bR2 bR3 bR4;obtain⟨bR1,bR2,bR3,bR4⟩:=bR.facts;replace cc:=cc.below hb1';clear cc1 cc2 cc3 cc4;obtain⟨cc1,cc2,cc3,cc4⟩:=cc.facts))
       all_goals
        rw[vR]at G1;have FIN:=hide (DV.setR (Wh.natu G1));have FAR:Hid (0<r1.length->∀b off,p1=some ⟨b,off,none⟩->b≠g):=fun h0 b off e=>by have:=far1 h0 b off e;simp at this;omega
        clear ba1 ba2 ba3 ba4 cc1 cc2 cc3 cc4 DV;go_wp2;go_meet
        case rel=>exact⟨p1,q1,r1,FIN.out,FAR.out⟩
      case rest=>
       obtain⟨pR,qR,R,DV,farR⟩:=hcut;have HFR:=hide farR;clear farR vR ba bR cc;have lR2:=DV.hR.len (m:=B.length+1) (by rw[pw];have:=HYP.out;omega);go_wp2;obtain⟨r9,hr9⟩:∃r9,r*10000+a=r9:=⟨_,rfl⟩;rw[hr9]at DV;have hy9:y*9999+y=y*(9999+1):=by rw[Int.mul_add];omega
       go_loopw [11,12] (fun lo hi wx=>∃l h:Int,lo=.int .i64 l/\hi=.int .i64 h/\0<=l/\l<=h/\h<=9999/\y*l<=r9/\r9<y*(h+1)/\Below wc.heap.size wc wx) (fun lo hi _=>(intOf hi-intOf lo).toNat)
       case atStart=>exact⟨0,9999,rfl,rfl,by omega,by omega,by omega,by omega,by omega,Below.refl _ _⟩
       case round=>
        obtain⟨l,h,rfl,rfl,l0,lh,h9,lo1,hi1,hbx⟩:=hrel;replace DV:=DV.below hbx;have LO:=hide lo1;have HI:=hide hi1;have HBW:=hide hbx;clear lo1 hi1 hbx;by_cases hlt:l<h
        ·obtain⟨m,hm⟩:∃m,(l+h+1)/2=m:=⟨_,rfl⟩;have hm1:l<m/\m<=h:=by omega
         have bY:=DV.bY;have bR:=DV.bR;have vY:val Y=y:=by rw[DV.hY.1.val];omega
         have hg9:0<=r9:=by omega
         go_upto_region 15 with fail
         rw[hm];go_cut [66] (fun v wx=>v=.bool (decide (y*m<=r9))/\Below wr.heap.size wr wx)
         case first=>
          obtain⟨bY1,bY2,bY3,bY4⟩:=bY.facts;obtain⟨bR1,bR2,bR3,bR4⟩:=bR.facts;have K:=hide (fun w g1 g2 a1 a2 c1 c2 xs ys x y hx hy=>afw w g1 g2 a1 a2 c1 c2 xs ys x y hx hy);go_region_held3 (fun w'=>w'.cell? ⟨gy,0,none⟩=some (.bool false)/\w'.cell? ⟨gy,1,none⟩=some (.slice pY Y.length qY)/\w'.cell? ⟨gr,0,none⟩=some (.bool false)/\w'.cell? ⟨gr,1,none⟩=some (.slice pR R.length qR)) (go_keep) (first
           | (go_at_call 116;have _hq:=hb2';refine(afw _ _ _ p1 _ q1 _ r1 R _ _ (G1.below (by repeat(first|exact Below.refl _ _|refine Below.drew ?_))) (DV.hR.1.below (by repeat(first|exact Below.refl _ _|refine Below.drew ?_)))).mono ?_;rintro e w3 ⟨rfl,hb3⟩;have hb3':Below w2.heap.size w2 w3:=(show Below w2.heap.size w2 _ by repeat(first|exact Below.refl _ _|refine Below.drew ?_)).trans hb3;replace DV:=DV.below hb3';replace bY:=bY.below hb3';clear bY1 bY2 bY3 bY4;obtain⟨bY1,bY2,bY3,bY4⟩:=bY.facts;replace bR:=bR.below hb3';clear bR1 bR2 bR3 bR4;obtain⟨bR1,bR2,bR3,bR4⟩:=bR.facts)
           | (go_at_call 114;have _hq:=hb1';refine(air _ p1 q1 r1 _ (G1.below (by repeat(first|exact Below.refl _ _|refine Below.drew ?_)))).mono ?_;rintro e w2 ⟨rfl,hb2⟩;have hb2':Below w1.heap.size w1 w2:=(show Below w1.heap.size w1 _ by repeat(first|exact Below.refl _ _|refine Below.drew ?_)).trans hb2;replace G1:=G1.below hb2';replace DV:=DV.below hb2';replace bY:=bY.below hb2';clear bY1 bY2 bY3 bY4;obtain⟨bY1,bY2,bY3,bY4⟩:=bY.facts;replace bR:=bR.below hb2';clear bR1 bR2 bR3 bR4;obtain⟨bR1,bR2,bR3,bR4⟩:=bR.facts)
           | (go_at_call 140;refine(ab1 _ _ _ _ Y (DV.hY.sl.below (by repeat(first|exact Below.refl _ _|refine Below.drew ?_))) m 0 (by omega) (by omega) (by omega)).mono ?_;rintro e w1 ⟨v1,rfl,I1,hb1⟩;have hb1':Below wr.heap.size wr w1:=(show Below wr.heap.size wr _ by repeat(first|exact Below.refl _ _|refine Below.drew ?_)).trans hb1;obtain⟨p1,q1,r1,rfl,G1,far1⟩:=I1.far;clear I1 far1;replace DV:=DV.below hb1';replace bY:=bY.below hb1';clear bY1 bY2 bY3 bY4;obtain⟨bY1,bY2,bY3,bY4⟩:=bY.facts;replace bR:=bR.below hb1';clear bR1 bR2 bR3 bR4;obtain⟨bR1,bR2,bR3,bR4⟩:=bR.facts))
          all_goals
           clear DV bY1 bY2 bY3 bY4 bR1 bR2 bR3 bR4;have HBX:=hide ((hb1'.trans (hb2'.mono hb1'.size)).trans (hb3'.mono (Nat.le_trans hb1'.size hb2'.size)));have e9:(cmpI (y*m) (r9.natAbs:Int)<=0)↔(y*m<=r9):=by
            rw[show((r9.natAbs:Nat):Int)=r9 by omega];exact avo
           have e10:decide (cmpI (y*m) (r9.natAbs:Int)<=0)=decide (y*m<=r9):=decide_eq_decide.2 e9;have E9:=hide e10;clear e9 e10;go_wp2;go_meet
           case rel=>exact⟨by rw[<-E9.out],HBX.out⟩
         case rest=>
          obtain⟨rfl,hbx⟩:=hcut;by_cases hle:y*m<=r9
          ·have hd:decide (y*m<=r9)=true:=decide_eq_true hle;rw[hd];have HLE:=hide hle;clear hle hd;go_wp2;go_roundw
           case rel=>exact⟨m,h,by first|rfl|rw[hm],rfl,by omega,by omega,by omega,HLE.out,HI.out,HBW.out.trans (hbx.mono HBW.out.size)⟩
           case measure=>simp[intOf];omega
          ·have hd:decide (y*m<=r9)=false:=decide_eq_false hle;rw[hd];have HLE:=hide hle;clear hle hd;go_wp2;go_roundw
           case rel=>exact⟨l,m-1,rfl,by first|rfl|rw[hm],by omega,by omega,by omega,LO.out,by have:=HLE.out;rw[show m-1+1=m by omega];omega,HBW.out.trans (hbx.mono HBW.out.size)⟩
           case measure=>simp[intOf];omega
        ·obtain rfl:h=l:=by omega
         have vY:val Y=y:=by rw[DV.hY.1.val];omega
         have hg9:0<=r9:=by omega
         obtain⟨cd,fd⟩:=DV.cell k (by omega);have DV2:=DV.setD k h (by omega) HFR.out;have HDV:=hide DV2;have hp9:r9<pw (B.length+1):=by rw[pw];have:=HYP.out;omega
         have hp8:val Y*h+0<pw (B.length+1):=by rw[vY];have:=LO.out;omega
         have HP8:=hide hp8;have vv:∃dv,Dl.getD k 0=dv:=⟨_,rfl⟩;obtain⟨dv,hdv⟩:=vv;rw[hdv]at cd;clear hp9 hp8 DV DV2 hdv;go_upto_region 19 with fail
         generalize wr.setCell ⟨g,k,none⟩ (.int .i64 h)=ws at HDV ⊢;have DV:=HDV.out;have bY:=DV.bY;have bR:=DV.bR;clear HDV cd fd;have e1:y*(h+1)=y*h+y:=by rw[Int.mul_add];omega
         have E1:=hide e1;clear e1;obtain⟨bY1,bY2,bY3,bY4⟩:=bY.facts;obtain⟨bR1,bR2,bR3,bR4⟩:=bR.facts;go_region_with (first
           | (go_at_call 137;have _hq:=hb2';refine(asf _ _ _ _ R _ (DV.hR.below (by repeat(first|exact Below.refl _ _|refine Below.drew ?_))) _ p1 q1 r1 _ (Wh.natu (G1.below (by repeat(first|exact Below.refl _ _|refine Below.drew ?_)))) (by omega) (by have:=aau G1.canon (m:=B.length+1) (by rw[G1.val];exact HP8.out);omega)).mono ?_;rintro e w3 ⟨n3,p3,q3,r3,rfl,G3,l3,hb3⟩;have hb3':Below w2.heap.size w2 w3:=(show Below w2.heap.size w2 _ by repeat(first|exact Below.refl _ _|refine Below.drew ?_)).trans hb3;replace DV:=DV.below hb3';replace bY:=bY.below hb3';clear bY1 bY2 bY3 bY4;obtain⟨bY1,bY2,bY3,bY4⟩:=bY.facts;replace bR:=bR.below hb3';clear bR1 bR2 bR3 bR4;obtain⟨bR1,bR2,bR3,bR4⟩:=bR.facts)
           | (go_at_call 114;have _hq:=hb1';refine(air _ p1 q1 r1 _ (G1.below (by repeat(first|exact Below.refl _ _|refine Below.drew ?_)))).mono ?_;rintro e w2 ⟨rfl,hb2⟩;have hb2':Below w1.heap.size w1 w2:=(show Below w1.heap.size w1 _ by repeat(first|exact Below.refl _ _|refine Below.drew ?_)).trans hb2;replace G1:=G1.below hb2';replace DV:=DV.below hb2';replace bY:=bY.below hb2';clear bY1 bY2 bY3 bY4;obtain⟨bY1,bY2,bY3,bY4⟩:=bY.facts;replace bR:=bR.below hb2';clear bR1 bR2 bR3 bR4;obtain⟨bR1,bR2,bR3,bR4⟩:=bR.facts)
           | (go_at_call 140;refine(ab1 _ _ _ _ Y (DV.hY.sl.below (by repeat(first|exact Below.refl _ _|refine Below.drew ?_))) h 0 (by omega) (by omega) (by omega)).mono ?_;rintro e w1 ⟨v1,rfl,I1,hb1⟩;have hb1':Below ws.heap.size ws w1:=(show Below ws.heap.size ws _ by repeat(first|exact Below.refl _ _|refine Below.drew ?_)).trans hb1;obtain⟨p1,q1,r1,rfl,G1,far1⟩:=I1.far;clear I1 far1;replace DV:=DV.below hb1';replace bY:=bY.below hb1';clear bY1 bY2 bY3 bY4;obtain⟨bY1,bY2,bY3,bY4⟩:=bY.facts;replace bR:=bR.below hb1';clear bR1 bR2 bR3 bR4;obtain⟨bR1,bR2,bR3,bR4⟩:=bR.facts))
         all_goals
          rw[vY]at G3;have FIN:=hide (DV.setR G3);clear bY1 bY2 bY3 bY4 DV;go_wp2;go_roundw
          case rel=>exact⟨k,Dl.set k h,n3,p3,q3,r3,_,by omega,by go_num,FIN.out,by rw[<-hr9];exact asg (by omega) (by have:=FIN.out.dl.1;rw[List.length_set]at this;omega) HAK.out HV.out,by have:=LO.out;omega,by have:=HI.out;have:=E1.out;omega⟩
          case measure=>simp[intOf]
end Dm
namespace Dm
open Go.RowKit
open Lm (hide aal aaa)
theorem asj{ds:List Int}{k:Nat}{u x:Int}(hk:ds.length=k)(h:val ds+pw k*u=x):val (ds ++ [u%10000])+pw (k+1)*(u/10000)=x:=by
 rw[abh,hk,pw];have e:u=u%10000+10000*(u/10000):=by omega
 have e2:pw k*(u%10000)+10000*pw k*(u/10000)=pw k*u:=by
  rw[Int.mul_comm 10000 (pw k),Int.mul_assoc,<-Int.mul_add,<-e]
 omega
theorem asl{ds:List Int}{k:Nat}{u:Int}(_hk:ds.length=k)(hl:Limb ds)(hu:0<u)(h:val ds+pw k*u<18446744073709551616):k<=4:=by
 apply Classical.byContradiction;intro hn;have h1:=aaw (m:=5) (n:=k) (by omega);rw[show pw 5=100000000000000000000 from by decide]at h1;have h2:pw k*1<=pw k*u:=Int.mul_le_mul_of_nonneg_left (by omega) (by omega);have h3:=(aac hl).1;omega
theorem avp(w:World)(v:Int)(h1 : -9223372036854775808<=v)(h2:v<=9223372036854775807)(h0:v<0):
  Calls Tryz.prog 71 #[.int .i64 v] w fun e w'=>∃ng' ao cap rs,e=.returned (.agg #[.bool ng',.slice ao rs.length cap])/\Wh w' ng' ao cap rs v/\rs.length<=5/\Below w.heap.size w w':=by
 obtain⟨i0,hi,hz0,hz1,hz2⟩:=info_parts acu;obtain⟨w0,e0,br,hb0,hs0⟩:=abv w false (.slice none 0 0);have E0:=hide e0;clear e0 hs0;have hw:IntKind.u64.wrap (-IntKind.u64.wrap v) = -v:=by rw[IntKind.wrap_u64,IntKind.wrap_u64];omega
 go_enter Tryz.func71,Tryz.ntmps71
 go_wp2;rw[E0.out];clear hw;go_loopw [3,4] (fun mv uv wr=>∃(k:Nat) (u:Int) (ds:List Int),uv=.int .u64 u/\0<=u/\u<18446744073709551616/\ds.length=k/\k<=5/\Limb ds/\val ds+pw k*u = -v/\wr.ownsRow w0.heap.size 3 1 mv k (ds.map (Value.int .i64))/\Below w0.heap.size w0 wr) (fun _ uv _=>(intOf uv).toNat)
 case atStart=>exact⟨0,-v,[],rfl,by omega,by omega,rfl,by omega,aad,by simp[val,pw],World.ownsRow_nil _ _ _ _,Below.refl _ _⟩
 case round=>
  obtain⟨k,u,ds,rfl,hu0,hu1,hdl,hk5,hds,hv,hown,hbel⟩:=hrel;have HD:=hide hds;have HDL:=hide hdl;have HV:=hide hv;have hsz:=hbel.size;clear hds hdl hv;by_cases hu:0<u
  ·have hroom:=asl HDL.out HD.out hu (by rw[HV.out];omega);have HV':=hide (asj HDL.out HV.out);go_wp2_with (at_builtin;refine wpList_append_own _ rfl (.tmp 13) (.tmp 17) 61 rfl w0.heap.size 3 i0 (.int .i64 0) 1 8 Tryz.underlying61 hi hz0 hz1 hz2 rfl (by decide) _ _ _ rfl (hown.alloc _) ⟨wr.heap.size,0,none⟩ 1 1 [.int .i64 (u%10000)] rfl rfl (cell_one_new _ _ _) ?c2 ?c3 ?c4 ?c5 ?_)
   case c2=>first|rfl|(intro x hx;simp at hx;subst hx;rfl)
   case c3=>unfold maxLen;omega
   case c4=>omega
   case c5=>first|omega|(simp;omega)
   intro v4 w4 hown4 hgrow4 _;have R:=ac0 hown4 hgrow4 hbel (hown.lt);clear hown4 hgrow4 hown;go_wp2;go_roundw
   case rel=>exact⟨k+1,u/10000,ds ++ [u%10000],rfl,by omega,by omega,by have:=HDL.out;simp;omega,by omega,aaj.2 ⟨HD.out,aaf.2 ⟨by omega,aad⟩⟩,HV'.out,R.1,R.2⟩
   case measure=>simp[intOf];omega
  ·have hu':u=0:=by omega
   subst hu';have hval:Hid (val ds = -v):=by have:=HV.out;rw[Int.mul_zero,Int.add_zero]at this;exact this
   obtain⟨ao1,cap1,hv1,s1,_,_⟩:=(abt hown HD.out).open;subst hv1;replace br:=br.below hbel;have HB:=hb0.trans (hbel.mono hb0.size);have hd:decide (v<0)=true:=by simp;omega
   have hsg:Hid (sg true (-v)=v):=by simp[Hid,sg]
   clear hown hbel;go_wp2_with fail
   try rw[hd]
   refine(abx _ _ _ _ ds _ s1 hval.out).mono ?_;rintro e w2 ⟨ng2,r2,rfl,G2,l2,hb2⟩;rw[hsg.out]at G2;replace br:=br.below hb2;replace HB:=HB.trans (hb2.mono HB.size);have hdl:=HDL.out;clear hb2 hval s1;obtain⟨ka,kb,kc,kd⟩:=br.facts;have X:=hide (br.set ng2 (.slice ao1 r2.length cap1)).facts;have Y:=hide (br.wh ng2 (.slice ao1 r2.length cap1) G2);have Z:=hide (aag HB (Nat.le_refl _) (.bool ng2) (.slice ao1 r2.length cap1));go_wp2;refine bodyPost_ret (v:=.agg #[.bool ng2,.slice ao1 r2.length cap1]) ?_ rfl ⟨ng2,ao1,cap1,r2,rfl,Y.out,by omega,Z.out⟩;simp[results,Tryz.results71,go_sem,X.out.1,X.out.2.1]
theorem avq(w:World)(v:Int)(h1 : -9223372036854775808<=v)(h2:v<=9223372036854775807)(h0:¬v<0):
  Calls Tryz.prog 71 #[.int .i64 v] w fun e w'=>∃ng' ao cap rs,e=.returned (.agg #[.bool ng',.slice ao rs.length cap])/\Wh w' ng' ao cap rs v/\rs.length<=5/\Below w.heap.size w w':=by
 obtain⟨i0,hi,hz0,hz1,hz2⟩:=info_parts acu;obtain⟨w0,e0,br,hb0,hs0⟩:=abv w false (.slice none 0 0);have E0:=hide e0;clear e0 hs0;have hw:True:=trivial;go_enter Tryz.func71,Tryz.ntmps71
 go_wp2;rw[E0.out];clear hw;go_loopw [3,4] (fun mv uv wr=>∃(k:Nat) (u:Int) (ds:List Int),uv=.int .u64 u/\0<=u/\u<18446744073709551616/\ds.length=k/\k<=5/\Limb ds/\val ds+pw k*u=v/\wr.ownsRow w0.heap.size 3 1 mv k (ds.map (Value.int .i64))/\Below w0.heap.size w0 wr) (fun _ uv _=>(intOf uv).toNat)
 case atStart=>exact⟨0,v,[],rfl,by omega,by omega,rfl,by omega,aad,by simp[val,pw],World.ownsRow_nil _ _ _ _,Below.refl _ _⟩
 case round=>
  obtain⟨k,u,ds,rfl,hu0,hu1,hdl,hk5,hds,hv,hown,hbel⟩:=hrel;have HD:=hide hds;have HDL:=hide hdl;have HV:=hide hv;have hsz:=hbel.size;clear hds hdl hv;by_cases hu:0<u
  ·have hroom:=asl HDL.out HD.out hu (by rw[HV.out];omega);have HV':=hide (asj HDL.out HV.out);go_wp2_with (at_builtin;refine wpList_append_own _ rfl (.tmp 13) (.tmp 17) 61 rfl w0.heap.size 3 i0 (.int .i64 0) 1 8 Tryz.underlying61 hi hz0 hz1 hz2 rfl (by decide) _ _ _ rfl (hown.alloc _) ⟨wr.heap.size,0,none⟩ 1 1 [.int .i64 (u%10000)] rfl rfl (cell_one_new _ _ _) ?c2 ?c3 ?c4 ?c5 ?_)
   case c2=>first|rfl|(intro x hx;simp at hx;subst hx;rfl)
   case c3=>unfold maxLen;omega
   case c4=>omega
   case c5=>first|omega|(simp;omega)
   intro v4 w4 hown4 hgrow4 _;have R:=ac0 hown4 hgrow4 hbel (hown.lt);clear hown4 hgrow4 hown;go_wp2;go_roundw
   case rel=>exact⟨k+1,u/10000,ds ++ [u%10000],rfl,by omega,by omega,by have:=HDL.out;simp;omega,by omega,aaj.2 ⟨HD.out,aaf.2 ⟨by omega,aad⟩⟩,HV'.out,R.1,R.2⟩
   case measure=>simp[intOf];omega
  ·have hu':u=0:=by omega
   subst hu';have hval:Hid (val ds=v):=by have:=HV.out;rw[Int.mul_zero,Int.add_zero]at this;exact this
   obtain⟨ao1,cap1,hv1,s1,_,_⟩:=(abt hown HD.out).open;subst hv1;replace br:=br.below hbel;have HB:=hb0.trans (hbel.mono hb0.size);have hd:decide (v<0)=false:=by simp;omega
   have hsg:Hid (sg false (v)=v):=by simp[Hid,sg]
   clear hown hbel;go_wp2_with fail
   try rw[hd]
   refine(abx _ _ _ _ ds _ s1 hval.out).mono ?_;rintro e w2 ⟨ng2,r2,rfl,G2,l2,hb2⟩;rw[hsg.out]at G2;replace br:=br.below hb2;replace HB:=HB.trans (hb2.mono HB.size);have hdl:=HDL.out;clear hb2 hval s1;obtain⟨ka,kb,kc,kd⟩:=br.facts;have X:=hide (br.set ng2 (.slice ao1 r2.length cap1)).facts;have Y:=hide (br.wh ng2 (.slice ao1 r2.length cap1) G2);have Z:=hide (aag HB (Nat.le_refl _) (.bool ng2) (.slice ao1 r2.length cap1));go_wp2;refine bodyPost_ret (v:=.agg #[.bool ng2,.slice ao1 r2.length cap1]) ?_ rfl ⟨ng2,ao1,cap1,r2,rfl,Y.out,by omega,Z.out⟩;simp[results,Tryz.results71,go_sem,X.out.1,X.out.2.1]
theorem avr(w:World)(v:Int)(h1 : -9223372036854775808<=v)(h2:v<=9223372036854775807):
  Calls Tryz.prog 71 #[.int .i64 v] w fun e w'=>∃ng' ao cap rs,e=.returned (.agg #[.bool ng',.slice ao rs.length cap])/\Wh w' ng' ao cap rs v/\rs.length<=5/\Below w.heap.size w w':=by
 by_cases h0:v<0
 ·exact avp w v h1 h2 h0
 ·exact avq w v h1 h2 h0
end Dm
namespace Dm
open Go.RowKit
open Lm (hide aal aaa cmpI abn abu)
theorem adq(u v:Int):Int.gcd v (u%v)=Int.gcd v u:=by
 have h1:=Lm.adq u v (u/v);have h2:=Int.mul_ediv_add_emod u v;rw[Int.mul_comm]at h2;rw[show u-u/v*v=u%v by omega]at h1;rw[h1,Int.gcd_comm]
theorem a0c(w:World)(n1:Bool)(a1:Option Addr)(c1:Nat)(A:List Int)(x:Int)(hx:Got w a1 c1 A x)(n2:Bool)(a2:Option Addr)(c2:Nat)(B:List Int)(y:Int)(hy:Got w a2 c2 B y)(m1:A.length<=300000)(m2:B.length<=300000):
  Calls Tryz.prog 108 #[.agg #[.bool n1,.slice a1 A.length c1],.agg #[.bool n2,.slice a2 B.length c2]] w fun e w'=>∃ng ao cap rs,e=.returned (.agg #[.bool ng,.slice ao rs.length cap])/\Wh w' ng ao cap rs (Int.gcd x y:Int)/\rs.length<=A.length+B.length/\Below w.heap.size w w':=by
 obtain⟨w0,e0,bx,by',br,hb0,hs0⟩:=acs w n1 (.slice a1 A.length c1) n2 (.slice a2 B.length c2);have E0:=hide e0;have hx0:=hx.below hb0;have hy0:=hy.below hb0;have hxn:0<=x:=by rw[<-hx.val];exact(aac hx.canon.1).1
 have hyn:0<=y:=by rw[<-hy.val];exact(aac hy.canon.1).1
 clear e0;go_enter Tryz.func108,Tryz.ntmps108
 go_upto_region 1 with fail
 rw[E0.out];obtain⟨bx1,bx2,bx3,bx4⟩:=bx.facts;go_wp2_with fail
 refine(anv _ _ _ _ A _ hx0 (by omega)).mono ?_;rintro e w1 ⟨nX,pX,qX,X,rfl,GX,lX,hb1⟩;obtain⟨w2,e2,bX,hb2,hs2⟩:=abv w1 nX (.slice pX X.length qX);have z1:=hb1.size;have HB:=hb0.trans (hb1.mono hb0.size);replace HB:=HB.trans (hb2.mono HB.size);replace bx:=(bx.below hb1).below hb2;replace by':=(by'.below hb1).below hb2;replace br:=(br.below hb1).below hb2;replace hy0:=(hy0.below hb1).below hb2;replace GX:=GX.below hb2;have E2:=hide e2;clear e2 bx1 bx2 bx3 bx4 hb1 hb2 E0;go_upto_region 2 with fail
 rw[E2.out];clear E2;obtain⟨by1,by2,by3,by4⟩:=by'.facts;go_wp2_with fail
 refine(anv _ _ _ _ B _ hy0 (by omega)).mono ?_;rintro e w3 ⟨nY,pY,qY,Y,rfl,GY,lY,hb3⟩;obtain⟨w4,e4,bY,hb4,hs4⟩:=abv w3 nY (.slice pY Y.length qY);have z3:=hb3.size;replace HB:=HB.trans (hb3.mono HB.size);replace HB:=HB.trans (hb4.mono HB.size);replace br:=(br.below hb3).below hb4;replace bX:=(bX.below hb3).below hb4;replace GX:=(GX.below hb3).below hb4;replace GY:=GY.below hb4;have E4:=hide e4;clear e4 by1 by2 by3 by4 hb3 hb4 hy0 hx0 bx by';go_wp2_with fail
 rw[E4.out];clear E4;have hsx:w.heap.size+3<=w1.heap.size:=by omega
 have hsy:w1.heap.size+1<=w3.heap.size:=by omega
 have hsz:w3.heap.size<w4.heap.size:=by omega
 generalize w1.heap.size=gx at *
 generalize w3.heap.size=gy at *
 have hsg:sg false x=x:=rfl;have hsg2:sg false y=y:=rfl;rw[hsg]at GX;rw[hsg2]at GY;clear hsg hsg2 z1 z3 hs2 hs4 hs0;go_loopg [] y.toNat (fun k wr=>∃(nX:Bool) (pX:Option Addr) (qX:Nat) (X:List Int) (u:Int) (nY:Bool) (pY:Option Addr) (qY:Nat) (Y:List Int) (v:Int),Box wr gx nX (.slice pX X.length qX)/\Box wr gy nY (.slice pY Y.length qY)/\Box wr (w.heap.size+1+1) false (.slice none 0 0)/\Wh wr nX pX qX X u/\Wh wr nY pY qY Y v/\0<=u/\0<=v/\Int.gcd u v=Int.gcd x y/\X.length<=A.length+B.length/\Y.length<=A.length+B.length/\X.length<=300000/\Y.length<=300000/\Below w.heap.size w wr/\k=v.toNat)
 case atStart=>exact⟨nX,pX,qX,X,x,nY,pY,qY,Y,y,bX,bY,br,GX,GY,hxn,hyn,rfl,by omega,by omega,by omega,by omega,HB,rfl⟩
 case round=>
  clear bX bY br GX GY HB lX lY;obtain⟨nX,pX,qX,X,u,nY,pY,qY,Y,v,bX,bY,br,GX,GY,hu,hv,hg,lX,lY,lX2,lY2,HB,hk⟩:=hrel;obtain rfl:nY=false:=by rw[GY.2];simp;omega
  have HG:=hide hg;have HK:=hide hk;have hz:=GY.zero;have HZ:=hide hz;obtain⟨bY1,bY2,bY3,bY4⟩:=bY.facts;clear hg hk hz;go_wp2_with fail
  refine(avi _ _ _ _).mono ?_;rintro e w5 ⟨rfl,e5⟩;have hb5:Below wr.heap.size wr w5:=by rw[e5];exact(Below.refl _ _).alloc (Nat.le_refl _) _
  clear e5;replace bX:=bX.below hb5;replace bY:=bY.below hb5;replace br:=br.below hb5;replace GX:=GX.below hb5;replace GY:=GY.below hb5;replace HB:=HB.trans (hb5.mono HB.size);clear hb5 bY1 bY2 bY3 bY4;by_cases h0:Y.length=0
  ·have v0:v=0:=HZ.out.2 (List.eq_nil_of_length_eq_zero h0);have hs:sgn Y.length=0:=by simp[sgn,h0]
   rw[hs];have HG2:Hid ((Int.gcd x y:Int)=u):=by
    have:=HG.out;rw[v0]at this;show((Int.gcd x y:Nat):Int)=u;rw[<-this,Int.gcd_zero_right];omega
   clear hs h0 v0;obtain⟨bX1,bX2,bX3,bX4⟩:=bX.facts;obtain⟨br1,br2,br3,br4⟩:=br.facts;have F:=hide (br.set nX (.slice pX X.length qX)).facts;have Y1:=hide (br.wh nX (.slice pX X.length qX) GX);have Z:=hide (aag HB (show w.heap.size<=w.heap.size+1+1 by omega) (.bool nX) (.slice pX X.length qX));go_wp2;refine bodyPost_ret (v:=.agg #[.bool nX,.slice pX X.length qX]) ?_ rfl ⟨nX,pX,qX,X,rfl,by rw[HG2.out];exact Y1.out,by omega,Z.out⟩;simp[results,Tryz.results108,go_sem,F.out.1,F.out.2.1]
  ·have hs:sgn Y.length=1:=by simp[sgn,h0]
   rw[hs];clear hs;have vp:0<v:=by
    apply Classical.byContradiction;intro hn;exact h0 (by rw[HZ.out.1 (by omega)];rfl)
   obtain⟨bX1,bX2,bX3,bX4⟩:=bX.facts;obtain⟨bY1,bY2,bY3,bY4⟩:=bY.facts;have GX':=GX.1;have GY':=GY.1;rw[show((u.natAbs:Nat):Int)=u by omega]at GX';rw[show((v.natAbs:Nat):Int)=v by omega]at GY';go_wp2_with fail
   refine(akb _ _ _ _ X _ GX' _ _ _ Y _ GY' (by omega) (by omega) (by omega)).mono ?_;rintro e w6 ⟨nq,pq,qq,Q,nr,pr,qr,R,rfl,GQ,GR,lQ,lR,hb6⟩;obtain⟨w7,e7,bq,bz,hb7,hs7⟩:=aeo w6 nq (.slice pq Q.length qq) nr (.slice pr R.length qr);have z6:=hb6.size;have lgy:=aaa bY;replace bX:=(bX.below hb6).below hb7;replace bY:=(bY.below hb6).below hb7;replace br:=(br.below hb6).below hb7;replace GY:=(GY.below hb6).below hb7;replace GR:=GR.below hb7;replace HB:=(HB.trans (hb6.mono HB.size)).trans (hb7.mono (Nat.le_trans HB.size z6));have E7:=hide e7;clear e7 hb6 hb7 bX1 bX2 bX3 bX4 bY1 bY2 bY3 bY4 GX GX' GY' GQ bq;go_upto_region 5 with fail
   rw[E7.out];clear E7;generalize w6.heap.size=g6 at *
   have bX':=bX.set false (.slice pY Y.length qY);have bY':=ab7 bY (show gy≠gx by omega) (.bool false) (.slice pY Y.length qY);have br':=ab7 br (show w.heap.size+1+1≠gx by omega) (.bool false) (.slice pY Y.length qY);have bz':=ab7 bz (show g6+1≠gx by omega) (.bool false) (.slice pY Y.length qY);have GY':=bX.wh false (.slice pY Y.length qY) GY;have GR':=bX.wh false (.slice pY Y.length qY) GR;have HB':=aag HB (show w.heap.size<=gx by omega) (.bool false) (.slice pY Y.length qY);obtain⟨bX1,bX2,bX3,bX4⟩:=bX.facts;obtain⟨bY1,bY2,bY3,bY4⟩:=bY.facts;have FF:=hide (And.intro bX' (And.intro bY' (And.intro br' (And.intro bz' (And.intro GY' (And.intro GR' HB'))))));clear bX' bY' br' bz' GY' GR' HB';go_upto_region 6 with fail
   clear bX bY br bz GY GR HB bX1 bX2 bX3 bX4 bY1 bY2 bY3 bY4;generalize (w7.setCell ⟨gx,0,none⟩ (.bool false)).setCell ⟨gx,1,none⟩ (.slice pY Y.length qY)=w8 at FF ⊢;obtain⟨bX,bY,br,bz,GY,GR,HB⟩:=FF.out;clear FF;obtain⟨bY1,bY2,bY3,bY4⟩:=bY.facts;obtain⟨bz1,bz2,bz3,bz4⟩:=bz.facts;have bX':=ab7 bX (show gx≠gy by omega) (.bool nr) (.slice pr R.length qr);have bY':=bY.set nr (.slice pr R.length qr);have br':=ab7 br (show w.heap.size+1+1≠gy by omega) (.bool nr) (.slice pr R.length qr);have GY':=bY.wh nr (.slice pr R.length qr) GY;have GR':=bY.wh nr (.slice pr R.length qr) GR;have HB':=aag HB (show w.heap.size<=gy by omega) (.bool nr) (.slice pr R.length qr);have FF:=hide (And.intro bX' (And.intro bY' (And.intro br' (And.intro GY' (And.intro GR' HB')))));clear bX' bY' br' GY' GR' HB' bX br;go_wp2;go_roundg (u%v).toNat
   case measure=>
    have:=Int.emod_lt_of_pos u vp;have:=Int.emod_nonneg u (show v≠0 by omega);have:=HK.out;omega
   case rel=>exact⟨false,pY,qY,Y,v,nr,pr,qr,R,u%v,FF.out.1,FF.out.2.1,FF.out.2.2.1,FF.out.2.2.2.1,FF.out.2.2.2.2.1,hv,Int.emod_nonneg u (show v≠0 by omega),by rw[<-HG.out,Int.gcd_comm u v];exact adq u v,lY,by omega,lY2,by omega,FF.out.2.2.2.2.2,rfl⟩
end Dm
namespace Dm
open Go.RowKit
open Lm (hide aal aaa)
theorem apo(w:World)(ng:Bool)(ao:Option Addr)(cap:Nat):
  Calls Tryz.prog 76 #[.agg #[.bool ng,.slice ao 0 cap]] w fun e w'=>e=.returned (.int .i64 0)/\Below w.heap.size w w':=by
 have hb:Below w.heap.size w (w.alloc (.cells #[.bool ng,.slice ao 0 cap] 82)):=(Below.refl _ _).alloc (Nat.le_refl _) _;go_enter Tryz.func76,Tryz.ntmps76
 go_wp2;go_ret;exact⟨rfl,hb⟩
theorem asm(w:World)(ao:Option Addr)(n cap:Nat)(h0:¬n=0):
  Calls Tryz.prog 76 #[.agg #[.bool true,.slice ao n cap]] w fun e w'=>e=.returned (.int .i64 (-1))/\Below w.heap.size w w':=by
 have hb:Below w.heap.size w (w.alloc (.cells #[.bool true,.slice ao n cap] 82)):=(Below.refl _ _).alloc (Nat.le_refl _) _;have hl2:(((n:Nat):Int)==0)=false:=by simp;omega
 clear h0;go_enter Tryz.func76,Tryz.ntmps76
 go_wp2;go_ret;exact⟨rfl,hb⟩
theorem asn(w:World)(ao:Option Addr)(n cap:Nat)(h0:¬n=0):
  Calls Tryz.prog 76 #[.agg #[.bool false,.slice ao n cap]] w fun e w'=>e=.returned (.int .i64 1)/\Below w.heap.size w w':=by
 have hb:Below w.heap.size w (w.alloc (.cells #[.bool false,.slice ao n cap] 82)):=(Below.refl _ _).alloc (Nat.le_refl _) _;have hl2:(((n:Nat):Int)==0)=false:=by simp;omega
 clear h0;go_enter Tryz.func76,Tryz.ntmps76
 go_wp2;go_ret;exact⟨rfl,hb⟩
theorem ax6(w:World)(ng:Bool)(ao:Option Addr)(cap:Nat)(rs:List Int)(z:Int)(h:Wh w ng ao cap rs z):
  Calls Tryz.prog 76 #[.agg #[.bool ng,.slice ao rs.length cap]] w fun e w'=>e=.returned (.int .i64 (Int.sign z))/\Below w.heap.size w w':=by
 by_cases h0:rs.length=0
 ·have hz:z=0:=h.zero.2 (List.eq_nil_of_length_eq_zero h0);rw[hz,h0];exact apo w ng ao cap
 ·have hz:z≠0:=fun e=>h0 (by rw[h.zero.1 e];rfl)
  cases ng with
  |true=>
   have hn:z<0:=by have:=h.2;simpa using this.symm
   rw[Int.sign_eq_neg_one_of_neg hn];exact asm w ao _ cap h0
  |false=>
   have hn:0<z:=by have:=h.2;simp at this;omega
   rw[Int.sign_eq_one_of_pos hn];exact asn w ao _ cap h0
theorem ax7(x y:Int):Int.gcd (x.natAbs:Int) (y.natAbs:Int)=Int.gcd x y:=by simp[Int.gcd]
end Dm
namespace Lm
open Go.RowKit
open Dm (WFr aj9)
theorem Kp.from{w w1 w':World}{p:Nat}{bs:List Nat}(hb:Below w.heap.size w w1)(k:Kp w1 w' p bs):Kp w w' p bs:=
 ⟨k.os.trans hb.os,k.tape.trans hb.tape,k.output.trans hb.output,Nat.le_trans hb.size k.size,fun j hj hp hn=>(k.other j (Nat.lt_of_lt_of_le hj hb.size) hp hn).trans (hb.block j hj)⟩
theorem a0d(B T:Nat)(w:World):Li B T w none 0 []:=⟨⟨none,0,rfl,Nat.le_refl _,by simp[maxLen],aad,.inl rfl⟩,fun h=>by omega⟩
theorem a0e(w:World):Wh w false none 0 [] 0:=⟨⟨⟨none,0,rfl,Nat.le_refl _,by simp[maxLen],aad,.inl rfl⟩,aca,rfl⟩,rfl⟩
theorem Li.wfr{B T:Nat}{w:World}{ng:Bool}{ao:Option Addr}{cap:Nat}{rs:List Int}{z:Int}(h:Li B T w ao cap rs)(g:Wh w ng ao cap rs z):WFr B T w ng ao cap rs z:=⟨h.fr g.1,g.2⟩
end Lm
namespace Lm
open Go Go.RowKit
open Dm (WFr)
section
variable {dst:Option Tmp} {ty:TypeId} {pos:String} {after:Array Edge} {guard:Option (Nat×Bool)} {a:Act} {w:World} {ats:Array TypeId} {i j:Nat} {z:Int}
theorem apq{u:Int}(h1:a.eval (.tmp i)=.int .i64 u)(h2:a.eval (.tmp j)=.int .i64 u):
  Does Tryz.prog {dst,op:=.binOp .neq 3 (.tmp i) (.tmp j) 3,type:=ty,pos,after,guard} a.eval w fun v' w'=>Below w.heap.size w w'/\Eqs (.bool false) v' w':=by
 refine adf (v:=.bool false) ?_ ?_ ⟨Below.refl _ _,rfl⟩
 ·rw[h1,h2];simp[go_sem]
 ·rw[h1,h2];simp[go_sem]
theorem ax8{u v:Int}(h1:a.eval (.tmp i)=.int .i64 u)(h : -9223372036854775808<=u+v/\u+v<=9223372036854775807):
  Does Tryz.prog {dst,op:=.binOp .add 3 (.tmp i) (.const (.int .i64 v)) 3,type:=ty,pos,after,guard} a.eval w fun v' w'=>Below w.heap.size w w'/\Eqs (.int .i64 (u+v)) v' w':=by
 refine adf (v:=.int .i64 (u+v)) ?_ ?_ ⟨Below.refl _ _,rfl⟩
 ·rw[h1];simp[go_sem,Act.eval]
 ·rw[h1];simp[go_sem,Act.eval];exact wrap64 h.1 h.2
end
end Lm
namespace Lm
open Go Go.RowKit
def Cl(w:World)(v:Value)(size n:Nat)(xs:List Value):Prop:=
 ∃ao cap,v=.slice ao n cap/\n<=cap/\cap<=9223372036854775807/\xs.length=n*size/\(n=0\/∃b off,ao=some ⟨b,off,none⟩/\b<w.heap.size/\∀j u,xs[j]? = some u->w.cell? ⟨b,off+j,none⟩=some u)
theorem Cl.below{w w':World}{v:Value}{size n:Nat}{xs:List Value}(h:Cl w v size n xs)(hb:Below w.heap.size w w'):Cl w' v size n xs:=by
 obtain⟨ao,cap,rfl,h1,h2,h3,h4⟩:=h;refine⟨ao,cap,rfl,h1,h2,h3,?_⟩;rcases h4 with h4|⟨b,off,rfl,hl,hc⟩
 ·exact .inl h4
 ·exact .inr ⟨b,off,rfl,Nat.lt_of_lt_of_le hl hb.size,fun j u hu=>(hb.cell (p:=⟨b,off+j,none⟩) hl).trans (hc j u hu)⟩
theorem Cl.own{w:World}{base:Nat}{e:TypeId}{size n:Nat}{v:Value}{xs:List Value}(h:w.ownsRow base e size v n xs):Cl w v size n xs:=by
 obtain⟨hl,⟨rfl,rfl⟩|⟨g,cap,cur,rfl,hb,hh,h1,h2,h3,h4⟩⟩:=h
 ·exact⟨none,0,rfl,Nat.le_refl _,by omega,hl,.inl rfl⟩
 ·refine⟨_,cap,rfl,h1,by simpa[maxLen]using h2,hl,.inr ⟨g,0,rfl,aaa hh,fun j u hu=>?_⟩⟩;rw[Nat.zero_add,cell_of_row w g j cur e (0,0) hh];rw[<-h4,List.getElem?_take]at hu;split at hu
  ·simpa using hu
  ·cases hu
structure WE where
 ng:Bool
 a:Option Addr
 m:Nat
 c:Nat
 zs:List Int
def WE.z(e:WE):Int:=sg e.ng (val e.zs)
def WE.v(e:WE):Value:=.agg #[.bool e.ng,.slice e.a e.m e.c]
def flat:List WE->List Value
 | []=>[]
 |e::es=>.bool e.ng :: .slice e.a e.m e.c::flat es
theorem aay(es:List WE):(flat es).length=es.length*2:=by
 induction es with
 |nil=>rfl
 |cons e es ih=>simp only[flat,List.length_cons,ih];omega
theorem aa2{es:List WE}{k:Nat}{e:WE}(h:es[k]? = some e):(flat es)[k*2]? = some (.bool e.ng)/\(flat es)[k*2+1]? = some (.slice e.a e.m e.c):=by
 induction es generalizing k with
 |nil=>simp at h
 |cons x es ih=>
  cases k with
  |zero=>
   simp only[List.getElem?_cons_zero,Option.some.injEq]at h;subst h;simp[flat]
  |succ k=>
   have:=ih (k:=k) (by simpa using h);have e1:(k+1)*2=k*2+1+1:=by omega
   rw[e1];simpa[flat]using this
theorem adw(es fs:List WE):flat (es++fs)=flat es++flat fs:=by
 induction es with
 |nil=>rfl
 |cons e es ih=>simp[flat,ih]
structure Rw (w:World) (v:Value) (es:List WE):Prop where
 cl:Cl w v 2 es.length (flat es)
 sl:∀e∈es,Sl w (.slice e.a e.m e.c) e.zs
theorem Rw.below{w w':World}{v:Value}{es:List WE}(h:Rw w v es)(hb:Below w.heap.size w w'):Rw w' v es:=⟨h.cl.below hb,fun e he=>(h.sl e he).below hb⟩
theorem Rw.ag{w:World}{v:Value}{es:List WE}(h:Rw w v es){e:WE}(he:e∈es):Ag w e.ng e.a e.m e.c e.zs e.z:=⟨h.sl e he,rfl⟩
theorem Rw.parts{w:World}{ao:Option Addr}{n cap:Nat}{es:List WE}(h:Rw w (.slice ao n cap) es):n=es.length/\es.length<=cap/\cap<=9223372036854775807:=by
 obtain⟨ao',cap',hv,h1,h2,h3,h4⟩:=h.cl;obtain⟨rfl,rfl,rfl⟩:=(Value.slice.injEq .. ▸ hv);exact⟨rfl,h1,h2⟩
theorem Rw.cells{w:World}{ao:Option Addr}{n cap:Nat}{es:List WE}(h:Rw w (.slice ao n cap) es)(hp:0<es.length):∃b off,ao=some ⟨b,off,none⟩/\b<w.heap.size/\∀j u,(flat es)[j]? = some u->w.cell? ⟨b,off+j,none⟩=some u:=by
 obtain⟨ao',cap',hv,h1,h2,h3,h4⟩:=h.cl;obtain⟨rfl,_,rfl⟩:=(Value.slice.injEq .. ▸ hv);rcases h4 with h4|h4
 ·omega
 ·exact h4
section
variable {dst:Option Tmp} {ty:TypeId} {pos:String} {after:Array Edge} {guard:Option (Nat×Bool)} {a:Act} {w:World} {ats:Array TypeId} {i j:Nat}
theorem ajh{ao:Option Addr}{n c:Nat}(h:a.eval (.tmp i)=.slice ao n c):Does Tryz.prog {dst,op:=.call {callee:=.builtin .len,args:=#[.tmp i],argTypes:=#[23]},type:=ty,pos,after,guard} a.eval w fun v' w'=>Below w.heap.size w w'/\Eqs (.int .i64 n) v' w':=by
 have e:(execOp a.eval {dst,op:=.call {callee:=.builtin .len,args:=#[.tmp i],argTypes:=#[23]},type:=ty,pos,after,guard}).run Tryz.prog w=.ok (.value (.int .i64 n)) w:=by
  have h':a.tmps[i]?.getD undef=.slice ao n c:=by simpa[Act.eval]using h
  simp[go_sem,h']
 refine⟨?_⟩;unfold Turns;rw[e];exact⟨Below.refl _ _,rfl⟩
theorem acv{b off n c k:Nat}{ao:Option Addr}(h:a.eval (.tmp i)=.slice ao n c)(hao:ao=some ⟨b,off,none⟩)(hk:a.eval (.tmp j)=.int .i64 (k:Int))(hl:k<n):Does Tryz.prog {dst,op:=.indexAddr 23 (.tmp i) (.tmp j),type:=ty,pos,after,guard} a.eval w fun v' w'=>Below w.heap.size w w'/\Eqs (.pointer (some ⟨b,off+k*2,none⟩)) v' w':=by
 subst hao;have e:(execOp a.eval {dst,op:=.indexAddr 23 (.tmp i) (.tmp j),type:=ty,pos,after,guard}).run Tryz.prog w=.ok (.value (.pointer (some ⟨b,off+k*2,none⟩))) w:=by
  simp only[execOp,h,hk];go_simp
 refine⟨?_⟩;unfold Turns;rw[e];exact⟨Below.refl _ _,rfl⟩
theorem aso{b off k:Nat}{ao:Option Addr}{n cap:Nat}{es:List WE}{e:WE}(hp:a.eval (.tmp i)=.pointer (some ⟨b,off+k*2,none⟩))(hao:ao=some ⟨b,off,none⟩)(hR:Rw w (.slice ao n cap) es)(he:es[k]? = some e):Does Tryz.prog {dst,op:=.load 42 (.tmp i),type:=ty,pos,after,guard} a.eval w fun v' w'=>Below w.heap.size w w'/\Eqs (.agg #[.bool e.ng,.slice e.a e.m e.c]) v' w':=by
 have hk:k<es.length:=(List.getElem?_eq_some_iff.1 he).1;obtain⟨b',off',e',hb,hc⟩:=hR.cells (by omega);obtain⟨rfl,rfl⟩:b'=b/\off'=off:=by
  rw[hao]at e';simp only[Option.some.injEq,Addr.mk.injEq,and_true]at e';exact⟨e'.1.symm,e'.2.symm⟩
 obtain⟨f1,f2⟩:=aa2 he;have h1:=hc _ _ f1;have h2:w.cell? ⟨b',off'+k*2+1,none⟩=_:=hc _ _ f2;refine aav (v:=.agg #[.bool e.ng,.slice e.a e.m e.c]) ?_ ⟨Below.refl _ _,rfl⟩;rw[hp];go_simp
end
def lenW:List WE->Nat
 | []=>0
 |e::es=>1+e.m+lenW es
theorem ahg(es fs:List WE):lenW (es++fs)=lenW es+lenW fs:=by
 induction es with
 |nil=>simp[lenW]
 |cons e es ih=>simp only[List.cons_append,lenW,ih];omega
theorem asp{es:List WE}{k:Nat}{e:WE}(h:es[k]? = some e):lenW (es.take (k+1))=lenW (es.take k)+(1+e.m):=by
 rw[List.take_add_one,h,ahg];simp[lenW]
theorem afy{es:List WE}{e:WE}(h:e∈es):1+e.m<=lenW es:=by
 induction es with
 |nil=>cases h
 |cons x es ih=>
  simp only[lenW];rcases List.mem_cons.1 h with rfl|h
  ·omega
  ·have:=ih h;omega
section
variable {dst:Option Tmp} {ty:TypeId} {pos:String} {after:Array Edge} {guard:Option (Nat×Bool)} {a:Act} {w:World} {ats:Array TypeId} {i j:Nat}
theorem ax9{k:Nat}(h1:a.eval (.tmp i)=.int .i64 (k:Int))(h:k<9223372036854775807):
  Does Tryz.prog {dst,op:=.binOp .add 3 (.tmp i) (.const (.int .i64 1)) 3,type:=ty,pos,after,guard} a.eval w fun v' w'=>Below w.heap.size w w'/\Eqs (.int .i64 ((k+1:Nat):Int)) v' w':=by
 have:=ax8 (dst:=dst) (ty:=ty) (pos:=pos) (after:=after) (guard:=guard) (w:=w) (v:=1) h1 (by omega);rwa[show((k:Int)+1)=((k+1:Nat):Int) by omega]at this
theorem aya{u v:Int}(h1:a.eval (.tmp i)=.int .i64 u)(h2:a.eval (.tmp j)=.int .i64 v):
  Does Tryz.prog {dst,op:=.binOp .lss 3 (.tmp i) (.tmp j) 3,type:=ty,pos,after,guard} a.eval w fun v' w'=>Below w.heap.size w w'/\Eqs (.bool (decide (u<v))) v' w':=by
 refine adf (v:=.bool (decide (u<v))) ?_ ?_ ⟨Below.refl _ _,rfl⟩
 ·rw[h1,h2];simp[go_sem]
 ·rw[h1,h2];simp[go_sem]
theorem ayb{u v:Int}(h1:a.eval (.tmp i)=.int .i64 u)(h2:a.eval (.tmp j)=.int .i64 v)(h:u=v):
  Does Tryz.prog {dst,op:=.binOp .neq 3 (.tmp i) (.tmp j) 3,type:=ty,pos,after,guard} a.eval w fun v' w'=>Below w.heap.size w w'/\Eqs (.bool false) v' w':=by
 subst h;exact apq h1 h2
end
end Lm
namespace Lm
open Go Go.RowKit Go.ChangeShapes Go.WideShapes Go.ChangeAt Go.Deep
theorem anw{w:World}{x:Addr}{l c:Nat}{zs:List Int}(hl:l<=c)(hm:c<=maxLen)(hz:zs.length=c)(hcell:∀i,i<zs.length->w.cell? (x.add i)=some (.int .u32 (zs.getD i 0)))(hwz:∀n∈zs,(Lit.int .u32 n).wf=true):Sl w (.slice (some x) l c) (zs.take l):=by
 have hll:(zs.take l).length=l:=by rw[List.length_take];omega
 refine⟨some x,c,by rw[hll],by omega,hm,fun n hn=>?_,?_⟩
 ·have:=bounds_u32 (hwz n (List.mem_of_mem_take hn));omega
 ·by_cases h0:l=0
  ·exact .inl (List.eq_nil_of_length_eq_zero (by omega))
  ·obtain⟨b,off,spot⟩:=x;have h1:=hcell 0 (by omega);have hspot:spot=none:=by simpa[Addr.add]using World.cell?_spot h1
   subst hspot;refine .inr ⟨b,off,rfl,fun i hi=>?_⟩;have h2:=hcell i (by omega);rw[adi _ _ _ (by omega)];have e:(⟨b,off,none⟩:Addr).add i=⟨b,off+i,none⟩:=by
    by_cases hi0:i=0
    ·subst hi0;simp[Addr.add]
    ·simp[Addr.add,hi0]
   rwa[e]at h2
instance:Inhabited WE:=⟨⟨false,none,0,0,[]⟩⟩
theorem asq{H:Type}(zs:List Int):Rows.uptoBulkAll (lits .u32 zs:List (DataW H))=zs.length:=by
 induction zs with
 |nil=>rfl
 |cons z zs ih=>
  have e:(lits .u32 (z::zs):List (DataW H))=.lit (.int .u32 z)::lits .u32 zs:=rfl;rw[e,Rows.uptoBulkAll,ih,Rows.uptoBulk,List.length_cons]
  ·omega
  ·intro b hb;cases hb
theorem am9{H:Type}(l r:List (DataW H)):Rows.uptoBulkAll (l++r)=Rows.uptoBulkAll l+Rows.uptoBulkAll r:=by
 induction l with
 |nil=>simp[Rows.uptoBulkAll]
 |cons x l ih=>simp only[List.cons_append,Rows.uptoBulkAll,ih];omega
theorem alw(E:Nat->WE)(n:Nat):∀j u,(flat ((List.range n).map E))[j]? = some u->j/2<n/\u=(if j%2=0 then .bool (E (j/2)).ng else .slice (E (j/2)).a (E (j/2)).m (E (j/2)).c):=by
 intro j u hu;have hj:j<(flat ((List.range n).map E)).length:=(List.getElem?_eq_some_iff.1 hu).1;rw[aay,List.length_map,List.length_range]at hj;have hk:j/2<n:=by omega
 have he:((List.range n).map E)[j/2]? = some (E (j/2)):=by simp[hk]
 obtain⟨h1,h2⟩:=aa2 he;refine⟨hk,?_⟩;by_cases h0:j%2=0
 ·rw[if_pos h0];rw[show j/2*2=j by omega,hu]at h1;exact Option.some.inj h1
 ·rw[if_neg h0];rw[show j/2*2+1=j by omega,hu]at h2;exact Option.some.inj h2
theorem avs{H:Type}{enc:TypeId×Value->H}{w:World}{fuel:Nat}{ao:Option Addr}{n cap:Nat}{x:DataW H×List MemPlace}(h:DataW.trod enc Tryz.prog w 0 (fun _=>true) true fuel 23 [.slice ao n cap]=some x):
  ∃es,Rw w (.slice ao n cap) es/\lenW es+1<=Rows.uptoBulk x.1:=by
 rcases open_slice_pairs Tryz.underlying23 Tryz.underlying42 (by kernel_rfl) (by kernel_rfl) (by kernel_rfl) (by kernel_rfl) (by kernel_rfl) h with⟨hcs,rfl⟩|⟨a,len,cap',m,k,V0,V1,D0,D1,P0,P1,hcs,_,hl,hm,hmm,rfl,hall⟩
 ·obtain⟨rfl,rfl,rfl⟩:ao=none/\n=0/\cap=0:=by simpa using hcs
  exact⟨[],⟨⟨none,0,rfl,Nat.le_refl _,by omega,rfl,.inl rfl⟩,fun e he=>by cases he⟩,by simp[lenW,Rows.uptoBulk]⟩
 obtain⟨rfl,rfl,rfl⟩:ao=some a/\n=len/\cap=cap':=by simpa using hcs
 simp only[if_true]at hmm;subst hmm;have each:∀i,i<m->∃e:WE,V0 i=.bool e.ng/\V1 i=.slice e.a e.m e.c/\Sl w (.slice e.a e.m e.c) e.zs/\e.m+1<=Rows.uptoBulk (DataW.agg (H:=H) [D0 i,D1 i]):=by
  intro i hi;obtain⟨_,_,t0,t1⟩:=hall i hi;obtain⟨b,hb0,_⟩:=DataW.trod_bool Tryz.underlying4 t0;obtain hb:V0 i=.bool b:=by simpa using hb0
  rcases open_ints Tryz.underlying37 Tryz.underlying88 (by kernel_rfl) t1 with⟨hcs,_⟩|⟨x,l,c,zs,hcs,_,hl,hm,hz,hx,hcell,hwz⟩
  ·obtain hv:V1 i=.slice none 0 0:=by simpa using hcs
   exact⟨⟨b,none,0,0,[]⟩,hb,hv,⟨none,0,rfl,Nat.le_refl _,by simp[maxLen],aad,.inl rfl⟩,by simp[Rows.uptoBulk]⟩
  ·obtain hv:V1 i=.slice (some x) l c:=by simpa using hcs
   have hz':zs.length=c:=by simpa using hz
   refine⟨⟨b,some x,l,c,zs.take l⟩,hb,hv,anw hl hm hz' hcell hwz,?_⟩;have hd:D1 i=.slice (lits .u32 (zs.take l)) (lits .u32 (zs.drop l)):=congrArg Prod.fst hx;have hll:(zs.take l).length=l:=by rw[List.length_take];omega
   simp only[Rows.uptoBulk,Rows.uptoBulkAll,hd,asq,hll];omega
 obtain⟨E,hE⟩:=choose_lt each;refine⟨(List.range n).map E,⟨⟨some a,m,by rw[List.length_map,List.length_range],by rw[List.length_map,List.length_range];exact hl,by simpa[maxLen]using hm,aay _,?_⟩,fun e he=>?_⟩,?_⟩
 ·by_cases h0:n=0
  ·exact .inl (by rw[List.length_map,List.length_range];exact h0)
  ·obtain⟨b,off,spot⟩:=a;have h1:=(hall 0 (by omega)).1;have hspot:spot=none:=by simpa[Addr.add]using World.cell?_spot h1
   subst hspot;have hadd:∀i,(⟨b,off,none⟩:Addr).add i=⟨b,off+i,none⟩:=fun i=>by
    by_cases hi0:i=0
    ·subst hi0;simp[Addr.add]
    ·simp[Addr.add,hi0]
   refine .inr ⟨b,off,rfl,aal (off:=off+0*2) (by rw[<-hadd];exact h1),fun j u hu=>?_⟩;obtain⟨hj,rfl⟩:=alw E n j u hu;obtain⟨c0,c1,_,_⟩:=hall (j/2) (by omega);obtain⟨e0,e1,_⟩:=hE (j/2) (by omega);rw[hadd]at c0 c1;by_cases hj0:j%2=0
   ·rw[if_pos hj0,<-e0,<-c0];congr 2;omega
   ·rw[if_neg hj0,<-e1,<-c1];congr 2;omega
 ·obtain⟨i,hi,rfl⟩:=List.mem_map.1 he;exact(hE i (by have:=List.mem_range.1 hi;omega)).2.2.1
 ·have key:∀k,k<=n->lenW ((List.range k).map E)<=Rows.uptoBulkAll ((List.range k).map fun i=>DataW.agg (H:=H) [D0 i,D1 i]):=by
   intro k hk;induction k with
   |zero=>simp[lenW]
   |succ k ih=>
    have h1:=ih (by omega);have h2:=(hE k (by omega)).2.2.2;rw[List.range_succ,List.map_append,List.map_append,ahg,am9];simp only[List.map_cons,List.map_nil,lenW,Rows.uptoBulkAll]at h1 h2 ⊢;omega
  have:=key n (Nat.le_refl _);simp only[Rows.uptoBulk];omega
end Lm
namespace Lm
open Go.RowKit
structure Pl where
 b:Nat
 g:Nat
 l:Nat
 c:Nat
theorem gdrewN{B:Nat}{a w:World}(h:Below B a w)(n:Nat):Below B a (w.drewN n):=h.trans ⟨rfl,rfl,rfl,Nat.le_refl _,fun _ _=>rfl⟩
end Lm
namespace Lm
open Go Go.RowKit
def Ce(w:World)(v:Value)(size n:Nat)(xs:List Value):Prop:=
 ∃ao cap,v=.slice ao n cap/\n<=cap/\cap<=9223372036854775807/\xs.length=n*size/\(n=0\/∃b off,ao=some ⟨b,off,none⟩/\b<w.heap.size/\∀j u,xs[j]? = some u->w.cell? ⟨b,off+j,none⟩=some u)
theorem Ce.below{w w':World}{v:Value}{size n:Nat}{xs:List Value}(h:Ce w v size n xs)(hb:Below w.heap.size w w'):Ce w' v size n xs:=by
 obtain⟨ao,cap,rfl,h1,h2,h3,h4⟩:=h;refine⟨ao,cap,rfl,h1,h2,h3,?_⟩;rcases h4 with h4|⟨b,off,rfl,hl,hc⟩
 ·exact .inl h4
 ·exact .inr ⟨b,off,rfl,Nat.lt_of_lt_of_le hl hb.size,fun j u hu=>(hb.cell (p:=⟨b,off+j,none⟩) hl).trans (hc j u hu)⟩
theorem Ce.own{w:World}{base:Nat}{e:TypeId}{size n:Nat}{v:Value}{xs:List Value}(h:w.ownsRow base e size v n xs):Ce w v size n xs:=by
 obtain⟨hl,⟨rfl,rfl⟩|⟨g,cap,cur,rfl,hb,hh,h1,h2,h3,h4⟩⟩:=h
 ·exact⟨none,0,rfl,Nat.le_refl _,by omega,hl,.inl rfl⟩
 ·refine⟨_,cap,rfl,h1,by simpa[maxLen]using h2,hl,.inr ⟨g,0,rfl,aaa hh,fun j u hu=>?_⟩⟩;rw[Nat.zero_add,cell_of_row w g j cur e (0,0) hh];rw[<-h4,List.getElem?_take]at hu;split at hu
  ·simpa using hu
  ·cases hu
theorem OutW.ru{z:Int}{L:Nat}{v:Value}{w w':World}(h:OutW z L v w)(hr:Ru w w'):OutW z L v w':=OutW.mono5 z L _ _ _ hr h
theorem OutW.fit{z:Int}{L L':Nat}{v:Value}{w:World}(h:OutW z L v w)(hf:(z.natAbs:Int)<pw L'):OutW z L' v w:=by
 obtain⟨ng,ao,cap,rs,e,h1,l1⟩:=h;exact⟨ng,ao,cap,rs,e,h1,aau h1.1.2.1 (by rw[h1.1.2.2];exact hf)⟩
structure Rc (q b:Nat) (w w':World):Prop where
 os:w'.os=w.os
 tape:w'.tape=w.tape
 output:w'.output=w.output
 size:w.heap.size<=w'.heap.size
 other:∀k,k<w.heap.size->k≠q->k≠b->w'.heap[k]? = w.heap[k]?
 ru:Ru w w'
theorem Rc.of_below{q b:Nat}{w w':World}(h:Below w.heap.size w w'):Rc q b w w':=⟨h.os,h.tape,h.output,h.size,fun k hk _ _=>h.block k hk,Ru.of_below h⟩
theorem Rc.trans{q b:Nat}{w w' w'':World}(h:Rc q b w w')(h':Rc q b w' w''):Rc q b w w'':=⟨h'.os.trans h.os,h'.tape.trans h.tape,h'.output.trans h.output,Nat.le_trans h.size h'.size,fun k hk h1 h2=>(h'.other k (Nat.lt_of_lt_of_le hk h.size) h1 h2).trans (h.other k hk h1 h2),h.ru.trans h'.ru⟩
theorem Rc.below{q b:Nat}{w w':World}{B:Nat}(h:Rc q b w w')(hB:B<=w.heap.size)(hq:B<=q)(hb:B<=b):Below B w w':=⟨h.os,h.tape,h.output,h.size,fun k hk=>h.other k (by omega) (by omega) (by omega)⟩
theorem FrW.ru{K:Nat}{z:Int}{L:Nat}{v:Value}{w w':World}(h:FrW K z L v w)(hr:Ru w w'):FrW K z L v w':=FrW.mono5 K z L _ _ _ hr h
theorem FrW.of_li{w:World}{B T:Nat}{ng:Bool}{ao:Option Addr}{cap:Nat}{rs:List Int}{z:Int}{L:Nat}(hw:Wh w ng ao cap rs z)(hl:Li B T w ao cap rs)(hT:T<=w.heap.size)(hL:rs.length<=L):FrW B z L (.agg #[.bool ng,.slice ao rs.length cap]) w:=
 ⟨ng,ao,cap,rs,B,T,rfl,⟨⟨hl.ow,hw.1.2.1,hw.1.2.2,hl.lies⟩,hw.2⟩,Nat.le_refl _,hT,hL⟩
theorem FrW.low{K K':Nat}{z:Int}{L:Nat}{v:Value}{w:World}(h:FrW K z L v w)(hk:K'<=K):FrW K' z L v w:=by
 obtain⟨ng,ao,cap,rs,B,T,e,h1,h2,h3,h4⟩:=h;exact⟨ng,ao,cap,rs,B,T,e,h1,Nat.le_trans hk h2,h3,h4⟩
theorem FrW.to{K:Nat}{z z':Int}{L L':Nat}{v:Value}{w:World}(h:FrW K z L v w)(hz:z=z')(hL:L<=L'):FrW K z' L' v w:=by
 subst hz;obtain⟨ng,ao,cap,rs,B,T,e,h1,h2,h3,h4⟩:=h;exact⟨ng,ao,cap,rs,B,T,e,h1,h2,h3,Nat.le_trans h4 hL⟩
theorem FrW.fit{K:Nat}{z:Int}{L L':Nat}{v:Value}{w:World}(h:FrW K z L v w)(hf:(z.natAbs:Int)<pw L'):FrW K z L' v w:=by
 obtain⟨ng,ao,cap,rs,B,T,e,h1,h2,h3,h4⟩:=h;exact⟨ng,ao,cap,rs,B,T,e,h1,h2,h3,aau h1.fr.canon (by rw[h1.fr.val];exact hf)⟩
theorem FrW.is{K:Nat}{z:Int}{L:Nat}{v:Value}{w:World}(h:FrW K z L v w):IsW z L v w:=h.out.is
theorem FrW.agg{K:Nat}{z:Int}{L:Nat}{v:Value}{w:World}(h:FrW K z L v w):∃ng ao n cap,v=.agg #[.bool ng,.slice ao n cap]:=by
 obtain⟨ng,ao,cap,rs,B,T,e,_⟩:=h;exact⟨ng,ao,rs.length,cap,e⟩
theorem afz(w:World){K L:Nat}(hK:K<=w.heap.size):FrW K 0 L (.agg #[.bool false,.slice none 0 0]) w:=⟨false,none,0,[],w.heap.size,w.heap.size,rfl,(a0d _ _ _).wfr (a0e _),hK,Nat.le_refl _,by simp⟩
theorem IsW.ru{z:Int}{L:Nat}{v:Value}{w w':World}(h:IsW z L v w)(hr:Ru w w'):IsW z L v w':=IsW.mono5 z L _ _ _ hr h
section
variable (w:World) (x y:Int) (vx vy:Value) (L M:Nat)
theorem mulF(hx:IsW x L vx w)(hy:IsW y M vy w)(hL:L<=400000)(hM:M<=400000):
  Calls Tryz.prog 90 #[vx,vy] w fun e w'=>∃v,e=.returned v/\FrW w.heap.size (x*y) (L+M) v w'/\Below w.heap.size w w':=by
 obtain⟨n1,a1,m1,c1,xs,rfl,A1,l1⟩:=hx;obtain⟨n2,a2,m2,c2,ys,rfl,A2,l2⟩:=hy;refine(az5 w n1 a1 m1 c1 xs A1.sl n2 a2 m2 c2 ys A2.sl (by omega) (by omega)).mono ?_;rintro e w' ⟨ng,ao,cap,rs,rfl,hw,hl,hli,hb⟩;rw[A1.worth,A2.worth]at hw;exact⟨_,rfl,FrW.of_li hw hli (Nat.le_refl _) (by omega),hb⟩
theorem subF(hx:IsW x L vx w)(hy:IsW y M vy w)(hL:L<=400000)(hM:M<=400000):
  Calls Tryz.prog 91 #[vx,vy] w fun e w'=>∃v,e=.returned v/\FrW w.heap.size (x-y) (L+M+1) v w'/\Below w.heap.size w w':=by
 obtain⟨n1,a1,m1,c1,xs,rfl,A1,l1⟩:=hx;obtain⟨n2,a2,m2,c2,ys,rfl,A2,l2⟩:=hy;refine(az4 w n1 a1 m1 c1 xs A1.sl n2 a2 m2 c2 ys A2.sl (by omega) (by omega)).mono ?_;rintro e w' ⟨ng,ao,cap,rs,rfl,hw,hl,hli,hb⟩;rw[A1.worth,A2.worth]at hw;exact⟨_,rfl,FrW.of_li hw hli (Nat.le_refl _) (by omega),hb⟩
theorem gcdF(hx:IsW x L vx w)(hy:IsW y M vy w)(hL:L<=400000)(hM:M<=400000):
  Calls Tryz.prog 118 #[vx,vy] w fun e w'=>∃v,e=.returned v/\FrW w.heap.size ((Int.gcd x y:Nat):Int) (L+M+1) v w'/\Below w.heap.size w w':=by
 obtain⟨n1,a1,m1,c1,xs,rfl,A1,l1⟩:=hx;obtain⟨n2,a2,m2,c2,ys,rfl,A2,l2⟩:=hy;refine(az8 w n1 a1 m1 c1 xs A1.sl n2 a2 m2 c2 ys A2.sl (by omega) (by omega)).mono ?_;rintro e w' ⟨ng,ao,cap,rs,rfl,hw,hl,hli,hb⟩;rw[A1.worth,A2.worth]at hw;exact⟨_,rfl,FrW.of_li hw hli (Nat.le_refl _) (by omega),hb⟩
theorem negF(hx:IsW x L vx w)(hL:L<=400000):
  Calls Tryz.prog 94 #[vx] w fun e w'=>∃v,e=.returned v/\FrW w.heap.size (-x) L v w'/\Below w.heap.size w w':=by
 obtain⟨n1,a1,m1,c1,xs,rfl,A1,l1⟩:=hx;refine(az2 w n1 a1 m1 c1 xs A1.sl (by omega)).mono ?_;rintro e w' ⟨ng,ao,cap,rs,rfl,hw,hl,hli,hb⟩;rw[A1.worth]at hw;exact⟨_,rfl,FrW.of_li hw hli (Nat.le_refl _) (by omega),hb⟩
theorem signF(hx:IsW x L vx w)(hL:L<=400000):
  Calls Tryz.prog 59 #[vx] w fun e w'=>e=.returned (.int .i64 (Int.sign x))/\Below w.heap.size w w':=by
 obtain⟨n1,a1,m1,c1,xs,rfl,A1,l1⟩:=hx;exact ak3 w n1 a1 m1 c1 xs x A1 (by omega) _ rfl
theorem divF(hx:IsW x L vx w)(hy:IsW y M vy w)(hL:L<=400000)(hM:M<=400000):
  Calls Tryz.prog 119 #[vx,vy] w fun e w'=>∃v1 v2 b,e=.returned (.tuple #[v1,v2,.bool b])/\FrW w.heap.size (x/y) (L+4) v1 w'/\OutW (if y=0 then 0 else x%y) (M+1) v2 w'/\b=decide (y≠0)/\Below w.heap.size w w':=by
 obtain⟨n1,a1,m1,c1,xs,rfl,A1,l1⟩:=hx;obtain⟨n2,a2,m2,c2,ys,rfl,A2,l2⟩:=hy;have hw:=A2.worth;by_cases h0:val ys=0
 ·have hy0:y=0:=by rw[<-hw,h0];cases n2 <;> simp[sg]
  refine(ali w n1 a1 m1 c1 xs A1.sl n2 a2 m2 c2 ys A2.sl h0).mono ?_;rintro e w' ⟨rfl,hb⟩;refine⟨_,_,_,rfl,?_,?_,by rw[hy0];rfl,hb⟩
  ·rw[hy0,Int.ediv_zero];exact afz _ hb.size
  ·rw[if_pos hy0];exact(afz (K:=0) _ (Nat.zero_le _)).out
 ·have hy0:y≠0:=by rw[<-hw];cases n2 <;> simp[sg] <;> omega
  refine(ase w n1 a1 m1 c1 xs A1.sl n2 a2 m2 c2 ys A2.sl (by omega) (by omega) h0).mono ?_;rintro e w' ⟨nq,aq,cq,qs,nr,ar,cr,rs,B1,T1,B2,T2,rfl,hq,hr,lq,lr,li1,li2,⟨i1,i2,i3,i4,_⟩,hb⟩;rw[A1.worth,A2.worth]at hq hr;refine⟨_,_,_,rfl,(FrW.of_li hq li1 i2 (by omega)).low i1,?_,by simp[hy0],hb⟩;rw[if_neg hy0];exact⟨_,_,_,_,rfl,hr,by omega⟩
end
theorem asr{ops:Array Oper}{o:Oper}{a:Act}{w:World}{K:Act->World->Prop}{Q:Exit->Act->World->Prop}{E:Prop}(hg:o.guard=none)(f:FuncId)(xs:Array Operand)(ats:Array TypeId)
  (hop:o.op=.call {callee:=.value (.func f),args:=xs,argTypes:=ats}) (hf:Has Tryz.prog f) (vs:Array Value) (hx:xs.map a.eval=vs) {Post:Ending->World->Prop} (hc:Calls Tryz.prog f vs w Post) (hK:∀e w',Post e w'->∃r,e=.returned r/\K (a.put o.dst r) w') :
  if Region.wanted o (yielded ops a.tmps)=true then Oper.wp Tryz.prog o a w K Q else E:=by
 obtain⟨dst,op,ty,pos,after,guard⟩:=o;simp only at hop hg;subst hop hg;have hw:Region.wanted {dst,op:=.call {callee:=.value (.func f),args:=xs,argTypes:=ats},type:=ty,pos,after,guard:=none} (yielded ops a.tmps)=true:=by simp[Region.wanted]
 rw[if_pos hw];clear hw;have hd:Does Tryz.prog {dst,op:=.call {callee:=.value (.func f),args:=xs,argTypes:=ats},type:=ty,pos,after,guard:=none} a.eval w (fun r w'=>K (a.put dst r) w'):=aaq hf vs hx (hc.mono hK);have hz:=Does.wp (K:=K) (Q:=Q) hd (fun v w' h=>h);exact hz
section
variable {dst:Option Tmp} {ty:TypeId} {pos:String} {after:Array Edge} {guard:Option (Nat×Bool)} {a:Act} {w:World} {ats:Array TypeId} {i j:Nat}
theorem apr:Has Tryz.prog 39:=by unfold Has;kernel_rfl
theorem ana{ax ay:Option Addr}{mx cx my cy:Nat}{zs:List Int}(h1:a.eval (.tmp i)=.slice ax mx cx)(h2:a.eval (.tmp j)=.slice ay my cy)(S1:Sl w (.slice ax mx cx) zs)(S2:Sl w (.slice ay my cy) zs):
  Does Tryz.prog {dst,op:=.call {callee:=.value (.func 39),args:=#[.tmp i,.tmp j],argTypes:=ats},type:=ty,pos,after,guard} a.eval w fun v w'=>Below w.heap.size w w'/\Eqs (.bool true) v w':=by
 refine aaq apr _ (by simp only[List.map_toArray,List.map_cons,List.map_nil,h1,h2]) ((ahl w _ _ _ _ _ _ zs zs S1 S2).mono ?_);rintro e w' ⟨rfl,hb⟩;exact⟨_,rfl,hb,by rw[ah9];rfl⟩
end
theorem akc(w:World)(nx:Bool)(ax ay:Option Addr)(mx cx my cy:Nat)(zs:List Int)(Tx:Sl w (.slice ax mx cx) zs)(Ty:Sl w (.slice ay my cy) zs):
  Calls Tryz.prog 20 #[.agg #[.bool nx,.slice ax mx cx],.agg #[.bool nx,.slice ay my cy]] w fun e w'=>e=.returned (.bool true)/\Below w.heap.size w w':=by
 go_enter Tryz.func20,Tryz.ntmps20
 generalize hA:(Act.mk _ _)=aa;have hn:aa.tmps.size=17:=by rw[<-hA];rfl
 have hd:aa.defers = []:=by rw[<-hA]
 have f0:aa.eval (.tmp 0)=.agg #[.bool nx,.slice ax mx cx]:=by rw[<-hA];rfl
 have f1:aa.eval (.tmp 1)=.agg #[.bool nx,.slice ay my cy]:=by rw[<-hA];rfl
 clear hA;have HB:Below w.heap.size w w:=Below.refl _ _;refine wp_seq ?_;refine aao [some 2,some 3,some 4] [(fun _ _=>True),(fun _ _=>True),Eqs ((.bool false))] [⟨W2,some 0,0,2,.agg #[.bool nx,.slice ax mx cx],none,[]⟩,⟨W2,some 1,0,3,.agg #[.bool nx,.slice ay my cy],none,[]⟩] [] (by kernel_rfl) hn rfl (by kernel_rfl) (by kernel_rfl) (by kernel_rfl) (by kernel_rfl) (by kernel_rfl) (by kernel_rfl) ⟨True.mono4,True.mono4,Eqs.mono4 _,trivial⟩ (aa0 W2ok (aa0 W2ok aat)) (IsOld.all (bx:=[⟨W2,some 0,0,2,.agg #[.bool nx,.slice ax mx cx],none,[]⟩,⟨W2,some 1,0,3,.agg #[.bool nx,.slice ay my cy],none,[]⟩]) ⟨someNe,someNe,trivial⟩) (DisOld.all (bx:=[⟨W2,some 0,0,2,.agg #[.bool nx,.slice ax mx cx],none,[]⟩,⟨W2,some 1,0,3,.agg #[.bool nx,.slice ay my cy],none,[]⟩]) ⟨someNe,someNe,trivial⟩) ?_ ?_
 ·exact⟨.alloc 0 _ rfl rfl (.inr ⟨_,rfl,aih,fun a_ hR=>(hR 0 rfl).trans f0⟩) rfl rfl rfl rfl rfl,
   .alloc 1 _ rfl rfl (.inr ⟨_,rfl,aih,fun a_ hR=>(hR 1 rfl).trans f1⟩) rfl rfl rfl rfl rfl,
   .norm 4 rfl rfl rfl (fun a_ w_ hn_ hBt hr hR hD hO hS=>abg rfl),
   trivial⟩
 intro a1 w1 gs1 hn1 hd1 hBt hr hR hP hX hU;replace hn:=hn1;replace hd:=hd1.trans hd;have b2:BoxV W2 w1 (gs1 0) (.agg #[.bool nx,.slice ax mx cx]):=(hX 0 _ rfl).2.2.2;have f2:=(hX 0 _ rfl).1;have u2:w.heap.size<=gs1 0:=Nat.le_trans HB.size ((hX 0 _ rfl).2.2.1 (by simp));have b3:BoxV W2 w1 (gs1 1) (.agg #[.bool nx,.slice ay my cy]):=(hX 1 _ rfl).2.2.2;have f3:=(hX 1 _ rfl).1;have u3:w.heap.size<=gs1 1:=Nat.le_trans HB.size ((hX 1 _ rfl).2.2.1 (by simp));have e4:a1.eval (.tmp 4)=(.bool false):=hP 2 (by decide);have f4:=e4;replace Tx:=Tx.rl hr;replace Ty:=Ty.rl hr;replace HB:=HB.trans (hBt.below HB.size (UpOld.all (bx:=[⟨W2,some 0,0,2,.agg #[.bool nx,.slice ax mx cx],none,[]⟩,⟨W2,some 1,0,3,.agg #[.bool nx,.slice ay my cy],none,[]⟩]) ⟨someNe,someNe,trivial⟩));clear hBt hr hR hP hX hU;refine wp_seq ?_;refine aao [some 5,some 6,some 7,some 8,some 9,some 10,some 11,some 12,some 13,some 14,some 15,some 16,some 4] [Eqs (.pointer (some ⟨gs1 0,0,none⟩)),Eqs (.bool nx),Eqs (.pointer (some ⟨gs1 1,0,none⟩)),Eqs (.bool nx),Eqs (.bool true),Eqs (.bool true),Eqs (.pointer (some ⟨gs1 0,1,none⟩)),Eqs (.slice ax mx cx),Eqs (.pointer (some ⟨gs1 1,1,none⟩)),Eqs (.slice ay my cy),Eqs (.bool true),Eqs (.bool true),Eqs (.bool true)] [] [] (by kernel_rfl) hn rfl (by kernel_rfl) (by kernel_rfl) (by kernel_rfl) (by kernel_rfl) (by kernel_rfl) (by kernel_rfl) ⟨Eqs.mono4 _,Eqs.mono4 _,Eqs.mono4 _,Eqs.mono4 _,Eqs.mono4 _,Eqs.mono4 _,Eqs.mono4 _,Eqs.mono4 _,Eqs.mono4 _,Eqs.mono4 _,Eqs.mono4 _,Eqs.mono4 _,Eqs.mono4 _,trivial⟩ aat (IsOld.all (bx:=[]) trivial) (DisOld.all (bx:=[]) trivial) ?_ ?_
 ·exact⟨.norm 5 rfl rfl rfl (fun a_ w_ hn_ hBt hr hR hD hO hS=>adm ak5 ((hR 2 rfl).trans f2)),
   .norm 6 rfl rfl rfl (fun a_ w_ hn_ hBt hr hR hD hO hS=>ahp (show a_.eval (.tmp 5)=.pointer (some ⟨gs1 0,0,none⟩)from hD 0 rfl) (b2.keep hBt trivial)),
   .norm 7 rfl rfl rfl (fun a_ w_ hn_ hBt hr hR hD hO hS=>adm ak5 ((hR 3 rfl).trans f3)),
   .norm 8 rfl rfl rfl (fun a_ w_ hn_ hBt hr hR hD hO hS=>ahp (show a_.eval (.tmp 7)=.pointer (some ⟨gs1 1,0,none⟩)from hD 2 rfl) (b3.keep hBt trivial)),
   .norm 9 rfl rfl rfl (fun a_ w_ hn_ hBt hr hR hD hO hS=>avl (show a_.eval (.tmp 6)=.bool nx from hD 1 rfl) (show a_.eval (.tmp 8)=.bool nx from hD 3 rfl)),
   .norm 10 rfl rfl rfl (fun a_ w_ hn_ hBt hr hR hD hO hS=>aah (show a_.eval (.tmp 9)=.bool true from hD 4 rfl)),
   .norm 11 rfl rfl rfl (fun a_ w_ hn_ hBt hr hR hD hO hS=>⟨⟨_,rfl⟩,fun _=>adm adz ((hR 2 rfl).trans f2),fun hne=>absurd (hD 5 rfl) hne⟩),
   .norm 12 rfl rfl rfl (fun a_ w_ hn_ hBt hr hR hD hO hS=>⟨⟨_,rfl⟩,fun _=>ahq (show a_.eval (.tmp 11)=.pointer (some ⟨gs1 0,1,none⟩)from hD 6 rfl) (b2.keep hBt trivial),fun hne=>absurd (hD 5 rfl) hne⟩),
   .norm 13 rfl rfl rfl (fun a_ w_ hn_ hBt hr hR hD hO hS=>⟨⟨_,rfl⟩,fun _=>adm adz ((hR 3 rfl).trans f3),fun hne=>absurd (hD 5 rfl) hne⟩),
   .norm 14 rfl rfl rfl (fun a_ w_ hn_ hBt hr hR hD hO hS=>⟨⟨_,rfl⟩,fun _=>ahq (show a_.eval (.tmp 13)=.pointer (some ⟨gs1 1,1,none⟩)from hD 8 rfl) (b3.keep hBt trivial),fun hne=>absurd (hD 5 rfl) hne⟩),
   .norm 15 rfl rfl rfl (fun a_ w_ hn_ hBt hr hR hD hO hS=>⟨⟨_,rfl⟩,fun _=>ana (show a_.eval (.tmp 12)=.slice ax mx cx from hD 7 rfl) (show a_.eval (.tmp 14)=.slice ay my cy from hD 9 rfl) (Tx.rl hr) (Ty.rl hr),fun hne=>absurd (hD 5 rfl) hne⟩),
   .norm 16 rfl rfl rfl (fun a_ w_ hn_ hBt hr hR hD hO hS=>aux (show a_.eval (.tmp 10)=.bool true from hD 5 rfl) (show a_.eval (.tmp 15)=.bool true from hD 10 rfl)),
   .norm 4 rfl rfl rfl (fun a_ w_ hn_ hBt hr hR hD hO hS=>abg (show a_.eval (.tmp 16)=.bool true from hD 11 rfl)),
   trivial⟩
 intro a2 w2 gs2 hn2 hd2 hBt hr hR hP hX hU;replace hn:=hn2;replace hd:=hd2.trans hd;have e4:a2.eval (.tmp 4)=.bool true:=hP 12 (by decide);have f4:=e4;replace Tx:=Tx.rl hr;replace Ty:=Ty.rl hr;replace HB:=HB.trans (hBt.below HB.size (UpOld.all (bx:=[]) trivial));clear hBt hr hR hP hX hU;refine wp_ret ?_;repeat(first|refine ab3 ?_|refine aba ?_|refine abw ?_)
 exact bodyPost_ret (v:=.bool true) (acj rfl f4) hd ⟨rfl,HB⟩
section
variable {dst:Option Tmp} {ty:TypeId} {pos:String} {after:Array Edge} {guard:Option (Nat×Bool)} {a:Act} {w:World} {ats:Array TypeId} {i j:Nat}
theorem ais{nx ny:Bool}{ax ay:Option Addr}{mx cx my cy:Nat}{xs ys:List Int}(h1:a.eval (.tmp i)=.agg #[.bool nx,.slice ax mx cx])(h2:a.eval (.tmp j)=.agg #[.bool ny,.slice ay my cy])(S1:Sl w (.slice ax mx cx) xs)(S2:Sl w (.slice ay my cy) ys)(hn:nx=ny)(hz:xs=ys):
  Does Tryz.prog {dst,op:=.call {callee:=.value (.func 20),args:=#[.tmp i,.tmp j],argTypes:=ats},type:=ty,pos,after,guard} a.eval w fun v w'=>Below w.heap.size w w'/\Eqs (.bool true) v w':=by
 subst hn hz;refine aaq auw _ (by simp only[List.map_toArray,List.map_cons,List.map_nil,h1,h2]) ((akc w nx _ _ _ _ _ _ xs S1 S2).mono ?_);rintro e w' ⟨rfl,hb⟩;exact⟨_,rfl,hb,rfl⟩
end
def WE.raw(e:WE):Bool×List Int:=(e.ng,e.zs)
def SameR(es fs:List WE):Prop:=es.map WE.raw=fs.map WE.raw
theorem SameR.len{es fs:List WE}(h:SameR es fs):es.length=fs.length:=by simpa using congrArg List.length h
theorem SameR.at{es fs:List WE}(h:SameR es fs){k:Nat}{e f:WE}(he:es[k]? = some e)(hf:fs[k]? = some f):e.ng=f.ng/\e.zs=f.zs:=by
 have h1:=congrArg (fun l=>l[k]?) h;simp only[List.getElem?_map,he,hf,Option.map_some,Option.some.injEq,WE.raw,Prod.mk.injEq]at h1;exact h1
theorem ass(w:World)(ax:Option Addr)(mx cx:Nat)(xs:List WE)(Rx0:Rw w (.slice ax mx cx) xs)(ay:Option Addr)(my cy:Nat)(ys:List WE)(Ry0:Rw w (.slice ay my cy) ys)(hS:SameR xs ys):
  Calls Tryz.prog 16 #[.slice ax mx cx,.slice ay my cy] w fun e w'=>e=.returned (.bool true)/\Below w.heap.size w w':=by
 go_enter Tryz.func16,Tryz.ntmps16
 generalize hA:(Act.mk _ _)=aa;have hn:aa.tmps.size=27:=by rw[<-hA];rfl
 have hd:aa.defers = []:=by rw[<-hA]
 have f0:aa.eval (.tmp 0)=.slice ax mx cx:=by rw[<-hA];rfl
 have f1:aa.eval (.tmp 1)=.slice ay my cy:=by rw[<-hA];rfl
 clear hA;have HB:Below w.heap.size w w:=Below.refl _ _;have px:=Rx0.parts;have py:=Ry0.parts;have hSl:=hS.len;refine wp_seq ?_;refine aao [some 4] [Eqs ((.bool false))] [] [] (by kernel_rfl) hn rfl (by kernel_rfl) (by kernel_rfl) (by kernel_rfl) (by kernel_rfl) (by kernel_rfl) (by kernel_rfl) ⟨Eqs.mono4 _,trivial⟩ aat (IsOld.all (bx:=[]) trivial) (DisOld.all (bx:=[]) trivial) ?_ ?_
 ·exact⟨.norm 4 rfl rfl rfl (fun a_ w_ hn_ hBt hr hR hD hO hS=>abg rfl),
   trivial⟩
 intro a1 w1 gs1 hn1 hd1 hBt hr hR hP hX hU;replace hn:=hn1;replace hd:=hd1.trans hd;replace f0:=(hR 0 rfl).trans f0;replace f1:=(hR 1 rfl).trans f1;have e4:a1.eval (.tmp 4)=(.bool false):=hP 0 (by decide);have f4:=e4;replace HB:=HB.trans (hBt.below HB.size (UpOld.all (bx:=[]) trivial));clear hBt hr hR hP hX hU;refine wp_seq ?_;refine wp_seq ?_;refine aao [some 6,some 7,some 8,some 9,some 10] [Eqs (.slice ax mx cx),Eqs (.int .i64 (mx:Int)),Eqs (.slice ay my cy),Eqs (.int .i64 (my:Int)),Eqs (.bool false)] [] [] (by kernel_rfl) hn rfl (by kernel_rfl) (by kernel_rfl) (by kernel_rfl) (by kernel_rfl) (by kernel_rfl) (by kernel_rfl) ⟨Eqs.mono4 _,Eqs.mono4 _,Eqs.mono4 _,Eqs.mono4 _,Eqs.mono4 _,trivial⟩ aat (IsOld.all (bx:=[]) trivial) (DisOld.all (bx:=[]) trivial) ?_ ?_
 ·exact⟨.norm 6 rfl rfl rfl (fun a_ w_ hn_ hBt hr hR hD hO hS=>aah ((hR 0 rfl).trans f0)),
   .norm 7 rfl rfl rfl (fun a_ w_ hn_ hBt hr hR hD hO hS=>ajh (show a_.eval (.tmp 6)=.slice ax mx cx from hD 0 rfl)),
   .norm 8 rfl rfl rfl (fun a_ w_ hn_ hBt hr hR hD hO hS=>aah ((hR 1 rfl).trans f1)),
   .norm 9 rfl rfl rfl (fun a_ w_ hn_ hBt hr hR hD hO hS=>ajh (show a_.eval (.tmp 8)=.slice ay my cy from hD 2 rfl)),
   .norm 10 rfl rfl rfl (fun a_ w_ hn_ hBt hr hR hD hO hS=>ayb (show a_.eval (.tmp 7)=.int .i64 (mx:Int)from hD 1 rfl) (show a_.eval (.tmp 9)=.int .i64 (my:Int)from hD 3 rfl) (by omega)),
   trivial⟩
 intro a2 w2 gs2 hn2 hd2 hBt hr hR hP hX hU;replace hn:=hn2;replace hd:=hd2.trans hd;replace f0:=(hR 0 rfl).trans f0;replace f1:=(hR 1 rfl).trans f1;replace f4:=(hR 4 rfl).trans f4;have e10:a2.eval (.tmp 10)=.bool false:=hP 4 (by decide);have f10:=e10;replace HB:=HB.trans (hBt.below HB.size (UpOld.all (bx:=[]) trivial));clear hBt hr hR hP hX hU;refine wp_cond_false f10 ?_;refine wp_skip ?_;refine wp_seq ?_;refine wp_seq ?_;refine aao [some 5] [Eqs ((.int .i64 0))] [] [] (by kernel_rfl) hn rfl (by kernel_rfl) (by kernel_rfl) (by kernel_rfl) (by kernel_rfl) (by kernel_rfl) (by kernel_rfl) ⟨Eqs.mono4 _,trivial⟩ aat (IsOld.all (bx:=[]) trivial) (DisOld.all (bx:=[]) trivial) ?_ ?_
 ·exact⟨.norm 5 rfl rfl rfl (fun a_ w_ hn_ hBt hr hR hD hO hS=>abg rfl),
   trivial⟩
 intro a3 w3 gs3 hn3 hd3 hBt hr hR hP hX hU;replace hn:=hn3;replace hd:=hd3.trans hd;replace f0:=(hR 0 rfl).trans f0;replace f1:=(hR 1 rfl).trans f1;replace f4:=(hR 4 rfl).trans f4;have e5:a3.eval (.tmp 5)=(.int .i64 0):=hP 0 (by decide);have f5:=e5;replace HB:=HB.trans (hBt.below HB.size (UpOld.all (bx:=[]) trivial));clear hBt hr hR hP hX hU;refine wp_block ?_;refine wp_loop_ghost (fun n a w'=>a.tmps.size=27/\a.defers = []/\a.eval (.tmp 0)=.slice ax mx cx/\a.eval (.tmp 1)=.slice ay my cy/\Below w.heap.size w w'/\∃k:Nat,k+n=xs.length/\a.eval (.tmp 5)=.int .i64 (k:Int)) xs.length ⟨hn,hd,f0,f1,HB,0,by omega,f5⟩ ?_;clear hn hd HB f0 f1 f4 f5;rintro nL aL wL ⟨hn,hd,f0,f1,HB,kL,hk,f5⟩;refine wp_seq ?_;refine wp_seq ?_;refine aao [some 11,some 12,some 13,some 14] [Eqs (.int .i64 (kL:Int)),Eqs (.slice ax mx cx),Eqs (.int .i64 (mx:Int)),Eqs (.bool (decide ((kL:Int)<(mx:Int))))] [] [] (by kernel_rfl) hn rfl (by kernel_rfl) (by kernel_rfl) (by kernel_rfl) (by kernel_rfl) (by kernel_rfl) (by kernel_rfl) ⟨Eqs.mono4 _,Eqs.mono4 _,Eqs.mono4 _,Eqs.mono4 _,trivial⟩ aat (IsOld.all (bx:=[]) trivial) (DisOld.all (bx:=[]) trivial) ?_ ?_
 ·exact⟨.norm 11 rfl rfl rfl (fun a_ w_ hn_ hBt hr hR hD hO hS=>aah ((hR 5 rfl).trans f5)),
   .norm 12 rfl rfl rfl (fun a_ w_ hn_ hBt hr hR hD hO hS=>aah ((hR 0 rfl).trans f0)),
   .norm 13 rfl rfl rfl (fun a_ w_ hn_ hBt hr hR hD hO hS=>ajh (show a_.eval (.tmp 12)=.slice ax mx cx from hD 1 rfl)),
   .norm 14 rfl rfl rfl (fun a_ w_ hn_ hBt hr hR hD hO hS=>aya (show a_.eval (.tmp 11)=.int .i64 (kL:Int)from hD 0 rfl) (show a_.eval (.tmp 13)=.int .i64 (mx:Int)from hD 2 rfl)),
   trivial⟩
 intro a4 w4 gs4 hn4 hd4 hBt hr hR hP hX hU;replace hn:=hn4;replace hd:=hd4.trans hd;replace f0:=(hR 0 rfl).trans f0;replace f1:=(hR 1 rfl).trans f1;replace f5:=(hR 5 rfl).trans f5;have e14:a4.eval (.tmp 14)=.bool (decide ((kL:Int)<(mx:Int))):=hP 3 (by decide);have f14:=e14;replace HB:=HB.trans (hBt.below HB.size (UpOld.all (bx:=[]) trivial));clear hBt hr hR hP hX hU;refine wp_cond_split f14 (fun hc14=>?_) (fun hc14=>?_)
 ·skip;have hlt:=of_decide_eq_true hc14;obtain⟨bx_,ox_,hax,_,_⟩:=Rx0.cells (by omega);obtain⟨ex,hex⟩:∃e,xs[kL]? = some e:=⟨_,List.getElem?_eq_getElem (by omega)⟩;have Ax0:=Rx0.ag (List.mem_of_getElem? hex);have Ax:=Ax0.below HB;have lx:=Ax.sl.parts.1;obtain⟨by_,oy_,hay,_,_⟩:=Ry0.cells (by omega);obtain⟨ey,hey⟩:∃e,ys[kL]? = some e:=⟨_,List.getElem?_eq_getElem (by omega)⟩;have Ay0:=Ry0.ag (List.mem_of_getElem? hey);have Ay:=Ay0.below HB;have ly:=Ay.sl.parts.1;have hsm:=hS.at hex hey;refine wp_skip ?_;refine wp_seq ?_;refine wp_block ?_;refine wp_seq ?_;refine aao [some 17,some 18,some 19,some 20,some 21,some 22,some 23,some 24,some 25,some 26] [Eqs (.slice ax mx cx),Eqs (.int .i64 (kL:Int)),Eqs (.pointer (some ⟨bx_,ox_+kL*2,none⟩)),Eqs (.agg #[.bool ex.ng,.slice ex.a ex.m ex.c]),Eqs (.slice ay my cy),Eqs (.int .i64 (kL:Int)),Eqs (.pointer (some ⟨by_,oy_+kL*2,none⟩)),Eqs (.agg #[.bool ey.ng,.slice ey.a ey.m ey.c]),Eqs (.bool true),Eqs (.bool false)] [] [] (by kernel_rfl) hn rfl (by kernel_rfl) (by kernel_rfl) (by kernel_rfl) (by kernel_rfl) (by kernel_rfl) (by kernel_rfl) ⟨Eqs.mono4 _,Eqs.mono4 _,Eqs.mono4 _,Eqs.mono4 _,Eqs.mono4 _,Eqs.mono4 _,Eqs.mono4 _,Eqs.mono4 _,Eqs.mono4 _,Eqs.mono4 _,trivial⟩ aat (IsOld.all (bx:=[]) trivial) (DisOld.all (bx:=[]) trivial) ?_ ?_
  ·exact⟨.norm 17 rfl rfl rfl (fun a_ w_ hn_ hBt hr hR hD hO hS=>aah ((hR 0 rfl).trans f0)),
    .norm 18 rfl rfl rfl (fun a_ w_ hn_ hBt hr hR hD hO hS=>aah ((hR 5 rfl).trans f5)),
    .norm 19 rfl rfl rfl (fun a_ w_ hn_ hBt hr hR hD hO hS=>acv (show a_.eval (.tmp 17)=.slice ax mx cx from hD 0 rfl) hax (show a_.eval (.tmp 18)=.int .i64 (kL:Int)from hD 1 rfl) (by omega)),
    .norm 20 rfl rfl rfl (fun a_ w_ hn_ hBt hr hR hD hO hS=>aso (show a_.eval (.tmp 19)=.pointer (some ⟨bx_,ox_+kL*2,none⟩)from hD 2 rfl) hax (Rx0.below (HB.trans (hBt.below HB.size (UpOld.all (bx:=[]) trivial)))) hex),
    .norm 21 rfl rfl rfl (fun a_ w_ hn_ hBt hr hR hD hO hS=>aah ((hR 1 rfl).trans f1)),
    .norm 22 rfl rfl rfl (fun a_ w_ hn_ hBt hr hR hD hO hS=>aah ((hR 5 rfl).trans f5)),
    .norm 23 rfl rfl rfl (fun a_ w_ hn_ hBt hr hR hD hO hS=>acv (show a_.eval (.tmp 21)=.slice ay my cy from hD 4 rfl) hay (show a_.eval (.tmp 22)=.int .i64 (kL:Int)from hD 5 rfl) (by omega)),
    .norm 24 rfl rfl rfl (fun a_ w_ hn_ hBt hr hR hD hO hS=>aso (show a_.eval (.tmp 23)=.pointer (some ⟨by_,oy_+kL*2,none⟩)from hD 6 rfl) hay (Ry0.below (HB.trans (hBt.below HB.size (UpOld.all (bx:=[]) trivial)))) hey),
    .norm 25 rfl rfl rfl (fun a_ w_ hn_ hBt hr hR hD hO hS=>ais (show a_.eval (.tmp 20)=.agg #[.bool ex.ng,.slice ex.a ex.m ex.c]from hD 3 rfl) (show a_.eval (.tmp 24)=.agg #[.bool ey.ng,.slice ey.a ey.m ey.c]from hD 7 rfl) (Ax.rl hr).sl (Ay.rl hr).sl hsm.1 hsm.2),
    .norm 26 rfl rfl rfl (fun a_ w_ hn_ hBt hr hR hD hO hS=>age (show a_.eval (.tmp 25)=.bool true from hD 8 rfl)),
    trivial⟩
  intro a5 w5 gs5 hn5 hd5 hBt hr hR hP hX hU;replace hn:=hn5;replace hd:=hd5.trans hd;replace f0:=(hR 0 rfl).trans f0;replace f1:=(hR 1 rfl).trans f1;replace f5:=(hR 5 rfl).trans f5;have e26:a5.eval (.tmp 26)=.bool false:=hP 9 (by decide);have f26:=e26;replace Ax:=Ax.rl hr;replace Ay:=Ay.rl hr;replace HB:=HB.trans (hBt.below HB.size (UpOld.all (bx:=[]) trivial));clear hBt hr hR hP hX hU;refine wp_cond_false f26 ?_;refine wp_skip ?_;refine ak6 ?_;refine aao [some 15,some 16,some 5] [Eqs (.int .i64 (kL:Int)),Eqs (.int .i64 ((kL+1:Nat):Int)),Eqs (.int .i64 ((kL+1:Nat):Int))] [] [(2,0)] (by kernel_rfl) hn rfl (by kernel_rfl) (by kernel_rfl) (by kernel_rfl) (by kernel_rfl) (by kernel_rfl) (by kernel_rfl) ⟨Eqs.mono4 _,Eqs.mono4 _,Eqs.mono4 _,trivial⟩ aat (IsOld.all (bx:=[]) trivial) (DisOld.all (bx:=[]) trivial) ?_ ?_
  ·exact⟨.norm 15 rfl rfl rfl (fun a_ w_ hn_ hBt hr hR hD hO hS=>aah ((hS 2 5 rfl rfl).trans f5)),
    .norm 16 rfl rfl rfl (fun a_ w_ hn_ hBt hr hR hD hO hS=>ax9 (show a_.eval (.tmp 15)=.int .i64 (kL:Int)from hD 0 rfl) (by omega)),
    .norm 5 rfl rfl rfl (fun a_ w_ hn_ hBt hr hR hD hO hS=>abg (show a_.eval (.tmp 16)=.int .i64 ((kL+1:Nat):Int)from hD 1 rfl)),
    trivial⟩
  intro a6 w6 gs6 hn6 hd6 hBt hr hR hP hX hU;replace hn:=hn6;replace hd:=hd6.trans hd;replace f0:=(hR 0 rfl).trans f0;replace f1:=(hR 1 rfl).trans f1;have e5:a6.eval (.tmp 5)=.int .i64 ((kL+1:Nat):Int):=hP 2 (by decide);have f5:=e5;replace Ax:=Ax.rl hr;replace Ay:=Ay.rl hr;replace HB:=HB.trans (hBt.below HB.size (UpOld.all (bx:=[]) trivial));clear hBt hr hR hP hX hU;exact⟨nL-1,by omega,hn,hd,f0,f1,HB,kL+1,by omega,f5⟩
 ·skip;have hlt:=of_decide_eq_false hc14;refine wp_exit ?_;repeat(first|refine arl ?_|refine aox ?_|refine aoz (by decide) ?_)
  refine aoy ?_;refine wp_seq ?_;refine aao [some 4] [Eqs ((.bool true))] [] [] (by kernel_rfl) hn rfl (by kernel_rfl) (by kernel_rfl) (by kernel_rfl) (by kernel_rfl) (by kernel_rfl) (by kernel_rfl) ⟨Eqs.mono4 _,trivial⟩ aat (IsOld.all (bx:=[]) trivial) (DisOld.all (bx:=[]) trivial) ?_ ?_
  ·exact⟨.norm 4 rfl rfl rfl (fun a_ w_ hn_ hBt hr hR hD hO hS=>abg rfl),
    trivial⟩
  intro a7 w7 gs7 hn7 hd7 hBt hr hR hP hX hU;replace hn:=hn7;replace hd:=hd7.trans hd;have e4:a7.eval (.tmp 4)=(.bool true):=hP 0 (by decide);have f4:=e4;replace HB:=HB.trans (hBt.below HB.size (UpOld.all (bx:=[]) trivial));clear hBt hr hR hP hX hU;refine wp_ret ?_;repeat(first|refine ab3 ?_|refine aba ?_|refine abw ?_)
  exact bodyPost_ret (v:=.bool true) (acj rfl f4) hd ⟨rfl,HB⟩
end Lm
namespace Dm
open Go Go.RowKit
theorem Sl.rl{w w':World}{v:Value}{zs:List Int}(h:Sl w v zs)(hr:Lm.Rl w w'):Sl w' v zs:=by
 obtain⟨ao,cap,rfl,h1,h2,h3,h4⟩:=h;refine⟨ao,cap,rfl,h1,h2,h3,?_⟩;rcases h4 with h4|⟨b,off,rfl,hc⟩
 ·exact .inl h4
 ·exact .inr ⟨b,off,rfl,fun i hi=>hr.ints _ _ _ (hc i hi)⟩
theorem Wh.rl{w w':World}{ng:Bool}{ao:Option Addr}{cap:Nat}{rs:List Int}{z:Int}(h:Wh w ng ao cap rs z)(hr:Lm.Rl w w'):Wh w' ng ao cap rs z:=⟨⟨h.1.1.rl hr,h.1.2⟩,h.2⟩
theorem avt(n:Nat):pw n<=Lm.pw n:=by
 induction n with
 |zero=>simp[pw,Lm.pw]
 |succ n ih=>
  have:=aan n;simp only[pw,Lm.pw];omega
theorem Wh.bound{w:World}{ng:Bool}{ao:Option Addr}{cap:Nat}{rs:List Int}{z:Int}{L:Nat}(h:Wh w ng ao cap rs z)(hl:rs.length<=L):(z.natAbs:Int)<Lm.pw L:=by
 have h1:=(aac h.1.canon.1).2;rw[h.1.val]at h1;have h2:=aaw hl;have h3:=avt L;omega
theorem Wh.some{w:World}{ng:Bool}{ao:Option Addr}{cap:Nat}{rs:List Int}{z:Int}(h:Wh w ng ao cap rs z)(hz:z≠0):0<rs.length:=by
 apply Classical.byContradiction;intro hn;exact hz (h.zero.2 (List.eq_nil_of_length_eq_zero (by omega)))
end Dm
namespace Lm
open Go Go.RowKit
def N2:BoxTy:=⟨82,.agg #[.bool false,.slice none 0 0],fun v cs=>∃ng ao n c,v=.agg #[.bool ng,.slice ao n c]/\cs = #[.bool ng,.slice ao n c]⟩
theorem N2ok:BoxOk Tryz.prog N2 where
 noInt:=by
  rintro v cs ⟨ng,ao,n,c,rfl,rfl⟩ i k z
  match i with
  |0=>simp
  |1=>simp
  |i+2=>simp
 ne:=by unfold N2;exact⟨by decide,by decide⟩
 alloc:=fun w=>⟨#[.bool false,.slice none 0 0],⟨_,_,_,_,rfl,rfl⟩,by unfold N2;go_simp⟩
 box:=by
  rintro w v ⟨cs,ng,ao,n,c,rfl,rfl⟩;exact⟨_,⟨_,_,_,_,rfl,rfl⟩,by unfold N2;go_simp⟩
 store:=by
  rintro w g v0 v ⟨cs0,⟨m,bo,p,d,rfl,rfl⟩,hh⟩ ⟨cs,ng,ao,n,c,rfl,rfl⟩;have hb:Dm.Box w g m (.slice bo p d):=hh;obtain⟨b1,b2,b3,b4⟩:=hb.facts;refine⟨(w.setCell ⟨g,0,none⟩ (.bool ng)).setCell ⟨g,1,none⟩ (.slice ao n c),?_,⟨_,⟨_,_,_,_,rfl,rfl⟩,hb.set ng (.slice ao n c)⟩,⟨rfl,rfl,rfl,by simp[World.setCell],fun k hk=>?_⟩⟩
  ·unfold N2;go_simp
  ·rw[Below.heap_setCell _ _ _ _ (by simpa using hk),Below.heap_setCell _ _ _ _ (by simpa using hk)]
 load:=by
  rintro w g v ⟨cs,⟨ng,ao,n,c,rfl,rfl⟩,hh⟩;obtain⟨b1,b2,b3,b4⟩:=(show Dm.Box w g ng (.slice ao n c)from hh).facts;unfold N2;go_simp
def Q4:BoxTy:=⟨84,.agg #[.bool false,.slice none 0 0,.bool false,.slice none 0 0],fun v cs=>∃ng ao n c mg bo m d,v=.agg #[.bool ng,.slice ao n c,.bool mg,.slice bo m d]/\cs = #[.bool ng,.slice ao n c,.bool mg,.slice bo m d]⟩
theorem aes{w:World}{g:Nat}{x y z u:Value}{T:TypeId}(h:w.heap[g]? = some (.cells #[x,y,z,u] T (0,0))):w.cell? ⟨g,0,none⟩=some x/\w.cell? ⟨g,1,none⟩=some y/\w.cell? ⟨g,2,none⟩=some z/\w.cell? ⟨g,3,none⟩=some u/\w.frozen? ⟨g,0,none⟩=false/\w.frozen? ⟨g,1,none⟩=false/\w.frozen? ⟨g,2,none⟩=false/\w.frozen? ⟨g,3,none⟩=false:=
 ⟨by rw[cell_of_row _ _ _ _ _ (0,0) h];rfl,by rw[cell_of_row _ _ _ _ _ (0,0) h];rfl,by rw[cell_of_row _ _ _ _ _ (0,0) h];rfl,by rw[cell_of_row _ _ _ _ _ (0,0) h];rfl,frozen_of_row _ _ _ _ _ h,frozen_of_row _ _ _ _ _ h,frozen_of_row _ _ _ _ _ h,frozen_of_row _ _ _ _ _ h⟩
theorem Q4ok:BoxOk Tryz.prog Q4 where
 noInt:=by
  rintro v cs ⟨ng,ao,n,c,mg,bo,m,d,rfl,rfl⟩ i k z
  match i with
  |0=>simp
  |1=>simp
  |2=>simp
  |3=>simp
  |i+4=>simp
 ne:=by unfold Q4;exact⟨by decide,by decide⟩
 alloc:=fun w=>⟨#[.bool false,.slice none 0 0,.bool false,.slice none 0 0],⟨_,_,_,_,_,_,_,_,rfl,rfl⟩,by unfold Q4;go_simp⟩
 box:=by
  rintro w v ⟨cs,ng,ao,n,c,mg,bo,m,d,rfl,rfl⟩;exact⟨_,⟨_,_,_,_,_,_,_,_,rfl,rfl⟩,by unfold Q4;go_simp⟩
 store:=by
  rintro w g v0 v ⟨cs0,⟨m,bo,p,d,mg,b2,d2,e2,rfl,rfl⟩,hh⟩ ⟨cs,ng,ao,n,c,m2,co,q,f,rfl,rfl⟩;obtain⟨b1,b2,b3,b4,b5,b6,b7,b8⟩:=aes hh;have h1:=heap_setCell_same w g 0 _ _ (.bool ng) hh;have h2:=heap_setCell_same _ g 1 _ _ (.slice ao n c) h1;have h3:=heap_setCell_same _ g 2 _ _ (.bool m2) h2;have h4:=heap_setCell_same _ g 3 _ _ (.slice co q f) h3;refine⟨(((w.setCell ⟨g,0,none⟩ (.bool ng)).setCell ⟨g,1,none⟩ (.slice ao n c)).setCell ⟨g,2,none⟩ (.bool m2)).setCell ⟨g,3,none⟩ (.slice co q f),?_,⟨_,⟨_,_,_,_,_,_,_,_,rfl,rfl⟩,h4⟩,⟨rfl,rfl,rfl,by simp[World.setCell],fun k hk=>?_⟩⟩
  ·unfold Q4;go_simp
  ·rw[Below.heap_setCell _ _ _ _ (by simpa using hk),Below.heap_setCell _ _ _ _ (by simpa using hk),Below.heap_setCell _ _ _ _ (by simpa using hk),Below.heap_setCell _ _ _ _ (by simpa using hk)]
 load:=by
  rintro w g v ⟨cs,⟨ng,ao,n,c,mg,bo,m,d,rfl,rfl⟩,hh⟩;obtain⟨b1,b2,b3,b4,b5,b6,b7,b8⟩:=aes hh;unfold Q4;go_simp
def OutN(z:Int)(L:Nat):Says:=fun v w=>∃ng ao cap rs,v=.agg #[.bool ng,.slice ao rs.length cap]/\Dm.Wh w ng ao cap rs z/\rs.length<=L
def OutQ(p q:Int)(L:Nat):Says:=fun v w=>∃ng ao cap rs mg bo dap ss,v=.agg #[.bool ng,.slice ao rs.length cap,.bool mg,.slice bo ss.length dap]/\Dm.Wh w ng ao cap rs p/\Dm.Wh w mg bo dap ss q/\rs.length<=L/\ss.length<=L
theorem OutN.mono4(z:Int)(L:Nat):Mono4 (OutN z L):=fun _ _ _ hb ⟨ng,ao,cap,rs,e,h,l⟩=>⟨ng,ao,cap,rs,e,h.rl hb,l⟩
theorem OutQ.mono4(p q:Int)(L:Nat):Mono4 (OutQ p q L):=fun _ _ _ hb ⟨ng,ao,cap,rs,mg,bo,dap,ss,e,h,h',l,l'⟩=>⟨ng,ao,cap,rs,mg,bo,dap,ss,e,h.rl hb,h'.rl hb,l,l'⟩
theorem OutN.to{z z':Int}{L L':Nat}{v:Value}{w:World}(h:OutN z L v w)(e:z=z')(hl:L<=L'):OutN z' L' v w:=by
 subst e;obtain⟨ng,ao,cap,rs,e',h,l⟩:=h;exact⟨ng,ao,cap,rs,e',h,Nat.le_trans l hl⟩
theorem OutQ.to{p q p' q':Int}{L L':Nat}{v:Value}{w:World}(h:OutQ p q L v w)(e:p=p')(e':q=q')(hl:L<=L'):OutQ p' q' L' v w:=by
 subst e e';obtain⟨ng,ao,cap,rs,mg,bo,dap,ss,e,h,h',l,l'⟩:=h;exact⟨ng,ao,cap,rs,mg,bo,dap,ss,e,h,h',Nat.le_trans l hl,Nat.le_trans l' hl⟩
theorem OutN.cs{z:Int}{L:Nat}(v:Value)(w:World)(h:OutN z L v w):∃cs,N2.Cs v cs:=by
 obtain⟨ng,ao,cap,rs,rfl,_⟩:=h;exact⟨_,_,_,_,_,rfl,rfl⟩
theorem OutQ.cs{p q:Int}{L:Nat}(v:Value)(w:World)(h:OutQ p q L v w):∃cs,Q4.Cs v cs:=by
 obtain⟨ng,ao,cap,rs,mg,bo,dap,ss,rfl,_⟩:=h;exact⟨_,_,_,_,_,_,_,_,_,rfl,rfl⟩
theorem af0{ng:Bool}{ao:Option Addr}{n c:Nat}: ∃cs,N2.Cs (.agg #[.bool ng,.slice ao n c]) cs:=⟨_,_,_,_,_,rfl,rfl⟩
theorem a09{ng mg:Bool}{ao bo:Option Addr}{n c m d:Nat}: ∃cs,Q4.Cs (.agg #[.bool ng,.slice ao n c,.bool mg,.slice bo m d]) cs:=⟨_,_,_,_,_,_,_,_,_,rfl,rfl⟩
theorem aa9{v:Value}{w:World}{ng:Bool}{ao:Option Addr}{c:Nat}{rs:List Int}{z:Int}{L:Nat}(h:v=.agg #[.bool ng,.slice ao rs.length c])(hA:Dm.Wh w ng ao c rs z)(hl:rs.length<=L):OutN z L v w:=⟨_,_,_,_,h,hA,hl⟩
theorem aji{v:Value}{w:World}{ng mg:Bool}{ao bo:Option Addr}{c d:Nat}{rs ss:List Int}{p q:Int}{L:Nat}(h:v=.agg #[.bool ng,.slice ao rs.length c,.bool mg,.slice bo ss.length d])(hA:Dm.Wh w ng ao c rs p)(hB:Dm.Wh w mg bo d ss q)(hl:rs.length<=L)(hl':ss.length<=L):OutQ p q L v w:=⟨_,_,_,_,_,_,_,_,h,hA,hB,hl,hl'⟩
theorem ast{w:World}{g:Nat}{ng:Bool}{ao:Option Addr}{n c:Nat}(h:BoxV N2 w g (.agg #[.bool ng,.slice ao n c])):Dm.Box w g ng (.slice ao n c):=by
 obtain⟨cs,⟨_,_,_,_,e,rfl⟩,h⟩:=h;simp only[Value.agg.injEq]at e;simp only[Array.mk.injEq,List.cons.injEq,Value.bool.injEq,Value.slice.injEq,and_true]at e;obtain⟨rfl,rfl,rfl,rfl⟩:=e;exact h
theorem asu{w:World}{g:Nat}{ng mg:Bool}{ao bo:Option Addr}{n c m d:Nat}(h:BoxV Q4 w g (.agg #[.bool ng,.slice ao n c,.bool mg,.slice bo m d])):w.heap[g]? = some (.cells #[.bool ng,.slice ao n c,.bool mg,.slice bo m d] 84 (0,0)):=by
 obtain⟨cs,⟨_,_,_,_,_,_,_,_,e,rfl⟩,h⟩:=h;simp only[Value.agg.injEq]at e;simp only[Array.mk.injEq,List.cons.injEq,Value.bool.injEq,Value.slice.injEq,and_true]at e;obtain⟨rfl,⟨rfl,rfl,rfl⟩,rfl,rfl,rfl,rfl⟩:=e;exact h
theorem aw2{w:World}{g:Nat}{v:Value}(h:BoxV N2 w g v):(loadVar 82 ⟨g,0,none⟩).run Tryz.prog w=.ok v w:=by
 obtain⟨cs,⟨ng,ao,n,c,rfl,rfl⟩,hh⟩:=h;obtain⟨b1,b2,b3,b4⟩:=(show Dm.Box w g ng (.slice ao n c)from hh).facts;go_simp
theorem aw3{w:World}{g:Nat}{v:Value}(h:BoxV Q4 w g v):(loadVar 84 ⟨g,0,none⟩).run Tryz.prog w=.ok v w:=by
 obtain⟨cs,⟨ng,ao,n,c,mg,bo,m,d,rfl,rfl⟩,hh⟩:=h;obtain⟨b1,b2,b3,b4,b5,b6,b7,b8⟩:=aes hh;go_simp
section
variable {dst:Option Tmp} {ty:TypeId} {pos:String} {after:Array Edge} {guard:Option (Nat×Bool)} {a:Act} {w:World} {ats:Array TypeId} {i j k g:Nat} {x y z p q:Int} {L L1 L2:Nat}
theorem ait{f off:Nat}(hf:∀w:World,(Instr.fieldAt 82 (.pointer (some ⟨g,0,none⟩)) f).run Tryz.prog w=.ok (.pointer (some ⟨g,off,none⟩)) w)(hp:a.eval (.tmp k)=.pointer (some ⟨g,0,none⟩)):
  Does Tryz.prog {dst,op:=.fieldAddr 82 (.tmp k) f,type:=ty,pos,after,guard} a.eval w fun v' w'=>Below w.heap.size w w'/\Eqs (.pointer (some ⟨g,off,none⟩)) v' w':=by
 refine⟨?_⟩;unfold Turns;simp only[execOp,hp];simp[hf];exact⟨Below.refl _ _,rfl⟩
theorem ajj(w:World):(Instr.fieldAt 82 (.pointer (some ⟨g,0,none⟩)) 0).run Tryz.prog w=.ok (.pointer (some ⟨g,0,none⟩)) w:=by go_simp
theorem asv{f off:Nat}(hf:∀w:World,(Instr.fieldAt 84 (.pointer (some ⟨g,0,none⟩)) f).run Tryz.prog w=.ok (.pointer (some ⟨g,off,none⟩)) w)(hp:a.eval (.tmp k)=.pointer (some ⟨g,0,none⟩)):
  Does Tryz.prog {dst,op:=.fieldAddr 84 (.tmp k) f,type:=ty,pos,after,guard} a.eval w fun v' w'=>Below w.heap.size w w'/\Eqs (.pointer (some ⟨g,off,none⟩)) v' w':=by
 refine⟨?_⟩;unfold Turns;simp only[execOp,hp];simp[hf];exact⟨Below.refl _ _,rfl⟩
theorem a1a(w:World):(Instr.fieldAt 84 (.pointer (some ⟨g,0,none⟩)) 0).run Tryz.prog w=.ok (.pointer (some ⟨g,0,none⟩)) w:=by go_simp
theorem a1b(w:World):(Instr.fieldAt 84 (.pointer (some ⟨g,0,none⟩)) 1).run Tryz.prog w=.ok (.pointer (some ⟨g,2,none⟩)) w:=by go_simp
theorem agj{ng:Bool}{ao:Option Addr}{n c:Nat}(hp:a.eval (.tmp k)=.pointer (some ⟨g,0,none⟩))(hb:BoxV N2 w g (.agg #[.bool ng,.slice ao n c])):
  Does Tryz.prog {dst,op:=.load 4 (.tmp k),type:=ty,pos,after,guard} a.eval w fun v' w'=>Below w.heap.size w w'/\Eqs (.bool ng) v' w':=by
 obtain⟨b1,b2,b3,b4⟩:=(ast hb).facts;refine aav (v:=.bool ng) ?_ ⟨Below.refl _ _,rfl⟩;rw[hp];go_simp
theorem ayc{ng mg:Bool}{ao bo:Option Addr}{n c m d:Nat}(hp:a.eval (.tmp k)=.pointer (some ⟨g,0,none⟩))(hb:BoxV Q4 w g (.agg #[.bool ng,.slice ao n c,.bool mg,.slice bo m d])):
  Does Tryz.prog {dst,op:=.load 82 (.tmp k),type:=ty,pos,after,guard} a.eval w fun v' w'=>Below w.heap.size w w'/\Eqs (.agg #[.bool ng,.slice ao n c]) v' w':=by
 obtain⟨b1,b2,b3,b4,b5,b6,b7,b8⟩:=aes (asu hb);refine aav (v:=.agg #[.bool ng,.slice ao n c]) ?_ ⟨Below.refl _ _,rfl⟩;rw[hp];go_simp
theorem ayd{ng mg:Bool}{ao bo:Option Addr}{n c m d:Nat}(hp:a.eval (.tmp k)=.pointer (some ⟨g,2,none⟩))(hb:BoxV Q4 w g (.agg #[.bool ng,.slice ao n c,.bool mg,.slice bo m d])):
  Does Tryz.prog {dst,op:=.load 82 (.tmp k),type:=ty,pos,after,guard} a.eval w fun v' w'=>Below w.heap.size w w'/\Eqs (.agg #[.bool mg,.slice bo m d]) v' w':=by
 obtain⟨b1,b2,b3,b4,b5,b6,b7,b8⟩:=aes (asu hb);refine aav (v:=.agg #[.bool mg,.slice bo m d]) ?_ ⟨Below.refl _ _,rfl⟩;rw[hp];go_simp
theorem aw4(h1:OutN p L (a.eval (.tmp i)) w)(h2:OutN q L (a.eval (.tmp j)) w):Does Tryz.prog {dst,op:=.build 84 #[(0,.tmp i),(1,.tmp j)],type:=ty,pos,after,guard} a.eval w fun v' w'=>Below w.heap.size w w'/\OutQ p q L v' w':=by
 obtain⟨ng,ao,cap,rs,e1,W1,l1⟩:=h1;obtain⟨mg,bo,dap,ss,e2,W2,l2⟩:=h2;have e:(execOp a.eval {dst,op:=.build 84 #[(0,.tmp i),(1,.tmp j)],type:=ty,pos,after,guard}).run Tryz.prog w=.ok (.value (.agg #[.bool ng,.slice ao rs.length cap,.bool mg,.slice bo ss.length dap])) w:=by
  simp only[execOp,List.map_toArray,List.map_nil,List.map_cons,e1,e2];go_simp
 refine⟨?_⟩;unfold Turns;rw[e];exact⟨Below.refl _ _,aji rfl W1 W2 l1 l2⟩
theorem aps:Has Tryz.prog 74:=by unfold Has;kernel_rfl
theorem agk(h:OutN z L (a.eval (.tmp i)) w)(hL:L<=1000000):
  Does Tryz.prog {dst,op:=.call {callee:=.value (.func 74),args:=#[.tmp i],argTypes:=ats},type:=ty,pos,after,guard} a.eval w fun v w'=>Below w.heap.size w w'/\OutN (-z) L v w':=by
 obtain⟨ng,ao,cap,rs,e1,W,l⟩:=h;refine aaq aps _ (by simp only[List.map_toArray,List.map_cons,List.map_nil,e1]) ((Dm.ajf w _ _ _ _ _ W (by omega)).mono ?_);rintro e w' ⟨ng,ao,cap,rs,rfl,G,l,hb⟩;exact⟨_,rfl,hb,_,_,_,_,rfl,G,by omega⟩
theorem avu:Has Tryz.prog 108:=by unfold Has;kernel_rfl
theorem ajk(h1:OutN x L1 (a.eval (.tmp i)) w)(h2:OutN y L2 (a.eval (.tmp j)) w)(hL:L1<=300000)(hL':L2<=300000):
  Does Tryz.prog {dst,op:=.call {callee:=.value (.func 108),args:=#[.tmp i,.tmp j],argTypes:=ats},type:=ty,pos,after,guard} a.eval w fun v w'=>Below w.heap.size w w'/\OutN ((Int.gcd x y:Nat):Int) (L1+L2) v w':=by
 obtain⟨ng,ao,cap,rs,e1,W,l⟩:=h1;obtain⟨mg,bo,dap,ss,e2,W',l'⟩:=h2;refine aaq avu _ (by simp only[List.map_toArray,List.map_cons,List.map_nil,e1,e2]) ((Dm.a0c w ng ao cap rs _ W.1 mg bo dap ss _ W'.1 (by omega) (by omega)).mono ?_);rintro e w' ⟨ng,ao,cap,rs,rfl,G,l,hb⟩;rw[Dm.ax7]at G;exact⟨_,rfl,hb,_,_,_,_,rfl,G,by omega⟩
theorem alx:Has Tryz.prog 139:=by unfold Has;kernel_rfl
theorem anb(h1:OutN x L1 (a.eval (.tmp i)) w)(h2:OutN y L2 (a.eval (.tmp j)) w)(hL:L1<=300000)(hL':L2<=300000)(h0:y≠0):
  Does Tryz.prog {dst,op:=.call {callee:=.value (.func 139),args:=#[.tmp i,.tmp j],argTypes:=ats},type:=ty,pos,after,guard} a.eval w fun v w'=>Below w.heap.size w w'/\Tup2 (OutN ((x.natAbs:Int)/(y.natAbs:Int)) L1) (OutN ((x.natAbs:Int)%(y.natAbs:Int)) L2) v w':=by
 obtain⟨ng,ao,cap,rs,e1,W,l⟩:=h1;obtain⟨mg,bo,dap,ss,e2,W',l'⟩:=h2;refine aaq alx _ (by simp only[List.map_toArray,List.map_cons,List.map_nil,e1,e2]) ((Dm.akb w ng ao cap rs _ W.1 mg bo dap ss _ W'.1 (by omega) (by omega) (W'.some h0)).mono ?_);rintro e w' ⟨nq,pq,qq,Q,nr,pr,qr,R,rfl,G,G',l1,l2,hb⟩;exact⟨_,rfl,hb,_,_,rfl,⟨_,_,_,_,rfl,G,by omega⟩,⟨_,_,_,_,rfl,G',by omega⟩⟩
theorem apt:Has Tryz.prog 69:=by unfold Has;kernel_rfl
end
end Lm
namespace Lm
open Go Go.RowKit
section
variable {dst:Option Tmp} {ty:TypeId} {pos:String} {after:Array Edge} {guard:Option (Nat×Bool)} {a:Act} {w:World} {ats:Array TypeId} {i j:Nat} {x y u v:Int} {L1 L2:Nat}
theorem avv:Has Tryz.prog 75:=by unfold Has;kernel_rfl
theorem a1o(h1:OutN x L1 (a.eval (.tmp i)) w)(h2:OutN y L2 (a.eval (.tmp j)) w)(hL:L1<=400000)(hL':L2<=400000):
  Does Tryz.prog {dst,op:=.call {callee:=.value (.func 75),args:=#[.tmp i,.tmp j],argTypes:=ats},type:=ty,pos,after,guard} a.eval w fun v w'=>Below w.heap.size w w'/\OutN (x+y) (L1+L2+1) v w':=by
 obtain⟨ng,ao,cap,rs,e1,W,l⟩:=h1;obtain⟨mg,bo,dap,ss,e2,W',l'⟩:=h2;refine aaq avv _ (by simp only[List.map_toArray,List.map_cons,List.map_nil,e1,e2]) ((Dm.asa w ng ao cap rs _ W mg bo dap ss _ W' (by omega) (by omega)).mono ?_);rintro e w' ⟨ng,ao,cap,rs,rfl,G,l,hb⟩;exact⟨_,rfl,hb,_,_,_,_,rfl,G,by omega⟩
theorem avw:Has Tryz.prog 137:=by unfold Has;kernel_rfl
theorem aye(h1:OutN x L1 (a.eval (.tmp i)) w)(h2:OutN y L2 (a.eval (.tmp j)) w)(hL:L1<=400000)(hL':L2<=400000):
  Does Tryz.prog {dst,op:=.call {callee:=.value (.func 137),args:=#[.tmp i,.tmp j],argTypes:=ats},type:=ty,pos,after,guard} a.eval w fun v w'=>Below w.heap.size w w'/\OutN (x-y) (L1+L2+1) v w':=by
 obtain⟨ng,ao,cap,rs,e1,W,l⟩:=h1;obtain⟨mg,bo,dap,ss,e2,W',l'⟩:=h2;refine aaq avw _ (by simp only[List.map_toArray,List.map_cons,List.map_nil,e1,e2]) ((Dm.asf w ng ao cap rs _ W mg bo dap ss _ W' (by omega) (by omega)).mono ?_);rintro e w' ⟨ng,ao,cap,rs,rfl,G,l,hb⟩;exact⟨_,rfl,hb,_,_,_,_,rfl,G,by omega⟩
theorem avx:Has Tryz.prog 72:=by unfold Has;kernel_rfl
theorem anx(h1:OutN x L1 (a.eval (.tmp i)) w)(h2:OutN y L2 (a.eval (.tmp j)) w)(hL:L1<=400000)(hL':L2<=400000):
  Does Tryz.prog {dst,op:=.call {callee:=.value (.func 72),args:=#[.tmp i,.tmp j],argTypes:=ats},type:=ty,pos,after,guard} a.eval w fun v w'=>Below w.heap.size w w'/\OutN (x*y) (L1+L2+1) v w':=by
 obtain⟨ng,ao,cap,rs,e1,W,l⟩:=h1;obtain⟨mg,bo,dap,ss,e2,W',l'⟩:=h2;refine aaq avx _ (by simp only[List.map_toArray,List.map_cons,List.map_nil,e1,e2]) ((Dm.a0b w ng ao cap rs _ W mg bo dap ss _ W' (by omega) (by omega)).mono ?_);rintro e w' ⟨ng,ao,cap,rs,rfl,G,l,hb⟩;exact⟨_,rfl,hb,_,_,_,_,rfl,G,by omega⟩
theorem ayf(h1:a.eval (.tmp i)=.int .i64 u)(h2:a.eval (.tmp j)=.int .i64 v):
  Does Tryz.prog {dst,op:=.binOp .lss 3 (.tmp i) (.tmp j) 3,type:=ty,pos,after,guard} a.eval w fun v' w'=>Below w.heap.size w w'/\Eqs (.bool (decide (u<v))) v' w':=by
 refine adf (v:=.bool (decide (u<v))) ?_ ?_ ⟨Below.refl _ _,rfl⟩
 ·rw[h1,h2];simp[go_sem]
 ·rw[h1,h2];simp[go_sem]
end
end Lm
namespace Lm
open Go.RowKit
theorem asw{w:World}{b off:Nat}{zs:List Int}(hc:∀i,i<zs.length->w.cell? ⟨b,off+i,none⟩=some (.int .u32 (zs.getD i 0))):∀j u,(zs.map (Value.int .u32))[j]? = some u->w.cell? ((⟨b,off,none⟩:Addr).add j)=some u:=by
 intro j u hu;rw[List.getElem?_map]at hu;have hj:j<zs.length:=by
  apply Classical.byContradiction;intro hn;rw[List.getElem?_eq_none (by omega)]at hu;cases hu
 rw[List.getElem?_eq_getElem hj]at hu;have hcj:=hc j hj;rw[List.getD_eq_getElem?_getD,List.getElem?_eq_getElem hj]at hcj;rw[show((⟨b,off,none⟩:Addr).add j)=⟨b,off+j,none⟩from by simp[Addr.add],hcj];exact hu
theorem ayg(zs:List Int):∀u∈zs.map (Value.int .u32),u.oneCell'=true:=by
 intro u hu;obtain⟨z,_,rfl⟩:=List.mem_map.1 hu;rfl
end Lm
namespace Lm
open Go Go.RowKit
def OwL(K:Nat)(zs:List Int):Says:=fun v w=>∃ao cap,v=.slice ao zs.length cap/\Ow K w v zs
theorem OwL.mono5(K:Nat)(zs:List Int):Mono5 (OwL K zs):=fun _ _ _ hr ⟨ao,cap,e,h⟩=>⟨ao,cap,e,h.ru hr⟩
theorem OwL.mono4(K:Nat)(zs:List Int):Mono4 (OwL K zs):=fun v w w' hr h=>OwL.mono5 K zs v w w' (Ru.of_rl hr) h
def OwW(K:Nat)(ng:Bool)(zs:List Int):Says:=fun v w=>∃ao cap,v=.agg #[.bool ng,.slice ao zs.length cap]/\Ow K w (.slice ao zs.length cap) zs
theorem OwW.mono5(K:Nat)(ng:Bool)(zs:List Int):Mono5 (OwW K ng zs):=fun _ _ _ hr ⟨ao,cap,e,h⟩=>⟨ao,cap,e,h.ru hr⟩
theorem OwW.mono4(K:Nat)(ng:Bool)(zs:List Int):Mono4 (OwW K ng zs):=fun v w w' hr h=>OwW.mono5 K ng zs v w w' (Ru.of_rl hr) h
theorem OwW.cs{K:Nat}{ng:Bool}{zs:List Int}(v:Value)(w:World)(h:OwW K ng zs v w):∃cs,W2.Cs v cs:=by
 obtain⟨ao,cap,rfl,_⟩:=h;exact⟨_,_,_,_,_,rfl,rfl⟩
section
variable {dst:Option Tmp} {ty:TypeId} {pos:String} {after:Array Edge} {guard:Option (Nat×Bool)} {a:Act} {w:World} {ats:Array TypeId} {i j:Nat}
theorem apu:Has Tryz.prog 48:=by unfold Has;kernel_rfl
theorem a0f{K:Nat}{ng:Bool}{zs:List Int}(h1:a.eval (.tmp i)=.bool ng)(h2:OwL K zs (a.eval (.tmp j)) w):
  Does Tryz.prog {dst,op:=.build 42 #[(0,.tmp i),(1,.tmp j)],type:=ty,pos,after,guard} a.eval w fun v w'=>Below w.heap.size w w'/\OwW K ng zs v w':=by
 obtain⟨ao,cap,e,ho⟩:=h2;refine(azv h1 e).mono ?_;rintro v w' ⟨hb,e'⟩;exact⟨hb,ao,cap,e',by rw[<-e];exact ho.below hb⟩
end
section
end
theorem Ow.grown{B:Nat}{w w':World}{v:Value}{zs:List Int}{row:Option Nat}{cur:Nat->Array Value}(h:Ow B w v zs)(hg:w.grownBy w' row)(hr:∀k,row=some k->w.heap[k]? = some (.cells (cur k) 42 (0,0))):Ow B w' v zs:=by
 obtain⟨ao,cap,rfl,h1,h2,h3,h4⟩:=h;refine⟨ao,cap,rfl,h1,h2,h3,?_⟩;rcases h4 with h4|⟨g,off,c,rfl,hB,hh,h5,h6⟩
 ·exact .inl h4
 ·refine .inr ⟨g,off,c,rfl,hB,(hg.block g (aaa hh) (fun e=>?_)).trans hh,h5,h6⟩;have:=hr g e.symm;rw[hh]at this;injection this with this;injection this with _ this;exact absurd this (by decide)
structure RwO (B:Nat) (w:World) (v:Value) (es:List WE):Prop where
 own:w.ownsRow B 42 2 v es.length (flat es)
 ow:∀e∈es,Ow B w (.slice e.a e.m e.c) e.zs
theorem RwO.below{B:Nat}{w w':World}{v:Value}{es:List WE}(h:RwO B w v es)(hb:Below w.heap.size w w'):RwO B w' v es:=
 ⟨h.own.kept (row:=none) ⟨hb.os,hb.tape,hb.output,hb.size,fun k hk _=>hb.block k hk⟩ (by cases hv:v.ownBlock <;> simp),fun e he=>(h.ow e he).below hb⟩
theorem RwO.rw{B:Nat}{w:World}{v:Value}{es:List WE}(h:RwO B w v es):Rw w v es:=⟨Cl.own h.own,fun e he=>(h.ow e he).sl⟩
theorem anz(B:Nat)(w:World):RwO B w (.slice none 0 0) []:=⟨World.ownsRow_nil w B _ 2,fun e he=>by cases he⟩
def One(w:World)(g:Nat)(ng:Bool)(ao:Option Addr)(n c:Nat):Prop:=w.heap[g]? = some (.cells #[.bool ng,.slice ao n c] 42 (0,0))
section
variable {dst:Option Tmp} {ty:TypeId} {pos:String} {after:Array Edge} {guard:Option (Nat×Bool)} {a:Act} {w:World} {ats:Array TypeId} {i j:Nat}
theorem infoW:(Tryz.prog.info? 42).map (fun i=>(i.zero,i.size,i.bytes))=some (some (.agg #[.bool false,.slice none 0 0]),2,32):=by kernel_rfl
theorem ayh{B g:Nat}{v:Value}{es:List WE}{ng:Bool}{ao:Option Addr}{n c:Nat}{zs:List Int}(h1:a.eval (.tmp i)=v)(h2:a.eval (.tmp j)=.slice (some ⟨g,0,none⟩) 1 1)(R:RwO B w v es)(O:One w g ng ao n c)(S:Ow B w (.slice ao n c) zs)(hn:es.length<=1000000)(hB:B<=w.heap.size):
  Does Tryz.prog {dst,op:=.call {callee:=.builtin .append,args:=#[.tmp i,.tmp j],argTypes:=#[23,23]},type:=ty,pos,after,guard} a.eval w fun v' w'=>RwO B w' v' (es ++ [⟨ng,ao,n,c,zs⟩])/\Below B w w':=by
 obtain⟨i0,hi,hz0,hz1,hz2⟩:=info_parts infoW;have hfl:flat (es ++ [⟨ng,ao,n,c,zs⟩])=flat es ++ [.bool ng,.slice ao n c]:=by rw[adw];rfl
 obtain⟨v',w',hr,ho,hgr,_⟩:=run_append_own (P:=Tryz.prog) w B 23 ty 42 i0 _ 2 32 Tryz.underlying23 hi hz0 hz1 hz2 rfl (by decide) v es.length (flat es) R.own ⟨g,0,none⟩ 1 1 [.bool ng,.slice ao n c] rfl (fun k u hu=>by
  have hc:∀k,w.cell? ⟨g,k,none⟩ = #[Value.bool ng,.slice ao n c][k]? :=fun k=>cell_of_row w g k _ _ (0,0) O
  have ha:(⟨g,0,none⟩:Addr).add k=⟨g,k,none⟩:=by unfold Addr.add;split <;> simp_all
  rw[ha,hc]
  simpa using hu) (by simp[Value.oneCell']) (by simp[maxLen];omega) (by omega) hB
 have e:(execOp a.eval {dst,op:=.call {callee:=.builtin .append,args:=#[.tmp i,.tmp j],argTypes:=#[23,23]},type:=ty,pos,after,guard}).run Tryz.prog w=.ok (.value v') w':=by
  simp only[execOp,resolve,invoke,builtin,Sem.run_bind,Sem.run_pure,Result.andThen_ok,List.map_toArray,List.map_cons,List.map_nil,h1,h2,hr]
 refine⟨?_⟩;unfold Turns;rw[e];have hrow:∃cur:Nat->Array Value,∀k,v.ownBlock=some k->w.heap[k]? = some (.cells (cur k) 42 (0,0)):=by
  rcases R.own.2 with⟨rfl,_⟩|⟨g',cap,cur,rfl,_,hh,_⟩
  ·exact⟨fun _=>#[],fun k hk=>by simp[Value.ownBlock]at hk⟩
  ·refine⟨fun _=>cur,fun k hk=>?_⟩;simp only[Value.ownBlock,Option.some.injEq]at hk;subst hk;exact hh
 obtain⟨cur,hcur⟩:=hrow;refine⟨⟨by rw[hfl,List.length_append];exact ho,fun e he=>?_⟩,⟨hgr.os,hgr.tape,hgr.output,hgr.size,fun k hk=>hgr.block k (by omega) (fun e=>?_)⟩⟩
 ·rcases List.mem_append.1 he with he|he
  ·exact(R.ow e he).grown hgr hcur
  ·obtain rfl:=List.mem_singleton.1 he;exact S.grown hgr hcur
 ·have:=R.own.lt k e.symm;omega
end
theorem apv{es xs:List WE}{k:Nat}{e f:WE}(h:SameR es (xs.take k))(he:xs[k]? = some e)(hf:f.raw=e.raw):SameR (es ++ [f]) (xs.take (k+1)):=by
 unfold SameR at *
 rw[List.take_add_one,he,List.map_append,List.map_append,h];simp[hf]
end Lm
namespace Lm
open Go Go.RowKit
open Dm (WFr)
theorem af1(n:Nat):(madeCells #[.bool false,.slice none 0 0] (n*2)).toList=flat (List.replicate n ⟨false,none,0,0,[]⟩):=by
 apply List.ext_getElem?;intro i;rw[Array.getElem?_toList];by_cases hi:i<n*2
 ·have hk:i/2<n:=by omega
  have h1:(List.replicate n (⟨false,none,0,0,[]⟩:WE))[i/2]? = some ⟨false,none,0,0,[]⟩:=by rw[List.getElem?_replicate,if_pos hk]
  obtain⟨f1,f2⟩:=aa2 h1;have e0:(madeCells #[.bool false,.slice none 0 0] (n*2))[i]? = some ((#[.bool false,.slice none 0 0]:Array Value)[i%2]!):=by
   simp[madeCells,hi]
  rw[e0];rcases Nat.mod_two_eq_zero_or_one i with h|h
  ·rw[h,<-show i/2*2=i from by omega,f1];rfl
  ·rw[h,<-show i/2*2+1=i from by omega,f2];rfl
 ·rw[Array.getElem?_eq_none (by rw[size_madeCells];omega),List.getElem?_eq_none (by rw[aay];simp;omega)]
theorem ac4{w:World}{B g n size:Nat}{T:TypeId}{xs:List Value}(h:w.ownsRow B T size (.slice (some ⟨g,0,none⟩) n n) n xs):B<=g/\w.heap[g]? = some (.cells xs.toArray T (0,0)):=by
 obtain⟨hl,⟨h',_⟩|⟨g',cap',cur,h',hb,hg,_,_,hs,htake⟩⟩:=h
 ·simp at h'
 ·simp only[Value.slice.injEq,Option.some.injEq,Addr.mk.injEq,and_true,true_and]at h';obtain⟨rfl,rfl⟩:=h';refine⟨hb,?_⟩;rw[hg,<-htake,List.take_of_length_le (by simp;omega)]
def IsRow(w:World)(v:Value)(zs:List Int)(L:Nat):Prop:=∃es:List WE,Rw w v es/\es.map WE.z=zs/\∀e∈es,e.zs.length<=L
theorem IsRow.below{w w':World}{v:Value}{zs:List Int}{L:Nat}(h:IsRow w v zs L)(hb:Below w.heap.size w w'):IsRow w' v zs L:=by
 obtain⟨es,h1,h2,h3⟩:=h;exact⟨es,h1.below hb,h2,h3⟩
theorem IsRow.parts{w:World}{v:Value}{zs:List Int}{L:Nat}(h:IsRow w v zs L):∃ao cap,v=.slice ao zs.length cap/\zs.length<=9223372036854775807:=by
 obtain⟨es,h1,h2,h3⟩:=h;obtain⟨ao,cap,rfl,c1,c2,_⟩:=h1.cl;have:zs.length=es.length:=by rw[<-h2];simp
 exact⟨ao,cap,by rw[this],by omega⟩
theorem IsRow.cell{w:World}{ao:Option Addr}{n cap:Nat}{zs:List Int}{L k:Nat}{z:Int}(h:IsRow w (.slice ao n cap) zs L)(hz:zs[k]? = some z):∃b off ng a m c,ao=some ⟨b,off,none⟩/\b<w.heap.size/\w.cell? ⟨b,off+k*2,none⟩=some (.bool ng)/\w.cell? ⟨b,off+k*2+1,none⟩=some (.slice a m c)/\IsW z L (.agg #[.bool ng,.slice a m c]) w:=by
 obtain⟨es,h1,rfl,h3⟩:=h;rw[List.getElem?_map]at hz;obtain⟨e,he,rfl⟩:=Option.map_eq_some_iff.1 hz;have hk:k<es.length:=(List.getElem?_eq_some_iff.1 he).1;obtain⟨b,off,rfl,hb,hc⟩:=h1.cells (by omega);obtain⟨f1,f2⟩:=aa2 he;have hm:=List.mem_of_getElem? he;exact⟨b,off,e.ng,e.a,e.m,e.c,rfl,hb,hc _ _ f1,hc _ _ f2,⟨_,_,_,_,_,rfl,h1.ag hm,h3 e hm⟩⟩
def PRow(K:Nat)(w:World)(bv n i:Nat)(zs:List Int)(L:Nat):Prop:=
 ∃(es:List WE) (B T:Nat->Nat),es.length=n/\w.heap[bv]? = some (.cells (flat es).toArray 42 (0,0))/\(∀(k:Nat) (e:WE),i<=k->es[k]? = some e->e=⟨false,none,0,0,[]⟩)/\(∀(k:Nat) (e:WE) (z:Int),k<i->es[k]? = some e->zs[k]? = some z->WFr (B k) (T k) w e.ng e.a e.c e.zs z/\e.m=e.zs.length/\e.zs.length<=L/\K<=B k/\T k<=w.heap.size)/\(∀k k':Nat,k<k'->k'<i->T k<=B k')
theorem PRow.start{K:Nat}{w:World}{bv n:Nat}{zs:List Int}{L:Nat}(h:w.heap[bv]? = some (.cells (flat (List.replicate n ⟨false,none,0,0,[]⟩)).toArray 42 (0,0))):PRow K w bv n 0 zs L:=by
 refine⟨_,fun _=>0,fun _=>0,List.length_replicate,h,fun k e _ he=>?_,fun k e z hk=>by omega,fun k k' _ hk=>by omega⟩;rw[List.getElem?_replicate]at he;split at he
 ·exact(Option.some.inj he).symm
 ·cases he
theorem PRow.ru{K:Nat}{w w':World}{bv n i:Nat}{zs:List Int}{L:Nat}(h:PRow K w bv n i zs L)(hr:Ru w w')(hb:w'.heap[bv]? = w.heap[bv]?):PRow K w' bv n i zs L:=by
 obtain⟨es,B,T,h1,h2,h3,h4,h5⟩:=h;refine⟨es,B,T,h1,hb.trans h2,h3,fun k e z hk he hz=>?_,h5⟩;obtain⟨g1,g2,g3,g4,g5⟩:=h4 k e z hk he hz;exact⟨g1.ru hr,g2,g3,g4,Nat.le_trans g5 hr.size⟩
theorem PRow.lt{K:Nat}{w:World}{bv n i:Nat}{zs:List Int}{L:Nat}(h:PRow K w bv n i zs L):bv<w.heap.size:=by
 obtain⟨es,B,T,h1,h2,_⟩:=h;exact aaa h2
theorem PRow.below{K:Nat}{w w':World}{bv n i:Nat}{zs:List Int}{L:Nat}(h:PRow K w bv n i zs L)(hb:Below w.heap.size w w'):PRow K w' bv n i zs L:=h.ru (Ru.of_below hb) (hb.block bv h.lt)
theorem af2(es:List WE)(i:Nat)(x:WE)(h:i<es.length):flat (es.set i x)=((flat es).set (i*2) (.bool x.ng)).set (i*2+1) (.slice x.a x.m x.c):=by
 induction es generalizing i with
 |nil=>simp at h
 |cons u es ih=>
  cases i with
  |zero=>simp[flat]
  |succ i=>
   have:=ih i (by simpa using h);simp only[List.set_cons_succ,flat,show(i+1)*2=i*2+2 from by omega,this]
theorem ayi(es:List WE)(i:Nat)(z:Int):(flat es).toArray[i]?≠some (.int .u32 z):=by
 rw[List.getElem?_toArray];induction es generalizing i with
 |nil=>simp[flat]
 |cons u es ih=>
  match i with
  |0=>simp[flat]
  |1=>simp[flat]
  |i+2=>simpa[flat]using ih i
theorem PRow.cells{K:Nat}{w:World}{bv n i:Nat}{zs:List Int}{L:Nat}(h:PRow K w bv n i zs L){k:Nat}(hk:k<n):(∃ng a m c,w.cell? ⟨bv,k*2,none⟩=some (.bool ng)/\w.cell? ⟨bv,k*2+1,none⟩=some (.slice a m c))/\w.frozen? ⟨bv,k*2,none⟩=false/\w.frozen? ⟨bv,k*2+1,none⟩=false:=by
 obtain⟨es,B,T,h1,h2,_⟩:=h;obtain⟨e,he⟩:∃e,es[k]? = some e:=⟨_,List.getElem?_eq_getElem (by omega)⟩;obtain⟨f1,f2⟩:=aa2 he;exact⟨⟨e.ng,e.a,e.m,e.c,by rw[cell_of_row _ _ _ _ _ (0,0) h2,List.getElem?_toArray];exact f1,by rw[cell_of_row _ _ _ _ _ (0,0) h2,List.getElem?_toArray];exact f2⟩,frozen_of_row _ _ _ _ _ h2,frozen_of_row _ _ _ _ _ h2⟩
theorem PRow.put{K S:Nat}{w1 w2:World}{bv n i:Nat}{zs:List Int}{L:Nat}{z:Int}{ng:Bool}{a:Option Addr}{m c:Nat}(h:PRow K w1 bv n i zs L)(hS:w1.heap.size<=S)(hb:Below w1.heap.size w1 w2)(hi:i<n)(hz:zs[i]? = some z)(hK:K<=S)(hv:FrW S z L (.agg #[.bool ng,.slice a m c]) w2):
  PRow K ((w2.setCell ⟨bv,i*2,none⟩ (.bool ng)).setCell ⟨bv,i*2+1,none⟩ (.slice a m c)) bv n (i+1) zs L/\Rc bv bv w1 ((w2.setCell ⟨bv,i*2,none⟩ (.bool ng)).setCell ⟨bv,i*2+1,none⟩ (.slice a m c)):=by
 have hlt:=h.lt;obtain⟨es,B,T,e1,e2,e3,e4,e5⟩:=h;replace e2:=(hb.block bv hlt).trans e2;obtain⟨ng',ao',cap',rs,B',T',hv1,hv2,hv3,hv4,hv5⟩:=hv;simp only[Value.agg.injEq,Array.mk.injEq,List.cons.injEq,Value.bool.injEq,Value.slice.injEq,and_true]at hv1;obtain⟨rfl,rfl,rfl,rfl⟩:=hv1;generalize hW:((w2.setCell ⟨bv,i*2,none⟩ (.bool ng)).setCell ⟨bv,i*2+1,none⟩ (.slice a rs.length c))=W;have hbW:W.heap[bv]? = some (.cells (flat (es.set i ⟨ng,a,rs.length,c,rs⟩)).toArray 42 (0,0)):=by
  rw[<-hW,af2 es i _ (by omega)];have s1:=heap_setCell_same w2 bv (i*2) _ _ (.bool ng) e2;have s2:=heap_setCell_same _ bv (i*2+1) _ _ (.slice a rs.length c) s1;rw[s2];simp
 have hot:∀k,k≠bv->W.heap[k]? = w2.heap[k]? :=fun k hn=>by rw[<-hW,heap_setCell_other _ ⟨bv,i*2+1,none⟩ k _ hn,heap_setCell_other _ ⟨bv,i*2,none⟩ k _ hn]
 have hsz:w2.heap.size<=W.heap.size:=by rw[<-hW];simp[World.setCell]
 have hru:Ru w2 W:=Ru.of_one e2 (by decide) (ayi es) hsz (fun k _ hn=>hot k hn);have hrc:Rc bv bv w2 W:=⟨by rw[<-hW];rfl,by rw[<-hW];rfl,by rw[<-hW];rfl,hsz,fun k _ hn _=>hot k hn,hru⟩;refine⟨⟨es.set i ⟨ng,a,rs.length,c,rs⟩,fun k=>if k=i then B' else B k,fun k=>if k=i then T' else T k,by simp[e1],hbW,?_,?_,?_⟩,(Rc.of_below hb).trans hrc⟩
 ·intro k e hk he;rw[List.getElem?_set_ne (by omega)]at he;exact e3 k e (by omega) he
 ·intro k e z' hk he hz';by_cases hki:k=i
  ·subst hki;rw[List.getElem?_set_self (by omega)]at he;obtain rfl:=Option.some.inj he;rw[hz]at hz';obtain rfl:=Option.some.inj hz';simp only[if_true];exact⟨hv2.ru hru,trivial,hv5,by omega,Nat.le_trans hv4 hsz⟩
  ·rw[List.getElem?_set_ne (fun h=>hki h.symm)]at he;simp only[if_neg hki];obtain⟨g1,g2,g3,g4,g5⟩:=e4 k e z' (by omega) he hz';exact⟨(g1.ru (Ru.of_below hb)).ru hru,g2,g3,g4,Nat.le_trans g5 (Nat.le_trans hb.size hsz)⟩
 ·intro k k' hkk hk';by_cases hki:k'=i
  ·subst hki;simp only[if_true,if_neg (show k≠k' by omega)];obtain⟨e,he⟩:∃e,es[k]? = some e:=⟨_,List.getElem?_eq_getElem (by omega)⟩;obtain⟨z',hz'⟩:∃z',zs[k]? = some z':=⟨_,List.getElem?_eq_getElem (by have:=(List.getElem?_eq_some_iff.1 hz).1;omega)⟩;have:=(e4 k e z' hkk he hz').2.2.2.2;omega
  ·simp only[if_neg hki,if_neg (show k≠i by omega)];exact e5 k k' hkk (by omega)
def ORow(K:Nat)(w:World)(v:Value)(zs:List Int)(L:Nat):Prop:=∃bv,v=.slice (some ⟨bv,0,none⟩) zs.length zs.length/\K<=bv/\PRow K w bv zs.length zs.length zs L/\zs.length<=1000000
theorem PRow.full{K:Nat}{w:World}{bv:Nat}{zs:List Int}{L:Nat}(h:PRow K w bv zs.length zs.length zs L)(hl:zs.length<=1000000):IsRow w (.slice (some ⟨bv,0,none⟩) zs.length zs.length) zs L:=by
 obtain⟨es,B,T,e1,e2,e3,e4,e5⟩:=h;have hz:∀(k:Nat) (e:WE),es[k]? = some e->∃z,zs[k]? = some z/\WFr (B k) (T k) w e.ng e.a e.c e.zs z/\e.m=e.zs.length/\e.zs.length<=L:=by
  intro k e he;have hk:=(List.getElem?_eq_some_iff.1 he).1;obtain⟨z,hz⟩:∃z,zs[k]? = some z:=⟨_,List.getElem?_eq_getElem (by omega)⟩;obtain⟨g1,g2,g3,_⟩:=e4 k e z (by omega) he hz;exact⟨z,hz,g1,g2,g3⟩
 refine⟨es,⟨⟨_,_,by rw[e1],by omega,by omega,aay es,?_⟩,?_⟩,?_,?_⟩
 ·refine .inr ⟨bv,0,rfl,aaa e2,fun j u hu=>?_⟩;rw[Nat.zero_add,cell_of_row _ _ _ _ _ (0,0) e2,List.getElem?_toArray];exact hu
 ·intro e he;obtain⟨k,hk⟩:=List.mem_iff_getElem?.1 he;obtain⟨z,_,g1,g2,_⟩:=hz k e hk;have:=g1.wh.sl;rwa[<-g2]at this
 ·apply List.ext_getElem?;intro k;rw[List.getElem?_map];cases hk:es[k]? with
  |none=>
   rw[List.getElem?_eq_none_iff]at hk;rw[Option.map_none,eq_comm,List.getElem?_eq_none_iff];omega
  |some e=>
   obtain⟨z,h1,g1,g2,_⟩:=hz k e hk;rw[h1,Option.map_some];congr 1;exact g1.wh.worth
 ·intro e he;obtain⟨k,hk⟩:=List.mem_iff_getElem?.1 he;obtain⟨z,_,_,_,g3⟩:=hz k e hk;exact g3
theorem ORow.is{K:Nat}{w:World}{v:Value}{zs:List Int}{L:Nat}(h:ORow K w v zs L):IsRow w v zs L:=by
 obtain⟨bv,rfl,_,h,hl⟩:=h;exact h.full hl
theorem ORow.below{K:Nat}{w w':World}{v:Value}{zs:List Int}{L:Nat}(h:ORow K w v zs L)(hb:Below w.heap.size w w'):ORow K w' v zs L:=by
 obtain⟨bv,e,hK,h,hl⟩:=h;exact⟨bv,e,hK,h.below hb,hl⟩
end Lm
namespace Lm
open Go Go.RowKit
theorem ac5{α β:Type}(f:β->α->β)(a:β){l:List α}{k:Nat}{x:α}(h:l[k]? = some x):(l.take (k+1)).foldl f a=f ((l.take k).foldl f a) x:=by
 rw[List.take_add_one,h,List.foldl_append];rfl
def gcdL(zs:List Int):Int:=zs.foldl (fun c z=>((Int.gcd c z:Nat):Int)) 0
def sgnL(zs:List Int):Int:=zs.foldl (fun s z=>if s=0 then Int.sign z else s) 0
def dvs(zs:List Int):Int:=if sgnL zs<0 then -(gcdL zs)else gcdL zs
def red(zs:List Int):List Int:=zs.map (· / dvs zs)
theorem aet{z:Int}{L:Nat}{v:Value}{w:World}(h:IsW z L v w):(z.natAbs:Int)<pw L:=by
 obtain⟨ng,ao,n,cap,xs,_,hA,hl⟩:=h;obtain⟨_,_,_,_,_,hb,_⟩:=hA.sl;have h1:=aac hb;have h3:=aaw hl;have h4:=hA.worth;rw[<-h4];cases ng
 ·simp only[sg];rw[if_neg (by decide)];omega
 ·simp only[sg];rw[if_pos trivial];omega
theorem asx{a b N:Int}(ha:(a.natAbs:Int)<N)(hb:(b.natAbs:Int)<N):(((Int.gcd a b:Nat):Int).natAbs:Int)<N:=by
 rw[Int.natAbs_natCast];by_cases h:a=0
 ·subst h;rw[Int.gcd_zero_left];exact hb
 ·have:=Nat.gcd_le_left b.natAbs (show 0<a.natAbs by omega);unfold Int.gcd;omega
theorem afa(zs:List Int):0<=gcdL zs:=by
 unfold gcdL;suffices h:∀(a:Int),0<=a->0<=zs.foldl (fun c z=>((Int.gcd c z:Nat):Int)) a from h 0 (Int.le_refl _)
 induction zs with
 |nil=>exact fun a h=>h
 |cons z zs ih=>exact fun a _=>ih _ (Int.natCast_nonneg _)
theorem an0(n:Nat):0<pw n:=by
 have:=aaw (Nat.zero_le n);have h:pw 0=1:=rfl;omega
theorem infoWz:(Tryz.prog.info? 42).map (fun i=>(i.zero,i.size,i.bytes))=some (some (.agg #[.bool false,.slice none 0 0]),2,32):=by kernel_rfl
theorem infoRz:(Tryz.prog.info? 44).map (fun i=>(i.zero,i.size,i.bytes))=some (some (.agg #[.bool false,.slice none 0 0,.slice none 0 0]),3,56):=by kernel_rfl
theorem info_parts{P:Program}{T:TypeId}{z:Value}{size bytes:Nat}(h:(P.info? T).map (fun i=>(i.zero,i.size,i.bytes))=some (some z,size,bytes)):∃i,P.info? T=some i/\i.zero=some z/\i.size=size/\i.bytes=bytes:=by
 obtain⟨i,hi,hz⟩:=Option.map_eq_some_iff.1 h;simp only[Prod.mk.injEq]at hz;exact⟨i,hi,hz.1,hz.2.1,hz.2.2⟩
theorem a0g{z d N:Int}(h:(z.natAbs:Int)<N):((z/d).natAbs:Int)<N:=by
 have:=Int.natAbs_ediv_le_natAbs z d;omega
theorem agl(w:World)(x y:Int)(vx vy:Value)(L M:Nat)(hx:IsW x L vx w)(hy:IsW y M vy w)(hL:L<=400000)(hM:M<=400000):
  Calls Tryz.prog 83 #[vx,vy] w fun e w'=>∃v,e=.returned v/\FrW w.heap.size (x/y) (L+4) v w'/\Below w.heap.size w w':=by
 obtain⟨n1,a1,m1,c1,xs,rfl,_⟩:=id hx;obtain⟨n2,a2,m2,c2,ys,rfl,_⟩:=id hy;have HX:=hide hx;have HY:=hide hy;have hb0:Below w.heap.size w (((w.alloc (.cells #[.bool n1,.slice a1 m1 c1] 42)).alloc (.cells #[.bool n2,.slice a2 m2 c2] 42)).alloc (.cells #[.bool false,.slice none 0 0] 42)):=by(repeat' first|with_reducible(first|exact Below.refl _ _|assumption|refine gdrewN ?_ _|refine Below.alloc ?_ ?_ _|refine Below.drew ?_|refine Below.setCell ?_ ?_ _)|go_size)
 clear hx hy;go_enter Tryz.func83,Tryz.ntmps83
 go_wp2_with fail
 refine(divF _ x y _ _ L M (HX.out.ru (Ru.of_below hb0)) (HY.out.ru (Ru.of_below hb0)) hL hM).mono ?_;rintro e w1 ⟨v1,v2,b,rfl,h1,h2,_,hb1⟩;have HB:=hide (hb0.trans (hb1.mono hb0.size));have hf:w1.heap[w.heap.size+1+1]? = some (.cells #[.bool false,.slice none 0 0] 42 (0,0)):=by
  refine(hb1.block _ (by simp)).trans ?_;have:=heap_alloc_new ((w.alloc (.cells #[.bool n1,.slice a1 m1 c1] 42)).alloc (.cells #[.bool n2,.slice a2 m2 c2] 42)) (.cells #[.bool false,.slice none 0 0] 42);simpa using this
 have H1:=hide (h1.low hb0.size);obtain⟨ng1,ao1,k1,cap1,rfl⟩:=h1.agg;obtain⟨ng2,ao2,cap2,rs2,rfl,_⟩:=h2;have HF:=hide hf;generalize hfz:w.heap.size+1+1=f at *
 obtain⟨hfl,c0,c1',fr0,fr1⟩:=aam hf;clear h1 hb1 hb0 hf;go_wp2;refine bodyPost_ret (v:=.agg #[.bool ng1,.slice ao1 k1 cap1]) (aby (g:=f) rfl rfl (lvw2 (abj (abj (acd HF.out _ _))))) rfl ⟨_,rfl,H1.out.ru ((ade HF.out _ _).trans ((Ru.of_below (hAl _ _)).trans (Ru.of_below (hAl _ _)))),?_⟩;have HBx:=HB.out;have hfw:w.heap.size<=f:=by omega
 (repeat' first|with_reducible(first|exact Below.refl _ _|assumption|refine gdrewN ?_ _|refine Below.alloc ?_ ?_ _|refine Below.drew ?_|refine Below.setCell ?_ ?_ _)|go_size)
theorem aly(w:World)(v:Value)(zs:List Int)(L:Nat)(h:IsRow w v zs L)(hL:L<=100000):
  Calls Tryz.prog 80 #[v] w fun e w'=>∃r,e=.returned r/\OutW (dvs zs) L r w'/\Below w.heap.size w w':=by
 obtain⟨ao,cap,rfl,hn⟩:=h.parts;have H:=hide h;clear h;obtain⟨n,hnn⟩:∃n,zs.length=n:=⟨_,rfl⟩;rw[hnn]at H hn ⊢;have HN:=hide hnn;clear hnn;have hb0:Below w.heap.size w ((w.alloc (.cells #[.bool false,.slice none 0 0] 42)).alloc (.cells #[.bool false,.slice none 0 0] 42)):=by(repeat' first|with_reducible(first|exact Below.refl _ _|assumption|refine gdrewN ?_ _|refine Below.alloc ?_ ?_ _|refine Below.drew ?_|refine Below.setCell ?_ ?_ _)|go_size)
 have hf2:((w.alloc (.cells #[.bool false,.slice none 0 0] 42)).alloc (.cells #[.bool false,.slice none 0 0] 42)).heap[w.heap.size]? = some (.cells #[.bool false,.slice none 0 0] 42 (0,0)):=abj (heap_alloc_new w _);have hf3:((w.alloc (.cells #[.bool false,.slice none 0 0] 42)).alloc (.cells #[.bool false,.slice none 0 0] 42)).heap[w.heap.size+1]? = some (.cells #[.bool false,.slice none 0 0] 42 (0,0)):=by
  have:=heap_alloc_new (w.alloc (.cells #[.bool false,.slice none 0 0] 42)) (.cells #[.bool false,.slice none 0 0] 42);simpa using this
 have HB0:=hide (And.intro hb0 (And.intro hf2 hf3));clear hb0 hf2 hf3;go_enter Tryz.func80,Tryz.ntmps80
 go_wp2;go_loopw [4,9] (fun sv iv wr=>∃(k:Nat),iv=.int .i64 k/\k<=n/\sv=.int .i64 (sgnL (zs.take k))/\Below w.heap.size w wr/\wr.heap[w.heap.size]? = some (.cells #[.bool false,.slice none 0 0] 42 (0,0))/\∃ng a m c,wr.heap[w.heap.size+1]? = some (.cells #[.bool ng,.slice a m c] 42 (0,0))/\OutW (gcdL (zs.take k)) L (.agg #[.bool ng,.slice a m c]) wr) (fun _ iv _=>n-(intOf iv).toNat)
 case atStart=>
  refine⟨0,rfl,Nat.zero_le _,rfl,HB0.out.1,HB0.out.2.1,false,none,0,0,HB0.out.2.2,?_⟩;exact(afz (K:=0) _ (Nat.zero_le _)).out
 case round=>
  obtain⟨k,rfl,hk,rfl,hbw,hf2,ng,a,m,c,hf3,ho⟩:=hrel;have HW:=hide hbw;have HF2:=hide hf2;have HF3:=hide hf3;have HO:=hide ho;by_cases hlt:k<n
  ·obtain⟨z,hz⟩:∃z,zs[k]? = some z:=⟨_,List.getElem?_eq_getElem (by have:=HN.out;omega)⟩;obtain⟨b,off,ngx,ax,mx,cx,rfl,hbl,x0,x1,hx⟩:=H.out.cell hz;replace x0:=(hbw.cell (p:=⟨b,off+k*2,none⟩) hbl).trans x0;replace x1:=(hbw.cell (p:=⟨b,off+k*2+1,none⟩) hbl).trans x1;have HX:=hide (hx.ru (Ru.of_below hbw));have HZ:=hide hz;have hlt':(k:Int)<(n:Int):=by omega
   obtain⟨h3l,y0,y1,yf0,yf1⟩:=aam hf3;have hba:Below wr.heap.size wr (wr.alloc (.cells #[.bool ngx,.slice ax mx cx] 42)):=hAl _ _;have hsz:=hbw.size;clear hbw hf2 hf3 ho hx hz;go_wp2_with fail
   refine(gcdF _ _ z _ _ L L (HO.out.is.ru (Ru.of_below hba)) (HX.out.ru (Ru.of_below hba)) (by omega) (by omega)).mono ?_;rintro e w1 ⟨v1,rfl,h1,hb1⟩;have HG:=hide (h1.out.fit (asx (aet HO.out.is) (aet HX.out)));have hb1':=hba.trans (hb1.mono hba.size);have hx1:w1.heap[wr.heap.size]? = some (.cells #[.bool ngx,.slice ax mx cx] 42 (0,0)):=(hb1.block _ (by simp)).trans (heap_alloc_new wr _);have hg3:=(hb1'.block _ (aaa HF3.out)).trans HF3.out;have hg2:=(hb1'.block _ (aaa HF2.out)).trans HF2.out;have HG3:=hide hg3;have HG2:=hide hg2;have HB1:=hide (HW.out.trans (hb1'.mono HW.out.size));have HX1:=hide (HX.out.ru (Ru.of_below hb1'));obtain⟨ng1,ao1,k1,cap1,rfl⟩:=h1.agg;obtain⟨_,u0,u1,_,_⟩:=aam hx1;obtain⟨g3l,v0,v1,vf0,vf1⟩:=aam hg3;generalize wr.heap.size=fx at *
   clear h1 hb1 hb1' hba hx1 hg3 hg2 x0 x1 y0 y1 yf0 yf1;have HSK:Hid (sgnL (zs.take (k+1))=if sgnL (zs.take k)=0 then Int.sign z else sgnL (zs.take k)):=ac5 _ _ HZ.out;have HGK:Hid (gcdL (zs.take (k+1))=((Int.gcd (gcdL (zs.take k)) z:Nat):Int)):=ac5 _ _ HZ.out;generalize hsk:sgnL (zs.take k)=sk at *
   by_cases hs0:sk=0
   ·have HS0:=hide hs0;subst hs0;clear hsk;have hxf:fx≠w.heap.size+1:=by omega
    go_wp2_with fail
    refine(signF _ z _ L (HX1.out.ru (ade HG3.out _ _)) (by omega)).mono ?_;rintro e w2 ⟨rfl,hb2⟩;have hbs:Below w.heap.size w ((w1.setCell ⟨w.heap.size+1,0,none⟩ (.bool ng1)).setCell ⟨w.heap.size+1,1,none⟩ (.slice ao1 k1 cap1)):=(HB1.out.setCell (Nat.le_succ _) _).setCell (Nat.le_succ _) _;have hs2:((w1.setCell ⟨w.heap.size+1,0,none⟩ (.bool ng1)).setCell ⟨w.heap.size+1,1,none⟩ (.slice ao1 k1 cap1)).heap[w.heap.size]? = some (.cells #[.bool false,.slice none 0 0] 42 (0,0)):=by rw[heap_setCell_other _ ⟨w.heap.size+1,1,none⟩ _ _ (by show w.heap.size≠w.heap.size+1;omega),heap_setCell_other _ ⟨w.heap.size+1,0,none⟩ _ _ (by show w.heap.size≠w.heap.size+1;omega)];exact HG2.out
    have K1:=hide (hbs.trans (hb2.mono hbs.size));have K2:=hide ((hb2.block _ (aaa hs2)).trans hs2);have K3:=hide ((hb2.block _ (aaa (acd HG3.out (.bool ng1) (.slice ao1 k1 cap1)))).trans (acd HG3.out _ _));have K4:=hide ((HG.out.ru (ade HG3.out _ _)).ru (Ru.of_below hb2));clear hb2 hbs hs2;go_wp2;go_roundw
    case rel=>
     refine⟨k+1,by go_num,by omega,by rw[HSK.out,if_pos trivial],K1.out,K2.out,_,_,_,_,K3.out,?_⟩;rw[HGK.out];exact K4.out
    case measure=>simp[intOf];omega
   ·have HS0:=hide hs0;have hs0':(sk==0)=false:=beq_eq_false_iff_ne.2 hs0;clear hsk hs0;go_wp2;go_roundw
    case rel=>
     refine⟨k+1,by go_num,by omega,by rw[HSK.out,if_neg HS0.out],(HB1.out.setCell (Nat.le_succ _) _).setCell (Nat.le_succ _) _,?_,_,_,_,_,acd HG3.out _ _,?_⟩
     ·rw[heap_setCell_other _ ⟨w.heap.size+1,1,none⟩ _ _ (by show w.heap.size≠w.heap.size+1;omega),heap_setCell_other _ ⟨w.heap.size+1,0,none⟩ _ _ (by show w.heap.size≠w.heap.size+1;omega)];exact HG2.out
     ·rw[HGK.out];exact HG.out.ru (ade HG3.out _ _)
    case measure=>simp[intOf];omega
  ·have hlt':decide ((k:Int)<(n:Int))=false:=by simp;omega
   have hkn:zs.take k=zs:=List.take_of_length_le (by have:=HN.out;omega);rw[hkn]at HO ⊢;obtain⟨h3l,y0,y1,yf0,yf1⟩:=aam hf3;obtain⟨h2l,x0,x1,xf0,xf1⟩:=aam hf2;clear hbw hf2 hf3 ho hkn;by_cases hs:sgnL zs<0
   ·have HD:Hid (dvs zs = -(gcdL zs)):=if_pos hs;generalize sgnL zs=sk at *
    go_wp2_with fail
    refine(negF _ _ _ L HO.out.is (by omega)).mono ?_;rintro e w1 ⟨v1,rfl,h1,hb1⟩;have hg2:=(hb1.block _ (aaa HF2.out)).trans HF2.out;have HG2:=hide hg2;obtain⟨h2l',z0,z1,zf0,zf1⟩:=aam hg2;have HB1:=hide (HW.out.trans (hb1.mono HW.out.size));obtain⟨ng1,ao1,k1,cap1,rfl⟩:=h1.agg;have H1:=hide h1.out;clear h1 hb1 hg2 x0 x1 xf0 xf1 y0 y1 yf0 yf1;go_wp2;exact bodyPost_ret (v:=.agg #[.bool ng1,.slice ao1 k1 cap1]) (aby (g:=w.heap.size) rfl rfl (lvw2 (acd HG2.out _ _))) rfl ⟨_,rfl,by rw[HD.out];exact H1.out.ru (ade HG2.out _ _),(HB1.out.setCell (Nat.le_refl _) _).setCell (Nat.le_refl _) _⟩
   ·have HD:Hid (dvs zs=gcdL zs):=if_neg hs;have hs':decide (sgnL zs<0)=false:=decide_eq_false hs;generalize sgnL zs=sk at *
    clear hs;go_wp2;exact bodyPost_ret (v:=.agg #[.bool ng,.slice a m c]) (aby (g:=w.heap.size) rfl rfl (lvw2 (acd HF2.out _ _))) rfl ⟨_,rfl,by rw[HD.out];exact HO.out.ru (ade HF2.out _ _),(HW.out.setCell (Nat.le_refl _) _).setCell (Nat.le_refl _) _⟩
theorem ayj(z:Int):(Int.sign z != 0)=decide (z≠0):=by
 by_cases h:z=0
 ·subst h;rfl
 ·rw[decide_eq_true h,bne_iff_ne];exact fun e=>h (Int.sign_eq_zero_iff_zero.1 e)
theorem aiu(w:World)(z:Int)(L:Nat)(v:Value)(h:IsW z L v w)(hL:L<=400000):
  Calls Tryz.prog 53 #[v] w fun e w'=>e=.returned (.bool (decide (z≠0)))/\Below w.heap.size w w':=by
 obtain⟨ng,ao,n,cap,xs,rfl,_⟩:=id h;have hb:=hAl w (.cells #[.bool ng,.slice ao n cap] 42);have hS:=ayj z;have K:=hide (signF _ z _ L (h.ru (Ru.of_below hb)) hL);clear h;go_enter Tryz.func53,Tryz.ntmps53
 go_wp2_with fail
 refine K.out.mono ?_;rintro e w1 ⟨rfl,hb1⟩;have HB:=hide (hb.trans (hb1.mono hb.size));clear hb hb1 K;generalize Int.sign z=sz at *
 go_wp2;refine bodyPost_ret (v:=_) (by simp[results,Tryz.results53,go_sem];try rfl) rfl ⟨by simp,HB.out⟩
theorem asy:Has Tryz.prog 53:=by unfold Has;kernel_rfl
def Turn(w:World)(f:FuncId)(cap:Array Value)(zs:List Int)(L M:Nat)(g:Nat->Int):Prop:=∀(W:World) (c:Nat) (z:Int) (xv:Value),Below w.heap.size w W->zs[c]? = some z->IsW z L xv W->Calls Tryz.prog f (#[.int .i64 (c:Int),xv]++cap) W fun e W'=>∃v,e=.returned v/\FrW W.heap.size (g c) M v W'/\Below W.heap.size W W'
theorem Turn.below{w w1:World}{f:FuncId}{cap:Array Value}{zs:List Int}{L M:Nat}{g:Nat->Int}(h:Turn w f cap zs L M g)(hb:Below w.heap.size w w1):Turn w1 f cap zs L M g:=fun W c z xv h1 h2 h3=>h W c z xv (hb.trans (h1.mono hb.size)) h2 h3
def gRow(g:Nat->Int)(n:Nat):List Int:=(List.range n).map g
theorem aa4(g:Nat->Int)(n:Nat):(gRow g n).length=n:=by simp[gRow]
theorem abk{g:Nat->Int}{n k:Nat}(h:k<n):(gRow g n)[k]? = some (g k):=by simp[gRow,h]
theorem adx(w:World)(v:Value)(zs:List Int)(L M:Nat)(h:IsRow w v zs L)(hl:zs.length<=1000000)(f:FuncId)(hf:Has Tryz.prog f)(cap:Array Value)(g:Nat->Int)(hT:Turn w f cap zs L M g):
  Calls Tryz.prog 81 #[v,.func (.func f) #[] cap] w fun e w'=>∃r,e=.returned r/\ORow w.heap.size w' r (gRow g zs.length) M/\Below w.heap.size w w':=by
 obtain⟨ao,cp,rfl,_⟩:=h.parts;have H:=hide h;have HTN:=hide hT;clear h hT;obtain⟨n,hnn⟩:∃n,zs.length=n:=⟨_,rfl⟩;rw[hnn]at H hl ⊢;have HN:=hide hnn;clear hnn;obtain⟨iW,hi,hz0,hz1,hz2⟩:=info_parts infoWz;go_enter Tryz.func81,Tryz.ntmps81
 go_wp2_with (refine wpList_make_full _ rfl (.tmp 9) (.tmp 9) 23 rfl w.heap.size 42 iW (.agg #[.bool false,.slice none 0 0]) 2 Tryz.underlying23 hi hz0 hz1 .i64 .i64 _ _ n rfl rfl (by omega) (by omega) (by rw[hz2];omega) (by unfold maxLen;omega) (Nat.le_refl _) ?hK)
 case hK=>
  intro w2 hown hgrow;have hb2:Below w.heap.size w w2:=(Below.refl _ _).grown hgrow (Nat.le_refl _) (by simp);obtain⟨_,hmb⟩:=ac4 hown;rw[af1]at hmb;have HP0:=hide (PRow.start (K:=w.heap.size) (zs:=gRow g n) (L:=M) hmb);have HB:=hide hb2;clear hown hgrow hmb hb2;go_wp2;go_loopw [6,7,13] (fun _ _ iv wr=>∃(k:Nat),iv=.int .i64 k/\k<=n/\Below w.heap.size w wr/\PRow w.heap.size wr w.heap.size n k (gRow g n) M) (fun _ _ iv _=>n-(intOf iv).toNat)
  case atStart=>exact⟨0,rfl,Nat.zero_le _,HB.out,HP0.out⟩
  case round=>
   obtain⟨k,rfl,hk,hbw,hp⟩:=hrel;have HW:=hide hbw;have HP:=hide hp;by_cases hlt:k<n
   ·obtain⟨z,hz⟩:∃z,zs[k]? = some z:=⟨_,List.getElem?_eq_getElem (by have:=HN.out;omega)⟩;obtain⟨b,off,ngx,ax,mx,cx,rfl,hbl,x0,x1,hx⟩:=H.out.cell hz;replace x0:=(hbw.cell (p:=⟨b,off+k*2,none⟩) hbl).trans x0;replace x1:=(hbw.cell (p:=⟨b,off+k*2+1,none⟩) hbl).trans x1;have hlt':(k:Int)<(n:Int):=by omega
    have hba:Below wr.heap.size wr (wr.alloc (.cells #[.bool ngx,.slice ax mx cx] 42)):=hAl _ _;have KC:=hide (HTN.out _ k z (.agg #[.bool ngx,.slice ax mx cx]) (hbw.trans (hba.mono hbw.size)) hz ((hx.ru (Ru.of_below hbw)).ru (Ru.of_below hba)));clear hbw hp hx hz;have hE:∀args w,(callFunc f args).run Tryz.prog w=.ok (.enter f args) w:=fun args w=>hf.enter args w
    go_wp2_with fail
    refine KC.out.mono ?_;rintro e w3 ⟨v1,rfl,h1,hb3⟩;have hb3':=hba.trans (hb3.mono hba.size);obtain⟨ng1,ao1,k1,cap1,rfl⟩:=h1.agg;have HF:=hide (h1.low hba.size);obtain⟨⟨ngp,ap,mp,cp',p0,p1⟩,pf0,pf1⟩:=(HP.out.below hb3').cells hlt;have hpl:=(HP.out.below hb3').lt;have HB3:=hide hb3';clear h1 hb3 hb3' hba x0 x1 KC hE;go_wp2;obtain⟨q1,q2⟩:=HP.out.put (Nat.le_refl _) HB3.out hlt (abk hlt) HW.out.size HF.out;go_roundw
    case rel=>exact⟨k+1,by go_num,by omega,HW.out.trans (q2.below HW.out.size (Nat.le_refl _) (Nat.le_refl _)),q1⟩
    case measure=>simp[intOf];omega
   ·have hlt':decide ((k:Int)<(n:Int))=false:=by simp;omega
    have hkn:k=n:=by omega
    subst hkn;clear hbw hp;go_wp2;refine bodyPost_ret (v:=_) (by simp[results,Tryz.results81,go_sem];try rfl) rfl ⟨_,rfl,⟨_,by rw[aa4],Nat.le_refl _,by rw[aa4];exact HP.out,by rw[aa4];exact hl⟩,HW.out⟩
def Nums(w:World)(v:Value)(zs:List Int):Prop:=Ce w v 1 zs.length (zs.map (Value.int .i64))
theorem Nums.cell{w:World}{ao:Option Addr}{n cap:Nat}{zs:List Int}{i:Nat}(h:Nums w (.slice ao n cap) zs)(hi:i<zs.length):∃b off,ao=some ⟨b,off,none⟩/\w.cell? ⟨b,off+i,none⟩=some (.int .i64 zs[i]):=by
 obtain⟨ao',cap',hv,c1,c2,c3,c4⟩:=h;obtain⟨rfl,rfl,rfl⟩:=(Value.slice.injEq .. ▸ hv);rcases c4 with c4|⟨b,off,rfl,hl,hc⟩
 ·omega
 ·exact⟨b,off,rfl,hc _ _ (by simp[hi])⟩
theorem Nums.parts{w:World}{ao:Option Addr}{n cap:Nat}{zs:List Int}(h:Nums w (.slice ao n cap) zs):n=zs.length/\n<=9223372036854775807:=by
 obtain⟨ao',cap',hv,c1,c2,c3,c4⟩:=h;obtain⟨rfl,rfl,rfl⟩:=(Value.slice.injEq .. ▸ hv);exact⟨rfl,by omega⟩
theorem asz(w:World)(ao:Option Addr)(n cap:Nat)(zs:List Int)(z:Int)(h:Nums w (.slice ao n cap) zs):
  Calls Tryz.prog 121 #[.slice ao n cap,.int .i64 z] w fun e w'=>(∃r:Int,e=.returned (.int .i64 r)/\decide (0<=r)=decide (z∈zs))/\w'=w:=by
 obtain⟨hn,hb⟩:=h.parts;have H:=hide h;clear h;go_enter Tryz.func121,Tryz.ntmps121
 go_wp2;go_loopw [5,8] (fun _ iv wr=>∃(i:Nat),iv=.int .i64 i/\i<=n/\z∉zs.take i/\wr=w) (fun _ iv _=>n-(intOf iv).toNat)
 case atStart=>exact⟨0,rfl,Nat.zero_le _,by simp,rfl⟩
 case round=>
  obtain⟨i,rfl,hi,hz,rfl⟩:=hrel;have HZ:=hide hz;clear hz;by_cases hlt:i<n
  ·obtain⟨b,off,rfl,hc⟩:=H.out.cell (i:=i) (by omega);have hlt':(i:Int)<(n:Int):=by omega
   have hget:zs[i]? = some (zs[i]'(by omega)):=List.getElem?_eq_getElem _;generalize zs[i]'(by omega)=y at hc hget;have HG:=hide hget;clear hget;by_cases he:z=y
   ·subst he;go_wp2;go_ret;exact⟨⟨i,rfl,by simp[List.mem_of_getElem? HG.out]⟩,rfl⟩
   ·have hne:(z==y)=false:=beq_eq_false_iff_ne.2 he;go_wp2;go_roundw
    case rel=>exact⟨i+1,by go_num,by omega,by rw[List.take_add_one,HG.out];simp[HZ.out,he],trivial⟩
    case measure=>simp[intOf];omega
  ·have hlt':decide ((i:Int)<(n:Int))=false:=by simp;omega
   go_wp2;go_ret;exact⟨⟨-1,rfl,by have:=HZ.out;rw[List.take_of_length_le (by omega)]at this;simp[this]⟩,rfl⟩
theorem alz(w:World)(ao:Option Addr)(n cap:Nat)(zs:List Int)(z:Int)(h:Nums w (.slice ao n cap) zs):
  Calls Tryz.prog 89 #[.slice ao n cap,.int .i64 z] w fun e w'=>e=.returned (.bool (decide (z∈zs)))/\w'=w:=by
 have H:=hide h;clear h;go_enter Tryz.func89,Tryz.ntmps89
 go_wp2_with fail
 refine(asz _ _ _ _ zs _ H.out).mono ?_;rintro e w' ⟨⟨r,rfl,hr⟩,rfl⟩;go_wp2;go_ret;exact⟨rfl,rfl⟩
def IsM(w:World)(v:Value)(rows:List (List Int))(L:Nat):Prop:=∃vs:List Value,Ce w v 1 rows.length vs/\∀(i:Nat) (u:Value) (z:List Int),vs[i]? = some u->rows[i]? = some z->IsRow w u z L
def IsP(w:World)(v:Value)(P:List Nat):Prop:=Ce w v 1 P.length (P.map (fun p:Nat=>Value.int .i64 (p:Int)))
theorem IsM.below{w w':World}{v:Value}{rows:List (List Int)}{L:Nat}(h:IsM w v rows L)(hb:Below w.heap.size w w'):IsM w' v rows L:=by
 obtain⟨vs,h1,h2⟩:=h;exact⟨vs,h1.below hb,fun i u z hu hz=>(h2 i u z hu hz).below hb⟩
theorem IsP.below{w w':World}{v:Value}{P:List Nat}(h:IsP w v P)(hb:Below w.heap.size w w'):IsP w' v P:=Ce.below h hb
theorem IsM.parts{w:World}{v:Value}{rows:List (List Int)}{L:Nat}(h:IsM w v rows L):∃ao cap,v=.slice ao rows.length cap/\rows.length<=9223372036854775807:=by
 obtain⟨vs,⟨ao,cap,rfl,h1,h2,_⟩,_⟩:=h;exact⟨ao,cap,rfl,by omega⟩
theorem IsP.parts{w:World}{v:Value}{P:List Nat}(h:IsP w v P):∃ao cap,v=.slice ao P.length cap/\P.length<=9223372036854775807:=by
 obtain⟨ao,cap,rfl,h1,h2,_⟩:=h;exact⟨ao,cap,rfl,by omega⟩
theorem IsM.cell{w:World}{ao:Option Addr}{n cap:Nat}{rows:List (List Int)}{L i:Nat}{z:List Int}(h:IsM w (.slice ao n cap) rows L)(hz:rows[i]? = some z):∃b off u,ao=some ⟨b,off,none⟩/\b<w.heap.size/\w.cell? ⟨b,off+i,none⟩=some u/\IsRow w u z L:=by
 obtain⟨vs,⟨ao',cap',hv,h1,h2,h3,h4⟩,h5⟩:=h;obtain⟨rfl,rfl,rfl⟩:=(Value.slice.injEq .. ▸ hv);have hi:i<rows.length:=(List.getElem?_eq_some_iff.1 hz).1;obtain⟨u,hu⟩:∃u,vs[i]? = some u:=⟨_,List.getElem?_eq_getElem (by omega)⟩;rcases h4 with h4|⟨b,off,rfl,hl,hc⟩
 ·omega
 ·exact⟨b,off,u,rfl,hl,hc i u hu,h5 i u z hu hz⟩
theorem IsP.cell{w:World}{ao:Option Addr}{n cap:Nat}{P:List Nat}{i p:Nat}(h:IsP w (.slice ao n cap) P)(hp:P[i]? = some p):∃b off,ao=some ⟨b,off,none⟩/\b<w.heap.size/\w.cell? ⟨b,off+i,none⟩=some (.int .i64 (p:Int)):=by
 obtain⟨ao',cap',hv,h1,h2,h3,h4⟩:=h;obtain⟨rfl,rfl,rfl⟩:=(Value.slice.injEq .. ▸ hv);have hi:i<P.length:=(List.getElem?_eq_some_iff.1 hp).1;rcases h4 with h4|⟨b,off,rfl,hl,hc⟩
 ·omega
 ·exact⟨b,off,rfl,hl,hc i _ (by rw[List.getElem?_map,hp];rfl)⟩
theorem IsP.nums{w:World}{v:Value}{P:List Nat}(h:IsP w v P):Nums w v (P.map (fun p:Nat=>(p:Int))):=by
 unfold Nums;rw[List.length_map,List.map_map];exact h
def Bas(w:World)(q:Nat)(P:List Nat)(rows:List (List Int))(lead:Int)(L:Nat):Prop:=∃rv pv ng la lm lc,w.heap[q]? = some (.cells #[rv,pv,.bool ng,.slice la lm lc] 63 (0,0))/\IsM w rv rows L/\IsP w pv P/\IsW lead L (.agg #[.bool ng,.slice la lm lc]) w
theorem Bas.below{w w':World}{q:Nat}{P:List Nat}{rows:List (List Int)}{lead:Int}{L:Nat}(h:Bas w q P rows lead L)(hb:Below w.heap.size w w'):Bas w' q P rows lead L:=by
 obtain⟨rv,pv,ng,la,lm,lc,h1,h2,h3,h4⟩:=h;exact⟨rv,pv,ng,la,lm,lc,(hb.block _ (aaa h1)).trans h1,h2.below hb,h3.below hb,h4.ru (Ru.of_below hb)⟩
section
variable {dst:Option Tmp} {ty:TypeId} {pos:String} {after:Array Edge} {guard:Option (Nat×Bool)} {a:Act} {w:World} {ats:Array TypeId} {i j k g:Nat} {x y:Int} {L M K:Nat}
theorem ac6{p:Addr}{o:Option Addr}(hp:a.eval (.tmp k)=.pointer (some p))(hc:w.cell? p=some (.pointer o)):
  Does Tryz.prog {dst,op:=.load 131 (.tmp k),type:=ty,pos,after,guard} a.eval w fun v' w'=>Below w.heap.size w w'/\Eqs (.pointer o) v' w':=by
 refine aav (v:=.pointer o) ?_ ⟨Below.refl _ _,rfl⟩;rw[hp];go_simp
theorem ajl{p:Addr}{ao:Option Addr}{n c:Nat}(hp:a.eval (.tmp k)=.pointer (some p))(hc:w.cell? p=some (.slice ao n c)):
  Does Tryz.prog {dst,op:=.load 22 (.tmp k),type:=ty,pos,after,guard} a.eval w fun v' w'=>Below w.heap.size w w'/\Eqs (.slice ao n c) v' w':=by
 refine aav (v:=.slice ao n c) ?_ ⟨Below.refl _ _,rfl⟩;rw[hp];go_simp
theorem acf{p:Addr}{ao:Option Addr}{n c:Nat}(hp:a.eval (.tmp k)=.pointer (some p))(hc:w.cell? p=some (.slice ao n c)):
  Does Tryz.prog {dst,op:=.load 23 (.tmp k),type:=ty,pos,after,guard} a.eval w fun v' w'=>Below w.heap.size w w'/\Eqs (.slice ao n c) v' w':=by
 refine aav (v:=.slice ao n c) ?_ ⟨Below.refl _ _,rfl⟩;rw[hp];go_simp
theorem ayk{p:Addr}{ao:Option Addr}{n c:Nat}(hp:a.eval (.tmp k)=.pointer (some p))(hc:w.cell? p=some (.slice ao n c)):
  Does Tryz.prog {dst,op:=.load 61 (.tmp k),type:=ty,pos,after,guard} a.eval w fun v' w'=>Below w.heap.size w w'/\Eqs (.slice ao n c) v' w':=by
 refine aav (v:=.slice ao n c) ?_ ⟨Below.refl _ _,rfl⟩;rw[hp];go_simp
theorem aei{p:Addr}(hp:a.eval (.tmp k)=.pointer (some p)):
  Does Tryz.prog {dst,op:=.nilCheck (.tmp k),type:=ty,pos,after,guard} a.eval w fun v' w'=>Below w.heap.size w w'/\Eqs (.pointer (some p)) v' w':=by
 have e:(execOp a.eval {dst,op:=.nilCheck (.tmp k),type:=ty,pos,after,guard}).run Tryz.prog w=.ok (.value (.pointer (some p))) w:=by
  simp only[execOp,hp];go_simp
 refine⟨?_⟩;unfold Turns;rw[e];exact⟨Below.refl _ _,rfl⟩
theorem afg{f off:Nat}(hf:∀w:World,(Instr.fieldAt 63 (.pointer (some ⟨g,0,none⟩)) f).run Tryz.prog w=.ok (.pointer (some ⟨g,off,none⟩)) w)(hp:a.eval (.tmp k)=.pointer (some ⟨g,0,none⟩)):
  Does Tryz.prog {dst,op:=.fieldAddr 63 (.tmp k) f,type:=ty,pos,after,guard} a.eval w fun v' w'=>Below w.heap.size w w'/\Eqs (.pointer (some ⟨g,off,none⟩)) v' w':=by
 refine⟨?_⟩;unfold Turns;simp only[execOp,hp];simp[hf];exact⟨Below.refl _ _,rfl⟩
theorem fab0(w:World):(Instr.fieldAt 63 (.pointer (some ⟨g,0,none⟩)) 0).run Tryz.prog w=.ok (.pointer (some ⟨g,0,none⟩)) w:=by go_simp
theorem fab1(w:World):(Instr.fieldAt 63 (.pointer (some ⟨g,0,none⟩)) 1).run Tryz.prog w=.ok (.pointer (some ⟨g,1,none⟩)) w:=by go_simp
theorem fab2(w:World):(Instr.fieldAt 63 (.pointer (some ⟨g,0,none⟩)) 2).run Tryz.prog w=.ok (.pointer (some ⟨g,2,none⟩)) w:=by go_simp
theorem afh{b off n c m:Nat}{ao:Option Addr}(h:a.eval (.tmp i)=.slice ao n c)(hao:ao=some ⟨b,off,none⟩)(hk:a.eval (.tmp j)=.int .i64 (m:Int))(hl:m<n):Does Tryz.prog {dst,op:=.indexAddr 22 (.tmp i) (.tmp j),type:=ty,pos,after,guard} a.eval w fun v' w'=>Below w.heap.size w w'/\Eqs (.pointer (some ⟨b,off+m,none⟩)) v' w':=by
 subst hao;have hl':(m:Int)<(n:Int):=by omega
 have e:(execOp a.eval {dst,op:=.indexAddr 22 (.tmp i) (.tmp j),type:=ty,pos,after,guard}).run Tryz.prog w=.ok (.value (.pointer (some ⟨b,off+m,none⟩))) w:=by
  simp only[execOp,h,hk];go_simp
 refine⟨?_⟩;unfold Turns;rw[e];exact⟨Below.refl _ _,rfl⟩
theorem agz(h1:IsW x L (a.eval (.tmp i)) w)(h2:IsW y M (a.eval (.tmp j)) w)(hL:L<=400000)(hM:M<=400000)(hK:K<=w.heap.size):
  Does Tryz.prog {dst,op:=.call {callee:=.value (.func 90),args:=#[.tmp i,.tmp j],argTypes:=ats},type:=ty,pos,after,guard} a.eval w fun v w'=>Below w.heap.size w w'/\FrW K (x*y) (L+M) v w':=
 aaq axl #[_,_] (by simp) ((mulF _ x y _ _ L M h1 h2 hL hM).mono fun e w' ⟨v,h,hf,hb⟩=>⟨v,h,hb,hf.low hK⟩)
theorem an1(h1:IsW x L (a.eval (.tmp i)) w)(h2:IsW y M (a.eval (.tmp j)) w)(hL:L<=400000)(hM:M<=400000)(hK:K<=w.heap.size):
  Does Tryz.prog {dst,op:=.call {callee:=.value (.func 91),args:=#[.tmp i,.tmp j],argTypes:=ats},type:=ty,pos,after,guard} a.eval w fun v w'=>Below w.heap.size w w'/\FrW K (x-y) (L+M+1) v w':=
 aaq axk #[_,_] (by simp) ((subF _ x y _ _ L M h1 h2 hL hM).mono fun e w' ⟨v,h,hf,hb⟩=>⟨v,h,hb,hf.low hK⟩)
end
end Lm
end Go.Proofs.YtnamacnblomgcaaGreat
