/-
  What the text behind the last one leans on, part 2.
-/
import Derived.Deep.QuietTactic
import Derived.BigQuiet
import Derived.Deep.RegionWith
import Derived.Deep.DeepCutAuto
import Derived.Laws.AppendOwn
import Derived.Deep.LoopGhost
import Derived.Test.YtooefpkhacecnaaGreatDoorXDLawZ1
set_option maxRecDepth 20000
set_option maxHeartbeats 40000000
namespace Go.Proofs.YtooefpkhacecnaaGreatDoor
namespace Lm
open Go Go.RowKit
section
end
theorem ap7{n g:Nat}{w W:World}(ng:Bool)(a:Option Addr)(k b:Nat)(c:Option Addr)(m d:Nat)(hg:n<=g)(h:W.heap[g]? = some (.cells #[.bool false,.slice none 0 0,.slice none 0 0] 62 (0,0)))(hb:Below n w W):
  Below n w (((W.setCell ⟨g,0,none⟩ (.bool ng)).setCell ⟨g,1,none⟩ (.slice a k b)).setCell ⟨g,2,none⟩ (.slice c m d))/\(loadVar 62 ⟨g,0,none⟩).run Tryz.prog (((W.setCell ⟨g,0,none⟩ (.bool ng)).setCell ⟨g,1,none⟩ (.slice a k b)).setCell ⟨g,2,none⟩ (.slice c m d))=.ok (.agg #[.bool ng,.slice a k b,.slice c m d]) (((W.setCell ⟨g,0,none⟩ (.bool ng)).setCell ⟨g,1,none⟩ (.slice a k b)).setCell ⟨g,2,none⟩ (.slice c m d)):=
 ⟨((hb.setCell hg _).setCell hg _).setCell hg _,lvr3 (aet h _ _ _)⟩
theorem aev{n g:Nat}{w W:World}{p q:Int}{L:Nat}{ng:Bool}{a c:Option Addr}{k b m d:Nat}(hg:n<=g)(h:W.heap[g]? = some (.cells #[.bool false,.slice none 0 0,.slice none 0 0] 62 (0,0)))(hb:Below n w W)(ho:OutR p q L (.agg #[.bool ng,.slice a k b,.slice c m d]) W):
  OutR p q L (.agg #[.bool ng,.slice a k b,.slice c m d]) (((W.setCell ⟨g,0,none⟩ (.bool ng)).setCell ⟨g,1,none⟩ (.slice a k b)).setCell ⟨g,2,none⟩ (.slice c m d))/\Below n w (((W.setCell ⟨g,0,none⟩ (.bool ng)).setCell ⟨g,1,none⟩ (.slice a k b)).setCell ⟨g,2,none⟩ (.slice c m d))/\(loadVar 62 ⟨g,0,none⟩).run Tryz.prog (((W.setCell ⟨g,0,none⟩ (.bool ng)).setCell ⟨g,1,none⟩ (.slice a k b)).setCell ⟨g,2,none⟩ (.slice c m d))=.ok (.agg #[.bool ng,.slice a k b,.slice c m d]) (((W.setCell ⟨g,0,none⟩ (.bool ng)).setCell ⟨g,1,none⟩ (.slice a k b)).setCell ⟨g,2,none⟩ (.slice c m d)):=
 ⟨OutR.mono5 _ _ _ _ _ _ (aeg h _ _ _) ho,ap7 _ _ _ _ _ _ _ hg h hb⟩
theorem boxz(w:World)(o:Obj):∃w0:World,(w.alloc o).alloc (.cells #[.bool false,.slice none 0 0,.slice none 0 0] 62)=w0/\w0.heap[w.heap.size]? = some o/\w0.heap[w.heap.size+1]? = some (.cells #[.bool false,.slice none 0 0,.slice none 0 0] 62 (0,0))/\Below w.heap.size w w0:=by
 have h1:=heap_alloc_new w o;have h2:=heap_alloc_new (w.alloc o) (.cells #[.bool false,.slice none 0 0,.slice none 0 0] 62);rw[show(w.alloc o).heap.size=w.heap.size+1 by simp]at h2;exact⟨_,rfl,aaq h1,h2,(hAl _ _).trans ((hAl _ _).mono (hAl _ _).size)⟩
theorem boxzz(w:World)(o o':Obj):∃w0:World,((w.alloc o).alloc o').alloc (.cells #[.bool false,.slice none 0 0,.slice none 0 0] 62)=w0/\w0.heap[w.heap.size]? = some o/\w0.heap[w.heap.size+1]? = some o'/\w0.heap[w.heap.size+2]? = some (.cells #[.bool false,.slice none 0 0,.slice none 0 0] 62 (0,0))/\Below w.heap.size w w0:=by
 have h1:=heap_alloc_new w o;obtain⟨w0,rfl,h2,h3,hb⟩:=boxz (w.alloc o) o';have e:(w.alloc o).heap.size=w.heap.size+1:=by simp
 rw[e]at h2 h3;exact⟨_,rfl,(hb.block _ (aaa h1)).trans h1,h2,h3,(hAl _ _).trans (hb.mono (hAl _ _).size)⟩
theorem anv{P:Program}{dst:Option Tmp}{ty:TypeId}{pos:String}{after:Array Edge}{guard:Option (Nat×Bool)}{a:Act}{w:World}{R:Value->World->Prop}{t:TypeId}{v:Value}{w':World}(hb:(Instr.alloc t true (.tuple #[])).run P w=.ok v w')(h:R v w'):Does P {dst,op:=.alloc t,type:=ty,pos,after,guard} a.eval w R:=by
 refine⟨?_⟩;unfold Turns;simp only[execOp];simp[hb,h]
def NewW(n:Nat):Says:=fun v w=>∃g,n<=g/\v=.pointer (some ⟨g,0,none⟩)/\w.heap[g]? = some (.cells #[.bool false,.slice none 0 0] 60 (0,0))
theorem NewW.mono(n:Nat):Mono (NewW n):=fun _ _ _ hb ⟨g,h1,h2,h3⟩=>⟨g,h1,h2,(hb.block _ (aaa h3)).trans h3⟩
theorem auq{dst:Option Tmp}{ty:TypeId}{pos:String}{after:Array Edge}{guard:Option (Nat×Bool)}{a:Act}{w:World}{n:Nat}(hn:n<=w.heap.size):
  Does Tryz.prog {dst,op:=.alloc 60,type:=ty,pos,after,guard} a.eval w fun v w'=>Below w.heap.size w w'/\NewW n v w':=by
 obtain⟨cs,⟨ng,ao,k,c,e,rfl⟩,hr⟩:=W2ok.alloc w;cases e
 exact anv hr ⟨hAl _ _,_,hn,rfl,heap_alloc_new _ _⟩
set_option maxRecDepth 100000 in
theorem av5(w:World)(Bx:Nat)(nx:Bool)(ax:Option Addr)(mx cx:Nat)(xs:List Int)(zx:Int)(Ax:Ag w nx ax mx cx xs zx)(Lx:xs.length<=Bx)(hL:Bx<=100000):
  Calls Tryz.prog 31 #[.agg #[.bool nx,.slice ax mx cx]] w fun e w'=>∃v,e=.returned v/\(OutR zx 1 (Bx+2)) v w'/\Below w.heap.size w w':=by
 obtain⟨w0,e0,hx,hz,hb⟩:=boxz w (.cells #[.bool nx,.slice ax mx cx] 60);obtain⟨_,x0,x1,_,_⟩:=aah hx;have E0:=hide e0;have K1:=hide (avr w0 nx ax mx cx xs zx ⟨Ax.sl.below hb,Ax.worth⟩ (by omega));have HZ:=hide hz;have HB:=hide hb;clear e0 hx hz hb;go_enter Tryz.func31,Tryz.ntmps31
 go_upto_region 1 with fail
 rw[E0.out];go_wp2_with fail
 refine K1.out.mono ?_;rintro e w1 ⟨n1,a1,c1,r1,rfl,G1,l1,hb1⟩;have K2:=hide (ace w1 1 (by omega) (by omega));have HB1:=hide (HB.out.trans (hb1.mono HB.out.size));have HZ1:=hide ((hb1.block _ (aaa HZ.out)).trans HZ.out);have HG:=hide (And.intro G1 l1);clear G1 l1 hb1 K1 HB HZ;go_wp2_with fail
 refine K2.out.mono ?_;rintro e w9 ⟨v,rfl,I,hb9⟩;obtain⟨a2,c2,r2,rfl,G2,l2⟩:=aee I (by omega);have HB9:=hide (HB1.out.trans (hb9.mono HB1.out.size));have hz:=(hb9.block _ (aaa HZ1.out)).trans HZ1.out;obtain⟨_,t0,t1,t2,u0,u1,u2⟩:=aac hz;have HE:=hide (aev (p:=zx) (q:=1) (L:=Bx+2) (Nat.le_succ _) hz HB9.out ⟨_,_,_,_,_,_,_,rfl,Wh.below HG.out.1 hb9,G2,by have:=HG.out.2;omega,by omega⟩);clear hz K2 hb9 I G2 l2;go_wp2;exact bodyPost_ret (v:=_) (acj (g:=w.heap.size+1) rfl rfl HE.out.2.2) rfl ⟨_,rfl,HE.out.1,HE.out.2.1⟩
set_option maxRecDepth 100000 in
theorem aur(w:World)(Br:Nat)(nr:Bool)(ar:Option Addr)(mr cr:Nat)(rs:List Int)(pr:Int)(Ar:Ag w nr ar mr cr rs pr)(Lr:rs.length<=Br)(br:Option Addr)(kr dr:Nat)(rt:List Int)(qr:Int)(Sr:Sl w (.slice br kr dr) rt)(Vr:val rt=qr)(Mr:rt.length<=Br)(hL:2*(Br+2)<=100000):
  Calls Tryz.prog 93 #[.agg #[.bool nr,.slice ar mr cr,.slice br kr dr]] w fun e w'=>∃v,e=.returned v/\(OutR (nm (tp pr qr) (tq qr)) (dn (tp pr qr) (tq qr)) (2*(Br+2))) v w'/\Below w.heap.size w w':=by
 obtain⟨w0,e0,hx,hz,hb⟩:=boxz w (.cells #[.bool nr,.slice ar mr cr,.slice br kr dr] 62);obtain⟨_,x0,x1,x2,_,_,_⟩:=aac hx;have E0:=hide e0;have K1:=hide (aga w0 Br (by omega) nr ar mr cr rs pr ⟨Ar.sl.below hb,Ar.worth⟩ Lr br kr dr rt qr (Sr.below hb) Vr Mr);have HZ:=hide hz;have HB:=hide hb;clear e0 hx hz hb;go_enter Tryz.func93,Tryz.ntmps93
 go_upto_region 1 with fail
 rw[E0.out];go_wp2_with fail
 refine K1.out.mono ?_;rintro e w1 ⟨v1,v2,rfl,h1,h2,hb1⟩;have K2:=hide (ag8 w1 v1 v2 _ _ _ h1 h2 (aco _) (by omega));have HB1:=hide (HB.out.trans (hb1.mono HB.out.size));have HZ1:=hide ((hb1.block _ (aaa HZ.out)).trans HZ.out);clear h1 h2 hb1 K1 HB HZ;go_wp2_with fail
 refine K2.out.mono ?_;rintro e w9 ⟨v,rfl,ho,hb9⟩;have HB9:=hide (HB1.out.trans (hb9.mono HB1.out.size));have hz:=(hb9.block _ (aaa HZ1.out)).trans HZ1.out;have HO:=hide ho;obtain⟨ng,a,b,rx,c,d,ry,rfl,_⟩:=ho;obtain⟨_,t0,t1,t2,u0,u1,u2⟩:=aac hz;have HE:=hide (aev (Nat.le_succ _) hz HB9.out HO.out);clear hz K2 hb9 HO;go_wp2;exact bodyPost_ret (v:=_) (acj (g:=w.heap.size+1) rfl rfl HE.out.2.2) rfl ⟨_,rfl,HE.out.1.to rfl rfl (by omega),HE.out.2.1⟩
set_option maxRecDepth 100000 in
theorem av6(w:World)(Br:Nat)(nr:Bool)(ar:Option Addr)(mr cr:Nat)(rs:List Int)(pr:Int)(Ar:Ag w nr ar mr cr rs pr)(Lr:rs.length<=Br)(br:Option Addr)(kr dr:Nat)(rt:List Int)(qr:Int)(Sr:Sl w (.slice br kr dr) rt)(Vr:val rt=qr)(Mr:rt.length<=Br)(hL:2*(Br+2)<=100000):
  Calls Tryz.prog 138 #[.agg #[.bool nr,.slice ar mr cr,.slice br kr dr]] w fun e w'=>∃v,e=.returned v/\(OutR (nm (-(tp pr qr)) (tq qr)) (dn (-(tp pr qr)) (tq qr)) (2*(Br+2))) v w'/\Below w.heap.size w w':=by
 obtain⟨w0,e0,hx,hz,hb⟩:=boxz w (.cells #[.bool nr,.slice ar mr cr,.slice br kr dr] 62);obtain⟨_,x0,x1,x2,_,_,_⟩:=aac hx;have E0:=hide e0;have K1:=hide (aga w0 Br (by omega) nr ar mr cr rs pr ⟨Ar.sl.below hb,Ar.worth⟩ Lr br kr dr rt qr (Sr.below hb) Vr Mr);have HZ:=hide hz;have HB:=hide hb;clear e0 hx hz hb;go_enter Tryz.func138,Tryz.ntmps138
 go_upto_region 1 with fail
 rw[E0.out];go_wp2_with fail
 refine K1.out.mono ?_;rintro e w1 ⟨v1,v2,rfl,⟨n1,a1,m1,c1,xs1,rfl,A1,l1⟩,⟨n2,a2,m2,c2,xs2,rfl,A2,l2⟩,hb1⟩;have HB1:=hide (HB.out.trans (hb1.mono HB.out.size));have HZ1:=hide ((hb1.block _ (aaa HZ.out)).trans HZ.out);have H1:=hide (And.intro A1 l1);have H2:=hide (And.intro A2 l2);clear A1 l1 A2 l2 hb1 K1 HB HZ;go_upto_region 2 with fail
 obtain⟨w3,e3,bx,by',hb3,hs3⟩:=ad3 w1 n1 (.slice a1 m1 c1) n2 (.slice a2 m2 c2);rw[e3];have V1:IsW (tp pr qr) (Br+2) (.agg #[.bool n1,.slice a1 m1 c1]) w3:=⟨_,_,_,_,_,rfl,⟨H1.out.1.sl.below hb3,H1.out.1.worth⟩,H1.out.2⟩;have V2:IsW (tq qr) (Br+2) (.agg #[.bool n2,.slice a2 m2 c2]) w3:=⟨_,_,_,_,_,rfl,⟨H2.out.1.sl.below hb3,H2.out.1.worth⟩,H2.out.2⟩;have HB3:=hide (HB1.out.trans (hb3.mono HB1.out.size));have HZ3:=hide ((hb3.block _ (aaa HZ1.out)).trans HZ1.out);clear e3 hb3 hs3 HB1 HZ1 H1 H2;refine ade 4 [10,11,12,13] [(IsW (tp pr qr) (Br+2)),(OutW (-(tp pr qr)) (Br+2)),(IsW (tq qr) (Br+2)),(OutR (nm (-(tp pr qr)) (tq qr)) (dn (-(tp pr qr)) (tq qr)) (Br+2+(Br+2)))] rfl rfl (by decide) (by kernel_rfl) (by kernel_rfl) (by decide) (by kernel_rfl) ⟨(IsW.mono _ _),(Mono.of4 (OutW.mono4 _ _)),(IsW.mono _ _),(Mono.of4 (OutR.mono4 _ _ _)),trivial⟩ ?_ ?_
 ·exact⟨⟨rfl,fun a_ w_ _ hB hR hD=>ac3 ((hR 3 rfl).trans (aa7 rfl)) ((hB.block _ (aaa bx)).trans bx) (IsW.mono _ _ _ _ _ hB V1)⟩,
    ⟨rfl,fun a_ w_ _ hB hR hD=>avt (show(IsW (tp pr qr) (Br+2)) (a_.eval (.tmp 10)) w_ from hD 0 rfl) (by omega)⟩,
    ⟨rfl,fun a_ w_ _ hB hR hD=>ac3 ((hR 4 rfl).trans (aa7 rfl)) ((hB.block _ (aaa by')).trans by') (IsW.mono _ _ _ _ _ hB V2)⟩,
    ⟨rfl,fun a_ w_ _ hB hR hD=>ai6 (show(OutW (-(tp pr qr)) (Br+2)) (a_.eval (.tmp 11)) w_ from hD 1 rfl).is (show(IsW (tq qr) (Br+2)) (a_.eval (.tmp 12)) w_ from hD 2 rfl) (by omega) (aco _)⟩,trivial⟩
 ·intro a' w' hn' hd' hB' hR' hP';obtain⟨u10,e10⟩:∃u,a'.eval (.tmp 10)=u:=⟨_,rfl⟩;obtain⟨u11,e11⟩:∃u,a'.eval (.tmp 11)=u:=⟨_,rfl⟩;obtain⟨u12,e12⟩:∃u,a'.eval (.tmp 12)=u:=⟨_,rfl⟩;obtain⟨u13,e13⟩:∃u,a'.eval (.tmp 13)=u:=⟨_,rfl⟩;have ho:(OutR (nm (-(tp pr qr)) (tq qr)) (dn (-(tp pr qr)) (tq qr)) (Br+2+(Br+2))) (a'.eval (.tmp 13)) w':=hP' 3 (by decide);rw[e13]at ho;refine afc hn' hd' hR' (.s4 rfl <| .s4 rfl <| .same rfl <| .same rfl <| .new e10 <| .new e11 <| .new e12 <| .new e13 <| .nil) ?_;clear e10 e11 e12 e13;have HB9:=hide (HB3.out.trans (hB'.mono HB3.out.size));have hz:=(hB'.block _ (aaa HZ3.out)).trans HZ3.out;have HO:=hide ho;obtain⟨ng,a,b,rx,c,d,ry,rfl,_⟩:=ho;obtain⟨_,t0,t1,t2,u0,u1,u2⟩:=aac hz;have HE:=hide (aev (Nat.le_succ _) hz HB9.out HO.out);clear hB' hR' hP' hn' hd' hz HO;go_wp2;exact bodyPost_ret (v:=_) (acj (g:=w.heap.size+1) rfl rfl HE.out.2.2) rfl ⟨_,rfl,HE.out.1.to rfl rfl (by omega),HE.out.2.1⟩
theorem ash:Has Tryz.prog 138:=by unfold Has;kernel_rfl
set_option maxRecDepth 100000 in
theorem ap8(w:World)(Br:Nat)(nr:Bool)(ar:Option Addr)(mr cr:Nat)(rs:List Int)(pr:Int)(Ar:Ag w nr ar mr cr rs pr)(Lr:rs.length<=Br)(br:Option Addr)(kr dr:Nat)(rt:List Int)(qr:Int)(Sr:Sl w (.slice br kr dr) rt)(Vr:val rt=qr)(Mr:rt.length<=Br)(Bu:Nat)(nu:Bool)(au:Option Addr)(mu cu:Nat)(us:List Int)(pu:Int)(Au:Ag w nu au mu cu us pu)(Lu:us.length<=Bu)(bu:Option Addr)(ku du:Nat)(ut:List Int)(qu:Int)(Su:Sl w (.slice bu ku du) ut)(Vu:val ut=qu)(Mu:ut.length<=Bu)(hL:3*(Br+Bu+4)+1<=100000):
  Calls Tryz.prog 106 #[.agg #[.bool nr,.slice ar mr cr,.slice br kr dr],.agg #[.bool nu,.slice au mu cu,.slice bu ku du],.func (.func 107) #[] #[]] w fun e w'=>∃v,e=.returned v/\(OutR (nm (tp pr qr*tq qu+tp pu qu*tq qr) (tq qr*tq qu)) (dn (tp pr qr*tq qu+tp pu qu*tq qr) (tq qr*tq qu)) (3*(Br+Bu+4)+1)) v w'/\Below w.heap.size w w':=by
 obtain⟨w0,e0,hx,hy,hz,hb⟩:=boxzz w (.cells #[.bool nr,.slice ar mr cr,.slice br kr dr] 62) (.cells #[.bool nu,.slice au mu cu,.slice bu ku du] 62);obtain⟨_,x0,x1,x2,_,_,_⟩:=aac hx;have E0:=hide e0;have K1:=hide (aga w0 Br (by omega) nr ar mr cr rs pr ⟨Ar.sl.below hb,Ar.worth⟩ Lr br kr dr rt qr (Sr.below hb) Vr Mr);have HY:=hide hy;have HZ:=hide hz;have HB:=hide hb;clear e0 hx hy hz hb;go_enter Tryz.func106,Tryz.ntmps106
 go_upto_region 1 with fail
 rw[E0.out];go_wp2_with fail
 refine K1.out.mono ?_;rintro e w1 ⟨v1,v2,rfl,⟨n1,a1,m1,c1,xs1,rfl,A1,l1⟩,⟨n2,a2,m2,c2,xs2,rfl,A2,l2⟩,hb1⟩;obtain⟨w3,e3,b7,b8,hb3,hs3⟩:=ad3 w1 n1 (.slice a1 m1 c1) n2 (.slice a2 m2 c2);have E3:=hide e3;have V7:IsW (tp pr qr) (Br+2) (.agg #[.bool n1,.slice a1 m1 c1]) w3:=⟨_,_,_,_,_,rfl,⟨A1.sl.below hb3,A1.worth⟩,l1⟩;have V8:IsW (tq qr) (Br+2) (.agg #[.bool n2,.slice a2 m2 c2]) w3:=⟨_,_,_,_,_,rfl,⟨A2.sl.below hb3,A2.worth⟩,l2⟩;have H3:=hide (And.intro (And.intro b7 b8) (And.intro V7 V8));have h03:=hb1.trans (hb3.mono hb1.size);have HB3:=hide (HB.out.trans (h03.mono HB.out.size));have HZ3:=hide ((h03.block _ (aaa HZ.out)).trans HZ.out);obtain⟨_,y0,y1,y2,_,_,_⟩:=aac ((h03.block _ (aaa HY.out)).trans HY.out);have K2:=hide (aga w3 Bu (by omega) nu au mu cu us pu ⟨Au.sl.below HB3.out,Au.worth⟩ Lu bu ku du ut qu (Su.below HB3.out) Vu Mu);clear A1 l1 A2 l2 hb1 hb3 h03 e3 b7 b8 V7 V8 K1 HB HZ HY x0 x1 x2 E0 hs3;go_upto_region 2 with fail
 rw[E3.out];go_wp2_with fail
 refine K2.out.mono ?_;rintro e w4 ⟨v1,v2,rfl,⟨n3,a3,m3,c3,xs3,rfl,A3,l3⟩,⟨n4,a4,m4,c4,xs4,rfl,A4,l4⟩,hb4⟩;obtain⟨w5,e5,b9,b10,hb5,hs5⟩:=ad3 w4 n3 (.slice a3 m3 c3) n4 (.slice a4 m4 c4);have V9:IsW (tp pu qu) (Bu+2) (.agg #[.bool n3,.slice a3 m3 c3]) w5:=⟨_,_,_,_,_,rfl,⟨A3.sl.below hb5,A3.worth⟩,l3⟩;have V10:IsW (tq qu) (Bu+2) (.agg #[.bool n4,.slice a4 m4 c4]) w5:=⟨_,_,_,_,_,rfl,⟨A4.sl.below hb5,A4.worth⟩,l4⟩;have h35:=hb4.trans (hb5.mono hb4.size);have HB5:=hide (HB3.out.trans (h35.mono HB3.out.size));have HZ5:=hide ((h35.block _ (aaa HZ3.out)).trans HZ3.out);have b7:=(h35.block _ (aaa H3.out.1.1)).trans H3.out.1.1;have b8:=(h35.block _ (aaa H3.out.1.2)).trans H3.out.1.2;have V7:=IsW.mono _ _ _ _ _ h35 H3.out.2.1;have V8:=IsW.mono _ _ _ _ _ h35 H3.out.2.2;clear A3 l3 A4 l4 hb4 hb5 h35 K2 HB3 HZ3 H3 y0 y1 y2 E3 hs5;go_upto_region 3 with fail
 clear e5;refine ade 9 [22,23,24,25,26,27,28,29,11] [Eqs (.func (.func 107) #[] #[]),(IsW (tp pr qr) (Br+2)),(IsW (tq qu) (Bu+2)),(OutW (tp pr qr*tq qu) (((Br+2)+(Bu+2)))),(IsW (tp pu qu) (Bu+2)),(IsW (tq qr) (Br+2)),(OutW (tp pu qu*tq qr) (((Bu+2)+(Br+2)))),(OutW (tp pr qr*tq qu+tp pu qu*tq qr) (((Br+2)+(Bu+2))+((Bu+2)+(Br+2))+1)),(NewW w5.heap.size)] rfl rfl (by decide) (by kernel_rfl) (by kernel_rfl) (by decide) (by kernel_rfl) ⟨Eqs.mono _,(IsW.mono _ _),(IsW.mono _ _),(Mono.of4 (OutW.mono4 _ _)),(IsW.mono _ _),(IsW.mono _ _),(Mono.of4 (OutW.mono4 _ _)),(Mono.of4 (OutW.mono4 _ _)),(NewW.mono _),trivial⟩ ?_ ?_
 ·exact⟨⟨rfl,fun a_ w_ _ hB hR hD=>aa1 ((hR 2 rfl).trans (aa7 rfl))⟩,
    ⟨rfl,fun a_ w_ _ hB hR hD=>ac3 ((hR 7 rfl).trans (aa7 rfl)) ((hB.block _ (aaa b7)).trans b7) (IsW.mono _ _ _ _ _ hB V7)⟩,
    ⟨rfl,fun a_ w_ _ hB hR hD=>ac3 ((hR 10 rfl).trans (aa7 rfl)) ((hB.block _ (aaa b10)).trans b10) (IsW.mono _ _ _ _ _ hB V10)⟩,
    ⟨rfl,fun a_ w_ _ hB hR hD=>aj3 (show(IsW (tp pr qr) (Br+2)) (a_.eval (.tmp 23)) w_ from hD 1 rfl) (show(IsW (tq qu) (Bu+2)) (a_.eval (.tmp 24)) w_ from hD 2 rfl) (by omega) (by omega)⟩,
    ⟨rfl,fun a_ w_ _ hB hR hD=>ac3 ((hR 9 rfl).trans (aa7 rfl)) ((hB.block _ (aaa b9)).trans b9) (IsW.mono _ _ _ _ _ hB V9)⟩,
    ⟨rfl,fun a_ w_ _ hB hR hD=>ac3 ((hR 8 rfl).trans (aa7 rfl)) ((hB.block _ (aaa b8)).trans b8) (IsW.mono _ _ _ _ _ hB V8)⟩,
    ⟨rfl,fun a_ w_ _ hB hR hD=>aj3 (show(IsW (tp pu qu) (Bu+2)) (a_.eval (.tmp 26)) w_ from hD 4 rfl) (show(IsW (tq qr) (Br+2)) (a_.eval (.tmp 27)) w_ from hD 5 rfl) (by omega) (by omega)⟩,
    ⟨rfl,fun a_ w_ _ hB hR hD=>ase (hD 0 rfl:_=_) (avs (show(OutW (tp pr qr*tq qu) (((Br+2)+(Bu+2)))) (a_.eval (.tmp 25)) w_ from hD 3 rfl).is (show(OutW (tp pu qu*tq qr) (((Bu+2)+(Br+2)))) (a_.eval (.tmp 28)) w_ from hD 6 rfl).is (by omega) (by omega))⟩,
    ⟨rfl,fun a_ w_ _ hB hR hD=>auq hB.size⟩,trivial⟩
 ·intro a' w' hn' hd' hB' hR' hP';have e22:a'.eval (.tmp 22)=.func (.func 107) #[] #[]:=hP' 0 (by decide);obtain⟨u23,e23⟩:∃u,a'.eval (.tmp 23)=u:=⟨_,rfl⟩;obtain⟨u24,e24⟩:∃u,a'.eval (.tmp 24)=u:=⟨_,rfl⟩;obtain⟨u25,e25⟩:∃u,a'.eval (.tmp 25)=u:=⟨_,rfl⟩;obtain⟨u26,e26⟩:∃u,a'.eval (.tmp 26)=u:=⟨_,rfl⟩;obtain⟨u27,e27⟩:∃u,a'.eval (.tmp 27)=u:=⟨_,rfl⟩;obtain⟨u28,e28⟩:∃u,a'.eval (.tmp 28)=u:=⟨_,rfl⟩;obtain⟨u29,e29⟩:∃u,a'.eval (.tmp 29)=u:=⟨_,rfl⟩;have hs:(OutW (tp pr qr*tq qu+tp pu qu*tq qr) (((Br+2)+(Bu+2))+((Bu+2)+(Br+2))+1)) (a'.eval (.tmp 29)) w':=hP' 7 (by decide);rw[e29]at hs;obtain⟨u11,e11⟩:∃u,a'.eval (.tmp 11)=u:=⟨_,rfl⟩;have hg:(NewW w5.heap.size) (a'.eval (.tmp 11)) w':=hP' 8 (by decide);rw[e11]at hg;refine afc hn' hd' hR' (.s4 rfl <| .s4 rfl <| .same rfl <| .same rfl <| .same rfl <| .new e11 <| .s4 rfl <| .s4 rfl <| .same rfl <| .same rfl <| .new e22 <| .new e23 <| .new e24 <| .new e25 <| .new e26 <| .new e27 <| .new e28 <| .new e29 <| .s4 rfl <| .same rfl <| .nil) ?_;clear e22 e23 e24 e25 e26 e27 e28 e29 e11;obtain⟨g,hg1,rfl,hg2⟩:=hg;obtain⟨n6,a6,c6,r6,rfl,G6,l6⟩:=hs;obtain⟨_,t0,t1,u0,u1⟩:=aah hg2;have hr:=acb hg2 (.bool n6) (.slice a6 r6.length c6);have h57:Below w5.heap.size w5 ((w'.setCell ⟨g,0,none⟩ (.bool n6)).setCell ⟨g,1,none⟩ (.slice a6 r6.length c6)):=(hB'.setCell hg1 _).setCell hg1 _;have V11:IsW (tp pr qr*tq qu+tp pu qu*tq qr) (((Br+2)+(Bu+2))+((Bu+2)+(Br+2))+1) (.agg #[.bool n6,.slice a6 r6.length c6]) ((w'.setCell ⟨g,0,none⟩ (.bool n6)).setCell ⟨g,1,none⟩ (.slice a6 r6.length c6)):=IsW.mono5 _ _ _ _ _ hr (OutW.is ⟨_,_,_,_,rfl,G6,l6⟩);have b11:=ab1 hg2 (.bool n6) (.slice a6 r6.length c6);replace b8:=(h57.block _ (aaa b8)).trans b8;replace b10:=(h57.block _ (aaa b10)).trans b10;replace V8:=IsW.mono _ _ _ _ _ h57 V8;replace V10:=IsW.mono _ _ _ _ _ h57 V10;have HB7:=hide (HB5.out.trans (h57.mono HB5.out.size));have HZ7:=hide ((h57.block _ (aaa HZ5.out)).trans HZ5.out);have HR:=hide (And.intro (And.intro b8 b10) (And.intro b11 (And.intro V11 (And.intro V8 V10))));clear hB' hR' hP' hn' hd' hg1 hg2 G6 l6 hr h57 V11 b11 b7 b8 b9 b10 V7 V8 V9 V10 HB5 HZ5;go_upto_region 4 with fail
  generalize (w'.setCell ⟨g,0,none⟩ (.bool n6)).setCell ⟨g,1,none⟩ (.slice a6 r6.length c6)=w7 at *
  obtain⟨⟨b8,b10⟩,b11,V11,V8,V10⟩:=HR.out;clear HR;refine ade 5 [30,31,32,33,34] [(IsW (tp pr qr*tq qu+tp pu qu*tq qr) (((Br+2)+(Bu+2))+((Bu+2)+(Br+2))+1)),(IsW (tq qr) (Br+2)),(IsW (tq qu) (Bu+2)),(OutW (tq qr*tq qu) (((Br+2)+(Bu+2)))),(OutR (nm (tp pr qr*tq qu+tp pu qu*tq qr) (tq qr*tq qu)) (dn (tp pr qr*tq qu+tp pu qu*tq qr) (tq qr*tq qu)) (((Br+2)+(Bu+2))+((Bu+2)+(Br+2))+1+((Br+2)+(Bu+2))))] rfl rfl (by decide) (by kernel_rfl) (by kernel_rfl) (by decide) (by kernel_rfl) ⟨(IsW.mono _ _),(IsW.mono _ _),(IsW.mono _ _),(Mono.of4 (OutW.mono4 _ _)),(Mono.of4 (OutR.mono4 _ _ _)),trivial⟩ ?_ ?_
  ·exact⟨⟨rfl,fun a_ w_ _ hB hR hD=>ac3 ((hR 11 rfl).trans (aa7 rfl)) ((hB.block _ (aaa b11)).trans b11) (IsW.mono _ _ _ _ _ hB V11)⟩,
     ⟨rfl,fun a_ w_ _ hB hR hD=>ac3 ((hR 8 rfl).trans (aa7 rfl)) ((hB.block _ (aaa b8)).trans b8) (IsW.mono _ _ _ _ _ hB V8)⟩,
     ⟨rfl,fun a_ w_ _ hB hR hD=>ac3 ((hR 10 rfl).trans (aa7 rfl)) ((hB.block _ (aaa b10)).trans b10) (IsW.mono _ _ _ _ _ hB V10)⟩,
     ⟨rfl,fun a_ w_ _ hB hR hD=>aj3 (show(IsW (tq qr) (Br+2)) (a_.eval (.tmp 31)) w_ from hD 1 rfl) (show(IsW (tq qu) (Bu+2)) (a_.eval (.tmp 32)) w_ from hD 2 rfl) (by omega) (by omega)⟩,
     ⟨rfl,fun a_ w_ _ hB hR hD=>ai6 (show(IsW (tp pr qr*tq qu+tp pu qu*tq qr) (((Br+2)+(Bu+2))+((Bu+2)+(Br+2))+1)) (a_.eval (.tmp 30)) w_ from hD 0 rfl) (show(OutW (tq qr*tq qu) (((Br+2)+(Bu+2)))) (a_.eval (.tmp 33)) w_ from hD 3 rfl).is (by omega) (av4 (aco _) (aco _))⟩,trivial⟩
  ·intro a' w' hn' hd' hB' hR' hP';obtain⟨u30,e30⟩:∃u,a'.eval (.tmp 30)=u:=⟨_,rfl⟩;obtain⟨u31,e31⟩:∃u,a'.eval (.tmp 31)=u:=⟨_,rfl⟩;obtain⟨u32,e32⟩:∃u,a'.eval (.tmp 32)=u:=⟨_,rfl⟩;obtain⟨u33,e33⟩:∃u,a'.eval (.tmp 33)=u:=⟨_,rfl⟩;obtain⟨u34,e34⟩:∃u,a'.eval (.tmp 34)=u:=⟨_,rfl⟩;have ho:(OutR (nm (tp pr qr*tq qu+tp pu qu*tq qr) (tq qr*tq qu)) (dn (tp pr qr*tq qu+tp pu qu*tq qr) (tq qr*tq qu)) (((Br+2)+(Bu+2))+((Bu+2)+(Br+2))+1+((Br+2)+(Bu+2)))) (a'.eval (.tmp 34)) w':=hP' 4 (by decide);rw[e34]at ho;refine afc hn' hd' hR' (.s16 rfl <| .s4 rfl <| .s4 rfl <| .s4 rfl <| .same rfl <| .same rfl <| .new e30 <| .new e31 <| .new e32 <| .new e33 <| .new e34 <| .nil) ?_;clear e30 e31 e32 e33 e34;have HB9:=hide (HB7.out.trans (hB'.mono HB7.out.size));have hz:=(hB'.block _ (aaa HZ7.out)).trans HZ7.out;have HO:=hide ho;obtain⟨ng,a,b,rx,c,d,ry,rfl,_⟩:=ho;obtain⟨_,t0,t1,t2,u0,u1,u2⟩:=aac hz;have HE:=hide (aev (Nat.le_add_right _ 2) hz HB9.out HO.out);clear hB' hR' hP' hn' hd' hz HO;go_wp2;exact bodyPost_ret (v:=_) (acj (g:=w.heap.size+2) rfl rfl HE.out.2.2) rfl ⟨_,rfl,HE.out.1.to rfl rfl (by omega),HE.out.2.1⟩
set_option maxRecDepth 100000 in
theorem av7(w:World)(Br:Nat)(nr:Bool)(ar:Option Addr)(mr cr:Nat)(rs:List Int)(pr:Int)(Ar:Ag w nr ar mr cr rs pr)(Lr:rs.length<=Br)(br:Option Addr)(kr dr:Nat)(rt:List Int)(qr:Int)(Sr:Sl w (.slice br kr dr) rt)(Vr:val rt=qr)(Mr:rt.length<=Br)(Bu:Nat)(nu:Bool)(au:Option Addr)(mu cu:Nat)(us:List Int)(pu:Int)(Au:Ag w nu au mu cu us pu)(Lu:us.length<=Bu)(bu:Option Addr)(ku du:Nat)(ut:List Int)(qu:Int)(Su:Sl w (.slice bu ku du) ut)(Vu:val ut=qu)(Mu:ut.length<=Bu)(hL:3*(Br+Bu+4)+1<=100000):
  Calls Tryz.prog 64 #[.agg #[.bool nr,.slice ar mr cr,.slice br kr dr],.agg #[.bool nu,.slice au mu cu,.slice bu ku du]] w fun e w'=>∃v,e=.returned v/\(OutR (nm (tp pr qr*tq qu+tp pu qu*tq qr) (tq qr*tq qu)) (dn (tp pr qr*tq qu+tp pu qu*tq qr) (tq qr*tq qu)) (3*(Br+Bu+4)+1)) v w'/\Below w.heap.size w w':=by
 obtain⟨w0,e0,hx,hy,hz,hb⟩:=boxzz w (.cells #[.bool nr,.slice ar mr cr,.slice br kr dr] 62) (.cells #[.bool nu,.slice au mu cu,.slice bu ku du] 62);obtain⟨_,x0,x1,x2,_,_,_⟩:=aac hx;obtain⟨_,y0,y1,y2,_,_,_⟩:=aac hy;have E0:=hide e0;have K1:=hide (ap8 w0 Br nr ar mr cr rs pr ⟨Ar.sl.below hb,Ar.worth⟩ Lr br kr dr rt qr (Sr.below hb) Vr Mr Bu nu au mu cu us pu ⟨Au.sl.below hb,Au.worth⟩ Lu bu ku du ut qu (Su.below hb) Vu Mu hL);have HZ:=hide hz;have HB:=hide hb;clear e0 hx hy hz hb;go_enter Tryz.func64,Tryz.ntmps64
 go_upto_region 1 with fail
 rw[E0.out];go_wp2_with fail
 refine K1.out.mono ?_;rintro e w9 ⟨v,rfl,ho,hb9⟩;have HB9:=hide (HB.out.trans (hb9.mono HB.out.size));have hz:=(hb9.block _ (aaa HZ.out)).trans HZ.out;have HO:=hide ho;obtain⟨ng,a,b,rx,c,d,ry,rfl,_⟩:=ho;obtain⟨_,t0,t1,t2,u0,u1,u2⟩:=aac hz;have HE:=hide (aev (Nat.le_add_right _ 2) hz HB9.out HO.out);clear hz K1 hb9 HO;go_wp2;exact bodyPost_ret (v:=_) (acj (g:=w.heap.size+2) rfl rfl HE.out.2.2) rfl ⟨_,rfl,HE.out.1.to rfl rfl (by omega),HE.out.2.1⟩
theorem asi:Has Tryz.prog 64:=by unfold Has;kernel_rfl
set_option maxRecDepth 100000 in
theorem axe(w:World)(Bx:Nat)(nx:Bool)(ax:Option Addr)(mx cx:Nat)(xs:List Int)(zx:Int)(Ax:Ag w nx ax mx cx xs zx)(Lx:xs.length<=Bx)(By:Nat)(ny:Bool)(ay:Option Addr)(my cy:Nat)(ys:List Int)(zy:Int)(Ay:Ag w ny ay my cy ys zy)(Ly:ys.length<=By)(hL:Bx+By<=100000)(hy:zy≠0):
  Calls Tryz.prog 184 #[.agg #[.bool nx,.slice ax mx cx],.agg #[.bool ny,.slice ay my cy]] w fun e w'=>∃v,e=.returned v/\(Tup2 (OutR (nm zx zy) (dn zx zy) (Bx+By)) (Eqs (.int .i64 0))) v w'/\Below w.heap.size w w':=by
 obtain⟨w0,e0,hx,hy0,hz,hb⟩:=boxzz w (.cells #[.bool nx,.slice ax mx cx] 60) (.cells #[.bool ny,.slice ay my cy] 60);obtain⟨_,y0,y1,_,_⟩:=aah hy0;have E0:=hide e0;have K1:=hide (aho w0 ny ay my cy ys zy ⟨Ay.sl.below hb,Ay.worth⟩ (by omega) (Int.sign zy) rfl);have hs:(Int.sign zy==0)=false:=by simp[hy]
 have HX:=hide hx;have HY:=hide hy0;have HZ:=hide hz;have HB:=hide hb;clear e0 hx hy0 hz hb;go_enter Tryz.func184,Tryz.ntmps184
 go_upto_region 1 with fail
 rw[E0.out];go_wp2_with fail
 refine K1.out.mono ?_;rintro e w1 ⟨rfl,hb1⟩;have HB1:=hide (HB.out.trans (hb1.mono HB.out.size));have HZ1:=hide ((hb1.block _ (aaa HZ.out)).trans HZ.out);obtain⟨_,x0,x1,_,_⟩:=aah ((hb1.block _ (aaa HX.out)).trans HX.out);replace y0:=(hb1.cell (p:=⟨w.heap.size+1,0,none⟩) (aap y0)).trans y0;replace y1:=(hb1.cell (p:=⟨w.heap.size+1,1,none⟩) (aap y1)).trans y1;have K2:=hide (ag8 w1 (.agg #[.bool nx,.slice ax mx cx]) (.agg #[.bool ny,.slice ay my cy]) zx zy (Bx+By) ⟨_,_,_,_,_,rfl,⟨Ax.sl.below HB1.out,Ax.worth⟩,by omega⟩ ⟨_,_,_,_,_,rfl,⟨Ay.sl.below HB1.out,Ay.worth⟩,by omega⟩ hy hL);clear hb1 K1 HB HZ HX HY;go_wp2_with fail
 refine K2.out.mono ?_;rintro e w9 ⟨v,rfl,ho,hb9⟩;have HB9:=hide (HB1.out.trans (hb9.mono HB1.out.size));have hz:=(hb9.block _ (aaa HZ1.out)).trans HZ1.out;have HO:=hide ho;obtain⟨ng,a,b,rx,c,d,ry,rfl,_⟩:=ho;obtain⟨_,t0,t1,t2,u0,u1,u2⟩:=aac hz;have HE:=hide (aev (Nat.le_add_right _ 2) hz HB9.out HO.out);clear hz K2 hb9 HO;go_wp2;exact bodyPost_ret (v:=_) (ad4 (g:=w.heap.size+2) rfl rfl HE.out.2.2 rfl) rfl ⟨_,rfl,⟨_,_,rfl,HE.out.1,rfl⟩,HE.out.2.1⟩
theorem aml:Has Tryz.prog 184:=by unfold Has;kernel_rfl
set_option maxRecDepth 100000 in
theorem av8(w:World)(Bx:Nat)(nx:Bool)(ax:Option Addr)(mx cx:Nat)(xs:List Int)(zx:Int)(_Ax:Ag w nx ax mx cx xs zx)(Lx:xs.length<=Bx)(By:Nat)(ny:Bool)(ay:Option Addr)(my cy:Nat)(ys:List Int)(zy:Int)(Ay:Ag w ny ay my cy ys zy)(Ly:ys.length<=By)(hL:Bx+By<=100000)(hy:zy=0):
  Calls Tryz.prog 184 #[.agg #[.bool nx,.slice ax mx cx],.agg #[.bool ny,.slice ay my cy]] w fun e w'=>∃v,e=.returned v/\(Tup2 (Eqs (.agg #[.bool false,.slice none 0 0,.slice none 0 0])) (Eqs (.int .i64 20))) v w'/\Below w.heap.size w w':=by
 obtain⟨w0,e0,hx,hy0,hz,hb⟩:=boxzz w (.cells #[.bool nx,.slice ax mx cx] 60) (.cells #[.bool ny,.slice ay my cy] 60);obtain⟨_,y0,y1,_,_⟩:=aah hy0;have E0:=hide e0;have K1:=hide (aho w0 ny ay my cy ys zy ⟨Ay.sl.below hb,Ay.worth⟩ (by omega) (Int.sign zy) rfl);have hs:(Int.sign zy==0)=true:=by simp[hy]
 have HX:=hide hx;have HY:=hide hy0;have HZ:=hide hz;have HB:=hide hb;clear e0 hx hy0 hz hb;go_enter Tryz.func184,Tryz.ntmps184
 go_upto_region 1 with fail
 rw[E0.out];go_wp2_with fail
 refine K1.out.mono ?_;rintro e w1 ⟨rfl,hb1⟩;have HB1:=hide (HB.out.trans (hb1.mono HB.out.size));have HZ1:=hide ((hb1.block _ (aaa HZ.out)).trans HZ.out);obtain⟨_,t0,t1,t2,u0,u1,u2⟩:=aac HZ1.out;have HE:=hide (ap7 false none 0 0 none 0 0 (Nat.le_add_right _ 2) HZ1.out HB1.out);clear hb1 K1 HB HZ HX HY HB1 HZ1;go_wp2;exact bodyPost_ret (v:=_) (ad4 (g:=w.heap.size+2) rfl rfl HE.out.2 rfl) rfl ⟨_,rfl,⟨_,_,rfl,rfl,rfl⟩,HE.out.1⟩
end Lm
namespace Dm
open Go.RowKit
open Lm (hide abb aaa ad0 abw cmpI abq abx act aby)
def sgn(n:Nat):Int:=if n=0 then 0 else 1
end Dm
namespace Lm
open Go.RowKit
structure Fr (B T:Nat) (w:World) (ao:Option Addr) (cap:Nat) (rs:List Int) (x:Int):Prop where
 ow:Ow B w (.slice ao rs.length cap) rs
 canon:Canon rs
 val:val rs=x
 lies:0<cap->∀g off,ao=some ⟨g,off,none⟩->B<=g/\g<T
theorem Is.fr{B:Nat}{w:World}{v:Value}{x:Int}(h:Is B w v x):∃ao cap rs,v=.slice ao rs.length cap/\Fr B w.heap.size w ao cap rs x:=by
 obtain⟨rs,ho,hc,hv⟩:=h;obtain⟨ao,cap,rfl,h1,h2,h3,h4⟩:=ho;refine⟨ao,cap,rs,rfl,⟨ao,cap,rfl,h1,h2,h3,h4⟩,hc,hv,?_⟩;intro h0 g off e;rcases h4 with h4|⟨g',off',cur,e',hB,hh,_⟩
 ·omega
 ·rw[e']at e;simp only[Option.some.injEq,Addr.mk.injEq,and_true]at e;have:=aaa hh;omega
theorem Fr.got{B T:Nat}{w:World}{ao:Option Addr}{cap:Nat}{rs:List Int}{x:Int}(h:Fr B T w ao cap rs x):Got w ao cap rs x:=⟨h.ow.sl,h.canon,h.val⟩
end Lm
namespace Dm
open Go.RowKit
open Lm (hide abb aaa)
structure WFr (B T:Nat) (w:World) (ng:Bool) (ao:Option Addr) (cap:Nat) (rs:List Int) (z:Int):Prop where
 fr:Lm.Fr B T w ao cap rs (z.natAbs:Int)
 sgn:ng=decide (z<0)
theorem WFr.wh{B T:Nat}{w:World}{ng:Bool}{ao:Option Addr}{cap:Nat}{rs:List Int}{z:Int}(h:WFr B T w ng ao cap rs z):Lm.Wh w ng ao cap rs z:=⟨h.fr.got,h.sgn⟩
end Dm
namespace Dm
open Go.RowKit
open Lm (hide abb aaa cmpI abq abx)
def Cl(w:World)(b i:Nat)(v:Value):Prop:=w.cell? ⟨b,i,none⟩=some v
section
end
end Dm
namespace Lm
open Go Go.RowKit
def Strs(w:World)(v:Value)(ss:List ByteArray):Prop:=Ce w v 1 ss.length (ss.map Value.string)
theorem Strs.below{w w':World}{v:Value}{ss:List ByteArray}(h:Strs w v ss)(hb:Below w.heap.size w w'):Strs w' v ss:=Ce.below h hb
theorem Strs.cell{w:World}{ao:Option Addr}{n cap:Nat}{ss:List ByteArray}{i:Nat}{x:ByteArray}(h:Strs w (.slice ao n cap) ss)(hg:ss[i]? = some x):∃b off,ao=some ⟨b,off,none⟩/\b<w.heap.size/\w.cell? ⟨b,off+i,none⟩=some (.string x):=by
 obtain⟨ao',cap',hv,c1,c2,c3,c4⟩:=h;obtain⟨rfl,rfl,rfl⟩:=(Value.slice.injEq .. ▸ hv);have hk:i<ss.length:=(List.getElem?_eq_some_iff.1 hg).1;rcases c4 with c4|⟨b,off,rfl,hl,hc⟩
 ·omega
 ·exact⟨b,off,rfl,hl,hc _ _ (by simp[hg])⟩
theorem ajh{x s:ByteArray}(h:x.toList=s.toList):x=s:=by
 rw[ByteArray.toList_eq,ByteArray.toList_eq]at h;exact ByteArray.ext (Array.toList_inj.1 h)
theorem atp{x s:ByteArray}(h:x≠s):(x.toList==s.toList)=false:=by
 simp only[beq_eq_false_iff_ne];exact fun e=>h (ajh e)
theorem ahz(p:Int){q:Int}(_h:q≠0):nm p q=(Rat.divInt p q).num:=by
 rw[Rat.num_divInt,nm,Int.gcd_comm];rw[Int.mul_ediv_assoc _ (Int.gcd_dvd_right ..)]
theorem ah0(p:Int){q:Int}(h:q≠0):dn p q=((Rat.divInt p q).den:Int):=by
 rw[Rat.den_divInt,if_neg h,dn,Int.gcd_comm,Int.natCast_ediv];rcases Int.lt_or_gt_of_ne h with h1|h1
 ·rw[Int.sign_eq_neg_one_of_neg h1,show((q.natAbs:Nat):Int) = -q from by omega,Int.neg_ediv_of_dvd (Int.gcd_dvd_left ..)];omega
 ·rw[Int.sign_eq_one_of_pos h1,show((q.natAbs:Nat):Int)=q from by omega];omega
theorem agd(p q:Int):Rat.divInt (tp p q) (tq q)=Rat.divInt p q:=by
 unfold tp tq;split
 ·next h=>rw[h,Rat.divInt_zero,Rat.zero_divInt]
 ·rfl
def IsQ(r:Rat)(L:Nat):Says:=fun v w=>∃p q,IsR p q L v w/\Rat.divInt p q=r
def OutQr(r:Rat)(L:Nat):Says:=OutR r.num (r.den:Int) L
theorem OutQr.is{r:Rat}{L:Nat}{v:Value}{w:World}(h:OutQr r L v w):IsQ r L v w:=⟨_,_,OutR.is h,Rat.num_divInt_den r⟩
def Fit(r:Rat)(L:Nat):Prop:=(r.num.natAbs:Int)<pw L/\(r.den:Int)<pw L
theorem OutQr.fit{r:Rat}{L L':Nat}{v:Value}{w:World}(h:OutQr r L v w)(hf:Fit r L'):OutQr r L' v w:=by
 obtain⟨ng,ao,cap,rs,bo,dap,ss,e,h1,h2,l1,l2⟩:=h;exact⟨ng,ao,cap,rs,bo,dap,ss,e,h1,h2,aaz h1.1.2.1 (by rw[h1.1.2.2];exact hf.1),aaz h2.2.1 (by rw[h2.2.2];exact hf.2)⟩
theorem IsQ.open{r:Rat}{L:Nat}{v:Value}{w:World}(h:IsQ r L v w):∃ng ao n cap xs bo m dap ys p q,v=.agg #[.bool ng,.slice ao n cap,.slice bo m dap]/\Ag w ng ao n cap xs p/\Sl w (.slice bo m dap) ys/\val ys=q/\xs.length<=L/\ys.length<=L/\Rat.divInt p q=r:=by
 obtain⟨p,q,⟨ng,ao,n,cap,xs,bo,m,dap,ys,h1,h2,h3,h4,h5,h6⟩,h7⟩:=h;exact⟨ng,ao,n,cap,xs,bo,m,dap,ys,p,q,h1,h2,h3,h4,h5,h6,h7⟩
theorem av9(w:World)(x y:Value)(r s:Rat)(L M N:Nat)(hx:IsQ r L x w)(hy:IsQ s M y w)(hL:3*(L+M+4)+1<=100000)(hf:Fit (r+s) N):
  Calls Tryz.prog 64 #[x,y] w fun e w'=>∃v,e=.returned v/\OutQr (r+s) N v w'/\Below w.heap.size w w':=by
 obtain⟨ng,ao,n,cap,xs,bo,m,dap,ys,p,q,rfl,h2,h3,h4,h5,h6,h7⟩:=hx.open;obtain⟨ng',ao',n',cap',xs',bo',m',dap',ys',p',q',rfl,g2,g3,g4,g5,g6,g7⟩:=hy.open;refine(av7 w L ng ao n cap xs p h2 h5 bo m dap ys q h3 h4 h6 M ng' ao' n' cap' xs' p' g2 g5 bo' m' dap' ys' q' g3 g4 g6 hL).mono ?_;rintro e w' ⟨v,rfl,ho,hb⟩;refine⟨v,rfl,?_,hb⟩;have hne:tq q*tq q'≠0:=Int.mul_ne_zero (aco q) (aco q');have hs:Rat.divInt (tp p q*tq q'+tp p' q'*tq q) (tq q*tq q')=r+s:=by
  rw[<-Rat.divInt_add_divInt _ _ (aco q) (aco q'),agd,agd,h7,g7]
 rw[ahz _ hne,ah0 _ hne,hs]at ho;exact OutQr.fit ho hf
theorem ap9(w:World)(x:Value)(r:Rat)(L N:Nat)(hx:IsQ r L x w)(hL:2*(L+2)<=100000)(hf:Fit r N):
  Calls Tryz.prog 138 #[x] w fun e w'=>∃v,e=.returned v/\OutQr (-r) N v w'/\Below w.heap.size w w':=by
 obtain⟨ng,ao,n,cap,xs,bo,m,dap,ys,p,q,rfl,h2,h3,h4,h5,h6,h7⟩:=hx.open;refine(av6 w L ng ao n cap xs p h2 h5 bo m dap ys q h3 h4 h6 hL).mono ?_;rintro e w' ⟨v,rfl,ho,hb⟩;refine⟨v,rfl,?_,hb⟩;have hs:Rat.divInt (-(tp p q)) (tq q) = -r:=by rw[<-Rat.neg_divInt,agd,h7]
 rw[ahz _ (aco q),ah0 _ (aco q),hs]at ho;exact OutQr.fit ho ⟨by rw[Rat.neg_num,Int.natAbs_neg];exact hf.1,by rw[Rat.neg_den];exact hf.2⟩
theorem aus(w:World)(x:Value)(r:Rat)(L N:Nat)(hx:IsQ r L x w)(hL:2*(L+2)<=100000)(hf:Fit r N):
  Calls Tryz.prog 93 #[x] w fun e w'=>∃v,e=.returned v/\OutQr r N v w'/\Below w.heap.size w w':=by
 obtain⟨ng,ao,n,cap,xs,bo,m,dap,ys,p,q,rfl,h2,h3,h4,h5,h6,h7⟩:=hx.open;refine(aur w L ng ao n cap xs p h2 h5 bo m dap ys q h3 h4 h6 hL).mono ?_;rintro e w' ⟨v,rfl,ho,hb⟩;refine⟨v,rfl,?_,hb⟩;have hs:Rat.divInt (tp p q) (tq q)=r:=by rw[agd,h7]
 rw[ahz _ (aco q),ah0 _ (aco q),hs]at ho;exact OutQr.fit ho hf
theorem ada(w:World)(x:Value)(z:Int)(L:Nat)(hx:IsW z L x w)(hL:L<=100000):
  Calls Tryz.prog 31 #[x] w fun e w'=>∃v,e=.returned v/\OutQr (z:Rat) (L+2) v w'/\Below w.heap.size w w':=by
 obtain⟨ng,ao,n,cap,xs,rfl,h2,h5⟩:=hx;refine(av5 w L ng ao n cap xs z h2 h5 hL).mono ?_;rintro e w' ⟨v,rfl,ho,hb⟩;exact⟨v,rfl,ho,hb⟩
theorem atq(w:World)(x y:Value)(z u:Int)(L M:Nat)(hx:IsW z L x w)(hy:IsW u M y w)(hL:L+M<=100000):
  Calls Tryz.prog 184 #[x,y] w fun e w'=>Below w.heap.size w w'/\((u≠0/\∃v,e=.returned (.tuple #[v,.int .i64 0])/\OutQr (Rat.divInt z u) (L+M) v w')\/(u=0/\e=.returned (.tuple #[.agg #[.bool false,.slice none 0 0,.slice none 0 0],.int .i64 20]))):=by
 obtain⟨ng,ao,n,cap,xs,rfl,h2,h5⟩:=hx;obtain⟨ng',ao',n',cap',xs',rfl,g2,g5⟩:=hy;by_cases hu:u=0
 ·refine(av8 w L ng ao n cap xs z h2 h5 M ng' ao' n' cap' xs' u g2 g5 hL hu).mono ?_;rintro e w' ⟨v,rfl,⟨a,b,rfl,h1,h2⟩,hb⟩;exact⟨hb,.inr ⟨hu,by rw[h1,h2]⟩⟩
 ·refine(axe w L ng ao n cap xs z h2 h5 M ng' ao' n' cap' xs' u g2 g5 hL hu).mono ?_;rintro e w' ⟨v,rfl,⟨a,b,rfl,h1,h2⟩,hb⟩;rw[ahz _ hu,ah0 _ hu]at h1;exact⟨hb,.inl ⟨hu,a,by rw[h2],h1⟩⟩
end Lm
namespace Lm
open Go.RowKit
theorem Is.tight{B:Nat}{w:World}{v:Value}{x:Int}(h:Is B w v x)(hB:B<=w.heap.size):∃ao cap rs B1 T1,v=.slice ao rs.length cap/\Fr B1 T1 w ao cap rs x/\B<=B1/\T1<=w.heap.size/\((cap=0/\T1=B1)\/(0<cap/\T1=B1+1/\∃off,ao=some ⟨B1,off,none⟩)):=by
 obtain⟨rs,ho,hc,hv⟩:=h;obtain⟨ao,cap,rfl,h1,h2,h3,h4⟩:=ho;by_cases h0:cap=0
 ·exact⟨ao,cap,rs,B,B,rfl,⟨⟨ao,cap,rfl,h1,h2,h3,.inl h0⟩,hc,hv,fun h=>by omega⟩,Nat.le_refl _,hB,.inl ⟨h0,rfl⟩⟩
 ·rcases h4 with h4|⟨g,off,cur,rfl,hg,hh,hs,ha⟩
  ·exact absurd h4 h0
  ·refine⟨_,cap,rs,g,g+1,rfl,⟨⟨_,cap,rfl,h1,h2,h3,.inr ⟨g,off,cur,rfl,Nat.le_refl _,hh,hs,ha⟩⟩,hc,hv,fun _ g' off' e=>?_⟩,hg,aaa hh,.inr ⟨by omega,rfl,off,rfl⟩⟩;simp only[Option.some.injEq,Addr.mk.injEq]at e;omega
theorem Is.two{B:Nat}{w:World}{v1 v2:Value}{x1 x2:Int}(h1:Is B w v1 x1)(h2:Is B w v2 x2)(hs:Sep v1 v2)(hB:B<=w.heap.size):∃ao cap rs bo dap ss B1 T1 B2 T2,v1=.slice ao rs.length cap/\v2=.slice bo ss.length dap/\Fr B1 T1 w ao cap rs x1/\Fr B2 T2 w bo dap ss x2/\B<=B1/\T1<=w.heap.size/\B<=B2/\T2<=w.heap.size/\(∀j,B1<=j->j<T1->j<B2\/T2<=j):=by
 obtain⟨ao,cap,rs,B1,T1,rfl,f1,b1,t1,c1⟩:=h1.tight hB;obtain⟨bo,dap,ss,B2,T2,rfl,f2,b2,t2,c2⟩:=h2.tight hB;refine⟨ao,cap,rs,bo,dap,ss,B1,T1,B2,T2,rfl,rfl,f1,f2,b1,t1,b2,t2,fun j hj1 hj2=>?_⟩;rcases c1 with⟨_,c1⟩|⟨p1,c1,off1,rfl⟩
 ·omega
 ·rcases c2 with⟨_,c2⟩|⟨p2,c2,off2,rfl⟩
  ·omega
  ·have:=hs _ _ _ _ _ _ rfl rfl;simp only at this;omega
structure Li (B T:Nat) (w:World) (ao:Option Addr) (cap:Nat) (rs:List Int):Prop where
 ow:Ow B w (.slice ao rs.length cap) rs
 lies:0<cap->∀g off,ao=some ⟨g,off,none⟩->B<=g/\g<T
theorem Fr.li{B T:Nat}{w:World}{ao:Option Addr}{cap:Nat}{rs:List Int}{x:Int}(h:Fr B T w ao cap rs x):Li B T w ao cap rs:=⟨h.ow,h.lies⟩
theorem Li.fr{B T:Nat}{w:World}{ao:Option Addr}{cap:Nat}{rs:List Int}{x:Int}(h:Li B T w ao cap rs)(hg:Got w ao cap rs x):Fr B T w ao cap rs x:=⟨h.ow,hg.canon,hg.val,h.lies⟩
theorem Li.kept{B T:Nat}{w w':World}{ao:Option Addr}{cap:Nat}{rs:List Int}(h:Li B T w ao cap rs)(hk:∀g,g<w.heap.size->B<=g->g<T->w'.heap[g]? = w.heap[g]?):Li B T w' ao cap rs:=by
 obtain⟨ho,hl⟩:=h;refine⟨?_,hl⟩;obtain⟨ao',cap',hv',h1,h2,h3,h4⟩:=ho;obtain⟨rfl,_,rfl⟩:=(Value.slice.injEq .. ▸ hv');refine⟨ao,cap,rfl,h1,h2,h3,?_⟩;rcases h4 with h4|⟨g,off,cur,rfl,hB,hh,r⟩
 ·exact .inl h4
 ·by_cases h0:0<cap
  ·have:=hl h0 g off rfl;exact .inr ⟨g,off,cur,rfl,hB,(hk g (aaa hh) this.1 this.2).trans hh,r⟩
  ·exact .inl (by omega)
theorem Li.below{B T:Nat}{w w':World}{ao:Option Addr}{cap:Nat}{rs:List Int}(h:Li B T w ao cap rs)(hb:Below w.heap.size w w'):Li B T w' ao cap rs:=h.kept fun g hg _ _=>hb.block g hg
theorem Li.set2{B T:Nat}{w:World}{ao:Option Addr}{cap:Nat}{rs:List Int}(h:Li B T w ao cap rs)(k:Nat)(hk:k<B\/T<=k)(b u:Value):Li B T ((w.setCell ⟨k,0,none⟩ b).setCell ⟨k,1,none⟩ u) ao cap rs:=
 h.kept fun g _ h1 h2=>by
  have hne:g≠k:=by omega
  rw[heap_setCell_other _ ⟨k,1,none⟩ g _ hne,heap_setCell_other _ ⟨k,0,none⟩ g _ hne]
theorem ag9(w:World)(a1 a2:Option Addr)(n1 n2 c1 c2:Nat)(xs ys:List Int)(hx:Sl w (.slice a1 n1 c1) xs)(hy:Sl w (.slice a2 n2 c2) ys)(hm1:xs.length<=500000)(h0:val ys≠0):
  Calls Tryz.prog 151 #[.slice a1 n1 c1,.slice a2 n2 c2] w fun e w'=>∃ao cap rs bo dap ss B1 T1 B2 T2,e=.returned (.tuple #[.slice ao rs.length cap,.slice bo ss.length dap,.bool true])/\Got w' ao cap rs (val xs/val ys)/\Got w' bo dap ss (val xs%val ys)/\rs.length<=xs.length/\ss.length<=ys.length/\Li B1 T1 w' ao cap rs/\Li B2 T2 w' bo dap ss/\(w.heap.size<=B1/\T1<=w'.heap.size/\w.heap.size<=B2/\T2<=w'.heap.size/\∀j,B1<=j->j<T1->j<B2\/T2<=j)/\Below w.heap.size w w':=by
 refine(ae8 w a1 a2 n1 n2 c1 c2 xs ys hx hy hm1 h0).mono ?_;rintro e w' ⟨v1,v2,rfl,hi1,hi2,hsep,hb⟩;obtain⟨ao,cap,rs,bo,dap,ss,B1,T1,B2,T2,rfl,rfl,f1,f2,x1,x2,x3,x4,x5⟩:=hi1.two hi2 hsep hb.size;have lx:=hx.parts.2.2.2;have ly:=hy.parts.2.2.2;have bx:=aab lx;have bY:=aab ly;refine⟨ao,cap,rs,bo,dap,ss,B1,T1,B2,T2,rfl,f1.got,f2.got,abt lx f1.canon (by rw[f1.val];exact Int.ediv_le_self _ bx.1),abt ly f2.canon (by rw[f2.val];exact Int.le_of_lt (Int.emod_lt_of_pos _ (by omega))),f1.li,f2.li,⟨x1,x2,x3,x4,x5⟩,hb⟩
theorem atr(w:World)(a1 a2:Option Addr)(n1 n2 c1 c2:Nat)(xs ys:List Int)(hx:Sl w (.slice a1 n1 c1) xs)(hy:Sl w (.slice a2 n2 c2) ys)(hm1:xs.length<=1000000)(hm2:ys.length<=1000000):
  Calls Tryz.prog 157 #[.slice a1 n1 c1,.slice a2 n2 c2] w fun e w'=>∃ao cap rs,e=.returned (.slice ao rs.length cap)/\Got w' ao cap rs (val xs+val ys)/\rs.length<=xs.length+ys.length+1/\Li w.heap.size w'.heap.size w' ao cap rs/\Below w.heap.size w w':=by
 refine(ama w a1 a2 n1 n2 c1 c2 xs ys hx hy hm1 hm2).mono ?_;rintro e w' ⟨v,rfl,hi,hb⟩;obtain⟨ao,cap,rs,rfl,f⟩:=hi.fr;exact⟨ao,cap,rs,rfl,f.got,amf hx.parts.2.2.2 hy.parts.2.2.2 f.canon f.val,f.li,hb⟩
theorem anw(w:World)(a1 a2:Option Addr)(n1 n2 c1 c2:Nat)(xs ys:List Int)(hx:Sl w (.slice a1 n1 c1) xs)(hy:Sl w (.slice a2 n2 c2) ys)(hm1:xs.length<=1000000)(hge:val ys<=val xs):
  Calls Tryz.prog 158 #[.slice a1 n1 c1,.slice a2 n2 c2] w fun e w'=>∃ao cap rs,e=.returned (.tuple #[.slice ao rs.length cap,.bool true])/\Got w' ao cap rs (val xs-val ys)/\rs.length<=xs.length/\Li w.heap.size w'.heap.size w' ao cap rs/\Below w.heap.size w w':=by
 refine(amc w a1 a2 n1 n2 c1 c2 xs ys hx hy hm1 hge).mono ?_;rintro e w' ⟨v,rfl,hi,hb⟩;obtain⟨ao,cap,rs,rfl,f⟩:=hi.fr;have:=(aab hy.parts.2.2.2).1;exact⟨ao,cap,rs,rfl,f.got,abt hx.parts.2.2.2 f.canon (by rw[f.val];omega),f.li,hb⟩
end Lm
namespace Lm
open Go.RowKit
theorem aqa(w:World)(ao:Option Addr)(n cap:Nat)(zs:List Int)(h:Sl w (.slice ao n cap) zs)(hz:zs.length<=1000000):
  Calls Tryz.prog 108 #[.slice ao n cap] w fun e w'=>∃ao cap rs,e=.returned (.slice ao rs.length cap)/\Got w' ao cap rs (val zs)/\rs.length<=zs.length/\Li w.heap.size w'.heap.size w' ao cap rs/\Below w.heap.size w w':=by
 refine(acq w ao n cap zs h hz).mono ?_;rintro e w' ⟨v,rfl,ho,hb⟩;have hc:=aaw h.parts.2.2.2;obtain⟨ao',cap',rs,rfl,f⟩:=(show Is w.heap.size w' v (val zs) from⟨_,ho,hc,aad zs⟩).fr;refine⟨ao',cap',rs,rfl,f.got,?_,f.li,hb⟩;exact abt h.parts.2.2.2 f.canon (by rw[f.val];exact Int.le_refl _)
theorem axf(w:World)(a1 a2:Option Addr)(n1 n2 c1 c2:Nat)(xs ys:List Int)(hx:Sl w (.slice a1 n1 c1) xs)(hy:Sl w (.slice a2 n2 c2) ys)(hm1:xs.length<=500000)(hm2:ys.length<=500000):
  Calls Tryz.prog 71 #[.slice a1 n1 c1,.slice a2 n2 c2] w fun e w'=>∃ao cap rs,e=.returned (.slice ao rs.length cap)/\Got w' ao cap rs (val xs*val ys)/\rs.length<=xs.length+ys.length/\Li w.heap.size w'.heap.size w' ao cap rs/\Below w.heap.size w w':=by
 refine(ame w a1 a2 n1 n2 c1 c2 xs ys hx hy hm1 hm2).mono ?_;rintro e w' ⟨v,rfl,hi,hb⟩;obtain⟨ao,cap,rs,rfl,f⟩:=hi.fr;exact⟨ao,cap,rs,rfl,f.got,amg hx.parts.2.2.2 hy.parts.2.2.2 f.canon f.val,f.li,hb⟩
theorem axl(w:World)(ng:Bool)(ao:Option Addr)(n cap:Nat)(zs:List Int)(h:Sl w (.slice ao n cap) zs)(hz:zs.length<=1000000):
  Calls Tryz.prog 66 #[.agg #[.bool ng,.slice ao n cap]] w fun e w'=>∃ng' ao cap rs,e=.returned (.agg #[.bool ng',.slice ao rs.length cap])/\Wh w' ng' ao cap rs (sg ng (val zs))/\rs.length<=zs.length/\Li w.heap.size w'.heap.size w' ao cap rs/\Below w.heap.size w w':=by
 obtain⟨w0,e0,bx,br,hb0,hs0⟩:=acl w ng (.slice ao n cap);have E0:=hide e0;have h0:=h.below hb0;have HS0:=hide hs0;clear e0 hs0;go_enter Tryz.func66,Tryz.ntmps66
 go_wp2_with fail
 rw[E0.out];obtain⟨c0,c1,f0,f1⟩:=bx.facts;obtain⟨d0,d1,g0,g1⟩:=br.facts;go_region_held3 (fun w'=>w'.cell? ⟨w.heap.size,0,none⟩=some (.bool ng)/\w'.cell? ⟨w.heap.size,1,none⟩=some (.slice ao n cap)) (go_keep) (first
  | (go_at_call 108;refine(aqa _ _ _ _ zs (h0.below (by repeat(first|exact Below.refl _ _|refine Below.drew ?_))) hz).mono ?_;rintro e w1 ⟨p1,q1,r1,rfl,G1,l1,o1,hb1⟩;have hb1':Below w0.heap.size w0 w1:=(show Below w0.heap.size w0 _ by repeat(first|exact Below.refl _ _|refine Below.drew ?_)).trans hb1;have bx1:=bx.below hb1';have br1:=br.below hb1';obtain⟨i0,i1,j0,j1⟩:=bx1.facts)
  | (go_at_call 70;refine(aau _ _ _ _ r1 _ (G1.below (by repeat(first|exact Below.refl _ _|refine Below.drew ?_))) (by omega)).mono ?_;rintro e w2 ⟨ng2,rfl,G2,hb2⟩;have hb2':Below w1.heap.size w1 w2:=(show Below w1.heap.size w1 _ by repeat(first|exact Below.refl _ _|refine Below.drew ?_)).trans hb2;have bx2:=bx1.below hb2';have br2:=br1.below hb2';obtain⟨k0,k1,m0,m1⟩:=br2.facts;obtain⟨o0,o1,t0,t1⟩:=bx2.facts))
 all_goals
  have X:=hide (br2.set ng2 (.slice p1 r1.length q1)).facts;have Y:=hide (br2.wh ng2 (.slice p1 r1.length q1) G2);have Z:=hide (aaj (hb0.trans ((hb1'.trans (hb2'.mono hb1'.size)).mono hb0.size)) (Nat.le_succ _) (.bool ng2) (.slice p1 r1.length q1));clear k0 k1 m0 m1 o0 o1 t0 t1 i0 i1 j0 j1 c0 c1 f0 f1 d0 d1 g0 g1;have hs9:=HS0.out;have o1:Li w0.heap.size w1.heap.size w1 p1 q1 r1:=o1;have s_1:=hb1'.size;have s_2:=hb2'.size;have O1:=hide ((o1.below hb2').set2 (w.heap.size+1) (by omega) (.bool ng2) (.slice p1 r1.length q1));have O2:=hide (show Li w.heap.size _ _ p1 q1 r1 from⟨O1.out.ow.mono (by omega),fun h0 g off e=>by have:=O1.out.lies h0 g off e;exact⟨by omega,Nat.lt_of_lt_of_le this.2 (show w1.heap.size<=((w2.setCell ⟨w.heap.size+1,0,none⟩ (.bool ng2)).setCell ⟨w.heap.size+1,1,none⟩ (.slice p1 r1.length q1)).heap.size by simp[World.setCell];exact s_2)⟩⟩);clear O1;go_wp2;refine bodyPost_ret (v:=.agg #[.bool ng2,.slice p1 r1.length q1]) ?_ rfl ⟨ng2,p1,q1,r1,rfl,Y.out,l1,O2.out,Z.out⟩;simp[results,Tryz.results66,go_sem,X.out.1,X.out.2.1]
theorem awa(w:World)(ng:Bool)(ao:Option Addr)(n cap:Nat)(zs:List Int)(h:Sl w (.slice ao n cap) zs)(hz:zs.length<=1000000):
  Calls Tryz.prog 76 #[.agg #[.bool ng,.slice ao n cap]] w fun e w'=>∃ng' ao cap rs,e=.returned (.agg #[.bool ng',.slice ao rs.length cap])/\Wh w' ng' ao cap rs (-sg ng (val zs))/\rs.length<=zs.length/\Li w.heap.size w'.heap.size w' ao cap rs/\Below w.heap.size w w':=by
 obtain⟨w0,e0,bx,br,hb0,hs0⟩:=acl w ng (.slice ao n cap);have E0:=hide e0;have h0:=h.below hb0;have HS0:=hide hs0;clear e0 hs0;go_enter Tryz.func76,Tryz.ntmps76
 go_wp2_with fail
 rw[E0.out];obtain⟨c0,c1,f0,f1⟩:=bx.facts;obtain⟨d0,d1,g0,g1⟩:=br.facts;go_region_held3 (fun w'=>w'.cell? ⟨w.heap.size,0,none⟩=some (.bool ng)/\w'.cell? ⟨w.heap.size,1,none⟩=some (.slice ao n cap)) (go_keep) (first
  | (go_at_call 108;refine(aqa _ _ _ _ zs (h0.below (by repeat(first|exact Below.refl _ _|refine Below.drew ?_))) hz).mono ?_;rintro e w1 ⟨p1,q1,r1,rfl,G1,l1,o1,hb1⟩;have hb1':Below w0.heap.size w0 w1:=(show Below w0.heap.size w0 _ by repeat(first|exact Below.refl _ _|refine Below.drew ?_)).trans hb1;have bx1:=bx.below hb1';obtain⟨bx1a,bx1b,bx1c,bx1d⟩:=bx1.facts;have br1:=br.below hb1';obtain⟨br1a,br1b,br1c,br1d⟩:=br1.facts)
  | (go_at_call 70;refine(aau _ _ _ _ r1 _ (G1.below (by repeat(first|exact Below.refl _ _|refine Below.drew ?_))) (by omega)).mono ?_;rintro e w2 ⟨ng2,rfl,G2,hb2⟩;have hb2':Below w1.heap.size w1 w2:=(show Below w1.heap.size w1 _ by repeat(first|exact Below.refl _ _|refine Below.drew ?_)).trans hb2;have bx2:=bx1.below hb2';obtain⟨bx2a,bx2b,bx2c,bx2d⟩:=bx2.facts;have br2:=br1.below hb2';obtain⟨br2a,br2b,br2c,br2d⟩:=br2.facts))
 all_goals
  have X:=hide (br2.set ng2 (.slice p1 r1.length q1)).facts;have Y:=hide (br2.wh ng2 (.slice p1 r1.length q1) G2);have Z:=hide (aaj (hb0.trans ((hb1'.trans (hb2'.mono hb1'.size)).mono hb0.size)) (Nat.le_succ _) (.bool ng2) (.slice p1 r1.length q1));clear bx2a bx2b bx2c bx2d br2a br2b br2c br2d bx1a bx1b bx1c bx1d br1a br1b br1c br1d c0 c1 f0 f1 d0 d1 g0 g1;have hs9:=HS0.out;have o1:Li w0.heap.size w1.heap.size w1 p1 q1 r1:=o1;have s_1:=hb1'.size;have s_2:=hb2'.size;have O1:=hide ((o1.below hb2').set2 (w.heap.size+1) (by omega) (.bool ng2) (.slice p1 r1.length q1));have O2:=hide (show Li w.heap.size _ _ p1 q1 r1 from⟨O1.out.ow.mono (by omega),fun h0 g off e=>by have:=O1.out.lies h0 g off e;exact⟨by omega,Nat.lt_of_lt_of_le this.2 (show w1.heap.size<=((w2.setCell ⟨w.heap.size+1,0,none⟩ (.bool ng2)).setCell ⟨w.heap.size+1,1,none⟩ (.slice p1 r1.length q1)).heap.size by simp[World.setCell];exact s_2)⟩⟩);clear O1;go_wp2;refine bodyPost_ret (v:=.agg #[.bool ng2,.slice p1 r1.length q1]) ?_ rfl ⟨ng2,p1,q1,r1,rfl,by rw[<-apa];exact Y.out,l1,O2.out,Z.out⟩;simp[results,Tryz.results76,go_sem,X.out.1,X.out.2.1]
theorem anx(w:World)(nx:Bool)(a1:Option Addr)(n1 c1:Nat)(xs:List Int)(hx:Sl w (.slice a1 n1 c1) xs)(a2:Option Addr)(n2 c2:Nat)(ys:List Int)(hy:Sl w (.slice a2 n2 c2) ys)(hm1:xs.length<=400000)(hm2:ys.length<=400000):
  Calls Tryz.prog 139 #[.agg #[.bool nx,.slice a1 n1 c1],.bool nx,.slice a2 n2 c2] w fun e w'=>∃ng' ao cap rs,e=.returned (.agg #[.bool ng',.slice ao rs.length cap])/\Wh w' ng' ao cap rs (sg nx (val xs)+sg nx (val ys))/\rs.length<=xs.length+ys.length+1/\Li w.heap.size w'.heap.size w' ao cap rs/\Below w.heap.size w w':=by
 obtain⟨w0,e0,bx,br,hb0,hs0⟩:=acl w nx (.slice a1 n1 c1);have E0:=hide e0;have hx0:=hx.below hb0;have hy0:=hy.below hb0;have HS0:=hide hs0;clear e0 hs0;go_enter Tryz.func139,Tryz.ntmps139
 go_wp2_with fail
 rw[E0.out];obtain⟨ca,cb,cc,cd⟩:=bx.facts;obtain⟨da,db,dc,dd⟩:=br.facts;refine(atr _ _ _ _ _ _ _ xs ys hx0 hy0 (by omega) (by omega)).mono ?_;rintro e w1 ⟨p1,q1,r1,rfl,G1,l1,o1,hb1⟩;go_wp2_with fail
 refine(aau _ _ _ _ r1 _ G1 (by omega)).mono ?_;rintro e w2 ⟨ng2,rfl,G2,hb2⟩;have br2:=(br.below hb1).below hb2;obtain⟨ka,kb,kc,kd⟩:=br2.facts;have X:=hide (br2.set ng2 (.slice p1 r1.length q1)).facts;have Y:=hide (br2.wh ng2 (.slice p1 r1.length q1) G2);have Z:=hide (aaj (hb0.trans ((hb1.trans (hb2.mono hb1.size)).mono hb0.size)) (Nat.le_succ _) (.bool ng2) (.slice p1 r1.length q1))
 skip;have hs9:=HS0.out;have s_1:=hb1.size;have s_2:=hb2.size;have O1:=hide ((o1.below hb2).set2 (w.heap.size+1) (by omega) (.bool ng2) (.slice p1 r1.length q1));have O2:=hide (show Li w.heap.size _ _ p1 q1 r1 from⟨O1.out.ow.mono (by omega),fun h0 g off e=>by have:=O1.out.lies h0 g off e;exact⟨by omega,Nat.lt_of_lt_of_le this.2 (show w1.heap.size<=((w2.setCell ⟨w.heap.size+1,0,none⟩ (.bool ng2)).setCell ⟨w.heap.size+1,1,none⟩ (.slice p1 r1.length q1)).heap.size by simp[World.setCell];exact s_2)⟩⟩);clear O1;go_wp2;refine bodyPost_ret (v:=.agg #[.bool ng2,.slice p1 r1.length q1]) ?_ rfl ⟨ng2,p1,q1,r1,rfl,by rw[<-apb];exact Y.out,by omega,O2.out,Z.out⟩;simp[results,Tryz.results139,go_sem,X.out.1,X.out.2.1]
theorem asj(w:World)(nx:Bool)(a1:Option Addr)(n1 c1:Nat)(xs:List Int)(hx:Sl w (.slice a1 n1 c1) xs)(a2:Option Addr)(n2 c2:Nat)(ys:List Int)(hy:Sl w (.slice a2 n2 c2) ys)(hm1:xs.length<=400000)(hm2:ys.length<=400000)(hge:val ys<=val xs):
  Calls Tryz.prog 139 #[.agg #[.bool nx,.slice a1 n1 c1],.bool (!nx),.slice a2 n2 c2] w fun e w'=>∃ng' ao cap rs,e=.returned (.agg #[.bool ng',.slice ao rs.length cap])/\Wh w' ng' ao cap rs (sg nx (val xs)+sg (!nx) (val ys))/\rs.length<=xs.length+ys.length+1/\Li w.heap.size w'.heap.size w' ao cap rs/\Below w.heap.size w w':=by
 obtain⟨w0,e0,bx,br,hb0,hs0⟩:=acl w nx (.slice a1 n1 c1);have E0:=hide e0;have hx0:=hx.below hb0;have hy0:=hy.below hb0;have HS0:=hide hs0;clear e0 hs0;cases nx
 all_goals
  go_enter Tryz.func139,Tryz.ntmps139
  go_wp2_with fail
  rw[E0.out];obtain⟨ca,cb,cc,cd⟩:=bx.facts;obtain⟨da,db,dc,dd⟩:=br.facts;refine(anw _ _ _ _ _ _ _ xs ys hx0 hy0 (by omega) hge).mono ?_;rintro e w1 ⟨p1,q1,r1,rfl,G1,l1,o1,hb1⟩;have bx1:=bx.below hb1;obtain⟨ia,ib,ic,id⟩:=bx1.facts;go_wp2_with fail
  refine(aau _ _ _ _ r1 _ G1 (by omega)).mono ?_;rintro e w2 ⟨ng2,rfl,G2,hb2⟩;have br2:=(br.below hb1).below hb2;obtain⟨ka,kb,kc,kd⟩:=br2.facts;have X:=hide (br2.set ng2 (.slice p1 r1.length q1)).facts;have Y:=hide (br2.wh ng2 (.slice p1 r1.length q1) G2);have Z:=hide (aaj (hb0.trans ((hb1.trans (hb2.mono hb1.size)).mono hb0.size)) (Nat.le_succ _) (.bool ng2) (.slice p1 r1.length q1))
  skip;have hs9:=HS0.out;have s_1:=hb1.size;have s_2:=hb2.size;have O1:=hide ((o1.below hb2).set2 (w.heap.size+1) (by omega) (.bool ng2) (.slice p1 r1.length q1));have O2:=hide (show Li w.heap.size _ _ p1 q1 r1 from⟨O1.out.ow.mono (by omega),fun h0 g off e=>by have:=O1.out.lies h0 g off e;exact⟨by omega,Nat.lt_of_lt_of_le this.2 (show w1.heap.size<=((w2.setCell ⟨w.heap.size+1,0,none⟩ (.bool ng2)).setCell ⟨w.heap.size+1,1,none⟩ (.slice p1 r1.length q1)).heap.size by simp[World.setCell];exact s_2)⟩⟩);clear O1;go_wp2;refine bodyPost_ret (v:=.agg #[.bool ng2,.slice p1 r1.length q1]) ?_ rfl ⟨ng2,p1,q1,r1,rfl,by rw[<-apc];exact Y.out,by omega,O2.out,Z.out⟩;simp[results,Tryz.results139,go_sem,X.out.1,X.out.2.1]
theorem ask(w:World)(nx:Bool)(a1:Option Addr)(n1 c1:Nat)(xs:List Int)(hx:Sl w (.slice a1 n1 c1) xs)(a2:Option Addr)(n2 c2:Nat)(ys:List Int)(hy:Sl w (.slice a2 n2 c2) ys)(hm1:xs.length<=400000)(hm2:ys.length<=400000)(hlt:val xs<val ys):
  Calls Tryz.prog 139 #[.agg #[.bool nx,.slice a1 n1 c1],.bool (!nx),.slice a2 n2 c2] w fun e w'=>∃ng' ao cap rs,e=.returned (.agg #[.bool ng',.slice ao rs.length cap])/\Wh w' ng' ao cap rs (sg nx (val xs)+sg (!nx) (val ys))/\rs.length<=xs.length+ys.length+1/\Li w.heap.size w'.heap.size w' ao cap rs/\Below w.heap.size w w':=by
 obtain⟨w0,e0,bx,br,hb0,hs0⟩:=acl w nx (.slice a1 n1 c1);have E0:=hide e0;have hx0:=hx.below hb0;have hy0:=hy.below hb0;have HS0:=hide hs0;clear e0 hs0;cases nx
 all_goals
  go_enter Tryz.func139,Tryz.ntmps139
  go_wp2_with fail
  rw[E0.out];obtain⟨ca,cb,cc,cd⟩:=bx.facts;obtain⟨da,db,dc,dd⟩:=br.facts;refine(aow _ _ _ _ _ _ _ xs ys hx0 hy0 hlt).mono ?_;rintro e w9 ⟨rfl,hb9⟩;have hx9:=hx0.below hb9;have hy9:=hy0.below hb9;have bx9:=bx.below hb9;have br9:=br.below hb9;obtain⟨ia,ib,ic,id⟩:=bx9.facts;go_wp2_with fail
  refine(anw _ _ _ _ _ _ _ ys xs hy9 hx9 (by omega) (by omega)).mono ?_;rintro e w1 ⟨p1,q1,r1,rfl,G1,l1,o1,hb1⟩;go_wp2_with fail
  refine(aau _ _ _ _ r1 _ G1 (by omega)).mono ?_;rintro e w2 ⟨ng2,rfl,G2,hb2⟩;have br2:=(br9.below hb1).below hb2;obtain⟨ka,kb,kc,kd⟩:=br2.facts;have X:=hide (br2.set ng2 (.slice p1 r1.length q1)).facts;have Y:=hide (br2.wh ng2 (.slice p1 r1.length q1) G2);have Z:=hide (aaj (hb0.trans ((hb9.trans ((hb1.trans (hb2.mono hb1.size)).mono hb9.size)).mono hb0.size)) (Nat.le_succ _) (.bool ng2) (.slice p1 r1.length q1))
  skip;have hs9:=HS0.out;have s_9:=hb9.size;have s_1:=hb1.size;have s_2:=hb2.size;have O1:=hide ((o1.below hb2).set2 (w.heap.size+1) (by omega) (.bool ng2) (.slice p1 r1.length q1));have O2:=hide (show Li w.heap.size _ _ p1 q1 r1 from⟨O1.out.ow.mono (by omega),fun h0 g off e=>by have:=O1.out.lies h0 g off e;exact⟨by omega,Nat.lt_of_lt_of_le this.2 (show w1.heap.size<=((w2.setCell ⟨w.heap.size+1,0,none⟩ (.bool ng2)).setCell ⟨w.heap.size+1,1,none⟩ (.slice p1 r1.length q1)).heap.size by simp[World.setCell];exact s_2)⟩⟩);clear O1;go_wp2;refine bodyPost_ret (v:=.agg #[.bool ng2,.slice p1 r1.length q1]) ?_ rfl ⟨ng2,p1,q1,r1,rfl,by rw[<-ami];exact Y.out,by omega,O2.out,Z.out⟩;simp[results,Tryz.results139,go_sem,X.out.1,X.out.2.1]
theorem awb(w:World)(nx:Bool)(a1:Option Addr)(n1 c1:Nat)(xs:List Int)(hx:Sl w (.slice a1 n1 c1) xs)(ny:Bool)(a2:Option Addr)(n2 c2:Nat)(ys:List Int)(hy:Sl w (.slice a2 n2 c2) ys)(hm1:xs.length<=400000)(hm2:ys.length<=400000):
  Calls Tryz.prog 139 #[.agg #[.bool nx,.slice a1 n1 c1],.bool ny,.slice a2 n2 c2] w fun e w'=>∃ng' ao cap rs,e=.returned (.agg #[.bool ng',.slice ao rs.length cap])/\Wh w' ng' ao cap rs (sg nx (val xs)+sg ny (val ys))/\rs.length<=xs.length+ys.length+1/\Li w.heap.size w'.heap.size w' ao cap rs/\Below w.heap.size w w':=by
 by_cases hn:ny=nx
 ·subst hn;exact anx w ny a1 n1 c1 xs hx a2 n2 c2 ys hy hm1 hm2
 ·have hn':ny = !nx:=by cases nx <;> cases ny <;> simp_all
  subst hn';by_cases h:val ys<=val xs
  ·exact asj w nx a1 n1 c1 xs hx a2 n2 c2 ys hy hm1 hm2 h
  ·exact ask w nx a1 n1 c1 xs hx a2 n2 c2 ys hy hm1 hm2 (by omega)
theorem awc(w:World)(nx:Bool)(a1:Option Addr)(n1 c1:Nat)(xs:List Int)(hx:Sl w (.slice a1 n1 c1) xs)(ny:Bool)(a2:Option Addr)(n2 c2:Nat)(ys:List Int)(hy:Sl w (.slice a2 n2 c2) ys)(hm1:xs.length<=400000)(hm2:ys.length<=400000):
  Calls Tryz.prog 107 #[.agg #[.bool nx,.slice a1 n1 c1],.agg #[.bool ny,.slice a2 n2 c2]] w fun e w'=>∃ng' ao cap rs,e=.returned (.agg #[.bool ng',.slice ao rs.length cap])/\Wh w' ng' ao cap rs (sg nx (val xs)+sg ny (val ys))/\rs.length<=xs.length+ys.length+1/\Li w.heap.size w'.heap.size w' ao cap rs/\Below w.heap.size w w':=by
 obtain⟨w0,e0,bx,by',br,hb0,hs0⟩:=aeq w nx (.slice a1 n1 c1) ny (.slice a2 n2 c2);have E0:=hide e0;have hx0:=hx.below hb0;have hy0:=hy.below hb0;have HS0:=hide hs0;clear e0 hs0;go_enter Tryz.func107,Tryz.ntmps107
 go_wp2_with fail
 rw[E0.out];obtain⟨ca,cb,cc,cd⟩:=bx.facts;obtain⟨ea,eb,ec,ed⟩:=by'.facts;obtain⟨da,db,dc,dd⟩:=br.facts;refine(awb _ nx _ _ _ xs hx0 ny _ _ _ ys hy0 hm1 hm2).mono ?_;rintro e w1 ⟨ng2,p1,q1,r1,rfl,G2,l1,o1,hb1⟩;have br2:=br.below hb1;obtain⟨ka,kb,kc,kd⟩:=br2.facts;have X:=hide (br2.set ng2 (.slice p1 r1.length q1)).facts;have Y:=hide (br2.wh ng2 (.slice p1 r1.length q1) G2);have Z:=hide (aaj (hb0.trans (hb1.mono hb0.size)) (Nat.le_add_right _ 2) (.bool ng2) (.slice p1 r1.length q1))
 skip;have hs9:=HS0.out;have s_1:=hb1.size;have O1:=hide (o1.set2 (w.heap.size+1+1) (by omega) (.bool ng2) (.slice p1 r1.length q1));have O2:=hide (show Li w.heap.size _ _ p1 q1 r1 from⟨O1.out.ow.mono (by omega),fun h0 g off e=>by have:=O1.out.lies h0 g off e;exact⟨by omega,Nat.lt_of_lt_of_le this.2 (show w1.heap.size<=((w1.setCell ⟨w.heap.size+1+1,0,none⟩ (.bool ng2)).setCell ⟨w.heap.size+1+1,1,none⟩ (.slice p1 r1.length q1)).heap.size by simp[World.setCell])⟩⟩);clear O1;go_wp2;refine bodyPost_ret (v:=.agg #[.bool ng2,.slice p1 r1.length q1]) ?_ rfl ⟨ng2,p1,q1,r1,rfl,Y.out,by omega,O2.out,Z.out⟩;simp[results,Tryz.results107,go_sem,X.out.1,X.out.2.1]
theorem awd(w:World)(nx:Bool)(a1:Option Addr)(n1 c1:Nat)(xs:List Int)(hx:Sl w (.slice a1 n1 c1) xs)(ny:Bool)(a2:Option Addr)(n2 c2:Nat)(ys:List Int)(hy:Sl w (.slice a2 n2 c2) ys)(hm1:xs.length<=400000)(hm2:ys.length<=400000):
  Calls Tryz.prog 34 #[.agg #[.bool nx,.slice a1 n1 c1],.agg #[.bool ny,.slice a2 n2 c2]] w fun e w'=>∃ng' ao cap rs,e=.returned (.agg #[.bool ng',.slice ao rs.length cap])/\Wh w' ng' ao cap rs (sg nx (val xs)*sg ny (val ys))/\rs.length<=xs.length+ys.length/\Li w.heap.size w'.heap.size w' ao cap rs/\Below w.heap.size w w':=by
 obtain⟨w0,e0,bx,by',br,hb0,hs0⟩:=aeq w nx (.slice a1 n1 c1) ny (.slice a2 n2 c2);have E0:=hide e0;have hx0:=hx.below hb0;have hy0:=hy.below hb0;have HS0:=hide hs0;clear e0 hs0;have q1':(w.heap.size=w.heap.size+1+1)=False:=by simp;omega
 have q2':(w.heap.size+1+1=w.heap.size)=False:=by simp;omega
 go_enter Tryz.func34,Tryz.ntmps34
 go_wp2_with fail
 rw[E0.out];obtain⟨ca,cb,cc,cd⟩:=bx.facts;obtain⟨ea,eb,ec,ed⟩:=by'.facts;obtain⟨da,db,dc,dd⟩:=br.facts;go_region_held3 (fun w'=>w'.cell? ⟨w.heap.size,0,none⟩=some (.bool nx)/\w'.cell? ⟨w.heap.size,1,none⟩=some (.slice a1 n1 c1)/\w'.cell? ⟨w.heap.size+1,0,none⟩=some (.bool ny)/\w'.cell? ⟨w.heap.size+1,1,none⟩=some (.slice a2 n2 c2)) (go_keep) (first
  | (go_at_call 71;refine(axf _ _ _ _ _ _ _ xs ys (hx0.below (by repeat(first|exact Below.refl _ _|refine Below.drew ?_))) (hy0.below (by repeat(first|exact Below.refl _ _|refine Below.drew ?_))) (by omega) (by omega)).mono ?_;rintro e w1 ⟨p1,q1,r1,rfl,G1,l1,o1,hb1⟩;have hb1':Below w0.heap.size w0 w1:=(show Below w0.heap.size w0 _ by repeat(first|exact Below.refl _ _|refine Below.drew ?_)).trans hb1;have bx1:=bx.below hb1';obtain⟨bx1a,bx1b,bx1c,bx1d⟩:=bx1.facts;have by1:=by'.below hb1';obtain⟨by1a,by1b,by1c,by1d⟩:=by1.facts;have br1:=br.below hb1';obtain⟨br1a,br1b,br1c,br1d⟩:=br1.facts)
  | (go_at_call 70;refine(aau _ _ _ _ r1 _ (G1.below (by repeat(first|exact Below.refl _ _|refine Below.drew ?_))) (by omega)).mono ?_;rintro e w2 ⟨ng2,rfl,G2,hb2⟩;have hb2':Below w1.heap.size w1 w2:=(show Below w1.heap.size w1 _ by repeat(first|exact Below.refl _ _|refine Below.drew ?_)).trans hb2;have bx2:=bx1.below hb2';obtain⟨bx2a,bx2b,bx2c,bx2d⟩:=bx2.facts;have by2:=by1.below hb2';obtain⟨by2a,by2b,by2c,by2d⟩:=by2.facts;have br2:=br1.below hb2';obtain⟨br2a,br2b,br2c,br2d⟩:=br2.facts))
 all_goals
  clear bx1a bx1b bx1c bx1d by1a by1b by1c by1d br1a br1b br1c br1d bx2a bx2b bx2c bx2d by2a by2b by2c by2d ca cb cc cd da db dc dd ea eb ec ed q1' q2';have X:=hide (br2.set ng2 (.slice p1 r1.length q1)).facts;have Y:=hide (br2.wh ng2 (.slice p1 r1.length q1) G2);have Z:=hide (aaj (hb0.trans ((hb1'.trans (hb2'.mono hb1'.size)).mono hb0.size)) (Nat.le_add_right _ 2) (.bool ng2) (.slice p1 r1.length q1))
  skip;have hs9:=HS0.out;have o1:Li w0.heap.size w1.heap.size w1 p1 q1 r1:=o1;have s_1:=hb1'.size;have s_2:=hb2'.size;have O1:=hide ((o1.below hb2').set2 (w.heap.size+1+1) (by omega) (.bool ng2) (.slice p1 r1.length q1));have O2:=hide (show Li w.heap.size _ _ p1 q1 r1 from⟨O1.out.ow.mono (by omega),fun h0 g off e=>by have:=O1.out.lies h0 g off e;exact⟨by omega,Nat.lt_of_lt_of_le this.2 (show w1.heap.size<=((w2.setCell ⟨w.heap.size+1+1,0,none⟩ (.bool ng2)).setCell ⟨w.heap.size+1+1,1,none⟩ (.slice p1 r1.length q1)).heap.size by simp[World.setCell];exact s_2)⟩⟩);clear O1;go_wp2;refine bodyPost_ret (v:=.agg #[.bool ng2,.slice p1 r1.length q1]) ?_ rfl ⟨ng2,p1,q1,r1,rfl,by rw[<-apd];exact Y.out,by omega,O2.out,Z.out⟩;simp[results,Tryz.results34,go_sem,X.out.1,X.out.2.1]
end Lm
namespace Lm
open Go Go.RowKit
open Dm (WFr)
theorem Ow.ru{B:Nat}{w w':World}{v:Value}{zs:List Int}(h:Ow B w v zs)(hr:Ru w w'):Ow B w' v zs:=by
 obtain⟨ao,cap,rfl,h1,h2,h3,h4⟩:=h;refine⟨ao,cap,rfl,h1,h2,h3,?_⟩;rcases h4 with h4|⟨g,off,cur,rfl,hB,hh,r⟩
 ·exact .inl h4
 ·exact .inr ⟨g,off,cur,rfl,hB,hr.rows g cur hh,r⟩
theorem Fr.ru{B T:Nat}{w w':World}{ao:Option Addr}{cap:Nat}{rs:List Int}{x:Int}(h:Fr B T w ao cap rs x)(hr:Ru w w'):Fr B T w' ao cap rs x:=⟨h.ow.ru hr,h.canon,h.val,h.lies⟩
theorem _root_.Go.Proofs.YtooefpkhacecnaaGreatDoor.Dm.WFr.ru{B T:Nat}{w w':World}{ng:Bool}{ao:Option Addr}{cap:Nat}{rs:List Int}{z:Int}(h:WFr B T w ng ao cap rs z)(hr:Ru w w'):WFr B T w' ng ao cap rs z:=⟨h.fr.ru hr,h.sgn⟩
theorem IsR.mono5(p q:Int)(L:Nat):Mono5 (IsR p q L):=fun _ _ _ hr ⟨ng,ao,n,cap,xs,bo,m,dap,ys,e,h1,h2,h3,l1,l2⟩=>⟨ng,ao,n,cap,xs,bo,m,dap,ys,e,h1.ru hr,h2.ru hr,h3,l1,l2⟩
def FrW(K:Nat)(z:Int)(L:Nat):Says:=fun v w=>∃ng ao cap rs B T,v=.agg #[.bool ng,.slice ao rs.length cap]/\WFr B T w ng ao cap rs z/\K<=B/\T<=w.heap.size/\rs.length<=L
theorem FrW.mono5(K:Nat)(z:Int)(L:Nat):Mono5 (FrW K z L):=fun _ _ _ hr ⟨ng,ao,cap,rs,B,T,e,h,h1,h2,l⟩=>⟨ng,ao,cap,rs,B,T,e,h.ru hr,h1,Nat.le_trans h2 hr.size,l⟩
theorem FrW.out{z:Int}{L K:Nat}{v:Value}{w:World}: FrW K z L v w->OutW z L v w:=fun⟨ng,ao,cap,rs,_,_,e,h,_,_,l⟩=>⟨ng,ao,cap,rs,e,h.wh,l⟩
section
end
section
variable {dst:Option Tmp} {ty:TypeId} {pos:String} {after:Array Edge} {guard:Option (Nat×Bool)} {a:Act} {w:World} {ats:Array TypeId} {i j:Nat} {x y z u:Int} {L L1 L2:Nat}
theorem asl{b:Bool}(h1:a.eval (.tmp i)=.bool b)(h2:a.eval (.tmp j)=.bool b):
  Does Tryz.prog {dst,op:=.binOp .eql 4 (.tmp i) (.tmp j) 4,type:=ty,pos,after,guard} a.eval w fun v' w'=>Below w.heap.size w w'/\Eqs (.bool true) v' w':=by
 have:=auh (dst:=dst) (ty:=ty) (pos:=pos) (after:=after) (guard:=guard) (w:=w) h1 h2;rwa[beq_self_eq_true]at this
end
section
end
theorem asm{ng:Bool}{ao:Option Addr}{n c:Nat}{w:World}{xs:List Int}{z:Int}(h:Ag w ng ao n c xs z):∃m,IsLen (z.natAbs:Int) m:=by
 have hv:=(aab h.sl.parts.2.2.2).1;refine⟨_,xs.take (tl xs),aaw h.sl.parts.2.2.2,?_,rfl⟩;rw[aad,<-h.worth];cases ng <;> simp[sg] <;> omega
end Lm
namespace Lm
open Go.RowKit
theorem akl(w:World)(a1:Option Addr)(n1 c1:Nat)(xs:List Int)(hx:Sl w (.slice a1 n1 c1) xs)(ny:Bool)(a2:Option Addr)(n2 c2:Nat)(ys:List Int)(hy:Sl w (.slice a2 n2 c2) ys)(hm1:xs.length<=400000)(hm2:ys.length<=400000)(h0:val ys≠0):
  Calls Tryz.prog 125 #[.agg #[.bool false,.slice a1 n1 c1],.agg #[.bool ny,.slice a2 n2 c2]] w fun e w'=>∃nq aq cq qs nr ar cr rs B1 T1 B2 T2,e=.returned (.tuple #[.agg #[.bool nq,.slice aq qs.length cq],.agg #[.bool nr,.slice ar rs.length cr],.bool true])/\Wh w' nq aq cq qs (sg false (val xs)/sg ny (val ys))/\Wh w' nr ar cr rs (sg false (val xs)%sg ny (val ys))/\qs.length<=xs.length+4/\rs.length<=ys.length/\Li B1 T1 w' aq cq qs/\Li B2 T2 w' ar cr rs/\(w.heap.size<=B1/\T1<=w'.heap.size/\w.heap.size<=B2/\T2<=w'.heap.size/\∀j,B1<=j->j<T1->j<B2\/T2<=j)/\Below w.heap.size w w':=by
 obtain⟨w0,e0,bx,by',bq,br,hb0,hs0⟩:=ahv w false (.slice a1 n1 c1) ny (.slice a2 n2 c2);have E0:=hide e0;have hx0:=hx.below hb0;have hy0:=hy.below hb0;have HS0:=hide hs0;clear e0 hs0;have PY:Hid (0<val ys):=by have:=(aab hy.parts.2.2.2).1;show _<_;omega
 have LY:=hide hy.parts.2.2.2;have H0:=hide h0;clear h0;go_enter Tryz.func125,Tryz.ntmps125
 go_wp2_with fail
 rw[E0.out];refine(ag9 _ _ _ _ _ _ _ xs ys hx0 hy0 (by omega) H0.out).mono ?_;rintro e w1 ⟨p1,q1,r1,p2,q2,r2,B1,T1,B2,T2,rfl,G1,G2,l1,l2,o1,o2,oo,hb1⟩;have HB:Below w0.heap.size w0 w1:=hb1;obtain⟨xa,xb,xc,xd⟩:=(bx.below HB).facts;obtain⟨ya,yb,yc,yd⟩:=(by'.below HB).facts;go_wp2_with fail
 refine(aau _ _ _ _ r1 _ G1 (by omega)).mono ?_;rintro e w7 ⟨ng7,rfl,G7,hb7⟩;replace HB:=HB.trans (hb7.mono HB.size);have G2':=G2.below hb7;clear xa xb xc xd ya yb yc yd;obtain⟨xa,xb,xc,xd⟩:=(bx.below HB).facts;obtain⟨ya,yb,yc,yd⟩:=(by'.below HB).facts;go_wp2_with fail
 refine(aau _ _ _ _ r2 _ G2' (by omega)).mono ?_;rintro e w8 ⟨ng8,rfl,G8,hb8⟩;replace HB:=HB.trans (hb8.mono HB.size);replace G7:=G7.below hb8;clear xa xb xc xd ya yb yc yd;have bq8:=bq.below HB;have br8:=br.below HB;obtain⟨qa,qb,qc,qd⟩:=bq8.facts;obtain⟨ra,rb,rc,rd⟩:=br8.facts;have VQ:Hid (sg ny (val xs/val ys)=sg false (val xs)/sg ny (val ys)/\sg false (val xs%val ys)=sg false (val xs)%sg ny (val ys)):=by have h:=akh ny (val xs) (val ys);rwa[show(false != ny)=ny by cases ny <;> rfl]at h
 have Y1:=hide ((br8.other (show w.heap.size+1+1+1≠w.heap.size+1+1 by omega) (.bool ng7) (.slice p1 r1.length q1)).wh ng8 (.slice p2 r2.length q2) (bq8.wh ng7 (.slice p1 r1.length q1) G7));have Y2:=hide ((br8.other (show w.heap.size+1+1+1≠w.heap.size+1+1 by omega) (.bool ng7) (.slice p1 r1.length q1)).wh ng8 (.slice p2 r2.length q2) (bq8.wh ng7 (.slice p1 r1.length q1) G8));have F:=hide (agb (nq:=ng7) (vq:=.slice p1 r1.length q1) (nr:=ng8) (vr:=.slice p2 r2.length q2) bq8 br8 (by omega));have Z:=hide (hb0.trans (HB.mono hb0.size));have Z2:=hide (aaj (aaj Z.out (show w.heap.size<=w.heap.size+1+1 by omega) (.bool ng7) (.slice p1 r1.length q1)) (show w.heap.size<=w.heap.size+1+1+1 by omega) (.bool ng8) (.slice p2 r2.length q2));have hs9:=HS0.out;have s_hb1:=hb1.size;have s_hb7:=hb7.size;have s_hb8:=hb8.size;obtain⟨oo1,oo2,oo3,oo4,oo5⟩:=oo;have O1:=hide ((((o1.below hb7).below hb8).set2 (w.heap.size+1+1) (by omega) (.bool ng7) (.slice p1 r1.length q1)).set2 (w.heap.size+1+1+1) (by omega) (.bool ng8) (.slice p2 r2.length q2));have O2:=hide ((((o2.below hb7).below hb8).set2 (w.heap.size+1+1) (by omega) (.bool ng7) (.slice p1 r1.length q1)).set2 (w.heap.size+1+1+1) (by omega) (.bool ng8) (.slice p2 r2.length q2));have hsz:((((w8.setCell ⟨w.heap.size+1+1,0,none⟩ (.bool ng7)).setCell ⟨w.heap.size+1+1,1,none⟩ (.slice p1 r1.length q1)).setCell ⟨w.heap.size+1+1+1,0,none⟩ (.bool ng8)).setCell ⟨w.heap.size+1+1+1,1,none⟩ (.slice p2 r2.length q2)).heap.size=w8.heap.size:=by simp[World.setCell]
 have OO:Hid (B1≥w.heap.size/\T1<=w8.heap.size/\B2≥w.heap.size/\T2<=w8.heap.size/\∀j,B1<=j->j<T1->j<B2\/T2<=j):=⟨by omega,by omega,by omega,by omega,oo5⟩;rw[<-hsz]at OO;clear hsz;go_wp2;refine bodyPost_ret (v:=.tuple #[.agg #[.bool ng7,.slice p1 r1.length q1],.agg #[.bool ng8,.slice p2 r2.length q2],.bool true]) ?_ rfl ⟨ng7,p1,q1,r1,ng8,p2,q2,r2,B1,T1,B2,T2,rfl,by rw[<-VQ.out.1];exact Y1.out,by rw[<-VQ.out.2];exact Y2.out,by omega,by omega,O1.out,O2.out,OO.out,Z2.out⟩;simp[results,Tryz.results125,go_sem,F.out.1.facts.1,F.out.1.facts.2.1,F.out.2.facts.1,F.out.2.facts.2.1]
theorem aji(w:World)(a1:Option Addr)(n1 c1:Nat)(xs:List Int)(hx:Sl w (.slice a1 n1 c1) xs)(ny:Bool)(a2:Option Addr)(n2 c2:Nat)(ys:List Int)(hy:Sl w (.slice a2 n2 c2) ys)(hm1:xs.length<=400000)(_hm2:ys.length<=400000)(h0:val ys≠0)(hev:val xs%val ys=0):
  Calls Tryz.prog 125 #[.agg #[.bool true,.slice a1 n1 c1],.agg #[.bool ny,.slice a2 n2 c2]] w fun e w'=>∃nq aq cq qs nr ar cr rs B1 T1 B2 T2,e=.returned (.tuple #[.agg #[.bool nq,.slice aq qs.length cq],.agg #[.bool nr,.slice ar rs.length cr],.bool true])/\Wh w' nq aq cq qs (sg true (val xs)/sg ny (val ys))/\Wh w' nr ar cr rs (sg true (val xs)%sg ny (val ys))/\qs.length<=xs.length+4/\rs.length<=ys.length/\Li B1 T1 w' aq cq qs/\Li B2 T2 w' ar cr rs/\(w.heap.size<=B1/\T1<=w'.heap.size/\w.heap.size<=B2/\T2<=w'.heap.size/\∀j,B1<=j->j<T1->j<B2\/T2<=j)/\Below w.heap.size w w':=by
 obtain⟨w0,e0,bx,by',bq,br,hb0,hs0⟩:=ahv w true (.slice a1 n1 c1) ny (.slice a2 n2 c2);have E0:=hide e0;have hx0:=hx.below hb0;have hy0:=hy.below hb0;have HS0:=hide hs0;clear e0 hs0;have PY:Hid (0<val ys):=by have:=(aab hy.parts.2.2.2).1;show _<_;omega
 have LY:=hide hy.parts.2.2.2;have H0:=hide h0;have HE:=hide hev;clear hev;clear h0;go_enter Tryz.func125,Tryz.ntmps125
 go_wp2_with fail
 rw[E0.out];refine(ag9 _ _ _ _ _ _ _ xs ys hx0 hy0 (by omega) H0.out).mono ?_;rintro e w1 ⟨p1,q1,r1,p2,q2,r2,B1,T1,B2,T2,rfl,G1,G2,l1,l2,o1,o2,oo,hb1⟩;have HB:Below w0.heap.size w0 w1:=hb1;have hr2:¬0<(r2.length:Int):=by
  have h9:r2 = []:=(aey G2.canon).1 (by rw[G2.val];exact HE.out);rw[h9];simp
 obtain⟨xa,xb,xc,xd⟩:=(bx.below HB).facts;obtain⟨ya,yb,yc,yd⟩:=(by'.below HB).facts;go_wp2_with fail
 refine(aau _ _ _ _ r1 _ G1 (by omega)).mono ?_;rintro e w7 ⟨ng7,rfl,G7,hb7⟩;replace HB:=HB.trans (hb7.mono HB.size);have G2':=G2.below hb7;clear xa xb xc xd ya yb yc yd;obtain⟨xa,xb,xc,xd⟩:=(bx.below HB).facts;obtain⟨ya,yb,yc,yd⟩:=(by'.below HB).facts;go_wp2_with fail
 refine(aau _ _ _ _ r2 _ G2' (by omega)).mono ?_;rintro e w8 ⟨ng8,rfl,G8,hb8⟩;replace HB:=HB.trans (hb8.mono HB.size);replace G7:=G7.below hb8;clear xa xb xc xd ya yb yc yd;have bq8:=bq.below HB;have br8:=br.below HB;obtain⟨qa,qb,qc,qd⟩:=bq8.facts;obtain⟨ra,rb,rc,rd⟩:=br8.facts;have VQ:Hid (sg (!ny) (val xs/val ys)=sg true (val xs)/sg ny (val ys)/\sg false (val xs%val ys)=sg true (val xs)%sg ny (val ys)):=by have h:=apz true ny PY.out HE.out;rwa[show(true != ny) = !ny by cases ny <;> rfl]at h
 have Y1:=hide ((br8.other (show w.heap.size+1+1+1≠w.heap.size+1+1 by omega) (.bool ng7) (.slice p1 r1.length q1)).wh ng8 (.slice p2 r2.length q2) (bq8.wh ng7 (.slice p1 r1.length q1) G7));have Y2:=hide ((br8.other (show w.heap.size+1+1+1≠w.heap.size+1+1 by omega) (.bool ng7) (.slice p1 r1.length q1)).wh ng8 (.slice p2 r2.length q2) (bq8.wh ng7 (.slice p1 r1.length q1) G8));have F:=hide (agb (nq:=ng7) (vq:=.slice p1 r1.length q1) (nr:=ng8) (vr:=.slice p2 r2.length q2) bq8 br8 (by omega));have Z:=hide (hb0.trans (HB.mono hb0.size));have Z2:=hide (aaj (aaj Z.out (show w.heap.size<=w.heap.size+1+1 by omega) (.bool ng7) (.slice p1 r1.length q1)) (show w.heap.size<=w.heap.size+1+1+1 by omega) (.bool ng8) (.slice p2 r2.length q2));have hs9:=HS0.out;have s_hb1:=hb1.size;have s_hb7:=hb7.size;have s_hb8:=hb8.size;obtain⟨oo1,oo2,oo3,oo4,oo5⟩:=oo;have O1:=hide ((((o1.below hb7).below hb8).set2 (w.heap.size+1+1) (by omega) (.bool ng7) (.slice p1 r1.length q1)).set2 (w.heap.size+1+1+1) (by omega) (.bool ng8) (.slice p2 r2.length q2));have O2:=hide ((((o2.below hb7).below hb8).set2 (w.heap.size+1+1) (by omega) (.bool ng7) (.slice p1 r1.length q1)).set2 (w.heap.size+1+1+1) (by omega) (.bool ng8) (.slice p2 r2.length q2));have hsz:((((w8.setCell ⟨w.heap.size+1+1,0,none⟩ (.bool ng7)).setCell ⟨w.heap.size+1+1,1,none⟩ (.slice p1 r1.length q1)).setCell ⟨w.heap.size+1+1+1,0,none⟩ (.bool ng8)).setCell ⟨w.heap.size+1+1+1,1,none⟩ (.slice p2 r2.length q2)).heap.size=w8.heap.size:=by simp[World.setCell]
 have OO:Hid (B1≥w.heap.size/\T1<=w8.heap.size/\B2≥w.heap.size/\T2<=w8.heap.size/\∀j,B1<=j->j<T1->j<B2\/T2<=j):=⟨by omega,by omega,by omega,by omega,oo5⟩;rw[<-hsz]at OO;clear hsz;go_wp2;refine bodyPost_ret (v:=.tuple #[.agg #[.bool ng7,.slice p1 r1.length q1],.agg #[.bool ng8,.slice p2 r2.length q2],.bool true]) ?_ rfl ⟨ng7,p1,q1,r1,ng8,p2,q2,r2,B1,T1,B2,T2,rfl,by rw[<-VQ.out.1];exact Y1.out,by rw[<-VQ.out.2];exact Y2.out,by omega,by omega,O1.out,O2.out,OO.out,Z2.out⟩;simp[results,Tryz.results125,go_sem,F.out.1.facts.1,F.out.1.facts.2.1,F.out.2.facts.1,F.out.2.facts.2.1]
theorem akm(w:World)(a1:Option Addr)(n1 c1:Nat)(xs:List Int)(hx:Sl w (.slice a1 n1 c1) xs)(ny:Bool)(a2:Option Addr)(n2 c2:Nat)(ys:List Int)(hy:Sl w (.slice a2 n2 c2) ys)(hm1:xs.length<=400000)(hm2:ys.length<=400000)(h0:val ys≠0)(hod:val xs%val ys≠0):
  Calls Tryz.prog 125 #[.agg #[.bool true,.slice a1 n1 c1],.agg #[.bool ny,.slice a2 n2 c2]] w fun e w'=>∃nq aq cq qs nr ar cr rs B1 T1 B2 T2,e=.returned (.tuple #[.agg #[.bool nq,.slice aq qs.length cq],.agg #[.bool nr,.slice ar rs.length cr],.bool true])/\Wh w' nq aq cq qs (sg true (val xs)/sg ny (val ys))/\Wh w' nr ar cr rs (sg true (val xs)%sg ny (val ys))/\qs.length<=xs.length+4/\rs.length<=ys.length/\Li B1 T1 w' aq cq qs/\Li B2 T2 w' ar cr rs/\(w.heap.size<=B1/\T1<=w'.heap.size/\w.heap.size<=B2/\T2<=w'.heap.size/\∀j,B1<=j->j<T1->j<B2\/T2<=j)/\Below w.heap.size w w':=by
 obtain⟨w0,e0,bx,by',bq,br,hb0,hs0⟩:=ahv w true (.slice a1 n1 c1) ny (.slice a2 n2 c2);have E0:=hide e0;have hx0:=hx.below hb0;have hy0:=hy.below hb0;have HS0:=hide hs0;clear e0 hs0;have PY:Hid (0<val ys):=by have:=(aab hy.parts.2.2.2).1;show _<_;omega
 have LY:=hide hy.parts.2.2.2;have H0:=hide h0;have HE:=hide hod;clear hod;clear h0;go_enter Tryz.func125,Tryz.ntmps125
 go_wp2_with fail
 rw[E0.out];refine(ag9 _ _ _ _ _ _ _ xs ys hx0 hy0 (by omega) H0.out).mono ?_;rintro e w1 ⟨p1,q1,r1,p2,q2,r2,B1,T1,B2,T2,rfl,G1,G2,l1,l2,o1,o2,oo,hb1⟩;have HB:Below w0.heap.size w0 w1:=hb1;have hr2:0<(r2.length:Int):=by
  have h9:r2≠[]:=fun e=>HE.out (by rw[<-G2.val];exact(aey G2.canon).2 e)
  have h8:r2.length≠0:=fun e=>h9 (List.eq_nil_of_length_eq_zero e)
  omega
 obtain⟨xa,xb,xc,xd⟩:=(bx.below HB).facts;go_wp2_with fail
 refine(ace _ 1 (by omega) (by omega)).mono ?_;rintro e w3 ⟨v3,rfl,hi3,hb3⟩;obtain⟨p3,q3,r3,rfl,G3,l3⟩:=aee hi3 (by omega);clear hi3;replace HB:=HB.trans (hb3.mono HB.size);replace G1:=G1.below hb3;replace G2:=G2.below hb3;go_wp2_with fail
 refine(atr _ _ _ _ _ _ _ r1 r3 G1.sl G3.sl (by omega) (by omega)).mono ?_;rintro e w4 ⟨p4,q4,r4,rfl,G4,l4,o4,hb4⟩;replace HB:=HB.trans (hb4.mono HB.size);replace G2:=G2.below hb4;rw[G1.val,G3.val]at G4;have hy4:=hy0.below HB;obtain⟨ya,yb,yc,yd⟩:=(by'.below HB).facts;go_wp2_with fail
 refine(anw _ _ _ _ _ _ _ ys r2 hy4 G2.sl (by omega) (by rw[G2.val];exact Int.le_of_lt (Int.emod_lt_of_pos _ PY.out))).mono ?_;rintro e w5 ⟨p5,q5,r5,rfl,G5,l5,o5,hb5⟩;replace HB:=HB.trans (hb5.mono HB.size);replace G4:=G4.below hb5;rw[G2.val]at G5;clear xa xb xc xd ya yb yc yd G1 G2 G3 hy4;obtain⟨xa,xb,xc,xd⟩:=(bx.below HB).facts;obtain⟨ya,yb,yc,yd⟩:=(by'.below HB).facts;go_wp2_with fail
 refine(aau _ _ _ _ r4 _ G4 (by omega)).mono ?_;rintro e w7 ⟨ng7,rfl,G7,hb7⟩;replace HB:=HB.trans (hb7.mono HB.size);have G2':=G5.below hb7;clear xa xb xc xd ya yb yc yd;obtain⟨xa,xb,xc,xd⟩:=(bx.below HB).facts;obtain⟨ya,yb,yc,yd⟩:=(by'.below HB).facts;go_wp2_with fail
 refine(aau _ _ _ _ r5 _ G2' (by omega)).mono ?_;rintro e w8 ⟨ng8,rfl,G8,hb8⟩;replace HB:=HB.trans (hb8.mono HB.size);replace G7:=G7.below hb8;clear xa xb xc xd ya yb yc yd;have bq8:=bq.below HB;have br8:=br.below HB;obtain⟨qa,qb,qc,qd⟩:=bq8.facts;obtain⟨ra,rb,rc,rd⟩:=br8.facts;have VQ:Hid (sg (!ny) (val xs/val ys+1)=sg true (val xs)/sg ny (val ys)/\sg false (val ys-val xs%val ys)=sg true (val xs)%sg ny (val ys)):=by have h:=asb ny PY.out HE.out;rwa[show(true != ny) = !ny by cases ny <;> rfl]at h
 have Y1:=hide ((br8.other (show w.heap.size+1+1+1≠w.heap.size+1+1 by omega) (.bool ng7) (.slice p4 r4.length q4)).wh ng8 (.slice p5 r5.length q5) (bq8.wh ng7 (.slice p4 r4.length q4) G7));have Y2:=hide ((br8.other (show w.heap.size+1+1+1≠w.heap.size+1+1 by omega) (.bool ng7) (.slice p4 r4.length q4)).wh ng8 (.slice p5 r5.length q5) (bq8.wh ng7 (.slice p4 r4.length q4) G8));have F:=hide (agb (nq:=ng7) (vq:=.slice p4 r4.length q4) (nr:=ng8) (vr:=.slice p5 r5.length q5) bq8 br8 (by omega));have Z:=hide (hb0.trans (HB.mono hb0.size));have Z2:=hide (aaj (aaj Z.out (show w.heap.size<=w.heap.size+1+1 by omega) (.bool ng7) (.slice p4 r4.length q4)) (show w.heap.size<=w.heap.size+1+1+1 by omega) (.bool ng8) (.slice p5 r5.length q5));have hs9:=HS0.out;have s_hb1:=hb1.size;have s_hb7:=hb7.size;have s_hb8:=hb8.size;have s_hb3:=hb3.size;have s_hb4:=hb4.size;have s_hb5:=hb5.size;have O1:=hide (((((o4.below hb5).below hb7).below hb8).set2 (w.heap.size+1+1) (by omega) (.bool ng7) (.slice p4 r4.length q4)).set2 (w.heap.size+1+1+1) (by omega) (.bool ng8) (.slice p5 r5.length q5));have O2:=hide ((((o5.below hb7).below hb8).set2 (w.heap.size+1+1) (by omega) (.bool ng7) (.slice p4 r4.length q4)).set2 (w.heap.size+1+1+1) (by omega) (.bool ng8) (.slice p5 r5.length q5));have hsz:((((w8.setCell ⟨w.heap.size+1+1,0,none⟩ (.bool ng7)).setCell ⟨w.heap.size+1+1,1,none⟩ (.slice p4 r4.length q4)).setCell ⟨w.heap.size+1+1+1,0,none⟩ (.bool ng8)).setCell ⟨w.heap.size+1+1+1,1,none⟩ (.slice p5 r5.length q5)).heap.size=w8.heap.size:=by simp[World.setCell]
 have OO:Hid (w3.heap.size≥w.heap.size/\w4.heap.size<=w8.heap.size/\w4.heap.size≥w.heap.size/\w5.heap.size<=w8.heap.size/\∀j,w3.heap.size<=j->j<w4.heap.size->j<w4.heap.size\/w5.heap.size<=j):=⟨by omega,by omega,by omega,by omega,fun j h1 h2=>by omega⟩;rw[<-hsz]at OO;clear hsz;go_wp2;refine bodyPost_ret (v:=.tuple #[.agg #[.bool ng7,.slice p4 r4.length q4],.agg #[.bool ng8,.slice p5 r5.length q5],.bool true]) ?_ rfl ⟨ng7,p4,q4,r4,ng8,p5,q5,r5,w3.heap.size,w4.heap.size,w4.heap.size,w5.heap.size,rfl,by rw[<-VQ.out.1];exact Y1.out,by rw[<-VQ.out.2];exact Y2.out,by omega,by omega,O1.out,O2.out,OO.out,Z2.out⟩;simp[results,Tryz.results125,go_sem,F.out.1.facts.1,F.out.1.facts.2.1,F.out.2.facts.1,F.out.2.facts.2.1]
theorem aqb(w:World)(nx:Bool)(a1:Option Addr)(n1 c1:Nat)(xs:List Int)(hx:Sl w (.slice a1 n1 c1) xs)(ny:Bool)(a2:Option Addr)(n2 c2:Nat)(ys:List Int)(hy:Sl w (.slice a2 n2 c2) ys)(hm1:xs.length<=400000)(hm2:ys.length<=400000)(h0:val ys≠0):
  Calls Tryz.prog 125 #[.agg #[.bool nx,.slice a1 n1 c1],.agg #[.bool ny,.slice a2 n2 c2]] w fun e w'=>∃nq aq cq qs nr ar cr rs B1 T1 B2 T2,e=.returned (.tuple #[.agg #[.bool nq,.slice aq qs.length cq],.agg #[.bool nr,.slice ar rs.length cr],.bool true])/\Wh w' nq aq cq qs (sg nx (val xs)/sg ny (val ys))/\Wh w' nr ar cr rs (sg nx (val xs)%sg ny (val ys))/\qs.length<=xs.length+4/\rs.length<=ys.length/\Li B1 T1 w' aq cq qs/\Li B2 T2 w' ar cr rs/\(w.heap.size<=B1/\T1<=w'.heap.size/\w.heap.size<=B2/\T2<=w'.heap.size/\∀j,B1<=j->j<T1->j<B2\/T2<=j)/\Below w.heap.size w w':=by
 cases nx with
 |false=>exact akl w a1 n1 c1 xs hx ny a2 n2 c2 ys hy hm1 hm2 h0
 |true=>
  by_cases he:val xs%val ys=0
  ·exact aji w a1 n1 c1 xs hx ny a2 n2 c2 ys hy hm1 hm2 h0 he
  ·exact akm w a1 n1 c1 xs hx ny a2 n2 c2 ys hy hm1 hm2 h0 he
theorem axg(w:World)(a1 a2:Option Addr)(n1 n2 c1 c2:Nat)(xs ys:List Int)(hx:Sl w (.slice a1 n1 c1) xs)(hy:Sl w (.slice a2 n2 c2) ys)(hm1:xs.length<=400000)(hm2:ys.length<=400000):
  Calls Tryz.prog 117 #[.slice a1 n1 c1,.slice a2 n2 c2] w fun e w'=>∃ao cap rs,e=.returned (.slice ao rs.length cap)/\Got w' ao cap rs (Int.gcd (val xs) (val ys))/\rs.length<=xs.length+ys.length+1/\Li w.heap.size w'.heap.size w' ao cap rs/\Below w.heap.size w w':=by
 refine(amj w a1 a2 n1 n2 c1 c2 xs ys hx hy hm1 hm2).mono ?_;rintro e w' ⟨v,rfl,hi,hb⟩;obtain⟨ao,cap,rs,rfl,hg⟩:=hi.fr;refine⟨ao,cap,rs,rfl,hg.got,aaz hg.canon ?_,hg.li,hb⟩;rw[hg.val];have b1:=aab hx.parts.2.2.2;have b2:=aab hy.parts.2.2.2;have h1:=ai5 b1.1 b2.1;have m1:=aa0 (m:=xs.length) (n:=xs.length+ys.length) (by omega);have m2:=aa0 (m:=ys.length) (n:=xs.length+ys.length) (by omega);rw[pw];have:=aay (xs.length+ys.length);omega
theorem awe(w:World)(nx:Bool)(a1:Option Addr)(n1 c1:Nat)(xs:List Int)(hx:Sl w (.slice a1 n1 c1) xs)(ny:Bool)(a2:Option Addr)(n2 c2:Nat)(ys:List Int)(hy:Sl w (.slice a2 n2 c2) ys)(hm1:xs.length<=400000)(hm2:ys.length<=400000):
  Calls Tryz.prog 75 #[.agg #[.bool nx,.slice a1 n1 c1],.agg #[.bool ny,.slice a2 n2 c2]] w fun e w'=>∃ng' ao cap rs,e=.returned (.agg #[.bool ng',.slice ao rs.length cap])/\Wh w' ng' ao cap rs (((Int.gcd (sg nx (val xs)) (sg ny (val ys)):Nat):Int))/\rs.length<=xs.length+ys.length+1/\Li w.heap.size w'.heap.size w' ao cap rs/\Below w.heap.size w w':=by
 obtain⟨w0,e0,bx,by',br,hb0,hs0⟩:=aeq w nx (.slice a1 n1 c1) ny (.slice a2 n2 c2);have E0:=hide e0;have hx0:=hx.below hb0;have hy0:=hy.below hb0;have HS0:=hide hs0;clear e0 hs0;go_enter Tryz.func75,Tryz.ntmps75
 go_wp2_with fail
 rw[E0.out];obtain⟨ca,cb,cc,cd⟩:=bx.facts;obtain⟨ea,eb,ec,ed⟩:=by'.facts;obtain⟨da,db,dc,dd⟩:=br.facts;refine(axg _ _ _ _ _ _ _ xs ys hx0 hy0 (by omega) (by omega)).mono ?_;rintro e w1 ⟨p1,q1,r1,rfl,G1,l1,o1,hb1⟩;go_wp2_with fail
 refine(aau _ false _ _ r1 _ G1 (by omega)).mono ?_;rintro e w2 ⟨ng2,rfl,G2,hb2⟩;have br2:=(br.below hb1).below hb2;obtain⟨ka,kb,kc,kd⟩:=br2.facts;have SGF:Hid (sg false ((Int.gcd (val xs) (val ys):Nat):Int)=((Int.gcd (sg nx (val xs)) (sg ny (val ys)):Nat):Int)):=by show _=_;rw[av3];rfl
 have X:=hide (br2.set ng2 (.slice p1 r1.length q1)).facts;have Y:=hide (br2.wh ng2 (.slice p1 r1.length q1) G2);have Z:=hide (aaj (hb0.trans ((hb1.trans (hb2.mono hb1.size)).mono hb0.size)) (Nat.le_add_right _ 2) (.bool ng2) (.slice p1 r1.length q1))
 skip;have hs9:=HS0.out;have s_1:=hb1.size;have s_2:=hb2.size;have O1:=hide ((o1.below hb2).set2 (w.heap.size+1+1) (by omega) (.bool ng2) (.slice p1 r1.length q1));have O2:=hide (show Li w.heap.size _ _ p1 q1 r1 from⟨O1.out.ow.mono (by omega),fun h0 g off e=>by have:=O1.out.lies h0 g off e;exact⟨by omega,Nat.lt_of_lt_of_le this.2 (show w1.heap.size<=((w2.setCell ⟨w.heap.size+1+1,0,none⟩ (.bool ng2)).setCell ⟨w.heap.size+1+1,1,none⟩ (.slice p1 r1.length q1)).heap.size by simp[World.setCell];exact s_2)⟩⟩);clear O1;go_wp2;refine bodyPost_ret (v:=.agg #[.bool ng2,.slice p1 r1.length q1]) ?_ rfl ⟨ng2,p1,q1,r1,rfl,by rw[<-SGF.out];exact Y.out,by omega,O2.out,Z.out⟩;simp[results,Tryz.results75,go_sem,X.out.1,X.out.2.1]
end Lm
namespace Lm
open Go.RowKit
open Dm (WFr)
theorem awf(B T:Nat)(w:World):Li B T w none 0 []:=⟨⟨none,0,rfl,Nat.le_refl _,by simp[maxLen],aag,.inl rfl⟩,fun h=>by omega⟩
theorem awg(w:World):Wh w false none 0 [] 0:=⟨⟨⟨none,0,rfl,Nat.le_refl _,by simp[maxLen],aag,.inl rfl⟩,ab2,rfl⟩,rfl⟩
theorem Li.wfr{B T:Nat}{w:World}{ng:Bool}{ao:Option Addr}{cap:Nat}{rs:List Int}{z:Int}(h:Li B T w ao cap rs)(g:Wh w ng ao cap rs z):WFr B T w ng ao cap rs z:=⟨h.fr g.1,g.2⟩
end Lm
namespace Lm
open Go Go.RowKit
open Dm (WFr)
section
variable {dst:Option Tmp} {ty:TypeId} {pos:String} {after:Array Edge} {guard:Option (Nat×Bool)} {a:Act} {w:World} {ats:Array TypeId} {i j:Nat} {z:Int}
theorem anz{u:Int}(h1:a.eval (.tmp i)=.int .i64 u)(h2:a.eval (.tmp j)=.int .i64 u):
  Does Tryz.prog {dst,op:=.binOp .neq 3 (.tmp i) (.tmp j) 3,type:=ty,pos,after,guard} a.eval w fun v' w'=>Below w.heap.size w w'/\Eqs (.bool false) v' w':=by
 refine ac7 (v:=.bool false) ?_ ?_ ⟨Below.refl _ _,rfl⟩
 ·rw[h1,h2];simp[go_sem]
 ·rw[h1,h2];simp[go_sem]
theorem aut{u v:Int}(h1:a.eval (.tmp i)=.int .i64 u)(h : -9223372036854775808<=u+v/\u+v<=9223372036854775807):
  Does Tryz.prog {dst,op:=.binOp .add 3 (.tmp i) (.const (.int .i64 v)) 3,type:=ty,pos,after,guard} a.eval w fun v' w'=>Below w.heap.size w w'/\Eqs (.int .i64 (u+v)) v' w':=by
 refine ac7 (v:=.int .i64 (u+v)) ?_ ?_ ⟨Below.refl _ _,rfl⟩
 ·rw[h1];simp[go_sem,Act.eval]
 ·rw[h1];simp[go_sem,Act.eval];exact wrap64 h.1 h.2
end
end Lm
namespace Lm
open Go Go.RowKit
theorem aav{ops:Array Oper}{o:Oper}{a:Act}{w:World}{K:Act->World->Prop}{Q:Exit->Act->World->Prop}{E:Prop}(hg:o.guard=none)(f:FuncId)(xs:Array Operand)(ats:Array TypeId)
  (hop:o.op=.call {callee:=.value (.func f),args:=xs,argTypes:=ats}) (hf:Has Tryz.prog f) (vs:Array Value) (hx:xs.map a.eval=vs) {Post:Ending->World->Prop} (hc:Calls Tryz.prog f vs w Post) (hK:∀e w',Post e w'->∃r,e=.returned r/\K (a.put o.dst r) w') :
  if Region.wanted o (yielded ops a.tmps)=true then Oper.wp Tryz.prog o a w K Q else E:=by
 obtain⟨dst,op,ty,pos,after,guard⟩:=o;simp only at hop hg;subst hop hg;have hw:Region.wanted {dst,op:=.call {callee:=.value (.func f),args:=xs,argTypes:=ats},type:=ty,pos,after,guard:=none} (yielded ops a.tmps)=true:=by simp[Region.wanted]
 rw[if_pos hw];clear hw;have hd:Does Tryz.prog {dst,op:=.call {callee:=.value (.func f),args:=xs,argTypes:=ats},type:=ty,pos,after,guard:=none} a.eval w (fun r w'=>K (a.put dst r) w'):=abd hf vs hx (hc.mono hK);have hz:=Does.wp (K:=K) (Q:=Q) hd (fun v w' h=>h);exact hz
theorem an0{P:Program}{dst:Option Tmp}{f:FuncId}{x:Operand}{xs:Array Operand}{ats:Array TypeId}{ty:TypeId}{pos:String}{after:Array Edge}{guard:Option (Nat×Bool)}{a:Act}{w:World}{R:Value->World->Prop}(hf:Has P f)(cap:Array Value)(hx0:a.eval x=.func (.func f) #[] cap)(args:Array Value)(hx:xs.map a.eval=args)(h:Calls P f (args++cap) w fun e w'=>∃v,e=.returned v/\R v w'):
  Does P {dst,op:=.call {callee:=.value x,args:=xs,argTypes:=ats},type:=ty,pos,after,guard} a.eval w R:=by
 have e:execOp a.eval {dst,op:=.call {callee:=.value x,args:=xs,argTypes:=ats},type:=ty,pos,after,guard}=callFunc f (#[]++xs.map a.eval++cap):=by
  show(do let d <-Deferred.ofValue (a.eval x) (xs.map a.eval);invoke d.target d.args)=_;rw[hx0];rfl
 refine⟨?_⟩;unfold Turns;rw[e,hf.enter];simpa[hx]using h
theorem ah1{ops:Array Oper}{o:Oper}{a:Act}{w:World}{K:Act->World->Prop}{Q:Exit->Act->World->Prop}{E:Prop}(hg:o.guard=none)(f:FuncId)(x:Operand)(xs:Array Operand)(ats:Array TypeId)
  (hop:o.op=.call {callee:=.value x,args:=xs,argTypes:=ats}) (hf:Has Tryz.prog f) (cap:Array Value) (hx0:a.eval x=.func (.func f) #[] cap) (vs:Array Value) (hx:xs.map a.eval=vs) {Post:Ending->World->Prop} (hc:Calls Tryz.prog f (vs++cap) w Post) (hK:∀e w',Post e w'->∃r,e=.returned r/\K (a.put o.dst r) w') :
  if Region.wanted o (yielded ops a.tmps)=true then Oper.wp Tryz.prog o a w K Q else E:=by
 obtain⟨dst,op,ty,pos,after,guard⟩:=o;simp only at hop hg;subst hop hg;have hw:Region.wanted {dst,op:=.call {callee:=.value x,args:=xs,argTypes:=ats},type:=ty,pos,after,guard:=none} (yielded ops a.tmps)=true:=by simp[Region.wanted]
 rw[if_pos hw];clear hw;have hd:Does Tryz.prog {dst,op:=.call {callee:=.value x,args:=xs,argTypes:=ats},type:=ty,pos,after,guard:=none} a.eval w (fun r w'=>K (a.put dst r) w'):=an0 hf cap hx0 vs hx (hc.mono hK);have hz:=Does.wp (K:=K) (Q:=Q) hd (fun v w' h=>h);exact hz
def Cl(w:World)(v:Value)(size n:Nat)(xs:List Value):Prop:=
 ∃ao cap,v=.slice ao n cap/\n<=cap/\cap<=9223372036854775807/\xs.length=n*size/\(n=0\/∃b off,ao=some ⟨b,off,none⟩/\b<w.heap.size/\∀j u,xs[j]? = some u->w.cell? ⟨b,off+j,none⟩=some u)
theorem Cl.below{w w':World}{v:Value}{size n:Nat}{xs:List Value}(h:Cl w v size n xs)(hb:Below w.heap.size w w'):Cl w' v size n xs:=by
 obtain⟨ao,cap,rfl,h1,h2,h3,h4⟩:=h;refine⟨ao,cap,rfl,h1,h2,h3,?_⟩;rcases h4 with h4|⟨b,off,rfl,hl,hc⟩
 ·exact .inl h4
 ·exact .inr ⟨b,off,rfl,Nat.lt_of_lt_of_le hl hb.size,fun j u hu=>(hb.cell (p:=⟨b,off+j,none⟩) hl).trans (hc j u hu)⟩
theorem Cl.own{w:World}{base:Nat}{e:TypeId}{size n:Nat}{v:Value}{xs:List Value}(h:w.ownsRow base e size v n xs):Cl w v size n xs:=by
 obtain⟨hl,⟨rfl,rfl⟩|⟨g,cap,cur,rfl,hb,hh,h1,h2,h3,h4⟩⟩:=h
 ·exact⟨none,0,rfl,Nat.le_refl _,by omega,hl,.inl rfl⟩
 ·refine⟨_,cap,rfl,h1,by simpa[maxLen]using h2,hl,.inr ⟨g,0,rfl,aaa hh,fun j u hu=>?_⟩⟩;rw[Nat.zero_add,cell_of_row w g j cur e (0,0) hh];rw[<-h4,List.getElem?_take]at hu;split at hu
  ·simpa using hu
  ·cases hu
structure WE where
 ng:Bool
 a:Option Addr
 m:Nat
 c:Nat
 zs:List Int
def WE.z(e:WE):Int:=sg e.ng (val e.zs)
def flat:List WE->List Value
 | []=>[]
 |e::es=>.bool e.ng :: .slice e.a e.m e.c::flat es
theorem aem(es:List WE):(flat es).length=es.length*2:=by
 induction es with
 |nil=>rfl
 |cons e es ih=>simp only[flat,List.length_cons,ih];omega
theorem age{es:List WE}{k:Nat}{e:WE}(h:es[k]? = some e):(flat es)[k*2]? = some (.bool e.ng)/\(flat es)[k*2+1]? = some (.slice e.a e.m e.c):=by
 induction es generalizing k with
 |nil=>simp at h
 |cons x es ih=>
  cases k with
  |zero=>
   simp only[List.getElem?_cons_zero,Option.some.injEq]at h;subst h;simp[flat]
  |succ k=>
   have:=ih (k:=k) (by simpa using h);have e1:(k+1)*2=k*2+1+1:=by omega
   rw[e1];simpa[flat]using this
theorem alo(es fs:List WE):flat (es++fs)=flat es++flat fs:=by
 induction es with
 |nil=>rfl
 |cons e es ih=>simp[flat,ih]
structure Rw (w:World) (v:Value) (es:List WE):Prop where
 cl:Cl w v 2 es.length (flat es)
 sl:∀e∈es,Sl w (.slice e.a e.m e.c) e.zs
theorem Rw.below{w w':World}{v:Value}{es:List WE}(h:Rw w v es)(hb:Below w.heap.size w w'):Rw w' v es:=⟨h.cl.below hb,fun e he=>(h.sl e he).below hb⟩
theorem Rw.ag{w:World}{v:Value}{es:List WE}(h:Rw w v es){e:WE}(he:e∈es):Ag w e.ng e.a e.m e.c e.zs e.z:=⟨h.sl e he,rfl⟩
theorem Rw.parts{w:World}{ao:Option Addr}{n cap:Nat}{es:List WE}(h:Rw w (.slice ao n cap) es):n=es.length/\es.length<=cap/\cap<=9223372036854775807:=by
 obtain⟨ao',cap',hv,h1,h2,h3,h4⟩:=h.cl;obtain⟨rfl,rfl,rfl⟩:=(Value.slice.injEq .. ▸ hv);exact⟨rfl,h1,h2⟩
theorem Rw.cells{w:World}{ao:Option Addr}{n cap:Nat}{es:List WE}(h:Rw w (.slice ao n cap) es)(hp:0<es.length):∃b off,ao=some ⟨b,off,none⟩/\b<w.heap.size/\∀j u,(flat es)[j]? = some u->w.cell? ⟨b,off+j,none⟩=some u:=by
 obtain⟨ao',cap',hv,h1,h2,h3,h4⟩:=h.cl;obtain⟨rfl,_,rfl⟩:=(Value.slice.injEq .. ▸ hv);rcases h4 with h4|h4
 ·omega
 ·exact h4
section
variable {dst:Option Tmp} {ty:TypeId} {pos:String} {after:Array Edge} {guard:Option (Nat×Bool)} {a:Act} {w:World} {ats:Array TypeId} {i j:Nat}
theorem ail{ao:Option Addr}{n c:Nat}(h:a.eval (.tmp i)=.slice ao n c):Does Tryz.prog {dst,op:=.call {callee:=.builtin .len,args:=#[.tmp i],argTypes:=#[23]},type:=ty,pos,after,guard} a.eval w fun v' w'=>Below w.heap.size w w'/\Eqs (.int .i64 n) v' w':=by
 have e:(execOp a.eval {dst,op:=.call {callee:=.builtin .len,args:=#[.tmp i],argTypes:=#[23]},type:=ty,pos,after,guard}).run Tryz.prog w=.ok (.value (.int .i64 n)) w:=by
  have h':a.tmps[i]?.getD undef=.slice ao n c:=by simpa[Act.eval]using h
  simp[go_sem,h']
 refine⟨?_⟩;unfold Turns;rw[e];exact⟨Below.refl _ _,rfl⟩
theorem amm{b off n c k:Nat}{ao:Option Addr}(h:a.eval (.tmp i)=.slice ao n c)(hao:ao=some ⟨b,off,none⟩)(hk:a.eval (.tmp j)=.int .i64 (k:Int))(hl:k<n):Does Tryz.prog {dst,op:=.indexAddr 23 (.tmp i) (.tmp j),type:=ty,pos,after,guard} a.eval w fun v' w'=>Below w.heap.size w w'/\Eqs (.pointer (some ⟨b,off+k*2,none⟩)) v' w':=by
 subst hao;have e:(execOp a.eval {dst,op:=.indexAddr 23 (.tmp i) (.tmp j),type:=ty,pos,after,guard}).run Tryz.prog w=.ok (.value (.pointer (some ⟨b,off+k*2,none⟩))) w:=by
  simp only[execOp,h,hk];go_simp
 refine⟨?_⟩;unfold Turns;rw[e];exact⟨Below.refl _ _,rfl⟩
theorem aqc{b off k:Nat}{ao:Option Addr}{n cap:Nat}{es:List WE}{e:WE}(hp:a.eval (.tmp i)=.pointer (some ⟨b,off+k*2,none⟩))(hao:ao=some ⟨b,off,none⟩)(hR:Rw w (.slice ao n cap) es)(he:es[k]? = some e):Does Tryz.prog {dst,op:=.load 60 (.tmp i),type:=ty,pos,after,guard} a.eval w fun v' w'=>Below w.heap.size w w'/\Eqs (.agg #[.bool e.ng,.slice e.a e.m e.c]) v' w':=by
 have hk:k<es.length:=(List.getElem?_eq_some_iff.1 he).1;obtain⟨b',off',e',hb,hc⟩:=hR.cells (by omega);obtain⟨rfl,rfl⟩:b'=b/\off'=off:=by
  rw[hao]at e';simp only[Option.some.injEq,Addr.mk.injEq,and_true]at e';exact⟨e'.1.symm,e'.2.symm⟩
 obtain⟨f1,f2⟩:=age he;have h1:=hc _ _ f1;have h2:w.cell? ⟨b',off'+k*2+1,none⟩=_:=hc _ _ f2;refine acf (v:=.agg #[.bool e.ng,.slice e.a e.m e.c]) ?_ ⟨Below.refl _ _,rfl⟩;rw[hp];go_simp
end
section
variable {dst:Option Tmp} {ty:TypeId} {pos:String} {after:Array Edge} {guard:Option (Nat×Bool)} {a:Act} {w:World} {ats:Array TypeId} {i j:Nat}
theorem auu{k:Nat}(h1:a.eval (.tmp i)=.int .i64 (k:Int))(h:k<9223372036854775807):
  Does Tryz.prog {dst,op:=.binOp .add 3 (.tmp i) (.const (.int .i64 1)) 3,type:=ty,pos,after,guard} a.eval w fun v' w'=>Below w.heap.size w w'/\Eqs (.int .i64 ((k+1:Nat):Int)) v' w':=by
 have:=aut (dst:=dst) (ty:=ty) (pos:=pos) (after:=after) (guard:=guard) (w:=w) (v:=1) h1 (by omega);rwa[show((k:Int)+1)=((k+1:Nat):Int) by omega]at this
theorem auv{u v:Int}(h1:a.eval (.tmp i)=.int .i64 u)(h2:a.eval (.tmp j)=.int .i64 v):
  Does Tryz.prog {dst,op:=.binOp .lss 3 (.tmp i) (.tmp j) 3,type:=ty,pos,after,guard} a.eval w fun v' w'=>Below w.heap.size w w'/\Eqs (.bool (decide (u<v))) v' w':=by
 refine ac7 (v:=.bool (decide (u<v))) ?_ ?_ ⟨Below.refl _ _,rfl⟩
 ·rw[h1,h2];simp[go_sem]
 ·rw[h1,h2];simp[go_sem]
theorem auw{u v:Int}(h1:a.eval (.tmp i)=.int .i64 u)(h2:a.eval (.tmp j)=.int .i64 v)(h:u=v):
  Does Tryz.prog {dst,op:=.binOp .neq 3 (.tmp i) (.tmp j) 3,type:=ty,pos,after,guard} a.eval w fun v' w'=>Below w.heap.size w w'/\Eqs (.bool false) v' w':=by
 subst h;exact anz h1 h2
end
section
variable {dst:Option Tmp} {ty:TypeId} {pos:String} {after:Array Edge} {guard:Option (Nat×Bool)} {a:Act} {w:World} {ats:Array TypeId} {i j:Nat}
theorem an1:Has Tryz.prog 94:=by unfold Has;kernel_rfl
theorem alp{ax ay:Option Addr}{mx cx my cy:Nat}{zs:List Int}(h1:a.eval (.tmp i)=.slice ax mx cx)(h2:a.eval (.tmp j)=.slice ay my cy)(S1:Sl w (.slice ax mx cx) zs)(S2:Sl w (.slice ay my cy) zs):
  Does Tryz.prog {dst,op:=.call {callee:=.value (.func 94),args:=#[.tmp i,.tmp j],argTypes:=ats},type:=ty,pos,after,guard} a.eval w fun v w'=>Below w.heap.size w w'/\Eqs (.bool true) v w':=by
 refine abd an1 _ (by simp only[List.map_toArray,List.map_cons,List.map_nil,h1,h2]) ((ajp w _ _ _ _ _ _ zs zs S1 S2).mono ?_);rintro e w' ⟨rfl,hb⟩;exact⟨_,rfl,hb,by rw[am1];rfl⟩
end
theorem aqd(w:World)(nx:Bool)(ax ay:Option Addr)(mx cx my cy:Nat)(zs:List Int)(Tx:Sl w (.slice ax mx cx) zs)(Ty:Sl w (.slice ay my cy) zs):
  Calls Tryz.prog 56 #[.agg #[.bool nx,.slice ax mx cx],.agg #[.bool nx,.slice ay my cy]] w fun e w'=>e=.returned (.bool true)/\Below w.heap.size w w':=by
 go_enter Tryz.func56,Tryz.ntmps56
 generalize hA:(Act.mk _ _)=aa;have hn:aa.tmps.size=17:=by rw[<-hA];rfl
 have hd:aa.defers = []:=by rw[<-hA]
 have f0:aa.eval (.tmp 0)=.agg #[.bool nx,.slice ax mx cx]:=by rw[<-hA];rfl
 have f1:aa.eval (.tmp 1)=.agg #[.bool nx,.slice ay my cy]:=by rw[<-hA];rfl
 clear hA;have HB:Below w.heap.size w w:=Below.refl _ _;refine wp_seq ?_;refine aam [some 2,some 3,some 4] [(fun _ _=>True),(fun _ _=>True),Eqs ((.bool false))] [⟨W2,some 0,0,2,.agg #[.bool nx,.slice ax mx cx],none,[]⟩,⟨W2,some 1,0,3,.agg #[.bool nx,.slice ay my cy],none,[]⟩] [] (by kernel_rfl) hn rfl (by kernel_rfl) (by kernel_rfl) (by kernel_rfl) (by kernel_rfl) (by kernel_rfl) (by kernel_rfl) ⟨True.mono4,True.mono4,Eqs.mono4 _,trivial⟩ (ac8 W2ok (ac8 W2ok aas)) (IsOld.all (bx:=[⟨W2,some 0,0,2,.agg #[.bool nx,.slice ax mx cx],none,[]⟩,⟨W2,some 1,0,3,.agg #[.bool nx,.slice ay my cy],none,[]⟩]) ⟨someNe,someNe,trivial⟩) (DisOld.all (bx:=[⟨W2,some 0,0,2,.agg #[.bool nx,.slice ax mx cx],none,[]⟩,⟨W2,some 1,0,3,.agg #[.bool nx,.slice ay my cy],none,[]⟩]) ⟨someNe,someNe,trivial⟩) ?_ ?_
 ·exact⟨.alloc 0 _ rfl rfl (.inr ⟨_,rfl,ahs,fun a_ hR=>(hR 0 rfl).trans f0⟩) rfl rfl rfl rfl rfl,
   .alloc 1 _ rfl rfl (.inr ⟨_,rfl,ahs,fun a_ hR=>(hR 1 rfl).trans f1⟩) rfl rfl rfl rfl rfl,
   .norm 4 rfl rfl rfl (fun a_ w_ hn_ hBt hr hR hD hO hS=>aae rfl),
   trivial⟩
 intro a1 w1 gs1 hn1 hd1 hBt hr hR hP hX hU;replace hn:=hn1;replace hd:=hd1.trans hd;have b2:BoxV W2 w1 (gs1 0) (.agg #[.bool nx,.slice ax mx cx]):=(hX 0 _ rfl).2.2.2;have f2:=(hX 0 _ rfl).1;have u2:w.heap.size<=gs1 0:=Nat.le_trans HB.size ((hX 0 _ rfl).2.2.1 (by simp));have b3:BoxV W2 w1 (gs1 1) (.agg #[.bool nx,.slice ay my cy]):=(hX 1 _ rfl).2.2.2;have f3:=(hX 1 _ rfl).1;have u3:w.heap.size<=gs1 1:=Nat.le_trans HB.size ((hX 1 _ rfl).2.2.1 (by simp));have e4:a1.eval (.tmp 4)=(.bool false):=hP 2 (by decide);have f4:=e4;replace Tx:=Tx.rl hr;replace Ty:=Ty.rl hr;replace HB:=HB.trans (hBt.below HB.size (UpOld.all (bx:=[⟨W2,some 0,0,2,.agg #[.bool nx,.slice ax mx cx],none,[]⟩,⟨W2,some 1,0,3,.agg #[.bool nx,.slice ay my cy],none,[]⟩]) ⟨someNe,someNe,trivial⟩));clear hBt hr hR hP hX hU;refine wp_seq ?_;refine aam [some 5,some 6,some 7,some 8,some 9,some 10,some 11,some 12,some 13,some 14,some 15,some 16,some 4] [Eqs (.pointer (some ⟨gs1 0,0,none⟩)),Eqs (.bool nx),Eqs (.pointer (some ⟨gs1 1,0,none⟩)),Eqs (.bool nx),Eqs (.bool true),Eqs (.bool true),Eqs (.pointer (some ⟨gs1 0,1,none⟩)),Eqs (.slice ax mx cx),Eqs (.pointer (some ⟨gs1 1,1,none⟩)),Eqs (.slice ay my cy),Eqs (.bool true),Eqs (.bool true),Eqs (.bool true)] [] [] (by kernel_rfl) hn rfl (by kernel_rfl) (by kernel_rfl) (by kernel_rfl) (by kernel_rfl) (by kernel_rfl) (by kernel_rfl) ⟨Eqs.mono4 _,Eqs.mono4 _,Eqs.mono4 _,Eqs.mono4 _,Eqs.mono4 _,Eqs.mono4 _,Eqs.mono4 _,Eqs.mono4 _,Eqs.mono4 _,Eqs.mono4 _,Eqs.mono4 _,Eqs.mono4 _,Eqs.mono4 _,trivial⟩ aas (IsOld.all (bx:=[]) trivial) (DisOld.all (bx:=[]) trivial) ?_ ?_
 ·exact⟨.norm 5 rfl rfl rfl (fun a_ w_ hn_ hBt hr hR hD hO hS=>af9 apo ((hR 2 rfl).trans f2)),
   .norm 6 rfl rfl rfl (fun a_ w_ hn_ hBt hr hR hD hO hS=>aj5 (show a_.eval (.tmp 5)=.pointer (some ⟨gs1 0,0,none⟩)from hD 0 rfl) (b2.keep hBt trivial)),
   .norm 7 rfl rfl rfl (fun a_ w_ hn_ hBt hr hR hD hO hS=>af9 apo ((hR 3 rfl).trans f3)),
   .norm 8 rfl rfl rfl (fun a_ w_ hn_ hBt hr hR hD hO hS=>aj5 (show a_.eval (.tmp 7)=.pointer (some ⟨gs1 1,0,none⟩)from hD 2 rfl) (b3.keep hBt trivial)),
   .norm 9 rfl rfl rfl (fun a_ w_ hn_ hBt hr hR hD hO hS=>asl (show a_.eval (.tmp 6)=.bool nx from hD 1 rfl) (show a_.eval (.tmp 8)=.bool nx from hD 3 rfl)),
   .norm 10 rfl rfl rfl (fun a_ w_ hn_ hBt hr hR hD hO hS=>aa1 (show a_.eval (.tmp 9)=.bool true from hD 4 rfl)),
   .norm 11 rfl rfl rfl (fun a_ w_ hn_ hBt hr hR hD hO hS=>⟨⟨_,rfl⟩,fun _=>af9 ahr ((hR 2 rfl).trans f2),fun hne=>absurd (hD 5 rfl) hne⟩),
   .norm 12 rfl rfl rfl (fun a_ w_ hn_ hBt hr hR hD hO hS=>⟨⟨_,rfl⟩,fun _=>aj6 (show a_.eval (.tmp 11)=.pointer (some ⟨gs1 0,1,none⟩)from hD 6 rfl) (b2.keep hBt trivial),fun hne=>absurd (hD 5 rfl) hne⟩),
   .norm 13 rfl rfl rfl (fun a_ w_ hn_ hBt hr hR hD hO hS=>⟨⟨_,rfl⟩,fun _=>af9 ahr ((hR 3 rfl).trans f3),fun hne=>absurd (hD 5 rfl) hne⟩),
   .norm 14 rfl rfl rfl (fun a_ w_ hn_ hBt hr hR hD hO hS=>⟨⟨_,rfl⟩,fun _=>aj6 (show a_.eval (.tmp 13)=.pointer (some ⟨gs1 1,1,none⟩)from hD 8 rfl) (b3.keep hBt trivial),fun hne=>absurd (hD 5 rfl) hne⟩),
   .norm 15 rfl rfl rfl (fun a_ w_ hn_ hBt hr hR hD hO hS=>⟨⟨_,rfl⟩,fun _=>alp (show a_.eval (.tmp 12)=.slice ax mx cx from hD 7 rfl) (show a_.eval (.tmp 14)=.slice ay my cy from hD 9 rfl) (Tx.rl hr) (Ty.rl hr),fun hne=>absurd (hD 5 rfl) hne⟩),
   .norm 16 rfl rfl rfl (fun a_ w_ hn_ hBt hr hR hD hO hS=>arz (show a_.eval (.tmp 10)=.bool true from hD 5 rfl) (show a_.eval (.tmp 15)=.bool true from hD 10 rfl)),
   .norm 4 rfl rfl rfl (fun a_ w_ hn_ hBt hr hR hD hO hS=>aae (show a_.eval (.tmp 16)=.bool true from hD 11 rfl)),
   trivial⟩
 intro a2 w2 gs2 hn2 hd2 hBt hr hR hP hX hU;replace hn:=hn2;replace hd:=hd2.trans hd;have e4:a2.eval (.tmp 4)=.bool true:=hP 12 (by decide);have f4:=e4;replace Tx:=Tx.rl hr;replace Ty:=Ty.rl hr;replace HB:=HB.trans (hBt.below HB.size (UpOld.all (bx:=[]) trivial));clear hBt hr hR hP hX hU;refine wp_ret ?_;repeat(first|refine acg ?_|refine abn ?_|refine ab3 ?_)
 exact bodyPost_ret (v:=.bool true) (aef rfl f4) hd ⟨rfl,HB⟩
section
variable {dst:Option Tmp} {ty:TypeId} {pos:String} {after:Array Edge} {guard:Option (Nat×Bool)} {a:Act} {w:World} {ats:Array TypeId} {i j:Nat}
theorem an2{nx ny:Bool}{ax ay:Option Addr}{mx cx my cy:Nat}{xs ys:List Int}(h1:a.eval (.tmp i)=.agg #[.bool nx,.slice ax mx cx])(h2:a.eval (.tmp j)=.agg #[.bool ny,.slice ay my cy])(S1:Sl w (.slice ax mx cx) xs)(S2:Sl w (.slice ay my cy) ys)(hn:nx=ny)(hz:xs=ys):
  Does Tryz.prog {dst,op:=.call {callee:=.value (.func 56),args:=#[.tmp i,.tmp j],argTypes:=ats},type:=ty,pos,after,guard} a.eval w fun v w'=>Below w.heap.size w w'/\Eqs (.bool true) v w':=by
 subst hn hz;refine abd arx _ (by simp only[List.map_toArray,List.map_cons,List.map_nil,h1,h2]) ((aqd w nx _ _ _ _ _ _ xs S1 S2).mono ?_);rintro e w' ⟨rfl,hb⟩;exact⟨_,rfl,hb,rfl⟩
end
def WE.raw(e:WE):Bool×List Int:=(e.ng,e.zs)
def SameR(es fs:List WE):Prop:=es.map WE.raw=fs.map WE.raw
theorem SameR.len{es fs:List WE}(h:SameR es fs):es.length=fs.length:=by simpa using congrArg List.length h
theorem SameR.at{es fs:List WE}(h:SameR es fs){k:Nat}{e f:WE}(he:es[k]? = some e)(hf:fs[k]? = some f):e.ng=f.ng/\e.zs=f.zs:=by
 have h1:=congrArg (fun l=>l[k]?) h;simp only[List.getElem?_map,he,hf,Option.map_some,Option.some.injEq,WE.raw,Prod.mk.injEq]at h1;exact h1
theorem aqe(w:World)(ax:Option Addr)(mx cx:Nat)(xs:List WE)(Rx0:Rw w (.slice ax mx cx) xs)(ay:Option Addr)(my cy:Nat)(ys:List WE)(Ry0:Rw w (.slice ay my cy) ys)(hS:SameR xs ys):
  Calls Tryz.prog 22 #[.slice ax mx cx,.slice ay my cy] w fun e w'=>e=.returned (.bool true)/\Below w.heap.size w w':=by
 go_enter Tryz.func22,Tryz.ntmps22
 generalize hA:(Act.mk _ _)=aa;have hn:aa.tmps.size=27:=by rw[<-hA];rfl
 have hd:aa.defers = []:=by rw[<-hA]
 have f0:aa.eval (.tmp 0)=.slice ax mx cx:=by rw[<-hA];rfl
 have f1:aa.eval (.tmp 1)=.slice ay my cy:=by rw[<-hA];rfl
 clear hA;have HB:Below w.heap.size w w:=Below.refl _ _;have px:=Rx0.parts;have py:=Ry0.parts;have hSl:=hS.len;refine wp_seq ?_;refine aam [some 4] [Eqs ((.bool false))] [] [] (by kernel_rfl) hn rfl (by kernel_rfl) (by kernel_rfl) (by kernel_rfl) (by kernel_rfl) (by kernel_rfl) (by kernel_rfl) ⟨Eqs.mono4 _,trivial⟩ aas (IsOld.all (bx:=[]) trivial) (DisOld.all (bx:=[]) trivial) ?_ ?_
 ·exact⟨.norm 4 rfl rfl rfl (fun a_ w_ hn_ hBt hr hR hD hO hS=>aae rfl),
   trivial⟩
 intro a1 w1 gs1 hn1 hd1 hBt hr hR hP hX hU;replace hn:=hn1;replace hd:=hd1.trans hd;replace f0:=(hR 0 rfl).trans f0;replace f1:=(hR 1 rfl).trans f1;have e4:a1.eval (.tmp 4)=(.bool false):=hP 0 (by decide);have f4:=e4;replace HB:=HB.trans (hBt.below HB.size (UpOld.all (bx:=[]) trivial));clear hBt hr hR hP hX hU;refine wp_seq ?_;refine wp_seq ?_;refine aam [some 6,some 7,some 8,some 9,some 10] [Eqs (.slice ax mx cx),Eqs (.int .i64 (mx:Int)),Eqs (.slice ay my cy),Eqs (.int .i64 (my:Int)),Eqs (.bool false)] [] [] (by kernel_rfl) hn rfl (by kernel_rfl) (by kernel_rfl) (by kernel_rfl) (by kernel_rfl) (by kernel_rfl) (by kernel_rfl) ⟨Eqs.mono4 _,Eqs.mono4 _,Eqs.mono4 _,Eqs.mono4 _,Eqs.mono4 _,trivial⟩ aas (IsOld.all (bx:=[]) trivial) (DisOld.all (bx:=[]) trivial) ?_ ?_
 ·exact⟨.norm 6 rfl rfl rfl (fun a_ w_ hn_ hBt hr hR hD hO hS=>aa1 ((hR 0 rfl).trans f0)),
   .norm 7 rfl rfl rfl (fun a_ w_ hn_ hBt hr hR hD hO hS=>ail (show a_.eval (.tmp 6)=.slice ax mx cx from hD 0 rfl)),
   .norm 8 rfl rfl rfl (fun a_ w_ hn_ hBt hr hR hD hO hS=>aa1 ((hR 1 rfl).trans f1)),
   .norm 9 rfl rfl rfl (fun a_ w_ hn_ hBt hr hR hD hO hS=>ail (show a_.eval (.tmp 8)=.slice ay my cy from hD 2 rfl)),
   .norm 10 rfl rfl rfl (fun a_ w_ hn_ hBt hr hR hD hO hS=>auw (show a_.eval (.tmp 7)=.int .i64 (mx:Int)from hD 1 rfl) (show a_.eval (.tmp 9)=.int .i64 (my:Int)from hD 3 rfl) (by omega)),
   trivial⟩
 intro a2 w2 gs2 hn2 hd2 hBt hr hR hP hX hU;replace hn:=hn2;replace hd:=hd2.trans hd;replace f0:=(hR 0 rfl).trans f0;replace f1:=(hR 1 rfl).trans f1;replace f4:=(hR 4 rfl).trans f4;have e10:a2.eval (.tmp 10)=.bool false:=hP 4 (by decide);have f10:=e10;replace HB:=HB.trans (hBt.below HB.size (UpOld.all (bx:=[]) trivial));clear hBt hr hR hP hX hU;refine wp_cond_false f10 ?_;refine wp_skip ?_;refine wp_seq ?_;refine wp_seq ?_;refine aam [some 5] [Eqs ((.int .i64 0))] [] [] (by kernel_rfl) hn rfl (by kernel_rfl) (by kernel_rfl) (by kernel_rfl) (by kernel_rfl) (by kernel_rfl) (by kernel_rfl) ⟨Eqs.mono4 _,trivial⟩ aas (IsOld.all (bx:=[]) trivial) (DisOld.all (bx:=[]) trivial) ?_ ?_
 ·exact⟨.norm 5 rfl rfl rfl (fun a_ w_ hn_ hBt hr hR hD hO hS=>aae rfl),
   trivial⟩
 intro a3 w3 gs3 hn3 hd3 hBt hr hR hP hX hU;replace hn:=hn3;replace hd:=hd3.trans hd;replace f0:=(hR 0 rfl).trans f0;replace f1:=(hR 1 rfl).trans f1;replace f4:=(hR 4 rfl).trans f4;have e5:a3.eval (.tmp 5)=(.int .i64 0):=hP 0 (by decide);have f5:=e5;replace HB:=HB.trans (hBt.below HB.size (UpOld.all (bx:=[]) trivial));clear hBt hr hR hP hX hU;refine wp_block ?_;refine wp_loop_ghost (fun n a w'=>a.tmps.size=27/\a.defers = []/\a.eval (.tmp 0)=.slice ax mx cx/\a.eval (.tmp 1)=.slice ay my cy/\Below w.heap.size w w'/\∃k:Nat,k+n=xs.length/\a.eval (.tmp 5)=.int .i64 (k:Int)) xs.length ⟨hn,hd,f0,f1,HB,0,by omega,f5⟩ ?_;clear hn hd HB f0 f1 f4 f5;rintro nL aL wL ⟨hn,hd,f0,f1,HB,kL,hk,f5⟩;refine wp_seq ?_;refine wp_seq ?_;refine aam [some 11,some 12,some 13,some 14] [Eqs (.int .i64 (kL:Int)),Eqs (.slice ax mx cx),Eqs (.int .i64 (mx:Int)),Eqs (.bool (decide ((kL:Int)<(mx:Int))))] [] [] (by kernel_rfl) hn rfl (by kernel_rfl) (by kernel_rfl) (by kernel_rfl) (by kernel_rfl) (by kernel_rfl) (by kernel_rfl) ⟨Eqs.mono4 _,Eqs.mono4 _,Eqs.mono4 _,Eqs.mono4 _,trivial⟩ aas (IsOld.all (bx:=[]) trivial) (DisOld.all (bx:=[]) trivial) ?_ ?_
 ·exact⟨.norm 11 rfl rfl rfl (fun a_ w_ hn_ hBt hr hR hD hO hS=>aa1 ((hR 5 rfl).trans f5)),
   .norm 12 rfl rfl rfl (fun a_ w_ hn_ hBt hr hR hD hO hS=>aa1 ((hR 0 rfl).trans f0)),
   .norm 13 rfl rfl rfl (fun a_ w_ hn_ hBt hr hR hD hO hS=>ail (show a_.eval (.tmp 12)=.slice ax mx cx from hD 1 rfl)),
   .norm 14 rfl rfl rfl (fun a_ w_ hn_ hBt hr hR hD hO hS=>auv (show a_.eval (.tmp 11)=.int .i64 (kL:Int)from hD 0 rfl) (show a_.eval (.tmp 13)=.int .i64 (mx:Int)from hD 2 rfl)),
   trivial⟩
 intro a4 w4 gs4 hn4 hd4 hBt hr hR hP hX hU;replace hn:=hn4;replace hd:=hd4.trans hd;replace f0:=(hR 0 rfl).trans f0;replace f1:=(hR 1 rfl).trans f1;replace f5:=(hR 5 rfl).trans f5;have e14:a4.eval (.tmp 14)=.bool (decide ((kL:Int)<(mx:Int))):=hP 3 (by decide);have f14:=e14;replace HB:=HB.trans (hBt.below HB.size (UpOld.all (bx:=[]) trivial));clear hBt hr hR hP hX hU;refine wp_cond_split f14 (fun hc14=>?_) (fun hc14=>?_)
 ·skip;have hlt:=of_decide_eq_true hc14;obtain⟨bx_,ox_,hax,_,_⟩:=Rx0.cells (by omega);obtain⟨ex,hex⟩:∃e,xs[kL]? = some e:=⟨_,List.getElem?_eq_getElem (by omega)⟩;have Ax0:=Rx0.ag (List.mem_of_getElem? hex);have Ax:=Ax0.below HB;have lx:=Ax.sl.parts.1;obtain⟨by_,oy_,hay,_,_⟩:=Ry0.cells (by omega);obtain⟨ey,hey⟩:∃e,ys[kL]? = some e:=⟨_,List.getElem?_eq_getElem (by omega)⟩;have Ay0:=Ry0.ag (List.mem_of_getElem? hey);have Ay:=Ay0.below HB;have ly:=Ay.sl.parts.1;have hsm:=hS.at hex hey;refine wp_skip ?_;refine wp_seq ?_;refine wp_block ?_;refine wp_seq ?_;refine aam [some 17,some 18,some 19,some 20,some 21,some 22,some 23,some 24,some 25,some 26] [Eqs (.slice ax mx cx),Eqs (.int .i64 (kL:Int)),Eqs (.pointer (some ⟨bx_,ox_+kL*2,none⟩)),Eqs (.agg #[.bool ex.ng,.slice ex.a ex.m ex.c]),Eqs (.slice ay my cy),Eqs (.int .i64 (kL:Int)),Eqs (.pointer (some ⟨by_,oy_+kL*2,none⟩)),Eqs (.agg #[.bool ey.ng,.slice ey.a ey.m ey.c]),Eqs (.bool true),Eqs (.bool false)] [] [] (by kernel_rfl) hn rfl (by kernel_rfl) (by kernel_rfl) (by kernel_rfl) (by kernel_rfl) (by kernel_rfl) (by kernel_rfl) ⟨Eqs.mono4 _,Eqs.mono4 _,Eqs.mono4 _,Eqs.mono4 _,Eqs.mono4 _,Eqs.mono4 _,Eqs.mono4 _,Eqs.mono4 _,Eqs.mono4 _,Eqs.mono4 _,trivial⟩ aas (IsOld.all (bx:=[]) trivial) (DisOld.all (bx:=[]) trivial) ?_ ?_
  ·exact⟨.norm 17 rfl rfl rfl (fun a_ w_ hn_ hBt hr hR hD hO hS=>aa1 ((hR 0 rfl).trans f0)),
    .norm 18 rfl rfl rfl (fun a_ w_ hn_ hBt hr hR hD hO hS=>aa1 ((hR 5 rfl).trans f5)),
    .norm 19 rfl rfl rfl (fun a_ w_ hn_ hBt hr hR hD hO hS=>amm (show a_.eval (.tmp 17)=.slice ax mx cx from hD 0 rfl) hax (show a_.eval (.tmp 18)=.int .i64 (kL:Int)from hD 1 rfl) (by omega)),
    .norm 20 rfl rfl rfl (fun a_ w_ hn_ hBt hr hR hD hO hS=>aqc (show a_.eval (.tmp 19)=.pointer (some ⟨bx_,ox_+kL*2,none⟩)from hD 2 rfl) hax (Rx0.below (HB.trans (hBt.below HB.size (UpOld.all (bx:=[]) trivial)))) hex),
    .norm 21 rfl rfl rfl (fun a_ w_ hn_ hBt hr hR hD hO hS=>aa1 ((hR 1 rfl).trans f1)),
    .norm 22 rfl rfl rfl (fun a_ w_ hn_ hBt hr hR hD hO hS=>aa1 ((hR 5 rfl).trans f5)),
    .norm 23 rfl rfl rfl (fun a_ w_ hn_ hBt hr hR hD hO hS=>amm (show a_.eval (.tmp 21)=.slice ay my cy from hD 4 rfl) hay (show a_.eval (.tmp 22)=.int .i64 (kL:Int)from hD 5 rfl) (by omega)),
    .norm 24 rfl rfl rfl (fun a_ w_ hn_ hBt hr hR hD hO hS=>aqc (show a_.eval (.tmp 23)=.pointer (some ⟨by_,oy_+kL*2,none⟩)from hD 6 rfl) hay (Ry0.below (HB.trans (hBt.below HB.size (UpOld.all (bx:=[]) trivial)))) hey),
    .norm 25 rfl rfl rfl (fun a_ w_ hn_ hBt hr hR hD hO hS=>an2 (show a_.eval (.tmp 20)=.agg #[.bool ex.ng,.slice ex.a ex.m ex.c]from hD 3 rfl) (show a_.eval (.tmp 24)=.agg #[.bool ey.ng,.slice ey.a ey.m ey.c]from hD 7 rfl) (Ax.rl hr).sl (Ay.rl hr).sl hsm.1 hsm.2),
    .norm 26 rfl rfl rfl (fun a_ w_ hn_ hBt hr hR hD hO hS=>avv (show a_.eval (.tmp 25)=.bool true from hD 8 rfl)),
    trivial⟩
  intro a5 w5 gs5 hn5 hd5 hBt hr hR hP hX hU;replace hn:=hn5;replace hd:=hd5.trans hd;replace f0:=(hR 0 rfl).trans f0;replace f1:=(hR 1 rfl).trans f1;replace f5:=(hR 5 rfl).trans f5;have e26:a5.eval (.tmp 26)=.bool false:=hP 9 (by decide);have f26:=e26;replace Ax:=Ax.rl hr;replace Ay:=Ay.rl hr;replace HB:=HB.trans (hBt.below HB.size (UpOld.all (bx:=[]) trivial));clear hBt hr hR hP hX hU;refine wp_cond_false f26 ?_;refine wp_skip ?_;refine afv ?_;refine aam [some 15,some 16,some 5] [Eqs (.int .i64 (kL:Int)),Eqs (.int .i64 ((kL+1:Nat):Int)),Eqs (.int .i64 ((kL+1:Nat):Int))] [] [(2,0)] (by kernel_rfl) hn rfl (by kernel_rfl) (by kernel_rfl) (by kernel_rfl) (by kernel_rfl) (by kernel_rfl) (by kernel_rfl) ⟨Eqs.mono4 _,Eqs.mono4 _,Eqs.mono4 _,trivial⟩ aas (IsOld.all (bx:=[]) trivial) (DisOld.all (bx:=[]) trivial) ?_ ?_
  ·exact⟨.norm 15 rfl rfl rfl (fun a_ w_ hn_ hBt hr hR hD hO hS=>aa1 ((hS 2 5 rfl rfl).trans f5)),
    .norm 16 rfl rfl rfl (fun a_ w_ hn_ hBt hr hR hD hO hS=>auu (show a_.eval (.tmp 15)=.int .i64 (kL:Int)from hD 0 rfl) (by omega)),
    .norm 5 rfl rfl rfl (fun a_ w_ hn_ hBt hr hR hD hO hS=>aae (show a_.eval (.tmp 16)=.int .i64 ((kL+1:Nat):Int)from hD 1 rfl)),
    trivial⟩
  intro a6 w6 gs6 hn6 hd6 hBt hr hR hP hX hU;replace hn:=hn6;replace hd:=hd6.trans hd;replace f0:=(hR 0 rfl).trans f0;replace f1:=(hR 1 rfl).trans f1;have e5:a6.eval (.tmp 5)=.int .i64 ((kL+1:Nat):Int):=hP 2 (by decide);have f5:=e5;replace Ax:=Ax.rl hr;replace Ay:=Ay.rl hr;replace HB:=HB.trans (hBt.below HB.size (UpOld.all (bx:=[]) trivial));clear hBt hr hR hP hX hU;exact⟨nL-1,by omega,hn,hd,f0,f1,HB,kL+1,by omega,f5⟩
 ·skip;have hlt:=of_decide_eq_false hc14;refine wp_exit ?_;repeat(first|refine apq ?_|refine anl ?_|refine ann (by decide) ?_)
  refine anm ?_;refine wp_seq ?_;refine aam [some 4] [Eqs ((.bool true))] [] [] (by kernel_rfl) hn rfl (by kernel_rfl) (by kernel_rfl) (by kernel_rfl) (by kernel_rfl) (by kernel_rfl) (by kernel_rfl) ⟨Eqs.mono4 _,trivial⟩ aas (IsOld.all (bx:=[]) trivial) (DisOld.all (bx:=[]) trivial) ?_ ?_
  ·exact⟨.norm 4 rfl rfl rfl (fun a_ w_ hn_ hBt hr hR hD hO hS=>aae rfl),
    trivial⟩
  intro a7 w7 gs7 hn7 hd7 hBt hr hR hP hX hU;replace hn:=hn7;replace hd:=hd7.trans hd;have e4:a7.eval (.tmp 4)=(.bool true):=hP 0 (by decide);have f4:=e4;replace HB:=HB.trans (hBt.below HB.size (UpOld.all (bx:=[]) trivial));clear hBt hr hR hP hX hU;refine wp_ret ?_;repeat(first|refine acg ?_|refine abn ?_|refine ab3 ?_)
  exact bodyPost_ret (v:=.bool true) (aef rfl f4) hd ⟨rfl,HB⟩
theorem Ow.grown{B:Nat}{w w':World}{v:Value}{zs:List Int}{row:Option Nat}{cur:Nat->Array Value}(h:Ow B w v zs)(hg:w.grownBy w' row)(hr:∀k,row=some k->w.heap[k]? = some (.cells (cur k) 60 (0,0))):Ow B w' v zs:=by
 obtain⟨ao,cap,rfl,h1,h2,h3,h4⟩:=h;refine⟨ao,cap,rfl,h1,h2,h3,?_⟩;rcases h4 with h4|⟨g,off,c,rfl,hB,hh,h5,h6⟩
 ·exact .inl h4
 ·refine .inr ⟨g,off,c,rfl,hB,(hg.block g (aaa hh) (fun e=>?_)).trans hh,h5,h6⟩;have:=hr g e.symm;rw[hh]at this;injection this with this;injection this with _ this;exact absurd this (by decide)
structure RwO (B:Nat) (w:World) (v:Value) (es:List WE):Prop where
 own:w.ownsRow B 60 2 v es.length (flat es)
 ow:∀e∈es,Ow B w (.slice e.a e.m e.c) e.zs
theorem RwO.below{B:Nat}{w w':World}{v:Value}{es:List WE}(h:RwO B w v es)(hb:Below w.heap.size w w'):RwO B w' v es:=
 ⟨h.own.kept (row:=none) ⟨hb.os,hb.tape,hb.output,hb.size,fun k hk _=>hb.block k hk⟩ (by cases hv:v.ownBlock <;> simp),fun e he=>(h.ow e he).below hb⟩
theorem RwO.rw{B:Nat}{w:World}{v:Value}{es:List WE}(h:RwO B w v es):Rw w v es:=⟨Cl.own h.own,fun e he=>(h.ow e he).sl⟩
theorem aux(B:Nat)(w:World):RwO B w (.slice none 0 0) []:=⟨World.ownsRow_nil w B _ 2,fun e he=>by cases he⟩
def One(w:World)(g:Nat)(ng:Bool)(ao:Option Addr)(n c:Nat):Prop:=w.heap[g]? = some (.cells #[.bool ng,.slice ao n c] 60 (0,0))
section
variable {dst:Option Tmp} {ty:TypeId} {pos:String} {after:Array Edge} {guard:Option (Nat×Bool)} {a:Act} {w:World} {ats:Array TypeId} {i j:Nat}
theorem infoW:(Tryz.prog.info? 60).map (fun i=>(i.zero,i.size,i.bytes))=some (some (.agg #[.bool false,.slice none 0 0]),2,32):=by kernel_rfl
theorem auy{B g:Nat}{v:Value}{es:List WE}{ng:Bool}{ao:Option Addr}{n c:Nat}{zs:List Int}(h1:a.eval (.tmp i)=v)(h2:a.eval (.tmp j)=.slice (some ⟨g,0,none⟩) 1 1)(R:RwO B w v es)(O:One w g ng ao n c)(S:Ow B w (.slice ao n c) zs)(hn:es.length<=1000000)(hB:B<=w.heap.size):
  Does Tryz.prog {dst,op:=.call {callee:=.builtin .append,args:=#[.tmp i,.tmp j],argTypes:=#[23,23]},type:=ty,pos,after,guard} a.eval w fun v' w'=>RwO B w' v' (es ++ [⟨ng,ao,n,c,zs⟩])/\Below B w w':=by
 obtain⟨i0,hi,hz0,hz1,hz2⟩:=info_parts infoW;have hfl:flat (es ++ [⟨ng,ao,n,c,zs⟩])=flat es ++ [.bool ng,.slice ao n c]:=by rw[alo];rfl
 obtain⟨v',w',hr,ho,hgr,_⟩:=run_append_own (P:=Tryz.prog) w B 23 ty 60 i0 _ 2 32 Tryz.underlying23 hi hz0 hz1 hz2 rfl (by decide) v es.length (flat es) R.own ⟨g,0,none⟩ 1 1 [.bool ng,.slice ao n c] rfl (fun k u hu=>by
  have hc:∀k,w.cell? ⟨g,k,none⟩ = #[Value.bool ng,.slice ao n c][k]? :=fun k=>cell_of_row w g k _ _ (0,0) O
  have ha:(⟨g,0,none⟩:Addr).add k=⟨g,k,none⟩:=by unfold Addr.add;split <;> simp_all
  rw[ha,hc]
  simpa using hu) (by simp[Value.oneCell']) (by simp[maxLen];omega) (by omega) hB
 have e:(execOp a.eval {dst,op:=.call {callee:=.builtin .append,args:=#[.tmp i,.tmp j],argTypes:=#[23,23]},type:=ty,pos,after,guard}).run Tryz.prog w=.ok (.value v') w':=by
  simp only[execOp,resolve,invoke,builtin,Sem.run_bind,Sem.run_pure,Result.andThen_ok,List.map_toArray,List.map_cons,List.map_nil,h1,h2,hr]
 refine⟨?_⟩;unfold Turns;rw[e];have hrow:∃cur:Nat->Array Value,∀k,v.ownBlock=some k->w.heap[k]? = some (.cells (cur k) 60 (0,0)):=by
  rcases R.own.2 with⟨rfl,_⟩|⟨g',cap,cur,rfl,_,hh,_⟩
  ·exact⟨fun _=>#[],fun k hk=>by simp[Value.ownBlock]at hk⟩
  ·refine⟨fun _=>cur,fun k hk=>?_⟩;simp only[Value.ownBlock,Option.some.injEq]at hk;subst hk;exact hh
 obtain⟨cur,hcur⟩:=hrow;refine⟨⟨by rw[hfl,List.length_append];exact ho,fun e he=>?_⟩,⟨hgr.os,hgr.tape,hgr.output,hgr.size,fun k hk=>hgr.block k (by omega) (fun e=>?_)⟩⟩
 ·rcases List.mem_append.1 he with he|he
  ·exact(R.ow e he).grown hgr hcur
  ·obtain rfl:=List.mem_singleton.1 he;exact S.grown hgr hcur
 ·have:=R.own.lt k e.symm;omega
end
theorem aim{P:Program}{fn:Func}{a:Act}{w:World}{k k':Nat}{v v':Value}(hr:fn.results = #[.tmp k,.tmp k'])(hp:a.eval (.tmp k)=v)(hp':a.eval (.tmp k')=v'):(results fn a.tmps).run P w=.ok (.tuple #[v,v']) w:=by
 rw[<-hp,<-hp'];simp[results,hr,go_sem,Act.eval]
end Lm
end Go.Proofs.YtooefpkhacecnaaGreatDoor
