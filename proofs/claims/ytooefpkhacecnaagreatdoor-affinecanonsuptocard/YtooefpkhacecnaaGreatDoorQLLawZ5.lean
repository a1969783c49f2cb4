/-
  What the text behind the last one leans on, part 5.
-/
import Derived.Shelf.Lay
import Derived.Shelf.Strings.BuilderK
import Derived.Shelf.Unicode.DecodeSlow
import Derived.Deep.DeepCutAuto
import Derived.Test.YtooefpkhacecnaaGreatDoorQLLawZ4
set_option maxRecDepth 20000
set_option maxHeartbeats 40000000
namespace Go.Proofs.YtooefpkhacecnaaGreatDoor
namespace Lm
open Go Go.RowKit
structure QE where
 r:RE
 zs:List Int
 ys:List Int
def QE.p(e:QE):Int:=sg e.r.ng (val e.zs)
def QE.q(e:QE):Int:=val e.ys
def QE.w(e:QE):Rat:=Rat.divInt e.p e.q
structure Rq (w:World) (v:Value) (es:List QE):Prop where
 ce:Ce w v 3 es.length (rf3 (es.map QE.r))
 s1:∀e∈es,Sl w (.slice e.r.a e.r.m e.r.c) e.zs
 s2:∀e∈es,Sl w (.slice e.r.d e.r.k e.r.e) e.ys
theorem Rq.below{w w':World}{v:Value}{es:List QE}(h:Rq w v es)(hb:Below w.heap.size w w'):Rq w' v es:=⟨h.ce.below hb,fun e he=>(h.s1 e he).below hb,fun e he=>(h.s2 e he).below hb⟩
theorem Rq.parts{w:World}{ao:Option Addr}{n cap:Nat}{es:List QE}(h:Rq w (.slice ao n cap) es):n=es.length/\es.length<=cap/\cap<=9223372036854775807:=by
 obtain⟨ao',cap',hv,h1,h2,h3,h4⟩:=h.ce;obtain⟨rfl,rfl,rfl⟩:=(Value.slice.injEq .. ▸ hv);exact⟨rfl,h1,h2⟩
theorem Rq.cell{w:World}{ao:Option Addr}{n cap k:Nat}{es:List QE}{e:QE}(h:Rq w (.slice ao n cap) es)(he:es[k]? = some e):∃b off,ao=some ⟨b,off,none⟩/\b<w.heap.size/\w.cell? ⟨b,off+k*3,none⟩=some (.bool e.r.ng)/\w.cell? ⟨b,off+k*3+1,none⟩=some (.slice e.r.a e.r.m e.r.c)/\w.cell? ⟨b,off+k*3+2,none⟩=some (.slice e.r.d e.r.k e.r.e):=by
 obtain⟨ao',cap',hv,h1,h2,h3,h4⟩:=h.ce;obtain⟨rfl,rfl,rfl⟩:=(Value.slice.injEq .. ▸ hv);have hk:k<es.length:=(List.getElem?_eq_some_iff.1 he).1;rcases h4 with h4|⟨b,off,rfl,hl,hc⟩
 ·omega
 ·obtain⟨f0,f1,f2⟩:=afm (es:=es.map QE.r) (i:=k) (x:=e.r) (by simp[he]);exact⟨b,off,rfl,hl,hc _ _ f0,hc _ _ f1,hc _ _ f2⟩
theorem Rq.isq{w:World}{v:Value}{es:List QE}(h:Rq w v es){L:Nat}(hl:∀e∈es,e.zs.length<=L/\e.ys.length<=L):IsQrow w v (es.map QE.w) L:=by
 refine⟨es.map QE.r,by simpa using h.ce,by simp,fun k e r he hr=>?_⟩;simp only[List.getElem?_map,Option.map_eq_some_iff]at he hr;obtain⟨x,hx,rfl⟩:=he;obtain⟨y,hy,rfl⟩:=hr;obtain rfl:x=y:=by rw[hx]at hy;exact Option.some.inj hy
 have hm:=List.mem_of_getElem? hx;exact⟨x.p,x.q,⟨_,_,_,_,x.zs,_,_,_,x.ys,rfl,⟨h.s1 x hm,rfl⟩,h.s2 x hm,rfl,(hl x hm).1,(hl x hm).2⟩,rfl⟩
def lenQ:List QE->Nat
 | []=>0
 |e::es=>1+e.r.m+e.r.k+lenQ es
theorem afd(es fs:List QE):lenQ (es++fs)=lenQ es+lenQ fs:=by
 induction es with
 |nil=>simp[lenQ]
 |cons e es ih=>simp only[List.cons_append,lenQ,ih];omega
theorem aky{es:List QE}{k:Nat}{e:QE}(h:es[k]? = some e):lenQ (es.take (k+1))=lenQ (es.take k)+(1+e.r.m+e.r.k):=by
 rw[List.take_add_one,h,afd];simp[lenQ]
theorem agy(es:List QE)(k:Nat):lenQ (es.take k)<=lenQ es:=by
 conv=>rhs;rw[<-List.take_append_drop k es]
 rw[afd];omega
theorem af8{es:List QE}{e:QE}(h:e∈es):1+e.r.m+e.r.k<=lenQ es:=by
 induction es with
 |nil=>cases h
 |cons x es ih=>
  rcases List.mem_cons.1 h with rfl|h
  ·simp only[lenQ];omega
  ·have:=ih h;simp only[lenQ];omega
theorem ad1(es:List QE):es.length<=lenQ es:=by
 induction es with
 |nil=>simp[lenQ]
 |cons x es ih=>simp only[List.length_cons,lenQ];omega
theorem axg(w:World)(ax:Option Addr)(mx cx:Nat)(xs:List QE)(R:Rq w (.slice ax mx cx) xs)(hl:lenQ xs<=35184372088832):
  Calls Tryz.prog 18 #[.slice ax mx cx] w fun e w'=>e=.returned (.int .i64 (lenQ xs:Int))/\Below w.heap.size w w':=by
 have hll:=ad1 xs;have HX:=hide R;have HNx:Hid (mx=xs.length):=R.parts.1;have HL:Hid (lenQ xs<=35184372088832/\mx<=lenQ xs):=(show _/\_ from⟨hl,by rw[HNx.out];exact hll⟩);have hm:mx<=35184372088832:=by have:=HL.out;omega
 clear R hl hll;go_enter Tryz.func18,Tryz.ntmps18
 go_wp2_with fail
 go_loopw [3,4] (fun sv iv wr=>∃k:Nat,iv=.int .i64 k/\k<=mx/\sv=.int .i64 (lenQ (xs.take k):Int)/\Below w.heap.size w wr) (fun _ iv _=>mx-(intOf iv).toNat)
 case atStart=>exact⟨0,rfl,Nat.zero_le _,rfl,Below.refl _ _⟩
 case round=>
  obtain⟨k,rfl,hk,rfl,hbw⟩:=hrel;by_cases hlt:k<mx
  ·have hlt':(k:Int)<(mx:Int):=by omega
   obtain⟨ex,hex⟩:∃e,xs[k]? = some e:=⟨_,List.getElem?_eq_getElem (by have:=HNx.out;omega)⟩;obtain⟨bx,ox,hAx,hlx0,x0,x1,x2⟩:=(HX.out.below hbw).cell hex;subst hAx;have hs:=aky hex;have hle:=agy xs (k+1);have hm2:=HL.out;have HW:=hide hbw;have K1:=hide (a1h wr ex.r.ng ex.r.a ex.r.m ex.r.c ex.r.d ex.r.k ex.r.e (by omega) (by omega));obtain⟨s,hsv⟩:∃s,lenQ (xs.take k)=s:=⟨_,rfl⟩;rw[hsv]at hs ⊢;have hadd:IntKind.i64.wrap ((s:Int)+(1+(ex.r.m:Int)+(ex.r.k:Int)))=(s:Int)+(1+(ex.r.m:Int)+(ex.r.k:Int)):=by rw[IntKind.wrap_i64];omega
   have HSV:=hide hs;clear hbw hs hle hsv hm2 hex;go_wp2_with fail
   refine K1.out.mono ?_;rintro e w2 ⟨v2,rfl,hv2,hb2⟩;obtain rfl:v2=.int .i64 (1+(ex.r.m:Int)+(ex.r.k:Int)):=hv2;have HB2:=hide (HW.out.trans (hb2.mono HW.out.size));clear hb2 x0 x1 x2 hlx0;go_wp2;go_roundw
   case rel=>exact⟨k+1,by go_num,by omega,by rw[HSV.out];simp,HB2.out⟩
   case measure=>simp[intOf];omega
  ·have hlt':decide ((k:Int)<(mx:Int))=false:=by simp;omega
   have hkn:k=mx:=by omega
   subst hkn;have HW:=hide hbw;clear hbw;go_wp2;refine bodyPost_ret (v:=_) (ab9 rfl rfl) rfl ⟨by rw[List.take_of_length_le (by have:=HNx.out;omega)];rfl,HW.out⟩
def OwR(K:Nat)(ng:Bool)(zs ys:List Int):Says:=fun v w=>∃ao cap bo dap,v=.agg #[.bool ng,.slice ao zs.length cap,.slice bo ys.length dap]/\Ow K w (.slice ao zs.length cap) zs/\Ow K w (.slice bo ys.length dap) ys
theorem OwR.mono5(K:Nat)(ng:Bool)(zs ys:List Int):Mono5 (OwR K ng zs ys):=fun _ _ _ hr ⟨ao,cap,bo,dap,e,h,h'⟩=>⟨ao,cap,bo,dap,e,h.ru hr,h'.ru hr⟩
section
variable {dst:Option Tmp} {ty:TypeId} {pos:String} {after:Array Edge} {guard:Option (Nat×Bool)} {a:Act} {w:World} {ats:Array TypeId} {i j:Nat}
theorem az8{K:Nat}{ng:Bool}{zs ys:List Int}(h1:OwW K ng zs (a.eval (.tmp i)) w)(h2:OwL K ys (a.eval (.tmp j)) w):Does Tryz.prog {dst,op:=.build 62 #[(0,.tmp i),(1,.tmp j)],type:=ty,pos,after,guard} a.eval w fun v' w'=>Below w.heap.size w w'/\OwR K ng zs ys v' w':=by
 obtain⟨ao,cap,e1,o1⟩:=h1;obtain⟨bo,dap,e2,o2⟩:=h2;rw[e2]at o2;exact(a2v e1 e2).mono (fun v w' ⟨hb,e⟩=>⟨hb,ao,cap,bo,dap,e,o1.below hb,o2.below hb⟩)
theorem apj{b off n c k:Nat}{ao:Option Addr}(h:a.eval (.tmp i)=.slice ao n c)(hao:ao=some ⟨b,off,none⟩)(hk:a.eval (.tmp j)=.int .i64 (k:Int))(hl:k<n):Does Tryz.prog {dst,op:=.indexAddr 34 (.tmp i) (.tmp j),type:=ty,pos,after,guard} a.eval w fun v' w'=>Below w.heap.size w w'/\Eqs (.pointer (some ⟨b,off+k*3,none⟩)) v' w':=by
 subst hao;have hl':(k:Int)<(n:Int):=by omega
 refine⟨?_⟩;unfold Turns;simp only[execOp,h,hk];go_simp;exact⟨Below.refl _ _,rfl⟩
theorem auf{b off:Nat}{x:RE}(hp:a.eval (.tmp i)=.pointer (some ⟨b,off,none⟩))(h0:w.cell? ⟨b,off,none⟩=some (.bool x.ng))(h1:w.cell? ⟨b,off+1,none⟩=some (.slice x.a x.m x.c))(h2:w.cell? ⟨b,off+2,none⟩=some (.slice x.d x.k x.e)):
  Does Tryz.prog {dst,op:=.load 62 (.tmp i),type:=ty,pos,after,guard} a.eval w fun v' w'=>Below w.heap.size w w'/\Eqs (.agg #[.bool x.ng,.slice x.a x.m x.c,.slice x.d x.k x.e]) v' w':=by
 refine abq (v:=.agg #[.bool x.ng,.slice x.a x.m x.c,.slice x.d x.k x.e]) ?_ ⟨Below.refl _ _,rfl⟩;rw[hp];go_simp
end
theorem az9(w:World)(ng:Bool)(ax:Option Addr)(mx cx:Nat)(zs:List Int)(dx:Option Addr)(kx ex:Nat)(ys:List Int)(S1:Sl w (.slice ax mx cx) zs)(S2:Sl w (.slice dx kx ex) ys)(hl1:zs.length<=1000000)(hl2:ys.length<=1000000):
  Calls Tryz.prog 52 #[.agg #[.bool ng,.slice ax mx cx,.slice dx kx ex]] w fun e w'=>∃r,e=.returned r/\OwR w.heap.size ng zs ys r w'/\Below w.heap.size w w':=by
 obtain⟨w0,hw0,h0,h1,hB0⟩:=boxz w (.cells #[.bool ng,.slice ax mx cx,.slice dx kx ex] 62);go_enter Tryz.func52,Tryz.ntmps52
 go_upto_region 1 with fail
 clear hw0;refine ab6 7 [3,4,5,6,7,8,9] [Eqs (.pointer (some ⟨w.heap.size,0,none⟩)),Eqs (.agg #[.bool ng,.slice ax mx cx]),(OwW w.heap.size ng zs),Eqs (.pointer (some ⟨w.heap.size,2,none⟩)),Eqs (.slice dx kx ex),(OwL w.heap.size ys),(OwR w.heap.size ng zs ys)] rfl rfl (by decide) (by kernel_rfl) (by kernel_rfl) (by decide) (by kernel_rfl) ⟨Eqs.mono _,Eqs.mono _,(Mono.of4 (OwW.mono4 _ _ _)),Eqs.mono _,Eqs.mono _,(Mono.of4 (OwL.mono4 _ _)),(Mono.of4 (fun v w w' hr h=>OwR.mono5 _ _ _ _ v w w' (Ru.of_rl hr) h)),trivial⟩ ?_ ?_
 ·exact⟨⟨rfl,fun a_ w_ _ hB hR hD=>aet aiv ((hR 1 rfl).trans (aan rfl))⟩,
    ⟨rfl,fun a_ w_ _ hB hR hD=>afu (show a_.eval (.tmp 3)=.pointer (some ⟨w.heap.size,0,none⟩)from hD 0 rfl) (show BoxV R3 w_ w.heap.size (.agg #[.bool ng,.slice ax mx cx,.slice dx kx ex]) from⟨_,⟨_,_,_,_,_,_,_,rfl,rfl⟩,(hB.block _ (aaa h0)).trans h0⟩)⟩,
    ⟨rfl,fun a_ w_ _ hB hR hD=>ato (K:=w.heap.size) (show a_.eval (.tmp 4)=.agg #[.bool ng,.slice ax mx cx]from hD 1 rfl) (S1.below (hB0.trans (hB.mono hB0.size))) hl1 (Nat.le_trans hB0.size hB.size)⟩,
    ⟨rfl,fun a_ w_ _ hB hR hD=>aet aly ((hR 1 rfl).trans (aan rfl))⟩,
    ⟨rfl,fun a_ w_ _ hB hR hD=>ah5 (show a_.eval (.tmp 6)=.pointer (some ⟨w.heap.size,2,none⟩)from hD 3 rfl) (show BoxV R3 w_ w.heap.size (.agg #[.bool ng,.slice ax mx cx,.slice dx kx ex]) from⟨_,⟨_,_,_,_,_,_,_,rfl,rfl⟩,(hB.block _ (aaa h0)).trans h0⟩)⟩,
    ⟨rfl,fun a_ w_ _ hB hR hD=>akq (K:=w.heap.size) (show a_.eval (.tmp 7)=.slice dx kx ex from hD 4 rfl) (S2.below (hB0.trans (hB.mono hB0.size))) hl2 (Nat.le_trans hB0.size hB.size)⟩,
    ⟨rfl,fun a_ w_ _ hB hR hD=>az8 (show(OwW w.heap.size ng zs) (a_.eval (.tmp 5)) w_ from hD 2 rfl) (show(OwL w.heap.size ys) (a_.eval (.tmp 8)) w_ from hD 5 rfl)⟩,
    trivial⟩
 ·intro a' w' hn' hd' hB' hR' hP';have e3:a'.eval (.tmp 3)=.pointer (some ⟨w.heap.size,0,none⟩):=hP' 0 (by decide);have e4:a'.eval (.tmp 4)=.agg #[.bool ng,.slice ax mx cx]:=hP' 1 (by decide);obtain⟨u5,e5⟩:∃u,a'.eval (.tmp 5)=u:=⟨_,rfl⟩;have e6:a'.eval (.tmp 6)=.pointer (some ⟨w.heap.size,2,none⟩):=hP' 3 (by decide);have e7:a'.eval (.tmp 7)=.slice dx kx ex:=hP' 4 (by decide);obtain⟨u8,e8⟩:∃u,a'.eval (.tmp 8)=u:=⟨_,rfl⟩;obtain⟨u9,e9⟩:∃u,a'.eval (.tmp 9)=u:=⟨_,rfl⟩;have hT:(OwR w.heap.size ng zs ys) (a'.eval (.tmp 9)) w':=hP' 6 (by decide);rw[e9]at hT;refine acq hn' hd' hR' (.same rfl <| .same rfl <| .same rfl <| .new e3 <| .new e4 <| .new e5 <| .new e6 <| .new e7 <| .new e8 <| .new e9 <| .nil) ?_;clear e3 e4 e5 e6 e7 e8 e9;obtain⟨ao,cap,bo,dap,rfl,o1,o2⟩:=hT;have h1':=(hB'.block _ (aaa h1)).trans h1;obtain⟨_,c0,c1,c2,g0,g1,g2⟩:=aah h1';obtain⟨e1,e2⟩:=amd ng ao zs.length cap bo ys.length dap (Nat.le_succ w.heap.size) h1' (hB0.trans (hB'.mono hB0.size));have E:=hide (And.intro e1 e2);have HR:=hide (aee h1' (.bool ng) (.slice ao zs.length cap) (.slice bo ys.length dap));have HO:=hide (And.intro o1 o2);clear hB' hR' hP' hn' hd' h1' e1 e2 o1 o2 S1 S2 h0 h1 hB0;go_wp2;exact bodyPost_ret (v:=.agg #[.bool ng,.slice ao zs.length cap,.slice bo ys.length dap]) (abw (g:=w.heap.size+1) rfl rfl E.out.2) rfl ⟨_,rfl,⟨_,_,_,_,rfl,HO.out.1.ru HR.out,HO.out.2.ru HR.out⟩,E.out.1⟩
theorem samerr(w:World)(ng:Bool)(ax:Option Addr)(mx cx:Nat)(zs:List Int)(dx:Option Addr)(kx ex:Nat)(ys:List Int)(S1:Sl w (.slice ax mx cx) zs)(S2:Sl w (.slice dx kx ex) ys)(az:Option Addr)(mz cz:Nat)(dz:Option Addr)(kz ez:Nat)(S3:Sl w (.slice az mz cz) zs)(S4:Sl w (.slice dz kz ez) ys):
  Calls Tryz.prog 57 #[.agg #[.bool ng,.slice ax mx cx,.slice dx kx ex],.agg #[.bool ng,.slice az mz cz,.slice dz kz ez]] w fun e w'=>e=.returned (.bool true)/\Below w.heap.size w w':=by
 have hA1:=hAl w (.cells #[.bool ng,.slice ax mx cx,.slice dx kx ex] 62);have hA2:=hAl (w.alloc (.cells #[.bool ng,.slice ax mx cx,.slice dx kx ex] 62)) (.cells #[.bool ng,.slice az mz cz,.slice dz kz ez] 62);have h0:((w.alloc (.cells #[.bool ng,.slice ax mx cx,.slice dx kx ex] 62)).alloc (.cells #[.bool ng,.slice az mz cz,.slice dz kz ez] 62)).heap[w.heap.size]? = some (.cells #[.bool ng,.slice ax mx cx,.slice dx kx ex] 62 (0,0)):=aa2 (heap_alloc_new w _);have h1:((w.alloc (.cells #[.bool ng,.slice ax mx cx,.slice dx kx ex] 62)).alloc (.cells #[.bool ng,.slice az mz cz,.slice dz kz ez] 62)).heap[w.heap.size+1]? = some (.cells #[.bool ng,.slice az mz cz,.slice dz kz ez] 62 (0,0)):=by
  have:=heap_alloc_new (w.alloc (.cells #[.bool ng,.slice ax mx cx,.slice dx kx ex] 62)) (.cells #[.bool ng,.slice az mz cz,.slice dz kz ez] 62);simpa using this
 have hB0:=hA1.trans (hA2.mono hA1.size);go_enter Tryz.func57,Tryz.ntmps57
 go_upto_region 1 with fail
 generalize ((w.alloc (.cells #[.bool ng,.slice ax mx cx,.slice dx kx ex] 62)).alloc (.cells #[.bool ng,.slice az mz cz,.slice dz kz ez] 62))=w0 at *
 obtain⟨l0,c0,c1,c2,_,_,_⟩:=aah h0;obtain⟨l1,d0,d1,d2,_,_,_⟩:=aah h1;have K1:=hide (akp w0 ng ax az mx cx mz cz zs (S1.below hB0) (S3.below hB0));have HB0:=hide hB0;clear hA1 hA2;go_wp2_with fail
 refine K1.out.mono ?_;rintro e w1 ⟨rfl,hb1⟩;have HB1:=hide (HB0.out.trans (hb1.mono HB0.out.size));have c2':=(hb1.cell (p:=⟨w.heap.size,2,none⟩) l0).trans c2;have d2':=(hb1.cell (p:=⟨w.heap.size+1,2,none⟩) l1).trans d2;have l0':=Nat.lt_of_lt_of_le l0 hb1.size;have l1':=Nat.lt_of_lt_of_le l1 hb1.size;have K2:=ahx w1 dx dz kx kz ex ez ys ys (S2.below HB1.out) (S4.below HB1.out);rw[ain]at K2;have K2:=hide K2;clear hb1 K1 h0 h1 hB0 c0 c1 c2 d0 d1 d2 l0 l1 S1 S2 S3 S4;go_wp2_with fail
 refine K2.out.mono ?_;rintro e w2 ⟨rfl,hb2⟩;have HB2:=hide (HB1.out.trans (hb2.mono HB1.out.size));clear hb2 K2;go_wp2;refine bodyPost_ret (v:=_) (by simp[results,Tryz.results57,go_sem];try rfl) rfl ⟨rfl,HB2.out⟩
theorem arj:Has Tryz.prog 57:=by unfold Has;kernel_rfl
theorem aug{dst:Option Tmp}{ty:TypeId}{pos:String}{after:Array Edge}{guard:Option (Nat×Bool)}{a:Act}{w:World}{ats:Array TypeId}{i j:Nat}{x z:RE}{zs ys us ts:List Int}(h1:a.eval (.tmp i)=.agg #[.bool x.ng,.slice x.a x.m x.c,.slice x.d x.k x.e])(h2:a.eval (.tmp j)=.agg #[.bool z.ng,.slice z.a z.m z.c,.slice z.d z.k z.e])(S1:Sl w (.slice x.a x.m x.c) zs)(S2:Sl w (.slice x.d x.k x.e) ys)(S3:Sl w (.slice z.a z.m z.c) us)(S4:Sl w (.slice z.d z.k z.e) ts)(hn:x.ng=z.ng)(hz:zs=us)(hy:ys=ts):
  Does Tryz.prog {dst,op:=.call {callee:=.value (.func 57),args:=#[.tmp i,.tmp j],argTypes:=ats},type:=ty,pos,after,guard} a.eval w fun v w'=>Below w.heap.size w w'/\Eqs (.bool true) v w':=by
 subst hz hy;rw[<-hn]at h2;refine aaq arj _ (by simp only[List.map_toArray,List.map_cons,List.map_nil,h1,h2]) ((samerr w x.ng _ _ _ zs _ _ _ ys S1 S2 _ _ _ _ _ _ S3 S4).mono ?_);rintro e w' ⟨rfl,hb⟩;exact⟨_,rfl,hb,rfl⟩
def QE.raw(e:QE):Bool×List Int×List Int:=(e.r.ng,e.zs,e.ys)
def SameQ(es fs:List QE):Prop:=es.map QE.raw=fs.map QE.raw
theorem SameQ.len{es fs:List QE}(h:SameQ es fs):es.length=fs.length:=by simpa using congrArg List.length h
theorem SameQ.at{es fs:List QE}(h:SameQ es fs){k:Nat}{e f:QE}(he:es[k]? = some e)(hf:fs[k]? = some f):e.r.ng=f.r.ng/\e.zs=f.zs/\e.ys=f.ys:=by
 have h1:=congrArg (fun l=>l[k]?) h;simp only[List.getElem?_map,he,hf,Option.map_some,Option.some.injEq,QE.raw,Prod.mk.injEq]at h1;exact h1
theorem SameQ.w{es fs:List QE}(h:SameQ es fs):es.map QE.w=fs.map QE.w:=by
 have h2:=congrArg (List.map (fun x:Bool×List Int×List Int=>Rat.divInt (sg x.1 (val x.2.1)) (val x.2.2))) h;rw[List.map_map,List.map_map]at h2;exact h2
theorem ark{es xs:List QE}{k:Nat}{e f:QE}(h:SameQ es (xs.take k))(he:xs[k]? = some e)(hf:f.raw=e.raw):SameQ (es ++ [f]) (xs.take (k+1)):=by
 unfold SameQ at *
 rw[List.take_add_one,he,List.map_append,List.map_append,h];simp[hf]
theorem arl(es fs:List RE):rf3 (es++fs)=rf3 es++rf3 fs:=by
 induction es with
 |nil=>rfl
 |cons e es ih=>simp[rf3,ih]
structure RqO (B:Nat) (w:World) (v:Value) (es:List QE):Prop where
 own:w.ownsRow B 62 3 v es.length (rf3 (es.map QE.r))
 o1:∀e∈es,Ow B w (.slice e.r.a e.r.m e.r.c) e.zs
 o2:∀e∈es,Ow B w (.slice e.r.d e.r.k e.r.e) e.ys
theorem RqO.below{B:Nat}{w w':World}{v:Value}{es:List QE}(h:RqO B w v es)(hb:Below w.heap.size w w'):RqO B w' v es:=
 ⟨h.own.kept (row:=none) ⟨hb.os,hb.tape,hb.output,hb.size,fun k hk _=>hb.block k hk⟩ (by cases hv:v.ownBlock <;> simp),fun e he=>(h.o1 e he).below hb,fun e he=>(h.o2 e he).below hb⟩
theorem RqO.rq{B:Nat}{w:World}{v:Value}{es:List QE}(h:RqO B w v es):Rq w v es:=⟨Ce.own h.own,fun e he=>(h.o1 e he).sl,fun e he=>(h.o2 e he).sl⟩
theorem a0a(B:Nat)(w:World):RqO B w (.slice none 0 0) []:=⟨World.ownsRow_nil w B _ 3,fun e he=>(by cases he),fun e he=>(by cases he)⟩
theorem Ow.grownq{B:Nat}{w w':World}{v:Value}{zs:List Int}{row:Option Nat}{cur:Nat->Array Value}(h:Ow B w v zs)(hg:w.grownBy w' row)(hr:∀k,row=some k->w.heap[k]? = some (.cells (cur k) 62 (0,0))):Ow B w' v zs:=by
 obtain⟨ao,cap,rfl,h1,h2,h3,h4⟩:=h;refine⟨ao,cap,rfl,h1,h2,h3,?_⟩;rcases h4 with h4|⟨g,off,c,rfl,hB,hh,h5,h6⟩
 ·exact .inl h4
 ·refine .inr ⟨g,off,c,rfl,hB,(hg.block g (aaa hh) (fun e=>?_)).trans hh,h5,h6⟩;have:=hr g e.symm;rw[hh]at this;injection this with this;injection this with _ this;exact absurd this (by decide)
theorem a0b{dst:Option Tmp}{ty:TypeId}{pos:String}{after:Array Edge}{guard:Option (Nat×Bool)}{a:Act}{w:World}{i j:Nat}{B g:Nat}{v:Value}{es:List QE}{x:RE}{zs ys:List Int}(h1:a.eval (.tmp i)=v)(h2:a.eval (.tmp j)=.slice (some ⟨g,0,none⟩) 1 1)(R:RqO B w v es)(O:w.heap[g]? = some (.cells #[.bool x.ng,.slice x.a x.m x.c,.slice x.d x.k x.e] 62 (0,0)))(S1:Ow B w (.slice x.a x.m x.c) zs)(S2:Ow B w (.slice x.d x.k x.e) ys)(hn:es.length<=1000000)(hB:B<=w.heap.size):
  Does Tryz.prog {dst,op:=.call {callee:=.builtin .append,args:=#[.tmp i,.tmp j],argTypes:=#[34,34]},type:=ty,pos,after,guard} a.eval w fun v' w'=>RqO B w' v' (es ++ [⟨x,zs,ys⟩])/\Below B w w':=by
 obtain⟨i0,hi,hz0,hz1,hz2⟩:=info_parts infoRz;have hfl:rf3 ((es++([⟨x,zs,ys⟩]:List QE)).map QE.r)=rf3 (es.map QE.r) ++ [.bool x.ng,.slice x.a x.m x.c,.slice x.d x.k x.e]:=by rw[List.map_append,arl];rfl
 obtain⟨v',w',hr,ho,hgr,_⟩:=run_append_own (P:=Tryz.prog) w B 34 ty 62 i0 _ 3 56 Tryz.underlying34 hi hz0 hz1 hz2 rfl (by decide) v es.length (rf3 (es.map QE.r)) R.own ⟨g,0,none⟩ 1 1 [.bool x.ng,.slice x.a x.m x.c,.slice x.d x.k x.e] rfl (fun k u hu=>by
  have hc:∀k,w.cell? ⟨g,k,none⟩ = #[Value.bool x.ng,.slice x.a x.m x.c,.slice x.d x.k x.e][k]? :=fun k=>cell_of_row w g k _ _ (0,0) O
  have ha:(⟨g,0,none⟩:Addr).add k=⟨g,k,none⟩:=by unfold Addr.add;split <;> simp_all
  rw[ha,hc]
  simpa using hu) (by simp[Value.oneCell']) (by simp[maxLen];omega) (by omega) hB
 have e:(execOp a.eval {dst,op:=.call {callee:=.builtin .append,args:=#[.tmp i,.tmp j],argTypes:=#[34,34]},type:=ty,pos,after,guard}).run Tryz.prog w=.ok (.value v') w':=by
  simp only[execOp,resolve,invoke,builtin,Sem.run_bind,Sem.run_pure,Result.andThen_ok,List.map_toArray,List.map_cons,List.map_nil,h1,h2,hr]
 refine⟨?_⟩;unfold Turns;rw[e];have hrow:∃cur:Nat->Array Value,∀k,v.ownBlock=some k->w.heap[k]? = some (.cells (cur k) 62 (0,0)):=by
  rcases R.own.2 with⟨rfl,_⟩|⟨g',cap,cur,rfl,_,hh,_⟩
  ·exact⟨fun _=>#[],fun k hk=>by simp[Value.ownBlock]at hk⟩
  ·refine⟨fun _=>cur,fun k hk=>?_⟩;simp only[Value.ownBlock,Option.some.injEq]at hk;subst hk;exact hh
 obtain⟨cur,hcur⟩:=hrow;refine⟨⟨by rw[hfl,List.length_append];exact ho,fun e he=>?_,fun e he=>?_⟩,⟨hgr.os,hgr.tape,hgr.output,hgr.size,fun k hk=>hgr.block k (by omega) (fun e=>?_)⟩⟩
 ·rcases List.mem_append.1 he with he|he
  ·exact(R.o1 e he).grownq hgr hcur
  ·obtain rfl:=List.mem_singleton.1 he;exact S1.grownq hgr hcur
 ·rcases List.mem_append.1 he with he|he
  ·exact(R.o2 e he).grownq hgr hcur
  ·obtain rfl:=List.mem_singleton.1 he;exact S2.grownq hgr hcur
 ·have:=R.own.lt k e.symm;omega
theorem auh(w:World)(ax:Option Addr)(mx cx:Nat)(xs:List QE)(R:Rq w (.slice ax mx cx) xs)(hl:lenQ xs<=100000):
  Calls Tryz.prog 20 #[.slice ax mx cx] w fun e w'=>∃v es,e=.returned v/\RqO w.heap.size w' v es/\SameQ es xs/\Below w.heap.size w w':=by
 have hll:=ad1 xs;have HX:=hide R;have HNx:Hid (mx=xs.length):=R.parts.1;have HL:Hid (lenQ xs<=100000/\mx<=lenQ xs):=(show _/\_ from⟨hl,by rw[HNx.out];exact hll⟩);have hm:mx<=100000:=by have:=HL.out;omega
 clear R hl hll;go_enter Tryz.func20,Tryz.ntmps20
 go_wp2_with fail
 go_loopw [3,4] (fun ov iv wr=>∃(k:Nat) (es:List QE),iv=.int .i64 k/\k<=mx/\Below w.heap.size w wr/\RqO w.heap.size wr ov es/\SameQ es (xs.take k)) (fun _ iv _=>mx-(intOf iv).toNat)
 case atStart=>exact⟨0,[],rfl,Nat.zero_le _,Below.refl _ _,a0a _ _,rfl⟩
 case round=>
  obtain⟨k,es,rfl,hk,hbw,ho,hs⟩:=hrel;obtain⟨aov,capv,hov,_⟩:=Ce.own ho.own;subst hov;have HO:=hide ho;have HS:=hide hs;have HW:=hide hbw;by_cases hlt:k<mx
  ·have hlt':(k:Int)<(mx:Int):=by omega
   obtain⟨ex,hex⟩:∃e,xs[k]? = some e:=⟨_,List.getElem?_eq_getElem (by have:=HNx.out;omega)⟩;obtain⟨bx,ox,hAx,hlx,x0,x1,x2⟩:=(HX.out.below hbw).cell hex;subst hAx;have hsl1:=(HX.out.s1 ex (List.mem_of_getElem? hex)).below hbw;have hsl2:=(HX.out.s2 ex (List.mem_of_getElem? hex)).below hbw;have hem:=af8 (List.mem_of_getElem? hex);have hm2:=HL.out;have hes:es.length<=1000000:=by rw[hs.len,List.length_take];omega
   have K1:=hide (az9 wr ex.r.ng ex.r.a ex.r.m ex.r.c ex.zs ex.r.d ex.r.k ex.r.e ex.ys hsl1 hsl2 (by have:=hsl1.parts.1;omega) (by have:=hsl2.parts.1;omega));have HEX:=hide hex;clear hbw ho hs hsl1 hsl2 hem hm2 hex;go_wp2_with fail
   refine K1.out.mono ?_;rintro e w2 ⟨r2,rfl,⟨ao2,cap2,bo2,dap2,rfl,hw1,hw2⟩,hb2⟩;have hA:=hAl w2 (.cells #[.bool ex.r.ng,.slice ao2 ex.zs.length cap2,.slice bo2 ex.ys.length dap2] 62);have hb2':=hb2.trans (hA.mono hb2.size);have hR2:=HO.out.below hb2';have hO2:=heap_alloc_new w2 (.cells #[.bool ex.r.ng,.slice ao2 ex.zs.length cap2,.slice bo2 ex.ys.length dap2] 62);have hS1:Ow w.heap.size _ (.slice ao2 ex.zs.length cap2) ex.zs:=(hw1.mono HW.out.size).below hA;have hS2:Ow w.heap.size _ (.slice bo2 ex.ys.length dap2) ex.ys:=(hw2.mono HW.out.size).below hA;have hsz:w.heap.size<=(w2.alloc (.cells #[.bool ex.r.ng,.slice ao2 ex.zs.length cap2,.slice bo2 ex.ys.length dap2] 62)).heap.size:=Nat.le_trans HW.out.size hb2'.size;clear x0 x1 x2 hlx;go_wp2_with (at_builtin;refine adb rfl (a0b (i:=11) (j:=17) (x:=⟨ex.r.ng,ao2,ex.zs.length,cap2,bo2,ex.ys.length,dap2⟩) rfl rfl hR2 hO2 hS1 hS2 hes hsz) ?_)
   intro v3 w3 hR3 hb3;obtain⟨aov3,capv3,hov3,_⟩:=Ce.own hR3.own;subst hov3;have HR3:=hide hR3;have HB3:=hide ((HW.out.trans (hb2'.mono HW.out.size)).trans hb3);clear hR3 hb3 hR2 hO2 hS1 hS2 hsz hA hb2 hb2' hw1 hw2;go_wp2;go_roundw
   case rel=>exact⟨k+1,_,by go_num,by omega,HB3.out,HR3.out,ark HS.out HEX.out rfl⟩
   case measure=>simp[intOf];omega
  ·have hlt':decide ((k:Int)<(mx:Int))=false:=by simp;omega
   have hkn:k=mx:=by omega
   subst hkn;clear hbw ho hs;go_wp2;refine bodyPost_ret (v:=_) (ab9 rfl rfl) rfl ⟨_,es,rfl,HO.out,(by have h:=HS.out;rwa[List.take_of_length_le (by have:=HNx.out;omega)]at h),HW.out⟩
theorem aui(w:World)(ax:Option Addr)(mx cx:Nat)(xs:List QE)(Rx:Rq w (.slice ax mx cx) xs)(ay:Option Addr)(my cy:Nat)(ys:List QE)(Ry:Rq w (.slice ay my cy) ys)(hS:SameQ xs ys):
  Calls Tryz.prog 23 #[.slice ax mx cx,.slice ay my cy] w fun e w'=>e=.returned (.bool true)/\Below w.heap.size w w':=by
 obtain⟨rfl,hx2,hx3⟩:=Rx.parts;obtain⟨rfl,_,_⟩:=Ry.parts;have HX:=hide Rx;have HY:=hide Ry;have HS:=hide hS;have hlen:=hS.len;rw[<-hlen]at HY ⊢;obtain⟨n,hn⟩:∃n,xs.length=n:=⟨_,rfl⟩;rw[hn]at HX HY hx2 ⊢;have HNx:Hid (xs.length=n):=hn;have HNy:Hid (ys.length=n):=hlen.symm.trans hn;have hnn:((n:Int) != (n:Int))=false:=by simp
 clear Rx Ry hS hlen hn;go_enter Tryz.func23,Tryz.ntmps23
 go_wp2_with fail
 go_loopw [5] (fun iv wr=>∃k:Nat,iv=.int .i64 k/\k<=n/\Below w.heap.size w wr) (fun iv _=>n-(intOf iv).toNat)
 case atStart=>exact⟨0,rfl,Nat.zero_le _,Below.refl _ _⟩
 case round=>
  obtain⟨k,rfl,hk,hbw⟩:=hrel;have HW:=hide hbw;by_cases hlt:k<n
  ·have hlt':(k:Int)<(n:Int):=by omega
   obtain⟨ex,hex⟩:∃e,xs[k]? = some e:=⟨_,List.getElem?_eq_getElem (by have:=HNx.out;omega)⟩;obtain⟨bx,ox,hAx,hlx,x0,x1,x2⟩:=(HX.out.below hbw).cell hex;subst hAx;obtain⟨ez,hez⟩:∃e,ys[k]? = some e:=⟨_,List.getElem?_eq_getElem (by have:=HNy.out;omega)⟩;obtain⟨bz,oz,hAz,hlz,z0,z1,z2⟩:=(HY.out.below hbw).cell hez;subst hAz;have S1:=(HX.out.s1 ex (List.mem_of_getElem? hex)).below hbw;have S2:=(HX.out.s2 ex (List.mem_of_getElem? hex)).below hbw;have S3:=(HY.out.s1 ez (List.mem_of_getElem? hez)).below hbw;have S4:=(HY.out.s2 ez (List.mem_of_getElem? hez)).below hbw;have hq:=HS.out.at hex hez;clear hbw hex hez;go_upto_region 6 with fail
   go_cut [26] (fun cv wx=>cv=.bool false/\Below wr.heap.size wr wx)
   case first=>
    refine ay3 [17,18,19,20,21,22,23,24,25,26] [Eqs (.slice (some ⟨bx,ox,none⟩) n cx),Eqs (.int .i64 (k:Int)),Eqs (.pointer (some ⟨bx,ox+k*3,none⟩)),Eqs (.agg #[.bool ex.r.ng,.slice ex.r.a ex.r.m ex.r.c,.slice ex.r.d ex.r.k ex.r.e]),Eqs (.slice (some ⟨bz,oz,none⟩) n cy),Eqs (.int .i64 (k:Int)),Eqs (.pointer (some ⟨bz,oz+k*3,none⟩)),Eqs (.agg #[.bool ez.r.ng,.slice ez.r.a ez.r.m ez.r.c,.slice ez.r.d ez.r.k ez.r.e]),Eqs (.bool true),Eqs (.bool false)] (by assumption) (by assumption) rfl (by decide) (by kernel_rfl) (by kernel_rfl) ⟨Eqs.mono _,Eqs.mono _,Eqs.mono _,Eqs.mono _,Eqs.mono _,Eqs.mono _,Eqs.mono _,Eqs.mono _,Eqs.mono _,Eqs.mono _,trivial⟩ ?_ ?_
    ·exact⟨⟨rfl,fun a_ w_ _ hB hR hD=>aav ((hR 0 rfl).trans (aan rfl))⟩,
      ⟨rfl,fun a_ w_ _ hB hR hD=>aav ((hR 5 rfl).trans (aan rfl))⟩,
      ⟨rfl,fun a_ w_ _ hB hR hD=>apj (show a_.eval (.tmp 17)=.slice (some ⟨bx,ox,none⟩) n cx from hD 0 rfl) rfl (show a_.eval (.tmp 18)=.int .i64 (k:Int)from hD 1 rfl) (by omega)⟩,
      ⟨rfl,fun a_ w_ _ hB hR hD=>auf (show a_.eval (.tmp 19)=.pointer (some ⟨bx,ox+k*3,none⟩)from hD 2 rfl) ((hB.cell (p:=⟨bx,ox+k*3,none⟩) hlx).trans x0) ((hB.cell (p:=⟨bx,ox+k*3+1,none⟩) hlx).trans x1) ((hB.cell (p:=⟨bx,ox+k*3+2,none⟩) hlx).trans x2)⟩,
      ⟨rfl,fun a_ w_ _ hB hR hD=>aav ((hR 1 rfl).trans (aan rfl))⟩,
      ⟨rfl,fun a_ w_ _ hB hR hD=>aav ((hR 5 rfl).trans (aan rfl))⟩,
      ⟨rfl,fun a_ w_ _ hB hR hD=>apj (show a_.eval (.tmp 21)=.slice (some ⟨bz,oz,none⟩) n cy from hD 4 rfl) rfl (show a_.eval (.tmp 22)=.int .i64 (k:Int)from hD 5 rfl) (by omega)⟩,
      ⟨rfl,fun a_ w_ _ hB hR hD=>auf (show a_.eval (.tmp 23)=.pointer (some ⟨bz,oz+k*3,none⟩)from hD 6 rfl) ((hB.cell (p:=⟨bz,oz+k*3,none⟩) hlz).trans z0) ((hB.cell (p:=⟨bz,oz+k*3+1,none⟩) hlz).trans z1) ((hB.cell (p:=⟨bz,oz+k*3+2,none⟩) hlz).trans z2)⟩,
      ⟨rfl,fun a_ w_ _ hB hR hD=>aug (show a_.eval (.tmp 20)=.agg #[.bool ex.r.ng,.slice ex.r.a ex.r.m ex.r.c,.slice ex.r.d ex.r.k ex.r.e]from hD 3 rfl) (show a_.eval (.tmp 24)=.agg #[.bool ez.r.ng,.slice ez.r.a ez.r.m ez.r.c,.slice ez.r.d ez.r.k ez.r.e]from hD 7 rfl) (S1.below hB) (S2.below hB) (S3.below hB) (S4.below hB) hq.1 hq.2.1 hq.2.2⟩,
      ⟨rfl,fun a_ w_ _ hB hR hD=>asd (show a_.eval (.tmp 25)=.bool true from hD 8 rfl)⟩,
      trivial⟩
    ·intro a' w' hn' hd' hB' hR' hP'
     (repeat apply Exists.intro)
     refine⟨?rel,aor hn' hd' hR' ?fit⟩
     case fit=>repeat' (first|exact trivial|refine⟨(by first|exact .inl ⟨rfl,rfl⟩|exact .inr rfl),?_⟩)
     case rel=>exact⟨(show _=_ from hP' 9 (by decide)),hB'⟩
   case rest=>
    obtain⟨hc26,hbx⟩:=hcut;subst hc26;have HB2:=hide (HW.out.trans (hbx.mono HW.out.size));clear hbx x0 x1 x2 z0 z1 z2 S1 S2 S3 S4 hq;go_wp2;go_roundw
    case rel=>exact⟨k+1,by go_num,by omega,HB2.out⟩
    case measure=>simp[intOf];omega
  ·have hlt':decide ((k:Int)<(n:Int))=false:=by simp;omega
   clear hbw;go_wp2;refine bodyPost_ret (v:=_) (by simp[results,Tryz.results23,go_sem];try rfl) rfl ⟨rfl,HW.out⟩
theorem infoQ:(Tryz.prog.info? 87).map (fun i=>(i.zero,i.size,i.bytes))=some (some (.agg #[.bool false,.slice none 0 0,.bool false,.slice none 0 0]),4,64):=by kernel_rfl
def QOut(w:World)(fs:List WE)(rs:List Rat)(L:Nat):Prop:=fs.length=2*rs.length/\∀(k:Nat) (r:Rat),rs[k]? = some r->∃f g,fs[2*k]? = some f/\fs[2*k+1]? = some g/\OutN r.num L f.v w/\OutN (r.den:Int) L g.v w
def QRow(w:World)(v:Value)(rs:List Rat)(L:Nat):Prop:=∃fs:List WE,Ce w v 4 rs.length (flat fs)/\QOut w fs rs L
theorem QOut.rl{w w':World}{fs:List WE}{rs:List Rat}{L:Nat}(h:QOut w fs rs L)(hr:Rl w w'):QOut w' fs rs L:=
 ⟨h.1,fun k r hk=>by obtain⟨f,g,h1,h2,h3,h4⟩:=h.2 k r hk;exact⟨f,g,h1,h2,h3.rl hr,h4.rl hr⟩⟩
theorem QRow.below{w w':World}{v:Value}{rs:List Rat}{L:Nat}(h:QRow w v rs L)(hb:Below w.heap.size w w'):QRow w' v rs L:=by
 obtain⟨fs,h1,h2⟩:=h;exact⟨fs,h1.below hb,h2.rl (Rl.of_below hb)⟩
theorem QRow.parts{w:World}{v:Value}{rs:List Rat}{L:Nat}(h:QRow w v rs L):∃ao cap,v=.slice ao rs.length cap/\rs.length<=9223372036854775807:=by
 obtain⟨fs,⟨ao,cap,rfl,h1,h2,_⟩,_⟩:=h;exact⟨ao,cap,rfl,by omega⟩
theorem QRow.cell{w:World}{ao:Option Addr}{n cap:Nat}{rs:List Rat}{L k:Nat}{r:Rat}(h:QRow w (.slice ao n cap) rs L)(hr:rs[k]? = some r):∃b off ng a m c mg d e f,ao=some ⟨b,off,none⟩/\b<w.heap.size/\w.cell? ⟨b,off+k*4,none⟩=some (.bool ng)/\w.cell? ⟨b,off+k*4+1,none⟩=some (.slice a m c)/\w.cell? ⟨b,off+k*4+2,none⟩=some (.bool mg)/\w.cell? ⟨b,off+k*4+2+1,none⟩=some (.slice d e f)/\OutN r.num L (.agg #[.bool ng,.slice a m c]) w/\OutN (r.den:Int) L (.agg #[.bool mg,.slice d e f]) w:=by
 obtain⟨fs,⟨ao',cap',hv,h1,h2,h3,h4⟩,h5⟩:=h;simp only[Value.slice.injEq]at hv;obtain⟨rfl,rfl,rfl⟩:=hv;have hk:=(List.getElem?_eq_some_iff.1 hr).1;obtain⟨f,g,f1,g1,o1,o2⟩:=h5.2 k r hr;obtain⟨c0,c1⟩:=acb f1;obtain⟨c2,c3⟩:=acb g1;rcases h4 with h4|⟨b,off,rfl,hb,hc⟩
 ·omega
 ·refine⟨b,off,f.ng,f.a,f.m,f.c,g.ng,g.a,g.m,g.c,rfl,hb,?_,?_,?_,?_,o1,o2⟩
  ·rw[show k*4=2*k*2 by omega];exact hc _ _ c0
  ·rw[show off+k*4+1=off+(2*k*2+1) by omega];exact hc _ _ c1
  ·rw[show off+k*4+2=off+(2*k+1)*2 by omega];exact hc _ _ c2
  ·rw[show off+k*4+2+1=off+((2*k+1)*2+1) by omega];exact hc _ _ c3
structure QnO (B:Nat) (w:World) (v:Value) (fs:List WE) (rs:List Rat) (L:Nat):Prop where
 own:w.ownsRow B 87 4 v rs.length (flat fs)
 noi:NoI w v
 out:QOut w fs rs L
theorem QnO.below{B:Nat}{w w':World}{v:Value}{fs:List WE}{rs:List Rat}{L:Nat}(h:QnO B w v fs rs L)(hb:Below w.heap.size w w'):QnO B w' v fs rs L:=
 ⟨h.own.kept (row:=none) ⟨hb.os,hb.tape,hb.output,hb.size,fun k hk _=>hb.block k hk⟩ (by cases hv:v.ownBlock <;> simp),h.noi.below (fun k hk=>(h.own.lt k hk).2) hb,h.out.rl (Rl.of_below hb)⟩
theorem QnO.row{B:Nat}{w:World}{v:Value}{fs:List WE}{rs:List Rat}{L:Nat}(h:QnO B w v fs rs L):QRow w v rs L:=⟨fs,Ce.own h.own,h.out⟩
theorem a0c(B:Nat)(w:World)(L:Nat):QnO B w (.slice none 0 0) [] [] L:=⟨World.ownsRow_nil w B _ 4,fun g cs T hg=>by simp[Value.ownBlock]at hg,rfl,fun k r hk=>by simp at hk⟩
theorem a0d{dst:Option Tmp}{ty:TypeId}{pos:String}{after:Array Edge}{guard:Option (Nat×Bool)}{a:Act}{w:World}{i j:Nat}{B g:Nat}{v:Value}{fs:List WE}{rs:List Rat}{L:Nat}{r:Rat}{ng:Bool}{ao:Option Addr}{n c:Nat}{mg:Bool}{bo:Option Addr}{m d:Nat}(h1:a.eval (.tmp i)=v)(h2:a.eval (.tmp j)=.slice (some ⟨g,0,none⟩) 1 1)(R:QnO B w v fs rs L)(O:w.heap[g]? = some (.cells #[.bool ng,.slice ao n c,.bool mg,.slice bo m d] 87 (0,0)))(S1:OutN r.num L (.agg #[.bool ng,.slice ao n c]) w)(S2:OutN (r.den:Int) L (.agg #[.bool mg,.slice bo m d]) w)(hn:rs.length<=1000000)(hB:B<=w.heap.size):
  Does Tryz.prog {dst,op:=.call {callee:=.builtin .append,args:=#[.tmp i,.tmp j],argTypes:=#[83,83]},type:=ty,pos,after,guard} a.eval w fun v' w'=>QnO B w' v' (fs ++ [⟨ng,ao,n,c,[]⟩,⟨mg,bo,m,d,[]⟩]) (rs ++ [r]) L/\Below B w w':=by
 obtain⟨i0,hi,hz0,hz1,hz2⟩:=info_parts infoQ;have hfl:flat (fs ++ [⟨ng,ao,n,c,[]⟩,⟨mg,bo,m,d,[]⟩])=flat fs ++ [.bool ng,.slice ao n c,.bool mg,.slice bo m d]:=by rw[afb];rfl
 have hcl:∀(k:Nat) (u:Value),[Value.bool ng,.slice ao n c,.bool mg,.slice bo m d][k]? = some u->w.cell? ((⟨g,0,none⟩:Addr).add k)=some u:=fun k u hu=>by
  have hc:∀k,w.cell? ⟨g,k,none⟩ = #[Value.bool ng,.slice ao n c,.bool mg,.slice bo m d][k]? :=fun k=>cell_of_row w g k _ _ (0,0) O
  have ha:(⟨g,0,none⟩:Addr).add k=⟨g,k,none⟩:=by unfold Addr.add;split <;> simp_all
  rw[ha,hc];simpa using hu
 obtain⟨v',w',hr,ho,hgr,_⟩:=run_append_own (P:=Tryz.prog) w B 83 ty 87 i0 _ 4 64 Tryz.underlying83 hi hz0 hz1 hz2 rfl (by decide) v rs.length (flat fs) R.own ⟨g,0,none⟩ 1 1 [.bool ng,.slice ao n c,.bool mg,.slice bo m d] rfl hcl (by simp[Value.oneCell']) (by simp[maxLen];omega) (by omega) hB;have e:(execOp a.eval {dst,op:=.call {callee:=.builtin .append,args:=#[.tmp i,.tmp j],argTypes:=#[83,83]},type:=ty,pos,after,guard}).run Tryz.prog w=.ok (.value v') w':=by
  simp only[execOp,resolve,invoke,builtin,Sem.run_bind,Sem.run_pure,Result.andThen_ok,List.map_toArray,List.map_cons,List.map_nil,h1,h2,hr]
 refine⟨?_⟩;unfold Turns;rw[e];have hrl:Rl w w':=by
  refine⟨hgr.size,fun p k z e=>?_,fun k cs T hT e=>?_⟩
  ·rw[World.cell?_of_block (w:=w) (hgr.block p.block (aau e) fun hb=>?_)]
   ·exact e
   ·rcases R.own.2 with⟨rfl,_⟩|⟨g',cap,cur,rfl,_,hh,h5,h6,h7,h8⟩
    ·simp[Value.ownBlock]at hb
    ·simp only[Value.ownBlock,Option.some.injEq]at hb;obtain⟨pb,po,pm⟩:=p;simp only at hb;subst hb;simp only[World.cell?,hh]at e;cases pm with
     |some m=>simp at e
     |none=>
      have hm:=R.noi _ cur _ rfl hh (.int k z) (Array.mem_toList_iff.2 (Array.mem_of_getElem? (i:=po) (by simpa using e)));exact absurd hm (by simp[isI])
  ·refine(hgr.block k (aaa e) fun hb=>?_).trans e;rcases R.own.2 with⟨rfl,_⟩|⟨g',cap,cur,rfl,_,hh,_⟩
   ·simp[Value.ownBlock]at hb
   ·simp only[Value.ownBlock,Option.some.injEq]at hb;subst hb;rw[hh]at e;injection e with e;injection e with _ e _;rcases hT with rfl|rfl
    ·exact absurd e (by decide)
    ·exact absurd e (by decide)
 have hni:NoI w' v':=by
  have hown:=R.own;rw[<-hz1]at hown;exact aph (P:=Tryz.prog) w B 83 ty 87 i0 _ 64 Tryz.underlying83 hi hz0 hz2 (by omega) v rs.length (flat fs) hown ⟨g,0,none⟩ 1 [.bool ng,.slice ao n c,.bool mg,.slice bo m d] (by rw[hz1];rfl) hcl (by simp[Value.oneCell']) (by simp[maxLen];omega) (by omega) R.noi (by simp[isI]) (by simp[Value.cells,isI]) hr
 refine⟨⟨by rw[hfl,List.length_append];exact ho,hni,by simp[R.out.1];omega,fun k y hy=>?_⟩,⟨hgr.os,hgr.tape,hgr.output,hgr.size,fun k hk=>hgr.block k (by omega) (fun e=>?_)⟩⟩
 ·have hfl:=R.out.1;by_cases hk:k<rs.length
  ·rw[List.getElem?_append_left hk]at hy;obtain⟨f,g,a1,a2,a3,a4⟩:=R.out.2 k y hy;exact⟨f,g,by rw[List.getElem?_append_left (by omega)];exact a1,by rw[List.getElem?_append_left (by omega)];exact a2,a3.rl hrl,a4.rl hrl⟩
  ·have hkl:=(List.getElem?_eq_some_iff.1 hy).1;simp at hkl;obtain rfl:k=rs.length:=by omega
   rw[List.getElem?_append_right (Nat.le_refl _)]at hy;simp at hy;subst hy;refine⟨⟨ng,ao,n,c,[]⟩,⟨mg,bo,m,d,[]⟩,by rw[List.getElem?_append_right (by omega),hfl,Nat.sub_self];rfl,by rw[List.getElem?_append_right (by omega),hfl,show 2*rs.length+1-2*rs.length=1 by omega];rfl,S1.rl hrl,S2.rl hrl⟩
 ·have:=R.own.lt k e.symm;omega
theorem qreadF(w:World)(r:Rat)(v:Value)(L:Nat)(h:IsQ r L v w)(hL:L<=10000):
  Calls Tryz.prog 48 #[v] w fun e w'=>∃x,e=.returned x/\OutQ r.num (r.den:Int) (6*L+10) x w'/\Below w.heap.size w w':=by
 obtain⟨ng,ao,n,cap,xs,bo,m,dap,ys,p,q,rfl,h2,h3,h4,h5,h6,h7⟩:=h.open;refine(az0 w L ng ao n cap xs p h2 h5 bo m dap ys q h3 h4 h6 hL).mono ?_;rintro e w' ⟨x,rfl,ho,hb⟩;rw[ags _ (acy q),agt _ (acy q),afl,h7]at ho;exact⟨x,rfl,ho,hb⟩
theorem auj{x y:Int}(hx:0<=x)(hy:0<y):ov x y=x/y:=by
 unfold ov;rw[decide_eq_false (by omega),decide_eq_false (by omega)];show sg false _=_;simp only[sg];rw[if_neg (by decide),show(x.natAbs:Int)=x by omega,show(y.natAbs:Int)=y by omega]
theorem den_pos(r:Rat):(0:Int)<(r.den:Int):=by have:=r.den_pos;omega
theorem af9(rs:List Rat):0<comR rs:=by
 have key:∀(l:List Rat) (c:Int),0<c->0<l.foldl (fun c r=>c*((r.den:Int)/((Int.gcd c r.den:Nat):Int))) c:=by
  intro l;induction l with
  |nil=>exact fun c h=>h
  |cons x l ih=>
   intro c hc;refine ih _ (Int.mul_pos hc ?_);have h1:=den_pos x;have h2:((Int.gcd c x.den:Nat):Int) ∣ (x.den:Int):=Int.gcd_dvd_right ..;have h3:(0:Int)<((Int.gcd c x.den:Nat):Int):=by
    have:=Int.gcd_pos_of_ne_zero_left (x.den:Int) (show c≠0 by omega);omega
   exact Int.ediv_pos_of_pos_of_dvd h1 (by omega) h2
 exact key rs 1 (by decide)
def OneN(z:Int)(L:Nat):Says:=fun v w=>∃g ng a m c,v=.slice (some ⟨g,0,none⟩) 1 1/\w.heap[g]? = some (.cells #[.bool ng,.slice a m c] 85 (0,0))/\OutN z L (.agg #[.bool ng,.slice a m c]) w
theorem OneN.mono(z:Int)(L:Nat):Mono (OneN z L):=fun _ _ _ hb ⟨g,ng,a,m,c,e,h,o⟩=>⟨g,ng,a,m,c,e,(hb.block g (aaa h)).trans h,o.rl (Rl.of_below hb)⟩
section
variable {dst:Option Tmp} {ty:TypeId} {pos:String} {after:Array Edge} {guard:Option (Nat×Bool)} {a:Act} {w:World} {ats:Array TypeId} {i j:Nat}
theorem ahf{b off n c k:Nat}{ao:Option Addr}(h:a.eval (.tmp i)=.slice ao n c)(hao:ao=some ⟨b,off,none⟩)(hk:a.eval (.tmp j)=.int .i64 (k:Int))(hl:k<n):Does Tryz.prog {dst,op:=.indexAddr 83 (.tmp i) (.tmp j),type:=ty,pos,after,guard} a.eval w fun v' w'=>Below w.heap.size w w'/\Eqs (.pointer (some ⟨b,off+k*4,none⟩)) v' w':=by
 subst hao;have hl':(k:Int)<(n:Int):=by omega
 refine⟨?_⟩;unfold Turns;simp only[execOp,h,hk];go_simp;exact⟨Below.refl _ _,rfl⟩
theorem a0e{b o:Nat}(h:a.eval (.tmp i)=.pointer (some ⟨b,o,none⟩)):Does Tryz.prog {dst,op:=.fieldAddr 87 (.tmp i) 0,type:=ty,pos,after,guard} a.eval w fun v' w'=>Below w.heap.size w w'/\Eqs (.pointer (some ⟨b,o,none⟩)) v' w':=by
 refine⟨?_⟩;unfold Turns;simp only[execOp,h];go_simp;exact⟨Below.refl _ _,rfl⟩
theorem aj2{b o:Nat}(h:a.eval (.tmp i)=.pointer (some ⟨b,o,none⟩)):Does Tryz.prog {dst,op:=.fieldAddr 87 (.tmp i) 1,type:=ty,pos,after,guard} a.eval w fun v' w'=>Below w.heap.size w w'/\Eqs (.pointer (some ⟨b,o+2,none⟩)) v' w':=by
 refine⟨?_⟩;unfold Turns;simp only[execOp,h];go_simp;exact⟨Below.refl _ _,rfl⟩
theorem a0f{z:Int}{L:Nat}(h:OutN z L (a.eval (.tmp i)) w):
  Does Tryz.prog {dst,op:=.buildSlice 79 1 #[(0,.tmp i)],type:=ty,pos,after,guard} a.eval w fun v w'=>Below w.heap.size w w'/\OneN z L v w':=by
 obtain⟨ng,ao,n,c,e⟩:=h.agg;rw[e]at h;have hb:=hAl w (.cells #[.bool ng,.slice ao n c] 85);refine ais (v:=.slice (some ⟨w.heap.size,0,none⟩) 1 1) (w':=w.alloc (.cells #[.bool ng,.slice ao n c] 85)) ?_ ⟨hb,_,_,_,_,_,rfl,heap_alloc_new _ _,h.rl (Rl.of_below hb)⟩;simp only[List.map_toArray,List.map_cons,List.map_nil,e];go_simp
end
set_option maxRecDepth 100000 in
theorem am0(w:World)(v:Value)(rs:List Rat)(D M:Nat)(h:QRow w v rs D)(hD:D<=100000)(hM:M<=10000)(hM1:2<=M)(hl:rs.length<=100000)(hne:rs≠[])(hC:∀k,k<=rs.length->((comR (rs.take k)).natAbs:Int)<pw M)(hZ:∀z∈clr rs,(z.natAbs:Int)<pw M):
  Calls Tryz.prog 49 #[v] w fun e w'=>∃r,e=.returned r/\NRow w' r (canonZ rs) (3*M)/\Below w.heap.size w w':=by
 obtain⟨ar,cr,rfl,_⟩:=h.parts;have hpos:0<rs.length:=List.length_pos_iff.2 hne;obtain⟨n,hnn⟩:∃n,rs.length=n:=⟨_,rfl⟩;obtain⟨b,off,_,_,_,_,_,_,_,_,har,_⟩:=h.cell (k:=0) (List.getElem?_eq_getElem hpos);subst har;have HR:=hide h;rw[hnn]at HR hl hC hpos ⊢;have HN:=hide hnn;have HC:=hide hC;have HZ:=hide hZ;have HNE0:=hide hne;have K0:=hide (Dm.amm w 1 (by decide) (by decide));clear h hne hC hZ hnn;go_enter Tryz.func49,Tryz.ntmps49
 go_wp2_with fail
 refine K0.out.mono ?_;rintro e w1 ⟨ng0,ao0,cap0,rs0,rfl,G0,l0,hb1⟩;have hA:=hAl w1 (.cells #[.bool ng0,.slice ao0 rs0.length cap0] 85);have hnw:=heap_alloc_new w1 (.cells #[.bool ng0,.slice ao0 rs0.length cap0] 85);have HB1:=hide (hb1.trans (hA.mono hb1.size));have hsz1:=hb1.size;have HO1:Hid (OutN (comR (rs.take 0)) (3*M) (.agg #[.bool ng0,.slice ao0 rs0.length cap0]) (w1.alloc (.cells #[.bool ng0,.slice ao0 rs0.length cap0] 85))):=(show OutN 1 (3*M) _ _ from OutN.rl (⟨_,_,_,_,rfl,G0,by omega⟩:OutN 1 (3*M) _ w1) (Rl.of_below hA));clear hb1 hA G0 l0 K0;go_wp2_with fail
 generalize (w1.alloc (.cells #[.bool ng0,.slice ao0 rs0.length cap0] 85))=wa at *
 generalize w1.heap.size=f3 at *
 have HNW:=hide hnw;clear hnw;go_loopw [4] (fun iv wr=>∃(k:Nat),iv=.int .i64 k/\k<=n/\Below w.heap.size w wr/\∃ng a m c,wr.heap[f3]? = some (.cells #[.bool ng,.slice a m c] 85 (0,0))/\OutN (comR (rs.take k)) (3*M) (.agg #[.bool ng,.slice a m c]) wr) (fun iv _=>n-(intOf iv).toNat)
 case atStart=>exact⟨0,rfl,Nat.zero_le _,HB1.out,_,_,_,_,HNW.out,HO1.out⟩
 case round=>
  obtain⟨k,rfl,hk,hbw,ngg,ag,mg,cg,hgb,hgo⟩:=hrel;have HW:=hide hbw;have HG:=hide hgo;have HGB:=hide hgb;obtain⟨hgl,g0,g1,gf0,gf1⟩:=aam hgb;by_cases hlt:k<n
  ·have hlt':(k:Int)<(n:Int):=by omega
   obtain⟨r,hr⟩:∃r,rs[k]? = some r:=⟨_,List.getElem?_eq_getElem (by have:=HN.out;omega)⟩;obtain⟨b',off',_,_,_,_,_,_,_,_,hao,hbl,q0,q1,q2,q3,hq1,hq2⟩:=(HR.out.below hbw).cell hr;obtain⟨rfl,rfl⟩:b=b'/\off=off':=by simpa using hao
   have HQ2:=hide hq2;have hgp:(0:Int)<((Int.gcd (comR (rs.take k)) (r.den:Int):Nat):Int):=by
    have:=Int.gcd_pos_of_ne_zero_right (comR (rs.take k)) (show(r.den:Int)≠0 by have:=den_pos r;omega);omega
   have HNE:Hid (((Int.gcd (comR (rs.take k)) (r.den:Int):Nat):Int)≠0):=(show _≠_ by omega);have HOV:Hid (ov (r.den:Int) ((Int.gcd (comR (rs.take k)) (r.den:Int):Nat):Int)=(r.den:Int)/((Int.gcd (comR (rs.take k)) (r.den:Int):Nat):Int)):=auj (Int.le_of_lt (den_pos r)) hgp;have HCS:Hid (comR (rs.take (k+1))=comR (rs.take k)*((r.den:Int)/((Int.gcd (comR (rs.take k)) (r.den:Int):Nat):Int))):=acg _ _ hr;have HFIT:Hid (((comR (rs.take (k+1))).natAbs:Int)<pw M):=HC.out (k+1) (by omega);clear hbw hgo hgb hr hao hq1 hq2 hgp q0 q1;go_upto_region 5 with fail
   refine ab6 15 [14,15,16,17,18,19,20,21,22,23,24,25,26,27,28] [(OutN (comR (rs.take k)) (3*M)),Eqs (.slice (some ⟨b,off,none⟩) n cr),Eqs (.int .i64 (k:Int)),Eqs (.pointer (some ⟨b,off+k*4,none⟩)),Eqs (.pointer (some ⟨b,off+k*4+2,none⟩)),(OutN ((r.den:Int)) D),(OutN (comR (rs.take k)) (3*M)),Eqs (.slice (some ⟨b,off,none⟩) n cr),Eqs (.int .i64 (k:Int)),Eqs (.pointer (some ⟨b,off+k*4,none⟩)),Eqs (.pointer (some ⟨b,off+k*4+2,none⟩)),(OutN ((r.den:Int)) D),(OutN (((Int.gcd (comR (rs.take k)) (r.den:Int):Nat):Int)) (3*M+D)),(OutN ((r.den:Int)/((Int.gcd (comR (rs.take k)) (r.den:Int):Nat):Int)) D),(OutN (comR (rs.take (k+1))) (3*M))] rfl rfl (by decide) (by kernel_rfl) (by kernel_rfl) (by decide) (by kernel_rfl) ⟨(Mono.of4 (OutN.mono4 _ _)),Eqs.mono _,Eqs.mono _,Eqs.mono _,Eqs.mono _,(Mono.of4 (OutN.mono4 _ _)),(Mono.of4 (OutN.mono4 _ _)),Eqs.mono _,Eqs.mono _,Eqs.mono _,Eqs.mono _,(Mono.of4 (OutN.mono4 _ _)),(Mono.of4 (OutN.mono4 _ _)),(Mono.of4 (OutN.mono4 _ _)),(Mono.of4 (OutN.mono4 _ _)),trivial⟩ ?_ ?_
   ·exact⟨⟨rfl,fun a_ w_ _ hB hR hD=>ac7 ((hR 3 rfl).trans (aan rfl)) ((hB.cell (p:=⟨f3,0,none⟩) hgl).trans g0) ((hB.cell (p:=⟨f3,0+1,none⟩) hgl).trans g1) (Mono.of4 (OutN.mono4 _ _) _ _ _ hB HG.out)⟩,
      ⟨rfl,fun a_ w_ _ hB hR hD=>aav ((hR 0 rfl).trans (aan rfl))⟩,
      ⟨rfl,fun a_ w_ _ hB hR hD=>aav ((hR 4 rfl).trans (aan rfl))⟩,
      ⟨rfl,fun a_ w_ _ hB hR hD=>ahf (show a_.eval (.tmp 15)=.slice (some ⟨b,off,none⟩) n cr from hD 1 rfl) rfl (show a_.eval (.tmp 16)=.int .i64 (k:Int)from hD 2 rfl) (by omega)⟩,
      ⟨rfl,fun a_ w_ _ hB hR hD=>aj2 (show a_.eval (.tmp 17)=.pointer (some ⟨b,off+k*4,none⟩)from hD 3 rfl)⟩,
      ⟨rfl,fun a_ w_ _ hB hR hD=>ac7 (show a_.eval (.tmp 18)=.pointer (some ⟨b,off+k*4+2,none⟩)from hD 4 rfl) ((hB.cell (p:=⟨b,off+k*4+2,none⟩) hbl).trans q2) ((hB.cell (p:=⟨b,off+k*4+2+1,none⟩) hbl).trans q3) (Mono.of4 (OutN.mono4 _ _) _ _ _ hB HQ2.out)⟩,
      ⟨rfl,fun a_ w_ _ hB hR hD=>ac7 ((hR 3 rfl).trans (aan rfl)) ((hB.cell (p:=⟨f3,0,none⟩) hgl).trans g0) ((hB.cell (p:=⟨f3,0+1,none⟩) hgl).trans g1) (Mono.of4 (OutN.mono4 _ _) _ _ _ hB HG.out)⟩,
      ⟨rfl,fun a_ w_ _ hB hR hD=>aav ((hR 0 rfl).trans (aan rfl))⟩,
      ⟨rfl,fun a_ w_ _ hB hR hD=>aav ((hR 4 rfl).trans (aan rfl))⟩,
      ⟨rfl,fun a_ w_ _ hB hR hD=>ahf (show a_.eval (.tmp 21)=.slice (some ⟨b,off,none⟩) n cr from hD 7 rfl) rfl (show a_.eval (.tmp 22)=.int .i64 (k:Int)from hD 8 rfl) (by omega)⟩,
      ⟨rfl,fun a_ w_ _ hB hR hD=>aj2 (show a_.eval (.tmp 23)=.pointer (some ⟨b,off+k*4,none⟩)from hD 9 rfl)⟩,
      ⟨rfl,fun a_ w_ _ hB hR hD=>ac7 (show a_.eval (.tmp 24)=.pointer (some ⟨b,off+k*4+2,none⟩)from hD 10 rfl) ((hB.cell (p:=⟨b,off+k*4+2,none⟩) hbl).trans q2) ((hB.cell (p:=⟨b,off+k*4+2+1,none⟩) hbl).trans q3) (Mono.of4 (OutN.mono4 _ _) _ _ _ hB HQ2.out)⟩,
      ⟨rfl,fun a_ w_ _ hB hR hD=>ahd (L1:=3*M) (L2:=D) (show(OutN (comR (rs.take k)) (3*M)) (a_.eval (.tmp 20)) w_ from hD 6 rfl) (show(OutN ((r.den:Int)) D) (a_.eval (.tmp 25)) w_ from hD 11 rfl) (by omega) (by omega)⟩,
      ⟨rfl,fun a_ w_ _ hB hR hD=>(adh (Bx:=D) (By:=3*M+D) (show(OutN ((r.den:Int)) D) (a_.eval (.tmp 19)) w_ from hD 5 rfl) (show(OutN (((Int.gcd (comR (rs.take k)) (r.den:Int):Nat):Int)) (3*M+D)) (a_.eval (.tmp 26)) w_ from hD 12 rfl) (by omega) (by omega) HNE.out).mono (fun _ _ h_=>⟨h_.1,h_.2.to HOV.out (Nat.le_refl _)⟩)⟩,
      ⟨rfl,fun a_ w_ _ hB hR hD=>(aox (L1:=3*M) (L2:=D) (show(OutN (comR (rs.take k)) (3*M)) (a_.eval (.tmp 14)) w_ from hD 0 rfl) (show(OutN ((r.den:Int)/((Int.gcd (comR (rs.take k)) (r.den:Int):Nat):Int)) D) (a_.eval (.tmp 27)) w_ from hD 13 rfl) (by omega) (by omega)).mono (fun _ _ h_=>⟨h_.1,(h_.2.to HCS.out.symm (Nat.le_refl _)).fit HFIT.out⟩)⟩,
      trivial⟩
   ·intro a' w' hn' hd' hB' hR' hP';obtain⟨u14,e14⟩:∃u,a'.eval (.tmp 14)=u:=⟨_,rfl⟩;have e15:a'.eval (.tmp 15)=.slice (some ⟨b,off,none⟩) n cr:=hP' 1 (by decide);have e16:a'.eval (.tmp 16)=.int .i64 (k:Int):=hP' 2 (by decide);have e17:a'.eval (.tmp 17)=.pointer (some ⟨b,off+k*4,none⟩):=hP' 3 (by decide);have e18:a'.eval (.tmp 18)=.pointer (some ⟨b,off+k*4+2,none⟩):=hP' 4 (by decide);obtain⟨u19,e19⟩:∃u,a'.eval (.tmp 19)=u:=⟨_,rfl⟩;obtain⟨u20,e20⟩:∃u,a'.eval (.tmp 20)=u:=⟨_,rfl⟩;have e21:a'.eval (.tmp 21)=.slice (some ⟨b,off,none⟩) n cr:=hP' 7 (by decide);have e22:a'.eval (.tmp 22)=.int .i64 (k:Int):=hP' 8 (by decide);have e23:a'.eval (.tmp 23)=.pointer (some ⟨b,off+k*4,none⟩):=hP' 9 (by decide);have e24:a'.eval (.tmp 24)=.pointer (some ⟨b,off+k*4+2,none⟩):=hP' 10 (by decide);obtain⟨u25,e25⟩:∃u,a'.eval (.tmp 25)=u:=⟨_,rfl⟩;obtain⟨u26,e26⟩:∃u,a'.eval (.tmp 26)=u:=⟨_,rfl⟩;obtain⟨u27,e27⟩:∃u,a'.eval (.tmp 27)=u:=⟨_,rfl⟩;obtain⟨u28,e28⟩:∃u,a'.eval (.tmp 28)=u:=⟨_,rfl⟩;have hT:(OutN (comR (rs.take (k+1))) (3*M)) (a'.eval (.tmp 28)) w':=hP' 14 (by decide);rw[e28]at hT;refine acq hn' hd' hR' (.s4 rfl <| .s4 rfl <| .s4 rfl <| .same rfl <| .same rfl <| .new e14 <| .new e15 <| .new e16 <| .new e17 <| .new e18 <| .new e19 <| .new e20 <| .new e21 <| .new e22 <| .new e23 <| .new e24 <| .new e25 <| .new e26 <| .new e27 <| .new e28 <| .s16 rfl <| .s4 rfl <| .s4 rfl <| .nil) ?_;clear e14 e15 e16 e17 e18 e19 e20 e21 e22 e23 e24 e25 e26 e27 e28;obtain⟨ng1,a1,m1,c1,rfl⟩:=hT.agg;have hgb':=(hB'.block _ (aaa HGB.out)).trans HGB.out;obtain⟨_,c0',c1',f0,f1⟩:=aam hgb';obtain⟨s1,s2,s3⟩:=aya ng1 a1 m1 c1 hgb';have HT:=hide (hT.rl s2);have HNB:=hide s1;have HBW2:=hide ((HW.out.trans (hB'.mono HW.out.size)).trans (s3 _ hsz1));clear hB' hR' hP' hn' hd' hT hgb' g0 g1 gf0 gf1 hgl s1 s2 s3 q2 q3 hbl;go_wp2;go_roundw
    case rel=>exact⟨k+1,by go_num,by omega,HBW2.out,_,_,_,_,HNB.out,HT.out⟩
    case measure=>simp[intOf];omega
  ·have hlt':decide ((k:Int)<(n:Int))=false:=by simp;omega
   obtain rfl:k=n:=by omega
   have hall:rs.take k=rs:=List.take_of_length_le (by have:=HN.out;omega);rw[hall]at HG;clear hgo hall;obtain⟨wo,hwo⟩:∃wo,wo=wr:=⟨_,rfl⟩;subst hwo;go_wp2_with fail
   go_loopw [5,6] (fun ov iv wr=>∃(j:Nat) (fs:List WE),iv=.int .i64 j/\j<=k/\Below wo.heap.size wo wr/\RnO wo.heap.size wr ov fs ((clr rs).take j) (3*M)) (fun _ iv _=>k-(intOf iv).toNat)
   case atStart=>exact⟨0,[],rfl,Nat.zero_le _,Below.refl _ _,az5 _ _ _⟩
   case round=>
    obtain⟨j,fs,rfl,hj,hbj,hown⟩:=hrel;obtain⟨aov,capv,hov,_⟩:=Cl.own hown.own;subst hov;have HJ:=hide hbj;have HOWN:=hide hown;by_cases hltj:j<k
    ·have hlt':(j:Int)<(k:Int):=by omega
     obtain⟨r,hr⟩:∃r,rs[j]? = some r:=⟨_,List.getElem?_eq_getElem (by have:=HN.out;omega)⟩;have hW2:=HW.out.trans (hbj.mono HW.out.size);obtain⟨b',off',_,_,_,_,_,_,_,_,hao,hbl,q0,q1,q2,q3,hq1,hq2⟩:=(HR.out.below hW2).cell hr;obtain⟨rfl,rfl⟩:b=b'/\off=off':=by simpa using hao
     have hgb2:=(hbj.block _ (aaa HGB.out)).trans HGB.out;obtain⟨hgl2,g02,g12,_,_⟩:=aam hgb2;have HG2:=hide (HG.out.rl (Rl.of_below hbj));have HQ1:=hide hq1;have HQ2:=hide hq2;have HNE:Hid ((r.den:Int)≠0):=(show _≠_ by have:=den_pos r;omega);have HOV:Hid (ov (comR rs) (r.den:Int)=comR rs/(r.den:Int)):=auj (Int.le_of_lt (af9 rs)) (den_pos r);have hcl:(clr rs)[j]? = some (r.num*(comR rs/(r.den:Int))):=by unfold clr;rw[List.getElem?_map,hr];rfl
     have HCL:=hide hcl;have HFIT:Hid (((r.num*(comR rs/(r.den:Int))).natAbs:Int)<pw M):=HZ.out _ (List.mem_of_getElem? hcl);clear hbj hown hr hao hq1 hq2 hgb2 hcl hW2 hgb g0 g1 gf0 gf1 hgl hbw;have hgl:=hgl2;have g0:=g02;have g1:=g12;have HG:=HG2;clear hgl2 g02 g12 HG2;go_upto_region 10 with fail
     refine ams 15 [35,36,37,38,39,40,41,42,43,44,45,46,47,48,49] [Eqs (.slice aov fs.length capv),Eqs (.slice (some ⟨b,off,none⟩) k cr),Eqs (.int .i64 (j:Int)),Eqs (.pointer (some ⟨b,off+j*4,none⟩)),Eqs (.pointer (some ⟨b,off+j*4,none⟩)),(OutN (r.num) D),(OutN (comR rs) (3*M)),Eqs (.slice (some ⟨b,off,none⟩) k cr),Eqs (.int .i64 (j:Int)),Eqs (.pointer (some ⟨b,off+j*4,none⟩)),Eqs (.pointer (some ⟨b,off+j*4+2,none⟩)),(OutN ((r.den:Int)) D),(OutN (comR rs/(r.den:Int)) (3*M)),(OutN (r.num*(comR rs/(r.den:Int))) (3*M)),(OneN (r.num*(comR rs/(r.den:Int))) (3*M))] rfl rfl (by decide) (by kernel_rfl) (by kernel_rfl) (by decide) (by kernel_rfl) ⟨Eqs.mono _,Eqs.mono _,Eqs.mono _,Eqs.mono _,Eqs.mono _,(Mono.of4 (OutN.mono4 _ _)),(Mono.of4 (OutN.mono4 _ _)),Eqs.mono _,Eqs.mono _,Eqs.mono _,Eqs.mono _,(Mono.of4 (OutN.mono4 _ _)),(Mono.of4 (OutN.mono4 _ _)),(Mono.of4 (OutN.mono4 _ _)),(OneN.mono _ _),trivial⟩ ?_ ?_
     ·exact⟨⟨rfl,fun a_ w_ _ hB hR hD=>aav ((hR 5 rfl).trans (aan rfl))⟩,
        ⟨rfl,fun a_ w_ _ hB hR hD=>aav ((hR 0 rfl).trans (aan rfl))⟩,
        ⟨rfl,fun a_ w_ _ hB hR hD=>aav ((hR 6 rfl).trans (aan rfl))⟩,
        ⟨rfl,fun a_ w_ _ hB hR hD=>ahf (show a_.eval (.tmp 36)=.slice (some ⟨b,off,none⟩) k cr from hD 1 rfl) rfl (show a_.eval (.tmp 37)=.int .i64 (j:Int)from hD 2 rfl) (by omega)⟩,
        ⟨rfl,fun a_ w_ _ hB hR hD=>a0e (show a_.eval (.tmp 38)=.pointer (some ⟨b,off+j*4,none⟩)from hD 3 rfl)⟩,
        ⟨rfl,fun a_ w_ _ hB hR hD=>ac7 (show a_.eval (.tmp 39)=.pointer (some ⟨b,off+j*4,none⟩)from hD 4 rfl) ((hB.cell (p:=⟨b,off+j*4,none⟩) hbl).trans q0) ((hB.cell (p:=⟨b,off+j*4+1,none⟩) hbl).trans q1) (Mono.of4 (OutN.mono4 _ _) _ _ _ hB HQ1.out)⟩,
        ⟨rfl,fun a_ w_ _ hB hR hD=>ac7 ((hR 3 rfl).trans (aan rfl)) ((hB.cell (p:=⟨f3,0,none⟩) hgl).trans g0) ((hB.cell (p:=⟨f3,0+1,none⟩) hgl).trans g1) (Mono.of4 (OutN.mono4 _ _) _ _ _ hB HG.out)⟩,
        ⟨rfl,fun a_ w_ _ hB hR hD=>aav ((hR 0 rfl).trans (aan rfl))⟩,
        ⟨rfl,fun a_ w_ _ hB hR hD=>aav ((hR 6 rfl).trans (aan rfl))⟩,
        ⟨rfl,fun a_ w_ _ hB hR hD=>ahf (show a_.eval (.tmp 42)=.slice (some ⟨b,off,none⟩) k cr from hD 7 rfl) rfl (show a_.eval (.tmp 43)=.int .i64 (j:Int)from hD 8 rfl) (by omega)⟩,
        ⟨rfl,fun a_ w_ _ hB hR hD=>aj2 (show a_.eval (.tmp 44)=.pointer (some ⟨b,off+j*4,none⟩)from hD 9 rfl)⟩,
        ⟨rfl,fun a_ w_ _ hB hR hD=>ac7 (show a_.eval (.tmp 45)=.pointer (some ⟨b,off+j*4+2,none⟩)from hD 10 rfl) ((hB.cell (p:=⟨b,off+j*4+2,none⟩) hbl).trans q2) ((hB.cell (p:=⟨b,off+j*4+2+1,none⟩) hbl).trans q3) (Mono.of4 (OutN.mono4 _ _) _ _ _ hB HQ2.out)⟩,
        ⟨rfl,fun a_ w_ _ hB hR hD=>(adh (Bx:=3*M) (By:=D) (show(OutN (comR rs) (3*M)) (a_.eval (.tmp 41)) w_ from hD 6 rfl) (show(OutN ((r.den:Int)) D) (a_.eval (.tmp 46)) w_ from hD 11 rfl) (by omega) (by omega) HNE.out).mono (fun _ _ h_=>⟨h_.1,h_.2.to HOV.out (Nat.le_refl _)⟩)⟩,
        ⟨rfl,fun a_ w_ _ hB hR hD=>(aox (L1:=D) (L2:=3*M) (show(OutN (r.num) D) (a_.eval (.tmp 40)) w_ from hD 5 rfl) (show(OutN (comR rs/(r.den:Int)) (3*M)) (a_.eval (.tmp 47)) w_ from hD 12 rfl) (by omega) (by omega)).mono (fun _ _ h_=>⟨h_.1,h_.2.fit HFIT.out⟩)⟩,
        ⟨rfl,fun a_ w_ _ hB hR hD=>a0f (show(OutN (r.num*(comR rs/(r.den:Int))) (3*M)) (a_.eval (.tmp 48)) w_ from hD 13 rfl)⟩,
        trivial⟩
     ·intro a' w' hn' hd' hB' hR' hP';have e35:a'.eval (.tmp 35)=.slice aov fs.length capv:=hP' 0 (by decide);have e36:a'.eval (.tmp 36)=.slice (some ⟨b,off,none⟩) k cr:=hP' 1 (by decide);have e37:a'.eval (.tmp 37)=.int .i64 (j:Int):=hP' 2 (by decide);have e38:a'.eval (.tmp 38)=.pointer (some ⟨b,off+j*4,none⟩):=hP' 3 (by decide);have e39:a'.eval (.tmp 39)=.pointer (some ⟨b,off+j*4,none⟩):=hP' 4 (by decide);obtain⟨u40,e40⟩:∃u,a'.eval (.tmp 40)=u:=⟨_,rfl⟩;obtain⟨u41,e41⟩:∃u,a'.eval (.tmp 41)=u:=⟨_,rfl⟩;have e42:a'.eval (.tmp 42)=.slice (some ⟨b,off,none⟩) k cr:=hP' 7 (by decide);have e43:a'.eval (.tmp 43)=.int .i64 (j:Int):=hP' 8 (by decide);have e44:a'.eval (.tmp 44)=.pointer (some ⟨b,off+j*4,none⟩):=hP' 9 (by decide);have e45:a'.eval (.tmp 45)=.pointer (some ⟨b,off+j*4+2,none⟩):=hP' 10 (by decide);obtain⟨u46,e46⟩:∃u,a'.eval (.tmp 46)=u:=⟨_,rfl⟩;obtain⟨u47,e47⟩:∃u,a'.eval (.tmp 47)=u:=⟨_,rfl⟩;obtain⟨u48,e48⟩:∃u,a'.eval (.tmp 48)=u:=⟨_,rfl⟩;obtain⟨u49,e49⟩:∃u,a'.eval (.tmp 49)=u:=⟨_,rfl⟩;have hT:(OneN (r.num*(comR rs/(r.den:Int))) (3*M)) (a'.eval (.tmp 49)) w':=hP' 14 (by decide);rw[e49]at hT;refine acq hn' hd' hR' (.s16 rfl <| .s16 rfl <| .same rfl <| .same rfl <| .same rfl <| .new e35 <| .new e36 <| .new e37 <| .new e38 <| .new e39 <| .new e40 <| .new e41 <| .new e42 <| .new e43 <| .new e44 <| .new e45 <| .new e46 <| .new e47 <| .new e48 <| .new e49 <| .same rfl <| .same rfl <| .same rfl <| .nil) ?_;clear e35 e36 e37 e38 e39 e40 e41 e42 e43 e44 e45 e46 e47 e48 e49;obtain⟨gN,ng1,a1,m1,c1,rfl,hO2,hS2⟩:=hT;have hR2:=HOWN.out.below hB';have hsz:wo.heap.size<=w'.heap.size:=Nat.le_trans HJ.out.size hB'.size;have hfl:fs.length<=1000000:=by rw[HOWN.out.len,List.length_take];omega
      have HJB:=hide (HJ.out.trans (hB'.mono HJ.out.size));clear hR' hP' hn' hd' g0 g1 hgl q0 q1 q2 q3 hbl hB';refine adb rfl (az6 (i:=35) (j:=49) rfl rfl hR2 hO2 hS2 hfl hsz) ?_;rintro v3 w3 ⟨hR3,hb3⟩;obtain⟨aov3,capv3,hov3,_⟩:=Cl.own hR3.own;subst hov3;have HR3:=hide hR3;have HB3:=hide (HJB.out.trans hb3);clear hR3 hb3 hR2 hO2 hS2 hsz hfl;go_wp2;go_roundw
      case rel=>exact⟨j+1,fs ++ [⟨ng1,a1,m1,c1,[]⟩],by go_num,by omega,HB3.out,by have h:=HR3.out;rw[List.length_append]at h;rw[List.take_add_one,HCL.out];exact h⟩
      case measure=>simp[intOf];omega
    ·have hlt':decide ((j:Int)<(k:Int))=false:=by simp;omega
     obtain rfl:j=k:=by omega
     have hall:(clr rs).take j=clr rs:=List.take_of_length_le (by have:=HN.out;unfold clr;rw[List.length_map];omega);have hNR:NRow wr (.slice aov fs.length capv) (clr rs) (3*M):=by have:=HOWN.out.nrow;rwa[hall]at this
     have hne2:clr rs≠[]:=fun e=>HNE0.out (by unfold clr at e;simpa using e)
     have K9:=hide (ari wr _ (clr rs) M hNR (by have:=HN.out;unfold clr;rw[List.length_map];omega) hM HZ.out hne2);have HBJ:=hide (HW.out.trans (hbj.mono HW.out.size));clear hbj hown hall hNR hne2 hbw hgb g0 g1 gf0 gf1 hgl;go_wp2_with fail
     refine K9.out.mono ?_;rintro e w9 ⟨r9,rfl,h9,hb9⟩;obtain⟨a9,c9,hv9,_⟩:=id h9.parts;subst hv9;have H9:=hide h9;have HB9:=hide (HBJ.out.trans (hb9.mono HBJ.out.size));clear h9 hb9 K9;go_wp2;refine bodyPost_ret (v:=_) (ab9 rfl rfl) rfl ⟨_,rfl,H9.out,HB9.out⟩
end Lm
namespace Lm
open Go Go.RowKit
open Dm (WFr)
theorem ntoldF(w:World)(z:Int)(v:Value)(L:Nat)(h:OutN z L v w)(hL:L<=1000000):
  Calls Tryz.prog 91 #[v] w fun e w'=>∃r,e=.returned r/\FrW w.heap.size z L r w'/\Below w.heap.size w w':=by
 obtain⟨ng,ao,cap,rs,rfl,W,l⟩:=h;refine(Dm.a1m w _ _ _ _ _ W L (W.bound l) hL (by omega)).mono ?_;rintro e w' ⟨bo,dap,ls,rfl,F,l2,hb⟩;exact⟨_,rfl,⟨_,_,_,_,_,_,rfl,F,Nat.le_refl _,Nat.le_refl _,l2⟩,hb⟩
theorem am3(w:World)(v:Value)(zs:List Int)(L:Nat)(h:NRow w v zs L)(hl:zs.length<=100000)(hL:L<=1000000):
  Calls Tryz.prog 51 #[v] w fun e w'=>∃r,e=.returned r/\CanRow w' r zs L/\Below w.heap.size w w':=by
 obtain⟨ao,cap,rfl,_⟩:=h.parts;have H:=hide h;clear h;obtain⟨n,hn⟩:∃n,zs.length=n:=⟨_,rfl⟩;rw[hn]at H hl ⊢;have HN:=hide hn;clear hn;go_enter Tryz.func51,Tryz.ntmps51
 go_wp2_with fail
 go_loopw [3,4] (fun ov iv wr=>∃(k:Nat) (es:List WE),iv=.int .i64 k/\k<=n/\Below w.heap.size w wr/\es.length=k/\RwO w.heap.size wr ov es/\∀(j:Nat) (e:WE) (z:Int),es[j]? = some e->zs[j]? = some z->Canon e.zs/\val e.zs=(z.natAbs:Int)/\e.ng=decide (z<0)/\e.zs.length<=L) (fun _ iv _=>n-(intOf iv).toNat)
 case atStart=>exact⟨0,[],rfl,Nat.zero_le _,Below.refl _ _,rfl,ajy _ _,fun j e z he=>(by simp at he)⟩
 case round=>
  obtain⟨k,es,rfl,hk,hbw,hes,hown,hall⟩:=hrel;have HW:=hide hbw;have HES:=hide hes;have HOWN:=hide hown;have HALL:=hide hall;obtain⟨aov,capv,hov,_⟩:=Cl.own hown.own;subst hov;by_cases hlt:k<n
  ·obtain⟨z,hz⟩:∃z,zs[k]? = some z:=⟨_,List.getElem?_eq_getElem (by have:=HN.out;omega)⟩;obtain⟨b,off,ng,a,m,c,rfl,hbl,x0,x1,hxw⟩:=(H.out.below hbw).cell hz;have HG:=hide hz;have K1:=hide (ntoldF wr z _ L hxw hL);have hlt':(k:Int)<(n:Int):=by omega
   clear hbw hown hz hxw hes hall;go_wp2_with fail
   refine K1.out.mono ?_;rintro e w2 ⟨r2,rfl,hf2,hb2⟩;obtain⟨ng2,ao2,cap2,rs2,B2,T2,rfl,hwf,hB2,hT2,hl2⟩:=hf2;have hA:=hAl w2 (.cells #[.bool ng2,.slice ao2 rs2.length cap2] 60);have hb2':=hb2.trans (hA.mono hb2.size);have hR2:=HOWN.out.below hb2';have hO2:One _ w2.heap.size ng2 ao2 rs2.length cap2:=heap_alloc_new w2 (.cells #[.bool ng2,.slice ao2 rs2.length cap2] 60);have hS2:Ow w.heap.size _ (.slice ao2 rs2.length cap2) rs2:=(hwf.fr.ow.mono (Nat.le_trans HW.out.size hB2)).below hA;have hsz:w.heap.size<=(w2.alloc (.cells #[.bool ng2,.slice ao2 rs2.length cap2] 60)).heap.size:=Nat.le_trans HW.out.size hb2'.size;go_wp2_with (at_builtin;refine adb rfl (aoy (i:=11) (j:=17) rfl rfl hR2 hO2 hS2 (by rw[HES.out];omega) hsz) ?_)
   intro v3 w3 hR3 hb3;obtain⟨aov3,capv3,hov3,_⟩:=Cl.own hR3.own;subst hov3;have HR3:=hide hR3;have HB3:=hide ((HW.out.trans (hb2'.mono HW.out.size)).trans hb3);have HWF:=hide hwf;clear hR3 hb3 hR2 hO2 hS2 hsz hA hb2 hb2' hwf hB2 hT2;go_wp2;go_roundw
   case rel=>
    refine⟨k+1,es ++ [⟨ng2,ao2,rs2.length,cap2,rs2⟩],by go_num,by omega,HB3.out,by simp[HES.out],HR3.out,fun j e y he hy=>?_⟩;by_cases hj:j<es.length
    ·rw[List.getElem?_append_left hj]at he;exact HALL.out j e y he hy
    ·have hjl:=(List.getElem?_eq_some_iff.1 he).1;simp at hjl;obtain rfl:j=es.length:=by omega
     rw[List.getElem?_append_right (Nat.le_refl _)]at he;simp at he;subst he;rw[HES.out,HG.out]at hy;obtain rfl:=Option.some.inj hy;exact⟨HWF.out.fr.canon,HWF.out.fr.val,HWF.out.sgn,hl2⟩
   case measure=>simp[intOf];omega
  ·have hlt':decide ((k:Int)<(n:Int))=false:=by simp;omega
   have hkn:k=n:=by omega
   subst hkn;clear hbw hes hown hall;go_wp2;refine bodyPost_ret (v:=_) (ab9 rfl rfl) rfl ⟨_,rfl,⟨es,HOWN.out.rw,by rw[HES.out,HN.out],HALL.out⟩,HW.out⟩
def BRow(w:World)(bv n k:Nat)(es:List WE)(B T:Nat->Nat)(K S:Nat):Prop:=
 es.length=n/\w.heap[bv]? = some (.cells (flat es).toArray 60 (0,0))/\(∀(j:Nat) (e:WE),k<=j->es[j]? = some e->∃z,WFr (B j) (T j) w e.ng e.a e.c e.zs z/\e.m=e.zs.length)/\(∀j,j<n->K<=B j/\T j<=S)/\∀j j':Nat,j<j'->j'<n->T j<=B j'
theorem ORow.brow{K:Nat}{w:World}{v:Value}{zs:List Int}{L:Nat}(h:ORow K w v zs L):∃bv es B T,v=.slice (some ⟨bv,0,none⟩) zs.length zs.length/\K<=bv/\bv<w.heap.size/\BRow w bv zs.length 0 es B T K w.heap.size:=by
 obtain⟨bv,rfl,hK,hp,_⟩:=h;have hlt:=hp.lt;obtain⟨es,B,T,h1,h2,_,h4,h5⟩:=hp;have hat:∀j,j<zs.length->∃e z,es[j]? = some e/\zs[j]? = some z:=fun j hj=>⟨_,_,List.getElem?_eq_getElem (by omega),List.getElem?_eq_getElem hj⟩
 refine⟨bv,es,B,T,rfl,hK,hlt,h1,h2,fun j e _ he=>?_,fun j hj=>?_,fun j j' hjj hj'=>h5 j j' hjj hj'⟩
 ·obtain⟨z,hz⟩:∃z,zs[j]? = some z:=⟨_,List.getElem?_eq_getElem (by have:=(List.getElem?_eq_some_iff.1 he).1;omega)⟩;obtain⟨g1,g2,_⟩:=h4 j e z (by have:=(List.getElem?_eq_some_iff.1 he).1;omega) he hz;exact⟨z,g1,g2⟩
 ·obtain⟨e,z,he,hz⟩:=hat j hj;obtain⟨_,_,_,g4,g5⟩:=h4 j e z hj he hz;exact⟨g4,g5⟩
theorem BRow.below{w w':World}{bv n k:Nat}{es:List WE}{B T:Nat->Nat}{K S:Nat}(h:BRow w bv n k es B T K S)(hb:Below w.heap.size w w'):BRow w' bv n k es B T K S:=by
 obtain⟨h1,h2,h3,h4,h5⟩:=h;exact⟨h1,(hb.block bv (aaa h2)).trans h2,fun j e hj he=>(by obtain⟨z,g1,g2⟩:=h3 j e hj he;exact⟨z,g1.ru (Ru.of_below hb),g2⟩),h4,h5⟩
end Lm
namespace Lm
open Go Go.RowKit
theorem arm(n:Nat):∃m,IsLen (n:Int) m:=by
 have key:∀n:Nat,∃zs,Limb zs/\val zs=(n:Int):=by
  intro n;induction n using Nat.strongRecOn with
  |_ n ih=>
   by_cases h:n=0
   ·exact⟨[],aac,by simp[val,h]⟩
   ·obtain⟨zs,hl,hv⟩:=ih (n/4294967296) (Nat.div_lt_self (by omega) (by omega));refine⟨((n%4294967296:Nat):Int)::zs,fun z hz=>?_,?_⟩
    ·rcases List.mem_cons.1 hz with rfl|hz
     ·omega
     ·exact hl z hz
    ·simp only[val,hv];omega
 obtain⟨zs,hl,hv⟩:=key n;exact⟨_,_,aa0 hl,by rw[aai,hv],rfl⟩
theorem am4{x:Int}{m:Nat}(h:IsLen x m):(m<=32↔x<pw 32):=by
 obtain⟨rs,hc,hv,rfl⟩:=h;constructor
 ·intro hl;have h1:=(aab hc.1).2;have h2:=aay hl;omega
 ·exact fun hx=>aax hc (by omega)
theorem a27:p10 308<=pw 32:=by decide +kernel
theorem a0g(n:Nat):Dm.pw n=p10 (4*n):=by
 induction n with
 |zero=>rfl
 |succ n ih=>
  rw[Dm.pw,ih,show 4*(n+1)=4*n+1+1+1+1 from by omega];simp only[p10];omega
theorem nbigF(w:World)(z:Int)(v:Value)(L:Nat)(h:OutN z L v w)(hL:L<=1000000):
  Calls Tryz.prog 90 #[v] w fun e w'=>e=.returned (.bool (decide (¬(z.natAbs:Int)<pw 32)))/\Below w.heap.size w w':=by
 obtain⟨ng,ax,cx,xs,rfl,G,l⟩:=h;obtain⟨m,hm⟩:=arm z.natAbs;have HW:=hide G;have HM:=hide hm;have HD:Hid (decide (¬(z.natAbs:Int)<pw 32)=decide (32<m)):=decide_eq_decide.2 (by have:=am4 hm;omega);have hsl:xs.length<=77->m<=32:=by
  intro h;refine(am4 hm).2 ?_;have h1:=(Dm.aab G.1.2.1.1).2;rw[G.1.2.2]at h1;have h2:=ab5 (m:=4*xs.length) (n:=308) (by omega);rw[a0g]at h1;have h3:=a27;omega
 have HS:=hide hsl;rw[HD.out];clear hm G hsl;by_cases h77:77<xs.length
 ·have h77':(77:Int)<(xs.length:Int):=by omega
  generalize hxl:xs.length=n at *
  go_enter Tryz.func90,Tryz.ntmps90
  go_wp2_with fail
  have hb1:=hAl w (.cells #[.bool ng,.slice ax n cx] 85);have K:=azy (w.alloc (.cells #[.bool ng,.slice ax n cx] 85)) L ng ax cx xs z (HW.out.below hb1) (by omega) hL m HM.out;rw[hxl]at K;refine K.mono ?_;rintro e w2 ⟨v,rfl,hv,hb2⟩;obtain rfl:v=.int .i64 (m:Int):=hv;have hB:=hb1.trans (hb2.mono hb1.size);clear hb1 hb2 K;have hd:decide ((32:Int)<(m:Int))=decide (32<m):=by simp;omega
  go_wp2;all_goals go_ret
  all_goals (refine⟨?_,hB⟩;simp)
 ·have h77':decide ((77:Int)<(xs.length:Int))=false:=by simp;omega
  have hd:decide (32<m)=false:=by have:=HS.out (by omega);simp;omega
  rw[hd];generalize xs.length=n at *
  go_enter Tryz.func90,Tryz.ntmps90
  go_wp2;go_ret;exact⟨by rfl,by(repeat' first|with_reducible(first|exact Below.refl _ _|assumption|refine gdrewN ?_ _|refine Below.alloc ?_ ?_ _|refine Below.drew ?_|refine Below.setCell ?_ ?_ _)|go_size)⟩
theorem nlongrow(w:World)(v:Value)(zs:List Int)(L:Nat)(h:NRow w v zs L)(hL:L<=1000000):
  Calls Tryz.prog 50 #[v] w fun e w'=>e=.returned (.bool (decide (∃z∈zs,¬(z.natAbs:Int)<pw 32)))/\Below w.heap.size w w':=by
 obtain⟨ao,cap,rfl,hi⟩:=h.parts;obtain⟨n,hnn⟩:∃n,zs.length=n:=⟨_,rfl⟩;rw[hnn]at h hi ⊢;have H:=hide h;have HN:=hide hnn;clear h hnn;go_enter Tryz.func50,Tryz.ntmps50
 go_wp2_with fail
 go_loopw [3] (fun iv wr=>∃(k:Nat),iv=.int .i64 k/\k<=n/\(∀z∈zs.take k,(z.natAbs:Int)<pw 32)/\Below w.heap.size w wr) (fun iv _=>n-(intOf iv).toNat)
 case atStart=>exact⟨0,rfl,Nat.zero_le _,fun z hz=>by simp at hz,Below.refl _ _⟩
 case round=>
  obtain⟨k,rfl,hk,hall,hbw⟩:=hrel;have HW:=hide hbw;have HA:=hide hall;by_cases hlt:k<n
  ·have hlt':(k:Int)<(n:Int):=by omega
   obtain⟨z,hz⟩:∃z,zs[k]? = some z:=⟨_,List.getElem?_eq_getElem (by have:=HN.out;omega)⟩;obtain⟨b,off,ng,a,m,c,rfl,hbl,x0,x1,hxw⟩:=(H.out.below hbw).cell hz;have HZ:=hide hz;have K:=nbigF wr z _ L hxw hL;clear hbw hall hz hxw;by_cases hbig:(z.natAbs:Int)<pw 32
   ·rw[decide_eq_false (not_not_intro hbig)]at K;have K:=hide K;have HBG:=hide hbig;clear hbig;go_wp2_with fail
    refine K.out.mono ?_;rintro e w2 ⟨rfl,hb2⟩;have HB2:=hide (HW.out.trans (hb2.mono HW.out.size));clear hb2 K;go_wp2;go_roundw
    case rel=>
     refine⟨k+1,by go_num,by omega,fun y hy=>?_,HB2.out⟩;rw[List.take_add_one,HZ.out]at hy;rcases List.mem_append.1 hy with hy|hy
     ·exact HA.out y hy
     ·obtain rfl:y=z:=by simpa using hy
      exact HBG.out
    case measure=>simp[intOf];omega
   ·rw[decide_eq_true hbig]at K;have K:=hide K;have HE:Hid (decide (∃z∈zs,¬(z.natAbs:Int)<pw 32)=true):=decide_eq_true ⟨z,List.mem_of_getElem? HZ.out,hbig⟩;clear hbig;go_wp2_with fail
    refine K.out.mono ?_;rintro e w2 ⟨rfl,hb2⟩;have HB2:=hide (HW.out.trans (hb2.mono HW.out.size));clear hb2 K;go_wp2;refine bodyPost_ret (v:=_) (ab9 rfl rfl) rfl ⟨by rw[HE.out];rfl,HB2.out⟩
  ·have hlt':decide ((k:Int)<(n:Int))=false:=by simp;omega
   have HE:Hid (decide (∃z∈zs,¬(z.natAbs:Int)<pw 32)=false):=decide_eq_false (fun⟨z,hz,hb⟩=>hb (by have h:=HA.out;rw[List.take_of_length_le (by have:=HN.out;omega)]at h;exact h z hz));clear hbw hall;go_wp2;refine bodyPost_ret (v:=_) (ab9 rfl rfl) rfl ⟨by rw[HE.out];rfl,HW.out⟩
theorem ayb{m n:Nat}(h:m<n):pw m<pw n:=by
 have h1:=aay (m:=m+1) (n:=n) h;have h2:=ahe m;simp only[pw]at h1;omega
theorem auk(es:List QE)(hf:∀e∈es,Fit e.w (1+e.r.m+e.r.k)):∀k,k<=es.length->comR ((es.map QE.w).take k)<=pw (lenQ (es.take k))
 |0,_=>by simp[comR,lenQ,pw]
 |k+1,hk=>by
  have ih:=auk es hf k (by omega);obtain⟨e,he⟩:∃e,es[k]? = some e:=⟨_,List.getElem?_eq_getElem (by omega)⟩;have hw:(es.map QE.w)[k]? = some e.w:=by simp[he]
  have h1:=(hf e (List.mem_of_getElem? he)).2;have hc:=af9 ((es.map QE.w).take k);have hd:(e.w.den:Int)/((Int.gcd (comR ((es.map QE.w).take k)) e.w.den:Nat):Int)<=(e.w.den:Int):=Int.ediv_le_self _ (Int.le_of_lt (den_pos _));rw[show comR ((es.map QE.w).take (k+1))=comR ((es.map QE.w).take k)*((e.w.den:Int)/((Int.gcd (comR ((es.map QE.w).take k)) e.w.den:Nat):Int))from acg _ _ hw,aky he,ac8];have h2:comR ((es.map QE.w).take k)*((e.w.den:Int)/((Int.gcd (comR ((es.map QE.w).take k)) e.w.den:Nat):Int))<=comR ((es.map QE.w).take k)*pw (1+e.r.m+e.r.k):=Int.mul_le_mul_of_nonneg_left (by omega) (by omega);have h3:comR ((es.map QE.w).take k)*pw (1+e.r.m+e.r.k)<=pw (lenQ (es.take k))*pw (1+e.r.m+e.r.k):=Int.mul_le_mul_of_nonneg_right ih (Int.le_of_lt (ahe _));omega
theorem Rq.fits{w:World}{v:Value}{es:List QE}(h:Rq w v es):∀e∈es,Fit e.w (1+e.r.m+e.r.k)/\e.zs.length=e.r.m/\e.ys.length=e.r.k:=by
 intro e he;have h1:=(h.s1 e he).parts.1;have h2:=(h.s2 e he).parts.1;refine⟨ajg (w:=w) (v:=e.r.v) ⟨e.p,e.q,⟨_,_,_,_,e.zs,_,_,_,e.ys,rfl,⟨h.s1 e he,rfl⟩,h.s2 e he,rfl,by omega,by omega⟩,rfl⟩ (by omega),by omega,by omega⟩
theorem Rq.bounds{w:World}{v:Value}{es:List QE}(h:Rq w v es)(hl:lenQ es<=1500):(∀k,k<=(es.map QE.w).length->((comR ((es.map QE.w).take k)).natAbs:Int)<pw 4000)/\∀z∈clr (es.map QE.w),(z.natAbs:Int)<pw 4000:=by
 have hf:∀e∈es,Fit e.w (1+e.r.m+e.r.k):=fun e he=>(h.fits e he).1
 have hc:∀k,k<=es.length->comR ((es.map QE.w).take k)<=pw 1500:=fun k hk=>Int.le_trans (auk es hf k hk) (aay (Nat.le_trans (agy es k) hl))
 have hp:pw 1500<pw 4000:=ayb (by omega);refine⟨fun k hk=>?_,fun z hz=>?_⟩
 ·have h1:=hc k (by simpa using hk);have h2:=af9 ((es.map QE.w).take k);omega
 ·unfold clr at hz;obtain⟨r,hr,rfl⟩:=List.mem_map.1 hz;obtain⟨e,he,rfl⟩:=List.mem_map.1 hr;have h1:=(hf e he).1;have h2:=aay (Nat.le_trans (af8 he) hl);have h3:=hc es.length (Nat.le_refl _);rw[List.take_of_length_le (by simp)]at h3;have h4:=af9 (es.map QE.w);have h5:comR (es.map QE.w)/(e.w.den:Int)<=comR (es.map QE.w):=Int.ediv_le_self _ (by omega);have h6:0<=comR (es.map QE.w)/(e.w.den:Int):=Int.ediv_nonneg (by omega) (Int.le_of_lt (den_pos _));rw[Int.natAbs_mul,Int.natCast_mul,show((comR (es.map QE.w)/(e.w.den:Int)).natAbs:Int)=comR (es.map QE.w)/(e.w.den:Int) by omega];have h7:(e.w.num.natAbs:Int)*(comR (es.map QE.w)/(e.w.den:Int))<=pw 1500*pw 1500:=Int.mul_le_mul (by omega) (by omega) h6 (Int.le_of_lt (ahe _));rw[<-ac8]at h7;have h8:pw (1500+1500)<pw 4000:=ayb (by omega);omega
theorem aoa(w:World)(ax:Option Addr)(mx cx:Nat)(es:List QE)(R:Rq w (.slice ax mx cx) es)(hl:lenQ es<=1500)(hne:es≠[]):
  Calls Tryz.prog 19 #[.slice ax mx cx] w fun e w'=>Below w.heap.size w w'/\(((∀z∈canonZ (es.map QE.w),(z.natAbs:Int)<pw 32)/\∃r,e=.returned (.tuple #[r,.int .i64 0])/\CanRow w' r (canonZ (es.map QE.w)) 12000)\/((∃z∈canonZ (es.map QE.w),¬(z.natAbs:Int)<pw 32)/\e=.returned (.tuple #[.slice none 0 0,.int .i64 2]))):=by
 have hll:=ad1 es;obtain⟨hC,hZ⟩:=R.bounds hl;have HX:=hide R;have HC:=hide hC;have HZ:=hide hZ;have HQ:=hide (R.isq (L:=1500) (fun e he=>by have:=(R.fits e he).2;have:=af8 he;omega));obtain⟨rfl,_⟩:=R.parts;obtain⟨n,hnn⟩:∃n,es.length=n:=⟨_,rfl⟩;have hpos:0<n:=by rw[<-hnn];exact List.length_pos_iff.2 hne
 rw[hnn]at HX HQ hll ⊢;have HN:=hide hnn;have HNE:Hid (es.map QE.w≠[]):=(fun e=>hne (by simpa using e));have hn0:((n:Int)==0)=false:=beq_eq_false_iff_ne.2 (by omega);have HCL:Hid ((canonZ (es.map QE.w)).length=n):=(show _=_ by simp[canonZ,red,clr,hnn]);clear R hC hZ hnn hne;go_enter Tryz.func19,Tryz.ntmps19
 go_wp2_with fail
 go_loopw [4,5] (fun ov iv wr=>∃(k:Nat) (fs:List WE),iv=.int .i64 k/\k<=n/\Below w.heap.size w wr/\QnO w.heap.size wr ov fs ((es.map QE.w).take k) 9010) (fun _ iv _=>n-(intOf iv).toNat)
 case atStart=>exact⟨0,[],rfl,Nat.zero_le _,Below.refl _ _,a0c _ _ _⟩
 case round=>
  obtain⟨k,fs,rfl,hk,hbw,hown⟩:=hrel;have HW:=hide hbw;have HOWN:=hide hown;obtain⟨aov,capv,hov,_⟩:=Ce.own hown.own;subst hov;by_cases hlt:k<n
  ·have hlt':(k:Int)<(n:Int):=by omega
   obtain⟨r,hr⟩:∃r,(es.map QE.w)[k]? = some r:=⟨_,List.getElem?_eq_getElem (by have:=HN.out;simp;omega)⟩;obtain⟨b,off,ng,a,m,c,d,e,f,rfl,hbl,x0,x1,x2,hxw⟩:=(HQ.out.below hbw).cell hr;have HRR:=hide hr;have K1:=hide (qreadF wr r _ 1500 hxw (by omega));have hkl:((es.map QE.w).take k).length=k:=by rw[List.length_take,List.length_map,HN.out];omega
   have HKL:=hide hkl;rw[hkl];clear hbw hown hr hxw hkl;go_wp2_with fail
   refine K1.out.mono ?_;rintro e2 w2 ⟨r2,rfl,⟨ng2,ao2,cap2,rs2,mg2,bo2,dap2,ss2,rfl,W1,W2,l1,l2⟩,hb2⟩;have hA:=hAl w2 (.cells #[.bool ng2,.slice ao2 rs2.length cap2,.bool mg2,.slice bo2 ss2.length dap2] 87);have hb2':=hb2.trans (hA.mono hb2.size);have hR2:=HOWN.out.below hb2';have hO2:=heap_alloc_new w2 (.cells #[.bool ng2,.slice ao2 rs2.length cap2,.bool mg2,.slice bo2 ss2.length dap2] 87);have hS1:OutN r.num 9010 (.agg #[.bool ng2,.slice ao2 rs2.length cap2]) (w2.alloc (.cells #[.bool ng2,.slice ao2 rs2.length cap2,.bool mg2,.slice bo2 ss2.length dap2] 87)):=OutN.rl (⟨_,_,_,_,rfl,W1,by omega⟩:OutN r.num 9010 _ w2) (Rl.of_below hA);have hS2:OutN (r.den:Int) 9010 (.agg #[.bool mg2,.slice bo2 ss2.length dap2]) (w2.alloc (.cells #[.bool ng2,.slice ao2 rs2.length cap2,.bool mg2,.slice bo2 ss2.length dap2] 87)):=OutN.rl (⟨_,_,_,_,rfl,W2,by omega⟩:OutN (r.den:Int) 9010 _ w2) (Rl.of_below hA);have hsz:w.heap.size<=(w2.alloc (.cells #[.bool ng2,.slice ao2 rs2.length cap2,.bool mg2,.slice bo2 ss2.length dap2] 87)).heap.size:=Nat.le_trans HW.out.size hb2'.size;have hfl:((es.map QE.w).take k).length<=1000000:=by rw[HKL.out];omega
   rw[HKL.out]at hR2;clear x0 x1 x2 hbl;go_wp2_with (at_builtin;refine adb rfl (a0d (i:=16) (j:=22) rfl rfl hR2 hO2 hS1 hS2 hfl hsz) ?_)
   intro v3 w3 hR3 hb3;obtain⟨aov3,capv3,hov3,_⟩:=Ce.own hR3.own;subst hov3;have HR3:=hide hR3;have HB3:=hide ((HW.out.trans (hb2'.mono HW.out.size)).trans hb3);clear hR3 hb3 hR2 hO2 hS1 hS2 hsz hA hb2 hb2' hfl W1 W2 l1 l2;go_wp2;go_roundw
   case rel=>exact⟨k+1,_,by go_num,by omega,HB3.out,by rw[List.take_add_one,HRR.out];have h:=HR3.out;simpa using h⟩
   case measure=>simp[intOf];omega
  ·have hlt':decide ((k:Int)<(n:Int))=false:=by simp;omega
   obtain rfl:k=n:=by omega
   have hall:(es.map QE.w).take k=es.map QE.w:=List.take_of_length_le (by have:=HN.out;simp;omega);rw[hall]at hown;have hml:(es.map QE.w).length=k:=by simpa using HN.out
   have hrow:=hown.row;rw[hall,hml];rw[hml]at hrow;have K2:=hide (am0 wr _ (es.map QE.w) 9010 4000 hrow (by omega) (by omega) (by omega) (by omega) HNE.out HC.out HZ.out);clear hbw hown hall hrow hml;go_wp2_with fail
   refine K2.out.mono ?_;rintro e2 w2 ⟨r2,rfl,h2,hb2⟩;obtain⟨a2,c2,hv2,_⟩:=h2.parts;subst hv2;have HB2:=hide (HW.out.trans (hb2.mono HW.out.size));have H2:=hide h2;have K3:=nlongrow w2 _ _ _ h2 (by omega);clear h2 hb2 K2;by_cases hbig:∃z∈canonZ (es.map QE.w),¬(z.natAbs:Int)<pw 32
   ·rw[decide_eq_true hbig]at K3;have K3:=hide K3;have HBG:=hide hbig;clear hbig;go_wp2_with fail
    refine K3.out.mono ?_;rintro e3 w3 ⟨rfl,hb3⟩;have HB3:=hide (HB2.out.trans (hb3.mono HB2.out.size));clear hb3 K3;go_wp2;refine bodyPost_ret (v:=_) (by simp[results,Tryz.results19,go_sem];try rfl) rfl ⟨HB3.out,.inr ⟨HBG.out,rfl⟩⟩
   ·rw[decide_eq_false hbig]at K3;have K3:=hide K3;have HBG:Hid (∀z∈canonZ (es.map QE.w),(z.natAbs:Int)<pw 32):=(fun z hz=>Classical.byContradiction (fun h=>hbig ⟨z,hz,h⟩));clear hbig;go_wp2_with fail
    refine K3.out.mono ?_;rintro e3 w3 ⟨rfl,hb3⟩;have HB3:=hide (HB2.out.trans (hb3.mono HB2.out.size));have K4:=hide (am3 w3 _ _ _ (H2.out.below hb3) (by rw[HCL.out];omega) (by omega));clear hb3 K3;go_wp2_with fail
    refine K4.out.mono ?_;rintro e4 w4 ⟨r4,rfl,h4,hb4⟩;have HB4:=hide (HB3.out.trans (hb4.mono HB3.out.size));have H4:=hide h4;clear h4 hb4 K4;go_wp2;refine bodyPost_ret (v:=_) (by simp[results,Tryz.results19,go_sem];try rfl) rfl ⟨HB4.out,.inl ⟨HBG.out,_,rfl,H4.out⟩⟩
theorem apk{w w1 w2:World}{p:Nat}{bs bs':List Nat}(h:Kp w w1 p bs)(h':Kp w1 w2 p bs'):Kp w w2 p (bs++bs'):=
 ⟨h'.os.trans h.os,h'.tape.trans h.tape,h'.output.trans h.output,Nat.le_trans h.size h'.size,fun k hk hp hn=>by
  rw[List.mem_append,not_or]at hn
  exact(h'.other k (Nat.lt_of_lt_of_le hk h.size) hp hn.2).trans (h.other k hk hp hn.1)⟩
theorem axh(w:World)(p Q m bv n:Nat)(bs:List Nat)(es:List WE)(B T:Nat->Nat)(K S:Nat)(hb:Bs w p Q bs m)(hm:m+n<=100000)(h:BRow w bv n 0 es B T K S)(hQK:Q<=K)(hKb:K<=bv)(hpK:p<K)(hbv:bv<S)(hSw:S<=w.heap.size)(hd:∀j∈bs,j<K):
  Calls Tryz.prog 24 #[.pointer (some ⟨p,0,none⟩),.slice (some ⟨bv,0,none⟩) n n] w fun e w'=>e=.returned (.bool true)/\∃bs' us,Bs w' p Q bs' (m+n)/\Kp w w' p us/\(∀j∈us,j∈bs\/K<=j)/\∀j∈bs',j∈bs\/K<=j:=by
 have HB:=hide hb;have HR:=hide h;have HD:=hide hd;have HI:=hide (And.intro hm (And.intro hQK (And.intro hKb (And.intro hpK (And.intro hbv hSw)))));have hn9:n<=100000:=by omega
 clear hb h hd hm hQK hKb hpK hbv hSw;go_enter Tryz.func24,Tryz.ntmps24
 go_wp2_with fail
 go_loopw [5] (fun iv wr=>∃(k:Nat) (bs' us:List Nat),iv=.int .i64 k/\k<=n/\Bs wr p Q bs' (m+k)/\(Kp w wr p us/\∀j∈us,j∈bs\/K<=j)/\BRow wr bv n k es B T K S/\(∀j∈bs',∀i,k<=i->i<n->j<B i\/T i<=j)/\bv∉bs'/\w.heap.size<=wr.heap.size/\∀j∈bs',j∈bs\/K<=j) (fun iv _=>n-(intOf iv).toNat)
 case atStart=>exact⟨0,bs,[],rfl,Nat.zero_le _,HB.out,⟨Kp.refl _ _ _,fun j hj=>by cases hj⟩,HR.out,fun j hj i _ hi=>.inl (by have:=HD.out j hj;have:=(HR.out.2.2.2.1 i hi).1;omega),fun hc=>by have:=HD.out bv hc;have:=HI.out;omega,Nat.le_refl _,fun j hj=>.inl hj⟩
 case round=>
  obtain⟨k,bs',us,rfl,hk,hbk,hbw,hrow,hdj,hnb,hsz,hbK⟩:=hrel;have HBK1:=hide hbK;clear hbK;have HBK:=hide hbk;have HW:=hide hbw;have HROW:=hide hrow;have HDJ:=hide hdj;have HNB:=hide hnb;have HSZ:=hide hsz;by_cases hlt:k<n
  ·have hlt':(k:Int)<(n:Int):=by omega
   obtain⟨r1,r2,r3,r4,r5⟩:=hrow;obtain⟨e,he⟩:∃e,es[k]? = some e:=⟨_,List.getElem?_eq_getElem (by omega)⟩;obtain⟨z,hz,hme⟩:=r3 k e (Nat.le_refl _) he;obtain⟨f1,f2⟩:=acb he;have c1:wr.cell? ⟨bv,k*2+1,none⟩=some (.slice e.a e.zs.length e.c):=by rw[cell_of_row _ _ _ _ _ (0,0) r2,List.getElem?_toArray,f2,hme]
   have hr4:=r4 k hlt;have hi:=HI.out;obtain⟨p',q',hz',⟨n1,n2,n3,n4⟩,hbl⟩:=Lm.WFr.nr hz (Nat.le_refl (B k));have hbvn:¬(p'<=bv/\bv<q'):=fun hc=>by
    obtain⟨cur,hcur⟩:=hbl bv hc.1 hc.2;rw[r2]at hcur;injection hcur with hcur;injection hcur with _ hcur;exact absurd hcur (by decide)
   have HNR:Hid (p'<q'->B k<=p'/\q'<=T k):=n4;have HBN:=hide hbvn;have K1:=hide (a21 wr p Q (m+k) bs' hbk (by omega) p' q' e.a e.c e.zs _ hz'.fr (by omega) (by omega) (fun j hj=>by have:=hdj j hj k (Nat.le_refl _) hlt;omega));clear hbk hbw hdj hnb hsz r1 r2 r3 r4 r5 he hz hme f1 f2 hr4 hi hz' n1 n2 n3 n4 hbl hbvn;go_wp2_with fail
   refine K1.out.mono ?_;rintro x w2 ⟨rfl,bs2,hb2,hkp,hj2⟩;obtain⟨r1,r2,r3,r4,r5⟩:=HROW.out;have hr4:=r4 k hlt;have hi:=HI.out;have hsz:=HSZ.out;have hnr:=HNR.out;have hnb2:bv∉bs2:=fun hc=>by
    rcases hj2 bv hc with h|h|h
    ·exact HNB.out h
    ·omega
    ·exact HBN.out h
   have hdj2:∀j∈bs2,∀i,k+1<=i->i<n->j<B i\/T i<=j:=fun j hj i hi1 hi2=>by
    rcases hj2 j hj with h|h|h
    ·exact HDJ.out j h i (by omega) hi2
    ·have:=(r4 i hi2).2;omega
    ·have:=r5 k i (by omega) hi2;omega
   have hge:∀j∈bs2,j∈bs\/K<=j:=fun j hj=>by
    rcases hj2 j hj with h|h|h
    ·exact HBK1.out j h
    ·exact .inr (by omega)
    ·exact .inr (by omega)
   have HR2:Hid (BRow w2 bv n (k+1) es B T K S):=by
    refine⟨r1,(hkp.other bv (by omega) (by omega) hnb2).trans r2,fun j e hj he=>?_,r4,r5⟩;obtain⟨z,g1,g2⟩:=r3 j e (by omega) he;have hjn:j<n:=by have:=(List.getElem?_eq_some_iff.1 he).1;omega
    have hr:=(r4 j hjn);exact⟨z,g1.kp hkp (by omega) (fun i hi'=>hdj2 i hi' j (by omega) hjn),g2⟩
   have HB2:=hide hb2;have HW2:Hid (Kp w w2 p (us++bs2)/\∀j∈us++bs2,j∈bs\/K<=j):=⟨apk HW.out.1 hkp,fun j hj=>(List.mem_append.1 hj).elim (HW.out.2 j) (hge j)⟩;have HJ2:=hide hdj2;have HN2:=hide hnb2;have HG2:=hide hge;have HS2:Hid (w.heap.size<=w2.heap.size):=(show w.heap.size<=w2.heap.size by have:=hkp.size;omega);clear hb2 hkp hj2 r1 r2 r3 r4 r5 hr4 hi hsz hnb2 hdj2 hge c1 hnr;go_wp2;go_roundw
   case rel=>exact⟨k+1,bs2,us++bs2,by go_num,by omega,HB2.out,HW2.out,HR2.out,fun j hj i hi1 hi2=>HJ2.out j hj i hi1 hi2,HN2.out,HS2.out,HG2.out⟩
   case measure=>simp[intOf];omega
  ·have hlt':decide ((k:Int)<(n:Int))=false:=by simp;omega
   have hkn:k=n:=by omega
   subst hkn;clear hbk hbw hrow hdj hnb hsz;go_wp2;refine bodyPost_ret (v:=_) (by simp[results,Tryz.results24,go_sem];try rfl) rfl ⟨rfl,bs',us,HBK.out,HW.out.1,HW.out.2,HBK1.out⟩
def TRow(K:Nat)(w:World)(v:Value)(zs:List Int)(L:Nat):Prop:=ORow K w v zs L\/(zs = []/\v=.slice none 0 0)
theorem TRow.can{K:Nat}{w:World}{v:Value}{zs:List Int}{L:Nat}(h:TRow K w v zs L):CanRow w v zs L:=by
 rcases h with h|⟨rfl,rfl⟩
 ·exact h.can
 ·exact⟨[],(ajy 0 w).rw,rfl,fun k e z he=>(by simp at he)⟩
theorem arn(w:World)(p:Nat):
  Calls Tryz.prog 24 #[.pointer (some ⟨p,0,none⟩),.slice none 0 0] w fun e w'=>e=.returned (.bool true)/\w'=w:=by
 go_enter Tryz.func24,Tryz.ntmps24
 go_wp2_with fail
 go_loopw [5] (fun iv wr=>iv=.int .i64 0/\wr=w) (fun _ _=>0)
 case atStart=>exact⟨rfl,rfl⟩
 case round=>
  obtain⟨rfl,rfl⟩:=hrel;go_wp2;refine bodyPost_ret (v:=_) (by simp[results,Tryz.results24,go_sem];try rfl) rfl ⟨rfl,rfl⟩
end Lm
namespace Lm
open Go Go.RowKit
def tsg(t:Tk)(s:ByteArray):Bool:=decide (t.kind=3)&&decide (t.text=s)
theorem aul(w:World)(q b:Nat)(tv uv:Value)(l:List Tk)(vs:List ByteArray)(i:Nat)(t:Tk)(h:Rea w q b tv uv l vs i)(ht:l[i]? = some t)(s:ByteArray)(hk:t.kind=3)(hx:t.text=s)(hj:i+1<l.length)(hl:l.length<=100000):
  Calls Tryz.prog 104 #[.pointer (some ⟨q,0,none⟩),.string s] w fun r w'=>r=.returned (.bool true)/\Rea w' q b tv uv l vs (i+1)/\Rc q q w w':=by
 have H:=hide h;have hq:=aaa h.blk;have K:=hide (abf w q b tv uv l vs i t h ht);have hi:i<=100000:=by omega
 clear hl;have HJ:=hide hj;obtain⟨_,_,_,_,_,_,K1,_,KF,_⟩:=h.cells ht;have HK1:=hide (And.intro K1 KF);clear h ht hj K1 KF;unfold Tk.av at K;rw[hk,hx]at K;clear hk hx;go_enter Tryz.func104,Tryz.ntmps104
 go_wp2_with fail
 refine K.out.mono ?_;rintro r w1 ⟨rfl,hb⟩;have HB:=hide hb;have k1:=(hb.cell (p:=⟨q,1,none⟩) hq).trans HK1.out.1;have kf:w1.frozen? ⟨q,1,none⟩=false:=frozen_of_row w1 q 1 _ _ ((hb.block q hq).trans H.out.blk);have hq1:q<w1.heap.size:=Nat.lt_of_lt_of_le hq hb.size;clear hb K HK1;generalize hf:w1.heap.size=f at *
 have hqf:q≠f:=by omega
 go_wp2;refine bodyPost_ret (v:=_) (by simp[results,Tryz.results104,go_sem];try rfl) rfl ⟨rfl,?_⟩;obtain⟨n1,n2⟩:=H.out.next (.of_below HB.out) (HB.out.block q hq) HJ.out;have hA:∀(W:World) (o:Obj),Below W.heap.size W (W.alloc o):=fun W o=>(Below.refl _ _).alloc (Nat.le_refl _) o
 exact⟨n1.below (hA _ _),n2.trans (.of_below (hA _ _))⟩
theorem axi(w:World)(q b:Nat)(tv uv:Value)(l:List Tk)(vs:List ByteArray)(i:Nat)(t:Tk)(h:Rea w q b tv uv l vs i)(ht:l[i]? = some t)(s:ByteArray)(hk:t.kind=3->t.text≠s):
  Calls Tryz.prog 104 #[.pointer (some ⟨q,0,none⟩),.string s] w fun r w'=>r=.returned (.bool false)/\Rea w' q b tv uv l vs i/\Rc q q w w':=by
 have H:=hide h;have K:=hide (abf w q b tv uv l vs i t h ht);clear h ht;unfold Tk.av at K;have hA:∀(W:World) (o:Obj),Below W.heap.size W (W.alloc o):=fun W o=>(Below.refl _ _).alloc (Nat.le_refl _) o
 by_cases h3:t.kind=3
 ·have hx:(t.text.toList==s.toList)=false:=ax8 (hk h3);rw[h3]at K;clear hk h3;generalize t.text=x at K hx;go_enter Tryz.func104,Tryz.ntmps104
  go_wp2_with fail
  refine K.out.mono ?_;rintro r w1 ⟨rfl,hb⟩;have HB:=hide hb;clear hb K;go_wp2;refine bodyPost_ret (v:=_) (by simp[results,Tryz.results104,go_sem];try rfl) rfl ⟨rfl,?_⟩;exact⟨(H.out.below HB.out).below (hA _ _),(Rc.of_below HB.out).trans (.of_below (hA _ _))⟩
 ·have hx:(t.kind != 3)=true:=bne_iff_ne.2 h3;clear hk h3;generalize t.kind=x at K hx;go_enter Tryz.func104,Tryz.ntmps104
  go_wp2_with fail
  refine K.out.mono ?_;rintro r w1 ⟨rfl,hb⟩;have HB:=hide hb;clear hb K;go_wp2;refine bodyPost_ret (v:=_) (by simp[results,Tryz.results104,go_sem];try rfl) rfl ⟨rfl,?_⟩;exact⟨(H.out.below HB.out).below (hA _ _),(Rc.of_below HB.out).trans (.of_below (hA _ _))⟩
theorem abv(w:World)(q b:Nat)(tv uv:Value)(l:List Tk)(vs:List ByteArray)(i:Nat)(t:Tk)(h:Rea w q b tv uv l vs i)(ht:l[i]? = some t)(s:ByteArray)(hj:t.kind=3->i+1<l.length)(hl:l.length<=100000):
  Calls Tryz.prog 104 #[.pointer (some ⟨q,0,none⟩),.string s] w fun r w'=>r=.returned (.bool (tsg t s))/\Rea w' q b tv uv l vs (if tsg t s then i+1 else i)/\Rc q q w w':=by
 by_cases hc:t.kind=3/\t.text=s
 ·have e:tsg t s=true:=by simp[tsg,hc.1,hc.2]
  rw[e];exact aul w q b tv uv l vs i t h ht s hc.1 hc.2 (hj hc.1) hl
 ·have e:tsg t s=false:=by
   simp only[tsg,Bool.and_eq_false_imp,decide_eq_true_eq,decide_eq_false_iff_not];exact fun h1 h2=>hc ⟨h1,h2⟩
  rw[e];exact axi w q b tv uv l vs i t h ht s (fun h1 h2=>hc ⟨h1,h2⟩)
end Lm
end Go.Proofs.YtooefpkhacecnaaGreatDoor
namespace Go.Proofs
open Go.Shelf
shelf_lay Lays.n169 Nm 169 at Tryz as Tryz.lays169
namespace YtooefpkhacecnaaGreatDoor
namespace Lm
open Go Go.RowKit
theorem aj3:Builder.Extra Tryz.prog Tryz.lays169_ren where
 sizeBuilder:=by kernel_rfl
 liesBuilder:=by kernel_rfl
 t5:=Tryz.underlying5
 a5:=Tryz.isAgg5
 z5:=Tryz.sizeOf5
 v5:=Tryz.zeroValue5
 infoByte:=by kernel_rfl
 cellsByte:=by kernel_rfl
 sizeByte:=by kernel_rfl
 neB5:=by decide
def Bld(w:World)(B b:Nat)(l:List UInt8):Prop:=Lib.IsBuilderF 137 5 B b (Lib.byteCells l) w
theorem bsize:(Tryz.prog.info? 137).map (·.size)=some 2:=by kernel_rfl
theorem blies:liesAt Tryz.prog Tryz.prog.depth 137 (2/Tryz.prog.cellsOf 137) 0 137 1=true:=by kernel_rfl
set_option maxRecDepth 100000 in
theorem aob(b:Nat)(w:World)(h0:w.cell? ⟨b,0,none⟩=some (.pointer (some ⟨b,0,none⟩))):
  Calls Tryz.prog 128 #[.pointer (some ⟨b,0,none⟩)] w fun e w'=>e=.returned (.tuple #[])/\w'=w:=by
 obtain⟨j,hj,_⟩:=Option.map_eq_some_iff.1 bsize;go_enter Tryz.func128,Tryz.ntmps128
 go_wp2;rw[Lib.run_neq_ptr_same w _ Tryz.underlying134 hj];go_wp2;go_end0
 exact⟨rfl,rfl⟩
set_option maxRecDepth 100000 in
theorem am5(b:Nat)(w:World)(h0:w.cell? ⟨b,0,none⟩=some (.pointer none))(hsh:w.shape? b=some (137,2))(hfz:w.frozen? ⟨b,0,none⟩=false):
  Calls Tryz.prog 128 #[.pointer (some ⟨b,0,none⟩)] w fun e w'=>e=.returned (.tuple #[])/\w'=w.setCell ⟨b,0,none⟩ (.pointer (some ⟨b,0,none⟩)):=by
 obtain⟨j,hj,hjs⟩:=Option.map_eq_some_iff.1 bsize;go_enter Tryz.func128,Tryz.ntmps128
 go_wp2;rw[Lib.run_to_unsafe w ⟨b,0,none⟩ Tryz.underlying134 Tryz.underlying205 hj (by rw[hjs];decide) hsh (Nat.zero_lt_succ 1)];simp only[Result.andThen];rw[Oper.upon_value];go_wp2;rw[run_callFunc_extern Tryz.func159 (by kernel_rfl) (by kernel_rfl) (by kernel_rfl) (e:=Extern.AbiNoEscape.same) (by kernel_rfl)];rw[Lib.run_noEscape];simp only[Result.andThen];rw[Oper.upon_value];go_wp2;rw[Lib.run_from_unsafe w ⟨b,0,none⟩ Tryz.underlying205 Tryz.underlying134 hj hsh blies];simp only[Result.andThen];rw[Oper.upon_value];go_wp2;go_end0
 exact⟨rfl,rfl⟩
theorem bcheck(B b:Nat)(l:List UInt8)(w:World)(h:Bld w B b l):
  Calls Tryz.prog 128 #[.pointer (some ⟨b,0,none⟩)] w fun e w'=>e=.returned (.tuple #[])/\(Lib.BuilderAtF 137 5 B b (.pointer (some ⟨b,0,none⟩)) (Lib.byteCells l) w'/\Below B w w'/\Lib.OthersKept 5 (some b) w w'):=by
 rcases h with h|h
 ·refine(am5 b w h.cell0 h.shape h.frozen0).mono ?_;rintro e w' ⟨rfl,rfl⟩;exact⟨rfl,h.used _,(Below.refl B w).setCell (p:=⟨b,0,none⟩) h.1 _,(Lib.OthersKept.refl _ _ w).setCell ⟨b,0,none⟩ rfl _⟩
 ·refine(aob b w h.cell0).mono ?_;rintro e w' ⟨rfl,rfl⟩;exact⟨rfl,h,Below.refl B _,Lib.OthersKept.refl _ _ _⟩
theorem binfo:∃i0,Tryz.prog.info? 5=some i0/\i0.zero=some (.int .u8 0)/\i0.size=1/\i0.bytes=1:=by
 obtain⟨i0,h1,h2,h3,h4⟩:=info_parts aj3.infoByte;exact⟨i0,h1,h2,h3,h4⟩
set_option maxRecDepth 100000 in
theorem bwstr(B b:Nat)(l:List UInt8)(s:ByteArray)(w:World)(h:Bld w B b l)(hlen:l.length+s.size<=140737488355328)(hBw:B<=w.heap.size):
  Calls Tryz.prog 95 #[.pointer (some ⟨b,0,none⟩),.string s] w fun e w'=>e=.returned (.tuple #[.int .i64 s.size,.nilIface])/\Bld w' B b (l++s.data.toList)/\Below B w w'/\Lib.OthersKept 5 (some b) w w':=by
 obtain⟨i0,hi,hz0,hz1,hz2⟩:=binfo;have hbl:(Lib.byteCells l).length=l.length:=Lib.byteCells_length l;have HL:=hide hbl;have HH:=hide h;clear hbl h;go_enter Tryz.func95,Tryz.ntmps95
 go_wp2_with fail
 refine(bcheck B b l _ HH.out).mono ?_;rintro e w1 ⟨rfl,h1,hb1,hk1⟩;obtain⟨hB,v,hbk,hown,hne⟩:=h1;have c0:w1.cell? ⟨b,0,none⟩=some (.pointer (some ⟨b,0,none⟩)):=by rw[Lib.cell_of_heap hbk];rfl
 have c1:w1.cell? ⟨b,1,none⟩=some v:=by rw[Lib.cell_of_heap hbk];rfl
 go_wp2_with (at_builtin;refine Lib.wpList_append_own_stringF _ rfl _ _ 135 9 rfl B 5 i0 Tryz.underlying135 Tryz.underlying9 hi hz0 hz1 hz2 _ _ _ rfl hown s rfl ?c3 ?c4 ?c5 ?_)
 case c3=>have:=HL.out;unfold maxLen;omega
 case c4=>have:=HL.out;omega
 case c5=>have:=hb1.size;omega
 intro v' w2 hown' hgrow _;have hlt:b<w1.heap.size:=aaa hbk;have hb2:w2.heap[b]? = some (.cells #[.pointer (some ⟨b,0,none⟩),v] 137 (0,0)):=by
  rw[hgrow.block b hlt (fun e=>hne e.symm)];exact hbk
 have d0:w2.cell? ⟨b,0,none⟩=some (.pointer (some ⟨b,0,none⟩)):=by rw[Lib.cell_of_heap hb2];rfl
 have d1:w2.cell? ⟨b,1,none⟩=some v:=by rw[Lib.cell_of_heap hb2];rfl
 have f1:w2.frozen? ⟨b,1,none⟩=false:=Lib.frozen_of_heap hb2 1;obtain⟨ao,n',cap,rfl⟩:∃ao n' cap,v' = .slice ao n' cap:=by
  rcases hown'.2 with⟨hv,_⟩|⟨g,cap,cur,fz,hv,_⟩
  ·exact⟨_,_,_,hv⟩
  ·exact⟨_,_,_,hv⟩
 go_wp2;go_ret2
 refine⟨rfl,?_,?_,(hk1.grown hgrow (Lib.ownsRowF_kind hown)).setCell ⟨b,1,none⟩ rfl _⟩
 ·unfold Bld;rw[Lib.byteCells_append];have hcc:Lib.byteCells s.data.toList=Lib.strCells s:=by rfl
  rw[hcc];exact .inr (Lib.BuilderAtF.put (T:=137) (e:=5) hB hb2 (bs':=Lib.byteCells l++Lib.strCells s) (by simpa[Lib.strCells_length]using hown') aj3.neB5)
 ·exact(hb1.grown hgrow (by have:=hb1.size;omega) (fun k hk=>(hown.lt k hk).1)).setCell (p:=⟨b,1,none⟩) hB _
theorem bstring(B b:Nat)(l:List UInt8)(w:World)(h:Bld w B b l)(hBw:B<=w.heap.size):
  Calls Tryz.prog 96 #[.pointer (some ⟨b,0,none⟩)] w fun e w'=>e=.returned (.string ⟨l.toArray⟩)/\Below B w w':=by
 refine(Any.Builder_String_any_k Tryz.lays169 aj3 B b l w h hBw).mono ?_;rintro e w' ⟨rfl,h1,h2,h3⟩;exact⟨rfl,h2⟩
end Lm
end YtooefpkhacecnaaGreatDoor
end Go.Proofs
namespace Go.Proofs.YtooefpkhacecnaaGreatDoor
namespace Lm
open Go Go.RowKit
def skc:Bool->List Nat->List Nat
 |_,[]=>[]
 |true,c::cs=>skc (decide (c≠10)) cs
 |false,c::cs=>if gcls c=6 then skc true cs else if gcls c=1 then skc false cs else c::cs
def inK(ks:List Int)(c:Nat):Bool:=decide (gcls c∈ks)
def bts(l:List UInt8):ByteArray:=⟨l.toArray⟩
def Stop(ks:List Int)(r:List Nat):Prop:=∀c t,r=c::t->inK ks c=false
inductive TokC:List Nat->Int->ByteArray->List Nat->Prop
 |name (c:Nat) (u r:List Nat) (hc:gcls c=2) (hu:∀d∈c::u,inK [2,3,4] d=true) (hr:Stop [2,3,4] r) (hl:(c::u).length<=16):TokC ((c::u)++r) 1 (bts (encs (c::u))) r
 |num (c:Nat) (u r:List Nat) (n:Nat) (ds:List Int) (hu:∀d∈c::u,inK [3] d=true) (hr:Stop [3] r) (hn:IsLen (dval (bytesOf (bts (encs (c::u))))) n) (hl:n<=32) (hd:IsDec ds (dval (bytesOf (bts (encs (c::u)))))):TokC ((c::u)++r) 2 (strOfNums ds) r
 |two (c:Nat) (x:Int) (r:List Nat) (h:(c=8788/\x=58)\/(c=8800/\x=33)):TokC ([c]++r) 3 (strOfNums [x,61]) r
 |pair (c:Nat) (r:List Nat) (h:c=58\/c=33):TokC ([c,61]++r) 3 (strOfNums [(c:Int),61]) r
 |sign (c:Nat) (r:List Nat) (hc:gcls c=5) (h:c≠8788/\c≠8800/\c≠58/\c≠33):TokC ([c]++r) 3 (strOfNums [gfold c]) r
inductive ScanC:List Nat->List (Int×ByteArray)->Prop
 |done (r:List Nat) (h:skc false r = []):ScanC r [(0,⟨#[]⟩)]
 |tok (r:List Nat) (k:Int) (x:ByteArray) (rest:List Nat) (ts:List (Int×ByteArray)) (h:TokC (skc false r) k x rest) (hr:ScanC rest ts):ScanC r ((k,x)::ts)
theorem aej(p:Pl)(a b:List Nat):adv p (a++b)=adv (adv p a) b:=by
 induction a generalizing p with
 |nil=>rfl
 |cons c a ih=>simp only[List.cons_append,adv,ih]
theorem adc(a b:List Nat):encs (a++b)=encs a++encs b:=by
 induction a with
 |nil=>rfl
 |cons c a ih=>simp only[List.cons_append,encs,ih,List.append_assoc]
theorem apl(p:Pl)(cs:List Nat):plf (glf p cs) (adv p cs)=p:=by
 cases cs <;> rfl
theorem aj4(b:Bool)(p:Pl)(cs:List Nat):∃a,cs=a++skc b cs/\skp b (glf p cs)=glf (adv p a) (skc b cs):=by
 induction cs generalizing b p with
 |nil=>exact⟨[],by cases b <;> rfl,by cases b <;> rfl⟩
 |cons c cs ih=>
  cases b with
  |true=>
   obtain⟨a,h1,h2⟩:=ih (decide (c≠10)) (p.past c (encL c).length);refine⟨c::a,?_,?_⟩
   ·rw[skc,List.cons_append,<-h1]
   ·simp only[glf,skp,skc];rw[h2];rfl
  |false=>
   by_cases h6:gcls c=6
   ·obtain⟨a,h1,h2⟩:=ih true (p.past c (encL c).length);refine⟨c::a,?_,?_⟩
    ·rw[skc,if_pos h6,List.cons_append,<-h1]
    ·simp only[glf,skp,skc];rw[if_pos h6,if_pos h6,h2];rfl
   ·by_cases h1c:gcls c=1
    ·obtain⟨a,h1,h2⟩:=ih false (p.past c (encL c).length);refine⟨c::a,?_,?_⟩
     ·rw[skc,if_neg h6,if_pos h1c,List.cons_append,<-h1]
     ·simp only[glf,skp,skc];rw[if_neg h6,if_pos h1c,if_neg h6,if_pos h1c,h2];rfl
    ·refine⟨[],?_,?_⟩
     ·rw[skc,if_neg h6,if_neg h1c];rfl
     ·simp only[glf,skp,skc];rw[if_neg h6,if_neg h1c,if_neg h6,if_neg h1c];rfl
theorem agb(ks:List Int)(p:Pl)(cs:List Nat):∃u r,cs=u++r/\(glf p cs).dropWhile (inC ks)=glf (adv p u) r/\(∀d∈u,inK ks d=true)/\Stop ks r:=by
 induction cs generalizing p with
 |nil=>exact⟨[],[],rfl,rfl,by simp,by intro c t h;cases h⟩
 |cons c cs ih=>
  by_cases hc:inK ks c=true
  ·obtain⟨u,r,h1,h2,h3,h4⟩:=ih (p.past c (encL c).length);refine⟨c::u,r,by rw[List.cons_append,<-h1],?_,?_,h4⟩
   ·rw[glf,List.dropWhile_cons_of_pos (show inC ks ⟨c,p⟩=true from hc),h2];rfl
   ·intro d hd;rcases List.mem_cons.1 hd with rfl|hd
    ·exact hc
    ·exact h3 d hd
  ·refine⟨[],c::cs,rfl,?_,by simp,?_⟩
   ·rw[glf,List.dropWhile_cons_of_neg (show ¬inC ks ⟨c,p⟩=true from hc)];rfl
   ·intro d t h;obtain⟨rfl,rfl⟩:=List.cons.inj h;simpa using hc
theorem agz(s:ByteArray)(L:List UInt8)(u r:List Nat)(p:Pl)(hp:p.b=L.length)(h:s.data.toList=L++encs (u++r)):s.extract p.b (adv p u).b=bts (encs u):=by
 have hd:(s.extract p.b (adv p u).b).data.toList=encs u:=by
  rw[ByteArray.data_extract,Array.toList_extract,List.extract_eq_take_drop,h,adc,aq8,hp,List.drop_left,show L.length+(encs u).length-L.length=(encs u).length from by omega,List.take_left]
 cases hx:s.extract p.b (adv p u).b with
 |mk d=>
  rw[hx]at hd;unfold bts;rw[<-hd]
theorem axj{c:Nat}: gfold c=58↔c=58:=by
 unfold gfold
 repeat' split
 all_goals omega
theorem axk{c:Nat}: gfold c=33↔c=33:=by
 unfold gfold
 repeat' split
 all_goals omega
theorem a2a(s:ByteArray)(L:List UInt8)(c:Nat)(t:List Nat)(p:Pl)(hp:p.b=L.length)(h:s.data.toList=L++encs (c::t))(k:Int)(x:ByteArray)(rest:List Gl)
  (hT:TokR s (adv p (c::t)) ⟨c,p⟩ (glf (p.past c (encL c).length) t) (.ok k x rest)):∃v r,c::t=v++r/\rest=glf (adv p v) r/\TokC (c::t) k x r:=by
 unfold TokR at hT;have hgl:(⟨c,p⟩:Gl)::glf (p.past c (encL c).length) t=glf p (c::t):=rfl;rw[hgl]at hT;simp only at hT;by_cases c2:gcls c=2
 ·rw[if_pos c2]at hT;obtain⟨u,r,h1,h2,h3,h4⟩:=agb [2,3,4] p (c::t);have hcu:∃u',u=c::u':=by
   cases u with
   |nil=>
    have:=h4 c t (by simpa using h1.symm);simp[inK,c2]at this
   |cons d u'=>
    obtain⟨rfl,_⟩:=List.cons.inj h1;exact⟨u',rfl⟩
  obtain⟨u',rfl⟩:=hcu;rw[h2]at hT;by_cases h16:16<(glf p (c::t)).length-(glf (adv p (c::u')) r).length
  ·rw[if_pos h16]at hT;cases hT
  ·rw[if_neg h16]at hT;injection hT with e1 e2 e3;subst e1 e3;rw[apc,apc]at h16;have hpe:plf (glf (adv p (c::u')) r) (adv p (c::t))=adv p (c::u'):=by rw[h1,aej,apl]
   rw[hpe,agz s L (c::u') r p hp (by rw[h,h1])]at e2;refine⟨c::u',r,h1,rfl,?_⟩;rw[e2,h1];refine .name c u' r c2 h3 h4 ?_;rw[h1,List.length_append]at h16;omega
 ·rw[if_neg c2]at hT;by_cases c3:gcls c=3
  ·rw[if_pos c3]at hT;obtain⟨n,ds,hn,hd,hT⟩:=hT;obtain⟨u,r,h1,h2,h3,h4⟩:=agb [3] p (c::t);have hcu:∃u',u=c::u':=by
    cases u with
    |nil=>
     have:=h4 c t (by simpa using h1.symm);simp[inK,c3]at this
    |cons d u'=>
     obtain⟨rfl,_⟩:=List.cons.inj h1;exact⟨u',rfl⟩
   obtain⟨u',rfl⟩:=hcu;have hpe:plf (glf (adv p (c::u')) r) (adv p (c::t))=adv p (c::u'):=by rw[h1,aej,apl]
   rw[h2,hpe,agz s L (c::u') r p hp (by rw[h,h1])]at hn hd;rw[h2]at hT;by_cases h32:32<n
   ·rw[if_pos h32]at hT;cases hT
   ·rw[if_neg h32]at hT;injection hT with e1 e2 e3;subst e1 e3;refine⟨c::u',r,h1,rfl,?_⟩;rw[e2,h1];exact .num c u' r n ds h3 h4 hn (by omega) hd
  ·rw[if_neg c3]at hT;by_cases c5:gcls c=5
   ·rw[if_pos c5]at hT;unfold signS at hT;by_cases a1:gfold c=8788
    ·rw[if_pos a1]at hT;injection hT with e1 e2 e3;subst e1 e2 e3;have hc:c=8788:=by
      unfold gfold at a1
      repeat' split at a1
      all_goals omega
     exact⟨[c],t,rfl,rfl,.two c 58 t (.inl ⟨hc,rfl⟩)⟩
    rw[if_neg a1]at hT;by_cases a2:gfold c=8800
    ·rw[if_pos a2]at hT;injection hT with e1 e2 e3;subst e1 e2 e3;have hc:c=8800:=by
      unfold gfold at a2
      repeat' split at a2
      all_goals omega
     exact⟨[c],t,rfl,rfl,.two c 33 t (.inr ⟨hc,rfl⟩)⟩
    rw[if_neg a2]at hT;by_cases a3:gfold c=58\/gfold c=33
    ·rw[if_pos a3]at hT;cases t with
     |nil=>cases hT
     |cons d t=>
      simp only[glf]at hT;by_cases hd:d=61
      ·rw[if_pos hd]at hT;injection hT with e1 e2 e3;subst e1 e2 e3 hd;have hc:c=58\/c=33:=by
        rcases a3 with a|a
        ·exact .inl (axj.1 a)
        ·exact .inr (axk.1 a)
       have hg:gfold c=(c:Int):=by rcases hc with rfl|rfl <;> rfl
       rw[hg];exact⟨[c,61],t,rfl,rfl,.pair c t hc⟩
      ·rw[if_neg hd]at hT;cases hT
    ·rw[if_neg a3]at hT;injection hT with e1 e2 e3;subst e1 e2 e3;refine⟨[c],t,rfl,rfl,.sign c t c5 ⟨?_,?_,?_,?_⟩⟩
     ·rintro rfl;exact a1 rfl
     ·rintro rfl;exact a2 rfl
     ·rintro rfl;exact a3 (.inl rfl)
     ·rintro rfl;exact a3 (.inr rfl)
   ·rw[if_neg c5]at hT;cases hT
theorem a0h(s:ByteArray)(cs:List Nat)(L:List UInt8)(p:Pl)(hp:p.b=L.length)(h:s.data.toList=L++encs cs)(l:List Tk)(hR:ScanR s (adv p cs) (glf p cs) (.ok l)):ScanC cs (l.map fun t=>(t.kind,t.text)):=by
 generalize hg:glf p cs=gs at hR;generalize he:adv p cs=e at hR;generalize ho:SO.ok l=o at hR;induction hR generalizing cs L p l with
 |done r h1 hb=>
  cases ho
  subst hg;obtain⟨a,h2,h3⟩:=aj4 false p cs;rw[h1]at h3;refine .done cs ?_;cases hx:skc false cs with
  |nil=>rfl
  |cons c t=>rw[hx]at h3;cases h3
 |rune r h1 hb=>cases ho
 |bad r g t k h1 ht=>cases ho
 |tok r g t kind text rest o h1 ht hr ih=>
  subst hg he;cases o with
  |bad k p=>cases ho
  |ok l'=>
   simp only[SO.pre,SO.ok.injEq]at ho;subst ho;obtain⟨a,h2,h3⟩:=aj4 false p cs;rw[h1]at h3;cases hx:skc false cs with
   |nil=>rw[hx]at h3;cases h3
   |cons c t'=>
    rw[hx]at h3 h2;simp only[glf]at h3;obtain⟨rfl,rfl⟩:=List.cons.inj h3;have hpa:(adv p a).b=(L++encs a).length:=by rw[aq8,hp,List.length_append]
    have hsa:s.data.toList=(L++encs a)++encs (c::t'):=by rw[h,List.append_assoc,<-adc,<-h2]
    have hea:adv p cs=adv (adv p a) (c::t'):=by rw[<-aej,<-h2]
    rw[hea]at ht;obtain⟨v,r,h4,rfl,h6⟩:=a2a s _ c t' _ hpa hsa _ _ _ ht;refine .tok cs _ _ r _ (by rw[hx];exact h6) ?_;exact ih r ((L++encs a)++encs v) (adv (adv p a) v) (by rw[aq8,hpa,<-List.length_append]) (by rw[hsa,h4,adc,List.append_assoc,List.append_assoc,List.append_assoc]) l' rfl (by rw[hea,h4,aej]) rfl
theorem aum{n b0 b1 b2 b3:Nat}(_h0:b0<256)(_h1:b1<256)(_h2:b2<256)(_h3:b3<256){c k:Nat}(h:Lib.decodeN n b0 b1 b2 b3=(c,k))(hv:(c,k)≠(65533,1)):
  (k=1/\c=b0/\c<128)\/(k=2/\128<=c/\c<2048/\b0=192+c/64/\b1=128+c%64) \/
  (k=3/\2048<=c/\c<65536/\b0=224+c/4096/\b1=128+c/64%64/\b2=128+c%64) \/
  (k=4/\65536<=c/\c<=1114111/\b0=240+c/262144/\b1=128+c/4096%64/\b2=128+c/64%64/\b3=128+c%64):=by
 unfold Lib.decodeN at h
 repeat' split at h
 all_goals try exact absurd h.symm hv
 all_goals (simp only[Prod.mk.injEq]at h;obtain⟨rfl,rfl⟩:=h)
 ·exact .inl (by omega)
 ·exact .inr (.inl (by omega))
 ·exact .inr (.inr (.inl (by omega)))
 ·exact .inr (.inr (.inr (by omega)))
theorem acw(s:ByteArray)(i:Nat)(h:i<s.size)(k:Nat)(hk:i+(k+1)<=s.size):(s.extract i (i+(k+1))).data.toList=s.get! i::(s.extract (i+1) (i+1+k)).data.toList:=by
 have hl:i<s.data.toList.length:=h;rw[ByteArray.data_extract,ByteArray.data_extract,Array.toList_extract,Array.toList_extract,List.extract_eq_take_drop,List.extract_eq_take_drop,List.drop_eq_getElem_cons hl,show i+(k+1)-i=k+1 from by omega,show i+1+k-(i+1)=k from by omega,List.take_succ_cons];congr 1;cases s with
 |mk d=>exact(getElem!_pos d i h).symm
theorem ahg(s:ByteArray)(i:Nat):(s.extract i (i+0)).data.toList = []:=by
 rw[ByteArray.data_extract];simp
theorem axl{n b0 b1 b2 b3:Nat}(h0:b0<256){c k:Nat}(h:Lib.decodeN n b0 b1 b2 b3=(c,k))(hv:(c,k)≠(65533,1)):Cod c:=by
 unfold Lib.decodeN at h
 repeat' split at h
 all_goals try exact absurd h.symm hv
 all_goals (simp only[Prod.mk.injEq]at h;obtain⟨rfl,rfl⟩:=h)
 all_goals (unfold Cod;omega)
theorem ad2{u:UInt8}{n:Nat}(h:u.toNat=n):u=n.toUInt8:=by
 subst h;exact UInt8.toNat_inj.1 (by rw[Nat.toUInt8,UInt8.toNat_ofNat'];have:=UInt8.toNat_lt u;omega)
theorem aun(s:ByteArray)(i:Nat)(h:i<s.size)(hv:Utf8.decode s i≠(65533,1)):Cod (Utf8.decode s i).1/\(s.extract i (i+(Utf8.decode s i).2)).data.toList=encL (Utf8.decode s i).1/\(Utf8.decode s i).2=(encL (Utf8.decode s i).1).length:=by
 have hl:=aew s i h;obtain⟨c,k,e⟩:∃c k,Utf8.decode s i=(c,k):=⟨_,_,rfl⟩;rw[e]at hv hl ⊢;rw[Lib.decode_at]at e;simp only at hl ⊢;refine⟨axl (UInt8.toNat_lt _) e hv,?_⟩;rcases aum (UInt8.toNat_lt _) (UInt8.toNat_lt _) (UInt8.toNat_lt _) (UInt8.toNat_lt _) e hv with⟨rfl,h1,h2⟩|⟨rfl,h1,h2,h3,h4⟩|⟨rfl,h1,h2,h3,h4,h5⟩|⟨rfl,h1,h2,h3,h4,h5,h6⟩
 ·unfold encL;rw[if_pos h2,acw s i h 0 (by omega),ahg,ad2 h1.symm];exact⟨rfl,rfl⟩
 ·unfold encL;rw[if_neg (by omega),if_pos h2,acw s i h 1 (by omega),acw s (i+1) (by omega) 0 (by omega),ahg,ad2 h3,ad2 h4];exact⟨rfl,rfl⟩
 ·unfold encL;rw[if_neg (by omega),if_neg (by omega),if_pos h2,acw s i h 2 (by omega),acw s (i+1) (by omega) 1 (by omega),acw s (i+1+1) (by omega) 0 (by omega),ahg,ad2 h3,ad2 h4,ad2 h5];exact⟨rfl,rfl⟩
 ·unfold encL;rw[if_neg (by omega),if_neg (by omega),if_neg (by omega),acw s i h 3 (by omega),acw s (i+1) (by omega) 2 (by omega),acw s (i+1+1) (by omega) 1 (by omega),acw s (i+1+1+1) (by omega) 0 (by omega),ahg,ad2 h3,ad2 h4,ad2 h5,ad2 h6];exact⟨rfl,rfl⟩
theorem auo{s:ByteArray}{p e:Pl}{gs:List Gl}(h:Snd s p gs e)(he:s.size<=e.b)(hb:p.b<=s.size):∃cs,gs=glf p cs/\e=adv p cs/\(∀c∈cs,Cod c)/\(s.data.toList.drop p.b)=encs cs:=by
 induction h with
 |stop p h=>
  refine⟨[],rfl,rfl,by simp,?_⟩;rw[List.drop_eq_nil_of_le (by show s.data.toList.length<=p.b;exact he)];rfl
 |go p gs e h1 h2 hr ih=>
  have hd:=aew s p.b h1;obtain⟨k1,k2,k3⟩:=aun s p.b h1 h2;obtain⟨cs,i1,i2,i3,i4⟩:=ih he (by simp only[Pl.past];omega);rw[k3]at i1 i2;refine⟨(Utf8.decode s p.b).1::cs,by rw[i1];rfl,by rw[i2];rfl,?_,?_⟩
  ·intro c hc;rcases List.mem_cons.1 hc with rfl|hc
   ·exact k1
   ·exact i3 c hc
  ·rw[encs,<-i4,<-k2,ByteArray.data_extract,Array.toList_extract,List.extract_eq_take_drop,show p.b+(Utf8.decode s p.b).2-p.b=(Utf8.decode s p.b).2 from by omega];simp only[Pl.past];rw[<-List.drop_drop,List.take_append_drop]
theorem aup{s:ByteArray}{e:Pl}{gs:List Gl}{l:List Tk}(h:ScanR s e gs (.ok l)):s.size<=e.b:=by
 generalize ho:SO.ok l=o at h;induction h generalizing l with
 |done r h hb=>exact hb
 |rune r h hb=>cases ho
 |bad r g t k h ht=>cases ho
 |tok r g t kind text rest o h ht hr ih=>
  cases o with
  |bad k p=>cases ho
  |ok l'=>exact ih rfl
theorem axm{s:ByteArray}{e:Pl}{g:Gl}{r:List Gl}{k:Int}(h:TokR s e g r (.bad k)):k=42\/k=2\/k=41:=by
 unfold TokR at h;split at h
 ·split at h
  ·injection h with h;exact .inl h
  ·cases h
 ·split at h
  ·obtain⟨n,ds,_,_,h⟩:=h;split at h
   ·injection h with h;exact .inr (.inl h)
   ·cases h
  ·split at h
   ·unfold signS at h;split at h
    ·cases h
    ·split at h
     ·cases h
     ·split at h
      ·split at h
       ·injection h with h;exact .inr (.inr h)
       ·split at h
        ·cases h
        ·injection h with h;exact .inr (.inr h)
      ·cases h
   ·injection h with h;exact .inr (.inr h)
theorem auq{s:ByteArray}{e:Pl}{gs:List Gl}{k:Int}{p:Pl}(h:ScanR s e gs (.bad k p)):k≠0:=by
 generalize ho:SO.bad k p=o at h;induction h with
 |done r h hb=>cases ho
 |rune r h hb=>injection ho with e1 _;omega
 |bad r g t k' h ht=>
  injection ho with e1 _;subst e1;rcases axm ht with h|h|h <;> omega
 |tok r g t kind text rest o h ht hr ih=>
  cases o with
  |bad k' p'=>exact ih ho
  |ok l'=>cases ho
theorem axn(c:Bool)(l:List Gl):∃j,j<=l.length/\skp c l=l.drop j:=by
 induction l generalizing c with
 |nil=>exact⟨0,Nat.le_refl _,by cases c <;> rfl⟩
 |cons x l ih=>
  cases c with
  |true=>
   obtain⟨j,h1,h2⟩:=ih (decide (x.code≠10));exact⟨j+1,by simp;omega,by rw[skp,h2];rfl⟩
  |false=>
   by_cases h6:gcls x.code=6
   ·obtain⟨j,h1,h2⟩:=ih true;exact⟨j+1,by simp;omega,by rw[skp,if_pos h6,h2];rfl⟩
   ·by_cases h1c:gcls x.code=1
    ·obtain⟨j,h1,h2⟩:=ih false;exact⟨j+1,by simp;omega,by rw[skp,if_neg h6,if_pos h1c,h2];rfl⟩
    ·exact⟨0,Nat.zero_le _,by rw[skp,if_neg h6,if_neg h1c];rfl⟩
def nmS(s:ByteArray):SO->Bool
 |.ok (t::_)=>(t.kind==1)&&(t.text.toList==s.toList)
 |_=>false
theorem axo{u:List Nat}(h:encs u = []):u = []:=by
 cases u with
 |nil=>rfl
 |cons c u=>
  have h1:=aw0 c;have h2:=congrArg List.length h;simp only[encs,List.length_append,List.length_nil]at h2;omega
theorem axp{s:ByteArray}{gs:List Gl}{e:Pl}{l:List Tk}(hQ:Snd s pl0 gs e)(hR:ScanR s e gs (.ok l)):∃t r,l=t::r/\(t.kind=1->t.text=s->l.length=2):=by
 obtain⟨cs,rfl,rfl,hc,hb⟩:=auo hQ (aup hR) (Nat.zero_le _);have hsb:s.data.toList = []++encs cs:=by simpa[pl0]using hb
 have hC:=a0h s cs [] pl0 rfl hsb l hR;generalize hm:(l.map fun t=>(t.kind,t.text))=ts at hC;cases hC with
 |done _ h1=>
  cases l with
  |nil=>simp at hm
  |cons t r=>
   refine⟨t,r,rfl,fun hk _=>?_⟩;simp only[List.map_cons,List.cons.injEq,Prod.mk.injEq]at hm;omega
 |tok _ k x rest ts' h1 h2=>
  cases l with
  |nil=>simp at hm
  |cons t r=>
   refine⟨t,r,rfl,fun hk hx=>?_⟩;simp only[List.map_cons,List.cons.injEq,Prod.mk.injEq]at hm;obtain⟨⟨e1,e2⟩,e3⟩:=hm;obtain⟨a,hsp,_⟩:=aj4 false pl0 cs;have hk1:k=1:=by omega
   have hxs:x=s:=by rw[<-e2,hx]
   clear e1 e2 hk hx;subst hk1;generalize hq:skc false cs=q at h1 hsp;cases h1 with
   |name c u _ hc2 hu hr hl=>
    have h3:=congrArg (fun b=>b.data.toList) hxs;rw[hsb,hsp,adc,adc]at h3;simp only[bts,List.nil_append]at h3;have h4:=congrArg List.length h3;simp only[List.length_append]at h4;have h5:encs rest = []:=List.eq_nil_of_length_eq_zero (by omega);have h6:=axo h5;subst h6;cases h2 with
    |done _ _=>
     have:=congrArg List.length e3;simpa using this
    |tok _ _ _ _ _ h7 _=>
     exfalso;generalize hz:skc false []=z at h7;have:z = []:=by rw[<-hz];rfl
     subst this;generalize hy:([]:List Nat)=y at h7;cases h7 <;> simp at hy
theorem aur(w:World)(hT:Tabs w)(s:ByteArray)(hs:s.size<=4096)(gs:List Gl)(e:Pl)(hQ:Snd s pl0 gs e):
  Calls Tryz.prog 38 #[.string s] w fun r w'=>Below w.heap.size w w'/\∃o,ScanR s e gs o/\r=.returned (.bool (nmS s o)):=by
 have HT:=hide hT;have HQ:=hide hQ;clear hT hQ;go_enter Tryz.func38,Tryz.ntmps38
 go_wp2_with fail
 refine(aje w s HT.out hs).mono ?_;rintro r w1 ⟨hb1,gs',e',o,h1,h2,h3⟩;obtain⟨rfl,rfl⟩:=h1.one HQ.out;have HB:=hide (hb1.alloc hb1.size (.cells #[.int .i64 0,.int .i64 0,.int .i64 0,.int .i64 0] 56));have HBr:=hide hb1;have HR:=hide h2;clear hb1 h1;cases o with
 |bad k p=>
  have hk:(k==0)=false:=beq_eq_false_iff_ne.2 (auq h2);obtain rfl:=h3;clear h2;unfold Pl.v;go_wp2;go_ret;exact⟨HBr.out.alloc HBr.out.size _,_,HR.out,rfl⟩
 |ok l=>
  obtain⟨v,rfl,hown⟩:=h3;have hTs:Ts w1 v l:=Ts.own hown;obtain⟨t,rr,rfl,_⟩:=axp HQ.out h2;obtain⟨ao,cap,rfl,hn⟩:=hTs.parts;obtain⟨b,off,rfl,g⟩:=hTs.tok (i:=0) (t:=t) rfl;obtain⟨_,a0,a1,_,_,_,_⟩:=g.below ((Below.refl _ _).alloc (Nat.le_refl _) (.cells #[.int .i64 0,.int .i64 0,.int .i64 0,.int .i64 0] 56));rw[Nat.zero_mul,Nat.add_zero]at a0 a1;have hln:(0:Int)<((t::rr).length:Int):=by simp
  clear g hown h2 hTs;generalize (t::rr).length=n at hn hln ⊢;unfold Pl.v;simp only[plz];by_cases hk:t.kind=1
  ·have hk':(t.kind==1)=true:=by rw[hk];rfl
   go_wp2;go_ret;exact⟨HB.out,_,HR.out,by simp only[nmS,hk',Bool.true_and];rfl⟩
  ·have hk':(t.kind==1)=false:=beq_eq_false_iff_ne.2 hk;go_wp2;go_ret;exact⟨HB.out,_,HR.out,by simp only[nmS,hk',Bool.false_and];rfl⟩
theorem aus(w:World)(s:ByteArray)(hs:4096<s.size):
  Calls Tryz.prog 38 #[.string s] w fun r w'=>Below w.heap.size w w'/\r=.returned (.bool false):=by
 go_enter Tryz.func38,Tryz.ntmps38
 go_wp2_with fail
 refine(at8 w s hs).mono ?_;rintro r w1 ⟨hb1,rfl⟩;unfold Pl.v;go_wp2;go_ret;exact⟨hb1.alloc hb1.size _,rfl⟩
def ixS(x:ByteArray):List ByteArray->Option Nat
 | []=>none
 |y::r=>if y=x then some 0 else(ixS x r).map (·+1)
theorem am6{x:ByteArray}{ss:List ByteArray}(h:x∉ss):ixS x ss=none:=by
 induction ss with
 |nil=>rfl
 |cons y r ih=>
  rw[ixS,if_neg (fun e=>h (by simp[e])),ih (fun e=>h (by simp[e]))];rfl
theorem axq{x:ByteArray}{ss:List ByteArray}{k:Nat}(h:x∉ss.take k)(hk:ss[k]? = some x):ixS x ss=some k:=by
 induction ss generalizing k with
 |nil=>simp at hk
 |cons y r ih=>
  cases k with
  |zero=>
   simp at hk;rw[ixS,if_pos hk]
  |succ k=>
   simp only[List.take_succ_cons,List.mem_cons,not_or]at h;rw[ixS,if_neg (fun e=>h.1 e.symm),ih h.2 (by simpa using hk)];rfl
theorem a2b{x:ByteArray}{ss:List ByteArray}{k:Nat}(h:ixS x ss=some k):ss[k]? = some x:=by
 induction ss generalizing k with
 |nil=>simp[ixS]at h
 |cons y r ih=>
  rw[ixS]at h;split at h
  ·next e=>obtain rfl:=Option.some.inj h;simp[e]
  ·cases hr:ixS x r with
   |none=>rw[hr]at h;simp at h
   |some m=>
    rw[hr]at h;simp at h;subst h;simpa using ih hr
theorem a0i{x:ByteArray}{ss:List ByteArray}(h:ixS x ss=none):x∉ss:=by
 induction ss with
 |nil=>simp
 |cons y r ih=>
  rw[ixS]at h;split at h
  ·simp at h
  ·next e=>
   have:ixS x r=none:=by cases hr:ixS x r <;> simp[hr]at h ⊢
   simp only[List.mem_cons,not_or];exact⟨fun e'=>e e'.symm,ih this⟩
def ixV(o:Option Nat):Value:=match o with|some k=>.int .i64 (k:Int)|none=>.int .i64 (-1)
theorem Strs.parts{w:World}{ao:Option Addr}{n cap:Nat}{ss:List ByteArray}(h:Strs w (.slice ao n cap) ss):n=ss.length/\n<=9223372036854775807/\n<=cap/\cap<=9223372036854775807:=by
 obtain⟨ao',cap',hv,c1,c2,c3,c4⟩:=h;obtain⟨rfl,rfl,rfl⟩:=(Value.slice.injEq .. ▸ hv);exact⟨rfl,by omega,c1,c2⟩
theorem Strs.take{w:World}{ao:Option Addr}{n cap:Nat}{ss:List ByteArray}(h:Strs w (.slice ao n cap) ss)(k:Nat)(hk:k<=ss.length):Strs w (.slice ao k cap) (ss.take k):=by
 obtain⟨ao',cap',hv,c1,c2,c3,c4⟩:=h;obtain⟨rfl,rfl,rfl⟩:=(Value.slice.injEq .. ▸ hv);refine⟨ao,cap,by rw[List.length_take,Nat.min_eq_left hk],by rw[List.length_take];omega,c2,by simp,?_⟩;rcases c4 with c4|⟨b,off,rfl,hl,hc⟩
 ·exact .inl (by rw[List.length_take];omega)
 ·refine .inr ⟨b,off,rfl,hl,fun j u hu=>hc j u ?_⟩;rw[List.map_take,List.getElem?_take]at hu;split at hu
  ·exact hu
  ·cases hu
theorem aga(w:World)(ao:Option Addr)(n cap:Nat)(ss:List ByteArray)(x:ByteArray)(h:Strs w (.slice ao n cap) ss):
  Calls Tryz.prog 73 #[.slice ao n cap,.string x] w fun e w'=>e=.returned (ixV (ixS x ss))/\w'=w:=by
 obtain⟨hn,hb,_,_⟩:=h.parts;have H:=hide h;clear h;go_enter Tryz.func73,Tryz.ntmps73
 go_wp2;go_loopw [5,8] (fun _ iv wr=>∃(i:Nat),iv=.int .i64 i/\i<=n/\x∉ss.take i/\wr=w) (fun _ iv _=>n-(intOf iv).toNat)
 case atStart=>exact⟨0,rfl,Nat.zero_le _,by simp,rfl⟩
 case round=>
  obtain⟨i,rfl,hi,hz,rfl⟩:=hrel;have HZ:=hide hz;clear hz;by_cases hlt:i<n
  ·have hget:ss[i]? = some (ss[i]'(by omega)):=List.getElem?_eq_getElem _;obtain⟨b,off,rfl,hbl,hc⟩:=H.out.cell hget;have hlt':(i:Int)<(n:Int):=by omega
   generalize ss[i]'(by omega)=y at hc hget;have HG:=hide hget;clear hget;by_cases he:x=y
   ·subst he;go_wp2;go_ret;exact⟨by rw[axq HZ.out HG.out];rfl,rfl⟩
   ·have hne:(x.toList==y.toList)=false:=ax8 he;go_wp2;go_roundw
    case rel=>exact⟨i+1,by go_num,by omega,by rw[List.take_add_one,HG.out];simp[HZ.out,he],trivial⟩
    case measure=>simp[intOf];omega
  ·have hlt':decide ((i:Int)<(n:Int))=false:=by simp;omega
   go_wp2;go_ret;exact⟨by have:=HZ.out;rw[List.take_of_length_le (by omega)]at this;rw[am6 this];rfl,rfl⟩
theorem ald(w:World)(ao:Option Addr)(n cap:Nat)(ss:List ByteArray)(x:ByteArray)(h:Strs w (.slice ao n cap) ss):
  Calls Tryz.prog 39 #[.slice ao n cap,.string x] w fun e w'=>e=.returned (.bool (ixS x ss).isSome)/\w'=w:=by
 have K:=hide (aga w ao n cap ss x h);clear h;generalize hg:ixS x ss=o at K;have HG:=hide hg;clear hg;cases o with
 |none=>
  unfold ixV at K;go_enter Tryz.func39,Tryz.ntmps39
  go_wp2_with fail
  refine K.out.mono ?_;rintro e w' ⟨rfl,rfl⟩;go_wp2;go_ret;exact⟨rfl,rfl⟩
 |some k=>
  unfold ixV at K;have hk:(0:Int)<=(k:Int):=by omega
  go_enter Tryz.func39,Tryz.ntmps39
  go_wp2_with fail
  refine K.out.mono ?_;rintro e w' ⟨rfl,rfl⟩;go_wp2;go_ret;exact⟨rfl,rfl⟩
open Classical in
noncomputable def isNm(s:ByteArray):Bool:=decide (s.size<=4096/\∃gs e o,Snd s pl0 gs e/\ScanR s e gs o/\nmS s o=true)
open Classical in
theorem apm{s:ByteArray}{gs:List Gl}{e:Pl}{o:SO}(hs:s.size<=4096)(hQ:Snd s pl0 gs e)(hR:ScanR s e gs o):nmS s o=isNm s:=by
 unfold isNm;by_cases h:nmS s o=true
 ·rw[h,decide_eq_true ⟨hs,gs,e,o,hQ,hR,h⟩]
 ·rw[Bool.not_eq_true]at h;rw[h,eq_comm,decide_eq_false_iff_not];rintro ⟨_,gs',e',o',h1,h2,h3⟩;obtain⟨rfl,rfl⟩:=h1.one hQ;obtain rfl:=h2.one hR;rw[h]at h3;cases h3
open Classical in
theorem akz{s:ByteArray}(hs:4096<s.size):isNm s=false:=by
 unfold isNm;rw[decide_eq_false_iff_not];rintro ⟨h,_⟩;omega
theorem a0j(w:World)(hT:Tabs w)(s:ByteArray):Calls Tryz.prog 38 #[.string s] w fun r w'=>Below w.heap.size w w'/\r=.returned (.bool (isNm s)):=by
 by_cases hs:4096<s.size
 ·rw[akz hs];exact aus w s hs
 ·obtain⟨gs,e,hQ⟩:=a1z s s.size pl0 (by simp[pl0]);refine(aur w hT s (by omega) gs e hQ).mono ?_;rintro r w' ⟨hb,o,hR,rfl⟩;exact⟨hb,by rw[apm (by omega) hQ hR]⟩
def NmsOk(vs:List ByteArray):Prop:=vs.length<=16/\∀(i:Nat) (x:ByteArray),vs[i]? = some x->isNm x=true/\x∉vs.take i
open Classical in
noncomputable def nmsE(vs:List ByteArray):Int:=if NmsOk vs then 0 else 1
theorem ak0(w:World)(hT:Tabs w)(v:Value)(vs:List ByteArray)(h:Strs w v vs):
  Calls Tryz.prog 12 #[v] w fun e w'=>e=.returned (.int .i64 (nmsE vs))/\Below w.heap.size w w':=by
 obtain⟨ao,cap,rfl,_⟩:=id h;obtain⟨_,hb,hb2,hb3⟩:=h.parts;have H:=hide h;have HT:=hide hT;clear h hT;obtain⟨n,hn⟩:∃n,vs.length=n:=⟨_,rfl⟩;rw[hn]at H hb hb2 ⊢;have HN:=hide hn;clear hn;by_cases hbig:16<n
 ·have hbig':(16:Int)<(n:Int):=by omega
  have he:nmsE vs=1:=if_neg (fun h=>by have:=h.1;rw[HN.out]at this;omega);rw[he];clear he;go_enter Tryz.func12,Tryz.ntmps12
  go_wp2;go_ret;exact⟨rfl,Below.refl _ _⟩
 have hbig':decide ((16:Int)<(n:Int))=false:=by simp;omega
 go_enter Tryz.func12,Tryz.ntmps12
 go_wp2;go_loopw [3,4,10] (fun _ _ iv wr=>∃(i:Nat),iv=.int .i64 i/\i<=n/\(∀(j:Nat) (x:ByteArray),j<i->vs[j]? = some x->isNm x=true/\x∉vs.take j)/\Below w.heap.size w wr) (fun _ _ iv _=>n-(intOf iv).toNat)
 case atStart=>exact⟨0,rfl,Nat.zero_le _,by intro j x hj;omega,Below.refl _ _⟩
 case round=>
  obtain⟨i,rfl,hi,hz,hbw⟩:=hrel;have HZ:=hide hz;have HW:=hide hbw;clear hz hbw;by_cases hlt:i<n
  ·have hget:vs[i]? = some (vs[i]'(by have:=HN.out;omega)):=List.getElem?_eq_getElem _;generalize vs[i]'(by have:=HN.out;omega)=x at hget;obtain⟨b,off,rfl,hbl,hc⟩:=(H.out.below HW.out).cell hget;have HG:=hide hget;have HS:=hide (H.out.below HW.out);have hlt':(i:Int)<(n:Int):=by omega
   clear hget;have K:=hide (a0j wr (HT.out.below HW.out) x);cases hnm:isNm x with
   |false=>
    have HNM:=hide hnm;rw[hnm]at K;clear hnm;have HE:Hid (nmsE vs=1):=if_neg (fun h=>by have:=(h.2 i x HG.out).1;rw[HNM.out]at this;cases this);go_wp2_with fail
    refine K.out.mono ?_;rintro r w1 ⟨hb1,rfl⟩;have HB1:=hide (HW.out.trans (hb1.mono HW.out.size));clear hb1;go_wp2;go_ret;exact⟨by rw[HE.out];rfl,HB1.out⟩
   |true=>
    have HNM:=hide hnm;rw[hnm]at K;clear hnm;go_wp2_with fail
    refine K.out.mono ?_;rintro r w1 ⟨hb1,rfl⟩;have HB1:=hide (HW.out.trans (hb1.mono HW.out.size));have HS1:=hide ((HS.out.below hb1).take i (by have:=HN.out;omega));clear hb1;have K2:=hide (ald w1 _ _ _ _ x HS1.out);by_cases hm:x∈vs.take i
    ·have e1:(ixS x (vs.take i)).isSome=true:=by
      cases hq:ixS x (vs.take i) with
      |none=>exact absurd hm (a0i hq)
      |some k=>rfl
     rw[e1]at K2;have HE:Hid (nmsE vs=1):=if_neg (fun h=>(h.2 i x HG.out).2 hm);clear e1;go_wp2_with fail
     refine K2.out.mono ?_;rintro r w2 ⟨rfl,rfl⟩;go_wp2;go_ret;exact⟨by rw[HE.out];rfl,HB1.out⟩
    ·have e1:(ixS x (vs.take i)).isSome=false:=by rw[am6 hm];rfl
     rw[e1]at K2;have HM:=hide hm;clear e1 hm;go_wp2_with fail
     refine K2.out.mono ?_;rintro r w2 ⟨rfl,rfl⟩;go_wp2;go_roundw
     case rel=>
      refine⟨i+1,by go_num,by omega,?_,HB1.out⟩;intro j y hj hy;by_cases hji:j=i
      ·subst hji;rw[HG.out]at hy;obtain rfl:=Option.some.inj hy;exact⟨HNM.out,HM.out⟩
      ·exact HZ.out j y (by omega) hy
     case measure=>simp[intOf];omega
  ·have hlt':decide ((i:Int)<(n:Int))=false:=by simp;omega
   have HE:Hid (nmsE vs=0):=if_pos ⟨by rw[HN.out];omega,fun j x hj=>HZ.out j x (by have:=(List.getElem?_eq_some_iff.1 hj).1;rw[HN.out]at this;omega) hj⟩;go_wp2;go_ret;exact⟨by rw[HE.out];rfl,HW.out⟩
section
variable {dst:Option Tmp} {ty:TypeId} {pos:String} {after:Array Edge} {guard:Option (Nat×Bool)} {a:Act} {w:World} {ats:Array TypeId} {i j:Nat}
theorem ak1{u v:Int}(h1:a.eval (.tmp i)=.int .i32 u):
  Does Tryz.prog {dst,op:=.binOp .eql 21 (.tmp i) (.const (.int .i32 v)) 21,type:=ty,pos,after,guard} a.eval w fun v' w'=>Below w.heap.size w w'/\Eqs (.bool (decide (u=v))) v' w':=by
 refine ach (v:=.bool (decide (u=v))) ?_ ?_ ⟨Below.refl _ _,rfl⟩
 ·rw[h1];simp[go_sem,Act.eval]
 ·rw[h1];simp[go_sem,Act.eval];rfl
theorem ak2{u v:Int}(h1:a.eval (.tmp i)=.int .i32 u)(h:u=v):
  Does Tryz.prog {dst,op:=.binOp .eql 21 (.tmp i) (.const (.int .i32 v)) 21,type:=ty,pos,after,guard} a.eval w fun v' w'=>Below w.heap.size w w'/\Eqs (.bool true) v' w':=
 (ak1 h1).mono fun _ _ ⟨hb,e⟩=>⟨hb,by rw[Eqs,show _=_ from e,decide_eq_true h]⟩
theorem ag0{u v:Int}(h1:a.eval (.tmp i)=.int .i32 u)(h:u≠v):
  Does Tryz.prog {dst,op:=.binOp .eql 21 (.tmp i) (.const (.int .i32 v)) 21,type:=ty,pos,after,guard} a.eval w fun v' w'=>Below w.heap.size w w'/\Eqs (.bool false) v' w':=
 (ak1 h1).mono fun _ _ ⟨hb,e⟩=>⟨hb,by rw[Eqs,show _=_ from e,decide_eq_false h]⟩
theorem apn{s:ByteArray}{x:Operand}{k:Nat}(h:a.eval (.tmp i)=.string s)(hx:a.eval x=.int .i64 (k:Int))(hk:k<=s.size):Does Tryz.prog {dst,op:=.slice 9 (.tmp i) (some x) none none,type:=ty,pos,after,guard} a.eval w fun v' w'=>Below w.heap.size w w'/\Eqs (.string (s.extract k s.size)) v' w':=by
 have e:(execOp a.eval {dst,op:=.slice 9 (.tmp i) (some x) none none,type:=ty,pos,after,guard}).run Tryz.prog w=.ok (.value (.string (s.extract k s.size))) w:=by
  simp only[execOp,Option.map,h,hx];go_simp
 refine⟨?_⟩;unfold Turns;rw[e];exact⟨Below.refl _ _,rfl⟩
end
section
variable {dst:Option Tmp} {ty:TypeId} {pos:String} {after:Array Edge} {guard:Option (Nat×Bool)} {a:Act} {w:World} {ats:Array TypeId} {i j:Nat}
theorem aro:Has Tryz.prog 129:=by unfold Has;kernel_rfl
theorem ag1{s:ByteArray}{R:Int}{K:Nat}(h:a.eval (.tmp i)=.string s)(hT:Tabs w)(hd:(((Lib.decodeGo s).1:Nat):Int)=R/\(Lib.decodeGo s).2=K):
  Does Tryz.prog {dst,op:=.call {callee:=.value (.func 129),args:=#[.tmp i],argTypes:=ats},type:=ty,pos,after,guard} a.eval w fun v w'=>Below w.heap.size w w'/\Tup2 (Eqs (.int .i32 R)) (Eqs (.int .i64 (K:Int))) v w':=by
 refine aaq aro _ (by simp only[List.map_toArray,List.map_cons,List.map_nil,h]) ((ajc w s hT).mono ?_);rintro e w' ⟨rfl,hb⟩;obtain⟨rfl,rfl⟩:=hd;exact⟨_,rfl,hb,_,_,rfl,rfl,rfl⟩
end
theorem a0k(w:World)(s:ByteArray)(hT:Tabs w):
  Calls Tryz.prog 195 #[.string s] w fun e w'=>e=.returned (.tuple #[.bool (msplit s).1,.string (msplit s).2])/\Below w.heap.size w w':=by
 rcases an1 s with⟨⟨hd0,h3⟩,hm⟩|⟨⟨hd0,h3⟩,hm⟩|⟨⟨hn1',hn2',_,_⟩,hm⟩
 ·skip;go_enter Tryz.func195,Tryz.ntmps195
  generalize hA:(Act.mk _ _)=aa;have hn:aa.tmps.size=19:=by rw[<-hA];rfl
  have hd:aa.defers = []:=by rw[<-hA]
  have f0:aa.eval (.tmp 0)=.string s:=by rw[<-hA];rfl
  clear hA;have HB:Below w.heap.size w w:=Below.refl _ _;refine wp_seq ?_;refine aag [some 2,some 3] [Eqs ((.bool false)),Eqs ((.string ⟨#[]⟩))] [] [] (by kernel_rfl) hn rfl (by kernel_rfl) (by kernel_rfl) (by kernel_rfl) (by kernel_rfl) (by kernel_rfl) (by kernel_rfl) ⟨Eqs.mono4 _,Eqs.mono4 _,trivial⟩ aak (IsOld.all (bx:=[]) trivial) (DisOld.all (bx:=[]) trivial) ?_ ?_
  ·exact⟨.norm 2 rfl rfl rfl (fun a_ w_ hn_ hBt hr hR hD hO hS=>aal rfl),
    .norm 3 rfl rfl rfl (fun a_ w_ hn_ hBt hr hR hD hO hS=>aal rfl),
    trivial⟩
  intro a1 w1 gs1 hn1 hd1 hBt hr hR hP hX hU;replace hn:=hn1;replace hd:=hd1.trans hd;replace f0:=(hR 0 rfl).trans f0;have e2:a1.eval (.tmp 2)=(.bool false):=hP 0 (by decide);have f2:=e2;have e3:a1.eval (.tmp 3)=(.string ⟨#[]⟩):=hP 1 (by decide);have f3:=e3;replace HB:=HB.trans (hBt.below HB.size (UpOld.all (bx:=[]) trivial));clear hBt hr hR hP hX hU;refine wp_seq ?_;refine aag [some 7,some 8,some 6,some 9,some 10,some 4,some 5] [Eqs (.string s),Tup2 (Eqs (.int .i32 8722)) (Eqs (.int .i64 (3:Int))),Tup2 (Eqs (.int .i32 8722)) (Eqs (.int .i64 (3:Int))),Eqs (.int .i32 8722),Eqs (.int .i64 (3:Int)),Eqs (.int .i32 8722),Eqs (.int .i64 (3:Int))] [] [] (by kernel_rfl) hn rfl (by kernel_rfl) (by kernel_rfl) (by kernel_rfl) (by kernel_rfl) (by kernel_rfl) (by kernel_rfl) ⟨Eqs.mono4 _,Tup2.mono4 (Eqs.mono4 _) (Eqs.mono4 _),Tup2.mono4 (Eqs.mono4 _) (Eqs.mono4 _),Eqs.mono4 _,Eqs.mono4 _,Eqs.mono4 _,Eqs.mono4 _,trivial⟩ aak (IsOld.all (bx:=[]) trivial) (DisOld.all (bx:=[]) trivial) ?_ ?_
  ·exact⟨.norm 7 rfl rfl rfl (fun a_ w_ hn_ hBt hr hR hD hO hS=>aav ((hR 0 rfl).trans f0)),
    .norm 8 rfl rfl rfl (fun a_ w_ hn_ hBt hr hR hD hO hS=>ag1 (show a_.eval (.tmp 7)=.string s from hD 0 rfl) (hT.below (HB.trans (hBt.below HB.size (UpOld.all (bx:=[]) trivial)))) ⟨by rw[hd0];rfl,by rw[hd0]⟩),
    .norm 6 rfl rfl rfl (fun a_ w_ hn_ hBt hr hR hD hO hS=>afg (p:=Tup2 (Eqs (.int .i32 8722)) (Eqs (.int .i64 (3:Int)))) (show Tup2 (Eqs (.int .i32 8722)) (Eqs (.int .i64 (3:Int))) (a_.eval (.tmp 8)) w_ from hD 1 rfl)),
    .norm 9 rfl rfl rfl (fun a_ w_ hn_ hBt hr hR hD hO hS=>ael (show Tup2 (Eqs (.int .i32 8722)) (Eqs (.int .i64 (3:Int))) (a_.eval (.tmp 6)) w_ from hD 2 rfl)),
    .norm 10 rfl rfl rfl (fun a_ w_ hn_ hBt hr hR hD hO hS=>aem (show Tup2 (Eqs (.int .i32 8722)) (Eqs (.int .i64 (3:Int))) (a_.eval (.tmp 6)) w_ from hD 2 rfl)),
    .norm 4 rfl rfl rfl (fun a_ w_ hn_ hBt hr hR hD hO hS=>aal (show a_.eval (.tmp 9)=.int .i32 8722 from hD 3 rfl)),
    .norm 5 rfl rfl rfl (fun a_ w_ hn_ hBt hr hR hD hO hS=>aal (show a_.eval (.tmp 10)=.int .i64 (3:Int)from hD 4 rfl)),
    trivial⟩
  intro a2 w2 gs2 hn2 hd2 hBt hr hR hP hX hU;replace hn:=hn2;replace hd:=hd2.trans hd;replace f0:=(hR 0 rfl).trans f0;replace f2:=(hR 2 rfl).trans f2;replace f3:=(hR 3 rfl).trans f3;have e4:a2.eval (.tmp 4)=.int .i32 8722:=hP 5 (by decide);have f4:=e4;have e5:a2.eval (.tmp 5)=.int .i64 (3:Int):=hP 6 (by decide);have f5:=e5;replace HB:=HB.trans (hBt.below HB.size (UpOld.all (bx:=[]) trivial));clear hBt hr hR hP hX hU;refine wp_seq ?_;refine wp_seq ?_;refine aag [some 11] [Eqs (.int .i32 8722)] [] [] (by kernel_rfl) hn rfl (by kernel_rfl) (by kernel_rfl) (by kernel_rfl) (by kernel_rfl) (by kernel_rfl) (by kernel_rfl) ⟨Eqs.mono4 _,trivial⟩ aak (IsOld.all (bx:=[]) trivial) (DisOld.all (bx:=[]) trivial) ?_ ?_
  ·exact⟨.norm 11 rfl rfl rfl (fun a_ w_ hn_ hBt hr hR hD hO hS=>aav ((hR 4 rfl).trans f4)),
    trivial⟩
  intro a3 w3 gs3 hn3 hd3 hBt hr hR hP hX hU;replace hn:=hn3;replace hd:=hd3.trans hd;replace f0:=(hR 0 rfl).trans f0;replace f2:=(hR 2 rfl).trans f2;replace f3:=(hR 3 rfl).trans f3;replace f5:=(hR 5 rfl).trans f5;have e11:a3.eval (.tmp 11)=.int .i32 8722:=hP 0 (by decide);have f11:=e11;replace HB:=HB.trans (hBt.below HB.size (UpOld.all (bx:=[]) trivial));clear hBt hr hR hP hX hU;refine wp_block ?_;refine wp_seq ?_;refine wp_seq ?_;refine aag [some 13,some 12] [Eqs (.bool false),Eqs (.bool false)] [] [] (by kernel_rfl) hn rfl (by kernel_rfl) (by kernel_rfl) (by kernel_rfl) (by kernel_rfl) (by kernel_rfl) (by kernel_rfl) ⟨Eqs.mono4 _,Eqs.mono4 _,trivial⟩ aak (IsOld.all (bx:=[]) trivial) (DisOld.all (bx:=[]) trivial) ?_ ?_
  ·exact⟨.norm 13 rfl rfl rfl (fun a_ w_ hn_ hBt hr hR hD hO hS=>ag0 ((hR 11 rfl).trans f11) (by decide)),
    .norm 12 rfl rfl rfl (fun a_ w_ hn_ hBt hr hR hD hO hS=>aal (show a_.eval (.tmp 13)=.bool false from hD 0 rfl)),
    trivial⟩
  intro a4 w4 gs4 hn4 hd4 hBt hr hR hP hX hU;replace hn:=hn4;replace hd:=hd4.trans hd;replace f0:=(hR 0 rfl).trans f0;replace f2:=(hR 2 rfl).trans f2;replace f3:=(hR 3 rfl).trans f3;replace f5:=(hR 5 rfl).trans f5;replace f11:=(hR 11 rfl).trans f11;have e12:a4.eval (.tmp 12)=.bool false:=hP 1 (by decide);have f12:=e12;replace HB:=HB.trans (hBt.below HB.size (UpOld.all (bx:=[]) trivial));clear hBt hr hR hP hX hU;refine wp_cond_false f12 ?_;refine aag [some 14,some 12] [Eqs (.bool true),Eqs (.bool true)] [] [] (by kernel_rfl) hn rfl (by kernel_rfl) (by kernel_rfl) (by kernel_rfl) (by kernel_rfl) (by kernel_rfl) (by kernel_rfl) ⟨Eqs.mono4 _,Eqs.mono4 _,trivial⟩ aak (IsOld.all (bx:=[]) trivial) (DisOld.all (bx:=[]) trivial) ?_ ?_
  ·exact⟨.norm 14 rfl rfl rfl (fun a_ w_ hn_ hBt hr hR hD hO hS=>ak2 ((hR 11 rfl).trans f11) rfl),
    .norm 12 rfl rfl rfl (fun a_ w_ hn_ hBt hr hR hD hO hS=>aal (show a_.eval (.tmp 14)=.bool true from hD 0 rfl)),
    trivial⟩
  intro a5 w5 gs5 hn5 hd5 hBt hr hR hP hX hU;replace hn:=hn5;replace hd:=hd5.trans hd;replace f0:=(hR 0 rfl).trans f0;replace f2:=(hR 2 rfl).trans f2;replace f3:=(hR 3 rfl).trans f3;replace f5:=(hR 5 rfl).trans f5;have e12:a5.eval (.tmp 12)=.bool true:=hP 1 (by decide);have f12:=e12;replace HB:=HB.trans (hBt.below HB.size (UpOld.all (bx:=[]) trivial));clear hBt hr hR hP hX hU;refine wp_cond_true f12 ?_;refine wp_seq ?_;refine aag [some 15,some 16,some 17,some 2,some 3] [Eqs (.string s),Eqs (.int .i64 (3:Int)),Eqs (.string ((s).extract 3 (s).size)),Eqs ((.bool true)),Eqs (.string ((s).extract 3 (s).size))] [] [] (by kernel_rfl) hn rfl (by kernel_rfl) (by kernel_rfl) (by kernel_rfl) (by kernel_rfl) (by kernel_rfl) (by kernel_rfl) ⟨Eqs.mono4 _,Eqs.mono4 _,Eqs.mono4 _,Eqs.mono4 _,Eqs.mono4 _,trivial⟩ aak (IsOld.all (bx:=[]) trivial) (DisOld.all (bx:=[]) trivial) ?_ ?_
  ·exact⟨.norm 15 rfl rfl rfl (fun a_ w_ hn_ hBt hr hR hD hO hS=>aav ((hR 0 rfl).trans f0)),
    .norm 16 rfl rfl rfl (fun a_ w_ hn_ hBt hr hR hD hO hS=>aav ((hR 5 rfl).trans f5)),
    .norm 17 rfl rfl rfl (fun a_ w_ hn_ hBt hr hR hD hO hS=>apn (k:=3) (show a_.eval (.tmp 15)=.string s from hD 0 rfl) (show a_.eval (.tmp 16)=.int .i64 (3:Int)from hD 1 rfl) (by omega)),
    .norm 2 rfl rfl rfl (fun a_ w_ hn_ hBt hr hR hD hO hS=>aal rfl),
    .norm 3 rfl rfl rfl (fun a_ w_ hn_ hBt hr hR hD hO hS=>aal (show a_.eval (.tmp 17)=.string ((s).extract 3 (s).size)from hD 2 rfl)),
    trivial⟩
  intro a6 w6 gs6 hn6 hd6 hBt hr hR hP hX hU;replace hn:=hn6;replace hd:=hd6.trans hd;replace f0:=(hR 0 rfl).trans f0;have e2:a6.eval (.tmp 2)=(.bool true):=hP 3 (by decide);have f2:=e2;have e3:a6.eval (.tmp 3)=.string ((s).extract 3 (s).size):=hP 4 (by decide);have f3:=e3;replace HB:=HB.trans (hBt.below HB.size (UpOld.all (bx:=[]) trivial));clear hBt hr hR hP hX hU;refine wp_ret ?_;repeat(first|refine abe ?_|refine aa3 ?_|refine aa8 ?_)
  exact bodyPost_ret (v:=.tuple #[.bool true,.string ((s).extract 3 (s).size)]) (ajz rfl f2 f3) hd ⟨by rw[hm],HB⟩
 ·skip;go_enter Tryz.func195,Tryz.ntmps195
  generalize hA:(Act.mk _ _)=aa;have hn:aa.tmps.size=19:=by rw[<-hA];rfl
  have hd:aa.defers = []:=by rw[<-hA]
  have f0:aa.eval (.tmp 0)=.string s:=by rw[<-hA];rfl
  clear hA;have HB:Below w.heap.size w w:=Below.refl _ _;refine wp_seq ?_;refine aag [some 2,some 3] [Eqs ((.bool false)),Eqs ((.string ⟨#[]⟩))] [] [] (by kernel_rfl) hn rfl (by kernel_rfl) (by kernel_rfl) (by kernel_rfl) (by kernel_rfl) (by kernel_rfl) (by kernel_rfl) ⟨Eqs.mono4 _,Eqs.mono4 _,trivial⟩ aak (IsOld.all (bx:=[]) trivial) (DisOld.all (bx:=[]) trivial) ?_ ?_
  ·exact⟨.norm 2 rfl rfl rfl (fun a_ w_ hn_ hBt hr hR hD hO hS=>aal rfl),
    .norm 3 rfl rfl rfl (fun a_ w_ hn_ hBt hr hR hD hO hS=>aal rfl),
    trivial⟩
  intro a1 w1 gs1 hn1 hd1 hBt hr hR hP hX hU;replace hn:=hn1;replace hd:=hd1.trans hd;replace f0:=(hR 0 rfl).trans f0;have e2:a1.eval (.tmp 2)=(.bool false):=hP 0 (by decide);have f2:=e2;have e3:a1.eval (.tmp 3)=(.string ⟨#[]⟩):=hP 1 (by decide);have f3:=e3;replace HB:=HB.trans (hBt.below HB.size (UpOld.all (bx:=[]) trivial));clear hBt hr hR hP hX hU;refine wp_seq ?_;refine aag [some 7,some 8,some 6,some 9,some 10,some 4,some 5] [Eqs (.string s),Tup2 (Eqs (.int .i32 45)) (Eqs (.int .i64 (1:Int))),Tup2 (Eqs (.int .i32 45)) (Eqs (.int .i64 (1:Int))),Eqs (.int .i32 45),Eqs (.int .i64 (1:Int)),Eqs (.int .i32 45),Eqs (.int .i64 (1:Int))] [] [] (by kernel_rfl) hn rfl (by kernel_rfl) (by kernel_rfl) (by kernel_rfl) (by kernel_rfl) (by kernel_rfl) (by kernel_rfl) ⟨Eqs.mono4 _,Tup2.mono4 (Eqs.mono4 _) (Eqs.mono4 _),Tup2.mono4 (Eqs.mono4 _) (Eqs.mono4 _),Eqs.mono4 _,Eqs.mono4 _,Eqs.mono4 _,Eqs.mono4 _,trivial⟩ aak (IsOld.all (bx:=[]) trivial) (DisOld.all (bx:=[]) trivial) ?_ ?_
  ·exact⟨.norm 7 rfl rfl rfl (fun a_ w_ hn_ hBt hr hR hD hO hS=>aav ((hR 0 rfl).trans f0)),
    .norm 8 rfl rfl rfl (fun a_ w_ hn_ hBt hr hR hD hO hS=>ag1 (show a_.eval (.tmp 7)=.string s from hD 0 rfl) (hT.below (HB.trans (hBt.below HB.size (UpOld.all (bx:=[]) trivial)))) ⟨by rw[hd0];rfl,by rw[hd0]⟩),
    .norm 6 rfl rfl rfl (fun a_ w_ hn_ hBt hr hR hD hO hS=>afg (p:=Tup2 (Eqs (.int .i32 45)) (Eqs (.int .i64 (1:Int)))) (show Tup2 (Eqs (.int .i32 45)) (Eqs (.int .i64 (1:Int))) (a_.eval (.tmp 8)) w_ from hD 1 rfl)),
    .norm 9 rfl rfl rfl (fun a_ w_ hn_ hBt hr hR hD hO hS=>ael (show Tup2 (Eqs (.int .i32 45)) (Eqs (.int .i64 (1:Int))) (a_.eval (.tmp 6)) w_ from hD 2 rfl)),
    .norm 10 rfl rfl rfl (fun a_ w_ hn_ hBt hr hR hD hO hS=>aem (show Tup2 (Eqs (.int .i32 45)) (Eqs (.int .i64 (1:Int))) (a_.eval (.tmp 6)) w_ from hD 2 rfl)),
    .norm 4 rfl rfl rfl (fun a_ w_ hn_ hBt hr hR hD hO hS=>aal (show a_.eval (.tmp 9)=.int .i32 45 from hD 3 rfl)),
    .norm 5 rfl rfl rfl (fun a_ w_ hn_ hBt hr hR hD hO hS=>aal (show a_.eval (.tmp 10)=.int .i64 (1:Int)from hD 4 rfl)),
    trivial⟩
  intro a2 w2 gs2 hn2 hd2 hBt hr hR hP hX hU;replace hn:=hn2;replace hd:=hd2.trans hd;replace f0:=(hR 0 rfl).trans f0;replace f2:=(hR 2 rfl).trans f2;replace f3:=(hR 3 rfl).trans f3;have e4:a2.eval (.tmp 4)=.int .i32 45:=hP 5 (by decide);have f4:=e4;have e5:a2.eval (.tmp 5)=.int .i64 (1:Int):=hP 6 (by decide);have f5:=e5;replace HB:=HB.trans (hBt.below HB.size (UpOld.all (bx:=[]) trivial));clear hBt hr hR hP hX hU;refine wp_seq ?_;refine wp_seq ?_;refine aag [some 11] [Eqs (.int .i32 45)] [] [] (by kernel_rfl) hn rfl (by kernel_rfl) (by kernel_rfl) (by kernel_rfl) (by kernel_rfl) (by kernel_rfl) (by kernel_rfl) ⟨Eqs.mono4 _,trivial⟩ aak (IsOld.all (bx:=[]) trivial) (DisOld.all (bx:=[]) trivial) ?_ ?_
  ·exact⟨.norm 11 rfl rfl rfl (fun a_ w_ hn_ hBt hr hR hD hO hS=>aav ((hR 4 rfl).trans f4)),
    trivial⟩
  intro a3 w3 gs3 hn3 hd3 hBt hr hR hP hX hU;replace hn:=hn3;replace hd:=hd3.trans hd;replace f0:=(hR 0 rfl).trans f0;replace f2:=(hR 2 rfl).trans f2;replace f3:=(hR 3 rfl).trans f3;replace f5:=(hR 5 rfl).trans f5;have e11:a3.eval (.tmp 11)=.int .i32 45:=hP 0 (by decide);have f11:=e11;replace HB:=HB.trans (hBt.below HB.size (UpOld.all (bx:=[]) trivial));clear hBt hr hR hP hX hU;refine wp_block ?_;refine wp_seq ?_;refine wp_seq ?_;refine aag [some 13,some 12] [Eqs (.bool true),Eqs (.bool true)] [] [] (by kernel_rfl) hn rfl (by kernel_rfl) (by kernel_rfl) (by kernel_rfl) (by kernel_rfl) (by kernel_rfl) (by kernel_rfl) ⟨Eqs.mono4 _,Eqs.mono4 _,trivial⟩ aak (IsOld.all (bx:=[]) trivial) (DisOld.all (bx:=[]) trivial) ?_ ?_
  ·exact⟨.norm 13 rfl rfl rfl (fun a_ w_ hn_ hBt hr hR hD hO hS=>ak2 ((hR 11 rfl).trans f11) rfl),
    .norm 12 rfl rfl rfl (fun a_ w_ hn_ hBt hr hR hD hO hS=>aal (show a_.eval (.tmp 13)=.bool true from hD 0 rfl)),
    trivial⟩
  intro a4 w4 gs4 hn4 hd4 hBt hr hR hP hX hU;replace hn:=hn4;replace hd:=hd4.trans hd;replace f0:=(hR 0 rfl).trans f0;replace f2:=(hR 2 rfl).trans f2;replace f3:=(hR 3 rfl).trans f3;replace f5:=(hR 5 rfl).trans f5;replace f11:=(hR 11 rfl).trans f11;have e12:a4.eval (.tmp 12)=.bool true:=hP 1 (by decide);have f12:=e12;replace HB:=HB.trans (hBt.below HB.size (UpOld.all (bx:=[]) trivial));clear hBt hr hR hP hX hU;refine wp_cond_true f12 ?_;refine wp_skip ?_;refine wp_cond_true f12 ?_;refine wp_seq ?_;refine aag [some 15,some 16,some 17,some 2,some 3] [Eqs (.string s),Eqs (.int .i64 (1:Int)),Eqs (.string ((s).extract 1 (s).size)),Eqs ((.bool true)),Eqs (.string ((s).extract 1 (s).size))] [] [] (by kernel_rfl) hn rfl (by kernel_rfl) (by kernel_rfl) (by kernel_rfl) (by kernel_rfl) (by kernel_rfl) (by kernel_rfl) ⟨Eqs.mono4 _,Eqs.mono4 _,Eqs.mono4 _,Eqs.mono4 _,Eqs.mono4 _,trivial⟩ aak (IsOld.all (bx:=[]) trivial) (DisOld.all (bx:=[]) trivial) ?_ ?_
  ·exact⟨.norm 15 rfl rfl rfl (fun a_ w_ hn_ hBt hr hR hD hO hS=>aav ((hR 0 rfl).trans f0)),
    .norm 16 rfl rfl rfl (fun a_ w_ hn_ hBt hr hR hD hO hS=>aav ((hR 5 rfl).trans f5)),
    .norm 17 rfl rfl rfl (fun a_ w_ hn_ hBt hr hR hD hO hS=>apn (k:=1) (show a_.eval (.tmp 15)=.string s from hD 0 rfl) (show a_.eval (.tmp 16)=.int .i64 (1:Int)from hD 1 rfl) (by omega)),
    .norm 2 rfl rfl rfl (fun a_ w_ hn_ hBt hr hR hD hO hS=>aal rfl),
    .norm 3 rfl rfl rfl (fun a_ w_ hn_ hBt hr hR hD hO hS=>aal (show a_.eval (.tmp 17)=.string ((s).extract 1 (s).size)from hD 2 rfl)),
    trivial⟩
  intro a5 w5 gs5 hn5 hd5 hBt hr hR hP hX hU;replace hn:=hn5;replace hd:=hd5.trans hd;replace f0:=(hR 0 rfl).trans f0;have e2:a5.eval (.tmp 2)=(.bool true):=hP 3 (by decide);have f2:=e2;have e3:a5.eval (.tmp 3)=.string ((s).extract 1 (s).size):=hP 4 (by decide);have f3:=e3;replace HB:=HB.trans (hBt.below HB.size (UpOld.all (bx:=[]) trivial));clear hBt hr hR hP hX hU;refine wp_ret ?_;repeat(first|refine abe ?_|refine aa3 ?_|refine aa8 ?_)
  exact bodyPost_ret (v:=.tuple #[.bool true,.string ((s).extract 1 (s).size)]) (ajz rfl f2 f3) hd ⟨by rw[hm],HB⟩
 ·have hne1:(((Lib.decodeGo s).1:Nat):Int)≠45:=by omega
  have hne2:(((Lib.decodeGo s).1:Nat):Int)≠8722:=by omega
  go_enter Tryz.func195,Tryz.ntmps195
  generalize hA:(Act.mk _ _)=aa;have hn:aa.tmps.size=19:=by rw[<-hA];rfl
  have hd:aa.defers = []:=by rw[<-hA]
  have f0:aa.eval (.tmp 0)=.string s:=by rw[<-hA];rfl
  clear hA;have HB:Below w.heap.size w w:=Below.refl _ _;refine wp_seq ?_;refine aag [some 2,some 3] [Eqs ((.bool false)),Eqs ((.string ⟨#[]⟩))] [] [] (by kernel_rfl) hn rfl (by kernel_rfl) (by kernel_rfl) (by kernel_rfl) (by kernel_rfl) (by kernel_rfl) (by kernel_rfl) ⟨Eqs.mono4 _,Eqs.mono4 _,trivial⟩ aak (IsOld.all (bx:=[]) trivial) (DisOld.all (bx:=[]) trivial) ?_ ?_
  ·exact⟨.norm 2 rfl rfl rfl (fun a_ w_ hn_ hBt hr hR hD hO hS=>aal rfl),
    .norm 3 rfl rfl rfl (fun a_ w_ hn_ hBt hr hR hD hO hS=>aal rfl),
    trivial⟩
  intro a1 w1 gs1 hn1 hd1 hBt hr hR hP hX hU;replace hn:=hn1;replace hd:=hd1.trans hd;replace f0:=(hR 0 rfl).trans f0;have e2:a1.eval (.tmp 2)=(.bool false):=hP 0 (by decide);have f2:=e2;have e3:a1.eval (.tmp 3)=(.string ⟨#[]⟩):=hP 1 (by decide);have f3:=e3;replace HB:=HB.trans (hBt.below HB.size (UpOld.all (bx:=[]) trivial));clear hBt hr hR hP hX hU;refine wp_seq ?_;refine aag [some 7,some 8,some 6,some 9,some 10,some 4,some 5] [Eqs (.string s),Tup2 (Eqs (.int .i32 (((Lib.decodeGo s).1:Nat):Int))) (Eqs (.int .i64 ((Lib.decodeGo s).2:Int))),Tup2 (Eqs (.int .i32 (((Lib.decodeGo s).1:Nat):Int))) (Eqs (.int .i64 ((Lib.decodeGo s).2:Int))),Eqs (.int .i32 (((Lib.decodeGo s).1:Nat):Int)),Eqs (.int .i64 ((Lib.decodeGo s).2:Int)),Eqs (.int .i32 (((Lib.decodeGo s).1:Nat):Int)),Eqs (.int .i64 ((Lib.decodeGo s).2:Int))] [] [] (by kernel_rfl) hn rfl (by kernel_rfl) (by kernel_rfl) (by kernel_rfl) (by kernel_rfl) (by kernel_rfl) (by kernel_rfl) ⟨Eqs.mono4 _,Tup2.mono4 (Eqs.mono4 _) (Eqs.mono4 _),Tup2.mono4 (Eqs.mono4 _) (Eqs.mono4 _),Eqs.mono4 _,Eqs.mono4 _,Eqs.mono4 _,Eqs.mono4 _,trivial⟩ aak (IsOld.all (bx:=[]) trivial) (DisOld.all (bx:=[]) trivial) ?_ ?_
  ·exact⟨.norm 7 rfl rfl rfl (fun a_ w_ hn_ hBt hr hR hD hO hS=>aav ((hR 0 rfl).trans f0)),
    .norm 8 rfl rfl rfl (fun a_ w_ hn_ hBt hr hR hD hO hS=>ag1 (show a_.eval (.tmp 7)=.string s from hD 0 rfl) (hT.below (HB.trans (hBt.below HB.size (UpOld.all (bx:=[]) trivial)))) ⟨rfl,rfl⟩),
    .norm 6 rfl rfl rfl (fun a_ w_ hn_ hBt hr hR hD hO hS=>afg (p:=Tup2 (Eqs (.int .i32 (((Lib.decodeGo s).1:Nat):Int))) (Eqs (.int .i64 ((Lib.decodeGo s).2:Int)))) (show Tup2 (Eqs (.int .i32 (((Lib.decodeGo s).1:Nat):Int))) (Eqs (.int .i64 ((Lib.decodeGo s).2:Int))) (a_.eval (.tmp 8)) w_ from hD 1 rfl)),
    .norm 9 rfl rfl rfl (fun a_ w_ hn_ hBt hr hR hD hO hS=>ael (show Tup2 (Eqs (.int .i32 (((Lib.decodeGo s).1:Nat):Int))) (Eqs (.int .i64 ((Lib.decodeGo s).2:Int))) (a_.eval (.tmp 6)) w_ from hD 2 rfl)),
    .norm 10 rfl rfl rfl (fun a_ w_ hn_ hBt hr hR hD hO hS=>aem (show Tup2 (Eqs (.int .i32 (((Lib.decodeGo s).1:Nat):Int))) (Eqs (.int .i64 ((Lib.decodeGo s).2:Int))) (a_.eval (.tmp 6)) w_ from hD 2 rfl)),
    .norm 4 rfl rfl rfl (fun a_ w_ hn_ hBt hr hR hD hO hS=>aal (show a_.eval (.tmp 9)=.int .i32 (((Lib.decodeGo s).1:Nat):Int)from hD 3 rfl)),
    .norm 5 rfl rfl rfl (fun a_ w_ hn_ hBt hr hR hD hO hS=>aal (show a_.eval (.tmp 10)=.int .i64 ((Lib.decodeGo s).2:Int)from hD 4 rfl)),
    trivial⟩
  intro a2 w2 gs2 hn2 hd2 hBt hr hR hP hX hU;replace hn:=hn2;replace hd:=hd2.trans hd;replace f0:=(hR 0 rfl).trans f0;replace f2:=(hR 2 rfl).trans f2;replace f3:=(hR 3 rfl).trans f3;have e4:a2.eval (.tmp 4)=.int .i32 (((Lib.decodeGo s).1:Nat):Int):=hP 5 (by decide);have f4:=e4;have e5:a2.eval (.tmp 5)=.int .i64 ((Lib.decodeGo s).2:Int):=hP 6 (by decide);have f5:=e5;replace HB:=HB.trans (hBt.below HB.size (UpOld.all (bx:=[]) trivial));clear hBt hr hR hP hX hU;refine wp_seq ?_;refine wp_seq ?_;refine aag [some 11] [Eqs (.int .i32 (((Lib.decodeGo s).1:Nat):Int))] [] [] (by kernel_rfl) hn rfl (by kernel_rfl) (by kernel_rfl) (by kernel_rfl) (by kernel_rfl) (by kernel_rfl) (by kernel_rfl) ⟨Eqs.mono4 _,trivial⟩ aak (IsOld.all (bx:=[]) trivial) (DisOld.all (bx:=[]) trivial) ?_ ?_
  ·exact⟨.norm 11 rfl rfl rfl (fun a_ w_ hn_ hBt hr hR hD hO hS=>aav ((hR 4 rfl).trans f4)),
    trivial⟩
  intro a3 w3 gs3 hn3 hd3 hBt hr hR hP hX hU;replace hn:=hn3;replace hd:=hd3.trans hd;replace f0:=(hR 0 rfl).trans f0;replace f2:=(hR 2 rfl).trans f2;replace f3:=(hR 3 rfl).trans f3;replace f5:=(hR 5 rfl).trans f5;have e11:a3.eval (.tmp 11)=.int .i32 (((Lib.decodeGo s).1:Nat):Int):=hP 0 (by decide);have f11:=e11;replace HB:=HB.trans (hBt.below HB.size (UpOld.all (bx:=[]) trivial));clear hBt hr hR hP hX hU;refine wp_block ?_;refine wp_seq ?_;refine wp_seq ?_;refine aag [some 13,some 12] [Eqs (.bool false),Eqs (.bool false)] [] [] (by kernel_rfl) hn rfl (by kernel_rfl) (by kernel_rfl) (by kernel_rfl) (by kernel_rfl) (by kernel_rfl) (by kernel_rfl) ⟨Eqs.mono4 _,Eqs.mono4 _,trivial⟩ aak (IsOld.all (bx:=[]) trivial) (DisOld.all (bx:=[]) trivial) ?_ ?_
  ·exact⟨.norm 13 rfl rfl rfl (fun a_ w_ hn_ hBt hr hR hD hO hS=>ag0 ((hR 11 rfl).trans f11) hne1),
    .norm 12 rfl rfl rfl (fun a_ w_ hn_ hBt hr hR hD hO hS=>aal (show a_.eval (.tmp 13)=.bool false from hD 0 rfl)),
    trivial⟩
  intro a4 w4 gs4 hn4 hd4 hBt hr hR hP hX hU;replace hn:=hn4;replace hd:=hd4.trans hd;replace f0:=(hR 0 rfl).trans f0;replace f2:=(hR 2 rfl).trans f2;replace f3:=(hR 3 rfl).trans f3;replace f5:=(hR 5 rfl).trans f5;replace f11:=(hR 11 rfl).trans f11;have e12:a4.eval (.tmp 12)=.bool false:=hP 1 (by decide);have f12:=e12;replace HB:=HB.trans (hBt.below HB.size (UpOld.all (bx:=[]) trivial));clear hBt hr hR hP hX hU;refine wp_cond_false f12 ?_;refine aag [some 14,some 12] [Eqs (.bool false),Eqs (.bool false)] [] [] (by kernel_rfl) hn rfl (by kernel_rfl) (by kernel_rfl) (by kernel_rfl) (by kernel_rfl) (by kernel_rfl) (by kernel_rfl) ⟨Eqs.mono4 _,Eqs.mono4 _,trivial⟩ aak (IsOld.all (bx:=[]) trivial) (DisOld.all (bx:=[]) trivial) ?_ ?_
  ·exact⟨.norm 14 rfl rfl rfl (fun a_ w_ hn_ hBt hr hR hD hO hS=>ag0 ((hR 11 rfl).trans f11) hne2),
    .norm 12 rfl rfl rfl (fun a_ w_ hn_ hBt hr hR hD hO hS=>aal (show a_.eval (.tmp 14)=.bool false from hD 0 rfl)),
    trivial⟩
  intro a5 w5 gs5 hn5 hd5 hBt hr hR hP hX hU;replace hn:=hn5;replace hd:=hd5.trans hd;replace f0:=(hR 0 rfl).trans f0;replace f2:=(hR 2 rfl).trans f2;replace f3:=(hR 3 rfl).trans f3;replace f5:=(hR 5 rfl).trans f5;have e12:a5.eval (.tmp 12)=.bool false:=hP 1 (by decide);have f12:=e12;replace HB:=HB.trans (hBt.below HB.size (UpOld.all (bx:=[]) trivial));clear hBt hr hR hP hX hU;refine wp_cond_false f12 ?_;refine wp_skip ?_;refine agj ?_;refine wp_seq ?_;refine aag [some 18,some 2,some 3] [Eqs (.string s),Eqs ((.bool false)),Eqs (.string s)] [] [] (by kernel_rfl) hn rfl (by kernel_rfl) (by kernel_rfl) (by kernel_rfl) (by kernel_rfl) (by kernel_rfl) (by kernel_rfl) ⟨Eqs.mono4 _,Eqs.mono4 _,Eqs.mono4 _,trivial⟩ aak (IsOld.all (bx:=[]) trivial) (DisOld.all (bx:=[]) trivial) ?_ ?_
  ·exact⟨.norm 18 rfl rfl rfl (fun a_ w_ hn_ hBt hr hR hD hO hS=>aav ((hR 0 rfl).trans f0)),
    .norm 2 rfl rfl rfl (fun a_ w_ hn_ hBt hr hR hD hO hS=>aal rfl),
    .norm 3 rfl rfl rfl (fun a_ w_ hn_ hBt hr hR hD hO hS=>aal (show a_.eval (.tmp 18)=.string s from hD 0 rfl)),
    trivial⟩
  intro a6 w6 gs6 hn6 hd6 hBt hr hR hP hX hU;replace hn:=hn6;replace hd:=hd6.trans hd;have e2:a6.eval (.tmp 2)=(.bool false):=hP 1 (by decide);have f2:=e2;have e3:a6.eval (.tmp 3)=.string s:=hP 2 (by decide);have f3:=e3;replace HB:=HB.trans (hBt.below HB.size (UpOld.all (bx:=[]) trivial));clear hBt hr hR hP hX hU;refine wp_ret ?_;repeat(first|refine abe ?_|refine aa3 ?_|refine aa8 ?_)
  exact bodyPost_ret (v:=.tuple #[.bool false,.string s]) (ajz rfl f2 f3) hd ⟨by rw[hm],HB⟩
end Lm
namespace Lm
open Go Go.RowKit
open Dm (Err Fine)
open Classical in
noncomputable def kOf(r:ByteArray):Int:=if 5120<r.size then 2 else if 1<=r.size/\Dig (bytesOf r)then 0 else 10
open Classical in
noncomputable def xOf(r:ByteArray):Int:=if Fine r then dval (bytesOf r)else 0
theorem a2c{r:ByteArray}{k:Int}(h:Err r k):k=kOf r/\xOf r=0/\kOf r≠0:=by
 have hf:¬Fine r:=fun hf=>Dm.amq h hf
 have h1:k=kOf r:=by
  rcases h with⟨rfl,h2⟩|⟨rfl,h2,h3⟩
  ·rw[kOf,if_pos h2]
  ·rw[kOf,if_neg (by omega),if_neg h3]
 refine⟨h1,by rw[xOf,if_neg hf],?_⟩;rw[<-h1];rcases h with⟨h1,_⟩|⟨h1,_⟩ <;> omega
theorem afn{r:ByteArray}(h:Fine r):kOf r=0/\xOf r=dval (bytesOf r):=by
 refine⟨?_,by rw[xOf,if_pos h]⟩;rw[kOf,if_neg (by have:=h.2.1;omega),if_pos ⟨h.1,h.2.2⟩]
theorem aut(n:Nat):p10 n<=pw n:=by
 induction n with
 |zero=>simp[p10,pw]
 |succ n ih=>
  simp only[p10,pw];have:=aat n;omega
noncomputable def zOf(s:ByteArray):Int:=sg (msplit s).1 (xOf (msplit s).2)
noncomputable def eOf(s:ByteArray):Int:=kOf (msplit s).2
section
variable {dst:Option Tmp} {ty:TypeId} {pos:String} {after:Array Edge} {guard:Option (Nat×Bool)} {a:Act} {w:World} {ats:Array TypeId} {i j:Nat}
theorem auu:Has Tryz.prog 195:=by unfold Has;kernel_rfl
theorem axr{s:ByteArray}(h:a.eval (.tmp i)=.string s)(hT:Tabs w):
  Does Tryz.prog {dst,op:=.call {callee:=.value (.func 195),args:=#[.tmp i],argTypes:=ats},type:=ty,pos,after,guard} a.eval w fun v w'=>Below w.heap.size w w'/\Tup2 (Eqs (.bool (msplit s).1)) (Eqs (.string (msplit s).2)) v w':=by
 refine aaq auu _ (by simp only[List.map_toArray,List.map_cons,List.map_nil,h]) ((a0k w s hT).mono ?_);rintro e w' ⟨rfl,hb⟩;exact⟨_,rfl,hb,_,_,rfl,rfl,rfl⟩
theorem arp:Has Tryz.prog 167:=by unfold Has;kernel_rfl
theorem auv{s:ByteArray}(h:a.eval (.tmp i)=.string s):
  Does Tryz.prog {dst,op:=.call {callee:=.value (.func 167),args:=#[.tmp i],argTypes:=ats},type:=ty,pos,after,guard} a.eval w fun v w'=>Below w.heap.size w w'/\Tup2 (OutL (xOf s) 6000) (Eqs (.int .i64 (kOf s))) v w':=by
 refine aaq arp _ (by simp only[List.map_toArray,List.map_cons,List.map_nil,h]) ((ao5 w s).mono ?_);rintro e w' ⟨⟨k,hk,rfl⟩|⟨hf,v,rfl,rs,ho,hc,hv⟩,hb⟩
 ·obtain⟨h1,h2,_⟩:=a2c hk;refine⟨_,rfl,hb,_,_,rfl,?_,by rw[h1];rfl⟩;rw[h2];exact⟨none,0,[],rfl,⟨ace w',abk,rfl⟩,by simp⟩
 ·obtain⟨h1,h2⟩:=afn hf;refine⟨_,rfl,hb,_,_,rfl,?_,by rw[h1];rfl⟩;rw[h2];obtain⟨ao,cap,rfl,_⟩:=id ho;refine⟨ao,cap,rs,rfl,⟨ho.sl,hc,hv⟩,?_⟩;have h3:=(abt hf.2.2).2;rw[aby]at h3;have h4:=aax hc (m:=s.size) (by rw[hv];have:=aut s.size;omega);have:=hf.2.1;omega
theorem arq:Has Tryz.prog 70:=by unfold Has;kernel_rfl
theorem arr{b:Bool}{x:Int}{L:Nat}(h1:a.eval (.tmp i)=.bool b)(h2:OutL x L (a.eval (.tmp j)) w)(hL:L<=1000000):
  Does Tryz.prog {dst,op:=.call {callee:=.value (.func 70),args:=#[.tmp i,.tmp j],argTypes:=ats},type:=ty,pos,after,guard} a.eval w fun v w'=>Below w.heap.size w w'/\OutW (sg b x) L v w':=by
 obtain⟨ao,cap,rs,e,G,l⟩:=h2;refine aaq arq _ (by simp only[List.map_toArray,List.map_cons,List.map_nil,h1,e]) ((aa5 w b ao cap rs x G (by omega)).mono ?_);rintro e w' ⟨ng,rfl,hW,hb⟩;exact⟨_,rfl,hb,ng,ao,cap,rs,rfl,hW,l⟩
theorem axs{u v:Int}(h1:a.eval (.tmp i)=.int .i64 u):
  Does Tryz.prog {dst,op:=.binOp .neq 27 (.tmp i) (.const (.int .i64 v)) 27,type:=ty,pos,after,guard} a.eval w fun v' w'=>Below w.heap.size w w'/\Eqs (.bool (!decide (u=v))) v' w':=by
 refine ach (v:=.bool (!decide (u=v))) ?_ ?_ ⟨Below.refl _ _,rfl⟩
 ·rw[h1];simp[go_sem,Act.eval]
 ·rw[h1];simp[go_sem,Act.eval];rfl
end
theorem axt{r:ByteArray}{b:Bool}(h:kOf r≠0):sg b (xOf r)=0:=by
 have hf:¬Fine r:=fun hf=>h (afn hf).1
 rw[xOf,if_neg hf];cases b <;> rfl
theorem auw(w:World){L:Nat}: OutW 0 L (.agg #[.bool false,.slice none 0 0]) w:=⟨false,none,0,[],rfl,⟨⟨ace w,abk,rfl⟩,rfl⟩,by simp⟩
theorem axu(w:World)(s:ByteArray)(hT:Tabs w):
  Calls Tryz.prog 194 #[.string s] w fun e w'=>∃v,e=.returned v/\Tup2 (OutW (zOf s) 6000) (Eqs (.int .i64 (eOf s))) v w'/\Below w.heap.size w w':=by
 go_enter Tryz.func194,Tryz.ntmps194
 generalize hA:(Act.mk _ _)=aa;have hn:aa.tmps.size=25:=by rw[<-hA];rfl
 have hd:aa.defers = []:=by rw[<-hA]
 have f0:aa.eval (.tmp 0)=.string s:=by rw[<-hA];rfl
 clear hA;have HB:Below w.heap.size w w:=Below.refl _ _;refine wp_seq ?_;refine aag [some 2,some 3] [(fun _ _=>True),Eqs ((.int .i64 0))] [⟨W2,some 0,0,2,.agg #[.bool false,.slice none 0 0],none,[]⟩] [] (by kernel_rfl) hn rfl (by kernel_rfl) (by kernel_rfl) (by kernel_rfl) (by kernel_rfl) (by kernel_rfl) (by kernel_rfl) ⟨True.mono4,Eqs.mono4 _,trivial⟩ (aas W2ok aak) (IsOld.all (bx:=[⟨W2,some 0,0,2,.agg #[.bool false,.slice none 0 0],none,[]⟩]) ⟨someNe,trivial⟩) (DisOld.all (bx:=[⟨W2,some 0,0,2,.agg #[.bool false,.slice none 0 0],none,[]⟩]) ⟨someNe,trivial⟩) ?_ ?_
 ·exact⟨.alloc 0 _ rfl rfl (.inl ⟨rfl,rfl⟩) rfl rfl rfl rfl rfl,
   .norm 3 rfl rfl rfl (fun a_ w_ hn_ hBt hr hR hD hO hS=>aal rfl),
   trivial⟩
 intro a1 w1 gs1 hn1 hd1 hBt hr hR hP hX hU;replace hn:=hn1;replace hd:=hd1.trans hd;have b2:BoxV W2 w1 (gs1 0) (.agg #[.bool false,.slice none 0 0]):=(hX 0 _ rfl).2.2.2;have f2:=(hX 0 _ rfl).1;have u2:w.heap.size<=gs1 0:=Nat.le_trans HB.size ((hX 0 _ rfl).2.2.1 (by simp));replace f0:=(hR 0 rfl).trans f0;have e3:a1.eval (.tmp 3)=(.int .i64 0):=hP 1 (by decide);have f3:=e3;replace HB:=HB.trans (hBt.below HB.size (UpOld.all (bx:=[⟨W2,some 0,0,2,.agg #[.bool false,.slice none 0 0],none,[]⟩]) ⟨someNe,trivial⟩));clear hBt hr hR hP hX hU;refine wp_seq ?_;refine aag [some 9,some 10,some 8,some 11,some 12,some 4,some 5] [Eqs (.string s),Tup2 (Eqs (.bool (msplit s).1)) (Eqs (.string (msplit s).2)),Tup2 (Eqs (.bool (msplit s).1)) (Eqs (.string (msplit s).2)),Eqs (.bool (msplit s).1),Eqs (.string (msplit s).2),Eqs (.bool (msplit s).1),Eqs (.string (msplit s).2)] [] [] (by kernel_rfl) hn rfl (by kernel_rfl) (by kernel_rfl) (by kernel_rfl) (by kernel_rfl) (by kernel_rfl) (by kernel_rfl) ⟨Eqs.mono4 _,Tup2.mono4 (Eqs.mono4 _) (Eqs.mono4 _),Tup2.mono4 (Eqs.mono4 _) (Eqs.mono4 _),Eqs.mono4 _,Eqs.mono4 _,Eqs.mono4 _,Eqs.mono4 _,trivial⟩ aak (IsOld.all (bx:=[]) trivial) (DisOld.all (bx:=[]) trivial) ?_ ?_
 ·exact⟨.norm 9 rfl rfl rfl (fun a_ w_ hn_ hBt hr hR hD hO hS=>aav ((hR 0 rfl).trans f0)),
   .norm 10 rfl rfl rfl (fun a_ w_ hn_ hBt hr hR hD hO hS=>axr (show a_.eval (.tmp 9)=.string s from hD 0 rfl) (hT.below (HB.trans (hBt.below HB.size (UpOld.all (bx:=[]) trivial))))),
   .norm 8 rfl rfl rfl (fun a_ w_ hn_ hBt hr hR hD hO hS=>afg (p:=Tup2 (Eqs (.bool (msplit s).1)) (Eqs (.string (msplit s).2))) (show Tup2 (Eqs (.bool (msplit s).1)) (Eqs (.string (msplit s).2)) (a_.eval (.tmp 10)) w_ from hD 1 rfl)),
   .norm 11 rfl rfl rfl (fun a_ w_ hn_ hBt hr hR hD hO hS=>ael (show Tup2 (Eqs (.bool (msplit s).1)) (Eqs (.string (msplit s).2)) (a_.eval (.tmp 8)) w_ from hD 2 rfl)),
   .norm 12 rfl rfl rfl (fun a_ w_ hn_ hBt hr hR hD hO hS=>aem (show Tup2 (Eqs (.bool (msplit s).1)) (Eqs (.string (msplit s).2)) (a_.eval (.tmp 8)) w_ from hD 2 rfl)),
   .norm 4 rfl rfl rfl (fun a_ w_ hn_ hBt hr hR hD hO hS=>aal (show a_.eval (.tmp 11)=.bool (msplit s).1 from hD 3 rfl)),
   .norm 5 rfl rfl rfl (fun a_ w_ hn_ hBt hr hR hD hO hS=>aal (show a_.eval (.tmp 12)=.string (msplit s).2 from hD 4 rfl)),
   trivial⟩
 intro a2 w2 gs2 hn2 hd2 hBt hr hR hP hX hU;replace hn:=hn2;replace hd:=hd2.trans hd;replace b2:=b2.keep hBt trivial;replace f2:=(hR 2 rfl).trans f2;replace f3:=(hR 3 rfl).trans f3;have e4:a2.eval (.tmp 4)=.bool (msplit s).1:=hP 5 (by decide);have f4:=e4;have e5:a2.eval (.tmp 5)=.string (msplit s).2:=hP 6 (by decide);have f5:=e5;replace HB:=HB.trans (hBt.below HB.size (UpOld.all (bx:=[]) trivial));clear hBt hr hR hP hX hU;refine wp_seq ?_;refine aag [some 14,some 15,some 13,some 16,some 17,some 6,some 7] [Eqs (.string (msplit s).2),Tup2 (OutL (xOf (msplit s).2) (6000)) (Eqs (.int .i64 (kOf (msplit s).2))),Tup2 (OutL (xOf (msplit s).2) (6000)) (Eqs (.int .i64 (kOf (msplit s).2))),OutL (xOf (msplit s).2) (6000),Eqs (.int .i64 (kOf (msplit s).2)),OutL (xOf (msplit s).2) (6000),Eqs (.int .i64 (kOf (msplit s).2))] [] [] (by kernel_rfl) hn rfl (by kernel_rfl) (by kernel_rfl) (by kernel_rfl) (by kernel_rfl) (by kernel_rfl) (by kernel_rfl) ⟨Eqs.mono4 _,Tup2.mono4 (OutL.mono4 _ _) (Eqs.mono4 _),Tup2.mono4 (OutL.mono4 _ _) (Eqs.mono4 _),OutL.mono4 _ _,Eqs.mono4 _,OutL.mono4 _ _,Eqs.mono4 _,trivial⟩ aak (IsOld.all (bx:=[]) trivial) (DisOld.all (bx:=[]) trivial) ?_ ?_
 ·exact⟨.norm 14 rfl rfl rfl (fun a_ w_ hn_ hBt hr hR hD hO hS=>aav ((hR 5 rfl).trans f5)),
   .norm 15 rfl rfl rfl (fun a_ w_ hn_ hBt hr hR hD hO hS=>auv (show a_.eval (.tmp 14)=.string (msplit s).2 from hD 0 rfl)),
   .norm 13 rfl rfl rfl (fun a_ w_ hn_ hBt hr hR hD hO hS=>afg (p:=Tup2 (OutL (xOf (msplit s).2) (6000)) (Eqs (.int .i64 (kOf (msplit s).2)))) (show Tup2 (OutL (xOf (msplit s).2) (6000)) (Eqs (.int .i64 (kOf (msplit s).2))) (a_.eval (.tmp 15)) w_ from hD 1 rfl)),
   .norm 16 rfl rfl rfl (fun a_ w_ hn_ hBt hr hR hD hO hS=>ael (show Tup2 (OutL (xOf (msplit s).2) (6000)) (Eqs (.int .i64 (kOf (msplit s).2))) (a_.eval (.tmp 13)) w_ from hD 2 rfl)),
   .norm 17 rfl rfl rfl (fun a_ w_ hn_ hBt hr hR hD hO hS=>aem (show Tup2 (OutL (xOf (msplit s).2) (6000)) (Eqs (.int .i64 (kOf (msplit s).2))) (a_.eval (.tmp 13)) w_ from hD 2 rfl)),
   .norm 6 rfl rfl rfl (fun a_ w_ hn_ hBt hr hR hD hO hS=>alw (p:=OutL (xOf (msplit s).2) (6000)) (show OutL (xOf (msplit s).2) (6000) (a_.eval (.tmp 16)) w_ from hD 3 rfl)),
   .norm 7 rfl rfl rfl (fun a_ w_ hn_ hBt hr hR hD hO hS=>aal (show a_.eval (.tmp 17)=.int .i64 (kOf (msplit s).2)from hD 4 rfl)),
   trivial⟩
 intro a3 w3 gs3 hn3 hd3 hBt hr hR hP hX hU;replace hn:=hn3;replace hd:=hd3.trans hd;replace b2:=b2.keep hBt trivial;replace f2:=(hR 2 rfl).trans f2;replace f3:=(hR 3 rfl).trans f3;replace f4:=(hR 4 rfl).trans f4;obtain⟨a_4,c_4,r_4,e6,K4,l4⟩:OutL (xOf (msplit s).2) (6000) (a3.eval (.tmp 6)) w3:=hP 5 (by decide);have S4:=K4.sl;have V4:=K4.val;have f6:=e6;have e7:a3.eval (.tmp 7)=.int .i64 (kOf (msplit s).2):=hP 6 (by decide);have f7:=e7;replace HB:=HB.trans (hBt.below HB.size (UpOld.all (bx:=[]) trivial));clear hBt hr hR hP hX hU;refine wp_seq ?_;refine wp_seq ?_;refine aag [some 18,some 19] [Eqs (.int .i64 (kOf (msplit s).2)),Eqs (.bool (!decide ((kOf (msplit s).2)=0)))] [] [] (by kernel_rfl) hn rfl (by kernel_rfl) (by kernel_rfl) (by kernel_rfl) (by kernel_rfl) (by kernel_rfl) (by kernel_rfl) ⟨Eqs.mono4 _,Eqs.mono4 _,trivial⟩ aak (IsOld.all (bx:=[]) trivial) (DisOld.all (bx:=[]) trivial) ?_ ?_
 ·exact⟨.norm 18 rfl rfl rfl (fun a_ w_ hn_ hBt hr hR hD hO hS=>aav ((hR 7 rfl).trans f7)),
   .norm 19 rfl rfl rfl (fun a_ w_ hn_ hBt hr hR hD hO hS=>axs (show a_.eval (.tmp 18)=.int .i64 (kOf (msplit s).2)from hD 0 rfl)),
   trivial⟩
 intro a5 w5 gs5 hn5 hd5 hBt hr hR hP hX hU;replace hn:=hn5;replace hd:=hd5.trans hd;replace b2:=b2.keep hBt trivial;replace f2:=(hR 2 rfl).trans f2;replace f3:=(hR 3 rfl).trans f3;replace f4:=(hR 4 rfl).trans f4;replace f6:=(hR 6 rfl).trans f6;replace f7:=(hR 7 rfl).trans f7;have e19:a5.eval (.tmp 19)=.bool (!decide ((kOf (msplit s).2)=0)):=hP 1 (by decide);have f19:=e19;replace K4:=K4.rl hr;replace S4:=S4.rl hr;replace HB:=HB.trans (hBt.below HB.size (UpOld.all (bx:=[]) trivial));clear hBt hr hR hP hX hU;refine wp_cond_split f19 (fun hc19=>?_) (fun hc19=>?_)
 ·skip;have hk0:kOf (msplit s).2≠0:=by simpa using hc19
  refine wp_seq ?_;refine aag [some 20,some 21,none,some 3] [Eqs (.agg #[.bool false,.slice none 0 0]),Eqs (.int .i64 (kOf (msplit s).2)),(fun _ _=>True),Eqs (.int .i64 (kOf (msplit s).2))] [⟨W2,none,(gs1 0),2,.agg #[.bool false,.slice none 0 0],some (2,20,0),[]⟩] [] (by kernel_rfl) hn rfl (by kernel_rfl) (by kernel_rfl) (by kernel_rfl) (by kernel_rfl) (by kernel_rfl) (by kernel_rfl) ⟨Eqs.mono4 _,Eqs.mono4 _,True.mono4,Eqs.mono4 _,trivial⟩ (aas W2ok aak) (IsOld.all (bx:=[⟨W2,none,(gs1 0),2,.agg #[.bool false,.slice none 0 0],some (2,20,0),[]⟩]) ⟨fun _=>⟨f2,b2⟩,trivial⟩) (DisOld.all (bx:=[⟨W2,none,(gs1 0),2,.agg #[.bool false,.slice none 0 0],some (2,20,0),[]⟩]) ⟨fun _=>trivial,trivial⟩) ?_ ?_
  ·exact⟨.norm 20 rfl rfl rfl (fun a_ w_ hn_ hBt hr hR hD hO hS=>a07),
    .norm 21 rfl rfl rfl (fun a_ w_ hn_ hBt hr hR hD hO hS=>aav ((hR 7 rfl).trans f7)),
    .store 0 _ _ _ rfl rfl rfl rfl rfl rfl rfl (fun ia h=>by cases h) rfl rfl rfl (agk ag8),
    .norm 3 rfl rfl rfl (fun a_ w_ hn_ hBt hr hR hD hO hS=>aal (show a_.eval (.tmp 21)=.int .i64 (kOf (msplit s).2)from hD 1 rfl)),
    trivial⟩
  intro a6 w6 gs6 hn6 hd6 hBt hr hR hP hX hU;replace hn:=hn6;replace hd:=hd6.trans hd;have e20:a6.eval (.tmp 20)=.agg #[.bool false,.slice none 0 0]:=hP 0 (by decide);have b2:BoxV W2 w6 ((gs1 0)) (.agg #[.bool false,.slice none 0 0]):=abo ((hX 0 _ rfl).2.1 rfl) (hX 0 _ rfl).2.2.2 e20;replace f2:a6.eval (.tmp 2)=_:=(hR 2 rfl).trans f2;replace f4:=(hR 4 rfl).trans f4;replace f6:=(hR 6 rfl).trans f6;have e3:a6.eval (.tmp 3)=.int .i64 (kOf (msplit s).2):=hP 3 (by decide);have f3:=e3;replace K4:=K4.rl hr;replace S4:=S4.rl hr;replace HB:=HB.trans (hBt.below HB.size (UpOld.all (bx:=[⟨W2,none,(gs1 0),2,.agg #[.bool false,.slice none 0 0],some (2,20,0),[]⟩]) ⟨fun _=>u2,trivial⟩));clear hBt hr hR hP hX hU;refine wp_ret ?_;repeat(first|refine abe ?_|refine aa3 ?_|refine aa8 ?_)
  exact bodyPost_ret (v:=.tuple #[.agg #[.bool false,.slice none 0 0],.int .i64 (kOf (msplit s).2)]) (aer rfl f2 (ag9 b2) f3) hd ⟨_,rfl,⟨_,_,rfl,by rw[zOf,axt hk0];exact auw _,rfl⟩,HB⟩
 ·skip;have hk0:kOf (msplit s).2=0:=by simpa using hc19
  refine wp_skip ?_;refine wp_seq ?_;refine aag [some 22,some 23,some 24,none,some 3] [Eqs (.bool (msplit s).1),Eqs (.slice a_4 r_4.length c_4),OutW (sg ((msplit s).1) (xOf (msplit s).2)) (6000),(fun _ _=>True),Eqs ((.int .i64 0))] [⟨W2,none,(gs1 0),2,.agg #[.bool false,.slice none 0 0],some (3,24,2),[]⟩] [] (by kernel_rfl) hn rfl (by kernel_rfl) (by kernel_rfl) (by kernel_rfl) (by kernel_rfl) (by kernel_rfl) (by kernel_rfl) ⟨Eqs.mono4 _,Eqs.mono4 _,OutW.mono4 _ _,True.mono4,Eqs.mono4 _,trivial⟩ (aas W2ok aak) (IsOld.all (bx:=[⟨W2,none,(gs1 0),2,.agg #[.bool false,.slice none 0 0],some (3,24,2),[]⟩]) ⟨fun _=>⟨f2,b2⟩,trivial⟩) (DisOld.all (bx:=[⟨W2,none,(gs1 0),2,.agg #[.bool false,.slice none 0 0],some (3,24,2),[]⟩]) ⟨fun _=>trivial,trivial⟩) ?_ ?_
  ·exact⟨.norm 22 rfl rfl rfl (fun a_ w_ hn_ hBt hr hR hD hO hS=>aav ((hR 4 rfl).trans f4)),
    .norm 23 rfl rfl rfl (fun a_ w_ hn_ hBt hr hR hD hO hS=>aav ((hR 6 rfl).trans f6)),
    .norm 24 rfl rfl rfl (fun a_ w_ hn_ hBt hr hR hD hO hS=>arr (show a_.eval (.tmp 22)=.bool (msplit s).1 from hD 0 rfl) (ayw (show a_.eval (.tmp 23)=.slice a_4 r_4.length c_4 from hD 1 rfl) (K4.rl hr) l4) (by omega)),
    .store 0 _ _ _ rfl rfl rfl rfl rfl rfl rfl (fun ia h=>by cases h) rfl rfl rfl OutW.cs,
    .norm 3 rfl rfl rfl (fun a_ w_ hn_ hBt hr hR hD hO hS=>aal rfl),
    trivial⟩
  intro a7 w7 gs7 hn7 hd7 hBt hr hR hP hX hU;replace hn:=hn7;replace hd:=hd7.trans hd;obtain⟨n_8,a_8,c_8,r_8,e24,G8,l8⟩:OutW (sg ((msplit s).1) (xOf (msplit s).2)) (6000) (a7.eval (.tmp 24)) w7:=hP 2 (by decide);have A8:=G8.ag;have b2:BoxV W2 w7 ((gs1 0)) (.agg #[.bool n_8,.slice a_8 r_8.length c_8]):=abo ((hX 0 _ rfl).2.1 rfl) (hX 0 _ rfl).2.2.2 e24;replace f2:a7.eval (.tmp 2)=_:=(hR 2 rfl).trans f2;have e3:a7.eval (.tmp 3)=(.int .i64 0):=hP 4 (by decide);have f3:=e3;replace K4:=K4.rl hr;replace S4:=S4.rl hr;replace HB:=HB.trans (hBt.below HB.size (UpOld.all (bx:=[⟨W2,none,(gs1 0),2,.agg #[.bool false,.slice none 0 0],some (3,24,2),[]⟩]) ⟨fun _=>u2,trivial⟩));clear hBt hr hR hP hX hU;refine wp_ret ?_;repeat(first|refine abe ?_|refine aa3 ?_|refine aa8 ?_)
  exact bodyPost_ret (v:=.tuple #[.agg #[.bool n_8,.slice a_8 r_8.length c_8],(.int .i64 0)]) (aer rfl f2 (ag9 b2) f3) hd ⟨_,rfl,⟨_,_,rfl,ayv rfl G8 l8,by rw[eOf,hk0];rfl⟩,HB⟩
end Lm
namespace Lm
open Go Go.RowKit
theorem ade(w:World)(hT:Tabs w)(q b:Nat)(tv uv:Value)(l:List Tk)(vs:List ByteArray)(i:Nat)(t:Tk)(h:Rea w q b tv uv l vs i)(ht:l[i]? = some t):
  Calls Tryz.prog 183 #[.pointer (some ⟨q,0,none⟩)] w fun e w'=>∃v,e=.returned v/\OutW (zOf t.text) 6000 v w'/\Below w.heap.size w w':=by
 have hb0:Below w.heap.size w (w.alloc (.cells #[.bool false,.slice none 0 0] 60)):=hAl _ _;have K:=hide (abf _ q b tv uv l vs i t (h.below hb0) ht);have HT:=hide hT;clear h ht hT;unfold Tk.av at K;have hf1:∀W,(Instr.field 109 (.agg #[.int .i64 t.kind,.string t.text,.int .i64 t.pl.b,.int .i64 t.pl.g,.int .i64 t.pl.l,.int .i64 t.pl.c]) 1).run Tryz.prog W=.ok (.string t.text) W:=fun W=>arh _ _ _ _ _ _ W
 go_enter Tryz.func183,Tryz.ntmps183
 go_wp2_with fail
 refine K.out.mono ?_;rintro r w1 ⟨rfl,hb⟩;have HB:=hide (hb0.trans (hb.mono hb0.size));have hf:w1.heap[w.heap.size]? = some (.cells #[.bool false,.slice none 0 0] 60 (0,0)):=(hb.block _ (by simp)).trans (heap_alloc_new w _);have HF:=hide hf;clear hb K hb0 hf;go_wp2_with fail
 refine(axu w1 t.text (HT.out.below HB.out)).mono ?_;rintro r w2 ⟨v,rfl,⟨x,y,rfl,ho,rfl⟩,hb2⟩;obtain⟨ng,ao,cap,rs,rfl,ho'⟩:=id ho;have HO:=hide ho;have HB2:=hide (HB.out.trans (hb2.mono HB.out.size));have hf:=(hb2.block _ (aaa HF.out)).trans HF.out;have HF2:=hide hf;generalize hfz:w.heap.size=f at *
 obtain⟨hfl,c0,c1,fr0,fr1⟩:f<w2.heap.size/\w2.cell? ⟨f,0,none⟩=some (.bool false)/\w2.cell? ⟨f,1,none⟩=some (.slice none 0 0)/\w2.frozen? ⟨f,0,none⟩=false/\w2.frozen? ⟨f,1,none⟩=false:=⟨aaa hf,by rw[cell_of_row _ _ _ _ _ (0,0) hf];rfl,by rw[cell_of_row _ _ _ _ _ (0,0) hf];rfl,frozen_of_row _ _ _ _ _ hf,frozen_of_row _ _ _ _ _ hf⟩;clear ho ho' hb2 HF hf;go_wp2;refine bodyPost_ret (v:=.agg #[.bool ng,.slice ao rs.length cap]) (abw (g:=f) rfl rfl (lvw2 (aa2 (acl HF2.out _ _)))) rfl ⟨_,rfl,HO.out.ru ((acx HF2.out _ _).trans (Ru.of_below (hAl _ _))),?_⟩;rw[hfz];have HBx:=HB2.out
 (repeat' first|with_reducible(first|exact Below.refl _ _|assumption|refine gdrewN ?_ _|refine Below.alloc ?_ ?_ _|refine Below.drew ?_|refine Below.setCell ?_ ?_ _)|go_size)
def sMinus:ByteArray:=⟨#[45]⟩
def sPlus:ByteArray:=⟨#[43]⟩
def sOver:ByteArray:=⟨#[47]⟩
def sTimes:ByteArray:=⟨#[42]⟩
def sEq:ByteArray:=⟨#[61]⟩
def tpm(t:Tk):Bool:=tsg t sMinus||tsg t sPlus
theorem afo(w:World)(q b:Nat)(tv uv:Value)(l:List Tk)(vs:List ByteArray)(i:Nat)(t:Tk)(h:Rea w q b tv uv l vs i)(ht:l[i]? = some t)(hj:t.kind=3->i+1<l.length)(hl:l.length<=100000):
  Calls Tryz.prog 135 #[.pointer (some ⟨q,0,none⟩)] w fun e w'=>e=.returned (.tuple #[.bool (tsg t sMinus),.bool (tpm t)])/\Rea w' q b tv uv l vs (if tpm t then i+1 else i)/\Rc q q w w':=by
 have K:=hide (abv w q b tv uv l vs i t h ht sMinus hj hl);have HT:=hide ht;have HJ:=hide (And.intro hj hl);clear h ht hj hl;cases hm:tsg t sMinus with
 |true=>
  have e1:tpm t=true:=by rw[tpm,hm];rfl
  rw[hm]at K;rw[e1];clear e1 hm;unfold sMinus at K;go_enter Tryz.func135,Tryz.ntmps135
  go_wp2_with fail
  refine K.out.mono ?_;rintro r w1 ⟨rfl,h1,h2⟩;have H1:=hide h1;have H2:=hide h2;clear h1 h2 K;go_wp2;refine bodyPost_ret (v:=_) (by simp[results,Tryz.results135,go_sem];try rfl) rfl ⟨rfl,H1.out,H2.out⟩
 |false=>
  have e1:tpm t=tsg t sPlus:=by rw[tpm,hm];rfl
  rw[hm]at K;rw[e1];clear e1 hm;unfold sMinus at K;obtain⟨bp,hbp⟩:∃bp,tsg t sPlus=bp:=⟨_,rfl⟩;obtain⟨j,hjj⟩:∃j,(if bp=true then i+1 else i)=j:=⟨_,rfl⟩;rw[hbp,hjj];have HBP:=hide hbp;have HJJ:=hide hjj;clear hbp hjj;go_enter Tryz.func135,Tryz.ntmps135
  go_wp2_with fail
  refine K.out.mono ?_;rintro r w1 ⟨rfl,h1,h2⟩;have K2:=hide (abv w1 q b tv uv l vs i t h1 HT.out sPlus HJ.out.1 HJ.out.2);have H2:=hide h2;clear h1 h2 K;rw[HBP.out,HJJ.out]at K2;unfold sPlus at K2;go_wp2_with fail
  refine K2.out.mono ?_;rintro r w2 ⟨rfl,h1,h2⟩;have H1:=hide h1;have H3:=hide (H2.out.trans h2);clear h1 h2 K2;go_wp2;refine bodyPost_ret (v:=_) (by simp[results,Tryz.results135,go_sem];try rfl) rfl ⟨rfl,H1.out,H3.out⟩
inductive CoefR (l:List Tk) (i:Nat):Bool->Nat->Rat->Prop
 |plain (t t1:Tk) (h:l[i]? = some t) (h1:l[i+1]? = some t1) (hs:tsg t1 sOver=false):CoefR l i true (i+1) (zOf t.text:Int)
 |over (t t1 t2:Tk) (h:l[i]? = some t) (h1:l[i+1]? = some t1) (hs:tsg t1 sOver=true) (h2:l[i+2]? = some t2) (hz:zOf t2.text≠0):CoefR l i true (i+3) (Rat.divInt (zOf t.text) (zOf t2.text))
 |bad (t t1 t2:Tk) (h:l[i]? = some t) (h1:l[i+1]? = some t1) (hs:tsg t1 sOver=true) (h2:l[i+2]? = some t2) (hz:zOf t2.text=0):CoefR l i false (i+2) 0
structure Wf (l:List Tk):Prop where
 len:l.length<=100000
 stop:∀(i:Nat) (t:Tk),l[i]? = some t->i+1=l.length->t.kind=0/\t.text=⟨#[]⟩
theorem Wf.more{l:List Tk}(h:Wf l){i:Nat}{t:Tk}(ht:l[i]? = some t)(hk:t.kind≠0):i+1<l.length:=by
 have:=(List.getElem?_eq_some_iff.1 ht).1;by_cases he:i+1=l.length
 ·exact absurd (h.stop i t ht he).1 hk
 ·omega
theorem ahh{w:World}{q b:Nat}{tv uv:Value}{l:List Tk}{vs:List ByteArray}{i:Nat}{u:Value}(h:Rea w q b tv uv l vs i):Ru w (w.setCell ⟨q,1,none⟩ u):=by
 refine Ru.of_one h.blk (by decide) ?_ (by simp[World.setCell]) (fun k _ hn=>heap_setCell_other w ⟨q,1,none⟩ k _ hn);obtain⟨ao,ct,rfl,_⟩:=h.tks.parts;obtain⟨ao',ct',rfl,_⟩:=h.vrs;intro k z
 match k with
 |0=>simp
 |1=>simp
 |2=>simp
 |k+3=>simp
theorem Rea.fill3{w w3:World}{q b:Nat}{tv uv:Value}{l:List Tk}{vs:List ByteArray}{i j f:Nat}{ng:Bool}{a d:Option Addr}{n c k e:Nat}(H:Rea w q b tv uv l vs i)(HR:Rea w3 q b tv uv l vs j)(HC:Rc q q w w3)(hf:w3.heap[f]? = some (.cells #[.bool ng,.slice a n c,.slice d k e] 62 (0,0)))(hfw:w.heap.size<=f)(u v x:Value):Rea (((w3.setCell ⟨f,0,none⟩ u).setCell ⟨f,1,none⟩ v).setCell ⟨f,2,none⟩ x) q b tv uv l vs j/\Rc q q w (((w3.setCell ⟨f,0,none⟩ u).setCell ⟨f,1,none⟩ v).setCell ⟨f,2,none⟩ x):=by
 have hq:=aaa H.blk;have ho:∀k,k≠f->(((w3.setCell ⟨f,0,none⟩ u).setCell ⟨f,1,none⟩ v).setCell ⟨f,2,none⟩ x).heap[k]? = w3.heap[k]? :=fun k hn=>by rw[heap_setCell_other _ ⟨f,2,none⟩ k _ hn,heap_setCell_other _ ⟨f,1,none⟩ k _ hn,heap_setCell_other _ ⟨f,0,none⟩ k _ hn]
 have hrc:Rc q q w (((w3.setCell ⟨f,0,none⟩ u).setCell ⟨f,1,none⟩ v).setCell ⟨f,2,none⟩ x):=⟨HC.os,HC.tape,HC.output,by simpa[World.setCell]using HC.size,fun k hk h1 h2=>(ho k (by omega)).trans (HC.other k hk h1 h2),HC.ru.trans (aee hf u v x)⟩;exact⟨H.rc hrc.wide ((ho q (by omega)).trans HR.blk) HR.lt,hrc⟩
theorem Tabs.rcs{w w':World}{q b:Nat}(hT:Tabs w)(hr:Rc q b w w')(hq:∀z,w.cell? ⟨q,0,none⟩≠some (.int .u8 z))(hb:∀z,w.cell? ⟨b,0,none⟩≠some (.int .u8 z)):Tabs w':=by
 obtain⟨h1,h2⟩:=hT;have keep:∀g c z,(∃z0,w.cell? ⟨g,0,none⟩=some (.int .u8 z0))->w.cell? ⟨g,c,none⟩=some (.int .u8 z)->w'.cell? ⟨g,c,none⟩=some (.int .u8 z):=by
  rintro g c z ⟨z0,e0⟩ e;have n1:g≠q:=by rintro rfl;exact hq _ e0
  have n2:g≠b:=by rintro rfl;exact hb _ e0
  rw[World.cell?_of_block (w:=w) (hr.other g (aau e) n1 n2)];exact e
 refine⟨fun c hc=>keep _ _ _ ⟨_,h1 0 (by decide)⟩ (h1 c hc),fun i hi=>⟨keep _ _ _ ⟨_,(h2 0 (by decide)).1⟩ (h2 i hi).1,keep _ _ _ ⟨_,(h2 0 (by decide)).1⟩ (h2 i hi).2⟩⟩
theorem Rea.no8{w:World}{q b:Nat}{tv uv:Value}{l:List Tk}{vs:List ByteArray}{i:Nat}(h:Rea w q b tv uv l vs i)(z:Int):w.cell? ⟨q,0,none⟩≠some (.int .u8 z):=by
 rw[cell_of_row _ _ _ _ _ (0,0) h.blk];obtain⟨ao,ct,rfl,_⟩:=h.tks.parts;simp
theorem Tabs.rc{w w':World}{q b:Nat}{tv uv:Value}{l:List Tk}{vs:List ByteArray}{i:Nat}(hT:Tabs w)(h:Rea w q b tv uv l vs i)(hr:Rc q q w w'):Tabs w':=hT.rcs hr h.no8 h.no8
theorem aoc(w:World)(hT:Tabs w)(q b:Nat)(tv uv:Value)(l:List Tk)(hW:Wf l)(vs:List ByteArray)(i:Nat)(h:Rea w q b tv uv l vs i)(t t1:Tk)(ht:l[i]? = some t)(ht1:l[i+1]? = some t1)(hs:tsg t1 sOver=false)(N:Nat)(hz:Fit (zOf t.text:Int) N):
  Calls Tryz.prog 169 #[.pointer (some ⟨q,0,none⟩)] w fun e w'=>∃v,e=.returned (.tuple #[v,.bool true])/\OutQr (zOf t.text:Int) N v w'/\Rea w' q b tv uv l vs (i+1)/\Rc q q w w':=by
 have hj:i+1<l.length:=(List.getElem?_eq_some_iff.1 ht1).1;have HJ:=hide hj;have hi:i<=100000:=by have:=hW.len;omega
 have hq:=aaa h.blk;have hb0:Below w.heap.size w (w.alloc (.cells #[.bool false,.slice none 0 0,.slice none 0 0] 62)):=hAl _ _;have K:=hide (ade _ (hT.below hb0) q b tv uv l vs i t (h.below hb0) ht);have H:=hide h;have HT1:=hide ht1;have HS:=hide hs;have HW:=hide hW;have HZ:=hide hz;clear h ht ht1 hs hT hW hj hz;go_enter Tryz.func169,Tryz.ntmps169
 go_wp2_with fail
 refine K.out.mono ?_;rintro r w1 ⟨v,rfl,ho,hb1⟩;obtain⟨ng,ao,cap,rs,rfl,_⟩:=id ho;have HO:=hide ho;have HB:=hide (hb0.trans (hb1.mono hb0.size));have hf:w1.heap[w.heap.size]? = some (.cells #[.bool false,.slice none 0 0,.slice none 0 0] 62 (0,0)):=(hb1.block _ (by simp)).trans (heap_alloc_new w _);have HF:=hide hf;have hqb:=(HB.out.block q hq).trans H.out.blk;have k1:w1.cell? ⟨q,1,none⟩=some (.int .i64 i):=by rw[cell_of_row _ _ _ _ _ (0,0) hqb];rfl
 have kf:w1.frozen? ⟨q,1,none⟩=false:=frozen_of_row w1 q 1 _ _ hqb;have hq1:q<w1.heap.size:=aaa hqb;clear ho hb1 K hb0 hf hqb;go_wp2_with fail
 obtain⟨n1,n2⟩:=H.out.next (.of_below HB.out) (HB.out.block q hq) HJ.out;have hmm:(w1.setCell ⟨q,1,none⟩ (.int .i64 ((i:Int)+1))).heap.size=w1.heap.size:=by simp[World.setCell]
 have hf2:((w1.setCell ⟨q,1,none⟩ (.int .i64 ((i:Int)+1))).alloc (.cells #[.bool ng,.slice ao rs.length cap] 60)).heap[w.heap.size]? = some (.cells #[.bool false,.slice none 0 0,.slice none 0 0] 62 (0,0)):=aa2 ((heap_setCell_other w1 ⟨q,1,none⟩ _ _ (by show w.heap.size≠q;omega)).trans HF.out);have hm2:((w1.setCell ⟨q,1,none⟩ (.int .i64 ((i:Int)+1))).alloc (.cells #[.bool ng,.slice ao rs.length cap] 60)).heap[w1.heap.size]? = some (.cells #[.bool ng,.slice ao rs.length cap] 60 (0,0)):=by rw[<-hmm];exact heap_alloc_new _ _
 have hu2:Ru w1 ((w1.setCell ⟨q,1,none⟩ (.int .i64 ((i:Int)+1))).alloc (.cells #[.bool ng,.slice ao rs.length cap] 60)):=(ahh (H.out.below HB.out)).trans (Ru.of_below (hAl _ _));have K:=abv _ q b tv uv l vs (i+1) t1 (n1.below (hAl _ (.cells #[.bool ng,.slice ao rs.length cap] 60))) HT1.out sOver (fun h3=>HW.out.more HT1.out (by rw[h3];decide)) HW.out.len;rw[HS.out]at K;refine K.mono ?_;rintro r w2 ⟨rfl,hR2,hC2⟩;have HR2:=hide hR2;have HC2:=hide ((n2.trans (.of_below (hAl _ _))).trans hC2);have HO2:=hide (HO.out.ru (hu2.trans hC2.ru));have hf3:=(hC2.other _ (aaa hf2) (by omega) (by omega)).trans hf2;have hm3:=(hC2.other _ (aaa hm2) (by omega) (by omega)).trans hm2;have HF3:=hide hf3;obtain⟨_,m0,m1,_,_⟩:=aam hm3;have HM3:=hide hm3;clear hR2 hC2 hf2 hm2 hu2 K n1 n2 hmm hm3 hf3 k1 kf;go_wp2_with fail
 refine(adx w2 _ _ _ HO2.out.is (by omega)).mono ?_;rintro r w3 ⟨v,rfl,ho3,hb3⟩;replace ho3:=ho3.fit HZ.out;obtain⟨ng1,ao1,cap1,rs1,bo1,dap1,ss1,rfl,_⟩:=id ho3;have HO3:=hide ho3;have hf4:=(hb3.block _ (aaa HF3.out)).trans HF3.out;have HF4:=hide hf4;obtain⟨hfl,c0,c1,c2,fr0,fr1,fr2⟩:=aah hf4;have HR4:=hide (HR2.out.below hb3);have HC4:=hide (HC2.out.trans (.of_below hb3));clear ho3 hb3 hf4;go_wp2;obtain⟨x1,x2⟩:=H.out.fill3 HR4.out HC4.out HF4.out (Nat.le_refl _) (.bool ng1) (.slice ao1 rs1.length cap1) (.slice bo1 ss1.length dap1);exact bodyPost_ret (v:=.tuple #[.agg #[.bool ng1,.slice ao1 rs1.length cap1,.slice bo1 ss1.length dap1],.bool true]) (aer (g:=w.heap.size) rfl rfl (lvr3 (afh HF4.out _ _ _)) rfl) rfl ⟨_,rfl,HO3.out.ru (aee HF4.out _ _ _),x1,x2⟩
theorem aht:Has Tryz.prog 183:=by unfold Has;kernel_rfl
theorem a0l(w:World)(x y:Value)(z u:Int)(L M:Nat)(hx:IsW z L x w)(hy:IsW u M y w)(hL:L+M<=100000)(hu:u≠0)(N:Nat)(hf:Fit (Rat.divInt z u) N):
  Calls Tryz.prog 184 #[x,y] w fun e w'=>Below w.heap.size w w'/\∃v,e=.returned (.tuple #[v,.int .i64 0])/\OutQr (Rat.divInt z u) N v w':=by
 refine(ax9 w x y z u L M hx hy hL).mono ?_;rintro e w' ⟨hb,⟨_,v,rfl,ho⟩|⟨h0,_⟩⟩
 ·exact⟨hb,v,rfl,ho.fit hf⟩
 ·exact absurd h0 hu
theorem a2d(w:World)(x y:Value)(z u:Int)(L M:Nat)(hx:IsW z L x w)(hy:IsW u M y w)(hL:L+M<=100000)(hu:u=0):
  Calls Tryz.prog 184 #[x,y] w fun e w'=>Below w.heap.size w w'/\e=.returned (.tuple #[.agg #[.bool false,.slice none 0 0,.slice none 0 0],.int .i64 20]):=by
 refine(ax9 w x y z u L M hx hy hL).mono ?_;rintro e w' ⟨hb,⟨h0,_⟩|⟨_,rfl⟩⟩
 ·exact absurd hu h0
 ·exact⟨hb,rfl⟩
theorem a0m:zOf ⟨#[]⟩=0:=by
 have h1:msplit ⟨#[]⟩=(false,⟨#[]⟩):=by kernel_rfl
 have h2:¬Dm.Fine ⟨#[]⟩:=by
  rintro ⟨h,_⟩;exact absurd h (by decide)
 rw[zOf,h1,xOf,if_neg h2];rfl
def OutQr0(v:Value):Prop:=v=.agg #[.bool false,.slice none 0 0,.slice none 0 0]
theorem ars(w:World)(hT:Tabs w)(q b:Nat)(tv uv:Value)(l:List Tk)(hW:Wf l)(vs:List ByteArray)(i:Nat)(h:Rea w q b tv uv l vs i)(t t1 t2:Tk)(ht:l[i]? = some t)(ht1:l[i+1]? = some t1)(hs:tsg t1 sOver=true)(ht2:l[i+2]? = some t2)(hnz:zOf t2.text≠0)(N:Nat)(hz:Fit (Rat.divInt (zOf t.text) (zOf t2.text)) N):
  Calls Tryz.prog 169 #[.pointer (some ⟨q,0,none⟩)] w fun e w'=>∃v,e=.returned (.tuple #[v,.bool true])/\OutQr (Rat.divInt (zOf t.text) (zOf t2.text)) N v w'/\Rea w' q b tv uv l vs (i+3)/\Rc q q w w':=by
 have HT2:=hide ht2;have HTT:=hide hT;have HNZ:=hide hnz;have hj:i+1<l.length:=(List.getElem?_eq_some_iff.1 ht1).1;have HJ:=hide hj;have hj3:i+2+1<l.length:=by
  have h1:=(List.getElem?_eq_some_iff.1 ht2).1;by_cases he:i+2+1=l.length
  ·have h2:=(hW.stop _ _ ht2 he).2;rw[h2]at hnz;exact absurd a0m hnz
  ·omega
 have HJ3:=hide hj3;clear hj3;have hi:i<=100000:=by have:=hW.len;omega
 have hq:=aaa h.blk;have hb0:Below w.heap.size w (w.alloc (.cells #[.bool false,.slice none 0 0,.slice none 0 0] 62)):=hAl _ _;have K:=hide (ade _ (hT.below hb0) q b tv uv l vs i t (h.below hb0) ht);have H:=hide h;have HT1:=hide ht1;have HS:=hide hs;have HW:=hide hW;have HZ:=hide hz;clear h ht ht1 ht2 hs hT hW hj hz hnz;go_enter Tryz.func169,Tryz.ntmps169
 go_wp2_with fail
 refine K.out.mono ?_;rintro r w1 ⟨v,rfl,ho,hb1⟩;obtain⟨ng,ao,cap,rs,rfl,_⟩:=id ho;have HO:=hide ho;have HB:=hide (hb0.trans (hb1.mono hb0.size));have hf:w1.heap[w.heap.size]? = some (.cells #[.bool false,.slice none 0 0,.slice none 0 0] 62 (0,0)):=(hb1.block _ (by simp)).trans (heap_alloc_new w _);have HF:=hide hf;have hqb:=(HB.out.block q hq).trans H.out.blk;have k1:w1.cell? ⟨q,1,none⟩=some (.int .i64 i):=by rw[cell_of_row _ _ _ _ _ (0,0) hqb];rfl
 have kf:w1.frozen? ⟨q,1,none⟩=false:=frozen_of_row w1 q 1 _ _ hqb;have hq1:q<w1.heap.size:=aaa hqb;clear ho hb1 K hb0 hf hqb;go_wp2_with fail
 obtain⟨n1,n2⟩:=H.out.next (.of_below HB.out) (HB.out.block q hq) HJ.out;have hmm:(w1.setCell ⟨q,1,none⟩ (.int .i64 ((i:Int)+1))).heap.size=w1.heap.size:=by simp[World.setCell]
 have hf2:((w1.setCell ⟨q,1,none⟩ (.int .i64 ((i:Int)+1))).alloc (.cells #[.bool ng,.slice ao rs.length cap] 60)).heap[w.heap.size]? = some (.cells #[.bool false,.slice none 0 0,.slice none 0 0] 62 (0,0)):=aa2 ((heap_setCell_other w1 ⟨q,1,none⟩ _ _ (by show w.heap.size≠q;omega)).trans HF.out);have hm2:((w1.setCell ⟨q,1,none⟩ (.int .i64 ((i:Int)+1))).alloc (.cells #[.bool ng,.slice ao rs.length cap] 60)).heap[w1.heap.size]? = some (.cells #[.bool ng,.slice ao rs.length cap] 60 (0,0)):=by rw[<-hmm];exact heap_alloc_new _ _
 have hu2:Ru w1 ((w1.setCell ⟨q,1,none⟩ (.int .i64 ((i:Int)+1))).alloc (.cells #[.bool ng,.slice ao rs.length cap] 60)):=(ahh (H.out.below HB.out)).trans (Ru.of_below (hAl _ _));have K:=abv _ q b tv uv l vs (i+1) t1 (n1.below (hAl _ (.cells #[.bool ng,.slice ao rs.length cap] 60))) HT1.out sOver (fun h3=>HW.out.more HT1.out (by rw[h3];decide)) HW.out.len;rw[HS.out]at K;refine K.mono ?_;rintro r w2 ⟨rfl,hR2,hC2⟩;have HR2:=hide hR2;have HC2:=hide ((n2.trans (.of_below (hAl _ _))).trans hC2);have HO2:=hide (HO.out.ru (hu2.trans hC2.ru));have hf3:=(hC2.other _ (aaa hf2) (by omega) (by omega)).trans hf2;have hm3:=(hC2.other _ (aaa hm2) (by omega) (by omega)).trans hm2;have HF3:=hide hf3;obtain⟨_,m0,m1,_,_⟩:=aam hm3;have HM3:=hide hm3;clear hR2 hC2 hf2 hm2 hu2 K n1 n2 hmm hm3 hf3 k1 kf;rw[if_pos rfl]at HR2;have HTw:=hide (HTT.out.rc H.out HC2.out);go_wp2_with fail
 go_cut [5,6] (fun pv ev wx=>∃p ng4 ao4 m4 c4 bo4 k4 d4,pv=.pointer (some ⟨p,0,none⟩)/\ev=.int .i64 0/\wx.heap[p]? = some (.cells #[.bool ng4,.slice ao4 m4 c4,.slice bo4 k4 d4] 62 (0,0))/\OutQr (Rat.divInt (zOf t.text) (zOf t2.text)) N (.agg #[.bool ng4,.slice ao4 m4 c4,.slice bo4 k4 d4]) wx/\Below w2.heap.size w2 wx/\w2.heap.size<=p)
 case first=>
  go_region_law (first|(refine aa9 rfl 183 #[.tmp 23] #[102] rfl aht #[.pointer (some ⟨q,0,none⟩)] (by simp[Act.eval,Act.put]) (ade _ (HTw.out.below (show Below w2.heap.size w2 _ by(repeat' first|with_reducible(first|exact Below.refl _ _|assumption|refine gdrewN ?_ _|refine Below.alloc ?_ ?_ _|refine Below.drew ?_|refine Below.setCell ?_ ?_ _)|go_size))) q b tv uv l vs (i+2) t2 (HR2.out.below (show Below w2.heap.size w2 _ by(repeat' first|with_reducible(first|exact Below.refl _ _|assumption|refine gdrewN ?_ _|refine Below.alloc ?_ ?_ _|refine Below.drew ?_|refine Below.setCell ?_ ?_ _)|go_size))) HT2.out) ?_;rintro e w3 ⟨v,rfl,ho3,hb3⟩;obtain⟨ng3,ao3,cap3,rs3,rfl,_⟩:=id ho3;have HO3:=hide ho3;have hb23:Below w2.heap.size w2 w3:=(show Below w2.heap.size w2 _ by(repeat' first|with_reducible(first|exact Below.refl _ _|assumption|refine gdrewN ?_ _|refine Below.alloc ?_ ?_ _|refine Below.drew ?_|refine Below.setCell ?_ ?_ _)|go_size)).trans (hb3.mono (by simp));have HB23:=hide hb23;have hm3:=(hb23.block _ (aaa HM3.out)).trans HM3.out;have hm3:=aam hm3;obtain⟨_,m03,m13,_,_⟩:=hm3;first|(have hz3:w3.heap[w2.heap.size]? = some (.cells #[.bool false,.slice none 0 0,.slice none 0 0] 62 (0,0)):=(hb3.block _ (by simp)).trans (heap_alloc_new w2 _);have hz3':=aah hz3;have HZ3:=hide hz3;clear hz3;obtain⟨_,z30,z31,z32,y30,y31,y32⟩:=hz3')|skip;clear ho3 hb3 hb23;refine⟨_,rfl,?_⟩)|(refine aa9 rfl 184 #[.tmp 22,.tmp 24] #[60,60] rfl aos #[.agg #[.bool ng,.slice ao rs.length cap],.agg #[.bool ng3,.slice ao3 rs3.length cap3]] (by simp[Act.eval]) (a0l _ _ _ _ _ 6000 6000 (HO2.out.ru (Ru.of_below (HB23.out.trans ((show Below w3.heap.size w3 _ by(repeat' first|with_reducible(first|exact Below.refl _ _|assumption|refine gdrewN ?_ _|refine Below.alloc ?_ ?_ _|refine Below.drew ?_|refine Below.setCell ?_ ?_ _)|go_size)).mono HB23.out.size)))).is (HO3.out.ru (Ru.of_below (show Below w3.heap.size w3 _ by(repeat' first|with_reducible(first|exact Below.refl _ _|assumption|refine gdrewN ?_ _|refine Below.alloc ?_ ?_ _|refine Below.drew ?_|refine Below.setCell ?_ ?_ _)|go_size)))).is (by omega) HNZ.out N HZ.out) ?_;rintro e w4 ⟨hb4,v,rfl,ho4⟩;obtain⟨ng4,ao4,cap4,rs4,bo4,dap4,ss4,rfl,_⟩:=id ho4;have HO4:=hide ho4;clear ho4;have hb24:Below w2.heap.size w2 w4:=(show Below w2.heap.size w2 _ from(HB23.out.trans ((show Below w3.heap.size w3 _ by(repeat' first|with_reducible(first|exact Below.refl _ _|assumption|refine gdrewN ?_ _|refine Below.alloc ?_ ?_ _|refine Below.drew ?_|refine Below.setCell ?_ ?_ _)|go_size)).mono HB23.out.size))).trans (hb4.mono (by first|exact HB23.out.size|exact Nat.le_trans HB23.out.size (Nat.le_of_lt (by simp))));have HB24:=hide hb24;have hq4:=hb24.block q (aaa HR2.out.blk);have hq4:=hq4.trans HR2.out.blk;have q41:w4.cell? ⟨q,1,none⟩=some (.int .i64 ((i+2:Nat):Int)):=(by rw[cell_of_row _ _ _ _ _ (0,0) hq4];rfl);have q4f:w4.frozen? ⟨q,1,none⟩=false:=frozen_of_row w4 q 1 _ _ hq4;have hf4:=(hb24.block _ (aaa HF3.out)).trans HF3.out;have HF4:=hide hf4;have hf4:=aah hf4;obtain⟨hfl,c0,c1,c2,fr0,fr1,fr2⟩:=hf4;first|(have hz4:=(hb4.block _ (aaa HZ3.out)).trans HZ3.out;have hz4':=aah hz4;have HZ4:=hide hz4;clear hz4;obtain⟨_,z40,z41,z42,y40,y41,y42⟩:=hz4')|(have hz4:w4.heap[w3.heap.size]? = some (.cells #[.bool false,.slice none 0 0,.slice none 0 0] 62 (0,0)):=(hb4.block _ (by simp)).trans (heap_alloc_new w3 _);have hz4':=aah hz4;have HZ4:=hide hz4;clear hz4;obtain⟨_,z40,z41,z42,y40,y41,y42⟩:=hz4')|skip;clear hb4 hb24 hq4;refine⟨_,rfl,?_⟩))
  all_goals (
   go_wp2_with fail
   go_meet;have hb24:=HB24.out;have hb23:=HB23.out;first
   |exact⟨_,_,_,_,_,_,_,_,rfl,rfl,afh HZ4.out _ _ _,HO4.out.ru (aee HZ4.out _ _ _),((hb24.setCell (by first|exact Nat.le_refl _|exact hb23.size) _).setCell (by first|exact Nat.le_refl _|exact hb23.size) _).setCell (by first|exact Nat.le_refl _|exact hb23.size) _,by first|exact Nat.le_refl _|exact hb23.size⟩
   |exact⟨_,_,_,_,_,_,_,_,rfl,rfl,heap_alloc_new w4 _,HO4.out.ru (Ru.of_below (hAl _ _)),hb24.alloc hb24.size _,hb24.size⟩)
 case rest=>
  obtain⟨p,ng4,ao4,m4,c4,bo4,k4,d4,rfl,rfl,hp,ho4,hb,hpl⟩:=hcut;have HO4:=hide ho4;have hq2:=aaa HR2.out.blk;have hq4:=(hb.block q hq2).trans HR2.out.blk;have q41:wc.cell? ⟨q,1,none⟩=some (.int .i64 ((i+2:Nat):Int)):=by rw[cell_of_row _ _ _ _ _ (0,0) hq4];rfl
  rw[show((i+2:Nat):Int)=(i:Int)+2 from by omega]at q41;have q4f:wc.frozen? ⟨q,1,none⟩=false:=frozen_of_row wc q 1 _ _ hq4;have hf4:=(hb.block _ (aaa HF3.out)).trans HF3.out;have HF4:=hide hf4;obtain⟨hfl,c0,c1,c2,fr0,fr1,fr2⟩:=aah hf4;obtain⟨hpl2,p0,p1,p2,_,_,_⟩:=aah hp;have HB4:=hide hb;have hpq:p≠q:=by omega
  have hfp:=aaa HF3.out;have hpf:p≠w.heap.size:=by omega
  clear ho4 hb hq4 hf4 hp m0 m1;go_wp2;obtain⟨n1,n2⟩:=HR2.out.next (.of_below HB4.out) (HB4.out.block q hq2) HJ3.out;rw[show((i+2:Nat):Int)=(i:Int)+2 from by omega]at n1 n2;have hfq:(wc.setCell ⟨q,1,none⟩ (.int .i64 ((i:Int)+2+1))).heap[w.heap.size]? = some (.cells #[.bool false,.slice none 0 0,.slice none 0 0] 62 (0,0)):=(heap_setCell_other wc ⟨q,1,none⟩ _ _ (by show w.heap.size≠q;omega)).trans HF4.out;obtain⟨x1,x2⟩:=H.out.fill3 n1 (HC2.out.trans n2) hfq (Nat.le_refl _) (.bool ng4) (.slice ao4 m4 c4) (.slice bo4 k4 d4);exact bodyPost_ret (v:=.tuple #[.agg #[.bool ng4,.slice ao4 m4 c4,.slice bo4 k4 d4],.bool true]) (aer (g:=w.heap.size) rfl rfl (lvr3 (afh hfq _ _ _)) rfl) rfl ⟨_,rfl,HO4.out.ru ((ahh (HR2.out.below HB4.out)).trans (aee hfq _ _ _)),x1,x2⟩
theorem aux(w:World)(hT:Tabs w)(q b:Nat)(tv uv:Value)(l:List Tk)(hW:Wf l)(vs:List ByteArray)(i:Nat)(h:Rea w q b tv uv l vs i)(t t1 t2:Tk)(ht:l[i]? = some t)(ht1:l[i+1]? = some t1)(hs:tsg t1 sOver=true)(ht2:l[i+2]? = some t2)(hnz:zOf t2.text=0):
  Calls Tryz.prog 169 #[.pointer (some ⟨q,0,none⟩)] w fun e w'=>∃v,e=.returned (.tuple #[v,.bool false])/\OutQr0 v/\Rea w' q b tv uv l vs (i+2)/\Rc q q w w':=by
 have HT2:=hide ht2;have HTT:=hide hT;have HNZ:=hide hnz;have hj:i+1<l.length:=(List.getElem?_eq_some_iff.1 ht1).1;have HJ:=hide hj;have hi:i<=100000:=by have:=hW.len;omega
 have hq:=aaa h.blk;have hb0:Below w.heap.size w (w.alloc (.cells #[.bool false,.slice none 0 0,.slice none 0 0] 62)):=hAl _ _;have K:=hide (ade _ (hT.below hb0) q b tv uv l vs i t (h.below hb0) ht);have H:=hide h;have HT1:=hide ht1;have HS:=hide hs;have HW:=hide hW;clear h ht ht1 ht2 hs hT hW hj hnz;go_enter Tryz.func169,Tryz.ntmps169
 go_wp2_with fail
 refine K.out.mono ?_;rintro r w1 ⟨v,rfl,ho,hb1⟩;obtain⟨ng,ao,cap,rs,rfl,_⟩:=id ho;have HO:=hide ho;have HB:=hide (hb0.trans (hb1.mono hb0.size));have hf:w1.heap[w.heap.size]? = some (.cells #[.bool false,.slice none 0 0,.slice none 0 0] 62 (0,0)):=(hb1.block _ (by simp)).trans (heap_alloc_new w _);have HF:=hide hf;have hqb:=(HB.out.block q hq).trans H.out.blk;have k1:w1.cell? ⟨q,1,none⟩=some (.int .i64 i):=by rw[cell_of_row _ _ _ _ _ (0,0) hqb];rfl
 have kf:w1.frozen? ⟨q,1,none⟩=false:=frozen_of_row w1 q 1 _ _ hqb;have hq1:q<w1.heap.size:=aaa hqb;clear ho hb1 K hb0 hf hqb;go_wp2_with fail
 obtain⟨n1,n2⟩:=H.out.next (.of_below HB.out) (HB.out.block q hq) HJ.out;have hmm:(w1.setCell ⟨q,1,none⟩ (.int .i64 ((i:Int)+1))).heap.size=w1.heap.size:=by simp[World.setCell]
 have hf2:((w1.setCell ⟨q,1,none⟩ (.int .i64 ((i:Int)+1))).alloc (.cells #[.bool ng,.slice ao rs.length cap] 60)).heap[w.heap.size]? = some (.cells #[.bool false,.slice none 0 0,.slice none 0 0] 62 (0,0)):=aa2 ((heap_setCell_other w1 ⟨q,1,none⟩ _ _ (by show w.heap.size≠q;omega)).trans HF.out);have hm2:((w1.setCell ⟨q,1,none⟩ (.int .i64 ((i:Int)+1))).alloc (.cells #[.bool ng,.slice ao rs.length cap] 60)).heap[w1.heap.size]? = some (.cells #[.bool ng,.slice ao rs.length cap] 60 (0,0)):=by rw[<-hmm];exact heap_alloc_new _ _
 have hu2:Ru w1 ((w1.setCell ⟨q,1,none⟩ (.int .i64 ((i:Int)+1))).alloc (.cells #[.bool ng,.slice ao rs.length cap] 60)):=(ahh (H.out.below HB.out)).trans (Ru.of_below (hAl _ _));have K:=abv _ q b tv uv l vs (i+1) t1 (n1.below (hAl _ (.cells #[.bool ng,.slice ao rs.length cap] 60))) HT1.out sOver (fun h3=>HW.out.more HT1.out (by rw[h3];decide)) HW.out.len;rw[HS.out]at K;refine K.mono ?_;rintro r w2 ⟨rfl,hR2,hC2⟩;have HR2:=hide hR2;have HC2:=hide ((n2.trans (.of_below (hAl _ _))).trans hC2);have HO2:=hide (HO.out.ru (hu2.trans hC2.ru));have hf3:=(hC2.other _ (aaa hf2) (by omega) (by omega)).trans hf2;have hm3:=(hC2.other _ (aaa hm2) (by omega) (by omega)).trans hm2;have HF3:=hide hf3;obtain⟨_,m0,m1,_,_⟩:=aam hm3;have HM3:=hide hm3;clear hR2 hC2 hf2 hm2 hu2 K n1 n2 hmm hm3 hf3 k1 kf;rw[if_pos rfl]at HR2;have HTw:=hide (HTT.out.rc H.out HC2.out);go_wp2_with fail
 go_cut [6] (fun ev wx=>ev=.int .i64 20/\Below w2.heap.size w2 wx)
 case first=>
  go_region_law (first|(refine aa9 rfl 183 #[.tmp 23] #[102] rfl aht #[.pointer (some ⟨q,0,none⟩)] (by simp[Act.eval,Act.put]) (ade _ (HTw.out.below (show Below w2.heap.size w2 _ by(repeat' first|with_reducible(first|exact Below.refl _ _|assumption|refine gdrewN ?_ _|refine Below.alloc ?_ ?_ _|refine Below.drew ?_|refine Below.setCell ?_ ?_ _)|go_size))) q b tv uv l vs (i+2) t2 (HR2.out.below (show Below w2.heap.size w2 _ by(repeat' first|with_reducible(first|exact Below.refl _ _|assumption|refine gdrewN ?_ _|refine Below.alloc ?_ ?_ _|refine Below.drew ?_|refine Below.setCell ?_ ?_ _)|go_size))) HT2.out) ?_;rintro e w3 ⟨v,rfl,ho3,hb3⟩;obtain⟨ng3,ao3,cap3,rs3,rfl,_⟩:=id ho3;have HO3:=hide ho3;have hb23:Below w2.heap.size w2 w3:=(show Below w2.heap.size w2 _ by(repeat' first|with_reducible(first|exact Below.refl _ _|assumption|refine gdrewN ?_ _|refine Below.alloc ?_ ?_ _|refine Below.drew ?_|refine Below.setCell ?_ ?_ _)|go_size)).trans (hb3.mono (by simp));have HB23:=hide hb23;have hm3:=(hb23.block _ (aaa HM3.out)).trans HM3.out;have hm3:=aam hm3;obtain⟨_,m03,m13,_,_⟩:=hm3;first|(have hz3:w3.heap[w2.heap.size]? = some (.cells #[.bool false,.slice none 0 0,.slice none 0 0] 62 (0,0)):=(hb3.block _ (by simp)).trans (heap_alloc_new w2 _);have hz3':=aah hz3;have HZ3:=hide hz3;clear hz3;obtain⟨_,z30,z31,z32,y30,y31,y32⟩:=hz3')|skip;clear ho3 hb3 hb23;refine⟨_,rfl,?_⟩)|(refine aa9 rfl 184 #[.tmp 22,.tmp 24] #[60,60] rfl aos #[.agg #[.bool ng,.slice ao rs.length cap],.agg #[.bool ng3,.slice ao3 rs3.length cap3]] (by simp[Act.eval]) (a2d _ _ _ _ _ 6000 6000 (HO2.out.ru (Ru.of_below (HB23.out.trans ((show Below w3.heap.size w3 _ by(repeat' first|with_reducible(first|exact Below.refl _ _|assumption|refine gdrewN ?_ _|refine Below.alloc ?_ ?_ _|refine Below.drew ?_|refine Below.setCell ?_ ?_ _)|go_size)).mono HB23.out.size)))).is (HO3.out.ru (Ru.of_below (show Below w3.heap.size w3 _ by(repeat' first|with_reducible(first|exact Below.refl _ _|assumption|refine gdrewN ?_ _|refine Below.alloc ?_ ?_ _|refine Below.drew ?_|refine Below.setCell ?_ ?_ _)|go_size)))).is (by omega) HNZ.out) ?_;rintro e w4 ⟨hb4,rfl⟩;have hb24:Below w2.heap.size w2 w4:=(show Below w2.heap.size w2 _ from(HB23.out.trans ((show Below w3.heap.size w3 _ by(repeat' first|with_reducible(first|exact Below.refl _ _|assumption|refine gdrewN ?_ _|refine Below.alloc ?_ ?_ _|refine Below.drew ?_|refine Below.setCell ?_ ?_ _)|go_size)).mono HB23.out.size))).trans (hb4.mono (by first|exact HB23.out.size|exact Nat.le_trans HB23.out.size (Nat.le_of_lt (by simp))));have HB24:=hide hb24;have hq4:=hb24.block q (aaa HR2.out.blk);have hq4:=hq4.trans HR2.out.blk;have q41:w4.cell? ⟨q,1,none⟩=some (.int .i64 ((i+2:Nat):Int)):=(by rw[cell_of_row _ _ _ _ _ (0,0) hq4];rfl);have q4f:w4.frozen? ⟨q,1,none⟩=false:=frozen_of_row w4 q 1 _ _ hq4;have hf4:=(hb24.block _ (aaa HF3.out)).trans HF3.out;have HF4:=hide hf4;have hf4:=aah hf4;obtain⟨hfl,c0,c1,c2,fr0,fr1,fr2⟩:=hf4;first|(have hz4:=(hb4.block _ (aaa HZ3.out)).trans HZ3.out;have hz4':=aah hz4;have HZ4:=hide hz4;clear hz4;obtain⟨_,z40,z41,z42,y40,y41,y42⟩:=hz4')|(have hz4:w4.heap[w3.heap.size]? = some (.cells #[.bool false,.slice none 0 0,.slice none 0 0] 62 (0,0)):=(hb4.block _ (by simp)).trans (heap_alloc_new w3 _);have hz4':=aah hz4;have HZ4:=hide hz4;clear hz4;obtain⟨_,z40,z41,z42,y40,y41,y42⟩:=hz4')|skip;clear hb4 hb24 hq4;refine⟨_,rfl,?_⟩))
  all_goals (
   go_wp2_with fail
   go_meet;have hb24:=HB24.out;have hb23:=HB23.out;first
   |exact⟨rfl,((hb24.setCell (by first|exact Nat.le_refl _|exact hb23.size) _).setCell (by first|exact Nat.le_refl _|exact hb23.size) _).setCell (by first|exact Nat.le_refl _|exact hb23.size) _⟩
   |exact⟨rfl,hb24.alloc hb24.size _⟩)
 case rest=>
  obtain⟨rfl,hb⟩:=hcut;have hf4:=(hb.block _ (aaa HF3.out)).trans HF3.out;have HF4:=hide hf4;obtain⟨hfl,c0,c1,c2,fr0,fr1,fr2⟩:=aah hf4;have HB4:=hide hb;clear hb hf4 m0 m1;go_wp2;obtain⟨x1,x2⟩:=H.out.fill3 (HR2.out.below HB4.out) (HC2.out.trans (.of_below HB4.out)) HF4.out (Nat.le_refl _) (.bool false) (.slice none 0 0) (.slice none 0 0);exact bodyPost_ret (v:=.tuple #[.agg #[.bool false,.slice none 0 0,.slice none 0 0],.bool false]) (aer (g:=w.heap.size) rfl rfl (lvr3 (afh HF4.out _ _ _)) rfl) rfl ⟨_,rfl,rfl,x1,x2⟩
theorem ajh:Has Tryz.prog 65:=by unfold Has;kernel_rfl
theorem aji:Has Tryz.prog 73:=by unfold Has;kernel_rfl
theorem a0n(w:World)(q b:Nat)(tv uv:Value)(l:List Tk)(vs:List ByteArray)(i:Nat)(h:Rea w q b tv uv l vs i)(t:Tk)(ht:l[i]? = some t)(x:Rat)(L:Nat)(xv av:Value)(hx:IsQ x L xv w)(hk:ixS t.text vs=none):
  Calls Tryz.prog 170 #[.pointer (some ⟨q,0,none⟩),xv,av] w fun e w'=>e=.returned (.bool false)/\Rea w' q b tv uv l vs i/\Rc q q w w':=by
 obtain⟨ng,ao,n,cap,xs,bo,m,dap,ys,p,d,rfl,_⟩:=hx.open;obtain⟨au,cu,rfl,_⟩:=h.vrs;have H:=hide h;have HT:=hide ht;have HK:=hide hk;have hq:=aaa h.blk;have k2:w.cell? ⟨q,2,none⟩=some (.slice au vs.length cu):=by rw[cell_of_row _ _ _ _ _ (0,0) h.blk];rfl
 have hf1:∀W,(Instr.field 109 (.agg #[.int .i64 t.kind,.string t.text,.int .i64 t.pl.b,.int .i64 t.pl.g,.int .i64 t.pl.l,.int .i64 t.pl.c]) 1).run Tryz.prog W=.ok (.string t.text) W:=fun W=>arh _ _ _ _ _ _ W
 clear h ht hx hk;generalize vs.length=nv at *
 go_enter Tryz.func170,Tryz.ntmps170
 go_wp2_with fail
 go_cut [7] (fun ev wx=>ev=.int .i64 (-1)/\Below w.heap.size w wx)
 case first=>
  go_region_law (first|(refine aa9 rfl 65 #[.tmp 12] #[102] rfl ajh #[.pointer (some ⟨q,0,none⟩)] (by simp[Act.eval,Act.put]) (abf _ q b tv (.slice au nv cu) l vs i t (H.out.below (show Below w.heap.size w _ by(repeat' first|with_reducible(first|exact Below.refl _ _|assumption|refine gdrewN ?_ _|refine Below.alloc ?_ ?_ _|refine Below.drew ?_|refine Below.setCell ?_ ?_ _)|go_size))) HT.out) ?_;rintro e w1 ⟨rfl,hb1⟩;have hbw:Below w.heap.size w w1:=(show Below w.heap.size w _ by(repeat' first|with_reducible(first|exact Below.refl _ _|assumption|refine gdrewN ?_ _|refine Below.alloc ?_ ?_ _|refine Below.drew ?_|refine Below.setCell ?_ ?_ _)|go_size)).trans (hb1.mono (by simp));have HB1:=hide hbw;have k21:=(hbw.cell (p:=⟨q,2,none⟩) hq).trans k2;unfold Tk.av;clear hb1 hbw;refine⟨_,rfl,?_⟩)|(refine aa9 rfl 73 #[.tmp 11,.tmp 14] #[22,9] rfl aji #[.slice au nv cu,.string t.text] (by simp[Act.eval,Act.put]) (aga _ _ _ _ vs t.text (H.out.below HB1.out).vrs) ?_;rintro e w2 ⟨rfl,rfl⟩;rw[HK.out];unfold ixV;refine⟨_,rfl,?_⟩))
  all_goals (
   go_wp2_with fail
   go_meet
   exact⟨rfl,HB1.out⟩)
 case rest=>
  obtain⟨rfl,hb⟩:=hcut;have HB:=hide hb;clear hb;go_wp2;refine bodyPost_ret (v:=_) (by simp[results,Tryz.results170,go_sem];try rfl) rfl ⟨rfl,H.out.below HB.out,.of_below HB.out⟩
theorem axv(w:World)(q b:Nat)(tv uv:Value)(l:List Tk)(vs:List ByteArray)(i:Nat)(h:Rea w q b tv uv l vs i)(t:Tk)(ht:l[i]? = some t)(x:Rat)(L:Nat)(xv av:Value)(hx:IsQ x L xv w)(g k:Nat)(rs:List Rat)(r:Rat)(sn:Bool)(hk:ixS t.text vs=some k)(hj:i+1<l.length)(hl:l.length<=100000)(hA:AddV q b g w av sn)(hR:RQ w g b rs L)(hr:rs[k]? = some r)(hL:L<=10000)(hfx:Fit x L)(hfr:Fit (r+sgq sn x) L)(hqb:q≠b)(hqg:g≠q):
  Calls Tryz.prog 170 #[.pointer (some ⟨q,0,none⟩),xv,av] w fun e w'=>e=.returned (.bool true)/\Rea w' q b tv uv l vs (i+1)/\Rc q b w w'/\RQ w' g b (rs.set k (r+sgq sn x)) L:=by
 have HX:=hide hx;obtain⟨f,cp,rfl,hf,hadd⟩:=aii hA rs L k r hr hL;have HADD:=hide hadd;have HR:=hide hR;have HF:=hide (And.intro hfx hfr);have HJ:=hide hj;have hi:i<=100000:=by omega
 have hent:∀args W,(callFunc f args).run Tryz.prog W=.ok (.enter f args) W:=hf.enter;clear hadd hA hR hr hfx hfr hj hl;obtain⟨ng,ao,n,cap,xs,bo,m,dap,ys,p,d,rfl,_⟩:=hx.open;obtain⟨au,cu,rfl,_⟩:=h.vrs;have H:=hide h;have HT:=hide ht;have HK:=hide hk;have hq:=aaa h.blk;have k2:w.cell? ⟨q,2,none⟩=some (.slice au vs.length cu):=by rw[cell_of_row _ _ _ _ _ (0,0) h.blk];rfl
 have hf1:∀W,(Instr.field 109 (.agg #[.int .i64 t.kind,.string t.text,.int .i64 t.pl.b,.int .i64 t.pl.g,.int .i64 t.pl.l,.int .i64 t.pl.c]) 1).run Tryz.prog W=.ok (.string t.text) W:=fun W=>arh _ _ _ _ _ _ W
 clear h ht hx hk;generalize vs.length=nv at *
 go_enter Tryz.func170,Tryz.ntmps170
 go_wp2_with fail
 go_cut [7] (fun ev wx=>ev=.int .i64 (k:Int)/\Below w.heap.size w wx/\wx.heap[w.heap.size]? = some (.cells #[.bool ng,.slice ao n cap,.slice bo m dap] 62 (0,0)))
 case first=>
  go_region_law (first|(refine aa9 rfl 65 #[.tmp 12] #[102] rfl ajh #[.pointer (some ⟨q,0,none⟩)] (by simp[Act.eval,Act.put]) (abf _ q b tv (.slice au nv cu) l vs i t (H.out.below (show Below w.heap.size w _ by(repeat' first|with_reducible(first|exact Below.refl _ _|assumption|refine gdrewN ?_ _|refine Below.alloc ?_ ?_ _|refine Below.drew ?_|refine Below.setCell ?_ ?_ _)|go_size))) HT.out) ?_;rintro e w1 ⟨rfl,hb1⟩;have hbw:Below w.heap.size w w1:=(show Below w.heap.size w _ by(repeat' first|with_reducible(first|exact Below.refl _ _|assumption|refine gdrewN ?_ _|refine Below.alloc ?_ ?_ _|refine Below.drew ?_|refine Below.setCell ?_ ?_ _)|go_size)).trans (hb1.mono (by simp));have HB1:=hide hbw;have k21:=(hbw.cell (p:=⟨q,2,none⟩) hq).trans k2;have hbx:w1.heap[w.heap.size]? = some (.cells #[.bool ng,.slice ao n cap,.slice bo m dap] 62 (0,0)):=(hb1.block _ (by simp)).trans (heap_alloc_new w _);have HBX:=hide hbx;clear hbx;unfold Tk.av;clear hb1 hbw;refine⟨_,rfl,?_⟩)|(refine aa9 rfl 73 #[.tmp 11,.tmp 14] #[22,9] rfl aji #[.slice au nv cu,.string t.text] (by simp[Act.eval,Act.put]) (aga _ _ _ _ vs t.text (H.out.below HB1.out).vrs) ?_;rintro e w2 ⟨rfl,rfl⟩;rw[HK.out];unfold ixV;refine⟨_,rfl,?_⟩))
  all_goals (
   go_wp2_with fail
   go_meet
   exact⟨rfl,HB1.out,HBX.out⟩)
 case rest=>
  obtain⟨rfl,hb,hbx⟩:=hcut;obtain⟨_,x0,x1,x2,_,_,_⟩:=aah hbx;have HB:=hide hb;have hkk:decide ((k:Int)<0)=false:=by simp
  clear hb hbx;go_wp2_with fail
  refine(HADD.out wc x _ HB.out (HR.out.below HB.out) (HX.out.ru (Ru.of_below HB.out)) HF.out.1 HF.out.2).mono ?_;rintro e w2 ⟨rfl,hrc,hrq⟩;have hqw:=(hrc.other q (Nat.lt_of_lt_of_le hq HB.out.size) hqb hqb).trans (HB.out.block q hq);have hrc':Rc q b w w2:=(Rc.of_below HB.out).trans hrc.wideR;have h2:Rea w2 q b tv (.slice au nv cu) l vs i:=H.out.rc hrc' (hqw.trans H.out.blk) H.out.lt;have HRC:=hide hrc';have HRQ:=hide hrq;have k1:w2.cell? ⟨q,1,none⟩=some (.int .i64 i):=by rw[cell_of_row _ _ _ _ _ (0,0) h2.blk];rfl
  have kf:w2.frozen? ⟨q,1,none⟩=false:=frozen_of_row w2 q 1 _ _ h2.blk;have hq2:=aaa h2.blk;have H2:=hide h2;clear hqw hrc hrc' hrq h2 x0 x1 x2;go_wp2;obtain⟨n1,n2⟩:=H2.out.next (Rc.refl _ _ _) rfl HJ.out;have hbq:b≠q:=fun e=>hqb e.symm
  refine bodyPost_ret (v:=_) (by simp[results,Tryz.results170,go_sem];try rfl) rfl ⟨rfl,n1,HRC.out.trans n2.wide,HRQ.out.rc n2 hqg hbq⟩
theorem auy:Has Tryz.prog 138:=by unfold Has;kernel_rfl
theorem aeo{L:Nat}(h:1<=L):Fit (1:Rat) L:=by
 have h1:pw 1<=pw L:=aay h;have h2:(1:Int)<pw 1:=by decide
 exact⟨by show(1:Int)<_;omega,by show(1:Int)<_;omega⟩
theorem aod(w:World)(hT:Tabs w)(q b g:Nat)(tv uv:Value)(l:List Tk)(hW:Wf l)(vs:List ByteArray)(i:Nat)(h:Rea w q b tv uv l vs i)(t:Tk)(ht:l[i]? = some t)(L:Nat)(_hL:L<=10000)(hL1:1<=L)(av:Value)(sn:Bool)(hA:AddV q b g w av sn)(rs:List Rat)(hR:RQ w g b rs L)(_hqb:q≠b)(_hqg:g≠q)(h1:t.kind≠1)(h2:t.kind≠2):
  Calls Tryz.prog 136 #[.pointer (some ⟨q,0,none⟩),av] w fun e w'=>e=.returned (.bool false)/\Rea w' q b tv uv l vs i/\Rc q b w w'/\RQ w' g b rs L:=by
 have e1:(t.kind==1)=false:=beq_eq_false_iff_ne.2 h1;have e2:(t.kind==2)=false:=beq_eq_false_iff_ne.2 h2;clear h1 h2;have H:=hide h;have HT:=hide ht;have HTT:=hide hT;have HA:=hide hA;have HR:=hide hR;have HW:=hide hW;have hq:=aaa h.blk;have hgl:=aaa hR.slot;have hf0:∀W,(Instr.field 109 (.agg #[.int .i64 t.kind,.string t.text,.int .i64 t.pl.b,.int .i64 t.pl.g,.int .i64 t.pl.l,.int .i64 t.pl.c]) 0).run Tryz.prog W=.ok (.int .i64 t.kind) W:=fun W=>ad0 _ _ _ _ _ _ W
 clear h ht hA hR hT hW;go_enter Tryz.func136,Tryz.ntmps136
 go_wp2_with fail
 refine(aed w 1 (by decide) (by decide)).mono ?_;rintro r w1 ⟨ng0,ao0,cap0,rs0,rfl,hw1,hl1,hb1⟩;have ho1:OutW 1 2 (.agg #[.bool ng0,.slice ao0 rs0.length cap0]) w1:=⟨_,_,_,_,rfl,hw1,hl1⟩;clear hw1 hl1;go_wp2_with fail
 refine(adx w1 _ _ _ ho1.is (by omega)).mono ?_;rintro r w2 ⟨v,rfl,ho2,hb2⟩;replace ho2:OutQr (1:Rat) L v w2:=OutQr.fit ho2 (aeo hL1);obtain⟨ng1,ao1,cap1,rs1,bo1,dap1,ss1,rfl,_⟩:=id ho2;have hbw2:=hb1.trans (hb2.mono hb1.size);have hbw:Below w.heap.size w (w2.alloc (.cells #[.bool ng1,.slice ao1 rs1.length cap1,.slice bo1 ss1.length dap1] 62)):=hbw2.alloc hbw2.size _;clear ho1 hb1 hb2;go_wp2_with fail
 refine(abf _ q b tv uv l vs i t (H.out.below hbw) HT.out).mono ?_;rintro r w3 ⟨rfl,hb3⟩;have hbx:w3.heap[w2.heap.size]? = some (.cells #[.bool ng1,.slice ao1 rs1.length cap1,.slice bo1 ss1.length dap1] 62 (0,0)):=(hb3.block _ (by simp)).trans (heap_alloc_new w2 _);have HBX:=hide hbx;have HO:=hide (ho2.ru (Ru.of_below ((hAl w2 _).trans (hb3.mono (hAl w2 _).size))));have HB3:=hide (hbw.trans (hb3.mono hbw.size));have hf5:w.heap.size<=w2.heap.size:=hbw2.size;generalize w2.heap.size=f5 at *
 unfold Tk.av;clear hbw hbw2 hb3 hbx ho2;go_wp2;refine bodyPost_ret (v:=_) (by simp[results,Tryz.results136,go_sem];try rfl) rfl ⟨rfl,H.out.below HB3.out,.of_below HB3.out,HR.out.below HB3.out⟩
theorem art(w:World)(hT:Tabs w)(q b g:Nat)(tv uv:Value)(l:List Tk)(hW:Wf l)(vs:List ByteArray)(i:Nat)(h:Rea w q b tv uv l vs i)(t:Tk)(ht:l[i]? = some t)(L:Nat)(_hL:L<=10000)(hL1:1<=L)(av:Value)(sn:Bool)(hA:AddV q b g w av sn)(rs:List Rat)(hR:RQ w g b rs L)(_hqb:q≠b)(_hqg:g≠q)(h1:t.kind=1)(ok:Bool)(j:Nat)(rs':List Rat)(hv:∀W xv,Rc q q w W->Rea W q b tv uv l vs i->IsQ (1:Rat) L xv W->Calls Tryz.prog 170 #[.pointer (some ⟨q,0,none⟩),xv,av] W fun e w'=>e=.returned (.bool ok)/\Rea w' q b tv uv l vs j/\Rc q b W w'/\RQ w' g b rs' L):
  Calls Tryz.prog 136 #[.pointer (some ⟨q,0,none⟩),av] w fun e w'=>e=.returned (.bool ok)/\Rea w' q b tv uv l vs j/\Rc q b w w'/\RQ w' g b rs' L:=by
 have HV:=hide hv;clear hv;have H1:=hide h1;clear h1;have H:=hide h;have HT:=hide ht;have HTT:=hide hT;have HA:=hide hA;have HR:=hide hR;have HW:=hide hW;have hq:=aaa h.blk;have hgl:=aaa hR.slot;have hf0:∀W,(Instr.field 109 (.agg #[.int .i64 t.kind,.string t.text,.int .i64 t.pl.b,.int .i64 t.pl.g,.int .i64 t.pl.l,.int .i64 t.pl.c]) 0).run Tryz.prog W=.ok (.int .i64 t.kind) W:=fun W=>ad0 _ _ _ _ _ _ W
 clear h ht hA hR hT hW;go_enter Tryz.func136,Tryz.ntmps136
 go_wp2_with fail
 refine(aed w 1 (by decide) (by decide)).mono ?_;rintro r w1 ⟨ng0,ao0,cap0,rs0,rfl,hw1,hl1,hb1⟩;have ho1:OutW 1 2 (.agg #[.bool ng0,.slice ao0 rs0.length cap0]) w1:=⟨_,_,_,_,rfl,hw1,hl1⟩;clear hw1 hl1;go_wp2_with fail
 refine(adx w1 _ _ _ ho1.is (by omega)).mono ?_;rintro r w2 ⟨v,rfl,ho2,hb2⟩;replace ho2:OutQr (1:Rat) L v w2:=OutQr.fit ho2 (aeo hL1);obtain⟨ng1,ao1,cap1,rs1,bo1,dap1,ss1,rfl,_⟩:=id ho2;have hbw2:=hb1.trans (hb2.mono hb1.size);have hbw:Below w.heap.size w (w2.alloc (.cells #[.bool ng1,.slice ao1 rs1.length cap1,.slice bo1 ss1.length dap1] 62)):=hbw2.alloc hbw2.size _;clear ho1 hb1 hb2;go_wp2_with fail
 refine(abf _ q b tv uv l vs i t (H.out.below hbw) HT.out).mono ?_;rintro r w3 ⟨rfl,hb3⟩;have hbx:w3.heap[w2.heap.size]? = some (.cells #[.bool ng1,.slice ao1 rs1.length cap1,.slice bo1 ss1.length dap1] 62 (0,0)):=(hb3.block _ (by simp)).trans (heap_alloc_new w2 _);have HBX:=hide hbx;have HO:=hide (ho2.ru (Ru.of_below ((hAl w2 _).trans (hb3.mono (hAl w2 _).size))));have HB3:=hide (hbw.trans (hb3.mono hbw.size));have hf5:w.heap.size<=w2.heap.size:=hbw2.size;generalize w2.heap.size=f5 at *
 unfold Tk.av;clear hbw hbw2 hb3 hbx ho2;rw[H1.out]at *
 obtain⟨_,x0,x1,x2,_,_,_⟩:=aah HBX.out;go_wp2_with fail
 refine(HV.out w3 _ (.of_below HB3.out) (H.out.below HB3.out) HO.out.is).mono ?_;rintro e w4 ⟨rfl,r1,r2,r3⟩;have R1:=hide r1;have R2:=hide ((Rc.of_below HB3.out).trans r2);have R3':=hide r3;clear r1 r2 r3 x0 x1 x2;go_wp2;refine bodyPost_ret (v:=_) (by simp[results,Tryz.results136,go_sem];try rfl) rfl ⟨rfl,R1.out,R2.out,R3'.out⟩
theorem auz(w:World)(hT:Tabs w)(q b g:Nat)(tv uv:Value)(l:List Tk)(hW:Wf l)(vs:List ByteArray)(i:Nat)(h:Rea w q b tv uv l vs i)(t:Tk)(ht:l[i]? = some t)(L:Nat)(_hL:L<=10000)(hL1:1<=L)(av:Value)(sn:Bool)(hA:AddV q b g w av sn)(rs:List Rat)(hR:RQ w g b rs L)(_hqb:q≠b)(_hqg:g≠q)(h1:t.kind=2)(j:Nat)(hc:∀W,Below w.heap.size w W->Calls Tryz.prog 169 #[.pointer (some ⟨q,0,none⟩)] W fun e w'=>∃v,e=.returned (.tuple #[v,.bool false])/\OutQr0 v/\Rea w' q b tv uv l vs j/\Rc q q W w'):
  Calls Tryz.prog 136 #[.pointer (some ⟨q,0,none⟩),av] w fun e w'=>e=.returned (.bool false)/\Rea w' q b tv uv l vs j/\Rc q b w w'/\RQ w' g b rs L:=by
 have HC:=hide hc;clear hc;have H1:=hide h1;clear h1;have H:=hide h;have HT:=hide ht;have HTT:=hide hT;have HA:=hide hA;have HR:=hide hR;have HW:=hide hW;have hq:=aaa h.blk;have hgl:=aaa hR.slot;have hf0:∀W,(Instr.field 109 (.agg #[.int .i64 t.kind,.string t.text,.int .i64 t.pl.b,.int .i64 t.pl.g,.int .i64 t.pl.l,.int .i64 t.pl.c]) 0).run Tryz.prog W=.ok (.int .i64 t.kind) W:=fun W=>ad0 _ _ _ _ _ _ W
 clear h ht hA hR hT hW;go_enter Tryz.func136,Tryz.ntmps136
 go_wp2_with fail
 refine(aed w 1 (by decide) (by decide)).mono ?_;rintro r w1 ⟨ng0,ao0,cap0,rs0,rfl,hw1,hl1,hb1⟩;have ho1:OutW 1 2 (.agg #[.bool ng0,.slice ao0 rs0.length cap0]) w1:=⟨_,_,_,_,rfl,hw1,hl1⟩;clear hw1 hl1;go_wp2_with fail
 refine(adx w1 _ _ _ ho1.is (by omega)).mono ?_;rintro r w2 ⟨v,rfl,ho2,hb2⟩;replace ho2:OutQr (1:Rat) L v w2:=OutQr.fit ho2 (aeo hL1);obtain⟨ng1,ao1,cap1,rs1,bo1,dap1,ss1,rfl,_⟩:=id ho2;have hbw2:=hb1.trans (hb2.mono hb1.size);have hbw:Below w.heap.size w (w2.alloc (.cells #[.bool ng1,.slice ao1 rs1.length cap1,.slice bo1 ss1.length dap1] 62)):=hbw2.alloc hbw2.size _;clear ho1 hb1 hb2;go_wp2_with fail
 refine(abf _ q b tv uv l vs i t (H.out.below hbw) HT.out).mono ?_;rintro r w3 ⟨rfl,hb3⟩;have hbx:w3.heap[w2.heap.size]? = some (.cells #[.bool ng1,.slice ao1 rs1.length cap1,.slice bo1 ss1.length dap1] 62 (0,0)):=(hb3.block _ (by simp)).trans (heap_alloc_new w2 _);have HBX:=hide hbx;have HO:=hide (ho2.ru (Ru.of_below ((hAl w2 _).trans (hb3.mono (hAl w2 _).size))));have HB3:=hide (hbw.trans (hb3.mono hbw.size));have hf5:w.heap.size<=w2.heap.size:=hbw2.size;generalize w2.heap.size=f5 at *
 unfold Tk.av;clear hbw hbw2 hb3 hbx ho2;rw[H1.out]at *
 go_wp2_with fail
 refine(HC.out w3 HB3.out).mono ?_;rintro e w4 ⟨v,rfl,rfl,r1,r2⟩;have R1:=hide r1;have R2:=hide ((Rc.of_below HB3.out).trans r2);clear r1 r2;go_wp2;refine bodyPost_ret (v:=_) (by simp[results,Tryz.results136,go_sem];try rfl) rfl ⟨rfl,R1.out.below (hAl _ _),R2.out.wide.trans (.of_below (hAl _ _)),(HR.out.rc R2.out _hqg (fun e=>_hqb e.symm)).below (hAl _ _)⟩
theorem aoe(w:World)(hT:Tabs w)(q b g:Nat)(tv uv:Value)(l:List Tk)(hW:Wf l)(vs:List ByteArray)(i:Nat)(h:Rea w q b tv uv l vs i)(t:Tk)(ht:l[i]? = some t)(L:Nat)(_hL:L<=10000)(hL1:1<=L)(av:Value)(sn:Bool)(hA:AddV q b g w av sn)(rs:List Rat)(hR:RQ w g b rs L)(_hqb:q≠b)(_hqg:g≠q)(h1:t.kind=2)(j:Nat)(x r0:Rat)(hc:∀W,Below w.heap.size w W->Calls Tryz.prog 169 #[.pointer (some ⟨q,0,none⟩)] W fun e w'=>∃v,e=.returned (.tuple #[v,.bool true])/\OutQr x L v w'/\Rea w' q b tv uv l vs j/\Rc q q W w')(t1:Tk)(ht1:l[j]? = some t1)(hs:tsg t1 sTimes=false)(hk1:t1.kind≠1)(hr0:rs[vs.length]? = some r0)(hfx:Fit x L)(hfr:Fit (r0+sgq sn (-x)) L):
  Calls Tryz.prog 136 #[.pointer (some ⟨q,0,none⟩),av] w fun e w'=>e=.returned (.bool true)/\Rea w' q b tv uv l vs j/\Rc q b w w'/\RQ w' g b (rs.set vs.length (r0+sgq sn (-x))) L:=by
 have HC:=hide hc;have H1:=hide h1;have HT1:=hide ht1;have HS:=hide hs;have hjl:j<l.length:=(List.getElem?_eq_some_iff.1 ht1).1;clear hc h1 ht1 hs;obtain⟨f,cp,rfl,hf,hadd⟩:=aii hA rs L vs.length r0 hr0 _hL;have HR0:=hide hr0;have hent:∀args W,(callFunc f args).run Tryz.prog W=.ok (.enter f args) W:=hf.enter;have HK1:Hid ((t1.kind != 1)=true):=bne_iff_ne.2 hk1;have HF:=hide (And.intro hfx hfr);obtain⟨au,cu,huv,_⟩:=id h.vrs;have HUV:=hide huv;clear huv;clear hadd hr0 hfx hfr hk1;have H:=hide h;have HT:=hide ht;have HTT:=hide hT;have HA:=hide hA;have HR:=hide hR;have HW:=hide hW;have hq:=aaa h.blk;have hgl:=aaa hR.slot;have hf0:∀W,(Instr.field 109 (.agg #[.int .i64 t.kind,.string t.text,.int .i64 t.pl.b,.int .i64 t.pl.g,.int .i64 t.pl.l,.int .i64 t.pl.c]) 0).run Tryz.prog W=.ok (.int .i64 t.kind) W:=fun W=>ad0 _ _ _ _ _ _ W
 clear h ht hA hR hT hW;go_enter Tryz.func136,Tryz.ntmps136
 go_wp2_with fail
 refine(aed w 1 (by decide) (by decide)).mono ?_;rintro r w1 ⟨ng0,ao0,cap0,rs0,rfl,hw1,hl1,hb1⟩;have ho1:OutW 1 2 (.agg #[.bool ng0,.slice ao0 rs0.length cap0]) w1:=⟨_,_,_,_,rfl,hw1,hl1⟩;clear hw1 hl1;go_wp2_with fail
 refine(adx w1 _ _ _ ho1.is (by omega)).mono ?_;rintro r w2 ⟨v,rfl,ho2,hb2⟩;replace ho2:OutQr (1:Rat) L v w2:=OutQr.fit ho2 (aeo hL1);obtain⟨ng1,ao1,cap1,rs1,bo1,dap1,ss1,rfl,_⟩:=id ho2;have hbw2:=hb1.trans (hb2.mono hb1.size);have hbw:Below w.heap.size w (w2.alloc (.cells #[.bool ng1,.slice ao1 rs1.length cap1,.slice bo1 ss1.length dap1] 62)):=hbw2.alloc hbw2.size _;clear ho1 hb1 hb2;go_wp2_with fail
 refine(abf _ q b tv uv l vs i t (H.out.below hbw) HT.out).mono ?_;rintro r w3 ⟨rfl,hb3⟩;have hbx:w3.heap[w2.heap.size]? = some (.cells #[.bool ng1,.slice ao1 rs1.length cap1,.slice bo1 ss1.length dap1] 62 (0,0)):=(hb3.block _ (by simp)).trans (heap_alloc_new w2 _);have HBX:=hide hbx;have HO:=hide (ho2.ru (Ru.of_below ((hAl w2 _).trans (hb3.mono (hAl w2 _).size))));have HB3:=hide (hbw.trans (hb3.mono hbw.size));have hf5:w.heap.size<=w2.heap.size:=hbw2.size;generalize w2.heap.size=f5 at *
 unfold Tk.av;clear hbw hbw2 hb3 hbx ho2;rw[H1.out]at *
 go_wp2_with fail
 refine(HC.out w3 HB3.out).mono ?_;rintro e w4 ⟨v,rfl,hox,r1,r2⟩;obtain⟨ng6,ao6,cap6,rs6,bo6,dap6,ss6,rfl,_⟩:=id hox;have hbx4:=(r2.other _ (aaa HBX.out) (by omega) (by omega)).trans HBX.out;have hr4:Rc q q w w4:=(Rc.of_below HB3.out).trans r2;have hal:=hAl w4 (.cells #[.bool ng6,.slice ao6 rs6.length cap6,.slice bo6 ss6.length dap6] 62);have h6:=heap_alloc_new w4 (.cells #[.bool ng6,.slice ao6 rs6.length cap6,.slice bo6 ss6.length dap6] 62);have hf6:w.heap.size<=w4.heap.size:=hr4.size;have hf56:f5<w4.heap.size:=aaa hbx4;go_wp2_with fail
 refine(abv _ q b tv uv l vs j t1 (r1.below hal) HT1.out sTimes (fun h3=>HW.out.more HT1.out (by rw[h3];decide)) HW.out.len).mono ?_;rw[HS.out];rintro e w5 ⟨rfl,r3,r4⟩;have hr5:Rc q q w w5:=(hr4.trans (.of_below hal)).trans r4;have h65:=(r4.other _ (aaa h6) (by omega) (by omega)).trans h6;have h55:=(r4.other _ (aaa (aa2 (o':=.cells #[.bool ng6,.slice ao6 rs6.length cap6,.slice bo6 ss6.length dap6] 62) hbx4)) (by omega) (by omega)).trans (aa2 hbx4);have H65:=hide h65;have H55:=hide h55;have HOX:=hide (hox.ru ((Ru.of_below hal).trans r4.ru));have HR5:=hide hr5;have R3_:=hide r3;generalize w4.heap.size=f6 at *
 clear hox r1 r2 hbx4 hr4 hal h6 r3 r4 hr5 h65 h55;have hf01:∀W,(Instr.field 109 (.agg #[.int .i64 t1.kind,.string t1.text,.int .i64 t1.pl.b,.int .i64 t1.pl.g,.int .i64 t1.pl.l,.int .i64 t1.pl.c]) 0).run Tryz.prog W=.ok (.int .i64 t1.kind) W:=fun W=>ad0 _ _ _ _ _ _ W
 have hk1:=HK1.out;go_wp2_with fail
 refine(abf w5 q b tv uv l vs j t1 R3_.out HT1.out).mono ?_;rintro r w6 ⟨rfl,hb6⟩;unfold Tk.av;have R6:=hide (R3_.out.below hb6);have HR6:=hide (HR5.out.trans (.of_below hb6));have h66:=(hb6.block _ (aaa H65.out)).trans H65.out;have HOX6:=hide (HOX.out.ru (Ru.of_below hb6));obtain⟨hl6,x0,x1,x2,_,_,_⟩:=aah h66;obtain⟨f',cp',e',hf',hadd⟩:=aii (HA.out.rc HR6.out.wide) rs L vs.length r0 HR0.out _hL;obtain⟨rfl,rfl⟩:f=f'/\cp=cp':=by simpa using e'
 have HADD:=hide hadd;have HRQ6:=hide (HR.out.rc HR6.out _hqg (fun e=>_hqb e.symm));have hq6:=aaa R6.out.blk;have k2:w6.cell? ⟨q,2,none⟩=some (.slice au vs.length cu):=by rw[cell_of_row _ _ _ _ _ (0,0) R6.out.blk,HUV.out];rfl
 generalize hnv:vs.length=nv at *
 have HNV:=hide hnv;clear hb6 h66 hadd e' hf' hnv;go_wp2_with fail
 go_region_law (first|(refine aa9 rfl 138 #[.tmp 39] #[62] rfl auy #[.agg #[.bool ng6,.slice ao6 rs6.length cap6,.slice bo6 ss6.length dap6]] (by simp[Act.eval,Act.put]) (atu _ _ x L L (HOX6.out.ru (Ru.of_below (show Below w6.heap.size w6 _ by(repeat' first|with_reducible(first|exact Below.refl _ _|assumption|refine gdrewN ?_ _|refine Below.alloc ?_ ?_ _|refine Below.drew ?_|refine Below.setCell ?_ ?_ _)|go_size)))).is (by omega) HF.out.1) ?_;rintro e w7 ⟨v,rfl,ho7,hb7⟩;obtain⟨ng7,ao7,cap7,rs7,bo7,dap7,ss7,rfl,_⟩:=id ho7;have HO7:=hide ho7;have hb67:Below w6.heap.size w6 w7:=(show Below w6.heap.size w6 _ by(repeat' first|with_reducible(first|exact Below.refl _ _|assumption|refine gdrewN ?_ _|refine Below.alloc ?_ ?_ _|refine Below.drew ?_|refine Below.setCell ?_ ?_ _)|go_size)).trans (hb7.mono (by simp));have HB67:=hide hb67;have k27:=(hb67.cell (p:=⟨q,2,none⟩) hq6).trans k2;clear ho7 hb7 hb67;refine⟨_,rfl,?_⟩)|(refine ai6 rfl f (.tmp 33) #[.tmp 38,.tmp 40] #[3,62] rfl hf #[cp] (by simp[Act.eval,Act.put]) #[.int .i64 (nv:Int),.agg #[.bool ng7,.slice ao7 rs7.length cap7,.slice bo7 ss7.length dap7]] (by simp[Act.eval,Act.put]) (HADD.out w7 (-x) _ HB67.out (HRQ6.out.below HB67.out) HO7.out.is (apf HF.out.1) HF.out.2) ?_;rintro e w8 ⟨rfl,hr8,hq8⟩;have HR8:=hide hr8;have HQ8:=hide hq8;clear hr8 hq8;refine⟨_,rfl,?_⟩))
 all_goals
  go_wp2;refine bodyPost_ret (v:=_) (by simp[results,Tryz.results136,go_sem];try rfl) rfl ⟨rfl,(R6.out.below HB67.out).rcR HR8.out _hqb,(HR6.out.wide.trans (.of_below HB67.out)).trans HR8.out.wideR,by rw[HNV.out];exact HQ8.out⟩
theorem aru(w:World)(hT:Tabs w)(q b g:Nat)(tv uv:Value)(l:List Tk)(hW:Wf l)(vs:List ByteArray)(i:Nat)(h:Rea w q b tv uv l vs i)(t:Tk)(ht:l[i]? = some t)(L:Nat)(_hL:L<=10000)(hL1:1<=L)(av:Value)(sn:Bool)(hA:AddV q b g w av sn)(rs:List Rat)(hR:RQ w g b rs L)(_hqb:q≠b)(_hqg:g≠q)(h1:t.kind=2)(j:Nat)(x:Rat)(hc:∀W,Below w.heap.size w W->Calls Tryz.prog 169 #[.pointer (some ⟨q,0,none⟩)] W fun e w'=>∃v,e=.returned (.tuple #[v,.bool true])/\OutQr x L v w'/\Rea w' q b tv uv l vs j/\Rc q q W w')(t1:Tk)(ht1:l[j]? = some t1)(hs:tsg t1 sTimes=true)(ok:Bool)(k:Nat)(rs':List Rat)(hv:∀W xv,Rc q q w W->Rea W q b tv uv l vs (j+1)->IsQ x L xv W->Calls Tryz.prog 170 #[.pointer (some ⟨q,0,none⟩),xv,av] W fun e w'=>e=.returned (.bool ok)/\Rea w' q b tv uv l vs k/\Rc q b W w'/\RQ w' g b rs' L):
  Calls Tryz.prog 136 #[.pointer (some ⟨q,0,none⟩),av] w fun e w'=>e=.returned (.bool ok)/\Rea w' q b tv uv l vs k/\Rc q b w w'/\RQ w' g b rs' L:=by
 have HC:=hide hc;have H1:=hide h1;have HT1:=hide ht1;have HS:=hide hs;have hjl:j<l.length:=(List.getElem?_eq_some_iff.1 ht1).1;clear hc h1 ht1 hs;have HV:=hide hv;clear hv;have H:=hide h;have HT:=hide ht;have HTT:=hide hT;have HA:=hide hA;have HR:=hide hR;have HW:=hide hW;have hq:=aaa h.blk;have hgl:=aaa hR.slot;have hf0:∀W,(Instr.field 109 (.agg #[.int .i64 t.kind,.string t.text,.int .i64 t.pl.b,.int .i64 t.pl.g,.int .i64 t.pl.l,.int .i64 t.pl.c]) 0).run Tryz.prog W=.ok (.int .i64 t.kind) W:=fun W=>ad0 _ _ _ _ _ _ W
 clear h ht hA hR hT hW;go_enter Tryz.func136,Tryz.ntmps136
 go_wp2_with fail
 refine(aed w 1 (by decide) (by decide)).mono ?_;rintro r w1 ⟨ng0,ao0,cap0,rs0,rfl,hw1,hl1,hb1⟩;have ho1:OutW 1 2 (.agg #[.bool ng0,.slice ao0 rs0.length cap0]) w1:=⟨_,_,_,_,rfl,hw1,hl1⟩;clear hw1 hl1;go_wp2_with fail
 refine(adx w1 _ _ _ ho1.is (by omega)).mono ?_;rintro r w2 ⟨v,rfl,ho2,hb2⟩;replace ho2:OutQr (1:Rat) L v w2:=OutQr.fit ho2 (aeo hL1);obtain⟨ng1,ao1,cap1,rs1,bo1,dap1,ss1,rfl,_⟩:=id ho2;have hbw2:=hb1.trans (hb2.mono hb1.size);have hbw:Below w.heap.size w (w2.alloc (.cells #[.bool ng1,.slice ao1 rs1.length cap1,.slice bo1 ss1.length dap1] 62)):=hbw2.alloc hbw2.size _;clear ho1 hb1 hb2;go_wp2_with fail
 refine(abf _ q b tv uv l vs i t (H.out.below hbw) HT.out).mono ?_;rintro r w3 ⟨rfl,hb3⟩;have hbx:w3.heap[w2.heap.size]? = some (.cells #[.bool ng1,.slice ao1 rs1.length cap1,.slice bo1 ss1.length dap1] 62 (0,0)):=(hb3.block _ (by simp)).trans (heap_alloc_new w2 _);have HBX:=hide hbx;have HO:=hide (ho2.ru (Ru.of_below ((hAl w2 _).trans (hb3.mono (hAl w2 _).size))));have HB3:=hide (hbw.trans (hb3.mono hbw.size));have hf5:w.heap.size<=w2.heap.size:=hbw2.size;generalize w2.heap.size=f5 at *
 unfold Tk.av;clear hbw hbw2 hb3 hbx ho2;rw[H1.out]at *
 go_wp2_with fail
 refine(HC.out w3 HB3.out).mono ?_;rintro e w4 ⟨v,rfl,hox,r1,r2⟩;obtain⟨ng6,ao6,cap6,rs6,bo6,dap6,ss6,rfl,_⟩:=id hox;have hbx4:=(r2.other _ (aaa HBX.out) (by omega) (by omega)).trans HBX.out;have hr4:Rc q q w w4:=(Rc.of_below HB3.out).trans r2;have hal:=hAl w4 (.cells #[.bool ng6,.slice ao6 rs6.length cap6,.slice bo6 ss6.length dap6] 62);have h6:=heap_alloc_new w4 (.cells #[.bool ng6,.slice ao6 rs6.length cap6,.slice bo6 ss6.length dap6] 62);have hf6:w.heap.size<=w4.heap.size:=hr4.size;have hf56:f5<w4.heap.size:=aaa hbx4;go_wp2_with fail
 refine(abv _ q b tv uv l vs j t1 (r1.below hal) HT1.out sTimes (fun h3=>HW.out.more HT1.out (by rw[h3];decide)) HW.out.len).mono ?_;rw[HS.out];rintro e w5 ⟨rfl,r3,r4⟩;have hr5:Rc q q w w5:=(hr4.trans (.of_below hal)).trans r4;have h65:=(r4.other _ (aaa h6) (by omega) (by omega)).trans h6;have h55:=(r4.other _ (aaa (aa2 (o':=.cells #[.bool ng6,.slice ao6 rs6.length cap6,.slice bo6 ss6.length dap6] 62) hbx4)) (by omega) (by omega)).trans (aa2 hbx4);have H65:=hide h65;have H55:=hide h55;have HOX:=hide (hox.ru ((Ru.of_below hal).trans r4.ru));have HR5:=hide hr5;have R3_:=hide r3;generalize w4.heap.size=f6 at *
 clear hox r1 r2 hbx4 hr4 hal h6 r3 r4 hr5 h65 h55;rw[if_pos rfl]at R3_;obtain⟨hl5,y0,y1,y2,yf0,yf1,yf2⟩:=aah H55.out;obtain⟨hl6,x0,x1,x2,_,_,_⟩:=aah H65.out;go_wp2_with fail
 obtain⟨v1,v2⟩:=H.out.fill3 R3_.out HR5.out H55.out hf5 (.bool ng6) (.slice ao6 rs6.length cap6) (.slice bo6 ss6.length dap6);refine(HV.out _ _ v2 v1 (HOX.out.ru (aee H55.out _ _ _)).is).mono ?_;rintro e w7 ⟨rfl,r1,r2,r3⟩;have R1:=hide r1;have R2:=hide (v2.wide.trans r2);have R4:=hide r3;clear r1 r2 r3 v1 v2 x0 x1 x2 y0 y1 y2;go_wp2;refine bodyPost_ret (v:=_) (by simp[results,Tryz.results136,go_sem];try rfl) rfl ⟨rfl,R1.out,R2.out,R4.out⟩
theorem arv(w:World)(hT:Tabs w)(q b g:Nat)(tv uv:Value)(l:List Tk)(hW:Wf l)(vs:List ByteArray)(i:Nat)(h:Rea w q b tv uv l vs i)(t:Tk)(ht:l[i]? = some t)(L:Nat)(_hL:L<=10000)(hL1:1<=L)(av:Value)(sn:Bool)(hA:AddV q b g w av sn)(rs:List Rat)(hR:RQ w g b rs L)(_hqb:q≠b)(_hqg:g≠q)(h1:t.kind=2)(j:Nat)(x:Rat)(hc:∀W,Below w.heap.size w W->Calls Tryz.prog 169 #[.pointer (some ⟨q,0,none⟩)] W fun e w'=>∃v,e=.returned (.tuple #[v,.bool true])/\OutQr x L v w'/\Rea w' q b tv uv l vs j/\Rc q q W w')(t1:Tk)(ht1:l[j]? = some t1)(hs:tsg t1 sTimes=false)(hk1:t1.kind=1)(ok:Bool)(k:Nat)(rs':List Rat)(hv:∀W xv,Rc q q w W->Rea W q b tv uv l vs j->IsQ x L xv W->Calls Tryz.prog 170 #[.pointer (some ⟨q,0,none⟩),xv,av] W fun e w'=>e=.returned (.bool ok)/\Rea w' q b tv uv l vs k/\Rc q b W w'/\RQ w' g b rs' L):
  Calls Tryz.prog 136 #[.pointer (some ⟨q,0,none⟩),av] w fun e w'=>e=.returned (.bool ok)/\Rea w' q b tv uv l vs k/\Rc q b w w'/\RQ w' g b rs' L:=by
 have HC:=hide hc;have H1:=hide h1;have HT1:=hide ht1;have HS:=hide hs;have hjl:j<l.length:=(List.getElem?_eq_some_iff.1 ht1).1;clear hc h1 ht1 hs;have HV:=hide hv;have HK1:=hide hk1;clear hv hk1;have H:=hide h;have HT:=hide ht;have HTT:=hide hT;have HA:=hide hA;have HR:=hide hR;have HW:=hide hW;have hq:=aaa h.blk;have hgl:=aaa hR.slot;have hf0:∀W,(Instr.field 109 (.agg #[.int .i64 t.kind,.string t.text,.int .i64 t.pl.b,.int .i64 t.pl.g,.int .i64 t.pl.l,.int .i64 t.pl.c]) 0).run Tryz.prog W=.ok (.int .i64 t.kind) W:=fun W=>ad0 _ _ _ _ _ _ W
 clear h ht hA hR hT hW;go_enter Tryz.func136,Tryz.ntmps136
 go_wp2_with fail
 refine(aed w 1 (by decide) (by decide)).mono ?_;rintro r w1 ⟨ng0,ao0,cap0,rs0,rfl,hw1,hl1,hb1⟩;have ho1:OutW 1 2 (.agg #[.bool ng0,.slice ao0 rs0.length cap0]) w1:=⟨_,_,_,_,rfl,hw1,hl1⟩;clear hw1 hl1;go_wp2_with fail
 refine(adx w1 _ _ _ ho1.is (by omega)).mono ?_;rintro r w2 ⟨v,rfl,ho2,hb2⟩;replace ho2:OutQr (1:Rat) L v w2:=OutQr.fit ho2 (aeo hL1);obtain⟨ng1,ao1,cap1,rs1,bo1,dap1,ss1,rfl,_⟩:=id ho2;have hbw2:=hb1.trans (hb2.mono hb1.size);have hbw:Below w.heap.size w (w2.alloc (.cells #[.bool ng1,.slice ao1 rs1.length cap1,.slice bo1 ss1.length dap1] 62)):=hbw2.alloc hbw2.size _;clear ho1 hb1 hb2;go_wp2_with fail
 refine(abf _ q b tv uv l vs i t (H.out.below hbw) HT.out).mono ?_;rintro r w3 ⟨rfl,hb3⟩;have hbx:w3.heap[w2.heap.size]? = some (.cells #[.bool ng1,.slice ao1 rs1.length cap1,.slice bo1 ss1.length dap1] 62 (0,0)):=(hb3.block _ (by simp)).trans (heap_alloc_new w2 _);have HBX:=hide hbx;have HO:=hide (ho2.ru (Ru.of_below ((hAl w2 _).trans (hb3.mono (hAl w2 _).size))));have HB3:=hide (hbw.trans (hb3.mono hbw.size));have hf5:w.heap.size<=w2.heap.size:=hbw2.size;generalize w2.heap.size=f5 at *
 unfold Tk.av;clear hbw hbw2 hb3 hbx ho2;rw[H1.out]at *
 go_wp2_with fail
 refine(HC.out w3 HB3.out).mono ?_;rintro e w4 ⟨v,rfl,hox,r1,r2⟩;obtain⟨ng6,ao6,cap6,rs6,bo6,dap6,ss6,rfl,_⟩:=id hox;have hbx4:=(r2.other _ (aaa HBX.out) (by omega) (by omega)).trans HBX.out;have hr4:Rc q q w w4:=(Rc.of_below HB3.out).trans r2;have hal:=hAl w4 (.cells #[.bool ng6,.slice ao6 rs6.length cap6,.slice bo6 ss6.length dap6] 62);have h6:=heap_alloc_new w4 (.cells #[.bool ng6,.slice ao6 rs6.length cap6,.slice bo6 ss6.length dap6] 62);have hf6:w.heap.size<=w4.heap.size:=hr4.size;have hf56:f5<w4.heap.size:=aaa hbx4;go_wp2_with fail
 refine(abv _ q b tv uv l vs j t1 (r1.below hal) HT1.out sTimes (fun h3=>HW.out.more HT1.out (by rw[h3];decide)) HW.out.len).mono ?_;rw[HS.out];rintro e w5 ⟨rfl,r3,r4⟩;have hr5:Rc q q w w5:=(hr4.trans (.of_below hal)).trans r4;have h65:=(r4.other _ (aaa h6) (by omega) (by omega)).trans h6;have h55:=(r4.other _ (aaa (aa2 (o':=.cells #[.bool ng6,.slice ao6 rs6.length cap6,.slice bo6 ss6.length dap6] 62) hbx4)) (by omega) (by omega)).trans (aa2 hbx4);have H65:=hide h65;have H55:=hide h55;have HOX:=hide (hox.ru ((Ru.of_below hal).trans r4.ru));have HR5:=hide hr5;have R3_:=hide r3;generalize w4.heap.size=f6 at *
 clear hox r1 r2 hbx4 hr4 hal h6 r3 r4 hr5 h65 h55;rw[if_neg (by decide)]at R3_;have hf01:∀W,(Instr.field 109 (.agg #[.int .i64 t1.kind,.string t1.text,.int .i64 t1.pl.b,.int .i64 t1.pl.g,.int .i64 t1.pl.l,.int .i64 t1.pl.c]) 0).run Tryz.prog W=.ok (.int .i64 1) W:=fun W=>(ad0 _ _ _ _ _ _ W).trans (by rw[HK1.out])
 go_wp2_with fail
 refine(abf w5 q b tv uv l vs j t1 R3_.out HT1.out).mono ?_;rintro r w6 ⟨rfl,hb6⟩;unfold Tk.av;replace R3_:=hide (R3_.out.below hb6);replace HR5:=hide (HR5.out.trans (.of_below hb6));replace H65:=hide ((hb6.block _ (aaa H65.out)).trans H65.out);replace H55:=hide ((hb6.block _ (aaa H55.out)).trans H55.out);replace HOX:=hide (HOX.out.ru (Ru.of_below hb6));clear hb6;obtain⟨hl5,y0,y1,y2,yf0,yf1,yf2⟩:=aah H55.out;obtain⟨hl6,x0,x1,x2,_,_,_⟩:=aah H65.out;go_wp2_with fail
 obtain⟨v1,v2⟩:=H.out.fill3 R3_.out HR5.out H55.out hf5 (.bool ng6) (.slice ao6 rs6.length cap6) (.slice bo6 ss6.length dap6);refine(HV.out _ _ v2 v1 (HOX.out.ru (aee H55.out _ _ _)).is).mono ?_;rintro e w7 ⟨rfl,r1,r2,r3⟩;have R1:=hide r1;have R2:=hide (v2.wide.trans r2);have R4:=hide r3;clear r1 r2 r3 v1 v2 x0 x1 x2 y0 y1 y2;go_wp2;refine bodyPost_ret (v:=_) (by simp[results,Tryz.results136,go_sem];try rfl) rfl ⟨rfl,R1.out,R2.out,R4.out⟩
inductive VarR (l:List Tk) (vs:List ByteArray) (L:Nat) (sn:Bool) (x:Rat) (rs:List Rat) (i:Nat):Bool->Nat->List Rat->Prop
 |no (t:Tk) (ht:l[i]? = some t) (hk:ixS t.text vs=none):VarR l vs L sn x rs i false i rs
 |yes (t:Tk) (k:Nat) (r:Rat) (ht:l[i]? = some t) (hk:ixS t.text vs=some k) (hr:rs[k]? = some r) (hx:Fit x L) (hf:Fit (r+sgq sn x) L):VarR l vs L sn x rs i true (i+1) (rs.set k (r+sgq sn x))
inductive TermR (l:List Tk) (vs:List ByteArray) (L:Nat) (sn:Bool) (rs:List Rat) (i:Nat):Bool->Nat->List Rat->Prop
 |other (t:Tk) (ht:l[i]? = some t) (h1:t.kind≠1) (h2:t.kind≠2):TermR l vs L sn rs i false i rs
 |name (t:Tk) (ht:l[i]? = some t) (h1:t.kind=1) (ok:Bool) (j:Nat) (rs':List Rat) (hv:VarR l vs L sn 1 rs i ok j rs'):TermR l vs L sn rs i ok j rs'
 |bad (t:Tk) (ht:l[i]? = some t) (h1:t.kind=2) (j:Nat) (x:Rat) (hc:CoefR l i false j x):TermR l vs L sn rs i false j rs
 |alone (t:Tk) (ht:l[i]? = some t) (h1:t.kind=2) (j:Nat) (x:Rat) (hc:CoefR l i true j x) (hx:Fit x L) (t1:Tk) (ht1:l[j]? = some t1) (hs:tsg t1 sTimes=false) (hk1:t1.kind≠1) (r0:Rat) (hr:rs[vs.length]? = some r0) (hf:Fit (r0+sgq sn (-x)) L):TermR l vs L sn rs i true j (rs.set vs.length (r0+sgq sn (-x)))
 |star (t:Tk) (ht:l[i]? = some t) (h1:t.kind=2) (j:Nat) (x:Rat) (hc:CoefR l i true j x) (hx:Fit x L) (t1:Tk) (ht1:l[j]? = some t1) (hs:tsg t1 sTimes=true) (ok:Bool) (k:Nat) (rs':List Rat) (hv:VarR l vs L sn x rs (j+1) ok k rs'):TermR l vs L sn rs i ok k rs'
 |next (t:Tk) (ht:l[i]? = some t) (h1:t.kind=2) (j:Nat) (x:Rat) (hc:CoefR l i true j x) (hx:Fit x L) (t1:Tk) (ht1:l[j]? = some t1) (hs:tsg t1 sTimes=false) (hk1:t1.kind=1) (ok:Bool) (k:Nat) (rs':List Rat) (hv:VarR l vs L sn x rs j ok k rs'):TermR l vs L sn rs i ok k rs'
theorem CoefR.lt{l:List Tk}{i j:Nat}{x:Rat}(h:CoefR l i true j x):i<j:=by cases h <;> omega
theorem VarR.lt{l:List Tk}{vs:List ByteArray}{L:Nat}{sn:Bool}{x:Rat}{rs rs':List Rat}{i j:Nat}(h:VarR l vs L sn x rs i true j rs'):i<j:=by cases h;omega
theorem TermR.lt{l:List Tk}{vs:List ByteArray}{L:Nat}{sn:Bool}{rs rs':List Rat}{i j:Nat}(h:TermR l vs L sn rs i true j rs'):i<j:=by
 cases h with
 |name t ht h1 ok j rs' hv=>exact hv.lt
 |alone t ht h1 j x hc hx t1 ht1 hs hk1 r0 hr hf=>exact hc.lt
 |star t ht h1 j x hc hx t1 ht1 hs ok k rs' hv=>have:=hc.lt;have:=hv.lt;omega
 |next t ht h1 j x hc hx t1 ht1 hs hk1 ok k rs' hv=>have:=hc.lt;have:=hv.lt;omega
structure Env (w:World) (q b g:Nat) (tv uv:Value) (l:List Tk) (vs:List ByteArray) (L:Nat):Prop where
 tabs:Tabs w
 wf:Wf l
 nov:(⟨#[]⟩:ByteArray)∉vs
 hL:L<=10000
 hL1:1<=L
 qb:q≠b
 gq:g≠q
theorem ag2{w:World}{q b g:Nat}{tv uv:Value}{l:List Tk}{vs:List ByteArray}{L i j:Nat}{x:Rat}(E:Env w q b g tv uv l vs L)(h:Rea w q b tv uv l vs i)(hc:CoefR l i true j x)(hx:Fit x L)(W:World)(hb:Below w.heap.size w W):
  Calls Tryz.prog 169 #[.pointer (some ⟨q,0,none⟩)] W fun e w'=>∃v,e=.returned (.tuple #[v,.bool true])/\OutQr x L v w'/\Rea w' q b tv uv l vs j/\Rc q q W w':=by
 cases hc with
 |plain t t1 ht ht1 hs=>exact aoc W (E.tabs.below hb) q b tv uv l E.wf vs i (h.below hb) t t1 ht ht1 hs L hx
 |over t t1 t2 ht ht1 hs ht2 hz=>exact ars W (E.tabs.below hb) q b tv uv l E.wf vs i (h.below hb) t t1 t2 ht ht1 hs ht2 hz L hx
theorem arw{w:World}{q b g:Nat}{tv uv:Value}{l:List Tk}{vs:List ByteArray}{L i j:Nat}{x:Rat}(E:Env w q b g tv uv l vs L)(h:Rea w q b tv uv l vs i)(hc:CoefR l i false j x)(W:World)(hb:Below w.heap.size w W):
  Calls Tryz.prog 169 #[.pointer (some ⟨q,0,none⟩)] W fun e w'=>∃v,e=.returned (.tuple #[v,.bool false])/\OutQr0 v/\Rea w' q b tv uv l vs j/\Rc q q W w':=by
 cases hc with
 |bad t t1 t2 ht ht1 hs ht2 hz=>exact aux W (E.tabs.below hb) q b tv uv l E.wf vs i (h.below hb) t t1 t2 ht ht1 hs ht2 hz
theorem ail{w:World}{q b g:Nat}{tv uv:Value}{l:List Tk}{vs:List ByteArray}{L i j:Nat}{x:Rat}{sn ok:Bool}{rs rs':List Rat}(E:Env w q b g tv uv l vs L)(hv:VarR l vs L sn x rs i ok j rs'){av:Value}(hA:AddV q b g w av sn)(hR:RQ w g b rs L)(W:World)(xv:Value)(hr:Rc q q w W)(h:Rea W q b tv uv l vs i)(hx:IsQ x L xv W):
  Calls Tryz.prog 170 #[.pointer (some ⟨q,0,none⟩),xv,av] W fun e w'=>e=.returned (.bool ok)/\Rea w' q b tv uv l vs j/\Rc q b W w'/\RQ w' g b rs' L:=by
 have hR':=hR.rc hr E.gq (fun e=>E.qb e.symm);cases hv with
 |no t ht hk=>
  refine(a0n W q b tv uv l vs i h t ht x L xv av hx hk).mono ?_;rintro e w' ⟨rfl,h1,h2⟩;exact⟨rfl,h1,h2.wide,hR'.rc h2 E.gq (fun e=>E.qb e.symm)⟩
 |yes t k r ht hk hrk hfx hf=>
  have hj:i+1<l.length:=by
   have h1:=(List.getElem?_eq_some_iff.1 ht).1;by_cases he:i+1=l.length
   ·have h2:=(E.wf.stop _ _ ht he).2;rw[h2]at hk;exact absurd (List.mem_of_getElem? (a2b hk)) E.nov
   ·omega
  exact axv W q b tv uv l vs i h t ht x L xv av hx g k rs r sn hk hj E.wf.len (hA.rc hr.wide) hR' hrk E.hL hfx hf E.qb E.gq
theorem ado(w:World)(q b g:Nat)(tv uv:Value)(l:List Tk)(vs:List ByteArray)(L:Nat)(E:Env w q b g tv uv l vs L)(sn ok:Bool)(rs rs':List Rat)(i j:Nat)(ht:TermR l vs L sn rs i ok j rs')(av:Value)(hA:AddV q b g w av sn)(hR:RQ w g b rs L)(h:Rea w q b tv uv l vs i):
  Calls Tryz.prog 136 #[.pointer (some ⟨q,0,none⟩),av] w fun e w'=>e=.returned (.bool ok)/\Rea w' q b tv uv l vs j/\Rc q b w w'/\RQ w' g b rs' L:=by
 cases ht with
 |other t ht h1 h2=>exact aod w E.tabs q b g tv uv l E.wf vs i h t ht L E.hL E.hL1 av sn hA rs hR E.qb E.gq h1 h2
 |name t ht h1 ok j rs' hv=>exact art w E.tabs q b g tv uv l E.wf vs i h t ht L E.hL E.hL1 av sn hA rs hR E.qb E.gq h1 ok j rs' (ail E hv hA hR)
 |bad t ht h1 j x hc=>exact auz w E.tabs q b g tv uv l E.wf vs i h t ht L E.hL E.hL1 av sn hA rs hR E.qb E.gq h1 j (arw E h hc)
 |alone t ht h1 j x hc hx t1 ht1 hs hk1 r0 hr hf=>exact aoe w E.tabs q b g tv uv l E.wf vs i h t ht L E.hL E.hL1 av sn hA rs hR E.qb E.gq h1 j x r0 (ag2 E h hc hx) t1 ht1 hs hk1 hr hx hf
 |star t ht h1 j x hc hx t1 ht1 hs ok k rs' hv=>exact aru w E.tabs q b g tv uv l E.wf vs i h t ht L E.hL E.hL1 av sn hA rs hR E.qb E.gq h1 j x (ag2 E h hc hx) t1 ht1 hs _ _ _ (ail E hv hA hR)
 |next t ht h1 j x hc hx t1 ht1 hs hk1 ok k rs' hv=>exact arv w E.tabs q b g tv uv l E.wf vs i h t ht L E.hL E.hL1 av sn hA rs hR E.qb E.gq h1 j x (ag2 E h hc hx) t1 ht1 hs hk1 _ _ _ (ail E hv hA hR)
inductive SideL (l:List Tk) (vs:List ByteArray) (L:Nat) (sn:Bool):Bool->Nat->List Rat->Bool->Nat->List Rat->Prop
 |bad (m:Bool) (i j:Nat) (rs rs':List Rat) (h:TermR l vs L (m != sn) rs i false j rs'):SideL l vs L sn m i rs false j rs'
 |last (m:Bool) (i j:Nat) (rs rs':List Rat) (h:TermR l vs L (m != sn) rs i true j rs') (t:Tk) (ht:l[j]? = some t) (hp:tpm t=false):SideL l vs L sn m i rs true j rs'
 |more (m:Bool) (i j k:Nat) (rs rs' rs'':List Rat) (ok:Bool) (h:TermR l vs L (m != sn) rs i true j rs') (t:Tk) (ht:l[j]? = some t) (hp:tpm t=true) (hr:SideL l vs L sn (tsg t sMinus) (j+1) rs' ok k rs''):SideL l vs L sn m i rs ok k rs''
def SideR(l:List Tk)(vs:List ByteArray)(L:Nat)(sn:Bool)(i:Nat)(rs:List Rat)(ok:Bool)(k:Nat)(rs':List Rat):Prop:=∃t,l[i]? = some t/\SideL l vs L sn (tsg t sMinus) (if tpm t then i+1 else i) rs ok k rs'
def nx(w:World)(q:Nat):Nat:=match w.cell? ⟨q,1,none⟩with|some (.int _ z)=>z.toNat|_=>0
theorem Rea.nx{w:World}{q b:Nat}{tv uv:Value}{l:List Tk}{vs:List ByteArray}{i:Nat}(h:Rea w q b tv uv l vs i):nx w q=i:=by
 unfold Lm.nx;rw[cell_of_row _ _ _ _ _ (0,0) h.blk];simp
theorem Env.rc{w w':World}{q b g:Nat}{tv uv:Value}{l:List Tk}{vs:List ByteArray}{L i:Nat}{rs:List Rat}(E:Env w q b g tv uv l vs L)(h:Rea w q b tv uv l vs i)(hR:RQ w g b rs L)(hr:Rc q b w w'):Env w' q b g tv uv l vs L:=by
 refine⟨E.tabs.rcs hr h.no8 ?_,E.wf,E.nov,E.hL,E.hL1,E.qb,E.gq⟩;obtain⟨es,e1,e2,e3⟩:=hR.row;intro z;rw[cell_of_row _ _ _ _ _ (0,0) e2,List.getElem?_toArray];cases es with
 |nil=>simp[rf3]
 |cons e es=>simp[rf3]
theorem acn(w:World)(q b g:Nat)(tv uv:Value)(l:List Tk)(vs:List ByteArray)(L:Nat)(E:Env w q b g tv uv l vs L)(sn ok:Bool)(rs rs':List Rat)(i k:Nat)(hs:SideR l vs L sn i rs ok k rs')(av:Value)(hA:AddV q b g w av sn)(hR:RQ w g b rs L)(h:Rea w q b tv uv l vs i):
  Calls Tryz.prog 103 #[.pointer (some ⟨q,0,none⟩),av] w fun e w'=>e=.returned (.bool ok)/\Rea w' q b tv uv l vs k/\Rc q b w w'/\RQ w' g b rs' L:=by
 obtain⟨t,ht,hs⟩:=hs;have K:=hide (afo w q b tv uv l vs i t h ht (fun h3=>E.wf.more ht (by rw[h3];decide)) E.wf.len);have HE:=hide E;have HA:=hide hA;have HR:=hide hR;have H:=hide h;have HS:=hide hs;obtain⟨j0,hj0⟩:∃j0,(if tpm t=true then i+1 else i)=j0:=⟨_,rfl⟩;rw[hj0]at K HS;clear E hA hR h hs ht hj0;generalize tsg t sMinus=m0 at K HS;generalize tpm t=p0 at K;go_enter Tryz.func103,Tryz.ntmps103
 go_wp2_with fail
 refine K.out.mono ?_;rintro e w1 ⟨rfl,r1,r2⟩;have H1:=hide r1;have HC1:=hide (show Rc q b w w1 from r2.wide);have HQ1:=hide (HR.out.rc r2 HE.out.gq (fun e=>HE.out.qb e.symm));clear r1 r2 K;go_wp2_with fail
 go_loopw [5,7] (fun mv ov wr=>Rc q b w wr/\((∃m j rsj,mv=.bool m/\ov=.bool true/\SideL l vs L sn m j rsj ok k rs'/\Rea wr q b tv uv l vs j/\RQ wr g b rsj L)\/(∃m,mv=.bool m/\ov=.bool false/\ok=true/\Rea wr q b tv uv l vs k/\RQ wr g b rs' L))) (fun _ ov wr=>(l.length-nx wr q)+(match ov with | .bool true=>1|_=>0))
 case atStart=>exact⟨HC1.out,.inl ⟨m0,j0,rs,rfl,rfl,HS.out,H1.out,HQ1.out⟩⟩
 case round=>
  obtain⟨hrc,⟨m,j,rsj,rfl,rfl,hsl,hrea,hrq⟩|⟨m,rfl,rfl,rfl,hrea,hrq⟩⟩:=hrel
  ·have HC:=hide hrc;have HSL:=hide hsl;have HRE:=hide hrea;have HRQ:=hide hrq;clear hrc hsl hrea hrq;cases m with
   |false=>
    have HEr:=hide (HE.out.rc H.out HR.out HC.out);have HAr:=hide (HA.out.rc HC.out);cases HSL.out with
    |bad _ _ j' _ _ hterm=>
     rw[show(false != sn)=sn from by cases sn <;> rfl]at hterm;have HTM:=hide hterm;clear hterm HSL;have HA2:=HAr;have HC2:=HC;have HRE2:=HRE;have HRQ2:=HRQ;have HE2:=HEr;go_wp2_with fail
     refine(ado wr q b g tv uv l vs L HE2.out sn false rsj rs' j k HTM.out av HA2.out HRQ2.out HRE2.out).mono ?_;rintro e w3 ⟨rfl,r1,r2,r3⟩;have R1:=hide r1;have R2:=hide (HC2.out.trans r2);have R3':=hide r3;clear r1 r2 r3;go_wp2;refine bodyPost_ret (v:=_) (by simp[results,Tryz.results103,go_sem];try rfl) rfl ⟨rfl,R1.out,R2.out,R3'.out⟩
    |last _ _ j' _ _ hterm t ht hp=>
     have hlt:=hterm.lt;rw[show(false != sn)=sn from by cases sn <;> rfl]at hterm;have HTM:=hide hterm;have HT:=hide ht;have HP:=hide hp;clear hterm ht hp HSL;have HA2:=HAr;have HC2:=HC;have HRE2:=HRE;have HRQ2:=HRQ;have HE2:=HEr;go_wp2_with fail
     refine(ado wr q b g tv uv l vs L HE2.out sn true rsj rs' j k HTM.out av HA2.out HRQ2.out HRE2.out).mono ?_;rintro e w3 ⟨rfl,r1,r2,r3⟩;have K2:=afo w3 q b tv uv l vs k t r1 HT.out (fun h3=>HE.out.wf.more HT.out (by rw[h3];decide)) HE.out.wf.len;rw[HP.out]at K2;have K2:=hide K2;have R2:=hide (HC2.out.trans r2);have R3':=hide r3;clear r1 r2 r3;go_wp2_with fail
     refine K2.out.mono ?_;rintro e w4 ⟨rfl,s1,s2⟩;have S1:=hide s1;have S2:=hide (R2.out.trans s2.wide);have S3:=hide (R3'.out.rc s2 HE.out.gq (fun e=>HE.out.qb e.symm));clear s1 s2 K2;go_wp2;go_roundw
     case rel=>exact⟨S2.out,.inr ⟨_,rfl,rfl,trivial,S1.out,S3.out⟩⟩
     case measure=>
      have e1:=S1.out.nx;have e2:=HRE.out.nx;have e3:=HRE.out.lt;rw[if_neg (by decide)]at e1;simp only[e1,e2];omega
    |more _ _ j' _ _ rs'' _ _ hterm t ht hp hr=>
     have hlt:=hterm.lt;rw[show(false != sn)=sn from by cases sn <;> rfl]at hterm;have HTM:=hide hterm;have HT:=hide ht;have HP:=hide hp;have HNX:=hide hr;clear hr;clear hterm ht hp HSL;have HA2:=HAr;have HC2:=HC;have HRE2:=HRE;have HRQ2:=HRQ;have HE2:=HEr;go_wp2_with fail
     refine(ado wr q b g tv uv l vs L HE2.out sn true rsj rs'' j j' HTM.out av HA2.out HRQ2.out HRE2.out).mono ?_;rintro e w3 ⟨rfl,r1,r2,r3⟩;have K2:=afo w3 q b tv uv l vs j' t r1 HT.out (fun h3=>HE.out.wf.more HT.out (by rw[h3];decide)) HE.out.wf.len;rw[HP.out]at K2;have K2:=hide K2;have R2:=hide (HC2.out.trans r2);have R3':=hide r3;clear r1 r2 r3;go_wp2_with fail
     refine K2.out.mono ?_;rintro e w4 ⟨rfl,s1,s2⟩;have S1:=hide s1;have S2:=hide (R2.out.trans s2.wide);have S3:=hide (R3'.out.rc s2 HE.out.gq (fun e=>HE.out.qb e.symm));clear s1 s2 K2;go_wp2;go_roundw
     case rel=>exact⟨S2.out,.inl ⟨_,_,_,rfl,rfl,HNX.out,S1.out,S3.out⟩⟩
     case measure=>
      have e1:=S1.out.nx;have e2:=HRE.out.nx;have e3:=HRE.out.lt;rw[if_pos trivial]at e1;simp only[e1,e2];omega
   |true=>
    have HEr:=hide (HE.out.rc H.out HR.out HC.out);have HAr:=hide (HA.out.rc HC.out);cases HSL.out with
    |bad _ _ j' _ _ hterm=>
     rw[show(true != sn)=(!sn)from by cases sn <;> rfl]at hterm;have HTM:=hide hterm;clear hterm HSL;go_wp2_with fail
     refine(ac6 wr av q b g sn HAr.out (aaa HRE.out.blk) (aaa HRQ.out.row.choose_spec.2.1)).mono ?_;rintro e w2 ⟨uv2,rfl,ha2,hb2⟩;have HA2:=hide ha2;have HC2:=hide (HC.out.trans (.of_below hb2));have HRE2:=hide (HRE.out.below hb2);have HRQ2:=hide (HRQ.out.below hb2);have HE2:=hide (HEr.out.rc HRE.out HRQ.out (.of_below hb2));clear ha2 hb2;go_wp2_with fail
     refine(ado w2 q b g tv uv l vs L HE2.out (!sn) false rsj rs' j k HTM.out uv2 HA2.out HRQ2.out HRE2.out).mono ?_;rintro e w3 ⟨rfl,r1,r2,r3⟩;have R1:=hide r1;have R2:=hide (HC2.out.trans r2);have R3':=hide r3;clear r1 r2 r3;go_wp2;refine bodyPost_ret (v:=_) (by simp[results,Tryz.results103,go_sem];try rfl) rfl ⟨rfl,R1.out,R2.out,R3'.out⟩
    |last _ _ j' _ _ hterm t ht hp=>
     have hlt:=hterm.lt;rw[show(true != sn)=(!sn)from by cases sn <;> rfl]at hterm;have HTM:=hide hterm;have HT:=hide ht;have HP:=hide hp;clear hterm ht hp HSL;go_wp2_with fail
     refine(ac6 wr av q b g sn HAr.out (aaa HRE.out.blk) (aaa HRQ.out.row.choose_spec.2.1)).mono ?_;rintro e w2 ⟨uv2,rfl,ha2,hb2⟩;have HA2:=hide ha2;have HC2:=hide (HC.out.trans (.of_below hb2));have HRE2:=hide (HRE.out.below hb2);have HRQ2:=hide (HRQ.out.below hb2);have HE2:=hide (HEr.out.rc HRE.out HRQ.out (.of_below hb2));clear ha2 hb2;go_wp2_with fail
     refine(ado w2 q b g tv uv l vs L HE2.out (!sn) true rsj rs' j k HTM.out uv2 HA2.out HRQ2.out HRE2.out).mono ?_;rintro e w3 ⟨rfl,r1,r2,r3⟩;have K2:=afo w3 q b tv uv l vs k t r1 HT.out (fun h3=>HE.out.wf.more HT.out (by rw[h3];decide)) HE.out.wf.len;rw[HP.out]at K2;have K2:=hide K2;have R2:=hide (HC2.out.trans r2);have R3':=hide r3;clear r1 r2 r3;go_wp2_with fail
     refine K2.out.mono ?_;rintro e w4 ⟨rfl,s1,s2⟩;have S1:=hide s1;have S2:=hide (R2.out.trans s2.wide);have S3:=hide (R3'.out.rc s2 HE.out.gq (fun e=>HE.out.qb e.symm));clear s1 s2 K2;go_wp2;go_roundw
     case rel=>exact⟨S2.out,.inr ⟨_,rfl,rfl,trivial,S1.out,S3.out⟩⟩
     case measure=>
      have e1:=S1.out.nx;have e2:=HRE.out.nx;have e3:=HRE.out.lt;rw[if_neg (by decide)]at e1;simp only[e1,e2];omega
    |more _ _ j' _ _ rs'' _ _ hterm t ht hp hr=>
     have hlt:=hterm.lt;rw[show(true != sn)=(!sn)from by cases sn <;> rfl]at hterm;have HTM:=hide hterm;have HT:=hide ht;have HP:=hide hp;have HNX:=hide hr;clear hr;clear hterm ht hp HSL;go_wp2_with fail
     refine(ac6 wr av q b g sn HAr.out (aaa HRE.out.blk) (aaa HRQ.out.row.choose_spec.2.1)).mono ?_;rintro e w2 ⟨uv2,rfl,ha2,hb2⟩;have HA2:=hide ha2;have HC2:=hide (HC.out.trans (.of_below hb2));have HRE2:=hide (HRE.out.below hb2);have HRQ2:=hide (HRQ.out.below hb2);have HE2:=hide (HEr.out.rc HRE.out HRQ.out (.of_below hb2));clear ha2 hb2;go_wp2_with fail
     refine(ado w2 q b g tv uv l vs L HE2.out (!sn) true rsj rs'' j j' HTM.out uv2 HA2.out HRQ2.out HRE2.out).mono ?_;rintro e w3 ⟨rfl,r1,r2,r3⟩;have K2:=afo w3 q b tv uv l vs j' t r1 HT.out (fun h3=>HE.out.wf.more HT.out (by rw[h3];decide)) HE.out.wf.len;rw[HP.out]at K2;have K2:=hide K2;have R2:=hide (HC2.out.trans r2);have R3':=hide r3;clear r1 r2 r3;go_wp2_with fail
     refine K2.out.mono ?_;rintro e w4 ⟨rfl,s1,s2⟩;have S1:=hide s1;have S2:=hide (R2.out.trans s2.wide);have S3:=hide (R3'.out.rc s2 HE.out.gq (fun e=>HE.out.qb e.symm));clear s1 s2 K2;go_wp2;go_roundw
     case rel=>exact⟨S2.out,.inl ⟨_,_,_,rfl,rfl,HNX.out,S1.out,S3.out⟩⟩
     case measure=>
      have e1:=S1.out.nx;have e2:=HRE.out.nx;have e3:=HRE.out.lt;rw[if_pos trivial]at e1;simp only[e1,e2];omega
  ·have HC:=hide hrc;have HRE:=hide hrea;have HRQ:=hide hrq;clear hrc hrea hrq;go_wp2;refine bodyPost_ret (v:=_) (by simp[results,Tryz.results103,go_sem];try rfl) rfl ⟨rfl,HRE.out,HC.out,HRQ.out⟩
end Lm
end Go.Proofs.YtooefpkhacecnaaGreatDoor
