/-
  What the text behind the last one leans on, part 5.
-/
import Derived.Shelf.Lay
import Derived.Shelf.Strings.BuilderK
import Derived.Laws.Concat
import Derived.SizedLaws
import Derived.Deep.DeepCutAuto
import Derived.Handy
import Derived.Laws.IdiomStrings
import Derived.Shelf.Unicode.DecodeSlow
import Derived.Test.YtooefpkhacecnaaGreatDoorNNLawZ4
set_option maxRecDepth 20000
set_option maxHeartbeats 40000000
namespace Go.Proofs.YtooefpkhacecnaaGreatDoor
namespace Lm
open Go Go.RowKit
theorem nset{w2:World}{bv i:Nat}{es:List WE}{ng:Bool}{a:Option Addr}{m c:Nat}(e2:w2.heap[bv]? = some (.cells (flat es).toArray 85 (0,0)))(hi:i<es.length):∃W,W=((w2.setCell ⟨bv,i*2,none⟩ (.bool ng)).setCell ⟨bv,i*2+1,none⟩ (.slice a m c))/\W.heap[bv]? = some (.cells (flat (es.set i ⟨ng,a,m,c,[]⟩)).toArray 85 (0,0))/\Rl w2 W/\∀B,B<=bv->Below B w2 W:=by
 refine⟨_,rfl,?_⟩;generalize hW:((w2.setCell ⟨bv,i*2,none⟩ (.bool ng)).setCell ⟨bv,i*2+1,none⟩ (.slice a m c))=W;have hbW:W.heap[bv]? = some (.cells (flat (es.set i ⟨ng,a,m,c,[]⟩)).toArray 85 (0,0)):=by
  rw[<-hW,aml es i _ hi];have s1:=heap_setCell_same w2 bv (i*2) _ _ (.bool ng) e2;have s2:=heap_setCell_same _ bv (i*2+1) _ _ (.slice a m c) s1;rw[s2];simp
 have hot:∀k,k≠bv->W.heap[k]? = w2.heap[k]? :=fun k hn=>by rw[<-hW,heap_setCell_other _ ⟨bv,i*2+1,none⟩ k _ hn,heap_setCell_other _ ⟨bv,i*2,none⟩ k _ hn]
 have hsz:W.heap.size=w2.heap.size:=by rw[<-hW];simp[World.setCell]
 have hou:W.os=w2.os/\W.tape=w2.tape/\W.output=w2.output:=by rw[<-hW];exact⟨rfl,rfl,rfl⟩
 refine⟨hbW,⟨Nat.le_of_eq hsz.symm,fun q k y e=>?_,fun k cs T hT e=>?_⟩,fun B hB=>⟨hou.1,hou.2.1,hou.2.2,Nat.le_of_eq hsz.symm,fun k hk=>hot k (by omega)⟩⟩
 ·by_cases hq:q.block=bv
  ·exfalso;obtain⟨qb,qo,qm⟩:=q;simp only at hq;subst hq;simp only[World.cell?,e2]at e;cases qm with
   |none=>exact axp es qo k y (by simpa using e)
   |some m=>simp at e
  ·rw[World.cell?_of_block (w:=w2) (hot q.block hq)];exact e
 ·by_cases hk:k=bv
  ·exfalso;subst hk;rw[e2]at e;injection e with e;injection e with _ e _;rcases hT with rfl|rfl
   ·exact absurd e (by decide)
   ·exact absurd e (by decide)
  ·exact(hot k hk).trans e
theorem a3b{w2:World}{g:Nat}{ng0:Bool}{a0:Option Addr}{m0 c0:Nat}(ng:Bool)(a:Option Addr)(m c:Nat)(e2:w2.heap[g]? = some (.cells #[.bool ng0,.slice a0 m0 c0] 85 (0,0))):((w2.setCell ⟨g,0,none⟩ (.bool ng)).setCell ⟨g,1,none⟩ (.slice a m c)).heap[g]? = some (.cells #[.bool ng,.slice a m c] 85 (0,0))/\Rl w2 ((w2.setCell ⟨g,0,none⟩ (.bool ng)).setCell ⟨g,1,none⟩ (.slice a m c))/\∀B,B<=g->Below B w2 ((w2.setCell ⟨g,0,none⟩ (.bool ng)).setCell ⟨g,1,none⟩ (.slice a m c)):=by
 obtain⟨W,hW,h1,h2,h3⟩:=nset (w2:=w2) (bv:=g) (i:=0) (es:=[⟨ng0,a0,m0,c0,[]⟩]) (ng:=ng) (a:=a) (m:=m) (c:=c) e2 (by simp);simp only[Nat.zero_mul,Nat.zero_add]at hW;rw[<-hW];exact⟨h1,h2,h3⟩
theorem nsignF(w:World)(z:Int)(v:Value)(L:Nat)(h:OutN z L v w):
  Calls Tryz.prog 81 #[v] w fun e w'=>e=.returned (.int .i64 (Int.sign z))/\Below w.heap.size w w':=by
 obtain⟨ng,ao,cap,rs,rfl,W,l⟩:=h;exact Dm.aoz w _ _ _ _ _ W
theorem nminusF(w:World)(z:Int)(v:Value)(L:Nat)(h:OutN z L v w)(hL:L<=1000000):
  Calls Tryz.prog 83 #[v] w fun e w'=>∃r,e=.returned r/\OutN (-z) L r w'/\Below w.heap.size w w':=by
 obtain⟨ng,ao,cap,rs,rfl,W,l⟩:=h;refine(Dm.ajx w _ _ _ _ _ W (by omega)).mono ?_;rintro e w' ⟨ng,ao,cap,rs,rfl,G,l,hb⟩;exact⟨_,rfl,⟨_,_,_,_,rfl,G,by omega⟩,hb⟩
def PZ(w:World)(bv n i:Nat)(zs:List Int)(L:Nat):Prop:=
 ∃es:List WE,es.length=n/\w.heap[bv]? = some (.cells (flat es).toArray 85 (0,0))/\(∀(k:Nat) (e:WE) (z:Int),k<i->es[k]? = some e->zs[k]? = some z->OutN z L e.v w)/\∀(k:Nat) (e:WE),i<=k->es[k]? = some e->e=⟨false,none,0,0,[]⟩
theorem PZ.pn{w:World}{bv n i:Nat}{zs:List Int}{L:Nat}(h:PZ w bv n i zs L):PN w bv n i zs L:=by
 obtain⟨es,h1,h2,h3,_⟩:=h;exact⟨es,h1,h2,h3⟩
theorem PZ.below{w w':World}{bv n i:Nat}{zs:List Int}{L:Nat}(h:PZ w bv n i zs L)(hb:Below w.heap.size w w'):PZ w' bv n i zs L:=by
 have hl:=h.pn.lt;obtain⟨es,h1,h2,h3,h4⟩:=h;exact⟨es,h1,(hb.block bv hl).trans h2,fun k e z hk he hz=>(h3 k e z hk he hz).rl (Rl.of_below hb),h4⟩
theorem PZ.start{w:World}{bv n:Nat}{zs:List Int}{L:Nat}(h:w.heap[bv]? = some (.cells (flat (List.replicate n ⟨false,none,0,0,[]⟩)).toArray 85 (0,0))):PZ w bv n 0 zs L:=⟨_,by simp,h,fun k e z hk=>(by omega),fun k e _ he=>List.eq_of_mem_replicate (List.mem_of_getElem? he)⟩
theorem PZ.zero{w:World}{bv n i:Nat}{zs:List Int}{L:Nat}(h:PZ w bv n i zs L)(hz:zs[i]? = some 0):PZ w bv n (i+1) zs L:=by
 obtain⟨es,h1,h2,h3,h4⟩:=h;refine⟨es,h1,h2,fun k e z hk he hz'=>?_,fun k e hk he=>h4 k e (by omega) he⟩;by_cases hki:k=i
 ·subst hki;rw[hz]at hz';obtain rfl:=Option.some.inj hz';rw[h4 k e (Nat.le_refl _) he];exact akp _ _
 ·exact h3 k e z (by omega) he hz'
theorem PZ.put{w1 w2:World}{bv n i:Nat}{zs:List Int}{L:Nat}{z:Int}{ng:Bool}{a:Option Addr}{m c:Nat}(h:PZ w1 bv n i zs L)(hb:Below w1.heap.size w1 w2)(hi:i<n)(hz:zs[i]? = some z)(hv:OutN z L (.agg #[.bool ng,.slice a m c]) w2):
  PZ ((w2.setCell ⟨bv,i*2,none⟩ (.bool ng)).setCell ⟨bv,i*2+1,none⟩ (.slice a m c)) bv n (i+1) zs L/\∀B,B<=bv->B<=w1.heap.size->Below B w1 ((w2.setCell ⟨bv,i*2,none⟩ (.bool ng)).setCell ⟨bv,i*2+1,none⟩ (.slice a m c)):=by
 have hlt:=h.pn.lt;obtain⟨es,e1,e2,e4,e5⟩:=h;obtain⟨W,hW,hbW,hrl,hbl⟩:=nset (ng:=ng) (a:=a) (m:=m) (c:=c) (i:=i) ((hb.block bv hlt).trans e2) (by omega);rw[<-hW];refine⟨⟨es.set i ⟨ng,a,m,c,[]⟩,by simp[e1],hbW,fun k e z' hk he hz'=>?_,fun k e hk he=>?_⟩,fun B hB hB1=>(hb.mono hB1).trans (hbl B hB)⟩
 ·by_cases hki:k=i
  ·subst hki;rw[List.getElem?_set_self (by omega)]at he;obtain rfl:=Option.some.inj he;rw[hz]at hz';obtain rfl:=Option.some.inj hz';exact hv.rl hrl
  ·rw[List.getElem?_set_ne (fun h=>hki h.symm)]at he;exact((e4 k e z' (by omega) he hz').rl (Rl.of_below hb)).rl hrl
 ·rw[List.getElem?_set_ne (by omega)]at he;exact e5 k e (by omega) he
theorem PZ.over{w1 w2:World}{bv n i:Nat}{zs:List Int}{L:Nat}{y z:Int}{ng:Bool}{a:Option Addr}{m c:Nat}(h:PZ w1 bv n (i+1) (zs.set i y) L)(hb:Below w1.heap.size w1 w2)(hi:i<n)(hz:zs[i]? = some z)(hv:OutN z L (.agg #[.bool ng,.slice a m c]) w2):
  PZ ((w2.setCell ⟨bv,i*2,none⟩ (.bool ng)).setCell ⟨bv,i*2+1,none⟩ (.slice a m c)) bv n (i+1) zs L/\∀B,B<=bv->B<=w1.heap.size->Below B w1 ((w2.setCell ⟨bv,i*2,none⟩ (.bool ng)).setCell ⟨bv,i*2+1,none⟩ (.slice a m c)):=by
 have hlt:=h.pn.lt;obtain⟨es,e1,e2,e4,e5⟩:=h;obtain⟨W,hW,hbW,hrl,hbl⟩:=nset (ng:=ng) (a:=a) (m:=m) (c:=c) (i:=i) ((hb.block bv hlt).trans e2) (by omega);rw[<-hW];refine⟨⟨es.set i ⟨ng,a,m,c,[]⟩,by simp[e1],hbW,fun k e z' hk he hz'=>?_,fun k e hk he=>?_⟩,fun B hB hB1=>(hb.mono hB1).trans (hbl B hB)⟩
 ·by_cases hki:k=i
  ·subst hki;rw[List.getElem?_set_self (by omega)]at he;obtain rfl:=Option.some.inj he;rw[hz]at hz';obtain rfl:=Option.some.inj hz';exact hv.rl hrl
  ·rw[List.getElem?_set_ne (fun h=>hki h.symm)]at he;exact((e4 k e z' (by omega) he (by rw[List.getElem?_set_ne (fun h=>hki h.symm)];exact hz')).rl (Rl.of_below hb)).rl hrl
 ·rw[List.getElem?_set_ne (by omega)]at he;exact e5 k e (by omega) he
theorem a0e{zs:List Int}{N:Int}(hN:0<N)(h:∀z∈zs,(z.natAbs:Int)<N):∀k,((gcdL (zs.take k)).natAbs:Int)<N:=by
 intro k;induction k with
 |zero=>simpa[gcdL]using hN
 |succ k ih=>
  by_cases hk:k<zs.length
  ·obtain⟨z,hz⟩:∃z,zs[k]? = some z:=⟨_,List.getElem?_eq_getElem hk⟩;unfold gcdL at ih ⊢;rw[adg _ _ hz];exact auj ih (h z (List.mem_of_getElem? hz))
  ·rw[List.take_of_length_le (by omega)];rwa[List.take_of_length_le (by omega)]at ih
theorem age{zs:List Int}: ∀z∈zs,gcdL zs ∣ z:=by
 have key:∀(l:List Int) (c:Int),l.foldl (fun c z=>((Int.gcd c z:Nat):Int)) c ∣ c/\∀z∈l,l.foldl (fun c z=>((Int.gcd c z:Nat):Int)) c ∣ z:=by
  intro l;induction l with
  |nil=>intro c;exact⟨Int.dvd_refl _,fun z hz=>by cases hz⟩
  |cons x l ih=>
   intro c;obtain⟨h1,h2⟩:=ih ((Int.gcd c x:Nat):Int);refine⟨Int.dvd_trans h1 (Int.gcd_dvd_left ..),fun z hz=>?_⟩;rcases List.mem_cons.1 hz with rfl|hz
   ·exact Int.dvd_trans h1 (Int.gcd_dvd_right ..)
   ·exact h2 z hz
 exact fun z hz=>(key zs 0).2 z hz
theorem aum{zs:List Int}(h:∀z∈zs,z=0):sgnL zs=0:=by
 have key:∀l:List Int,(∀z∈l,z=0)->l.foldl (fun s z=>if s=0 then Int.sign z else s) 0=0:=by
  intro l;induction l with
  |nil=>intro _;rfl
  |cons x l ih=>
   intro hl;rw[List.foldl_cons,hl x (by simp)];exact ih (fun z hz=>hl z (by simp[hz]))
 exact key zs h
set_option maxRecDepth 100000 in
theorem arp(w:World)(v:Value)(zs:List Int)(L:Nat)(h:NRow w v zs (3*L))(hn:zs.length<=100000)(hL:L<=10000)(hb0:∀z∈zs,(z.natAbs:Int)<pw L)(h0:zs≠[]):
  Calls Tryz.prog 45 #[v] w fun e w'=>∃r,e=.returned r/\NRow w' r (red zs) (3*L)/\Below w.heap.size w w':=by
 obtain⟨ar,cr,rfl,_⟩:=h.parts;have hpos:0<zs.length:=List.length_pos_iff.2 h0;have HR:=hide h;have HBZ:=hide hb0;obtain⟨n,hnn⟩:∃n,zs.length=n:=⟨_,rfl⟩;rw[hnn]at HR hn hpos ⊢;obtain⟨b,off,har⟩:=HR.out.some hpos;subst har;have HN:=hide hnn;have hba:=hAl w (.cells #[.bool false,.slice none 0 0] 85);have hna:=heap_alloc_new w (.cells #[.bool false,.slice none 0 0] 85);have HBA:=hide hba;have HNA:=hide hna;clear h h0 hb0 hnn hba hna;obtain⟨iN,hi',hz0',hz1',hz2'⟩:=info_parts infoN;go_enter Tryz.func45,Tryz.ntmps45
 go_wp2_with fail
 generalize w.alloc (.cells #[.bool false,.slice none 0 0] 85)=wa at *
 go_loopw [4,5] (fun sv iv wr=>∃(k:Nat),iv=.int .i64 k/\k<=n/\sv=.int .i64 (sgnL (zs.take k))/\Below w.heap.size w wr/\∃ng a m c,wr.heap[w.heap.size]? = some (.cells #[.bool ng,.slice a m c] 85 (0,0))/\OutN (gcdL (zs.take k)) (3*L) (.agg #[.bool ng,.slice a m c]) wr) (fun _ iv _=>n-(intOf iv).toNat)
 case atStart=>exact⟨0,rfl,Nat.zero_le _,rfl,HBA.out,false,none,0,0,HNA.out,akp _ _⟩
 case round=>
  obtain⟨k,rfl,hk,rfl,hbw,ngg,ag,mg,cg,hgb,hgo⟩:=hrel;have HW:=hide hbw;have HRr:=hide (HR.out.below hbw);have HG:=hide hgo;have HGB:=hide hgb;obtain⟨hgl,g0,g1,gf0,gf1⟩:=aan hgb;by_cases hlt:k<n
  ·have hlt':(k:Int)<(n:Int):=by omega
   obtain⟨z,hz⟩:∃z,zs[k]? = some z:=⟨_,List.getElem?_eq_getElem (by have:=HN.out;omega)⟩;have HZ:=hide hz;have hgs:gcdL (zs.take (k+1))=((Int.gcd (gcdL (zs.take k)) z:Nat):Int):=adg _ _ hz;have hss:sgnL (zs.take (k+1))=if sgnL (zs.take k)=0 then Int.sign z else sgnL (zs.take k):=adg _ _ hz
   have HGS:=hide hgs;have HSS:=hide hss;have HFIT:Hid (((((Int.gcd (gcdL (zs.take k)) z:Nat):Int)).natAbs:Int)<pw L):=(show _<_ by rw[<-hgs];exact a0e (az9 L) HBZ.out (k+1));obtain⟨sk,hsk⟩:∃s,sgnL (zs.take k)=s:=⟨_,rfl⟩;have HSK:=hide hsk;rw[hsk]at HSS ⊢;clear hbw hgo hgb hz hgs hss hsk;go_upto_region 6 with fail
   refine acg 6 [15,16,17,18,19,20] [(OutN (gcdL (zs.take k)) (3*L)),Eqs (.slice (some ⟨b,off,none⟩) n cr),Eqs (.int .i64 (k:Int)),Eqs (.pointer (some ⟨b,off+k*2,none⟩)),(OutN z (3*L)),(OutN (((Int.gcd (gcdL (zs.take k)) z:Nat):Int)) (3*L))] rfl rfl (by decide) (by kernel_rfl) (by kernel_rfl) (by decide) (by kernel_rfl) ⟨(Mono.of4 (OutN.mono4 _ _)),Eqs.mono _,Eqs.mono _,Eqs.mono _,(Mono.of4 (OutN.mono4 _ _)),(Mono.of4 (OutN.mono4 _ _)),trivial⟩ ?_ ?_
   ·exact⟨⟨rfl,fun a_ w_ _ hB hR hD=>apm ((hR 3 rfl).trans (aar rfl)) ((hB.cell (p:=⟨w.heap.size,0,none⟩) hgl).trans g0) ((hB.cell (p:=⟨w.heap.size,0+1,none⟩) hgl).trans g1) (Mono.of4 (OutN.mono4 _ _) _ _ _ hB HG.out)⟩,
      ⟨rfl,fun a_ w_ _ hB hR hD=>aay ((hR 0 rfl).trans (aar rfl))⟩,
      ⟨rfl,fun a_ w_ _ hB hR hD=>aay ((hR 5 rfl).trans (aar rfl))⟩,
      ⟨rfl,fun a_ w_ _ hB hR hD=>ahi (show a_.eval (.tmp 16)=.slice (some ⟨b,off,none⟩) n cr from hD 1 rfl) rfl (show a_.eval (.tmp 17)=.int .i64 (k:Int)from hD 2 rfl) (by omega)⟩,
      ⟨rfl,fun a_ w_ _ hB hR hD=>ajh (show a_.eval (.tmp 18)=.pointer (some ⟨b,off+k*2,none⟩)from hD 3 rfl) rfl (HRr.out.below hB) HZ.out⟩,
      ⟨rfl,fun a_ w_ _ hB hR hD=>(azl (L1:=3*L) (L2:=3*L) (show(OutN (gcdL (zs.take k)) (3*L)) (a_.eval (.tmp 15)) w_ from hD 0 rfl) (show(OutN z (3*L)) (a_.eval (.tmp 19)) w_ from hD 4 rfl) (by omega) (by omega)).mono (fun _ _ h_=>⟨h_.1,h_.2.fit HFIT.out⟩)⟩,
      trivial⟩
   ·intro a' w' hn' hd' hB' hR' hP';obtain⟨u15,e15⟩:∃u,a'.eval (.tmp 15)=u:=⟨_,rfl⟩;have e16:a'.eval (.tmp 16)=.slice (some ⟨b,off,none⟩) n cr:=hP' 1 (by decide);have e17:a'.eval (.tmp 17)=.int .i64 (k:Int):=hP' 2 (by decide);have e18:a'.eval (.tmp 18)=.pointer (some ⟨b,off+k*2,none⟩):=hP' 3 (by decide);obtain⟨u19,e19⟩:∃u,a'.eval (.tmp 19)=u:=⟨_,rfl⟩;obtain⟨u20,e20⟩:∃u,a'.eval (.tmp 20)=u:=⟨_,rfl⟩;have hT:(OutN (((Int.gcd (gcdL (zs.take k)) z:Nat):Int)) (3*L)) (a'.eval (.tmp 20)) w':=hP' 5 (by decide);rw[e20]at hT;refine ada hn' hd' hR' (.same rfl <| .same rfl <| .same rfl <| .same rfl <| .same rfl <| .same rfl <| .same rfl <| .same rfl <| .same rfl <| .same rfl <| .same rfl <| .same rfl <| .same rfl <| .same rfl <| .same rfl <| .new e15 <| .new e16 <| .new e17 <| .new e18 <| .new e19 <| .new e20 <| .same rfl <| .same rfl <| .same rfl <| .same rfl <| .same rfl <| .same rfl <| .same rfl <| .same rfl <| .same rfl <| .same rfl <| .same rfl <| .same rfl <| .same rfl <| .same rfl <| .same rfl <| .same rfl <| .same rfl <| .same rfl <| .same rfl <| .same rfl <| .same rfl <| .same rfl <| .same rfl <| .same rfl <| .same rfl <| .same rfl <| .same rfl <| .same rfl <| .same rfl <| .same rfl <| .same rfl <| .same rfl <| .same rfl <| .same rfl <| .same rfl <| .same rfl <| .same rfl <| .same rfl <| .same rfl <| .nil) ?_;clear e15 e16 e17 e18 e19 e20;obtain⟨ng1,a1,m1,c1,rfl⟩:=hT.agg;have hgb':=(hB'.block _ (aaa HGB.out)).trans HGB.out;obtain⟨_,c0',c1',f0,f1⟩:=aan hgb';obtain⟨s1,s2,s3⟩:=a3b ng1 a1 m1 c1 hgb';have HT:=hide (hT.rl s2);have HNB:=hide s1;have HBW2:=hide ((HW.out.trans (hB'.mono HW.out.size)).trans (s3 _ (Nat.le_refl _)));clear hB' hR' hP' hn' hd' hT hgb' g0 g1 gf0 gf1 hgl s1 s2 s3;by_cases hs0:sk=0
    ·have hs0':(sk==0)=true:=by simpa using hs0
     clear hs0;go_upto_region 8 with fail
     generalize ((w'.setCell ⟨w.heap.size,0,none⟩ (.bool ng1)).setCell ⟨w.heap.size,1,none⟩ (.slice a1 m1 c1))=w2 at *
     obtain⟨b5,o5,ngx,ax,mx,cx,hbb,hbl,x0,x1,hxo⟩:=(HR.out.below HBW2.out).cell HZ.out;simp only[Option.some.injEq,Addr.mk.injEq,and_true]at hbb;obtain⟨rfl,rfl⟩:=hbb;have K1:=hide (nsignF w2 z _ _ hxo);clear c0' c1' f0 f1 hxo;go_wp2_with fail
     refine K1.out.mono ?_;rintro e w3 ⟨rfl,hb3⟩;have HB3:=hide (HBW2.out.trans (hb3.mono HBW2.out.size));have HT3:=hide (HT.out.rl (Rl.of_below hb3));have HN3:=hide ((hb3.block _ (aaa HNB.out)).trans HNB.out);clear hb3 K1 x0 x1 hbl;go_wp2;go_roundw
     case rel=>exact⟨k+1,by go_num,by omega,by rw[HSS.out,if_pos (by simpa using hs0')],HB3.out,ng1,a1,m1,c1,HN3.out,by rw[HGS.out];exact HT3.out⟩
     case measure=>simp[intOf];omega
    ·have hs0':(sk==0)=false:=by simpa using hs0
     clear hs0;go_wp2;go_roundw
     case rel=>exact⟨k+1,by go_num,by omega,by rw[HSS.out,if_neg (by simpa using hs0')],HBW2.out,ng1,a1,m1,c1,HNB.out,by rw[HGS.out];exact HT.out⟩
     case measure=>simp[intOf];omega
  ·have hlt':decide ((k:Int)<(n:Int))=false:=by simp;omega
   obtain rfl:k=n:=by omega
   rw[List.take_of_length_le (by have:=HN.out;omega)]at HG ⊢;clear hlt hbw hgo hgb;have HZL:Hid ((red zs).length=k):=(show _=_ by rw[red,List.length_map];exact HN.out);obtain⟨sk,hsk⟩:∃s,sgnL zs=s:=⟨_,rfl⟩;have HSK:=hide hsk;rw[hsk];clear hsk;go_wp2_with (refine wpList_make_full _ rfl (.tmp 29) (.tmp 29) 79 rfl _ 85 iN (.agg #[.bool false,.slice none 0 0]) 2 Tryz.underlying79 hi' hz0' hz1' .i64 .i64 _ _ k rfl rfl (by omega) (by omega) (by rw[hz2'];omega) (by unfold maxLen;omega) (Nat.le_refl _) ?hK)
   case hK=>
    intro w1 hown hgrow;have hb1:Below wr.heap.size wr w1:=(Below.refl _ _).grown hgrow (Nat.le_refl _) (by simp);obtain⟨_,hmb⟩:=ad0 hown;rw[aij]at hmb;obtain⟨bv,hbv⟩:∃bv,wr.heap.size=bv:=⟨_,rfl⟩;have HBV:Hid (w.heap.size<bv):=(show w.heap.size<bv by rw[<-hbv];exact hgl);rw[hbv]at hmb ⊢;have HP0:=hide (PZ.start (zs:=red zs) (L:=3*L) hmb);have HB1:=hide (HW.out.trans (hb1.mono HW.out.size));have HG1:=hide ((hb1.block _ hgl).trans HGB.out);have HGO1:=hide (HG.out.rl (Rl.of_below hb1));clear hown hgrow hb1 hmb hbv g0 g1 gf0 gf1 hgl HRr HW HGB HG;go_wp2_with fail
    go_loopw [7] (fun iv wr=>∃(j:Nat),iv=.int .i64 j/\j<=k/\Below w.heap.size w wr/\PZ wr bv k j (red zs) (3*L)/\wr.heap[w.heap.size]? = some (.cells #[.bool ngg,.slice ag mg cg] 85 (0,0))/\OutN (gcdL zs) (3*L) (.agg #[.bool ngg,.slice ag mg cg]) wr) (fun iv _=>k-(intOf iv).toNat)
    case atStart=>exact⟨0,rfl,Nat.zero_le _,HB1.out,HP0.out,HG1.out,HGO1.out⟩
    case round=>
     obtain⟨j,rfl,hj,hbw,hp,hgb,hgo⟩:=hrel;have HW:=hide hbw;have HP:=hide hp;have HGB:=hide hgb;have HG:=hide hgo;obtain⟨hgl,g0,g1,gf0,gf1⟩:=aan hgb;by_cases hlt:j<k
     ·have hlt':(j:Int)<(k:Int):=by omega
      obtain⟨z,hz⟩:∃z,zs[j]? = some z:=⟨_,List.getElem?_eq_getElem (by have:=HN.out;omega)⟩;have HZ:=hide hz;have HRD:Hid ((red zs)[j]? = some (z/dvs zs)):=(show _=_ by rw[red,List.getElem?_map,hz];rfl);have K1:=hide (nsignF wr _ _ _ hgo);clear hbw hp hgb hgo hz;by_cases hg0:gcdL zs=0
      ·have hall:∀y∈zs,y=0:=fun y hy=>by have:=age y hy;rw[hg0]at this;exact Int.zero_dvd.1 this
       have hsg:=aum hall;have hsk:=HSK.out;rw[hsg]at hsk;subst hsk;have hzd:z/dvs zs=0:=by rw[hall z (List.mem_of_getElem? HZ.out)];exact Int.zero_ediv _
       rw[hzd]at HRD;rw[hg0]at K1;clear hall hsg hzd hg0;go_wp2_with fail
       refine K1.out.mono ?_;rintro e w2 ⟨rfl,hb2⟩;have HB2:=hide (HW.out.trans (hb2.mono HW.out.size));have HP2:=hide ((HP.out.below hb2).zero HRD.out);have HG2:=hide (HG.out.rl (Rl.of_below hb2));have HGB2:=hide ((hb2.block _ hgl).trans HGB.out);clear hb2 K1 g0 g1 gf0 gf1 hgl;go_wp2;go_roundw
       case rel=>exact⟨j+1,by go_num,by omega,HB2.out,HP2.out,HGB2.out,HG2.out⟩
       case measure=>simp[intOf];omega
      ·have hgp:0<gcdL zs:=by have:=an2 zs;omega
       rw[Int.sign_eq_one_of_pos hgp]at K1;have HNE:Hid (gcdL zs≠0):=hg0;have HOV:Hid (ov z (gcdL zs)=z/gcdL zs):=aw1 hgp (age z (List.mem_of_getElem? HZ.out));clear hg0 hgp;go_wp2_with fail
       refine K1.out.mono ?_;rintro e w2 ⟨rfl,hb2⟩;have HW2:=hide (HW.out.trans (hb2.mono HW.out.size));have HPw:=hide (HP.out.below hb2);have HRr:=hide (HR.out.below HW2.out);have HGB2:=hide ((hb2.block _ hgl).trans HGB.out);have HG2:=hide (HG.out.rl (Rl.of_below hb2));clear hb2 K1 g0 g1 gf0 gf1 hgl;obtain⟨hgl,g0,g1,gf0,gf1⟩:=aan HGB2.out;go_upto_region 14 with fail
       refine acg 8 [40,41,42,43,44,45,46,47] [Eqs (.slice (some ⟨bv,0,none⟩) k k),Eqs (.int .i64 (j:Int)),Eqs (.slice (some ⟨b,off,none⟩) k cr),Eqs (.int .i64 (j:Int)),Eqs (.pointer (some ⟨b,off+j*2,none⟩)),(OutN z (3*L)),(OutN (gcdL zs) (3*L)),(OutN (z/gcdL zs) (3*L))] rfl rfl (by decide) (by kernel_rfl) (by kernel_rfl) (by decide) (by kernel_rfl) ⟨Eqs.mono _,Eqs.mono _,Eqs.mono _,Eqs.mono _,Eqs.mono _,(Mono.of4 (OutN.mono4 _ _)),(Mono.of4 (OutN.mono4 _ _)),(Mono.of4 (OutN.mono4 _ _)),trivial⟩ ?_ ?_
       ·exact⟨⟨rfl,fun a_ w_ _ hB hR hD=>aay ((hR 6 rfl).trans (aar rfl))⟩,
          ⟨rfl,fun a_ w_ _ hB hR hD=>aay ((hR 7 rfl).trans (aar rfl))⟩,
          ⟨rfl,fun a_ w_ _ hB hR hD=>aay ((hR 0 rfl).trans (aar rfl))⟩,
          ⟨rfl,fun a_ w_ _ hB hR hD=>aay ((hR 7 rfl).trans (aar rfl))⟩,
          ⟨rfl,fun a_ w_ _ hB hR hD=>ahi (show a_.eval (.tmp 42)=.slice (some ⟨b,off,none⟩) k cr from hD 2 rfl) rfl (show a_.eval (.tmp 43)=.int .i64 (j:Int)from hD 3 rfl) (by omega)⟩,
          ⟨rfl,fun a_ w_ _ hB hR hD=>ajh (show a_.eval (.tmp 44)=.pointer (some ⟨b,off+j*2,none⟩)from hD 4 rfl) rfl (HRr.out.below hB) HZ.out⟩,
          ⟨rfl,fun a_ w_ _ hB hR hD=>apm ((hR 3 rfl).trans (aar rfl)) ((hB.cell (p:=⟨w.heap.size,0,none⟩) hgl).trans g0) ((hB.cell (p:=⟨w.heap.size,0+1,none⟩) hgl).trans g1) (Mono.of4 (OutN.mono4 _ _) _ _ _ hB HG2.out)⟩,
          ⟨rfl,fun a_ w_ _ hB hR hD=>(aw2 (Bx:=3*L) (By:=3*L) (show(OutN z (3*L)) (a_.eval (.tmp 45)) w_ from hD 5 rfl) (show(OutN (gcdL zs) (3*L)) (a_.eval (.tmp 46)) w_ from hD 6 rfl) (by omega) (by omega) HNE.out).mono (fun _ _ h_=>⟨h_.1,h_.2.to HOV.out (Nat.le_refl _)⟩)⟩,
          trivial⟩
       ·intro a' w' hn' hd' hB' hR' hP';have e40:a'.eval (.tmp 40)=.slice (some ⟨bv,0,none⟩) k k:=hP' 0 (by decide);have e41:a'.eval (.tmp 41)=.int .i64 (j:Int):=hP' 1 (by decide);have e42:a'.eval (.tmp 42)=.slice (some ⟨b,off,none⟩) k cr:=hP' 2 (by decide);have e43:a'.eval (.tmp 43)=.int .i64 (j:Int):=hP' 3 (by decide);have e44:a'.eval (.tmp 44)=.pointer (some ⟨b,off+j*2,none⟩):=hP' 4 (by decide);obtain⟨u45,e45⟩:∃u,a'.eval (.tmp 45)=u:=⟨_,rfl⟩;obtain⟨u46,e46⟩:∃u,a'.eval (.tmp 46)=u:=⟨_,rfl⟩;obtain⟨u47,e47⟩:∃u,a'.eval (.tmp 47)=u:=⟨_,rfl⟩;have hT:(OutN (z/gcdL zs) (3*L)) (a'.eval (.tmp 47)) w':=hP' 7 (by decide);rw[e47]at hT;refine ada hn' hd' hR' (.same rfl <| .same rfl <| .same rfl <| .same rfl <| .same rfl <| .same rfl <| .same rfl <| .same rfl <| .same rfl <| .same rfl <| .same rfl <| .same rfl <| .same rfl <| .same rfl <| .same rfl <| .same rfl <| .same rfl <| .same rfl <| .same rfl <| .same rfl <| .same rfl <| .same rfl <| .same rfl <| .same rfl <| .same rfl <| .same rfl <| .same rfl <| .same rfl <| .same rfl <| .same rfl <| .same rfl <| .same rfl <| .same rfl <| .same rfl <| .same rfl <| .same rfl <| .same rfl <| .same rfl <| .same rfl <| .same rfl <| .new e40 <| .new e41 <| .new e42 <| .new e43 <| .new e44 <| .new e45 <| .new e46 <| .new e47 <| .same rfl <| .same rfl <| .same rfl <| .same rfl <| .same rfl <| .same rfl <| .same rfl <| .same rfl <| .same rfl <| .same rfl <| .same rfl <| .same rfl <| .nil) ?_;clear e40 e41 e42 e43 e44 e45 e46 e47;obtain⟨ng1,a1,m1,c1,rfl⟩:=hT.agg;obtain⟨⟨ngq,aq,mq,cq,c0',c1'⟩,f0,f1⟩:=(HPw.out.below hB').pn.cells (k:=j) (by omega);have hbv:=HBV.out;by_cases hs:sk<0
        ·have hs':decide (sk<0)=true:=by simpa using hs
         have hset:((red zs).set j (z/gcdL zs))[j]? = some (z/gcdL zs):=by rw[List.getElem?_set_self (by have:=HZL.out;omega)]
         obtain⟨hp2,hbl⟩:=(show PZ w2 bv k j ((red zs).set j (z/gcdL zs)) (3*L)from by obtain⟨es,q1,q2,q3,q4⟩:=HPw.out;exact⟨es,q1,q2,fun i e y hi he hy=>q3 i e y hi he (by rwa[List.getElem?_set_ne (by omega)]at hy),q4⟩).put hB' (by omega) hset hT;have HP3:=hide hp2;have HW3:=hide (HW2.out.trans (hbl w.heap.size (by omega) HW2.out.size));have hgl3:=hbl (w.heap.size+1) (by omega) (by omega);have HGB3:=hide ((hgl3.block _ (by omega)).trans HGB2.out);have HG3:=hide (HG2.out.rl ((Rl.of_below hB').trans (show Rl w' ((w'.setCell ⟨bv,j*2,none⟩ (.bool ng1)).setCell ⟨bv,j*2+1,none⟩ (.slice a1 m1 c1)) by obtain⟨es,q1,q2,_⟩:=HPw.out;obtain⟨W,hW,_,hr,_⟩:=nset (ng:=ng1) (a:=a1) (m:=m1) (c:=c1) (i:=j) ((hB'.block bv HPw.out.pn.lt).trans q2) (by omega);rw[<-hW];exact hr)));have HT3:Hid (z/dvs zs = -(z/gcdL zs)):=(show _=_ by rw[dvs,if_pos (by rw[HSK.out];exact hs),Int.ediv_neg]);clear hB' hR' hP' hn' hd' hT hset hp2 hbl hgl3 g0 g1 gf0 gf1 hgl hs;go_upto_region 16 with fail
         generalize ((w'.setCell ⟨bv,j*2,none⟩ (.bool ng1)).setCell ⟨bv,j*2+1,none⟩ (.slice a1 m1 c1))=w3 at *
         obtain⟨ngd,ad,md,cd,d0,d1,hd⟩:=HP3.out.pn.at (k:=j) (by omega) (by omega) (by rw[List.getElem?_set_self (by have:=HZL.out;omega)]);rw[Nat.zero_add]at d0 d1;have K2:=hide (nminusF w3 _ _ _ hd (by omega));clear c0' c1' f0 f1 hd;go_wp2_with fail
         refine K2.out.mono ?_;rintro e w4 ⟨r4,rfl,hr4,hb4⟩;obtain⟨ng4,a4,m4,c4,rfl⟩:=hr4.agg;obtain⟨⟨ngq,aq,mq,cq,c0',c1'⟩,f0,f1⟩:=(HP3.out.below hb4).pn.cells (k:=j) (by omega);rw[<-HT3.out]at hr4;obtain⟨hp5,hbl⟩:=HP3.out.over hb4 (by omega) HRD.out hr4;have HP5:=hide hp5;have HW5:=hide (HW3.out.trans (hbl w.heap.size (by omega) HW3.out.size));have hl3:=aaa HGB3.out;have hgl5:=hbl (w.heap.size+1) (by omega) (by omega);have HGB5:=hide ((hgl5.block _ (by omega)).trans HGB3.out);have HG5:=hide (HG3.out.rl ((Rl.of_below hb4).trans (show Rl w4 ((w4.setCell ⟨bv,j*2,none⟩ (.bool ng4)).setCell ⟨bv,j*2+1,none⟩ (.slice a4 m4 c4)) by obtain⟨es,q1,q2,_⟩:=HP3.out;obtain⟨W,hW,_,hr,_⟩:=nset (ng:=ng4) (a:=a4) (m:=m4) (c:=c4) (i:=j) ((hb4.block bv HP3.out.pn.lt).trans q2) (by omega);rw[<-hW];exact hr)));clear d0 d1 hr4 hb4 hp5 hbl hl3 hgl5 K2;go_wp2;go_roundw
         case rel=>exact⟨j+1,by go_num,by omega,HW5.out,HP5.out,HGB5.out,HG5.out⟩
         case measure=>simp[intOf];omega
        ·have hs':decide (sk<0)=false:=by simpa using hs
         have HT3:Hid (z/dvs zs=z/gcdL zs):=(show _=_ by rw[dvs,if_neg (by rw[HSK.out];exact hs)]);rw[<-HT3.out]at hT;obtain⟨hp2,hbl⟩:=HPw.out.put hB' (by omega) HRD.out hT;have HP3:=hide hp2;have HW3:=hide (HW2.out.trans (hbl w.heap.size (by omega) HW2.out.size));have hgl3:=hbl (w.heap.size+1) (by omega) (by omega);have HGB3:=hide ((hgl3.block _ (by omega)).trans HGB2.out);have HG3:=hide (HG2.out.rl ((Rl.of_below hB').trans (show Rl w' ((w'.setCell ⟨bv,j*2,none⟩ (.bool ng1)).setCell ⟨bv,j*2+1,none⟩ (.slice a1 m1 c1)) by obtain⟨es,q1,q2,_⟩:=HPw.out;obtain⟨W,hW,_,hr,_⟩:=nset (ng:=ng1) (a:=a1) (m:=m1) (c:=c1) (i:=j) ((hB'.block bv HPw.out.pn.lt).trans q2) (by omega);rw[<-hW];exact hr)));clear hB' hR' hP' hn' hd' hT hp2 hbl hgl3 g0 g1 gf0 gf1 hgl hs;go_wp2;go_roundw
         case rel=>exact⟨j+1,by go_num,by omega,HW3.out,HP3.out,HGB3.out,HG3.out⟩
         case measure=>simp[intOf];omega
     ·have hlt':decide ((j:Int)<(k:Int))=false:=by simp;omega
      obtain rfl:j=k:=by omega
      clear hlt hbw hp hgb hgo g0 g1 gf0 gf1 hgl;go_wp2;refine bodyPost_ret (v:=_) (abv rfl rfl) rfl ⟨_,rfl,HP.out.pn.nrow HZL.out (by omega),HW.out⟩
def ptS(s:ByteArray)(i:Nat):Nat×Nat:=if Utf8.decode s i=(65533,1) then(0,0)else Utf8.decode s i
theorem abu{s:ByteArray}{i:Nat}(h:Utf8.decode s i=(65533,1)):ptS s i=(0,0):=by unfold ptS;rw[if_pos h]
theorem aji{s:ByteArray}{i:Nat}{c k:Nat}(h:Utf8.decode s i=(c,k))(hn:(c,k)≠(65533,1)):ptS s i=(c,k):=by unfold ptS;rw[h,if_neg hn]
theorem ak9(S:ByteArray)(i:Nat)(h:i<S.size):(S[i]'h).toNat=(S.get! i).toNat:=by rw[getS S i h]
theorem a2d{n b0 b1 b2 b3:Nat}(h:b0<128):Lib.decodeN n b0 b1 b2 b3=(b0,1):=by
 unfold Lib.decodeN;rw[if_pos h]
theorem a2e{n b0 b1 b2 b3:Nat}(h0:(128<=b0/\b0<=191)\/248<=b0)(h1:b0<256):Lib.decodeN n b0 b1 b2 b3=(65533,1):=by
 unfold Lib.decodeN;rw[if_neg (by omega),if_neg (by omega),if_neg (by omega),if_neg (by omega)]
theorem aun{n b0 b1 b2 b3:Nat}(h0:192<=b0/\b0<=223)(h:¬(1<n/\128<=b1/\b1<=191)):Lib.decodeN n b0 b1 b2 b3=(65533,1):=by
 unfold Lib.decodeN;rw[if_neg (by omega),if_neg (by omega),if_neg (by omega),if_neg (by omega)]
theorem a0f{n b0 b1 b2 b3:Nat}(h0:192<=b0/\b0<=223)(h:1<n/\128<=b1/\b1<=191):Lib.decodeN n b0 b1 b2 b3=if (b0-192)*64+(b1-128)≥128 then((b0-192)*64+(b1-128),2) else(65533,1):=by
 unfold Lib.decodeN;rw[if_neg (by omega),if_pos (by omega),show b0%32=b0-192 from by omega,show b1%64=b1-128 from by omega]
theorem ajj{n b0 b1 b2 b3:Nat}(h0:224<=b0/\b0<=239)(h:¬((1<n/\128<=b1/\b1<=191)/\(2<n/\128<=b2/\b2<=191))):Lib.decodeN n b0 b1 b2 b3=(65533,1):=by
 unfold Lib.decodeN;rw[if_neg (by omega),if_neg (by omega),if_neg (by omega),if_neg (by omega)]
theorem a0g{n b0 b1 b2 b3:Nat}(h0:224<=b0/\b0<=239)(h1:1<n/\128<=b1/\b1<=191)(h2:2<n/\128<=b2/\b2<=191):Lib.decodeN n b0 b1 b2 b3=if (b0-224)*4096+(b1-128)*64+(b2-128)≥2048/\((b0-224)*4096+(b1-128)*64+(b2-128)<55296\/(57344<=(b0-224)*4096+(b1-128)*64+(b2-128)/\(b0-224)*4096+(b1-128)*64+(b2-128)<=1114111)) then((b0-224)*4096+(b1-128)*64+(b2-128),3) else(65533,1):=by
 unfold Lib.decodeN;rw[if_neg (by omega),if_neg (by omega),if_pos (by omega),show b0%16=b0-224 from by omega,show b1%64=b1-128 from by omega,show b2%64=b2-128 from by omega]
theorem afv{n b0 b1 b2 b3:Nat}(h0:240<=b0/\b0<=247)(h:¬((1<n/\128<=b1/\b1<=191)/\(2<n/\128<=b2/\b2<=191)/\(3<n/\128<=b3/\b3<=191))):Lib.decodeN n b0 b1 b2 b3=(65533,1):=by
 unfold Lib.decodeN;rw[if_neg (by omega),if_neg (by omega),if_neg (by omega),if_neg (by omega)]
theorem a0h{n b0 b1 b2 b3:Nat}(h0:240<=b0/\b0<=247)(h1:1<n/\128<=b1/\b1<=191)(h2:2<n/\128<=b2/\b2<=191)(h3:3<n/\128<=b3/\b3<=191):Lib.decodeN n b0 b1 b2 b3=if (b0-240)*262144+(b1-128)*4096+(b2-128)*64+(b3-128)≥65536/\((b0-240)*262144+(b1-128)*4096+(b2-128)*64+(b3-128)<55296\/(57344<=(b0-240)*262144+(b1-128)*4096+(b2-128)*64+(b3-128)/\(b0-240)*262144+(b1-128)*4096+(b2-128)*64+(b3-128)<=1114111)) then((b0-240)*262144+(b1-128)*4096+(b2-128)*64+(b3-128),4) else(65533,1):=by
 unfold Lib.decodeN;rw[if_neg (by omega),if_neg (by omega),if_neg (by omega),if_pos (by omega),show b0%8=b0-240 from by omega,show b1%64=b1-128 from by omega,show b2%64=b2-128 from by omega,show b3%64=b3-128 from by omega]
theorem akq(w:World)(s:ByteArray)(i:Nat)(h:i<s.size)(hm:s.size<=100000):
  Calls Tryz.prog 172 #[.string s,.int .i64 i] w fun e w'=>e=.returned (.tuple #[.int .i64 (ptS s i).1,.int .i64 (ptS s i).2])/\w'=w:=by
 have hd:=Lib.decode_at s i;have e0:=ak9 s i h;have e1:=fun(k:i+1<s.size)=>ak9 s (i+1) k
 have e2:=fun(k:i+2<s.size)=>ak9 s (i+2) k
 have e3:=fun(k:i+3<s.size)=>ak9 s (i+3) k
 have u0:(s.get! i).toNat<256:=UInt8.toNat_lt _;generalize (s.get! i).toNat=b0 at hd e0 u0;generalize (s.get! (i+1)).toNat=b1 at hd e1;generalize (s.get! (i+2)).toNat=b2 at hd e2;generalize (s.get! (i+3)).toNat=b3 at hd e3;by_cases ha:b0<128
 ·rw[aji (hd.trans (a2d ha)) (by intro he;injection he with q1 q2;omega)];exact pt_a w s i b0 h hm e0 ha
 by_cases hz:(128<=b0/\b0<=191)\/248<=b0
 ·rw[abu (hd.trans (a2e hz u0))];exact pt_z w s i b0 h hm e0 hz
 by_cases r2:b0<=223
 ·have g:192<=b0/\b0<=223:=by omega
  by_cases s1:i+1<s.size
  ·by_cases c1:128<=b1/\b1<=191
   ·have hv:=hd.trans (a0f g ⟨by omega,c1⟩);by_cases v1:(b0-192)*64+(b1-128)≥128
    ·rw[if_pos v1]at hv;rw[aji hv (by intro he;injection he with q1 q2;omega)];exact a16 w s i b0 h hm e0 g b1 s1 (e1 s1) c1 v1
    ·rw[if_neg v1]at hv;rw[abu hv];exact azy w s i b0 h hm e0 g b1 s1 (e1 s1) c1 (by omega)
   ·rw[abu (hd.trans (aun g (by omega)))];exact aw6 w s i b0 h hm e0 g b1 s1 (e1 s1) (by omega)
  ·rw[abu (hd.trans (aun g (by omega)))];exact ara w s i b0 h hm e0 g (by omega)
 by_cases r3:b0<=239
 ·have g:224<=b0/\b0<=239:=by omega
  by_cases s1:i+1<s.size
  ·by_cases c1:128<=b1/\b1<=191
   ·by_cases s2:i+2<s.size
    ·by_cases c2:128<=b2/\b2<=191
     ·have hv:=hd.trans (a0g g ⟨by omega,c1⟩ ⟨by omega,c2⟩);by_cases v1:(b0-224)*4096+(b1-128)*64+(b2-128)≥2048
      ·by_cases v2:55296<=(b0-224)*4096+(b1-128)*64+(b2-128)/\(b0-224)*4096+(b1-128)*64+(b2-128)<=57343
       ·rw[if_neg (by omega)]at hv;rw[abu hv];exact az0 w s i b0 h hm e0 g b1 s1 (e1 s1) c1 b2 s2 (e2 s2) c2 v2
       ·rw[if_pos (by omega)]at hv;rw[aji hv (by intro he;injection he with q1 q2;omega)];exact a17 w s i b0 h hm e0 g b1 s1 (e1 s1) c1 b2 s2 (e2 s2) c2 v1 (by omega)
      ·rw[if_neg (by omega)]at hv;rw[abu hv];exact azz w s i b0 h hm e0 g b1 s1 (e1 s1) c1 b2 s2 (e2 s2) c2 (by omega)
     ·rw[abu (hd.trans (ajj g (by omega)))];exact aw8 w s i b0 h hm e0 g b1 s1 (e1 s1) c1 b2 s2 (e2 s2) (by omega)
    ·rw[abu (hd.trans (ajj g (by omega)))];exact arc w s i b0 h hm e0 g b1 s1 (e1 s1) c1 (by omega)
   ·rw[abu (hd.trans (ajj g (by omega)))];exact aw7 w s i b0 h hm e0 g b1 s1 (e1 s1) (by omega)
  ·rw[abu (hd.trans (ajj g (by omega)))];exact arb w s i b0 h hm e0 g (by omega)
 ·have g:240<=b0/\b0<=247:=by omega
  by_cases s1:i+1<s.size
  ·by_cases c1:128<=b1/\b1<=191
   ·by_cases s2:i+2<s.size
    ·by_cases c2:128<=b2/\b2<=191
     ·by_cases s3:i+3<s.size
      ·by_cases c3:128<=b3/\b3<=191
       ·have hv:=hd.trans (a0h g ⟨by omega,c1⟩ ⟨by omega,c2⟩ ⟨by omega,c3⟩);by_cases v1:(b0-240)*262144+(b1-128)*4096+(b2-128)*64+(b3-128)≥65536
        ·by_cases v2:(b0-240)*262144+(b1-128)*4096+(b2-128)*64+(b3-128)<=1114111
         ·rw[if_pos (by omega)]at hv;rw[aji hv (by intro he;injection he with q1 q2;omega)];exact a18 w s i b0 h hm e0 g b1 s1 (e1 s1) c1 b2 s2 (e2 s2) c2 b3 s3 (e3 s3) c3 ⟨v1,v2⟩
         ·rw[if_neg (by omega)]at hv;rw[abu hv];exact axc w s i b0 h hm e0 g b1 s1 (e1 s1) c1 b2 s2 (e2 s2) c2 b3 s3 (e3 s3) c3 (by omega)
        ·rw[if_neg (by omega)]at hv;rw[abu hv];exact az1 w s i b0 h hm e0 g b1 s1 (e1 s1) c1 b2 s2 (e2 s2) c2 b3 s3 (e3 s3) c3 (by omega)
       ·rw[abu (hd.trans (afv g (by omega)))];exact axb w s i b0 h hm e0 g b1 s1 (e1 s1) c1 b2 s2 (e2 s2) c2 b3 s3 (e3 s3) (by omega)
      ·rw[abu (hd.trans (afv g (by omega)))];exact arg w s i b0 h hm e0 g b1 s1 (e1 s1) c1 b2 s2 (e2 s2) c2 (by omega)
     ·rw[abu (hd.trans (afv g (by omega)))];exact axa w s i b0 h hm e0 g b1 s1 (e1 s1) c1 b2 s2 (e2 s2) (by omega)
    ·rw[abu (hd.trans (afv g (by omega)))];exact arf w s i b0 h hm e0 g b1 s1 (e1 s1) c1 (by omega)
   ·rw[abu (hd.trans (afv g (by omega)))];exact aw9 w s i b0 h hm e0 g b1 s1 (e1 s1) (by omega)
  ·rw[abu (hd.trans (afv g (by omega)))];exact ard w s i b0 h hm e0 g (by omega)
def Rdr(w:World)(q:Nat)(s:ByteArray)(p:Pl):Prop:=w.heap[q]? = some (.cells #[.string s,.int .i64 p.b,.int .i64 p.g,.int .i64 p.l,.int .i64 p.c] 165 (0,0))
theorem Rdr.below{w w':World}{q:Nat}{s:ByteArray}{p:Pl}(h:Rdr w q s p)(hb:Below w.heap.size w w'):Rdr w' q s p:=(hb.block q (aaa h)).trans h
structure RdrC (w:World) (q:Nat) (s:ByteArray) (p:Pl):Prop where
 hq:q<w.heap.size
 k0:w.cell? ⟨q,0,none⟩=some (.string s)
 k1:w.cell? ⟨q,1,none⟩=some (.int .i64 p.b)
 k2:w.cell? ⟨q,2,none⟩=some (.int .i64 p.g)
 k3:w.cell? ⟨q,3,none⟩=some (.int .i64 p.l)
 k4:w.cell? ⟨q,4,none⟩=some (.int .i64 p.c)
 f1:w.frozen? ⟨q,1,none⟩=false
 f2:w.frozen? ⟨q,2,none⟩=false
 f3:w.frozen? ⟨q,3,none⟩=false
 f4:w.frozen? ⟨q,4,none⟩=false
theorem Rdr.cells{w:World}{q:Nat}{s:ByteArray}{p:Pl}(h:Rdr w q s p):RdrC w q s p:=by
 exact⟨aaa h,by rw[cell_of_row w q 0 _ _ _ h];rfl,by rw[cell_of_row w q 1 _ _ _ h];rfl,by rw[cell_of_row w q 2 _ _ _ h];rfl,by rw[cell_of_row w q 3 _ _ _ h];rfl,by rw[cell_of_row w q 4 _ _ _ h];rfl,frozen_of_row w q 1 _ _ h,frozen_of_row w q 2 _ _ h,frozen_of_row w q 3 _ _ h,frozen_of_row w q 4 _ _ h⟩
def rpos(w:World)(q:Nat):Nat:=match w.cell? ⟨q,1,none⟩with|some (.int _ z)=>z.toNat|_=>0
theorem Rdr.pos{w:World}{q:Nat}{s:ByteArray}{p:Pl}(h:Rdr w q s p):rpos w q=p.b:=by
 unfold rpos;rw[h.cells.k1];simp
theorem auo(w:World)(s:ByteArray):
  Calls Tryz.prog 114 #[.string s] w fun r w'=>∃q,w.heap.size<=q/\r=.returned (.pointer (some ⟨q,0,none⟩))/\Rdr w' q s pl0/\Below w.heap.size w w':=by
 go_enter Tryz.func114,Tryz.ntmps114
 go_wp2;go_ret;exact⟨w.heap.size,Nat.le_refl _,rfl,heap_alloc_new w _,(Below.refl _ _).alloc (Nat.le_refl _) _⟩
theorem aj1(w:World)(q:Nat)(s:ByteArray)(p:Pl)(h:Rdr w q s p):
  Calls Tryz.prog 171 #[.pointer (some ⟨q,0,none⟩)] w fun r w'=>r=.returned (.bool (decide (s.size<=p.b)))/\Below w.heap.size w w':=by
 obtain⟨hq,k0,k1,k2,k3,k4,f1,f2,f3,f4⟩:=h.cells;clear h;have hde:decide ((s.size:Int)<=(p.b:Int))=decide (s.size<=p.b):=by simp
 go_enter Tryz.func171,Tryz.ntmps171
 go_wp2_with fail
 go_quiet (fail)
 go_wp2;go_ret;refine⟨by simp,?_⟩
 (repeat' first|with_reducible(first|exact Below.refl _ _|assumption|refine gdrewN ?_ _|refine Below.alloc ?_ ?_ _|refine Below.drew ?_|refine Below.setCell ?_ ?_ _)|go_size)
def lookS(s:ByteArray)(p:Pl):Int:=if s.size<=p.b then -1 else if Utf8.decode s p.b=(65533,1)then -2 else((Utf8.decode s p.b).1:Int)
theorem aa1(w:World)(q:Nat)(s:ByteArray)(p:Pl)(h:Rdr w q s p)(hm:s.size<=100000):
  Calls Tryz.prog 143 #[.pointer (some ⟨q,0,none⟩)] w fun r w'=>r=.returned (.int .i64 (lookS s p))/\Below w.heap.size w w':=by
 have H:=hide h;unfold lookS;by_cases he:s.size<=p.b
 ·rw[if_pos he];have he':decide (s.size<=p.b)=true:=by simp[he]
  clear h;go_enter Tryz.func143,Tryz.ntmps143
  go_wp2_with fail
  refine(aj1 w q s p H.out).mono ?_;rintro r w1 ⟨rfl,hb⟩;rw[he'];go_wp2;go_ret;exact⟨rfl,hb⟩
 ·rw[if_neg he];have he':decide (s.size<=p.b)=false:=by simp;omega
  have KP:=fun(w:World)=>akq w s p.b (by omega) hm
  unfold ptS at KP;clear h;by_cases hd:Utf8.decode s p.b=(65533,1)
  ·rw[if_pos hd];simp only[if_pos hd]at KP;go_enter Tryz.func143,Tryz.ntmps143
   go_wp2_with fail
   refine(aj1 w q s p H.out).mono ?_;rintro r w1 ⟨rfl,hb⟩;rw[he'];obtain⟨hq,k0,k1,k2,k3,k4,f1,f2,f3,f4⟩:=(H.out.below hb).cells;have HB:=hide hb;clear hb hd;go_wp2_with fail
   go_quiet ((go_at_call 172;exact Calls.quiet_of_same (KP _)))
   go_wp2;go_ret;refine⟨rfl,?_⟩;have hB:=HB.out;exact gdrewN hB _
  ·rw[if_neg hd];simp only[if_neg hd]at KP;have hk:=abq s p.b (by omega);have HD:=hide hd;clear hd;generalize Utf8.decode s p.b=dc at KP hk ⊢;obtain⟨c,k⟩:=dc;simp only at KP hk ⊢;have hk0:((k:Int)==0)=false:=beq_eq_false_iff_ne.2 (by omega);go_enter Tryz.func143,Tryz.ntmps143
   go_wp2_with fail
   refine(aj1 w q s p H.out).mono ?_;rintro r w1 ⟨rfl,hb⟩;rw[he'];obtain⟨hq,k0,k1,k2,k3,k4,f1,f2,f3,f4⟩:=(H.out.below hb).cells;have HB:=hide hb;clear hb;go_wp2_with fail
   go_quiet ((go_at_call 172;exact Calls.quiet_of_same (KP _)))
   go_wp2;go_ret;refine⟨rfl,?_⟩;have hB:=HB.out;exact gdrewN hB _
theorem ace(w:World)(q:Nat)(s:ByteArray)(p:Pl)(h:Rdr w q s p)(hm:s.size<=100000)(hp:p.b<s.size)(hok:p.ok)(hv:Utf8.decode s p.b≠(65533,1)):
  Calls Tryz.prog 145 #[.pointer (some ⟨q,0,none⟩)] w fun r w'=>r=.returned (.tuple #[])/\Tq w w' q/\Rdr w' q s (p.past (Utf8.decode s p.b).1 (Utf8.decode s p.b).2):=by
 have H:=hide h;have KP:=fun(w:World)=>akq w s p.b hp hm
 unfold ptS at KP;simp only[if_neg hv]at KP;have hk:=abq s p.b hp;have hg:=hok.g;have hl:=hok.l;have hc:=hok.c;clear hv hok;generalize Utf8.decode s p.b=dc at KP hk ⊢;obtain⟨c,k⟩:=dc;simp only at KP hk ⊢;unfold Pl.past;obtain⟨hq,k0,k1,k2,k3,k4,f1,f2,f3,f4⟩:=h.cells;clear h;by_cases h10:c=10
 ·subst h10;rw[if_pos rfl,if_pos rfl];go_enter Tryz.func145,Tryz.ntmps145
  go_wp2_with fail
  go_quiet ((go_at_call 172;exact Calls.quiet_of_same (KP _)))
  go_wp2;go_returns
  refine⟨rfl,(Tq.of_below (gdrewN (Below.refl _ _) nq)).set 1 _ |>.set 2 _ |>.set 4 _ |>.set 3 _ |>.set 4 _,?_⟩;unfold Rdr;rw[heap_setCell_same _ _ 4 _ _ _ (heap_setCell_same _ _ 3 _ _ _ (heap_setCell_same _ _ 4 _ _ _ (heap_setCell_same _ _ 2 _ _ _ (heap_setCell_same _ _ 1 _ _ _ (show(w.drewN nq).heap[q]? = _ from H.out)))))];simp
 ·rw[if_neg h10,if_neg h10];have h10':((c:Int)==10)=false:=beq_eq_false_iff_ne.2 (by omega);go_enter Tryz.func145,Tryz.ntmps145
  go_wp2_with fail
  go_quiet ((go_at_call 172;exact Calls.quiet_of_same (KP _)))
  go_wp2;go_returns
  refine⟨rfl,(Tq.of_below (gdrewN (Below.refl _ _) nq)).set 1 _ |>.set 2 _ |>.set 4 _,?_⟩;unfold Rdr;rw[heap_setCell_same _ _ 4 _ _ _ (heap_setCell_same _ _ 2 _ _ _ (heap_setCell_same _ _ 1 _ _ _ (show(w.drewN nq).heap[q]? = _ from H.out)))];simp
theorem abd{s:ByteArray}{p e:Pl}{g:Gl}{gs:List Gl}(h:Snd s p (g::gs) e):lookS s p=(g.code:Int):=by
 obtain⟨_,h1,h2,h3,_⟩:=h.tail;unfold lookS;rw[if_neg (by omega),if_neg h3,h2]
theorem adp{s:ByteArray}{p e:Pl}(h:Snd s p [] e):p=e/\(s.size<=e.b->lookS s p = -1)/\(e.b<s.size->lookS s p = -2):=by
 cases h with
 |stop _ h=>
  refine⟨rfl,fun hs=>by unfold lookS;rw[if_pos hs],fun hs=>?_⟩;rcases h with h|h
  ·omega
  ·unfold lookS;rw[if_neg (by omega),if_pos h.2]
theorem arq(w:World)(q:Nat)(s:ByteArray)(p:Pl)(gs:List Gl)(e:Pl)(h:Rdr w q s p)(hm:s.size<=100000)(hQ:Snd s p gs e)(hok:p.ok)(hpb:p.b<=s.size):
  Calls Tryz.prog 115 #[.pointer (some ⟨q,0,none⟩)] w fun r w'=>Tq w w' q/\∃p',Snd s p' (skp false gs) e/\p'.ok/\p'.b<=s.size/\Rdr w' q s p'/\((skp false gs = []/\e.b<s.size/\r=.returned (.int .i64 40))\/((skp false gs≠[]\/s.size<=e.b)/\r=.returned (.int .i64 0))):=by
 have H:=hide h;have HQ:=hide hQ;have HO:=hide hok;clear h hQ hok;go_enter Tryz.func115,Tryz.ntmps115
 go_wp2_with fail
 go_loopw [3] (fun cv wr=>∃(c:Bool) (p':Pl) (gs':List Gl),cv=.bool c/\Snd s p' gs' e/\p'.ok/\p'.b<=s.size/\skp false gs=skp c gs'/\Rdr wr q s p'/\Tq w wr q) (fun _ wr=>s.size-rpos wr q)
 case atStart=>exact⟨false,p,gs,rfl,HQ.out,HO.out,hpb,rfl,H.out,Tq.refl _ _⟩
 case round=>
  obtain⟨c,p',gs',rfl,hS,hok,hb,hk,hR,hT⟩:=hrel;have HS:=hide hS;have HK:=hide hk;have HR:=hide hR;have HT:=hide hT;have HO':=hide hok;have IP:=hide hR.pos;clear hk hR hT hok;cases gs' with
  |nil=>
   obtain⟨rfl,hl1,hl2⟩:=adp hS;clear hS;have hsk:skp false gs = []:=by rw[HK.out];cases c <;> rfl
   have HSK:=hide hsk;clear hsk;by_cases hbe:s.size<=p'.b
   ·have hl:=hl1 hbe;clear hl1 hl2;go_wp2_with fail
    refine(aa1 wr q s p' HR.out hm).mono ?_;rintro r w2 ⟨rfl,hb2⟩;rw[hl];go_wp2;go_ret;refine⟨HT.out.trans (.of_below hb2),p',by rw[HSK.out];exact HS.out,HO'.out,hb,HR.out.below hb2,.inr ⟨.inr hbe,rfl⟩⟩
   ·have hl:=hl2 (by omega);clear hl1 hl2;go_wp2_with fail
    refine(aa1 wr q s p' HR.out hm).mono ?_;rintro r w2 ⟨rfl,hb2⟩;rw[hl];go_wp2;go_ret;refine⟨HT.out.trans (.of_below hb2),p',by rw[HSK.out];exact HS.out,HO'.out,hb,HR.out.below hb2,.inl ⟨HSK.out,by omega,rfl⟩⟩
  |cons g gs''=>
   have hl:=abd hS;obtain⟨t1,t2,t3,t4,t5,t6⟩:=hS.tail;clear hS;have HN:=hide (fun(W:World) (h:Rdr W q s p')=>ace W q s p' h hm t2 HO'.out t4);have hd:=abq s p'.b t2;have HO2:=hide (HO'.out.past (Utf8.decode s p'.b).1 (Utf8.decode s p'.b).2 hd.1);have HS2:=hide t5;have hpos:(p'.past (Utf8.decode s p'.b).1 (Utf8.decode s p'.b).2).b=p'.b+(Utf8.decode s p'.b).2:=rfl;generalize p'.past (Utf8.decode s p'.b).1 (Utf8.decode s p'.b).2=p2 at HN HO2 HS2 hpos;have hpos':p'.b<p2.b/\p2.b<=s.size:=by omega
   have hg0:0<=(g.code:Int):=by omega
   have n2:((g.code:Int) == -2)=false:=beq_eq_false_iff_ne.2 (by omega);have n1:((g.code:Int) == -1)=false:=beq_eq_false_iff_ne.2 (by omega);clear t1 t2 t3 t4 t5 t6 hd hpos;go_wp2_with fail
   refine(aa1 wr q s p' HR.out hm).mono ?_;rintro r w2 ⟨rfl,hb2⟩;rw[hl];replace HR:=hide (HR.out.below hb2);replace HT:=hide (HT.out.trans (.of_below hb2));clear hb2 hl;have HGC:Hid (g.code=10->gcls g.code=1):=by intro h;rw[h];rfl
   cases c with
   |true=>
    by_cases h10:g.code=10
    ·have q1:((g.code:Int)==10)=true:=by rw[h10];rfl
     have q2:gcls (g.code:Int)=1:=HGC.out h10;have q3:(gcls (g.code:Int)==6)=false:=by rw[q2];rfl
     have q4:(gcls (g.code:Int) != 1)=false:=by rw[q2];rfl
     have H10:=hide h10;clear h10 q2;go_wp2_with (go_at_call 144;refine(abg _ _).mono ?_;rintro r w' ⟨rfl,rfl⟩)
     refine(HN.out _ HR.out).mono ?_;rintro r w3 ⟨rfl,ht3,hR3⟩;have HR3:=hide hR3;have HT3:=hide (HT.out.trans ht3);clear ht3 hR3;go_wp2;go_roundw
     case rel=>exact⟨false,p2,gs'',rfl,HS2.out,HO2.out,hpos'.2,by rw[HK.out,skp];simp[H10.out],HR3.out,HT3.out⟩
     case measure=>rw[IP.out,HR3.out.pos];omega
    ·have q1:((g.code:Int)==10)=false:=beq_eq_false_iff_ne.2 (by omega);have H10:=hide h10;clear h10;by_cases h6:gcls (g.code:Int)=6
     ·have q3:(gcls (g.code:Int)==6)=true:=by rw[h6];rfl
      clear h6;go_wp2_with (go_at_call 144;refine(abg _ _).mono ?_;rintro r w' ⟨rfl,rfl⟩)
      refine(HN.out _ HR.out).mono ?_;rintro r w3 ⟨rfl,ht3,hR3⟩;have HR3:=hide hR3;have HT3:=hide (HT.out.trans ht3);clear ht3 hR3;go_wp2;go_roundw
      case rel=>exact⟨true,p2,gs'',rfl,HS2.out,HO2.out,hpos'.2,by rw[HK.out,skp];simp[H10.out],HR3.out,HT3.out⟩
      case measure=>rw[IP.out,HR3.out.pos];omega
     ·have q3:(gcls (g.code:Int)==6)=false:=beq_eq_false_iff_ne.2 h6;clear h6;go_wp2_with (go_at_call 144;refine(abg _ _).mono ?_;rintro r w' ⟨rfl,rfl⟩)
      refine(HN.out _ HR.out).mono ?_;rintro r w3 ⟨rfl,ht3,hR3⟩;have HR3:=hide hR3;have HT3:=hide (HT.out.trans ht3);clear ht3 hR3;go_wp2;go_roundw
      case rel=>exact⟨true,p2,gs'',rfl,HS2.out,HO2.out,hpos'.2,by rw[HK.out,skp];simp[H10.out],HR3.out,HT3.out⟩
      case measure=>rw[IP.out,HR3.out.pos];omega
   |false=>
    by_cases h10:g.code=10
    ·have q1:((g.code:Int)==10)=true:=by rw[h10];rfl
     have q2:gcls (g.code:Int)=1:=HGC.out h10;have q3:(gcls (g.code:Int)==6)=false:=by rw[q2];rfl
     have q4:(gcls (g.code:Int) != 1)=false:=by rw[q2];rfl
     have H2:=hide q2;clear h10 q2;go_wp2_with (go_at_call 144;refine(abg _ _).mono ?_;rintro r w' ⟨rfl,rfl⟩)
     refine(HN.out _ HR.out).mono ?_;rintro r w3 ⟨rfl,ht3,hR3⟩;have HR3:=hide hR3;have HT3:=hide (HT.out.trans ht3);clear ht3 hR3;go_wp2;go_roundw
     case rel=>exact⟨false,p2,gs'',rfl,HS2.out,HO2.out,hpos'.2,by rw[HK.out,skp];simp[H2.out],HR3.out,HT3.out⟩
     case measure=>rw[IP.out,HR3.out.pos];omega
    ·have q1:((g.code:Int)==10)=false:=beq_eq_false_iff_ne.2 (by omega);clear h10;by_cases h6:gcls (g.code:Int)=6
     ·have q3:(gcls (g.code:Int)==6)=true:=by rw[h6];rfl
      have H6:=hide h6;clear h6;go_wp2_with (go_at_call 144;refine(abg _ _).mono ?_;rintro r w' ⟨rfl,rfl⟩)
      refine(HN.out _ HR.out).mono ?_;rintro r w3 ⟨rfl,ht3,hR3⟩;have HR3:=hide hR3;have HT3:=hide (HT.out.trans ht3);clear ht3 hR3;go_wp2;go_roundw
      case rel=>exact⟨true,p2,gs'',rfl,HS2.out,HO2.out,hpos'.2,by rw[HK.out,skp];simp[H6.out],HR3.out,HT3.out⟩
      case measure=>rw[IP.out,HR3.out.pos];omega
     ·have q3:(gcls (g.code:Int)==6)=false:=beq_eq_false_iff_ne.2 h6;by_cases h1:gcls (g.code:Int)=1
      ·have q4:(gcls (g.code:Int) != 1)=false:=by rw[h1];rfl
       have H1:=hide h1;clear h1 h6;go_wp2_with (go_at_call 144;refine(abg _ _).mono ?_;rintro r w' ⟨rfl,rfl⟩)
       refine(HN.out _ HR.out).mono ?_;rintro r w3 ⟨rfl,ht3,hR3⟩;have HR3:=hide hR3;have HT3:=hide (HT.out.trans ht3);clear ht3 hR3;go_wp2;go_roundw
       case rel=>exact⟨false,p2,gs'',rfl,HS2.out,HO2.out,hpos'.2,by rw[HK.out,skp];simp[H1.out],HR3.out,HT3.out⟩
       case measure=>rw[IP.out,HR3.out.pos];omega
      ·have q4:(gcls (g.code:Int) != 1)=true:=by simp[h1]
       have hsk:skp false gs=g::gs'':=by rw[HK.out,skp];simp[h6,h1]
       have HSK:=hide hsk;clear h6 h1 hsk;go_wp2_with (go_at_call 144;refine(abg _ _).mono ?_;rintro r w' ⟨rfl,rfl⟩)
       go_ret;exact⟨HT.out,p',by rw[HSK.out];exact HS.out,HO'.out,hb,HR.out,.inr ⟨.inl (by rw[HSK.out];simp),rfl⟩⟩
end Lm
namespace Lm
open Go Go.RowKit
theorem amp(w:World)(c:Int):
  Calls Tryz.prog 146 #[.int .i64 c] w fun e w'=>e=.returned (.bool (decide (0<=c/\(gcls c=2\/gcls c=3\/gcls c=4))))/\w'=w:=by
 go_enter Tryz.func146,Tryz.ntmps146
 go_wp2_with fail
 refine(abg _ _).mono ?_;rintro e w' ⟨rfl,rfl⟩;go_wp2;all_goals go_ret
 all_goals refine⟨congrArg Ending.returned (congrArg Value.bool ?_),rfl⟩
 all_goals try simp only[beq_iff_eq,beq_eq_false_iff_ne]at *
 all_goals first|(refine ae1 ?_;simp <;> omega)|(symm;simp;omega)
theorem axq(s:ByteArray)(h:0<s.size):bytesOf s=((s.get! 0).toNat:Int)::bytesOf (s.extract 1 s.size):=by
 have:=ady s 0 s.size h (Nat.le_refl _);rwa[show s.extract 0 s.size=s from by simp]at this
theorem axr(w:World)(s:ByteArray)(h0:0<s.size)(hd:Dig (bytesOf s)):
  Calls Tryz.prog 147 #[.string s] w fun e w'=>w'=w/\∃ds,IsDec ds (dval (bytesOf s))/\e=.returned (.string (strOfNums ds))/\ds.length<=s.size:=by
 have HD:=hide hd;clear hd;go_enter Tryz.func147,Tryz.ntmps147
 go_wp2;go_loopw [0] (fun sv wr=>∃(y:ByteArray),sv=.string y/\0<y.size/\y.size<=s.size/\Dig (bytesOf y)/\dval (bytesOf y)=dval (bytesOf s)/\wr=w) (fun sv _=>match sv with | .string y=>y.size|_=>0)
 case atStart=>exact⟨s,rfl,h0,Nat.le_refl _,HD.out,rfl,rfl⟩
 case round=>
  obtain⟨y,rfl,hy0,hys,hyd,hyv,rfl⟩:=hrel;have HYD:=hide hyd;have HYV:=hide hyv;clear hyd hyv;have hb:=axq y hy0;have hg:y[0]'hy0=y.get! 0:=getS y 0 hy0;by_cases h1:1<y.size
  ·have h1':(1:Int)<(y.size:Int):=by omega
   by_cases hz:(y.get! 0).toNat=48
   ·have hz':((y[0]'hy0).toNat:Int)=48:=by rw[hg];omega
    have HB:=hide hb;clear hb hg;go_wp2;have hv2:dval (bytesOf (y.extract 1 y.size))=dval (bytesOf s):=by
     rw[<-HYV.out,HB.out,dval,hz];simp
    have hd2:Dig (bytesOf (y.extract 1 y.size)):=by
     have:=HYD.out;rw[HB.out]at this;exact(acd.1 this).2
    have hs2:(y.extract 1 y.size).size=y.size-1:=by rw[ByteArray.size_extract];omega
    exact⟨⟨_,rfl,by omega,by omega,hd2,hv2,trivial⟩,by show(y.extract 1 y.size).size<y.size;omega⟩
   ·have hz':((y[0]'hy0).toNat:Int)≠48:=by rw[hg];omega
    have HB:=hide hb;clear hb hg;go_wp2;go_ret;exact⟨rfl,bytesOf y,⟨HYD.out,HYV.out,.inr ⟨_,_,HB.out,by omega⟩⟩,by rw[afj];rfl,by rw[aat];omega⟩
  ·have h1':decide ((1:Int)<(y.size:Int))=false:=by simp;omega
   have HB:=hide hb;clear hb hg;go_wp2;go_ret;have hnil:bytesOf (y.extract 1 y.size) = []:=List.eq_nil_of_length_eq_zero (by rw[aat,ByteArray.size_extract];omega);have hB:=HB.out;rw[hnil]at hB;refine⟨rfl,bytesOf y,⟨HYD.out,HYV.out,?_⟩,by rw[afj];rfl,by rw[aat];omega⟩;by_cases h48:(y.get! 0).toNat=48
   ·refine .inl ⟨?_,by rw[hB,h48];rfl⟩;rw[<-HYV.out,hB,h48];rfl
   ·exact .inr ⟨_,_,hB,by omega⟩
theorem a2f(n:Nat):Dm.pw n=p10 (4*n):=by
 induction n with
 |zero=>rfl
 |succ n ih=>
  rw[Dm.pw,ih,show 4*(n+1)=4*n+1+1+1+1 from by omega];simp only[p10];omega
theorem p308:p10 308<=pw 32:=by decide +kernel
theorem apn(w:World)(ax:Option Addr)(cx:Nat)(xs:List Int)(x:Int)(hx:0<=x)(G:Dm.Got w ax cx xs x)(L:xs.length<=6000)(m:Nat)(hm:IsLen x m):
  Calls Tryz.prog 90 #[.agg #[.bool false,.slice ax xs.length cx]] w fun e w'=>e=.returned (.bool (decide (32<m)))/\Below w.heap.size w w':=by
 have hn:(x.natAbs:Int)=x:=by omega
 have HW:Hid (Dm.Wh w false ax cx xs x):=⟨by rw[hn];exact G,by simp;omega⟩;have HM:Hid (IsLen (x.natAbs:Int) m):=by rw[hn];exact hm
 have hsl:xs.length<=77->m<=32:=by
  intro h;obtain⟨rs,c,v,rfl⟩:=hm;refine aaz c (m:=32) ?_;have h1:=(Dm.aab G.2.1.1).2;rw[G.2.2]at h1;have h2:=abr (m:=4*xs.length) (n:=308) (by omega);rw[a2f]at h1;have h3:=p308;omega
 have HS:=hide hsl;clear hn hm G hsl;by_cases h77:77<xs.length
 ·have h77':(77:Int)<(xs.length:Int):=by omega
  generalize hxl:xs.length=n at *
  go_enter Tryz.func90,Tryz.ntmps90
  go_wp2_with fail
  have hb1:Below w.heap.size w (w.alloc (.cells #[.bool false,.slice ax n cx] 85)):=(Below.refl _ _).alloc (Nat.le_refl _) _;have K:=az5 (w.alloc (.cells #[.bool false,.slice ax n cx] 85)) 6000 false ax cx xs x (HW.out.below hb1) (by omega) (by omega) m HM.out;rw[hxl]at K;refine K.mono ?_;rintro e w2 ⟨v,rfl,hv,hb2⟩;obtain rfl:v=.int .i64 (m:Int):=hv;have hB:=hb1.trans (hb2.mono hb1.size);clear hb1 hb2 K;have hd:decide ((32:Int)<(m:Int))=decide (32<m):=by simp;omega
  go_wp2;all_goals go_ret
  all_goals (refine⟨?_,hB⟩;simp)
 ·have h77':decide ((77:Int)<(xs.length:Int))=false:=by simp;omega
  have hd:decide (32<m)=false:=by have:=HS.out (by omega);simp;omega
  rw[hd];generalize xs.length=n at *
  go_enter Tryz.func90,Tryz.ntmps90
  go_wp2;go_ret;exact⟨by rfl,by(repeat' first|with_reducible(first|exact Below.refl _ _|assumption|refine gdrewN ?_ _|refine Below.alloc ?_ ?_ _|refine Below.drew ?_|refine Below.setCell ?_ ?_ _)|go_size)⟩
end Lm
end Go.Proofs.YtooefpkhacecnaaGreatDoor
namespace Go.Proofs
open Go.Shelf
shelf_lay Lays.n169 Nm 169 at Tryz as Tryz.lays169
namespace YtooefpkhacecnaaGreatDoor
namespace Lm
open Go Go.RowKit
theorem aj2:Builder.Extra Tryz.prog Tryz.lays169_ren where
 sizeBuilder:=by kernel_rfl
 liesBuilder:=by kernel_rfl
 t5:=Tryz.underlying5
 a5:=Tryz.isAgg5
 z5:=Tryz.sizeOf5
 v5:=Tryz.zeroValue5
 infoByte:=by kernel_rfl
 cellsByte:=by kernel_rfl
 sizeByte:=by kernel_rfl
 neB5:=by decide
def Bld(w:World)(B b:Nat)(l:List UInt8):Prop:=Lib.IsBuilderF 137 5 B b (Lib.byteCells l) w
theorem bsize:(Tryz.prog.info? 137).map (·.size)=some 2:=by kernel_rfl
theorem blies:liesAt Tryz.prog Tryz.prog.depth 137 (2/Tryz.prog.cellsOf 137) 0 137 1=true:=by kernel_rfl
set_option maxRecDepth 100000 in
theorem an8(b:Nat)(w:World)(h0:w.cell? ⟨b,0,none⟩=some (.pointer (some ⟨b,0,none⟩))):
  Calls Tryz.prog 128 #[.pointer (some ⟨b,0,none⟩)] w fun e w'=>e=.returned (.tuple #[])/\w'=w:=by
 obtain⟨j,hj,_⟩:=Option.map_eq_some_iff.1 bsize;go_enter Tryz.func128,Tryz.ntmps128
 go_wp2;rw[Lib.run_neq_ptr_same w _ Tryz.underlying134 hj];go_wp2;go_end0
 exact⟨rfl,rfl⟩
set_option maxRecDepth 100000 in
theorem amq(b:Nat)(w:World)(h0:w.cell? ⟨b,0,none⟩=some (.pointer none))(hsh:w.shape? b=some (137,2))(hfz:w.frozen? ⟨b,0,none⟩=false):
  Calls Tryz.prog 128 #[.pointer (some ⟨b,0,none⟩)] w fun e w'=>e=.returned (.tuple #[])/\w'=w.setCell ⟨b,0,none⟩ (.pointer (some ⟨b,0,none⟩)):=by
 obtain⟨j,hj,hjs⟩:=Option.map_eq_some_iff.1 bsize;go_enter Tryz.func128,Tryz.ntmps128
 go_wp2;rw[Lib.run_to_unsafe w ⟨b,0,none⟩ Tryz.underlying134 Tryz.underlying205 hj (by rw[hjs];decide) hsh (Nat.zero_lt_succ 1)];simp only[Result.andThen];rw[Oper.upon_value];go_wp2;rw[run_callFunc_extern Tryz.func159 (by kernel_rfl) (by kernel_rfl) (by kernel_rfl) (e:=Extern.AbiNoEscape.same) (by kernel_rfl)];rw[Lib.run_noEscape];simp only[Result.andThen];rw[Oper.upon_value];go_wp2;rw[Lib.run_from_unsafe w ⟨b,0,none⟩ Tryz.underlying205 Tryz.underlying134 hj hsh blies];simp only[Result.andThen];rw[Oper.upon_value];go_wp2;go_end0
 exact⟨rfl,rfl⟩
theorem bcheck(B b:Nat)(l:List UInt8)(w:World)(h:Bld w B b l):
  Calls Tryz.prog 128 #[.pointer (some ⟨b,0,none⟩)] w fun e w'=>e=.returned (.tuple #[])/\(Lib.BuilderAtF 137 5 B b (.pointer (some ⟨b,0,none⟩)) (Lib.byteCells l) w'/\Below B w w'/\Lib.OthersKept 5 (some b) w w'):=by
 rcases h with h|h
 ·refine(amq b w h.cell0 h.shape h.frozen0).mono ?_;rintro e w' ⟨rfl,rfl⟩;exact⟨rfl,h.used _,(Below.refl B w).setCell (p:=⟨b,0,none⟩) h.1 _,(Lib.OthersKept.refl _ _ w).setCell ⟨b,0,none⟩ rfl _⟩
 ·refine(an8 b w h.cell0).mono ?_;rintro e w' ⟨rfl,rfl⟩;exact⟨rfl,h,Below.refl B _,Lib.OthersKept.refl _ _ _⟩
theorem binfo:∃i0,Tryz.prog.info? 5=some i0/\i0.zero=some (.int .u8 0)/\i0.size=1/\i0.bytes=1:=by
 obtain⟨i0,h1,h2,h3,h4⟩:=info_parts aj2.infoByte;exact⟨i0,h1,h2,h3,h4⟩
set_option maxRecDepth 100000 in
theorem bwstr(B b:Nat)(l:List UInt8)(s:ByteArray)(w:World)(h:Bld w B b l)(hlen:l.length+s.size<=140737488355328)(hBw:B<=w.heap.size):
  Calls Tryz.prog 95 #[.pointer (some ⟨b,0,none⟩),.string s] w fun e w'=>e=.returned (.tuple #[.int .i64 s.size,.nilIface])/\Bld w' B b (l++s.data.toList)/\Below B w w'/\Lib.OthersKept 5 (some b) w w':=by
 obtain⟨i0,hi,hz0,hz1,hz2⟩:=binfo;have hbl:(Lib.byteCells l).length=l.length:=Lib.byteCells_length l;have HL:=hide hbl;have HH:=hide h;clear hbl h;go_enter Tryz.func95,Tryz.ntmps95
 go_wp2_with fail
 refine(bcheck B b l _ HH.out).mono ?_;rintro e w1 ⟨rfl,h1,hb1,hk1⟩;obtain⟨hB,v,hbk,hown,hne⟩:=h1;have c0:w1.cell? ⟨b,0,none⟩=some (.pointer (some ⟨b,0,none⟩)):=by rw[Lib.cell_of_heap hbk];rfl
 have c1:w1.cell? ⟨b,1,none⟩=some v:=by rw[Lib.cell_of_heap hbk];rfl
 go_wp2_with (at_builtin;refine Lib.wpList_append_own_stringF _ rfl _ _ 135 9 rfl B 5 i0 Tryz.underlying135 Tryz.underlying9 hi hz0 hz1 hz2 _ _ _ rfl hown s rfl ?c3 ?c4 ?c5 ?_)
 case c3=>have:=HL.out;unfold maxLen;omega
 case c4=>have:=HL.out;omega
 case c5=>have:=hb1.size;omega
 intro v' w2 hown' hgrow _;have hlt:b<w1.heap.size:=aaa hbk;have hb2:w2.heap[b]? = some (.cells #[.pointer (some ⟨b,0,none⟩),v] 137 (0,0)):=by
  rw[hgrow.block b hlt (fun e=>hne e.symm)];exact hbk
 have d0:w2.cell? ⟨b,0,none⟩=some (.pointer (some ⟨b,0,none⟩)):=by rw[Lib.cell_of_heap hb2];rfl
 have d1:w2.cell? ⟨b,1,none⟩=some v:=by rw[Lib.cell_of_heap hb2];rfl
 have f1:w2.frozen? ⟨b,1,none⟩=false:=Lib.frozen_of_heap hb2 1;obtain⟨ao,n',cap,rfl⟩:∃ao n' cap,v' = .slice ao n' cap:=by
  rcases hown'.2 with⟨hv,_⟩|⟨g,cap,cur,fz,hv,_⟩
  ·exact⟨_,_,_,hv⟩
  ·exact⟨_,_,_,hv⟩
 go_wp2;go_ret2
 refine⟨rfl,?_,?_,(hk1.grown hgrow (Lib.ownsRowF_kind hown)).setCell ⟨b,1,none⟩ rfl _⟩
 ·unfold Bld;rw[Lib.byteCells_append];have hcc:Lib.byteCells s.data.toList=Lib.strCells s:=by rfl
  rw[hcc];exact .inr (Lib.BuilderAtF.put (T:=137) (e:=5) hB hb2 (bs':=Lib.byteCells l++Lib.strCells s) (by simpa[Lib.strCells_length]using hown') aj2.neB5)
 ·exact(hb1.grown hgrow (by have:=hb1.size;omega) (fun k hk=>(hown.lt k hk).1)).setCell (p:=⟨b,1,none⟩) hB _
theorem bstring(B b:Nat)(l:List UInt8)(w:World)(h:Bld w B b l)(hBw:B<=w.heap.size):
  Calls Tryz.prog 96 #[.pointer (some ⟨b,0,none⟩)] w fun e w'=>e=.returned (.string ⟨l.toArray⟩)/\Below B w w':=by
 refine(Any.Builder_String_any_k Tryz.lays169 aj2 B b l w h hBw).mono ?_;rintro e w' ⟨rfl,h1,h2,h3⟩;exact⟨rfl,h2⟩
end Lm
end YtooefpkhacecnaaGreatDoor
end Go.Proofs
namespace Go.Proofs.YtooefpkhacecnaaGreatDoor
namespace Lm
open Go Go.RowKit
def jpre:List ByteArray->List UInt8
 | []=>[]
 |x::r=>x.data.toList++r.flatMap fun y=>32::y.data.toList
def TkB(w:World)(f:Nat)(t:Tk):Prop:=w.heap[f]? = some (.cells #[.int .i64 t.kind,.string t.text,.int .i64 t.pl.b,.int .i64 t.pl.g,.int .i64 t.pl.l,.int .i64 t.pl.c] 109 (0,0))
structure RtS (w W:World) (q F:Nat) (s:ByteArray) (p p':Pl) (t:Tk):Prop where
 rdr:Rdr W q s p'
 z2:Tk0B W F
 z4:PlB W (F+1) plz
 h5:PlB W (F+1+1) p
 h6:TkB W (F+1+1+1) t
 tq:Tq w W q
 hq:q<F
 hF:w.heap.size<=F
theorem RtS.below{w W W':World}{q F:Nat}{s:ByteArray}{p p':Pl}{t:Tk}(h:RtS w W q F s p p' t)(hb:Below W.heap.size W W'):RtS w W' q F s p p' t:=
 ⟨h.rdr.below hb,h.z2.below hb,h.z4.below hb,h.h5.below hb,(hb.block _ (aaa h.h6)).trans h.h6,h.tq.trans (.of_below hb),h.hq,h.hF⟩
theorem RtS.move{w W W':World}{q F:Nat}{s:ByteArray}{p p' p2:Pl}{t:Tk}(h:RtS w W q F s p p' t)(ht:Tq W W' q)(hr:Rdr W' q s p2):RtS w W' q F s p p2 t:=
 ⟨hr,h.z2.tq ht (by have:=h.hq;omega),h.z4.tq ht (by have:=h.hq;omega),h.h5.tq ht (by have:=h.hq;omega),(ht.other _ (aaa h.h6) (by have:=h.hq;omega)).trans h.h6,h.tq.trans ht,h.hq,h.hF⟩
theorem RtS.kind{w W:World}{q F:Nat}{s:ByteArray}{p p':Pl}{t:Tk}(h:RtS w W q F s p p' t)(k:Int):RtS w (W.setCell ⟨F+1+1+1,0,none⟩ (.int .i64 k)) q F s p p' ⟨k,t.text,t.pl⟩:=by
 have hq:=h.hq;refine⟨(heap_setCell_other _ _ _ _ (by show q≠F+1+1+1;omega)).trans h.rdr,(heap_setCell_other _ _ _ _ (by show F≠F+1+1+1;omega)).trans h.z2,(heap_setCell_other _ _ _ _ (by show F+1≠F+1+1+1;omega)).trans h.z4,(heap_setCell_other _ _ _ _ (by show F+1+1≠F+1+1+1;omega)).trans h.h5,?_,h.tq.setNew (by have:=h.hF;omega) 0 _,hq,h.hF⟩;unfold TkB;rw[heap_setCell_same _ _ 0 _ _ _ h.h6];rfl
theorem RtS.text{w W:World}{q F:Nat}{s:ByteArray}{p p':Pl}{t:Tk}(h:RtS w W q F s p p' t)(x:ByteArray):RtS w (W.setCell ⟨F+1+1+1,1,none⟩ (.string x)) q F s p p' ⟨t.kind,x,t.pl⟩:=by
 have hq:=h.hq;refine⟨(heap_setCell_other _ _ _ _ (by show q≠F+1+1+1;omega)).trans h.rdr,(heap_setCell_other _ _ _ _ (by show F≠F+1+1+1;omega)).trans h.z2,(heap_setCell_other _ _ _ _ (by show F+1≠F+1+1+1;omega)).trans h.z4,(heap_setCell_other _ _ _ _ (by show F+1+1≠F+1+1+1;omega)).trans h.h5,?_,h.tq.setNew (by have:=h.hF;omega) 1 _,hq,h.hF⟩;unfold TkB;rw[heap_setCell_same _ _ 1 _ _ _ h.h6];rfl
structure RtC (W:World) (F:Nat) (p:Pl) (t:Tk):Prop where
 a0:W.cell? ⟨F,0,none⟩=some (.int .i64 0)
 a1:W.cell? ⟨F,1,none⟩=some (.string ⟨#[]⟩)
 a2:W.cell? ⟨F,2,none⟩=some (.int .i64 0)
 a3:W.cell? ⟨F,3,none⟩=some (.int .i64 0)
 a4:W.cell? ⟨F,4,none⟩=some (.int .i64 0)
 a5:W.cell? ⟨F,5,none⟩=some (.int .i64 0)
 b0:W.cell? ⟨F+1,0,none⟩=some (.int .i64 0)
 b1:W.cell? ⟨F+1,1,none⟩=some (.int .i64 0)
 b2:W.cell? ⟨F+1,2,none⟩=some (.int .i64 0)
 b3:W.cell? ⟨F+1,3,none⟩=some (.int .i64 0)
 c0:W.cell? ⟨F+1+1,0,none⟩=some (.int .i64 p.b)
 c1:W.cell? ⟨F+1+1,1,none⟩=some (.int .i64 p.g)
 c2:W.cell? ⟨F+1+1,2,none⟩=some (.int .i64 p.l)
 c3:W.cell? ⟨F+1+1,3,none⟩=some (.int .i64 p.c)
 d0:W.cell? ⟨F+1+1+1,0,none⟩=some (.int .i64 t.kind)
 d1:W.cell? ⟨F+1+1+1,1,none⟩=some (.string t.text)
 d2:W.cell? ⟨F+1+1+1,2,none⟩=some (.int .i64 t.pl.b)
 d3:W.cell? ⟨F+1+1+1,3,none⟩=some (.int .i64 t.pl.g)
 d4:W.cell? ⟨F+1+1+1,4,none⟩=some (.int .i64 t.pl.l)
 d5:W.cell? ⟨F+1+1+1,5,none⟩=some (.int .i64 t.pl.c)
 x0:W.frozen? ⟨F,0,none⟩=false
 x1:W.frozen? ⟨F,1,none⟩=false
 x2:W.frozen? ⟨F,2,none⟩=false
 x3:W.frozen? ⟨F,3,none⟩=false
 x4:W.frozen? ⟨F,4,none⟩=false
 x5:W.frozen? ⟨F,5,none⟩=false
 y0:W.frozen? ⟨F+1,0,none⟩=false
 y1:W.frozen? ⟨F+1,1,none⟩=false
 y2:W.frozen? ⟨F+1,2,none⟩=false
 y3:W.frozen? ⟨F+1,3,none⟩=false
 v0:W.frozen? ⟨F+1+1+1,0,none⟩=false
 v1:W.frozen? ⟨F+1+1+1,1,none⟩=false
theorem RtS.cells{w W:World}{q F:Nat}{s:ByteArray}{p p':Pl}{t:Tk}(h:RtS w W q F s p p' t):RtC W F p t:=by
 obtain⟨_,t0,t1,t2,t3,t4,t5,f0,f1,f2,f3,f4,f5⟩:=h.z2.cells;obtain⟨_,b0,b1,b2,b3⟩:=h.z4.cells;obtain⟨_,c0,c1,c2,c3⟩:=h.h5.cells;exact⟨t0,t1,t2,t3,t4,t5,b0,b1,b2,b3,c0,c1,c2,c3,
  by rw[cell_of_row W (F+1+1+1) 0 _ _ _ h.h6];rfl,by rw[cell_of_row W (F+1+1+1) 1 _ _ _ h.h6];rfl,by rw[cell_of_row W (F+1+1+1) 2 _ _ _ h.h6];rfl,by rw[cell_of_row W (F+1+1+1) 3 _ _ _ h.h6];rfl,by rw[cell_of_row W (F+1+1+1) 4 _ _ _ h.h6];rfl,by rw[cell_of_row W (F+1+1+1) 5 _ _ _ h.h6];rfl,
  f0,f1,f2,f3,f4,f5,frozen_of_row W (F+1) 0 _ _ h.z4,frozen_of_row W (F+1) 1 _ _ h.z4,frozen_of_row W (F+1) 2 _ _ h.z4,frozen_of_row W (F+1) 3 _ _ h.z4,frozen_of_row W (F+1+1+1) 0 _ _ h.h6,frozen_of_row W (F+1+1+1) 1 _ _ h.h6⟩
structure RtE (w W:World) (q F:Nat) (s:ByteArray) (p p':Pl) (t:Tk):Prop where
 rdr:Rdr W q s p'
 tok:TkB W F t
 pla:PlB W (F+1) p
 tq:Tq w W q
theorem RtS.fin{w W:World}{q F:Nat}{s:ByteArray}{p p':Pl}{t:Tk}(h:RtS w W q F s p p' t):
  RtE w ((((((((((W.setCell ⟨F,0,none⟩ (.int .i64 t.kind)).setCell ⟨F,1,none⟩ (.string t.text)).setCell ⟨F,2,none⟩ (.int .i64 t.pl.b)).setCell ⟨F,3,none⟩ (.int .i64 t.pl.g)).setCell ⟨F,4,none⟩ (.int .i64 t.pl.l)).setCell ⟨F,5,none⟩ (.int .i64 t.pl.c)).setCell ⟨F+1,0,none⟩ (.int .i64 p.b)).setCell ⟨F+1,1,none⟩ (.int .i64 p.g)).setCell ⟨F+1,2,none⟩ (.int .i64 p.l)).setCell ⟨F+1,3,none⟩ (.int .i64 p.c)) q F s p p' t:=by
 have hq:=h.hq;have hF:=h.hF;have hother:∀k (u:Obj),k≠F->k≠F+1->W.heap[k]? = some u->((((((((((W.setCell ⟨F,0,none⟩ (.int .i64 t.kind)).setCell ⟨F,1,none⟩ (.string t.text)).setCell ⟨F,2,none⟩ (.int .i64 t.pl.b)).setCell ⟨F,3,none⟩ (.int .i64 t.pl.g)).setCell ⟨F,4,none⟩ (.int .i64 t.pl.l)).setCell ⟨F,5,none⟩ (.int .i64 t.pl.c)).setCell ⟨F+1,0,none⟩ (.int .i64 p.b)).setCell ⟨F+1,1,none⟩ (.int .i64 p.g)).setCell ⟨F+1,2,none⟩ (.int .i64 p.l)).setCell ⟨F+1,3,none⟩ (.int .i64 p.c)).heap[k]? = some u:=by
  intro k u h1 h2 he;rw[heap_setCell_other _ ⟨F+1,3,none⟩ k _ h2,heap_setCell_other _ ⟨F+1,2,none⟩ k _ h2,heap_setCell_other _ ⟨F+1,1,none⟩ k _ h2,heap_setCell_other _ ⟨F+1,0,none⟩ k _ h2,abm _ _ _ h1];exact he
 refine⟨hother q _ (by omega) (by omega) h.rdr,?_,?_,?_⟩
 ·unfold TkB;have hne:F≠F+1:=by omega
  rw[heap_setCell_other _ ⟨F+1,3,none⟩ F _ hne,heap_setCell_other _ ⟨F+1,2,none⟩ F _ hne,heap_setCell_other _ ⟨F+1,1,none⟩ F _ hne,heap_setCell_other _ ⟨F+1,0,none⟩ F _ hne];rw[heap_setCell_same _ _ 5 _ _ _ (heap_setCell_same _ _ 4 _ _ _ (heap_setCell_same _ _ 3 _ _ _ (heap_setCell_same _ _ 2 _ _ _ (heap_setCell_same _ _ 1 _ _ _ (heap_setCell_same _ _ 0 _ _ _ h.z2)))))];simp
 ·refine ae3 (p:=plz) (p':=p) ?_;unfold PlB;rw[abm _ _ _ (show F+1≠F by omega)];exact h.z4
 ·exact((((h.tq.six hF _ _ _ _ _ _).setNew (by omega) 0 _).setNew (by omega) 1 _).setNew (by omega) 2 _).setNew (by omega) 3 _
theorem RtE.drew{w W:World}{q F:Nat}{s:ByteArray}{p p':Pl}{t:Tk}(h:RtE w W q F s p p' t):RtE w W.drew q F s p p' t:=
 ⟨h.rdr,h.tok,h.pla,h.tq.trans ⟨rfl,rfl,rfl,Nat.le_refl _,fun _ _ _=>rfl⟩⟩
def Tk.v(t:Tk):Value:=.agg #[.int .i64 t.kind,.string t.text,.int .i64 t.pl.b,.int .i64 t.pl.g,.int .i64 t.pl.l,.int .i64 t.pl.c]
theorem RtE.vals{w W:World}{q F:Nat}{s:ByteArray}{p p':Pl}{t:Tk}(h:RtE w W q F s p p' t):(W.cell? ⟨F,0,none⟩=some (.int .i64 t.kind)/\W.cell? ⟨F,1,none⟩=some (.string t.text)/\W.cell? ⟨F,2,none⟩=some (.int .i64 t.pl.b)/\W.cell? ⟨F,3,none⟩=some (.int .i64 t.pl.g)/\W.cell? ⟨F,4,none⟩=some (.int .i64 t.pl.l)/\W.cell? ⟨F,5,none⟩=some (.int .i64 t.pl.c))/\W.cell? ⟨F+1,0,none⟩=some (.int .i64 p.b)/\W.cell? ⟨F+1,1,none⟩=some (.int .i64 p.g)/\W.cell? ⟨F+1,2,none⟩=some (.int .i64 p.l)/\W.cell? ⟨F+1,3,none⟩=some (.int .i64 p.c):=by
 obtain⟨_,b0,b1,b2,b3⟩:=h.pla.cells;exact⟨⟨by rw[cell_of_row W F 0 _ _ _ h.tok];rfl,by rw[cell_of_row W F 1 _ _ _ h.tok];rfl,by rw[cell_of_row W F 2 _ _ _ h.tok];rfl,by rw[cell_of_row W F 3 _ _ _ h.tok];rfl,by rw[cell_of_row W F 4 _ _ _ h.tok];rfl,by rw[cell_of_row W F 5 _ _ _ h.tok];rfl⟩,b0,b1,b2,b3⟩
def RtO(w':World)(q:Nat)(s:ByteArray)(e p:Pl)(r:Ending):TO->Prop
 |.bad k=>∃t:Tk,r=.returned (.tuple #[t.v,.int .i64 k,p.v])
 |.ok kind text rest=>r=.returned (.tuple #[Tk.v ⟨kind,text,p⟩,.int .i64 0,p.v])/\∃p',Rdr w' q s p'/\Snd s p' rest e/\p'.ok/\p'.b<=s.size
theorem aca(w:World)(q:Nat)(s:ByteArray)(p:Pl)(h:Rdr w q s p):RtS w ((((w.alloc (.cells #[.int .i64 0,.string ⟨#[]⟩,.int .i64 0,.int .i64 0,.int .i64 0,.int .i64 0] 109)).alloc (.cells #[.int .i64 0,.int .i64 0,.int .i64 0,.int .i64 0] 56)).alloc (.cells #[.int .i64 p.b,.int .i64 p.g,.int .i64 p.l,.int .i64 p.c] 56)).alloc (.cells #[.int .i64 0,.string ⟨#[]⟩,.int .i64 p.b,.int .i64 p.g,.int .i64 p.l,.int .i64 p.c] 109)) q w.heap.size s p p ⟨0,⟨#[]⟩,p⟩:=by
 generalize hw1:w.alloc (.cells #[.int .i64 0,.string ⟨#[]⟩,.int .i64 0,.int .i64 0,.int .i64 0,.int .i64 0] 109)=w1;have s1:w1.heap.size=w.heap.size+1:=by rw[<-hw1,World.size_alloc]
 have z1:Tk0B w1 w.heap.size:=by rw[<-hw1];exact heap_alloc_new w _
 have b1:Below w.heap.size w w1:=by rw[<-hw1];exact(Below.refl _ _).alloc (Nat.le_refl _) _
 generalize hw2:w1.alloc (.cells #[.int .i64 0,.int .i64 0,.int .i64 0,.int .i64 0] 56)=w2;have s2:w2.heap.size=w.heap.size+2:=by rw[<-hw2,World.size_alloc,s1]
 have z2:PlB w2 (w.heap.size+1) plz:=by rw[<-hw2,<-s1];exact heap_alloc_new w1 _
 have b2:Below w1.heap.size w1 w2:=by rw[<-hw2];exact(Below.refl _ _).alloc (Nat.le_refl _) _
 generalize hw3:w2.alloc (.cells #[.int .i64 p.b,.int .i64 p.g,.int .i64 p.l,.int .i64 p.c] 56)=w3;have s3:w3.heap.size=w.heap.size+3:=by rw[<-hw3,World.size_alloc,s2]
 have z3:PlB w3 (w.heap.size+1+1) p:=by rw[<-hw3,<-s2];exact heap_alloc_new w2 _
 have b3:Below w2.heap.size w2 w3:=by rw[<-hw3];exact(Below.refl _ _).alloc (Nat.le_refl _) _
 have b4:Below w3.heap.size w3 (w3.alloc (.cells #[.int .i64 0,.string ⟨#[]⟩,.int .i64 p.b,.int .i64 p.g,.int .i64 p.l,.int .i64 p.c] 109)):=(Below.refl _ _).alloc (Nat.le_refl _) _;have z4:TkB (w3.alloc (.cells #[.int .i64 0,.string ⟨#[]⟩,.int .i64 p.b,.int .i64 p.g,.int .i64 p.l,.int .i64 p.c] 109)) (w.heap.size+1+1+1) ⟨0,⟨#[]⟩,p⟩:=by rw[<-s3];exact heap_alloc_new w3 _
 exact⟨(((h.below b1).below b2).below b3).below b4,((z1.below b2).below b3).below b4,(z2.below b3).below b4,z3.below b4,z4,(((Tq.of_below b1).trans (.of_below b2)).trans (.of_below b3)).trans (.of_below b4),aaa h,Nat.le_refl _⟩
theorem an9(args:Array Value)(w:World):(callFunc 147 args).run Tryz.prog w=.ok (.enter 147 args) w:=by
 have h : (match Tryz.prog.funcs[147]? with | some fn => !(fn.name == "runtime.NumGoroutine") && fn.body.isSome | none => false) = true := by kernel_rfl
 cases hf:Tryz.prog.funcs[147]? with
 |none=>rw[hf]at h;simp at h
 |some fn=>
  rw[hf]at h;simp only[Bool.and_eq_true,Bool.not_eq_true',beq_eq_false_iff_ne]at h;obtain⟨h1,h2⟩:=h;have h3:fn.body≠none:=by intro hb;rw[hb]at h2;simp at h2
  simp[callFunc,hf,h1,h3]
theorem akr{ops:Array Oper}{o:Oper}{a:Act}{w:World}{K:Act->World->Prop}{Q:Exit->Act->World->Prop}{E:Prop}(hg:o.guard=none)(x:Operand)(ats:Array TypeId)
  (hop:o.op=.call {callee:=.value (.func 147),args:=#[x],argTypes:=ats}) (c y:ByteArray) (hx:a.eval x=.string c) (hB:∀W,Calls Tryz.prog 147 #[.string c] W fun e w'=>e=.returned (.string y)/\w'=W) (hK:K (a.put o.dst (.string y)) w) :
  if Region.wanted o (yielded ops a.tmps)=true then Oper.wp Tryz.prog o a w K Q else E:=by
 obtain⟨dst,op,ty,pos,after,guard⟩:=o;simp only at hop hg;subst hop hg;have hw:Region.wanted {dst,op:=.call {callee:=.value (.func 147),args:=#[x],argTypes:=ats},type:=ty,pos,after,guard:=none} (yielded ops a.tmps)=true:=by simp[Region.wanted]
 rw[if_pos hw];have e:execOp a.eval {dst,op:=.call {callee:=.value (.func 147),args:=#[x],argTypes:=ats},type:=ty,pos,after,guard:=none}=callFunc 147 (#[] ++ #[x].map a.eval ++ #[]):=rfl;unfold Oper.wp;rw[e,an9];simp only[Oper.upon];have e2:(#[] ++ #[x].map a.eval ++ #[]:Array Value) = #[.string c]:=by simp[hx]
 rw[e2];refine(hB w).mono ?_;rintro r w' ⟨rfl,rfl⟩;exact hK
theorem aup(n:Nat):∃rs,Canon rs/\val rs=(n:Int):=by
 induction n using Nat.strongRecOn with
 |_ n ih=>
  by_cases h:n=0
  ·subst h;exact⟨[],abo,rfl⟩
  ·obtain⟨rs,hc,hv⟩:=ih (n/4294967296) (by omega);refine⟨((n%4294967296:Nat):Int)::rs,⟨?_,?_⟩,?_⟩
   ·intro z hz;rcases List.mem_cons.1 hz with rfl|hz
    ·omega
    ·exact hc.1 z hz
   ·have h1:=hc.2;rw[tl];cases rs with
    |nil=>
     simp only[val]at hv;simp only[tl,List.length_nil,List.length_cons];simp;omega
    |cons z zs=>
     rw[h1];simp
   ·rw[val,hv];omega
theorem auq{xs ds:List Int}(hx:Dig xs)(hd:IsDec ds (dval xs))(h0:0<xs.length):ds.length<=xs.length:=by
 obtain⟨h1,h2,h3⟩:=hd;rcases h3 with⟨_,rfl⟩|⟨c,cs,rfl,hc0⟩
 ·simp;omega
 ·have hcd:=(acd.1 h1).1;have hb:=aa5 (acd.1 h1).2;have hlow:p10 cs.length<=dval xs:=by
   rw[<-h2,dval];have:p10 cs.length*1<=(c-48)*p10 cs.length:=by
    rw[Int.mul_comm];exact Int.mul_le_mul_of_nonneg_right (by omega) (by have:=abr (m:=0) (n:=cs.length) (Nat.zero_le _);simp[p10]at this;omega)
   omega
  have hup:=(aa5 hx).2;apply Classical.byContradiction;intro hn;have:=abr (m:=xs.length) (n:=cs.length) (by simp at hn;omega);omega
theorem RtS.drew{w W:World}{q F:Nat}{s:ByteArray}{p p':Pl}{t:Tk}(h:RtS w W q F s p p' t):RtS w W.drew q F s p p' t:=h.below ((Below.refl _ _).drew)
theorem acm{w W:World}{q F:Nat}{s:ByteArray}{p p':Pl}{t:Tk}{post:Ending->World->Prop}{a:Act}(h:RtE w W q F s p p' t)(k:Int)(h2:a.tmps[2]? = some (.pointer (some ⟨F,0,none⟩)))(h3:a.tmps[3]? = some (.int .i64 k))(h4:a.tmps[4]? = some (.pointer (some ⟨F+1,0,none⟩)))(hd:a.defers = [])(hQ:post (.returned (.tuple #[t.v,.int .i64 k,p.v])) W):bodyPost Tryz.prog Tryz.f116 post Exit.ret a W:=by
 obtain⟨⟨e0,e1,e2,e3,e4,e5⟩,g0,g1,g2,g3⟩:=h.vals;obtain⟨tmps,defers⟩:=a;simp only at h2 h3 h4 hd;subst hd;refine bodyPost_ret (v:=.tuple #[t.v,.int .i64 k,p.v]) ?_ rfl hQ;simp[results,Tryz.results116,go_sem,h2,h3,h4,e0,e1,e2,e3,e4,e5,g0,g1,g2,g3,Tk.v,Pl.v]
theorem arr(w:World)(q:Nat)(s:ByteArray)(p e:Pl)(h:Rdr w q s p)(hm:s.size<=4096)(hQ:Snd s p [] e)(hb:s.size<=e.b):
  Calls Tryz.prog 116 #[.pointer (some ⟨q,0,none⟩)] w fun r w'=>Tq w w' q/\r=.returned (.tuple #[Tk.v ⟨0,⟨#[]⟩,p⟩,.int .i64 0,p.v])/\Rdr w' q s p:=by
 have hl:=(adp hQ).2.1 hb;clear hQ;have HS0:=hide (aca w q s p h);obtain⟨hq,k0,k1,k2,k3,k4,f1,f2,f3,f4⟩:=h.cells;clear h;go_enter Tryz.func116,Tryz.ntmps116
 go_wp2_with fail
 generalize ((((w.alloc (.cells #[.int .i64 0,.string ⟨#[]⟩,.int .i64 0,.int .i64 0,.int .i64 0,.int .i64 0] 109)).alloc (.cells #[.int .i64 0,.int .i64 0,.int .i64 0,.int .i64 0] 56)).alloc (.cells #[.int .i64 p.b,.int .i64 p.g,.int .i64 p.l,.int .i64 p.c] 56)).alloc (.cells #[.int .i64 0,.string ⟨#[]⟩,.int .i64 p.b,.int .i64 p.g,.int .i64 p.l,.int .i64 p.c] 109))=W0 at HS0 ⊢;clear k0 k1 k2 k3 k4 f1 f2 f3 f4 hq;generalize w.heap.size=F at HS0 ⊢;refine(aa1 W0 q s p HS0.out.rdr (by omega)).mono ?_;rintro r W1 ⟨rfl,hb1⟩;rw[hl];have HS1:=hide (HS0.out.below hb1);clear hb1 HS0 hl;obtain⟨a0,a1,a2,a3,a4,a5,b0,b1,b2,b3,c0,c1,c2,c3,d0,d1,d2,d3,d4,d5,x0,x1,x2,x3,x4,x5,y0,y1,y2,y3,v0,v1⟩:=HS1.out.cells;go_wp2_with fail
 go_region
 go_wp2;exact acm HS1.out.fin.drew 0 rfl rfl rfl rfl ⟨HS1.out.fin.drew.tq,rfl,HS1.out.fin.drew.rdr⟩
theorem amr(w:World)(q:Nat)(s:ByteArray)(p e:Pl)(g:Gl)(gs:List Gl)(h:Rdr w q s p)(hm:s.size<=4096)(hQ:Snd s p (g::gs) e)(h2:gcls g.code≠2)(h3:gcls g.code≠3)(h5:gcls g.code≠5):
  Calls Tryz.prog 116 #[.pointer (some ⟨q,0,none⟩)] w fun r w'=>Tq w w' q/\RtO w' q s e p r (.bad 41):=by
 have hl:=abd hQ;have hg0:0<=(g.code:Int):=by omega
 have n1:((g.code:Int) == -1)=false:=beq_eq_false_iff_ne.2 (by omega);have HQ:=hide hQ;clear hQ;have q2:(gcls (g.code:Int)==2)=false:=beq_eq_false_iff_ne.2 h2;have q3:(gcls (g.code:Int)==3)=false:=beq_eq_false_iff_ne.2 h3;have q5:(gcls (g.code:Int)==5)=false:=beq_eq_false_iff_ne.2 h5;clear h2 h3 h5;have HS0:=hide (aca w q s p h);obtain⟨hq,k0,k1,k2,k3,k4,f1,f2,f3,f4⟩:=h.cells;clear h;go_enter Tryz.func116,Tryz.ntmps116
 go_wp2_with fail
 generalize ((((w.alloc (.cells #[.int .i64 0,.string ⟨#[]⟩,.int .i64 0,.int .i64 0,.int .i64 0,.int .i64 0] 109)).alloc (.cells #[.int .i64 0,.int .i64 0,.int .i64 0,.int .i64 0] 56)).alloc (.cells #[.int .i64 p.b,.int .i64 p.g,.int .i64 p.l,.int .i64 p.c] 56)).alloc (.cells #[.int .i64 0,.string ⟨#[]⟩,.int .i64 p.b,.int .i64 p.g,.int .i64 p.l,.int .i64 p.c] 109))=W0 at HS0 ⊢;clear k0 k1 k2 k3 k4 f1 f2 f3 f4 hq;generalize w.heap.size=F at HS0 ⊢;refine(aa1 W0 q s p HS0.out.rdr (by omega)).mono ?_;rintro r W1 ⟨rfl,hb1⟩;rw[hl];have HS1:=hide (HS0.out.below hb1);clear hb1 HS0 hl;obtain⟨a0,a1,a2,a3,a4,a5,b0,b1,b2,b3,c0,c1,c2,c3,d0,d1,d2,d3,d4,d5,x0,x1,x2,x3,x4,x5,y0,y1,y2,y3,v0,v1⟩:=HS1.out.cells;go_wp2_with (go_at_call 144;refine(abg _ _).mono ?_;rintro r w' ⟨rfl,rfl⟩)
 go_region
 go_wp2;exact acm HS1.out.fin.drew 41 rfl rfl rfl rfl ⟨HS1.out.fin.drew.tq,_,rfl⟩
theorem aoa(w:World)(q:Nat)(s:ByteArray)(p e:Pl)(g:Gl)(gs:List Gl)(h:Rdr w q s p)(hm:s.size<=4096)(hQ:Snd s p (g::gs) e)(hok:p.ok)(hpb:p.b<=s.size)(h2:gcls g.code=2):
  Calls Tryz.prog 116 #[.pointer (some ⟨q,0,none⟩)] w fun r w'=>Tq w w' q/\∃o,TokR s e g gs o/\RtO w' q s e p r o:=by
 have hl:=abd hQ;have hg0:0<=(g.code:Int):=by omega
 have n1:((g.code:Int) == -1)=false:=beq_eq_false_iff_ne.2 (by omega);have HQ:=hide hQ;clear hQ;have q2:(gcls (g.code:Int)==2)=true:=by rw[h2];rfl
 have HOK:=hide hok;have HP:=hide HQ.out.tail.1;have HC2:=hide h2;clear h2 hok;have HS0:=hide (aca w q s p h);obtain⟨hq,k0,k1,k2,k3,k4,f1,f2,f3,f4⟩:=h.cells;clear h;go_enter Tryz.func116,Tryz.ntmps116
 go_wp2_with fail
 generalize ((((w.alloc (.cells #[.int .i64 0,.string ⟨#[]⟩,.int .i64 0,.int .i64 0,.int .i64 0,.int .i64 0] 109)).alloc (.cells #[.int .i64 0,.int .i64 0,.int .i64 0,.int .i64 0] 56)).alloc (.cells #[.int .i64 p.b,.int .i64 p.g,.int .i64 p.l,.int .i64 p.c] 56)).alloc (.cells #[.int .i64 0,.string ⟨#[]⟩,.int .i64 p.b,.int .i64 p.g,.int .i64 p.l,.int .i64 p.c] 109))=W0 at HS0 ⊢;clear k0 k1 k2 k3 k4 f1 f2 f3 f4 hq;generalize w.heap.size=F at HS0 ⊢;refine(aa1 W0 q s p HS0.out.rdr (by omega)).mono ?_;rintro r W1 ⟨rfl,hb1⟩;rw[hl];have HS1:=hide (HS0.out.below hb1);clear hb1 HS0 hl;go_wp2_with (go_at_call 144;refine(abg _ _).mono ?_;rintro r w' ⟨rfl,rfl⟩)
 go_loopw [] (fun wr=>∃(p':Pl) (gs':List Gl),Snd s p' gs' e/\p'.ok/\p'.b<=s.size/\p.b<=p'.b/\(g::gs).dropWhile (inC [2,3,4])=gs'.dropWhile (inC [2,3,4])/\p'.g+gs'.length=p.g+(g::gs).length/\RtS w wr q F s p p' ⟨0,⟨#[]⟩,p⟩) (fun wr=>s.size-rpos wr q)
 case atStart=>exact⟨p,g::gs,HQ.out,HOK.out,hpb,Nat.le_refl _,rfl,rfl,HS1.out⟩
 case round=>
  clear HS1;obtain⟨p',gs',hS,hok',hb',hpp,hdw,hcnt,hR⟩:=hrel;have HS:=hide hS;have HO:=hide hok';have HDW:=hide hdw;have HCN:=hide hcnt;have HR:=hide hR;have IP:=hide hR.rdr.pos;clear hok' hdw hcnt hR;have hcase:(∃g' gs'',gs'=g'::gs''/\inC [2,3,4] g'=true)\/(gs'.dropWhile (inC [2,3,4])=gs'/\¬(0<=lookS s p'/\(gcls (lookS s p')=2\/gcls (lookS s p')=3\/gcls (lookS s p')=4))):=by
   cases gs' with
   |nil=>
    refine .inr ⟨rfl,?_⟩;have hle:=adp hS;by_cases hbe:s.size<=e.b
    ·rw[hle.2.1 hbe];omega
    ·rw[hle.2.2 (by omega)];omega
   |cons g' gs''=>
    by_cases hi:inC [2,3,4] g'=true
    ·exact .inl ⟨g',gs'',rfl,hi⟩
    ·refine .inr ⟨List.dropWhile_cons_of_neg hi,?_⟩;rw[abd hS];simp only[inC,List.mem_cons,List.not_mem_nil,or_false,decide_eq_true_eq]at hi;omega
  rcases hcase with⟨g',gs'',rfl,hi⟩|⟨hdrop,hno⟩
  ·have hl':=abd hS;obtain⟨t1,t2,t3,t4,t5,t6⟩:=hS.tail;clear hS;have HN:=hide (fun(W:World) (h:Rdr W q s p')=>ace W q s p' h (by omega) t2 HO.out t4);have hd:=abq s p'.b t2;have HO2:=hide (HO.out.past (Utf8.decode s p'.b).1 (Utf8.decode s p'.b).2 hd.1);have HS2:=hide t5;have hpos:(p'.past (Utf8.decode s p'.b).1 (Utf8.decode s p'.b).2).b=p'.b+(Utf8.decode s p'.b).2:=rfl;have hgl:(p'.past (Utf8.decode s p'.b).1 (Utf8.decode s p'.b).2).g=p'.g+1:=rfl;generalize p'.past (Utf8.decode s p'.b).1 (Utf8.decode s p'.b).2=p2 at HN HO2 HS2 hpos hgl;have hpos':p'.b<p2.b/\p2.b<=s.size:=by omega
   have hyes:decide (0<=(g'.code:Int)/\(gcls (g'.code:Int)=2\/gcls (g'.code:Int)=3\/gcls (g'.code:Int)=4))=true:=by
    simp only[inC,List.mem_cons,List.not_mem_nil,or_false,decide_eq_true_eq]at hi;rw[decide_eq_true_eq];exact⟨by omega,hi⟩
   have HD2:Hid ((g::gs).dropWhile (inC [2,3,4])=gs''.dropWhile (inC [2,3,4])):=by
    show _=_;rw[HDW.out,List.dropWhile_cons_of_pos hi]
   have HC3:Hid (p2.g+gs''.length=p.g+(g::gs).length):=by
    show _=_;have:=HCN.out;simp only[List.length_cons]at this ⊢;omega
   clear t1 t2 t3 t4 t5 t6 hd hpos hgl hi;go_wp2_with fail
   refine(aa1 wr q s p' HR.out.rdr (by omega)).mono ?_;rintro r w2 ⟨rfl,hb2⟩;rw[hl'];replace HR:=hide (HR.out.below hb2);clear hb2 hl';go_wp2_with fail
   refine(amp _ _).mono ?_;rintro r w3 ⟨rfl,rfl⟩;rw[hyes];go_wp2_with fail
   refine(HN.out _ HR.out.rdr).mono ?_;rintro r w4 ⟨rfl,ht4,hR4⟩;have HR4:=hide (HR.out.move ht4 hR4);clear ht4 hR4;go_wp2;go_roundw
   case rel=>exact⟨p2,gs'',HS2.out,HO2.out,hpos'.2,by omega,HD2.out,HC3.out,HR4.out⟩
   case measure=>rw[IP.out,HR4.out.rdr.pos];omega
  ·have hno':decide (0<=lookS s p'/\(gcls (lookS s p')=2\/gcls (lookS s p')=3\/gcls (lookS s p')=4))=false:=by rw[decide_eq_false_iff_not];exact hno
   have HDD:=hide (HDW.out.trans hdrop);clear hno hdrop;go_wp2_with fail
   refine(aa1 wr q s p' HR.out.rdr (by omega)).mono ?_;rintro r w2 ⟨rfl,hb2⟩;replace HR:=hide (HR.out.below hb2);clear hb2;generalize lookS s p'=lk at hno' ⊢;go_wp2_with fail
   refine(amp _ _).mono ?_;rintro r w3 ⟨rfl,rfl⟩;rw[hno'];clear hno';have hpl:plf gs' e=p':=hS.plf;have HTX:Hid (s.extract g.pl.b (plf ((g::gs).dropWhile (inC [2,3,4])) e).b=s.extract p.b p'.b):=by
    show _=_;rw[HDD.out,hpl,HP.out]
   clear hS hpl;have HRK:=hide (HR.out.kind 1);have dk0:=HR.out.cells.d0;have dkv:=HR.out.cells.v0;go_wp2_with fail
   clear dk0 dkv;generalize w3.setCell ⟨F+1+1+1,0,none⟩ (.int .i64 1)=wK at HRK ⊢;obtain⟨hq,k0,k1,k2,k3,k4,f1,f2,f3,f4⟩:=HRK.out.rdr.cells;obtain⟨a0,a1,a2,a3,a4,a5,b0,b1,b2,b3,c0,c1,c2,c3,d0,d1,d2,d3,d4,d5,x0,x1,x2,x3,x4,x5,y0,y1,y2,y3,v0,v1⟩:=HRK.out.cells;have hpp':(p.b:Int)<=(p'.b:Int):=by omega
   have hps:(p'.b:Int)<=(s.size:Int):=by omega
   go_region
   have HRT:=hide ((HRK.out.text (s.extract p.b p'.b)).drew);simp only at HRT;clear hq k0 k1 k2 k3 k4 f1 f2 f3 f4 a0 a1 a2 a3 a4 a5 b0 b1 b2 b3 c0 c1 c2 c3 d0 d1 d2 d3 d4 d5 x0 x1 x2 x3 x4 x5 y0 y1 y2 y3 v0 v1 HRK;generalize (wK.setCell ⟨F+1+1+1,1,none⟩ (.string (s.extract p.b p'.b))).drew=wT at HRT ⊢;obtain⟨hq,k0,k1,k2,k3,k4,f1,f2,f3,f4⟩:=HRT.out.rdr.cells;have c1:=HRT.out.cells.c1;have hpg:p'.g<=10000:=by
    have:=(HRT.out.rdr);have h1:=HO.out.g;omega
   have hpg2:p.g<=10000:=by have:=HOK.out.g;omega
   by_cases h16:16<p'.g-p.g
   ·have h16':(16:Int)<(p'.g:Int)-(p.g:Int):=by omega
    go_wp2_with fail
    go_quiet (fail)
    have HRU:=hide (HRT.out.below (gdrewN (Below.refl _ _) nq));clear hq k0 k1 k2 k3 k4 f1 f2 f3 f4 c1 HRT;generalize wT.drewN nq=wU at HRU ⊢;obtain⟨a0,a1,a2,a3,a4,a5,b0,b1,b2,b3,c0,c1,c2,c3,d0,d1,d2,d3,d4,d5,x0,x1,x2,x3,x4,x5,y0,y1,y2,y3,v0,v1⟩:=HRU.out.cells;go_wp2_with fail
    go_region
    go_wp2;refine acm HRU.out.fin.drew 42 rfl rfl rfl rfl ⟨HRU.out.fin.drew.tq,.bad 42,?_,_,rfl⟩;have:=afe (s:=s) (e:=e) (r:=gs) HC2.out;rw[HDD.out,if_pos (by have:=HCN.out;omega)]at this;exact this
   ·have h16':decide ((16:Int)<(p'.g:Int)-(p.g:Int))=false:=by simp;omega
    go_wp2_with fail
    go_quiet (fail)
    have HRU:=hide (HRT.out.below (gdrewN (Below.refl _ _) nq));clear hq k0 k1 k2 k3 k4 f1 f2 f3 f4 c1 HRT;generalize wT.drewN nq=wU at HRU ⊢;obtain⟨a0,a1,a2,a3,a4,a5,b0,b1,b2,b3,c0,c1,c2,c3,d0,d1,d2,d3,d4,d5,x0,x1,x2,x3,x4,x5,y0,y1,y2,y3,v0,v1⟩:=HRU.out.cells;go_wp2_with fail
    go_region
    go_wp2;refine acm HRU.out.fin.drew 0 rfl rfl rfl rfl ⟨HRU.out.fin.drew.tq,.ok 1 (s.extract p.b p'.b) gs',?_,rfl,p',HRU.out.fin.drew.rdr,HS.out,HO.out,hb'⟩;have:=afe (s:=s) (e:=e) (r:=gs) HC2.out;rw[HTX.out,HDD.out,if_neg (by have:=HCN.out;omega)]at this;exact this
theorem ars(w:World)(q:Nat)(s:ByteArray)(p e:Pl)(g:Gl)(gs:List Gl)(h:Rdr w q s p)(hm:s.size<=4096)(hQ:Snd s p (g::gs) e)(hok:p.ok)(hpb:p.b<=s.size)(h2:gcls g.code=3):
  Calls Tryz.prog 116 #[.pointer (some ⟨q,0,none⟩)] w fun r w'=>Tq w w' q/\∃o,TokR s e g gs o/\RtO w' q s e p r o:=by
 have hl:=abd hQ;have hg0:0<=(g.code:Int):=by omega
 have n1:((g.code:Int) == -1)=false:=beq_eq_false_iff_ne.2 (by omega);have HQ:=hide hQ;clear hQ;have q2:(gcls (g.code:Int)==2)=false:=by rw[h2];rfl
 have q3:(gcls (g.code:Int)==3)=true:=by rw[h2];rfl
 have HOK:=hide hok;have HP:=hide HQ.out.tail.1;have HC2:=hide h2;clear h2 hok;have HS0:=hide (aca w q s p h);obtain⟨hq,k0,k1,k2,k3,k4,f1,f2,f3,f4⟩:=h.cells;clear h;go_enter Tryz.func116,Tryz.ntmps116
 go_wp2_with fail
 generalize ((((w.alloc (.cells #[.int .i64 0,.string ⟨#[]⟩,.int .i64 0,.int .i64 0,.int .i64 0,.int .i64 0] 109)).alloc (.cells #[.int .i64 0,.int .i64 0,.int .i64 0,.int .i64 0] 56)).alloc (.cells #[.int .i64 p.b,.int .i64 p.g,.int .i64 p.l,.int .i64 p.c] 56)).alloc (.cells #[.int .i64 0,.string ⟨#[]⟩,.int .i64 p.b,.int .i64 p.g,.int .i64 p.l,.int .i64 p.c] 109))=W0 at HS0 ⊢;clear k0 k1 k2 k3 k4 f1 f2 f3 f4 hq;generalize w.heap.size=F at HS0 ⊢;refine(aa1 W0 q s p HS0.out.rdr (by omega)).mono ?_;rintro r W1 ⟨rfl,hb1⟩;rw[hl];have HS1:=hide (HS0.out.below hb1);clear hb1 HS0 hl;go_wp2_with (go_at_call 144;refine(abg _ _).mono ?_;rintro r w' ⟨rfl,rfl⟩)
 go_loopw [] (fun wr=>∃(p':Pl) (gs':List Gl),Snd s p' gs' e/\p'.ok/\p'.b<=s.size/\p.b<=p'.b/\(g::gs).dropWhile (inC [3])=gs'.dropWhile (inC [3])/\p'.g+gs'.length=p.g+(g::gs).length/\RtS w wr q F s p p' ⟨0,⟨#[]⟩,p⟩) (fun wr=>s.size-rpos wr q)
 case atStart=>exact⟨p,g::gs,HQ.out,HOK.out,hpb,Nat.le_refl _,rfl,rfl,HS1.out⟩
 case round=>
  clear HS1;obtain⟨p',gs',hS,hok',hb',hpp,hdw,hcnt,hR⟩:=hrel;have HS:=hide hS;have HO:=hide hok';have HDW:=hide hdw;have HCN:=hide hcnt;have HR:=hide hR;have IP:=hide hR.rdr.pos;clear hok' hdw hcnt hR;have hcase:(∃g' gs'',gs'=g'::gs''/\inC [3] g'=true)\/(gs'.dropWhile (inC [3])=gs'/\(lookS s p'<0\/(0<=lookS s p'/\gcls (lookS s p')≠3))):=by
   cases gs' with
   |nil=>
    refine .inr ⟨rfl,.inl ?_⟩;have hle:=adp hS;by_cases hbe:s.size<=e.b
    ·rw[hle.2.1 hbe];omega
    ·rw[hle.2.2 (by omega)];omega
   |cons g' gs''=>
    by_cases hi:inC [3] g'=true
    ·exact .inl ⟨g',gs'',rfl,hi⟩
    ·refine .inr ⟨List.dropWhile_cons_of_neg hi,.inr ?_⟩;rw[abd hS];simp only[inC,List.mem_singleton,decide_eq_true_eq]at hi;exact⟨by omega,hi⟩
  rcases hcase with⟨g',gs'',rfl,hi⟩|⟨hdrop,hno⟩
  ·have hl':=abd hS;obtain⟨t1,t2,t3,t4,t5,t6⟩:=hS.tail;clear hS;have HN:=hide (fun(W:World) (h:Rdr W q s p')=>ace W q s p' h (by omega) t2 HO.out t4);have hd:=abq s p'.b t2;have HO2:=hide (HO.out.past (Utf8.decode s p'.b).1 (Utf8.decode s p'.b).2 hd.1);have HS2:=hide t5;have hpos:(p'.past (Utf8.decode s p'.b).1 (Utf8.decode s p'.b).2).b=p'.b+(Utf8.decode s p'.b).2:=rfl;have hgl:(p'.past (Utf8.decode s p'.b).1 (Utf8.decode s p'.b).2).g=p'.g+1:=rfl;generalize p'.past (Utf8.decode s p'.b).1 (Utf8.decode s p'.b).2=p2 at HN HO2 HS2 hpos hgl;have hpos':p'.b<p2.b/\p2.b<=s.size:=by omega
   have hyes:(gcls (g'.code:Int)==3)=true:=by
    simp only[inC,List.mem_singleton,decide_eq_true_eq]at hi;rw[hi];rfl
   have hge:(0:Int)<=(g'.code:Int):=by omega
   have HD2:Hid ((g::gs).dropWhile (inC [3])=gs''.dropWhile (inC [3])):=by
    show _=_;rw[HDW.out,List.dropWhile_cons_of_pos hi]
   have HC3:Hid (p2.g+gs''.length=p.g+(g::gs).length):=by
    show _=_;have:=HCN.out;simp only[List.length_cons]at this ⊢;omega
   clear t1 t2 t3 t4 t5 t6 hd hpos hgl hi;go_wp2_with fail
   refine(aa1 wr q s p' HR.out.rdr (by omega)).mono ?_;rintro r w2 ⟨rfl,hb2⟩;rw[hl'];replace HR:=hide (HR.out.below hb2);clear hb2;go_wp2_with fail
   refine(aa1 w2 q s p' HR.out.rdr (by omega)).mono ?_;rintro r w3 ⟨rfl,hb3⟩;rw[hl'];replace HR:=hide (HR.out.below hb3);clear hb3 hl';go_wp2_with (go_at_call 144;refine(abg _ _).mono ?_;rintro r w' ⟨rfl,rfl⟩)
   refine(HN.out _ HR.out.rdr).mono ?_;rintro r w4 ⟨rfl,ht4,hR4⟩;have HR4:=hide (HR.out.move ht4 hR4);clear ht4 hR4;go_wp2;go_roundw
   case rel=>exact⟨p2,gs'',HS2.out,HO2.out,hpos'.2,by omega,HD2.out,HC3.out,HR4.out⟩
   case measure=>rw[IP.out,HR4.out.rdr.pos];omega
  ·have HDD:=hide (HDW.out.trans hdrop);clear hdrop;have hpl:plf gs' e=p':=hS.plf;have HTX:Hid (s.extract g.pl.b (plf ((g::gs).dropWhile (inC [3])) e).b=s.extract p.b p'.b):=by
    show _=_;rw[HDD.out,hpl,HP.out]
   have hdg:=HQ.out.digits HOK.out hpb;rw[HDD.out,hpl]at hdg;have hlt:p.b<p'.b:=by
    have h1:=HQ.out.tail;have h2:=abq s p.b h1.2.1;have h3:(g::gs).dropWhile (inC [3])=gs.dropWhile (inC [3]):=List.dropWhile_cons_of_pos (by simp[inC,HC2.out]);have h4:gs.length-gs'.length+gs'.length=gs.length:=by
     have h5:gs'=gs.dropWhile (inC [3]):=by rw[<-h3,HDD.out]
     have h6:(gs.dropWhile (inC [3])).length<=gs.length:=(List.dropWhile_sublist _).length_le;rw[h5];omega
    have h7:=HCN.out;simp only[List.length_cons]at h7;apply Classical.byContradiction;intro hn;have h8:p'.b=p.b:=by omega
    have h9:(Lm.plf gs e).b=p.b+(Utf8.decode s p.b).2:=by rw[h1.2.2.2.2.2];rfl
    have h10:=h1.2.2.2.2.1.digits (HOK.out.past _ _ h2.1) (by simp only[Pl.past];omega);rw[<-h3,HDD.out,hpl]at h10;have h11:=h10.2.1;simp only[Pl.past]at h11;omega
   obtain⟨DS,hDS⟩:=apd hdg.1;obtain⟨nn,hnn⟩:∃n,IsLen (dval (bytesOf (s.extract p.b p'.b))) n:=by
    obtain⟨rs,hc,hv⟩:=aup (dval (bytesOf (s.extract p.b p'.b))).toNat;exact⟨rs.length,rs,hc,by rw[hv];exact Int.toNat_of_nonneg (aa5 hdg.1).1,rfl⟩
   have hsz:(s.extract p.b p'.b).size=p'.b-p.b:=by rw[ByteArray.size_extract];omega
   have KB:=hide (fun(W:World)=>(axr W (s.extract p.b p'.b) (by omega) hdg.1).mono (R':=fun e w'=>e=.returned (.string (strOfNums DS))/\w'=W) fun e w' h=>by
    obtain⟨rfl,ds,h1,rfl,_⟩:=h
    exact⟨by rw[ae6 h1 hDS],rfl⟩)
   have HL:=hide hnn;have HDS:=hide hDS;have HV:Hid (dval (bytesOf (strOfNums DS))=dval (bytesOf (s.extract p.b p'.b))):=by
    show _=_;rw[adj hDS.1];exact hDS.2.1
   have hDz:(strOfNums DS).size<=5120:=by
    have h1:=auq hdg.1 hDS (by rw[aat];omega);rw[aat,hsz]at h1;have h2:(strOfNums DS).size=DS.length:=by rw[<-aat,adj hDS.1]
    omega
   clear hS hpl hDS hnn hsz;rcases hno with hneg|⟨hge,hnc⟩
   ·have hneg':decide ((0:Int)<=lookS s p')=false:=by simp;omega
    go_wp2_with fail
    refine(aa1 wr q s p' HR.out.rdr (by omega)).mono ?_;rintro r w2 ⟨rfl,hb2⟩;replace HR:=hide (HR.out.below hb2);clear hb2 hneg;generalize lookS s p'=lk at hneg' ⊢;have HRK:=hide (HR.out.kind 2);have dk0:=HR.out.cells.d0;have dkv:=HR.out.cells.v0;go_wp2_with fail
    clear dk0 dkv;generalize w2.setCell ⟨F+1+1+1,0,none⟩ (.int .i64 2)=wK at HRK ⊢;obtain⟨hq,k0,k1,k2,k3,k4,f1,f2,f3,f4⟩:=HRK.out.rdr.cells;obtain⟨a0,a1,a2,a3,a4,a5,b0,b1,b2,b3,c0,c1,c2,c3,d0,d1,d2,d3,d4,d5,x0,x1,x2,x3,x4,x5,y0,y1,y2,y3,v0,v1⟩:=HRK.out.cells;have hpp':(p.b:Int)<=(p'.b:Int):=by omega
    have hps:(p'.b:Int)<=(s.size:Int):=by omega
    go_cut [] (fun wx=>RtS w wx q F s p p' ⟨2,strOfNums DS,p⟩)
    case first=>
     go_region_law (refine akr rfl (.tmp 81) #[9] rfl (s.extract p.b p'.b) (strOfNums DS) (by simp[Act.eval,Act.put]) KB.out ?_)
     all_goals (
      go_wp2_with fail
      go_meet
      exact(HRK.out.text (strOfNums DS)).drew)
    case rest=>
     have HRT:=hide hcut;clear hcut HRK hq k0 k1 k2 k3 k4 f1 f2 f3 f4 a0 a1 a2 a3 a4 a5 b0 b1 b2 b3 c0 c1 c2 c3 d0 d1 d2 d3 d4 d5 x0 x1 x2 x3 x4 x5 y0 y1 y2 y3 v0 v1;have d1:=HRT.out.cells.d1;simp only at d1;go_wp2_with fail
     refine(Dm.ai3 wc (strOfNums DS) (by rw[adj HDS.out.1];exact HDS.out.1) hDz).mono ?_;rintro r w5 ⟨ao,cap,D,rfl,hG,hD6,hb5⟩;rw[HV.out]at hG;replace HRT:=hide (HRT.out.below hb5);have HG:=hide hG;clear hb5 d1 hG;go_wp2_with fail
     refine(apn w5 ao cap D _ (aa5 hdg.1).1 HG.out hD6 nn HL.out).mono ?_;rintro r w6 ⟨rfl,hb6⟩;replace HRT:=hide (HRT.out.below hb6);clear hb6;obtain⟨a0,a1,a2,a3,a4,a5,b0,b1,b2,b3,c0,c1,c2,c3,d0,d1,d2,d3,d4,d5,x0,x1,x2,x3,x4,x5,y0,y1,y2,y3,v0,v1⟩:=HRT.out.cells;by_cases h32:32<nn
     ·have h32':decide (32<nn)=true:=by simp[h32]
      rw[h32'];go_wp2_with fail
      go_region
      go_wp2;refine acm HRT.out.fin.drew 2 rfl rfl rfl rfl ⟨HRT.out.fin.drew.tq,.bad 2,?_,_,rfl⟩;have:=adb (s:=s) (e:=e) (r:=gs) (n:=nn) (ds:=DS) HC2.out (by rw[HTX.out];exact HL.out) (by rw[HTX.out];exact HDS.out);rw[HDD.out,if_pos h32]at this;exact this
     ·have h32':decide (32<nn)=false:=by simp;omega
      rw[h32'];go_wp2_with fail
      go_region
      go_wp2;refine acm HRT.out.fin.drew 0 rfl rfl rfl rfl ⟨HRT.out.fin.drew.tq,.ok 2 (strOfNums DS) gs',?_,rfl,p',HRT.out.fin.drew.rdr,HS.out,HO.out,hb'⟩;have:=adb (s:=s) (e:=e) (r:=gs) (n:=nn) (ds:=DS) HC2.out (by rw[HTX.out];exact HL.out) (by rw[HTX.out];exact HDS.out);rw[HDD.out,if_neg h32]at this;exact this
   ·have hnc':(gcls (lookS s p')==3)=false:=beq_eq_false_iff_ne.2 hnc;go_wp2_with fail
    refine(aa1 wr q s p' HR.out.rdr (by omega)).mono ?_;rintro r w2 ⟨rfl,hb2⟩;replace HR:=hide (HR.out.below hb2);clear hb2 hnc;have KL:=hide (fun(W:World) (h:Rdr W q s p')=>aa1 W q s p' h (by omega));generalize lookS s p'=lk at hge hnc' KL ⊢;go_wp2_with fail
    refine(KL.out w2 HR.out.rdr).mono ?_;rintro r w3 ⟨rfl,hb3⟩;replace HR:=hide (HR.out.below hb3);clear hb3 KL;have HRK:=hide (HR.out.kind 2);have dk0:=HR.out.cells.d0;have dkv:=HR.out.cells.v0;go_wp2_with fail
    refine(abg _ _).mono ?_;rintro r w4 ⟨rfl,rfl⟩;go_wp2_with fail
    clear dk0 dkv;generalize w4.setCell ⟨F+1+1+1,0,none⟩ (.int .i64 2)=wK at HRK ⊢;obtain⟨hq,k0,k1,k2,k3,k4,f1,f2,f3,f4⟩:=HRK.out.rdr.cells;obtain⟨a0,a1,a2,a3,a4,a5,b0,b1,b2,b3,c0,c1,c2,c3,d0,d1,d2,d3,d4,d5,x0,x1,x2,x3,x4,x5,y0,y1,y2,y3,v0,v1⟩:=HRK.out.cells;have hpp':(p.b:Int)<=(p'.b:Int):=by omega
    have hps:(p'.b:Int)<=(s.size:Int):=by omega
    go_cut [] (fun wx=>RtS w wx q F s p p' ⟨2,strOfNums DS,p⟩)
    case first=>
     go_region_law (refine akr rfl (.tmp 81) #[9] rfl (s.extract p.b p'.b) (strOfNums DS) (by simp[Act.eval,Act.put]) KB.out ?_)
     all_goals (
      go_wp2_with fail
      go_meet
      exact(HRK.out.text (strOfNums DS)).drew)
    case rest=>
     have HRT:=hide hcut;clear hcut HRK hq k0 k1 k2 k3 k4 f1 f2 f3 f4 a0 a1 a2 a3 a4 a5 b0 b1 b2 b3 c0 c1 c2 c3 d0 d1 d2 d3 d4 d5 x0 x1 x2 x3 x4 x5 y0 y1 y2 y3 v0 v1;have d1:=HRT.out.cells.d1;simp only at d1;go_wp2_with fail
     refine(Dm.ai3 wc (strOfNums DS) (by rw[adj HDS.out.1];exact HDS.out.1) hDz).mono ?_;rintro r w5 ⟨ao,cap,D,rfl,hG,hD6,hb5⟩;rw[HV.out]at hG;replace HRT:=hide (HRT.out.below hb5);have HG:=hide hG;clear hb5 d1 hG;go_wp2_with fail
     refine(apn w5 ao cap D _ (aa5 hdg.1).1 HG.out hD6 nn HL.out).mono ?_;rintro r w6 ⟨rfl,hb6⟩;replace HRT:=hide (HRT.out.below hb6);clear hb6;obtain⟨a0,a1,a2,a3,a4,a5,b0,b1,b2,b3,c0,c1,c2,c3,d0,d1,d2,d3,d4,d5,x0,x1,x2,x3,x4,x5,y0,y1,y2,y3,v0,v1⟩:=HRT.out.cells;by_cases h32:32<nn
     ·have h32':decide (32<nn)=true:=by simp[h32]
      rw[h32'];go_wp2_with fail
      go_region
      go_wp2;refine acm HRT.out.fin.drew 2 rfl rfl rfl rfl ⟨HRT.out.fin.drew.tq,.bad 2,?_,_,rfl⟩;have:=adb (s:=s) (e:=e) (r:=gs) (n:=nn) (ds:=DS) HC2.out (by rw[HTX.out];exact HL.out) (by rw[HTX.out];exact HDS.out);rw[HDD.out,if_pos h32]at this;exact this
     ·have h32':decide (32<nn)=false:=by simp;omega
      rw[h32'];go_wp2_with fail
      go_region
      go_wp2;refine acm HRT.out.fin.drew 0 rfl rfl rfl rfl ⟨HRT.out.fin.drew.tq,.ok 2 (strOfNums DS) gs',?_,rfl,p',HRT.out.fin.drew.rdr,HS.out,HO.out,hb'⟩;have:=adb (s:=s) (e:=e) (r:=gs) (n:=nn) (ds:=DS) HC2.out (by rw[HTX.out];exact HL.out) (by rw[HTX.out];exact HDS.out);rw[HDD.out,if_neg h32]at this;exact this
structure RgS (w wr:World) (q f B:Nat) (s:ByteArray) (p:Pl) (T:TypeId) (v:Value) (n:Nat) (xs:List Value):Prop where
 rdr:Rdr wr q s p
 own:wr.ownsRow B T 6 v n xs
 zer:PlB wr f plz
 bel:Below w.heap.size w wr
 siz:B<=wr.heap.size
 fw:w.heap.size<=f
 qw:w.heap.size<=q
 fq:f≠q
 fB:f<B
 qB:q<B
section
variable {w wr w' w1:World} {q f B:Nat} {s:ByteArray} {p p':Pl} {T:TypeId} {v v':Value} {n n':Nat} {xs xs':List Value}
theorem RgS.below(h:RgS w wr q f B s p T v n xs)(hb:Below wr.heap.size wr w'):RgS w w' q f B s p T v n xs:=
 ⟨h.rdr.below hb,aci h.own hb,h.zer.below hb,h.bel.trans (hb.mono h.bel.size),Nat.le_trans h.siz hb.size,h.fw,h.qw,h.fq,h.fB,h.qB⟩
theorem RgS.tq(h:RgS w wr q f B s p T v n xs)(ht:Tq wr w' q)(hr:Rdr w' q s p'):RgS w w' q f B s p' T v n xs:=
 ⟨hr,ado h.own fun k _ hk he=>(ht.other k (aaa he) (by have:=h.qB;omega)).trans he,h.zer.tq ht h.fq,ae2 h.bel ht h.qw (Nat.le_refl _),Nat.le_trans h.siz ht.size,h.fw,h.qw,h.fq,h.fB,h.qB⟩
theorem RgS.more(h:RgS w wr q f B s p T v n xs)(hg:wr.grownBy w1 v.ownBlock)(hown:w1.ownsRow B T 6 v' n' xs'):RgS w w1 q f B s p T v' n' xs':=by
 have hrow:∀k,k<B->some k≠v.ownBlock:=by
  intro k hk;obtain⟨hl,⟨rfl,_⟩|⟨b,cap,cur,rfl,hb,_⟩⟩:=h.own
  ·simp[Value.ownBlock]
  ·simp only[Value.ownBlock,ne_eq,Option.some.injEq];omega
 have hz:=h.siz;have hB:∀k,k<B->w1.heap[k]? = wr.heap[k]? :=fun k hk=>hg.block k (by omega) (hrow k hk)
 exact⟨(hB q h.qB).trans h.rdr,hown,(hB f h.fB).trans h.zer,⟨hg.os.trans h.bel.os,hg.tape.trans h.bel.tape,hg.output.trans h.bel.output,Nat.le_trans h.bel.size hg.size,fun k hk=>(hB k (by have:=h.fw;have:=h.fB;omega)).trans (h.bel.block k hk)⟩,Nat.le_trans h.siz hg.size,h.fw,h.qw,h.fq,h.fB,h.qB⟩
end
theorem bys(w:World)(l:List UInt8)(n:Nat)(hn:n=l.length)(cs:Array Value)(hc:cs=(l.map fun b=>Value.int .u8 (b.toNat:Int)).toArray):
  (convert 135 9 (.slice (some ⟨w.heap.size,0,none⟩) n n)).run Tryz.prog (w.alloc (.cells cs 5))=.ok (.string ⟨l.toArray⟩) (w.alloc (.cells cs 5)):=by
 subst hn;refine run_convert_bytes_back _ 135 9 5 _ _ l Tryz.underlying135 Tryz.underlying5 Tryz.underlying9 ?_;intro j hj;have e:(⟨w.heap.size,0,none⟩:Addr).add j=⟨w.heap.size,j,none⟩:=by simp[Addr.add];intro h;exact h.symm
 rw[e,World.cell?_alloc_mark,hc];simp[hj]
set_option maxRecDepth 400000 in
theorem aob(w:World)(q:Nat)(s:ByteArray)(p e:Pl)(g:Gl)(gs:List Gl)(h:Rdr w q s p)(hm:s.size<=4096)(hQ:Snd s p (g::gs) e)(hok:p.ok)(h5:gcls g.code=5)(hc:g.code=8788):
  Calls Tryz.prog 116 #[.pointer (some ⟨q,0,none⟩)] w fun r w'=>Tq w w' q/\RtO w' q s e p r (.ok 3 (strOfNums [58,61]) gs):=by
 have hl:=abd hQ;have hg0:0<=(g.code:Int):=by omega
 have n1:((g.code:Int) == -1)=false:=beq_eq_false_iff_ne.2 (by omega);have HQ:=hide hQ;clear hQ;have q2:(gcls (g.code:Int)==2)=false:=by rw[h5];rfl
 have q3:(gcls (g.code:Int)==3)=false:=by rw[h5];rfl
 have q5:(gcls (g.code:Int)==5)=true:=by rw[h5];rfl
 obtain⟨t1,t2,t3,t4,t5,t6⟩:=HQ.out.tail;have HN:=hide (fun(W:World) (h:Rdr W q s p)=>ace W q s p h (by omega) t2 hok t4);have hd:=abq s p.b t2;have HO2:=hide (hok.past (Utf8.decode s p.b).1 (Utf8.decode s p.b).2 hd.1);have HS2:=hide t5;have hpos:(p.past (Utf8.decode s p.b).1 (Utf8.decode s p.b).2).b=p.b+(Utf8.decode s p.b).2:=rfl;generalize p.past (Utf8.decode s p.b).1 (Utf8.decode s p.b).2=p2 at HN HO2 HS2 hpos;have hpos':p2.b<=s.size:=by omega
 have m1:((g.code:Int)==8788)=true:=by simp;omega
 clear hc;clear t1 t2 t3 t4 t5 t6 hd hpos h5 hok;have HS0:=hide (aca w q s p h);obtain⟨hq,k0,k1,k2,k3,k4,f1,f2,f3,f4⟩:=h.cells;clear h;go_enter Tryz.func116,Tryz.ntmps116
 go_wp2_with fail
 generalize ((((w.alloc (.cells #[.int .i64 0,.string ⟨#[]⟩,.int .i64 0,.int .i64 0,.int .i64 0,.int .i64 0] 109)).alloc (.cells #[.int .i64 0,.int .i64 0,.int .i64 0,.int .i64 0] 56)).alloc (.cells #[.int .i64 p.b,.int .i64 p.g,.int .i64 p.l,.int .i64 p.c] 56)).alloc (.cells #[.int .i64 0,.string ⟨#[]⟩,.int .i64 p.b,.int .i64 p.g,.int .i64 p.l,.int .i64 p.c] 109))=W0 at HS0 ⊢;clear k0 k1 k2 k3 k4 f1 f2 f3 f4 hq;generalize w.heap.size=F at HS0 ⊢;refine(aa1 W0 q s p HS0.out.rdr (by omega)).mono ?_;rintro r W1 ⟨rfl,hb1⟩;rw[hl];have HS1:=hide (HS0.out.below hb1);clear hb1 HS0 hl;have HRK:=hide (HS1.out.kind 3);have dk0:=HS1.out.cells.d0;have dkv:=HS1.out.cells.v0;go_wp2_with fail
 refine(abg _ _).mono ?_;rintro r Wb ⟨rfl,rfl⟩;go_wp2_with fail
 clear dk0 dkv;generalize Wb.setCell ⟨F+1+1+1,0,none⟩ (.int .i64 3)=wK at HRK ⊢;refine(HN.out wK HRK.out.rdr).mono ?_;rintro r w4 ⟨rfl,ht4,hR4⟩;have HR4:=hide (HRK.out.move ht4 hR4);clear ht4 hR4 HRK HS1;have e1:=HR4.out.cells.d1;have e2:=HR4.out.cells.v1;simp only at e1;go_wp2_with fail
 have HRT:=hide (HR4.out.text ⟨#[58,61]⟩);simp only at HRT;clear e1 e2 HR4;generalize w4.setCell ⟨F+1+1+1,1,none⟩ (.string ⟨#[58,61]⟩)=wT at HRT ⊢;obtain⟨a0,a1,a2,a3,a4,a5,b0,b1,b2,b3,c0,c1,c2,c3,d0,d1,d2,d3,d4,d5,x0,x1,x2,x3,x4,x5,y0,y1,y2,y3,v0,v1⟩:=HRT.out.cells;go_wp2_with fail
 go_region
 go_wp2;exact acm HRT.out.fin.drew 0 rfl rfl rfl rfl ⟨HRT.out.fin.drew.tq,rfl,p2,HRT.out.fin.drew.rdr,HS2.out,HO2.out,hpos'⟩
set_option maxRecDepth 400000 in
theorem aoc(w:World)(q:Nat)(s:ByteArray)(p e:Pl)(g:Gl)(gs:List Gl)(h:Rdr w q s p)(hm:s.size<=4096)(hQ:Snd s p (g::gs) e)(hok:p.ok)(h5:gcls g.code=5)(hc:g.code=8800):
  Calls Tryz.prog 116 #[.pointer (some ⟨q,0,none⟩)] w fun r w'=>Tq w w' q/\RtO w' q s e p r (.ok 3 (strOfNums [33,61]) gs):=by
 have hl:=abd hQ;have hg0:0<=(g.code:Int):=by omega
 have n1:((g.code:Int) == -1)=false:=beq_eq_false_iff_ne.2 (by omega);have HQ:=hide hQ;clear hQ;have q2:(gcls (g.code:Int)==2)=false:=by rw[h5];rfl
 have q3:(gcls (g.code:Int)==3)=false:=by rw[h5];rfl
 have q5:(gcls (g.code:Int)==5)=true:=by rw[h5];rfl
 obtain⟨t1,t2,t3,t4,t5,t6⟩:=HQ.out.tail;have HN:=hide (fun(W:World) (h:Rdr W q s p)=>ace W q s p h (by omega) t2 hok t4);have hd:=abq s p.b t2;have HO2:=hide (hok.past (Utf8.decode s p.b).1 (Utf8.decode s p.b).2 hd.1);have HS2:=hide t5;have hpos:(p.past (Utf8.decode s p.b).1 (Utf8.decode s p.b).2).b=p.b+(Utf8.decode s p.b).2:=rfl;generalize p.past (Utf8.decode s p.b).1 (Utf8.decode s p.b).2=p2 at HN HO2 HS2 hpos;have hpos':p2.b<=s.size:=by omega
 have m0:((g.code:Int)==8788)=false:=beq_eq_false_iff_ne.2 (by omega);have m1:((g.code:Int)==8800)=true:=by simp;omega
 clear hc;clear t1 t2 t3 t4 t5 t6 hd hpos h5 hok;have HS0:=hide (aca w q s p h);obtain⟨hq,k0,k1,k2,k3,k4,f1,f2,f3,f4⟩:=h.cells;clear h;go_enter Tryz.func116,Tryz.ntmps116
 go_wp2_with fail
 generalize ((((w.alloc (.cells #[.int .i64 0,.string ⟨#[]⟩,.int .i64 0,.int .i64 0,.int .i64 0,.int .i64 0] 109)).alloc (.cells #[.int .i64 0,.int .i64 0,.int .i64 0,.int .i64 0] 56)).alloc (.cells #[.int .i64 p.b,.int .i64 p.g,.int .i64 p.l,.int .i64 p.c] 56)).alloc (.cells #[.int .i64 0,.string ⟨#[]⟩,.int .i64 p.b,.int .i64 p.g,.int .i64 p.l,.int .i64 p.c] 109))=W0 at HS0 ⊢;clear k0 k1 k2 k3 k4 f1 f2 f3 f4 hq;generalize w.heap.size=F at HS0 ⊢;refine(aa1 W0 q s p HS0.out.rdr (by omega)).mono ?_;rintro r W1 ⟨rfl,hb1⟩;rw[hl];have HS1:=hide (HS0.out.below hb1);clear hb1 HS0 hl;have HRK:=hide (HS1.out.kind 3);have dk0:=HS1.out.cells.d0;have dkv:=HS1.out.cells.v0;go_wp2_with fail
 refine(abg _ _).mono ?_;rintro r Wb ⟨rfl,rfl⟩;go_wp2_with fail
 clear dk0 dkv;generalize Wb.setCell ⟨F+1+1+1,0,none⟩ (.int .i64 3)=wK at HRK ⊢;refine(HN.out wK HRK.out.rdr).mono ?_;rintro r w4 ⟨rfl,ht4,hR4⟩;have HR4:=hide (HRK.out.move ht4 hR4);clear ht4 hR4 HRK HS1;have e1:=HR4.out.cells.d1;have e2:=HR4.out.cells.v1;simp only at e1;go_wp2_with fail
 have HRT:=hide (HR4.out.text ⟨#[33,61]⟩);simp only at HRT;clear e1 e2 HR4;generalize w4.setCell ⟨F+1+1+1,1,none⟩ (.string ⟨#[33,61]⟩)=wT at HRT ⊢;obtain⟨a0,a1,a2,a3,a4,a5,b0,b1,b2,b3,c0,c1,c2,c3,d0,d1,d2,d3,d4,d5,x0,x1,x2,x3,x4,x5,y0,y1,y2,y3,v0,v1⟩:=HRT.out.cells;go_wp2_with fail
 go_region
 go_wp2;exact acm HRT.out.fin.drew 0 rfl rfl rfl rfl ⟨HRT.out.fin.drew.tq,rfl,p2,HRT.out.fin.drew.rdr,HS2.out,HO2.out,hpos'⟩
set_option maxRecDepth 400000 in
theorem ams(w:World)(q:Nat)(s:ByteArray)(p e:Pl)(g:Gl)(gs:List Gl)(h:Rdr w q s p)(hm:s.size<=4096)(hQ:Snd s p (g::gs) e)(hok:p.ok)(h5:gcls g.code=5)(hc:g.code=58)(hno:lookS s (p.past (Utf8.decode s p.b).1 (Utf8.decode s p.b).2)≠61):
  Calls Tryz.prog 116 #[.pointer (some ⟨q,0,none⟩)] w fun r w'=>Tq w w' q/\RtO w' q s e p r (.bad 41):=by
 have hl:=abd hQ;have hg0:0<=(g.code:Int):=by omega
 have n1:((g.code:Int) == -1)=false:=beq_eq_false_iff_ne.2 (by omega);have HQ:=hide hQ;clear hQ;have q2:(gcls (g.code:Int)==2)=false:=by rw[h5];rfl
 have q3:(gcls (g.code:Int)==3)=false:=by rw[h5];rfl
 have q5:(gcls (g.code:Int)==5)=true:=by rw[h5];rfl
 obtain⟨t1,t2,t3,t4,t5,t6⟩:=HQ.out.tail;have HN:=hide (fun(W:World) (h:Rdr W q s p)=>ace W q s p h (by omega) t2 hok t4);have hd:=abq s p.b t2;have HO2:=hide (hok.past (Utf8.decode s p.b).1 (Utf8.decode s p.b).2 hd.1);have HS2:=hide t5;have hpos:(p.past (Utf8.decode s p.b).1 (Utf8.decode s p.b).2).b=p.b+(Utf8.decode s p.b).2:=rfl;generalize p.past (Utf8.decode s p.b).1 (Utf8.decode s p.b).2=p2 at HN HO2 HS2 hpos hno;have hpos':p2.b<=s.size:=by omega
 have m0:((g.code:Int)==8788)=false:=beq_eq_false_iff_ne.2 (by omega);have m1:((g.code:Int)==8800)=false:=beq_eq_false_iff_ne.2 (by omega);have m2:((g.code:Int)==58)=true:=by simp;omega
 have m3:((g.code:Int)==33)=false:=beq_eq_false_iff_ne.2 (by omega);have hno0:=hno;clear hno hc;clear t1 t2 t3 t4 t5 t6 hd hpos h5 hok;have HS0:=hide (aca w q s p h);obtain⟨hq,k0,k1,k2,k3,k4,f1,f2,f3,f4⟩:=h.cells;clear h;go_enter Tryz.func116,Tryz.ntmps116
 go_wp2_with fail
 generalize ((((w.alloc (.cells #[.int .i64 0,.string ⟨#[]⟩,.int .i64 0,.int .i64 0,.int .i64 0,.int .i64 0] 109)).alloc (.cells #[.int .i64 0,.int .i64 0,.int .i64 0,.int .i64 0] 56)).alloc (.cells #[.int .i64 p.b,.int .i64 p.g,.int .i64 p.l,.int .i64 p.c] 56)).alloc (.cells #[.int .i64 0,.string ⟨#[]⟩,.int .i64 p.b,.int .i64 p.g,.int .i64 p.l,.int .i64 p.c] 109))=W0 at HS0 ⊢;clear k0 k1 k2 k3 k4 f1 f2 f3 f4 hq;generalize w.heap.size=F at HS0 ⊢;refine(aa1 W0 q s p HS0.out.rdr (by omega)).mono ?_;rintro r W1 ⟨rfl,hb1⟩;rw[hl];have HS1:=hide (HS0.out.below hb1);clear hb1 HS0 hl;have HRK:=hide (HS1.out.kind 3);have dk0:=HS1.out.cells.d0;have dkv:=HS1.out.cells.v0;go_wp2_with fail
 refine(abg _ _).mono ?_;rintro r Wb ⟨rfl,rfl⟩;go_wp2_with fail
 clear dk0 dkv;generalize Wb.setCell ⟨F+1+1+1,0,none⟩ (.int .i64 3)=wK at HRK ⊢;refine(HN.out wK HRK.out.rdr).mono ?_;rintro r w4 ⟨rfl,ht4,hR4⟩;have HR4:=hide (HRK.out.move ht4 hR4);clear ht4 hR4 HRK HS1;have e1:=HR4.out.cells.d1;have e2:=HR4.out.cells.v1;simp only at e1;go_wp2_with fail
 refine(aa1 w4 q s p2 HR4.out.rdr (by omega)).mono ?_;rintro r w5 ⟨rfl,hb5⟩;have HRT:=hide (HR4.out.below hb5);have hne:(lookS s p2 != 61)=true:=by simp[hno0]
 clear hb5 e1 e2 HR4 hno0;generalize lookS s p2=lk at hne ⊢;obtain⟨a0,a1,a2,a3,a4,a5,b0,b1,b2,b3,c0,c1,c2,c3,d0,d1,d2,d3,d4,d5,x0,x1,x2,x3,x4,x5,y0,y1,y2,y3,v0,v1⟩:=HRT.out.cells;go_wp2_with fail
 go_region
 go_wp2;exact acm HRT.out.fin.drew 41 rfl rfl rfl rfl ⟨HRT.out.fin.drew.tq,_,rfl⟩
set_option maxRecDepth 400000 in
theorem amt(w:World)(q:Nat)(s:ByteArray)(p e:Pl)(g:Gl)(gs:List Gl)(h:Rdr w q s p)(hm:s.size<=4096)(hQ:Snd s p (g::gs) e)(hok:p.ok)(h5:gcls g.code=5)(hc:g.code=58)(g2:Gl)(gs2:List Gl)(hgs:gs=g2::gs2)(h61:g2.code=61):
  Calls Tryz.prog 116 #[.pointer (some ⟨q,0,none⟩)] w fun r w'=>Tq w w' q/\RtO w' q s e p r (.ok 3 (strOfNums [58,61]) gs2):=by
 have hl:=abd hQ;have hg0:0<=(g.code:Int):=by omega
 have n1:((g.code:Int) == -1)=false:=beq_eq_false_iff_ne.2 (by omega);have HQ:=hide hQ;clear hQ;have q2:(gcls (g.code:Int)==2)=false:=by rw[h5];rfl
 have q3:(gcls (g.code:Int)==3)=false:=by rw[h5];rfl
 have q5:(gcls (g.code:Int)==5)=true:=by rw[h5];rfl
 obtain⟨t1,t2,t3,t4,t5,t6⟩:=HQ.out.tail;have HN:=hide (fun(W:World) (h:Rdr W q s p)=>ace W q s p h (by omega) t2 hok t4);have hd:=abq s p.b t2;have HO2:=hide (hok.past (Utf8.decode s p.b).1 (Utf8.decode s p.b).2 hd.1);have HS2:=hide t5;have hpos:(p.past (Utf8.decode s p.b).1 (Utf8.decode s p.b).2).b=p.b+(Utf8.decode s p.b).2:=rfl;generalize p.past (Utf8.decode s p.b).1 (Utf8.decode s p.b).2=p2 at HN HO2 HS2 hpos;have hpos':p2.b<=s.size:=by omega
 subst hgs;have m0:((g.code:Int)==8788)=false:=beq_eq_false_iff_ne.2 (by omega);have m1:((g.code:Int)==8800)=false:=beq_eq_false_iff_ne.2 (by omega);have m2:((g.code:Int)==58)=true:=by simp;omega
 have m3:((g.code:Int)==33)=false:=beq_eq_false_iff_ne.2 (by omega);clear hc;clear t1 t2 t3 t4 t5 t6 hd hpos h5 hok;have HS0:=hide (aca w q s p h);obtain⟨hq,k0,k1,k2,k3,k4,f1,f2,f3,f4⟩:=h.cells;clear h;go_enter Tryz.func116,Tryz.ntmps116
 go_wp2_with fail
 generalize ((((w.alloc (.cells #[.int .i64 0,.string ⟨#[]⟩,.int .i64 0,.int .i64 0,.int .i64 0,.int .i64 0] 109)).alloc (.cells #[.int .i64 0,.int .i64 0,.int .i64 0,.int .i64 0] 56)).alloc (.cells #[.int .i64 p.b,.int .i64 p.g,.int .i64 p.l,.int .i64 p.c] 56)).alloc (.cells #[.int .i64 0,.string ⟨#[]⟩,.int .i64 p.b,.int .i64 p.g,.int .i64 p.l,.int .i64 p.c] 109))=W0 at HS0 ⊢;clear k0 k1 k2 k3 k4 f1 f2 f3 f4 hq;generalize w.heap.size=F at HS0 ⊢;refine(aa1 W0 q s p HS0.out.rdr (by omega)).mono ?_;rintro r W1 ⟨rfl,hb1⟩;rw[hl];have HS1:=hide (HS0.out.below hb1);clear hb1 HS0 hl;have HRK:=hide (HS1.out.kind 3);have dk0:=HS1.out.cells.d0;have dkv:=HS1.out.cells.v0;go_wp2_with fail
 refine(abg _ _).mono ?_;rintro r Wb ⟨rfl,rfl⟩;go_wp2_with fail
 clear dk0 dkv;generalize Wb.setCell ⟨F+1+1+1,0,none⟩ (.int .i64 3)=wK at HRK ⊢;refine(HN.out wK HRK.out.rdr).mono ?_;rintro r w4 ⟨rfl,ht4,hR4⟩;have HR4:=hide (HRK.out.move ht4 hR4);clear ht4 hR4 HRK HS1;have e1:=HR4.out.cells.d1;have e2:=HR4.out.cells.v1;simp only at e1;have hl2:=abd HS2.out;obtain⟨t1,t2,t3,t4,t5,t6⟩:=HS2.out.tail;have HN2:=hide (fun(W:World) (h:Rdr W q s p2)=>ace W q s p2 h (by omega) t2 HO2.out t4);have hd:=abq s p2.b t2;have HO3:=hide (HO2.out.past (Utf8.decode s p2.b).1 (Utf8.decode s p2.b).2 hd.1);have HS3:=hide t5;have hpos:(p2.past (Utf8.decode s p2.b).1 (Utf8.decode s p2.b).2).b=p2.b+(Utf8.decode s p2.b).2:=rfl;generalize p2.past (Utf8.decode s p2.b).1 (Utf8.decode s p2.b).2=p3 at HN2 HO3 HS3 hpos;have hpos3:p3.b<=s.size:=by omega
 have hne:((g2.code:Int) != 61)=false:=by rw[h61];rfl
 clear t1 t2 t3 t4 t5 t6 hd hpos;go_wp2_with fail
 refine(aa1 w4 q s p2 HR4.out.rdr (by omega)).mono ?_;rintro r w5 ⟨rfl,hb5⟩;rw[hl2];have HR5:=hide (HR4.out.below hb5);clear hb5 e1 e2 HR4 hl2;go_wp2_with fail
 refine(HN2.out w5 HR5.out.rdr).mono ?_;rintro r w6 ⟨rfl,ht6,hR6⟩;have HR6:=hide (HR5.out.move ht6 hR6);clear ht6 hR6 HR5;have e1:=HR6.out.cells.d1;have e2:=HR6.out.cells.v1;simp only at e1;go_wp2_with fail
 have HRT:=hide (HR6.out.text ⟨#[58,61]⟩);simp only at HRT;clear e1 e2 HR6;generalize w6.setCell ⟨F+1+1+1,1,none⟩ (.string ⟨#[58,61]⟩)=wT at HRT ⊢;obtain⟨a0,a1,a2,a3,a4,a5,b0,b1,b2,b3,c0,c1,c2,c3,d0,d1,d2,d3,d4,d5,x0,x1,x2,x3,x4,x5,y0,y1,y2,y3,v0,v1⟩:=HRT.out.cells;go_wp2_with fail
 go_region
 go_wp2;exact acm HRT.out.fin.drew 0 rfl rfl rfl rfl ⟨HRT.out.fin.drew.tq,rfl,p3,HRT.out.fin.drew.rdr,HS3.out,HO3.out,hpos3⟩
set_option maxRecDepth 400000 in
theorem amu(w:World)(q:Nat)(s:ByteArray)(p e:Pl)(g:Gl)(gs:List Gl)(h:Rdr w q s p)(hm:s.size<=4096)(hQ:Snd s p (g::gs) e)(hok:p.ok)(h5:gcls g.code=5)(hc:g.code=33)(hno:lookS s (p.past (Utf8.decode s p.b).1 (Utf8.decode s p.b).2)≠61):
  Calls Tryz.prog 116 #[.pointer (some ⟨q,0,none⟩)] w fun r w'=>Tq w w' q/\RtO w' q s e p r (.bad 41):=by
 have hl:=abd hQ;have hg0:0<=(g.code:Int):=by omega
 have n1:((g.code:Int) == -1)=false:=beq_eq_false_iff_ne.2 (by omega);have HQ:=hide hQ;clear hQ;have q2:(gcls (g.code:Int)==2)=false:=by rw[h5];rfl
 have q3:(gcls (g.code:Int)==3)=false:=by rw[h5];rfl
 have q5:(gcls (g.code:Int)==5)=true:=by rw[h5];rfl
 obtain⟨t1,t2,t3,t4,t5,t6⟩:=HQ.out.tail;have HN:=hide (fun(W:World) (h:Rdr W q s p)=>ace W q s p h (by omega) t2 hok t4);have hd:=abq s p.b t2;have HO2:=hide (hok.past (Utf8.decode s p.b).1 (Utf8.decode s p.b).2 hd.1);have HS2:=hide t5;have hpos:(p.past (Utf8.decode s p.b).1 (Utf8.decode s p.b).2).b=p.b+(Utf8.decode s p.b).2:=rfl;generalize p.past (Utf8.decode s p.b).1 (Utf8.decode s p.b).2=p2 at HN HO2 HS2 hpos hno;have hpos':p2.b<=s.size:=by omega
 have m0:((g.code:Int)==8788)=false:=beq_eq_false_iff_ne.2 (by omega);have m1:((g.code:Int)==8800)=false:=beq_eq_false_iff_ne.2 (by omega);have m2:((g.code:Int)==58)=false:=beq_eq_false_iff_ne.2 (by omega);have m3:((g.code:Int)==33)=true:=by simp;omega
 have hno0:=hno;clear hno hc;clear t1 t2 t3 t4 t5 t6 hd hpos h5 hok;have HS0:=hide (aca w q s p h);obtain⟨hq,k0,k1,k2,k3,k4,f1,f2,f3,f4⟩:=h.cells;clear h;go_enter Tryz.func116,Tryz.ntmps116
 go_wp2_with fail
 generalize ((((w.alloc (.cells #[.int .i64 0,.string ⟨#[]⟩,.int .i64 0,.int .i64 0,.int .i64 0,.int .i64 0] 109)).alloc (.cells #[.int .i64 0,.int .i64 0,.int .i64 0,.int .i64 0] 56)).alloc (.cells #[.int .i64 p.b,.int .i64 p.g,.int .i64 p.l,.int .i64 p.c] 56)).alloc (.cells #[.int .i64 0,.string ⟨#[]⟩,.int .i64 p.b,.int .i64 p.g,.int .i64 p.l,.int .i64 p.c] 109))=W0 at HS0 ⊢;clear k0 k1 k2 k3 k4 f1 f2 f3 f4 hq;generalize w.heap.size=F at HS0 ⊢;refine(aa1 W0 q s p HS0.out.rdr (by omega)).mono ?_;rintro r W1 ⟨rfl,hb1⟩;rw[hl];have HS1:=hide (HS0.out.below hb1);clear hb1 HS0 hl;have HRK:=hide (HS1.out.kind 3);have dk0:=HS1.out.cells.d0;have dkv:=HS1.out.cells.v0;go_wp2_with fail
 refine(abg _ _).mono ?_;rintro r Wb ⟨rfl,rfl⟩;go_wp2_with fail
 clear dk0 dkv;generalize Wb.setCell ⟨F+1+1+1,0,none⟩ (.int .i64 3)=wK at HRK ⊢;refine(HN.out wK HRK.out.rdr).mono ?_;rintro r w4 ⟨rfl,ht4,hR4⟩;have HR4:=hide (HRK.out.move ht4 hR4);clear ht4 hR4 HRK HS1;have e1:=HR4.out.cells.d1;have e2:=HR4.out.cells.v1;simp only at e1;go_wp2_with fail
 refine(aa1 w4 q s p2 HR4.out.rdr (by omega)).mono ?_;rintro r w5 ⟨rfl,hb5⟩;have HRT:=hide (HR4.out.below hb5);have hne:(lookS s p2 != 61)=true:=by simp[hno0]
 clear hb5 e1 e2 HR4 hno0;generalize lookS s p2=lk at hne ⊢;obtain⟨a0,a1,a2,a3,a4,a5,b0,b1,b2,b3,c0,c1,c2,c3,d0,d1,d2,d3,d4,d5,x0,x1,x2,x3,x4,x5,y0,y1,y2,y3,v0,v1⟩:=HRT.out.cells;go_wp2_with fail
 go_region
 go_wp2;exact acm HRT.out.fin.drew 41 rfl rfl rfl rfl ⟨HRT.out.fin.drew.tq,_,rfl⟩
set_option maxRecDepth 400000 in
theorem amv(w:World)(q:Nat)(s:ByteArray)(p e:Pl)(g:Gl)(gs:List Gl)(h:Rdr w q s p)(hm:s.size<=4096)(hQ:Snd s p (g::gs) e)(hok:p.ok)(h5:gcls g.code=5)(hc:g.code=33)(g2:Gl)(gs2:List Gl)(hgs:gs=g2::gs2)(h61:g2.code=61):
  Calls Tryz.prog 116 #[.pointer (some ⟨q,0,none⟩)] w fun r w'=>Tq w w' q/\RtO w' q s e p r (.ok 3 (strOfNums [33,61]) gs2):=by
 have hl:=abd hQ;have hg0:0<=(g.code:Int):=by omega
 have n1:((g.code:Int) == -1)=false:=beq_eq_false_iff_ne.2 (by omega);have HQ:=hide hQ;clear hQ;have q2:(gcls (g.code:Int)==2)=false:=by rw[h5];rfl
 have q3:(gcls (g.code:Int)==3)=false:=by rw[h5];rfl
 have q5:(gcls (g.code:Int)==5)=true:=by rw[h5];rfl
 obtain⟨t1,t2,t3,t4,t5,t6⟩:=HQ.out.tail;have HN:=hide (fun(W:World) (h:Rdr W q s p)=>ace W q s p h (by omega) t2 hok t4);have hd:=abq s p.b t2;have HO2:=hide (hok.past (Utf8.decode s p.b).1 (Utf8.decode s p.b).2 hd.1);have HS2:=hide t5;have hpos:(p.past (Utf8.decode s p.b).1 (Utf8.decode s p.b).2).b=p.b+(Utf8.decode s p.b).2:=rfl;generalize p.past (Utf8.decode s p.b).1 (Utf8.decode s p.b).2=p2 at HN HO2 HS2 hpos;have hpos':p2.b<=s.size:=by omega
 subst hgs;have m0:((g.code:Int)==8788)=false:=beq_eq_false_iff_ne.2 (by omega);have m1:((g.code:Int)==8800)=false:=beq_eq_false_iff_ne.2 (by omega);have m2:((g.code:Int)==58)=false:=beq_eq_false_iff_ne.2 (by omega);have m3:((g.code:Int)==33)=true:=by simp;omega
 clear hc;clear t1 t2 t3 t4 t5 t6 hd hpos h5 hok;have HS0:=hide (aca w q s p h);obtain⟨hq,k0,k1,k2,k3,k4,f1,f2,f3,f4⟩:=h.cells;clear h;go_enter Tryz.func116,Tryz.ntmps116
 go_wp2_with fail
 generalize ((((w.alloc (.cells #[.int .i64 0,.string ⟨#[]⟩,.int .i64 0,.int .i64 0,.int .i64 0,.int .i64 0] 109)).alloc (.cells #[.int .i64 0,.int .i64 0,.int .i64 0,.int .i64 0] 56)).alloc (.cells #[.int .i64 p.b,.int .i64 p.g,.int .i64 p.l,.int .i64 p.c] 56)).alloc (.cells #[.int .i64 0,.string ⟨#[]⟩,.int .i64 p.b,.int .i64 p.g,.int .i64 p.l,.int .i64 p.c] 109))=W0 at HS0 ⊢;clear k0 k1 k2 k3 k4 f1 f2 f3 f4 hq;generalize w.heap.size=F at HS0 ⊢;refine(aa1 W0 q s p HS0.out.rdr (by omega)).mono ?_;rintro r W1 ⟨rfl,hb1⟩;rw[hl];have HS1:=hide (HS0.out.below hb1);clear hb1 HS0 hl;have HRK:=hide (HS1.out.kind 3);have dk0:=HS1.out.cells.d0;have dkv:=HS1.out.cells.v0;go_wp2_with fail
 refine(abg _ _).mono ?_;rintro r Wb ⟨rfl,rfl⟩;go_wp2_with fail
 clear dk0 dkv;generalize Wb.setCell ⟨F+1+1+1,0,none⟩ (.int .i64 3)=wK at HRK ⊢;refine(HN.out wK HRK.out.rdr).mono ?_;rintro r w4 ⟨rfl,ht4,hR4⟩;have HR4:=hide (HRK.out.move ht4 hR4);clear ht4 hR4 HRK HS1;have e1:=HR4.out.cells.d1;have e2:=HR4.out.cells.v1;simp only at e1;have hl2:=abd HS2.out;obtain⟨t1,t2,t3,t4,t5,t6⟩:=HS2.out.tail;have HN2:=hide (fun(W:World) (h:Rdr W q s p2)=>ace W q s p2 h (by omega) t2 HO2.out t4);have hd:=abq s p2.b t2;have HO3:=hide (HO2.out.past (Utf8.decode s p2.b).1 (Utf8.decode s p2.b).2 hd.1);have HS3:=hide t5;have hpos:(p2.past (Utf8.decode s p2.b).1 (Utf8.decode s p2.b).2).b=p2.b+(Utf8.decode s p2.b).2:=rfl;generalize p2.past (Utf8.decode s p2.b).1 (Utf8.decode s p2.b).2=p3 at HN2 HO3 HS3 hpos;have hpos3:p3.b<=s.size:=by omega
 have hne:((g2.code:Int) != 61)=false:=by rw[h61];rfl
 clear t1 t2 t3 t4 t5 t6 hd hpos;go_wp2_with fail
 refine(aa1 w4 q s p2 HR4.out.rdr (by omega)).mono ?_;rintro r w5 ⟨rfl,hb5⟩;rw[hl2];have HR5:=hide (HR4.out.below hb5);clear hb5 e1 e2 HR4 hl2;go_wp2_with fail
 refine(HN2.out w5 HR5.out.rdr).mono ?_;rintro r w6 ⟨rfl,ht6,hR6⟩;have HR6:=hide (HR5.out.move ht6 hR6);clear ht6 hR6 HR5;have e1:=HR6.out.cells.d1;have e2:=HR6.out.cells.v1;simp only at e1;go_wp2_with fail
 have HRT:=hide ((HR6.out.text ⟨#[58,61]⟩).text ⟨#[33,61]⟩);simp only at HRT;clear e1 e2 HR6;generalize (w6.setCell ⟨F+1+1+1,1,none⟩ (.string ⟨#[58,61]⟩)).setCell ⟨F+1+1+1,1,none⟩ (.string ⟨#[33,61]⟩)=wT at HRT ⊢;obtain⟨a0,a1,a2,a3,a4,a5,b0,b1,b2,b3,c0,c1,c2,c3,d0,d1,d2,d3,d4,d5,x0,x1,x2,x3,x4,x5,y0,y1,y2,y3,v0,v1⟩:=HRT.out.cells;go_wp2_with fail
 go_region
 go_wp2;exact acm HRT.out.fin.drew 0 rfl rfl rfl rfl ⟨HRT.out.fin.drew.tq,rfl,p3,HRT.out.fin.drew.rdr,HS3.out,HO3.out,hpos3⟩
set_option maxRecDepth 400000 in
theorem art(w:World)(q:Nat)(s:ByteArray)(p e:Pl)(g:Gl)(gs:List Gl)(h:Rdr w q s p)(hm:s.size<=4096)(hQ:Snd s p (g::gs) e)(hok:p.ok)(h5:gcls g.code=5)(hc:g.code≠8788/\g.code≠8800/\g.code≠58/\g.code≠33)(d:Nat)(hd0:gfold g.code=(d:Int))(hd1:d<128):
  Calls Tryz.prog 116 #[.pointer (some ⟨q,0,none⟩)] w fun r w'=>Tq w w' q/\RtO w' q s e p r (.ok 3 (strOfNums [(d:Int)]) gs):=by
 have hl:=abd hQ;have hg0:0<=(g.code:Int):=by omega
 have n1:((g.code:Int) == -1)=false:=beq_eq_false_iff_ne.2 (by omega);have HQ:=hide hQ;clear hQ;have q2:(gcls (g.code:Int)==2)=false:=by rw[h5];rfl
 have q3:(gcls (g.code:Int)==3)=false:=by rw[h5];rfl
 have q5:(gcls (g.code:Int)==5)=true:=by rw[h5];rfl
 obtain⟨t1,t2,t3,t4,t5,t6⟩:=HQ.out.tail;have HN:=hide (fun(W:World) (h:Rdr W q s p)=>ace W q s p h (by omega) t2 hok t4);have hd:=abq s p.b t2;have HO2:=hide (hok.past (Utf8.decode s p.b).1 (Utf8.decode s p.b).2 hd.1);have HS2:=hide t5;have hpos:(p.past (Utf8.decode s p.b).1 (Utf8.decode s p.b).2).b=p.b+(Utf8.decode s p.b).2:=rfl;generalize p.past (Utf8.decode s p.b).1 (Utf8.decode s p.b).2=p2 at HN HO2 HS2 hpos;have hpos':p2.b<=s.size:=by omega
 have m0:((g.code:Int)==8788)=false:=beq_eq_false_iff_ne.2 (by omega);have m1:((g.code:Int)==8800)=false:=beq_eq_false_iff_ne.2 (by omega);have m2:((g.code:Int)==58)=false:=beq_eq_false_iff_ne.2 (by omega);have m3:((g.code:Int)==33)=false:=beq_eq_false_iff_ne.2 (by omega);clear hc;have HD0:=hide hd0;clear hd0;clear t1 t2 t3 t4 t5 t6 hd hpos h5 hok;have HS0:=hide (aca w q s p h);obtain⟨hq,k0,k1,k2,k3,k4,f1,f2,f3,f4⟩:=h.cells;clear h;go_enter Tryz.func116,Tryz.ntmps116
 go_wp2_with fail
 generalize ((((w.alloc (.cells #[.int .i64 0,.string ⟨#[]⟩,.int .i64 0,.int .i64 0,.int .i64 0,.int .i64 0] 109)).alloc (.cells #[.int .i64 0,.int .i64 0,.int .i64 0,.int .i64 0] 56)).alloc (.cells #[.int .i64 p.b,.int .i64 p.g,.int .i64 p.l,.int .i64 p.c] 56)).alloc (.cells #[.int .i64 0,.string ⟨#[]⟩,.int .i64 p.b,.int .i64 p.g,.int .i64 p.l,.int .i64 p.c] 109))=W0 at HS0 ⊢;clear k0 k1 k2 k3 k4 f1 f2 f3 f4 hq;generalize w.heap.size=F at HS0 ⊢;refine(aa1 W0 q s p HS0.out.rdr (by omega)).mono ?_;rintro r W1 ⟨rfl,hb1⟩;rw[hl];have HS1:=hide (HS0.out.below hb1);clear hb1 HS0 hl;have HRK:=hide (HS1.out.kind 3);have dk0:=HS1.out.cells.d0;have dkv:=HS1.out.cells.v0;go_wp2_with fail
 refine(abg _ _).mono ?_;rintro r Wb ⟨rfl,rfl⟩;go_wp2_with fail
 clear dk0 dkv;generalize Wb.setCell ⟨F+1+1+1,0,none⟩ (.int .i64 3)=wK at HRK ⊢;refine(HN.out wK HRK.out.rdr).mono ?_;rintro r w4 ⟨rfl,ht4,hR4⟩;have HR4:=hide (HRK.out.move ht4 hR4);clear ht4 hR4 HRK HS1;have e1:=HR4.out.cells.d1;have e2:=HR4.out.cells.v1;simp only at e1;go_wp2_with fail
 refine(at7 _ _).mono ?_;rintro r w5 ⟨rfl,rfl⟩;rw[HD0.out];have hr:=bys w5 [d.toUInt8] 1 rfl #[.int .u8 (d:Int)] (by simp only[List.map,List.toArray];rw[Nat.toUInt8,UInt8.toNat_ofNat',Nat.mod_eq_of_lt (by omega)]);have HR5:=hide (HR4.out.below ((Below.refl _ _).alloc (Nat.le_refl _) (.cells #[.int .u8 (d:Int)] 5)));have e3:=HR5.out.cells.d1;have e4:=HR5.out.cells.v1;simp only at e3;go_wp2_with fail
 have HRT:=hide (HR5.out.text ⟨#[d.toUInt8]⟩);simp only at HRT;clear e1 e2 e3 e4 HR4 HR5 hr;generalize (w5.alloc (.cells #[.int .u8 (d:Int)] 5)).setCell ⟨F+1+1+1,1,none⟩ (.string ⟨#[d.toUInt8]⟩)=wT at HRT ⊢;obtain⟨a0,a1,a2,a3,a4,a5,b0,b1,b2,b3,c0,c1,c2,c3,d0,d1,d2,d3,d4,d5,x0,x1,x2,x3,x4,x5,y0,y1,y2,y3,v0,v1⟩:=HRT.out.cells;go_wp2_with fail
 go_region
 go_wp2;exact acm HRT.out.fin.drew 0 rfl rfl rfl rfl ⟨HRT.out.fin.drew.tq,rfl,p2,HRT.out.fin.drew.rdr,HS2.out,HO2.out,hpos'⟩
def skc:Bool->List Nat->List Nat
 |_,[]=>[]
 |true,c::cs=>skc (decide (c≠10)) cs
 |false,c::cs=>if gcls c=6 then skc true cs else if gcls c=1 then skc false cs else c::cs
def inK(ks:List Int)(c:Nat):Bool:=decide (gcls c∈ks)
def bts(l:List UInt8):ByteArray:=⟨l.toArray⟩
def Stop(ks:List Int)(r:List Nat):Prop:=∀c t,r=c::t->inK ks c=false
inductive TokC:List Nat->Int->ByteArray->List Nat->Prop
 |name (c:Nat) (u r:List Nat) (hc:gcls c=2) (hu:∀d∈c::u,inK [2,3,4] d=true) (hr:Stop [2,3,4] r) (hl:(c::u).length<=16):TokC ((c::u)++r) 1 (bts (encs (c::u))) r
 |num (c:Nat) (u r:List Nat) (n:Nat) (ds:List Int) (hu:∀d∈c::u,inK [3] d=true) (hr:Stop [3] r) (hn:IsLen (dval (bytesOf (bts (encs (c::u))))) n) (hl:n<=32) (hd:IsDec ds (dval (bytesOf (bts (encs (c::u)))))):TokC ((c::u)++r) 2 (strOfNums ds) r
 |two (c:Nat) (x:Int) (r:List Nat) (h:(c=8788/\x=58)\/(c=8800/\x=33)):TokC ([c]++r) 3 (strOfNums [x,61]) r
 |pair (c:Nat) (r:List Nat) (h:c=58\/c=33):TokC ([c,61]++r) 3 (strOfNums [(c:Int),61]) r
 |sign (c:Nat) (r:List Nat) (hc:gcls c=5) (h:c≠8788/\c≠8800/\c≠58/\c≠33):TokC ([c]++r) 3 (strOfNums [gfold c]) r
inductive ScanC:List Nat->List (Int×ByteArray)->Prop
 |done (r:List Nat) (h:skc false r = []):ScanC r [(0,⟨#[]⟩)]
 |tok (r:List Nat) (k:Int) (x:ByteArray) (rest:List Nat) (ts:List (Int×ByteArray)) (h:TokC (skc false r) k x rest) (hr:ScanC rest ts):ScanC r ((k,x)::ts)
theorem aeo(p:Pl)(a b:List Nat):adv p (a++b)=adv (adv p a) b:=by
 induction a generalizing p with
 |nil=>rfl
 |cons c a ih=>simp only[List.cons_append,adv,ih]
theorem adk(a b:List Nat):encs (a++b)=encs a++encs b:=by
 induction a with
 |nil=>rfl
 |cons c a ih=>simp only[List.cons_append,encs,ih,List.append_assoc]
theorem apo(p:Pl)(cs:List Nat):plf (glf p cs) (adv p cs)=p:=by
 cases cs <;> rfl
theorem aj3(b:Bool)(p:Pl)(cs:List Nat):∃a,cs=a++skc b cs/\skp b (glf p cs)=glf (adv p a) (skc b cs):=by
 induction cs generalizing b p with
 |nil=>exact⟨[],by cases b <;> rfl,by cases b <;> rfl⟩
 |cons c cs ih=>
  cases b with
  |true=>
   obtain⟨a,h1,h2⟩:=ih (decide (c≠10)) (p.past c (encL c).length);refine⟨c::a,?_,?_⟩
   ·rw[skc,List.cons_append,<-h1]
   ·simp only[glf,skp,skc];rw[h2];rfl
  |false=>
   by_cases h6:gcls c=6
   ·obtain⟨a,h1,h2⟩:=ih true (p.past c (encL c).length);refine⟨c::a,?_,?_⟩
    ·rw[skc,if_pos h6,List.cons_append,<-h1]
    ·simp only[glf,skp,skc];rw[if_pos h6,if_pos h6,h2];rfl
   ·by_cases h1c:gcls c=1
    ·obtain⟨a,h1,h2⟩:=ih false (p.past c (encL c).length);refine⟨c::a,?_,?_⟩
     ·rw[skc,if_neg h6,if_pos h1c,List.cons_append,<-h1]
     ·simp only[glf,skp,skc];rw[if_neg h6,if_pos h1c,if_neg h6,if_pos h1c,h2];rfl
    ·refine⟨[],?_,?_⟩
     ·rw[skc,if_neg h6,if_neg h1c];rfl
     ·simp only[glf,skp,skc];rw[if_neg h6,if_neg h1c,if_neg h6,if_neg h1c];rfl
theorem agj(ks:List Int)(p:Pl)(cs:List Nat):∃u r,cs=u++r/\(glf p cs).dropWhile (inC ks)=glf (adv p u) r/\(∀d∈u,inK ks d=true)/\Stop ks r:=by
 induction cs generalizing p with
 |nil=>exact⟨[],[],rfl,rfl,by simp,by intro c t h;cases h⟩
 |cons c cs ih=>
  by_cases hc:inK ks c=true
  ·obtain⟨u,r,h1,h2,h3,h4⟩:=ih (p.past c (encL c).length);refine⟨c::u,r,by rw[List.cons_append,<-h1],?_,?_,h4⟩
   ·rw[glf,List.dropWhile_cons_of_pos (show inC ks ⟨c,p⟩=true from hc),h2];rfl
   ·intro d hd;rcases List.mem_cons.1 hd with rfl|hd
    ·exact hc
    ·exact h3 d hd
  ·refine⟨[],c::cs,rfl,?_,by simp,?_⟩
   ·rw[glf,List.dropWhile_cons_of_neg (show ¬inC ks ⟨c,p⟩=true from hc)];rfl
   ·intro d t h;obtain⟨rfl,rfl⟩:=List.cons.inj h;simpa using hc
theorem ag2(s:ByteArray)(L:List UInt8)(u r:List Nat)(p:Pl)(hp:p.b=L.length)(h:s.data.toList=L++encs (u++r)):s.extract p.b (adv p u).b=bts (encs u):=by
 have hd:(s.extract p.b (adv p u).b).data.toList=encs u:=by
  rw[ByteArray.data_extract,Array.toList_extract,List.extract_eq_take_drop,h,adk,arh,hp,List.drop_left,show L.length+(encs u).length-L.length=(encs u).length from by omega,List.take_left]
 cases hx:s.extract p.b (adv p u).b with
 |mk d=>
  rw[hx]at hd;unfold bts;rw[<-hd]
theorem ahy{c:Nat}(h1:c≠8788)(h2:c≠8800):gfold c≠8788/\gfold c≠8800:=by
 unfold gfold
 repeat' split
 all_goals omega
theorem amw{c:Nat}: gfold c=58↔c=58:=by
 unfold gfold
 repeat' split
 all_goals omega
theorem amx{c:Nat}: gfold c=33↔c=33:=by
 unfold gfold
 repeat' split
 all_goals omega
theorem a2g(s:ByteArray)(L:List UInt8)(c:Nat)(t:List Nat)(p:Pl)(hp:p.b=L.length)(h:s.data.toList=L++encs (c::t))(k:Int)(x:ByteArray)(rest:List Gl)
  (hT:TokR s (adv p (c::t)) ⟨c,p⟩ (glf (p.past c (encL c).length) t) (.ok k x rest)):∃v r,c::t=v++r/\rest=glf (adv p v) r/\TokC (c::t) k x r:=by
 unfold TokR at hT;have hgl:(⟨c,p⟩:Gl)::glf (p.past c (encL c).length) t=glf p (c::t):=rfl;rw[hgl]at hT;simp only at hT;by_cases c2:gcls c=2
 ·rw[if_pos c2]at hT;obtain⟨u,r,h1,h2,h3,h4⟩:=agj [2,3,4] p (c::t);have hcu:∃u',u=c::u':=by
   cases u with
   |nil=>
    have:=h4 c t (by simpa using h1.symm);simp[inK,c2]at this
   |cons d u'=>
    obtain⟨rfl,_⟩:=List.cons.inj h1;exact⟨u',rfl⟩
  obtain⟨u',rfl⟩:=hcu;rw[h2]at hT;by_cases h16:16<(glf p (c::t)).length-(glf (adv p (c::u')) r).length
  ·rw[if_pos h16]at hT;cases hT
  ·rw[if_neg h16]at hT;injection hT with e1 e2 e3;subst e1 e3;rw[apg,apg]at h16;have hpe:plf (glf (adv p (c::u')) r) (adv p (c::t))=adv p (c::u'):=by rw[h1,aeo,apo]
   rw[hpe,ag2 s L (c::u') r p hp (by rw[h,h1])]at e2;refine⟨c::u',r,h1,rfl,?_⟩;rw[e2,h1];refine .name c u' r c2 h3 h4 ?_;rw[h1,List.length_append]at h16;omega
 ·rw[if_neg c2]at hT;by_cases c3:gcls c=3
  ·rw[if_pos c3]at hT;obtain⟨n,ds,hn,hd,hT⟩:=hT;obtain⟨u,r,h1,h2,h3,h4⟩:=agj [3] p (c::t);have hcu:∃u',u=c::u':=by
    cases u with
    |nil=>
     have:=h4 c t (by simpa using h1.symm);simp[inK,c3]at this
    |cons d u'=>
     obtain⟨rfl,_⟩:=List.cons.inj h1;exact⟨u',rfl⟩
   obtain⟨u',rfl⟩:=hcu;have hpe:plf (glf (adv p (c::u')) r) (adv p (c::t))=adv p (c::u'):=by rw[h1,aeo,apo]
   rw[h2,hpe,ag2 s L (c::u') r p hp (by rw[h,h1])]at hn hd;rw[h2]at hT;by_cases h32:32<n
   ·rw[if_pos h32]at hT;cases hT
   ·rw[if_neg h32]at hT;injection hT with e1 e2 e3;subst e1 e3;refine⟨c::u',r,h1,rfl,?_⟩;rw[e2,h1];exact .num c u' r n ds h3 h4 hn (by omega) hd
  ·rw[if_neg c3]at hT;by_cases c5:gcls c=5
   ·rw[if_pos c5]at hT;unfold signS at hT;by_cases a1:gfold c=8788
    ·rw[if_pos a1]at hT;injection hT with e1 e2 e3;subst e1 e2 e3;have hc:c=8788:=by
      unfold gfold at a1
      repeat' split at a1
      all_goals omega
     exact⟨[c],t,rfl,rfl,.two c 58 t (.inl ⟨hc,rfl⟩)⟩
    rw[if_neg a1]at hT;by_cases a2:gfold c=8800
    ·rw[if_pos a2]at hT;injection hT with e1 e2 e3;subst e1 e2 e3;have hc:c=8800:=by
      unfold gfold at a2
      repeat' split at a2
      all_goals omega
     exact⟨[c],t,rfl,rfl,.two c 33 t (.inr ⟨hc,rfl⟩)⟩
    rw[if_neg a2]at hT;by_cases a3:gfold c=58\/gfold c=33
    ·rw[if_pos a3]at hT;cases t with
     |nil=>cases hT
     |cons d t=>
      simp only[glf]at hT;by_cases hd:d=61
      ·rw[if_pos hd]at hT;injection hT with e1 e2 e3;subst e1 e2 e3 hd;have hc:c=58\/c=33:=by
        rcases a3 with a|a
        ·exact .inl (amw.1 a)
        ·exact .inr (amx.1 a)
       have hg:gfold c=(c:Int):=by rcases hc with rfl|rfl <;> rfl
       rw[hg];exact⟨[c,61],t,rfl,rfl,.pair c t hc⟩
      ·rw[if_neg hd]at hT;cases hT
    ·rw[if_neg a3]at hT;injection hT with e1 e2 e3;subst e1 e2 e3;refine⟨[c],t,rfl,rfl,.sign c t c5 ⟨?_,?_,?_,?_⟩⟩
     ·rintro rfl;exact a1 rfl
     ·rintro rfl;exact a2 rfl
     ·rintro rfl;exact a3 (.inl rfl)
     ·rintro rfl;exact a3 (.inr rfl)
   ·rw[if_neg c5]at hT;cases hT
theorem a0i(s:ByteArray)(cs:List Nat)(L:List UInt8)(p:Pl)(hp:p.b=L.length)(h:s.data.toList=L++encs cs)(l:List Tk)(hR:ScanR s (adv p cs) (glf p cs) (.ok l)):ScanC cs (l.map fun t=>(t.kind,t.text)):=by
 generalize hg:glf p cs=gs at hR;generalize he:adv p cs=e at hR;generalize ho:SO.ok l=o at hR;induction hR generalizing cs L p l with
 |done r h1 hb=>
  cases ho
  subst hg;obtain⟨a,h2,h3⟩:=aj3 false p cs;rw[h1]at h3;refine .done cs ?_;cases hx:skc false cs with
  |nil=>rfl
  |cons c t=>rw[hx]at h3;cases h3
 |rune r h1 hb=>cases ho
 |bad r g t k h1 ht=>cases ho
 |tok r g t kind text rest o h1 ht hr ih=>
  subst hg he;cases o with
  |bad k p=>cases ho
  |ok l'=>
   simp only[SO.pre,SO.ok.injEq]at ho;subst ho;obtain⟨a,h2,h3⟩:=aj3 false p cs;rw[h1]at h3;cases hx:skc false cs with
   |nil=>rw[hx]at h3;cases h3
   |cons c t'=>
    rw[hx]at h3 h2;simp only[glf]at h3;obtain⟨rfl,rfl⟩:=List.cons.inj h3;have hpa:(adv p a).b=(L++encs a).length:=by rw[arh,hp,List.length_append]
    have hsa:s.data.toList=(L++encs a)++encs (c::t'):=by rw[h,List.append_assoc,<-adk,<-h2]
    have hea:adv p cs=adv (adv p a) (c::t'):=by rw[<-aeo,<-h2]
    rw[hea]at ht;obtain⟨v,r,h4,rfl,h6⟩:=a2g s _ c t' _ hpa hsa _ _ _ ht;refine .tok cs _ _ r _ (by rw[hx];exact h6) ?_;exact ih r ((L++encs a)++encs v) (adv (adv p a) v) (by rw[arh,hpa,<-List.length_append]) (by rw[hsa,h4,adk,List.append_assoc,List.append_assoc,List.append_assoc]) l' rfl (by rw[hea,h4,aeo]) rfl
theorem axs{c:Int}(h:gcls c=5):gsign (gfold c):=by
 unfold gcls at h
 repeat' split at h
 all_goals first|assumption|omega
theorem aur{n b0 b1 b2 b3:Nat}(_h0:b0<256)(_h1:b1<256)(_h2:b2<256)(_h3:b3<256){c k:Nat}(h:Lib.decodeN n b0 b1 b2 b3=(c,k))(hv:(c,k)≠(65533,1)):
  (k=1/\c=b0/\c<128)\/(k=2/\128<=c/\c<2048/\b0=192+c/64/\b1=128+c%64) \/
  (k=3/\2048<=c/\c<65536/\b0=224+c/4096/\b1=128+c/64%64/\b2=128+c%64) \/
  (k=4/\65536<=c/\c<=1114111/\b0=240+c/262144/\b1=128+c/4096%64/\b2=128+c/64%64/\b3=128+c%64):=by
 unfold Lib.decodeN at h
 repeat' split at h
 all_goals try exact absurd h.symm hv
 all_goals (simp only[Prod.mk.injEq]at h;obtain⟨rfl,rfl⟩:=h)
 ·exact .inl (by omega)
 ·exact .inr (.inl (by omega))
 ·exact .inr (.inr (.inl (by omega)))
 ·exact .inr (.inr (.inr (by omega)))
theorem ac4(s:ByteArray)(i:Nat)(h:i<s.size)(k:Nat)(hk:i+(k+1)<=s.size):(s.extract i (i+(k+1))).data.toList=s.get! i::(s.extract (i+1) (i+1+k)).data.toList:=by
 have hl:i<s.data.toList.length:=h;rw[ByteArray.data_extract,ByteArray.data_extract,Array.toList_extract,Array.toList_extract,List.extract_eq_take_drop,List.extract_eq_take_drop,List.drop_eq_getElem_cons hl,show i+(k+1)-i=k+1 from by omega,show i+1+k-(i+1)=k from by omega,List.take_succ_cons];congr 1;cases s with
 |mk d=>exact(getElem!_pos d i h).symm
theorem ahj(s:ByteArray)(i:Nat):(s.extract i (i+0)).data.toList = []:=by
 rw[ByteArray.data_extract];simp
theorem aus{s:ByteArray}{l:List UInt8}(h:s.data.toList=l):s=⟨l.toArray⟩:=by
 cases s with
 |mk d=>subst h;simp
theorem axt{n b0 b1 b2 b3:Nat}(h0:b0<256){c k:Nat}(h:Lib.decodeN n b0 b1 b2 b3=(c,k))(hv:(c,k)≠(65533,1)):Cod c:=by
 unfold Lib.decodeN at h
 repeat' split at h
 all_goals try exact absurd h.symm hv
 all_goals (simp only[Prod.mk.injEq]at h;obtain⟨rfl,rfl⟩:=h)
 all_goals (unfold Cod;omega)
theorem ad9{u:UInt8}{n:Nat}(h:u.toNat=n):u=n.toUInt8:=by
 subst h;exact UInt8.toNat_inj.1 (by rw[Nat.toUInt8,UInt8.toNat_ofNat'];have:=UInt8.toNat_lt u;omega)
theorem aut(s:ByteArray)(i:Nat)(h:i<s.size)(hv:Utf8.decode s i≠(65533,1)):Cod (Utf8.decode s i).1/\(s.extract i (i+(Utf8.decode s i).2)).data.toList=encL (Utf8.decode s i).1/\(Utf8.decode s i).2=(encL (Utf8.decode s i).1).length:=by
 have hl:=abq s i h;obtain⟨c,k,e⟩:∃c k,Utf8.decode s i=(c,k):=⟨_,_,rfl⟩;rw[e]at hv hl ⊢;rw[Lib.decode_at]at e;simp only at hl ⊢;refine⟨axt (UInt8.toNat_lt _) e hv,?_⟩;rcases aur (UInt8.toNat_lt _) (UInt8.toNat_lt _) (UInt8.toNat_lt _) (UInt8.toNat_lt _) e hv with⟨rfl,h1,h2⟩|⟨rfl,h1,h2,h3,h4⟩|⟨rfl,h1,h2,h3,h4,h5⟩|⟨rfl,h1,h2,h3,h4,h5,h6⟩
 ·unfold encL;rw[if_pos h2,ac4 s i h 0 (by omega),ahj,ad9 h1.symm];exact⟨rfl,rfl⟩
 ·unfold encL;rw[if_neg (by omega),if_pos h2,ac4 s i h 1 (by omega),ac4 s (i+1) (by omega) 0 (by omega),ahj,ad9 h3,ad9 h4];exact⟨rfl,rfl⟩
 ·unfold encL;rw[if_neg (by omega),if_neg (by omega),if_pos h2,ac4 s i h 2 (by omega),ac4 s (i+1) (by omega) 1 (by omega),ac4 s (i+1+1) (by omega) 0 (by omega),ahj,ad9 h3,ad9 h4,ad9 h5];exact⟨rfl,rfl⟩
 ·unfold encL;rw[if_neg (by omega),if_neg (by omega),if_neg (by omega),ac4 s i h 3 (by omega),ac4 s (i+1) (by omega) 2 (by omega),ac4 s (i+1+1) (by omega) 1 (by omega),ac4 s (i+1+1+1) (by omega) 0 (by omega),ahj,ad9 h3,ad9 h4,ad9 h5,ad9 h6];exact⟨rfl,rfl⟩
theorem auu{s:ByteArray}{p e:Pl}{gs:List Gl}(h:Snd s p gs e)(he:s.size<=e.b)(hb:p.b<=s.size):∃cs,gs=glf p cs/\e=adv p cs/\(∀c∈cs,Cod c)/\(s.data.toList.drop p.b)=encs cs:=by
 induction h with
 |stop p h=>
  refine⟨[],rfl,rfl,by simp,?_⟩;rw[List.drop_eq_nil_of_le (by show s.data.toList.length<=p.b;exact he)];rfl
 |go p gs e h1 h2 hr ih=>
  have hd:=abq s p.b h1;obtain⟨k1,k2,k3⟩:=aut s p.b h1 h2;obtain⟨cs,i1,i2,i3,i4⟩:=ih he (by simp only[Pl.past];omega);rw[k3]at i1 i2;refine⟨(Utf8.decode s p.b).1::cs,by rw[i1];rfl,by rw[i2];rfl,?_,?_⟩
  ·intro c hc;rcases List.mem_cons.1 hc with rfl|hc
   ·exact k1
   ·exact i3 c hc
  ·rw[encs,<-i4,<-k2,ByteArray.data_extract,Array.toList_extract,List.extract_eq_take_drop,show p.b+(Utf8.decode s p.b).2-p.b=(Utf8.decode s p.b).2 from by omega];simp only[Pl.past];rw[<-List.drop_drop,List.take_append_drop]
theorem auv{s:ByteArray}{e:Pl}{gs:List Gl}{l:List Tk}(h:ScanR s e gs (.ok l)):s.size<=e.b:=by
 generalize ho:SO.ok l=o at h;induction h generalizing l with
 |done r h hb=>exact hb
 |rune r h hb=>cases ho
 |bad r g t k h ht=>cases ho
 |tok r g t kind text rest o h ht hr ih=>
  cases o with
  |bad k p=>cases ho
  |ok l'=>exact ih rfl
theorem amy{s:ByteArray}{e:Pl}{g:Gl}{r:List Gl}{k:Int}(h:TokR s e g r (.bad k)):k=42\/k=2\/k=41:=by
 unfold TokR at h;split at h
 ·split at h
  ·injection h with h;exact .inl h
  ·cases h
 ·split at h
  ·obtain⟨n,ds,_,_,h⟩:=h;split at h
   ·injection h with h;exact .inr (.inl h)
   ·cases h
  ·split at h
   ·unfold signS at h;split at h
    ·cases h
    ·split at h
     ·cases h
     ·split at h
      ·split at h
       ·injection h with h;exact .inr (.inr h)
       ·split at h
        ·cases h
        ·injection h with h;exact .inr (.inr h)
      ·cases h
   ·injection h with h;exact .inr (.inr h)
theorem aks{s:ByteArray}{e:Pl}{gs:List Gl}{k:Int}{p:Pl}(h:ScanR s e gs (.bad k p)):k≠0:=by
 generalize ho:SO.bad k p=o at h;induction h with
 |done r h hb=>cases ho
 |rune r h hb=>injection ho with e1 _;omega
 |bad r g t k' h ht=>
  injection ho with e1 _;subst e1;rcases amy ht with h|h|h <;> omega
 |tok r g t kind text rest o h ht hr ih=>
  cases o with
  |bad k' p'=>exact ih ho
  |ok l'=>cases ho
theorem ahl{α:Type}(f:α->Bool)(l:List α):∃j,j<=l.length/\l.dropWhile f=l.drop j:=by
 induction l with
 |nil=>exact⟨0,Nat.le_refl _,rfl⟩
 |cons x l ih=>
  by_cases hx:f x=true
  ·obtain⟨j,h1,h2⟩:=ih;exact⟨j+1,by simp;omega,by rw[List.dropWhile_cons_of_pos hx,h2];rfl⟩
  ·exact⟨0,Nat.zero_le _,by rw[List.dropWhile_cons_of_neg hx];rfl⟩
theorem amz(c:Bool)(l:List Gl):∃j,j<=l.length/\skp c l=l.drop j:=by
 induction l generalizing c with
 |nil=>exact⟨0,Nat.le_refl _,by cases c <;> rfl⟩
 |cons x l ih=>
  cases c with
  |true=>
   obtain⟨j,h1,h2⟩:=ih (decide (x.code≠10));exact⟨j+1,by simp;omega,by rw[skp,h2];rfl⟩
  |false=>
   by_cases h6:gcls x.code=6
   ·obtain⟨j,h1,h2⟩:=ih true;exact⟨j+1,by simp;omega,by rw[skp,if_pos h6,h2];rfl⟩
   ·by_cases h1c:gcls x.code=1
    ·obtain⟨j,h1,h2⟩:=ih false;exact⟨j+1,by simp;omega,by rw[skp,if_neg h6,if_pos h1c,h2];rfl⟩
    ·exact⟨0,Nat.zero_le _,by rw[skp,if_neg h6,if_neg h1c];rfl⟩
theorem TokR.rest{s:ByteArray}{e:Pl}{g:Gl}{t:List Gl}{k:Int}{x:ByteArray}{r:List Gl}(h:TokR s e g t (.ok k x r)):(∃j,1<=j/\j<=(g::t).length/\r=(g::t).drop j)/\(k=1\/k=2\/k=3):=by
 have key:∀ks:List Int,gcls g.code∈ks->∃j,1<=j/\j<=(g::t).length/\(g::t).dropWhile (inC ks)=(g::t).drop j:=by
  intro ks hk;obtain⟨j,h1,h2⟩:=ahl (inC ks) t;exact⟨j+1,by omega,by simp;omega,by rw[List.dropWhile_cons_of_pos (by simp[inC,hk]),h2];rfl⟩
 unfold TokR at h;split at h
 ·rename_i h2;split at h
  ·cases h
  ·injection h with e1 e2 e3;subst e1 e3;exact⟨key _ (by rw[h2];simp),.inl rfl⟩
 ·split at h
  ·rename_i h3;obtain⟨n,ds,_,_,h⟩:=h;split at h
   ·cases h
   ·injection h with e1 e2 e3;subst e1 e3;exact⟨key _ (by rw[h3];simp),.inr (.inl rfl)⟩
  ·split at h
   ·unfold signS at h;split at h
    ·injection h with e1 e2 e3;subst e1 e3;exact⟨⟨1,by omega,by simp,rfl⟩,.inr (.inr rfl)⟩
    ·split at h
     ·injection h with e1 e2 e3;subst e1 e3;exact⟨⟨1,by omega,by simp,rfl⟩,.inr (.inr rfl)⟩
     ·split at h
      ·cases t with
       |nil=>cases h
       |cons y t=>
        simp only at h;split at h
        ·injection h with e1 e2 e3;subst e1 e3;exact⟨⟨2,by omega,by simp,rfl⟩,.inr (.inr rfl)⟩
        ·cases h
      ·injection h with e1 e2 e3;subst e1 e3;exact⟨⟨1,by omega,by simp,rfl⟩,.inr (.inr rfl)⟩
   ·cases h
theorem am0{w3 W w5:World}{B n:Nat}{T t:TypeId}{v:Value}{xs:List Value}{cs:Array Value}(hown:w3.ownsRow B T 6 v n xs)(hg:W.grownBy w5 v.ownBlock)(hW:W.heap[w3.heap.size]? = some (.cells cs t (0,0))):w5.cell? ⟨w3.heap.size,0,none⟩=cs[0]? :=by
 have hblk:w5.heap[w3.heap.size]? = some (.cells cs t (0,0)):=by
  rw[hg.block w3.heap.size (aaa hW) (by
   obtain⟨hl,⟨h1,_⟩|⟨b,cap,cur,h1,hb,hh,_⟩⟩:=hown
   ·rw[h1];simp[Value.ownBlock]
   ·rw[h1];have:=aaa hh;simp only[Value.ownBlock,ne_eq,Option.some.injEq]
    omega)]
  exact hW
 exact cell_of_row w5 w3.heap.size 0 _ _ _ hblk
theorem aru{c:Nat}(h:gcls c=5)(hc:c≠8788/\c≠8800):∃d:Nat,gfold c=(d:Int)/\d<128:=by
 have hg:=axs h;have hf:=ahy hc.1 hc.2;unfold gsign at hg;exact⟨(gfold c).toNat,by omega,by omega⟩
theorem arv(w:World)(q:Nat)(s:ByteArray)(p e:Pl)(g:Gl)(gs:List Gl)(h:Rdr w q s p)(hm:s.size<=4096)(hQ:Snd s p (g::gs) e)(hok:p.ok)(hpb:p.b<=s.size):
  Calls Tryz.prog 116 #[.pointer (some ⟨q,0,none⟩)] w fun r w'=>Tq w w' q/\∃o,TokR s e g gs o/\RtO w' q s e p r o:=by
 by_cases c2:gcls g.code=2
 ·exact aoa w q s p e g gs h hm hQ hok hpb c2
 by_cases c3:gcls g.code=3
 ·exact ars w q s p e g gs h hm hQ hok hpb c3
 by_cases c5:gcls g.code=5
 ·have hT:=aff (s:=s) (e:=e) (r:=gs) c5;by_cases h1:g.code=8788
  ·refine(aob w q s p e g gs h hm hQ hok c5 h1).mono fun r w' hr=>⟨hr.1,_,hT,?_⟩
   rw[show signS (gfold g.code) gs=.ok 3 (strOfNums [58,61]) gs from by rw[h1];rfl];exact hr.2
  by_cases h2:g.code=8800
  ·refine(aoc w q s p e g gs h hm hQ hok c5 h2).mono fun r w' hr=>⟨hr.1,_,hT,?_⟩
   rw[show signS (gfold g.code) gs=.ok 3 (strOfNums [33,61]) gs from by rw[h2];rfl];exact hr.2
  have hS2:=hQ.tail.2.2.2.2.1;by_cases h3:g.code=58\/g.code=33
  ·by_cases h61:∃g2 gs2,gs=g2::gs2/\g2.code=61
   ·obtain⟨g2,gs2,hgs,h61⟩:=h61;rcases h3 with h3|h3
    ·refine(amt w q s p e g gs h hm hQ hok c5 h3 g2 gs2 hgs h61).mono fun r w' hr=>⟨hr.1,_,hT,?_⟩
     rw[show signS (gfold g.code) gs=.ok 3 (strOfNums [58,61]) gs2 from by rw[h3,hgs];show(if g2.code=61 then _ else _)=_;rw[if_pos h61];rfl];exact hr.2
    ·refine(amv w q s p e g gs h hm hQ hok c5 h3 g2 gs2 hgs h61).mono fun r w' hr=>⟨hr.1,_,hT,?_⟩
     rw[show signS (gfold g.code) gs=.ok 3 (strOfNums [33,61]) gs2 from by rw[h3,hgs];show(if g2.code=61 then _ else _)=_;rw[if_pos h61];rfl];exact hr.2
   ·have hlk:lookS s (p.past (Utf8.decode s p.b).1 (Utf8.decode s p.b).2)≠61:=by
     cases gs with
     |nil=>
      have hle:=adp hS2;by_cases hbe:s.size<=e.b
      ·rw[hle.2.1 hbe];omega
      ·rw[hle.2.2 (by omega)];omega
     |cons g2 gs2=>
      rw[abd hS2];intro hc;exact h61 ⟨g2,gs2,rfl,by omega⟩
    have hbad:signS (gfold g.code) gs=.bad 41:=by
     cases gs with
     |nil=>rcases h3 with h3|h3 <;> (rw[h3];rfl)
     |cons g2 gs2=>
      have hne:¬g2.code=61:=fun hc=>h61 ⟨g2,gs2,rfl,hc⟩
      rcases h3 with h3|h3
      ·rw[h3];show(if g2.code=61 then _ else _)=_;rw[if_neg hne]
      ·rw[h3];show(if g2.code=61 then _ else _)=_;rw[if_neg hne]
    rcases h3 with h3|h3
    ·refine(ams w q s p e g gs h hm hQ hok c5 h3 hlk).mono fun r w' hr=>⟨hr.1,_,hT,?_⟩
     rw[hbad];exact hr.2
    ·refine(amu w q s p e g gs h hm hQ hok c5 h3 hlk).mono fun r w' hr=>⟨hr.1,_,hT,?_⟩
     rw[hbad];exact hr.2
  ·obtain⟨d,hd,hd1⟩:=aru c5 ⟨h1,h2⟩;refine(art w q s p e g gs h hm hQ hok c5 ⟨h1,h2,by omega,by omega⟩ d hd hd1).mono fun r w' hr=>⟨hr.1,_,hT,?_⟩
   have hf:=ahy h1 h2;rw[show signS (gfold g.code) gs=.ok 3 (strOfNums [(d:Int)]) gs from by unfold signS;rw[if_neg hf.1,if_neg hf.2,if_neg (by rw[amw,amx];exact h3),hd]];exact hr.2
 ·exact(amr w q s p e g gs h hm hQ c2 c3 c5).mono fun r w' hr=>⟨hr.1,_,aja c2 c3 c5,hr.2⟩
theorem arw(w:World)(s:ByteArray)(hs:4096<s.size):
  Calls Tryz.prog 74 #[.string s] w fun r w'=>Below w.heap.size w w'/\r=.returned (.tuple #[.slice none 0 0,.int .i64 2,plz.v]):=by
 have hs':(4096:Int)<(s.size:Int):=by omega
 go_enter Tryz.func74,Tryz.ntmps74
 go_wp2;refine bodyPost_ret (v:=_) (by simp[results,Tryz.results74,go_sem];try rfl) rfl ⟨?_,rfl⟩
 (repeat' first|with_reducible(first|exact Below.refl _ _|assumption|refine gdrewN ?_ _|refine Below.alloc ?_ ?_ _|refine Below.drew ?_|refine Below.setCell ?_ ?_ _)|go_size)
theorem aod(w:World)(s:ByteArray)(hs:s.size<=4096)(gs:List Gl)(e:Pl)(hQ:Snd s pl0 gs e):
  Calls Tryz.prog 74 #[.string s] w fun r w'=>Below w.heap.size w w'/\∃o,ScanR s e gs o/\ScanO w w' r o:=by
 have hs':decide ((4096:Int)<(s.size:Int))=false:=by simp;omega
 have HQ:=hide hQ;clear hQ;go_enter Tryz.func74,Tryz.ntmps74
 go_wp2_with fail
 refine(auo _ s).mono ?_;rintro r w1 ⟨q,hqw,rfl,hR,hb1⟩;have hsz0:(w.alloc (.cells #[.int .i64 0,.int .i64 0,.int .i64 0,.int .i64 0] 56)).heap.size=w.heap.size+1:=World.size_alloc w _;have hbq:=hb1;rw[hsz0]at hqw hbq;have hw1:w.heap.size+1<=w1.heap.size:=by have:=hbq.size;rwa[hsz0]at this
 have hS0:RgS w w1 q w.heap.size w1.heap.size s pl0 109 (.slice none 0 0) 0 []:=
  ⟨hR,World.ownsRow_nil _ _ _ _,(hbq.block w.heap.size (by omega)).trans (heap_alloc_new w _),((Below.refl _ _).alloc (Nat.le_refl _) _).trans (hbq.mono (by omega)),Nat.le_refl _,Nat.le_refl _,by omega,by omega,by omega,aaa hR⟩
 have HS0:=hide hS0;clear hS0 hR hbq hb1 hsz0 hqw hw1;generalize w1.heap.size=B at HS0;generalize hf:w.heap.size=f at *
 replace hf:w.heap.size<=f:=by omega
 go_wp2;obtain⟨i0,hi0,hz0,hz1,hz2⟩:=ahh infoT;have hfq:=HS0.out.fq;go_loopw [5] (fun tv wr=>∃(ts:List Tk) (p:Pl) (ta:Option Addr) (tc:Nat) (gs':List Gl),tv=.slice ta ts.length tc/\RgS w wr q f B s p 109 (.slice ta ts.length tc) ts.length (tflat ts)/\p.ok/\p.b<=s.size/\ts.length<=p.b/\Snd s p gs' e/\∀o,ScanR s e gs' o->ScanR s e gs (o.pres ts)) (fun _ wr=>s.size-rpos wr q)
 case atStart=>exact⟨[],pl0,none,0,gs,rfl,HS0.out,aec,Nat.zero_le _,Nat.zero_le _,HQ.out,fun o h=>by rw[ami];exact h⟩
 case round=>
  clear HS0;obtain⟨ts,p,ta,tc,gs',rfl,hS,hp,hpb,htl,hsn,hpre⟩:=hrel;have HS:=hide hS;have HP:=hide hp;have HE:=hide hpre;have HSN:=hide hsn;have IP:=hide hS.rdr.pos;clear hS hp hpre hsn;go_wp2_with fail
  refine(arq wr q s p gs' e HS.out.rdr (by omega) HSN.out HP.out hpb).mono ?_;rintro r w2 ⟨ht2,p2,hsn2,hok2,hpb2,hR2,hr⟩;have hp12:p.b<=p2.b:=by
   obtain⟨j,hj,hjd⟩:=amz false gs';have hdd:=HSN.out.drop HP.out hpb j hj;rw[<-hjd,hsn2.plf]at hdd;have:=hdd.2.2.1;omega
  have HS2:=hide (HS.out.tq ht2 hR2);have HSN2:=hide hsn2;have HOK2:=hide hok2;clear ht2 hR2 HS hok2;rcases hr with⟨hk0,hbe,rfl⟩|⟨hgo,rfl⟩
  ·rw[hk0]at hsn2;have hpe:p2=e:=(adp hsn2).1;have HPE:=hide hpe;have HK0:=hide hk0;clear hpe hsn2 hk0;obtain⟨hq,k0,k1,k2,k3,k4,n1,n2,n3,n4⟩:=HS2.out.rdr.cells;obtain⟨hff,y0,y1,y2,y3⟩:=HS2.out.zer.cells;have f0:=frozen_of_row w2 f 0 _ _ HS2.out.zer;have f1:=frozen_of_row w2 f 1 _ _ HS2.out.zer;have f2:=frozen_of_row w2 f 2 _ _ HS2.out.zer;have f3:=frozen_of_row w2 f 3 _ _ HS2.out.zer;clear n1 n2 n3 n4;go_wp2_with fail
   go_region
   go_wp2;have hX:PlB (((((w2.setCell ⟨f,0,none⟩ (.int .i64 p2.b)).setCell ⟨f,1,none⟩ (.int .i64 p2.g)).setCell ⟨f,2,none⟩ (.int .i64 p2.l)).setCell ⟨f,3,none⟩ (.int .i64 p2.c)).drew) f p2:=(ae3 HS2.out.zer).below ((Below.refl _ _).drew);have hXB:Below w.heap.size w (((((w2.setCell ⟨f,0,none⟩ (.int .i64 p2.b)).setCell ⟨f,1,none⟩ (.int .i64 p2.g)).setCell ⟨f,2,none⟩ (.int .i64 p2.l)).setCell ⟨f,3,none⟩ (.int .i64 p2.c)).drew):=(aen HS2.out.bel hf _ _ _ _).drew;generalize ((((w2.setCell ⟨f,0,none⟩ (.int .i64 p2.b)).setCell ⟨f,1,none⟩ (.int .i64 p2.g)).setCell ⟨f,2,none⟩ (.int .i64 p2.l)).setCell ⟨f,3,none⟩ (.int .i64 p2.c)).drew=wf at hX hXB ⊢;obtain⟨_,x0,x1,x2,x3⟩:=hX.cells;refine bodyPost_ret (v:=_) (by simp[results,Tryz.results74,go_sem,x0,x1,x2,x3];try rfl) rfl ⟨hXB,.bad 40 e,?_,by rw[<-HPE.out];rfl⟩;have:=HE.out _ (ScanR.rune gs' HK0.out hbe);exact this
  ·cases hgs:skp false gs' with
   |nil=>
    rw[hgs]at hgo HSN2;have hbe:s.size<=e.b:=by
     rcases hgo with h|h
     ·exact absurd rfl h
     ·exact h
    have HGS:=hide hgs;have hpe:p2=e:=(adp HSN2.out).1;have HPE:=hide hpe;clear hgs hgo hsn2 hpe;go_wp2_with fail
    refine(arr w2 q s p2 e HS2.out.rdr hs HSN2.out hbe).mono ?_;rintro r w3 ⟨ht3,rfl,hR3⟩;have HS3:=hide (HS2.out.tq ht3 hR3);clear ht3 hR3 HS2;unfold Tk.v Pl.v;simp only;have hone:∀u∈([.int .i64 0,.string ⟨#[]⟩,.int .i64 p2.b,.int .i64 p2.g,.int .i64 p2.l,.int .i64 p2.c]:List Value),u.oneCell'=true:=by
     intro u hu;simp only[List.mem_cons,List.not_mem_nil,or_false]at hu;rcases hu with rfl|rfl|rfl|rfl|rfl|rfl <;> rfl
    have hbT:Below w3.heap.size w3 ((w3.alloc (.cells #[.int .i64 0,.string ⟨#[]⟩,.int .i64 p2.b,.int .i64 p2.g,.int .i64 p2.l,.int .i64 p2.c] 109)).alloc (.cells #[.int .i64 p2.b,.int .i64 p2.g,.int .i64 p2.l,.int .i64 p2.c] 56)):=acq _ _ _;have hbT3:Below w3.heap.size w3 (((w3.alloc (.cells #[.int .i64 0,.string ⟨#[]⟩,.int .i64 p2.b,.int .i64 p2.g,.int .i64 p2.l,.int .i64 p2.c] 109)).alloc (.cells #[.int .i64 p2.b,.int .i64 p2.g,.int .i64 p2.l,.int .i64 p2.c] 56)).alloc (.cells #[.int .i64 0,.string ⟨#[]⟩,.int .i64 p2.b,.int .i64 p2.g,.int .i64 p2.l,.int .i64 p2.c] 109)):=hbT.alloc hbT.size _;have hown:=aci HS3.out.own hbT3;have hsz:=HS3.out.siz;have htok:(((w3.alloc (.cells #[.int .i64 0,.string ⟨#[]⟩,.int .i64 p2.b,.int .i64 p2.g,.int .i64 p2.l,.int .i64 p2.c] 109)).alloc (.cells #[.int .i64 p2.b,.int .i64 p2.g,.int .i64 p2.l,.int .i64 p2.c] 56)).alloc (.cells #[.int .i64 0,.string ⟨#[]⟩,.int .i64 p2.b,.int .i64 p2.g,.int .i64 p2.l,.int .i64 p2.c] 109)).heap[w3.heap.size]? = some (.cells #[.int .i64 0,.string ⟨#[]⟩,.int .i64 p2.b,.int .i64 p2.g,.int .i64 p2.l,.int .i64 p2.c] 109 (0,0)):=(((Below.refl _ _).alloc (Nat.le_refl _) _).alloc (by simp[World.size_alloc]) _).block _ (by simp[World.size_alloc]) |>.trans (heap_alloc_new w3 _);go_wp2_with (at_builtin;refine wpList_append_lies _ rfl (.tmp 36) (.tmp 38) 99 rfl B 109 i0 _ 6 56 Tryz.underlying99 hi0 hz0 hz1 hz2 rfl (by decide) (.slice ta ts.length tc) ts.length (tflat ts) (by simp[Act.eval]) hown ⟨w3.heap.size+1+1,0,none⟩ 1 1 [.int .i64 0,.string ⟨#[]⟩,.int .i64 p2.b,.int .i64 p2.g,.int .i64 p2.l,.int .i64 p2.c] (by simp[Act.eval]) rfl (by have:=World.news_of_block (heap_alloc_new ((w3.alloc (.cells #[.int .i64 0,.string ⟨#[]⟩,.int .i64 p2.b,.int .i64 p2.g,.int .i64 p2.l,.int .i64 p2.c] 109)).alloc (.cells #[.int .i64 p2.b,.int .i64 p2.g,.int .i64 p2.l,.int .i64 p2.c] 56)) (.cells #[.int .i64 0,.string ⟨#[]⟩,.int .i64 p2.b,.int .i64 p2.g,.int .i64 p2.l,.int .i64 p2.c] 109));simpa[World.size_alloc]using this) hone (by omega) (by unfold maxLen;omega) (by omega) (by simp[World.size_alloc];omega) _ rfl ?_;intro g1 cap1 w5 hown5 hgrow5 hat5 hlt5;have hkeep:w5.cell? ⟨w3.heap.size,0,none⟩=some (.int .i64 0):=am0 HS3.out.own hgrow5 htok;have HS5:=hide ((HS3.out.below hbT3).more hgrow5 (v':=.slice (some ⟨g1,0,none⟩) (ts.length+1) cap1) (n':=ts.length+1) (xs':=tflat (ts ++ [⟨0,⟨#[]⟩,p2⟩])) (by simpa[adz,tflat]using hown5));obtain⟨hff,y0,y1,y2,y3⟩:=HS5.out.zer.cells;have f0:=frozen_of_row w5 f 0 _ _ HS5.out.zer;have f1:=frozen_of_row w5 f 1 _ _ HS5.out.zer;have f2:=frozen_of_row w5 f 2 _ _ HS5.out.zer;have f3:=frozen_of_row w5 f 3 _ _ HS5.out.zer)
    clear hown5 hgrow5 hat5 hlt5 hown hone hsz htok hbT hbT3;have hX:PlB ((((w5.setCell ⟨f,0,none⟩ (.int .i64 0)).setCell ⟨f,1,none⟩ (.int .i64 0)).setCell ⟨f,2,none⟩ (.int .i64 0)).setCell ⟨f,3,none⟩ (.int .i64 0)) f plz:=ae3 (p':=plz) HS5.out.zer;have hXB:Below w.heap.size w ((((w5.setCell ⟨f,0,none⟩ (.int .i64 0)).setCell ⟨f,1,none⟩ (.int .i64 0)).setCell ⟨f,2,none⟩ (.int .i64 0)).setCell ⟨f,3,none⟩ (.int .i64 0)):=aen HS5.out.bel hf _ _ _ _;have hXO:World.ownsRow ((((w5.setCell ⟨f,0,none⟩ (.int .i64 0)).setCell ⟨f,1,none⟩ (.int .i64 0)).setCell ⟨f,2,none⟩ (.int .i64 0)).setCell ⟨f,3,none⟩ (.int .i64 0)) w.heap.size 109 6 (.slice (some ⟨g1,0,none⟩) (ts.length+1) cap1) (ts.length+1) (tflat (ts ++ [(⟨0,⟨#[]⟩,p2⟩:Tk)])):=by
     refine amg (ado HS5.out.own ?_) (show w.heap.size<=B by have:=HS5.out.fB;omega);intro k o hk he;have hkf:k≠f:=by have:=HS5.out.fB;omega
     rw[heap_setCell_other _ ⟨f,3,none⟩ k _ hkf,heap_setCell_other _ ⟨f,2,none⟩ k _ hkf,heap_setCell_other _ ⟨f,1,none⟩ k _ hkf,heap_setCell_other _ ⟨f,0,none⟩ k _ hkf];exact he
    generalize (((w5.setCell ⟨f,0,none⟩ (.int .i64 0)).setCell ⟨f,1,none⟩ (.int .i64 0)).setCell ⟨f,2,none⟩ (.int .i64 0)).setCell ⟨f,3,none⟩ (.int .i64 0)=wf at hX hXB hXO ⊢;obtain⟨_,x0,x1,x2,x3⟩:=hX.cells;refine bodyPost_ret (v:=.tuple #[.slice (some ⟨g1,0,none⟩) (ts.length+1) cap1,.int .i64 0,plz.v]) (by simp[results,Tryz.results74,go_sem,x0,x1,x2,x3];try rfl) rfl ⟨hXB,.ok (ts ++ [(⟨0,⟨#[]⟩,e⟩:Tk)]),HE.out _ (ScanR.done gs' HGS.out hbe),_,rfl,?_⟩;have hlen:(ts ++ [(⟨0,⟨#[]⟩,e⟩:Tk)]).length=ts.length+1:=by simp
    rw[hlen,<-HPE.out];exact hXO
   |cons g t=>
    rw[hgs]at HSN2;have HGS:=hide hgs;clear hgs hgo hsn2;go_wp2_with fail
    refine(arv w2 q s p2 e g t HS2.out.rdr hs HSN2.out HOK2.out hpb2).mono ?_;rintro r w3 ⟨ht3,o,ho,hO⟩;have HGP:=hide HSN2.out.tail.1;cases o with
    |bad k=>
     obtain⟨tk,rfl⟩:=hO;have hk:k≠0:=by rcases amy ho with h|h|h <;> omega
     have hk':(k != 0)=true:=by simp[hk]
     have HB3:=hide (ae2 HS2.out.bel ht3 HS2.out.qw (Nat.le_refl _));have HZ3:=hide (HS2.out.zer.tq ht3 hfq);have HO:=hide ho;clear ht3 ho hk HS2;unfold Tk.v Pl.v;simp only;go_wp2_with fail
     have hbT:Below w3.heap.size w3 ((w3.alloc (.cells #[.int .i64 tk.kind,.string tk.text,.int .i64 tk.pl.b,.int .i64 tk.pl.g,.int .i64 tk.pl.l,.int .i64 tk.pl.c] 109)).alloc (.cells #[.int .i64 p2.b,.int .i64 p2.g,.int .i64 p2.l,.int .i64 p2.c] 56)):=acq _ _ _;have hP4:PlB ((w3.alloc (.cells #[.int .i64 tk.kind,.string tk.text,.int .i64 tk.pl.b,.int .i64 tk.pl.g,.int .i64 tk.pl.l,.int .i64 tk.pl.c] 109)).alloc (.cells #[.int .i64 p2.b,.int .i64 p2.g,.int .i64 p2.l,.int .i64 p2.c] 56)) (w3.heap.size+1) p2:=by
      have:=heap_alloc_new (w3.alloc (.cells #[.int .i64 tk.kind,.string tk.text,.int .i64 tk.pl.b,.int .i64 tk.pl.g,.int .i64 tk.pl.l,.int .i64 tk.pl.c] 109)) (.cells #[.int .i64 p2.b,.int .i64 p2.g,.int .i64 p2.l,.int .i64 p2.c] 56);rwa[World.size_alloc]at this
     generalize (w3.alloc (.cells #[.int .i64 tk.kind,.string tk.text,.int .i64 tk.pl.b,.int .i64 tk.pl.g,.int .i64 tk.pl.l,.int .i64 tk.pl.c] 109)).alloc (.cells #[.int .i64 p2.b,.int .i64 p2.g,.int .i64 p2.l,.int .i64 p2.c] 56)=w4 at hbT hP4 ⊢;have hZ4:=HZ3.out.below hbT;have HB4:=hide (HB3.out.trans (hbT.mono HB3.out.size));have HZ4:=hide hZ4;generalize w3.heap.size+1=aP at hP4 ⊢;obtain⟨_,c0,c1,c2,c3⟩:=hP4.cells;obtain⟨hff,y0,y1,y2,y3⟩:=hZ4.cells;have f0:=frozen_of_row w4 f 0 _ _ hZ4;have f1:=frozen_of_row w4 f 1 _ _ hZ4;have f2:=frozen_of_row w4 f 2 _ _ hZ4;have f3:=frozen_of_row w4 f 3 _ _ hZ4;clear hP4 hZ4 hbT;go_region
     go_wp2;have hX:PlB (((((w4.setCell ⟨f,0,none⟩ (.int .i64 p2.b)).setCell ⟨f,1,none⟩ (.int .i64 p2.g)).setCell ⟨f,2,none⟩ (.int .i64 p2.l)).setCell ⟨f,3,none⟩ (.int .i64 p2.c)).drew) f p2:=(ae3 HZ4.out).below ((Below.refl _ _).drew);have hXB:Below w.heap.size w (((((w4.setCell ⟨f,0,none⟩ (.int .i64 p2.b)).setCell ⟨f,1,none⟩ (.int .i64 p2.g)).setCell ⟨f,2,none⟩ (.int .i64 p2.l)).setCell ⟨f,3,none⟩ (.int .i64 p2.c)).drew):=(aen HB4.out hf _ _ _ _).drew;generalize ((((w4.setCell ⟨f,0,none⟩ (.int .i64 p2.b)).setCell ⟨f,1,none⟩ (.int .i64 p2.g)).setCell ⟨f,2,none⟩ (.int .i64 p2.l)).setCell ⟨f,3,none⟩ (.int .i64 p2.c)).drew=wf at hX hXB ⊢;obtain⟨_,x0,x1,x2,x3⟩:=hX.cells;refine bodyPost_ret (v:=_) (by simp[results,Tryz.results74,go_sem,x0,x1,x2,x3];try rfl) rfl ⟨hXB,.bad k g.pl,?_,by rw[HGP.out];rfl⟩;exact HE.out _ (ScanR.bad gs' g t k HGS.out HO.out)
    |ok kd tx rest=>
     obtain⟨rfl,p3,hR3,hsn3,hok3,hpb3⟩:=hO;obtain⟨⟨j,hj1,hj2,hjr⟩,hkd⟩:=ho.rest;have hp23:p2.b<p3.b:=by
      have hdd:=HSN2.out.drop HOK2.out hpb2 j hj2;rw[<-hjr,hsn3.plf]at hdd;have:=hdd.2.2.1;omega
     have hkn:(kd==0)=false:=by rcases hkd with rfl|rfl|rfl <;> rfl
     have HS3:=hide (HS2.out.tq ht3 hR3);have HSN3:=hide hsn3;have HOK3:=hide hok3;have HO:=hide ho;clear ht3 hR3 HS2 hsn3 hok3 ho hj1 hj2 hjr hkd;unfold Tk.v Pl.v;simp only;have hone:∀u∈([.int .i64 kd,.string tx,.int .i64 p2.b,.int .i64 p2.g,.int .i64 p2.l,.int .i64 p2.c]:List Value),u.oneCell'=true:=by
      intro u hu;simp only[List.mem_cons,List.not_mem_nil,or_false]at hu;rcases hu with rfl|rfl|rfl|rfl|rfl|rfl <;> rfl
     have hbT:Below w3.heap.size w3 ((w3.alloc (.cells #[.int .i64 kd,.string tx,.int .i64 p2.b,.int .i64 p2.g,.int .i64 p2.l,.int .i64 p2.c] 109)).alloc (.cells #[.int .i64 p2.b,.int .i64 p2.g,.int .i64 p2.l,.int .i64 p2.c] 56)):=acq _ _ _;have hbT3:Below w3.heap.size w3 (((w3.alloc (.cells #[.int .i64 kd,.string tx,.int .i64 p2.b,.int .i64 p2.g,.int .i64 p2.l,.int .i64 p2.c] 109)).alloc (.cells #[.int .i64 p2.b,.int .i64 p2.g,.int .i64 p2.l,.int .i64 p2.c] 56)).alloc (.cells #[.int .i64 kd,.string tx,.int .i64 p2.b,.int .i64 p2.g,.int .i64 p2.l,.int .i64 p2.c] 109)):=hbT.alloc hbT.size _;have hown:=aci HS3.out.own hbT3;have hsz:=HS3.out.siz;have htok:(((w3.alloc (.cells #[.int .i64 kd,.string tx,.int .i64 p2.b,.int .i64 p2.g,.int .i64 p2.l,.int .i64 p2.c] 109)).alloc (.cells #[.int .i64 p2.b,.int .i64 p2.g,.int .i64 p2.l,.int .i64 p2.c] 56)).alloc (.cells #[.int .i64 kd,.string tx,.int .i64 p2.b,.int .i64 p2.g,.int .i64 p2.l,.int .i64 p2.c] 109)).heap[w3.heap.size]? = some (.cells #[.int .i64 kd,.string tx,.int .i64 p2.b,.int .i64 p2.g,.int .i64 p2.l,.int .i64 p2.c] 109 (0,0)):=(((Below.refl _ _).alloc (Nat.le_refl _) _).alloc (by simp[World.size_alloc]) _).block _ (by simp[World.size_alloc]) |>.trans (heap_alloc_new w3 _);go_wp2_with (at_builtin;refine wpList_append_lies _ rfl (.tmp 36) (.tmp 38) 99 rfl B 109 i0 _ 6 56 Tryz.underlying99 hi0 hz0 hz1 hz2 rfl (by decide) (.slice ta ts.length tc) ts.length (tflat ts) (by simp[Act.eval]) hown ⟨w3.heap.size+1+1,0,none⟩ 1 1 [.int .i64 kd,.string tx,.int .i64 p2.b,.int .i64 p2.g,.int .i64 p2.l,.int .i64 p2.c] (by simp[Act.eval]) rfl (by have:=World.news_of_block (heap_alloc_new ((w3.alloc (.cells #[.int .i64 kd,.string tx,.int .i64 p2.b,.int .i64 p2.g,.int .i64 p2.l,.int .i64 p2.c] 109)).alloc (.cells #[.int .i64 p2.b,.int .i64 p2.g,.int .i64 p2.l,.int .i64 p2.c] 56)) (.cells #[.int .i64 kd,.string tx,.int .i64 p2.b,.int .i64 p2.g,.int .i64 p2.l,.int .i64 p2.c] 109));simpa[World.size_alloc]using this) hone (by omega) (by unfold maxLen;omega) (by omega) (by simp[World.size_alloc];omega) _ rfl ?_;intro g1 cap1 w5 hown5 hgrow5 hat5 hlt5;have hkeep:w5.cell? ⟨w3.heap.size,0,none⟩=some (.int .i64 kd):=am0 HS3.out.own hgrow5 htok)
     have HS5:=hide ((HS3.out.below hbT3).more hgrow5 (v':=.slice (some ⟨g1,0,none⟩) (ts.length+1) cap1) (n':=ts.length+1) (xs':=tflat (ts ++ [⟨kd,tx,p2⟩])) (by simpa[adz,tflat]using hown5));clear hown5 hgrow5 hat5 hlt5 hown hone hsz htok hbT hbT3;go_roundw
     case rel=>
      refine⟨ts ++ [⟨kd,tx,p2⟩],p3,some ⟨g1,0,none⟩,cap1,rest,by simp,?_,HOK3.out,hpb3,by simp;omega,HSN3.out,?_⟩
      ·have:=HS5.out;simpa using this
      ·intro o ho;have h1:=HE.out _ (ScanR.tok gs' g t kd tx rest o HGS.out HO.out ho);rw[HGP.out,amj]at h1;exact h1
     case measure=>rw[IP.out,HS5.out.rdr.pos];omega
def nmS(s:ByteArray):SO->Bool
 |.ok (t::_)=>(t.kind==1)&&(t.text.toList==s.toList)
 |_=>false
theorem axu{u:List Nat}(h:encs u = []):u = []:=by
 cases u with
 |nil=>rfl
 |cons c u=>
  have h1:=axe c;have h2:=congrArg List.length h;simp only[encs,List.length_append,List.length_nil]at h2;omega
theorem am1{s:ByteArray}{gs:List Gl}{e:Pl}{l:List Tk}(hQ:Snd s pl0 gs e)(hR:ScanR s e gs (.ok l)):∃t r,l=t::r/\(t.kind=1->t.text=s->l.length=2):=by
 obtain⟨cs,rfl,rfl,hc,hb⟩:=auu hQ (auv hR) (Nat.zero_le _);have hsb:s.data.toList = []++encs cs:=by simpa[pl0]using hb
 have hC:=a0i s cs [] pl0 rfl hsb l hR;generalize hm:(l.map fun t=>(t.kind,t.text))=ts at hC;cases hC with
 |done _ h1=>
  cases l with
  |nil=>simp at hm
  |cons t r=>
   refine⟨t,r,rfl,fun hk _=>?_⟩;simp only[List.map_cons,List.cons.injEq,Prod.mk.injEq]at hm;omega
 |tok _ k x rest ts' h1 h2=>
  cases l with
  |nil=>simp at hm
  |cons t r=>
   refine⟨t,r,rfl,fun hk hx=>?_⟩;simp only[List.map_cons,List.cons.injEq,Prod.mk.injEq]at hm;obtain⟨⟨e1,e2⟩,e3⟩:=hm;obtain⟨a,hsp,_⟩:=aj3 false pl0 cs;have hk1:k=1:=by omega
   have hxs:x=s:=by rw[<-e2,hx]
   clear e1 e2 hk hx;subst hk1;generalize hq:skc false cs=q at h1 hsp;cases h1 with
   |name c u _ hc2 hu hr hl=>
    have h3:=congrArg (fun b=>b.data.toList) hxs;rw[hsb,hsp,adk,adk]at h3;simp only[bts,List.nil_append]at h3;have h4:=congrArg List.length h3;simp only[List.length_append]at h4;have h5:encs rest = []:=List.eq_nil_of_length_eq_zero (by omega);have h6:=axu h5;subst h6;cases h2 with
    |done _ _=>
     have:=congrArg List.length e3;simpa using this
    |tok _ _ _ _ _ h7 _=>
     exfalso;generalize hz:skc false []=z at h7;have:z = []:=by rw[<-hz];rfl
     subst this;generalize hy:([]:List Nat)=y at h7;cases h7 <;> simp at hy
theorem auw(w:World)(hT:Tabs w)(s:ByteArray)(hs:s.size<=4096)(gs:List Gl)(e:Pl)(hQ:Snd s pl0 gs e):
  Calls Tryz.prog 38 #[.string s] w fun r w'=>Below w.heap.size w w'/\∃o,ScanR s e gs o/\r=.returned (.bool (nmS s o)):=by
 have HT:=hide hT;have HQ:=hide hQ;clear hT hQ;go_enter Tryz.func38,Tryz.ntmps38
 go_wp2_with fail
 refine(ajd w s HT.out hs).mono ?_;rintro r w1 ⟨hb1,gs',e',o,h1,h2,h3⟩;obtain⟨rfl,rfl⟩:=h1.one HQ.out;have HB:=hide (hb1.alloc hb1.size (.cells #[.int .i64 0,.int .i64 0,.int .i64 0,.int .i64 0] 56));have HBr:=hide hb1;have HR:=hide h2;clear hb1 h1;cases o with
 |bad k p=>
  have hk:(k==0)=false:=beq_eq_false_iff_ne.2 (aks h2);obtain rfl:=h3;clear h2;unfold Pl.v;go_wp2;go_ret;exact⟨HBr.out.alloc HBr.out.size _,_,HR.out,rfl⟩
 |ok l=>
  obtain⟨v,rfl,hown⟩:=h3;have hTs:Ts w1 v l:=Ts.own hown;obtain⟨t,rr,rfl,_⟩:=am1 HQ.out h2;obtain⟨ao,cap,rfl,hn⟩:=hTs.parts;obtain⟨b,off,rfl,g⟩:=hTs.tok (i:=0) (t:=t) rfl;obtain⟨_,a0,a1,_,_,_,_⟩:=g.below ((Below.refl _ _).alloc (Nat.le_refl _) (.cells #[.int .i64 0,.int .i64 0,.int .i64 0,.int .i64 0] 56));rw[Nat.zero_mul,Nat.add_zero]at a0 a1;have hln:(0:Int)<((t::rr).length:Int):=by simp
  clear g hown h2 hTs;generalize (t::rr).length=n at hn hln ⊢;unfold Pl.v;simp only[plz];by_cases hk:t.kind=1
  ·have hk':(t.kind==1)=true:=by rw[hk];rfl
   go_wp2;go_ret;exact⟨HB.out,_,HR.out,by simp only[nmS,hk',Bool.true_and];rfl⟩
  ·have hk':(t.kind==1)=false:=beq_eq_false_iff_ne.2 hk;go_wp2;go_ret;exact⟨HB.out,_,HR.out,by simp only[nmS,hk',Bool.false_and];rfl⟩
theorem aux(w:World)(s:ByteArray)(hs:4096<s.size):
  Calls Tryz.prog 38 #[.string s] w fun r w'=>Below w.heap.size w w'/\r=.returned (.bool false):=by
 go_enter Tryz.func38,Tryz.ntmps38
 go_wp2_with fail
 refine(aug w s hs).mono ?_;rintro r w1 ⟨hb1,rfl⟩;unfold Pl.v;go_wp2;go_ret;exact⟨hb1.alloc hb1.size _,rfl⟩
theorem arx(w:World)(s:ByteArray)(hs:4096<s.size):
  Calls Tryz.prog 40 #[.string s] w fun r w'=>Below w.heap.size w w'/\r=.returned (.bool false):=by
 go_enter Tryz.func40,Tryz.ntmps40
 go_wp2_with fail
 refine(arw w s hs).mono ?_;rintro r w1 ⟨hb1,rfl⟩;unfold Pl.v;go_wp2;go_ret;exact⟨hb1.alloc hb1.size _,rfl⟩
theorem aoe(w:World)(s:ByteArray)(hs:s.size<=4096)(gs:List Gl)(e:Pl)(hQ:Snd s pl0 gs e):
  Calls Tryz.prog 40 #[.string s] w fun r w'=>Below w.heap.size w w'/\∃o,ScanR s e gs o/\r=.returned (.bool (nmS s o)):=by
 have HQ:=hide hQ;clear hQ;go_enter Tryz.func40,Tryz.ntmps40
 go_wp2_with fail
 refine(aod w s hs gs e HQ.out).mono ?_;rintro r w1 ⟨hb1,o,h2,h3⟩;have HB:=hide (hb1.alloc hb1.size (.cells #[.int .i64 0,.int .i64 0,.int .i64 0,.int .i64 0] 56));have HBr:=hide hb1;have HR:=hide h2;clear hb1;cases o with
 |bad k p=>
  have hk:(k==0)=false:=beq_eq_false_iff_ne.2 (aks h2);obtain rfl:=h3;clear h2;unfold Pl.v;go_wp2;go_ret;exact⟨HBr.out.alloc HBr.out.size _,_,HR.out,rfl⟩
 |ok l=>
  obtain⟨v,rfl,hown⟩:=h3;have hTs:Ts w1 v l:=Ts.own hown;obtain⟨t,rr,rfl,h22⟩:=am1 HQ.out h2;obtain⟨ao,cap,rfl,hn⟩:=hTs.parts;obtain⟨b,off,rfl,g⟩:=hTs.tok (i:=0) (t:=t) rfl;obtain⟨_,a0,a1,_,_,_,_⟩:=g.below ((Below.refl _ _).alloc (Nat.le_refl _) (.cells #[.int .i64 0,.int .i64 0,.int .i64 0,.int .i64 0] 56));rw[Nat.zero_mul,Nat.add_zero]at a0 a1;have hln:(0:Int)<((t::rr).length:Int):=by simp
  have H22:=hide h22;clear g hown h2 hTs h22;by_cases h2:(t::rr).length=2
  ·have hl2:(((t::rr).length:Int)==2)=true:=by rw[h2];rfl
   clear H22 h2;generalize (t::rr).length=n at hn hln hl2 ⊢;unfold Pl.v;simp only[plz];by_cases hk:t.kind=1
   ·have hk':(t.kind==1)=true:=by rw[hk];rfl
    go_wp2;go_ret;exact⟨HB.out,_,HR.out,by simp only[nmS,hk',Bool.true_and];rfl⟩
   ·have hk':(t.kind==1)=false:=beq_eq_false_iff_ne.2 hk;go_wp2;go_ret;exact⟨HB.out,_,HR.out,by simp only[nmS,hk',Bool.false_and];rfl⟩
  ·have hl2:(((t::rr).length:Int)==2)=false:=beq_eq_false_iff_ne.2 (by omega);have hno:nmS s (.ok (t::rr))=false:=by
    simp only[nmS,Bool.and_eq_false_iff,beq_eq_false_iff_ne];by_cases hk:t.kind=1
    ·right;intro hx;refine h2 (H22.out hk ?_);rw[ByteArray.toList_eq,ByteArray.toList_eq]at hx;rw[aus hx,<-aus rfl]
    ·exact .inl hk
   have HNO:=hide hno;clear H22 h2 hno;generalize (t::rr).length=n at hn hln hl2 ⊢;unfold Pl.v;simp only[plz];go_wp2;go_ret;exact⟨HB.out,_,HR.out,by rw[HNO.out];rfl⟩
def ixS(x:ByteArray):List ByteArray->Option Nat
 | []=>none
 |y::r=>if y=x then some 0 else(ixS x r).map (·+1)
theorem am2{x:ByteArray}{ss:List ByteArray}(h:x∉ss):ixS x ss=none:=by
 induction ss with
 |nil=>rfl
 |cons y r ih=>
  rw[ixS,if_neg (fun e=>h (by simp[e])),ih (fun e=>h (by simp[e]))];rfl
theorem axv{x:ByteArray}{ss:List ByteArray}{k:Nat}(h:x∉ss.take k)(hk:ss[k]? = some x):ixS x ss=some k:=by
 induction ss generalizing k with
 |nil=>simp at hk
 |cons y r ih=>
  cases k with
  |zero=>
   simp at hk;rw[ixS,if_pos hk]
  |succ k=>
   simp only[List.take_succ_cons,List.mem_cons,not_or]at h;rw[ixS,if_neg (fun e=>h.1 e.symm),ih h.2 (by simpa using hk)];rfl
theorem a2h{x:ByteArray}{ss:List ByteArray}{k:Nat}(h:ixS x ss=some k):ss[k]? = some x:=by
 induction ss generalizing k with
 |nil=>simp[ixS]at h
 |cons y r ih=>
  rw[ixS]at h;split at h
  ·next e=>obtain rfl:=Option.some.inj h;simp[e]
  ·cases hr:ixS x r with
   |none=>rw[hr]at h;simp at h
   |some m=>
    rw[hr]at h;simp at h;subst h;simpa using ih hr
theorem a0j{x:ByteArray}{ss:List ByteArray}(h:ixS x ss=none):x∉ss:=by
 induction ss with
 |nil=>simp
 |cons y r ih=>
  rw[ixS]at h;split at h
  ·simp at h
  ·next e=>
   have:ixS x r=none:=by cases hr:ixS x r <;> simp[hr]at h ⊢
   simp only[List.mem_cons,not_or];exact⟨fun e'=>e e'.symm,ih this⟩
def ixV(o:Option Nat):Value:=match o with|some k=>.int .i64 (k:Int)|none=>.int .i64 (-1)
theorem Strs.parts{w:World}{ao:Option Addr}{n cap:Nat}{ss:List ByteArray}(h:Strs w (.slice ao n cap) ss):n=ss.length/\n<=9223372036854775807/\n<=cap/\cap<=9223372036854775807:=by
 obtain⟨ao',cap',hv,c1,c2,c3,c4⟩:=h;obtain⟨rfl,rfl,rfl⟩:=(Value.slice.injEq .. ▸ hv);exact⟨rfl,by omega,c1,c2⟩
theorem Strs.take{w:World}{ao:Option Addr}{n cap:Nat}{ss:List ByteArray}(h:Strs w (.slice ao n cap) ss)(k:Nat)(hk:k<=ss.length):Strs w (.slice ao k cap) (ss.take k):=by
 obtain⟨ao',cap',hv,c1,c2,c3,c4⟩:=h;obtain⟨rfl,rfl,rfl⟩:=(Value.slice.injEq .. ▸ hv);refine⟨ao,cap,by rw[List.length_take,Nat.min_eq_left hk],by rw[List.length_take];omega,c2,by simp,?_⟩;rcases c4 with c4|⟨b,off,rfl,hl,hc⟩
 ·exact .inl (by rw[List.length_take];omega)
 ·refine .inr ⟨b,off,rfl,hl,fun j u hu=>hc j u ?_⟩;rw[List.map_take,List.getElem?_take]at hu;split at hu
  ·exact hu
  ·cases hu
theorem agf(w:World)(ao:Option Addr)(n cap:Nat)(ss:List ByteArray)(x:ByteArray)(h:Strs w (.slice ao n cap) ss):
  Calls Tryz.prog 73 #[.slice ao n cap,.string x] w fun e w'=>e=.returned (ixV (ixS x ss))/\w'=w:=by
 obtain⟨hn,hb,_,_⟩:=h.parts;have H:=hide h;clear h;go_enter Tryz.func73,Tryz.ntmps73
 go_wp2;go_loopw [5,8] (fun _ iv wr=>∃(i:Nat),iv=.int .i64 i/\i<=n/\x∉ss.take i/\wr=w) (fun _ iv _=>n-(intOf iv).toNat)
 case atStart=>exact⟨0,rfl,Nat.zero_le _,by simp,rfl⟩
 case round=>
  obtain⟨i,rfl,hi,hz,rfl⟩:=hrel;have HZ:=hide hz;clear hz;by_cases hlt:i<n
  ·have hget:ss[i]? = some (ss[i]'(by omega)):=List.getElem?_eq_getElem _;obtain⟨b,off,rfl,hbl,hc⟩:=H.out.cell hget;have hlt':(i:Int)<(n:Int):=by omega
   generalize ss[i]'(by omega)=y at hc hget;have HG:=hide hget;clear hget;by_cases he:x=y
   ·subst he;go_wp2;go_ret;exact⟨by rw[axv HZ.out HG.out];rfl,rfl⟩
   ·have hne:(x.toList==y.toList)=false:=aq8 he;go_wp2;go_roundw
    case rel=>exact⟨i+1,by go_num,by omega,by rw[List.take_add_one,HG.out];simp[HZ.out,he],trivial⟩
    case measure=>simp[intOf];omega
  ·have hlt':decide ((i:Int)<(n:Int))=false:=by simp;omega
   go_wp2;go_ret;exact⟨by have:=HZ.out;rw[List.take_of_length_le (by omega)]at this;rw[am2 this];rfl,rfl⟩
theorem ak4(w:World)(ao:Option Addr)(n cap:Nat)(ss:List ByteArray)(x:ByteArray)(h:Strs w (.slice ao n cap) ss):
  Calls Tryz.prog 39 #[.slice ao n cap,.string x] w fun e w'=>e=.returned (.bool (ixS x ss).isSome)/\w'=w:=by
 have K:=hide (agf w ao n cap ss x h);clear h;generalize hg:ixS x ss=o at K;have HG:=hide hg;clear hg;cases o with
 |none=>
  unfold ixV at K;go_enter Tryz.func39,Tryz.ntmps39
  go_wp2_with fail
  refine K.out.mono ?_;rintro e w' ⟨rfl,rfl⟩;go_wp2;go_ret;exact⟨rfl,rfl⟩
 |some k=>
  unfold ixV at K;have hk:(0:Int)<=(k:Int):=by omega
  go_enter Tryz.func39,Tryz.ntmps39
  go_wp2_with fail
  refine K.out.mono ?_;rintro e w' ⟨rfl,rfl⟩;go_wp2;go_ret;exact⟨rfl,rfl⟩
open Classical in
noncomputable def isNm(s:ByteArray):Bool:=decide (s.size<=4096/\∃gs e o,Snd s pl0 gs e/\ScanR s e gs o/\nmS s o=true)
open Classical in
theorem aj4{s:ByteArray}{gs:List Gl}{e:Pl}{o:SO}(hs:s.size<=4096)(hQ:Snd s pl0 gs e)(hR:ScanR s e gs o):nmS s o=isNm s:=by
 unfold isNm;by_cases h:nmS s o=true
 ·rw[h,decide_eq_true ⟨hs,gs,e,o,hQ,hR,h⟩]
 ·rw[Bool.not_eq_true]at h;rw[h,eq_comm,decide_eq_false_iff_not];rintro ⟨_,gs',e',o',h1,h2,h3⟩;obtain⟨rfl,rfl⟩:=h1.one hQ;obtain rfl:=h2.one hR;rw[h]at h3;cases h3
open Classical in
theorem ag3{s:ByteArray}(hs:4096<s.size):isNm s=false:=by
 unfold isNm;rw[decide_eq_false_iff_not];rintro ⟨h,_⟩;omega
theorem a0k(w:World)(hT:Tabs w)(s:ByteArray):Calls Tryz.prog 38 #[.string s] w fun r w'=>Below w.heap.size w w'/\r=.returned (.bool (isNm s)):=by
 by_cases hs:4096<s.size
 ·rw[ag3 hs];exact aux w s hs
 ·obtain⟨gs,e,hQ⟩:=at0 s s.size pl0 (by simp[pl0]);refine(auw w hT s (by omega) gs e hQ).mono ?_;rintro r w' ⟨hb,o,hR,rfl⟩;exact⟨hb,by rw[aj4 (by omega) hQ hR]⟩
theorem axw(w:World)(s:ByteArray):Calls Tryz.prog 40 #[.string s] w fun r w'=>Below w.heap.size w w'/\r=.returned (.bool (isNm s)):=by
 by_cases hs:4096<s.size
 ·rw[ag3 hs];exact arx w s hs
 ·obtain⟨gs,e,hQ⟩:=at0 s s.size pl0 (by simp[pl0]);refine(aoe w s (by omega) gs e hQ).mono ?_;rintro r w' ⟨hb,o,hR,rfl⟩;exact⟨hb,by rw[aj4 (by omega) hQ hR]⟩
def NmsOk(vs:List ByteArray):Prop:=vs.length<=16/\∀(i:Nat) (x:ByteArray),vs[i]? = some x->isNm x=true/\x∉vs.take i
open Classical in
noncomputable def nmsE(vs:List ByteArray):Int:=if NmsOk vs then 0 else 1
theorem ag4(w:World)(hT:Tabs w)(v:Value)(vs:List ByteArray)(h:Strs w v vs):
  Calls Tryz.prog 12 #[v] w fun e w'=>e=.returned (.int .i64 (nmsE vs))/\Below w.heap.size w w':=by
 obtain⟨ao,cap,rfl,_⟩:=id h;obtain⟨_,hb,hb2,hb3⟩:=h.parts;have H:=hide h;have HT:=hide hT;clear h hT;obtain⟨n,hn⟩:∃n,vs.length=n:=⟨_,rfl⟩;rw[hn]at H hb hb2 ⊢;have HN:=hide hn;clear hn;by_cases hbig:16<n
 ·have hbig':(16:Int)<(n:Int):=by omega
  have he:nmsE vs=1:=if_neg (fun h=>by have:=h.1;rw[HN.out]at this;omega);rw[he];clear he;go_enter Tryz.func12,Tryz.ntmps12
  go_wp2;go_ret;exact⟨rfl,Below.refl _ _⟩
 have hbig':decide ((16:Int)<(n:Int))=false:=by simp;omega
 go_enter Tryz.func12,Tryz.ntmps12
 go_wp2;go_loopw [3,4,10] (fun _ _ iv wr=>∃(i:Nat),iv=.int .i64 i/\i<=n/\(∀(j:Nat) (x:ByteArray),j<i->vs[j]? = some x->isNm x=true/\x∉vs.take j)/\Below w.heap.size w wr) (fun _ _ iv _=>n-(intOf iv).toNat)
 case atStart=>exact⟨0,rfl,Nat.zero_le _,by intro j x hj;omega,Below.refl _ _⟩
 case round=>
  obtain⟨i,rfl,hi,hz,hbw⟩:=hrel;have HZ:=hide hz;have HW:=hide hbw;clear hz hbw;by_cases hlt:i<n
  ·have hget:vs[i]? = some (vs[i]'(by have:=HN.out;omega)):=List.getElem?_eq_getElem _;generalize vs[i]'(by have:=HN.out;omega)=x at hget;obtain⟨b,off,rfl,hbl,hc⟩:=(H.out.below HW.out).cell hget;have HG:=hide hget;have HS:=hide (H.out.below HW.out);have hlt':(i:Int)<(n:Int):=by omega
   clear hget;have K:=hide (a0k wr (HT.out.below HW.out) x);cases hnm:isNm x with
   |false=>
    have HNM:=hide hnm;rw[hnm]at K;clear hnm;have HE:Hid (nmsE vs=1):=if_neg (fun h=>by have:=(h.2 i x HG.out).1;rw[HNM.out]at this;cases this);go_wp2_with fail
    refine K.out.mono ?_;rintro r w1 ⟨hb1,rfl⟩;have HB1:=hide (HW.out.trans (hb1.mono HW.out.size));clear hb1;go_wp2;go_ret;exact⟨by rw[HE.out];rfl,HB1.out⟩
   |true=>
    have HNM:=hide hnm;rw[hnm]at K;clear hnm;go_wp2_with fail
    refine K.out.mono ?_;rintro r w1 ⟨hb1,rfl⟩;have HB1:=hide (HW.out.trans (hb1.mono HW.out.size));have HS1:=hide ((HS.out.below hb1).take i (by have:=HN.out;omega));clear hb1;have K2:=hide (ak4 w1 _ _ _ _ x HS1.out);by_cases hm:x∈vs.take i
    ·have e1:(ixS x (vs.take i)).isSome=true:=by
      cases hq:ixS x (vs.take i) with
      |none=>exact absurd hm (a0j hq)
      |some k=>rfl
     rw[e1]at K2;have HE:Hid (nmsE vs=1):=if_neg (fun h=>(h.2 i x HG.out).2 hm);clear e1;go_wp2_with fail
     refine K2.out.mono ?_;rintro r w2 ⟨rfl,rfl⟩;go_wp2;go_ret;exact⟨by rw[HE.out];rfl,HB1.out⟩
    ·have e1:(ixS x (vs.take i)).isSome=false:=by rw[am2 hm];rfl
     rw[e1]at K2;have HM:=hide hm;clear e1 hm;go_wp2_with fail
     refine K2.out.mono ?_;rintro r w2 ⟨rfl,rfl⟩;go_wp2;go_roundw
     case rel=>
      refine⟨i+1,by go_num,by omega,?_,HB1.out⟩;intro j y hj hy;by_cases hji:j=i
      ·subst hji;rw[HG.out]at hy;obtain rfl:=Option.some.inj hy;exact⟨HNM.out,HM.out⟩
      ·exact HZ.out j y (by omega) hy
     case measure=>simp[intOf];omega
  ·have hlt':decide ((i:Int)<(n:Int))=false:=by simp;omega
   have HE:Hid (nmsE vs=0):=if_pos ⟨by rw[HN.out];omega,fun j x hj=>HZ.out j x (by have:=(List.getElem?_eq_some_iff.1 hj).1;rw[HN.out]at this;omega) hj⟩;go_wp2;go_ret;exact⟨by rw[HE.out];rfl,HW.out⟩
section
variable {dst:Option Tmp} {ty:TypeId} {pos:String} {after:Array Edge} {guard:Option (Nat×Bool)} {a:Act} {w:World} {ats:Array TypeId} {i j:Nat}
theorem akt{u v:Int}(h1:a.eval (.tmp i)=.int .i32 u):
  Does Tryz.prog {dst,op:=.binOp .eql 21 (.tmp i) (.const (.int .i32 v)) 21,type:=ty,pos,after,guard} a.eval w fun v' w'=>Below w.heap.size w w'/\Eqs (.bool (decide (u=v))) v' w':=by
 refine abx (v:=.bool (decide (u=v))) ?_ ?_ ⟨Below.refl _ _,rfl⟩
 ·rw[h1];simp[go_sem,Act.eval]
 ·rw[h1];simp[go_sem,Act.eval];rfl
theorem aku{u v:Int}(h1:a.eval (.tmp i)=.int .i32 u)(h:u=v):
  Does Tryz.prog {dst,op:=.binOp .eql 21 (.tmp i) (.const (.int .i32 v)) 21,type:=ty,pos,after,guard} a.eval w fun v' w'=>Below w.heap.size w w'/\Eqs (.bool true) v' w':=
 (akt h1).mono fun _ _ ⟨hb,e⟩=>⟨hb,by rw[Eqs,show _=_ from e,decide_eq_true h]⟩
theorem ag5{u v:Int}(h1:a.eval (.tmp i)=.int .i32 u)(h:u≠v):
  Does Tryz.prog {dst,op:=.binOp .eql 21 (.tmp i) (.const (.int .i32 v)) 21,type:=ty,pos,after,guard} a.eval w fun v' w'=>Below w.heap.size w w'/\Eqs (.bool false) v' w':=
 (akt h1).mono fun _ _ ⟨hb,e⟩=>⟨hb,by rw[Eqs,show _=_ from e,decide_eq_false h]⟩
theorem app{u v:Int}(h1:a.eval (.tmp i)=.int .i64 u):
  Does Tryz.prog {dst,op:=.binOp .geq 3 (.tmp i) (.const (.int .i64 v)) 3,type:=ty,pos,after,guard} a.eval w fun v' w'=>Below w.heap.size w w'/\Eqs (.bool (decide (v<=u))) v' w':=by
 refine abx (v:=.bool (decide (v<=u))) ?_ ?_ ⟨Below.refl _ _,rfl⟩
 ·rw[h1];simp[go_sem,Act.eval]
 ·rw[h1];simp[go_sem,Act.eval]
theorem apq{s:ByteArray}{x:Operand}{k:Nat}(h:a.eval (.tmp i)=.string s)(hx:a.eval x=.int .i64 (k:Int))(hk:k<=s.size):Does Tryz.prog {dst,op:=.slice 9 (.tmp i) (some x) none none,type:=ty,pos,after,guard} a.eval w fun v' w'=>Below w.heap.size w w'/\Eqs (.string (s.extract k s.size)) v' w':=by
 have e:(execOp a.eval {dst,op:=.slice 9 (.tmp i) (some x) none none,type:=ty,pos,after,guard}).run Tryz.prog w=.ok (.value (.string (s.extract k s.size))) w:=by
  simp only[execOp,Option.map,h,hx];go_simp
 refine⟨?_⟩;unfold Turns;rw[e];exact⟨Below.refl _ _,rfl⟩
end
theorem infoStr:(Tryz.prog.info? 9).map (fun i=>(i.zero,i.size,i.bytes))=some (some (.string ⟨#[]⟩),1,16):=by kernel_rfl
theorem ak5(w:World)(v:Value)(ss:List ByteArray)(h:Strs w v ss)(hl:ss.length<=1099511627776):
  Calls Tryz.prog 13 #[v] w fun e w'=>∃r,e=.returned r/\Strs w' r ss/\Below w.heap.size w w':=by
 obtain⟨ao,cap,rfl,h1,h2,h3,h4⟩:=h;obtain⟨i0,hi,hz0,hz1,hz2⟩:=info_parts infoStr;by_cases h0:0<ss.length
 ·rcases h4 with h4|⟨b,off,rfl,hbl,hc⟩
  ·omega
  have hcells:∀j u,(ss.map Value.string)[j]? = some u->w.cell? ((⟨b,off,none⟩:Addr).add j)=some u:=fun j u hu=>by
   rw[show((⟨b,off,none⟩:Addr).add j)=⟨b,off+j,none⟩from by simp[Addr.add]];exact hc j u hu
  have hone:∀u∈ss.map Value.string,u.oneCell'=true:=by
   intro u hu;obtain⟨z,_,rfl⟩:=List.mem_map.1 hu;rfl
  clear hc;go_enter Tryz.func13,Tryz.ntmps13
  go_wp2_with (at_builtin;refine wpList_append_own _ rfl (.const (.slice none 0 0)) (.tmp 3) 22 rfl w.heap.size 9 i0 (.string ⟨#[]⟩) 1 16 Tryz.underlying22 hi hz0 hz1 hz2 rfl (by decide) _ _ _ rfl (World.ownsRow_nil _ _ _ _) ⟨b,off,none⟩ ss.length cap (ss.map Value.string) rfl (by simp) hcells hone (by unfold maxLen;omega) (by omega) (by simp) ?_)
  intro v' w1 hown hgrow _;have hb1:Below w.heap.size w w1:=(Below.refl w.heap.size w).grown hgrow (by simp) (by intro k hk;simp[Value.ownBlock]at hk);have how:Strs w1 v' ss:=Ce.own (by simpa using hown);clear hown hgrow;go_wp2;go_ret;exact⟨_,rfl,how,hb1⟩
 ·have e:ss = []:=List.eq_nil_of_length_eq_zero (by omega);subst e;cases ao with
  |none=>
   go_enter Tryz.func13,Tryz.ntmps13
   go_wp2;go_ret;exact⟨_,rfl,⟨none,0,rfl,Nat.le_refl _,by simp,rfl,.inl rfl⟩,Below.refl _ _⟩
  |some ad=>
   go_enter Tryz.func13,Tryz.ntmps13
   go_wp2;go_ret;exact⟨_,rfl,⟨none,0,rfl,Nat.le_refl _,by simp,rfl,.inl rfl⟩,Below.refl _ _⟩
theorem apr{zs:List Int}: ∀z∈zs,dvs zs ∣ z:=by
 intro z hz;unfold dvs;split
 ·exact Int.neg_dvd.2 (age z hz)
 ·exact age z hz
theorem auy{zs:List Int}(h:∀z∈zs,z=0):gcdL zs=0:=by
 have key:∀l:List Int,(∀z∈l,z=0)->l.foldl (fun c z=>((Int.gcd c z:Nat):Int)) 0=0:=by
  intro l;induction l with
  |nil=>intro _;rfl
  |cons x l ih=>
   intro hl;rw[List.foldl_cons,hl x (by simp)];exact ih (fun z hz=>hl z (by simp[hz]))
 exact key zs h
theorem ail{zs:List Int}: red zs=zs↔0<=dvs zs/\dvs zs<=1:=by
 constructor
 ·intro h;by_cases ha:∀z∈zs,z=0
  ·have:dvs zs=0:=by unfold dvs;rw[auy ha];split <;> rfl
   omega
  ·obtain⟨z,hz⟩:=Classical.not_forall.1 ha;obtain⟨hm,hn⟩:=Classical.not_imp.1 hz;obtain⟨k,hk⟩:=List.getElem?_of_mem hm;have e:(red zs)[k]? = some (z/dvs zs):=by unfold red;simp[hk]
   rw[h,hk]at e;have e':z=z/dvs zs:=Option.some.inj e;have h1:dvs zs*(z/dvs zs)=z:=Int.mul_ediv_cancel' (apr z hm);rw[<-e']at h1;have h2:dvs zs=1:=Int.eq_of_mul_eq_mul_right hn (by rw[h1,Int.one_mul]);omega
 ·rintro ⟨h1,h2⟩;unfold red;have h3:dvs zs=0\/dvs zs=1:=by omega
  have:∀z∈zs,z/dvs zs=z:=by
   intro z hz;rcases h3 with h3|h3
   ·have:=apr z hz;rw[h3]at this;rw[h3,Int.zero_dvd.1 this];rfl
   ·rw[h3,Int.ediv_one]
  exact(List.map_congr_left this).trans (List.map_id' zs)
theorem a0l{dst:Option Tmp}{ty:TypeId}{pos:String}{after:Array Edge}{guard:Option (Nat×Bool)}{a:Act}{w:World}{i:Nat}{u v:Int}(h1:a.eval (.tmp i)=.int .i64 u):
  Does Tryz.prog {dst,op:=.binOp .leq 3 (.tmp i) (.const (.int .i64 v)) 3,type:=ty,pos,after,guard} a.eval w fun v' w'=>Below w.heap.size w w'/\Eqs (.bool (decide (u<=v))) v' w':=by
 refine abx (v:=.bool (decide (u<=v))) ?_ ?_ ⟨Below.refl _ _,rfl⟩
 ·rw[h1];simp[go_sem,Act.eval]
 ·rw[h1];simp[go_sem,Act.eval]
theorem aps(d:Int):0<=Int.sign d↔0<=d:=by
 rcases Int.lt_trichotomy d 0 with h|h|h
 ·rw[Int.sign_eq_neg_one_of_neg h];omega
 ·subst h;simp
 ·rw[Int.sign_eq_one_of_pos h];omega
theorem a0m{x y:Int}(h:x≠y):cmpI x y≠0:=by
 unfold cmpI;split
 ·decide
 ·split
  ·decide
  ·omega
theorem auz(w:World)(va vb:Value)(xs ys:List Int)(L M:Nat)(ha:NRow w va xs L)(hb:NRow w vb ys M)(hl:xs.length=ys.length):
  Calls Tryz.prog 44 #[va,vb] w fun e w'=>e=.returned (.bool (decide (xs=ys)))/\Below w.heap.size w w':=by
 obtain⟨aa,ca,rfl,hi⟩:=ha.parts;obtain⟨ab,cb,rfl,_⟩:=hb.parts;obtain⟨n,hnn⟩:∃n,xs.length=n:=⟨_,rfl⟩;rw[<-hl]at hb ⊢;rw[hnn]at ha hb hi hl ⊢;have HA:=hide ha;have HB:=hide hb;have HN:=hide hnn;have HL:=hide hl;have hne:((n:Int) != (n:Int))=false:=by simp
 clear ha hb hnn hl;go_enter Tryz.func44,Tryz.ntmps44
 go_wp2_with fail
 go_loopw [5] (fun iv wr=>∃(k:Nat),iv=.int .i64 k/\k<=n/\xs.take k=ys.take k/\Below w.heap.size w wr) (fun iv _=>n-(intOf iv).toNat)
 case atStart=>exact⟨0,rfl,Nat.zero_le _,rfl,Below.refl _ _⟩
 case round=>
  obtain⟨k,rfl,hk,htk,hbw⟩:=hrel;have HW:=hide hbw;have HTK:=hide htk;have HAr:=hide (HA.out.below hbw);have HBr:=hide (HB.out.below hbw);clear htk hbw;by_cases hlt:k<n
  ·have hlt':(k:Int)<(n:Int):=by omega
   obtain⟨z,hz⟩:∃z,xs[k]? = some z:=⟨_,List.getElem?_eq_getElem (by have:=HN.out;omega)⟩;obtain⟨y,hy⟩:∃y,ys[k]? = some y:=⟨_,List.getElem?_eq_getElem (by have:=HL.out;omega)⟩;obtain⟨ba,oa,haa⟩:=HA.out.some (by omega);obtain⟨bb,ob,hbb⟩:=HB.out.some (by omega);subst haa hbb;have HZ:=hide hz;have HY:=hide hy;clear hz hy;go_upto_region 6 with fail
   go_cut [26] (fun cv wx=>cv=.bool (!decide (cmpI z y=0))/\Below wr.heap.size wr wx)
   case first=>
     refine ay7 [17,18,19,20,21,22,23,24,25,26] [Eqs (.slice (some ⟨ba,oa,none⟩) n ca),Eqs (.int .i64 (k:Int)),Eqs (.pointer (some ⟨ba,oa+k*2,none⟩)),(OutN z L),Eqs (.slice (some ⟨bb,ob,none⟩) n cb),Eqs (.int .i64 (k:Int)),Eqs (.pointer (some ⟨bb,ob+k*2,none⟩)),(OutN y M),Eqs (.int .i64 (cmpI z y)),Eqs (.bool (!decide (cmpI z y=0)))] (by assumption) (by assumption) rfl (by decide) (by kernel_rfl) (by kernel_rfl) ⟨Eqs.mono _,Eqs.mono _,Eqs.mono _,(Mono.of4 (OutN.mono4 _ _)),Eqs.mono _,Eqs.mono _,Eqs.mono _,(Mono.of4 (OutN.mono4 _ _)),Eqs.mono _,Eqs.mono _,trivial⟩ ?_ ?_
     ·exact⟨⟨rfl,fun a_ w_ _ hB hR hD=>aay ((hR 0 rfl).trans (aar rfl))⟩,
       ⟨rfl,fun a_ w_ _ hB hR hD=>aay ((hR 5 rfl).trans (aar rfl))⟩,
       ⟨rfl,fun a_ w_ _ hB hR hD=>ahi (show a_.eval (.tmp 17)=.slice (some ⟨ba,oa,none⟩) n ca from hD 0 rfl) rfl (show a_.eval (.tmp 18)=.int .i64 (k:Int)from hD 1 rfl) (by omega)⟩,
       ⟨rfl,fun a_ w_ _ hB hR hD=>ajh (show a_.eval (.tmp 19)=.pointer (some ⟨ba,oa+k*2,none⟩)from hD 2 rfl) rfl (HAr.out.below hB) HZ.out⟩,
       ⟨rfl,fun a_ w_ _ hB hR hD=>aay ((hR 1 rfl).trans (aar rfl))⟩,
       ⟨rfl,fun a_ w_ _ hB hR hD=>aay ((hR 5 rfl).trans (aar rfl))⟩,
       ⟨rfl,fun a_ w_ _ hB hR hD=>ahi (show a_.eval (.tmp 21)=.slice (some ⟨bb,ob,none⟩) n cb from hD 4 rfl) rfl (show a_.eval (.tmp 22)=.int .i64 (k:Int)from hD 5 rfl) (by omega)⟩,
       ⟨rfl,fun a_ w_ _ hB hR hD=>ajh (show a_.eval (.tmp 23)=.pointer (some ⟨bb,ob+k*2,none⟩)from hD 6 rfl) rfl (HBr.out.below hB) HY.out⟩,
       ⟨rfl,fun a_ w_ _ hB hR hD=>azq (show(OutN z L) (a_.eval (.tmp 20)) w_ from hD 3 rfl) (show(OutN y M) (a_.eval (.tmp 24)) w_ from hD 7 rfl)⟩,
       ⟨rfl,fun a_ w_ _ hB hR hD=>ay1 (show a_.eval (.tmp 25)=.int .i64 (cmpI z y)from hD 8 rfl)⟩,
       trivial⟩
     ·intro a' w' hn' hd' hB' hR' hP'
      (repeat apply Exists.intro)
      refine⟨?rel,aow hn' hd' hR' ?fit⟩
      case fit=>repeat' (first|exact trivial|refine⟨(by first|exact .inl ⟨rfl,rfl⟩|exact .inr rfl),?_⟩)
      case rel=>exact⟨(show _=_ from hP' 9 (by decide)),hB'⟩
   case rest=>
    obtain⟨rfl,hb5⟩:=hcut;have HB5:=hide (HW.out.trans (hb5.mono HW.out.size));clear hb5;by_cases hzy:z=y
    ·have HZY:=hide hzy;rw[show(!decide (cmpI z y=0))=false by rw[acj hzy];rfl];clear hzy;go_wp2;go_roundw
     case rel=>exact⟨k+1,by go_num,by omega,by rw[List.take_add_one,List.take_add_one,HTK.out,HZ.out,HY.out,HZY.out],HB5.out⟩
     case measure=>simp[intOf];omega
    ·have HE:Hid (decide (xs=ys)=false):=decide_eq_false (fun e=>hzy (by have h1:=HZ.out;rw[e,HY.out]at h1;exact(Option.some.inj h1).symm));rw[show(!decide (cmpI z y=0))=true by rw[decide_eq_false (a0m hzy)];rfl];clear hzy;go_wp2;refine bodyPost_ret (v:=_) (abv rfl rfl) rfl ⟨by rw[HE.out];rfl,HB5.out⟩
  ·have hlt':decide ((k:Int)<(n:Int))=false:=by simp;omega
   have HE:Hid (decide (xs=ys)=true):=decide_eq_true (by
    have h:=HTK.out
    rwa[List.take_of_length_le (by have:=HN.out;omega),List.take_of_length_le (by have:=HL.out;omega)]at h)
   go_wp2;refine bodyPost_ret (v:=_) (abv rfl rfl) rfl ⟨by rw[HE.out];rfl,HW.out⟩
set_option maxRecDepth 100000 in
theorem ak6(w:World)(v:Value)(zs:List Int)(L:Nat)(h:IsRow w v zs L)(hL:L<=100000):
  Calls Tryz.prog 15 #[v] w fun e w'=>e=.returned (.bool (decide (zs≠[]/\red zs=zs)))/\Below w.heap.size w w':=by
 obtain⟨ao,cap,rfl,hn⟩:=h.parts;have K:=ahw w _ zs L h hL;obtain⟨n,hnn⟩:∃n,zs.length=n:=⟨_,rfl⟩;rw[hnn]at K hn ⊢;have K:=hide K;have HN:=hide hnn;clear h hnn;go_enter Tryz.func15,Tryz.ntmps15
 go_wp2_with fail
 refine K.out.mono ?_;rintro e w1 ⟨r,rfl,ho,hb1⟩;obtain⟨ng,a,c,rs,rfl,_,_⟩:=id ho;have hal:=hAl w1 (.cells #[.bool ng,.slice a rs.length c] 60);have hnw:=heap_alloc_new w1 (.cells #[.bool ng,.slice a rs.length c] 60);have HO:=hide (ho.ru (Ru.of_below hal));have HB:=hide (hb1.trans (hal.mono hb1.size));clear ho hb1 hal K;go_upto_region 2 with fail
 generalize (w1.alloc (.cells #[.bool ng,.slice a rs.length c] 60))=w2 at *
 generalize w1.heap.size=f3 at *
 have HNW:=hide hnw;clear hnw;by_cases h0:n=0
 ·subst h0;have HE:Hid (decide (zs≠[]/\red zs=zs)=false):=decide_eq_false (fun e=>e.1 (List.eq_nil_of_length_eq_zero HN.out));go_quiet (fail)
  go_wp2;refine bodyPost_ret (v:=_) (abv rfl rfl) rfl ⟨by rw[HE.out];rfl,gdrewN HB.out nq⟩
 have HZN:Hid (zs≠[]):=(fun e=>h0 (by rw[<-HN.out,e];rfl));by_cases hd:0<=dvs zs
 ·have HSG:Hid (decide (0<=Int.sign (dvs zs))=true):=decide_eq_true ((aps _).2 hd);have HE:Hid (decide (zs≠[]/\red zs=zs)=decide (cmpI (dvs zs) 1<=0)):=by
   refine decide_eq_decide.2 ⟨fun e=>?_,fun e=>⟨HZN.out,ail.2 ⟨hd,?_⟩⟩⟩
   ·have h2:=(ail.1 e.2).2;unfold cmpI;split
    ·decide
    ·split <;> omega
   ·unfold cmpI at e;split at e
    ·omega
    ·split at e <;> omega
  clear hd;refine acg 14 [6,7,8,9,10,11,12,13,14,15,16,17,18,19] [Eqs (.slice ao n cap),Eqs (.int .i64 (n:Int)),Eqs (.bool true),Eqs (.bool true),(OutW (dvs zs) L),Eqs (.int .i64 (Int.sign (dvs zs))),Eqs (.bool true),Eqs (.bool true),Eqs (.bool true),(OutW (dvs zs) L),(OutW 1 2),Eqs (.int .i64 (cmpI (dvs zs) 1)),Eqs (.bool (decide (cmpI (dvs zs) 1<=0))),Eqs (.bool (decide (cmpI (dvs zs) 1<=0)))] rfl rfl (by decide) (by kernel_rfl) (by kernel_rfl) (by decide) (by kernel_rfl) ⟨Eqs.mono _,Eqs.mono _,Eqs.mono _,Eqs.mono _,(Mono.of4 (OutW.mono4 _ _)),Eqs.mono _,Eqs.mono _,Eqs.mono _,Eqs.mono _,(Mono.of4 (OutW.mono4 _ _)),(Mono.of4 (OutW.mono4 _ _)),Eqs.mono _,Eqs.mono _,Eqs.mono _,trivial⟩ ?_ ?_
  ·exact⟨⟨rfl,fun a_ w_ _ hB hR hD=>aay ((hR 0 rfl).trans (aar rfl))⟩,
     ⟨rfl,fun a_ w_ _ hB hR hD=>afu (show a_.eval (.tmp 6)=.slice ao n cap from hD 0 rfl)⟩,
     ⟨rfl,fun a_ w_ _ hB hR hD=>aph (show a_.eval (.tmp 7)=.int .i64 (n:Int)from hD 1 rfl) (by omega)⟩,
     ⟨rfl,fun a_ w_ _ hB hR hD=>aay (show a_.eval (.tmp 8)=.bool true from hD 2 rfl)⟩,
     ⟨rfl,fun a_ w_ _ hB hR hD=>⟨by decide,fun _=>ac3 ((hR 3 rfl).trans (aar rfl)) ((hB.block _ (aaa HNW.out)).trans HNW.out) (Mono.of4 (OutW.mono4 _ _) _ _ _ hB HO.out),fun hne=>absurd (hD 3 rfl) hne⟩⟩,
     ⟨rfl,fun a_ w_ _ hB hR hD=>⟨by decide,fun _=>aos (OutW.is (show(OutW (dvs zs) L) (a_.eval (.tmp 10)) w_ from hD 4 rfl)) (by omega),fun hne=>absurd (hD 3 rfl) hne⟩⟩,
     ⟨rfl,fun a_ w_ _ hB hR hD=>⟨by decide,fun _=>(app (show a_.eval (.tmp 11)=.int .i64 (Int.sign (dvs zs))from hD 5 rfl)).mono (fun v' w' ⟨hb,e⟩=>⟨hb,by rw[Eqs,show v'=_ from e,HSG.out]⟩),fun hne=>absurd (hD 3 rfl) hne⟩⟩,
     ⟨rfl,fun a_ w_ _ hB hR hD=>aew (show a_.eval (.tmp 9)=.bool true from hD 3 rfl) (show a_.eval (.tmp 12)=.bool true from hD 6 rfl)⟩,
     ⟨rfl,fun a_ w_ _ hB hR hD=>aay (show a_.eval (.tmp 13)=.bool true from hD 7 rfl)⟩,
     ⟨rfl,fun a_ w_ _ hB hR hD=>⟨by decide,fun _=>ac3 ((hR 3 rfl).trans (aar rfl)) ((hB.block _ (aaa HNW.out)).trans HNW.out) (Mono.of4 (OutW.mono4 _ _) _ _ _ hB HO.out),fun hne=>absurd (hD 8 rfl) hne⟩⟩,
     ⟨rfl,fun a_ w_ _ hB hR hD=>⟨by decide,fun _=>a2z (by decide) (by decide),fun hne=>absurd (hD 8 rfl) hne⟩⟩,
     ⟨rfl,fun a_ w_ _ hB hR hD=>⟨by decide,fun _=>a1k (OutW.is (show(OutW (dvs zs) L) (a_.eval (.tmp 15)) w_ from hD 9 rfl)) (OutW.is (show(OutW 1 2) (a_.eval (.tmp 16)) w_ from hD 10 rfl)) (by omega) (by omega),fun hne=>absurd (hD 8 rfl) hne⟩⟩,
     ⟨rfl,fun a_ w_ _ hB hR hD=>⟨by decide,fun _=>a0l (show a_.eval (.tmp 17)=.int .i64 (cmpI (dvs zs) 1)from hD 11 rfl),fun hne=>absurd (hD 8 rfl) hne⟩⟩,
     ⟨rfl,fun a_ w_ _ hB hR hD=>aew (show a_.eval (.tmp 14)=.bool true from hD 8 rfl) (show a_.eval (.tmp 18)=.bool (decide (cmpI (dvs zs) 1<=0))from hD 12 rfl)⟩,
     trivial⟩
  ·intro a' w' hn' hd' hB' hR' hP';have e6:a'.eval (.tmp 6)=.slice ao n cap:=hP' 0 (by decide);have e7:a'.eval (.tmp 7)=.int .i64 (n:Int):=hP' 1 (by decide);have e8:a'.eval (.tmp 8)=.bool true:=hP' 2 (by decide);have e9:a'.eval (.tmp 9)=.bool true:=hP' 3 (by decide);obtain⟨u10,e10⟩:∃u,a'.eval (.tmp 10)=u:=⟨_,rfl⟩;have e11:a'.eval (.tmp 11)=.int .i64 (Int.sign (dvs zs)):=hP' 5 (by decide);have e12:a'.eval (.tmp 12)=.bool true:=hP' 6 (by decide);have e13:a'.eval (.tmp 13)=.bool true:=hP' 7 (by decide);have e14:a'.eval (.tmp 14)=.bool true:=hP' 8 (by decide);obtain⟨u15,e15⟩:∃u,a'.eval (.tmp 15)=u:=⟨_,rfl⟩;obtain⟨u16,e16⟩:∃u,a'.eval (.tmp 16)=u:=⟨_,rfl⟩;have e17:a'.eval (.tmp 17)=.int .i64 (cmpI (dvs zs) 1):=hP' 11 (by decide);have e18:a'.eval (.tmp 18)=.bool (decide (cmpI (dvs zs) 1<=0)):=hP' 12 (by decide);have e19:a'.eval (.tmp 19)=.bool (decide (cmpI (dvs zs) 1<=0)):=hP' 13 (by decide);refine ada hn' hd' hR' (.s4 rfl <| .same rfl <| .same rfl <| .new e6 <| .new e7 <| .new e8 <| .new e9 <| .new e10 <| .new e11 <| .new e12 <| .new e13 <| .new e14 <| .new e15 <| .new e16 <| .new e17 <| .new e18 <| .new e19 <| .nil) ?_;clear e6 e7 e8 e9 e10 e11 e12 e13 e14 e15 e16 e17 e18 e19;have HB':=hide (HB.out.trans (hB'.mono HB.out.size));clear hB' hR' hP' hn' hd';go_wp2;refine bodyPost_ret (v:=_) (abv rfl rfl) rfl ⟨by rw[HE.out];rfl,HB'.out⟩
 ·have HSG:Hid (decide (0<=Int.sign (dvs zs))=false):=decide_eq_false (fun e=>hd ((aps _).1 e));have HE:Hid (decide (zs≠[]/\red zs=zs)=false):=decide_eq_false (fun e=>hd (ail.1 e.2).1);clear hd;refine acg 14 [6,7,8,9,10,11,12,13,14,15,16,17,18,19] [Eqs (.slice ao n cap),Eqs (.int .i64 (n:Int)),Eqs (.bool true),Eqs (.bool true),(OutW (dvs zs) L),Eqs (.int .i64 (Int.sign (dvs zs))),Eqs (.bool false),Eqs (.bool false),Eqs (.bool false),(fun _ _=>True),(fun _ _=>True),(fun _ _=>True),(fun _ _=>True),Eqs ((.bool false))] rfl rfl (by decide) (by kernel_rfl) (by kernel_rfl) (by decide) (by kernel_rfl) ⟨Eqs.mono _,Eqs.mono _,Eqs.mono _,Eqs.mono _,(Mono.of4 (OutW.mono4 _ _)),Eqs.mono _,Eqs.mono _,Eqs.mono _,Eqs.mono _,(fun _ _ _ _ h=>h),(fun _ _ _ _ h=>h),(fun _ _ _ _ h=>h),(fun _ _ _ _ h=>h),Eqs.mono _,trivial⟩ ?_ ?_
  ·exact⟨⟨rfl,fun a_ w_ _ hB hR hD=>aay ((hR 0 rfl).trans (aar rfl))⟩,
     ⟨rfl,fun a_ w_ _ hB hR hD=>afu (show a_.eval (.tmp 6)=.slice ao n cap from hD 0 rfl)⟩,
     ⟨rfl,fun a_ w_ _ hB hR hD=>aph (show a_.eval (.tmp 7)=.int .i64 (n:Int)from hD 1 rfl) (by omega)⟩,
     ⟨rfl,fun a_ w_ _ hB hR hD=>aay (show a_.eval (.tmp 8)=.bool true from hD 2 rfl)⟩,
     ⟨rfl,fun a_ w_ _ hB hR hD=>⟨by decide,fun _=>ac3 ((hR 3 rfl).trans (aar rfl)) ((hB.block _ (aaa HNW.out)).trans HNW.out) (Mono.of4 (OutW.mono4 _ _) _ _ _ hB HO.out),fun hne=>absurd (hD 3 rfl) hne⟩⟩,
     ⟨rfl,fun a_ w_ _ hB hR hD=>⟨by decide,fun _=>aos (OutW.is (show(OutW (dvs zs) L) (a_.eval (.tmp 10)) w_ from hD 4 rfl)) (by omega),fun hne=>absurd (hD 3 rfl) hne⟩⟩,
     ⟨rfl,fun a_ w_ _ hB hR hD=>⟨by decide,fun _=>(app (show a_.eval (.tmp 11)=.int .i64 (Int.sign (dvs zs))from hD 5 rfl)).mono (fun v' w' ⟨hb,e⟩=>⟨hb,by rw[Eqs,show v'=_ from e,HSG.out]⟩),fun hne=>absurd (hD 3 rfl) hne⟩⟩,
     ⟨rfl,fun a_ w_ _ hB hR hD=>aew (show a_.eval (.tmp 9)=.bool true from hD 3 rfl) (show a_.eval (.tmp 12)=.bool false from hD 6 rfl)⟩,
     ⟨rfl,fun a_ w_ _ hB hR hD=>aay (show a_.eval (.tmp 13)=.bool false from hD 7 rfl)⟩,
     ⟨rfl,fun a_ w_ _ hB hR hD=>⟨by decide,fun hw=>absurd ((show _=_ from hD 8 rfl).symm.trans hw) (by simp),fun _=>trivial⟩⟩,
     ⟨rfl,fun a_ w_ _ hB hR hD=>⟨by decide,fun hw=>absurd ((show _=_ from hD 8 rfl).symm.trans hw) (by simp),fun _=>trivial⟩⟩,
     ⟨rfl,fun a_ w_ _ hB hR hD=>⟨by decide,fun hw=>absurd ((show _=_ from hD 8 rfl).symm.trans hw) (by simp),fun _=>trivial⟩⟩,
     ⟨rfl,fun a_ w_ _ hB hR hD=>⟨by decide,fun hw=>absurd ((show _=_ from hD 8 rfl).symm.trans hw) (by simp),fun _=>trivial⟩⟩,
     ⟨rfl,fun a_ w_ _ hB hR hD=>aew (show a_.eval (.tmp 14)=.bool false from hD 8 rfl) rfl⟩,
     trivial⟩
  ·intro a' w' hn' hd' hB' hR' hP';have e6:a'.eval (.tmp 6)=.slice ao n cap:=hP' 0 (by decide);have e7:a'.eval (.tmp 7)=.int .i64 (n:Int):=hP' 1 (by decide);have e8:a'.eval (.tmp 8)=.bool true:=hP' 2 (by decide);have e9:a'.eval (.tmp 9)=.bool true:=hP' 3 (by decide);obtain⟨u10,e10⟩:∃u,a'.eval (.tmp 10)=u:=⟨_,rfl⟩;have e11:a'.eval (.tmp 11)=.int .i64 (Int.sign (dvs zs)):=hP' 5 (by decide);have e12:a'.eval (.tmp 12)=.bool false:=hP' 6 (by decide);have e13:a'.eval (.tmp 13)=.bool false:=hP' 7 (by decide);have e14:a'.eval (.tmp 14)=.bool false:=hP' 8 (by decide);obtain⟨u15,e15⟩:∃u,a'.eval (.tmp 15)=u:=⟨_,rfl⟩;obtain⟨u16,e16⟩:∃u,a'.eval (.tmp 16)=u:=⟨_,rfl⟩;obtain⟨u17,e17⟩:∃u,a'.eval (.tmp 17)=u:=⟨_,rfl⟩;obtain⟨u18,e18⟩:∃u,a'.eval (.tmp 18)=u:=⟨_,rfl⟩;have e19:a'.eval (.tmp 19)=(.bool false):=hP' 13 (by decide);refine ada hn' hd' hR' (.s4 rfl <| .same rfl <| .same rfl <| .new e6 <| .new e7 <| .new e8 <| .new e9 <| .new e10 <| .new e11 <| .new e12 <| .new e13 <| .new e14 <| .new e15 <| .new e16 <| .new e17 <| .new e18 <| .new e19 <| .nil) ?_;clear e6 e7 e8 e9 e10 e11 e12 e13 e14 e15 e16 e17 e18 e19;have HB':=hide (HB.out.trans (hB'.mono HB.out.size));clear hB' hR' hP' hn' hd';go_wp2;refine bodyPost_ret (v:=_) (abv rfl rfl) rfl ⟨by rw[HE.out];rfl,HB'.out⟩
theorem aj5(w:World)(v:Value)(zs:List Int)(L:Nat)(h:IsRow w v zs L)(hl:zs.length<=100000)(hL:L<=10000):
  Calls Tryz.prog 17 #[v] w fun e w'=>e=.returned (.bool (decide (zs≠[]/\red zs=zs)))/\Below w.heap.size w w':=by
 obtain⟨ao,cap,hv,hn⟩:=h.parts;have K1:=amo w _ zs L h (by omega) (by omega);have H:=hide h;have HLT:=hide h.lt;subst hv;obtain⟨n,hnn⟩:∃n,zs.length=n:=⟨_,rfl⟩;rw[hnn]at K1 H hn ⊢;have K1:=hide K1;have HN:=hide hnn;clear h hnn;by_cases h0:n=0
 ·subst h0;have HE:Hid (decide (zs≠[]/\red zs=zs)=false):=decide_eq_false (fun e=>e.1 (List.eq_nil_of_length_eq_zero HN.out));go_enter Tryz.func17,Tryz.ntmps17
  go_wp2;refine bodyPost_ret (v:=_) (abv rfl rfl) rfl ⟨by rw[HE.out];rfl,Below.refl _ _⟩
 have hpos:(0:Int)<(n:Int):=by omega
 have HZN:Hid (zs≠[]):=(fun e=>h0 (by rw[<-HN.out,e];rfl));have HE:Hid (decide (zs≠[]/\red zs=zs)=decide (red zs=zs)):=decide_eq_decide.2 ⟨fun e=>e.2,fun e=>⟨HZN.out,e⟩⟩;go_enter Tryz.func17,Tryz.ntmps17
 go_wp2_with fail
 refine K1.out.mono ?_;rintro e w1 ⟨r1,rfl,h1,hb1⟩;obtain⟨a1,c1,rfl,_⟩:=h1.parts;have K2:=hide (arp w1 _ zs L h1 hl hL HLT.out HZN.out);have HB1:=hide hb1;clear h1 hb1 K1;go_wp2_with fail
 refine K2.out.mono ?_;rintro e w2 ⟨r2,rfl,h2,hb2⟩;obtain⟨a2,c2,hv2,_⟩:=h2.parts;subst hv2;have HB2:=hide (HB1.out.trans (hb2.mono HB1.out.size));have H2:=hide h2;have K3:=hide (amo w2 _ zs L (H.out.below HB2.out) (by omega) (by omega));clear h2 hb2 K2;go_wp2_with fail
 refine K3.out.mono ?_;rintro e w3 ⟨r3,rfl,h3,hb3⟩;obtain⟨a3,c3,hv3,_⟩:=h3.parts;subst hv3;have HB3:=hide (HB2.out.trans (hb3.mono HB2.out.size));have K4:=hide (auz w3 _ _ (red zs) zs (3*L) (3*L) (H2.out.below hb3) h3 (by simp[red]));clear h3 hb3 K3;go_wp2_with fail
 refine K4.out.mono ?_;rintro e w4 ⟨rfl,hb4⟩;have HB4:=hide (HB3.out.trans (hb4.mono HB3.out.size));clear hb4 K4;go_wp2;refine bodyPost_ret (v:=_) (abv rfl rfl) rfl ⟨by rw[HE.out];rfl,HB4.out⟩
theorem ary(w:World)(v:Value)(vs:List ByteArray)(h:Strs w v vs):
  Calls Tryz.prog 14 #[v] w fun e w'=>e=.returned (.int .i64 (nmsE vs))/\Below w.heap.size w w':=by
 obtain⟨ao,cap,rfl,_⟩:=id h;obtain⟨_,hb,hb2,hb3⟩:=h.parts;have H:=hide h;clear h;obtain⟨n,hn⟩:∃n,vs.length=n:=⟨_,rfl⟩;rw[hn]at H hb hb2 ⊢;have HN:=hide hn;clear hn;by_cases hbig:16<n
 ·have hbig':(16:Int)<(n:Int):=by omega
  have he:nmsE vs=1:=if_neg (fun h=>by have:=h.1;rw[HN.out]at this;omega);rw[he];clear he;go_enter Tryz.func14,Tryz.ntmps14
  go_wp2;go_ret;exact⟨rfl,Below.refl _ _⟩
 have hbig':decide ((16:Int)<(n:Int))=false:=by simp;omega
 go_enter Tryz.func14,Tryz.ntmps14
 go_wp2;go_loopw [3,4] (fun iv _ wr=>∃(i:Nat),iv=.int .i64 i/\i<=n/\(∀(j:Nat) (x:ByteArray),j<i->vs[j]? = some x->isNm x=true/\x∉vs.take j)/\Below w.heap.size w wr) (fun iv _ _=>n-(intOf iv).toNat)
 case atStart=>exact⟨0,rfl,Nat.zero_le _,by intro j x hj;omega,Below.refl _ _⟩
 case round=>
  obtain⟨i,rfl,hi,hz,hbw⟩:=hrel;have HZ:=hide hz;have HW:=hide hbw;clear hz hbw;by_cases hlt:i<n
  ·have hget:vs[i]? = some (vs[i]'(by have:=HN.out;omega)):=List.getElem?_eq_getElem _;generalize vs[i]'(by have:=HN.out;omega)=x at hget;obtain⟨b,off,rfl,hbl,hc⟩:=(H.out.below HW.out).cell hget;have HG:=hide hget;have hlt':(i:Int)<(n:Int):=by omega
   clear hget;have K:=hide (axw wr x);cases hnm:isNm x with
   |false=>
    have HNM:=hide hnm;rw[hnm]at K;clear hnm;have HE:Hid (nmsE vs=1):=if_neg (fun h=>by have:=(h.2 i x HG.out).1;rw[HNM.out]at this;cases this);go_wp2_with fail
    refine K.out.mono ?_;rintro r w1 ⟨hb1,rfl⟩;have HB1:=hide (HW.out.trans (hb1.mono HW.out.size));clear hb1;go_wp2;go_ret;exact⟨by rw[HE.out];rfl,HB1.out⟩
   |true=>
    have HNM:=hide hnm;rw[hnm]at K;clear hnm;go_wp2_with fail
    refine K.out.mono ?_;rintro r w1 ⟨hb1,rfl⟩;have HB1:=hide (HW.out.trans (hb1.mono HW.out.size));clear hb1 hc hbl;go_wp2_with fail
    go_loopw [4] (fun kv wr'=>∃(k:Nat),kv=.int .i64 k/\k<=i/\x∉vs.take k/\Below w.heap.size w wr') (fun kv _=>i-(intOf kv).toNat)
    case atStart=>exact⟨0,rfl,Nat.zero_le _,by simp,HB1.out⟩
    case round=>
     obtain⟨k,rfl,hk,hx,hbk⟩:=hrel;have HX:=hide hx;have HK:=hide hbk;have HS:=hide (H.out.below hbk);clear hx hbk;by_cases hlk:k<i
     ·have hlk':(k:Int)<(i:Int):=by omega
      obtain⟨y,hy⟩:∃y,vs[k]? = some y:=⟨_,List.getElem?_eq_getElem (by have:=HN.out;omega)⟩;obtain⟨b1,off1,e1,hbl1,hc1⟩:=HS.out.cell hy;obtain⟨b2,off2,e2,hbl2,hc2⟩:=HS.out.cell HG.out;obtain⟨rfl,rfl⟩:b=b1/\off=off1:=by simpa using e1
      obtain⟨rfl,rfl⟩:b=b2/\off=off2:=by simpa using e2
      have hkn:(k:Int)<(n:Int):=by omega
      have HY:=hide hy;clear hy e1 e2;by_cases he:y=x
      ·subst he;have HE:Hid (nmsE vs=1):=if_neg (fun h=>(h.2 i y HG.out).2 (List.mem_of_getElem? (i:=k) (by rw[List.getElem?_take,if_pos hlk];exact HY.out)));go_wp2_with fail
       go_quiet (fail)
       go_wp2;go_ret;exact⟨by rw[HE.out];rfl,gdrewN HK.out nq⟩
      ·have hne:(y.toList==x.toList)=false:=aq8 he;have HNE:=hide he;clear he;go_wp2_with fail
       go_quiet (fail)
       go_wp2;go_roundw
       case rel=>exact⟨k+1,by go_num,by omega,by rw[List.take_add_one,HY.out];simp only[Option.toList,List.mem_append,List.mem_singleton,not_or];exact⟨HX.out,fun e=>HNE.out e.symm⟩,gdrewN HK.out nq⟩
       case measure=>simp[intOf];omega
     ·have hlk':decide ((k:Int)<(i:Int))=false:=by simp;omega
      obtain rfl:k=i:=by omega
      go_wp2;go_roundw
      case rel=>
       refine⟨k+1,by go_num,by omega,?_,HK.out⟩;intro j y hj hy;by_cases hji:j=k
       ·subst hji;rw[HG.out]at hy;obtain rfl:=Option.some.inj hy;exact⟨HNM.out,HX.out⟩
       ·exact HZ.out j y (by omega) hy
      case measure=>simp[intOf];omega
  ·have hlt':decide ((i:Int)<(n:Int))=false:=by simp;omega
   have HE:Hid (nmsE vs=0):=if_pos ⟨by rw[HN.out];omega,fun j x hj=>HZ.out j x (by have:=(List.getElem?_eq_some_iff.1 hj).1;rw[HN.out]at this;omega) hj⟩;go_wp2;go_ret;exact⟨by rw[HE.out];rfl,HW.out⟩
def tsg(t:Tk)(s:ByteArray):Bool:=decide (t.kind=3)&&decide (t.text=s)
theorem au0(w:World)(q b:Nat)(tv uv:Value)(l:List Tk)(vs:List ByteArray)(i:Nat)(t:Tk)(h:Rea w q b tv uv l vs i)(ht:l[i]? = some t)(s:ByteArray)(hk:t.kind=3)(hx:t.text=s)(hj:i+1<l.length)(hl:l.length<=100000):
  Calls Tryz.prog 104 #[.pointer (some ⟨q,0,none⟩),.string s] w fun r w'=>r=.returned (.bool true)/\Rea w' q b tv uv l vs (i+1)/\Rc q q w w':=by
 have H:=hide h;have hq:=aaa h.blk;have K:=hide (abj w q b tv uv l vs i t h ht);have hi:i<=100000:=by omega
 clear hl;have HJ:=hide hj;obtain⟨_,_,_,_,_,_,K1,_,KF,_⟩:=h.cells ht;have HK1:=hide (And.intro K1 KF);clear h ht hj K1 KF;unfold Tk.av at K;rw[hk,hx]at K;clear hk hx;go_enter Tryz.func104,Tryz.ntmps104
 go_wp2_with fail
 refine K.out.mono ?_;rintro r w1 ⟨rfl,hb⟩;have HB:=hide hb;have k1:=(hb.cell (p:=⟨q,1,none⟩) hq).trans HK1.out.1;have kf:w1.frozen? ⟨q,1,none⟩=false:=frozen_of_row w1 q 1 _ _ ((hb.block q hq).trans H.out.blk);have hq1:q<w1.heap.size:=Nat.lt_of_lt_of_le hq hb.size;clear hb K HK1;generalize hf:w1.heap.size=f at *
 have hqf:q≠f:=by omega
 go_wp2;refine bodyPost_ret (v:=_) (by simp[results,Tryz.results104,go_sem];try rfl) rfl ⟨rfl,?_⟩;obtain⟨n1,n2⟩:=H.out.next (.of_below HB.out) (HB.out.block q hq) HJ.out;have hA:∀(W:World) (o:Obj),Below W.heap.size W (W.alloc o):=fun W o=>(Below.refl _ _).alloc (Nat.le_refl _) o
 exact⟨n1.below (hA _ _),n2.trans (.of_below (hA _ _))⟩
theorem axx(w:World)(q b:Nat)(tv uv:Value)(l:List Tk)(vs:List ByteArray)(i:Nat)(t:Tk)(h:Rea w q b tv uv l vs i)(ht:l[i]? = some t)(s:ByteArray)(hk:t.kind=3->t.text≠s):
  Calls Tryz.prog 104 #[.pointer (some ⟨q,0,none⟩),.string s] w fun r w'=>r=.returned (.bool false)/\Rea w' q b tv uv l vs i/\Rc q q w w':=by
 have H:=hide h;have K:=hide (abj w q b tv uv l vs i t h ht);clear h ht;unfold Tk.av at K;have hA:∀(W:World) (o:Obj),Below W.heap.size W (W.alloc o):=fun W o=>(Below.refl _ _).alloc (Nat.le_refl _) o
 by_cases h3:t.kind=3
 ·have hx:(t.text.toList==s.toList)=false:=aq8 (hk h3);rw[h3]at K;clear hk h3;generalize t.text=x at K hx;go_enter Tryz.func104,Tryz.ntmps104
  go_wp2_with fail
  refine K.out.mono ?_;rintro r w1 ⟨rfl,hb⟩;have HB:=hide hb;clear hb K;go_wp2;refine bodyPost_ret (v:=_) (by simp[results,Tryz.results104,go_sem];try rfl) rfl ⟨rfl,?_⟩;exact⟨(H.out.below HB.out).below (hA _ _),(Rc.of_below HB.out).trans (.of_below (hA _ _))⟩
 ·have hx:(t.kind != 3)=true:=bne_iff_ne.2 h3;clear hk h3;generalize t.kind=x at K hx;go_enter Tryz.func104,Tryz.ntmps104
  go_wp2_with fail
  refine K.out.mono ?_;rintro r w1 ⟨rfl,hb⟩;have HB:=hide hb;clear hb K;go_wp2;refine bodyPost_ret (v:=_) (by simp[results,Tryz.results104,go_sem];try rfl) rfl ⟨rfl,?_⟩;exact⟨(H.out.below HB.out).below (hA _ _),(Rc.of_below HB.out).trans (.of_below (hA _ _))⟩
theorem ab0(w:World)(q b:Nat)(tv uv:Value)(l:List Tk)(vs:List ByteArray)(i:Nat)(t:Tk)(h:Rea w q b tv uv l vs i)(ht:l[i]? = some t)(s:ByteArray)(hj:t.kind=3->i+1<l.length)(hl:l.length<=100000):
  Calls Tryz.prog 104 #[.pointer (some ⟨q,0,none⟩),.string s] w fun r w'=>r=.returned (.bool (tsg t s))/\Rea w' q b tv uv l vs (if tsg t s then i+1 else i)/\Rc q q w w':=by
 by_cases hc:t.kind=3/\t.text=s
 ·have e:tsg t s=true:=by simp[tsg,hc.1,hc.2]
  rw[e];exact au0 w q b tv uv l vs i t h ht s hc.1 hc.2 (hj hc.1) hl
 ·have e:tsg t s=false:=by
   simp only[tsg,Bool.and_eq_false_imp,decide_eq_true_eq,decide_eq_false_iff_not];exact fun h1 h2=>hc ⟨h1,h2⟩
  rw[e];exact axx w q b tv uv l vs i t h ht s (fun h1 h2=>hc ⟨h1,h2⟩)
section
variable {dst:Option Tmp} {ty:TypeId} {pos:String} {after:Array Edge} {guard:Option (Nat×Bool)} {a:Act} {w:World} {ats:Array TypeId} {i j:Nat}
theorem arz:Has Tryz.prog 129:=by unfold Has;kernel_rfl
theorem ag6{s:ByteArray}{R:Int}{K:Nat}(h:a.eval (.tmp i)=.string s)(hT:Tabs w)(hd:(((Lib.decodeGo s).1:Nat):Int)=R/\(Lib.decodeGo s).2=K):
  Does Tryz.prog {dst,op:=.call {callee:=.value (.func 129),args:=#[.tmp i],argTypes:=ats},type:=ty,pos,after,guard} a.eval w fun v w'=>Below w.heap.size w w'/\Tup2 (Eqs (.int .i32 R)) (Eqs (.int .i64 (K:Int))) v w':=by
 refine aax arz _ (by simp only[List.map_toArray,List.map_cons,List.map_nil,h]) ((ajb w s hT).mono ?_);rintro e w' ⟨rfl,hb⟩;obtain⟨rfl,rfl⟩:=hd;exact⟨_,rfl,hb,_,_,rfl,rfl,rfl⟩
end
theorem a0n(w:World)(s:ByteArray)(hT:Tabs w):
  Calls Tryz.prog 195 #[.string s] w fun e w'=>e=.returned (.tuple #[.bool (msplit s).1,.string (msplit s).2])/\Below w.heap.size w w':=by
 rcases anz s with⟨⟨hd0,h3⟩,hm⟩|⟨⟨hd0,h3⟩,hm⟩|⟨⟨hn1',hn2',_,_⟩,hm⟩
 ·skip;go_enter Tryz.func195,Tryz.ntmps195
  generalize hA:(Act.mk _ _)=aa;have hn:aa.tmps.size=19:=by rw[<-hA];rfl
  have hd:aa.defers = []:=by rw[<-hA]
  have f0:aa.eval (.tmp 0)=.string s:=by rw[<-hA];rfl
  clear hA;have HB:Below w.heap.size w w:=Below.refl _ _;refine wp_seq ?_;refine aam [some 2,some 3] [Eqs ((.bool false)),Eqs ((.string ⟨#[]⟩))] [] [] (by kernel_rfl) hn rfl (by kernel_rfl) (by kernel_rfl) (by kernel_rfl) (by kernel_rfl) (by kernel_rfl) (by kernel_rfl) ⟨Eqs.mono4 _,Eqs.mono4 _,trivial⟩ aap (IsOld.all (bx:=[]) trivial) (DisOld.all (bx:=[]) trivial) ?_ ?_
  ·exact⟨.norm 2 rfl rfl rfl (fun a_ w_ hn_ hBt hr hR hD hO hS=>aaj rfl),
    .norm 3 rfl rfl rfl (fun a_ w_ hn_ hBt hr hR hD hO hS=>aaj rfl),
    trivial⟩
  intro a1 w1 gs1 hn1 hd1 hBt hr hR hP hX hU;replace hn:=hn1;replace hd:=hd1.trans hd;replace f0:=(hR 0 rfl).trans f0;have e2:a1.eval (.tmp 2)=(.bool false):=hP 0 (by decide);have f2:=e2;have e3:a1.eval (.tmp 3)=(.string ⟨#[]⟩):=hP 1 (by decide);have f3:=e3;replace HB:=HB.trans (hBt.below HB.size (UpOld.all (bx:=[]) trivial));clear hBt hr hR hP hX hU;refine wp_seq ?_;refine aam [some 7,some 8,some 6,some 9,some 10,some 4,some 5] [Eqs (.string s),Tup2 (Eqs (.int .i32 8722)) (Eqs (.int .i64 (3:Int))),Tup2 (Eqs (.int .i32 8722)) (Eqs (.int .i64 (3:Int))),Eqs (.int .i32 8722),Eqs (.int .i64 (3:Int)),Eqs (.int .i32 8722),Eqs (.int .i64 (3:Int))] [] [] (by kernel_rfl) hn rfl (by kernel_rfl) (by kernel_rfl) (by kernel_rfl) (by kernel_rfl) (by kernel_rfl) (by kernel_rfl) ⟨Eqs.mono4 _,Tup2.mono4 (Eqs.mono4 _) (Eqs.mono4 _),Tup2.mono4 (Eqs.mono4 _) (Eqs.mono4 _),Eqs.mono4 _,Eqs.mono4 _,Eqs.mono4 _,Eqs.mono4 _,trivial⟩ aap (IsOld.all (bx:=[]) trivial) (DisOld.all (bx:=[]) trivial) ?_ ?_
  ·exact⟨.norm 7 rfl rfl rfl (fun a_ w_ hn_ hBt hr hR hD hO hS=>aay ((hR 0 rfl).trans f0)),
    .norm 8 rfl rfl rfl (fun a_ w_ hn_ hBt hr hR hD hO hS=>ag6 (show a_.eval (.tmp 7)=.string s from hD 0 rfl) (hT.below (HB.trans (hBt.below HB.size (UpOld.all (bx:=[]) trivial)))) ⟨by rw[hd0];rfl,by rw[hd0]⟩),
    .norm 6 rfl rfl rfl (fun a_ w_ hn_ hBt hr hR hD hO hS=>afp (p:=Tup2 (Eqs (.int .i32 8722)) (Eqs (.int .i64 (3:Int)))) (show Tup2 (Eqs (.int .i32 8722)) (Eqs (.int .i64 (3:Int))) (a_.eval (.tmp 8)) w_ from hD 1 rfl)),
    .norm 9 rfl rfl rfl (fun a_ w_ hn_ hBt hr hR hD hO hS=>aeq (show Tup2 (Eqs (.int .i32 8722)) (Eqs (.int .i64 (3:Int))) (a_.eval (.tmp 6)) w_ from hD 2 rfl)),
    .norm 10 rfl rfl rfl (fun a_ w_ hn_ hBt hr hR hD hO hS=>aer (show Tup2 (Eqs (.int .i32 8722)) (Eqs (.int .i64 (3:Int))) (a_.eval (.tmp 6)) w_ from hD 2 rfl)),
    .norm 4 rfl rfl rfl (fun a_ w_ hn_ hBt hr hR hD hO hS=>aaj (show a_.eval (.tmp 9)=.int .i32 8722 from hD 3 rfl)),
    .norm 5 rfl rfl rfl (fun a_ w_ hn_ hBt hr hR hD hO hS=>aaj (show a_.eval (.tmp 10)=.int .i64 (3:Int)from hD 4 rfl)),
    trivial⟩
  intro a2 w2 gs2 hn2 hd2 hBt hr hR hP hX hU;replace hn:=hn2;replace hd:=hd2.trans hd;replace f0:=(hR 0 rfl).trans f0;replace f2:=(hR 2 rfl).trans f2;replace f3:=(hR 3 rfl).trans f3;have e4:a2.eval (.tmp 4)=.int .i32 8722:=hP 5 (by decide);have f4:=e4;have e5:a2.eval (.tmp 5)=.int .i64 (3:Int):=hP 6 (by decide);have f5:=e5;replace HB:=HB.trans (hBt.below HB.size (UpOld.all (bx:=[]) trivial));clear hBt hr hR hP hX hU;refine wp_seq ?_;refine wp_seq ?_;refine aam [some 11] [Eqs (.int .i32 8722)] [] [] (by kernel_rfl) hn rfl (by kernel_rfl) (by kernel_rfl) (by kernel_rfl) (by kernel_rfl) (by kernel_rfl) (by kernel_rfl) ⟨Eqs.mono4 _,trivial⟩ aap (IsOld.all (bx:=[]) trivial) (DisOld.all (bx:=[]) trivial) ?_ ?_
  ·exact⟨.norm 11 rfl rfl rfl (fun a_ w_ hn_ hBt hr hR hD hO hS=>aay ((hR 4 rfl).trans f4)),
    trivial⟩
  intro a3 w3 gs3 hn3 hd3 hBt hr hR hP hX hU;replace hn:=hn3;replace hd:=hd3.trans hd;replace f0:=(hR 0 rfl).trans f0;replace f2:=(hR 2 rfl).trans f2;replace f3:=(hR 3 rfl).trans f3;replace f5:=(hR 5 rfl).trans f5;have e11:a3.eval (.tmp 11)=.int .i32 8722:=hP 0 (by decide);have f11:=e11;replace HB:=HB.trans (hBt.below HB.size (UpOld.all (bx:=[]) trivial));clear hBt hr hR hP hX hU;refine wp_block ?_;refine wp_seq ?_;refine wp_seq ?_;refine aam [some 13,some 12] [Eqs (.bool false),Eqs (.bool false)] [] [] (by kernel_rfl) hn rfl (by kernel_rfl) (by kernel_rfl) (by kernel_rfl) (by kernel_rfl) (by kernel_rfl) (by kernel_rfl) ⟨Eqs.mono4 _,Eqs.mono4 _,trivial⟩ aap (IsOld.all (bx:=[]) trivial) (DisOld.all (bx:=[]) trivial) ?_ ?_
  ·exact⟨.norm 13 rfl rfl rfl (fun a_ w_ hn_ hBt hr hR hD hO hS=>ag5 ((hR 11 rfl).trans f11) (by decide)),
    .norm 12 rfl rfl rfl (fun a_ w_ hn_ hBt hr hR hD hO hS=>aaj (show a_.eval (.tmp 13)=.bool false from hD 0 rfl)),
    trivial⟩
  intro a4 w4 gs4 hn4 hd4 hBt hr hR hP hX hU;replace hn:=hn4;replace hd:=hd4.trans hd;replace f0:=(hR 0 rfl).trans f0;replace f2:=(hR 2 rfl).trans f2;replace f3:=(hR 3 rfl).trans f3;replace f5:=(hR 5 rfl).trans f5;replace f11:=(hR 11 rfl).trans f11;have e12:a4.eval (.tmp 12)=.bool false:=hP 1 (by decide);have f12:=e12;replace HB:=HB.trans (hBt.below HB.size (UpOld.all (bx:=[]) trivial));clear hBt hr hR hP hX hU;refine wp_cond_false f12 ?_;refine aam [some 14,some 12] [Eqs (.bool true),Eqs (.bool true)] [] [] (by kernel_rfl) hn rfl (by kernel_rfl) (by kernel_rfl) (by kernel_rfl) (by kernel_rfl) (by kernel_rfl) (by kernel_rfl) ⟨Eqs.mono4 _,Eqs.mono4 _,trivial⟩ aap (IsOld.all (bx:=[]) trivial) (DisOld.all (bx:=[]) trivial) ?_ ?_
  ·exact⟨.norm 14 rfl rfl rfl (fun a_ w_ hn_ hBt hr hR hD hO hS=>aku ((hR 11 rfl).trans f11) rfl),
    .norm 12 rfl rfl rfl (fun a_ w_ hn_ hBt hr hR hD hO hS=>aaj (show a_.eval (.tmp 14)=.bool true from hD 0 rfl)),
    trivial⟩
  intro a5 w5 gs5 hn5 hd5 hBt hr hR hP hX hU;replace hn:=hn5;replace hd:=hd5.trans hd;replace f0:=(hR 0 rfl).trans f0;replace f2:=(hR 2 rfl).trans f2;replace f3:=(hR 3 rfl).trans f3;replace f5:=(hR 5 rfl).trans f5;have e12:a5.eval (.tmp 12)=.bool true:=hP 1 (by decide);have f12:=e12;replace HB:=HB.trans (hBt.below HB.size (UpOld.all (bx:=[]) trivial));clear hBt hr hR hP hX hU;refine wp_cond_true f12 ?_;refine wp_seq ?_;refine aam [some 15,some 16,some 17,some 2,some 3] [Eqs (.string s),Eqs (.int .i64 (3:Int)),Eqs (.string ((s).extract 3 (s).size)),Eqs ((.bool true)),Eqs (.string ((s).extract 3 (s).size))] [] [] (by kernel_rfl) hn rfl (by kernel_rfl) (by kernel_rfl) (by kernel_rfl) (by kernel_rfl) (by kernel_rfl) (by kernel_rfl) ⟨Eqs.mono4 _,Eqs.mono4 _,Eqs.mono4 _,Eqs.mono4 _,Eqs.mono4 _,trivial⟩ aap (IsOld.all (bx:=[]) trivial) (DisOld.all (bx:=[]) trivial) ?_ ?_
  ·exact⟨.norm 15 rfl rfl rfl (fun a_ w_ hn_ hBt hr hR hD hO hS=>aay ((hR 0 rfl).trans f0)),
    .norm 16 rfl rfl rfl (fun a_ w_ hn_ hBt hr hR hD hO hS=>aay ((hR 5 rfl).trans f5)),
    .norm 17 rfl rfl rfl (fun a_ w_ hn_ hBt hr hR hD hO hS=>apq (k:=3) (show a_.eval (.tmp 15)=.string s from hD 0 rfl) (show a_.eval (.tmp 16)=.int .i64 (3:Int)from hD 1 rfl) (by omega)),
    .norm 2 rfl rfl rfl (fun a_ w_ hn_ hBt hr hR hD hO hS=>aaj rfl),
    .norm 3 rfl rfl rfl (fun a_ w_ hn_ hBt hr hR hD hO hS=>aaj (show a_.eval (.tmp 17)=.string ((s).extract 3 (s).size)from hD 2 rfl)),
    trivial⟩
  intro a6 w6 gs6 hn6 hd6 hBt hr hR hP hX hU;replace hn:=hn6;replace hd:=hd6.trans hd;replace f0:=(hR 0 rfl).trans f0;have e2:a6.eval (.tmp 2)=(.bool true):=hP 3 (by decide);have f2:=e2;have e3:a6.eval (.tmp 3)=.string ((s).extract 3 (s).size):=hP 4 (by decide);have f3:=e3;replace HB:=HB.trans (hBt.below HB.size (UpOld.all (bx:=[]) trivial));clear hBt hr hR hP hX hU;refine wp_ret ?_;repeat(first|refine abp ?_|refine aa8 ?_|refine abi ?_)
  exact bodyPost_ret (v:=.tuple #[.bool true,.string ((s).extract 3 (s).size)]) (ajz rfl f2 f3) hd ⟨by rw[hm],HB⟩
 ·skip;go_enter Tryz.func195,Tryz.ntmps195
  generalize hA:(Act.mk _ _)=aa;have hn:aa.tmps.size=19:=by rw[<-hA];rfl
  have hd:aa.defers = []:=by rw[<-hA]
  have f0:aa.eval (.tmp 0)=.string s:=by rw[<-hA];rfl
  clear hA;have HB:Below w.heap.size w w:=Below.refl _ _;refine wp_seq ?_;refine aam [some 2,some 3] [Eqs ((.bool false)),Eqs ((.string ⟨#[]⟩))] [] [] (by kernel_rfl) hn rfl (by kernel_rfl) (by kernel_rfl) (by kernel_rfl) (by kernel_rfl) (by kernel_rfl) (by kernel_rfl) ⟨Eqs.mono4 _,Eqs.mono4 _,trivial⟩ aap (IsOld.all (bx:=[]) trivial) (DisOld.all (bx:=[]) trivial) ?_ ?_
  ·exact⟨.norm 2 rfl rfl rfl (fun a_ w_ hn_ hBt hr hR hD hO hS=>aaj rfl),
    .norm 3 rfl rfl rfl (fun a_ w_ hn_ hBt hr hR hD hO hS=>aaj rfl),
    trivial⟩
  intro a1 w1 gs1 hn1 hd1 hBt hr hR hP hX hU;replace hn:=hn1;replace hd:=hd1.trans hd;replace f0:=(hR 0 rfl).trans f0;have e2:a1.eval (.tmp 2)=(.bool false):=hP 0 (by decide);have f2:=e2;have e3:a1.eval (.tmp 3)=(.string ⟨#[]⟩):=hP 1 (by decide);have f3:=e3;replace HB:=HB.trans (hBt.below HB.size (UpOld.all (bx:=[]) trivial));clear hBt hr hR hP hX hU;refine wp_seq ?_;refine aam [some 7,some 8,some 6,some 9,some 10,some 4,some 5] [Eqs (.string s),Tup2 (Eqs (.int .i32 45)) (Eqs (.int .i64 (1:Int))),Tup2 (Eqs (.int .i32 45)) (Eqs (.int .i64 (1:Int))),Eqs (.int .i32 45),Eqs (.int .i64 (1:Int)),Eqs (.int .i32 45),Eqs (.int .i64 (1:Int))] [] [] (by kernel_rfl) hn rfl (by kernel_rfl) (by kernel_rfl) (by kernel_rfl) (by kernel_rfl) (by kernel_rfl) (by kernel_rfl) ⟨Eqs.mono4 _,Tup2.mono4 (Eqs.mono4 _) (Eqs.mono4 _),Tup2.mono4 (Eqs.mono4 _) (Eqs.mono4 _),Eqs.mono4 _,Eqs.mono4 _,Eqs.mono4 _,Eqs.mono4 _,trivial⟩ aap (IsOld.all (bx:=[]) trivial) (DisOld.all (bx:=[]) trivial) ?_ ?_
  ·exact⟨.norm 7 rfl rfl rfl (fun a_ w_ hn_ hBt hr hR hD hO hS=>aay ((hR 0 rfl).trans f0)),
    .norm 8 rfl rfl rfl (fun a_ w_ hn_ hBt hr hR hD hO hS=>ag6 (show a_.eval (.tmp 7)=.string s from hD 0 rfl) (hT.below (HB.trans (hBt.below HB.size (UpOld.all (bx:=[]) trivial)))) ⟨by rw[hd0];rfl,by rw[hd0]⟩),
    .norm 6 rfl rfl rfl (fun a_ w_ hn_ hBt hr hR hD hO hS=>afp (p:=Tup2 (Eqs (.int .i32 45)) (Eqs (.int .i64 (1:Int)))) (show Tup2 (Eqs (.int .i32 45)) (Eqs (.int .i64 (1:Int))) (a_.eval (.tmp 8)) w_ from hD 1 rfl)),
    .norm 9 rfl rfl rfl (fun a_ w_ hn_ hBt hr hR hD hO hS=>aeq (show Tup2 (Eqs (.int .i32 45)) (Eqs (.int .i64 (1:Int))) (a_.eval (.tmp 6)) w_ from hD 2 rfl)),
    .norm 10 rfl rfl rfl (fun a_ w_ hn_ hBt hr hR hD hO hS=>aer (show Tup2 (Eqs (.int .i32 45)) (Eqs (.int .i64 (1:Int))) (a_.eval (.tmp 6)) w_ from hD 2 rfl)),
    .norm 4 rfl rfl rfl (fun a_ w_ hn_ hBt hr hR hD hO hS=>aaj (show a_.eval (.tmp 9)=.int .i32 45 from hD 3 rfl)),
    .norm 5 rfl rfl rfl (fun a_ w_ hn_ hBt hr hR hD hO hS=>aaj (show a_.eval (.tmp 10)=.int .i64 (1:Int)from hD 4 rfl)),
    trivial⟩
  intro a2 w2 gs2 hn2 hd2 hBt hr hR hP hX hU;replace hn:=hn2;replace hd:=hd2.trans hd;replace f0:=(hR 0 rfl).trans f0;replace f2:=(hR 2 rfl).trans f2;replace f3:=(hR 3 rfl).trans f3;have e4:a2.eval (.tmp 4)=.int .i32 45:=hP 5 (by decide);have f4:=e4;have e5:a2.eval (.tmp 5)=.int .i64 (1:Int):=hP 6 (by decide);have f5:=e5;replace HB:=HB.trans (hBt.below HB.size (UpOld.all (bx:=[]) trivial));clear hBt hr hR hP hX hU;refine wp_seq ?_;refine wp_seq ?_;refine aam [some 11] [Eqs (.int .i32 45)] [] [] (by kernel_rfl) hn rfl (by kernel_rfl) (by kernel_rfl) (by kernel_rfl) (by kernel_rfl) (by kernel_rfl) (by kernel_rfl) ⟨Eqs.mono4 _,trivial⟩ aap (IsOld.all (bx:=[]) trivial) (DisOld.all (bx:=[]) trivial) ?_ ?_
  ·exact⟨.norm 11 rfl rfl rfl (fun a_ w_ hn_ hBt hr hR hD hO hS=>aay ((hR 4 rfl).trans f4)),
    trivial⟩
  intro a3 w3 gs3 hn3 hd3 hBt hr hR hP hX hU;replace hn:=hn3;replace hd:=hd3.trans hd;replace f0:=(hR 0 rfl).trans f0;replace f2:=(hR 2 rfl).trans f2;replace f3:=(hR 3 rfl).trans f3;replace f5:=(hR 5 rfl).trans f5;have e11:a3.eval (.tmp 11)=.int .i32 45:=hP 0 (by decide);have f11:=e11;replace HB:=HB.trans (hBt.below HB.size (UpOld.all (bx:=[]) trivial));clear hBt hr hR hP hX hU;refine wp_block ?_;refine wp_seq ?_;refine wp_seq ?_;refine aam [some 13,some 12] [Eqs (.bool true),Eqs (.bool true)] [] [] (by kernel_rfl) hn rfl (by kernel_rfl) (by kernel_rfl) (by kernel_rfl) (by kernel_rfl) (by kernel_rfl) (by kernel_rfl) ⟨Eqs.mono4 _,Eqs.mono4 _,trivial⟩ aap (IsOld.all (bx:=[]) trivial) (DisOld.all (bx:=[]) trivial) ?_ ?_
  ·exact⟨.norm 13 rfl rfl rfl (fun a_ w_ hn_ hBt hr hR hD hO hS=>aku ((hR 11 rfl).trans f11) rfl),
    .norm 12 rfl rfl rfl (fun a_ w_ hn_ hBt hr hR hD hO hS=>aaj (show a_.eval (.tmp 13)=.bool true from hD 0 rfl)),
    trivial⟩
  intro a4 w4 gs4 hn4 hd4 hBt hr hR hP hX hU;replace hn:=hn4;replace hd:=hd4.trans hd;replace f0:=(hR 0 rfl).trans f0;replace f2:=(hR 2 rfl).trans f2;replace f3:=(hR 3 rfl).trans f3;replace f5:=(hR 5 rfl).trans f5;replace f11:=(hR 11 rfl).trans f11;have e12:a4.eval (.tmp 12)=.bool true:=hP 1 (by decide);have f12:=e12;replace HB:=HB.trans (hBt.below HB.size (UpOld.all (bx:=[]) trivial));clear hBt hr hR hP hX hU;refine wp_cond_true f12 ?_;refine wp_skip ?_;refine wp_cond_true f12 ?_;refine wp_seq ?_;refine aam [some 15,some 16,some 17,some 2,some 3] [Eqs (.string s),Eqs (.int .i64 (1:Int)),Eqs (.string ((s).extract 1 (s).size)),Eqs ((.bool true)),Eqs (.string ((s).extract 1 (s).size))] [] [] (by kernel_rfl) hn rfl (by kernel_rfl) (by kernel_rfl) (by kernel_rfl) (by kernel_rfl) (by kernel_rfl) (by kernel_rfl) ⟨Eqs.mono4 _,Eqs.mono4 _,Eqs.mono4 _,Eqs.mono4 _,Eqs.mono4 _,trivial⟩ aap (IsOld.all (bx:=[]) trivial) (DisOld.all (bx:=[]) trivial) ?_ ?_
  ·exact⟨.norm 15 rfl rfl rfl (fun a_ w_ hn_ hBt hr hR hD hO hS=>aay ((hR 0 rfl).trans f0)),
    .norm 16 rfl rfl rfl (fun a_ w_ hn_ hBt hr hR hD hO hS=>aay ((hR 5 rfl).trans f5)),
    .norm 17 rfl rfl rfl (fun a_ w_ hn_ hBt hr hR hD hO hS=>apq (k:=1) (show a_.eval (.tmp 15)=.string s from hD 0 rfl) (show a_.eval (.tmp 16)=.int .i64 (1:Int)from hD 1 rfl) (by omega)),
    .norm 2 rfl rfl rfl (fun a_ w_ hn_ hBt hr hR hD hO hS=>aaj rfl),
    .norm 3 rfl rfl rfl (fun a_ w_ hn_ hBt hr hR hD hO hS=>aaj (show a_.eval (.tmp 17)=.string ((s).extract 1 (s).size)from hD 2 rfl)),
    trivial⟩
  intro a5 w5 gs5 hn5 hd5 hBt hr hR hP hX hU;replace hn:=hn5;replace hd:=hd5.trans hd;replace f0:=(hR 0 rfl).trans f0;have e2:a5.eval (.tmp 2)=(.bool true):=hP 3 (by decide);have f2:=e2;have e3:a5.eval (.tmp 3)=.string ((s).extract 1 (s).size):=hP 4 (by decide);have f3:=e3;replace HB:=HB.trans (hBt.below HB.size (UpOld.all (bx:=[]) trivial));clear hBt hr hR hP hX hU;refine wp_ret ?_;repeat(first|refine abp ?_|refine aa8 ?_|refine abi ?_)
  exact bodyPost_ret (v:=.tuple #[.bool true,.string ((s).extract 1 (s).size)]) (ajz rfl f2 f3) hd ⟨by rw[hm],HB⟩
 ·have hne1:(((Lib.decodeGo s).1:Nat):Int)≠45:=by omega
  have hne2:(((Lib.decodeGo s).1:Nat):Int)≠8722:=by omega
  go_enter Tryz.func195,Tryz.ntmps195
  generalize hA:(Act.mk _ _)=aa;have hn:aa.tmps.size=19:=by rw[<-hA];rfl
  have hd:aa.defers = []:=by rw[<-hA]
  have f0:aa.eval (.tmp 0)=.string s:=by rw[<-hA];rfl
  clear hA;have HB:Below w.heap.size w w:=Below.refl _ _;refine wp_seq ?_;refine aam [some 2,some 3] [Eqs ((.bool false)),Eqs ((.string ⟨#[]⟩))] [] [] (by kernel_rfl) hn rfl (by kernel_rfl) (by kernel_rfl) (by kernel_rfl) (by kernel_rfl) (by kernel_rfl) (by kernel_rfl) ⟨Eqs.mono4 _,Eqs.mono4 _,trivial⟩ aap (IsOld.all (bx:=[]) trivial) (DisOld.all (bx:=[]) trivial) ?_ ?_
  ·exact⟨.norm 2 rfl rfl rfl (fun a_ w_ hn_ hBt hr hR hD hO hS=>aaj rfl),
    .norm 3 rfl rfl rfl (fun a_ w_ hn_ hBt hr hR hD hO hS=>aaj rfl),
    trivial⟩
  intro a1 w1 gs1 hn1 hd1 hBt hr hR hP hX hU;replace hn:=hn1;replace hd:=hd1.trans hd;replace f0:=(hR 0 rfl).trans f0;have e2:a1.eval (.tmp 2)=(.bool false):=hP 0 (by decide);have f2:=e2;have e3:a1.eval (.tmp 3)=(.string ⟨#[]⟩):=hP 1 (by decide);have f3:=e3;replace HB:=HB.trans (hBt.below HB.size (UpOld.all (bx:=[]) trivial));clear hBt hr hR hP hX hU;refine wp_seq ?_;refine aam [some 7,some 8,some 6,some 9,some 10,some 4,some 5] [Eqs (.string s),Tup2 (Eqs (.int .i32 (((Lib.decodeGo s).1:Nat):Int))) (Eqs (.int .i64 ((Lib.decodeGo s).2:Int))),Tup2 (Eqs (.int .i32 (((Lib.decodeGo s).1:Nat):Int))) (Eqs (.int .i64 ((Lib.decodeGo s).2:Int))),Eqs (.int .i32 (((Lib.decodeGo s).1:Nat):Int)),Eqs (.int .i64 ((Lib.decodeGo s).2:Int)),Eqs (.int .i32 (((Lib.decodeGo s).1:Nat):Int)),Eqs (.int .i64 ((Lib.decodeGo s).2:Int))] [] [] (by kernel_rfl) hn rfl (by kernel_rfl) (by kernel_rfl) (by kernel_rfl) (by kernel_rfl) (by kernel_rfl) (by kernel_rfl) ⟨Eqs.mono4 _,Tup2.mono4 (Eqs.mono4 _) (Eqs.mono4 _),Tup2.mono4 (Eqs.mono4 _) (Eqs.mono4 _),Eqs.mono4 _,Eqs.mono4 _,Eqs.mono4 _,Eqs.mono4 _,trivial⟩ aap (IsOld.all (bx:=[]) trivial) (DisOld.all (bx:=[]) trivial) ?_ ?_
  ·exact⟨.norm 7 rfl rfl rfl (fun a_ w_ hn_ hBt hr hR hD hO hS=>aay ((hR 0 rfl).trans f0)),
    .norm 8 rfl rfl rfl (fun a_ w_ hn_ hBt hr hR hD hO hS=>ag6 (show a_.eval (.tmp 7)=.string s from hD 0 rfl) (hT.below (HB.trans (hBt.below HB.size (UpOld.all (bx:=[]) trivial)))) ⟨rfl,rfl⟩),
    .norm 6 rfl rfl rfl (fun a_ w_ hn_ hBt hr hR hD hO hS=>afp (p:=Tup2 (Eqs (.int .i32 (((Lib.decodeGo s).1:Nat):Int))) (Eqs (.int .i64 ((Lib.decodeGo s).2:Int)))) (show Tup2 (Eqs (.int .i32 (((Lib.decodeGo s).1:Nat):Int))) (Eqs (.int .i64 ((Lib.decodeGo s).2:Int))) (a_.eval (.tmp 8)) w_ from hD 1 rfl)),
    .norm 9 rfl rfl rfl (fun a_ w_ hn_ hBt hr hR hD hO hS=>aeq (show Tup2 (Eqs (.int .i32 (((Lib.decodeGo s).1:Nat):Int))) (Eqs (.int .i64 ((Lib.decodeGo s).2:Int))) (a_.eval (.tmp 6)) w_ from hD 2 rfl)),
    .norm 10 rfl rfl rfl (fun a_ w_ hn_ hBt hr hR hD hO hS=>aer (show Tup2 (Eqs (.int .i32 (((Lib.decodeGo s).1:Nat):Int))) (Eqs (.int .i64 ((Lib.decodeGo s).2:Int))) (a_.eval (.tmp 6)) w_ from hD 2 rfl)),
    .norm 4 rfl rfl rfl (fun a_ w_ hn_ hBt hr hR hD hO hS=>aaj (show a_.eval (.tmp 9)=.int .i32 (((Lib.decodeGo s).1:Nat):Int)from hD 3 rfl)),
    .norm 5 rfl rfl rfl (fun a_ w_ hn_ hBt hr hR hD hO hS=>aaj (show a_.eval (.tmp 10)=.int .i64 ((Lib.decodeGo s).2:Int)from hD 4 rfl)),
    trivial⟩
  intro a2 w2 gs2 hn2 hd2 hBt hr hR hP hX hU;replace hn:=hn2;replace hd:=hd2.trans hd;replace f0:=(hR 0 rfl).trans f0;replace f2:=(hR 2 rfl).trans f2;replace f3:=(hR 3 rfl).trans f3;have e4:a2.eval (.tmp 4)=.int .i32 (((Lib.decodeGo s).1:Nat):Int):=hP 5 (by decide);have f4:=e4;have e5:a2.eval (.tmp 5)=.int .i64 ((Lib.decodeGo s).2:Int):=hP 6 (by decide);have f5:=e5;replace HB:=HB.trans (hBt.below HB.size (UpOld.all (bx:=[]) trivial));clear hBt hr hR hP hX hU;refine wp_seq ?_;refine wp_seq ?_;refine aam [some 11] [Eqs (.int .i32 (((Lib.decodeGo s).1:Nat):Int))] [] [] (by kernel_rfl) hn rfl (by kernel_rfl) (by kernel_rfl) (by kernel_rfl) (by kernel_rfl) (by kernel_rfl) (by kernel_rfl) ⟨Eqs.mono4 _,trivial⟩ aap (IsOld.all (bx:=[]) trivial) (DisOld.all (bx:=[]) trivial) ?_ ?_
  ·exact⟨.norm 11 rfl rfl rfl (fun a_ w_ hn_ hBt hr hR hD hO hS=>aay ((hR 4 rfl).trans f4)),
    trivial⟩
  intro a3 w3 gs3 hn3 hd3 hBt hr hR hP hX hU;replace hn:=hn3;replace hd:=hd3.trans hd;replace f0:=(hR 0 rfl).trans f0;replace f2:=(hR 2 rfl).trans f2;replace f3:=(hR 3 rfl).trans f3;replace f5:=(hR 5 rfl).trans f5;have e11:a3.eval (.tmp 11)=.int .i32 (((Lib.decodeGo s).1:Nat):Int):=hP 0 (by decide);have f11:=e11;replace HB:=HB.trans (hBt.below HB.size (UpOld.all (bx:=[]) trivial));clear hBt hr hR hP hX hU;refine wp_block ?_;refine wp_seq ?_;refine wp_seq ?_;refine aam [some 13,some 12] [Eqs (.bool false),Eqs (.bool false)] [] [] (by kernel_rfl) hn rfl (by kernel_rfl) (by kernel_rfl) (by kernel_rfl) (by kernel_rfl) (by kernel_rfl) (by kernel_rfl) ⟨Eqs.mono4 _,Eqs.mono4 _,trivial⟩ aap (IsOld.all (bx:=[]) trivial) (DisOld.all (bx:=[]) trivial) ?_ ?_
  ·exact⟨.norm 13 rfl rfl rfl (fun a_ w_ hn_ hBt hr hR hD hO hS=>ag5 ((hR 11 rfl).trans f11) hne1),
    .norm 12 rfl rfl rfl (fun a_ w_ hn_ hBt hr hR hD hO hS=>aaj (show a_.eval (.tmp 13)=.bool false from hD 0 rfl)),
    trivial⟩
  intro a4 w4 gs4 hn4 hd4 hBt hr hR hP hX hU;replace hn:=hn4;replace hd:=hd4.trans hd;replace f0:=(hR 0 rfl).trans f0;replace f2:=(hR 2 rfl).trans f2;replace f3:=(hR 3 rfl).trans f3;replace f5:=(hR 5 rfl).trans f5;replace f11:=(hR 11 rfl).trans f11;have e12:a4.eval (.tmp 12)=.bool false:=hP 1 (by decide);have f12:=e12;replace HB:=HB.trans (hBt.below HB.size (UpOld.all (bx:=[]) trivial));clear hBt hr hR hP hX hU;refine wp_cond_false f12 ?_;refine aam [some 14,some 12] [Eqs (.bool false),Eqs (.bool false)] [] [] (by kernel_rfl) hn rfl (by kernel_rfl) (by kernel_rfl) (by kernel_rfl) (by kernel_rfl) (by kernel_rfl) (by kernel_rfl) ⟨Eqs.mono4 _,Eqs.mono4 _,trivial⟩ aap (IsOld.all (bx:=[]) trivial) (DisOld.all (bx:=[]) trivial) ?_ ?_
  ·exact⟨.norm 14 rfl rfl rfl (fun a_ w_ hn_ hBt hr hR hD hO hS=>ag5 ((hR 11 rfl).trans f11) hne2),
    .norm 12 rfl rfl rfl (fun a_ w_ hn_ hBt hr hR hD hO hS=>aaj (show a_.eval (.tmp 14)=.bool false from hD 0 rfl)),
    trivial⟩
  intro a5 w5 gs5 hn5 hd5 hBt hr hR hP hX hU;replace hn:=hn5;replace hd:=hd5.trans hd;replace f0:=(hR 0 rfl).trans f0;replace f2:=(hR 2 rfl).trans f2;replace f3:=(hR 3 rfl).trans f3;replace f5:=(hR 5 rfl).trans f5;have e12:a5.eval (.tmp 12)=.bool false:=hP 1 (by decide);have f12:=e12;replace HB:=HB.trans (hBt.below HB.size (UpOld.all (bx:=[]) trivial));clear hBt hr hR hP hX hU;refine wp_cond_false f12 ?_;refine wp_skip ?_;refine ags ?_;refine wp_seq ?_;refine aam [some 18,some 2,some 3] [Eqs (.string s),Eqs ((.bool false)),Eqs (.string s)] [] [] (by kernel_rfl) hn rfl (by kernel_rfl) (by kernel_rfl) (by kernel_rfl) (by kernel_rfl) (by kernel_rfl) (by kernel_rfl) ⟨Eqs.mono4 _,Eqs.mono4 _,Eqs.mono4 _,trivial⟩ aap (IsOld.all (bx:=[]) trivial) (DisOld.all (bx:=[]) trivial) ?_ ?_
  ·exact⟨.norm 18 rfl rfl rfl (fun a_ w_ hn_ hBt hr hR hD hO hS=>aay ((hR 0 rfl).trans f0)),
    .norm 2 rfl rfl rfl (fun a_ w_ hn_ hBt hr hR hD hO hS=>aaj rfl),
    .norm 3 rfl rfl rfl (fun a_ w_ hn_ hBt hr hR hD hO hS=>aaj (show a_.eval (.tmp 18)=.string s from hD 0 rfl)),
    trivial⟩
  intro a6 w6 gs6 hn6 hd6 hBt hr hR hP hX hU;replace hn:=hn6;replace hd:=hd6.trans hd;have e2:a6.eval (.tmp 2)=(.bool false):=hP 1 (by decide);have f2:=e2;have e3:a6.eval (.tmp 3)=.string s:=hP 2 (by decide);have f3:=e3;replace HB:=HB.trans (hBt.below HB.size (UpOld.all (bx:=[]) trivial));clear hBt hr hR hP hX hU;refine wp_ret ?_;repeat(first|refine abp ?_|refine aa8 ?_|refine abi ?_)
  exact bodyPost_ret (v:=.tuple #[.bool false,.string s]) (ajz rfl f2 f3) hd ⟨by rw[hm],HB⟩
end Lm
end Go.Proofs.YtooefpkhacecnaaGreatDoor
