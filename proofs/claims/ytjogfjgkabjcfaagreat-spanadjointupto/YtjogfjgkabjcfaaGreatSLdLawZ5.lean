/-
  What the text behind the last one leans on, part 5.
-/
import Derived.Defers
import Derived.Recover
import Derived.Lib.AppendZerosOnto
import Derived.Shelf.Spec.SlicesInsertGrow
import Derived.Test.YtjogfjgkabjcfaaGreatSLdLawZ4
set_option maxRecDepth 20000
set_option maxHeartbeats 40000000
namespace Go.Proofs.YtjogfjgkabjcfaaGreat
namespace Lm
open Go Go.RowKit Md
theorem aer(w:World)(z:Int)(L:Nat)(v:Value)(h:IsW z L v w)(hL:L<=400000000):
  Calls Tryz.prog 78 #[v] w fun e w'=>e=.returned (.bool (decide (z≠0)))/\Below w.heap.size w w':=by
 obtain⟨ng,ao,n,cap,xs,rfl,_⟩:=id h;have hb:=hAl w (.cells #[.bool ng,.slice ao n cap] 45);have hS:=aqo z;have K:=hide (signF _ z _ L (h.ru (Ru.of_below hb)) hL);clear h;go_enter Tryz.func78,Tryz.ntmps78
 go_wp2_with fail
 refine K.out.mono ?_;rintro e w1 ⟨rfl,hb1⟩;have HB:=hide (hb.trans (hb1.mono hb.size));clear hb hb1 K;generalize Int.sign z=sz at *
 go_wp2;refine bodyPost_ret (v:=_) (by simp[results,Tryz.results78,go_sem];try rfl) rfl ⟨by simp,HB.out⟩
theorem asu:Has Tryz.prog 78:=by unfold Has;kernel_rfl
theorem aj0(w:World)(va vb:Value)(zs ys:List Int)(L n:Nat)(ha:IsRow w va zs L)(hb:IsRow w vb ys L)(hzn:zs.length=n)(hyn:ys.length=n)(hn:n<=100000)(hL:L<=50000000):
  Calls Tryz.prog 73 #[va,vb] w fun e w'=>∃r,e=.returned r/\FrW w.heap.size (dotN n (fnR zs) (fnR ys)) (L+L+1) r w'/\Below w.heap.size w w':=by
 have hbd:∀k,k<=n->((dotN k (fnR zs) (fnR ys)).natAbs:Int)<pw (L+L+1):=fun k hk=>by
  have h1:=aqy (fun c=>acg (abe ha) (by have:=aag L;omega) c) (fun c=>acg (abe hb) (by have:=aag L;omega) c) k;have h2:pw (L+L+1)=4294967296*(pw L*pw L):=by rw[<-ab1];rfl
  have h3:(k:Int)*(pw L*pw L)<=100000*(pw L*pw L):=Int.mul_le_mul_of_nonneg_right (by omega) (Int.mul_nonneg (by have:=aag L;omega) (by have:=aag L;omega));have h4:0<pw L*pw L:=Int.mul_pos (by have:=aag L;omega) (by have:=aag L;omega);omega
 obtain⟨aa,ca,rfl,_⟩:=ha.parts;obtain⟨ab,cb,rfl,_⟩:=hb.parts;rw[hzn]at ha ⊢;rw[hyn]at hb ⊢;have HA:=hide ha;have HB:=hide hb;have HZN:=hide (And.intro hzn hyn);have HBD:=hide hbd;have hb0:Below w.heap.size w ((w.alloc (.cells #[.bool false,.slice none 0 0] 45)).alloc (.cells #[.bool false,.slice none 0 0] 45)):=by(repeat' first|with_reducible(first|exact Below.refl _ _|assumption|refine gdrewN ?_ _|refine Below.alloc ?_ ?_ _|refine Below.drew ?_|refine Below.setCell ?_ ?_ _)|go_size)
 have hf2:((w.alloc (.cells #[.bool false,.slice none 0 0] 45)).alloc (.cells #[.bool false,.slice none 0 0] 45)).heap[w.heap.size]? = some (.cells #[.bool false,.slice none 0 0] 45 (0,0)):=abb (heap_alloc_new w _);have hf3:((w.alloc (.cells #[.bool false,.slice none 0 0] 45)).alloc (.cells #[.bool false,.slice none 0 0] 45)).heap[w.heap.size+1]? = some (.cells #[.bool false,.slice none 0 0] 45 (0,0)):=by
  have:=heap_alloc_new (w.alloc (.cells #[.bool false,.slice none 0 0] 45)) (.cells #[.bool false,.slice none 0 0] 45);simpa using this
 have HB0:=hide (And.intro hb0 (And.intro hf2 hf3));clear ha hb hzn hyn hbd hb0 hf2 hf3;go_enter Tryz.func73,Tryz.ntmps73
 go_wp2;go_loopw [10] (fun iv wr=>∃(k:Nat),iv=.int .i64 k/\k<=n/\Below w.heap.size w wr/\wr.heap[w.heap.size]? = some (.cells #[.bool false,.slice none 0 0] 45 (0,0))/\∃ng a m c,wr.heap[w.heap.size+1]? = some (.cells #[.bool ng,.slice a m c] 45 (0,0))/\FrW w.heap.size (dotN k (fnR zs) (fnR ys)) (L+L+1) (.agg #[.bool ng,.slice a m c]) wr) (fun iv _=>n-(intOf iv).toNat)
 case atStart=>exact⟨0,rfl,Nat.zero_le _,HB0.out.1,HB0.out.2.1,false,none,0,0,HB0.out.2.2,ae7 _ HB0.out.1.size⟩
 case round=>
  obtain⟨k,rfl,hk,hbw,hf2,ng,a,m,c,hf3,ho⟩:=hrel;by_cases hlt:k<n
  ·have hlt':(k:Int)<(n:Int):=by omega
   obtain⟨z,hz⟩:∃z,fnR zs k=z:=⟨_,rfl⟩;obtain⟨y,hy⟩:∃z,fnR ys k=z:=⟨_,rfl⟩;obtain⟨bx,ox,ngx,axx,mxx,cxx,rfl,hlx0,x0,x1,hx⟩:=HA.out.cell (k:=k) (z:=z) (by rw[<-hz];exact acd (by rw[HZN.out.1];exact hlt));obtain⟨bz,oz,ngz,azz,mzz,czz,rfl,hlz0,z0,z1,hyw⟩:=HB.out.cell (k:=k) (z:=y) (by rw[<-hy];exact acd (by rw[HZN.out.2];exact hlt));replace x0:=(hbw.cell (p:=⟨bx,ox+k*2,none⟩) hlx0).trans x0;replace x1:=(hbw.cell (p:=⟨bx,ox+k*2+1,none⟩) hlx0).trans x1;have hA:=hAl wr (.cells #[.bool ngx,.slice axx mxx cxx] 45);have hnx:=heap_alloc_new wr (.cells #[.bool ngx,.slice axx mxx cxx] 45);have hall:=hbw.trans (hA.mono hbw.size);have hlz:=Nat.lt_of_lt_of_le hlz0 hall.size;have HZ0:=hide ((hall.cell (p:=⟨bz,oz+k*2,none⟩) hlz0).trans z0);have HZ1:=hide ((hall.cell (p:=⟨bz,oz+k*2+1,none⟩) hlz0).trans z1);have HXW:=hide (hx.ru (Ru.of_below hall));have HYW:=hide (hyw.ru (Ru.of_below hall));have HSS:Hid (dotN (k+1) (fnR zs) (fnR ys)=dotN k (fnR zs) (fnR ys)+z*y):=(show _=_ by rw[aa4,hz,hy]);generalize dotN k (fnR zs) (fnR ys)=s at *
   have HS:=hide (ho.ru (Ru.of_below hA));have HW:=hide hall;have HF2:=hide ((hA.block _ (aaa hf2)).trans hf2);have HN:=hide ((hA.block _ (aaa hf3)).trans hf3);have HNX:=hide hnx;clear hbw hf2 hf3 ho hx hyw hz hy z0 z1 hA hnx hall;go_upto_region 5 with fail
   generalize (wr.alloc (.cells #[.bool ngx,.slice axx mxx cxx] 45))=wx at *
   generalize wr.heap.size=f7 at *
   clear x0 x1;have z0:=HZ0.out;have z1:=HZ1.out;refine aby 8 [15,16,17,18,19,20,21,22] [(FrW w.heap.size s (L+L+1)),(IsW z L),Eqs (.slice (some ⟨bz,oz,none⟩) n cb),Eqs (.int .i64 (k:Int)),Eqs (.pointer (some ⟨bz,oz+k*2,none⟩)),(IsW y L),(FrW wx.heap.size (z*y) (L+L)),(FrW wx.heap.size (s+z*y) (L+L+1+(L+L)+1))] rfl rfl (by decide) (by kernel_rfl) (by kernel_rfl) (by decide) (by kernel_rfl) ⟨(Mono.of4 (FrW.mono4 _ _ _)),(Mono.of4 (IsW.mono4 _ _)),Eqs.mono _,Eqs.mono _,Eqs.mono _,(Mono.of4 (IsW.mono4 _ _)),(Mono.of4 (FrW.mono4 _ _ _)),(Mono.of4 (FrW.mono4 _ _ _)),trivial⟩ ?_ ?_
   ·exact⟨⟨rfl,fun a_ w_ _ hB hR hD=>ac8 ((hR 5 rfl).trans (aab rfl)) ((hB.block _ (aaa HN.out)).trans HN.out) (Mono.of4 (FrW.mono4 _ _ _) _ _ _ hB HS.out)⟩,
      ⟨rfl,fun a_ w_ _ hB hR hD=>ac8 ((hR 7 rfl).trans (aab rfl)) ((hB.block _ (aaa HNX.out)).trans HNX.out) (Mono.of4 (IsW.mono4 _ _) _ _ _ hB HXW.out)⟩,
      ⟨rfl,fun a_ w_ _ hB hR hD=>aal ((hR 1 rfl).trans (aab rfl))⟩,
      ⟨rfl,fun a_ w_ _ hB hR hD=>aal ((hR 6 rfl).trans (aab rfl))⟩,
      ⟨rfl,fun a_ w_ _ hB hR hD=>abm (show a_.eval (.tmp 17)=.slice (some ⟨bz,oz,none⟩) n cb from hD 2 rfl) rfl (show a_.eval (.tmp 18)=.int .i64 (k:Int)from hD 3 rfl) hlt⟩,
      ⟨rfl,fun a_ w_ _ hB hR hD=>ab3 (show a_.eval (.tmp 19)=.pointer (some ⟨bz,oz+k*2,none⟩)from hD 4 rfl) ((hB.cell (p:=⟨bz,oz+k*2,none⟩) hlz).trans z0) ((hB.cell (p:=⟨bz,oz+k*2+1,none⟩) hlz).trans z1) (Mono.of4 (IsW.mono4 _ _) _ _ _ hB HYW.out)⟩,
      ⟨rfl,fun a_ w_ _ hB hR hD=>adx (show(IsW z L) (a_.eval (.tmp 16)) w_ from hD 1 rfl) (show(IsW y L) (a_.eval (.tmp 20)) w_ from hD 5 rfl) (by omega) (by omega) hB.size⟩,
      ⟨rfl,fun a_ w_ _ hB hR hD=>a1b (FrW.is (show(FrW w.heap.size s (L+L+1)) (a_.eval (.tmp 15)) w_ from hD 0 rfl)) (FrW.is (show(FrW wx.heap.size (z*y) (L+L)) (a_.eval (.tmp 21)) w_ from hD 6 rfl)) (by omega) (by omega) hB.size⟩,
      trivial⟩
   ·intro a' w' hn' hd' hB' hR' hP';obtain⟨u15,e15⟩:∃u,a'.eval (.tmp 15)=u:=⟨_,rfl⟩;obtain⟨u16,e16⟩:∃u,a'.eval (.tmp 16)=u:=⟨_,rfl⟩;have e17:a'.eval (.tmp 17)=.slice (some ⟨bz,oz,none⟩) n cb:=hP' 2 (by decide);have e18:a'.eval (.tmp 18)=.int .i64 (k:Int):=hP' 3 (by decide);have e19:a'.eval (.tmp 19)=.pointer (some ⟨bz,oz+k*2,none⟩):=hP' 4 (by decide);obtain⟨u20,e20⟩:∃u,a'.eval (.tmp 20)=u:=⟨_,rfl⟩;obtain⟨u21,e21⟩:∃u,a'.eval (.tmp 21)=u:=⟨_,rfl⟩;obtain⟨u22,e22⟩:∃u,a'.eval (.tmp 22)=u:=⟨_,rfl⟩;have hT:(FrW wx.heap.size (s+z*y) (L+L+1+(L+L)+1)) (a'.eval (.tmp 22)) w':=hP' 7 (by decide);rw[e22]at hT;refine aat hn' hd' hR' (.s4 rfl <| .s4 rfl <| .s4 rfl <| .same rfl <| .same rfl <| .same rfl <| .new e15 <| .new e16 <| .new e17 <| .new e18 <| .new e19 <| .new e20 <| .new e21 <| .new e22 <| .same rfl <| .same rfl <| .nil) ?_;clear e15 e16 e17 e18 e19 e20 e21 e22;obtain⟨ng1,a1,m1,c1,rfl⟩:=hT.agg;have hfit:=(hT.low HW.out.size).fit (L':=L+L+1) (by rw[<-HSS.out];exact HBD.out (k+1) (by omega));have hg3:=(hB'.block _ (aaa HN.out)).trans HN.out;have hg2:=(hB'.block _ (aaa HF2.out)).trans HF2.out;obtain⟨_,v0,v1,vf0,vf1⟩:=aaf hg3;have HG3:=hide hg3;have HG2:=hide hg2;have HT:=hide hfit;have HB1:=hide (HW.out.trans (hB'.mono HW.out.size));clear hT hfit hg3 hg2 hB' hR' hP' hn' hd' z0 z1;go_wp2;go_roundw
    case rel=>
     refine⟨k+1,by go_num,by omega,(HB1.out.setCell (Nat.le_succ _) _).setCell (Nat.le_succ _) _,?_,_,_,_,_,abv HG3.out _ _,?_⟩
     ·rw[heap_setCell_other _ ⟨w.heap.size+1,1,none⟩ _ _ (by show w.heap.size≠w.heap.size+1;omega),heap_setCell_other _ ⟨w.heap.size+1,0,none⟩ _ _ (by show w.heap.size≠w.heap.size+1;omega)];exact HG2.out
     ·rw[HSS.out];exact HT.out.ru (acl HG3.out _ _)
    case measure=>simp[intOf];omega
  ·have hlt':decide ((k:Int)<(n:Int))=false:=by simp;omega
   have hkn:n=k:=by omega
   subst hkn;obtain⟨h3l,y0,y1,yf0,yf1⟩:=aaf hf3;obtain⟨h2l,x0,x1,xf0,xf1⟩:=aaf hf2;have HO:=hide ho;have HW:=hide hbw;have HF2:=hide hf2;clear hbw hf2 hf3 ho;go_wp2;exact bodyPost_ret (v:=.agg #[.bool ng,.slice a m c]) (acb (g:=w.heap.size) rfl rfl (lvw2 (abv HF2.out _ _))) rfl ⟨_,rfl,HO.out.ru (acl HF2.out _ _),(HW.out.setCell (Nat.le_refl _) _).setCell (Nat.le_refl _) _⟩
def mk0(n:Nat)(x:List Int)(l:List Int):Bool:=decide (dotN n (fnR l) (fnR x)=0)
theorem anw(w:World)(vl vx:Value)(l x:List Int)(L n g:Nat)(T:TypeId)(hl:IsRow w vl l L)(hx:IsRow w vx x L)(hln:l.length=n)(hxn:x.length=n)(hn:n<=100000)(hL:L<=50000000)(hg:w.heap[g]? = some (.cells #[vx] T (0,0))):
  Calls Tryz.prog 86 #[vl,.pointer (some ⟨g,0,none⟩)] w fun e w'=>e=.returned (.bool (!mk0 n x l))/\Below w.heap.size w w':=by
 have K1:=aj0 w vl vx l x L n hl hx hln hxn hn hL;obtain⟨al,cl,rfl,_⟩:=hl.parts;obtain⟨ax,cx,rfl,_⟩:=hx.parts;obtain⟨hgl,c0,_⟩:=aae hg;rw[hln,hxn]at K1;rw[hxn]at c0;rw[hln];have K1:=hide K1;clear hl hx hg hln hxn;go_enter Tryz.func86,Tryz.ntmps86
 go_wp2_with fail
 refine K1.out.mono ?_;rintro e w1 ⟨r,rfl,hF,hb1⟩;have K2:=hide (aer w1 _ (L+L+1) r hF.is (by omega));obtain⟨ng,a,m,c,rfl⟩:=hF.agg;have HB1:=hide hb1;clear hF hb1 K1;go_wp2_with fail
 refine K2.out.mono ?_;rintro e w2 ⟨rfl,hb2⟩;have HB2:=hide (HB1.out.trans (hb2.mono HB1.out.size));have HD:Hid (decide (dotN n (fnR l) (fnR x)≠0) = !mk0 n x l):=(show _=_ by unfold mk0;simp);rw[HD.out];clear hb2 K2;go_wp2;refine bodyPost_ret (v:=_) (by simp[results,Tryz.results86,go_sem];try rfl) rfl ⟨rfl,HB2.out⟩
theorem anx:Has Tryz.prog 86:=by unfold Has;kernel_rfl
theorem apq(w:World)(vr vx:Value)(rows:List (List Int))(x:List Int)(L n:Nat)(hr:IsM w vr rows L)(hx:IsRow w vx x L)(hrn:∀r∈rows,r.length=n)(hxn:x.length=n)(hn:n<=100000)(hL:L<=50000000):
  Calls Tryz.prog 47 #[vr,vx] w fun e w'=>e=.returned (.bool (rows.all (mk0 n x)))/\Below w.heap.size w w':=by
 obtain⟨ao,cp,rfl,_⟩:=hr.parts;obtain⟨ax,cx,rfl,_⟩:=hx.parts;obtain⟨m,hm⟩:∃m,rows.length=m:=⟨_,rfl⟩;rw[hm]at hr ⊢;rw[hxn]at hx ⊢;obtain⟨bb,hbb⟩:∃b,rows.any (fun l=>!mk0 n x l)=b:=⟨_,rfl⟩;have HA:rows.all (mk0 n x) = !bb:=by rw[<-hbb,List.not_any_eq_all_not];simp
 rw[HA];have key:Hid (∀T:TypeId,Calls Tryz.prog 85 #[.slice ao m cp,.func (.func 86) #[] #[.pointer (some ⟨w.heap.size,0,none⟩)]] (w.alloc (.cells #[.slice ax n cx] T)) fun e w'=>e=.returned (.bool bb)/\Below w.heap.size w w'):=(fun T=>by
  have hb:=hAl w (.cells #[.slice ax n cx] T);have hnew:=heap_alloc_new w (.cells #[.slice ax n cx] T);refine(ael _ _ rows L (hr.below hb) _ anx _ (fun l=>!mk0 n x l) (fun W l lv hbW hl hlv=>?_)).mono ?_
  ·have hn':=(hbW.block _ (aaa hnew)).trans hnew;exact anw W lv _ l x L n w.heap.size T hlv ((hx.below hb).below hbW) (hrn l hl) hxn hn hL hn'
  ·rintro e w' ⟨rfl,hb'⟩
   exact⟨by rw[hbb],hb.trans (hb'.mono hb.size)⟩)
 clear hr hx hm hxn HA hbb;have hmf:∀(fn:Fn) (first cap:Array Value) (w:World),(Instr.makeFunc fn first cap).run Tryz.prog w=.ok (.func fn first cap) w:=fun _ _ _ _=>rfl
 go_enter Tryz.func47,Tryz.ntmps47
 go_wp2_with fail
 refine(key.out _).mono ?_;rintro e w1 ⟨rfl,hb1⟩;have HB:=hide hb1;clear hb1 key;cases bb with
 |true=>
  go_wp2;refine bodyPost_ret (v:=_) (by simp[results,Tryz.results47,go_sem];try rfl) rfl ⟨rfl,HB.out⟩
 |false=>
  go_wp2;refine bodyPost_ret (v:=_) (by simp[results,Tryz.results47,go_sem];try rfl) rfl ⟨rfl,HB.out⟩
end Lm
namespace Lm
open Go Go.RowKit Md
theorem ORow.fit{K:Nat}{w:World}{v:Value}{zs:List Int}{L M:Nat}(h:ORow K w v zs L)(hz:∀z∈zs,(z.natAbs:Int)<pw M):ORow K w v zs M:=by
 obtain⟨bv,e,hK,⟨es,B,T,h1,h2,h3,h4,h5⟩,hl⟩:=h;refine⟨bv,e,hK,⟨es,B,T,h1,h2,h3,fun k e z a b c=>?_,h5⟩,hl⟩;obtain⟨g1,g2,g3,g4,g5⟩:=h4 k e z a b c;exact⟨g1,g2,aa7 g1.fr.canon (by rw[g1.fr.val];exact hz z (List.mem_of_getElem? c)),g4,g5⟩
theorem OwM.fit{K:Nat}{w:World}{rv:Value}{rows:List (List Int)}{L:Nat}(h:OwM K w rv rows L)(hz:∀r∈rows,r.any big=false):OwM K w rv rows 32:=by
 obtain⟨vs,h1,h2⟩:=h;refine⟨vs,h1,fun i u z hu hzz=>(h2 i u z hu hzz).fit fun x hx=>?_⟩;have:=List.any_eq_false.1 (hz z (List.mem_of_getElem? hzz)) x hx;unfold big at this;simpa using this
theorem IsM.wide{w:World}{v:Value}{rows:List (List Int)}{L M:Nat}(h:IsM w v rows L)(hl:L<=M):IsM w v rows M:=by
 obtain⟨vs,h1,h2⟩:=h;exact⟨vs,h1,fun i u z a b=>(h2 i u z a b).wide hl⟩
theorem Ech.el{n:Nat}{rows:List (List Int)}{R:List Md.Rw}{Q:List Nat}(h:Ech n rows R Q):EL n ((efOf R Q).map Prod.fst) (elR n (efOf R Q)):=EF.el h.gat.ef (aku h.gat.lt)
theorem Ech.elk{n:Nat}{rows:List (List Int)}{R:List Md.Rw}{Q:List Nat}(h:Ech n rows R Q):EL n ((kerE n R Q).map Prod.fst) (elR n (kerE n R Q)):=EF.el h.gat.kerEF akt
theorem ayk(R:List Md.Rw)(Q:List Nat):(efOf R Q).length=Q.length:=by simp[efOf]
theorem Ech.shaped{n:Nat}{rows:List (List Int)}{R:List Md.Rw}{Q:List Nat}(h:Ech n rows R Q)(hn:n<=32):Shaped (elR n (efOf R Q)) (n:Int):=⟨by omega,by omega,by rw[akq,ayk];have:=h.len;omega,fun r hr=>by rw[ad2 r hr]⟩
theorem apr{n:Nat}{R:List Md.Rw}{Q:List Nat}(hn:n<=32):Shaped (elR n (kerE n R Q)) (n:Int):=⟨by omega,by omega,by rw[akq,ax9];have:=aky n Q;omega,fun r hr=>by rw[ad2 r hr]⟩
end Lm
namespace Lm
open Go Go.RowKit Md
theorem aes{z u:Int}(hu:u≠0):(Rat.divInt z u).num.natAbs<=z.natAbs/\(Rat.divInt z u).den<=u.natAbs:=by
 constructor
 ·rw[Rat.num_divInt];have h1:(u.sign*z).natAbs=z.natAbs:=by
   rw[Int.natAbs_mul];rcases Int.lt_or_gt_of_ne hu with h|h
   ·rw[Int.sign_eq_neg_one_of_neg h];simp
   ·rw[Int.sign_eq_one_of_pos h];simp
  have h2:((u.gcd z:Nat):Int) ∣ u.sign*z:=Int.dvd_mul_of_dvd_right (Int.gcd_dvd_right ..);obtain⟨k,hk⟩:=h2;have hg:(u.gcd z:Nat)≠0:=fun h=>hu (Int.gcd_eq_zero_iff.1 h).1
  rw[hk,Int.mul_ediv_cancel_left k (by omega)];rw[<-h1,hk,Int.natAbs_mul,Int.natAbs_natCast];exact Nat.le_mul_of_pos_left _ (by omega)
 ·rw[Rat.den_divInt,if_neg hu];exact Nat.div_le_self _ _
theorem agt{z u:Int}{L:Nat}(hu:u≠0)(hz:(z.natAbs:Int)<pw L)(hul:(u.natAbs:Int)<pw L):Fit (Rat.divInt z u) L:=by
 obtain⟨h1,h2⟩:=aes (z:=z) hu;exact⟨by omega,by omega⟩
theorem alo(r:Rat):r=Rat.divInt r.num (r.den:Int):=(Rat.num_divInt_den r).symm
theorem ahp(r:Rat):(r.den:Int)≠0:=by have:=r.den_pos;omega
theorem a3e(w:World)(x y:Value)(r s:Rat)(L M N:Nat)(hx:IsQ r L x w)(hy:IsQ s M y w)(hL:2*(L+M+4)+1<=100000000)(hf:Fit (r*s) N):
  Calls Tryz.prog 51 #[x,y] w fun e w'=>∃v,e=.returned v/\OutQr (r*s) N v w'/\Below w.heap.size w w':=by
 obtain⟨ng,ao,n,cap,xs,bo,m,dap,ys,p,q,rfl,h2,h3,h4,h5,h6,h7⟩:=hx.open;obtain⟨ng',ao',n',cap',xs',bo',m',dap',ys',p',q',rfl,g2,g3,g4,g5,g6,g7⟩:=hy.open;refine(a2v w L ng ao n cap xs p h2 h5 bo m dap ys q h3 h4 h6 M ng' ao' n' cap' xs' p' g2 g5 bo' m' dap' ys' q' g3 g4 g6 (by omega)).mono ?_;rintro e w' ⟨v,rfl,ho,hb⟩;refine⟨v,rfl,?_,hb⟩;have hne:tq q*tq q'≠0:=Int.mul_ne_zero (ad6 q) (ad6 q');have hs:Rat.divInt (tp p q*tp p' q') (tq q*tq q')=r*s:=by
  rw[<-Rat.divInt_mul_divInt,aew,aew,h7,g7]
 rw[ang _ hne,anh _ hne,hs]at ho;exact OutQr.fit ho hf
def bigQ(r:Rat):Bool:=decide (¬(r.num.natAbs:Int)<pw 32)||decide (¬(r.den:Int)<pw 32)
theorem agu(r:Rat):bigQ r=false↔Fit r 32:=by
 unfold bigQ Fit;simp
theorem ayl(w:World)(x:Value)(r:Rat)(L:Nat)(hx:OutQr r L x w)(hL:2*(L+2)<=100000000):
  Calls Tryz.prog 175 #[x] w fun e w'=>∃m:Nat,e=.returned (.int .i64 (m:Int))/\(m<=32↔Fit r 32)/\Below w.heap.size w w':=by
 have hgot:=hx;obtain⟨p1,q1,c1,rs,b1,d1,ss,e1,hW,hG,l1,l2⟩:=hgot;obtain⟨ng,ao,n,cap,xs,bo,m,dap,ys,p,q,hv,h2,h3,h4,h5,h6,h7⟩:=hx.is.open;subst hv;have hn1:nm (tp p q) (tq q)=r.num:=by rw[ang _ (ad6 q),aew,h7]
 have hn2:dn (tp p q) (tq q)=(r.den:Int):=by rw[anh _ (ad6 q),aew,h7]
 have i1:IsLen ((nm (tp p q) (tq q)).natAbs:Int) rs.length:=by rw[hn1];exact⟨rs,hW.1.2.1,hW.1.2.2,rfl⟩
 have i2:IsLen (dn (tp p q) (tq q)) ss.length:=by rw[hn2];exact⟨ss,hG.2.1,hG.2.2,rfl⟩
 refine(axt w L ng ao n cap xs p h2 h5 bo m dap ys q h3 h4 h6 hL rs.length ss.length i1 i2).mono ?_;rintro e w' ⟨v,rfl,ho,hb⟩;refine⟨max rs.length ss.length,by rw[show v=.int .i64 _ from ho],?_,hb⟩;constructor
 ·intro hm;have b1:=(aac hW.1.2.1.1).2;have b2:=(aac hG.2.1.1).2;have m1:=aap (show rs.length<=32 by omega);have m2:=aap (show ss.length<=32 by omega);rw[hW.1.2.2]at b1;rw[hG.2.2]at b2;exact⟨by omega,by omega⟩
 ·intro hf;have:=aa7 hW.1.2.1 (m:=32) (by rw[hW.1.2.2];exact hf.1);have:=aa7 hG.2.1 (m:=32) (by rw[hG.2.2];exact hf.2);omega
end Lm
namespace Lm
open Go Go.RowKit Md
structure FE where
 ng:Bool
 a:Option Addr
 m:Nat
 c:Nat
 d:Option Addr
 k:Nat
 e:Nat
def FE.v(x:FE):Value:=.agg #[.bool x.ng,.slice x.a x.m x.c,.slice x.d x.k x.e]
def f3:List FE->List Value
 | []=>[]
 |x::es=>.bool x.ng :: .slice x.a x.m x.c :: .slice x.d x.k x.e::f3 es
theorem aeh(es:List FE):(f3 es).length=es.length*3:=by
 induction es with
 |nil=>rfl
 |cons e es ih=>simp only[f3,List.length_cons,ih];omega
theorem aj1{es:List FE}{i:Nat}{x:FE}(h:es[i]? = some x):(f3 es)[i*3]? = some (.bool x.ng)/\(f3 es)[i*3+1]? = some (.slice x.a x.m x.c)/\(f3 es)[i*3+2]? = some (.slice x.d x.k x.e):=by
 induction es generalizing i with
 |nil=>simp at h
 |cons u es ih=>
  cases i with
  |zero=>
   simp at h;subst h;simp[f3]
  |succ i=>
   have:=ih (i:=i) (by simpa using h);simp only[f3,show(i+1)*3=i*3+3 from by omega];simpa using this
theorem avs(es:List FE)(i:Nat)(x:FE)(h:i<es.length):f3 (es.set i x)=(((f3 es).set (i*3) (.bool x.ng)).set (i*3+1) (.slice x.a x.m x.c)).set (i*3+2) (.slice x.d x.k x.e):=by
 induction es generalizing i with
 |nil=>simp at h
 |cons u es ih=>
  cases i with
  |zero=>simp[f3]
  |succ i=>
   have:=ih i (by simpa using h);simp only[List.set_cons_succ,f3,show(i+1)*3=i*3+3 from by omega,this,List.set_cons_succ]
theorem azp(es:List FE)(i:Nat)(z:Int):(f3 es).toArray[i]?≠some (.int .u32 z):=by
 rw[List.getElem?_toArray];induction es generalizing i with
 |nil=>simp[f3]
 |cons u es ih=>
  match i with
  |0=>simp[f3]
  |1=>simp[f3]
  |2=>simp[f3]
  |i+3=>simpa[f3]using ih i
theorem aqz(n:Nat):(madeCells #[.bool false,.slice none 0 0,.slice none 0 0] (n*3)).toList=f3 (List.replicate n ⟨false,none,0,0,none,0,0⟩):=by
 apply List.ext_getElem?;intro i;rw[Array.getElem?_toList];by_cases hi:i<n*3
 ·have hk:i/3<n:=by omega
  have h1:(List.replicate n (⟨false,none,0,0,none,0,0⟩:FE))[i/3]? = some ⟨false,none,0,0,none,0,0⟩:=by rw[List.getElem?_replicate,if_pos hk]
  obtain⟨e1,e2,e3⟩:=aj1 h1;have e0:(madeCells #[.bool false,.slice none 0 0,.slice none 0 0] (n*3))[i]? = some ((#[.bool false,.slice none 0 0,.slice none 0 0]:Array Value)[i%3]!):=by
   simp[madeCells,hi]
  rw[e0];rcases(show i%3=0\/i%3=1\/i%3=2 by omega)with h|h|h
  ·rw[h,<-show i/3*3=i from by omega,e1];rfl
  ·rw[h,<-show i/3*3+1=i from by omega,e2];rfl
  ·rw[h,<-show i/3*3+2=i from by omega,e3];rfl
 ·rw[Array.getElem?_eq_none (by rw[size_madeCells];omega),List.getElem?_eq_none (by rw[aeh];simp;omega)]
def QRw3(w:World)(bv n k:Nat)(rs:List Rat)(L:Nat):Prop:=∃fs:List FE,fs.length=n/\w.heap[bv]? = some (.cells (f3 fs).toArray 47 (0,0))/\∀(i:Nat) (f:FE) (r:Rat),i<k->fs[i]? = some f->rs[i]? = some r->OutQr r L f.v w
theorem QRw3.below{w w':World}{bv n k:Nat}{rs:List Rat}{L:Nat}(h:QRw3 w bv n k rs L)(hb:Below w.heap.size w w'):QRw3 w' bv n k rs L:=by
 obtain⟨fs,h1,h2,h3⟩:=h;exact⟨fs,h1,(hb.block _ (aaa h2)).trans h2,fun i f r a b c=>(h3 i f r a b c).ru (Ru.of_below hb)⟩
theorem QRw3.lt{w:World}{bv n k:Nat}{rs:List Rat}{L:Nat}(h:QRw3 w bv n k rs L):bv<w.heap.size:=by
 obtain⟨fs,h1,h2,h3⟩:=h;exact aaa h2
theorem QRw3.cells{w:World}{bv n k:Nat}{rs:List Rat}{L i:Nat}(h:QRw3 w bv n k rs L)(hi:i<n):∃x:FE,w.cell? ⟨bv,i*3,none⟩=some (.bool x.ng)/\w.cell? ⟨bv,i*3+1,none⟩=some (.slice x.a x.m x.c)/\w.cell? ⟨bv,i*3+2,none⟩=some (.slice x.d x.k x.e)/\(w.frozen? ⟨bv,i*3,none⟩=false/\w.frozen? ⟨bv,i*3+1,none⟩=false/\w.frozen? ⟨bv,i*3+2,none⟩=false)/\(i<k->∀r,rs[i]? = some r->OutQr r L x.v w):=by
 obtain⟨fs,h1,h2,h3⟩:=h;obtain⟨x,hx⟩:∃x,fs[i]? = some x:=⟨_,List.getElem?_eq_getElem (by omega)⟩;obtain⟨f1,f2,f4⟩:=aj1 hx;refine⟨x,?_,?_,?_,⟨frozen_of_row _ _ _ _ _ h2,frozen_of_row _ _ _ _ _ h2,frozen_of_row _ _ _ _ _ h2⟩,fun hk r hr=>h3 i x r hk hx hr⟩ <;> rw[cell_of_row _ _ _ _ _ (0,0) h2,List.getElem?_toArray] <;> assumption
theorem QRw3.put{w:World}{bv n k:Nat}{rs:List Rat}{L:Nat}{r:Rat}{x:FE}(h:QRw3 w bv n k rs L)(hk:k<n)(hr:rs[k]? = some r)(hx:OutQr r L x.v w):
  QRw3 (((w.setCell ⟨bv,k*3,none⟩ (.bool x.ng)).setCell ⟨bv,k*3+1,none⟩ (.slice x.a x.m x.c)).setCell ⟨bv,k*3+2,none⟩ (.slice x.d x.k x.e)) bv n (k+1) rs L/\Tch bv w (((w.setCell ⟨bv,k*3,none⟩ (.bool x.ng)).setCell ⟨bv,k*3+1,none⟩ (.slice x.a x.m x.c)).setCell ⟨bv,k*3+2,none⟩ (.slice x.d x.k x.e)):=by
 obtain⟨fs,h1,h2,h3⟩:=h;have ht:Tch bv w (((w.setCell ⟨bv,k*3,none⟩ (.bool x.ng)).setCell ⟨bv,k*3+1,none⟩ (.slice x.a x.m x.c)).setCell ⟨bv,k*3+2,none⟩ (.slice x.d x.k x.e)):=((ab8 w bv (k*3) _).trans (ab8 _ bv (k*3+1) _)).trans (ab8 _ bv (k*3+2) _);have s1:=heap_setCell_same w bv (k*3) _ _ (.bool x.ng) h2;have s2:=heap_setCell_same _ bv (k*3+1) _ _ (.slice x.a x.m x.c) s1;have s3:=heap_setCell_same _ bv (k*3+2) _ _ (.slice x.d x.k x.e) s2;have hru:Ru w (((w.setCell ⟨bv,k*3,none⟩ (.bool x.ng)).setCell ⟨bv,k*3+1,none⟩ (.slice x.a x.m x.c)).setCell ⟨bv,k*3+2,none⟩ (.slice x.d x.k x.e)):=Ru.of_one h2 (by decide) (azp fs) ht.size (fun k hk hn=>ht.other k hk hn);refine⟨⟨fs.set k x,by simp[h1],?_,fun i f r' hi hf hr'=>?_⟩,ht⟩
 ·rw[s3,avs fs k x (by omega)];simp
 ·by_cases e:k=i
  ·subst e;rw[List.getElem?_set_self (by omega)]at hf;obtain rfl:=Option.some.inj hf;rw[hr]at hr';obtain rfl:=Option.some.inj hr';exact hx.ru hru
  ·rw[List.getElem?_set_ne e]at hf;exact(h3 i f r' (by omega) hf hr').ru hru
def qRow(G:Nat->Rat)(n:Nat):List Rat:=(List.range n).map G
theorem a1h{G:Nat->Rat}{n k:Nat}(h:k<n):(qRow G n)[k]? = some (G k):=by simp[qRow,h]
theorem OutQr.agg{r:Rat}{L:Nat}{v:Value}{w:World}(h:OutQr r L v w):∃x:FE,v=x.v:=by
 obtain⟨ng,ao,cap,rs,bo,dap,ss,e,_⟩:=h;exact⟨⟨ng,ao,rs.length,cap,bo,ss.length,dap⟩,e⟩
end Lm
namespace Lm
open Go Go.RowKit Md
def Lead(zs:List Int)(p:Nat):Prop:=fnR zs p≠0/\∀k,k<p->fnR zs k=0
theorem alp(w:World)(v:Value)(zs:List Int)(L:Nat)(h:IsRow w v zs L)(hL:L<=400000000):
  Calls Tryz.prog 160 #[v] w fun e w'=>(∃r:Int,e=.returned (.int .i64 r)/\((r = -1/\∀k,fnR zs k=0)\/∃p:Nat,r=p/\p<zs.length/\Lead zs p))/\Below w.heap.size w w':=by
 have K:=hide (anf w v zs L h 78 asu #[] (fun z=>decide (z≠0)) (fun W z xv _ _ hx=>aer W z L xv hx hL));obtain⟨ao,cp,rfl,_⟩:=h.parts;clear h;go_enter Tryz.func160,Tryz.ntmps160
 go_wp2_with fail
 refine K.out.mono ?_;rintro e w1 ⟨⟨r,rfl,hr⟩,hb⟩;have HB:=hide hb;have HR:Hid ((r = -1/\∀k,fnR zs k=0)\/∃p:Nat,r=p/\p<zs.length/\Lead zs p):=(show _ by
  have hget:∀k z,zs[k]? = some z->fnR zs k=z:=fun k z hz=>by rw[fnR,List.getD_eq_getElem?_getD,hz];rfl
  rcases hr with⟨h1,h2⟩|⟨k,z,h1,h2,h3,h4⟩
  ·refine .inl ⟨h1,fun k=>?_⟩;by_cases hk:k<zs.length
   ·have h5:=List.any_eq_false.1 h2 zs[k] (List.getElem_mem hk);rw[hget k _ (List.getElem?_eq_getElem hk)];simpa using h5
   ·exact aau (n:=zs.length) rfl k (by omega)
  ·have hk:=(List.getElem?_eq_some_iff.1 h2).1;refine .inr ⟨k,h1,hk,by rw[hget k z h2];simpa using h3,fun j hj=>?_⟩;have h5:=List.any_eq_false.1 h4 zs[j] (List.mem_take_iff_getElem.2 ⟨j,by omega,rfl⟩);rw[hget j _ (List.getElem?_eq_getElem (by omega))]
   simpa using h5)
 clear hb K hr;go_wp2;refine bodyPost_ret (v:=_) (by simp[results,Tryz.results160,go_sem];try rfl) rfl ⟨⟨r,rfl,HR.out⟩,HB.out⟩
theorem Lead.one{zs:List Int}{p q:Nat}(h:Lead zs p)(h':Lead zs q):p=q:=by
 rcases Nat.lt_trichotomy p q with hh|hh|hh
 ·exact absurd (h'.2 p hh) h.1
 ·exact hh
 ·exact absurd (h.2 q hh) h'.1
theorem aym{L:Nat}{x y u v:Int}(hx:(x.natAbs:Int)<pw L)(hy:(y.natAbs:Int)<pw L)(hu:(u.natAbs:Int)<pw L)(hv:(v.natAbs:Int)<pw L):((x*y-u*v).natAbs:Int)<pw (L+L+1):=by
 have h1:((x*y).natAbs:Int)<=pw L*pw L:=by
  rw[Int.natAbs_mul,Int.natCast_mul];exact Int.mul_le_mul (by omega) (by omega) (by omega) (by omega)
 have h2:((u*v).natAbs:Int)<=pw L*pw L:=by
  rw[Int.natAbs_mul,Int.natCast_mul];exact Int.mul_le_mul (by omega) (by omega) (by omega) (by omega)
 have h3:pw (L+L+1)=4294967296*(pw L*pw L):=by rw[<-ab1];rfl
 have h4:0<pw L*pw L:=Int.mul_pos (by omega) (by omega);omega
section
variable {dst:Option Tmp} {ty:TypeId} {pos:String} {after:Array Edge} {guard:Option (Nat×Bool)} {a:Act} {w:World} {i j:Nat}
theorem anz{b n c k:Nat}(h:a.eval (.tmp i)=.slice (some ⟨b,0,none⟩) n c)(hk:a.eval (.tmp j)=.int .i64 (k:Int))(hl:k<n):Does Tryz.prog {dst,op:=.indexAddr 39 (.tmp i) (.tmp j),type:=ty,pos,after,guard} a.eval w fun v' w'=>Below w.heap.size w w'/\Eqs (.pointer (some ⟨b,k*2,none⟩)) v' w':=by
 have h1:=abm (w:=w) (dst:=dst) (ty:=ty) (pos:=pos) (after:=after) (guard:=guard) h rfl hk hl;rwa[Nat.zero_add]at h1
end
def clrZ(ls ss:List Int)(p n:Nat):List Int:=gRow (fun c=>fnR ss p*fnR ls c-fnR ls p*fnR ss c) n
theorem an0(w:World)(vl vs:Value)(ls ss:List Int)(L n p:Nat)(hl:IsRow w vl ls L)(hs:IsRow w vs ss L)(hln:ls.length=n)(hsn:ss.length=n)(hp:Lead ss p)(hpn:p<n)(hn:n<=100000)(hL:L<=20000000):
  Calls Tryz.prog 172 #[vl,vs] w fun e w'=>∃r,e=.returned r/\ORow w.heap.size w' r (clrZ ls ss p n) (L+L+1)/\Below w.heap.size w w':=by
 have hbl:∀c,((fnR ls c).natAbs:Int)<pw L:=fun c=>acg (abe hl) (by have:=aag L;omega) c
 have hbs:∀c,((fnR ss c).natAbs:Int)<pw L:=fun c=>acg (abe hs) (by have:=aag L;omega) c
 have HBD:Hid (∀c,((fnR ss p*fnR ls c-fnR ls p*fnR ss c).natAbs:Int)<pw (L+L+1)):=(fun c=>aym (hbs p) (hbl c) (hbl p) (hbs c));have K1:=alp w _ ss L hs (by omega);obtain⟨al,cl,rfl,_⟩:=hl.parts;obtain⟨asx,cs,rfl,_⟩:=hs.parts;rw[hln]at hl ⊢;rw[hsn]at hs K1 ⊢;have K1:=hide K1;have HL:=hide hl;have HS:=hide hs;have HLN:=hide (And.intro hln hsn);have HP:=hide hp;obtain⟨iW,hi,hz0,hz1,hz2⟩:=info_parts infoWz;clear hl hs hln hsn hp hbl hbs;go_enter Tryz.func172,Tryz.ntmps172
 go_wp2_with fail
 refine K1.out.mono ?_;rintro e w1 ⟨⟨r,rfl,hr⟩,hb1⟩;obtain rfl:r=(p:Int):=by
  rcases hr with⟨_,h0⟩|⟨q,h1,_,h2⟩
  ·exact absurd (h0 p) HP.out.1
  ·rw[h1,h2.one HP.out]
 have HB1:=hide hb1;clear hr hb1 K1;go_wp2_with (refine wpList_make_full _ rfl (.tmp 12) (.tmp 12) 39 rfl w1.heap.size 45 iW (.agg #[.bool false,.slice none 0 0]) 2 Tryz.underlying39 hi hz0 hz1 .i64 .i64 _ _ n rfl rfl (by omega) (by omega) (by rw[hz2];omega) (by unfold maxLen;omega) (Nat.le_refl _) ?hK)
 case hK=>
  intro w2 hown hgrow;have hb2:Below w1.heap.size w1 w2:=(Below.refl _ _).grown hgrow (Nat.le_refl _) (by simp);obtain⟨_,hmb⟩:=acn hown;rw[acy]at hmb;obtain⟨bv,hbv⟩:∃bv,w1.heap.size=bv:=⟨_,rfl⟩;rw[hbv]at hmb ⊢;have HBV:Hid (w.heap.size<=bv):=(show _<=_ by rw[<-hbv];exact HB1.out.size);have HP0:=hide (PRow.start (K:=w.heap.size) (zs:=clrZ ls ss p n) (L:=L+L+1) hmb);have HB:=hide (HB1.out.trans (hb2.mono HB1.out.size));clear hown hgrow hmb hb2 hbv;go_wp2;go_loopw [16] (fun iv wr=>∃(k:Nat),iv=.int .i64 k/\k<=n/\Below w.heap.size w wr/\PRow w.heap.size wr bv n k (clrZ ls ss p n) (L+L+1)) (fun iv _=>n-(intOf iv).toNat)
  case atStart=>exact⟨0,rfl,Nat.zero_le _,HB.out,HP0.out⟩
  case round=>
   obtain⟨k,rfl,hk,hbw,hpr⟩:=hrel;by_cases hlt:k<n
   ·have hlt':(k:Int)<(n:Int):=by omega
    obtain⟨bl,ol,ng1,a1,m1,c1,rfl,hll,x0,x1,hx⟩:=HL.out.cell (k:=k) (z:=fnR ls k) (acd (by rw[HLN.out.1];exact hlt));obtain⟨bl',ol',ng2,a2,m2,c2,hbe,_,p0,p1,hpx⟩:=HL.out.cell (k:=p) (z:=fnR ls p) (acd (by rw[HLN.out.1];exact hpn));obtain⟨rfl,rfl⟩:bl=bl'/\ol=ol':=by simpa using hbe
    obtain⟨bs,os,ng3,a3,m3,c3,rfl,hls,y0,y1,hy⟩:=HS.out.cell (k:=k) (z:=fnR ss k) (acd (by rw[HLN.out.2];exact hlt));obtain⟨bs',os',ng4,a4,m4,c4,hbe2,_,q0,q1,hqx⟩:=HS.out.cell (k:=p) (z:=fnR ss p) (acd (by rw[HLN.out.2];exact hpn));obtain⟨rfl,rfl⟩:bs=bs'/\os=os':=by simpa using hbe2
    obtain⟨lk,hlk⟩:∃z,fnR ls k=z:=⟨_,rfl⟩;obtain⟨lp,hlp⟩:∃z,fnR ls p=z:=⟨_,rfl⟩;obtain⟨sk,hsk⟩:∃z,fnR ss k=z:=⟨_,rfl⟩;obtain⟨sp,hsp⟩:∃z,fnR ss p=z:=⟨_,rfl⟩;rw[hlk]at hx;rw[hlp]at hpx;rw[hsk]at hy;rw[hsp]at hqx;have HG:Hid ((clrZ ls ss p n)[k]? = some (sp*lk-lp*sk)/\((sp*lk-lp*sk).natAbs:Int)<pw (L+L+1)):=(show _/\_ by
     have h1:=HBD.out k;rw[hlk,hlp,hsk,hsp]at h1
     exact⟨by unfold clrZ;rw[abd hlt,hlk,hlp,hsk,hsp],h1⟩)
    have x0':=(hbw.cell (p:=⟨bl,ol+k*2,none⟩) hll).trans x0;have x1':=(hbw.cell (p:=⟨bl,ol+k*2+1,none⟩) hll).trans x1;have hA:=hAl wr (.cells #[.bool ng1,.slice a1 m1 c1] 45);have hnx:=heap_alloc_new wr (.cells #[.bool ng1,.slice a1 m1 c1] 45);have hall:=hbw.trans (hA.mono hbw.size);have hll':=Nat.lt_of_lt_of_le hll hall.size;have hls':=Nat.lt_of_lt_of_le hls hall.size;have HP0:=hide ((hall.cell (p:=⟨bl,ol+p*2,none⟩) hll).trans p0);have HP1:=hide ((hall.cell (p:=⟨bl,ol+p*2+1,none⟩) hll).trans p1);have HY0:=hide ((hall.cell (p:=⟨bs,os+k*2,none⟩) hls).trans y0);have HY1:=hide ((hall.cell (p:=⟨bs,os+k*2+1,none⟩) hls).trans y1);have HQ0:=hide ((hall.cell (p:=⟨bs,os+p*2,none⟩) hls).trans q0);have HQ1:=hide ((hall.cell (p:=⟨bs,os+p*2+1,none⟩) hls).trans q1);have HXW:=hide (hx.ru (Ru.of_below hall));have HPW:=hide (hpx.ru (Ru.of_below hall));have HYW:=hide (hy.ru (Ru.of_below hall));have HQW:=hide (hqx.ru (Ru.of_below hall));have HW:=hide hall;have HNX:=hide hnx;have HPR:=hide (hpr.below hA);clear hbw hpr hx hpx hy hqx hlk hlp hsk hsp x0 x1 p0 p1 y0 y1 q0 q1 hA hnx hall hbe hbe2;go_upto_region 6 with fail
    generalize (wr.alloc (.cells #[.bool ng1,.slice a1 m1 c1] 45))=wx at *
    generalize wr.heap.size=f8 at *
    clear x0' x1';refine adq 19 [21,22,23,24,25,26,27,28,29,30,31,32,33,34,35,36,37,38,39] [Eqs (.slice (some ⟨bv,0,none⟩) n n),Eqs (.int .i64 (k:Int)),Eqs (.slice (some ⟨bs,os,none⟩) n cs),Eqs (.int .i64 (p:Int)),Eqs (.pointer (some ⟨bs,os+p*2,none⟩)),(IsW sp L),(IsW lk L),(FrW wx.heap.size (sp*lk) (L+L)),Eqs (.slice (some ⟨bl,ol,none⟩) n cl),Eqs (.int .i64 (p:Int)),Eqs (.pointer (some ⟨bl,ol+p*2,none⟩)),(IsW lp L),Eqs (.slice (some ⟨bs,os,none⟩) n cs),Eqs (.int .i64 (k:Int)),Eqs (.pointer (some ⟨bs,os+k*2,none⟩)),(IsW sk L),(FrW wx.heap.size (lp*sk) (L+L)),(FrW wx.heap.size (sp*lk-lp*sk) (L+L+(L+L)+1)),Eqs (.pointer (some ⟨bv,k*2,none⟩))] rfl rfl (by decide) (by kernel_rfl) (by kernel_rfl) (by decide) (by kernel_rfl) ⟨Eqs.mono _,Eqs.mono _,Eqs.mono _,Eqs.mono _,Eqs.mono _,(Mono.of4 (IsW.mono4 _ _)),(Mono.of4 (IsW.mono4 _ _)),(Mono.of4 (FrW.mono4 _ _ _)),Eqs.mono _,Eqs.mono _,Eqs.mono _,(Mono.of4 (IsW.mono4 _ _)),Eqs.mono _,Eqs.mono _,Eqs.mono _,(Mono.of4 (IsW.mono4 _ _)),(Mono.of4 (FrW.mono4 _ _ _)),(Mono.of4 (FrW.mono4 _ _ _)),Eqs.mono _,trivial⟩ ?_ ?_
    ·exact⟨⟨rfl,fun a_ w_ _ hB hR hD=>aal ((hR 6 rfl).trans (aab rfl))⟩,
       ⟨rfl,fun a_ w_ _ hB hR hD=>aal ((hR 7 rfl).trans (aab rfl))⟩,
       ⟨rfl,fun a_ w_ _ hB hR hD=>aal ((hR 1 rfl).trans (aab rfl))⟩,
       ⟨rfl,fun a_ w_ _ hB hR hD=>aal ((hR 5 rfl).trans (aab rfl))⟩,
       ⟨rfl,fun a_ w_ _ hB hR hD=>abm (show a_.eval (.tmp 23)=.slice (some ⟨bs,os,none⟩) n cs from hD 2 rfl) rfl (show a_.eval (.tmp 24)=.int .i64 (p:Int)from hD 3 rfl) hpn⟩,
       ⟨rfl,fun a_ w_ _ hB hR hD=>ab3 (show a_.eval (.tmp 25)=.pointer (some ⟨bs,os+p*2,none⟩)from hD 4 rfl) ((hB.cell (p:=⟨bs,os+p*2,none⟩) hls').trans HQ0.out) ((hB.cell (p:=⟨bs,os+p*2+1,none⟩) hls').trans HQ1.out) (Mono.of4 (IsW.mono4 _ _) _ _ _ hB HQW.out)⟩,
       ⟨rfl,fun a_ w_ _ hB hR hD=>ac8 ((hR 8 rfl).trans (aab rfl)) ((hB.block _ (aaa HNX.out)).trans HNX.out) (Mono.of4 (IsW.mono4 _ _) _ _ _ hB HXW.out)⟩,
       ⟨rfl,fun a_ w_ _ hB hR hD=>adx (show(IsW sp L) (a_.eval (.tmp 26)) w_ from hD 5 rfl) (show(IsW lk L) (a_.eval (.tmp 27)) w_ from hD 6 rfl) (by omega) (by omega) hB.size⟩,
       ⟨rfl,fun a_ w_ _ hB hR hD=>aal ((hR 0 rfl).trans (aab rfl))⟩,
       ⟨rfl,fun a_ w_ _ hB hR hD=>aal ((hR 5 rfl).trans (aab rfl))⟩,
       ⟨rfl,fun a_ w_ _ hB hR hD=>abm (show a_.eval (.tmp 29)=.slice (some ⟨bl,ol,none⟩) n cl from hD 8 rfl) rfl (show a_.eval (.tmp 30)=.int .i64 (p:Int)from hD 9 rfl) hpn⟩,
       ⟨rfl,fun a_ w_ _ hB hR hD=>ab3 (show a_.eval (.tmp 31)=.pointer (some ⟨bl,ol+p*2,none⟩)from hD 10 rfl) ((hB.cell (p:=⟨bl,ol+p*2,none⟩) hll').trans HP0.out) ((hB.cell (p:=⟨bl,ol+p*2+1,none⟩) hll').trans HP1.out) (Mono.of4 (IsW.mono4 _ _) _ _ _ hB HPW.out)⟩,
       ⟨rfl,fun a_ w_ _ hB hR hD=>aal ((hR 1 rfl).trans (aab rfl))⟩,
       ⟨rfl,fun a_ w_ _ hB hR hD=>aal ((hR 7 rfl).trans (aab rfl))⟩,
       ⟨rfl,fun a_ w_ _ hB hR hD=>abm (show a_.eval (.tmp 33)=.slice (some ⟨bs,os,none⟩) n cs from hD 12 rfl) rfl (show a_.eval (.tmp 34)=.int .i64 (k:Int)from hD 13 rfl) hlt⟩,
       ⟨rfl,fun a_ w_ _ hB hR hD=>ab3 (show a_.eval (.tmp 35)=.pointer (some ⟨bs,os+k*2,none⟩)from hD 14 rfl) ((hB.cell (p:=⟨bs,os+k*2,none⟩) hls').trans HY0.out) ((hB.cell (p:=⟨bs,os+k*2+1,none⟩) hls').trans HY1.out) (Mono.of4 (IsW.mono4 _ _) _ _ _ hB HYW.out)⟩,
       ⟨rfl,fun a_ w_ _ hB hR hD=>adx (show(IsW lp L) (a_.eval (.tmp 32)) w_ from hD 11 rfl) (show(IsW sk L) (a_.eval (.tmp 36)) w_ from hD 15 rfl) (by omega) (by omega) hB.size⟩,
       ⟨rfl,fun a_ w_ _ hB hR hD=>aki (FrW.is (show(FrW wx.heap.size (sp*lk) (L+L)) (a_.eval (.tmp 28)) w_ from hD 7 rfl)) (FrW.is (show(FrW wx.heap.size (lp*sk) (L+L)) (a_.eval (.tmp 37)) w_ from hD 16 rfl)) (by omega) (by omega) hB.size⟩,
       ⟨rfl,fun a_ w_ _ hB hR hD=>anz (show a_.eval (.tmp 21)=.slice (some ⟨bv,0,none⟩) n n from hD 0 rfl) (show a_.eval (.tmp 22)=.int .i64 (k:Int)from hD 1 rfl) hlt⟩,
       trivial⟩
    ·intro a' w' hn' hd' hB' hR' hP';have e21:a'.eval (.tmp 21)=.slice (some ⟨bv,0,none⟩) n n:=hP' 0 (by decide);have e22:a'.eval (.tmp 22)=.int .i64 (k:Int):=hP' 1 (by decide);have e23:a'.eval (.tmp 23)=.slice (some ⟨bs,os,none⟩) n cs:=hP' 2 (by decide);have e24:a'.eval (.tmp 24)=.int .i64 (p:Int):=hP' 3 (by decide);have e25:a'.eval (.tmp 25)=.pointer (some ⟨bs,os+p*2,none⟩):=hP' 4 (by decide);obtain⟨u26,e26⟩:∃u,a'.eval (.tmp 26)=u:=⟨_,rfl⟩;obtain⟨u27,e27⟩:∃u,a'.eval (.tmp 27)=u:=⟨_,rfl⟩;obtain⟨u28,e28⟩:∃u,a'.eval (.tmp 28)=u:=⟨_,rfl⟩;have e29:a'.eval (.tmp 29)=.slice (some ⟨bl,ol,none⟩) n cl:=hP' 8 (by decide);have e30:a'.eval (.tmp 30)=.int .i64 (p:Int):=hP' 9 (by decide);have e31:a'.eval (.tmp 31)=.pointer (some ⟨bl,ol+p*2,none⟩):=hP' 10 (by decide);obtain⟨u32,e32⟩:∃u,a'.eval (.tmp 32)=u:=⟨_,rfl⟩;have e33:a'.eval (.tmp 33)=.slice (some ⟨bs,os,none⟩) n cs:=hP' 12 (by decide);have e34:a'.eval (.tmp 34)=.int .i64 (k:Int):=hP' 13 (by decide);have e35:a'.eval (.tmp 35)=.pointer (some ⟨bs,os+k*2,none⟩):=hP' 14 (by decide);obtain⟨u36,e36⟩:∃u,a'.eval (.tmp 36)=u:=⟨_,rfl⟩;obtain⟨u37,e37⟩:∃u,a'.eval (.tmp 37)=u:=⟨_,rfl⟩;obtain⟨u38,e38⟩:∃u,a'.eval (.tmp 38)=u:=⟨_,rfl⟩;have hT:(FrW wx.heap.size (sp*lk-lp*sk) (L+L+(L+L)+1)) (a'.eval (.tmp 38)) w':=hP' 17 (by decide);rw[e38]at hT;have e39:a'.eval (.tmp 39)=.pointer (some ⟨bv,k*2,none⟩):=hP' 18 (by decide);refine aat hn' hd' hR' (.s16 rfl <| .s4 rfl <| .same rfl <| .new e21 <| .new e22 <| .new e23 <| .new e24 <| .new e25 <| .new e26 <| .new e27 <| .new e28 <| .new e29 <| .new e30 <| .new e31 <| .new e32 <| .new e33 <| .new e34 <| .new e35 <| .new e36 <| .new e37 <| .new e38 <| .new e39 <| .same rfl <| .same rfl <| .nil) ?_;clear e21 e22 e23 e24 e25 e26 e27 e28 e29 e30 e31 e32 e33 e34 e35 e36 e37 e38 e39;obtain⟨ng5,a5,m5,c5,rfl⟩:=hT.agg;have hfit:=hT.fit (L':=L+L+1) HG.out.2;have hB2:=hB';obtain⟨⟨ngp,ap,mp,cp',e0,e1⟩,pf0,pf1⟩:=(HPR.out.below hB').cells hlt;obtain⟨t1,t2⟩:=HPR.out.put (Nat.le_refl _) hB' hlt HG.out.1 HW.out.size hfit;have HT1:=hide t1;have HT2:=hide (HW.out.trans (t2.below HW.out.size HBV.out HBV.out));clear t1 t2 hT hfit hB' hB2 hR' hP' hn' hd';go_wp2;go_roundw
     case rel=>exact⟨k+1,by go_num,by omega,HT2.out,HT1.out⟩
     case measure=>simp[intOf];omega
   ·have hlt':decide ((k:Int)<(n:Int))=false:=by simp;omega
    obtain rfl:n=k:=by omega
    have HW:=hide hbw;have HPR:=hide hpr;clear hbw hpr;go_wp2;refine bodyPost_ret (v:=_) (by simp[results,Tryz.results172,go_sem];try rfl) rfl ⟨_,rfl,⟨_,by rw[clrZ,aao],HBV.out,by rw[clrZ,aao];exact HPR.out,by rw[clrZ,aao];omega⟩,HW.out⟩
end Lm
namespace Lm
open Go Go.RowKit Md
theorem avt:Has Tryz.prog 52:=by unfold Has;kernel_rfl
theorem ayn:Has Tryz.prog 84:=by unfold Has;kernel_rfl
def RofS(r:Rat)(L:Nat):Says:=fun v w=>∃q,v=.tuple #[q,.int .i64 0]/\OutQr r L q w
theorem OutQr.mono4(r:Rat)(L:Nat):Mono4 (OutQr r L):=OutR.mono4 _ _ _
theorem RofS.mono(r:Rat)(L:Nat):Mono (RofS r L):=fun _ _ _ hb ⟨q,e,h⟩=>⟨q,e,h.ru (Ru.of_below hb)⟩
section
variable {dst:Option Tmp} {ty:TypeId} {pos:String} {after:Array Edge} {guard:Option (Nat×Bool)} {a:Act} {w:World} {ats:Array TypeId} {i j:Nat}
theorem aq0{x:Int}{L K:Nat}(h1:IsW x L (a.eval (.tmp i)) w)(hL:L<=400000000)(hK:K<=w.heap.size):
  Does Tryz.prog {dst,op:=.call {callee:=.value (.func 52),args:=#[.tmp i],argTypes:=ats},type:=ty,pos,after,guard} a.eval w fun v w'=>Below w.heap.size w w'/\FrW K (-x) L v w':=
 aah avt #[_] (by simp) ((negF _ x _ L h1 hL).mono fun e w' ⟨v,h,hf,hb⟩=>⟨v,h,hb,hf.low hK⟩)
theorem aq1{z u:Int}{L M:Nat}(h1:IsW z L (a.eval (.tmp i)) w)(h2:IsW u M (a.eval (.tmp j)) w)(hL:L+M<=100000000)(hu:u≠0):
  Does Tryz.prog {dst,op:=.call {callee:=.value (.func 84),args:=#[.tmp i,.tmp j],argTypes:=ats},type:=ty,pos,after,guard} a.eval w fun v w'=>Below w.heap.size w w'/\RofS (Rat.divInt z u) (L+M) v w':=by
 refine aah ayn #[_,_] (by simp) ((a4g _ _ _ z u L M h1 h2 hL).mono ?_);rintro e w' ⟨hb,⟨_,v,rfl,ho⟩|⟨h0,_⟩⟩
 ·exact⟨_,rfl,hb,v,rfl,ho⟩
 ·exact absurd h0 hu
theorem aq2{r:Rat}{L:Nat}(h:RofS r L (a.eval (.tmp i)) w):Does Tryz.prog {dst,op:=.extract (.tmp i) 0,type:=ty,pos,after,guard} a.eval w fun v w'=>Below w.heap.size w w'/\OutQr r L v w':=by
 obtain⟨q,e,ho⟩:=h;refine aa5 (v:=q) ?_ ⟨Below.refl _ _,ho⟩;rw[e];rfl
theorem aq3{r:Rat}{L:Nat}(h:RofS r L (a.eval (.tmp i)) w):Does Tryz.prog {dst,op:=.extract (.tmp i) 1,type:=ty,pos,after,guard} a.eval w fun v w'=>Below w.heap.size w w'/\Eqs (.int .i64 0) v w':=by
 obtain⟨q,e,ho⟩:=h;refine aa5 (v:=.int .i64 0) ?_ ⟨Below.refl _ _,rfl⟩;rw[e];rfl
theorem an1{b n c m:Nat}(h:a.eval (.tmp i)=.slice (some ⟨b,0,none⟩) n c)(hk:a.eval (.tmp j)=.int .i64 (m:Int))(hl:m<n):Does Tryz.prog {dst,op:=.indexAddr 31 (.tmp i) (.tmp j),type:=ty,pos,after,guard} a.eval w fun v' w'=>Below w.heap.size w w'/\Eqs (.pointer (some ⟨b,m*3,none⟩)) v' w':=by
 have hl':(m:Int)<(n:Int):=by omega
 refine⟨?_⟩;unfold Turns;simp only[execOp,h,hk];go_simp;exact⟨Below.refl _ _,by simp[Eqs]⟩
end
def lowQ(zs:List Int)(n:Nat):List Rat:=qRow (fun k=>Rat.divInt (-(fnR zs k)) (fnR zs n)) n
theorem an2(w:World)(v:Value)(zs:List Int)(L n:Nat)(h:IsRow w v zs L)(hl:zs.length=n+1)(hd:fnR zs n≠0)(hn:n<=1000)(hL:L<=40000000):
  Calls Tryz.prog 46 #[v] w fun e w'=>∃bv,e=.returned (.slice (some ⟨bv,0,none⟩) n n)/\w.heap.size<=bv/\QRw3 w' bv n n (lowQ zs n) (L+L)/\Below w.heap.size w w':=by
 obtain⟨al,cl,rfl,_⟩:=h.parts;have hcap:n+1<=cl:=by
  obtain⟨es,h1,h2,_⟩:=h;obtain⟨ao',cap',e,c1,_⟩:=h1.cl;obtain⟨_,_,rfl⟩:=(Value.slice.injEq .. ▸ e);rw[<-h2,List.length_map]at hl;omega
 have hcm:cl<=9223372036854775807:=by
  obtain⟨es,h1,h2,_⟩:=h;obtain⟨ao',cap',e,c1,c2,_⟩:=h1.cl;obtain⟨_,_,rfl⟩:=(Value.slice.injEq .. ▸ e);exact c2
 rw[hl]at h ⊢;obtain⟨bl,ol,ngl,a0,m0,c0,rfl,hll,d0,d1,hdx⟩:=h.cell (k:=n) (z:=fnR zs n) (acd (by omega));have HL:=hide h;have HLN:=hide hl;have HD:=hide hd;have HDX:=hide hdx;have HD0:=hide d0;have HD1:=hide d1;have hsub:IntKind.i64.wrap (((n+1:Nat):Int)-1)=(n:Int):=by rw[IntKind.wrap_i64];omega
 obtain⟨iR,hi,hz0,hz1,hz2⟩:=info_parts infoRz;clear h hl hd hdx d0 d1;go_enter Tryz.func46,Tryz.ntmps46
 go_wp2_with (refine wpList_make_full _ rfl (.tmp 10) (.tmp 10) 31 rfl w.heap.size 47 iR (.agg #[.bool false,.slice none 0 0,.slice none 0 0]) 3 Tryz.underlying31 hi hz0 hz1 .i64 .i64 _ _ n rfl rfl (by omega) (by omega) (by rw[hz2];omega) (by unfold maxLen;omega) (Nat.le_refl _) ?hK)
 case hK=>
  intro w2 hown hgrow;have hb2:Below w.heap.size w w2:=(Below.refl _ _).grown hgrow (Nat.le_refl _) (by simp);obtain⟨_,hmb⟩:=acn hown;rw[aqz]at hmb;have HP0:Hid (QRw3 w2 w.heap.size n 0 (lowQ zs n) (L+L)):=(⟨_,List.length_replicate,hmb,fun i f r hi=>by omega⟩:QRw3 _ _ _ _ _ _);have HB:=hide hb2;clear hown hgrow hmb hb2;go_wp2;go_loopw [16] (fun iv wr=>∃(k:Nat),iv=.int .i64 k/\k<=n/\Below w.heap.size w wr/\QRw3 wr w.heap.size n k (lowQ zs n) (L+L)) (fun iv _=>n-(intOf iv).toNat)
  case atStart=>exact⟨0,rfl,Nat.zero_le _,HB.out,HP0.out⟩
  case round=>
   obtain⟨k,rfl,hk,hbw,hpr⟩:=hrel;by_cases hlt:k<n
   ·have hlt':(k:Int)<(n:Int):=by omega
    obtain⟨bl',ol',ng1,a1,m1,c1,hbe,hll1,x0,x1,hx⟩:=HL.out.cell (k:=k) (z:=fnR zs k) (acd (by have:=HLN.out;omega));obtain⟨rfl,rfl⟩:bl=bl'/\ol=ol':=by simpa using hbe
    have HG:Hid ((lowQ zs n)[k]? = some (Rat.divInt (-(fnR zs k)) (fnR zs n))):=(show _=_ from a1h hlt);generalize fnR zs k=zk at *
    have hltn:n<n+1:=by omega
    replace x0:=(hbw.cell (p:=⟨bl,ol+k*2,none⟩) hll).trans x0;replace x1:=(hbw.cell (p:=⟨bl,ol+k*2+1,none⟩) hll).trans x1;have hA:=hAl wr (.cells #[.bool ng1,.slice a1 m1 c1] 45);have hnx:=heap_alloc_new wr (.cells #[.bool ng1,.slice a1 m1 c1] 45);have hall:=hbw.trans (hA.mono hbw.size);have hll':=Nat.lt_of_lt_of_le hll hall.size;have HY0:=hide ((hall.cell (p:=⟨bl,ol+n*2,none⟩) hll).trans HD0.out);have HY1:=hide ((hall.cell (p:=⟨bl,ol+n*2+1,none⟩) hll).trans HD1.out);have HXW:=hide (hx.ru (Ru.of_below hall));have HYW:=hide (HDX.out.ru (Ru.of_below hall));have HW:=hide hall;have HNX:=hide hnx;have HPR:=hide (hpr.below hA);clear hbw hpr hx hA hnx hall hbe hll1;go_upto_region 6 with fail
    generalize (wr.alloc (.cells #[.bool ng1,.slice a1 m1 c1] 45))=wx at *
    generalize wr.heap.size=f6 at *
    clear x0 x1;refine ae9 13 11 [22,23,24,25,26,27,28,29,30,21,31,32,33] [Eqs (.slice (some ⟨w.heap.size,0,none⟩) n n),Eqs (.int .i64 (k:Int)),(IsW zk L),(FrW wx.heap.size (-zk) L),Eqs (.slice (some ⟨bl,ol,none⟩) (n+1) cl),Eqs (.int .i64 (n:Int)),Eqs (.pointer (some ⟨bl,ol+n*2,none⟩)),(IsW (fnR zs n) L),(RofS (Rat.divInt (-zk) (fnR zs n)) (L+L)),(RofS (Rat.divInt (-zk) (fnR zs n)) (L+L)),(OutQr (Rat.divInt (-zk) (fnR zs n)) (L+L)),Eqs (.int .i64 0),Eqs (.pointer (some ⟨w.heap.size,k*3,none⟩))] rfl rfl (by decide) (by kernel_rfl) (by kernel_rfl) rfl (by decide) rfl rfl (by kernel_rfl) ⟨Eqs.mono _,Eqs.mono _,(Mono.of4 (IsW.mono4 _ _)),(Mono.of4 (FrW.mono4 _ _ _)),Eqs.mono _,Eqs.mono _,Eqs.mono _,(Mono.of4 (IsW.mono4 _ _)),(RofS.mono _ _),(RofS.mono _ _),(Mono.of4 (OutQr.mono4 _ _)),Eqs.mono _,Eqs.mono _,trivial⟩ ?_ ?_ ?_
    ·exact⟨⟨rfl,fun a_ w_ _ hB hR hD=>aal ((hR 4 rfl).trans (aab rfl))⟩,
       ⟨rfl,fun a_ w_ _ hB hR hD=>aal ((hR 5 rfl).trans (aab rfl))⟩,
       ⟨rfl,fun a_ w_ _ hB hR hD=>ac8 ((hR 6 rfl).trans (aab rfl)) ((hB.block _ (aaa HNX.out)).trans HNX.out) (Mono.of4 (IsW.mono4 _ _) _ _ _ hB HXW.out)⟩,
       ⟨rfl,fun a_ w_ _ hB hR hD=>aq0 (show(IsW zk L) (a_.eval (.tmp 24)) w_ from hD 2 rfl) (by omega) hB.size⟩,
       ⟨rfl,fun a_ w_ _ hB hR hD=>aal ((hR 0 rfl).trans (aab rfl))⟩,
       ⟨rfl,fun a_ w_ _ hB hR hD=>aal ((hR 3 rfl).trans (aab rfl))⟩,
       ⟨rfl,fun a_ w_ _ hB hR hD=>abm (show a_.eval (.tmp 26)=.slice (some ⟨bl,ol,none⟩) (n+1) cl from hD 4 rfl) rfl (show a_.eval (.tmp 27)=.int .i64 (n:Int)from hD 5 rfl) hltn⟩,
       ⟨rfl,fun a_ w_ _ hB hR hD=>ab3 (show a_.eval (.tmp 28)=.pointer (some ⟨bl,ol+n*2,none⟩)from hD 6 rfl) ((hB.cell (p:=⟨bl,ol+n*2,none⟩) hll').trans HY0.out) ((hB.cell (p:=⟨bl,ol+n*2+1,none⟩) hll').trans HY1.out) (Mono.of4 (IsW.mono4 _ _) _ _ _ hB HYW.out)⟩,
       ⟨rfl,fun a_ w_ _ hB hR hD=>aq1 (FrW.is (show(FrW wx.heap.size (-zk) L) (a_.eval (.tmp 25)) w_ from hD 3 rfl)) (show(IsW (fnR zs n) L) (a_.eval (.tmp 29)) w_ from hD 7 rfl) (by omega) HD.out⟩,
       ⟨rfl,fun a_ w_ _ hB hR hD=>aee (show(RofS (Rat.divInt (-zk) (fnR zs n)) (L+L)) (a_.eval (.tmp 30)) w_ from hD 8 rfl)⟩,
       ⟨rfl,fun a_ w_ _ hB hR hD=>aq2 (show(RofS (Rat.divInt (-zk) (fnR zs n)) (L+L)) (a_.eval (.tmp 21)) w_ from hD 9 rfl)⟩,
       ⟨rfl,fun a_ w_ _ hB hR hD=>aq3 (show(RofS (Rat.divInt (-zk) (fnR zs n)) (L+L)) (a_.eval (.tmp 21)) w_ from hD 9 rfl)⟩,
       ⟨rfl,fun a_ w_ _ hB hR hD=>an1 (show a_.eval (.tmp 22)=.slice (some ⟨w.heap.size,0,none⟩) n n from hD 0 rfl) (show a_.eval (.tmp 23)=.int .i64 (k:Int)from hD 1 rfl) hlt⟩,
       trivial⟩
    ·intro a' w' hn' hd' hB' hR' hP';have e22:a'.eval (.tmp 22)=.slice (some ⟨w.heap.size,0,none⟩) n n:=hP' 0 (by decide);have e23:a'.eval (.tmp 23)=.int .i64 (k:Int):=hP' 1 (by decide);obtain⟨u24,e24⟩:∃u,a'.eval (.tmp 24)=u:=⟨_,rfl⟩;obtain⟨u25,e25⟩:∃u,a'.eval (.tmp 25)=u:=⟨_,rfl⟩;have e26:a'.eval (.tmp 26)=.slice (some ⟨bl,ol,none⟩) (n+1) cl:=hP' 4 (by decide);have e27:a'.eval (.tmp 27)=.int .i64 (n:Int):=hP' 5 (by decide);have e28:a'.eval (.tmp 28)=.pointer (some ⟨bl,ol+n*2,none⟩):=hP' 6 (by decide);obtain⟨u29,e29⟩:∃u,a'.eval (.tmp 29)=u:=⟨_,rfl⟩;obtain⟨u30,e30⟩:∃u,a'.eval (.tmp 30)=u:=⟨_,rfl⟩;obtain⟨u21,e21⟩:∃u,a'.eval (.tmp 21)=u:=⟨_,rfl⟩;have hU:(RofS (Rat.divInt (-zk) (fnR zs n)) (L+L)) (a'.eval (.tmp 21)) w':=hP' 9 (by decide);rw[e21]at hU;obtain⟨u31,e31⟩:∃u,a'.eval (.tmp 31)=u:=⟨_,rfl⟩;have hT:(OutQr (Rat.divInt (-zk) (fnR zs n)) (L+L)) (a'.eval (.tmp 31)) w':=hP' 10 (by decide);rw[e31]at hT;have e32:a'.eval (.tmp 32)=.int .i64 0:=hP' 11 (by decide);have e33:a'.eval (.tmp 33)=.pointer (some ⟨w.heap.size,k*3,none⟩):=hP' 12 (by decide);refine aat hn' hd' hR' (.s16 rfl <| .s4 rfl <| .same rfl <| .new e21 <| .new e22 <| .new e23 <| .new e24 <| .new e25 <| .new e26 <| .new e27 <| .new e28 <| .new e29 <| .new e30 <| .new e31 <| .new e32 <| .new e33 <| .same rfl <| .same rfl <| .nil) ?_;clear e22 e23 e24 e25 e26 e27 e28 e29 e30 e21 e31 e32 e33;obtain⟨q21,rfl,-⟩:=hU;obtain⟨x,rfl⟩:=hT.agg;obtain⟨y,p0,p1,p2,⟨pf0,pf1,pf2⟩,-⟩:=(HPR.out.below hB').cells hlt;obtain⟨t1,t2⟩:=(HPR.out.below hB').put hlt HG.out hT;have HT1:=hide t1;have HT2:=hide ((HW.out.trans (hB'.mono HW.out.size)).trans (t2.below (Nat.le_trans HW.out.size hB'.size) (Nat.le_refl _)));clear t1 t2 hT hB' hR' hP' hn' hd';unfold FE.v;go_wp2;go_roundw
     case rel=>exact⟨k+1,by go_num,by omega,HT2.out,HT1.out⟩
     case measure=>simp[intOf];omega
    ·intro a' w' hn' hd' hB' hR' hP';have e22:a'.eval (.tmp 22)=.slice (some ⟨w.heap.size,0,none⟩) n n:=hP' 0 (by decide) (by decide);have e23:a'.eval (.tmp 23)=.int .i64 (k:Int):=hP' 1 (by decide) (by decide);obtain⟨u24,e24⟩:∃u,a'.eval (.tmp 24)=u:=⟨_,rfl⟩;obtain⟨u25,e25⟩:∃u,a'.eval (.tmp 25)=u:=⟨_,rfl⟩;have e26:a'.eval (.tmp 26)=.slice (some ⟨bl,ol,none⟩) (n+1) cl:=hP' 4 (by decide) (by decide);have e27:a'.eval (.tmp 27)=.int .i64 (n:Int):=hP' 5 (by decide) (by decide);have e28:a'.eval (.tmp 28)=.pointer (some ⟨bl,ol+n*2,none⟩):=hP' 6 (by decide) (by decide);obtain⟨u29,e29⟩:∃u,a'.eval (.tmp 29)=u:=⟨_,rfl⟩;obtain⟨u30,e30⟩:∃u,a'.eval (.tmp 30)=u:=⟨_,rfl⟩;obtain⟨u21,e21⟩:∃u,a'.eval (.tmp 21)=u:=⟨_,rfl⟩;have hU:(RofS (Rat.divInt (-zk) (fnR zs n)) (L+L)) (a'.eval (.tmp 21)) w':=hP' 9 (by decide) (by decide);rw[e21]at hU;obtain⟨u31,e31⟩:∃u,a'.eval (.tmp 31)=u:=⟨_,rfl⟩;have hT:(OutQr (Rat.divInt (-zk) (fnR zs n)) (L+L)) (a'.eval (.tmp 31)) w':=hP' 10 (by decide) (by decide);rw[e31]at hT;obtain⟨u32,e32⟩:∃u,a'.eval (.tmp 32)=u:=⟨_,rfl⟩;have e33:a'.eval (.tmp 33)=.pointer (some ⟨w.heap.size,k*3,none⟩):=hP' 12 (by decide) (by decide);refine aat hn' hd' hR' (.s16 rfl <| .s4 rfl <| .same rfl <| .new e21 <| .new e22 <| .new e23 <| .new e24 <| .new e25 <| .new e26 <| .new e27 <| .new e28 <| .new e29 <| .new e30 <| .new e31 <| .new e32 <| .new e33 <| .same rfl <| .same rfl <| .nil) ?_;clear e22 e23 e24 e25 e26 e27 e28 e29 e30 e21 e31 e32 e33;obtain⟨q21,rfl,-⟩:=hU;obtain⟨x,rfl⟩:=hT.agg;obtain⟨y,p0,p1,p2,⟨pf0,pf1,pf2⟩,-⟩:=(HPR.out.below hB').cells hlt;obtain⟨t1,t2⟩:=(HPR.out.below hB').put hlt HG.out hT;have HT1:=hide t1;have HT2:=hide ((HW.out.trans (hB'.mono HW.out.size)).trans (t2.below (Nat.le_trans HW.out.size hB'.size) (Nat.le_refl _)));clear t1 t2 hT hB' hR' hP' hn' hd';unfold FE.v;go_wp2;go_roundw
     case rel=>exact⟨k+1,by go_num,by omega,HT2.out,HT1.out⟩
     case measure=>simp[intOf];omega
   ·have hlt':decide ((k:Int)<(n:Int))=false:=by simp;omega
    obtain rfl:n=k:=by omega
    have HW:=hide hbw;have HPR:=hide hpr;clear hbw hpr;go_wp2;refine bodyPost_ret (v:=_) (by simp[results,Tryz.results46,go_sem];try rfl) rfl ⟨_,rfl,Nat.le_refl _,HPR.out,HW.out⟩
end Lm
namespace Lm
open Go Go.RowKit Md
def IsQs(w:World)(v:Value)(rs:List Rat)(L:Nat):Prop:=∃es:List FE,Ce w v 3 es.length (f3 es)/\es.length=rs.length/\∀(k:Nat) (e:FE) (r:Rat),es[k]? = some e->rs[k]? = some r->IsQ r L e.v w
theorem IsQ.below{r:Rat}{L:Nat}{v:Value}{w w':World}(h:IsQ r L v w)(hb:Below w.heap.size w w'):IsQ r L v w':=by
 obtain⟨p,q,h1,h2⟩:=h;exact⟨p,q,IsR.mono4 _ _ _ _ _ _ (Rl.of_below hb) h1,h2⟩
theorem IsQs.below{w w':World}{v:Value}{rs:List Rat}{L:Nat}(h:IsQs w v rs L)(hb:Below w.heap.size w w'):IsQs w' v rs L:=by
 obtain⟨es,h1,h2,h3⟩:=h;exact⟨es,h1.below hb,h2,fun k e r a b=>(h3 k e r a b).below hb⟩
theorem IsQs.parts{w:World}{v:Value}{rs:List Rat}{L:Nat}(h:IsQs w v rs L):∃ao cap,v=.slice ao rs.length cap/\rs.length<=9223372036854775807:=by
 obtain⟨es,⟨ao,cap,rfl,c1,c2,_⟩,h2,_⟩:=h;exact⟨ao,cap,by rw[h2],by omega⟩
theorem IsQs.cell{w:World}{ao:Option Addr}{n cap k:Nat}{rs:List Rat}{L:Nat}{r:Rat}(h:IsQs w (.slice ao n cap) rs L)(hr:rs[k]? = some r):∃b off,∃x:FE,ao=some ⟨b,off,none⟩/\b<w.heap.size/\w.cell? ⟨b,off+k*3,none⟩=some (.bool x.ng)/\w.cell? ⟨b,off+k*3+1,none⟩=some (.slice x.a x.m x.c)/\w.cell? ⟨b,off+k*3+2,none⟩=some (.slice x.d x.k x.e)/\IsQ r L x.v w:=by
 obtain⟨es,⟨ao',cap',hv,c1,c2,c3⟩,h2,h3⟩:=h;obtain⟨rfl,rfl,rfl⟩:=(Value.slice.injEq .. ▸ hv);have hk:=(List.getElem?_eq_some_iff.1 hr).1;obtain⟨x,hx⟩:∃x,es[k]? = some x:=⟨_,List.getElem?_eq_getElem (by omega)⟩;rcases c3 with⟨c3,h4⟩;rcases h4 with h4|⟨b,off,rfl,hl,hc⟩
 ·omega
 ·obtain⟨f0,f1,f2⟩:=aj1 hx;exact⟨b,off,x,rfl,hl,hc _ _ f0,hc _ _ f1,hc _ _ f2,h3 k x r hx hr⟩
theorem asv:Has Tryz.prog 21:=by unfold Has;kernel_rfl
theorem avu:Has Tryz.prog 51:=by unfold Has;kernel_rfl
theorem aps:Has Tryz.prog 88:=by unfold Has;kernel_rfl
theorem ayo(w:World)(x:Value)(r:Rat)(z:Int)(L:Nat)(hx:IsQ r L x w)(hz:r=(z:Rat))(hL:L<=100000000):
  Calls Tryz.prog 88 #[x] w fun e w'=>∃v,e=.returned (.tuple #[v,.bool true])/\FrW w.heap.size z (L+6) v w'/\Below w.heap.size w w':=by
 obtain⟨ng,ao,n,cap,xs,bo,m,dap,ys,p,q,rfl,h2,h3,h4,h5,h6,h7⟩:=hx.open;have hq:=ad6 q;have e1:Rat.divInt (tp p q) (tq q)=(z:Rat):=by rw[aew,h7,hz]
 have e2:tp p q=z*tq q:=by
  have h8:((tq q:Int):Rat)≠0:=by exact_mod_cast hq
  rw[Rat.divInt_eq_div]at e1;have h9:((tp p q:Int):Rat)=((z*tq q:Int):Rat):=by
   push_cast;generalize ((tp p q:Int):Rat)=a at *
   generalize ((tq q:Int):Rat)=b at *
   generalize (z:Rat)=c at *
   grind
  exact_mod_cast h9
 refine(au9 w L ng ao n cap xs p h2 h5 bo m dap ys q h3 h4 h6 hL (by rw[e2];exact Int.mul_emod_left ..)).mono ?_;rintro e w' ⟨v,rfl,⟨a,b,rfl,ha,hb'⟩,hb⟩;refine⟨a,by rw[show b=.bool true from hb'],ha.to (by rw[e2];exact Int.mul_ediv_cancel _ hq) (Nat.le_refl _),hb⟩
def DenS(r:Rat)(L:Nat):Says:=fun v w=>∃ao n c ys,v=.slice ao n c/\Sl w (.slice ao n c) ys/\val ys=(r.den:Int)/\ys.length<=L
theorem DenS.mono(r:Rat)(L:Nat):Mono (DenS r L):=fun _ _ _ hb ⟨ao,n,c,ys,e,h,h1,h2⟩=>⟨ao,n,c,ys,e,h.below hb,h1,h2⟩
def WhoS(K:Nat)(z:Int)(L:Nat):Says:=fun v w=>∃u,v=.tuple #[u,.bool true]/\FrW K z L u w
theorem WhoS.mono(K:Nat)(z:Int)(L:Nat):Mono (WhoS K z L):=fun _ _ _ hb ⟨u,e,h⟩=>⟨u,e,h.ru (Ru.of_below hb)⟩
section
variable {dst:Option Tmp} {ty:TypeId} {pos:String} {after:Array Edge} {guard:Option (Nat×Bool)} {a:Act} {w:World} {ats:Array TypeId} {i j:Nat}
theorem aq4{g:Nat}{x:FE}{p:Says}(hp:a.eval (.tmp i)=.pointer (some ⟨g,0,none⟩))(h:w.heap[g]? = some (.cells #[.bool x.ng,.slice x.a x.m x.c,.slice x.d x.k x.e] 47 (0,0)))(hv:p x.v w):
  Does Tryz.prog {dst,op:=.load 47 (.tmp i),type:=ty,pos,after,guard} a.eval w fun v' w'=>Below w.heap.size w w'/\p v' w':=by
 have h0:w.cell? ⟨g,0,none⟩=some (.bool x.ng):=by rw[cell_of_row _ _ _ _ _ (0,0) h];rfl
 have h1:w.cell? ⟨g,1,none⟩=some (.slice x.a x.m x.c):=by rw[cell_of_row _ _ _ _ _ (0,0) h];rfl
 have h2:w.cell? ⟨g,2,none⟩=some (.slice x.d x.k x.e):=by rw[cell_of_row _ _ _ _ _ (0,0) h];rfl
 refine aa3 (v:=x.v) ?_ ⟨Below.refl _ _,hv⟩;rw[hp];unfold FE.v;go_simp
theorem alq{z:Int}{L:Nat}(h:IsW z L (a.eval (.tmp i)) w)(hL:L<=100000000):
  Does Tryz.prog {dst,op:=.call {callee:=.value (.func 21),args:=#[.tmp i],argTypes:=ats},type:=ty,pos,after,guard} a.eval w fun v w'=>Below w.heap.size w w'/\OutQr (z:Rat) (L+2) v w':=
 aah asv #[_] (by simp) ((a00 w _ z L h hL).mono fun e w' ⟨v,h,hf,hb⟩=>⟨v,h,hb,hf⟩)
theorem an3{r s:Rat}{L M N:Nat}(h1:IsQ r L (a.eval (.tmp i)) w)(h2:IsQ s M (a.eval (.tmp j)) w)(hL:2*(L+M+4)+1<=100000000)(hf:Fit (r*s) N):
  Does Tryz.prog {dst,op:=.call {callee:=.value (.func 51),args:=#[.tmp i,.tmp j],argTypes:=ats},type:=ty,pos,after,guard} a.eval w fun v w'=>Below w.heap.size w w'/\OutQr (r*s) N v w':=
 aah avu #[_,_] (by simp) ((a3e w _ _ r s L M N h1 h2 hL hf).mono fun e w' ⟨v,h,hf,hb⟩=>⟨v,h,hb,hf⟩)
theorem asw{r:Rat}{z:Int}{L K:Nat}(h:IsQ r L (a.eval (.tmp i)) w)(hz:r=(z:Rat))(hL:L<=100000000)(hK:K<=w.heap.size):
  Does Tryz.prog {dst,op:=.call {callee:=.value (.func 88),args:=#[.tmp i],argTypes:=ats},type:=ty,pos,after,guard} a.eval w fun v w'=>Below w.heap.size w w'/\WhoS K z (L+6) v w':=
 aah aps #[_] (by simp) ((ayo w _ r z L h hz hL).mono fun e w' ⟨v,h,hf,hb⟩=>⟨_,h,hb,v,rfl,hf.low hK⟩)
theorem avv{r:Rat}{L:Nat}(h:OutQr r L (a.eval (.tmp i)) w):Does Tryz.prog {dst,op:=.field 47 (.tmp i) 1,type:=ty,pos,after,guard} a.eval w fun v w'=>Below w.heap.size w w'/\DenS r L v w':=by
 obtain⟨ng,ao,cap,rs,bo,dap,ss,e1,h1,h2,l1,l2⟩:=h;have e:(execOp a.eval {dst,op:=.field 47 (.tmp i) 1,type:=ty,pos,after,guard}).run Tryz.prog w=.ok (.value (.slice bo ss.length dap)) w:=by
  simp only[execOp,e1];simp[Instr.field,asAgg,part,go_sem]
 refine⟨?_⟩;unfold Turns;rw[e];exact⟨Below.refl _ _,_,_,_,ss,rfl,h2.1,h2.2.2,l2⟩
theorem a1i{K:Nat}{z:Int}{L:Nat}(h:WhoS K z L (a.eval (.tmp i)) w):Does Tryz.prog {dst,op:=.extract (.tmp i) 0,type:=ty,pos,after,guard} a.eval w fun v w'=>Below w.heap.size w w'/\FrW K z L v w':=by
 obtain⟨q,e,ho⟩:=h;refine aa5 (v:=q) ?_ ⟨Below.refl _ _,ho⟩;rw[e];rfl
theorem a1j{K:Nat}{z:Int}{L:Nat}(h:WhoS K z L (a.eval (.tmp i)) w):Does Tryz.prog {dst,op:=.extract (.tmp i) 1,type:=ty,pos,after,guard} a.eval w fun v w'=>Below w.heap.size w w'/\Eqs (.bool true) v w':=by
 obtain⟨q,e,ho⟩:=h;refine aa5 (v:=.bool true) ?_ ⟨Below.refl _ _,rfl⟩;rw[e];rfl
end
theorem an4:∀(rs:List Rat) (w:Int) (r:Rat),wOf w (rs ++ [r])=wOf w rs*(((wOf w rs:Rat)*r).den:Int)
 | [],_,_=>rfl
 |x::rs,w,r=>an4 rs (w*(((w:Rat)*x).den:Int)) r
theorem aez{x y:Int}{A C:Nat}(hx:(x.natAbs:Int)<pw A)(hy:(y.natAbs:Int)<pw C):((x*y).natAbs:Int)<pw (A+C):=by
 rw[Int.natAbs_mul,Int.natCast_mul,ab1];have h1:=aag A;have h2:=aag C;have h3:(x.natAbs:Int)*(y.natAbs:Int)<=(pw A-1)*(pw C-1):=Int.mul_le_mul (by omega) (by omega) (by omega) (by omega);have h4:(pw A-1)*(pw C-1)=pw A*pw C-pw A-pw C+1:=by grind
 omega
theorem aid{w:World}{v:Value}{xs:List Int}(h:Sl w v xs):Limb xs:=by
 obtain⟨_,_,_,_,_,h,_⟩:=h;exact h
theorem IsQ.fit{r:Rat}{L:Nat}{v:Value}{w:World}(h:IsQ r L v w)(hL:1<=L):Fit r L:=by
 obtain⟨ng,ao,n,cap,xs,bo,m,dap,ys,p,q,rfl,h2,h3,h4,h5,h6,h7⟩:=h.open;have hp:(p.natAbs:Int)<pw L:=by
  have h8:=afj (aid h2.sl) h5;have h9:=(aac (aid h2.sl)).1;rw[<-h2.2];unfold sg;split <;> omega
 have hq:(q.natAbs:Int)<pw L:=by
  have h8:=afj (aid h3) h6;have h9:=(aac (aid h3)).1;rw[<-h4];omega
 have h1:(1:Int)<pw L:=Int.lt_of_lt_of_le (by decide) (aap hL);rw[<-h7,<-aew];refine agt (ad6 q) ?_ ?_
 ·unfold tp;split
  ·simp only[Int.natAbs_zero];omega
  ·exact hp
 ·unfold tq;split
  ·simpa using h1
  ·exact hq
theorem aja{w:Int}{r:Rat}{M L:Nat}(hw:(w.natAbs:Int)<pw M)(hr:Fit r L):Fit ((w:Rat)*r) (M+L):=by
 have e:(w:Rat)*r=Rat.divInt (w*r.num) (r.den:Int):=by
  have h1:=akv r;have h2:((r.den:Int):Rat)≠0:=by exact_mod_cast ahp r
  have h3:(((r.den:Nat):Int):Rat)=(r.den:Rat):=rfl;have h4:((w*r.num:Int):Rat)=(w:Rat)*(r.num:Rat):=Rat.intCast_mul ..;rw[Rat.divInt_eq_div,h3,h4,<-h1];rw[h3]at h2;generalize (r.den:Rat)=b at *
  grind
 rw[e];refine agt (ahp r) (aez hw hr.1) ?_;have h1:pw L<=pw (M+L):=aap (by omega);have h2:=hr.2;omega
theorem ads{P:Program}(w:World){ops:Array Oper}{rest:List Oper}{o:Oper}{a:Act}{Q:Exit->Act->World->Prop}
  (hg:o.guard=none) (l c:Operand) (t:TypeId) (hop:o.op=Op.makeSlice t l c)
  (e:TypeId) (i:TypeInfo) (z:Value) (size:Nat) (h1:P.underlying t=some (.slice e)) (h2:P.info? e=some i) (h3:i.zero=some z) (h4:i.size=size)
  (kl kc:IntKind) (L C:Int) (n m:Nat) (hl:a.eval l=.int kl L) (hc:a.eval c=.int kc C) (hL:L=(n:Int)) (hC:C=(m:Int)) (hnm:n<=m) (b2:i.bytes*m<=281474976710656) (b3:m<=9223372036854775807)
  (hK:wpList P ops Q rest (a.put o.dst (.slice (some ⟨w.heap.size,0,none⟩) n m)) (w.alloc (.cells (madeCells z.cells (m*size)) e))) :
  wpList P ops Q (o::rest) a w:=by
 refine wpList_plain hg fun K hK'=>?_
 have hb:(i.bytes:Int)*(m:Int)<=281474976710656:=by
  have h:((i.bytes*m:Nat):Int)<=281474976710656:=by omega
  rwa[Int.natCast_mul]at h
 have hrun:=run_make (P:=P) w t e i z h1 h2 h3 kl kc n m (by omega) (by omega) hb (by omega);simp only[Int.toNat_natCast]at hrun;subst hL hC h4;unfold Oper.wp;simp[execOp,hop,hl,hc,hrun,Result.andThen];exact hK' _ _ hK
section
variable {dst:Option Tmp} {ty:TypeId} {pos:String} {after:Array Edge} {guard:Option (Nat×Bool)} {a:Act} {w:World} {i j:Nat}
theorem asy{b g n cap:Nat}{ng:Bool}{ao:Option Addr}{m c:Nat}(h1:a.eval (.tmp i)=.slice (some ⟨b,0,none⟩) n cap)(h2:a.eval (.tmp j)=.slice (some ⟨g,0,none⟩) 1 1)(hg:w.heap[g]? = some (.cells #[.bool ng,.slice ao m c] 45 (0,0)))(hroom:n+1<=cap)(hc:(∃x,w.cell? ⟨b,n*2,none⟩=some x)/\(∃x,w.cell? ⟨b,n*2+1,none⟩=some x)/\w.frozen? ⟨b,n*2,none⟩=false/\w.frozen? ⟨b,n*2+1,none⟩=false):
  Does Tryz.prog {dst,op:=.call {callee:=.builtin .append,args:=#[.tmp i,.tmp j],argTypes:=#[39,39]},type:=ty,pos,after,guard} a.eval w fun v' w'=>v' = .slice (some ⟨b,0,none⟩) (n+1) cap/\w'=(w.setCell ⟨b,n*2,none⟩ (.bool ng)).setCell ⟨b,n*2+1,none⟩ (.slice ao m c):=by
 obtain⟨i0,hi,hz0,hz1,hz2⟩:=info_parts infoW;obtain⟨⟨x0,hx0⟩,⟨x1,hx1⟩,hf0,hf1⟩:=hc;have hnew:∀k u,[Value.bool ng,.slice ao m c][k]? = some u->w.cell? ((⟨g,0,none⟩:Addr).add k)=some u:=fun k u hu=>by
  have hc:∀k,w.cell? ⟨g,k,none⟩ = #[Value.bool ng,.slice ao m c][k]? :=fun k=>cell_of_row w g k _ _ (0,0) hg
  have ha:(⟨g,0,none⟩:Addr).add k=⟨g,k,none⟩:=by unfold Addr.add;split <;> simp_all
  rw[ha,hc];simpa using hu
 have hr:=run_append_room_cells (P:=Tryz.prog) (w:=w) 39 ty 45 i0 Tryz.underlying39 hi b 0 n cap ⟨g,0,none⟩ 1 1 [.bool ng,.slice ao m c] (by rw[hz1];rfl) hnew (by simp[Value.oneCell']) hroom (fun k hk=>by
  rw[hz1];simp only[List.length_cons,List.length_nil]at hk;rcases(show k=0\/k=1 by omega)with rfl|rfl
  ·simp[hx0]
  ·simp[hx1]) (fun k hk=>by
  rw[hz1];simp only[List.length_cons,List.length_nil]at hk;rcases(show k=0\/k=1 by omega)with rfl|rfl
  ·simpa using hf0
  ·simpa using hf1)
 have e:(execOp a.eval {dst,op:=.call {callee:=.builtin .append,args:=#[.tmp i,.tmp j],argTypes:=#[39,39]},type:=ty,pos,after,guard}).run Tryz.prog w=.ok (.value (.slice (some ⟨b,0,none⟩) (n+1) cap)) ((w.setCell ⟨b,n*2,none⟩ (.bool ng)).setCell ⟨b,n*2+1,none⟩ (.slice ao m c)):=by
  simp only[execOp,resolve,invoke,builtin,Sem.run_bind,Sem.run_pure,Result.andThen_ok,List.map_toArray,List.map_cons,List.map_nil,h1,h2,hr];rw[hz1];simp[World.setCells]
 refine⟨?_⟩;unfold Turns;rw[e];exact⟨rfl,rfl⟩
end
set_option maxRecDepth 100000 in
theorem afv(w:World)(v:Value)(ps:List Rat)(L M n:Nat)(h:IsQs w v ps L)(hl:ps.length=n)(hn:n<=1000)(hL0:1<=L)(hL:L<=10000000)(hM:M<=10000000)(hw:∀k,k<=n->((wOf 1 (ps.take k)).natAbs:Int)<pw M)(hz:∀z∈liftZ ps,(z.natAbs:Int)<pw M):
  Calls Tryz.prog 48 #[v] w fun e w'=>∃r,e=.returned r/\ORow w.heap.size w' r (liftZ ps) M/\Below w.heap.size w w':=by
 obtain⟨ao,cp,rfl,_⟩:=h.parts;rw[hl]at h ⊢;have H:=hide h;have HLN:=hide hl;have HWB:=hide hw;have HZB:=hide hz;have K1:=hide (wofF w 1 (by decide) (by decide));obtain⟨iW,hi,hz0,hz1,hz2⟩:=info_parts infoWz;clear h hl hw hz;go_enter Tryz.func48,Tryz.ntmps48
 go_wp2_with fail
 refine K1.out.mono ?_;rintro e w1 ⟨r1,rfl,hF1,hb1⟩;obtain⟨ng1,a1,m1,c1,rfl⟩:=hF1.agg;have hA:=hAl w1 (.cells #[.bool ng1,.slice a1 m1 c1] 45);have hnw:=heap_alloc_new w1 (.cells #[.bool ng1,.slice a1 m1 c1] 45);have HF:=hide ((hF1.fit (L':=M) (HWB.out 0 (Nat.zero_le _))).ru (Ru.of_below hA));have HB1:=hide (hb1.trans (hA.mono hb1.size));have HNW:=hide hnw;have HF3:Hid (w.heap.size<=w1.heap.size):=hb1.size;clear hF1 hb1 hA hnw K1;go_wp2_with fail
 generalize (w1.alloc (.cells #[.bool ng1,.slice a1 m1 c1] 45))=wa at *
 generalize w1.heap.size=f3 at *
 go_loopw [13] (fun iv wr=>∃(k:Nat),iv=.int .i64 k/\k<=n/\Below w.heap.size w wr/\∃ng a m c,wr.heap[f3]? = some (.cells #[.bool ng,.slice a m c] 45 (0,0))/\FrW w.heap.size (wOf 1 (ps.take k)) M (.agg #[.bool ng,.slice a m c]) wr) (fun iv _=>n-(intOf iv).toNat)
 case atStart=>exact⟨0,rfl,Nat.zero_le _,HB1.out,_,_,_,_,HNW.out,HF.out⟩
 case round=>
  clear HNW HF HB1;obtain⟨k,rfl,hk,hbw,ng,a,m,c,hf3,hF⟩:=hrel;by_cases hlt:k<n
  ·have hlt':(k:Int)<(n:Int):=by omega
   obtain⟨r,hr⟩:∃r,ps[k]? = some r:=⟨_,List.getElem?_eq_getElem (by have:=HLN.out;omega)⟩;obtain⟨b,off,x,rfl,hbl,x0,x1,x2,hx⟩:=(H.out.below hbw).cell hr;have HNXT:Hid (wOf 1 (ps.take (k+1))=wOf 1 (ps.take k)*(((wOf 1 (ps.take k):Rat)*r).den:Int)):=(show _=_ by rw[List.take_add_one,hr];exact an4 _ _ _);have HWK:=hide (HWB.out k (by omega));have HWN:=hide (HWB.out (k+1) (by omega));generalize wOf 1 (ps.take k)=wk at *
   have hfit:Fit ((wk:Rat)*r) (M+L):=aja HWK.out (hx.fit hL0);have hA:=hAl wr (.cells #[.bool x.ng,.slice x.a x.m x.c,.slice x.d x.k x.e] 47);have hnx:=heap_alloc_new wr (.cells #[.bool x.ng,.slice x.a x.m x.c,.slice x.d x.k x.e] 47);have HX:=hide (hx.below hA);have HNX:=hide hnx;have HF:=hide (hF.ru (Ru.of_below hA));have HN:=hide ((hA.block _ (aaa hf3)).trans hf3);have HW:=hide (hbw.trans (hA.mono hbw.size));have HFT:=hide hfit;have hx0:=x0;clear hbw hf3 hF hr hx hA hnx hfit hx0;go_upto_region 5 with fail
   generalize (wr.alloc (.cells #[.bool x.ng,.slice x.a x.m x.c,.slice x.d x.k x.e] 47))=wx at *
   generalize wr.heap.size=f5 at *
   clear x0 x1 x2;refine al3 6 [17,18,19,20,21,6] [(FrW w.heap.size wk M),(OutQr (wk:Rat) (M+2)),(IsQ r L),(OutQr ((wk:Rat)*r) (M+L)),(DenS ((wk:Rat)*r) (M+L)),(DenS ((wk:Rat)*r) (M+L))] rfl rfl (by decide) (by kernel_rfl) (by kernel_rfl) (by decide) (by kernel_rfl) ⟨(Mono.of4 (FrW.mono4 _ _ _)),(Mono.of4 (OutQr.mono4 _ _)),(fun _ _ _ hb_ h_=>IsQ.below h_ hb_),(Mono.of4 (OutQr.mono4 _ _)),(DenS.mono _ _),(DenS.mono _ _),trivial⟩ ?_ ?_
   ·exact⟨⟨rfl,fun a_ w_ _ hB hR hD=>ac8 ((hR 3 rfl).trans (aab rfl)) ((hB.block _ (aaa HN.out)).trans HN.out) (Mono.of4 (FrW.mono4 _ _ _) _ _ _ hB HF.out)⟩,
      ⟨rfl,fun a_ w_ _ hB hR hD=>alq (FrW.is (show(FrW w.heap.size wk M) (a_.eval (.tmp 17)) w_ from hD 0 rfl)) (by omega)⟩,
      ⟨rfl,fun a_ w_ _ hB hR hD=>aq4 (x:=x) ((hR 5 rfl).trans (aab rfl)) ((hB.block _ (aaa HNX.out)).trans HNX.out) (HX.out.below hB)⟩,
      ⟨rfl,fun a_ w_ _ hB hR hD=>an3 (OutQr.is (show(OutQr (wk:Rat) (M+2)) (a_.eval (.tmp 18)) w_ from hD 1 rfl)) (show(IsQ r L) (a_.eval (.tmp 19)) w_ from hD 2 rfl) (by omega) HFT.out⟩,
      ⟨rfl,fun a_ w_ _ hB hR hD=>avv (show(OutQr ((wk:Rat)*r) (M+L)) (a_.eval (.tmp 20)) w_ from hD 3 rfl)⟩,
      ⟨rfl,fun a_ w_ _ hB hR hD=>ahc (show(DenS ((wk:Rat)*r) (M+L)) (a_.eval (.tmp 21)) w_ from hD 4 rfl)⟩,
      trivial⟩
   ·intro a' w' hn' hd' hB' hR' hP';obtain⟨u17,e17⟩:∃u,a'.eval (.tmp 17)=u:=⟨_,rfl⟩;obtain⟨u18,e18⟩:∃u,a'.eval (.tmp 18)=u:=⟨_,rfl⟩;obtain⟨u19,e19⟩:∃u,a'.eval (.tmp 19)=u:=⟨_,rfl⟩;obtain⟨u20,e20⟩:∃u,a'.eval (.tmp 20)=u:=⟨_,rfl⟩;obtain⟨u21,e21⟩:∃u,a'.eval (.tmp 21)=u:=⟨_,rfl⟩;obtain⟨u6,e6⟩:∃u,a'.eval (.tmp 6)=u:=⟨_,rfl⟩;have hT:(DenS ((wk:Rat)*r) (M+L)) (a'.eval (.tmp 6)) w':=hP' 5 (by decide);rw[e6]at hT;refine aat hn' hd' hR' (.s4 rfl <| .same rfl <| .same rfl <| .new e6 <| .s4 rfl <| .s4 rfl <| .same rfl <| .same rfl <| .new e17 <| .new e18 <| .new e19 <| .new e20 <| .new e21 <| .s16 rfl <| .s16 rfl <| .same rfl <| .same rfl <| .same rfl <| .nil) ?_;clear e17 e18 e19 e20 e21 e6;obtain⟨ao6,n6,c6,ys,rfl,hs6,hv6,hl6⟩:=hT;have hden:IsW ((((wk:Rat)*r).den:Int)) (M+L) (.agg #[.bool false,.slice ao6 n6 c6]) w':=⟨_,_,_,_,ys,rfl,⟨hs6,by rw[hv6];rfl⟩,hl6⟩;have hF':=HF.out.ru (Ru.of_below hB');have hg3:=(hB'.block _ (aaa HN.out)).trans HN.out;have K6:=hide (mulF w' wk _ _ _ M (M+L) hF'.is hden (by omega) (by omega));have HG3:=hide hg3;have HB1:=hide (HW.out.trans (hB'.mono HW.out.size));obtain⟨_,v0,v1,vf0,vf1⟩:=aaf hg3;clear hs6 hv6 hl6 hden hF' hg3 hB' hR' hP' hn' hd';go_wp2_with fail
    refine K6.out.mono ?_;rintro e w5 ⟨v5,rfl,hF5,hb5⟩;obtain⟨ng5,a5,m5,c5,rfl⟩:=hF5.agg;have hg5:=(hb5.block _ (aaa HG3.out)).trans HG3.out;have HF5:=hide ((hF5.low HB1.out.size).fit (L':=M) (by rw[<-HNXT.out];exact HWN.out));have HG5:=hide hg5;have HB5:=hide (HB1.out.trans (hb5.mono HB1.out.size));clear v0 v1 vf0 vf1;obtain⟨_,v0,v1,vf0,vf1⟩:=aaf hg5;clear hF5 hb5 hg5 K6;go_wp2;go_roundw
    case rel=>exact⟨k+1,by go_num,by omega,(HB5.out.setCell HF3.out _).setCell HF3.out _,_,_,_,_,abv HG5.out _ _,by rw[HNXT.out];exact HF5.out.ru (acl HG5.out _ _)⟩
    case measure=>simp[intOf];omega
  ·have hlt':decide ((k:Int)<(n:Int))=false:=by simp;omega
   obtain rfl:n=k:=by omega
   rw[List.take_of_length_le (by have:=HLN.out;omega)]at hF;have HWF:Hid (((wOf 1 ps).natAbs:Int)<pw M):=(show _<_ by have h1:=HWB.out n (Nat.le_refl _);rwa[List.take_of_length_le (by have:=HLN.out;omega)]at h1);have HZZ:Hid (∀k r,ps[k]? = some r->∃z:Int,(wOf 1 ps:Rat)*r=(z:Rat)/\(liftZ ps)[k]? = some z/\(z.natAbs:Int)<pw M):=(fun k r hr=>by
    obtain⟨z,hz⟩:=ahn ps 1 r (List.mem_of_getElem? hr);have hk:=(List.getElem?_eq_some_iff.1 hr).1;have h1:(liftZ ps)[k]? = some z:=by
     rw[liftZ,List.getElem?_append_left (by simpa using hk),List.getElem?_map,hr,Option.map_some,hz];rfl
    exact⟨z,hz,h1,HZB.out z (List.mem_of_getElem? h1)⟩)
   have HZL:Hid ((liftZ ps)[n]? = some (-(wOf 1 ps))):=(show _=_ by rw[liftZ,List.getElem?_append_right (by simp;have:=HLN.out;omega)];simp[HLN.out]);have HLL:Hid ((liftZ ps).length=n+1):=(show _=_ by rw[abn,HLN.out]);generalize hzs:liftZ ps=zs at *
   generalize wOf 1 ps=wF at *
   have HW:=hide hbw;have HN:=hide hf3;have HF:=hide hF;have hadd:IntKind.i64.wrap ((n:Int)+1)=((n+1:Nat):Int):=by rw[IntKind.wrap_i64];omega
   obtain⟨wz,hwz⟩:∃wz,wz=wr:=⟨_,rfl⟩;subst hwz;have hA:=hAl wz (.cells (madeCells #[.bool false,.slice none 0 0] ((n+1)*2)) 45);have hnb:=heap_alloc_new wz (.cells (madeCells #[.bool false,.slice none 0 0] ((n+1)*2)) 45);have hflat:madeCells #[.bool false,.slice none 0 0] ((n+1)*2)=(flat (List.replicate (n+1) ⟨false,none,0,0,[]⟩)).toArray:=by
    apply Array.toList_inj.1;exact acy (n+1)
   have hpr:PRow w.heap.size (wz.alloc (.cells (madeCells #[.bool false,.slice none 0 0] ((n+1)*2)) 45)) wz.heap.size (n+1) 0 zs M:=PRow.start (by rw[hnb,hflat]);have HBV:Hid (w.heap.size<=wz.heap.size/\f3<wz.heap.size):=⟨hbw.size,aaa hf3⟩;have HW:=hide (hbw.trans (hA.mono hbw.size));have HN:=hide ((hA.block _ (aaa hf3)).trans hf3);have HF:=hide (hF.ru (Ru.of_below hA));have HPR:=hide hpr;clear hbw hf3 hF hA hnb hpr hflat;go_wp2_with (refine ads _ rfl (.tmp 28) (.tmp 31) 39 rfl 45 iW (.agg #[.bool false,.slice none 0 0]) 2 Tryz.underlying39 hi hz0 hz1 .i64 .i64 _ _ n (n+1) rfl rfl (by omega) (by omega) (by omega) (by rw[hz2];omega) (by omega) ?_)
   generalize (wz.alloc (.cells (madeCells #[.bool false,.slice none 0 0] ((n+1)*2)) 45))=wb at *
   generalize wz.heap.size=bv at *
   go_loopw [35] (fun iv wr=>∃(k:Nat),iv=.int .i64 k/\k<=n/\Below w.heap.size w wr/\wr.heap[f3]? = some (.cells #[.bool ng,.slice a m c] 45 (0,0))/\FrW w.heap.size wF M (.agg #[.bool ng,.slice a m c]) wr/\PRow w.heap.size wr bv (n+1) k zs M) (fun iv _=>n-(intOf iv).toNat)
   case atStart=>exact⟨0,rfl,Nat.zero_le _,HW.out,HN.out,HF.out,HPR.out⟩
   case round=>
    clear HW HN HF HPR;obtain⟨k,rfl,hk,hbw,hf3,hF,hpr⟩:=hrel;by_cases hltk:k<n
    ·have hltk':(k:Int)<(n:Int):=by omega
     obtain⟨r,hr⟩:∃r,ps[k]? = some r:=⟨_,List.getElem?_eq_getElem (by have:=HLN.out;omega)⟩;obtain⟨b,off,x,rfl,hbl,x0,x1,x2,hx⟩:=(H.out.below hbw).cell hr;obtain⟨z,hz,hzk,hzb⟩:=HZZ.out k r hr;have hfit:Fit ((wF:Rat)*r) (M+L):=aja HWF.out (hx.fit hL0);have hA:=hAl wr (.cells #[.bool x.ng,.slice x.a x.m x.c,.slice x.d x.k x.e] 47);have hnx:=heap_alloc_new wr (.cells #[.bool x.ng,.slice x.a x.m x.c,.slice x.d x.k x.e] 47);have HX:=hide (hx.below hA);have HNX:=hide hnx;have HF:=hide (hF.ru (Ru.of_below hA));have HN:=hide ((hA.block _ (aaa hf3)).trans hf3);have HW:=hide (hbw.trans (hA.mono hbw.size));have HPR:=hide (hpr.below hA);have HFT:=hide hfit;have HZ:=hide (And.intro hz (And.intro hzk hzb));clear hbw hf3 hF hr hx hA hnx hfit hpr hz hzk hzb;go_upto_region 12 with fail
     generalize (wr.alloc (.cells #[.bool x.ng,.slice x.a x.m x.c,.slice x.d x.k x.e] 47))=wx at *
     generalize wr.heap.size=f9 at *
     clear x0 x1 x2;refine ae9 11 9 [41,42,43,44,45,46,47,40,48,49,50] [Eqs (.slice (some ⟨bv,0,none⟩) n (n+1)),Eqs (.int .i64 (k:Int)),(FrW w.heap.size wF M),(OutQr (wF:Rat) (M+2)),(IsQ r L),(OutQr ((wF:Rat)*r) (M+L)),(WhoS wx.heap.size z (M+L+6)),(WhoS wx.heap.size z (M+L+6)),(FrW wx.heap.size z (M+L+6)),Eqs (.bool true),Eqs (.pointer (some ⟨bv,k*2,none⟩))] rfl rfl (by decide) (by kernel_rfl) (by kernel_rfl) rfl (by decide) rfl rfl (by kernel_rfl) ⟨Eqs.mono _,Eqs.mono _,(Mono.of4 (FrW.mono4 _ _ _)),(Mono.of4 (OutQr.mono4 _ _)),(fun _ _ _ hb_ h_=>IsQ.below h_ hb_),(Mono.of4 (OutQr.mono4 _ _)),(WhoS.mono _ _ _),(WhoS.mono _ _ _),(Mono.of4 (FrW.mono4 _ _ _)),Eqs.mono _,Eqs.mono _,trivial⟩ ?_ ?_ ?_
     ·exact⟨⟨rfl,fun a_ w_ _ hB hR hD=>aal ((hR 7 rfl).trans (aab rfl))⟩,
        ⟨rfl,fun a_ w_ _ hB hR hD=>aal ((hR 8 rfl).trans (aab rfl))⟩,
        ⟨rfl,fun a_ w_ _ hB hR hD=>ac8 ((hR 3 rfl).trans (aab rfl)) ((hB.block _ (aaa HN.out)).trans HN.out) (Mono.of4 (FrW.mono4 _ _ _) _ _ _ hB HF.out)⟩,
        ⟨rfl,fun a_ w_ _ hB hR hD=>alq (FrW.is (show(FrW w.heap.size wF M) (a_.eval (.tmp 43)) w_ from hD 2 rfl)) (by omega)⟩,
        ⟨rfl,fun a_ w_ _ hB hR hD=>aq4 (x:=x) ((hR 9 rfl).trans (aab rfl)) ((hB.block _ (aaa HNX.out)).trans HNX.out) (HX.out.below hB)⟩,
        ⟨rfl,fun a_ w_ _ hB hR hD=>an3 (OutQr.is (show(OutQr (wF:Rat) (M+2)) (a_.eval (.tmp 44)) w_ from hD 3 rfl)) (show(IsQ r L) (a_.eval (.tmp 45)) w_ from hD 4 rfl) (by omega) HFT.out⟩,
        ⟨rfl,fun a_ w_ _ hB hR hD=>asw (OutQr.is (show(OutQr ((wF:Rat)*r) (M+L)) (a_.eval (.tmp 46)) w_ from hD 5 rfl)) HZ.out.1 (by omega) hB.size⟩,
        ⟨rfl,fun a_ w_ _ hB hR hD=>aee (show(WhoS wx.heap.size z (M+L+6)) (a_.eval (.tmp 47)) w_ from hD 6 rfl)⟩,
        ⟨rfl,fun a_ w_ _ hB hR hD=>a1i (show(WhoS wx.heap.size z (M+L+6)) (a_.eval (.tmp 40)) w_ from hD 7 rfl)⟩,
        ⟨rfl,fun a_ w_ _ hB hR hD=>a1j (show(WhoS wx.heap.size z (M+L+6)) (a_.eval (.tmp 40)) w_ from hD 7 rfl)⟩,
        ⟨rfl,fun a_ w_ _ hB hR hD=>anz (show a_.eval (.tmp 41)=.slice (some ⟨bv,0,none⟩) n (n+1)from hD 0 rfl) (show a_.eval (.tmp 42)=.int .i64 (k:Int)from hD 1 rfl) hltk⟩,
        trivial⟩
     ·intro a' w' hn' hd' hB' hR' hP';have e41:a'.eval (.tmp 41)=.slice (some ⟨bv,0,none⟩) n (n+1):=hP' 0 (by decide);have e42:a'.eval (.tmp 42)=.int .i64 (k:Int):=hP' 1 (by decide);obtain⟨u43,e43⟩:∃u,a'.eval (.tmp 43)=u:=⟨_,rfl⟩;obtain⟨u44,e44⟩:∃u,a'.eval (.tmp 44)=u:=⟨_,rfl⟩;obtain⟨u45,e45⟩:∃u,a'.eval (.tmp 45)=u:=⟨_,rfl⟩;obtain⟨u46,e46⟩:∃u,a'.eval (.tmp 46)=u:=⟨_,rfl⟩;obtain⟨u47,e47⟩:∃u,a'.eval (.tmp 47)=u:=⟨_,rfl⟩;obtain⟨u40,e40⟩:∃u,a'.eval (.tmp 40)=u:=⟨_,rfl⟩;have hU:(WhoS wx.heap.size z (M+L+6)) (a'.eval (.tmp 40)) w':=hP' 7 (by decide);rw[e40]at hU;obtain⟨u48,e48⟩:∃u,a'.eval (.tmp 48)=u:=⟨_,rfl⟩;have hT:(FrW wx.heap.size z (M+L+6)) (a'.eval (.tmp 48)) w':=hP' 8 (by decide);rw[e48]at hT;have e49:a'.eval (.tmp 49)=.bool true:=hP' 9 (by decide);have e50:a'.eval (.tmp 50)=.pointer (some ⟨bv,k*2,none⟩):=hP' 10 (by decide);refine aat hn' hd' hR' (.s16 rfl <| .s16 rfl <| .s4 rfl <| .s4 rfl <| .new e40 <| .new e41 <| .new e42 <| .new e43 <| .new e44 <| .new e45 <| .new e46 <| .new e47 <| .new e48 <| .new e49 <| .new e50 <| .s4 rfl <| .same rfl <| .same rfl <| .nil) ?_;clear e41 e42 e43 e44 e45 e46 e47 e40 e48 e49 e50;obtain⟨q40,rfl,-⟩:=hU;obtain⟨ng5,a5,m5,c5,rfl⟩:=hT.agg;have hfit:=hT.fit (L':=M) HZ.out.2.2;obtain⟨⟨ngp,ap,mp,cp',e0,e1⟩,pf0,pf1⟩:=(HPR.out.below hB').cells (k:=k) (by omega);obtain⟨t1,t2⟩:=HPR.out.put (Nat.le_refl _) hB' (by omega) HZ.out.2.1 HW.out.size hfit;have HT1:=hide t1;have HT2:=hide (HW.out.trans (t2.below HW.out.size HBV.out.1 HBV.out.1));have HN2:=hide ((t2.other f3 (aaa HN.out) (by have:=HBV.out.2;omega) (by have:=HBV.out.2;omega)).trans HN.out);have HF2:=hide (HF.out.ru t2.ru);clear t1 t2 hT hfit hB' hR' hP' hn' hd';go_wp2;go_roundw
      case rel=>exact⟨k+1,by go_num,by omega,HT2.out,HN2.out,HF2.out,HT1.out⟩
      case measure=>simp[intOf];omega
     ·intro a' w' hn' hd' hB' hR' hP';have e41:a'.eval (.tmp 41)=.slice (some ⟨bv,0,none⟩) n (n+1):=hP' 0 (by decide) (by decide);have e42:a'.eval (.tmp 42)=.int .i64 (k:Int):=hP' 1 (by decide) (by decide);obtain⟨u43,e43⟩:∃u,a'.eval (.tmp 43)=u:=⟨_,rfl⟩;obtain⟨u44,e44⟩:∃u,a'.eval (.tmp 44)=u:=⟨_,rfl⟩;obtain⟨u45,e45⟩:∃u,a'.eval (.tmp 45)=u:=⟨_,rfl⟩;obtain⟨u46,e46⟩:∃u,a'.eval (.tmp 46)=u:=⟨_,rfl⟩;obtain⟨u47,e47⟩:∃u,a'.eval (.tmp 47)=u:=⟨_,rfl⟩;obtain⟨u40,e40⟩:∃u,a'.eval (.tmp 40)=u:=⟨_,rfl⟩;have hU:(WhoS wx.heap.size z (M+L+6)) (a'.eval (.tmp 40)) w':=hP' 7 (by decide) (by decide);rw[e40]at hU;obtain⟨u48,e48⟩:∃u,a'.eval (.tmp 48)=u:=⟨_,rfl⟩;have hT:(FrW wx.heap.size z (M+L+6)) (a'.eval (.tmp 48)) w':=hP' 8 (by decide) (by decide);rw[e48]at hT;obtain⟨u49,e49⟩:∃u,a'.eval (.tmp 49)=u:=⟨_,rfl⟩;have e50:a'.eval (.tmp 50)=.pointer (some ⟨bv,k*2,none⟩):=hP' 10 (by decide) (by decide);refine aat hn' hd' hR' (.s16 rfl <| .s16 rfl <| .s4 rfl <| .s4 rfl <| .new e40 <| .new e41 <| .new e42 <| .new e43 <| .new e44 <| .new e45 <| .new e46 <| .new e47 <| .new e48 <| .new e49 <| .new e50 <| .s4 rfl <| .same rfl <| .same rfl <| .nil) ?_;clear e41 e42 e43 e44 e45 e46 e47 e40 e48 e49 e50;obtain⟨q40,rfl,-⟩:=hU;obtain⟨ng5,a5,m5,c5,rfl⟩:=hT.agg;have hfit:=hT.fit (L':=M) HZ.out.2.2;obtain⟨⟨ngp,ap,mp,cp',e0,e1⟩,pf0,pf1⟩:=(HPR.out.below hB').cells (k:=k) (by omega);obtain⟨t1,t2⟩:=HPR.out.put (Nat.le_refl _) hB' (by omega) HZ.out.2.1 HW.out.size hfit;have HT1:=hide t1;have HT2:=hide (HW.out.trans (t2.below HW.out.size HBV.out.1 HBV.out.1));have HN2:=hide ((t2.other f3 (aaa HN.out) (by have:=HBV.out.2;omega) (by have:=HBV.out.2;omega)).trans HN.out);have HF2:=hide (HF.out.ru t2.ru);clear t1 t2 hT hfit hB' hR' hP' hn' hd';go_wp2;go_roundw
      case rel=>exact⟨k+1,by go_num,by omega,HT2.out,HN2.out,HF2.out,HT1.out⟩
      case measure=>simp[intOf];omega
    ·have hltk':decide ((k:Int)<(n:Int))=false:=by simp;omega
     obtain rfl:n=k:=by omega
     have K7:=hide (negF wr wF _ M hF.is (by omega));obtain⟨_,v0,v1,_,_⟩:=aaf hf3;have HW:=hide hbw;have HPR:=hide hpr;have HWR:=hide hbw.size;clear hbw hf3 hF hpr;go_wp2_with fail
     refine K7.out.mono ?_;rintro e w7 ⟨v7,rfl,hF7,hb7⟩;obtain⟨ng7,a7,m7,c7,rfl⟩:=hF7.agg;have hA:=hAl w7 (.cells #[.bool ng7,.slice a7 m7 c7] 45);have hg:=heap_alloc_new w7 (.cells #[.bool ng7,.slice a7 m7 c7] 45);have hb8:=hb7.trans (hA.mono hb7.size);obtain⟨⟨ngp,ap,mp,cp',e0,e1⟩,pf0,pf1⟩:=(HPR.out.below hb8).cells (k:=n) (by omega);have hf:=(hF7.fit (L':=M) (by rw[Int.natAbs_neg];exact HWF.out)).ru (Ru.of_below hA);obtain⟨t1,t2⟩:=HPR.out.put (Nat.le_refl _) hb8 (by omega) HZL.out HWR.out hf;have HT1:=hide t1;have HT2:=hide (HW.out.trans (t2.below HW.out.size HBV.out.1 HBV.out.1));have hcells:(∃x,(w7.alloc (.cells #[.bool ng7,.slice a7 m7 c7] 45)).cell? ⟨bv,n*2,none⟩=some x)/\(∃x,(w7.alloc (.cells #[.bool ng7,.slice a7 m7 c7] 45)).cell? ⟨bv,n*2+1,none⟩=some x)/\(w7.alloc (.cells #[.bool ng7,.slice a7 m7 c7] 45)).frozen? ⟨bv,n*2,none⟩=false/\(w7.alloc (.cells #[.bool ng7,.slice a7 m7 c7] 45)).frozen? ⟨bv,n*2+1,none⟩=false:=⟨⟨_,e0⟩,⟨_,e1⟩,pf0,pf1⟩;clear t1 t2 hF7 hb7 hA hb8 hf K7 v0 v1 e0 e1 pf0 pf1;go_wp2_with (at_builtin;refine abo rfl (asy (i:=52) (j:=55) rfl rfl hg (Nat.le_refl _) hcells) ?_)
     clear hg hcells;go_wp2;refine bodyPost_ret (v:=_) (by simp[results,Tryz.results48,go_sem];try rfl) rfl ⟨_,rfl,⟨bv,by rw[hzs,HLL.out],HBV.out.1,by rw[hzs,HLL.out];exact HT1.out,by rw[hzs,HLL.out];omega⟩,HT2.out⟩
end Lm
namespace Lm
open Go Go.RowKit Md
def thrown(e:Int):List PanicEntry:=[{v:=.iface 35 (.int .i64 e),recovered:=false}]
theorem ab6(w:World)(rv:Value)(e:Int):
  Calls Tryz.prog 158 #[rv,.int .i64 e] w fun en w'=>((e=0/\en=.returned rv)\/(e≠0/\en=.panicked (thrown e)))/\Below w.heap.size w w':=by
 by_cases he:e=0
 ·subst he;go_enter Tryz.func158,Tryz.ntmps158
  go_wp2;refine bodyPost_ret (v:=_) (by simp[results,Tryz.results158,go_sem];try rfl) rfl ⟨.inl ⟨by trivial,rfl⟩,Below.refl _ _⟩
 ·have hne:(e==0)=false:=by simpa using he
  go_enter Tryz.func158,Tryz.ntmps158
  go_wp2;exact⟨rfl,.inr ⟨he,rfl⟩,Below.refl _ _⟩
end Lm
namespace Lm
open Go Go.RowKit Md
theorem ahq(K:Nat)(w:World):Dm.WFr K K w false none 0 [] 0:=⟨⟨ah4 K w,⟨fun z hz=>(by cases hz),rfl⟩,rfl,fun h=>(by omega)⟩,by decide⟩
theorem PRow.zeros{K:Nat}{w:World}{bv n i:Nat}{zs:List Int}{L:Nat}(h:w.heap[bv]? = some (.cells (flat (List.replicate n ⟨false,none,0,0,[]⟩)).toArray 45 (0,0)))(hz:∀k z,k<i->zs[k]? = some z->z=0)(hK:K<=w.heap.size):PRow K w bv n i zs L:=by
 have hr:∀(k:Nat) (e:WE),(List.replicate n (⟨false,none,0,0,[]⟩:WE))[k]? = some e->e=⟨false,none,0,0,[]⟩:=fun k e he=>by
  rw[List.getElem?_replicate]at he;split at he
  ·exact(Option.some.inj he).symm
  ·cases he
 refine⟨_,fun _=>K,fun _=>K,List.length_replicate,h,fun k e _ he=>hr k e he,fun k e z hk he hz'=>?_,fun k k' _ hk=>Nat.le_refl _⟩;obtain rfl:=hr k e he;obtain rfl:=hz k z hk hz';exact⟨ahq K w,rfl,Nat.zero_le _,Nat.le_refl _,hK⟩
def noneR(n:Nat):List Int:=List.replicate n 0 ++ [1]
theorem ac0(n:Nat):(noneR n).length=n+1:=by simp[noneR]
theorem a1k{W:World}{T:TypeId}{v:Value}{zs:List Int}{L g:Nat}(hg:g=W.heap.size)(hr:IsRow W v zs L):IsM (W.alloc (.cells #[v] T)) (.slice (some ⟨g,0,none⟩) 1 1) [zs] L:=by
 subst hg;have hb:=hAl W (.cells #[v] T);have hn:=heap_alloc_new W (.cells #[v] T);refine⟨[v],⟨_,_,rfl,by simp,by decide,rfl,.inr ⟨_,0,rfl,aaa hn,fun j u hu=>?_⟩⟩,fun j u z hu hz=>?_⟩
 ·rw[Nat.zero_add,cell_of_row _ _ _ _ _ (0,0) hn,List.getElem?_toArray];exact hu
 ·match j with
  |0=>
   obtain rfl:=Option.some.inj hu;obtain rfl:=Option.some.inj hz;exact hr.below hb
  |j+1=>simp at hu
theorem ahr(w:World)(n:Nat)(hn:n<=1000):
  Calls Tryz.prog 156 #[.int .i64 (n:Int)] w fun e w'=>(∃g,e=.returned (.slice (some ⟨g,0,none⟩) 1 1)/\w.heap.size<=g/\IsM w' (.slice (some ⟨g,0,none⟩) 1 1) [noneR n] 1)/\Below w.heap.size w w':=by
 obtain⟨iW,hi,hz0,hz1,hz2⟩:=info_parts infoWz;have hadd:IntKind.i64.wrap ((n:Int)+1)=((n+1:Nat):Int):=by rw[IntKind.wrap_i64];omega
 go_enter Tryz.func156,Tryz.ntmps156
 go_wp2_with (refine ads _ rfl (.tmp 5) (.tmp 5) 39 rfl 45 iW (.agg #[.bool false,.slice none 0 0]) 2 Tryz.underlying39 hi hz0 hz1 .i64 .i64 _ _ (n+1) (n+1) rfl rfl (by omega) (by omega) (by omega) (by rw[hz2];omega) (by omega) ?_)
 have hA:=hAl w (.cells (madeCells #[.bool false,.slice none 0 0] ((n+1)*2)) 45);have hnb:=heap_alloc_new w (.cells (madeCells #[.bool false,.slice none 0 0] ((n+1)*2)) 45);have hflat:madeCells #[.bool false,.slice none 0 0] ((n+1)*2)=(flat (List.replicate (n+1) ⟨false,none,0,0,[]⟩)).toArray:=by
  apply Array.toList_inj.1;exact acy (n+1)
 have hpr:PRow w.heap.size (w.alloc (.cells (madeCells #[.bool false,.slice none 0 0] ((n+1)*2)) 45)) w.heap.size (n+1) n (noneR n) 1:=PRow.zeros (by rw[hnb,hflat]) (fun k z hk hz=>by
  rw[noneR,List.getElem?_append_left (by simpa using hk),List.getElem?_replicate,if_pos hk]at hz
  exact(Option.some.inj hz).symm) hA.size
 have HB:=hide hA;have HPR:=hide hpr;clear hA hnb hflat hpr;generalize (w.alloc (.cells (madeCells #[.bool false,.slice none 0 0] ((n+1)*2)) 45))=wa at *
 have K1:=hide (wofF wa 1 (by decide) (by decide));go_wp2_with fail
 refine K1.out.mono ?_;rintro e w1 ⟨r1,rfl,hF1,hb1⟩;obtain⟨ng1,a1,m1,c1,rfl⟩:=hF1.agg;obtain⟨⟨ngp,ap,mp,cp',e0,e1⟩,pf0,pf1⟩:=(HPR.out.below hb1).cells (k:=n) (by omega);obtain⟨t1,t2⟩:=HPR.out.put (Nat.le_refl _) hb1 (by omega) (by rw[noneR,List.getElem?_append_right (by simp)];simp) HB.out.size (hF1.fit (L':=1) (by decide));have HT1:=hide t1;have HT2:=hide (HB.out.trans (t2.below HB.out.size (Nat.le_refl _) (Nat.le_refl _)));clear t1 t2 hF1 hb1 K1;have hlt:n<n+1:=by omega
 have hlen:(noneR n).length=n+1:=ac0 n;have hsz:((w1.setCell ⟨w.heap.size,n*2,none⟩ (.bool ng1)).setCell ⟨w.heap.size,n*2+1,none⟩ (.slice a1 m1 c1)).heap.size=w1.heap.size:=by simp[World.setCell]
 have hrow:=a1k (T:=39) hsz.symm (PRow.full (zs:=noneR n) (by rw[hlen];exact HT1.out) (by rw[hlen];omega));rw[hlen]at hrow;have HM:=hide hrow;have HSZ:=hide hsz;have HT3:=hide (HT2.out.trans (hAl _ (.cells #[.slice (some ⟨w.heap.size,0,none⟩) (n+1) (n+1)] 39) |>.mono HT2.out.size));clear hlen hrow hsz;go_wp2;refine bodyPost_ret (v:=_) (by simp[results,Tryz.results156,go_sem];try rfl) rfl ⟨⟨_,rfl,by rw[<-HSZ.out];exact HT2.out.size,HM.out⟩,HT3.out⟩
end Lm
namespace Lm
open Go Go.RowKit Md
def IsEq(w:World)(v:Value)(rows:List (List Int))(L:Nat):Prop:=∃s,v=.iface 72 s/\IsM w s rows L
def IsLi(w:World)(v:Value)(rows:List (List Int))(L:Nat):Prop:=∃s,v=.iface 75 s/\IsM w s rows L
theorem IsEq.below{w w':World}{v:Value}{rows:List (List Int)}{L:Nat}(h:IsEq w v rows L)(hb:Below w.heap.size w w'):IsEq w' v rows L:=by
 obtain⟨s,e,h1⟩:=h;exact⟨s,e,h1.below hb⟩
theorem IsLi.below{w w':World}{v:Value}{rows:List (List Int)}{L:Nat}(h:IsLi w v rows L)(hb:Below w.heap.size w w'):IsLi w' v rows L:=by
 obtain⟨s,e,h1⟩:=h;exact⟨s,e,h1.below hb⟩
def MirL(w':World)(n:Nat)(ls:List (List Int))(e:Ending):Prop:=
 (ls = []/\∃v,e=.returned v/\IsEq w' v [noneR n] 32) \/
 (ls≠[]/\∃R Q,Ech (n+1) (mir ls) R Q/\(((∃r∈elR (n+1) (kerE (n+1) R Q),r.any big=true)/\e=.panicked (thrown 2))\/((∀r∈elR (n+1) (kerE (n+1) R Q),r.any big=false)/\∃v,e=.returned v/\IsEq w' v (elR (n+1) (kerE (n+1) R Q)) 32)))
theorem an5(w:World)(v:Value)(ls:List (List Int))(L n:Nat)(h:IsM w v ls L)(hs:Shaped ls ((n+1:Nat):Int))(hn:n<=16)(hL:L<=1510000):
  Calls Tryz.prog 209 #[v,.int .i64 (n:Int)] w fun e w'=>MirL w' n ls e/\Below w.heap.size w w':=by
 have hadd:IntKind.i64.wrap ((n:Int)+1)=((n+1:Nat):Int):=by rw[IntKind.wrap_i64];omega
 have K1:=hide (ahr w n (by omega));have K2:=hide (afu w v ls (n+1) L h hs hL);obtain⟨ao,cp,rfl,hm⟩:=h.parts;clear h hs;by_cases h0:ls = []
 ·subst h0;clear K2 hadd;go_enter Tryz.func209,Tryz.ntmps209
  go_wp2_with fail
  refine K1.out.mono ?_;rintro e w1 ⟨⟨g,rfl,hg,hM⟩,hb⟩;have HM:=hide hM;have HB:=hide hb;clear hM hb K1;go_wp2;refine bodyPost_ret (v:=_) (by simp[results,Tryz.results209,go_sem];try rfl) rfl ⟨.inl ⟨by trivial,_,rfl,_,rfl,HM.out.wide (by decide)⟩,HB.out⟩
 ·have hlen:ls.length≠0:=fun h=>h0 (List.length_eq_zero_iff.1 h)
  have hne:((ls.length:Int)==0)=false:=by simp;exact h0
  have H0:=hide h0;clear K1 h0;obtain⟨m,hm'⟩:∃m,ls.length=m:=⟨_,rfl⟩;rw[hm']at hne hlen hm ⊢;have K2:Hid (Calls Tryz.prog 161 #[.slice ao m cp,.int .i64 ((n+1:Nat):Int)] w fun e w'=>KerOut w.heap.size w' (n+1) L ls e/\Below w.heap.size w w'):=by
   rw[<-hm'];exact K2
  clear hm';go_enter Tryz.func209,Tryz.ntmps209
  go_wp2_with fail
  refine K2.out.mono ?_;rintro e w1 ⟨⟨R,Q,hE,⟨hex,rfl⟩|⟨hal,rv,rfl,hO⟩⟩,hb⟩
  ·have K3:=hide (ab6 w1 (.slice none 0 0) 2);have HB:=hide hb;have HE:=hide hE;have HX:=hide hex;clear hE hex hb K2;go_wp2_with fail
   refine K3.out.mono ?_;rintro e w2 ⟨⟨h2,_⟩|⟨_,rfl⟩,hb2⟩
   ·exact absurd h2 (by decide)
   ·have HB2:=hide (HB.out.trans (hb2.mono HB.out.size));clear hb2;go_wp2;exact⟨rfl,.inr ⟨H0.out,R,Q,HE.out,.inl ⟨HX.out,rfl⟩⟩,HB2.out⟩
  ·have K3:=hide (ab6 w1 rv 0);have HB:=hide hb;have HE:=hide hE;have HX:=hide hal;have HO:=hide (hO.fit hal).is;clear hE hal hb hO K2;go_wp2_with fail
   refine K3.out.mono ?_;rintro e w2 ⟨⟨_,rfl⟩|⟨h2,_⟩,hb2⟩
   ·have HB2:=hide (HB.out.trans (hb2.mono HB.out.size));have HO2:=hide (HO.out.below hb2);clear hb2;go_wp2;refine bodyPost_ret (v:=_) (by simp[results,Tryz.results209,go_sem];try rfl) rfl ⟨.inr ⟨H0.out,R,Q,HE.out,.inr ⟨HX.out,_,rfl,_,rfl,HO2.out⟩⟩,HB2.out⟩
   ·exact absurd rfl h2
end Lm
namespace Lm
open Go Go.RowKit Md
theorem ayp{n:Nat}{rows:List (List Int)}{R:List Md.Rw}{Q:List Nat}(h:Ech n rows R Q)(x:Md.Rw):RS R x↔RS (rows.map fnR) x:=by
 constructor
 ·intro hx;refine hx.trans fun y hy=>?_
  obtain⟨r,hr,rfl⟩:=h.mem hy;exact .mem (List.mem_map.2 ⟨r,hr,rfl⟩)
 ·intro hx;refine hx.trans fun y hy=>?_
  obtain⟨r,hr,rfl⟩:=List.mem_map.1 hy;exact h.rows_in hr
def LowE(w':World)(n:Nat)(rows:List (List Int))(e:Ending):Prop:=
 (RS (rows.map fnR) (fnR (noneR n))/\∃v,e=.returned v/\IsEq w' v [noneR n] 32) \/
 (¬RS (rows.map fnR) (fnR (noneR n))/\∃R Q,Ech (n+1) rows R Q/\(((∃r∈(baR R Q (n+1)).map red,r.any big=true)/\e=.panicked (thrown 2))\/((∀r∈(baR R Q (n+1)).map red,r.any big=false)/\∃v,e=.returned v/\IsEq w' v ((baR R Q (n+1)).map red) 32)))
theorem an6(w:World)(v:Value)(rows:List (List Int))(L n:Nat)(h:IsM w v rows L)(hs:Shaped rows ((n+1:Nat):Int))(hn:n<=16)(hL0:1<=L)(hL:L<=1510000):
  Calls Tryz.prog 154 #[v,.int .i64 (n:Int)] w fun e w'=>LowE w' n rows e/\Below w.heap.size w w':=by
 have hadd:IntKind.i64.wrap ((n:Int)+1)=((n+1:Nat):Int):=by rw[IntKind.wrap_i64];omega
 have K1:=hide (ahr w n (by omega));have H:=hide h;have HS:=hide hs;obtain⟨ao,cp,rfl,hm⟩:=h.parts;clear h hs;obtain⟨m,hm'⟩:∃m,rows.length=m:=⟨_,rfl⟩;rw[hm']at H hm ⊢;clear hm';go_enter Tryz.func154,Tryz.ntmps154
 go_wp2_with fail
 refine K1.out.mono ?_;rintro e w1 ⟨⟨g,rfl,hg,hM⟩,hb⟩;obtain⟨b,off,u,hbe,hbl,hu,hr⟩:=hM.cell (i:=0) (z:=noneR n) rfl;obtain⟨rfl,rfl⟩:g=b/\0=off:=by simpa using hbe
 obtain⟨au,cu,rfl,hul⟩:=hr.parts;have K2:=hide (apn w1 (.slice ao m cp) (.slice au (noneR n).length cu) rows (noneR n) (n+1) L (H.out.below hb) HS.out (hr.wide hL0) (ac0 n) hL);have K4:=hide (fun w2 (hb2:Below w.heap.size w w2)=>ano w2 (.slice ao m cp) rows (n+1) L (H.out.below hb2) HS.out hL);rw[ac0]at K2 hu hr hul;have HU:=hide hu;have HM:=hide ((show IsM w1 _ [noneR n] 32 from hM.wide (by decide)));have HB:=hide hb;clear hM hb hg hr hbe hul hu K1 H HS;have hu:=HU.out;rw[show(0:Nat)+0=0 from rfl]at hu;go_wp2_with fail
 refine K2.out.mono ?_;rintro e w2 ⟨⟨R,Q,b,hE,rfl,hb⟩,hb2⟩;have HB2:=hide (HB.out.trans (hb2.mono HB.out.size));have HM2:=hide (HM.out.below hb2);have HI:Hid (b=true↔RS (rows.map fnR) (fnR (noneR n))):=(show _↔_ from hb.trans (ayp hE _));clear hE hb hb2 K2 HB HM hu HU;cases b with
 |true=>
  go_wp2;refine bodyPost_ret (v:=_) (by simp[results,Tryz.results154,go_sem];try rfl) rfl ⟨.inl ⟨HI.out.1 (by simp),_,rfl,_,rfl,HM2.out⟩,HB2.out⟩
 |false=>
  have K4':=hide (K4.out w2 HB2.out);clear K4;go_wp2_with fail
  refine K4'.out.mono ?_;have HI2:Hid (¬RS (rows.map fnR) (fnR (noneR n))):=(show ¬_ from fun hh=>Bool.false_ne_true (HI.out.2 hh));rintro e w3 ⟨⟨R,Q,hE,⟨hex,rfl⟩|⟨hal,rv,rfl,hO⟩⟩,hb⟩
  ·have K3:=hide (ab6 w3 (.slice none 0 0) 2);have HB:=hide (HB2.out.trans (hb.mono HB2.out.size));have HE:=hide hE;have HX:Hid (∃r∈(baR R Q (n+1)).map red,r.any big=true):=(show ∃r∈_,_ by
    obtain⟨r,hr,hb⟩:=hex
    exact⟨red r,List.mem_map.2 ⟨r,hr,rfl⟩,hb⟩)
   clear hE hex hb K4';go_wp2_with fail
   refine K3.out.mono ?_;rintro e w4 ⟨⟨h2,_⟩|⟨_,rfl⟩,hb2⟩
   ·exact absurd h2 (by decide)
   ·have HB2:=hide (HB.out.trans (hb2.mono HB.out.size));clear hb2;go_wp2;exact⟨rfl,.inr ⟨HI2.out,R,Q,HE.out,.inl ⟨HX.out,rfl⟩⟩,HB2.out⟩
  ·have K3:=hide (ab6 w3 rv 0);have HB:=hide (HB2.out.trans (hb.mono HB2.out.size));have HE:=hide hE;have hal':∀r∈(baR R Q (n+1)).map red,r.any big=false:=fun r hr=>by
    obtain⟨r',h1,rfl⟩:=List.mem_map.1 hr;exact hal r' h1
   have HX:=hide hal';have HO:=hide (hO.fit hal').is;clear hE hal hal' hb hO K4';go_wp2_with fail
   refine K3.out.mono ?_;rintro e w4 ⟨⟨_,rfl⟩|⟨h2,_⟩,hb2⟩
   ·have HB2:=hide (HB.out.trans (hb2.mono HB.out.size));have HO2:=hide (HO.out.below hb2);clear hb2;go_wp2;refine bodyPost_ret (v:=_) (by simp[results,Tryz.results154,go_sem];try rfl) rfl ⟨.inr ⟨HI2.out,R,Q,HE.out,.inr ⟨HX.out,_,rfl,_,rfl,HO2.out⟩⟩,HB2.out⟩
   ·exact absurd rfl h2
end Lm
namespace Lm
open Go Go.RowKit Md
def AskQ(w:World)(f:FuncId)(cap:Array Value)(rs:List Rat)(L:Nat)(p:Rat->Bool):Prop:=∀(W:World) (r:Rat) (xv:Value),Below w.heap.size w W->r∈rs->OutQr r L xv W->Calls Tryz.prog f (#[xv]++cap) W fun e W'=>e=.returned (.bool (p r))/\Below W.heap.size W W'
theorem ayq(w:World)(bv:Nat)(rs:List Rat)(L:Nat)(h:QRw3 w bv rs.length rs.length rs L)(hn:rs.length<=1000)(f:FuncId)(hf:Has Tryz.prog f)(cap:Array Value)(p:Rat->Bool)(hA:AskQ w f cap rs L p):
  Calls Tryz.prog 190 #[.slice (some ⟨bv,0,none⟩) rs.length rs.length,.func (.func f) #[] cap] w fun e w'=>(∃r:Int,e=.returned (.int .i64 r)/\decide (0<=r)=rs.any p)/\Below w.heap.size w w':=by
 have H:=hide h;have HA:=hide hA;have hlt0:=h.lt;clear h hA;obtain⟨n,hnn⟩:∃n,rs.length=n:=⟨_,rfl⟩;rw[hnn]at H hn ⊢;have HN:=hide hnn;clear hnn;go_enter Tryz.func190,Tryz.ntmps190
 go_wp2;go_loopw [5,8] (fun _ iv wr=>∃(k:Nat),iv=.int .i64 k/\k<=n/\(rs.take k).any p=false/\Below w.heap.size w wr) (fun _ iv _=>n-(intOf iv).toNat)
 case atStart=>exact⟨0,rfl,Nat.zero_le _,by simp,Below.refl _ _⟩
 case round=>
  obtain⟨k,rfl,hk,hany,hbw⟩:=hrel;have HW:=hide hbw;have HY:=hide hany;by_cases hlt:k<n
  ·obtain⟨z,hz⟩:∃z,rs[k]? = some z:=⟨_,List.getElem?_eq_getElem (by have:=HN.out;omega)⟩;obtain⟨x,x0,x1,x2,_,hx⟩:=H.out.cells hlt;have hx:=hx hlt z hz;replace x0:=(hbw.cell (p:=⟨bv,k*3,none⟩) hlt0).trans x0;replace x1:=(hbw.cell (p:=⟨bv,k*3+1,none⟩) hlt0).trans x1;replace x2:=(hbw.cell (p:=⟨bv,k*3+2,none⟩) hlt0).trans x2;have hlt':(k:Int)<(n:Int):=by omega
   have KC:=HA.out wr z _ hbw (List.mem_of_getElem? hz) (hx.ru (Ru.of_below hbw));unfold FE.v at KC;have KC:=hide KC;have HZ:=hide hz;clear hbw hany hx hz;have hE:∀args w,(callFunc f args).run Tryz.prog w=.ok (.enter f args) w:=fun args w=>hf.enter args w
   go_wp2_with fail
   refine KC.out.mono ?_;rintro e w3 ⟨rfl,hb3⟩;have HB3:=hide (HW.out.trans (hb3.mono HW.out.size));clear hb3 KC hE x0 x1 x2;obtain⟨pz,hpz⟩:∃b,p z=b:=⟨_,rfl⟩;rw[hpz];have HPZ:=hide hpz;clear hpz;cases pz with
   |true=>
    go_wp2;go_ret;exact⟨⟨k,rfl,by rw[decide_eq_true (by omega),eq_comm,List.any_eq_true];exact⟨z,List.mem_of_getElem? HZ.out,HPZ.out⟩⟩,HB3.out⟩
   |false=>
    go_wp2;go_roundw
    case rel=>exact⟨k+1,by go_num,by omega,adc HZ.out HY.out HPZ.out,HB3.out⟩
    case measure=>simp[intOf];omega
  ·have hlt':decide ((k:Int)<(n:Int))=false:=by simp;omega
   clear hbw hany;go_wp2;go_ret;refine⟨⟨-1,rfl,?_⟩,HW.out⟩;have:=HY.out;rw[List.take_of_length_le (by have:=HN.out;omega)]at this;rw[this];rfl
theorem ayr(w:World)(bv:Nat)(rs:List Rat)(L:Nat)(h:QRw3 w bv rs.length rs.length rs L)(hn:rs.length<=1000)(f:FuncId)(hf:Has Tryz.prog f)(cap:Array Value)(p:Rat->Bool)(hA:AskQ w f cap rs L p):
  Calls Tryz.prog 173 #[.slice (some ⟨bv,0,none⟩) rs.length rs.length,.func (.func f) #[] cap] w fun e w'=>e=.returned (.bool (rs.any p))/\Below w.heap.size w w':=by
 have K:=hide (ayq w bv rs L h hn f hf cap p hA);clear h hA;go_enter Tryz.func173,Tryz.ntmps173
 go_wp2_with fail
 refine K.out.mono ?_;rintro e w1 ⟨⟨r,rfl,hr⟩,hb⟩;have HB:=hide hb;have HR:=hide hr;clear hb K hr;go_wp2;refine bodyPost_ret (v:=_) (by simp[results,Tryz.results173,go_sem];try rfl) rfl ⟨by rw[<-HR.out],HB.out⟩
theorem ays:Has Tryz.prog 174:=by unfold Has;kernel_rfl
theorem ayt(W:World)(r:Rat)(L:Nat)(xv:Value)(hx:OutQr r L xv W)(hL:2*(L+2)<=100000000):
  Calls Tryz.prog 174 #[xv] W fun e W'=>e=.returned (.bool (bigQ r))/\Below W.heap.size W W':=by
 obtain⟨x,rfl⟩:=hx.agg;unfold FE.v at hx ⊢;have hba:=hAl W (.cells #[.bool x.ng,.slice x.a x.m x.c,.slice x.d x.k x.e] 47);have KL:=hide (ayl _ _ r L (hx.ru (Ru.of_below hba)) hL);have HBA:=hide hba;clear hx hba;go_enter Tryz.func174,Tryz.ntmps174
 go_wp2_with fail
 refine KL.out.mono ?_;rintro e w1 ⟨m,rfl,hm,hb⟩;have HB:=hide (HBA.out.trans (hb.mono HBA.out.size));have hbg:bigQ r=decide ((m:Int) > 32):=by
  cases hq:bigQ r with
  |false=>rw[eq_comm,decide_eq_false_iff_not];have:=hm.2 ((agu r).1 hq);omega
  |true=>
   rw[eq_comm,decide_eq_true_iff];apply Classical.byContradiction;intro hno;have:=(agu r).2 (hm.1 (by omega));rw[hq]at this;cases this
 clear hb KL hm;have HBG:=hide hbg;clear hbg;go_wp2;refine bodyPost_ret (v:=_) (by simp[results,Tryz.results174,go_sem];try rfl) rfl ⟨by rw[HBG.out],HB.out⟩
theorem a1l(w:Int)(r:Rat):(w:Rat)*r=Rat.divInt (w*r.num) (r.den:Int):=by
 have h1:=akv r;have h2:((r.den:Int):Rat)≠0:=by exact_mod_cast ahp r
 have h3:(((r.den:Nat):Int):Rat)=(r.den:Rat):=rfl;have h4:((w*r.num:Int):Rat)=(w:Rat)*(r.num:Rat):=Rat.intCast_mul ..;rw[Rat.divInt_eq_div,h3,h4,<-h1];rw[h3]at h2;generalize (r.den:Rat)=b at *
 grind
theorem aq5(w:Int)(r:Rat):(((w:Rat)*r).den:Int)<=r.den:=by
 obtain⟨_,h2⟩:=aes (z:=w*r.num) (ahp r);rw[<-a1l]at h2;omega
theorem avw{B:Nat}: ∀(rs:List Rat) (w:Int) (A:Nat),(∀r∈rs,(r.den:Int)<pw B)->(w.natAbs:Int)<pw A->((wOf w rs).natAbs:Int)<pw (A+B*rs.length)
 | [],w,A,_,h=>by simpa[wOf]using h
 |r::rs,w,A,hr,h=>by
  have h1:=aq5 w r;have h2:=hr r (List.mem_cons_self ..);have h3:((((w:Rat)*r).den:Int).natAbs:Int)<pw B:=by omega
  have h4:=avw rs (w*(((w:Rat)*r).den:Int)) (A+B) (fun r hr'=>hr r (List.mem_cons_of_mem _ hr')) (aez h h3);rw[show A+B*(r::rs).length=A+B+B*rs.length by rw[List.length_cons,Nat.mul_add];omega];exact h4
theorem aie{rs:List Rat}{L n:Nat}(h:∀r∈rs,Fit r L)(hl:rs.length<=n)(k:Nat):((wOf 1 (rs.take k)).natAbs:Int)<pw (1+L*n):=by
 have h1:=avw (B:=L) (rs.take k) 1 1 (fun r hr=>(h r (List.mem_of_mem_take hr)).2) (by decide);have h2:L*(rs.take k).length<=L*n:=Nat.mul_le_mul_left _ (by rw[List.length_take];omega);have h3:pw (1+L*(rs.take k).length)<=pw (1+L*n):=aap (by omega);omega
theorem afn{rs:List Rat}{L n:Nat}(h:∀r∈rs,Fit r L)(hl:rs.length<=n):∀z∈liftZ rs,(z.natAbs:Int)<pw (1+L*n+L):=by
 have hw:=aie h hl rs.length;rw[List.take_length]at hw;intro z hz;rcases List.mem_append.1 hz with hz|hz
 ·obtain⟨r,hr,rfl⟩:=List.mem_map.1 hz;exact(aja hw (h r hr)).1
 ·obtain rfl:=List.mem_singleton.1 hz;have h3:pw (1+L*n)<=pw (1+L*n+L):=aap (by omega);rw[Int.natAbs_neg];omega
theorem QRw3.isQs{w:World}{bv n:Nat}{rs:List Rat}{L:Nat}(h:QRw3 w bv n n rs L)(hl:rs.length=n)(hn:n<=1000):IsQs w (.slice (some ⟨bv,0,none⟩) n n) rs L:=by
 obtain⟨es,e1,e2,e3⟩:=h;subst e1;refine⟨es,⟨_,_,rfl,Nat.le_refl _,by omega,?_,.inr ⟨bv,0,rfl,aaa e2,fun j u hu=>?_⟩⟩,hl.symm,fun k e r he hr=>(e3 k e r (List.getElem?_eq_some_iff.1 he).1 he hr).is⟩
 ·exact aeh es
 ·rw[Nat.zero_add,cell_of_row _ _ _ _ _ (0,0) e2,List.getElem?_toArray];exact hu
end Lm
namespace Lm
open Go Go.RowKit Md
noncomputable def leadN(zs:List Int):Nat:=open Classical in if h:∃p,Lead zs p then h.choose else 0
theorem Lead.n{zs:List Int}{p:Nat}(h:Lead zs p):leadN zs=p:=by
 have h':∃p,Lead zs p:=⟨p,h⟩;unfold leadN;rw[dif_pos h'];exact h'.choose_spec.one h
noncomputable def basZ(zs:List Int)(n:Nat):List (List Int)->List Int
 | []=>zs
 |s::ss=>basZ (clrZ zs s (leadN s) (n+1)) n ss
theorem alr(n:Nat):∀(ss:List (List Int)) (zs s:List Int),basZ zs n (ss ++ [s])=clrZ (basZ zs n ss) s (leadN s) (n+1)
 | [],_,_=>rfl
 |_::ss,_,s=>alr n ss _ s
theorem an7(ls ss:List Int)(p n:Nat):(clrZ ls ss p n).length=n:=by unfold clrZ;rw[aao]
theorem agv(n:Nat):∀(ss:List (List Int)) (zs:List Int),zs.length=n+1->(basZ zs n ss).length=n+1
 | [],_,h=>h
 |_::ss,_,_=>agv n ss _ (an7 _ _ _ _)
theorem acq{zs:List Int}{k:Nat}{z:Int}(h:zs[k]? = some z):fnR zs k=z:=by rw[fnR,List.getD_eq_getElem?_getD,h];rfl
theorem akz{ls ss:List Int}{p n c:Nat}(h:c<n):fnR (clrZ ls ss p n) c=fnR ss p*fnR ls c-fnR ls p*fnR ss c:=acq (by unfold clrZ;exact abd h)
theorem ahs{n:Nat}: ∀(ss:List (List Int)) (zs:List Int),(∀s∈ss,(∃p,p<n/\Lead s p)/\fnR s n=0)->fnR zs n≠0->fnR (basZ zs n ss) n≠0
 | [],_,_,h=>h
 |s::ss,zs,hs,h=>by
  refine ahs ss _ (fun s hs'=>hs s (List.mem_cons_of_mem _ hs')) ?_;obtain⟨⟨p,hp,hl⟩,h0⟩:=hs s (List.mem_cons_self ..);rw[akz (by omega),h0,hl.n];have:=hl.1;rw[Int.mul_zero,Int.sub_zero];exact Int.mul_ne_zero this h
theorem a3f{ls ss:List Int}{A C:Nat}(hl:∀z∈ls,(z.natAbs:Int)<pw A)(hs:∀z∈ss,(z.natAbs:Int)<pw C)(p n:Nat):∀z∈clrZ ls ss p n,(z.natAbs:Int)<pw (A+C+1):=by
 have hbl:∀c,((fnR ls c).natAbs:Int)<pw A:=fun c=>acg hl (by have:=aag A;omega) c
 have hbs:∀c,((fnR ss c).natAbs:Int)<pw C:=fun c=>acg hs (by have:=aag C;omega) c
 intro z hz;obtain⟨c,hc⟩:=List.mem_iff_getElem?.1 hz;have hcn:=(List.getElem?_eq_some_iff.1 hc).1;rw[an7]at hcn;have h1:=acq hc;rw[akz hcn]at h1;rw[<-h1];have h2:=aez (hbs p) (hbl c);have h3:=aez (hbl p) (hbs c);have h4:pw (A+C+1)=4294967296*pw (A+C):=by rw[ab1,ab1];have:pw 1=4294967296:=rfl;rw[this];grind
 have h5:pw (C+A)=pw (A+C):=by rw[Nat.add_comm]
 have h6:=aag (A+C);omega
def BasdO(K:Nat)(w':World)(zs:List Int)(n:Nat)(steps:List (List Int))(e:Ending):Prop:=
 ((∃r∈lowQ (basZ zs n steps) n,bigQ r=true)/\e=.panicked (thrown 2))\/((∀r∈lowQ (basZ zs n steps) n,Fit r 32)/\∃rv,e=.returned rv/\ORow K w' rv (liftZ (lowQ (basZ zs n steps) n)) 600)
theorem ad3(zs:List Int)(n:Nat):(lowQ zs n).length=n:=by simp[lowQ,qRow]
theorem aj2(w:World)(lv sv:Value)(zs:List Int)(steps:List (List Int))(L n:Nat)(h:IsRow w lv zs L)(hzl:zs.length=n+1)(hs:IsM w sv steps 32)(hst:∀s∈steps,s.length=n+1/\(∃p,p<n/\Lead s p)/\fnR s n=0)(hd:fnR zs n≠0)(hn:n<=16)(hm:steps.length<=64)(hL0:32<=L)(hL:L<=1000000):
  Calls Tryz.prog 162 #[lv,sv] w fun e w'=>BasdO w.heap.size w' zs n steps e/\Below w.heap.size w w':=by
 obtain⟨al,cl,rfl,_⟩:=h.parts;obtain⟨a2,c2,rfl,_⟩:=hs.parts;have hpz:=abe h;have HR0:=hide h;have HS:=hide hs;have HST:=hide hst;have HD:=hide hd;have HZL:=hide hzl;have HPZ:=hide hpz;obtain⟨m,hmm⟩:∃m,steps.length=m:=⟨_,rfl⟩;rw[hmm]at HS hm ⊢;rw[hzl]at HR0 ⊢;have HM:=hide hmm;clear h hs hst hd hzl hpz hmm;go_enter Tryz.func162,Tryz.ntmps162
 go_wp2;go_loopw [0,10] (fun lw iv wr=>∃(k:Nat),iv=.int .i64 k/\k<=m/\Below w.heap.size w wr/\∃ao cp,lw=.slice ao (n+1) cp/\IsRow wr lw (basZ zs n (steps.take k)) (L+33*k)/\∀z∈basZ zs n (steps.take k),(z.natAbs:Int)<pw (L+33*k)) (fun _ iv _=>m-(intOf iv).toNat)
 case atStart=>exact⟨0,rfl,Nat.zero_le _,Below.refl _ _,_,_,rfl,HR0.out,HPZ.out⟩
 case round=>
  obtain⟨k,rfl,hk,hbw,ao,cp,rfl,hrow,hlt⟩:=hrel;by_cases hltk:k<m
  ·have hlt':(k:Int)<(m:Int):=by omega
   obtain⟨s,hsg⟩:∃s,steps[k]? = some s:=⟨_,List.getElem?_eq_getElem (by have:=HM.out;omega)⟩;obtain⟨b,off,u,rfl,hbl,hu,hur⟩:=(HS.out.below hbw).cell hsg;obtain⟨hsl,⟨p,hpn,hpl⟩,hs0⟩:=HST.out s (List.mem_of_getElem? hsg);have hps:=abe hur;have hbl':(basZ zs n (steps.take k)).length=n+1:=agv n _ _ HZL.out;have K:=an0 wr (.slice ao (n+1) cp) u (basZ zs n (steps.take k)) s (L+33*k) (n+1) p hrow (hur.wide (by omega)) hbl' hsl hpl (by omega) (by omega) (by omega);have hnx:clrZ (basZ zs n (steps.take k)) s p (n+1)=basZ zs n (steps.take (k+1)):=by rw[List.take_add_one,hsg];exact(by rw[hpl.n]:_=clrZ (basZ zs n (steps.take k)) s (leadN s) (n+1)).trans (alr n _ _ _).symm
   have hlt2:=a3f hlt hps p (n+1);rw[hnx]at K hlt2;have K:=hide K;have HL2:=hide hlt2;have HW:=hide hbw;obtain⟨au,cu,rfl,_⟩:=hur.parts;clear hrow hlt hlt2 hbw hur hps hbl' hnx hsl hsg hs0;go_wp2_with fail
   refine K.out.mono ?_;rintro e w3 ⟨r,rfl,hO,hb3⟩;have HB3:=hide (HW.out.trans (hb3.mono HW.out.size));have HO:=hide (hO.fit HL2.out).is;obtain⟨ar,cr,rfl,_⟩:=HO.out.parts;clear hb3 hO K;go_wp2;go_roundw
   case rel=>exact⟨k+1,by go_num,by omega,HB3.out,_,_,by rw[agv n _ _ HZL.out],HO.out,HL2.out⟩
   case measure=>simp[intOf];omega
  ·have hlt':decide ((k:Int)<(m:Int))=false:=by simp;omega
   obtain rfl:m=k:=by omega
   rw[List.take_of_length_le (by have:=HM.out;omega)]at hrow hlt;have hdd:=ahs (n:=n) steps zs (fun s hs=>(HST.out s hs).2) HD.out;have K:=hide (an2 wr (.slice ao (n+1) cp) (basZ zs n steps) (L+33*m) n hrow (agv n _ _ HZL.out) hdd (by omega) (by omega));have HW:=hide hbw;clear hbw hrow hlt hdd;generalize hbz:basZ zs n steps=bz at *
   go_wp2_with fail
   refine K.out.mono ?_;rintro e w4 ⟨bv,rfl,hbv,hQ,hb4⟩;have HQL:=hide (ad3 bz n);have K2:=ayr w4 bv (lowQ bz n) (L+33*m+(L+33*m)) (by rw[HQL.out];exact hQ) (by rw[HQL.out];omega) _ ays #[] bigQ (fun W z xv hbW hz hx=>ayt W z _ xv hx (by omega));rw[HQL.out]at K2;have K2:=hide K2;have HB4:=hide (HW.out.trans (hb4.mono HW.out.size));have HIQ:=hide (hQ.isQs HQL.out (by omega));clear hbv hQ hb4 K;go_wp2_with fail
   refine K2.out.mono ?_;rintro e w5 ⟨rfl,hb5⟩;have HB5:=hide (HB4.out.trans (hb5.mono HB4.out.size));have HIQ5:=hide (HIQ.out.below hb5);clear hb5 K2;cases hany:(lowQ bz n).any bigQ with
   |true=>
    have HA:=hide (List.any_eq_true.1 hany);clear hany;go_wp2;exact⟨rfl,by unfold BasdO;rw[hbz];exact .inl ⟨HA.out,rfl⟩,HB5.out⟩
   |false=>
    have hf:∀r∈lowQ bz n,Fit r 32:=fun r hr=>(agu r).1 (by simpa using List.any_eq_false.1 hany r hr)
    have K3:=hide (afv w5 _ (lowQ bz n) _ 545 n HIQ5.out HQL.out (by omega) (by omega) (by omega) (by omega) (fun k hk=>by
     have h1:=aie hf (Nat.le_of_eq HQL.out) k;have h2:pw (1+32*n)<=pw 545:=aap (by omega)
     omega) (fun z hz=>by
     have h1:=afn hf (Nat.le_of_eq HQL.out) z hz;have h2:pw (1+32*n+32)<=pw 545:=aap (by omega)
     omega))
    have HF:=hide hf;clear hany hf;go_wp2_with fail
    refine K3.out.mono ?_;rintro e w6 ⟨r,rfl,hO,hb6⟩;have HO:=hide ((hO.fit (M:=600) (fun z hz=>by
     have h1:=afn HF.out (Nat.le_of_eq HQL.out) z hz;have h2:pw (1+32*n+32)<=pw 600:=aap (by omega)
     omega)).low HB5.out.size)
    have HB6:=hide (HB5.out.trans (hb6.mono HB5.out.size));obtain⟨ar,cr,rfl,_⟩:=HO.out.is.parts;clear hO hb6 K3;go_wp2;refine bodyPost_ret (v:=_) (by simp[results,Tryz.results162,go_sem];try rfl) rfl ⟨by unfold BasdO;rw[hbz];exact .inr ⟨HF.out,_,rfl,HO.out⟩,HB6.out⟩
end Lm
namespace Lm
open Go Go.RowKit Md
def QPt(w:World)(bq n:Nat)(ps:List Rat)(L:Nat):Prop:=ps.length=n/\∃fs:List FE,fs.length=n/\w.heap[bq]? = some (.cells (f3 fs).toArray 47 (0,0))/\∀(i:Nat) (f:FE) (r:Rat),fs[i]? = some f->ps[i]? = some r->(f=⟨false,none,0,0,none,0,0⟩/\r=0)\/OutQr r L f.v w
theorem QPt.ru{w w':World}{bq n:Nat}{ps:List Rat}{L:Nat}(h:QPt w bq n ps L)(hr:Ru w w')(hb:w'.heap[bq]? = w.heap[bq]?):QPt w' bq n ps L:=by
 obtain⟨h0,fs,h1,h2,h3⟩:=h;refine⟨h0,fs,h1,hb.trans h2,fun i f r a b=>?_⟩;rcases h3 i f r a b with h|h
 ·exact .inl h
 ·exact .inr (h.ru hr)
theorem QPt.lt{w:World}{bq n:Nat}{ps:List Rat}{L:Nat}(h:QPt w bq n ps L):bq<w.heap.size:=by
 obtain⟨h0,fs,h1,h2,h3⟩:=h;exact aaa h2
theorem QPt.below{w w':World}{bq n:Nat}{ps:List Rat}{L:Nat}(h:QPt w bq n ps L)(hb:Below w.heap.size w w'):QPt w' bq n ps L:=h.ru (Ru.of_below hb) (hb.block _ h.lt)
theorem QPt.start{w:World}{bq n:Nat}{L:Nat}(h:w.heap[bq]? = some (.cells (madeCells #[.bool false,.slice none 0 0,.slice none 0 0] (n*3)) 47 (0,0))):QPt w bq n (List.replicate n 0) L:=by
 refine⟨by simp,List.replicate n ⟨false,none,0,0,none,0,0⟩,by simp,?_,fun i f r a b=>.inl ⟨?_,?_⟩⟩
 ·rw[h];congr 2;apply Array.toList_inj.1;exact aqz n
 ·rw[List.getElem?_replicate]at a;split at a
  ·exact(Option.some.inj a).symm
  ·cases a
 ·rw[List.getElem?_replicate]at b;split at b
  ·exact(Option.some.inj b).symm
  ·cases b
theorem QPt.cells{w:World}{bq n:Nat}{ps:List Rat}{L i:Nat}(h:QPt w bq n ps L)(hi:i<n):∃x:FE,w.cell? ⟨bq,i*3,none⟩=some (.bool x.ng)/\w.cell? ⟨bq,i*3+1,none⟩=some (.slice x.a x.m x.c)/\w.cell? ⟨bq,i*3+2,none⟩=some (.slice x.d x.k x.e)/\(w.frozen? ⟨bq,i*3,none⟩=false/\w.frozen? ⟨bq,i*3+1,none⟩=false/\w.frozen? ⟨bq,i*3+2,none⟩=false):=by
 obtain⟨h0,fs,h1,h2,h3⟩:=h;obtain⟨x,hx⟩:∃x,fs[i]? = some x:=⟨_,List.getElem?_eq_getElem (by omega)⟩;obtain⟨f1,f2,f4⟩:=aj1 hx;refine⟨x,?_,?_,?_,⟨frozen_of_row _ _ _ _ _ h2,frozen_of_row _ _ _ _ _ h2,frozen_of_row _ _ _ _ _ h2⟩⟩ <;> rw[cell_of_row _ _ _ _ _ (0,0) h2,List.getElem?_toArray] <;> assumption
theorem QPt.put{w:World}{bv n k:Nat}{ps:List Rat}{L:Nat}{r:Rat}{x:FE}(h:QPt w bv n ps L)(hk:k<n)(hx:OutQr r L x.v w):
  QPt (((w.setCell ⟨bv,k*3,none⟩ (.bool x.ng)).setCell ⟨bv,k*3+1,none⟩ (.slice x.a x.m x.c)).setCell ⟨bv,k*3+2,none⟩ (.slice x.d x.k x.e)) bv n (ps.set k r) L/\Tch bv w (((w.setCell ⟨bv,k*3,none⟩ (.bool x.ng)).setCell ⟨bv,k*3+1,none⟩ (.slice x.a x.m x.c)).setCell ⟨bv,k*3+2,none⟩ (.slice x.d x.k x.e)):=by
 obtain⟨h0,fs,h1,h2,h3⟩:=h;have ht:Tch bv w (((w.setCell ⟨bv,k*3,none⟩ (.bool x.ng)).setCell ⟨bv,k*3+1,none⟩ (.slice x.a x.m x.c)).setCell ⟨bv,k*3+2,none⟩ (.slice x.d x.k x.e)):=((ab8 w bv (k*3) _).trans (ab8 _ bv (k*3+1) _)).trans (ab8 _ bv (k*3+2) _);have s1:=heap_setCell_same w bv (k*3) _ _ (.bool x.ng) h2;have s2:=heap_setCell_same _ bv (k*3+1) _ _ (.slice x.a x.m x.c) s1;have s3:=heap_setCell_same _ bv (k*3+2) _ _ (.slice x.d x.k x.e) s2;have hru:Ru w (((w.setCell ⟨bv,k*3,none⟩ (.bool x.ng)).setCell ⟨bv,k*3+1,none⟩ (.slice x.a x.m x.c)).setCell ⟨bv,k*3+2,none⟩ (.slice x.d x.k x.e)):=Ru.of_one h2 (by decide) (azp fs) ht.size (fun k hk hn=>ht.other k hk hn);refine⟨⟨by simp[h0],fs.set k x,by simp[h1],?_,fun i f r' hf hr'=>?_⟩,ht⟩
 ·rw[s3,avs fs k x (by omega)];simp
 ·by_cases e:k=i
  ·subst e;rw[List.getElem?_set_self (by omega)]at hf hr';obtain rfl:=Option.some.inj hf;obtain rfl:=Option.some.inj hr';exact .inr (hx.ru hru)
  ·rw[List.getElem?_set_ne e]at hf hr';rcases h3 i f r' hf hr' with h|h
   ·exact .inl h
   ·exact .inr (h.ru hru)
theorem ayu(L:Nat)(w:World):IsQ 0 L (FE.v ⟨false,none,0,0,none,0,0⟩) w:=⟨0,0,⟨false,none,0,0,[],none,0,0,[],rfl,(ahq 0 w).wh.ag,(ah4 0 w).sl,rfl,Nat.zero_le _,Nat.zero_le _⟩,by simp⟩
theorem QPt.isQs{w:World}{bv n:Nat}{ps:List Rat}{L:Nat}(h:QPt w bv n ps L)(hn:n<=1000):IsQs w (.slice (some ⟨bv,0,none⟩) n n) ps L:=by
 obtain⟨h0,es,e1,e2,e3⟩:=h;subst e1;refine⟨es,⟨_,_,rfl,Nat.le_refl _,by omega,aeh es,.inr ⟨bv,0,rfl,aaa e2,fun j u hu=>?_⟩⟩,h0.symm,fun k e r he hr=>?_⟩
 ·rw[Nat.zero_add,cell_of_row _ _ _ _ _ (0,0) e2,List.getElem?_toArray];exact hu
 ·rcases e3 k e r he hr with⟨rfl,rfl⟩|h
  ·exact ayu L w
  ·exact h.is
def MkR(K n:Nat):Says:=fun v w=>∃g,v=.slice (some ⟨g,0,none⟩) n n/\K<=g/\w.heap[g]? = some (.cells (List.replicate n (.slice none 0 0)).toArray 39 (0,0))
theorem MkR.mono(K n:Nat):Mono (MkR K n):=fun _ _ _ hb ⟨g,e,h1,h2⟩=>⟨g,e,h1,(hb.block _ (aaa h2)).trans h2⟩
def MkQ(K n L:Nat):Says:=fun v w=>∃g,v=.slice (some ⟨g,0,none⟩) n n/\K<=g/\QPt w g n (List.replicate n 0) L
theorem MkQ.mono(K n L:Nat):Mono (MkQ K n L):=fun _ _ _ hb ⟨g,e,h1,h2⟩=>⟨g,e,h1,h2.below hb⟩
theorem a1m(n:Nat):(madeCells (Value.slice none 0 0).cells n).toList=List.replicate n (.slice none 0 0):=by
 have h:(Value.slice none 0 0).cells = #[.slice none 0 0]:=rfl;rw[h];apply List.ext_getElem?;intro i;rw[Array.getElem?_toList,List.getElem?_replicate];by_cases hi:i<n
 ·have e0:(madeCells #[.slice none 0 0] n)[i]? = some (.slice none 0 0):=by simp[madeCells,hi,Nat.mod_one]
  rw[e0,if_pos hi]
 ·rw[Array.getElem?_eq_none (by rw[size_madeCells];omega),if_neg hi]
theorem infoSs:(Tryz.prog.info? 39).map (fun i=>(i.zero,i.size,i.bytes))=some (some (.slice none 0 0),1,24):=by kernel_rfl
section
variable {dst:Option Tmp} {ty:TypeId} {pos:String} {after:Array Edge} {guard:Option (Nat×Bool)} {a:Act} {w:World} {i j:Nat}
theorem a3g{K n:Nat}(h:a.eval (.tmp i)=.int .i64 (n:Int))(hn:n<=1000)(hK:K<=w.heap.size):Does Tryz.prog {dst,op:=.makeSlice 23 (.tmp i) (.tmp i),type:=ty,pos,after,guard} a.eval w fun v' w'=>Below w.heap.size w w'/\MkR K n v' w':=by
 obtain⟨iW,hi,hz0,hz1,hz2⟩:=info_parts infoSs;have hrun:=run_make (P:=Tryz.prog) w 23 39 iW (.slice none 0 0) Tryz.underlying23 hi hz0 .i64 .i64 n n (by omega) (by omega) (by rw[hz2];omega) (by omega);simp only[Int.toNat_natCast,hz1,Nat.mul_one]at hrun;have e:(execOp a.eval {dst,op:=.makeSlice 23 (.tmp i) (.tmp i),type:=ty,pos,after,guard}).run Tryz.prog w=.ok (.value (.slice (some ⟨w.heap.size,0,none⟩) n n)) (w.alloc (.cells (madeCells (Value.slice none 0 0).cells n) 39)):=by simp[execOp,h,hrun,Result.andThen]
 refine⟨?_⟩;unfold Turns;rw[e];have hb:=hAl w (.cells (madeCells (Value.slice none 0 0).cells n) 39);have hh:=heap_alloc_new w (.cells (madeCells (Value.slice none 0 0).cells n) 39);refine⟨hb,w.heap.size,rfl,hK,?_⟩;rw[hh,show madeCells (Value.slice none 0 0).cells n=(List.replicate n (Value.slice none 0 0)).toArray from Array.toList_inj.1 (a1m n)]
theorem a3h{K n L:Nat}(h:a.eval (.tmp i)=.int .i64 (n:Int))(hn:n<=1000)(hK:K<=w.heap.size):Does Tryz.prog {dst,op:=.makeSlice 31 (.tmp i) (.tmp i),type:=ty,pos,after,guard} a.eval w fun v' w'=>Below w.heap.size w w'/\MkQ K n L v' w':=by
 obtain⟨iW,hi,hz0,hz1,hz2⟩:=info_parts infoRz;have hrun:=run_make (P:=Tryz.prog) w 31 47 iW (.agg #[.bool false,.slice none 0 0,.slice none 0 0]) Tryz.underlying31 hi hz0 .i64 .i64 n n (by omega) (by omega) (by rw[hz2];omega) (by omega);simp only[Int.toNat_natCast,hz1]at hrun;have e:(execOp a.eval {dst,op:=.makeSlice 31 (.tmp i) (.tmp i),type:=ty,pos,after,guard}).run Tryz.prog w=.ok (.value (.slice (some ⟨w.heap.size,0,none⟩) n n)) (w.alloc (.cells (madeCells #[.bool false,.slice none 0 0,.slice none 0 0] (n*3)) 47)):=by simp[execOp,h,hrun,Result.andThen];rfl
 refine⟨?_⟩;unfold Turns;rw[e];have hb:=hAl w (.cells (madeCells #[.bool false,.slice none 0 0,.slice none 0 0] (n*3)) 47);have hh:=heap_alloc_new w (.cells (madeCells #[.bool false,.slice none 0 0,.slice none 0 0] (n*3)) 47);exact⟨hb,w.heap.size,rfl,hK,QPt.start hh⟩
end
theorem ORow.rwo{K:Nat}{w:World}{v:Value}{zs:List Int}{L:Nat}(h:ORow K w v zs L):∃es bv,v=.slice (some ⟨bv,0,none⟩) es.length es.length/\RwO K w v es/\es.map WE.z=zs/\∀e∈es,e.zs.length<=L:=by
 obtain⟨bv,rfl,hK,⟨es,B,T,e1,e2,e3,e4,e5⟩,hl⟩:=h;have hz:∀(k:Nat) (e:WE),es[k]? = some e->∃z,zs[k]? = some z/\Dm.WFr (B k) (T k) w e.ng e.a e.c e.zs z/\e.m=e.zs.length/\e.zs.length<=L/\K<=B k:=by
  intro k e he;have hk:=(List.getElem?_eq_some_iff.1 he).1;obtain⟨z,hz⟩:∃z,zs[k]? = some z:=⟨_,List.getElem?_eq_getElem (by omega)⟩;obtain⟨g1,g2,g3,g4,_⟩:=e4 k e z (by omega) he hz;exact⟨z,hz,g1,g2,g3,g4⟩
 refine⟨es,bv,by rw[e1],⟨⟨aas es,.inr ⟨bv,zs.length,_,by rw[e1],hK,e2,by omega,by unfold maxLen;omega,?_,?_⟩⟩,fun e he=>?_⟩,?_,fun e he=>?_⟩
 ·simp[aas,e1]
 ·rw[<-aas];simp
 ·obtain⟨k,hk⟩:=List.mem_iff_getElem?.1 he;obtain⟨z,_,g1,g2,_,g4⟩:=hz k e hk;have:=g1.fr.ow.mono g4;rwa[<-g2]at this
 ·apply List.ext_getElem?;intro k;rw[List.getElem?_map];cases hk:es[k]? with
  |none=>
   rw[List.getElem?_eq_none_iff]at hk;rw[Option.map_none,eq_comm,List.getElem?_eq_none_iff];omega
  |some e=>
   obtain⟨z,h1,g1,g2,_⟩:=hz k e hk;rw[h1,Option.map_some];congr 1;exact g1.wh.worth
 ·obtain⟨k,hk⟩:=List.mem_iff_getElem?.1 he;obtain⟨z,_,g1,g2,g3,_⟩:=hz k e hk;exact g3
end Lm
namespace Lm
open Go Go.RowKit Md
def GrS(K:Nat)(zs:List Int)(L:Nat):Says:=fun v w=>∃es,RwO K w v es/\es.map WE.z=zs/\∀e∈es,e.zs.length<=L
theorem GrS.mono(K:Nat)(zs:List Int)(L:Nat):Mono (GrS K zs L):=fun _ _ _ hb ⟨es,h1,h2⟩=>⟨es,h1.below hb,h2⟩
theorem GrS.is{K:Nat}{zs:List Int}{L:Nat}{v:Value}{w:World}(h:GrS K zs L v w):IsRow w v zs L:=by
 obtain⟨es,h1,h2,h3⟩:=h;exact⟨es,h1.rw,h2,h3⟩
section
variable {dst:Option Tmp} {ty:TypeId} {pos:String} {after:Array Edge} {guard:Option (Nat×Bool)} {a:Act} {w:World} {i j:Nat}
theorem a1n{K g L:Nat}{u:Value}{zs:List Int}(h1:a.eval (.tmp i)=u)(hu:ORow K w u zs L)(h2:a.eval (.tmp j)=.slice (some ⟨g,0,none⟩) 1 1)(hg:w.heap[g]? = some (.cells #[.bool false,.slice none 0 0] 45 (0,0)))(hn:zs.length<=1000)(hK:K<=w.heap.size):
  Does Tryz.prog {dst,op:=.call {callee:=.builtin .append,args:=#[.tmp i,.tmp j],argTypes:=#[39,39]},type:=ty,pos,after,guard} a.eval w fun v' w'=>Below w.heap.size w w'/\GrS K (zs ++ [0]) L v' w':=by
 obtain⟨es,bv,rfl,R,hz,hl⟩:=hu.rwo;have hel:es.length<=1000:=by rw[<-hz]at hn;simpa using hn
 obtain⟨i0,hi,hz0,hz1,hz2⟩:=info_parts infoW;have hnew:∀k u,[Value.bool false,.slice none 0 0][k]? = some u->w.cell? ((⟨g,0,none⟩:Addr).add k)=some u:=fun k u hu=>by
  have hc:∀k,w.cell? ⟨g,k,none⟩ = #[Value.bool false,.slice none 0 0][k]? :=fun k=>cell_of_row w g k _ _ (0,0) hg
  have ha:(⟨g,0,none⟩:Addr).add k=⟨g,k,none⟩:=by unfold Addr.add;split <;> simp_all
  rw[ha,hc];simpa using hu
 obtain⟨v',w',hr,ho,hgr,_⟩:=run_append_own (P:=Tryz.prog) w K 39 ty 45 i0 _ 2 32 Tryz.underlying39 hi hz0 hz1 hz2 rfl (by decide) _ es.length (flat es) R.own ⟨g,0,none⟩ 1 1 [.bool false,.slice none 0 0] rfl hnew (by simp[Value.oneCell']) (by simp[maxLen];omega) (by omega) hK;have hr':=run_append_grow (P:=Tryz.prog) w 39 ty 45 i0 _ Tryz.underlying39 hi hz0 ⟨bv,0,none⟩ es.length es.length (flat es) (by rw[hz1];exact R.own.1) (R.own.cells rfl) ⟨g,0,none⟩ 1 1 [.bool false,.slice none 0 0] (by rw[hz1];rfl) hnew (by omega) (by omega) (growslice_fits (by omega) (by rw[hz2];omega));have hb:Below w.heap.size w w':=by
  rw[hr']at hr;injection hr with e1 e2;rw[<-e2]
  (repeat' first|with_reducible(first|exact Below.refl _ _|assumption|refine gdrewN ?_ _|refine Below.alloc ?_ ?_ _|refine Below.drew ?_|refine Below.setCell ?_ ?_ _)|go_size)
 have e:(execOp a.eval {dst,op:=.call {callee:=.builtin .append,args:=#[.tmp i,.tmp j],argTypes:=#[39,39]},type:=ty,pos,after,guard}).run Tryz.prog w=.ok (.value v') w':=by
  simp only[execOp,resolve,invoke,builtin,Sem.run_bind,Sem.run_pure,Result.andThen_ok,List.map_toArray,List.map_cons,List.map_nil,h1,h2,hr]
 refine⟨?_⟩;unfold Turns;rw[e];have hfl:flat (es ++ [⟨false,none,0,0,[]⟩])=flat es ++ [.bool false,.slice none 0 0]:=by rw[afq];rfl
 refine⟨hb,es ++ [⟨false,none,0,0,[]⟩],⟨by rw[hfl,List.length_append];exact ho,fun e he=>?_⟩,by rw[List.map_append,hz];rfl,fun e he=>?_⟩
 ·rcases List.mem_append.1 he with he|he
  ·exact(R.ow e he).below hb
  ·obtain rfl:=List.mem_singleton.1 he;exact ah4 K w'
 ·rcases List.mem_append.1 he with he|he
  ·exact hl e he
  ·obtain rfl:=List.mem_singleton.1 he;exact Nat.zero_le _
end
def LiM(K:Nat)(w:World)(v:Value)(k:Nat)(rows:List (List Int))(L:Nat):Prop:=∃vs:List Value,w.ownsRow K 39 1 v (k+1) (.slice none 0 0::vs)/\rows.length=k/\∀(i:Nat) (u:Value) (z:List Int),vs[i]? = some u->rows[i]? = some z->GrS 0 z L u w
theorem LiM.below{K:Nat}{w w':World}{v:Value}{k:Nat}{rows:List (List Int)}{L:Nat}(h:LiM K w v k rows L)(hb:Below w.heap.size w w'):LiM K w' v k rows L:=by
 obtain⟨vs,h1,h2,h3⟩:=h;exact⟨vs,ab0 h1 hb,h2,fun i u z a b=>GrS.mono _ _ _ _ _ _ hb (h3 i u z a b)⟩
theorem agw{K:Nat}{w:World}{v:Value}{n:Nat}{xs:List Value}(hv:w.ownsRow K 39 1 v n xs):∃c:Nat->Array Value,∀k,v.ownBlock=some k->w.heap[k]? = some (.cells (c k) 39 (0,0)):=by
 rcases hv.2 with⟨rfl,_⟩|⟨g',cap,cur,rfl,_,hh,_⟩
 ·exact⟨fun _=>#[],fun k hk=>by simp[Value.ownBlock]at hk⟩
 ·refine⟨fun _=>cur,fun k hk=>?_⟩;simp only[Value.ownBlock,Option.some.injEq]at hk;subst hk;exact hh
theorem GrS.keep{K K' L:Nat}{z:List Int}{u v:Value}{w w':World}{n:Nat}{xs:List Value}(h:GrS K' z L u w)(hv:w.ownsRow K 39 1 v n xs)(hg:w.grownBy w' v.ownBlock):GrS K' z L u w':=by
 obtain⟨es,h1,h2⟩:=h;obtain⟨c,hc⟩:=agw hv;refine⟨es,h1.keep hg hc (by decide) (fun g hg1 hg2=>?_),h2⟩;obtain⟨c',hc'⟩:=h1.row;exact aav (hc g hg1) (hc' g hg2) (by decide) rfl
theorem LiM.app{K:Nat}{w w':World}{v v' u:Value}{k:Nat}{rows:List (List Int)}{L:Nat}{z:List Int}{vs:List Value}(hO:w.ownsRow K 39 1 v (k+1) (.slice none 0 0::vs))(hl:rows.length=k)(hr:∀(i:Nat) (u:Value) (z:List Int),vs[i]? = some u->rows[i]? = some z->GrS 0 z L u w)(hu:GrS 0 z L u w)(hg:w.grownBy w' v.ownBlock)(hO':w'.ownsRow K 39 1 v' (k+2) ((.slice none 0 0::vs) ++ [u])):LiM K w' v' (k+1) (rows ++ [z]) L:=by
 have hvl:vs.length=k:=by have:=hO.1;simp at this;omega
 refine⟨vs ++ [u],hO',by simp[hl],fun i x y hx hy=>?_⟩;by_cases hi:i<k
 ·rw[List.getElem?_append_left (by omega)]at hx hy;exact(hr i x y hx hy).keep hO hg
 ·rw[List.getElem?_append_right (by omega)]at hx hy;rw[hvl]at hx;rw[hl]at hy
  match hm:i-k with
  |0=>
   rw[hm]at hx hy;simp at hx hy;subst hx hy;exact hu.keep hO hg
  |m+1=>
   rw[hm]at hx;simp at hx
noncomputable def ptQ(n:Nat)(rows:List (List Int)):List Rat:=rows.foldl (fun ps r=>ps.set (leadN r) (Rat.divInt (fnR r n) (fnR r (leadN r)))) (List.replicate n 0)
theorem ayv(n:Nat)(rows:List (List Int))(r:List Int):ptQ n (rows ++ [r])=(ptQ n rows).set (leadN r) (Rat.divInt (fnR r n) (fnR r (leadN r))):=by simp[ptQ,List.foldl_append]
theorem aif(n:Nat)(rows:List (List Int)):(ptQ n rows).length=n:=by
 unfold ptQ;suffices h:∀(rows:List (List Int)) (ps:List Rat),(rows.foldl (fun ps r=>ps.set (leadN r) (Rat.divInt (fnR r n) (fnR r (leadN r)))) ps).length=ps.length by rw[h];simp
 intro rows;induction rows with
 |nil=>intro ps;rfl
 |cons r rs ih=>intro ps;rw[List.foldl_cons,ih];simp
theorem a1o{n L:Nat}{rows:List (List Int)}(h:∀r∈rows,(∃p,Lead r p)/\∀z∈r,(z.natAbs:Int)<pw L)(hL:1<=L):∀q∈ptQ n rows,Fit q L:=by
 have h1:(1:Int)<pw L:=Int.lt_of_lt_of_le (by decide) (aap hL);unfold ptQ;suffices hh:∀(rows:List (List Int)) (ps:List Rat),(∀r∈rows,(∃p,Lead r p)/\∀z∈r,(z.natAbs:Int)<pw L)->(∀q∈ps,Fit q L)->∀q∈rows.foldl (fun ps r=>ps.set (leadN r) (Rat.divInt (fnR r n) (fnR r (leadN r)))) ps,Fit q L by
  refine hh rows _ h (fun q hq=>?_);obtain⟨_,rfl⟩:=List.mem_replicate.1 hq;exact⟨by simpa using by omega,by simpa using h1⟩
 intro rows;induction rows with
 |nil=>intro ps _ hp;exact hp
 |cons r rs ih=>
  intro ps hr hp;rw[List.foldl_cons];refine ih _ (fun r hr'=>hr r (List.mem_cons_of_mem _ hr')) (fun q hq=>?_);obtain⟨⟨p,hl⟩,hb⟩:=hr r (List.mem_cons_self ..);rcases List.mem_or_eq_of_mem_set hq with hq|rfl
  ·exact hp q hq
  ·have hbl:∀c,((fnR r c).natAbs:Int)<pw L:=fun c=>acg hb (by omega) c
   refine agt ?_ (hbl _) (hbl _);rw[hl.n];exact hl.1
end Lm
namespace Lm
open Go Go.RowKit Md
theorem IsRow.pre{w:World}{ao:Option Addr}{m n c:Nat}{zs:List Int}{L:Nat}(h:IsRow w (.slice ao m c) zs L)(hn:n<=m):IsRow w (.slice ao n c) (zs.take n) L:=by
 obtain⟨es,⟨⟨ao',cap',hv,h1,h2,h3,h4⟩,h5⟩,h6,h7⟩:=h;obtain⟨rfl,rfl,rfl⟩:=(Value.slice.injEq .. ▸ hv);have hl:(es.take n).length=n:=by rw[List.length_take];omega
 refine⟨es.take n,⟨⟨ao,c,by rw[hl],by rw[hl];omega,h2,aas _,?_⟩,fun e he=>h5 e (List.mem_of_mem_take he)⟩,by rw[List.map_take,h6],fun e he=>h7 e (List.mem_of_mem_take he)⟩;rcases h4 with h4|⟨b,off,rfl,hb,hc⟩
 ·exact .inl (by rw[hl];omega)
 ·refine .inr ⟨b,off,rfl,hb,fun j u hu=>hc j u ?_⟩;have hfl:flat es=flat (es.take n)++flat (es.drop n):=by rw[<-afq,List.take_append_drop]
  rw[hfl,List.getElem?_append_left (List.getElem?_eq_some_iff.1 hu).1];exact hu
theorem IsRow.cap{w:World}{ao:Option Addr}{n c:Nat}{zs:List Int}{L:Nat}(h:IsRow w (.slice ao n c) zs L):n<=c/\c<=9223372036854775807:=by
 obtain⟨es,⟨⟨ao',cap',hv,h1,h2,h3,h4⟩,h5⟩,h6,h7⟩:=h;obtain⟨rfl,rfl,rfl⟩:=(Value.slice.injEq .. ▸ hv);exact⟨h1,h2⟩
def FacB(W0 wr:World)(bf m k n:Nat)(rows:List (List Int)):Prop:=∃us:List Value,us.length=m/\wr.heap[bf]? = some (.cells us.toArray 39 (0,0))/\(∀(i:Nat) (u:Value),us[i]? = some u->∃ao a b,u=.slice ao a b)/\∀(i:Nat) (u:Value) (z:List Int),i<k->us[i]? = some u->rows[i]? = some z->IsRow W0 u (z.take n) 32
theorem FacB.blk{W0 w w':World}{bf m k n:Nat}{rows:List (List Int)}(h:FacB W0 w bf m k n rows)(hb:w'.heap[bf]? = w.heap[bf]?):FacB W0 w' bf m k n rows:=by
 obtain⟨us,h1,h2,h3⟩:=h;exact⟨us,h1,hb.trans h2,h3⟩
theorem FacB.lt{W0 w:World}{bf m k n:Nat}{rows:List (List Int)}(h:FacB W0 w bf m k n rows):bf<w.heap.size:=by
 obtain⟨us,h1,h2,h3⟩:=h;exact aaa h2
theorem FacB.start{W0 w:World}{bf m n:Nat}{rows:List (List Int)}(h:w.heap[bf]? = some (.cells (List.replicate m (.slice none 0 0)).toArray 39 (0,0))):FacB W0 w bf m 0 n rows:=⟨_,List.length_replicate,h,fun i u a=>(by
  rw[List.getElem?_replicate]at a;split at a
  ·exact⟨_,_,_,(Option.some.inj a).symm⟩
  ·cases a),fun i u z hi=>by omega⟩
theorem FacB.cells{W0 w:World}{bf m k n i:Nat}{rows:List (List Int)}(h:FacB W0 w bf m k n rows)(hi:i<m):(∃ao a b,w.cell? ⟨bf,i,none⟩=some (.slice ao a b))/\w.frozen? ⟨bf,i,none⟩=false:=by
 obtain⟨us,h1,h2,h3,_⟩:=h;obtain⟨x,hx⟩:∃x,us[i]? = some x:=⟨_,List.getElem?_eq_getElem (by omega)⟩;obtain⟨ao,p,q,rfl⟩:=h3 i x hx;exact⟨⟨ao,p,q,by rw[cell_of_row _ _ _ _ _ (0,0) h2,List.getElem?_toArray];exact hx⟩,frozen_of_row _ _ _ _ _ h2⟩
theorem FacB.put{W0 w:World}{bf m k n p q:Nat}{ao:Option Addr}{rows:List (List Int)}{z:List Int}(h:FacB W0 w bf m k n rows)(hk:k<m)(hz:rows[k]? = some z)(hu:IsRow W0 (.slice ao p q) (z.take n) 32):FacB W0 (w.setCell ⟨bf,k,none⟩ (.slice ao p q)) bf m (k+1) n rows/\Tch bf w (w.setCell ⟨bf,k,none⟩ (.slice ao p q))/\Ru w (w.setCell ⟨bf,k,none⟩ (.slice ao p q)):=by
 obtain⟨us,h1,h2,h3,h4⟩:=h;have ht:=ab8 w bf k (.slice ao p q);have s1:=heap_setCell_same w bf k _ _ (.slice ao p q) h2;refine⟨⟨us.set k (.slice ao p q),by simp[h1],by rw[s1];simp,fun i u hi=>?_,fun i u z' hi hu' hz'=>?_⟩,ht,Ru.of_one h2 (by decide) (fun i x hi=>?_) ht.size (fun k hk hn=>ht.other k hk hn)⟩
 ·by_cases e:k=i
  ·subst e;rw[List.getElem?_set_self (by omega)]at hi;exact⟨_,_,_,(Option.some.inj hi).symm⟩
  ·rw[List.getElem?_set_ne e]at hi;exact h3 i u hi
 ·by_cases e:k=i
  ·subst e;rw[List.getElem?_set_self (by omega)]at hu';obtain rfl:=Option.some.inj hu';rw[hz]at hz';obtain rfl:=Option.some.inj hz';exact hu
  ·rw[List.getElem?_set_ne e]at hu';exact h4 i u z' (by omega) hu' hz'
 ·rw[List.getElem?_toArray]at hi;obtain⟨_,_,_,e⟩:=h3 i _ hi;cases e
theorem FacB.isM{W0 w:World}{bf m n:Nat}{rows:List (List Int)}(h:FacB W0 w bf m m n rows)(hl:rows.length=m)(hm:m<=1000)(hb:Below W0.heap.size W0 w):IsM w (.slice (some ⟨bf,0,none⟩) m m) (fac n rows) 32:=by
 obtain⟨us,h1,h2,h3,h4⟩:=h;have hfl:(fac n rows).length=m:=by simp[fac,hl]
 refine⟨us,by rw[hfl];exact⟨_,_,rfl,Nat.le_refl _,by omega,by omega,.inr ⟨bf,0,rfl,aaa h2,fun j u hu=>by rw[Nat.zero_add,cell_of_row _ _ _ _ _ (0,0) h2,List.getElem?_toArray];exact hu⟩⟩,fun i u z hu hz=>?_⟩;rw[fac,List.getElem?_map]at hz;obtain⟨r,hr,rfl⟩:=Option.map_eq_some_iff.1 hz;exact(h4 i u r (by have:=(List.getElem?_eq_some_iff.1 hu).1;omega) hu hr).below hb
section
variable {dst:Option Tmp} {ty:TypeId} {pos:String} {after:Array Edge} {guard:Option (Nat×Bool)} {a:Act} {w:World} {i j:Nat} {ats:Array TypeId}
theorem ayw{ao:Option Addr}{n c:Nat}(h:a.eval (.tmp i)=.slice ao n c):Does Tryz.prog {dst,op:=.call {callee:=.builtin .len,args:=#[.tmp i],argTypes:=#[72]},type:=ty,pos,after,guard} a.eval w fun v' w'=>Below w.heap.size w w'/\Eqs (.int .i64 n) v' w':=by
 have e:(execOp a.eval {dst,op:=.call {callee:=.builtin .len,args:=#[.tmp i],argTypes:=#[72]},type:=ty,pos,after,guard}).run Tryz.prog w=.ok (.value (.int .i64 n)) w:=by
  have h':a.tmps[i]?.getD undef=.slice ao n c:=by simpa[Act.eval]using h
  simp[go_sem,h']
 refine⟨?_⟩;unfold Turns;rw[e];exact⟨Below.refl _ _,rfl⟩
def Tl1(g k:Nat):Says:=fun v _=>∃ao c,v=.slice ao k c/\k<=c/\c<=9223372036854775807/\(k=0\/ao=some ⟨g,1,none⟩)
theorem Tl1.mono(g k:Nat):Mono (Tl1 g k):=fun _ _ _ _ h=>h
theorem a1p{g k c:Nat}(h:a.eval (.tmp i)=.slice (some ⟨g,0,none⟩) (k+1) c)(hk:k+1<=c)(hc:c<=9223372036854775807):Does Tryz.prog {dst,op:=.slice 75 (.tmp i) (some (.const (.int .i64 1))) none none,type:=ty,pos,after,guard} a.eval w fun v' w'=>Below w.heap.size w w'/\Tl1 g k v' w':=by
 obtain⟨iW,hi,hz0,hz1,hz2⟩:=info_parts infoSs;have e:(execOp a.eval {dst,op:=.slice 75 (.tmp i) (some (.const (.int .i64 1))) none none,type:=ty,pos,after,guard}).run Tryz.prog w=.ok (.value (.slice (if c=1 then some ⟨g,0,none⟩else some ⟨g,1,none⟩) k (c-1))) w:=by
  have h':a.tmps[i]?.getD undef=.slice (some ⟨g,0,none⟩) (k+1) c:=by simpa[Act.eval]using h
  simp[go_sem,Option.map,h',Instr.slice,Instr.sliceBounds,Instr.sliceBound,Tryz.underlying75,sizeOf,typeInfo,hi,hz1,Addr.add];intro hcon;omega
 refine⟨?_⟩;unfold Turns;rw[e];refine⟨Below.refl _ _,_,_,rfl,by omega,by omega,?_⟩;by_cases h1:c=1
 ·exact .inl (by omega)
 ·exact .inr (by rw[if_neg h1])
theorem apt:Has Tryz.prog 48:=by unfold Has;kernel_rfl
def LifS(K:Nat)(zs:List Int)(L:Nat):Says:=fun v w=>ORow K w v zs L
theorem LifS.mono(K:Nat)(zs:List Int)(L:Nat):Mono (LifS K zs L):=fun _ _ _ hb h=>ORow.below h hb
theorem avx{ps:List Rat}{n K:Nat}(h:IsQs w (a.eval (.tmp i)) ps 64)(hl:ps.length=n)(hn:n<=16)(hf:∀r∈ps,Fit r 32)(hK:K<=w.heap.size):
  Does Tryz.prog {dst,op:=.call {callee:=.value (.func 48),args:=#[.tmp i],argTypes:=ats},type:=ty,pos,after,guard} a.eval w fun v w'=>Below w.heap.size w w'/\LifS K (liftZ ps) 545 v w':=
 aah apt #[_] (by simp) ((afv w _ ps 64 545 n h hl (by omega) (by omega) (by omega) (by omega) (fun k hk=>by
     have h1:=aie hf (Nat.le_of_eq hl) k;have h2:pw (1+32*n)<=pw 545:=aap (by omega)
     omega) (fun z hz=>by
     have h1:=afn hf (Nat.le_of_eq hl) z hz;have h2:pw (1+32*n+32)<=pw 545:=aap (by omega)
     omega)).mono fun e w' ⟨v,h,ho,hb⟩=>⟨v,h,hb,ho.low hK⟩)
end
end Lm
namespace Lm
open Go Go.RowKit Md
theorem afc:(Tryz.prog.info? 39).map (fun i=>(i.zero,i.size,i.bytes))=some (some (.slice none 0 0),1,24):=by kernel_rfl
def Stt(B:Nat)(wk wr:World)(lw:Value)(k:Nat)(rows:List (List Int))(L:Nat):Prop:=Below wk.heap.size wk wr/\((k=0/\rows = []/\∃g0,lw=.slice (some ⟨g0,0,none⟩) 1 1/\B<=g0/\wr.heap[g0]? = some (.cells #[.slice none 0 0] 39 (0,0)))\/LiM wk.heap.size wr lw k rows L)
theorem Stt.below{B:Nat}{wk wr w':World}{lw:Value}{k:Nat}{rows:List (List Int)}{L:Nat}(h:Stt B wk wr lw k rows L)(hb:Below wr.heap.size wr w'):Stt B wk w' lw k rows L:=by
 obtain⟨h1,h2⟩:=h;refine⟨h1.trans (hb.mono h1.size),?_⟩;rcases h2 with⟨a,b,g0,c,d,e⟩|h2
 ·exact .inl ⟨a,b,g0,c,d,(hb.block _ (aaa e)).trans e⟩
 ·exact .inr (h2.below hb)
section
variable {dst:Option Tmp} {ty:TypeId} {pos:String} {after:Array Edge} {guard:Option (Nat×Bool)} {a:Act} {w:World} {i j:Nat}
theorem ayx{B g k L:Nat}{wk:World}{lw u:Value}{rows:List (List Int)}{z:List Int}{au:Option Addr}{nu cu:Nat}(h1:a.eval (.tmp i)=lw)(hS:Stt B wk w lw k rows L)(h2:a.eval (.tmp j)=.slice (some ⟨g,0,none⟩) 1 1)(hg:w.heap[g]? = some (.cells #[u] 39 (0,0)))(hu:GrS 0 z L u w)(hus:u=.slice au nu cu)(hk:k<=1000)(_hB:B<=wk.heap.size):
  Does Tryz.prog {dst,op:=.call {callee:=.builtin .append,args:=#[.tmp i,.tmp j],argTypes:=#[75,75]},type:=ty,pos,after,guard} a.eval w fun v' w'=>Stt B wk w' v' (k+1) (rows ++ [z]) L:=by
 obtain⟨i0,hi,hz0,hz1,hz2⟩:=info_parts afc;have hnew:∀k x,[u][k]? = some x->w.cell? ((⟨g,0,none⟩:Addr).add k)=some x:=fun k x hx=>by
  have hc:∀k,w.cell? ⟨g,k,none⟩ = #[u][k]? :=fun k=>cell_of_row w g k _ _ (0,0) hg
  have ha:(⟨g,0,none⟩:Addr).add k=⟨g,k,none⟩:=by unfold Addr.add;split <;> simp_all
  rw[ha,hc];simpa using hx
 have h1u:∀x ∈ [u],x.oneCell'=true:=fun x hx=>by
  obtain rfl:=List.mem_singleton.1 hx;subst hus;rfl
 obtain⟨hb,hS|hS⟩:=hS
 ·obtain⟨rfl,rfl,g0,rfl,hg0,hh⟩:=hS;have hown:w.ownsRow 0 39 1 (.slice (some ⟨g0,0,none⟩) 1 1) 1 [.slice none 0 0]:=⟨rfl,.inr ⟨g0,1,_,rfl,Nat.zero_le _,hh,Nat.le_refl _,by decide,rfl,rfl⟩⟩;obtain⟨v',w',hr,ho,hgr,_⟩:=run_append_own (P:=Tryz.prog) w 0 75 ty 39 i0 _ 1 24 Tryz.underlying75 hi hz0 hz1 hz2 rfl (by decide) _ 1 _ hown ⟨g,0,none⟩ 1 1 [u] rfl hnew h1u (by decide) (by decide) (Nat.zero_le _);have hr':=run_append_grow (P:=Tryz.prog) w 75 ty 39 i0 _ Tryz.underlying75 hi hz0 ⟨g0,0,none⟩ 1 1 [.slice none 0 0] (by rw[hz1];rfl) (hown.cells rfl) ⟨g,0,none⟩ 1 1 [u] (by rw[hz1];rfl) hnew (by omega) (by omega) (growslice_fits (by omega) (by rw[hz2];omega));have e:(execOp a.eval {dst,op:=.call {callee:=.builtin .append,args:=#[.tmp i,.tmp j],argTypes:=#[75,75]},type:=ty,pos,after,guard}).run Tryz.prog w=.ok (.value v') w':=by
   simp only[execOp,resolve,invoke,builtin,Sem.run_bind,Sem.run_pure,Result.andThen_ok,List.map_toArray,List.map_cons,List.map_nil,h1,h2,hr]
  rw[hr']at hr;injection hr with e1 e2;have hbw:Below w.heap.size w w':=by
   rw[<-e2]
   (repeat' first|with_reducible(first|exact Below.refl _ _|assumption|refine gdrewN ?_ _|refine Below.alloc ?_ ?_ _|refine Below.drew ?_|refine Below.setCell ?_ ?_ _)|go_size)
  refine⟨?_⟩;unfold Turns;rw[e];refine⟨hb.trans (hbw.mono hb.size),.inr ⟨[u],?_,rfl,fun i x y hx hy=>?_⟩⟩
  ·obtain⟨q1,q2|⟨g',cap,cur,q3,q4,q5,q6⟩⟩:=ho
   ·rw[<-e1]at q2;simp at q2
   ·refine⟨q1,.inr ⟨g',cap,cur,q3,?_,q5,q6⟩⟩;rw[<-e1]at q3;simp only[Value.slice.injEq,Option.some.injEq,Addr.mk.injEq]at q3;rw[<-q3.1.1];exact hb.size
  ·match i with
   |0=>
    simp at hx hy;subst hx hy;exact GrS.mono _ _ _ _ _ _ hbw hu
   |i+1=>simp at hx
 ·obtain⟨vs,hown,hl,hrows⟩:=hS;obtain⟨v',w',hr,ho,hgr,_⟩:=run_append_own (P:=Tryz.prog) w wk.heap.size 75 ty 39 i0 _ 1 24 Tryz.underlying75 hi hz0 hz1 hz2 rfl (by decide) _ (k+1) _ hown ⟨g,0,none⟩ 1 1 [u] rfl hnew h1u (by simp[maxLen];omega) (by omega) hb.size;have e:(execOp a.eval {dst,op:=.call {callee:=.builtin .append,args:=#[.tmp i,.tmp j],argTypes:=#[75,75]},type:=ty,pos,after,guard}).run Tryz.prog w=.ok (.value v') w':=by
   simp only[execOp,resolve,invoke,builtin,Sem.run_bind,Sem.run_pure,Result.andThen_ok,List.map_toArray,List.map_cons,List.map_nil,h1,h2,hr]
  refine⟨?_⟩;unfold Turns;rw[e];refine⟨hb.grown hgr hb.size (fun q hq=>?_),.inr (LiM.app hown hl hrows hu hgr ho)⟩;rcases hown.2 with⟨_,h0⟩|⟨g',cap,cur,rfl,hg',_⟩
  ·omega
  ·simp only[Value.ownBlock,Option.some.injEq]at hq;omega
end
theorem Stt.done{B:Nat}{wk wr:World}{lw:Value}{k:Nat}{rows:List (List Int)}{L:Nat}(h:Stt B wk wr lw k rows L)(hB:B<=wk.heap.size):∃g c cur vs,lw=.slice (some ⟨g,0,none⟩) (k+1) c/\B<=g/\wr.heap[g]? = some (.cells cur 39 (0,0))/\k+1<=c/\c<=maxLen/\cur.size=c/\cur.toList.take (k+1)=.slice none 0 0::vs/\vs.length=k/\rows.length=k/\∀(i:Nat) (u:Value) (z:List Int),vs[i]? = some u->rows[i]? = some z->GrS 0 z L u wr:=by
 obtain⟨hb,⟨rfl,rfl,g0,rfl,hg0,hh⟩|⟨vs,⟨h1,⟨_,h0⟩|⟨g,cap,cur,rfl,hg,hh,h2,h3,h4,h5⟩⟩,hl,hr⟩⟩:=h
 ·exact⟨g0,1,_,[],rfl,hg0,hh,Nat.le_refl _,by decide,rfl,rfl,rfl,rfl,fun i u z hu=>by simp at hu⟩
 ·omega
 ·refine⟨g,cap,cur,vs,rfl,by omega,hh,h2,h3,by omega,by simpa using h5,by simpa using h1,hl,hr⟩
theorem EL.lead{n:Nat}{P:List Nat}{rows:List (List Int)}(h:EL n P rows):∀r∈rows,r.length=n/\∃p,p<n/\Lead r p:=by
 intro r hr;obtain⟨i,hi⟩:=List.mem_iff_getElem?.1 hr;have hlt:=(List.getElem?_eq_some_iff.1 hi).1;obtain⟨p,hp⟩:∃p,P[i]? = some p:=⟨_,List.getElem?_eq_getElem (by rw[h.len];exact hlt)⟩;obtain⟨h1,h2,h3,h4,_⟩:=h.row i r p hi hp;exact⟨h1,p,h2,by unfold fnR;omega,fun k hk=>h3 k hk⟩
theorem agx{n:Nat}{St:List (List Int)}(h:∀r∈St,r.length=n/\∃p,p<n/\Lead r p):∀s∈zro St,s.length=n+1/\(∃p,p<n/\Lead s p)/\fnR s n=0:=by
 intro s hs;obtain⟨r,hr,rfl⟩:=List.mem_map.1 hs;obtain⟨h1,p,h2,h3⟩:=h r hr;have hf:fnR (r ++ [0])=fnR r:=aic h1;refine⟨by simp[h1],⟨p,h2,?_⟩,?_⟩
 ·unfold Lead;rw[hf];exact h3
 ·rw[hf];exact aau h1 n (Nat.le_refl _)
theorem afd(ps:List Rat):fnR (liftZ ps) ps.length≠0:=by
 rw[ags];have:=aqw ps (w:=1) (by decide);omega
theorem ajb(w:World)(ao:Option Addr)(L:Nat):IsM w (.slice ao 0 0) [] L:=⟨[],⟨_,_,rfl,Nat.le_refl _,by decide,rfl,.inl rfl⟩,fun i u z hu=>by simp at hu⟩
theorem avy{w:World}{g k:Nat}{cur:Array Value}{vs:List Value}{rows:List (List Int)}{L:Nat}{v:Value}(hv:Tl1 g k v w)(hh:w.heap[g]? = some (.cells cur 39 (0,0)))(ht:cur.toList.take (k+1)=.slice none 0 0::vs)(hl:vs.length=k)(hr:rows.length=k)(hg:∀(i:Nat) (u:Value) (z:List Int),vs[i]? = some u->rows[i]? = some z->GrS 0 z L u w):IsM w v rows L:=by
 obtain⟨ao,c',rfl,h1,h2,h3⟩:=hv;refine⟨vs,?_,fun i u z a b=>(hg i u z a b).is⟩;rw[hr];refine⟨ao,c',rfl,h1,h2,by omega,?_⟩;rcases h3 with h3|rfl
 ·exact .inl h3
 ·refine .inr ⟨g,1,rfl,aaa hh,fun j u hu=>?_⟩;have h4:(cur.toList.take (k+1))[j+1]? = some u:=by rw[ht];simpa using hu
  rw[List.getElem?_take]at h4;split at h4
  ·rw[cell_of_row _ _ _ _ _ (0,0) hh,Nat.add_comm 1 j];simpa using h4
  ·cases h4
theorem avz{w:World}{g k c p q:Nat}{cur:Array Value}{vs:List Value}{rows:List (List Int)}{L M:Nat}{z0:List Int}{ar:Option Addr}{K:Nat}(hh:w.heap[g]? = some (.cells cur 39 (0,0)))(hc:cur.size=c)(hkc:k+1<=c)(hcm:c<=maxLen)(ht:cur.toList.take (k+1)=.slice none 0 0::vs)(hl:vs.length=k)(hr:rows.length=k)(hg:∀(i:Nat) (u:Value) (z:List Int),vs[i]? = some u->rows[i]? = some z->GrS 0 z L u w)(hLM:L<=M)(h0:ORow K w (.slice ar p q) z0 M):IsM (w.setCell ⟨g,0,none⟩ (.slice ar p q)) (.slice (some ⟨g,0,none⟩) (k+1) c) (z0::rows) M:=by
 have s1:=heap_setCell_same w g 0 _ _ (.slice ar p q) hh;have ht1:=ab8 w g 0 (.slice ar p q);refine⟨.slice ar p q::vs,?_,fun i u z a b=>?_⟩
 ·rw[List.length_cons,hr];refine⟨_,_,rfl,hkc,by unfold maxLen at hcm;omega,by simp[hl],.inr ⟨g,0,rfl,aaa s1,fun j u hu=>?_⟩⟩;rw[Nat.zero_add,cell_of_row _ _ _ _ _ (0,0) s1]
  match j with
  |0=>
   simp at hu;subst hu;rw[Array.getElem?_setIfInBounds_self];rw[if_pos (by omega)]
  |j+1=>
   have h4:(cur.toList.take (k+1))[j+1]? = some u:=by rw[ht];simpa using hu
   rw[List.getElem?_take]at h4;split at h4
   ·simpa using h4
   ·cases h4
 ·match i with
  |0=>
   simp at a b;subst a b;exact(h0.tch ht1 hh (by decide) (by decide)).is
  |i+1=>
   simp at a b;obtain⟨es,g1,g2⟩:=hg i u z a b;have hgr:w.grownBy (w.setCell ⟨g,0,none⟩ (.slice ar p q)) (some g):=⟨rfl,rfl,rfl,ht1.size,fun k hk hn=>ht1.other k hk (fun e=>hn (by rw[e]))⟩;have hkp:=g1.keep (u:=.slice (some ⟨g,0,none⟩) 0 0) (c:=fun _=>cur) (E:=39) hgr (fun k hk=>by
    simp only[Value.ownBlock,Option.some.injEq]at hk;subst hk
    exact hh) (by decide) (fun g' h1 h2=>by
    obtain⟨c',hc'⟩:=g1.row;simp only[Value.ownBlock,Option.some.injEq]at h1;subst h1
    exact aav hh (hc' _ h2) (by decide) rfl)
   exact(show IsRow _ u z L from GrS.is ⟨es,hkp,g2⟩).wide hLM
end Lm
namespace Lm
open Go Go.RowKit Md
noncomputable def mPt(n:Nat)(rows:List (List Int))(St:List (List Int)):List Rat:=lowQ (basZ (liftZ (ptQ n rows)) n (zro St)) n
theorem ayy{K:Nat}{w:World}{ao:Option Addr}{n cap:Nat}{rows:List (List Int)}{L i:Nat}{z:List Int}(h:OwM K w (.slice ao n cap) rows L)(hz:rows[i]? = some z):∃b off u,ao=some ⟨b,off,none⟩/\b<w.heap.size/\w.cell? ⟨b,off+i,none⟩=some u/\ORow K w u z L:=by
 obtain⟨vs,h1,h5⟩:=h;obtain⟨ao',cap',hv,_,h2,h3,h4⟩:=Ce.own h1;obtain⟨rfl,rfl,rfl⟩:=(Value.slice.injEq .. ▸ hv);have hi:i<rows.length:=(List.getElem?_eq_some_iff.1 hz).1;obtain⟨u,hu⟩:∃u,vs[i]? = some u:=⟨_,List.getElem?_eq_getElem (by omega)⟩;rcases h4 with h4|⟨b,off,rfl,hl,hc⟩
 ·omega
 ·exact⟨b,off,u,rfl,hl,hc i u hu,h5 i u z hu hz⟩
theorem af7{P:List Nat}{n:Nat}(h:P.Pairwise (·<·))(hlt:∀p∈P,p<n):P.length<=n:=by
 have h1:=aia (Q:=P.reverse) (cols:=n) (by rw[List.pairwise_reverse];exact h) (fun p hp=>hlt p (List.mem_reverse.1 hp));simpa using h1
def MirE(w':World)(n:Nat)(rows:List (List Int))(e:Ending):Prop:=
  ((∃r∈rows,leadN r=n)/\∃v,e=.returned v/\IsLi w' v [] 600) \/
  ((∀r∈rows,leadN r<n)/\∃R Q,Ech n (mir (fac n rows)) R Q /\
    (((∃r∈elR n (kerE n R Q),r.any big=true)/\e=.panicked (thrown 2)) \/
     ((∀r∈elR n (kerE n R Q),r.any big=false) /\
       (((∃q∈mPt n rows (elR n (kerE n R Q)),bigQ q=true)/\e=.panicked (thrown 2)) \/
        ((∀q∈mPt n rows (elR n (kerE n R Q)),Fit q 32)/\∃v,e=.returned v/\IsLi w' v (liftZ (mPt n rows (elR n (kerE n R Q)))::zro (elR n (kerE n R Q))) 600)))))
set_option maxRecDepth 100000 in
theorem afe(w:World)(v:Value)(rows:List (List Int))(n:Nat)(h:IsM w v rows 32)(hs:∀r∈rows,r.length=n+1/\∃p,p<n+1/\Lead r p)(hl:rows.length<=64)(hn:n<=16):
  Calls Tryz.prog 155 #[v,.int .i64 (n:Int)] w fun e w'=>MirE w' n rows e/\Below w.heap.size w w':=by
 obtain⟨ao,cp,rfl,_⟩:=h.parts;obtain⟨m,hm⟩:∃m,rows.length=m:=⟨_,rfl⟩;rw[hm]at h hl ⊢;have H:=hide h;have HS:=hide hs;have HM:=hide hm;have HFT:Hid (∀q∈ptQ n rows,Fit q 32):=a1o (L:=32) (fun r hr=>by
  obtain⟨_,p,_,hl⟩:=hs r hr;obtain⟨i,hi⟩:=List.mem_iff_getElem?.1 hr;obtain⟨_,_,_,_,_,_,hrw⟩:=h.cell hi
  exact⟨⟨p,hl⟩,abe hrw⟩) (by decide)
 have HSF:Hid (Shaped (fac n rows) (n:Int)):=(⟨by omega,by omega,by simp[fac,hm];omega,fun r hr=>by
  obtain⟨s,h1,rfl⟩:=List.mem_map.1 hr;obtain⟨h2,_⟩:=hs s h1;rw[List.length_take]
  omega⟩:Shaped _ _)
 clear h hs hm;go_enter Tryz.func155,Tryz.ntmps155
 go_upto_region 1 with fail
 refine aby 7 [13,14,15,16,17,5,6] [Eqs (.slice ao m cp),Eqs (.int .i64 (m:Int)),(MkR w.heap.size m),Eqs (.int .i64 (n:Int)),(MkQ w.heap.size n 64),(MkR w.heap.size m),(MkQ w.heap.size n 64)] rfl rfl (by decide) (by kernel_rfl) (by kernel_rfl) (by decide) (by kernel_rfl) ⟨Eqs.mono _,Eqs.mono _,(MkR.mono _ _),Eqs.mono _,(MkQ.mono _ _ _),(MkR.mono _ _),(MkQ.mono _ _ _),trivial⟩ ?_ ?_
 ·exact⟨⟨rfl,fun a_ w_ _ hB hR hD=>aal ((hR 0 rfl).trans (aab rfl))⟩,
    ⟨rfl,fun a_ w_ _ hB hR hD=>ayw (show a_.eval (.tmp 13)=.slice ao m cp from hD 0 rfl)⟩,
    ⟨rfl,fun a_ w_ _ hB hR hD=>a3g (show a_.eval (.tmp 14)=.int .i64 (m:Int)from hD 1 rfl) (by omega) hB.size⟩,
    ⟨rfl,fun a_ w_ _ hB hR hD=>aal ((hR 1 rfl).trans (aab rfl))⟩,
    ⟨rfl,fun a_ w_ _ hB hR hD=>a3h (show a_.eval (.tmp 16)=.int .i64 (n:Int)from hD 3 rfl) (by omega) hB.size⟩,
    ⟨rfl,fun a_ w_ _ hB hR hD=>ahc (show(MkR w.heap.size m) (a_.eval (.tmp 15)) w_ from hD 2 rfl)⟩,
    ⟨rfl,fun a_ w_ _ hB hR hD=>ahc (show(MkQ w.heap.size n 64) (a_.eval (.tmp 17)) w_ from hD 4 rfl)⟩,
    trivial⟩
 ·intro a' w' hn' hd' hB' hR' hP';have e13:a'.eval (.tmp 13)=.slice ao m cp:=hP' 0 (by decide);have e14:a'.eval (.tmp 14)=.int .i64 (m:Int):=hP' 1 (by decide);obtain⟨u15,e15⟩:∃u,a'.eval (.tmp 15)=u:=⟨_,rfl⟩;have e16:a'.eval (.tmp 16)=.int .i64 (n:Int):=hP' 3 (by decide);obtain⟨u17,e17⟩:∃u,a'.eval (.tmp 17)=u:=⟨_,rfl⟩;obtain⟨u5,e5⟩:∃u,a'.eval (.tmp 5)=u:=⟨_,rfl⟩;have hT5:(MkR w.heap.size m) (a'.eval (.tmp 5)) w':=hP' 5 (by decide);rw[e5]at hT5;obtain⟨u6,e6⟩:∃u,a'.eval (.tmp 6)=u:=⟨_,rfl⟩;have hT6:(MkQ w.heap.size n 64) (a'.eval (.tmp 6)) w':=hP' 6 (by decide);rw[e6]at hT6;refine aat hn' hd' hR' (.s4 rfl <| .same rfl <| .new e5 <| .new e6 <| .s4 rfl <| .same rfl <| .same rfl <| .new e13 <| .new e14 <| .new e15 <| .new e16 <| .new e17 <| .s16 rfl <| .s16 rfl <| .s16 rfl <| .s16 rfl <| .same rfl <| .nil) ?_;clear e13 e14 e15 e16 e17 e5 e6;obtain⟨bf,rfl,hbf,hF⟩:=hT5;obtain⟨bq,rfl,hbq,hQ⟩:=hT6;have HBF:=hide hbf;have HBQ:=hide hbq;have HW1:=hide hB';have HF1:Hid (FacB w w' bf m 0 n rows):=FacB.start hF;have HQ1:Hid (QPt w' bq n (ptQ n []) 64):=hQ;clear hbf hbq hF hQ hB' hR' hP' hn' hd';go_wp2;go_loopw [20] (fun iv wr=>∃(k:Nat),iv=.int .i64 k/\k<=m/\Below w.heap.size w wr/\FacB w wr bf m k n rows/\QPt wr bq n (ptQ n (rows.take k)) 64/\∀r∈rows.take k,leadN r<n) (fun iv _=>m-(intOf iv).toNat)
  case atStart=>exact⟨0,rfl,Nat.zero_le _,HW1.out,HF1.out,HQ1.out,by simp⟩
  case round=>
   clear HW1 HF1 HQ1;obtain⟨k,rfl,hk,hbw,hfac,hqp,hld⟩:=hrel;by_cases hlt:k<m
   ·have hlt':(k:Int)<(m:Int):=by omega
    obtain⟨r,hr⟩:∃r,rows[k]? = some r:=⟨_,List.getElem?_eq_getElem (by have:=HM.out;omega)⟩;obtain⟨b,off,u,rfl,hbl,hu,hur⟩:=H.out.cell hr;obtain⟨hrl,p,hpn,hpl⟩:=HS.out r (List.mem_of_getElem? hr);obtain⟨au,cu,rfl,_⟩:=hur.parts;rw[hrl]at hur hu;obtain⟨hcap,hcmx⟩:=hur.cap;have hpre:=hur.pre (n:=n) (by omega);replace hu:=(hbw.cell (p:=⟨b,off+k,none⟩) hbl).trans hu;have K:=hide (alp wr (.slice au (n+1) cu) r 32 (hur.below hbw) (by omega));obtain⟨b1,o1,ng1,a1,m1,c1,rfl,hb1,x0,x1,hx⟩:=hur.cell (k:=n) (z:=fnR r n) (acd (by omega));obtain⟨b2,o2,ng2,a2,m2,c2,hbe,hb2,y0,y1,hy⟩:=hur.cell (k:=p) (z:=fnR r p) (acd (by omega));obtain⟨rfl,rfl⟩:b1=b2/\o1=o2:=by simpa using hbe
    have HB1:=hide hb1;have HX0:=hide x0;have HX1:=hide x1;have HX:=hide hx;have HY0:=hide y0;have HY1:=hide y1;have HY:=hide hy;have HPL:=hide hpl;have HR:=hide hr;have HW:=hide hbw;have HFC:=hide hfac;have HQP:=hide hqp;have HLD:=hide hld;have HPR:=hide hpre;clear hbw hfac hqp hld hur hr hrl hpl hpre hb1 hb2 x0 x1 hx y0 y1 hy hbe;go_wp2_with fail
    refine K.out.mono ?_;rintro e w3 ⟨⟨q,rfl,hq⟩,hb3⟩;have hqp:q=(p:Int):=by
     rcases hq with⟨_,h0⟩|⟨p',rfl,_,hl'⟩
     ·exact absurd (h0 p) HPL.out.1
     ·rw[hl'.one HPL.out]
    subst hqp;have HW3:=hide (HW.out.trans (hb3.mono HW.out.size));have HFC3:=hide (HFC.out.blk (hb3.block _ HFC.out.lt));have HQP3:=hide (HQP.out.below hb3);clear hb3 hq K HW HFC HQP hu;by_cases hpe:p=n
    ·subst hpe;have hpeq:((p:Int)==(p:Int))=true:=by simp
     have HE:Hid (∃r∈rows,leadN r=p):=(show ∃r∈rows,_ from⟨r,List.mem_of_getElem? HR.out,HPL.out.n⟩);have HW5:=hide (HW3.out.trans ((hAl w3 (.cells #[] 39)).mono HW3.out.size));go_wp2;refine bodyPost_ret (v:=_) (by simp[results,Tryz.results155,go_sem];try rfl) rfl ⟨.inl ⟨HE.out,_,rfl,_,rfl,ajb _ _ _⟩,HW5.out⟩
    ·have hpeq:((p:Int)==(n:Int))=false:=by simp;omega
     have hpn':p<n:=by omega
     obtain⟨⟨af,xf,yf,hcf⟩,hff⟩:=HFC3.out.cells hlt;obtain⟨t1,t2,t3⟩:=HFC3.out.put hlt HR.out HPR.out;have hw4:Below w.heap.size w (w3.setCell ⟨bf,k,none⟩ (.slice (some ⟨b1,o1,none⟩) n cu)):=HW3.out.setCell HBF.out _;have hq4:=HQP3.out.ru t3 (t2.other _ HQP3.out.lt (fun hh=>by
      obtain⟨us,_,h5,_⟩:=HFC3.out;obtain⟨_,fs,_,h6,_⟩:=HQP3.out;rw[<-hh]at h5;rw[h5]at h6
      simp at h6))
     have HW4:=hide hw4;have HFC4:=hide t1;have HQP4:=hide hq4;clear hw4 hq4 t1 t2 t3 HW3 HFC3 HQP3;have hltn:n<n+1:=by omega
     have hltp:p<n+1:=by omega
     have HNE:Hid (fnR r p≠0):=HPL.out.1;have HGQ:Hid (ptQ n (rows.take (k+1))=(ptQ n (rows.take k)).set p (Rat.divInt (fnR r n) (fnR r p))):=(show _=_ by rw[List.take_add_one,HR.out,Option.toList_some,ayv,HPL.out.n]);have HLD2:Hid (∀r∈rows.take (k+1),leadN r<n):=(show ∀r∈rows.take (k+1),_ by
      intro r' hr';rw[List.take_add_one,HR.out]at hr';rcases List.mem_append.1 hr' with hr'|hr'
      ·exact HLD.out r' hr'
      ·simp at hr';subst hr';rw[HPL.out.n]
       exact hpn')
     go_upto_region 9 with fail
     generalize (w3.setCell ⟨bf,k,none⟩ (.slice (some ⟨b1,o1,none⟩) n cu))=wx at *
     generalize fnR r n=zn at *
     generalize fnR r p=zp at *
     refine ae9 15 13 [39,40,41,42,43,44,45,46,47,48,49,38,50,51,52] [Eqs (.slice (some ⟨bq,0,none⟩) n n),Eqs (.int .i64 (p:Int)),Eqs (.slice (some ⟨b1,o1,none⟩) (n+1) cu),Eqs (.int .i64 (n:Int)),Eqs (.pointer (some ⟨b1,o1+n*2,none⟩)),(IsW zn 32),Eqs (.slice (some ⟨b1,o1,none⟩) (n+1) cu),Eqs (.int .i64 (p:Int)),Eqs (.pointer (some ⟨b1,o1+p*2,none⟩)),(IsW zp 32),(RofS (Rat.divInt zn zp) (32+32)),(RofS (Rat.divInt zn zp) (32+32)),(OutQr (Rat.divInt zn zp) (32+32)),Eqs (.int .i64 0),Eqs (.pointer (some ⟨bq,p*3,none⟩))] rfl rfl (by decide) (by kernel_rfl) (by kernel_rfl) rfl (by decide) rfl rfl (by kernel_rfl) ⟨Eqs.mono _,Eqs.mono _,Eqs.mono _,Eqs.mono _,Eqs.mono _,(Mono.of4 (IsW.mono4 _ _)),Eqs.mono _,Eqs.mono _,Eqs.mono _,(Mono.of4 (IsW.mono4 _ _)),(RofS.mono _ _),(RofS.mono _ _),(Mono.of4 (OutQr.mono4 _ _)),Eqs.mono _,Eqs.mono _,trivial⟩ ?_ ?_ ?_
     ·exact⟨⟨rfl,fun a_ w_ _ hB hR hD=>aal ((hR 6 rfl).trans (aab rfl))⟩,
        ⟨rfl,fun a_ w_ _ hB hR hD=>aal ((hR 9 rfl).trans (aab rfl))⟩,
        ⟨rfl,fun a_ w_ _ hB hR hD=>aal ((hR 8 rfl).trans (aab rfl))⟩,
        ⟨rfl,fun a_ w_ _ hB hR hD=>aal ((hR 1 rfl).trans (aab rfl))⟩,
        ⟨rfl,fun a_ w_ _ hB hR hD=>abm (show a_.eval (.tmp 41)=.slice (some ⟨b1,o1,none⟩) (n+1) cu from hD 2 rfl) rfl (show a_.eval (.tmp 42)=.int .i64 (n:Int)from hD 3 rfl) hltn⟩,
        ⟨rfl,fun a_ w_ _ hB hR hD=>ab3 (show a_.eval (.tmp 43)=.pointer (some ⟨b1,o1+n*2,none⟩)from hD 4 rfl) (((HW4.out.trans (hB.mono HW4.out.size)).cell (p:=⟨b1,o1+n*2,none⟩) HB1.out).trans HX0.out) (((HW4.out.trans (hB.mono HW4.out.size)).cell (p:=⟨b1,o1+n*2+1,none⟩) HB1.out).trans HX1.out) (HX.out.ru (Ru.of_below (HW4.out.trans (hB.mono HW4.out.size))))⟩,
        ⟨rfl,fun a_ w_ _ hB hR hD=>aal ((hR 8 rfl).trans (aab rfl))⟩,
        ⟨rfl,fun a_ w_ _ hB hR hD=>aal ((hR 9 rfl).trans (aab rfl))⟩,
        ⟨rfl,fun a_ w_ _ hB hR hD=>abm (show a_.eval (.tmp 45)=.slice (some ⟨b1,o1,none⟩) (n+1) cu from hD 6 rfl) rfl (show a_.eval (.tmp 46)=.int .i64 (p:Int)from hD 7 rfl) hltp⟩,
        ⟨rfl,fun a_ w_ _ hB hR hD=>ab3 (show a_.eval (.tmp 47)=.pointer (some ⟨b1,o1+p*2,none⟩)from hD 8 rfl) (((HW4.out.trans (hB.mono HW4.out.size)).cell (p:=⟨b1,o1+p*2,none⟩) HB1.out).trans HY0.out) (((HW4.out.trans (hB.mono HW4.out.size)).cell (p:=⟨b1,o1+p*2+1,none⟩) HB1.out).trans HY1.out) (HY.out.ru (Ru.of_below (HW4.out.trans (hB.mono HW4.out.size))))⟩,
        ⟨rfl,fun a_ w_ _ hB hR hD=>aq1 (show(IsW zn 32) (a_.eval (.tmp 44)) w_ from hD 5 rfl) (show(IsW zp 32) (a_.eval (.tmp 48)) w_ from hD 9 rfl) (by omega) HNE.out⟩,
        ⟨rfl,fun a_ w_ _ hB hR hD=>aee (show(RofS (Rat.divInt zn zp) (32+32)) (a_.eval (.tmp 49)) w_ from hD 10 rfl)⟩,
        ⟨rfl,fun a_ w_ _ hB hR hD=>aq2 (show(RofS (Rat.divInt zn zp) (32+32)) (a_.eval (.tmp 38)) w_ from hD 11 rfl)⟩,
        ⟨rfl,fun a_ w_ _ hB hR hD=>aq3 (show(RofS (Rat.divInt zn zp) (32+32)) (a_.eval (.tmp 38)) w_ from hD 11 rfl)⟩,
        ⟨rfl,fun a_ w_ _ hB hR hD=>an1 (show a_.eval (.tmp 39)=.slice (some ⟨bq,0,none⟩) n n from hD 0 rfl) (show a_.eval (.tmp 40)=.int .i64 (p:Int)from hD 1 rfl) hpn'⟩,
        trivial⟩
     ·intro a' w' hn' hd' hB' hR' hP';have e39:a'.eval (.tmp 39)=.slice (some ⟨bq,0,none⟩) n n:=hP' 0 (by decide);have e40:a'.eval (.tmp 40)=.int .i64 (p:Int):=hP' 1 (by decide);have e41:a'.eval (.tmp 41)=.slice (some ⟨b1,o1,none⟩) (n+1) cu:=hP' 2 (by decide);have e42:a'.eval (.tmp 42)=.int .i64 (n:Int):=hP' 3 (by decide);have e43:a'.eval (.tmp 43)=.pointer (some ⟨b1,o1+n*2,none⟩):=hP' 4 (by decide);obtain⟨u44,e44⟩:∃u,a'.eval (.tmp 44)=u:=⟨_,rfl⟩;have e45:a'.eval (.tmp 45)=.slice (some ⟨b1,o1,none⟩) (n+1) cu:=hP' 6 (by decide);have e46:a'.eval (.tmp 46)=.int .i64 (p:Int):=hP' 7 (by decide);have e47:a'.eval (.tmp 47)=.pointer (some ⟨b1,o1+p*2,none⟩):=hP' 8 (by decide);obtain⟨u48,e48⟩:∃u,a'.eval (.tmp 48)=u:=⟨_,rfl⟩;obtain⟨u49,e49⟩:∃u,a'.eval (.tmp 49)=u:=⟨_,rfl⟩;obtain⟨u38,e38⟩:∃u,a'.eval (.tmp 38)=u:=⟨_,rfl⟩;have hU:(RofS (Rat.divInt zn zp) (32+32)) (a'.eval (.tmp 38)) w':=hP' 11 (by decide);rw[e38]at hU;obtain⟨u50,e50⟩:∃u,a'.eval (.tmp 50)=u:=⟨_,rfl⟩;have hT:(OutQr (Rat.divInt zn zp) (32+32)) (a'.eval (.tmp 50)) w':=hP' 12 (by decide);rw[e50]at hT;have e51:a'.eval (.tmp 51)=.int .i64 0:=hP' 13 (by decide);have e52:a'.eval (.tmp 52)=.pointer (some ⟨bq,p*3,none⟩):=hP' 14 (by decide);refine aat hn' hd' hR' (.s16 rfl <| .s16 rfl <| .s4 rfl <| .same rfl <| .same rfl <| .new e38 <| .new e39 <| .new e40 <| .new e41 <| .new e42 <| .new e43 <| .new e44 <| .new e45 <| .new e46 <| .new e47 <| .new e48 <| .new e49 <| .new e50 <| .new e51 <| .new e52 <| .s16 rfl <| .s4 rfl <| .s4 rfl <| .s4 rfl <| .same rfl <| .same rfl <| .nil) ?_;clear e39 e40 e41 e42 e43 e44 e45 e46 e47 e48 e49 e38 e50 e51 e52;obtain⟨q38,rfl,-⟩:=hU;obtain⟨x,rfl⟩:=hT.agg;obtain⟨y,p0,p1,p2,⟨pf0,pf1,pf2⟩⟩:=(HQP4.out.below hB').cells hpn';obtain⟨t1,t2⟩:=(HQP4.out.below hB').put hpn' hT;have hne:bf≠bq:=(fun hh=>by
       obtain⟨us,_,h5,_⟩:=HFC4.out;obtain⟨_,fs,_,h6,_⟩:=HQP4.out;rw[hh]at h5;rw[h5]at h6
       simp at h6)
      have HT1:=hide t1;have HT2:=hide ((HW4.out.trans (hB'.mono HW4.out.size)).trans (t2.below (Nat.le_trans HW4.out.size hB'.size) HBQ.out));have HFC5:=hide (HFC4.out.blk ((t2.other bf (Nat.lt_of_lt_of_le HFC4.out.lt hB'.size) hne).trans (hB'.block _ HFC4.out.lt)));clear t1 t2 hT hB' hR' hP' hn' hd' hne;unfold FE.v;go_wp2;go_roundw
      case rel=>exact⟨k+1,by go_num,by omega,HT2.out,HFC5.out,by rw[HGQ.out];exact HT1.out,HLD2.out⟩
      case measure=>simp[intOf];omega
     ·intro a' w' hn' hd' hB' hR' hP';have e39:a'.eval (.tmp 39)=.slice (some ⟨bq,0,none⟩) n n:=hP' 0 (by decide) (by decide);have e40:a'.eval (.tmp 40)=.int .i64 (p:Int):=hP' 1 (by decide) (by decide);have e41:a'.eval (.tmp 41)=.slice (some ⟨b1,o1,none⟩) (n+1) cu:=hP' 2 (by decide) (by decide);have e42:a'.eval (.tmp 42)=.int .i64 (n:Int):=hP' 3 (by decide) (by decide);have e43:a'.eval (.tmp 43)=.pointer (some ⟨b1,o1+n*2,none⟩):=hP' 4 (by decide) (by decide);obtain⟨u44,e44⟩:∃u,a'.eval (.tmp 44)=u:=⟨_,rfl⟩;have e45:a'.eval (.tmp 45)=.slice (some ⟨b1,o1,none⟩) (n+1) cu:=hP' 6 (by decide) (by decide);have e46:a'.eval (.tmp 46)=.int .i64 (p:Int):=hP' 7 (by decide) (by decide);have e47:a'.eval (.tmp 47)=.pointer (some ⟨b1,o1+p*2,none⟩):=hP' 8 (by decide) (by decide);obtain⟨u48,e48⟩:∃u,a'.eval (.tmp 48)=u:=⟨_,rfl⟩;obtain⟨u49,e49⟩:∃u,a'.eval (.tmp 49)=u:=⟨_,rfl⟩;obtain⟨u38,e38⟩:∃u,a'.eval (.tmp 38)=u:=⟨_,rfl⟩;have hU:(RofS (Rat.divInt zn zp) (32+32)) (a'.eval (.tmp 38)) w':=hP' 11 (by decide) (by decide);rw[e38]at hU;obtain⟨u50,e50⟩:∃u,a'.eval (.tmp 50)=u:=⟨_,rfl⟩;have hT:(OutQr (Rat.divInt zn zp) (32+32)) (a'.eval (.tmp 50)) w':=hP' 12 (by decide) (by decide);rw[e50]at hT;obtain⟨u51,e51⟩:∃u,a'.eval (.tmp 51)=u:=⟨_,rfl⟩;have e52:a'.eval (.tmp 52)=.pointer (some ⟨bq,p*3,none⟩):=hP' 14 (by decide) (by decide);refine aat hn' hd' hR' (.s16 rfl <| .s16 rfl <| .s4 rfl <| .same rfl <| .same rfl <| .new e38 <| .new e39 <| .new e40 <| .new e41 <| .new e42 <| .new e43 <| .new e44 <| .new e45 <| .new e46 <| .new e47 <| .new e48 <| .new e49 <| .new e50 <| .new e51 <| .new e52 <| .s16 rfl <| .s4 rfl <| .s4 rfl <| .s4 rfl <| .same rfl <| .same rfl <| .nil) ?_;clear e39 e40 e41 e42 e43 e44 e45 e46 e47 e48 e49 e38 e50 e51 e52;obtain⟨q38,rfl,-⟩:=hU;obtain⟨x,rfl⟩:=hT.agg;obtain⟨y,p0,p1,p2,⟨pf0,pf1,pf2⟩⟩:=(HQP4.out.below hB').cells hpn';obtain⟨t1,t2⟩:=(HQP4.out.below hB').put hpn' hT;have hne:bf≠bq:=(fun hh=>by
       obtain⟨us,_,h5,_⟩:=HFC4.out;obtain⟨_,fs,_,h6,_⟩:=HQP4.out;rw[hh]at h5;rw[h5]at h6
       simp at h6)
      have HT1:=hide t1;have HT2:=hide ((HW4.out.trans (hB'.mono HW4.out.size)).trans (t2.below (Nat.le_trans HW4.out.size hB'.size) HBQ.out));have HFC5:=hide (HFC4.out.blk ((t2.other bf (Nat.lt_of_lt_of_le HFC4.out.lt hB'.size) hne).trans (hB'.block _ HFC4.out.lt)));clear t1 t2 hT hB' hR' hP' hn' hd' hne;unfold FE.v;go_wp2;go_roundw
      case rel=>exact⟨k+1,by go_num,by omega,HT2.out,HFC5.out,by rw[HGQ.out];exact HT1.out,HLD2.out⟩
      case measure=>simp[intOf];omega
   ·have hlt':decide ((k:Int)<(m:Int))=false:=by simp;omega
    obtain rfl:m=k:=by omega
    rw[List.take_of_length_le (by have:=HM.out;omega)]at hqp hld;have hA:=hAl wr (.cells #[.slice none 0 0] 39);have hng:=heap_alloc_new wr (.cells #[.slice none 0 0] 39);have hfm:=(hfac.isM HM.out (by omega) hbw).below hA;have K:=hide (afu (wr.alloc (.cells #[.slice none 0 0] 39)) (.slice (some ⟨bf,0,none⟩) m m) (fac n rows) n 32 hfm HSF.out (by omega));have HQP:=hide (hqp.below hA);have HLD:=hide hld;have HG0:Hid (w.heap.size<=wr.heap.size):=hbw.size;have HNG:=hide hng;have HW:=hide (hbw.trans (hA.mono hbw.size));clear hA hng hfm hqp hld hbw hfac;go_wp2_with fail
    generalize (wr.alloc (.cells #[.slice none 0 0] 39))=wy at *
    generalize wr.heap.size=g0 at *
    refine K.out.mono ?_;rintro e w1 ⟨⟨R,Q,hE,⟨hex,rfl⟩|⟨hal,rv,rfl,hO⟩⟩,hb⟩
    ·have K3:=hide (ab6 w1 (.slice none 0 0) 2);have HB:=hide (HW.out.trans (hb.mono HW.out.size));have HE:=hide hE;have HX:=hide hex;clear hE hex hb K;go_wp2_with fail
     refine K3.out.mono ?_;rintro e w2 ⟨⟨h2,_⟩|⟨_,rfl⟩,hb2⟩
     ·exact absurd h2 (by decide)
     ·have HB2:=hide (HB.out.trans (hb2.mono HB.out.size));clear hb2;go_wp2;exact⟨rfl,.inr ⟨HLD.out,R,Q,HE.out,.inl ⟨HX.out,rfl⟩⟩,HB2.out⟩
    ·have K3:=hide (ab6 w1 rv 0);have hEL:=Ech.elk hE;have HE:=hide hE;have HAL:=hide hal;have hO32:=hO.fit hal;obtain⟨St,hSt⟩:∃St,elR n (kerE n R Q)=St:=⟨_,rfl⟩;rw[hSt]at hO32 hEL;have HST:=hide hSt;have HEL:=hide (EL.lead hEL);have hsl:St.length<=64:=by
      have h1:=hEL.len;have h3:=af7 hEL.asc (fun p hp=>by
       obtain⟨i,hi⟩:=List.mem_iff_getElem?.1 hp;have hil:=(List.getElem?_eq_some_iff.1 hi).1;obtain⟨r,hr⟩:∃r,St[i]? = some r:=⟨_,List.getElem?_eq_getElem (by rw[<-h1];exact hil)⟩
       exact(hEL.row i r p hr hi).2.1)
      omega
     obtain⟨ar,cr,rfl,_⟩:=hO32.is.parts;obtain⟨m2,hm2⟩:∃m2,St.length=m2:=⟨_,rfl⟩;rw[hm2]at hO32 hsl K3 ⊢;have HM2:=hide hm2;have HB:=hide (HW.out.trans (hb.mono HW.out.size));have HQ1:=hide (HQP.out.below hb);have HN1:=hide ((hb.block _ (aaa HNG.out)).trans HNG.out);have HO1:=hide hO32;clear hE hal hO hO32 hb K hSt hEL hm2 HQP HNG HW;go_wp2_with fail
     refine K3.out.mono ?_;rintro e wk ⟨⟨_,rfl⟩|⟨h2,_⟩,hb2⟩
     ·have HBK:=hide (HB.out.trans (hb2.mono HB.out.size));have HQK:=hide (HQ1.out.below hb2);have HNK:=hide ((hb2.block _ (aaa HN1.out)).trans HN1.out);have HOK:=hide (HO1.out.below hb2);clear hb2 K3 HB HQ1 HN1 HO1;go_wp2;go_loopw [10,62] (fun lw iv wr=>∃(k:Nat),iv=.int .i64 k/\k<=m2/\Stt w.heap.size wk wr lw k (zro (St.take k)) 32) (fun _ iv _=>m2-(intOf iv).toNat)
      case atStart=>exact⟨0,rfl,Nat.zero_le _,Below.refl _ _,.inl ⟨rfl,rfl,g0,rfl,HG0.out,HNK.out⟩⟩
      case round=>
       obtain⟨k,rfl,hk,hst⟩:=hrel;by_cases hltk:k<m2
       ·have hltk':(k:Int)<(m2:Int):=by omega
        obtain⟨s,hs⟩:∃s,St[k]? = some s:=⟨_,List.getElem?_eq_getElem (by have:=HM2.out;omega)⟩;obtain⟨b3,o3,u,rfl,hbl3,hu,hor⟩:=ayy (HOK.out.below hst.1) hs;have hsn:=(HEL.out s (List.mem_of_getElem? hs)).1;obtain⟨bu,rfl,hor2⟩:=id hor;have hA:=hAl wr (.cells #[.bool false,.slice none 0 0] 45);have hng:=heap_alloc_new wr (.cells #[.bool false,.slice none 0 0] 45);have horA:=(hor.below hA).low (Nat.zero_le _);have HSTT:=hide (hst.below hA);have HSN:=hide hsn;have HGZ:Hid (zro (St.take (k+1))=zro (St.take k) ++ [s ++ [0]]):=(show _=_ by rw[List.take_add_one,hs];simp[zro]);clear hst hor hor2 hA hs hbl3;rw[hsn]at hu horA;go_wp2_with (at_builtin;refine abo rfl (a1n (K:=0) (i:=67) (j:=69) rfl horA rfl hng (by rw[HSN.out];omega) (Nat.zero_le _)) ?_)
        intro v1 w3 hb3 hgs;obtain⟨a4,c4,hv1,_⟩:=hgs.is.parts;have hsl1:(s ++ [(0:Int)]).length=n+1:=by simp[HSN.out]
        rw[hsl1]at hv1;clear hsl1;subst hv1;have hA3:=hAl w3 (.cells #[.slice a4 (n+1) c4] 39);have hn3:=heap_alloc_new w3 (.cells #[.slice a4 (n+1) c4] 39);have hst3:=(HSTT.out.below (by simpa using hb3)).below hA3;have hgs3:=GrS.mono _ _ _ _ _ _ hA3 hgs;clear hb3 hgs hA3 hng horA hu;go_wp2_with (at_builtin;refine abo rfl (ayx (i:=66) (j:=71) rfl hst3 rfl hn3 hgs3 rfl (by omega) HBK.out.size) ?_)
        intro v2 w4 hst4;have HS4:=hide hst4;clear hst3 hn3 hgs3 hst4;go_wp2;go_roundw
        case rel=>exact⟨k+1,by go_num,by omega,by rw[HGZ.out];exact HS4.out⟩
        case measure=>simp[intOf];omega
       ·have hltk':decide ((k:Int)<(m2:Int))=false:=by simp;omega
        obtain rfl:m2=k:=by omega
        rw[List.take_of_length_le (by have:=HM2.out;omega)]at hst;obtain⟨g,c2,cur,vs,rfl,hBg,hh,hkc,hcm,hcs,htk,hvl,hzl,hgr⟩:=hst.done HBK.out.size;have hc3:c2<=9223372036854775807:=by unfold maxLen at hcm;omega
        have HIQ:=hide ((HQK.out.below hst.1).isQs (by omega));have HQL:=hide (aif n rows);have HBW:=hide (HBK.out.trans (hst.1.mono HBK.out.size));have HWX:Hid (w.heap.size<=wr.heap.size):=HBW.out.size;have HHH:=hide hh;have HBGG:=hide hBg;have HTK:=hide htk;have HGR:=hide hgr;have HCS:=hide hcs;have HCM:=hide hcm;have HVL:=hide hvl;have HZL:=hide hzl;clear hst hBg hh hcm hcs htk hvl hzl hgr HOK HNK HQK;go_upto_region 17 with fail
        refine al4 5 0 [74,75,76,77,78] [Eqs (.slice (some ⟨g,0,none⟩) (m2+1) c2),Eqs (.slice (some ⟨bq,0,none⟩) n n),(LifS w.heap.size (liftZ (ptQ n rows)) 545),Eqs (.slice (some ⟨g,0,none⟩) (m2+1) c2),(Tl1 g m2)] rfl rfl (by decide) (by kernel_rfl) (by kernel_rfl) (by decide) (by decide) rfl rfl (by kernel_rfl) (by kernel_rfl) ⟨Eqs.mono _,Eqs.mono _,(LifS.mono _ _ _),Eqs.mono _,(Tl1.mono _ _),trivial⟩ ?_ ?_ ?_
        ·exact⟨⟨rfl,fun a_ w_ _ hB hR hD=>aal ((hR 10 rfl).trans (aab rfl))⟩,
           ⟨rfl,fun a_ w_ _ hB hR hD=>aal ((hR 6 rfl).trans (aab rfl))⟩,
           ⟨rfl,fun a_ w_ _ hB hR hD=>avx (n:=n) (by rw[(show a_.eval (.tmp 75)=.slice (some ⟨bq,0,none⟩) n n from hD 1 rfl)];exact HIQ.out.below hB) HQL.out (by omega) HFT.out (Nat.le_trans HWX.out hB.size)⟩,
           ⟨rfl,fun a_ w_ _ hB hR hD=>aal ((hR 10 rfl).trans (aab rfl))⟩,
           ⟨rfl,fun a_ w_ _ hB hR hD=>a1p (show a_.eval (.tmp 77)=.slice (some ⟨g,0,none⟩) (m2+1) c2 from hD 3 rfl) hkc hc3⟩,
           trivial⟩
        ·intro a' w' hn' hd' hB' hR' hP';have e74:a'.eval (.tmp 74)=.slice (some ⟨g,0,none⟩) (m2+1) c2:=hP' 0 (by decide);have e75:a'.eval (.tmp 75)=.slice (some ⟨bq,0,none⟩) n n:=hP' 1 (by decide);obtain⟨u76,e76⟩:∃u,a'.eval (.tmp 76)=u:=⟨_,rfl⟩;have hT:(LifS w.heap.size (liftZ (ptQ n rows)) 545) (a'.eval (.tmp 76)) w':=hP' 2 (by decide);rw[e76]at hT;have e77:a'.eval (.tmp 77)=.slice (some ⟨g,0,none⟩) (m2+1) c2:=hP' 3 (by decide);obtain⟨u78,e78⟩:∃u,a'.eval (.tmp 78)=u:=⟨_,rfl⟩;have hU:(Tl1 g m2) (a'.eval (.tmp 78)) w':=hP' 4 (by decide);rw[e78]at hU;refine aat hn' hd' hR' (.s16 rfl <| .s16 rfl <| .s16 rfl <| .s16 rfl <| .s4 rfl <| .s4 rfl <| .same rfl <| .same rfl <| .new e74 <| .new e75 <| .new e76 <| .new e77 <| .new e78 <| .s4 rfl <| .nil) ?_;clear e74 e75 e76 e77 e78;have hor:ORow w.heap.size w' u76 (liftZ (ptQ n rows)) 545:=hT;obtain⟨bl,rfl,hor2⟩:=id hor;obtain⟨a5,c5,rfl,_⟩:=id hU;have hh6:=(hB'.block _ (aaa HHH.out)).trans HHH.out;have hg6:∀(i:Nat) (u:Value) (z:List Int),vs[i]? = some u->(zro St)[i]? = some z->GrS 0 z 32 u w':=fun i u z a b=>GrS.mono _ _ _ _ _ _ hB' (HGR.out i u z a b)
         have K:=hide (aj2 w' _ _ (liftZ (ptQ n rows)) (zro St) 545 n hor.is (by rw[abn,HQL.out]) (avy hU hh6 HTK.out HVL.out HZL.out hg6) (agx HEL.out) (show fnR (liftZ (ptQ n rows)) n≠0 from by have:=afd (ptQ n rows);rwa[HQL.out]at this) (by omega) (by rw[HZL.out];omega) (by omega) (by omega));have HB6:=hide (HBW.out.trans (hB'.mono HBW.out.size));have HH6:=hide hh6;have HG6:=hide hg6;rw[abn,HQL.out]at K;clear hT hor hor2 hU hh6 hg6 hB' hR' hP' hn' hd';rw[abn,HQL.out];go_wp2_with fail
         refine K.out.mono ?_;rintro e w6 ⟨⟨hany,rfl⟩|⟨hfit,rp,rfl,hOp⟩,hb6⟩
         ·have HB7:=hide (HB6.out.trans (hb6.mono HB6.out.size));have HAN:=hide hany;clear hany hb6 K;go_wp2;exact⟨rfl,.inr ⟨HLD.out,R,Q,HE.out,.inr ⟨HAL.out,.inl ⟨by rw[HST.out];exact HAN.out,rfl⟩⟩⟩,HB7.out⟩
         ·have HB7:=hide (HB6.out.trans (hb6.mono HB6.out.size));have HFI:=hide hfit;obtain⟨bp,rfl,_⟩:=id hOp;have hh7:=(hb6.block _ (aaa HH6.out)).trans HH6.out;have hg7:∀(i:Nat) (u:Value) (z:List Int),vs[i]? = some u->(zro St)[i]? = some z->GrS 0 z 32 u w6:=fun i u z a b=>GrS.mono _ _ _ _ _ _ hb6 (HG6.out i u z a b)
          have hres:=avz hh7 HCS.out hkc HCM.out HTK.out HVL.out HZL.out hg7 (by omega) hOp;have hcell:w6.cell? ⟨g,0,none⟩=some (.slice none 0 0):=by
           rw[cell_of_row _ _ _ _ _ (0,0) hh7,<-Array.getElem?_toList];have h4:(cur.toList.take (m2+1))[0]? = some (.slice none 0 0):=by rw[HTK.out];rfl
           rw[List.getElem?_take]at h4;split at h4
           ·exact h4
           ·cases h4
          have hfz:w6.frozen? ⟨g,0,none⟩=false:=frozen_of_row _ _ _ _ _ hh7;have HRES:=hide hres;have hlt0:0<m2+1:=by omega
          have hB8:Below w.heap.size w (w6.setCell ⟨g,0,none⟩ (.slice (some ⟨bp,0,none⟩) (liftZ (lowQ (basZ (liftZ (ptQ n rows)) n (zro St)) n)).length (liftZ (lowQ (basZ (liftZ (ptQ n rows)) n (zro St)) n)).length)):=HB7.out.setCell HBGG.out _;have HB8:=hide hB8;clear hB8;clear hfit hOp hb6 K hh7 hg7 hres;go_wp2;refine bodyPost_ret (v:=_) (by simp[results,Tryz.results155,go_sem];try rfl) rfl ⟨.inr ⟨HLD.out,R,Q,HE.out,.inr ⟨HAL.out,.inr ⟨by rw[HST.out];exact HFI.out,_,rfl,_,rfl,by rw[HST.out];exact HRES.out⟩⟩⟩,HB8.out⟩
        ·intro a' w' hn' hd' hB' hR' hP';obtain⟨u74,e74⟩:∃u,a'.eval (.tmp 74)=u:=⟨_,rfl⟩;have e75:a'.eval (.tmp 75)=.slice (some ⟨bq,0,none⟩) n n:=hP' 1 (by decide) (by decide);obtain⟨u76,e76⟩:∃u,a'.eval (.tmp 76)=u:=⟨_,rfl⟩;have hT:(LifS w.heap.size (liftZ (ptQ n rows)) 545) (a'.eval (.tmp 76)) w':=hP' 2 (by decide) (by decide);rw[e76]at hT;have e77:a'.eval (.tmp 77)=.slice (some ⟨g,0,none⟩) (m2+1) c2:=hP' 3 (by decide) (by decide);obtain⟨u78,e78⟩:∃u,a'.eval (.tmp 78)=u:=⟨_,rfl⟩;have hU:(Tl1 g m2) (a'.eval (.tmp 78)) w':=hP' 4 (by decide) (by decide);rw[e78]at hU;refine aat hn' hd' hR' (.s16 rfl <| .s16 rfl <| .s16 rfl <| .s16 rfl <| .s4 rfl <| .s4 rfl <| .same rfl <| .same rfl <| .new e74 <| .new e75 <| .new e76 <| .new e77 <| .new e78 <| .s4 rfl <| .nil) ?_;clear e74 e75 e76 e77 e78;have hor:ORow w.heap.size w' u76 (liftZ (ptQ n rows)) 545:=hT;obtain⟨bl,rfl,hor2⟩:=id hor;obtain⟨a5,c5,rfl,_⟩:=id hU;have hh6:=(hB'.block _ (aaa HHH.out)).trans HHH.out;have hg6:∀(i:Nat) (u:Value) (z:List Int),vs[i]? = some u->(zro St)[i]? = some z->GrS 0 z 32 u w':=fun i u z a b=>GrS.mono _ _ _ _ _ _ hB' (HGR.out i u z a b)
         have K:=hide (aj2 w' _ _ (liftZ (ptQ n rows)) (zro St) 545 n hor.is (by rw[abn,HQL.out]) (avy hU hh6 HTK.out HVL.out HZL.out hg6) (agx HEL.out) (show fnR (liftZ (ptQ n rows)) n≠0 from by have:=afd (ptQ n rows);rwa[HQL.out]at this) (by omega) (by rw[HZL.out];omega) (by omega) (by omega));have HB6:=hide (HBW.out.trans (hB'.mono HBW.out.size));have HH6:=hide hh6;have HG6:=hide hg6;rw[abn,HQL.out]at K;clear hT hor hor2 hU hh6 hg6 hB' hR' hP' hn' hd';rw[abn,HQL.out];go_wp2_with fail
         refine K.out.mono ?_;rintro e w6 ⟨⟨hany,rfl⟩|⟨hfit,rp,rfl,hOp⟩,hb6⟩
         ·have HB7:=hide (HB6.out.trans (hb6.mono HB6.out.size));have HAN:=hide hany;clear hany hb6 K;go_wp2;exact⟨rfl,.inr ⟨HLD.out,R,Q,HE.out,.inr ⟨HAL.out,.inl ⟨by rw[HST.out];exact HAN.out,rfl⟩⟩⟩,HB7.out⟩
         ·have HB7:=hide (HB6.out.trans (hb6.mono HB6.out.size));have HFI:=hide hfit;obtain⟨bp,rfl,_⟩:=id hOp;have hh7:=(hb6.block _ (aaa HH6.out)).trans HH6.out;have hg7:∀(i:Nat) (u:Value) (z:List Int),vs[i]? = some u->(zro St)[i]? = some z->GrS 0 z 32 u w6:=fun i u z a b=>GrS.mono _ _ _ _ _ _ hb6 (HG6.out i u z a b)
          have hres:=avz hh7 HCS.out hkc HCM.out HTK.out HVL.out HZL.out hg7 (by omega) hOp;have hcell:w6.cell? ⟨g,0,none⟩=some (.slice none 0 0):=by
           rw[cell_of_row _ _ _ _ _ (0,0) hh7,<-Array.getElem?_toList];have h4:(cur.toList.take (m2+1))[0]? = some (.slice none 0 0):=by rw[HTK.out];rfl
           rw[List.getElem?_take]at h4;split at h4
           ·exact h4
           ·cases h4
          have hfz:w6.frozen? ⟨g,0,none⟩=false:=frozen_of_row _ _ _ _ _ hh7;have HRES:=hide hres;have hlt0:0<m2+1:=by omega
          have hB8:Below w.heap.size w (w6.setCell ⟨g,0,none⟩ (.slice (some ⟨bp,0,none⟩) (liftZ (lowQ (basZ (liftZ (ptQ n rows)) n (zro St)) n)).length (liftZ (lowQ (basZ (liftZ (ptQ n rows)) n (zro St)) n)).length)):=HB7.out.setCell HBGG.out _;have HB8:=hide hB8;clear hB8;clear hfit hOp hb6 K hh7 hg7 hres;go_wp2;refine bodyPost_ret (v:=_) (by simp[results,Tryz.results155,go_sem];try rfl) rfl ⟨.inr ⟨HLD.out,R,Q,HE.out,.inr ⟨HAL.out,.inr ⟨by rw[HST.out];exact HFI.out,_,rfl,_,rfl,by rw[HST.out];exact HRES.out⟩⟩⟩,HB8.out⟩
     ·exact absurd rfl h2
end Lm
namespace Md
end Md
namespace Lm
open Go Go.RowKit Md
theorem ayz{r:List Int}{n:Nat}(h:r.length=n):gRow (fnR r) n=r:=by
 apply List.ext_getElem?;intro k;by_cases hk:k<n
 ·rw[abd hk];unfold fnR;rw[List.getD_eq_getElem?_getD,List.getElem?_eq_getElem (by omega)];rfl
 ·rw[List.getElem?_eq_none (by rw[aao];omega),List.getElem?_eq_none (by omega)]
end Lm
namespace Lm
open Go Go.RowKit Md
theorem a1q{n:Nat}{R:List Md.Rw}{Q:List Nat}(hQ:∀q∈Q,q<n){c:Nat}(hc:c<n):∀k,n<=k->acr R Q c k=0:=fun k hk=>by
 unfold acr;rw[if_neg (by omega),if_neg (fun h=>by have:=hQ k h;omega)]
def Kern(n:Nat)(rows:List (List Int))(x:Md.Rw):Prop:=(∀c,n<=c->x c=0)/\∀r∈rows,dotN n (fnR r) x=0
theorem a3i{R:List Md.Rw}{x:Md.Rw}{n:Nat}(h:RS R x)(hR:∀y∈R,∀c,n<=c->y c=0):∀c,n<=c->x c=0:=fun c hc=>by
 obtain⟨a,ha,hs⟩:=h;have:=ajx hs (c:=c) (fun y hy=>hR y hy c hc);rcases Int.mul_eq_zero.1 this with h|h
 ·exact absurd h ha
 ·exact h
theorem a1r{n:Nat}{rows:List (List Int)}{S:List Md.Rw}(hS:∀y∈S,Kern n rows y){x:Md.Rw}(h:RS S x):Kern n rows x:=by
 refine⟨a3i h fun y hy=>(hS y hy).1,fun r hr=>?_⟩;rw[aa1];refine ac9 (fun y hy=>?_) h;rw[aa1];exact(hS y hy).2 r hr
theorem Ech.ker{n:Nat}{rows:List (List Int)}{R:List Md.Rw}{Q:List Nat}(h:Ech n (mir rows) R Q)(hrn:∀r∈rows,r.length=n)(x:Md.Rw):RS (rowsE (kerE n R Q)) x↔Kern n rows x:=by
 have hrr:∀r∈rows,RS R (rev n (fnR r)):=fun r hr=>by
  rw[<-af6 (hrn r hr)];exact h.rows_in (aex.2 (by rw[List.reverse_reverse];exact hr))
 have hro:∀r∈rows,∀c,n<=c->fnR r c=0:=fun r hr c hc=>acc (by rw[hrn r hr];exact hc)
 constructor
 ·refine a1r fun y hy=>?_
  obtain⟨e,he,rfl⟩:=List.mem_map.1 hy;refine⟨ai8 e he,fun r hr=>?_⟩;obtain⟨c,hc,rfl⟩:=List.mem_map.1 he;have hf:=abi.1 (List.mem_reverse.1 hc);show dotN n (fnR r) (rev n (acr R Q c))=0;rw[<-aib,ad1 (a1q h.gat.lt hf.1),ah8 (abc h.gat.desc) h.gat.lt hf.1 hf.2];exact af3 (hrr r hr) _
 ·rintro ⟨h1,h2⟩;have hv:∀c,n<=c->rev n x c=0:=fun c hc=>if_neg (by omega)
  have h3:=au6 (y:=rev n x) (abc h.gat.desc) h.gat.ne h.gat.lt hv (fun y hy=>by
   obtain⟨r,hr,rfl⟩:=h.mem hy;have hr':=aex.1 hr;have hl:r.length=n:=by have:=hrn _ hr';simpa using this
   have h5:=h2 _ hr';rw[af6 hl,<-aib,ad1 (fun c hc=>acc (by rw[hl];exact hc))]at h5
   exact h5)
  have h4:=ajv (n:=n) h3;rw[ad1 h1]at h4;refine h4.trans fun y hy=>.mem ?_
  obtain⟨z,hz,rfl⟩:=List.mem_map.1 hy;obtain⟨c,hc,rfl⟩:=List.mem_map.1 hz;exact List.mem_map.2 ⟨(n-1-c,rev n (acr R Q c)),List.mem_map.2 ⟨c,List.mem_reverse.2 hc,rfl⟩,rfl⟩
end Lm
namespace Lm
open Go Go.RowKit Md
theorem aht{n:Nat}{rows:List (List Int)}{R R':List Md.Rw}{Q Q':List Nat}(h:Ech n (mir rows) R Q)(h':Ech n (mir rows) R' Q')(hrn:∀r∈rows,r.length=n):elR n (kerE n R' Q')=elR n (kerE n R Q):=by
 refine avo h'.gat.kerEF h.gat.kerEF (fun e he=>?_) (fun e he=>?_)
 ·rw[h.ker hrn,<-h'.ker hrn];exact .mem (List.mem_map.2 ⟨e,he,rfl⟩)
 ·rw[h'.ker hrn,<-h.ker hrn];exact .mem (List.mem_map.2 ⟨e,he,rfl⟩)
end Lm
namespace Lm
open Go Go.RowKit Md
theorem av0:Has Tryz.prog 211:=by unfold Has;kernel_rfl
theorem av1(W:World)(xv:Value)(z:List Int)(L n g:Nat)(h:IsRow W xv z L)(hl:z.length=n+1)(hg:W.heap[g]? = some (.cells #[.int .i64 (n:Int)] 3 (0,0)))(hn:n<=1000)(hL:L<=400000000):
  Calls Tryz.prog 211 (#[xv] ++ #[.pointer (some ⟨g,0,none⟩)]) W fun e W'=>e=.returned (.bool (decide (fnR z n≠0)))/\Below W.heap.size W W':=by
 obtain⟨ao,cp,rfl,_⟩:=h.parts;rw[hl]at h ⊢;obtain⟨b,o,ng,a,m,c,rfl,hb,x0,x1,hx⟩:=h.cell (k:=n) (z:=fnR z n) (acd (by omega));obtain⟨hgl,c0,_⟩:=aae hg;have K:=hide (aer W (fnR z n) L _ hx hL);have hltn:n<n+1:=by omega
 have hltz:(n:Int)<((n+1:Nat):Int):=by omega
 clear h hg hx;go_enter Tryz.func211,Tryz.ntmps211
 go_wp2_with fail
 refine K.out.mono ?_;rintro e w1 ⟨rfl,hb1⟩;have HB:=hide hb1;clear hb1 K;go_wp2;refine bodyPost_ret (v:=_) (by simp[results,Tryz.results211,go_sem];try rfl) rfl ⟨rfl,HB.out⟩
def KBig(n:Nat)(ls:List (List Int)):Prop:=∃R Q,Ech n (mir ls) R Q/\∃r∈elR n (kerE n R Q),r.any big=true
theorem agy{n:Nat}{ls:List (List Int)}{R:List Md.Rw}{Q:List Nat}(hrn:∀r∈ls,r.length=n)(h:KBig n ls)(hE:Ech n (mir ls) R Q)(hal:∀r∈elR n (kerE n R Q),r.any big=false):False:=by
 obtain⟨R',Q',h1,r,h2,h3⟩:=h;rw[aht hE h1 hrn]at h2;rw[hal r h2]at h3;cases h3
def KerV(n:Nat)(ls:List (List Int)):Says:=fun v w=>(v=.tuple #[.slice none 0 0,.int .i64 2]/\KBig n ls)\/∃R Q rv,Ech n (mir ls) R Q/\(∀r∈elR n (kerE n R Q),r.any big=false)/\v=.tuple #[rv,.int .i64 0]/\IsM w rv (elR n (kerE n R Q)) 32
def KerX0(n:Nat)(ls:List (List Int)):Says:=fun v w=>(v=.slice none 0 0/\KBig n ls)\/∃R Q,Ech n (mir ls) R Q/\(∀r∈elR n (kerE n R Q),r.any big=false)/\IsM w v (elR n (kerE n R Q)) 32
def KerX1(n:Nat)(ls:List (List Int)):Says:=fun v _=>(v=.int .i64 2/\KBig n ls)\/∃R Q,Ech n (mir ls) R Q/\(∀r∈elR n (kerE n R Q),r.any big=false)/\v=.int .i64 0
theorem KerV.mono(n:Nat)(ls:List (List Int)):Mono (KerV n ls):=fun _ _ _ hb h=>by
 rcases h with h|⟨R,Q,rv,h1,h2,h3,h4⟩
 ·exact .inl h
 ·exact .inr ⟨R,Q,rv,h1,h2,h3,h4.below hb⟩
theorem KerX0.mono(n:Nat)(ls:List (List Int)):Mono (KerX0 n ls):=fun _ _ _ hb h=>by
 rcases h with h|⟨R,Q,h1,h2,h4⟩
 ·exact .inl h
 ·exact .inr ⟨R,Q,h1,h2,h4.below hb⟩
theorem KerX1.mono(n:Nat)(ls:List (List Int)):Mono (KerX1 n ls):=fun _ _ _ _ h=>h
theorem ay0:Has Tryz.prog 161:=by unfold Has;kernel_rfl
section
variable {dst:Option Tmp} {ty:TypeId} {pos:String} {after:Array Edge} {guard:Option (Nat×Bool)} {a:Act} {w:World} {i j:Nat} {ats:Array TypeId}
theorem av2{g:Nat}{z:Int}(hp:a.eval (.tmp i)=.pointer (some ⟨g,0,none⟩))(hg:w.heap[g]? = some (.cells #[.int .i64 z] 3 (0,0))):Does Tryz.prog {dst,op:=.load 3 (.tmp i),type:=ty,pos,after,guard} a.eval w fun v' w'=>Below w.heap.size w w'/\Eqs (.int .i64 z) v' w':=by
 obtain⟨hgl,c0,_⟩:=aae hg;refine aa3 (v:=.int .i64 z) ?_ ⟨Below.refl _ _,rfl⟩;rw[hp];go_simp
theorem a1s{v:Value}{ls:List (List Int)}{L n:Nat}(hv:a.eval (.tmp i)=v)(hj:a.eval (.tmp j)=.int .i64 (n:Int))(h:IsM w v ls L)(hs:Shaped ls (n:Int))(hL:L<=1510000):
  Does Tryz.prog {dst,op:=.call {callee:=.value (.func 161),args:=#[.tmp i,.tmp j],argTypes:=ats},type:=ty,pos,after,guard} a.eval w fun v w'=>Below w.heap.size w w'/\KerV n ls v w':=by
 refine aah ay0 #[v,.int .i64 (n:Int)] (by simp[hv,hj]) ((afu w v ls n L h hs hL).mono ?_);rintro e w' ⟨⟨R,Q,hE,⟨hex,rfl⟩|⟨hal,rv,rfl,hO⟩⟩,hb⟩
 ·exact⟨_,rfl,hb,.inl ⟨rfl,R,Q,hE,hex⟩⟩
 ·exact⟨_,rfl,hb,.inr ⟨R,Q,rv,hE,hal,rfl,(hO.fit hal).is⟩⟩
theorem a3j{ls:List (List Int)}{n:Nat}(h:KerV n ls (a.eval (.tmp i)) w):Does Tryz.prog {dst,op:=.extract (.tmp i) 0,type:=ty,pos,after,guard} a.eval w fun v w'=>Below w.heap.size w w'/\KerX0 n ls v w':=by
 rcases h with⟨e,h⟩|⟨R,Q,rv,h1,h2,e,h4⟩
 ·refine aa5 (v:=.slice none 0 0) ?_ ⟨Below.refl _ _,.inl ⟨rfl,h⟩⟩;rw[e];rfl
 ·refine aa5 (v:=rv) ?_ ⟨Below.refl _ _,.inr ⟨R,Q,h1,h2,h4⟩⟩;rw[e];rfl
theorem a3k{ls:List (List Int)}{n:Nat}(h:KerV n ls (a.eval (.tmp i)) w):Does Tryz.prog {dst,op:=.extract (.tmp i) 1,type:=ty,pos,after,guard} a.eval w fun v w'=>Below w.heap.size w w'/\KerX1 n ls v w':=by
 rcases h with⟨e,h⟩|⟨R,Q,rv,h1,h2,e,h4⟩
 ·refine aa5 (v:=.int .i64 2) ?_ ⟨Below.refl _ _,.inl ⟨rfl,h⟩⟩;rw[e];rfl
 ·refine aa5 (v:=.int .i64 0) ?_ ⟨Below.refl _ _,.inr ⟨R,Q,h1,h2,rfl⟩⟩;rw[e];rfl
end
def LowL(w':World)(n:Nat)(ls:List (List Int))(e:Ending):Prop:=
 ((∀z∈ls,fnR z n=0)/\∃v,e=.returned v/\IsLi w' v [] 600) \/
 ((∃z∈ls,fnR z n≠0)/\∃R Q,Ech (n+1) (mir ls) R Q/\(((∃r∈elR (n+1) (kerE (n+1) R Q),r.any big=true)/\e=.panicked (thrown 2))\/((∀r∈elR (n+1) (kerE (n+1) R Q),r.any big=false)/\MirE w' n (elR (n+1) (kerE (n+1) R Q)) e)))
theorem aq6{w':World}{n:Nat}{rows:List (List Int)}(h:MirE w' n rows .outgrown):False:=by
 rcases h with⟨_,v,h,_⟩|⟨_,R,Q,_,⟨_,h⟩|⟨_,⟨_,h⟩|⟨_,v,h,_⟩⟩⟩ <;> cases h
set_option maxRecDepth 100000 in
theorem an8(w:World)(v:Value)(ls:List (List Int))(L n:Nat)(h:IsM w v ls L)(hs:Shaped ls ((n+1:Nat):Int))(hn:n<=16)(hL:L<=1510000):
  Calls Tryz.prog 208 #[v,.int .i64 (n:Int)] w fun e w'=>LowL w' n ls e/\Below w.heap.size w w':=by
 have hrn:∀r∈ls,r.length=n+1:=fun r hr=>by have:=hs.2.2.2 r hr;omega
 have hba:=hAl w (.cells #[.int .i64 (n:Int)] 3);have hnb:=heap_alloc_new w (.cells #[.int .i64 (n:Int)] 3);have K0:=hide (akm (w.alloc (.cells #[.int .i64 (n:Int)] 3)) v ls L (h.below hba) 211 av0 #[.pointer (some ⟨w.heap.size,0,none⟩)] (fun z=>decide (fnR z n≠0)) (fun W z xv hb hz hx=>av1 W xv z L n w.heap.size hx (hrn z hz) ((hb.block _ (aaa hnb)).trans hnb) (by omega) (by omega)));have HM:=hide (h.below hba);have HS:=hide hs;have HRN:=hide hrn;have HNB:=hide hnb;have HBA:=hide hba;obtain⟨ao,cp,rfl,hm⟩:=h.parts;obtain⟨m,hm'⟩:∃m,ls.length=m:=⟨_,rfl⟩;rw[hm']at K0 HM hm ⊢;have hmf:∀(fn:Fn) (first cap:Array Value) (w:World),(Instr.makeFunc fn first cap).run Tryz.prog w=.ok (.func fn first cap) w:=fun _ _ _ _=>rfl
 clear h hs hrn hba hnb hm';go_enter Tryz.func208,Tryz.ntmps208
 go_wp2_with fail
 refine K0.out.mono ?_;generalize (w.alloc (.cells #[.int .i64 (n:Int)] 3))=wa at *
 rintro e w1 ⟨rfl,hb1⟩;have HB1:=hide (HBA.out.trans (hb1.mono HBA.out.size));have HM1:=hide (HM.out.below hb1);have HN1:=hide ((hb1.block _ (aaa HNB.out)).trans HNB.out);clear hb1 K0 HM HNB HBA;cases hany:ls.any fun z=>decide (fnR z n≠0) with
 |false=>
  have HZ:Hid (∀z∈ls,fnR z n=0):=(fun z hz=>by simpa using List.any_eq_false.1 hany z hz);have HB2:=hide (HB1.out.trans ((hAl w1 (.cells #[] 39)).mono HB1.out.size));clear hany;go_wp2;refine bodyPost_ret (v:=_) (by simp[results,Tryz.results208,go_sem];try rfl) rfl ⟨.inl ⟨HZ.out,_,rfl,_,rfl,ajb _ _ _⟩,HB2.out⟩
 |true=>
  have HZ:Hid (∃z∈ls,fnR z n≠0):=(show ∃z∈ls,_ by
   obtain⟨z,hz,h1⟩:=List.any_eq_true.1 hany
   exact⟨z,hz,by simpa using h1⟩)
  clear hany;go_upto_region 3 with fail
  refine api 6 [11,12,13,14,15,16,17,18] [Eqs (.slice ao m cp),Eqs (.int .i64 (n:Int)),Eqs (.int .i64 ((n+1:Nat):Int)),(KerV (n+1) ls),(KerX0 (n+1) ls),(KerX1 (n+1) ls),(fun _ _=>True),Eqs (.int .i64 (n:Int))] rfl rfl (by decide) (by kernel_rfl) rfl (by kernel_rfl) (by decide) rfl (by kernel_rfl) ⟨Eqs.mono _,Eqs.mono _,Eqs.mono _,(KerV.mono _ _),(KerX0.mono _ _),(KerX1.mono _ _),(fun _ _ _ _ _=>trivial),Eqs.mono _,trivial⟩ ?_ ?_ ?_
  ·exact⟨.inr ⟨rfl,rfl,fun a_ w_ _ hB hR hD=>aal ((hR 0 rfl).trans (aab rfl))⟩,
     .inr ⟨rfl,rfl,fun a_ w_ _ hB hR hD=>av2 ((hR 3 rfl).trans (aab rfl)) ((hB.block _ (aaa HN1.out)).trans HN1.out)⟩,
     .inr ⟨rfl,rfl,fun a_ w_ _ hB hR hD=>aql (show a_.eval (.tmp 12)=.int .i64 (n:Int)from hD 1 rfl) (by omega)⟩,
     .inr ⟨rfl,rfl,fun a_ w_ _ hB hR hD=>a1s (show a_.eval (.tmp 11)=.slice ao m cp from hD 0 rfl) (show a_.eval (.tmp 13)=.int .i64 ((n+1:Nat):Int)from hD 2 rfl) (HM1.out.below hB) HS.out hL⟩,
     .inr ⟨rfl,rfl,fun a_ w_ _ hB hR hD=>a3j (show(KerV (n+1) ls) (a_.eval (.tmp 14)) w_ from hD 3 rfl)⟩,
     .inr ⟨rfl,rfl,fun a_ w_ _ hB hR hD=>a3k (show(KerV (n+1) ls) (a_.eval (.tmp 14)) w_ from hD 3 rfl)⟩,
     .inl rfl,
     .inr ⟨rfl,rfl,fun a_ w_ _ hB hR hD=>av2 ((hR 3 rfl).trans (aab rfl)) ((hB.block _ (aaa HN1.out)).trans HN1.out)⟩,
     trivial⟩
  ·intro a' w' hn' hd' hB' hR' hP';have e11:a'.eval (.tmp 11)=.slice ao m cp:=hP' 0 (by decide);have e12:a'.eval (.tmp 12)=.int .i64 (n:Int):=hP' 1 (by decide);have e13:a'.eval (.tmp 13)=.int .i64 ((n+1:Nat):Int):=hP' 2 (by decide);obtain⟨u14,e14⟩:∃u,a'.eval (.tmp 14)=u:=⟨_,rfl⟩;obtain⟨u15,e15⟩:∃u,a'.eval (.tmp 15)=u:=⟨_,rfl⟩;have hX0:(KerX0 (n+1) ls) (a'.eval (.tmp 15)) w':=hP' 4 (by decide);rw[e15]at hX0;obtain⟨u16,e16⟩:∃u,a'.eval (.tmp 16)=u:=⟨_,rfl⟩;have hX1:(KerX1 (n+1) ls) (a'.eval (.tmp 16)) w':=hP' 5 (by decide);rw[e16]at hX1;obtain⟨u17,e17⟩:∃u,a'.eval (.tmp 17)=u:=⟨_,rfl⟩;obtain⟨u18,e18⟩:∃u,a'.eval (.tmp 18)=u:=⟨_,rfl⟩;refine aat hn' hd' hR' (.s4 rfl <| .s4 rfl <| .same rfl <| .same rfl <| .same rfl <| .new e11 <| .new e12 <| .new e13 <| .new e14 <| .new e15 <| .new e16 <| .new e17 <| .new e18 <| .same rfl <| .nil) ?_;clear e11 e12 e13 e14 e15 e16 e17 e18;have HB2:=hide (HB1.out.trans (hB'.mono HB1.out.size));have HN2:=hide ((hB'.block _ (aaa HN1.out)).trans HN1.out);clear hB' hR' hP' hn' hd';rcases hX1 with⟨rfl,hkb⟩|⟨R,Q,hE,hal,rfl⟩
   ·have hx:u15=.slice none 0 0:=by
     rcases hX0 with⟨h1,_⟩|⟨R,Q,hE,hal,_⟩
     ·exact h1
     ·exact(agy HRN.out hkb hE hal).elim
    subst hx;clear hX0;have HKB:=hide hkb;have K3:=hide (ab6 w' (.slice none 0 0) 2);clear hkb;go_wp2_with fail
    refine K3.out.mono ?_;rintro e w2 ⟨⟨h2,_⟩|⟨_,rfl⟩,hb2⟩
    ·exact absurd h2 (by decide)
    ·have HB3:=hide (HB2.out.trans (hb2.mono HB2.out.size));clear hb2;go_wp2;refine⟨rfl,?_,HB3.out⟩;obtain⟨R,Q,hE,hbg⟩:=HKB.out;exact .inr ⟨HZ.out,R,Q,hE,.inl ⟨hbg,rfl⟩⟩
   ·have hx:IsM w' u15 (elR (n+1) (kerE (n+1) R Q)) 32:=by
     rcases hX0 with⟨h1,hkb⟩|⟨R',Q',hE',hal',h2⟩
     ·exact(agy HRN.out hkb hE hal).elim
     ·rwa[aht hE hE' HRN.out]at h2
    clear hX0;have HE:=hide hE;have HAL:=hide hal;have HIM:=hide hx;obtain⟨ar,cr,rfl,_⟩:=hx.parts;have hEL:=Ech.elk hE;have HLD:Hid (∀r∈elR (n+1) (kerE (n+1) R Q),r.length=n+1/\∃p,p<n+1/\Lead r p):=EL.lead hEL;have HLE:Hid ((elR (n+1) (kerE (n+1) R Q)).length<=64):=(show _<=_ by
     have h1:=hEL.len;have h3:=af7 hEL.asc (fun p hp=>by
      obtain⟨i,hi⟩:=List.mem_iff_getElem?.1 hp;have hil:=(List.getElem?_eq_some_iff.1 hi).1;obtain⟨r,hr⟩:∃r,(elR (n+1) (kerE (n+1) R Q))[i]? = some r:=⟨_,List.getElem?_eq_getElem (by rw[<-h1];exact hil)⟩
      exact(hEL.row i r p hr hi).2.1)
     omega)
    have K3:=ab6 w' (.slice ar (elR (n+1) (kerE (n+1) R Q)).length cr) 0;have K4:Hid (∀w2,Below w'.heap.size w' w2->_):=(fun w2 hb2=>afe w2 (.slice ar (elR (n+1) (kerE (n+1) R Q)).length cr) (elR (n+1) (kerE (n+1) R Q)) n (HIM.out.below hb2) HLD.out HLE.out hn);obtain⟨q,hq⟩:∃q,(elR (n+1) (kerE (n+1) R Q)).length=q:=⟨_,rfl⟩;rw[hq]at K3 K4;have K3:=hide K3;rw[hq];clear hE hal hx hEL hq;go_wp2_with fail
    refine K3.out.mono ?_;rintro e w2 ⟨⟨_,rfl⟩|⟨h2,_⟩,hb2⟩
    ·have K5:=hide (K4.out w2 hb2);have HB3:=hide (HB2.out.trans (hb2.mono HB2.out.size));have HN3:=hide ((hb2.block _ (aaa HN2.out)).trans HN2.out);obtain⟨hg3,c0,cf⟩:=aae HN3.out;clear hb2 K3 K4;go_wp2_with fail
     refine K5.out.mono ?_;rintro e w4 ⟨hM,hb4⟩;have HB4:=hide (HB3.out.trans (hb4.mono HB3.out.size));have HMM:=hide hM;clear hM hb4 K5;cases e with
     |returned v=>
      go_wp2;refine bodyPost_ret (v:=_) (by simp[results,Tryz.results208,go_sem];try rfl) rfl ⟨.inr ⟨HZ.out,R,Q,HE.out,.inr ⟨HAL.out,HMM.out⟩⟩,HB4.out⟩
     |panicked c=>
      go_wp2;exact⟨rfl,.inr ⟨HZ.out,R,Q,HE.out,.inr ⟨HAL.out,HMM.out⟩⟩,HB4.out⟩
     |outgrown=>exact(aq6 HMM.out).elim
    ·exact absurd rfl h2
  ·intro a' w' hn' hd' hB' hR' hP';have e11:a'.eval (.tmp 11)=.slice ao m cp:=hP' 0 (by decide) (by decide);have e12:a'.eval (.tmp 12)=.int .i64 (n:Int):=hP' 1 (by decide) (by decide);have e13:a'.eval (.tmp 13)=.int .i64 ((n+1:Nat):Int):=hP' 2 (by decide) (by decide);obtain⟨u14,e14⟩:∃u,a'.eval (.tmp 14)=u:=⟨_,rfl⟩;obtain⟨u15,e15⟩:∃u,a'.eval (.tmp 15)=u:=⟨_,rfl⟩;have hX0:(KerX0 (n+1) ls) (a'.eval (.tmp 15)) w':=hP' 4 (by decide) (by decide);rw[e15]at hX0;obtain⟨u16,e16⟩:∃u,a'.eval (.tmp 16)=u:=⟨_,rfl⟩;have hX1:(KerX1 (n+1) ls) (a'.eval (.tmp 16)) w':=hP' 5 (by decide) (by decide);rw[e16]at hX1;obtain⟨u17,e17⟩:∃u,a'.eval (.tmp 17)=u:=⟨_,rfl⟩;have e18:a'.eval (.tmp 18)=.int .i64 (n:Int):=hP' 7 (by decide) (by decide);refine aat hn' hd' hR' (.s4 rfl <| .s4 rfl <| .same rfl <| .same rfl <| .same rfl <| .new e11 <| .new e12 <| .new e13 <| .new e14 <| .new e15 <| .new e16 <| .new e17 <| .new e18 <| .same rfl <| .nil) ?_;clear e11 e12 e13 e14 e15 e16 e17 e18;have HB2:=hide (HB1.out.trans (hB'.mono HB1.out.size));have HN2:=hide ((hB'.block _ (aaa HN1.out)).trans HN1.out);clear hB' hR' hP' hn' hd';rcases hX1 with⟨rfl,hkb⟩|⟨R,Q,hE,hal,rfl⟩
   ·have hx:u15=.slice none 0 0:=by
     rcases hX0 with⟨h1,_⟩|⟨R,Q,hE,hal,_⟩
     ·exact h1
     ·exact(agy HRN.out hkb hE hal).elim
    subst hx;clear hX0;have HKB:=hide hkb;have K3:=hide (ab6 w' (.slice none 0 0) 2);clear hkb;go_wp2_with fail
    refine K3.out.mono ?_;rintro e w2 ⟨⟨h2,_⟩|⟨_,rfl⟩,hb2⟩
    ·exact absurd h2 (by decide)
    ·have HB3:=hide (HB2.out.trans (hb2.mono HB2.out.size));clear hb2;go_wp2;refine⟨rfl,?_,HB3.out⟩;obtain⟨R,Q,hE,hbg⟩:=HKB.out;exact .inr ⟨HZ.out,R,Q,hE,.inl ⟨hbg,rfl⟩⟩
   ·have hx:IsM w' u15 (elR (n+1) (kerE (n+1) R Q)) 32:=by
     rcases hX0 with⟨h1,hkb⟩|⟨R',Q',hE',hal',h2⟩
     ·exact(agy HRN.out hkb hE hal).elim
     ·rwa[aht hE hE' HRN.out]at h2
    clear hX0;have HE:=hide hE;have HAL:=hide hal;have HIM:=hide hx;obtain⟨ar,cr,rfl,_⟩:=hx.parts;have hEL:=Ech.elk hE;have HLD:Hid (∀r∈elR (n+1) (kerE (n+1) R Q),r.length=n+1/\∃p,p<n+1/\Lead r p):=EL.lead hEL;have HLE:Hid ((elR (n+1) (kerE (n+1) R Q)).length<=64):=(show _<=_ by
     have h1:=hEL.len;have h3:=af7 hEL.asc (fun p hp=>by
      obtain⟨i,hi⟩:=List.mem_iff_getElem?.1 hp;have hil:=(List.getElem?_eq_some_iff.1 hi).1;obtain⟨r,hr⟩:∃r,(elR (n+1) (kerE (n+1) R Q))[i]? = some r:=⟨_,List.getElem?_eq_getElem (by rw[<-h1];exact hil)⟩
      exact(hEL.row i r p hr hi).2.1)
     omega)
    have K3:=ab6 w' (.slice ar (elR (n+1) (kerE (n+1) R Q)).length cr) 0;have K4:Hid (∀w2,Below w'.heap.size w' w2->_):=(fun w2 hb2=>afe w2 (.slice ar (elR (n+1) (kerE (n+1) R Q)).length cr) (elR (n+1) (kerE (n+1) R Q)) n (HIM.out.below hb2) HLD.out HLE.out hn);obtain⟨q,hq⟩:∃q,(elR (n+1) (kerE (n+1) R Q)).length=q:=⟨_,rfl⟩;rw[hq]at K3 K4;have K3:=hide K3;rw[hq];clear hE hal hx hEL hq;go_wp2_with fail
    refine K3.out.mono ?_;rintro e w2 ⟨⟨_,rfl⟩|⟨h2,_⟩,hb2⟩
    ·have K5:=hide (K4.out w2 hb2);have HB3:=hide (HB2.out.trans (hb2.mono HB2.out.size));have HN3:=hide ((hb2.block _ (aaa HN2.out)).trans HN2.out);obtain⟨hg3,c0,cf⟩:=aae HN3.out;clear hb2 K3 K4;go_wp2_with fail
     refine K5.out.mono ?_;rintro e w4 ⟨hM,hb4⟩;have HB4:=hide (HB3.out.trans (hb4.mono HB3.out.size));have HMM:=hide hM;clear hM hb4 K5;cases e with
     |returned v=>
      go_wp2;refine bodyPost_ret (v:=_) (by simp[results,Tryz.results208,go_sem];try rfl) rfl ⟨.inr ⟨HZ.out,R,Q,HE.out,.inr ⟨HAL.out,HMM.out⟩⟩,HB4.out⟩
     |panicked c=>
      go_wp2;exact⟨rfl,.inr ⟨HZ.out,R,Q,HE.out,.inr ⟨HAL.out,HMM.out⟩⟩,HB4.out⟩
     |outgrown=>exact(aq6 HMM.out).elim
    ·exact absurd rfl h2
end Lm
namespace Lm
open Go Go.RowKit Md
theorem asz(ev:Int)(xt:TypeId)(w:World):(Instr.typeAssert (.iface 35 (.int .i64 ev)) xt 35 false).run Tryz.prog w=.ok (.int .i64 ev) w:=by
 kernel_rfl
theorem acs(p:Addr)(x ev:Int)(older:List PanicEntry)(w:World)(hc:w.cell? p=some (.int .i64 x))(hz:w.frozen? p=false):
  CallsD Tryz.prog 97 #[.pointer (some p)] (.panicking ({v:=.iface 35 (.int .i64 ev),recovered:=false}::older)) w fun e u' w'=>
   e=.returned (.tuple #[])/\u' = .panicking ({v:=.iface 35 (.int .i64 ev),recovered:=true}::older)/\w'=w.setCell p (.int .i64 ev):=by
 refine callsD_of_wpS Tryz.func97 rfl fun c₀ cs hu=>?_
 apply wpS_seq;apply wpS_region;simp[wpOpsS,go_sem,recoverD,hu,Tryz.ntmps97,Exit.thenS];apply wpS_seq;apply wpS_region;simp[wpOpsS,go_sem,Exit.thenS];refine wpS_cond (t:=true) (by simp[Act.eval,Array.replicate]) ?_;simp only[if_true];apply wpS_region;simp[wpOpsS,go_sem,hc,hz,bodyPostS,results,Tryz.results97,asz]
theorem aiq(p:Addr)(w:World):
  CallsD Tryz.prog 97 #[.pointer (some p)] .returning w fun e u' w'=>e=.returned (.tuple #[])/\u' = .returning/\w'=w:=by
 refine callsD_of_wpS Tryz.func97 rfl fun c₀ cs hu=>?_
 apply wpS_seq;apply wpS_region;simp[wpOpsS,go_sem,recoverD,hu,Tryz.ntmps97,Exit.thenS];apply wpS_seq;apply wpS_region;simp[wpOpsS,go_sem,recoverD,Exit.thenS];refine wpS_cond (t:=false) (by simp[Act.eval,Array.replicate]) ?_;simp only[Bool.false_eq_true,if_false];refine wpS_of_wp (wp_skip ?_);cases c₀
 simp_all[bodyPostS,results,Tryz.results97]
end Lm
namespace Lm
open Go Go.RowKit Md
def MirR(n:Nat)(rows low:List (List Int)):Prop:=
 ((∃r∈rows,leadN r=n)/\low = []) \/
 ((∀r∈rows,leadN r<n)/\∃R Q,Ech n (mir (fac n rows)) R Q/\(∀r∈elR n (kerE n R Q),r.any big=false)/\(∀q∈mPt n rows (elR n (kerE n R Q)),Fit q 32)/\low=liftZ (mPt n rows (elR n (kerE n R Q)))::zro (elR n (kerE n R Q)))
def LowR(n:Nat)(ls low:List (List Int)):Prop:=
 ((∀z∈ls,fnR z n=0)/\low = []) \/
 ((∃z∈ls,fnR z n≠0)/\∃R Q,Ech (n+1) (mir ls) R Q/\(∀r∈elR (n+1) (kerE (n+1) R Q),r.any big=false)/\MirR n (elR (n+1) (kerE (n+1) R Q)) low)
def TwiR(n:Nat)(low eqs:List (List Int)):Prop:=
 (low = []/\eqs = [noneR n])\/(low≠[]/\∃R Q,Ech (n+1) (mir low) R Q/\(∀r∈elR (n+1) (kerE (n+1) R Q),r.any big=false)/\eqs=elR (n+1) (kerE (n+1) R Q))
def MirBig(n:Nat)(rows:List (List Int)):Prop:=(∀r∈rows,leadN r<n)/\∃R Q,Ech n (mir (fac n rows)) R Q/\((∃r∈elR n (kerE n R Q),r.any big=true)\/∃q∈mPt n rows (elR n (kerE n R Q)),bigQ q=true)
def LowBig(n:Nat)(ls:List (List Int)):Prop:=(∃z∈ls,fnR z n≠0)/\∃R Q,Ech (n+1) (mir ls) R Q/\((∃r∈elR (n+1) (kerE (n+1) R Q),r.any big=true)\/MirBig n (elR (n+1) (kerE (n+1) R Q)))
def TwiBig(n:Nat)(low:List (List Int)):Prop:=low≠[]/\∃R Q,Ech (n+1) (mir low) R Q/\∃r∈elR (n+1) (kerE (n+1) R Q),r.any big=true
def BErrL(n:Nat)(ls:List (List Int)):Prop:=LowBig n ls\/∃low,LowR n ls low/\TwiBig n low
theorem MirE.ret{w':World}{n:Nat}{rows:List (List Int)}{e:Ending}(h:MirE w' n rows e):(MirBig n rows/\e=.panicked (thrown 2))\/∃v low,e=.returned v/\MirR n rows low/\IsLi w' v low 600:=by
 rcases h with⟨h1,v,h,h2⟩|⟨h1,R,Q,hE,⟨g,h⟩|⟨h2,⟨g,h⟩|⟨h3,v,h,h4⟩⟩⟩
 ·exact .inr ⟨v,[],h,.inl ⟨h1,rfl⟩,h2⟩
 ·exact .inl ⟨⟨h1,R,Q,hE,.inl g⟩,h⟩
 ·exact .inl ⟨⟨h1,R,Q,hE,.inr g⟩,h⟩
 ·exact .inr ⟨v,_,h,.inr ⟨h1,R,Q,hE,h2,h3,rfl⟩,h4⟩
theorem LowL.ret{w':World}{n:Nat}{ls:List (List Int)}{e:Ending}(h:LowL w' n ls e):(LowBig n ls/\e=.panicked (thrown 2))\/∃v low,e=.returned v/\LowR n ls low/\IsLi w' v low 600:=by
 rcases h with⟨h1,v,h,h2⟩|⟨h1,R,Q,hE,⟨g,h⟩|⟨h2,h3⟩⟩
 ·exact .inr ⟨v,[],h,.inl ⟨h1,rfl⟩,h2⟩
 ·exact .inl ⟨⟨h1,R,Q,hE,.inl g⟩,h⟩
 ·rcases h3.ret with⟨g,h⟩|⟨v,low,h,h4,h5⟩
  ·exact .inl ⟨⟨h1,R,Q,hE,.inr g⟩,h⟩
  ·exact .inr ⟨v,low,h,.inr ⟨h1,R,Q,hE,h2,h4⟩,h5⟩
theorem MirL.ret{w':World}{n:Nat}{low:List (List Int)}{e:Ending}(h:MirL w' n low e):(TwiBig n low/\e=.panicked (thrown 2))\/∃v eqs,e=.returned v/\TwiR n low eqs/\IsEq w' v eqs 32:=by
 rcases h with⟨h1,v,h,h2⟩|⟨h1,R,Q,hE,⟨g,h⟩|⟨h2,v,h,h4⟩⟩
 ·exact .inr ⟨v,_,h,.inl ⟨h1,rfl⟩,h2⟩
 ·exact .inl ⟨⟨h1,R,Q,hE,g⟩,h⟩
 ·exact .inr ⟨v,_,h,.inr ⟨h1,R,Q,hE,h2,rfl⟩,h4⟩
theorem as0{n:Nat}{rows low:List (List Int)}(h:MirR n rows low)(hn:n<=16):Shaped low ((n+1:Nat):Int):=by
 rcases h with⟨_,rfl⟩|⟨_,R,Q,hE,_,_,rfl⟩
 ·exact⟨by omega,by omega,by simp,fun r hr=>by cases hr⟩
 ·have hK:=apr (n:=n) (R:=R) (Q:=Q) (by omega);have hEL:=Ech.elk hE;have h3:=af7 hEL.asc (fun p hp=>by
   obtain⟨i,hi⟩:=List.mem_iff_getElem?.1 hp;have hil:=(List.getElem?_eq_some_iff.1 hi).1;obtain⟨r,hr⟩:∃r,(elR n (kerE n R Q))[i]? = some r:=⟨_,List.getElem?_eq_getElem (by rw[<-hEL.len];exact hil)⟩
   exact(hEL.row i r p hr hi).2.1)
  rw[hEL.len]at h3;refine⟨by omega,by omega,by simp[zro];omega,fun r hr=>?_⟩;rcases List.mem_cons.1 hr with rfl|hr
  ·rw[abn,mPt,ad3]
  ·have:=(agx (EL.lead hEL) r hr).1;rw[this]
theorem as1{n:Nat}{ls low:List (List Int)}(h:LowR n ls low)(hn:n<=16):Shaped low ((n+1:Nat):Int):=by
 rcases h with⟨_,rfl⟩|⟨_,R,Q,hE,_,h⟩
 ·exact⟨by omega,by omega,by simp,fun r hr=>by cases hr⟩
 ·exact as0 h hn
def SpanAt(w:World)(g n:Nat)(made twin:Value):Prop:=w.heap[g]? = some (.cells #[.int .i64 (n:Int),made,twin] 81 (0,0))
def BuiL(w':World)(n:Nat)(ls:List (List Int))(e:Ending):Prop:=
 (BErrL n ls/\e=.returned (.tuple #[.pointer none,.int .i64 2]))\/∃g made twin low eqs,e=.returned (.tuple #[.pointer (some ⟨g,0,none⟩),.int .i64 0])/\SpanAt w' g n made twin/\IsLi w' made low 600/\IsEq w' twin eqs 32/\LowR n ls low/\TwiR n low eqs
theorem als{w:World}{g:Nat}{v:Value}{T:TypeId}(h:w.heap[g]? = some (.cells #[v] T (0,0))):w.setCell ⟨g,0,none⟩ v=w:=by
 have hg:=aaa h;have hs:=heap_setCell_same w g 0 _ _ v h;have he:(w.setCell ⟨g,0,none⟩ v).heap=w.heap:=by
  apply Array.ext_getElem?;intro k;by_cases hk:k=g
  ·subst hk;rw[hs,h];rfl
  ·exact heap_setCell_other w ⟨g,0,none⟩ k v hk
 have ho:(w.setCell ⟨g,0,none⟩ v).os=w.os/\(w.setCell ⟨g,0,none⟩ v).tape=w.tape/\(w.setCell ⟨g,0,none⟩ v).output=w.output:=⟨rfl,rfl,rfl⟩;cases w
 simp only[World.setCell]at he ⊢;simpa using he
theorem afw(w:World)(v:Value)(ls:List (List Int))(L n:Nat)(h:IsM w v ls L)(hs:Shaped ls ((n+1:Nat):Int))(hn:n<=16)(hL:L<=1510000):
  Calls Tryz.prog 61 #[.int .i64 (n:Int),.iface 75 v] w fun e w'=>BuiL w' n ls e/\Below w.heap.size w w':=by
 have hba:=hAl w (.cells #[.int .i64 0] 35);have hnb:=heap_alloc_new w (.cells #[.int .i64 0] 35);have K0:=hide (an8 (w.alloc (.cells #[.int .i64 0] 35)) v ls L n (h.below hba) hs hn hL);have HBA:=hide hba;have HNB:=hide hnb;obtain⟨ao,cp,rfl,hm⟩:=h.parts;clear h hs hba hnb;have hmf:∀(fn:Fn) (first cap:Array Value) (w:World),(Instr.makeFunc fn first cap).run Tryz.prog w=.ok (.func fn first cap) w:=fun _ _ _ _=>rfl
 go_enter_defers Tryz.func61,Tryz.ntmps61
 go_wp2_with fail
 refine K0.out.mono ?_;generalize (w.alloc (.cells #[.int .i64 0] 35))=wa at *
 rintro e w1 ⟨hlow,hb1⟩;have HB1:=hide (HBA.out.trans (hb1.mono HBA.out.size));have HN1:=hide ((hb1.block _ (aaa HNB.out)).trans HNB.out);clear hb1 HBA HNB;rcases hlow.ret with⟨hbg,rfl⟩|⟨v1,low,rfl,hR,s,rfl,hM⟩
 ·have HBG:=hide hbg;clear hlow hbg K0;obtain⟨gl,c0,cf⟩:=aae HN1.out;have hB2:Below w.heap.size w (w1.setCell ⟨w.heap.size,0,none⟩ (.int .i64 2)):=HB1.out.setCell (Nat.le_refl _) _;have hB3:=hB2;obtain⟨_,c2,_⟩:=aae (heap_setCell_same w1 w.heap.size 0 _ _ (.int .i64 2) HN1.out);go_wp2;refine leaves_cons (f:=97) (args:=#[.pointer (some ⟨w.heap.size,0,none⟩)]) (by simp) (by simp[go_sem]) ?_;refine(acs ⟨w.heap.size,0,none⟩ 0 2 [] w1 c0 cf).mono ?_;rintro e u' w'' ⟨rfl,rfl,rfl⟩;simp[Leaves,settle,results,Tryz.results61,go_sem,c2];exact⟨.inl ⟨.inl HBG.out,rfl⟩,hB3⟩
 ·have K1:=hide (an5 w1 s low 600 n hM (as1 hR hn) hn (by omega));have HR:=hide hR;have HM:=hide hM;obtain⟨al,cl,rfl,_⟩:=hM.parts;clear hlow hR hM K0;go_wp2_with fail
  refine K1.out.mono ?_;rintro e w2 ⟨hmir,hb2⟩;have HB2:=hide (HB1.out.trans (hb2.mono HB1.out.size));have HN2:=hide ((hb2.block _ (aaa HN1.out)).trans HN1.out);have HM2:=hide (HM.out.below hb2);clear hb2;rcases hmir.ret with⟨hbg,rfl⟩|⟨v2,eqs,rfl,hT,hE⟩
  ·have HBG:=hide hbg;clear hmir hbg K1;obtain⟨gl,c0,cf⟩:=aae HN2.out;have hB3:Below w.heap.size w (w2.setCell ⟨w.heap.size,0,none⟩ (.int .i64 2)):=HB2.out.setCell (Nat.le_refl _) _;obtain⟨_,c2,_⟩:=aae (heap_setCell_same w2 w.heap.size 0 _ _ (.int .i64 2) HN2.out);go_wp2;refine leaves_cons (f:=97) (args:=#[.pointer (some ⟨w.heap.size,0,none⟩)]) (by simp) (by simp[go_sem]) ?_;refine(acs ⟨w.heap.size,0,none⟩ 0 2 [] w2 c0 cf).mono ?_;rintro e u' w'' ⟨rfl,rfl,rfl⟩;simp[Leaves,settle,results,Tryz.results61,go_sem,c2];exact⟨.inl ⟨.inr ⟨_,HR.out,HBG.out⟩,rfl⟩,hB3⟩
  ·have HT:=hide hT;have HE:=hide hE;obtain⟨s2,rfl,_⟩:=hE;clear hmir hT K1;obtain⟨gl,c0,cf⟩:=aae HN2.out;have hid:=als HN2.out;have hA:=hAl w2 (.cells #[.int .i64 (n:Int),.iface 75 (.slice al low.length cl),.iface 72 s2] 81);have hn3:=heap_alloc_new w2 (.cells #[.int .i64 (n:Int),.iface 75 (.slice al low.length cl),.iface 72 s2] 81);obtain⟨_,c3,_⟩:=aae ((hA.block _ (aaa HN2.out)).trans HN2.out);go_wp2;refine leaves_cons (f:=97) (args:=#[.pointer (some ⟨w.heap.size,0,none⟩)]) (by simp) (by simp[go_sem]) ?_;refine(aiq ⟨w.heap.size,0,none⟩ _).mono ?_;rintro e u' w'' ⟨rfl,rfl,rfl⟩;simp[Leaves,settle,results,Tryz.results61,go_sem,c3];exact⟨.inr ⟨w2.heap.size,_,_,low,eqs,rfl,hn3,⟨_,rfl,HM2.out.below hA⟩,HE.out.below hA,HR.out,HT.out⟩,HB2.out.trans (hA.mono HB2.out.size)⟩
end Lm
namespace Lm
open Go Go.RowKit Md
def LowRE(n:Nat)(rows low:List (List Int)):Prop:=
 (RS (rows.map fnR) (fnR (noneR n))/\low = [noneR n]) \/
 (¬RS (rows.map fnR) (fnR (noneR n))/\∃R Q,Ech (n+1) rows R Q/\(∀r∈(baR R Q (n+1)).map red,r.any big=false)/\low=(baR R Q (n+1)).map red)
def BErrE(n:Nat)(rows:List (List Int)):Prop:=(¬RS (rows.map fnR) (fnR (noneR n))/\∃R Q,Ech (n+1) rows R Q/\∃r∈(baR R Q (n+1)).map red,r.any big=true)\/∃low,LowRE n rows low/\MirBig n low
theorem LowE.ret{w':World}{n:Nat}{rows:List (List Int)}{e:Ending}(h:LowE w' n rows e):(BErrE n rows/\e=.panicked (thrown 2))\/∃v low,e=.returned v/\LowRE n rows low/\IsEq w' v low 32:=by
 rcases h with⟨h1,v,h,h2⟩|⟨h1,R,Q,hE,⟨g,h⟩|⟨h2,v,h,h4⟩⟩
 ·exact .inr ⟨v,_,h,.inl ⟨h1,rfl⟩,h2⟩
 ·exact .inl ⟨.inl ⟨h1,R,Q,hE,g⟩,h⟩
 ·exact .inr ⟨v,_,h,.inr ⟨h1,R,Q,hE,h2,rfl⟩,h4⟩
theorem agz(n:Nat):Lead (noneR n) n:=by
 refine⟨?_,fun k hk=>?_⟩
 ·rw[acq (z:=1) (by rw[noneR,List.getElem?_append_right (by simp)];simp)];decide
 ·exact acq (z:=0) (by rw[noneR,List.getElem?_append_left (by simpa using hk),List.getElem?_replicate,if_pos hk])
theorem aj3{n:Nat}{rows low:List (List Int)}(h:LowRE n rows low)(hn:n<=16):(∀r∈low,r.length=n+1/\∃p,p<n+1/\Lead r p)/\low.length<=64:=by
 rcases h with⟨_,rfl⟩|⟨_,R,Q,hE,_,rfl⟩
 ·refine⟨fun r hr=>?_,by simp⟩;obtain rfl:=List.mem_singleton.1 hr;exact⟨ac0 n,n,by omega,agz n⟩
 ·have hEL:=Ech.el hE;have he:elR (n+1) (efOf R Q)=(baR R Q (n+1)).map red:=anp R Q (n+1);rw[he]at hEL;have h3:=af7 hEL.asc (fun p hp=>by
   obtain⟨i,hi⟩:=List.mem_iff_getElem?.1 hp;have hil:=(List.getElem?_eq_some_iff.1 hi).1;obtain⟨r,hr⟩:∃r,((baR R Q (n+1)).map red)[i]? = some r:=⟨_,List.getElem?_eq_getElem (by rw[<-hEL.len];exact hil)⟩
   exact(hEL.row i r p hr hi).2.1)
  rw[hEL.len]at h3;exact⟨EL.lead hEL,by omega⟩
def BuiE(w':World)(n:Nat)(rows:List (List Int))(e:Ending):Prop:=
 (BErrE n rows/\e=.returned (.tuple #[.pointer none,.int .i64 2]))\/∃g made twin low eqs,e=.returned (.tuple #[.pointer (some ⟨g,0,none⟩),.int .i64 0])/\SpanAt w' g n made twin/\IsEq w' made low 32/\IsLi w' twin eqs 600/\LowRE n rows low/\MirR n low eqs
theorem afx(w:World)(v:Value)(rows:List (List Int))(L n:Nat)(h:IsM w v rows L)(hs:Shaped rows ((n+1:Nat):Int))(hn:n<=16)(hL0:1<=L)(hL:L<=1510000):
  Calls Tryz.prog 61 #[.int .i64 (n:Int),.iface 72 v] w fun e w'=>BuiE w' n rows e/\Below w.heap.size w w':=by
 have hba:=hAl w (.cells #[.int .i64 0] 35);have hnb:=heap_alloc_new w (.cells #[.int .i64 0] 35);have K0:=hide (an6 (w.alloc (.cells #[.int .i64 0] 35)) v rows L n (h.below hba) hs hn hL0 hL);have HBA:=hide hba;have HNB:=hide hnb;obtain⟨ao,cp,rfl,hm⟩:=h.parts;clear h hs hba hnb;have hmf:∀(fn:Fn) (first cap:Array Value) (w:World),(Instr.makeFunc fn first cap).run Tryz.prog w=.ok (.func fn first cap) w:=fun _ _ _ _=>rfl
 go_enter_defers Tryz.func61,Tryz.ntmps61
 go_wp2_with fail
 refine K0.out.mono ?_;generalize (w.alloc (.cells #[.int .i64 0] 35))=wa at *
 rintro e w1 ⟨hlow,hb1⟩;have HB1:=hide (HBA.out.trans (hb1.mono HBA.out.size));have HN1:=hide ((hb1.block _ (aaa HNB.out)).trans HNB.out);clear hb1 HBA HNB;rcases hlow.ret with⟨hbg,rfl⟩|⟨v1,low,rfl,hR,s,rfl,hM⟩
 ·have HBG:=hide hbg;clear hlow hbg K0;obtain⟨gl,c0,cf⟩:=aae HN1.out;have hB2:Below w.heap.size w (w1.setCell ⟨w.heap.size,0,none⟩ (.int .i64 2)):=HB1.out.setCell (Nat.le_refl _) _;have hB3:=hB2;obtain⟨_,c2,_⟩:=aae (heap_setCell_same w1 w.heap.size 0 _ _ (.int .i64 2) HN1.out);go_wp2;refine leaves_cons (f:=97) (args:=#[.pointer (some ⟨w.heap.size,0,none⟩)]) (by simp) (by simp[go_sem]) ?_;refine(acs ⟨w.heap.size,0,none⟩ 0 2 [] w1 c0 cf).mono ?_;rintro e u' w'' ⟨rfl,rfl,rfl⟩;simp[Leaves,settle,results,Tryz.results61,go_sem,c2];exact⟨.inl ⟨HBG.out,rfl⟩,hB3⟩
 ·have K1:=hide (afe w1 s low n hM (aj3 hR hn).1 (aj3 hR hn).2 hn);have HR:=hide hR;have HM:=hide hM;obtain⟨al,cl,rfl,_⟩:=hM.parts;clear hlow hR hM K0;go_wp2_with fail
  refine K1.out.mono ?_;rintro e w2 ⟨hmir,hb2⟩;have HB2:=hide (HB1.out.trans (hb2.mono HB1.out.size));have HN2:=hide ((hb2.block _ (aaa HN1.out)).trans HN1.out);have HM2:=hide (HM.out.below hb2);clear hb2;rcases hmir.ret with⟨hbg,rfl⟩|⟨v2,eqs,rfl,hT,hE⟩
  ·have HBG:=hide hbg;clear hmir hbg K1;obtain⟨gl,c0,cf⟩:=aae HN2.out;have hB3:Below w.heap.size w (w2.setCell ⟨w.heap.size,0,none⟩ (.int .i64 2)):=HB2.out.setCell (Nat.le_refl _) _;obtain⟨_,c2,_⟩:=aae (heap_setCell_same w2 w.heap.size 0 _ _ (.int .i64 2) HN2.out);go_wp2;refine leaves_cons (f:=97) (args:=#[.pointer (some ⟨w.heap.size,0,none⟩)]) (by simp) (by simp[go_sem]) ?_;refine(acs ⟨w.heap.size,0,none⟩ 0 2 [] w2 c0 cf).mono ?_;rintro e u' w'' ⟨rfl,rfl,rfl⟩;simp[Leaves,settle,results,Tryz.results61,go_sem,c2];exact⟨.inl ⟨.inr ⟨_,HR.out,HBG.out⟩,rfl⟩,hB3⟩
  ·have HT:=hide hT;have HE:=hide hE;obtain⟨s2,rfl,_⟩:=hE;clear hmir hT K1;obtain⟨gl,c0,cf⟩:=aae HN2.out;have hid:=als HN2.out;have hA:=hAl w2 (.cells #[.int .i64 (n:Int),.iface 72 (.slice al low.length cl),.iface 75 s2] 81);have hn3:=heap_alloc_new w2 (.cells #[.int .i64 (n:Int),.iface 72 (.slice al low.length cl),.iface 75 s2] 81);obtain⟨_,c3,_⟩:=aae ((hA.block _ (aaa HN2.out)).trans HN2.out);go_wp2;refine leaves_cons (f:=97) (args:=#[.pointer (some ⟨w.heap.size,0,none⟩)]) (by simp) (by simp[go_sem]) ?_;refine(aiq ⟨w.heap.size,0,none⟩ _).mono ?_;rintro e u' w'' ⟨rfl,rfl,rfl⟩;simp[Leaves,settle,results,Tryz.results61,go_sem,c3];exact⟨.inr ⟨w2.heap.size,_,_,low,eqs,rfl,hn3,⟨_,rfl,HM2.out.below hA⟩,HE.out.below hA,HR.out,HT.out⟩,HB2.out.trans (hA.mono HB2.out.size)⟩
end Lm
namespace Lm
open Go Go.RowKit Md
theorem av3:Has Tryz.prog 105:=by unfold Has;kernel_rfl
theorem aq7{m n more:Nat}: ((m:Int) != (n:Int)+(more:Int))=decide (m≠n+more):=by
 rw[bne];by_cases h:m=n+more
 ·subst h;simp
 ·have h2:¬(m:Int)=(n:Int)+(more:Int):=by omega
  simp[h,h2]
theorem av4(W:World)(xv:Value)(z:List Int)(L n more g g2:Nat)(h:IsRow W xv z L)(hg:W.heap[g]? = some (.cells #[.int .i64 (n:Int)] 3 (0,0)))(hg2:W.heap[g2]? = some (.cells #[.int .i64 (more:Int)] 3 (0,0)))(hn:n<=16)(hm:more<=1):
  Calls Tryz.prog 105 (#[xv] ++ #[.pointer (some ⟨g,0,none⟩),.pointer (some ⟨g2,0,none⟩)]) W fun e W'=>e=.returned (.bool (decide (z.length≠n+more)))/\Below W.heap.size W W':=by
 obtain⟨ao,cp,rfl,hl⟩:=h.parts;obtain⟨hgl,c0,_⟩:=aae hg;obtain⟨hgl2,c2,_⟩:=aae hg2;have hadd:IntKind.i64.wrap ((n:Int)+(more:Int))=((n+more:Nat):Int):=by rw[IntKind.wrap_i64];omega
 obtain⟨m,hm'⟩:∃m,z.length=m:=⟨_,rfl⟩;rw[hm']at hl ⊢;clear h hg hg2 hm';go_enter Tryz.func105,Tryz.ntmps105
 go_wp2;refine bodyPost_ret (v:=_) (by simp[results,Tryz.results105,go_sem];try rfl) rfl ⟨by rw[aq7],Below.refl _ _⟩
def ShpB(rows:List (List Int))(n more:Nat):Bool:=decide (n<=16/\rows.length<=64/\∀r∈rows,r.length=n+more)
theorem an9(w:World)(v:Value)(rows:List (List Int))(L n more:Nat)(h:IsM w v rows L)(hn:n<=9223372036854775807)(hm:more<=1):
  Calls Tryz.prog 81 #[.int .i64 (n:Int),v,.int .i64 (more:Int)] w fun e w'=>e=.returned (.bool (ShpB rows n more))/\Below w.heap.size w w':=by
 obtain⟨ao,cp,rfl,hl⟩:=h.parts;have hb1:=hAl w (.cells #[.int .i64 (n:Int)] 3);have hn1:=heap_alloc_new w (.cells #[.int .i64 (n:Int)] 3);have hb2:=hAl (w.alloc (.cells #[.int .i64 (n:Int)] 3)) (.cells #[.int .i64 (more:Int)] 3);have hn2:=heap_alloc_new (w.alloc (.cells #[.int .i64 (n:Int)] 3)) (.cells #[.int .i64 (more:Int)] 3);have hn1':=(hb2.block _ (aaa hn1)).trans hn1;have hbb:=hb1.trans (hb2.mono hb1.size);have hsz:(w.alloc (.cells #[.int .i64 (n:Int)] 3)).heap.size=w.heap.size+1:=by simp
 rw[hsz]at hn2;obtain⟨hgl,c0,_⟩:=aae hn1';have K:n<=16->Hid (Calls Tryz.prog 85 #[.slice ao rows.length cp,.func (.func 105) #[] #[.pointer (some ⟨w.heap.size,0,none⟩),.pointer (some ⟨w.heap.size+1,0,none⟩)]] ((w.alloc (.cells #[.int .i64 (n:Int)] 3)).alloc (.cells #[.int .i64 (more:Int)] 3)) fun e w'=>e=.returned (.bool (rows.any fun z=>decide (z.length≠n+more)))/\Below ((w.alloc (.cells #[.int .i64 (n:Int)] 3)).alloc (.cells #[.int .i64 (more:Int)] 3)).heap.size ((w.alloc (.cells #[.int .i64 (n:Int)] 3)).alloc (.cells #[.int .i64 (more:Int)] 3)) w'):=fun h16=>ael _ _ rows L (h.below hbb) _ av3 #[.pointer (some ⟨w.heap.size,0,none⟩),.pointer (some ⟨w.heap.size+1,0,none⟩)] (fun z=>decide (z.length≠n+more)) (fun W z xv hbW _ hx=>av4 W xv z L n more w.heap.size (w.heap.size+1) hx ((hbW.block _ (aaa hn1')).trans hn1') ((hbW.block _ (aaa hn2)).trans hn2) h16 hm)
 have HB:=hide hbb;have hmf:∀(fn:Fn) (first cap:Array Value) (w:World),(Instr.makeFunc fn first cap).run Tryz.prog w=.ok (.func fn first cap) w:=fun _ _ _ _=>rfl
 have h0:decide ((n:Int)<0)=false:=by simp
 clear h hb1 hn1 hb2 hn2 hn1' hbb hsz;by_cases h16:n<=16
 ·have h16':decide ((n:Int) > 16)=false:=by simp;omega
  by_cases h64:rows.length<=64
  ·have h64':decide ((rows.length:Int) > 64)=false:=by simp;omega
   have K:=K h16;go_enter Tryz.func81,Tryz.ntmps81
   go_wp2_with fail
   refine K.out.mono ?_;rintro e w1 ⟨rfl,hb⟩;have HB1:=hide (HB.out.trans (hb.mono HB.out.size));have HE:Hid ((!rows.any fun z=>decide (z.length≠n+more))=ShpB rows n more):=(show _=_ by
    rw[ShpB,Bool.eq_iff_iff,decide_eq_true_iff,Bool.not_eq_true',List.any_eq_false];constructor
    ·intro h;exact⟨h16,h64,fun r hr=>by simpa using h r hr⟩
    ·intro h r hr
     simpa using h.2.2 r hr)
   clear hb K;generalize (rows.any fun z=>decide (z.length≠n+more))=bb at *
   go_wp2;refine bodyPost_ret (v:=_) (by simp[results,Tryz.results81,go_sem];try rfl) rfl ⟨by rw[HE.out],HB1.out⟩
  ·have h64':decide ((rows.length:Int) > 64)=true:=by simp;omega
   have HE:Hid (ShpB rows n more=false):=(show _=_ by rw[ShpB,decide_eq_false_iff_not];exact fun h=>h64 h.2.1);clear K;go_enter Tryz.func81,Tryz.ntmps81
   go_wp2;refine bodyPost_ret (v:=_) (by simp[results,Tryz.results81,go_sem];try rfl) rfl ⟨by rw[HE.out],HB.out⟩
 ·have h16':decide ((n:Int) > 16)=true:=by simp;omega
  have HE:Hid (ShpB rows n more=false):=(show _=_ by rw[ShpB,decide_eq_false_iff_not];exact fun h=>h16 h.1);clear K;go_enter Tryz.func81,Tryz.ntmps81
  go_wp2;refine bodyPost_ret (v:=_) (by simp[results,Tryz.results81,go_sem];try rfl) rfl ⟨by rw[HE.out],HB.out⟩
end Lm
namespace Lm
open Go Go.RowKit Md
def RowsO(w':World)(n:Nat)(rows:List (List Int))(e:Ending):Prop:=
 (ShpB rows n 1=false/\e=.returned (.tuple #[.pointer none,.int .i64 1]))\/(ShpB rows n 1=true/\BuiE w' n rows e)
theorem av5(w:World)(v:Value)(rows:List (List Int))(L n:Nat)(h:IsM w v rows L)(hn:n<=9223372036854775807)(hL0:1<=L)(hL:L<=1510000):
  Calls Tryz.prog 36 #[.int .i64 (n:Int),v] w fun e w'=>RowsO w' n rows e/\Below w.heap.size w w':=by
 have K1:=hide (an9 w v rows L n 1 h hn (Nat.le_refl _));have K2:ShpB rows n 1=true->Hid (∀w1,Below w.heap.size w w1->_):=fun hs w1 hb=>afx w1 v rows L n (h.below hb) (by
  have:=of_decide_eq_true hs
  exact⟨by omega,by omega,this.2.1,fun r hr=>by have:=this.2.2 r hr;omega⟩) (of_decide_eq_true hs).1 hL0 hL
 obtain⟨ao,cp,rfl,hl⟩:=h.parts;clear h;obtain⟨m,hm'⟩:∃m,rows.length=m:=⟨_,rfl⟩;rw[hm']at K1 K2 hl ⊢;clear hm';cases hsh:ShpB rows n 1 with
 |false=>
  rw[hsh]at K1;have HSH:Hid (ShpB rows n 1=false):=hsh;clear hsh K2;go_enter Tryz.func36,Tryz.ntmps36
  go_wp2_with fail
  refine K1.out.mono ?_;rintro e w1 ⟨rfl,hb⟩;have HB:=hide hb;clear hb K1;go_wp2;refine bodyPost_ret (v:=_) (by simp[results,Tryz.results36,go_sem];try rfl) rfl ⟨.inl ⟨HSH.out,rfl⟩,HB.out⟩
 |true=>
  rw[hsh]at K1;have K2:=K2 hsh;have HSH:Hid (ShpB rows n 1=true):=hsh;clear hsh;go_enter Tryz.func36,Tryz.ntmps36
  go_wp2_with fail
  refine K1.out.mono ?_;rintro e w1 ⟨rfl,hb⟩;have HB:=hide hb;have K3:=hide (K2.out w1 hb);clear hb K1 K2;go_wp2_with fail
  refine K3.out.mono ?_;rintro e w2 ⟨hB,hb⟩;have HB2:=hide (HB.out.trans (hb.mono HB.out.size));have HBU:=hide hB;clear hb K3;rcases hB with⟨hbg,rfl⟩|⟨g,made,twin,low,eqs,rfl,h1⟩
  ·clear hbg;go_wp2;refine bodyPost_ret (v:=_) (by simp[results,Tryz.results36,go_sem];try rfl) rfl ⟨.inr ⟨HSH.out,HBU.out⟩,HB2.out⟩
  ·clear h1;go_wp2;refine bodyPost_ret (v:=_) (by simp[results,Tryz.results36,go_sem];try rfl) rfl ⟨.inr ⟨HSH.out,HBU.out⟩,HB2.out⟩
end Lm
namespace Lm
open Go Go.RowKit Md
def IsQM(w:World)(v:Value)(rows:List (List Rat))(L:Nat):Prop:=∃vs:List Value,Ce w v 1 rows.length vs/\∀(i:Nat) (u:Value) (z:List Rat),vs[i]? = some u->rows[i]? = some z->IsQs w u z L
theorem IsQM.below{w w':World}{v:Value}{rows:List (List Rat)}{L:Nat}(h:IsQM w v rows L)(hb:Below w.heap.size w w'):IsQM w' v rows L:=by
 obtain⟨vs,h1,h2⟩:=h;exact⟨vs,h1.below hb,fun i u z hu hz=>(h2 i u z hu hz).below hb⟩
theorem IsQM.parts{w:World}{v:Value}{rows:List (List Rat)}{L:Nat}(h:IsQM w v rows L):∃ao cap,v=.slice ao rows.length cap/\rows.length<=9223372036854775807:=by
 obtain⟨vs,⟨ao,cap,rfl,h1,h2,_⟩,_⟩:=h;exact⟨ao,cap,rfl,by omega⟩
theorem IsQM.cell{w:World}{ao:Option Addr}{n cap:Nat}{rows:List (List Rat)}{L i:Nat}{z:List Rat}(h:IsQM w (.slice ao n cap) rows L)(hz:rows[i]? = some z):∃b off u,ao=some ⟨b,off,none⟩/\b<w.heap.size/\w.cell? ⟨b,off+i,none⟩=some u/\IsQs w u z L:=by
 obtain⟨vs,⟨ao',cap',hv,h1,h2,h3,h4⟩,h5⟩:=h;obtain⟨rfl,rfl,rfl⟩:=(Value.slice.injEq .. ▸ hv);have hi:i<rows.length:=(List.getElem?_eq_some_iff.1 hz).1;obtain⟨u,hu⟩:∃u,vs[i]? = some u:=⟨_,List.getElem?_eq_getElem (by omega)⟩;rcases h4 with h4|⟨b,off,rfl,hl,hc⟩
 ·omega
 ·exact⟨b,off,u,rfl,hl,hc i u hu,h5 i u z hu hz⟩
def AsksRQ(w:World)(f:FuncId)(cap:Array Value)(rows:List (List Rat))(L:Nat)(p:List Rat->Bool):Prop:=∀(W:World) (z:List Rat) (xv:Value),Below w.heap.size w W->z∈rows->IsQs W xv z L->Calls Tryz.prog f (#[xv]++cap) W fun e W'=>e=.returned (.bool (p z))/\Below W.heap.size W W'
theorem apu(w:World)(v:Value)(rows:List (List Rat))(L:Nat)(h:IsQM w v rows L)(f:FuncId)(hf:Has Tryz.prog f)(cap:Array Value)(p:List Rat->Bool)(hA:AsksRQ w f cap rows L p):
  Calls Tryz.prog 117 #[v,.func (.func f) #[] cap] w fun e w'=>(∃r:Int,e=.returned (.int .i64 r)/\decide (0<=r)=rows.any p)/\Below w.heap.size w w':=by
 obtain⟨ao,cp,rfl,hn⟩:=h.parts;have H:=hide h;have HA:=hide hA;clear h hA;obtain⟨n,hnn⟩:∃n,rows.length=n:=⟨_,rfl⟩;rw[hnn]at H hn ⊢;have HN:=hide hnn;clear hnn;go_enter Tryz.func117,Tryz.ntmps117
 go_wp2;go_loopw [5,8] (fun _ iv wr=>∃(k:Nat),iv=.int .i64 k/\k<=n/\(rows.take k).any p=false/\Below w.heap.size w wr) (fun _ iv _=>n-(intOf iv).toNat)
 case atStart=>exact⟨0,rfl,Nat.zero_le _,by simp,Below.refl _ _⟩
 case round=>
  obtain⟨k,rfl,hk,hany,hbw⟩:=hrel;have HW:=hide hbw;have HY:=hide hany;by_cases hlt:k<n
  ·obtain⟨z,hz⟩:∃z,rows[k]? = some z:=⟨_,List.getElem?_eq_getElem (by have:=HN.out;omega)⟩;obtain⟨b,off,u,rfl,hbl,x0,hx⟩:=H.out.cell hz;replace x0:=(hbw.cell (p:=⟨b,off+k,none⟩) hbl).trans x0;have hlt':(k:Int)<(n:Int):=by omega
   have KC:=hide (HA.out wr z u hbw (List.mem_of_getElem? hz) (hx.below hbw));obtain⟨ua,uc,rfl,_⟩:=hx.parts;have HZ:=hide hz;clear hbw hany hx hz;have hE:∀args w,(callFunc f args).run Tryz.prog w=.ok (.enter f args) w:=fun args w=>hf.enter args w
   go_wp2_with fail
   refine KC.out.mono ?_;rintro e w3 ⟨rfl,hb3⟩;have HB3:=hide (HW.out.trans (hb3.mono HW.out.size));clear hb3 KC hE x0;obtain⟨pz,hpz⟩:∃b,p z=b:=⟨_,rfl⟩;rw[hpz];have HPZ:=hide hpz;clear hpz;cases pz with
   |true=>
    go_wp2;go_ret;exact⟨⟨k,rfl,by rw[decide_eq_true (by omega),eq_comm,List.any_eq_true];exact⟨z,List.mem_of_getElem? HZ.out,HPZ.out⟩⟩,HB3.out⟩
   |false=>
    go_wp2;go_roundw
    case rel=>exact⟨k+1,by go_num,by omega,adc HZ.out HY.out HPZ.out,HB3.out⟩
    case measure=>simp[intOf];omega
  ·have hlt':decide ((k:Int)<(n:Int))=false:=by simp;omega
   clear hbw hany;go_wp2;go_ret;refine⟨⟨-1,rfl,?_⟩,HW.out⟩;have:=HY.out;rw[List.take_of_length_le (by have:=HN.out;omega)]at this;rw[this];rfl
theorem ak0(w:World)(v:Value)(rows:List (List Rat))(L:Nat)(h:IsQM w v rows L)(f:FuncId)(hf:Has Tryz.prog f)(cap:Array Value)(p:List Rat->Bool)(hA:AsksRQ w f cap rows L p):
  Calls Tryz.prog 103 #[v,.func (.func f) #[] cap] w fun e w'=>e=.returned (.bool (rows.any p))/\Below w.heap.size w w':=by
 have K:=hide (apu w v rows L h f hf cap p hA);obtain⟨ao,cp,rfl,hn⟩:=h.parts;clear h hA;go_enter Tryz.func103,Tryz.ntmps103
 go_wp2_with fail
 refine K.out.mono ?_;rintro e w1 ⟨⟨r,rfl,hr⟩,hb⟩;have HB:=hide hb;have HR:=hide hr;clear hb K hr;go_wp2;refine bodyPost_ret (v:=_) (by simp[results,Tryz.results103,go_sem];try rfl) rfl ⟨by rw[<-HR.out],HB.out⟩
theorem av6:Has Tryz.prog 104:=by unfold Has;kernel_rfl
theorem av7(W:World)(xv:Value)(z:List Rat)(L n more g g2:Nat)(h:IsQs W xv z L)(hg:W.heap[g]? = some (.cells #[.int .i64 (n:Int)] 3 (0,0)))(hg2:W.heap[g2]? = some (.cells #[.int .i64 (more:Int)] 3 (0,0)))(hn:n<=16)(hm:more<=1):
  Calls Tryz.prog 104 (#[xv] ++ #[.pointer (some ⟨g,0,none⟩),.pointer (some ⟨g2,0,none⟩)]) W fun e W'=>e=.returned (.bool (decide (z.length≠n+more)))/\Below W.heap.size W W':=by
 obtain⟨ao,cp,rfl,hl⟩:=h.parts;obtain⟨hgl,c0,_⟩:=aae hg;obtain⟨hgl2,c2,_⟩:=aae hg2;have hadd:IntKind.i64.wrap ((n:Int)+(more:Int))=((n+more:Nat):Int):=by rw[IntKind.wrap_i64];omega
 obtain⟨m,hm'⟩:∃m,z.length=m:=⟨_,rfl⟩;rw[hm']at hl ⊢;clear h hg hg2 hm';go_enter Tryz.func104,Tryz.ntmps104
 go_wp2;refine bodyPost_ret (v:=_) (by simp[results,Tryz.results104,go_sem];try rfl) rfl ⟨by rw[aq7],Below.refl _ _⟩
def ShpQ(rows:List (List Rat))(n more:Nat):Bool:=decide (n<=16/\rows.length<=64/\∀r∈rows,r.length=n+more)
theorem aob(w:World)(v:Value)(rows:List (List Rat))(L n more:Nat)(h:IsQM w v rows L)(hn:n<=9223372036854775807)(hm:more<=1):
  Calls Tryz.prog 80 #[.int .i64 (n:Int),v,.int .i64 (more:Int)] w fun e w'=>e=.returned (.bool (ShpQ rows n more))/\Below w.heap.size w w':=by
 obtain⟨ao,cp,rfl,hl⟩:=h.parts;have hb1:=hAl w (.cells #[.int .i64 (n:Int)] 3);have hn1:=heap_alloc_new w (.cells #[.int .i64 (n:Int)] 3);have hb2:=hAl (w.alloc (.cells #[.int .i64 (n:Int)] 3)) (.cells #[.int .i64 (more:Int)] 3);have hn2:=heap_alloc_new (w.alloc (.cells #[.int .i64 (n:Int)] 3)) (.cells #[.int .i64 (more:Int)] 3);have hn1':=(hb2.block _ (aaa hn1)).trans hn1;have hbb:=hb1.trans (hb2.mono hb1.size);have hsz:(w.alloc (.cells #[.int .i64 (n:Int)] 3)).heap.size=w.heap.size+1:=by simp
 rw[hsz]at hn2;obtain⟨hgl,c0,_⟩:=aae hn1';have K:n<=16->Hid (Calls Tryz.prog 103 #[.slice ao rows.length cp,.func (.func 104) #[] #[.pointer (some ⟨w.heap.size,0,none⟩),.pointer (some ⟨w.heap.size+1,0,none⟩)]] ((w.alloc (.cells #[.int .i64 (n:Int)] 3)).alloc (.cells #[.int .i64 (more:Int)] 3)) fun e w'=>e=.returned (.bool (rows.any fun z=>decide (z.length≠n+more)))/\Below ((w.alloc (.cells #[.int .i64 (n:Int)] 3)).alloc (.cells #[.int .i64 (more:Int)] 3)).heap.size ((w.alloc (.cells #[.int .i64 (n:Int)] 3)).alloc (.cells #[.int .i64 (more:Int)] 3)) w'):=fun h16=>ak0 _ _ rows L (h.below hbb) _ av6 #[.pointer (some ⟨w.heap.size,0,none⟩),.pointer (some ⟨w.heap.size+1,0,none⟩)] (fun z=>decide (z.length≠n+more)) (fun W z xv hbW _ hx=>av7 W xv z L n more w.heap.size (w.heap.size+1) hx ((hbW.block _ (aaa hn1')).trans hn1') ((hbW.block _ (aaa hn2)).trans hn2) h16 hm)
 have HB:=hide hbb;have hmf:∀(fn:Fn) (first cap:Array Value) (w:World),(Instr.makeFunc fn first cap).run Tryz.prog w=.ok (.func fn first cap) w:=fun _ _ _ _=>rfl
 have h0:decide ((n:Int)<0)=false:=by simp
 clear h hb1 hn1 hb2 hn2 hn1' hbb hsz;by_cases h16:n<=16
 ·have h16':decide ((n:Int) > 16)=false:=by simp;omega
  by_cases h64:rows.length<=64
  ·have h64':decide ((rows.length:Int) > 64)=false:=by simp;omega
   have K:=K h16;go_enter Tryz.func80,Tryz.ntmps80
   go_wp2_with fail
   refine K.out.mono ?_;rintro e w1 ⟨rfl,hb⟩;have HB1:=hide (HB.out.trans (hb.mono HB.out.size));have HE:Hid ((!rows.any fun z=>decide (z.length≠n+more))=ShpQ rows n more):=(show _=_ by
    rw[ShpQ,Bool.eq_iff_iff,decide_eq_true_iff,Bool.not_eq_true',List.any_eq_false];constructor
    ·intro h;exact⟨h16,h64,fun r hr=>by simpa using h r hr⟩
    ·intro h r hr
     simpa using h.2.2 r hr)
   clear hb K;generalize (rows.any fun z=>decide (z.length≠n+more))=bb at *
   go_wp2;refine bodyPost_ret (v:=_) (by simp[results,Tryz.results80,go_sem];try rfl) rfl ⟨by rw[HE.out],HB1.out⟩
  ·have h64':decide ((rows.length:Int) > 64)=true:=by simp;omega
   have HE:Hid (ShpQ rows n more=false):=(show _=_ by rw[ShpQ,decide_eq_false_iff_not];exact fun h=>h64 h.2.1);clear K;go_enter Tryz.func80,Tryz.ntmps80
   go_wp2;refine bodyPost_ret (v:=_) (by simp[results,Tryz.results80,go_sem];try rfl) rfl ⟨by rw[HE.out],HB.out⟩
 ·have h16':decide ((n:Int) > 16)=true:=by simp;omega
  have HE:Hid (ShpQ rows n more=false):=(show _=_ by rw[ShpQ,decide_eq_false_iff_not];exact fun h=>h16 h.1);clear K;go_enter Tryz.func80,Tryz.ntmps80
  go_wp2;refine bodyPost_ret (v:=_) (by simp[results,Tryz.results80,go_sem];try rfl) rfl ⟨by rw[HE.out],HB.out⟩
end Lm
namespace Lm
open Go Go.RowKit Md
theorem ORow.grs{K:Nat}{w:World}{v:Value}{zs:List Int}{L:Nat}(h:ORow K w v zs L):GrS 0 zs L v w:=by
 obtain⟨es,bv,e,R,h1,h2⟩:=h.rwo;exact⟨es,R.low (Nat.zero_le _),h1,h2⟩
def LsP(w0 wr:World)(v:Value)(k:Nat)(rows:List (List Int))(L:Nat):Prop:=Below w0.heap.size w0 wr/\rows.length=k/\∃vs:List Value,wr.ownsRow w0.heap.size 39 1 v k vs/\∀(i:Nat) (u:Value) (z:List Int),vs[i]? = some u->rows[i]? = some z->GrS 0 z L u wr
theorem LsP.below{w0 wr w':World}{v:Value}{k:Nat}{rows:List (List Int)}{L:Nat}(h:LsP w0 wr v k rows L)(hb:Below wr.heap.size wr w'):LsP w0 w' v k rows L:=by
 obtain⟨h1,h2,vs,h3,h4⟩:=h;exact⟨h1.trans (hb.mono h1.size),h2,vs,ab0 h3 hb,fun i u z a b=>GrS.mono _ _ _ _ _ _ hb (h4 i u z a b)⟩
theorem LsP.isM{w0 wr:World}{v:Value}{k:Nat}{rows:List (List Int)}{L:Nat}(h:LsP w0 wr v k rows L):IsM wr v rows L:=by
 obtain⟨h1,h2,vs,h3,h4⟩:=h;exact⟨vs,by rw[h2];exact Ce.own h3,fun i u z a b=>(h4 i u z a b).is⟩
section
variable {dst:Option Tmp} {ty:TypeId} {pos:String} {after:Array Edge} {guard:Option (Nat×Bool)} {a:Act} {w:World} {i j:Nat}
theorem a1t{g k L:Nat}{w0:World}{lw u:Value}{rows:List (List Int)}{z:List Int}{au:Option Addr}{nu cu:Nat}(h1:a.eval (.tmp i)=lw)(hS:LsP w0 w lw k rows L)(h2:a.eval (.tmp j)=.slice (some ⟨g,0,none⟩) 1 1)(hg:w.heap[g]? = some (.cells #[u] 39 (0,0)))(hu:GrS 0 z L u w)(hus:u=.slice au nu cu)(hk:k<=1000):
  Does Tryz.prog {dst,op:=.call {callee:=.builtin .append,args:=#[.tmp i,.tmp j],argTypes:=#[75,75]},type:=ty,pos,after,guard} a.eval w fun v' w'=>LsP w0 w' v' (k+1) (rows ++ [z]) L:=by
 obtain⟨i0,hi,hz0,hz1,hz2⟩:=info_parts afc;have hnew:∀k x,[u][k]? = some x->w.cell? ((⟨g,0,none⟩:Addr).add k)=some x:=fun k x hx=>by
  have hc:∀k,w.cell? ⟨g,k,none⟩ = #[u][k]? :=fun k=>cell_of_row w g k _ _ (0,0) hg
  have ha:(⟨g,0,none⟩:Addr).add k=⟨g,k,none⟩:=by unfold Addr.add;split <;> simp_all
  rw[ha,hc];simpa using hx
 have h1u:∀x ∈ [u],x.oneCell'=true:=fun x hx=>by
  obtain rfl:=List.mem_singleton.1 hx;subst hus;rfl
 obtain⟨hb,hl,vs,hown,hrows⟩:=hS;have hvl:vs.length=k:=by have:=hown.1;simp at this;omega
 obtain⟨v',w',hr,ho,hgr,_⟩:=run_append_own (P:=Tryz.prog) w w0.heap.size 75 ty 39 i0 _ 1 24 Tryz.underlying75 hi hz0 hz1 hz2 rfl (by decide) _ k _ hown ⟨g,0,none⟩ 1 1 [u] rfl hnew h1u (by simp[maxLen];omega) (by omega) hb.size;have e:(execOp a.eval {dst,op:=.call {callee:=.builtin .append,args:=#[.tmp i,.tmp j],argTypes:=#[75,75]},type:=ty,pos,after,guard}).run Tryz.prog w=.ok (.value v') w':=by
  simp only[execOp,resolve,invoke,builtin,Sem.run_bind,Sem.run_pure,Result.andThen_ok,List.map_toArray,List.map_cons,List.map_nil,h1,h2,hr]
 refine⟨?_⟩;unfold Turns;rw[e];refine⟨hb.grown hgr hb.size (fun q hq=>?_),by simp[hl],vs ++ [u],ho,fun i x y hx hy=>?_⟩
 ·rcases hown.2 with⟨rfl,_⟩|⟨g',cap,cur,rfl,hg',_⟩
  ·simp[Value.ownBlock]at hq
  ·simp only[Value.ownBlock,Option.some.injEq]at hq;omega
 ·by_cases hi:i<k
  ·rw[List.getElem?_append_left (by omega)]at hx hy;exact(hrows i x y hx hy).keep hown hgr
  ·rw[List.getElem?_append_right (by omega)]at hx hy;rw[hvl]at hx;rw[hl]at hy
   match hm:i-k with
   |0=>
    rw[hm]at hx hy;simp at hx hy;subst hx hy;exact hu.keep hown hgr
   |m+1=>
    rw[hm]at hx;simp at hx
end
theorem IsQs.fit{w:World}{v:Value}{ps:List Rat}{L:Nat}(h:IsQs w v ps L)(hL:1<=L):∀r∈ps,Fit r L:=by
 intro r hr;obtain⟨es,_,h2,h3⟩:=h;obtain⟨k,hk⟩:=List.mem_iff_getElem?.1 hr;have hkl:=(List.getElem?_eq_some_iff.1 hk).1;obtain⟨x,hx⟩:∃x,es[k]? = some x:=⟨_,List.getElem?_eq_getElem (by omega)⟩;exact(h3 k x r hx hk).fit hL
def PtsO(w':World)(n:Nat)(pts:List (List Rat))(e:Ending):Prop:=
 (ShpQ pts n 0=false/\e=.returned (.tuple #[.pointer none,.int .i64 1]))\/(ShpQ pts n 0=true/\BuiL w' n (pts.map liftZ) e)
theorem air(w:World)(v:Value)(pts:List (List Rat))(L M n:Nat)(h:IsQM w v pts L)(hn:n<=9223372036854775807)(hL0:1<=L)(hL:L<=10000000)(hMM:M<=1510000)(hB:∀ps∈pts,ps.length<=16->(∀k,((wOf 1 (ps.take k)).natAbs:Int)<pw M)/\∀z∈liftZ ps,(z.natAbs:Int)<pw M):
  Calls Tryz.prog 35 #[.int .i64 (n:Int),v] w fun e w'=>PtsO w' n pts e/\Below w.heap.size w w':=by
 have K1:=hide (aob w v pts L n 0 h hn (Nat.zero_le _));have H:=hide h;have HBB:=hide hB;obtain⟨ao,cp,rfl,hl⟩:=h.parts;clear h hB;obtain⟨m,hm'⟩:∃m,pts.length=m:=⟨_,rfl⟩;rw[hm']at K1 H hl ⊢;have HM:=hide hm';clear hm';cases hsh:ShpQ pts n 0 with
 |false=>
  rw[hsh]at K1;have HSH:Hid (ShpQ pts n 0=false):=hsh;clear hsh H;go_enter Tryz.func35,Tryz.ntmps35
  go_wp2_with fail
  refine K1.out.mono ?_;rintro e w1 ⟨rfl,hb⟩;have HB:=hide hb;clear hb K1;go_wp2;refine bodyPost_ret (v:=_) (by simp[results,Tryz.results35,go_sem];try rfl) rfl ⟨.inl ⟨HSH.out,rfl⟩,HB.out⟩
 |true=>
  rw[hsh]at K1;obtain⟨h16,h64,hlen⟩:=of_decide_eq_true hsh;have HLEN:=hide hlen;have HSH:Hid (ShpQ pts n 0=true):=hsh;rw[HM.out]at h64;clear hsh hlen;go_enter Tryz.func35,Tryz.ntmps35
  go_wp2_with fail
  refine K1.out.mono ?_;rintro e w1 ⟨rfl,hb⟩;have HB:=hide hb;clear hb K1;go_wp2;go_loopw [6,15] (fun lw iv wr=>∃(k:Nat),iv=.int .i64 k/\k<=m/\LsP w wr lw k ((pts.take k).map liftZ) M) (fun _ iv _=>m-(intOf iv).toNat)
  case atStart=>exact⟨0,rfl,Nat.zero_le _,HB.out,rfl,[],World.ownsRow_nil _ _ _ _,fun i u z hu=>by simp at hu⟩
  case round=>
   obtain⟨k,rfl,hk,hst⟩:=hrel;by_cases hlt:k<m
   ·have hlt':(k:Int)<(m:Int):=by omega
    obtain⟨ps,hps⟩:∃ps,pts[k]? = some ps:=⟨_,List.getElem?_eq_getElem (by have:=HM.out;omega)⟩;obtain⟨b,off,u,rfl,hbl,hu,hur⟩:=(H.out.below hst.1).cell hps;have hpl:ps.length=n:=by have:=HLEN.out ps (List.mem_of_getElem? hps);omega
    have hf:=HBB.out ps (List.mem_of_getElem? hps) (by omega);have K:=hide (afv wr u ps L M n hur hpl (by omega) hL0 (by omega) (by omega) (fun k hk=>hf.1 k) hf.2);obtain⟨au,cu,rfl,_⟩:=hur.parts;have HST:=hide hst;have HGZ:Hid ((pts.take (k+1)).map liftZ=(pts.take k).map liftZ ++ [liftZ ps]):=(show _=_ by rw[List.take_add_one,hps];simp);have hll:(liftZ ps).length=n+1:=by rw[abn,hpl]
    have HLL:=hide hll;clear hst hur hf hps hll hpl;go_wp2_with fail
    refine K.out.mono ?_;rintro e w3 ⟨r,rfl,hor,hb3⟩;have hst3:=HST.out.below hb3;have hgs:=hor.grs;obtain⟨bv,rfl,_⟩:=hor;rw[HLL.out]at hgs;have hA3:=hAl w3 (.cells #[.slice (some ⟨bv,0,none⟩) (n+1) (n+1)] 39);have hn3:=heap_alloc_new w3 (.cells #[.slice (some ⟨bv,0,none⟩) (n+1) (n+1)] 39);have hst4:=hst3.below hA3;have hgs4:=GrS.mono _ _ _ _ _ _ hA3 hgs;clear hst3 hgs hA3 hb3 K;rw[HLL.out];go_wp2_with (at_builtin;refine abo rfl (a1t (i:=19) (j:=22) rfl hst4 rfl hn3 hgs4 rfl (by omega)) ?_)
    intro v2 w4 hst5;have HS5:=hide hst5;clear hst4 hn3 hgs4 hst5;go_wp2;go_roundw
    case rel=>exact⟨k+1,by go_num,by omega,by rw[HGZ.out,List.map_take];exact HS5.out⟩
    case measure=>simp[intOf];omega
   ·have hlt':decide ((k:Int)<(m:Int))=false:=by simp;omega
    obtain rfl:m=k:=by omega
    rw[List.take_of_length_le (by have:=HM.out;omega)]at hst;have hsp:Shaped (pts.map liftZ) ((n+1:Nat):Int):=⟨by omega,by omega,by rw[List.length_map,HM.out];exact h64,fun r hr=>by
     obtain⟨ps,h1,rfl⟩:=List.mem_map.1 hr
     rw[abn,HLEN.out ps h1]⟩
    have K:=hide (afw wr _ (pts.map liftZ) M n hst.isM hsp h16 (by omega));have HW:=hide hst.1;clear hst hsp;go_wp2_with fail
    refine K.out.mono ?_;rintro e w2 ⟨hB,hb⟩;have HB2:=hide (HW.out.trans (hb.mono HW.out.size));have HBU:=hide hB;clear hb K;rcases hB with⟨hbg,rfl⟩|⟨g,made,twin,low,eqs,rfl,h1⟩
    ·clear hbg;go_wp2;refine bodyPost_ret (v:=_) (by simp[results,Tryz.results35,go_sem];try rfl) rfl ⟨.inr ⟨HSH.out,HBU.out⟩,HB2.out⟩
    ·clear h1;go_wp2;refine bodyPost_ret (v:=_) (by simp[results,Tryz.results35,go_sem];try rfl) rfl ⟨.inr ⟨HSH.out,HBU.out⟩,HB2.out⟩
theorem apv(w:World)(v:Value)(pts:List (List Rat))(L n:Nat)(h:IsQM w v pts L)(hn:n<=9223372036854775807)(hL0:1<=L)(hL:L<=80000):
  Calls Tryz.prog 35 #[.int .i64 (n:Int),v] w fun e w'=>PtsO w' n pts e/\Below w.heap.size w w':=by
 refine air w v pts L (1+L*16+L) n h hn hL0 (by omega) (by omega) (fun ps hps hl=>?_);have hf:∀r∈ps,Fit r L:=by
  obtain⟨vs,h1,h2⟩:=h;obtain⟨i,hi⟩:=List.mem_iff_getElem?.1 hps;have hil:=(List.getElem?_eq_some_iff.1 hi).1;obtain⟨_,_,_,_,_,hvl,_⟩:=h1;obtain⟨u,hu⟩:∃u,vs[i]? = some u:=⟨_,List.getElem?_eq_getElem (by omega)⟩;exact(h2 i u ps hu hi).fit hL0
 refine⟨fun k=>?_,fun z hz=>afn hf hl z hz⟩;have h1:=aie hf hl k;have h2:pw (1+L*16)<=pw (1+L*16+L):=aap (by omega);omega
end Lm
namespace Lm
open Go Go.RowKit Md
theorem apw(w:World)(g n:Nat)(s twin:Value)(h:SpanAt w g n (.iface 75 s) twin):
  Calls Tryz.prog 45 #[.pointer (some ⟨g,0,none⟩)] w fun e w'=>e=.returned s/\Below w.heap.size w w':=by
 unfold SpanAt at h;have hgl:=aaa h;have c1:=cell_of_row w g 1 _ _ (0,0) h;simp at c1;have ht:∀xt w,(Instr.typeAssert (.iface 75 s) xt 75 true).run Tryz.prog w=.ok (.tuple #[s,.bool true]) w:=fun _ _=>by kernel_rfl
 clear h;go_enter Tryz.func45,Tryz.ntmps45
 go_wp2;refine bodyPost_ret (v:=_) (by simp[results,Tryz.results45,go_sem];try rfl) rfl ⟨rfl,Below.refl _ _⟩
theorem apx(w:World)(g n:Nat)(s m:Value)(h:SpanAt w g n (.iface 72 m) (.iface 75 s)):
  Calls Tryz.prog 45 #[.pointer (some ⟨g,0,none⟩)] w fun e w'=>e=.returned s/\Below w.heap.size w w':=by
 unfold SpanAt at h;have hgl:=aaa h;have c1:=cell_of_row w g 1 _ _ (0,0) h;have c2:=cell_of_row w g 2 _ _ (0,0) h;simp at c1 c2;have ht:∀xt w,(Instr.typeAssert (.iface 72 m) xt 75 true).run Tryz.prog w=.ok (.tuple #[.slice none 0 0,.bool false]) w:=fun _ _=>by kernel_rfl
 have ht2:∀xt w,(Instr.typeAssert (.iface 75 s) xt 75 false).run Tryz.prog w=.ok s w:=fun _ _=>by kernel_rfl
 clear h;go_enter Tryz.func45,Tryz.ntmps45
 go_wp2;refine bodyPost_ret (v:=_) (by simp[results,Tryz.results45,go_sem];try rfl) rfl ⟨rfl,Below.refl _ _⟩
theorem av8(w:World)(g n:Nat)(s twin:Value)(h:SpanAt w g n (.iface 72 s) twin):
  Calls Tryz.prog 43 #[.pointer (some ⟨g,0,none⟩)] w fun e w'=>e=.returned s/\Below w.heap.size w w':=by
 unfold SpanAt at h;have hgl:=aaa h;have c1:=cell_of_row w g 1 _ _ (0,0) h;simp at c1;have ht:∀xt w,(Instr.typeAssert (.iface 72 s) xt 72 true).run Tryz.prog w=.ok (.tuple #[s,.bool true]) w:=fun _ _=>by kernel_rfl
 clear h;go_enter Tryz.func43,Tryz.ntmps43
 go_wp2;refine bodyPost_ret (v:=_) (by simp[results,Tryz.results43,go_sem];try rfl) rfl ⟨rfl,Below.refl _ _⟩
theorem av9(w:World)(g n:Nat)(s m:Value)(h:SpanAt w g n (.iface 75 m) (.iface 72 s)):
  Calls Tryz.prog 43 #[.pointer (some ⟨g,0,none⟩)] w fun e w'=>e=.returned s/\Below w.heap.size w w':=by
 unfold SpanAt at h;have hgl:=aaa h;have c1:=cell_of_row w g 1 _ _ (0,0) h;have c2:=cell_of_row w g 2 _ _ (0,0) h;simp at c1 c2;have ht:∀xt w,(Instr.typeAssert (.iface 75 m) xt 72 true).run Tryz.prog w=.ok (.tuple #[.slice none 0 0,.bool false]) w:=fun _ _=>by kernel_rfl
 have ht2:∀xt w,(Instr.typeAssert (.iface 72 s) xt 72 false).run Tryz.prog w=.ok s w:=fun _ _=>by kernel_rfl
 clear h;go_enter Tryz.func43,Tryz.ntmps43
 go_wp2;refine bodyPost_ret (v:=_) (by simp[results,Tryz.results43,go_sem];try rfl) rfl ⟨rfl,Below.refl _ _⟩
end Lm
namespace Lm
open Go Go.RowKit Md
def SpanEL(w:World)(g n:Nat)(se sl:Value):Prop:=SpanAt w g n (.iface 75 sl) (.iface 72 se)\/SpanAt w g n (.iface 72 se) (.iface 75 sl)
theorem SpanEL.below{w w':World}{g n:Nat}{se sl:Value}(h:SpanEL w g n se sl)(hb:Below w.heap.size w w'):SpanEL w' g n se sl:=by
 rcases h with h|h
 ·exact .inl ((hb.block _ (aaa h)).trans h)
 ·exact .inr ((hb.block _ (aaa h)).trans h)
theorem aff{w:World}{g n:Nat}{se sl:Value}(h:SpanEL w g n se sl):Calls Tryz.prog 43 #[.pointer (some ⟨g,0,none⟩)] w fun e w'=>e=.returned se/\Below w.heap.size w w':=by
 rcases h with h|h
 ·exact av9 w g n se sl h
 ·exact av8 w g n se _ h
theorem adt{w:World}{g n:Nat}{se sl:Value}(h:SpanEL w g n se sl):Calls Tryz.prog 45 #[.pointer (some ⟨g,0,none⟩)] w fun e w'=>e=.returned sl/\Below w.heap.size w w':=by
 rcases h with h|h
 ·exact apw w g n sl _ h
 ·exact apx w g n sl se h
theorem SpanEL.num{w:World}{g n:Nat}{se sl:Value}(h:SpanEL w g n se sl):g<w.heap.size/\w.cell? ⟨g,0,none⟩=some (.int .i64 (n:Int)):=by
 rcases h with h|h
 ·exact⟨aaa h,by have:=cell_of_row w g 0 _ _ (0,0) h;simpa using this⟩
 ·exact⟨aaa h,by have:=cell_of_row w g 0 _ _ (0,0) h;simpa using this⟩
theorem ay1(w:World)(g n k:Nat)(se sl:Value)(ao:Option Addr)(cp:Nat)(hS:SpanEL w g n se sl)(hsl:sl=.slice ao k cp)(hk:k<=1000):
  Calls Tryz.prog 12 #[.pointer (some ⟨g,0,none⟩)] w fun e w'=>e=.returned (.int .i64 ((k:Int)-1))/\Below w.heap.size w w':=by
 subst hsl;have K1:=hide (adt hS);have hsub:IntKind.i64.wrap ((k:Int)-1)=(k:Int)-1:=by rw[IntKind.wrap_i64];omega
 clear hS;go_enter Tryz.func12,Tryz.ntmps12
 go_wp2_with fail
 refine K1.out.mono ?_;rintro e w1 ⟨rfl,hb1⟩;have HB1:=hide hb1;clear hb1 K1;go_wp2;refine bodyPost_ret (v:=_) (by simp[results,Tryz.results12,go_sem];try rfl) rfl ⟨rfl,HB1.out⟩
end Lm
namespace Lm
open Go Go.RowKit Md
theorem as2:Has Tryz.prog 64:=by unfold Has;kernel_rfl
theorem as3(w:World)(g gb n:Nat)(se sl pv:Value)(low:List (List Int))(row:List Int)(L:Nat)(T:TypeId)(hS:SpanEL w g n se sl)(hg:w.heap[gb]? = some (.cells #[.pointer (some ⟨g,0,none⟩)] T (0,0)))(hE:IsM w sl low 600)(hel:∀r∈low,r.length=n+1)(hp:IsRow w pv row L)(hpl:row.length=n+1)(hn:n<=16)(hL0:600<=L)(hL:L<=8000000):
  Calls Tryz.prog 64 (#[pv] ++ #[.pointer (some ⟨gb,0,none⟩)]) w fun e w'=>e=.returned (.bool (!low.all (mk0 (n+1) row)))/\Below w.heap.size w w':=by
 have K1:=hide (adt hS);have K2:Hid (∀w1,Below w.heap.size w w1->_):=(fun w1 hb=>apq w1 sl pv low row L (n+1) ((hE.below hb).wide (by omega)) (hp.below hb) hel hpl (by omega) (by omega));obtain⟨hgl,c0,_⟩:=aae hg;obtain⟨ao,cp,rfl,hl⟩:=hp.parts;rw[hpl]at K2 ⊢;obtain⟨ae,ce,rfl,_⟩:=hE.parts;clear hS hE hel hp hpl hl hg;go_enter Tryz.func64,Tryz.ntmps64
 go_wp2_with fail
 refine K1.out.mono ?_;rintro e w1 ⟨rfl,hb1⟩;have K3:=hide (K2.out w1 hb1);have HB1:=hide hb1;clear hb1 K1 K2 c0;go_wp2_with fail
 refine K3.out.mono ?_;rintro e w3 ⟨rfl,hb3⟩;have HB3:=hide (HB1.out.trans (hb3.mono HB1.out.size));clear hb3 K3;generalize hbb:low.all (mk0 (n+1) row)=bb at *
 go_wp2;refine bodyPost_ret (v:=_) (by simp[results,Tryz.results64,go_sem];try rfl) rfl ⟨by rw[hbb],HB3.out⟩
end Lm
namespace Lm
open Go Go.RowKit Md
theorem ay2(w:World)(g h n:Nat)(m1 m2 t2:Value)(T:TypeId)(s2:Value)(hS:SpanAt w g n m1 m2)(hO:SpanAt w h n (.iface T s2) t2):
  Calls Tryz.prog 60 #[.pointer (some ⟨g,0,none⟩),.pointer (some ⟨h,0,none⟩)] w fun e w'=>e=.returned (.bool true)/\Below w.heap.size w w':=by
 unfold SpanAt at hS hO;have hgl:=aaa hS;have hhl:=aaa hO;have c0:=cell_of_row w g 0 _ _ (0,0) hS;have d0:=cell_of_row w h 0 _ _ (0,0) hO;have d1:=cell_of_row w h 1 _ _ (0,0) hO;simp at c0 d0 d1;have hnn:((n:Int)==(n:Int))=true:=by simp
 clear hS hO;go_enter Tryz.func60,Tryz.ntmps60
 go_wp2;go_quiet (fail)
 go_wp2;have hB:Below w.heap.size w (w.drewN nq):=by(repeat' first|with_reducible(first|exact Below.refl _ _|assumption|refine gdrewN ?_ _|refine Below.alloc ?_ ?_ _|refine Below.drew ?_|refine Below.setCell ?_ ?_ _)|go_size)
 refine bodyPost_ret (v:=_) (by simp[results,Tryz.results60,go_sem];try rfl) rfl ⟨rfl,hB⟩
theorem apy(w:World)(g h n:Nat)(se sl te tl:Value)(low eqs:List (List Int))(hS:SpanEL w g n se sl)(hO:SpanEL w h n te tl)(hE:IsM w sl low 600)(hel:∀r∈low,r.length=n+1)(hQ:IsM w te eqs 32)(hql:∀r∈eqs,r.length=n+1)(hn:n<=16):
  Calls Tryz.prog 26 #[.pointer (some ⟨g,0,none⟩),.pointer (some ⟨h,0,none⟩)] w fun e w'=>e=.returned (.tuple #[.bool (!eqs.any (fun r=>!low.all (mk0 (n+1) r))),.int .i64 0])/\Below w.heap.size w w':=by
 have hb:=hAl w (.cells #[.pointer (some ⟨g,0,none⟩)] 28);have hnw:=heap_alloc_new w (.cells #[.pointer (some ⟨g,0,none⟩)] 28);obtain⟨hgb,c0,_⟩:=aae hnw;have K1:Hid (∀w1,Below w.heap.size w w1->Calls Tryz.prog 60 #[.pointer (some ⟨g,0,none⟩),.pointer (some ⟨h,0,none⟩)] w1 fun e w'=>e=.returned (.bool true)/\Below w1.heap.size w1 w'):=(fun w1 hb=>by
  rcases hS.below hb with h1|h1 <;> rcases hO.below hb with h2|h2 <;> exact ay2 w1 g h n _ _ _ _ _ h1 h2)
 have K2:Hid (∀w1,Below w.heap.size w w1->_):=(fun w1 hb=>aff (hO.below hb));have K3:Hid (∀w1,Below w.heap.size w w1->w1.heap[w.heap.size]? = some (.cells #[.pointer (some ⟨g,0,none⟩)] 28 (0,0))->_):=(fun w1 hb1 hw1=>af4 w1 te eqs 600 ((hQ.below hb1).wide (by omega)) _ as2 #[.pointer (some ⟨w.heap.size,0,none⟩)] (fun r=>!low.all (mk0 (n+1) r)) (fun W z xv hW hz hx=>as3 W g w.heap.size n se sl xv low z 600 _ (hS.below (hb1.trans (hW.mono hb1.size))) ((hW.block _ (aaa hw1)).trans hw1) (hE.below (hb1.trans (hW.mono hb1.size))) hel hx (hql z hz) hn (by omega) (by omega)));have HB:=hide hb;have HN:=hide hnw;have hmf:∀(fn:Fn) (first cap:Array Value) (w:World),(Instr.makeFunc fn first cap).run Tryz.prog w=.ok (.func fn first cap) w:=fun _ _ _ _=>rfl
 obtain⟨ae,ce,rfl,_⟩:=hQ.parts;have K1':=hide (K1.out _ hb);clear hS hO hE hel hQ hql hb hnw K1;go_enter Tryz.func26,Tryz.ntmps26
 go_wp2_with fail
 refine K1'.out.mono ?_;rintro e w1 ⟨rfl,hb1⟩;have HB1:=hide (HB.out.trans (hb1.mono HB.out.size));have HN1:=hide ((hb1.block _ (aaa HN.out)).trans HN.out);have K2':=hide (K2.out w1 HB1.out);clear hb1 K1' K2 c0 HN HB;go_wp2_with fail
 refine K2'.out.mono ?_;rintro e w2 ⟨rfl,hb2⟩;have HB2:=hide (HB1.out.trans (hb2.mono HB1.out.size));have HN2:=hide ((hb2.block _ (aaa HN1.out)).trans HN1.out);have K3':=hide (K3.out w2 HB2.out HN2.out);clear hb2 K2' K3;go_wp2_with fail
 refine K3'.out.mono ?_;rintro e w3 ⟨rfl,hb3⟩;have HB3:=hide (HB2.out.trans (hb3.mono HB2.out.size));clear hb3 K3';generalize hbb:(eqs.any fun r=>!low.all (mk0 (n+1) r))=bb at *
 go_wp2;refine bodyPost_ret (v:=_) (by simp[results,Tryz.results26,go_sem];try rfl) rfl ⟨by rw[hbb],HB3.out⟩
end Lm
namespace Lm
open Go Go.RowKit Md
theorem IsRow.one{w:World}{v:Value}{zs:List Int}{L:Nat}(h:IsRow w v zs L):v.oneCell'=true:=by
 obtain⟨ao,c,rfl,_⟩:=h.parts;rfl
def MCells(w:World)(v:Value)(m:Nat)(X:List Value):Prop:=Ce w v 1 m X/\∀u∈X,u.oneCell'=true
theorem MCells.below{w w':World}{v:Value}{m:Nat}{X:List Value}(h:MCells w v m X)(hb:Below w.heap.size w w'):MCells w' v m X:=⟨h.1.below hb,h.2⟩
theorem IsM.cellsM{w:World}{v:Value}{rows:List (List Int)}{L:Nat}(h:IsM w v rows L):∃X,MCells w v rows.length X/\∀(i:Nat) (u:Value) (z:List Int),X[i]? = some u->rows[i]? = some z->IsRow w u z L:=by
 obtain⟨vs,h1,h2⟩:=h;refine⟨vs,⟨h1,fun u hu=>?_⟩,h2⟩;obtain⟨i,hi⟩:=List.mem_iff_getElem?.1 hu;have hil:=(List.getElem?_eq_some_iff.1 hi).1;obtain⟨_,_,_,_,_,hvl,_⟩:=h1;obtain⟨z,hz⟩:∃z,rows[i]? = some z:=⟨_,List.getElem?_eq_getElem (by omega)⟩;exact(h2 i u z hi hz).one
theorem a1u{w w':World}{r:Value}{K:Nat}{rows rows':List (List Int)}{X Y:List Value}{L:Nat}(ho:w'.ownsRow K 39 1 r (rows.length+rows'.length) (X++Y))(hb:Below w.heap.size w w')(hX:X.length=rows.length)(h:∀(i:Nat) (u:Value) (z:List Int),X[i]? = some u->rows[i]? = some z->IsRow w u z L)(h':∀(i:Nat) (u:Value) (z:List Int),Y[i]? = some u->rows'[i]? = some z->IsRow w u z L):IsM w' r (rows++rows') L:=by
 refine⟨X++Y,by rw[List.length_append];exact Ce.own ho,fun i u z hu hz=>?_⟩;by_cases hi:i<rows.length
 ·rw[List.getElem?_append_left (by omega)]at hu hz;exact(h i u z hu hz).below hb
 ·rw[List.getElem?_append_right (by omega)]at hu hz;rw[hX]at hu;exact(h' _ u z hu hz).below hb
theorem ak1{ops:Array Oper}{rest:List Oper}{o:Oper}{a:Act}{Q:Exit->Act->World->Prop}{w:World}(hgd:o.guard=none)(s x:Operand)(ho:o.op=.call {callee:=.builtin .append,args:=#[s,x],argTypes:=#[75,75]}){K:Nat}{v:Value}{n:Nat}{xs:List Value}(hs:a.eval s=v)(hown:w.ownsRow K 39 1 v n xs){a0:Option Addr}{m c0:Nat}{X:List Value}(hx:a.eval x=.slice a0 m c0)(hC:MCells w (.slice a0 m c0) m X)(hm:n+m<=1000000)(hK:K<=w.heap.size)
  (h:∀v' w',w'.ownsRow K 39 1 v' (n+m) (xs++X)->w.grownBy w' v.ownBlock->wpList Tryz.prog ops Q rest (a.put o.dst v') w'):wpList Tryz.prog ops Q (o::rest) a w:=by
 obtain⟨iW,hi,hz0,hz1,hz2⟩:=info_parts afc;obtain⟨ao',cap',hv,h1,h2,h3,h4⟩:=hC.1;obtain⟨rfl,_,rfl⟩:=(Value.slice.injEq .. ▸ hv);cases a0 with
 |none=>
  have hm0:m=0:=by
   rcases h4 with h4|⟨b,off,e,_⟩
   ·exact h4
   ·cases e
  subst hm0;obtain rfl:X = []:=List.length_eq_zero_iff.1 (by omega);refine wpList_plain hgd fun K hK=>?_
  have hrun:(Builtin.append_ #[75,75] o.type #[v,.slice none 0 c0]).run Tryz.prog w=.ok v w:=by
   rcases hown.2 with⟨rfl,rfl⟩|⟨g,cap,cur,rfl,_,_,hnc,_⟩
   ·simp[Builtin.append_,run_underlying Tryz.underlying75,sizeOf,typeInfo,hi,Builtin.lenOf,Builtin.firstCells]
   ·simp[Builtin.append_,run_underlying Tryz.underlying75,sizeOf,typeInfo,hi,Builtin.lenOf,Builtin.firstCells,hnc,storeCells]
  unfold Oper.wp;simp[execOp,ho,resolve,invoke,builtin,hs,hx,hrun,Result.andThen];exact hK _ _ (h _ _ (by simpa using hown) ⟨rfl,rfl,rfl,Nat.le_refl _,fun _ _ _=>rfl⟩)
 |some ad=>
  refine wpList_append_own w hgd s x 75 ho K 39 iW (.slice none 0 0) 1 24 Tryz.underlying75 hi hz0 hz1 hz2 rfl (by decide) _ _ _ hs hown ad m c0 X hx (by omega) (fun j u hu=>?_) (fun u hu=>hC.2 u hu) (by unfold maxLen;omega) (by omega) hK (fun v' w' ho hg _=>h v' w' ho hg);rcases h4 with h4|⟨b,off,e,_,hc⟩
  ·rw[List.getElem?_eq_none (by omega)]at hu;cases hu
  ·obtain rfl:=Option.some.inj e;rw[Addr.add_lit];exact hc j u hu
end Lm
end Go.Proofs.YtjogfjgkabjcfaaGreat
