/-
  What the text behind the last one leans on, part 1.
-/
import Derived.Deep.QuietTactic
import Derived.BigQuiet
import Derived.Deep.RegionWith
import Derived.Deep.RegionHeld3
import Derived.Deep.LoopGhost
import Derived.Deep.DeepCutAuto
import Derived.WalkMore
import Derived.Laws.AppendOwn
import Derived.Test.YtjogfjgkabjcfaaGreatRows
import Derived.ProofKit
import Derived.OpenShut
import Derived.Deep.SlicePairs
import Derived.Test.YtjogfjgkabjcfaaGreatSLdLawZ0
set_option maxRecDepth 20000
set_option maxHeartbeats 40000000
namespace Go.Proofs.YtjogfjgkabjcfaaGreat
namespace Lm
open Go.RowKit
theorem aoz{v1 v2 u2 U g r:Int}(h2:0<=v2)(h3:u2<4294967296)(hg:U=g*v1+r)(hr:r<v1)(hg0:0<=g):U*4294967296+u2<(g+1)*(v1*4294967296+v2):=by
 have e1:(g+1)*(v1*4294967296+v2)=(g*v1+v1)*4294967296+(g+1)*v2:=by
  rw[Int.mul_add,<-Int.mul_assoc,Int.add_mul,Int.one_mul]
 have e2:0<=(g+1)*v2:=Int.mul_nonneg (by omega) h2;rw[e1];omega
theorem amv{v1 v2 u2 U g r:Int}(hg:g*v1+r=U)(h:g*v2<=r*4294967296+u2):g*(v1*4294967296+v2)<=U*4294967296+u2:=by
 rw[Int.mul_add,<-Int.mul_assoc,<-hg];omega
theorem aw9{v1 v2 u2 U g r:Int}(hg:g*v1+r=U)(h:r*4294967296+u2<g*v2):U*4294967296+u2<g*(v1*4294967296+v2):=by
 rw[Int.mul_add,<-Int.mul_assoc,<-hg];omega
theorem aim{v1 v2 u2 U g r:Int}(hv:0<=v2/\v2<4294967296)(hu:0<=u2)(hg:g*v1+r=U)(hr:4294967296<=r)(hg0:0<=g)(hg1:g<4294967296):g*(v1*4294967296+v2)<=U*4294967296+u2:=by
 apply amv hg;have h1:g*v2<=4294967295*v2:=Int.mul_le_mul_of_nonneg_right (by omega) hv.1;omega
theorem at9{v1 U g r:Int}(hv:2147483648<=v1)(hU:U<=v1*4294967296+4294967295)(hg:g*v1+r=U)(_hr:0<=r)(hb:4294967296<=r+v1):g<=4294967296:=by
 apply Classical.byContradiction;intro hn;have h1:4294967297*v1<=g*v1:=Int.mul_le_mul_of_nonneg_right (by omega) (by omega);omega
theorem aua{v1 U g r:Int}(hv:2147483648<=v1)(hU:U<=v1*4294967296+4294967295)(hg:g*v1+r=U)(hr:0<=r):g<=4294967297:=by
 apply Classical.byContradiction;intro hn;have h1:4294967298*v1<=g*v1:=Int.mul_le_mul_of_nonneg_right (by omega) (by omega);omega
theorem aub(w:World)(a1 a2:Option Addr)(n c1 c2:Nat)(ps Y:List Int)(hp:Sl w (.slice a1 (n+2+1) c1) ps)(hy:Sl w (.slice a2 (n+2) c2) Y)
  (htop:2147483648<=Y.getD (n+1) 0) (hu:ps.getD (n+2) 0<=Y.getD (n+1) 0) :
  Calls Tryz.prog 134 #[.slice a1 (n+2+1) c1,.slice a2 (n+2) c2] w fun e w'=>∃g:Int,e=.returned (.int .u32 g)/\(0<=g/\g<4294967296)/\g*(Y.getD (n+1) 0*4294967296+Y.getD n 0)<=(ps.getD (n+2) 0*4294967296+ps.getD (n+1) 0)*4294967296+ps.getD n 0/\(4294967296<=g+1\/(ps.getD (n+2) 0*4294967296+ps.getD (n+1) 0)*4294967296+ps.getD n 0<(g+1)*(Y.getD (n+1) 0*4294967296+Y.getD n 0))/\∃q,w'=w.drewN q:=by
 obtain⟨hpl,p1,p2,p3⟩:=hp.parts;obtain⟨hyl,y1,y2,y3⟩:=hy.parts;obtain⟨b,off,rfl,hc⟩:=hp.cells (by omega);obtain⟨b',off',rfl,hc'⟩:=hy.cells (by omega);have f0:=hc (n+2) (by omega);have f1:=hc (n+1) (by omega);have f2:=hc n (by omega);have e1:=hc' (n+1) (by omega);have e2:=hc' n (by omega);have bu0:=aai p3 (n+2);have bu1:=aai p3 (n+1);have bu2:=aai p3 n;have bv1:=aai y3 (n+1);have bv2:=aai y3 n;generalize ps.getD (n+2) 0=u0 at *
 generalize ps.getD (n+1) 0=u1 at *
 generalize ps.getD n 0=u2 at *
 generalize Y.getD (n+1) 0=v1 at *
 generalize Y.getD n 0=v2 at *
 have hN:n+3<=9223372036854775807:=by omega
 have hor1:=aet u0 u1 bu0.1 bu0.2 bu1.1 bu1.2;obtain⟨U,hU⟩:∃U,U=u0*4294967296+u1:=⟨_,rfl⟩;rw[<-hU]at hor1 ⊢;have hU0:0<=U:=by omega
 have hUb:U<18446744073709551616:=by omega
 have hUm:U<=v1*4294967296+4294967295:=by omega
 have HU:=hide hU;clear hc hc' p3 y3 hpl hyl hU;go_enter Tryz.func134,Tryz.ntmps134
 go_wp2;go_quiet (fail)
 go_wp2;replace f0:(w.drewN nq).cell? _=_:=f0;replace f1:(w.drewN nq).cell? _=_:=f1;replace f2:(w.drewN nq).cell? _=_:=f2;replace e1:(w.drewN nq).cell? _=_:=e1;replace e2:(w.drewN nq).cell? _=_:=e2;generalize hwq:w.drewN nq=wq at f0 f1 f2 e1 e2 ⊢;have HQ:Hid (∃q,wq=w.drewN q):=⟨_,hwq.symm⟩;clear hwq;go_quiet (fail)
 go_wp2;replace f2:(wq.drewN nq).cell? _=_:=f2;replace HQ:Hid (∃q,wq.drewN nq=w.drewN q):=by
  obtain⟨q,hq⟩:=HQ.out;exact⟨q+nq,by rw[hq];simp[World.drewN];omega⟩
 generalize wq.drewN nq=wz at f2 HQ ⊢;have hv0:0<v1:=by omega
 have hq0:0<=U/v1:=Int.ediv_nonneg hU0 (by omega);have hqm:=Int.mul_ediv_add_emod U v1;have hr0:=Int.emod_nonneg U (show v1≠0 by omega);have hr1:=Int.emod_lt_of_pos U hv0;have hq1:U/v1<=4294967297:=aua htop hUm (by rw[Int.mul_comm];exact hqm) hr0;have t1:U.tdiv v1=U/v1:=Int.tdiv_eq_ediv_of_nonneg hU0;have t2:IntKind.u64.wrap (U/v1)=U/v1:=by rw[IntKind.wrap_u64];exact Int.emod_eq_of_lt hq0 (by omega)
 have t3:U.tmod v1=U%v1:=Int.tmod_eq_emod_of_nonneg hU0;have HQM:=hide hqm;clear hqm;go_quiet (fail)
 go_wp2;replace f2:(wz.drewN nq).cell? _=_:=f2;replace HQ:Hid (∃q,wz.drewN nq=w.drewN q):=by
  obtain⟨q,hq⟩:=HQ.out;exact⟨q+nq,by rw[hq];simp[World.drewN];omega⟩
 generalize wz.drewN nq=wl at f2 HQ ⊢;go_loop [9,10] (fun gv rv=>∃gu rs:Int,gv=.int .u64 gu/\rv=.int .u64 rs/\0<=gu/\gu<=4294967297/\0<=rs/\rs<4294967296/\gu*v1+rs=U/\(4294967296<=gu+1\/U*4294967296+u2<(gu+1)*(v1*4294967296+v2))) (fun gv _=>(intOf gv).toNat)
 case atStart=>exact⟨U/v1,U%v1,rfl,rfl,hq0,hq1,hr0,by omega,by rw[Int.mul_comm];exact HQM.out,.inr (aoz bv2.1 bu2.2 (by rw[Int.mul_comm];exact HQM.out.symm) hr1 hq0)⟩
 case round=>
  obtain⟨gu,rs,rfl,rfl,hg0,hg1,hs0,hs1,hgs,hgb⟩:=hrel;have HGS:=hide hgs;have HGB:=hide hgb;have hor2:=aet rs u2 hs0 hs1 bu2.1 bu2.2;clear hgs hgb t1 t2 t3 hor1;by_cases hbig:4294967296<=gu
  ·have hne:(gu/4294967296 != 0)=true:=by rw[bne_iff_ne];omega
   have HN:Hid ((gu-1)*v1+(rs+v1)=U):=by have h9:=HGS.out;show _=_;rw[Int.sub_mul];omega
   by_cases hbr:4294967296<=rs+v1
   ·have hne2:((rs+v1)/4294967296 != 0)=true:=by rw[bne_iff_ne];omega
    have hgl:=at9 htop hUm HGS.out hs0 hbr;have HF:=hide (aim bv2 bu2.1 HN.out hbr (by omega) (by omega));go_wp2;go_ret;exact⟨gu-1,rfl,by omega,HF.out,.inl (by omega),HQ.out⟩
   ·have hne2:((rs+v1)/4294967296 != 0)=false:=by rw[bne_eq_false_iff_eq];omega
    go_wp2;go_round
    case rel=>exact⟨gu-1,rs+v1,rfl,rfl,by omega,by omega,by omega,by omega,HN.out,.inl (by omega)⟩
    case measure=>simp[intOf];omega
  ·have hne:(gu/4294967296 != 0)=false:=by rw[bne_eq_false_iff_eq];omega
   have hmb:=ag9 (show 0<=gu/\gu<4294967296 by omega) bv2;by_cases hgt:rs*4294967296+u2<gu*v2
   ·have hd:decide (rs*4294967296+u2<gu*v2)=true:=decide_eq_true hgt;have hgu1:1<=gu:=by
     apply Classical.byContradiction;intro hn;have h0:gu=0:=by omega
     rw[h0,Int.zero_mul]at hgt;omega
    have HN:Hid ((gu-1)*v1+(rs+v1)=U):=by have h9:=HGS.out;show _=_;rw[Int.sub_mul];omega
    have HB2:=hide (aw9 HGS.out hgt);by_cases hbr:4294967296<=rs+v1
    ·have hne2:((rs+v1)/4294967296 != 0)=true:=by rw[bne_iff_ne];omega
     have HF:=hide (aim bv2 bu2.1 HN.out hbr (by omega) (by omega));go_wp2;go_ret;exact⟨gu-1,rfl,by omega,HF.out,.inr (by rw[Int.sub_add_cancel];exact HB2.out),HQ.out⟩
    ·have hne2:((rs+v1)/4294967296 != 0)=false:=by rw[bne_eq_false_iff_eq];omega
     go_wp2;go_round
     case rel=>exact⟨gu-1,rs+v1,rfl,rfl,by omega,by omega,by omega,by omega,HN.out,.inr (by rw[Int.sub_add_cancel];exact HB2.out)⟩
     case measure=>simp[intOf];omega
   ·have hd:decide (rs*4294967296+u2<gu*v2)=false:=decide_eq_false hgt;have HF:=hide (amv HGS.out (show gu*v2<=rs*4294967296+u2 by omega));go_wp2;go_ret;exact⟨gu,rfl,by omega,HF.out,HGB.out,HQ.out⟩
theorem adv{zs:List Int}{n:Nat}(hl:zs.length=n+1):val zs=val (zs.take n)+pw n*zs.getD n 0:=by
 have e1:zs=zs.take n ++ [zs.getD n 0]:=by
  rw[<-abw zs n (by omega),List.take_of_length_le (by omega)]
 have e2:=abq (zs.take n) [zs.getD n 0];rw[<-e1,List.length_take,Nat.min_eq_left (by omega)]at e2;rw[e2];simp[val]
theorem amw{zs:List Int}{n:Nat}(hl:zs.length=n+2):val zs=val (zs.take n)+pw n*(zs.getD (n+1) 0*4294967296+zs.getD n 0):=by
 rw[adv (n:=n+1) hl,adv (zs:=zs.take (n+1)) (n:=n) (by rw[List.length_take];omega),List.take_take,Nat.min_eq_left (by omega)];have e:(zs.take (n+1)).getD n 0=zs.getD n 0:=by
  rw[List.getD_eq_getElem?_getD,List.getD_eq_getElem?_getD,List.getElem?_take,if_pos (by omega)]
 rw[e,pw,Int.mul_add,Int.mul_comm (zs.getD (n+1) 0) 4294967296,<-Int.mul_assoc,Int.mul_comm (pw n) 4294967296];omega
theorem axa{zs:List Int}{n:Nat}(hl:zs.length=n+3):val zs=val (zs.take n)+pw n*((zs.getD (n+2) 0*4294967296+zs.getD (n+1) 0)*4294967296+zs.getD n 0):=by
 rw[adv (n:=n+2) hl,amw (zs:=zs.take (n+2)) (n:=n) (by rw[List.length_take];omega),List.take_take,Nat.min_eq_left (by omega)];have e:∀i,i<n+2->(zs.take (n+2)).getD i 0=zs.getD i 0:=by
  intro i hi;rw[List.getD_eq_getElem?_getD,List.getD_eq_getElem?_getD,List.getElem?_take,if_pos hi]
 rw[e (n+1) (by omega),e n (by omega)];have e2:pw (n+2)=pw n*(4294967296*4294967296):=by
  simp only[pw];rw[Int.mul_comm (pw n),Int.mul_assoc]
 have e3:pw n*((zs.getD (n+2) 0*4294967296+zs.getD (n+1) 0)*4294967296+zs.getD n 0)=pw n*(4294967296*4294967296)*zs.getD (n+2) 0+pw n*(zs.getD (n+1) 0*4294967296+zs.getD n 0):=by
  rw[Int.mul_assoc,<-Int.mul_add];congr 1;omega
 rw[e2,e3];omega
theorem a2q{W Y:List Int}{n:Nat}(hW:Limb W)(hY:Limb Y)(h1:W.length=n+1)(h2:Y.length=n+1)(h:val W<val Y):W.getD n 0<=Y.getD n 0:=by
 apply Classical.byContradiction;intro hn;rw[adv h1,adv h2]at h;have b1:=aac (aaq hW n);have b2:=aac (aaq hY n);rw[List.length_take,Nat.min_eq_left (by omega)]at b1 b2;have hp:=aag n;have e:pw n*(Y.getD n 0+1)<=pw n*W.getD n 0:=Int.mul_le_mul_of_nonneg_left (by omega) (by omega);rw[Int.mul_add]at e;omega
theorem ar1{ps Y:List Int}{n:Nat}{g P U:Int}(hp:Limb ps)(hy:Limb Y)(h1:ps.length=n+3)(h2:Y.length=n+2)(hP:val ps=P)(hU:val Y=U)(htop:1<=Y.getD (n+1) 0)(hlt:P<4294967296*U)(hg:0<=g/\g<4294967296)
  (hA:g*(Y.getD (n+1) 0*4294967296+Y.getD n 0)<=(ps.getD (n+2) 0*4294967296+ps.getD (n+1) 0)*4294967296+ps.getD n 0)
  (hB:4294967296<=g+1\/(ps.getD (n+2) 0*4294967296+ps.getD (n+1) 0)*4294967296+ps.getD n 0<(g+1)*(Y.getD (n+1) 0*4294967296+Y.getD n 0)) :
  P<(g+1)*U/\(g-1)*U<=P:=by
 have eP:=axa h1;have eU:=amw h2;have bP:=aac (aaq hp n);have bU:=aac (aaq hy n);rw[List.length_take,Nat.min_eq_left (by omega)]at bP bU;rw[hP]at eP;rw[hU]at eU;have hv2:=(aai hy n).1;generalize (ps.getD (n+2) 0*4294967296+ps.getD (n+1) 0)*4294967296+ps.getD n 0=P3 at *
 have hU2:4294967296<=Y.getD (n+1) 0*4294967296+Y.getD n 0:=by omega
 generalize Y.getD (n+1) 0*4294967296+Y.getD n 0=U2 at *
 generalize val (ps.take n)=Pl at *
 generalize val (Y.take n)=Ul at *
 have hp1:=aag n;have hUp:4294967296*pw n<=pw n*U2:=by
  have:pw n*4294967296<=pw n*U2:=Int.mul_le_mul_of_nonneg_left hU2 (by omega);omega
 constructor
 ·rcases hB with hB|hB
  ·have:4294967296*U<=(g+1)*U:=Int.mul_le_mul_of_nonneg_right (by omega) (by omega);omega
  ·have e1:pw n*(P3+1)<=pw n*((g+1)*U2):=Int.mul_le_mul_of_nonneg_left (by omega) (by omega);have e2:(g+1)*U=(g+1)*Ul+pw n*((g+1)*U2):=by
    rw[eU,Int.mul_add,<-Int.mul_assoc (g+1) (pw n),Int.mul_comm (g+1) (pw n),Int.mul_assoc]
   have e3:0<=(g+1)*Ul:=Int.mul_nonneg (by omega) bU.1;rw[Int.mul_add]at e1;omega
 ·have e1:pw n*(g*U2)<=pw n*P3:=Int.mul_le_mul_of_nonneg_left hA (by omega);have e2:g*U=g*Ul+pw n*(g*U2):=by
   rw[eU,Int.mul_add,<-Int.mul_assoc g (pw n),Int.mul_comm g (pw n),Int.mul_assoc]
  have e3:g*Ul<=4294967295*Ul:=Int.mul_le_mul_of_nonneg_right (by omega) bU.1;rw[Int.sub_mul];omega
theorem ald{P U g A b p A2 c:Int}(_hU:0<U)(_hp:U<p)(hlow:P<(g+1)*U)(hhigh:(g-1)*U<=P)(hA:0<=A/\A<p)(_hb:0<=b/\b<=1)(h:A-p*b=P-g*U):
  (b=0->0<=A/\A<U/\P=g*U+A)/\(b=1->0<=A2/\A2<p->0<=c/\c<=1->A2+p*c=A+U->0<=A2/\A2<U/\P=(g-1)*U+A2):=by
 rw[Int.add_mul]at hlow;rw[Int.sub_mul]at hhigh ⊢;constructor
 ·intro hb0;rw[hb0,Int.mul_zero]at h;omega
 ·intro hb1 hA2 hc hs;rw[hb1,Int.mul_one]at h;have hc01:c=0\/c=1:=by omega
  rcases hc01 with hc0|hc0
  ·rw[hc0,Int.mul_zero]at hs;omega
  ·rw[hc0,Int.mul_one]at hs;omega
theorem a0j{W:List Int}{x U:Int}(hx:x<4294967296)(h:val W<U):val (x::W)<4294967296*U:=by
 rw[val];omega
theorem auc{lo W W' Q:List Int}{x q U T:Int}(hinv:val (lo ++ [x])+pw (lo.length+1)*val W+U*(pw (lo.length+1)*val Q)=T)(hp:val (x::W)=q*U+val W'):
  val lo+pw lo.length*val W'+U*(pw lo.length*val (q::Q))=T:=by
 rw[abq]at hinv;have e1:val [x]=x:=by simp[val]
 rw[e1]at hinv;rw[val]at hp ⊢;rw[pw]at hinv;generalize pw lo.length=p at *
 have e2:p*(x+4294967296*val W)=p*(q*U+val W'):=by rw[hp]
 have e3:4294967296*p*val W=p*(4294967296*val W):=by rw[Int.mul_comm 4294967296 p,Int.mul_assoc]
 have e4:U*(p*(q+4294967296*val Q))=p*(q*U)+U*(4294967296*p*val Q):=by
  rw[Int.mul_add,Int.mul_add,Int.mul_comm 4294967296 p,Int.mul_assoc p 4294967296,<-Int.mul_assoc U p q,Int.mul_comm U p,Int.mul_assoc p U q,Int.mul_comm U q]
 rw[Int.mul_add,Int.mul_add]at e2;omega
theorem amx{W:List Int}{n:Nat}(hW:Limb W)(hl:W.length=n+1)(h:val W<pw n):val (W.take n)=val W/\W.getD n 0=0:=by
 have e:=adv hl;have b:=aac (aaq hW n);have h0:=(aai hW n).1;have hp:=aag n;have hz:W.getD n 0=0:=by
  apply Classical.byContradiction;intro hn;have:pw n*1<=pw n*W.getD n 0:=Int.mul_le_mul_of_nonneg_left (by omega) (by omega);omega
 rw[hz,Int.mul_zero]at e;exact⟨by omega,hz⟩
end Lm
namespace Lm
open Go.RowKit
structure Wr2 (w w':World) (g h:Nat) (c d:Array Value) (e:TypeId):Prop where
 os:w'.os=w.os
 tape:w'.tape=w.tape
 output:w'.output=w.output
 size:w'.heap.size=w.heap.size
 here:w'.heap[g]? = some (.cells c e (0,0))
 there:w'.heap[h]? = some (.cells d e (0,0))
 other:∀k,k≠g->k≠h->w'.heap[k]? = w.heap[k]?
theorem Wr2.left{w w' w'':World}{g h:Nat}{c d c':Array Value}{e:TypeId}(H:Wr2 w w' g h c d e)(hn:h≠g)(K:Wr w' w'' g c' e):Wr2 w w'' g h c' d e:=
 ⟨K.os.trans H.os,K.tape.trans H.tape,K.output.trans H.output,K.size.trans H.size,K.here,(K.other h hn).trans H.there,fun k h1 h2=>(K.other k h1).trans (H.other k h1 h2)⟩
theorem Wr2.right{w w' w'':World}{g h:Nat}{c d d':Array Value}{e:TypeId}(H:Wr2 w w' g h c d e)(hn:g≠h)(K:Wr w' w'' h d' e):Wr2 w w'' g h c d' e:=
 ⟨K.os.trans H.os,K.tape.trans H.tape,K.output.trans H.output,K.size.trans H.size,(K.other g hn).trans H.here,K.here,fun k h1 h2=>(K.other k h2).trans (H.other k h1 h2)⟩
theorem Wr2.drewN{w w':World}{g h:Nat}{c d:Array Value}{e:TypeId}(H:Wr2 w w' g h c d e)(n:Nat):Wr2 w (w'.drewN n) g h c d e:=⟨H.os,H.tape,H.output,H.size,H.here,H.there,H.other⟩
theorem Wr2.below{w w':World}{g h:Nat}{c d:Array Value}{e:TypeId}(H:Wr2 w w' g h c d e){B:Nat}(h1:B<=g)(h2:B<=h):Below B w w':=
 ⟨H.os,H.tape,H.output,by rw[H.size];exact Nat.le_refl _,fun k hk=>H.other k (by omega) (by omega)⟩
theorem aiz{w:World}{g o n cap:Nat}{cur:Array Value}{zs:List Int}(hh:w.heap[g]? = some (.cells cur 86 (0,0)))(ha:At cur .u32 o zs)(hz:Limb zs)(hl:zs.length=n)(h1:n<=cap)(h2:cap<=maxLen):Sl w (.slice (some ⟨g,o,none⟩) n cap) zs:=
 ⟨_,cap,by rw[hl],by omega,h2,hz,.inr ⟨g,o,rfl,fun i hi=>ha.cell hh i hi⟩⟩
theorem At.take{cur:Array Value}{k:IntKind}{o:Nat}{zs:List Int}(h:At cur k o zs)(n:Nat):At cur k o (zs.take n):=by
 intro i hi;rw[List.length_take]at hi;rw[h i (by omega),List.getD_eq_getElem?_getD,List.getD_eq_getElem?_getD,List.getElem?_take,if_pos (by omega)]
structure Dv (w3 wr:World) (A q N m n:Nat) (U T:Int) (k:Nat) (lo W rest Q:List Int) (cur d:Array Value):Prop where
 two:Wr2 w3 wr A q cur d 86
 csz:cur.size=N+1
 dsz:d.size=m
 atc:At cur .u32 0 (lo++W++rest)
 atd:At d .u32 0 (List.replicate k 0++Q)
 lol:lo.length=k
 wl:W.length=n+2
 ql:k+Q.length=m
 lil:Limb lo
 liW:Limb W
 liQ:Limb Q
 low:val W<U
 inv:val lo+pw k*val W+U*(pw k*val Q)=T
theorem ar2{lo:List Int}{k:Nat}(h:lo.length=k+1):∃lo' x,lo=lo' ++ [x]/\lo'.length=k:=
 ⟨lo.take k,lo.getD k 0,by rw[<-abw lo k (by omega),List.take_of_length_le (by omega)],by rw[List.length_take];omega⟩
theorem Dv.mid{w3 wr:World}{A q N m n:Nat}{U T:Int}{k:Nat}{lo W rest Q:List Int}{x:Int}{cur d:Array Value}(D:Dv w3 wr A q N m n U T (k+1) (lo ++ [x]) W rest Q cur d)(hl:lo.length=k):At cur .u32 k (x::W)/\Limb (x::W):=by
 have h1:=D.atc;rw[show lo ++ [x]++W++rest=lo++(x::W)++rest by simp]at h1;have h2:=amf h1;rw[hl]at h2;have h3:=D.lil;rw[aaw]at h3;exact⟨h2,aan.2 ⟨(aan.1 h3.2).1,D.liW⟩⟩
theorem aud(k:Nat)(Q:List Int)(g:Int):(List.replicate (k+1) (0:Int)++Q).set k g=List.replicate k 0++g::Q:=by
 have h:=al6 (List.replicate (k+1) (0:Int)) Q k g (by simp);rw[List.take_of_length_le (by simp),List.take_replicate,Nat.min_eq_left (by omega)]at h;exact h
theorem Dv.step{w3 wr w5:World}{A q N m n:Nat}{U T:Int}{k:Nat}{lo W rest Q qs:List Int}{x g:Int}{cur d cur':Array Value}(D:Dv w3 wr A q N m n U T (k+1) (lo ++ [x]) W rest Q cur d)(hl:lo.length=k)(hn:A≠q)
  (two:Wr2 w3 w5 A q cur' d 86) (hcs:cur'.size=cur.size) (hat:At cur' .u32 k qs) (hout:∀i,i<k\/k+(n+2+1)<=i->cur'[i]? = cur[i]?) (hq:Limb qs) (hql:qs.length=n+2+1) (hU:U<=pw (n+2)) (hlt:val qs<U) (hv:val (x::W)=g*U+val qs) (hg:0<=g/\g<4294967296) :
  Dv w3 (w5.setCell ⟨q,k,none⟩ (.int .u32 g)) A q N m n U T k lo (qs.take (n+2)) (qs.drop (n+2)++rest) (g::Q) cur' (d.setIfInBounds k (.int .u32 g)):=by
 have htz:=amx hq hql (by omega);have h3:=D.lil;rw[aaw]at h3;have hinv:=D.inv;rw[<-hl]at hinv;have hat1:At cur .u32 0 (lo++(x::W)++rest):=by
  have:=D.atc;rwa[show lo ++ [x]++W++rest=lo++(x::W)++rest by simp]at this
 have hat2:=ala hat1 (by rw[hl];exact hat) (by have:=D.wl;simp;omega) (by
  have e:(x::W).length=n+2+1:=by have:=D.wl;simp;omega
  rw[hl,e];exact hout)
 refine⟨two.right hn ((Wr.refl two.there).set k _),by rw[hcs];exact D.csz,by simpa using D.dsz,?_,?_,hl,by rw[List.length_take];omega,by have:=D.ql;simp;omega,h3.1,aaq hq _,aan.2 ⟨hg,D.liQ⟩,by rw[htz.1];exact hlt,?_⟩
 ·rw[List.append_assoc,<-List.append_assoc (qs.take (n+2)),List.take_append_drop,<-List.append_assoc];exact hat2
 ·rw[<-aud];have:=D.atd.set k g;rwa[Nat.zero_add]at this
 ·rw[htz.1];have:=auc (W':=qs) (q:=g) hinv hv;rwa[hl]at this
theorem ar3{O:List Int}{m n:Nat}{P:Int}(hO:Limb O)(hm:m<=O.length)(hv:val O<pw m*(pw (n+1)*P)):val (O.drop m)<pw (n+1)*P:=by
 have h1:=abq (O.take m) (O.drop m);rw[List.take_append_drop,List.length_take,Nat.min_eq_left hm]at h1;have h2:=(aac (aaq hO m)).1;apply Classical.byContradiction;intro hn;have h3:pw m*(pw (n+1)*P)<=pw m*val (O.drop m):=Int.mul_le_mul_of_nonneg_left (by omega) (by have:=aag m;omega);omega
theorem axb{X Y Q W P:Int}(hP:0<P)(hY:0<Y)(h:W+Y*P*Q=X*P)(h0:0<=W)(h1:W<Y*P):X/Y=Q/\X%Y=W/P:=by
 have e1:W=(X-Q*Y)*P:=by
  have:Y*P*Q=Q*Y*P:=by rw[Int.mul_comm (Y*P),Int.mul_assoc]
  rw[Int.sub_mul];omega
 have e2:W/P=X-Q*Y:=by rw[e1];exact Int.mul_ediv_cancel _ (by omega)
 rw[e2];obtain⟨R,hR⟩:∃R,R=X-Q*Y:=⟨_,rfl⟩;rw[<-hR]at e1 ⊢;have hR0:0<=R:=by
  apply Classical.byContradiction;intro hn;have:R*P<=-1*P:=Int.mul_le_mul_of_nonneg_right (by omega) (by omega);omega
 have hR1:R<Y:=by
  apply Classical.byContradiction;intro hn;have:Y*P<=R*P:=Int.mul_le_mul_of_nonneg_right (by omega) (by omega);omega
 exact ae3 hY (by omega) hR0 hR1
theorem axc{v:Int}{n l s:Nat}(hb:IsBits v (32*(n+1)+l))(hl:0<l)(hs:s+l=32):v*p2 s<pw (n+2)/\pw (n+1)*2147483648<=v*p2 s:=by
 have hp:=ab2 s;obtain⟨h1,h2⟩:=hb;have h3:p2 (32*(n+1)+l-1)<=v:=by rcases h2 with h0|h0 <;> omega
 constructor
 ·have:v*p2 s<p2 (32*(n+1)+l)*p2 s:=Int.mul_lt_mul_of_pos_right h1 (by omega);rw[<-aci,show 32*(n+1)+l+s=32*(n+2) by omega,<-aem]at this;exact this
 ·have:p2 (32*(n+1)+l-1)*p2 s<=v*p2 s:=Int.mul_le_mul_of_nonneg_right h3 (by omega);rw[<-aci,show 32*(n+1)+l-1+s=32*(n+1)+31 by omega,aci,<-aem,show p2 31=2147483648 from by decide]at this;exact this
theorem axd{Y:List Int}{n:Nat}(hY:Limb Y)(hl:Y.length=n+2)(h:pw (n+1)*2147483648<=val Y):2147483648<=Y.getD (n+1) 0:=by
 have e:=adv (n:=n+1) hl;have b:=aac (aaq hY (n+1));rw[List.length_take,Nat.min_eq_left (by omega)]at b;apply Classical.byContradiction;intro hn;have:pw (n+1)*(Y.getD (n+1) 0+1)<=pw (n+1)*2147483648:=Int.mul_le_mul_of_nonneg_left (by omega) (by have:=aag (n+1);omega);rw[Int.mul_add]at this;omega
end Lm
namespace Lm
open Go.RowKit
theorem akc(w:World)(a1 a2:Option Addr)(n1 n2 c1 c2:Nat)(xs ys:List Int)(hx:Sl w (.slice a1 n1 c1) xs)(hy:Sl w (.slice a2 n2 c2) ys)(hm1:xs.length<=500000000)(h2:2<=ys.length)(hle:ys.length<=xs.length)(hcan:Canon ys):
  Calls Tryz.prog 127 #[.slice a1 n1 c1,.slice a2 n2 c2] w fun e w'=>∃v1 v2,e=.returned (.tuple #[v1,v2])/\Is w.heap.size w' v1 (val xs/val ys)/\Is w.heap.size w' v2 (val xs%val ys)/\Sep v1 v2/\Below w.heap.size w w':=by
 obtain⟨rfl,x1,x2,x3⟩:=hx.parts;obtain⟨hyl,y1,y2,y3⟩:=hy.parts;obtain⟨n,hn⟩:∃n,ys.length=n+2:=⟨ys.length-2,by omega⟩;have e2:n2=n+2:=by omega
 subst e2;obtain⟨b,off,rfl,hc⟩:=hy.cells (by omega);have hcell:=hc (n+1) (by omega);have hlb:=aai y3 (n+1);have hpos:0<ys.getD (n+1) 0:=by
  have:ys.getD (n+1) 0≠0:=fun h0=>by
   have:=ada (zs:=ys) (n:=n+1) (by have:=aa6 ys;omega) h0;have:=hcan.2;omega
  omega
 have hbits:=aij (ys.getD (n+1) 0).toNat (by omega);rw[Int.toNat_of_nonneg hlb.1]at hbits;have hl32:Lib.bitLen (ys.getD (n+1) 0).toNat<=32:=Lib.bitLen_le _ 32 (by omega) (by omega);have hl0:=agb hbits hpos;obtain⟨s,hs⟩:∃s:Nat,s+Lib.bitLen (ys.getD (n+1) 0).toNat=32:=⟨32-Lib.bitLen (ys.getD (n+1) 0).toNat,by omega⟩;have NV:=hide (axc (amc hcan hn hbits hpos) hl0 hs);have kl:Hid (∀w:World,Calls Tryz.prog 132 #[.int .u32 (ys.getD (n+1) 0)] w fun e w'=>e=.returned (.int .i64 (s:Nat))/\w'=w):=by
  intro w;have h9:=aw5 (ys.getD (n+1) 0) w hlb.1 hlb.2;rwa[show(32-((Lib.bitLen (ys.getD (n+1) 0).toNat:Nat):Int))=(s:Nat) by omega]at h9
 have hs31:s<=31:=by omega
 have YL:=hide (show pw (n+1)<=val ys by
  have h9:=acj hcan (by intro e;subst e;simp at h2)
  rwa[hn]at h9)
 have HN:=hide hn;have X3:=hide x3;have hxn:n+2<=xs.length:=by omega
 obtain⟨m,hm2,hm3⟩:∃m,m+n+1<=xs.length/\xs.length<=m+n+1:=⟨xs.length-(n+1),by omega,by omega⟩;generalize ys.getD (n+1) 0=top at hcell hlb hpos kl;obtain⟨i0,hi,hz0,hz1,hz2⟩:=info_parts acv;clear hs hl0 hl32 hbits hc y3 hyl hcan h2 hle hn x3;go_enter Tryz.func127,Tryz.ntmps127
 go_wp2_with fail
 refine(kl.out _).mono ?_;rintro e w' ⟨rfl,rfl⟩;go_wp2_with fail
 refine(ajm _ _ _ _ xs hx s hs31 (by omega)).mono ?_;rintro e w1 ⟨cur0,O,rfl,hO,hOl,hOv,hOh,hOs,hOa,hb1⟩;have hy1:=hy.below hb1;have O1:=hide hO;have O2:=hide hOl;have O3:=hide hOv;have O4:=hide hOh;have O5:=hide hOs;have O6:=hide hOa;clear hO hOl hOv hOh hOs hOa;go_wp2_with fail
 refine(ajm _ _ _ _ ys hy1 s hs31 (by have:=HN.out;omega)).mono ?_;rintro e w2 ⟨curY,Y1,rfl,hY,hYl,hYv,hYh,hYs,hYa,hb2⟩;have Q1:=hide hY;have Q2:=hide hYl;have Q3:=hide hYv;have Q4:=hide hYh;have Q5:=hide hYs;have Q6:=hide hYa;clear hY hYl hYv hYh hYs hYa;go_wp2_with (refine wpList_make_full _ rfl (.tmp 34) (.tmp 34) 43 rfl w2.heap.size 86 i0 (.int .u32 0) 1 Tryz.underlying43 hi hz0 hz1 .i64 .i64 _ _ m rfl rfl (by omega) (by omega) (by rw[hz2];omega) (by unfold maxLen;omega) (Nat.le_refl _) ?hK)
 case hK=>
  intro w3 hown hgrow;obtain⟨_,d0,hh,hds,hat⟩:=abt hown;have hb3:Below w2.heap.size w2 w3:=(Below.refl w2.heap.size w2).grown hgrow (Nat.le_refl _) (by simp);have s1:=aaa O4.out;have s2:=aaa Q4.out;have s3:=aaa hh;have hU:Hid (val (Y1.take (n+2))=val ys*p2 s/\(Y1.take (n+2)).length=n+2/\Limb (Y1.take (n+2))/\At curY .u32 0 (Y1.take (n+2))):=by
   have h9:=amx Q1.out Q2.out (by rw[Q3.out];exact NV.out.1);exact⟨by rw[h9.1,Q3.out],by rw[List.length_take,Q2.out];omega,aaq Q1.out _,Q6.out.take _⟩
  generalize Y1.take (n+2)=Y at hU;have htop:Hid (2147483648<=Y.getD (n+1) 0):=axd hU.out.2.2.1 hU.out.2.1 (by rw[hU.out.1];exact NV.out.2);have U3:Hid (w3.heap[w1.heap.size]? = some (.cells curY 86 (0,0))):=(hb3.block _ s2).trans Q4.out;have hne:w'.heap.size≠w2.heap.size:=by omega
  have hne2:w1.heap.size≠w2.heap.size:=by omega
  have hne3:w1.heap.size≠w'.heap.size:=by omega
  have hstart:Hid (Dv w3 w3 w'.heap.size w2.heap.size xs.length m n (val ys*p2 s) (val xs*p2 s) m (O.take m) (O.drop m) [] [] cur0 d0):=by
   have hp:=ab2 s;have e9:w3.heap[w'.heap.size]? = some (.cells cur0 86 (0,0)):=(hb3.block _ (by omega)).trans ((hb2.block _ s1).trans O4.out);refine⟨⟨rfl,rfl,rfl,rfl,e9,hh,fun _ _ _=>rfl⟩,O5.out,hds,?_,?_,?_,?_,by simp,aaq O1.out _,ak8 O1.out _,aak,?_,?_⟩
   ·rw[List.take_append_drop,List.append_nil];exact O6.out
   ·rw[List.append_nil];exact hat
   ·have:=O2.out;rw[List.length_take];omega
   ·have:=O2.out;rw[List.length_drop];omega
   ·have h8:val xs*p2 s<pw xs.length*p2 s:=Int.mul_lt_mul_of_pos_right (aac X3.out).2 (by omega);rw[show xs.length=m+(n+1) by omega,ab1,Int.mul_assoc]at h8;have h9:=ar3 (m:=m) (n:=n) (P:=p2 s) O1.out (by have:=O2.out;omega) (by rw[O3.out];exact h8);have h10:pw (n+1)*p2 s<=val ys*p2 s:=Int.mul_le_mul_of_nonneg_right YL.out (by omega);omega
   ·have h9:=abq (O.take m) (O.drop m);rw[List.take_append_drop,List.length_take,Nat.min_eq_left (by have:=O2.out;omega),O3.out]at h9;rw[h9];simp[val]
  clear hown hgrow hh hds hat;go_wp2;go_loopw [10] (fun i wr=>∃(k:Nat) (lo W rest Q:List Int) (cur d:Array Value),k<=m/\i=.int .i64 ((k:Int)-1)/\Dv w3 wr w'.heap.size w2.heap.size xs.length m n (val ys*p2 s) (val xs*p2 s) k lo W rest Q cur d) (fun i _=>(intOf i+1).toNat)
  case atStart=>exact⟨m,_,_,_,_,_,_,Nat.le_refl _,by first|rfl|(congr 1;omega),hstart.out⟩
  case round=>
   obtain⟨k,lo,W,rest,Q,cur,d,hk,rfl,hD⟩:=hrel;have D:=hide hD;clear hD;cases k with
   |zero=>
    have hlo:lo = []:=List.eq_nil_of_length_eq_zero D.out.lol;subst hlo;have hatQ:At d .u32 0 Q:=by simpa using D.out.atd
    have hatW:At cur .u32 0 W:=amf (A:=[]) D.out.atc;have hQm:Q.length=m:=by have:=D.out.ql;omega
    have hp:=ab2 s;have hend:val xs/val ys=val Q/\val xs%val ys=val W/p2 s:=by
     have h9:=D.out.inv;simp only[val,pw,Int.one_mul,Int.zero_add]at h9;have h8:=aag (n+1);exact axb (by omega) (by have:=YL.out;omega) h9 (aac D.out.liW).1 D.out.low
    have hbel:Below w'.heap.size w' wr:=hb1.trans ((hb2.mono hb1.size).trans ((hb3.mono (by omega)).trans (D.out.two.below (by omega) (by omega))));have how:Ow w'.heap.size wr (.slice (some ⟨w2.heap.size,0,none⟩) m m) Q:=
     ⟨_,m,by rw[hQm],by omega,by unfold maxLen;omega,D.out.liQ,.inr ⟨_,0,_,rfl,by omega,D.out.two.there,by rw[D.out.dsz];omega,hatQ⟩⟩
    have his:=hide (how.is_cut (x:=val xs/val ys) hend.1.symm);have hWs:Sl wr (.slice (some ⟨w'.heap.size,0,none⟩) (n+2) (xs.length+1)) W:=aiz D.out.two.here hatW D.out.liW D.out.wl (by omega) (by unfold maxLen;omega);have HE:=hide hend.2;have hWl:W.length<=1000000000:=by have:=D.out.wl;omega
    have ht:=aa6 Q;have htm:tl Q<=m:=by omega
    have HO:=hide how;clear hend hatQ hatW hQm how ht;go_wp2;go_region_with (first
     | (go_at_call 94;refine(aar _ _ _ _ Q (HO.out.sl.below (by repeat(first|exact Below.refl _ _|refine Below.drew ?_)))).mono ?_;rintro e wc ⟨rfl,rfl⟩)
     | (go_at_call 137;refine(amu _ _ _ _ W (hWs.below (by repeat(first|exact Below.refl _ _|refine Below.drew ?_))) s hs31 hWl).mono ?_;rintro e wd ⟨vd,rfl,hi,hbd⟩))
    all_goals
     have hbd':=(show Below wr.heap.size wr _ by repeat(first|exact Below.refl _ _|refine Below.drew ?_)).trans hbd;have his':=his.out.below hbd';have hi':=hi.mono (B':=wr.heap.size) (by first|exact Nat.le_refl _|simp);clear hbd hi;go_wp2;go_ret2
     obtain⟨q1,q2,q3,q4⟩:=his.out;obtain⟨s1,s2,s3,s4⟩:=hi';exact⟨_,_,rfl,his',⟨s1,s2.mono hbel.size,s3,by rw[s4,HE.out]⟩,atp q2 s2 (Nat.le_refl _),hbel.trans (hbd'.mono hbel.size)⟩
   |succ k=>
    obtain⟨lo',x,hlo,hll⟩:=ar2 D.out.lol;subst hlo;have LL:=hide hll;have MD:=hide (D.out.mid hll);clear hll;have hxW:(x::W).length=n+2+1:=by have:=D.out.wl;simp;omega
    have hPU:val (x::W)<4294967296*(val ys*p2 s):=a0j ((aan.1 MD.out.2).1.2) D.out.low;have e0:k+(n+2)+1-k=n+2+1:=by omega
    have hYsl:∀wq cq,Wr wr wq w'.heap.size cq 86->Sl wq (.slice (some ⟨w1.heap.size,0,none⟩) (n+2) (n+2+1)) Y:=by
     intro wq cq hq;refine aiz (cur:=curY) ?_ hU.out.2.2.2 hU.out.2.2.1 hU.out.2.1 (by omega) (by unfold maxLen;omega);rw[hq.other _ hne3,D.out.two.other _ hne3 hne2];exact U3.out
    have hup:(x::W).getD (n+2) 0<=Y.getD (n+1) 0:=by
     have h9:=a2q (n:=n+1) D.out.liW hU.out.2.2.1 D.out.wl hU.out.2.1 (by rw[hU.out.1];exact D.out.low);simpa using h9
    have kg:Hid (Calls Tryz.prog 134 #[.slice (some ⟨w'.heap.size,k,none⟩) (k+(n+2)+1-k) (xs.length+1-k),.slice (some ⟨w1.heap.size,0,none⟩) (n+2) (n+2+1)] wr fun e wz=>∃g:Int,e=.returned (.int .u32 g)/\(0<=g/\g<4294967296)/\(val (x::W)<(g+1)*(val ys*p2 s)/\(g-1)*(val ys*p2 s)<=val (x::W))/\∃q,wz=wr.drewN q):=by
     rw[e0];refine(aub wr _ _ n _ _ (x::W) Y (aiz D.out.two.here MD.out.1 MD.out.2 hxW (by omega) (by unfold maxLen;omega)) (hYsl _ _ (Wr.refl D.out.two.here)) htop.out hup).mono ?_;rintro e wq ⟨g,rfl,hg,hA,hB,hq⟩;exact⟨g,rfl,hg,ar1 MD.out.2 hU.out.2.2.1 hxW hU.out.2.1 rfl hU.out.1 (by have:=htop.out;omega) hPU hg hA hB,hq⟩
    have kt:Hid (∀q g,0<=g/\g<4294967296->Calls Tryz.prog 135 #[.slice (some ⟨w'.heap.size,k,none⟩) (k+(n+2)+1-k) (xs.length+1-k),.slice (some ⟨w1.heap.size,0,none⟩) (n+2) (n+2+1),.int .u32 g] (wr.drewN q) fun e wz=>∃qs b cur',e=.returned (.bool (b != 0))/\(0<=b/\b<=1)/\val qs-pw (n+2+1)*b=val (x::W)-g*val Y/\Limb qs/\qs.length=n+2+1/\Wr (wr.drewN q) wz w'.heap.size cur' 86/\cur'.size=cur.size/\At cur' .u32 k qs/\(∀i,i<k\/k+(n+2+1)<=i->cur'[i]? = cur[i]?)):=by
     intro q g hg;rw[e0];exact alz (wr.drewN q) _ k (n+2) _ _ cur (x::W) Y _ g hg (D.out.two.drewN q).here MD.out.1 MD.out.2 hxW (by omega) (fun wq cq hq=>hYsl wq cq ⟨hq.os,hq.tape,hq.output,hq.size,hq.here,hq.other⟩)
    have kb:Hid (∀(wq:World) (cq:Array Value) (ps:List Int),Wr wr wq w'.heap.size cq 86->At cq .u32 k ps->Limb ps->ps.length=n+2+1->Calls Tryz.prog 136 #[.slice (some ⟨w'.heap.size,k,none⟩) (k+(n+2)+1-k) (xs.length+1-k),.slice (some ⟨w1.heap.size,0,none⟩) (n+2) (n+2+1)] wq fun e wz=>∃qs c cur',e=.returned (.tuple #[])/\(0<=c/\c<=1)/\val qs+pw (n+2+1)*c=val ps+val Y/\Limb qs/\qs.length=n+2+1/\Wr wq wz w'.heap.size cur' 86/\cur'.size=cq.size/\At cur' .u32 k qs/\(∀i,i<k\/k+(n+2+1)<=i->cur'[i]? = cq[i]?)):=by
     intro wq cq ps hq ha hp hl;rw[e0];exact aoy wq _ k (n+2) _ _ cq ps Y _ hq.here ha hp hl (by omega) (fun wz cz hz=>hYsl wz cz (hq.trans hz))
    clear hxW hPU e0 hYsl hup;go_wp2_with fail
    refine(kg.out).mono ?_;rintro e w4 ⟨g,rfl,hg,hnear,q1,rfl⟩;have NR:=hide hnear;clear hnear;go_wp2_with fail
    refine(kt.out q1 g hg).mono ?_;rintro e w5 ⟨qs,bo,cur',rfl,hbo,hv,hq,hql,hwr,hcs,hat,hout⟩;have V1:=hide hv;have V2:=hide hq;have V3:=hide hql;have V4:=hide hwr;have V5:=hide hcs;have V6:=hide hat;have V7:=hide hout;clear hv hq hql hwr hcs hat hout;have hqb:Hid (0<=val qs/\val qs<pw (n+2+1)):=by
     have h9:=aac V2.out;rwa[V3.out]at h9
    have hU0:Hid (0<val ys*p2 s/\val ys*p2 s<pw (n+2+1)/\val ys*p2 s<=pw (n+2)):=by
     have h9:=NV.out;have h8:=aap (m:=n+2) (n:=n+2+1) (by omega);have h7:=aag (n+1);exact⟨by omega,by omega,by omega⟩
    have V8:Hid (val qs-pw (n+2+1)*bo=val (x::W)-g*(val ys*p2 s)):=by rw[<-hU.out.1];exact V1.out
    by_cases hb0:bo=0
    ·have two:=hide ((D.out.two.drewN q1).left hne.symm V4.out);have near:=(ald (A2:=0) (c:=0) hU0.out.1 hU0.out.2.1 NR.out.1 NR.out.2 hqb.out hbo V8.out).1 hb0;have ST:=hide (D.out.step LL.out hne two.out V5.out V6.out V7.out V2.out V3.out hU0.out.2.2 near.2.1 near.2.2 hg);have hcq:=D.out.atd.cell two.out.there k (by have:=D.out.ql;simp;omega);rw[Nat.zero_add]at hcq;generalize (List.replicate (k+1) (0:Int)++Q).getD k 0=old at hcq;have hfree:=(Wr.refl two.out.there).free k;clear near;subst hb0;go_wp2;go_roundw
     case rel=>exact⟨k,_,_,_,_,_,_,by omega,by first|rfl|go_num,ST.out⟩
     case measure=>simp[intOf]
    ·have hb1':bo=1:=by omega
     subst hb1';have hg1:1<=g:=by
      apply Classical.byContradiction;intro hn;have h9:=V8.out;have h8:=hqb.out;have h7:=(aac MD.out.2).1;rw[show g=0 by omega,Int.zero_mul,Int.mul_one]at h9;omega
     have KB:=hide (kb.out w5 cur' qs ⟨V4.out.os,V4.out.tape,V4.out.output,V4.out.size,V4.out.here,V4.out.other⟩ V6.out V2.out V3.out);go_wp2_with fail
     refine(KB.out).mono ?_;rintro e w6 ⟨q2,c,cur2,rfl,hc,hv,hq,hql,hwr,hcs,hat,hout⟩;have hq2:0<=val q2/\val q2<pw (n+2+1):=by
      have h9:=aac hq;rwa[hql]at h9
     have two:=hide (((D.out.two.drewN q1).left hne.symm V4.out).left hne.symm hwr);have near:=(ald (A2:=val q2) (c:=c) hU0.out.1 hU0.out.2.1 NR.out.1 NR.out.2 hqb.out hbo V8.out).2 rfl hq2 hc (by rw[<-hU.out.1];exact hv);have ST:=hide (D.out.step LL.out hne two.out (hcs.trans V5.out) hat (fun i hi=>(hout i hi).trans (V7.out i hi)) hq hql hU0.out.2.2 near.2.1 near.2.2 (by omega));have hcq:=D.out.atd.cell two.out.there k (by have:=D.out.ql;simp;omega);rw[Nat.zero_add]at hcq;generalize (List.replicate (k+1) (0:Int)++Q).getD k 0=old at hcq;have hfree:=(Wr.refl two.out.there).free k;clear near hq2 hv hq hql hwr hcs hat hout;go_wp2;go_roundw
     case rel=>exact⟨k,_,_,_,_,_,_,by omega,by first|rfl|go_num,ST.out⟩
     case measure=>simp[intOf]
end Lm
namespace Lm
open Go.RowKit
theorem ao0(w:World)(a1 a2:Option Addr)(n1 n2 c1 c2:Nat)(xs ys:List Int)(hx:Sl w (.slice a1 n1 c1) xs)(hy:Sl w (.slice a2 n2 c2) ys)(hm1:xs.length<=500000000)(hle:tl ys<=tl xs)(h2:2<=tl ys):
  Calls Tryz.prog 113 #[.slice a1 n1 c1,.slice a2 n2 c2] w fun e w'=>∃v1 v2,e=.returned (.tuple #[v1,v2,.bool true])/\Is w.heap.size w' v1 (val xs/val ys)/\Is w.heap.size w' v2 (val xs%val ys)/\Sep v1 v2/\Below w.heap.size w w':=by
 obtain⟨rfl,h1,_,h3⟩:=hx.parts;obtain⟨rfl,g1,_,g3⟩:=hy.parts;have t1:=aa6 xs;have t2:=aa6 ys;have kd:=akc w a1 a2 (tl xs) (tl ys) c1 c2 _ _ hx.cut hy.cut (by rw[List.length_take];omega) (by rw[List.length_take];omega) (by rw[List.length_take,List.length_take];omega) (abj g3);rw[aaj,aaj]at kd;have KD:=hide kd;clear kd h3 g3;have hne:(((tl ys:Nat):Int)==0)=false:=by simp;omega
 have hne1:(((tl ys:Nat):Int)==1)=false:=by simp;omega
 go_enter Tryz.func113,Tryz.ntmps113
 go_wp2_with fail
 refine(aar w a1 _ c1 xs hx).mono ?_;rintro e w' ⟨rfl,rfl⟩;go_wp2_with fail
 refine(aar _ a2 _ c2 ys hy).mono ?_;rintro e w' ⟨rfl,rfl⟩;go_wp2_with fail
 refine(KD.out).mono ?_;rintro e w1 ⟨v1,v2,rfl,hi1,hi2,hsep,hb⟩;go_wp2;go_ret3
 exact⟨_,_,rfl,hi1,hi2,hsep,hb⟩
theorem agi(w:World)(a1 a2:Option Addr)(n1 n2 c1 c2:Nat)(xs ys:List Int)(hx:Sl w (.slice a1 n1 c1) xs)(hy:Sl w (.slice a2 n2 c2) ys)(hm1:xs.length<=500000000)(h0:val ys≠0):
  Calls Tryz.prog 113 #[.slice a1 n1 c1,.slice a2 n2 c2] w fun e w'=>∃v1 v2,e=.returned (.tuple #[v1,v2,.bool true])/\Is w.heap.size w' v1 (val xs/val ys)/\Is w.heap.size w' v2 (val xs%val ys)/\Sep v1 v2/\Below w.heap.size w w':=by
 have hz:0<tl ys:=by
  apply Classical.byContradiction;intro hn;exact h0 (ahv (by omega))
 by_cases h1:tl xs<tl ys
 ·exact aow w a1 a2 n1 n2 c1 c2 xs ys hx hy (by omega) h1
 ·by_cases h2:tl ys=1
  ·exact amb w a1 a2 n1 n2 c1 c2 xs ys hx hy (by omega) (by omega) h2
  ·exact ao0 w a1 a2 n1 n2 c1 c2 xs ys hx hy hm1 (by omega) (by omega)
theorem afp(w:World)(a1 a2:Option Addr)(n1 n2 c1 c2:Nat)(xs ys:List Int)(hx:Sl w (.slice a1 n1 c1) xs)(hy:Sl w (.slice a2 n2 c2) ys)(h0:val ys=0):
  Calls Tryz.prog 113 #[.slice a1 n1 c1,.slice a2 n2 c2] w fun e w'=>e=.returned (.tuple #[.slice none 0 0,.slice none 0 0,.bool false])/\Below w.heap.size w w':=by
 refine aou w a1 a2 n1 n2 c1 c2 xs ys hx hy ?_;apply Classical.byContradiction;intro hn;have:=arq hy.parts.2.2.2 (by omega);omega
theorem agj(w:World)(a1 a2:Option Addr)(n1 n2 c1 c2:Nat)(xs ys:List Int)(hx:Sl w (.slice a1 n1 c1) xs)(hy:Sl w (.slice a2 n2 c2) ys)(hm1:xs.length<=500000000)(h0:val ys≠0):
  Calls Tryz.prog 113 #[.slice a1 n1 c1,.slice a2 n2 c2] w fun e w'=>∃ao cap rs bo dap ss,e=.returned (.tuple #[.slice ao rs.length cap,.slice bo ss.length dap,.bool true])/\Got w' ao cap rs (val xs/val ys)/\Got w' bo dap ss (val xs%val ys)/\rs.length<=xs.length/\ss.length<=ys.length/\Below w.heap.size w w':=by
 refine(agi w a1 a2 n1 n2 c1 c2 xs ys hx hy hm1 h0).mono ?_;rintro e w' ⟨v1,v2,rfl,hi1,hi2,_,hb⟩;obtain⟨ao,cap,rs,rfl,hg1⟩:=hi1.got;obtain⟨bo,dap,ss,rfl,hg2⟩:=hi2.got;have bx:=aac hx.parts.2.2.2;have by':=aac hy.parts.2.2.2;refine⟨ao,cap,rs,bo,dap,ss,rfl,hg1,hg2,ace hx.parts.2.2.2 hg1.canon ?_,ace hy.parts.2.2.2 hg2.canon ?_,hb⟩
 ·rw[hg1.val];exact Int.ediv_le_self _ bx.1
 ·rw[hg2.val];have:=Int.emod_lt_of_pos (val xs) (show 0<val ys by omega);omega
end Lm
namespace Lm
open Go.RowKit
theorem ajn(w:World)(nx:Bool)(vx:Value)(ny:Bool)(vy:Value):∃w0:World,(((w.alloc (.cells #[.bool nx,vx] 45)).alloc (.cells #[.bool ny,vy] 45)).alloc (.cells #[.bool false,.slice none 0 0] 45)).alloc (.cells #[.bool false,.slice none 0 0] 45)=w0/\Box w0 w.heap.size nx vx/\Box w0 (w.heap.size+1) ny vy/\Box w0 (w.heap.size+1+1) false (.slice none 0 0)/\Box w0 (w.heap.size+1+1+1) false (.slice none 0 0)/\Below w.heap.size w w0/\w0.heap.size=w.heap.size+4:=by
 obtain⟨w2,e2,b1,b2,b3,hb,hs⟩:=ae4 w nx vx ny vy;have h2:=boxed w2 false (.slice none 0 0);rw[e2];refine⟨_,rfl,b1.below h2.2.1,b2.below h2.2.1,b3.below h2.2.1,?_,hb.trans (h2.2.1.mono (by omega)),by rw[h2.2.2,hs]⟩;have h3:=h2.1;rw[hs]at h3;exact h3
theorem akd(ny:Bool)(X Y:Int):X/sg ny Y=sg ny (X/Y)/\X%sg ny Y=X%Y:=by
 cases ny <;> simp[sg,Int.ediv_neg,Int.emod_neg]
theorem ajo{X Y:Int}(hY:0<Y):(X%Y=0->-X/Y = -(X/Y)/\-X%Y=0)/\(X%Y≠0->-X/Y = -(X/Y+1)/\-X%Y=Y-X%Y):=by
 have h1:=Int.mul_ediv_add_emod X Y;have h2:=Int.emod_nonneg X (show Y≠0 by omega);have h3:=Int.emod_lt_of_pos X hY;constructor
 ·intro h0;refine ae3 hY ?_ (Int.le_refl 0) hY;rw[Int.neg_mul,Int.mul_comm (X/Y)];omega
 ·intro h0;refine ae3 hY ?_ (by omega) (by omega);rw[Int.neg_mul,Int.add_mul,Int.mul_comm (X/Y)];omega
theorem Box.other{w:World}{g h:Nat}{ng:Bool}{v:Value}(H:Box w g ng v)(hn:g≠h)(b u:Value):Box ((w.setCell ⟨h,0,none⟩ b).setCell ⟨h,1,none⟩ u) g ng v:=
 (heap_setCell_other _ ⟨h,1,none⟩ g u hn).trans ((heap_setCell_other w ⟨h,0,none⟩ g b hn).trans H)
theorem ah2{w:World}{g h:Nat}{n1 n2 nq nr:Bool}{v1 v2 vq vr:Value}(H1:Box w g n1 v1)(H2:Box w h n2 v2)(hn:g≠h):Box ((((w.setCell ⟨g,0,none⟩ (.bool nq)).setCell ⟨g,1,none⟩ vq).setCell ⟨h,0,none⟩ (.bool nr)).setCell ⟨h,1,none⟩ vr) g nq vq/\Box ((((w.setCell ⟨g,0,none⟩ (.bool nq)).setCell ⟨g,1,none⟩ vq).setCell ⟨h,0,none⟩ (.bool nr)).setCell ⟨h,1,none⟩ vr) h nr vr:=
 ⟨(H1.set nq vq).other hn _ _,(H2.other (Ne.symm hn) _ _).set nr vr⟩
theorem amy(ny:Bool)(X Y:Int):sg (false != ny) (X/Y)=sg false X/sg ny Y/\sg false (X%Y)=sg false X%sg ny Y:=by
 have h:=akd ny (sg false X) Y;rw[h.1,h.2];cases ny <;> simp[sg]
theorem aue(nx ny:Bool){X Y:Int}(hY:0<Y)(h0:X%Y=0):sg (nx != ny) (X/Y)=sg nx X/sg ny Y/\sg false (X%Y)=sg nx X%sg ny Y:=by
 cases nx with
 |false=>exact amy ny X Y
 |true=>
  have h:=akd ny (sg true X) Y;have h2:=(ajo (X:=X) hY).1 h0;rw[h.1,h.2,h0];cases ny <;> simp[sg,h2]
theorem axe(ny:Bool){X Y:Int}(hY:0<Y)(h0:X%Y≠0):sg (true != ny) (X/Y+1)=sg true X/sg ny Y/\sg false (Y-X%Y)=sg true X%sg ny Y:=by
 have h:=akd ny (sg true X) Y;have h2:=(ajo (X:=X) hY).2 h0;rw[h.1,h.2];cases ny <;> simp[sg,h2]
theorem amz(w:World)(nx:Bool)(a1:Option Addr)(n1 c1:Nat)(xs:List Int)(hx:Sl w (.slice a1 n1 c1) xs)(ny:Bool)(a2:Option Addr)(n2 c2:Nat)(ys:List Int)(hy:Sl w (.slice a2 n2 c2) ys)(h0:val ys=0):
  Calls Tryz.prog 120 #[.agg #[.bool nx,.slice a1 n1 c1],.agg #[.bool ny,.slice a2 n2 c2]] w fun e w'=>e=.returned (.tuple #[.agg #[.bool false,.slice none 0 0],.agg #[.bool false,.slice none 0 0],.bool false])/\Below w.heap.size w w':=by
 obtain⟨w0,e0,bx,by',bq,br,hb0,hs0⟩:=ajn w nx (.slice a1 n1 c1) ny (.slice a2 n2 c2);have E0:=hide e0;have hx0:=hx.below hb0;have hy0:=hy.below hb0;clear e0 hs0;have H0:=hide h0;clear h0;go_enter Tryz.func120,Tryz.ntmps120
 go_wp2_with fail
 rw[E0.out];obtain⟨ca,cb,cc,cd⟩:=bx.facts;obtain⟨ea,eb,ec,ed⟩:=by'.facts;refine(afp _ _ _ _ _ _ _ xs ys hx0 hy0 H0.out).mono ?_;rintro e w1 ⟨rfl,hb1⟩;have Z:=hide (hb0.trans (hb1.mono hb0.size));obtain⟨qa,qb,qc,qd⟩:=(bq.below hb1).facts;obtain⟨ra,rb,rc,rd⟩:=(br.below hb1).facts;have F:=hide (ah2 (nq:=false) (vq:=.slice none 0 0) (nr:=false) (vr:=.slice none 0 0) (bq.below hb1) (br.below hb1) (by omega));have Z2:=hide (aam (aam Z.out (show w.heap.size<=w.heap.size+1+1 by omega) (.bool false) (.slice none 0 0)) (show w.heap.size<=w.heap.size+1+1+1 by omega) (.bool false) (.slice none 0 0));go_wp2;refine bodyPost_ret (v:=.tuple #[.agg #[.bool false,.slice none 0 0],.agg #[.bool false,.slice none 0 0],.bool false]) ?_ rfl ⟨rfl,Z2.out⟩;simp[results,Tryz.results120,go_sem,F.out.1.facts.1,F.out.1.facts.2.1,F.out.2.facts.1,F.out.2.facts.2.1]
end Lm
namespace Lm
open Go.RowKit
theorem auf{zs:List Int}(hz:Limb zs)(i:Nat):∃t:Int,val zs/pw i=(zs.getD (i+1) 0*4294967296+zs.getD i 0)+18446744073709551616*t:=by
 have h0:val zs/pw i=val (zs.drop i):=by
  by_cases hi:i<=zs.length
  ·have e:=abq (zs.take i) (zs.drop i);rw[List.take_append_drop,List.length_take,Nat.min_eq_left hi]at e;have b:=aac (aaq hz i);rw[List.length_take,Nat.min_eq_left hi]at b;exact(ae3 (a:=val zs) (b:=pw i) (by have:=aag i;omega) (by rw[e,Int.mul_comm];omega) b.1 b.2).1
  ·rw[List.drop_of_length_le (by omega)];have b:=aac hz;have hm:=aap (m:=zs.length) (n:=i) (by omega);exact Int.ediv_eq_zero_of_lt b.1 (by omega)
 refine⟨val (zs.drop (i+2)),?_⟩;rw[h0];by_cases h1:i<zs.length
 ·rw[adf zs i h1,val];by_cases h2:i+1<zs.length
  ·rw[adf zs (i+1) h2,val,show i+2=i+1+1 from rfl];omega
  ·have e1:zs.drop (i+1) = []:=List.drop_of_length_le (by omega);have e2:zs.drop (i+2) = []:=List.drop_of_length_le (by omega);have e3:zs.getD (i+1) 0=0:=by rw[List.getD_eq_getElem?_getD,List.getElem?_eq_none (by omega)];rfl
   rw[e1,e2,e3];simp[val]
 ·have e1:zs.drop i = []:=List.drop_of_length_le (by omega);have e2:zs.drop (i+2) = []:=List.drop_of_length_le (by omega);have e3:zs.getD (i+1) 0=0:=by rw[List.getD_eq_getElem?_getD,List.getElem?_eq_none (by omega)];rfl
  have e4:zs.getD i 0=0:=by rw[List.getD_eq_getElem?_getD,List.getElem?_eq_none (by omega)];rfl
  rw[e1,e2,e3,e4];simp[val]
theorem a2r{x:Int}(h0:0<=x)(h1:x<4294967296):bits .and .u32 x 1073741823=x%1073741824:=by
 rw[u32_and _ _ h0 h1 (by omega) (by omega)];have:(1073741823:Int).toNat=2 ^ 30-1:=by decide
 rw[this,Nat.and_two_pow_sub_one_eq_mod];omega
theorem ar4{V r t:Int}{s:Nat}(hs:s<=31)(hV:V=r+18446744073709551616*t):r/p2 s%4294967296%1073741824=V/p2 s%1073741824:=by
 have hp:=ab2 s;have e1:(18446744073709551616:Int)=p2 s*(1073741824*p2 (34-s)):=by
  have h9:p2 s*(p2 30*p2 (34-s))=p2 64:=by rw[<-aci,<-aci,show s+(30+(34-s))=64 by omega]
  rw[show p2 30=1073741824 from by decide,show p2 64=18446744073709551616 from by decide]at h9;exact h9.symm
 have e2:V/p2 s=r/p2 s+1073741824*(p2 (34-s)*t):=by
  rw[hV,e1,Int.mul_assoc,Int.add_mul_ediv_left _ _ (by omega),Int.mul_assoc]
 rw[e2,Int.add_mul_emod_self_left];omega
theorem ajp(w:World)(ao:Option Addr)(n cap:Nat)(zs:List Int)(h:Sl w (.slice ao n cap) zs)(low:Nat)(hlow:low<=100000000000):
  Calls Tryz.prog 130 #[.slice ao n cap,.int .i64 low] w fun e w'=>e=.returned (.int .u32 (val zs/p2 low%1073741824))/\w'=w:=by
 obtain⟨rfl,x1,x2,x3⟩:=h.parts;obtain⟨i,hi⟩:∃i,i=low/32:=⟨_,rfl⟩;obtain⟨s,hs⟩:∃s,s=low%32:=⟨_,rfl⟩;have e1:(low:Int)/32=(i:Nat):=by omega
 have e2:(low:Int)%32=(s:Nat):=by omega
 have hs31:s<=31:=by omega
 have hib:i<=100000000000:=by omega
 have HPL:Hid (p2 low=pw i*p2 s):=by
  show _=_;rw[aem,<-aci];congr 1;omega
 have bA:=aai x3 i;have bC:=aai x3 (i+1);obtain⟨t,ht⟩:=auf x3 i;have k1:Hid (∀w':World,Sl w' (.slice ao zs.length cap) zs->Calls Tryz.prog 128 #[.slice ao zs.length cap,.int .i64 ((i:Int)+1)] w' fun e w''=>e=.returned (.int .u32 (zs.getD (i+1) 0))/\w''=w'):=by
  intro w' h';have h9:=aiv w' _ zs h' ((i:Int)+1) (by omega);rwa[show((i:Int)+1).toNat=i+1 by omega]at h9
 have k2:Hid (∀w':World,Sl w' (.slice ao zs.length cap) zs->Calls Tryz.prog 128 #[.slice ao zs.length cap,.int .i64 (i:Int)] w' fun e w''=>e=.returned (.int .u32 (zs.getD i 0))/\w''=w'):=fun w' h'=>aca w' _ zs h' i
 have HT:=hide ht;generalize zs.getD (i+1) 0=C at bC k1 HT;generalize zs.getD i 0=A at bA k2 HT;have hor:=aet C A bC.1 bC.2 bA.1 bA.2;obtain⟨M,hM⟩:∃M,M=C*4294967296+A:=⟨_,rfl⟩;rw[<-hM]at hor HT;have hM0:0<=M:=by omega
 have hM1:M<18446744073709551616:=by omega
 have hpw:=amr s;have hp1:=ab2 s;have hd0:0<=M/p2 s:=Int.ediv_nonneg hM0 (by omega);have hmk:bits .and .u32 (M/p2 s%4294967296) 1073741823=M/p2 s%4294967296%1073741824:=a2r (by omega) (by omega);have HV:Hid (M/p2 s%1073741824=val zs/p2 low%1073741824):=by
  have h9:=ar4 hs31 HT.out;rw[Int.ediv_ediv_of_nonneg (by have:=aag i;omega),<-HPL.out]at h9;show _=_;omega
 clear x3 ht hM hi hs;go_enter Tryz.func130,Tryz.ntmps130
 go_wp2_with fail
 refine(k1.out _ h).mono ?_;rintro e w1 ⟨rfl,rfl⟩;go_wp2_with fail
 refine(k2.out _ h).mono ?_;rintro e w1 ⟨rfl,rfl⟩;go_wp2;go_ret;exact⟨by rw[<-HV.out];rfl,rfl⟩
end Lm
namespace Lm
open Go.RowKit
theorem a0k{xs ys os:List Int}{k:Nat}{p q x y c s:Int}(hk:os.length=k)(hx:xs.getD k 0=x)(hy:ys.getD k 0=y)(hs:s=p*x+q*y+c)(h:val os+pw k*c=p*vf xs k+q*vf ys k):
  val (os ++ [s%4294967296])+pw (k+1)*(s/4294967296)=p*vf xs (k+1)+q*vf ys (k+1):=by
 rw[ab9,vf,vf,hx,hy,hk,pw];have e:s=s%4294967296+4294967296*(s/4294967296):=by omega
 have e2:pw k*(s%4294967296)+4294967296*pw k*(s/4294967296)=pw k*s:=by
  rw[Int.mul_comm 4294967296 (pw k),Int.mul_assoc,<-Int.mul_add,<-e]
 have e3:p*(pw k*x)=pw k*(p*x):=by rw[<-Int.mul_assoc,Int.mul_comm p,Int.mul_assoc]
 have e4:q*(pw k*y)=pw k*(q*y):=by rw[<-Int.mul_assoc,Int.mul_comm q,Int.mul_assoc]
 rw[Int.add_assoc,e2,hs,Int.mul_add,Int.mul_add,Int.mul_add,Int.mul_add,e3,e4];omega
theorem afk{p x:Int}(hp : -1073741824<=p/\p<=1073741824)(hx:0<=x/\x<4294967296): -4611686018427387904<=p*x/\p*x<=4611686018427387904:=by
 have h1:p*x<=1073741824*x:=Int.mul_le_mul_of_nonneg_right hp.2 hx.1;have h2 : -1073741824*x<=p*x:=Int.mul_le_mul_of_nonneg_right hp.1 hx.1;omega
theorem a0l{p q x y:Int}(hp : -1073741824<=p/\p<=1073741824)(hq : -1073741824<=q/\q<=1073741824)(hs:(0<=p/\q<=0)\/(p<=0/\0<=q))(hx:0<=x/\x<4294967296)(hy:0<=y/\y<4294967296): -4611686018427387904<=p*x+q*y/\p*x+q*y<=4611686018427387904:=by
 have b1:=afk hp hx;have b2:=afk hq hy;rcases hs with⟨h1,h2⟩|⟨h1,h2⟩
 ·have p1:0<=p*x:=Int.mul_nonneg h1 hx.1;have p2:0<=(-q)*y:=Int.mul_nonneg (by omega) hy.1;rw[Int.neg_mul]at p2;omega
 ·have p1:0<=(-p)*x:=Int.mul_nonneg (by omega) hx.1;have p2:0<=q*y:=Int.mul_nonneg h2 hy.1;rw[Int.neg_mul]at p1;omega
theorem ain(w:World)(a1 a2:Option Addr)(n1 n2 c1 c2:Nat)(xs ys:List Int)(hx:Sl w (.slice a1 n1 c1) xs)(hy:Sl w (.slice a2 n2 c2) ys)(hm:xs.length<=1000000000)(hl:ys.length<=xs.length)(p q:Int)(hp : -1073741824<=p/\p<=1073741824)(hq : -1073741824<=q/\q<=1073741824)(hs:(0<=p/\q<=0)\/(p<=0/\0<=q))(h0:0<=p*val xs+q*val ys)(h1:p*val xs+q*val ys<pw xs.length):
  Calls Tryz.prog 131 #[.int .i64 p,.slice a1 n1 c1,.int .i64 q,.slice a2 n2 c2] w fun e w'=>∃v,e=.returned v/\Is w.heap.size w' v (p*val xs+q*val ys)/\Below w.heap.size w w':=by
 obtain⟨rfl,x1,x2,x3⟩:=hx.parts;obtain⟨rfl,y1,y2,y3⟩:=hy.parts;obtain⟨i0,hi,hz0,hz1,hz2⟩:=info_parts acv;have X3:=hide x3;have Y3:=hide y3;have H0:=hide h0;have H1:=hide h1;have HP:=hide hp;have HQ:=hide hq;have HS:=hide hs;clear x3 y3 h0 h1 hp hq hs;go_enter Tryz.func131,Tryz.ntmps131
 go_wp2_with (refine wpList_make_full _ rfl (.tmp 14) (.tmp 14) 43 rfl w.heap.size 86 i0 (.int .u32 0) 1 Tryz.underlying43 hi hz0 hz1 .i64 .i64 _ _ xs.length rfl rfl (by omega) (by omega) (by rw[hz2];omega) (by unfold maxLen;omega) (Nat.le_refl _) ?hK)
 case hK=>
  intro w1 hown hgrow;obtain⟨_,cur,hh,hcs,hat⟩:=abt hown;have hb1:Below w.heap.size w w1:=(Below.refl w.heap.size w).grown hgrow (Nat.le_refl _) (by simp);have HH:=hide hh;have HC0:=hide hcs;have HA:=hide hat;clear hown hgrow hh hcs hat;go_wp2;go_loopw [10,18] (fun cv i wr=>∃(k:Nat) (c:Int) (os:List Int) (cur':Array Value),k<=xs.length/\cv=.int .i64 c/\i=.int .i64 k/\(-1073741826<=c/\c<=1073741826)/\os.length=k/\Limb os/\val os+pw k*c=p*vf xs k+q*vf ys k/\Wr w1 wr w.heap.size cur' 86/\cur'.size=xs.length/\At cur' .u32 0 (os++(List.replicate xs.length 0).drop k)) (fun _ i _=>xs.length-(intOf i).toNat)
  case atStart=>exact⟨0,0,[],cur,Nat.zero_le _,rfl,rfl,by omega,rfl,aak,by simp[val,vf,pw],Wr.refl HH.out,HC0.out,by simpa using HA.out⟩
  case round=>
   obtain⟨k,c,os,cur',hk,rfl,rfl,hc,hol,ho,hval,hwr,hcs,hat⟩:=hrel;have HOL:=hide hol;have HO:=hide ho;have HV:=hide hval;have HW:=hide hwr;have HC:=hide hcs;have HT:=hide hat;clear hol ho hval hwr hcs hat;by_cases hlt:k<xs.length
   ·have sx:=HW.out.sl (Nat.le_refl _) hb1 rfl hx;have sy:=HW.out.sl (Nat.le_refl _) hb1 rfl hy;obtain⟨b,off,rfl,hcx⟩:=sx.cells (by omega);have cx:=hcx k (by omega);have bx:=aai X3.out k;have by':=aai Y3.out k;obtain⟨x,hxk⟩:∃x,xs.getD k 0=x:=⟨_,rfl⟩;obtain⟨y,hyk⟩:∃y,ys.getD k 0=y:=⟨_,rfl⟩;have ky:Hid (∀n,Calls Tryz.prog 128 #[.slice a2 ys.length c2,.int .i64 k] (wr.drewN n) fun e w'=>e=.returned (.int .u32 y)/\w'=wr.drewN n):=by
     intro n;rw[<-hyk];exact aca _ _ ys (sy.below (below_drewN (Below.refl _ _) n)) k
    rw[hxk]at cx bx;rw[hyk]at by';have hpx:=afk HP.out bx;have hqy:=afk HQ.out by';have htw:=a0l HP.out HQ.out HS.out bx by';obtain⟨P,hP⟩:∃P,P=p*x:=⟨_,rfl⟩;obtain⟨R,hR⟩:∃R,R=q*y:=⟨_,rfl⟩;have HV':=hide (a0k (p:=p) (q:=q) HOL.out hxk hyk rfl HV.out);rw[<-hP]at hpx htw HV';rw[<-hR]at hqy htw HV';have ep:p*x=P:=hP.symm;have er:q*y=R:=hR.symm;have hlen:(os++(List.replicate xs.length (0:Int)).drop k).length=xs.length:=by have:=HOL.out;simp;omega
    have hcell:=HT.out.cell HW.out.here k (by rw[hlen];omega);rw[Nat.zero_add]at hcell;generalize (os++(List.replicate xs.length (0:Int)).drop k).getD k 0=old at hcell;have hfree:=HW.out.free k;have HT':=hide (HT.out.set k ((P+R+c)%4294967296));have HW':=hide (HW.out.set k (.int .u32 ((P+R+c)%4294967296)));clear hlen sx sy hcx hxk hyk hP hR;go_wp2;go_quiet ((go_at_call 128;exact Calls.quiet_of_same (ky.out _)))
    go_wp2;go_roundw
    case rel=>exact⟨k+1,(P+R+c)/4294967296,os ++ [(P+R+c)%4294967296],_,by omega,rfl,by go_num,by omega,by have:=HOL.out;simp;omega,aaw.2 ⟨HO.out,aan.2 ⟨by omega,aak⟩⟩,HV'.out,HW'.out.drewN _,by simpa using HC.out,by rw[<-abx os _ k _ HOL.out (by simp;omega)];simpa using HT'.out⟩
    case measure=>simp[intOf];omega
   ·have hkn:k=xs.length:=by omega
    subst hkn;have hat2:=HT.out;rw[List.drop_of_length_le (by simp),List.append_nil]at hat2;have how:Ow w.heap.size wr (.slice (some ⟨w.heap.size,0,none⟩) xs.length xs.length) os:=by
     have:=HOL.out;exact⟨_,xs.length,by rw[this],by omega,by unfold maxLen;omega,HO.out,.inr ⟨_,0,_,rfl,Nat.le_refl _,HW.out.here,by rw[HC.out];omega,hat2⟩⟩
    have hbel:Below w.heap.size w wr:=hb1.trans (HW.out.below (Nat.le_refl _));have hfin:val os=p*val xs+q*val ys:=by
     have hv:=HV.out;rw[abu xs _ (Nat.le_refl _),abu ys _ hl]at hv;have hb:=aac HO.out;rw[HOL.out]at hb;have h0:=H0.out;have h1:=H1.out;have hp:=aag xs.length;have hc0:c=0:=by
      rcases Int.lt_trichotomy c 0 with h|h|h
      ·have:pw xs.length*c<=pw xs.length*(-1):=Int.mul_le_mul_of_nonneg_left (by omega) (by omega);omega
      ·exact h
      ·have:pw xs.length*1<=pw xs.length*c:=Int.mul_le_mul_of_nonneg_left (by omega) (by omega);omega
     rw[hc0,Int.mul_zero,Int.add_zero]at hv;exact hv
    have his:=how.is_cut hfin;clear hat2 hfin;go_wp2_with fail
    refine(aar _ _ _ _ _ how.sl).mono ?_;rintro e w2 ⟨rfl,rfl⟩;go_wp2;go_ret;exact⟨_,rfl,his,hbel⟩
structure Lh (x0 y0 X Y a b c d x y:Int):Prop where
 ex:x=a*x0+b*y0
 ey:y=c*x0+d*y0
 sig:(0<=a/\b<=0/\c<=0/\0<=d/\d*x-b*y=x0/\a*y-c*x=y0)\/(a<=0/\0<=b/\0<=c/\d<=0/\b*y-d*x=x0/\c*x-a*y=y0)
 xa:0<=x+a
 xb:0<=x+b
 yc:0<=y+c
 yd:0<=y+d
 x1:1<=x
 y0':0<=y
 ba : -1073741824<=a/\a<=1073741824
 bb : -1073741824<=b/\b<=1073741824
 bc : -1073741824<=c/\c<=1073741824
 bd : -1073741824<=d/\d<=1073741824
 bx:x<1073741824
 by':y<1073741824
 le:c*X+d*Y<=a*X+b*Y
 nn:0<=c*X+d*Y
 top:a*X+b*Y<=X
 low:c*X+d*Y<=Y
 bz:b≠0->c*X+d*Y<Y
 gcd:Int.gcd (a*X+b*Y) (c*X+d*Y)=Int.gcd X Y
theorem agk{x0 y0 X Y L a b x:Int}(hX:x0*L<=X)(hX2:X<=(x0+1)*L)(hY:y0*L<=Y)(hY2:Y<=(y0+1)*L)(ex:x=a*x0+b*y0)(ha:0<=a)(hb:b<=0):
  (x+b)*L<=a*X+b*Y/\a*X+b*Y<=(x+a)*L:=by
 have e1:a*(x0*L)<=a*X:=Int.mul_le_mul_of_nonneg_left hX ha;have e2:a*X<=a*((x0+1)*L):=Int.mul_le_mul_of_nonneg_left hX2 ha;have e3:(-b)*(y0*L)<=(-b)*Y:=Int.mul_le_mul_of_nonneg_left hY (by omega);have e4:(-b)*Y<=(-b)*((y0+1)*L):=Int.mul_le_mul_of_nonneg_left hY2 (by omega);rw[Int.add_mul,Int.one_mul,Int.mul_add]at e2 e4;rw[Int.neg_mul,Int.neg_mul]at e3;rw[Int.neg_mul,Int.neg_mul,Int.neg_mul]at e4;rw[ex,Int.add_mul,Int.add_mul,Int.add_mul,Int.add_mul,Int.mul_assoc,Int.mul_assoc];constructor <;> omega
theorem aio{x0 y0 X Y L a b x:Int}(hX:x0*L<=X)(hX2:X<=(x0+1)*L)(hY:y0*L<=Y)(hY2:Y<=(y0+1)*L)(ex:x=a*x0+b*y0)(ha:a<=0)(hb:0<=b):
  (x+a)*L<=a*X+b*Y/\a*X+b*Y<=(x+b)*L:=by
 have h:=agk hY hY2 hX hX2 (a:=b) (b:=a) (x:=x) (by omega) hb ha;constructor <;> omega
theorem afy{L X1 Y1 q u v s t:Int}(hL:0<L)(hu:X1<=u*L)(hv:v*L<=X1)(hs:s*L<=Y1)(ht:Y1<=t*L)(h1:q*t<=v)(h2:u<(q+1)*s)(hq:0<=q):q*Y1<=X1/\X1<(q+1)*Y1:=by
 constructor
 ·have e1:q*Y1<=q*(t*L):=Int.mul_le_mul_of_nonneg_left ht hq;have e2:q*t*L<=v*L:=Int.mul_le_mul_of_nonneg_right h1 (by omega);rw[Int.mul_assoc]at e2;omega
 ·have e1:(q+1)*(s*L)<=(q+1)*Y1:=Int.mul_le_mul_of_nonneg_left hs (by omega);have e2:(u+1)*L<=(q+1)*s*L:=Int.mul_le_mul_of_nonneg_right (by omega) (by omega);rw[Int.mul_assoc,Int.add_mul,Int.one_mul]at e2;omega
theorem ai0(X Y q:Int):Int.gcd Y (X-q*Y)=Int.gcd X Y:=by
 apply Nat.dvd_antisymm
 ·apply Int.dvd_gcd
  ·have h1:=Int.gcd_dvd_left Y (X-q*Y);have h2:=Int.gcd_dvd_right Y (X-q*Y);have h4:=Int.dvd_add h2 (Int.dvd_mul_of_dvd_right (b:=q) h1);have h3:(X-q*Y)+q*Y=X:=by omega
   rw[h3]at h4;exact h4
  ·exact Int.gcd_dvd_left _ _
 ·apply Int.dvd_gcd
  ·exact Int.gcd_dvd_right _ _
  ·exact Int.dvd_sub (Int.gcd_dvd_left _ _) (Int.dvd_mul_of_dvd_right (Int.gcd_dvd_right _ _))
theorem afl{c y x0:Int}(hy:1<=y)(hc:0<=c)(h:c*y<=x0):c<=x0:=by
 have:c*1<=c*y:=Int.mul_le_mul_of_nonneg_left hy hc;omega
theorem Lh.step{x0 y0 X Y L a b c d x y q:Int}(H:Lh x0 y0 X Y a b c d x y)(hL:0<L)(hX:x0*L<=X)(hX2:X<=(x0+1)*L)(hY:y0*L<=Y)(hY2:Y<=(y0+1)*L)(hx0:x0<1073741824)(hy0:y0<1073741824)
  (hc:0<y+c) (hd:0<y+d) (q1:q*(y+c)<=x+a) (q2:x+a<(q+1)*(y+c)) (q3:q*(y+d)<=x+b) (q4:x+b<(q+1)*(y+d)) (hq:0<=q) :
  Lh x0 y0 X Y c d (a-q*c) (b-q*d) y (x-q*y):=by
 have hqy:0<=q*y:=Int.mul_nonneg hq H.y0';have m1:q*(y+c)=q*y+q*c:=Int.mul_add _ _ _;have m2:q*(y+d)=q*y+q*d:=Int.mul_add _ _ _;have eXY:(a-q*c)*X+(b-q*d)*Y=(a*X+b*Y)-q*(c*X+d*Y):=by
  rw[Int.sub_mul,Int.sub_mul,Int.mul_add,Int.mul_assoc,Int.mul_assoc];omega
 have ey':x-q*y=(a-q*c)*x0+(b-q*d)*y0:=by
  rw[Int.sub_mul,Int.sub_mul,Int.mul_assoc,Int.mul_assoc,H.ex,H.ey,Int.mul_add];omega
 have n1:d*(x-q*y)=d*x-q*d*y:=by rw[Int.mul_sub,<-Int.mul_assoc,Int.mul_comm d q]
 have n2:(b-q*d)*y=b*y-q*d*y:=Int.sub_mul _ _ _;have n3:c*(x-q*y)=c*x-q*c*y:=by rw[Int.mul_sub,<-Int.mul_assoc,Int.mul_comm c q]
 have n4:(a-q*c)*y=a*y-q*c*y:=Int.sub_mul _ _ _;have key:q*(c*X+d*Y)<=a*X+b*Y/\a*X+b*Y<(q+1)*(c*X+d*Y):=by
  rcases H.sig with⟨s1,s2,s3,s4,_,_⟩|⟨s1,s2,s3,s4,_,_⟩
  ·have b1:=agk hX hX2 hY hY2 H.ex s1 s2;have b2:=aio hX hX2 hY hY2 H.ey s3 s4;exact afy hL b1.2 b1.1 b2.1 b2.2 q3 q2 hq
  ·have b1:=aio hX hX2 hY hY2 H.ex s1 s2;have b2:=agk hX hX2 hY hY2 H.ey s3 s4;exact afy hL b1.2 b1.1 b2.1 b2.2 q1 q4 hq
 have key2:(q+1)*(c*X+d*Y)=q*(c*X+d*Y)+(c*X+d*Y):=by rw[Int.add_mul,Int.one_mul]
 have hle:=H.le;have hnn:=H.nn;have htop:=H.top;have hlow:=H.low;have hg:=ai0 (a*X+b*Y) (c*X+d*Y) q;rw[H.gcd,<-eXY]at hg;have hsig:((0<=c/\d<=0/\a-q*c<=0/\0<=b-q*d/\(b-q*d)*y-d*(x-q*y)=x0/\c*(x-q*y)-(a-q*c)*y=y0)\/(c<=0/\0<=d/\0<=a-q*c/\b-q*d<=0/\d*(x-q*y)-(b-q*d)*y=x0/\(a-q*c)*y-c*(x-q*y)=y0))/\1<=y/\0<=x-q*y:=by
  rcases H.sig with⟨s1,s2,s3,s4,s5,s6⟩|⟨s1,s2,s3,s4,s5,s6⟩
  ·have p1:q*c<=0:=by
    have:q*c<=q*0:=Int.mul_le_mul_of_nonneg_left s3 hq;omega
   have p2:0<=q*d:=Int.mul_nonneg hq s4;exact⟨.inr ⟨s3,s4,by omega,by omega,by omega,by omega⟩,by omega,by omega⟩
  ·have p1:0<=q*c:=Int.mul_nonneg hq s3;have p2:q*d<=0:=by
    have:q*d<=q*0:=Int.mul_le_mul_of_nonneg_left s4 hq;omega
   exact⟨.inl ⟨s3,s4,by omega,by omega,by omega,by omega⟩,by omega,by omega⟩
 obtain⟨hsg,hy1,hyy⟩:=hsig;have hbnd:(-1073741824<=a-q*c/\a-q*c<=1073741824)/\(-1073741824<=b-q*d/\b-q*d<=1073741824):=by
  rcases hsg with⟨s1,s2,s3,s4,s5,s6⟩|⟨s1,s2,s3,s4,s5,s6⟩
  ·have p1:0<=c*(x-q*y):=Int.mul_nonneg s1 hyy;have p2:0<=(-d)*(x-q*y):=Int.mul_nonneg (by omega) hyy;rw[Int.neg_mul]at p2;have f1:=afl (c:=-(a-q*c)) (x0:=y0) hy1 (by omega) (by rw[Int.neg_mul];omega);have f2:=afl (c:=b-q*d) (x0:=x0) hy1 (by omega) (by omega);omega
  ·have p1:0<=(-c)*(x-q*y):=Int.mul_nonneg (by omega) hyy;have p2:0<=d*(x-q*y):=Int.mul_nonneg s2 hyy;rw[Int.neg_mul]at p1;have f1:=afl (c:=a-q*c) (x0:=y0) hy1 (by omega) (by omega);have f2:=afl (c:=-(b-q*d)) (x0:=x0) hy1 (by omega) (by rw[Int.neg_mul];omega);omega
 refine⟨H.ey,ey',?_,H.yc,H.yd,by omega,by omega,hy1,hyy,H.bc,H.bd,hbnd.1,hbnd.2,H.by',?_,?_,?_,?_,?_,?_,hg⟩
 ·rcases hsg with h|h
  ·exact .inl ⟨h.1,h.2.1,h.2.2.1,h.2.2.2.1,h.2.2.2.2.1,h.2.2.2.2.2⟩
  ·exact .inr ⟨h.1,h.2.1,h.2.2.1,h.2.2.2.1,h.2.2.2.2.1,h.2.2.2.2.2⟩
 ·have:=H.bx;omega
 ·rw[eXY];omega
 ·rw[eXY];omega
 ·omega
 ·rw[eXY];omega
 ·intro _;rw[eXY];omega
theorem Lh.start{x0 y0 X Y:Int}(h1:1<=x0)(h2:0<=y0)(h3:x0<1073741824)(h4:y0<1073741824)(hY:0<=Y)(hle:Y<=X):Lh x0 y0 X Y 1 0 0 1 x0 y0:=by
 refine⟨by omega,by omega,.inl ⟨by omega,by omega,by omega,by omega,by omega,by omega⟩,by omega,by omega,by omega,by omega,h1,h2,by omega,by omega,by omega,by omega,h3,h4,by omega,by omega,by omega,by omega,fun h=>absurd rfl h,?_⟩;rw[Int.one_mul,Int.zero_mul,Int.zero_mul,Int.one_mul,Int.add_zero,Int.zero_add]
end Lm
namespace Lm
open Go.RowKit
def Fac(w:World)(g:Nat)(a b c d:Int):Prop:=w.heap[g]? = some (.cells #[.int .i64 a,.int .i64 b,.int .i64 c,.int .i64 d] 158 (0,0))
theorem Fac.facts{w:World}{g:Nat}{a b c d:Int}(h:Fac w g a b c d):(w.cell? ⟨g,0,none⟩=some (.int .i64 a)/\w.cell? ⟨g,1,none⟩=some (.int .i64 b)/\w.cell? ⟨g,2,none⟩=some (.int .i64 c)/\w.cell? ⟨g,3,none⟩=some (.int .i64 d))/\(w.frozen? ⟨g,0,none⟩=false/\w.frozen? ⟨g,1,none⟩=false/\w.frozen? ⟨g,2,none⟩=false/\w.frozen? ⟨g,3,none⟩=false):=
 ⟨⟨by rw[cell_of_row _ _ _ _ _ (0,0) h];rfl,by rw[cell_of_row _ _ _ _ _ (0,0) h];rfl,by rw[cell_of_row _ _ _ _ _ (0,0) h];rfl,by rw[cell_of_row _ _ _ _ _ (0,0) h];rfl⟩,frozen_of_row _ _ _ _ _ h,frozen_of_row _ _ _ _ _ h,frozen_of_row _ _ _ _ _ h,frozen_of_row _ _ _ _ _ h⟩
theorem ah3{u s:Int}(hs:0<s):u/s*s<=u/\u<(u/s+1)*s:=by
 have h1:=Int.mul_ediv_add_emod u s;have h2:=Int.emod_nonneg u (show s≠0 by omega);have h3:=Int.emod_lt_of_pos u hs;rw[Int.add_mul,Int.one_mul,Int.mul_comm (u/s) s];omega
theorem ale{u s:Int}(hu:0<=u)(hs:0<s):0<=u/s/\u/s<=u:=⟨Int.ediv_nonneg hu (by omega),Int.ediv_le_self _ hu⟩
theorem Lh.less{x0 y0 X Y a b c d x y q:Int}(H:Lh x0 y0 X Y a b c d x y)(hq:0<=q)(q2:x+a<(q+1)*(y+c))(q4:x+b<(q+1)*(y+d)):x-q*y<y/\q*y<=q*y:=by
 have m1:(q+1)*(y+c)=q*y+q*c+(y+c):=by rw[Int.add_mul,Int.one_mul,Int.mul_add]
 have m2:(q+1)*(y+d)=q*y+q*d+(y+d):=by rw[Int.add_mul,Int.one_mul,Int.mul_add]
 rcases H.sig with⟨s1,s2,s3,s4,_,_⟩|⟨s1,s2,s3,s4,_,_⟩
 ·have p1:q*c<=0:=by
   have:q*c<=q*0:=Int.mul_le_mul_of_nonneg_left s3 hq;omega
  omega
 ·have p2:q*d<=0:=by
   have:q*d<=q*0:=Int.mul_le_mul_of_nonneg_left s4 hq;omega
  omega
theorem Fac.set{w:World}{g:Nat}{a b c d:Int}(h:Fac w g a b c d)(a' b' c' d':Int):Fac ((((w.setCell ⟨g,0,none⟩ (.int .i64 a')).setCell ⟨g,1,none⟩ (.int .i64 b')).setCell ⟨g,2,none⟩ (.int .i64 c')).setCell ⟨g,3,none⟩ (.int .i64 d')) g a' b' c' d':=by
 have h1:=heap_setCell_same w g 0 _ _ (.int .i64 a') h;have h2:=heap_setCell_same _ g 1 _ _ (.int .i64 b') h1;have h3:=heap_setCell_same _ g 2 _ _ (.int .i64 c') h2;have h4:=heap_setCell_same _ g 3 _ _ (.int .i64 d') h3;exact h4
theorem Fac.other{w:World}{g k:Nat}{a b c d:Int}(H:Fac w g a b c d)(hn:g≠k)(a' b' c' d':Value):Fac ((((w.setCell ⟨k,0,none⟩ a').setCell ⟨k,1,none⟩ b').setCell ⟨k,2,none⟩ c').setCell ⟨k,3,none⟩ d') g a b c d:=
 (heap_setCell_other _ ⟨k,3,none⟩ g d' hn).trans ((heap_setCell_other _ ⟨k,2,none⟩ g c' hn).trans ((heap_setCell_other _ ⟨k,1,none⟩ g b' hn).trans ((heap_setCell_other w ⟨k,0,none⟩ g a' hn).trans H)))
theorem aen{B:Nat}{w w1:World}{g:Nat}(hb:Below B w w1)(hg:B<=g)(a b c d:Value):Below B w ((((w1.setCell ⟨g,0,none⟩ a).setCell ⟨g,1,none⟩ b).setCell ⟨g,2,none⟩ c).setCell ⟨g,3,none⟩ d):=(((hb.setCell hg _).setCell hg _).setCell hg _).setCell hg _
theorem al0(w:World)(x0 y0 X Y L:Int)(h1:1<=x0)(h2:0<=y0)(h3:x0<1073741824)(h4:y0<1073741824)(hY0:0<=Y)(hle:Y<=X)(hL:0<L)(hX:x0*L<=X)(hX2:X<=(x0+1)*L)(hY:y0*L<=Y)(hY2:Y<=(y0+1)*L):
  Calls Tryz.prog 129 #[.int .i64 x0,.int .i64 y0] w fun e w'=>∃a b c d x y,e=.returned (.agg #[.int .i64 a,.int .i64 b,.int .i64 c,.int .i64 d])/\Lh x0 y0 X Y a b c d x y/\Below w.heap.size w w':=by
 have ST:=hide (Lh.start h1 h2 h3 h4 hY0 hle);have e0:∃w0:World,(w.alloc (.cells #[.int .i64 0,.int .i64 0,.int .i64 0,.int .i64 0] 158)).alloc (.cells #[.int .i64 1,.int .i64 0,.int .i64 0,.int .i64 1] 158)=w0/\Fac w0 w.heap.size 0 0 0 0/\Fac w0 (w.heap.size+1) 1 0 0 1/\Below w.heap.size w w0:=by
  have h1:=heap_alloc_new w (.cells #[.int .i64 0,.int .i64 0,.int .i64 0,.int .i64 0] 158);have b1:Below w.heap.size w (w.alloc (.cells #[.int .i64 0,.int .i64 0,.int .i64 0,.int .i64 0] 158)):=(Below.refl _ _).alloc (Nat.le_refl _) _;have h2:=heap_alloc_new (w.alloc (.cells #[.int .i64 0,.int .i64 0,.int .i64 0,.int .i64 0] 158)) (.cells #[.int .i64 1,.int .i64 0,.int .i64 0,.int .i64 1] 158);have b2:Below (w.alloc (.cells #[.int .i64 0,.int .i64 0,.int .i64 0,.int .i64 0] 158)).heap.size (w.alloc (.cells #[.int .i64 0,.int .i64 0,.int .i64 0,.int .i64 0] 158)) ((w.alloc (.cells #[.int .i64 0,.int .i64 0,.int .i64 0,.int .i64 0] 158)).alloc (.cells #[.int .i64 1,.int .i64 0,.int .i64 0,.int .i64 1] 158)):=(Below.refl _ _).alloc (Nat.le_refl _) _;refine⟨_,rfl,(b2.block _ (by simp)).trans h1,?_,b1.trans (b2.mono b1.size)⟩;have h3:=h2;rw[World.size_alloc]at h3;exact h3
 obtain⟨w0,e0,hR0,hF0,hb0⟩:=e0;have E0:=hide e0;clear e0;go_enter Tryz.func129,Tryz.ntmps129
 go_wp2;rw[E0.out];go_loopw [0,1] (fun xv yv wr=>∃a b c d x y:Int,xv=.int .i64 x/\yv=.int .i64 y/\Lh x0 y0 X Y a b c d x y/\Fac wr (w.heap.size+1) a b c d/\Fac wr w.heap.size 0 0 0 0/\Below w.heap.size w wr) (fun _ yv _=>(intOf yv).toNat)
 case atStart=>exact⟨1,0,0,1,x0,y0,rfl,rfl,ST.out,hF0,hR0,hb0⟩
 case round=>
  obtain⟨a,b,c,d,x,y,rfl,rfl,hD,hF,hR,HB⟩:=hrel;have D:=hide hD;have ba:=hD.ba;have bb:=hD.bb;have bc:=hD.bc;have bd:=hD.bd;have bx:=hD.bx;have by':=hD.by';have x1:=hD.x1;have y1:=hD.y0';have pxa:=hD.xa;have pxb:=hD.xb;have pyc:=hD.yc;have pyd:=hD.yd;clear hD;by_cases hc:y+c=0
  ·have hcb:((y+c) != 0)=false:=by simp[hc]
   have HC:=hide hc;clear hc;obtain⟨⟨fa,fb,fc,fd⟩,_⟩:=hF.facts;obtain⟨⟨ra,rb,rc,rd⟩,re,rf,rg,rh⟩:=hR.facts;have XF:=hide (hR.set a b c d).facts.1;have Z:=hide (aen HB (Nat.le_refl _) (.int .i64 a) (.int .i64 b) (.int .i64 c) (.int .i64 d));go_wp2;refine bodyPost_ret (v:=.agg #[.int .i64 a,.int .i64 b,.int .i64 c,.int .i64 d]) ?_ rfl ⟨a,b,c,d,x,y,rfl,D.out,Z.out⟩;simp[results,Tryz.results129,go_sem,XF.out.1,XF.out.2.1,XF.out.2.2.1,XF.out.2.2.2]
  ·have hcb:((y+c) != 0)=true:=by simp[hc]
   have hcp:0<y+c:=by omega
   clear hc;by_cases hd:y+d=0
   ·have hdb:((y+d) != 0)=false:=by simp[hd]
    have HD:=hide hd;clear hd;obtain⟨⟨fa,fb,fc,fd⟩,_⟩:=hF.facts;obtain⟨⟨ra,rb,rc,rd⟩,re,rf,rg,rh⟩:=hR.facts;have XF:=hide (hR.set a b c d).facts.1;have Z:=hide (aen HB (Nat.le_refl _) (.int .i64 a) (.int .i64 b) (.int .i64 c) (.int .i64 d));go_wp2;refine bodyPost_ret (v:=.agg #[.int .i64 a,.int .i64 b,.int .i64 c,.int .i64 d]) ?_ rfl ⟨a,b,c,d,x,y,rfl,D.out,Z.out⟩;simp[results,Tryz.results129,go_sem,XF.out.1,XF.out.2.1,XF.out.2.2.1,XF.out.2.2.2]
   ·have hdb:((y+d) != 0)=true:=by simp[hd]
    have hdp:0<y+d:=by omega
    clear hd;have f1:=ah3 (u:=x+a) hcp;have f2:=ah3 (u:=x+b) hdp;have g1:=ale pxa hcp;have g2:=ale pxb hdp;have t1:(x+a).tdiv (y+c)=(x+a)/(y+c):=Int.tdiv_eq_ediv_of_nonneg pxa;have t2:(x+b).tdiv (y+d)=(x+b)/(y+d):=Int.tdiv_eq_ediv_of_nonneg pxb;obtain⟨q,hq⟩:∃q,(x+a)/(y+c)=q:=⟨_,rfl⟩;obtain⟨q',hq'⟩:∃q,(x+b)/(y+d)=q:=⟨_,rfl⟩;rw[hq]at f1 g1 t1;rw[hq']at f2 g2 t2;clear hq hq';by_cases hqq:q=q'
    ·subst hqq;have ST':=hide (D.out.step hL hX hX2 hY hY2 h3 h4 hcp hdp f1.1 f1.2 f2.1 f2.2 g1.1);have LS:=(D.out.less g1.1 f1.2 f2.2).1;have bc':=ST'.out.bc;have bd':=ST'.out.bd;have by2:=ST'.out.y0';obtain⟨P1,hP1⟩:∃P,q*c=P:=⟨_,rfl⟩;obtain⟨P2,hP2⟩:∃P,q*d=P:=⟨_,rfl⟩;obtain⟨P3,hP3⟩:∃P,q*y=P:=⟨_,rfl⟩;rw[hP1]at ST' bc';rw[hP2]at ST' bd';rw[hP3]at ST' LS by2;obtain⟨⟨fa,fb,fc,fd⟩,fe,ff,fg,fh⟩:=hF.facts;have HF':=hide (hF.set c d (a-P1) (b-P2));have HR':=hide (hR.other (show w.heap.size≠w.heap.size+1 by omega) (.int .i64 c) (.int .i64 d) (.int .i64 (a-P1)) (.int .i64 (b-P2)));have HB':=hide (aen HB (Nat.le_succ _) (.int .i64 c) (.int .i64 d) (.int .i64 (a-P1)) (.int .i64 (b-P2)));have p3:0<=P3:=by rw[<-hP3];exact Int.mul_nonneg g1.1 y1
     clear f1 f2;go_wp2;go_roundw
     case rel=>exact⟨c,d,a-P1,b-P2,y,x-P3,rfl,rfl,ST'.out,HF'.out,HR'.out,HB'.out⟩
     case measure=>simp[intOf];omega
    ·have hqb:(q != q')=true:=by simp[hqq]
     clear f1 f2;obtain⟨⟨fa,fb,fc,fd⟩,_⟩:=hF.facts;obtain⟨⟨ra,rb,rc,rd⟩,re,rf,rg,rh⟩:=hR.facts;have XF:=hide (hR.set a b c d).facts.1;have Z:=hide (aen HB (Nat.le_refl _) (.int .i64 a) (.int .i64 b) (.int .i64 c) (.int .i64 d));go_wp2;refine bodyPost_ret (v:=.agg #[.int .i64 a,.int .i64 b,.int .i64 c,.int .i64 d]) ?_ rfl ⟨a,b,c,d,x,y,rfl,D.out,Z.out⟩;simp[results,Tryz.results129,go_sem,XF.out.1,XF.out.2.1,XF.out.2.2.1,XF.out.2.2.2]
end Lm
namespace Lm
open Go.RowKit
theorem Fac.below{w w':World}{g:Nat}{a b c d:Int}(h:Fac w g a b c d)(hb:Below w.heap.size w w'):Fac w' g a b c d:=(hb.block g (aaa h)).trans h
theorem acm{w w' w'':World}(h:Below w.heap.size w w')(h2:Below w'.heap.size w' w''):Below w.heap.size w w'':=h.trans (h2.mono h.size)
theorem aug{X Y:Int}{l m:Nat}(hX:IsBits X l)(hl:l=m+30)(hY0:0<=Y)(hle:Y<=X):
  X/p2 m%1073741824=X/p2 m/\Y/p2 m%1073741824=Y/p2 m/\1<=X/p2 m/\0<=Y/p2 m/\X/p2 m<1073741824/\Y/p2 m<1073741824/\X/p2 m*p2 m<=X/\X<=(X/p2 m+1)*p2 m/\Y/p2 m*p2 m<=Y/\Y<=(Y/p2 m+1)*p2 m:=by
 have hp:=ab2 m;have hlow:p2 (l-1)<=X:=by rcases hX.2 with h|h <;> omega
 have h29:p2 (l-1)=p2 m*p2 29:=by rw[<-aci];congr 1;omega
 have h30:p2 l=p2 m*p2 30:=by rw[<-aci,hl]
 rw[show p2 29=536870912 from by decide]at h29;rw[show p2 30=1073741824 from by decide]at h30;have hX1:=hX.1;have fx:=ah3 (u:=X) (s:=p2 m) (by omega);have fy:=ah3 (u:=Y) (s:=p2 m) (by omega);have x0:0<=X/p2 m:=Int.ediv_nonneg (by omega) (by omega);have y0:0<=Y/p2 m:=Int.ediv_nonneg hY0 (by omega);have xl:X/p2 m<1073741824:=Int.ediv_lt_of_lt_mul (by omega) (by rw[Int.mul_comm];omega);have yl:Y/p2 m<1073741824:=Int.ediv_lt_of_lt_mul (by omega) (by rw[Int.mul_comm];omega);have x1:1<=X/p2 m:=by
  apply Int.le_ediv_of_mul_le (by omega);omega
 refine⟨Int.emod_eq_of_lt x0 xl,Int.emod_eq_of_lt y0 yl,x1,y0,xl,yl,fx.1,by omega,fy.1,by omega⟩
theorem ajq(w:World)(B:Nat)(hB:B<=w.heap.size)(a1 a2:Option Addr)(c1 c2:Nat)(xs ys:List Int)(hx:Ow B w (.slice a1 xs.length c1) xs)(hy:Ow B w (.slice a2 ys.length c2) ys)(hcy:Canon ys)(hm:xs.length<=400000000)(h3:2<ys.length)(hle:val ys<=val xs):
  Calls Tryz.prog 121 #[.slice a1 xs.length c1,.slice a2 ys.length c2] w fun e w'=>∃v1 v2 X' Y',e=.returned (.tuple #[v1,v2])/\Is B w' v1 X'/\Is B w' v2 Y'/\Y'<=X'/\Y'<val ys/\X'<=val xs/\Int.gcd X' Y'=Int.gcd (val xs) (val ys)/\Below w.heap.size w w':=by
 obtain⟨_,x1,x2,x3⟩:=hx.sl.parts;obtain⟨_,y1,y2,y3⟩:=hy.sl.parts;have hY0:=(aac y3).1;have hlen:ys.length<=xs.length:=ace x3 hcy hle;have hX64:18446744073709551616<=val xs:=by
  have h9:=acj hcy (by intro e;subst e;simp at h3);have h8:=aap (m:=2) (n:=ys.length-1) (by omega);rw[show pw 2=18446744073709551616 from by decide]at h8;omega
 have sx:=hx.sl;have sy:=hy.sl;go_enter Tryz.func121,Tryz.ntmps121
 go_wp2_with fail
 refine(agc _ _ _ _ xs sx (by omega)).mono ?_;rintro e w' ⟨l,rfl,t1,rfl⟩;have hl65:65<=l:=by
  apply Classical.byContradiction;intro hn;have h9:=adj (m:=l) (n:=64) (by omega);rw[show p2 64=18446744073709551616 from by decide]at h9;have:=t1.1;omega
 have hlm:l<=32*xs.length:=by
  have h9:=(aac x3).2;rw[aem]at h9;apply Classical.byContradiction;intro hn;have h8:=adj (m:=32*xs.length) (n:=l-1) (by omega);rcases t1.2 with h|h <;> omega
 obtain⟨m,hm'⟩:∃m,l=m+30:=⟨l-30,by omega⟩;have WF:=hide (aug t1 hm' hY0 hle);have el:(l:Int)-30=(m:Nat):=by omega
 have kx:Hid (∀w2:World,Sl w2 (.slice a1 xs.length c1) xs->Calls Tryz.prog 130 #[.slice a1 xs.length c1,.int .i64 m] w2 fun e w3=>e=.returned (.int .u32 (val xs/p2 m))/\w3=w2):=by
  intro w2 h2;have h9:=ajp w2 a1 _ c1 xs h2 m (by omega);rwa[WF.out.1]at h9
 have ky:Hid (∀w2:World,Sl w2 (.slice a2 ys.length c2) ys->Calls Tryz.prog 130 #[.slice a2 ys.length c2,.int .i64 m] w2 fun e w3=>e=.returned (.int .u32 (val ys/p2 m))/\w3=w2):=by
  intro w2 h2;have h9:=ajp w2 a2 _ c2 ys h2 m (by omega);rwa[WF.out.2.1]at h9
 obtain⟨u,hu⟩:∃u,val xs/p2 m=u:=⟨_,rfl⟩;obtain⟨v,hv⟩:∃v,val ys/p2 m=v:=⟨_,rfl⟩;rw[hu]at WF kx;rw[hv]at WF ky;have u1:=WF.out.2.2.1;have v1:=WF.out.2.2.2.1;have u2:=WF.out.2.2.2.2.1;have v2:=WF.out.2.2.2.2.2.1;have kl:Hid (∀w2:World,Calls Tryz.prog 129 #[.int .i64 u,.int .i64 v] w2 fun e w3=>∃a b c d x y,e=.returned (.agg #[.int .i64 a,.int .i64 b,.int .i64 c,.int .i64 d])/\Lh u v (val xs) (val ys) a b c d x y/\Below w2.heap.size w2 w3):=by
  intro w2;have hp:=ab2 m;exact al0 w2 u v (val xs) (val ys) (p2 m) u1 v1 u2 v2 hY0 hle (by omega) WF.out.2.2.2.2.2.2.1 WF.out.2.2.2.2.2.2.2.1 WF.out.2.2.2.2.2.2.2.2.1 WF.out.2.2.2.2.2.2.2.2.2
 clear t1 hm' hu hv x3 y3;go_wp2_with fail
 refine(kx.out _ sx).mono ?_;rintro e w2 ⟨rfl,rfl⟩;go_wp2_with fail
 refine(ky.out _ sy).mono ?_;rintro e w2 ⟨rfl,rfl⟩;go_wp2_with fail
 refine(kl.out _).mono ?_;rintro e w3 ⟨a,b,c,d,x,y,rfl,hD,hb3⟩;have D:=hide hD;have hb4:Below w3.heap.size w3 (w3.alloc (.cells #[.int .i64 a,.int .i64 b,.int .i64 c,.int .i64 d] 158)):=(Below.refl _ _).alloc (Nat.le_refl _) _;have HZ:Below w2.heap.size w2 (w3.alloc (.cells #[.int .i64 a,.int .i64 b,.int .i64 c,.int .i64 d] 158)):=acm hb3 hb4;have FZ:Fac (w3.alloc (.cells #[.int .i64 a,.int .i64 b,.int .i64 c,.int .i64 d] 158)) w3.heap.size a b c d:=heap_alloc_new w3 _;obtain⟨w4,e4⟩:∃w4,w3.alloc (.cells #[.int .i64 a,.int .i64 b,.int .i64 c,.int .i64 d] 158)=w4:=⟨_,rfl⟩;rw[e4]at HZ FZ;have E4:=hide e4;clear e4 hD hb4;have hx4:=hx.below HZ;have hy4:=hy.below HZ;by_cases hb:b=0
 ·subst hb;have G:=hide (ai0 (val xs) (val ys) (val xs/val ys));have hpos:0<val ys:=by
   have h9:=acj hcy (by intro e;subst e;simp at h3);have:=aag (ys.length-1);omega
  have hmod:val xs-val xs/val ys*val ys=val xs%val ys:=by
   have:=Int.mul_ediv_add_emod (val xs) (val ys);rw[Int.mul_comm]at this;omega
  rw[hmod]at G;have M:=hide (And.intro (Int.emod_nonneg (val xs) (show val ys≠0 by omega)) (Int.emod_lt_of_pos (val xs) hpos));clear hmod;go_wp2_with fail
  rw[E4.out];refine(agi _ _ _ _ _ _ _ xs ys hx4.sl hy4.sl (by omega) (by omega)).mono ?_;rintro e w5 ⟨v1',v2',rfl,i1,i2,_,hb5⟩;have R1:Hid (Is B w5 (.slice a2 ys.length c2) (val ys)):=⟨ys,hy4.below hb5,hcy,rfl⟩;have R2:=hide (i2.mono (B':=B) (by have:=HZ.size;omega));have Z:=hide (acm HZ hb5);go_wp2;go_ret2
  exact⟨_,_,val ys,val xs%val ys,rfl,R1.out,R2.out,by have:=M.out;omega,M.out.2,hle,G.out,Z.out⟩
 ·have hbb:(b==0)=false:=by simp[hb]
  obtain⟨⟨fa,fb,fc,fd⟩,fe,ff,fg,fh⟩:=FZ.facts;have VX:=(aac hx.sl.parts.2.2.2).2;have sgn1:(0<=a/\b<=0)\/(a<=0/\0<=b):=by rcases D.out.sig with h|h <;> omega
  have sgn2:(0<=c/\d<=0)\/(c<=0/\0<=d):=by rcases D.out.sig with h|h <;> omega
  have SG1:=hide sgn1;have SG2:=hide sgn2;have P1:Hid (0<=a*val xs+b*val ys/\a*val xs+b*val ys<pw xs.length):=by have h1:=D.out.le;have h2:=D.out.nn;have h4:=D.out.top;show _/\_;omega
  have P2:Hid (0<=c*val xs+d*val ys/\c*val xs+d*val ys<pw xs.length):=by have h1:=D.out.le;have h2:=D.out.nn;have h4:=D.out.top;show _/\_;omega
  have HB0:=hide hb;clear sgn1 sgn2 VX hb;go_wp2;rw[E4.out];go_region_held3 (fun w'=>w'.cell? ⟨w3.heap.size,0,none⟩=some (.int .i64 a)/\w'.cell? ⟨w3.heap.size,1,none⟩=some (.int .i64 b)/\w'.cell? ⟨w3.heap.size,2,none⟩=some (.int .i64 c)/\w'.cell? ⟨w3.heap.size,3,none⟩=some (.int .i64 d)) (go_keep) (first
   | (go_at_call 131;have _hq:=hb5';refine(ain _ _ _ _ _ _ _ xs ys ((hx4.below hb5').sl.below (by repeat(first|exact Below.refl _ _|refine Below.drew ?_))) ((hy4.below hb5').sl.below (by repeat(first|exact Below.refl _ _|refine Below.drew ?_))) (by omega) hlen c d D.out.bc D.out.bd SG2.out P2.out.1 P2.out.2).mono ?_;rintro e w6 ⟨v6,rfl,i6,hb6⟩;have hb6':Below w5.heap.size w5 w6:=(show Below w5.heap.size w5 _ by repeat(first|exact Below.refl _ _|refine Below.drew ?_)).trans hb6;have FZ6:=FZ5.below hb6';obtain⟨⟨ha,hb,hc,hd⟩,he,hf,hg,hh⟩:=FZ6.facts)
   | (go_at_call 131;refine(ain _ _ _ _ _ _ _ xs ys (hx4.sl.below (by repeat(first|exact Below.refl _ _|refine Below.drew ?_))) (hy4.sl.below (by repeat(first|exact Below.refl _ _|refine Below.drew ?_))) (by omega) hlen a b D.out.ba D.out.bb SG1.out P1.out.1 P1.out.2).mono ?_;rintro e w5 ⟨v5,rfl,i5,hb5⟩;have hb5':Below w4.heap.size w4 w5:=(show Below w4.heap.size w4 _ by repeat(first|exact Below.refl _ _|refine Below.drew ?_)).trans hb5;have FZ5:=FZ.below hb5';obtain⟨⟨ga,gb,gc,gd⟩,ge,gf,gg,gh⟩:=FZ5.facts))
  all_goals
   have R1:=hide ((i5.below hb6').mono (B':=B) (show B<=w4.heap.size by have:=HZ.size;omega));have R2:=hide (i6.mono (B':=B) (show B<=w5.heap.size by have:=HZ.size;have:=hb5'.size;omega));have Z:=hide (acm HZ (acm hb5' hb6'));clear fa fb fc fd fe ff fg fh ga gb gc gd ge gf gg gh ha hb hc hd he hf hg hh;go_wp2;go_ret2
   exact⟨_,_,_,_,rfl,R1.out,R2.out,D.out.le,D.out.bz HB0.out,D.out.top,D.out.gcd,Z.out⟩
end Lm
namespace Lm
open Go.RowKit
theorem axg{rs:List Int}(h:¬2<rs.length):rs.getD 1 0*4294967296+rs.getD 0 0=val rs:=by
 match rs,h with
 | [],_=>rfl
 | [x],_=>simp[val]
 | [x,y],_=>simp[val];omega
 |_::_::_::_,h=>simp at h
theorem auh{a b:Int}(h:a=b):Ending.returned (.tuple #[.int .u64 a,.bool true])=.returned (.tuple #[.int .u64 b,.bool true]):=by rw[h]
theorem aeo{rs:List Int}(h:Limb rs)(h2:rs.length<=2):0<=val rs/\val rs<18446744073709551616:=by
 have h1:=aac h;have h3:=aap (m:=rs.length) (n:=2) (by omega);rw[show pw 2=18446744073709551616 from by decide]at h3;omega
theorem aep(w:World)(ao:Option Addr)(n cap:Nat)(xs:List Int)(hx:Sl w (.slice ao n cap) xs)(hs:xs.length<=2):
  Calls Tryz.prog 122 #[.slice ao n cap] w fun e w'=>e=.returned (.tuple #[.int .u64 (val xs),.bool true])/\w'=w:=by
 obtain⟨rfl,h1,h2,h3⟩:=hx.parts;have t1:=aa6 xs;have kc:=hide (aar w ao _ cap xs hx);have hcn:=abj h3;have hX:(xs.take (tl xs)).length=tl xs:=by simp;omega
 have h2':¬(2:Int)<((tl xs:Nat):Int):=by omega
 have E3:=hide (axg (rs:=xs.take (tl xs)) (by omega));rw[aaj]at E3;have b1:=aai hcn.1 1;have b0:=aai hcn.1 0;have k1:=aca w _ _ hx.cut 1;have k0:=aca w _ _ hx.cut 0;generalize (xs.take (tl xs)).getD 1 0=y1 at E3 b1 k1;generalize (xs.take (tl xs)).getD 0 0=y0 at E3 b0 k0;have K1:=hide k1;have K0:=hide k0;have hor:bits .or .u64 (y1*4294967296) y0=y1*4294967296+y0:=aet y1 y0 b1.1 b1.2 b0.1 b0.2;clear hcn hX k1 k0;go_enter Tryz.func122,Tryz.ntmps122
 go_wp2_with fail
 refine(kc.out).mono ?_;rintro e w' ⟨rfl,rfl⟩;go_wp2_with fail
 refine(K1.out).mono ?_;rintro e w' ⟨rfl,rfl⟩;go_wp2_with fail
 refine(K0.out).mono ?_;rintro e w' ⟨rfl,rfl⟩;go_wp2;go_ret2
 exact⟨auh E3.out,rfl⟩
theorem ake(m n:Int):Int.gcd n (m%n)=Int.gcd m n:=by
 have h1:=ai0 m n (m/n);have h2:=Int.mul_ediv_add_emod m n;rw[Int.mul_comm]at h2;rw[show m-m/n*n=m%n by omega]at h1;exact h1
theorem a0m{a b:Int}(h:a=b):Ending.returned (.int .u64 a)=.returned (.int .u64 b):=by rw[h]
theorem ahf(w:World)(m n:Int)(hm:0<=m/\m<18446744073709551616)(hn:0<=n/\n<18446744073709551616):
  Calls Tryz.prog 123 #[.int .u64 m,.int .u64 n] w fun e w'=>e=.returned (.int .u64 (Int.gcd m n))/\Below w.heap.size w w':=by
 go_enter Tryz.func123,Tryz.ntmps123
 go_wp2;go_loopw [0,1] (fun mv nv wr=>∃a b:Int,mv=.int .u64 a/\nv=.int .u64 b/\(0<=a/\a<18446744073709551616)/\(0<=b/\b<18446744073709551616)/\Int.gcd a b=Int.gcd m n/\Below w.heap.size w wr) (fun _ nv _=>(intOf nv).toNat)
 case atStart=>exact⟨m,n,rfl,rfl,hm,hn,rfl,Below.refl _ _⟩
 case round=>
  obtain⟨a,b,rfl,rfl,ha,hb,hg,HB⟩:=hrel;have HG:=hide hg;clear hg;by_cases h0:b=0
  ·subst h0;have HF:Hid (a=(Int.gcd m n:Int)):=by
    show _=_;rw[<-HG.out,Int.gcd_zero_right];omega
   go_wp2;go_ret;exact⟨a0m HF.out,HB⟩
  ·have hbb:(b != 0)=true:=by simp[h0]
   have t1:a.tmod b=a%b:=Int.tmod_eq_emod_of_nonneg ha.1;have r0:=Int.emod_nonneg a h0;have r1:=Int.emod_lt_of_pos a (show 0<b by omega);have HG':=hide ((ake a b).trans HG.out);go_wp2;go_quiet (fail)
   go_wp2;go_roundw
   case rel=>exact⟨b,a%b,rfl,rfl,hb,by omega,HG'.out,below_drewN HB _⟩
   case measure=>simp[intOf];omega
theorem Is.ow{B:Nat}{w:World}{v:Value}{x:Int}(h:Is B w v x):∃ao cap rs,v=.slice ao rs.length cap/\Ow B w (.slice ao rs.length cap) rs/\Canon rs/\val rs=x:=by
 obtain⟨rs,ho,hc,hv⟩:=h;obtain⟨ao,cap,rfl,h1,h2,h3,h4⟩:=ho;exact⟨ao,cap,rs,rfl,⟨ao,cap,rfl,h1,h2,h3,h4⟩,hc,hv⟩
theorem am0(w:World)(ao:Option Addr)(n cap:Nat)(zs:List Int)(h:Sl w (.slice ao n cap) zs)(hz:zs.length<=1000000000):
  Calls Tryz.prog 93 #[.slice ao n cap] w fun e w'=>∃ao cap rs,e=.returned (.slice ao rs.length cap)/\Ow w.heap.size w' (.slice ao rs.length cap) rs/\Canon rs/\val rs=val zs/\rs.length<=zs.length/\Below w.heap.size w w':=by
 refine(ae2 w ao n cap zs h hz).mono ?_;rintro e w' ⟨v,rfl,ho,hb⟩;obtain⟨ao',cap',rs,rfl,h1,h2,h3⟩:=Is.ow (B:=w.heap.size) ⟨_,ho,abj h.parts.2.2.2,aaj zs⟩;exact⟨ao',cap',rs,rfl,h1,h2,h3,ace h.parts.2.2.2 h2 (by omega),hb⟩
theorem ao3{w:World}{v:Value}{r s:List Int}(h1:Sl w v r)(h2:Sl w v s):r=s:=by
 obtain⟨ao,cap,rfl,_,_,_,h4⟩:=h1;obtain⟨ao',cap',hv,_,_,_,g4⟩:=h2;obtain⟨rfl,hl,rfl⟩:=(Value.slice.injEq .. ▸ hv);apply List.ext_getElem hl;intro i hi1 hi2;rcases h4 with rfl|⟨b,off,rfl,hc⟩
 ·simp at hi1
 rcases g4 with rfl|⟨b',off',e,hc'⟩
 ·simp at hi2
 ·obtain⟨rfl,rfl⟩:b=b'/\off=off':=by simpa using e
  have e1:=hc i hi1;have e2:=hc' i hi2;rw[e1]at e2;simp only[Option.some.injEq,Value.int.injEq,true_and,List.getD_eq_getElem?_getD,List.getElem?_eq_getElem hi1,List.getElem?_eq_getElem hi2,Option.getD_some]at e2;exact e2
open Classical in
noncomputable def worth(w:World)(v:Value):Nat:=if h:∃r,Sl w v r then(val (Classical.choose h)).toNat else 0
theorem agl{w:World}{v:Value}{r:List Int}(h:Sl w v r):worth w v=(val r).toNat:=by
 have hex:∃r,Sl w v r:=⟨r,h⟩;unfold worth;rw[dif_pos hex,ao3 (Classical.choose_spec hex) h]
theorem aqh(w:World)(a1 a2:Option Addr)(n1 n2 c1 c2:Nat)(xs ys:List Int)(hx:Sl w (.slice a1 n1 c1) xs)(hy:Sl w (.slice a2 n2 c2) ys)(hm1:xs.length<=400000000)(hm2:ys.length<=400000000):
  Calls Tryz.prog 110 #[.slice a1 n1 c1,.slice a2 n2 c2] w fun e w'=>∃v,e=.returned v/\Is w.heap.size w' v (Int.gcd (val xs) (val ys))/\Below w.heap.size w w':=by
 go_enter Tryz.func110,Tryz.ntmps110
 go_wp2_with fail
 refine(am0 _ _ _ _ xs hx (by omega)).mono ?_;rintro e w1 ⟨p1,q1,r1,rfl,o1,k1,v1,l1,hb1⟩;go_wp2_with fail
 refine(am0 _ _ _ _ ys (hy.below hb1) (by omega)).mono ?_;rintro e w2 ⟨p2,q2,r2,rfl,o2,k2,v2,l2,hb2⟩;replace o1:=o1.below hb2;replace o2:=o2.mono (B':=w.heap.size) hb1.size;have HB2:=acm hb1 hb2;have C1:=hide k1;have C2:=hide k2;have V1:=hide v1;have V2:=hide v2;clear k1 k2 v1 v2;have hle:=fun(h:¬val r1<val r2)=>show val r2<=val r1 by omega
 have g0:∀ {a b c d:Int},Int.gcd a b=Int.gcd c d->((Int.gcd a b:Nat):Int)=((Int.gcd c d:Nat):Int):=fun h=>by rw[h]
 have G1:Hid (Int.gcd (val r1) (val r2)=Int.gcd (val xs) (val ys)):=by rw[V1.out,V2.out];rfl
 have G2:Hid (Int.gcd (val r2) (val r1)=Int.gcd (val xs) (val ys)):=by show _=_;rw[Int.gcd_comm];exact G1.out
 clear g0 hle;by_cases hlt:val r1<val r2
 ·have k1:=hide (ac2 hlt);have HLT:=hide hlt;clear hlt;go_wp2_with fail
  refine(ahx _ _ _ _ _ _ _ r1 r2 o1.sl o2.sl).mono ?_;rintro e w3 ⟨rfl,hb3⟩;rw[k1.out];replace o1:=o1.below hb3;replace o2:=o2.below hb3;have HB3:=acm HB2 hb3;go_wp2;go_loopw [5,6] (fun xv yv wr=>∃(p p':Option Addr) (q q':Nat) (r r':List Int),xv=.slice p r.length q/\yv=.slice p' r'.length q'/\Ow w.heap.size wr (.slice p r.length q) r/\Canon r/\Ow w.heap.size wr (.slice p' r'.length q') r'/\Canon r'/\val r'<=val r/\r.length<=400000000/\Int.gcd (val r) (val r')=Int.gcd (val xs) (val ys)/\Below w.heap.size w wr) (fun _ yv wr=>worth wr yv)
  case atStart=>exact⟨p2,p1,q2,q1,r2,r1,rfl,rfl,o2,C2.out,o1,C1.out,by have:=HLT.out;omega,by omega,G2.out,HB3⟩
  case round=>
   obtain⟨p,p',q,q',r,r',rfl,rfl,hr,hcr,hr',hcr',hle,hlr,hg,HB⟩:=hrel;obtain⟨_,z1,z2,z3⟩:=hr.sl.parts;obtain⟨_,y1,y2,y3⟩:=hr'.sl.parts;have HCR:=hide hcr;have HCR':=hide hcr';have HLE:=hide hle;have HG:=hide hg;have Z3:=hide z3;have Y3:=hide y3;have hrl:r'.length<=r.length:=ace z3 hcr' hle;clear hcr hcr' hle hg z3 y3;by_cases h2:2<r'.length
   ·have h2':(2:Int)<(r'.length:Int):=by omega
    have ks:=hide (ajq wr w.heap.size HB.size p p' q q' r r' hr hr' HCR'.out hlr h2 HLE.out);have MW:=hide (agl hr'.sl);have V0:=hide (aac Y3.out).1;go_wp2_with fail
    refine(ks.out).mono ?_;rintro e w5 ⟨v5,v6,X',Y',rfl,i5,i6,hle5,hlt5,htop5,hg5,hb5⟩;obtain⟨p5,q5,r5,rfl,o5,c5,e5⟩:=i5.ow;obtain⟨p6,q6,r6,rfl,o6,c6,e6⟩:=i6.ow;have MW5:=hide (agl o6.sl);have L5:Hid (r5.length<=400000000):=by
     have h9:=ace Z3.out c5 (by rw[e5];exact htop5);show _<=_;omega
    have R:=hide (And.intro e5 (And.intro e6 (And.intro hle5 (And.intro hlt5 hg5))));have C5:=hide c5;have C6:=hide c6;have Z5:=hide (HB.trans (hb5.mono HB.size));clear e5 e6 hle5 hlt5 htop5 hg5 c5 c6;go_wp2;go_roundw
    case rel=>exact⟨p5,p6,q5,q6,r5,r6,rfl,rfl,o5,C5.out,o6,C6.out,by rw[R.out.1,R.out.2.1];exact R.out.2.2.1,L5.out,by rw[R.out.1,R.out.2.1,R.out.2.2.2.2];exact HG.out,Z5.out⟩
    case measure=>
     rw[MW.out,MW5.out,R.out.2.1];have h8:=(aac C6.out.1).1;rw[R.out.2.1]at h8;have h7:=R.out.2.2.2.1;omega
   ·have h2':¬(2:Int)<(r'.length:Int):=by omega
    by_cases h0:val r'=0
    ·have kd:=hide (afp wr _ _ _ _ _ _ r r' hr.sl hr'.sl h0);have F:Hid (Is w.heap.size wr (.slice p r.length q) (Int.gcd (val xs) (val ys))):=by
      refine⟨r,hr,HCR.out,?_⟩;rw[<-HG.out,h0,Int.gcd_zero_right];have:=(aac Z3.out).1;omega
     go_wp2_with fail
     refine(kd.out).mono ?_;rintro e w5 ⟨rfl,hb5⟩;have F5:=hide (F.out.below hb5);have Z5:=hide (HB.trans (hb5.mono HB.size));go_wp2;go_ret;exact⟨_,rfl,F5.out,Z5.out⟩
    ·have kd:=hide (agj wr _ _ _ _ _ _ r r' hr.sl hr'.sl (by omega) h0);have GM:=hide ((ake (val r) (val r')).trans HG.out);have sv:=aeo Y3.out (by omega);go_wp2_with fail
     refine(kd.out).mono ?_;rintro e w5 ⟨p5,q5,r5,p6,q6,r6,rfl,G5,G6,l5,l6,hb5⟩;have hr5:=hr'.below hb5;have sv6:=aeo G6.canon.1 (by omega);have V6:=hide G6.val;have Z5:=HB.trans (hb5.mono HB.size);go_wp2_with fail
     refine(aep _ _ _ _ r' hr5.sl (by omega)).mono ?_;rintro e w6 ⟨rfl,rfl⟩;go_wp2_with fail
     refine(aep _ _ _ _ r6 G6.sl (by omega)).mono ?_;rintro e w6 ⟨rfl,rfl⟩;go_wp2_with fail
     refine(ahf _ (val r') (val r6) sv sv6).mono ?_;rintro e w7 ⟨rfl,hb7⟩;have E7:Hid (Int.gcd (val r') (val r6)=Int.gcd (val xs) (val ys)):=by rw[V6.out];exact GM.out
     rw[E7.out];have hgl:Hid (((Int.gcd (val xs) (val ys):Nat):Int)<18446744073709551616):=by
      have h9:Int.gcd (val r') (val r6)<=(val r').natAbs:=Int.gcd_le_natAbs_left _ (by omega);rw[E7.out]at h9;show _<_;omega
     have Z7:=Z5.trans (hb7.mono Z5.size);have hs0:(0:Int)<=((Int.gcd (val xs) (val ys):Nat):Int):=by omega
     obtain⟨GG,hGG⟩:∃G,((Int.gcd (val xs) (val ys):Nat):Int)=G:=⟨_,rfl⟩;rw[hGG]at hgl hs0 ⊢;have HGG:=hide hGG;clear hGG;go_wp2_with fail
     refine(ack _ GG hs0 hgl.out).mono ?_;rintro e w8 ⟨v8,rfl,i8,hb8⟩;have R8:=hide (i8.mono (B':=w.heap.size) Z7.size);have Z8:=hide (Z7.trans (hb8.mono Z7.size));go_wp2;go_ret;exact⟨_,rfl,by rw[HGG.out];exact R8.out,Z8.out⟩
 ·have HK:Hid (∃k,cmpI (val r1) (val r2)=k/\¬k<0):=⟨_,rfl,fun h=>hlt (aix.1 h)⟩;obtain⟨k,hk,hk0⟩:=HK.out;have k1:=hide hk;have HLT:=hide hlt;clear hlt hk HK;go_wp2_with fail
  refine(ahx _ _ _ _ _ _ _ r1 r2 o1.sl o2.sl).mono ?_;rintro e w3 ⟨rfl,hb3⟩;rw[k1.out];replace o1:=o1.below hb3;replace o2:=o2.below hb3;have HB3:=acm HB2 hb3;go_wp2;go_loopw [5,6] (fun xv yv wr=>∃(p p':Option Addr) (q q':Nat) (r r':List Int),xv=.slice p r.length q/\yv=.slice p' r'.length q'/\Ow w.heap.size wr (.slice p r.length q) r/\Canon r/\Ow w.heap.size wr (.slice p' r'.length q') r'/\Canon r'/\val r'<=val r/\r.length<=400000000/\Int.gcd (val r) (val r')=Int.gcd (val xs) (val ys)/\Below w.heap.size w wr) (fun _ yv wr=>worth wr yv)
  case atStart=>exact⟨p1,p2,q1,q2,r1,r2,rfl,rfl,o1,C1.out,o2,C2.out,by have:=HLT.out;omega,by omega,G1.out,HB3⟩
  case round=>
   obtain⟨p,p',q,q',r,r',rfl,rfl,hr,hcr,hr',hcr',hle,hlr,hg,HB⟩:=hrel;obtain⟨_,z1,z2,z3⟩:=hr.sl.parts;obtain⟨_,y1,y2,y3⟩:=hr'.sl.parts;have HCR:=hide hcr;have HCR':=hide hcr';have HLE:=hide hle;have HG:=hide hg;have Z3:=hide z3;have Y3:=hide y3;have hrl:r'.length<=r.length:=ace z3 hcr' hle;clear hcr hcr' hle hg z3 y3;by_cases h2:2<r'.length
   ·have h2':(2:Int)<(r'.length:Int):=by omega
    have ks:=hide (ajq wr w.heap.size HB.size p p' q q' r r' hr hr' HCR'.out hlr h2 HLE.out);have MW:=hide (agl hr'.sl);have V0:=hide (aac Y3.out).1;go_wp2_with fail
    refine(ks.out).mono ?_;rintro e w5 ⟨v5,v6,X',Y',rfl,i5,i6,hle5,hlt5,htop5,hg5,hb5⟩;obtain⟨p5,q5,r5,rfl,o5,c5,e5⟩:=i5.ow;obtain⟨p6,q6,r6,rfl,o6,c6,e6⟩:=i6.ow;have MW5:=hide (agl o6.sl);have L5:Hid (r5.length<=400000000):=by
     have h9:=ace Z3.out c5 (by rw[e5];exact htop5);show _<=_;omega
    have R:=hide (And.intro e5 (And.intro e6 (And.intro hle5 (And.intro hlt5 hg5))));have C5:=hide c5;have C6:=hide c6;have Z5:=hide (HB.trans (hb5.mono HB.size));clear e5 e6 hle5 hlt5 htop5 hg5 c5 c6;go_wp2;go_roundw
    case rel=>exact⟨p5,p6,q5,q6,r5,r6,rfl,rfl,o5,C5.out,o6,C6.out,by rw[R.out.1,R.out.2.1];exact R.out.2.2.1,L5.out,by rw[R.out.1,R.out.2.1,R.out.2.2.2.2];exact HG.out,Z5.out⟩
    case measure=>
     rw[MW.out,MW5.out,R.out.2.1];have h8:=(aac C6.out.1).1;rw[R.out.2.1]at h8;have h7:=R.out.2.2.2.1;omega
   ·have h2':¬(2:Int)<(r'.length:Int):=by omega
    by_cases h0:val r'=0
    ·have kd:=hide (afp wr _ _ _ _ _ _ r r' hr.sl hr'.sl h0);have F:Hid (Is w.heap.size wr (.slice p r.length q) (Int.gcd (val xs) (val ys))):=by
      refine⟨r,hr,HCR.out,?_⟩;rw[<-HG.out,h0,Int.gcd_zero_right];have:=(aac Z3.out).1;omega
     go_wp2_with fail
     refine(kd.out).mono ?_;rintro e w5 ⟨rfl,hb5⟩;have F5:=hide (F.out.below hb5);have Z5:=hide (HB.trans (hb5.mono HB.size));go_wp2;go_ret;exact⟨_,rfl,F5.out,Z5.out⟩
    ·have kd:=hide (agj wr _ _ _ _ _ _ r r' hr.sl hr'.sl (by omega) h0);have GM:=hide ((ake (val r) (val r')).trans HG.out);have sv:=aeo Y3.out (by omega);go_wp2_with fail
     refine(kd.out).mono ?_;rintro e w5 ⟨p5,q5,r5,p6,q6,r6,rfl,G5,G6,l5,l6,hb5⟩;have hr5:=hr'.below hb5;have sv6:=aeo G6.canon.1 (by omega);have V6:=hide G6.val;have Z5:=HB.trans (hb5.mono HB.size);go_wp2_with fail
     refine(aep _ _ _ _ r' hr5.sl (by omega)).mono ?_;rintro e w6 ⟨rfl,rfl⟩;go_wp2_with fail
     refine(aep _ _ _ _ r6 G6.sl (by omega)).mono ?_;rintro e w6 ⟨rfl,rfl⟩;go_wp2_with fail
     refine(ahf _ (val r') (val r6) sv sv6).mono ?_;rintro e w7 ⟨rfl,hb7⟩;have E7:Hid (Int.gcd (val r') (val r6)=Int.gcd (val xs) (val ys)):=by rw[V6.out];exact GM.out
     rw[E7.out];have hgl:Hid (((Int.gcd (val xs) (val ys):Nat):Int)<18446744073709551616):=by
      have h9:Int.gcd (val r') (val r6)<=(val r').natAbs:=Int.gcd_le_natAbs_left _ (by omega);rw[E7.out]at h9;show _<_;omega
     have Z7:=Z5.trans (hb7.mono Z5.size);have hs0:(0:Int)<=((Int.gcd (val xs) (val ys):Nat):Int):=by omega
     obtain⟨GG,hGG⟩:∃G,((Int.gcd (val xs) (val ys):Nat):Int)=G:=⟨_,rfl⟩;rw[hGG]at hgl hs0 ⊢;have HGG:=hide hGG;clear hGG;go_wp2_with fail
     refine(ack _ GG hs0 hgl.out).mono ?_;rintro e w8 ⟨v8,rfl,i8,hb8⟩;have R8:=hide (i8.mono (B':=w.heap.size) Z7.size);have Z8:=hide (Z7.trans (hb8.mono Z7.size));go_wp2;go_ret;exact⟨_,rfl,by rw[HGG.out];exact R8.out,Z8.out⟩
end Lm
namespace Lm
open Go.RowKit
theorem a2s(nx ny:Bool)(X Y:Int):Int.gcd (sg nx X) (sg ny Y)=Int.gcd X Y:=by
 cases nx <;> cases ny <;> simp[sg]
theorem alf{X Y:Int}(hX:0<=X)(hY:0<=Y):((Int.gcd X Y:Nat):Int)<=X+Y:=by
 by_cases h:X=0
 ·subst h;rw[Int.gcd_zero_left];omega
 ·have h9:Int.gcd X Y<=X.natAbs:=Int.gcd_le_natAbs_left _ h;omega
theorem a35(w:World)(a1 a2:Option Addr)(n1 n2 c1 c2:Nat)(xs ys:List Int)(hx:Sl w (.slice a1 n1 c1) xs)(hy:Sl w (.slice a2 n2 c2) ys)(hm1:xs.length<=400000000)(hm2:ys.length<=400000000):
  Calls Tryz.prog 110 #[.slice a1 n1 c1,.slice a2 n2 c2] w fun e w'=>∃ao cap rs,e=.returned (.slice ao rs.length cap)/\Got w' ao cap rs (Int.gcd (val xs) (val ys))/\rs.length<=xs.length+ys.length+1/\Below w.heap.size w w':=by
 refine(aqh w a1 a2 n1 n2 c1 c2 xs ys hx hy hm1 hm2).mono ?_;rintro e w' ⟨v,rfl,hi,hb⟩;obtain⟨ao,cap,rs,rfl,hg⟩:=hi.got;refine⟨ao,cap,rs,rfl,hg,aa7 hg.canon ?_,hb⟩;rw[hg.val];have b1:=aac hx.parts.2.2.2;have b2:=aac hy.parts.2.2.2;have h1:=alf b1.1 b2.1;have m1:=aap (m:=xs.length) (n:=xs.length+ys.length) (by omega);have m2:=aap (m:=ys.length) (n:=xs.length+ys.length) (by omega);rw[pw];have:=aag (xs.length+ys.length);omega
end Lm
namespace Lm
open Go Go.RowKit
section
variable {dst:Option Tmp} {ty:TypeId} {pos:String} {after:Array Edge} {guard:Option (Nat×Bool)} {a:Act} {w:World} {ats:Array TypeId} {i j:Nat} {x y:Int} {L L1 L2:Nat}
theorem aui:Has Tryz.prog 93:=by unfold Has;kernel_rfl
theorem am1(h:IsL x L (a.eval (.tmp i)) w)(hL:L<=1000000000):
  Does Tryz.prog {dst,op:=.call {callee:=.value (.func 93),args:=#[.tmp i],argTypes:=ats},type:=ty,pos,after,guard} a.eval w fun v w'=>Below w.heap.size w w'/\OutL x L v w':=by
 obtain⟨ao,n,cap,xs,e,S,rfl,l⟩:=h;refine aah aui _ (by simp only[List.map_toArray,List.map_cons,List.map_nil,e]) ((amg w _ _ _ _ S (by omega)).mono ?_);rintro e w' ⟨ao,cap,rs,rfl,G,l',hb⟩;exact⟨_,rfl,hb,_,_,_,rfl,G,by omega⟩
end
theorem ao4{x:Int}{k:Nat}(h:IsBits x k)(hx:0<x):((k:Int)=1↔x=1):=by
 constructor
 ·intro hk;have hk:k=1:=by omega
  subst hk;have:=h.1;simp[p2]at this;omega
 ·intro hx1;subst hx1;have h1:IsBits 1 1:=⟨by simp[p2],.inr (by simp[p2])⟩;have:=ars h h1;omega
def nm(p q:Int):Int:=Int.sign q*(p/(Int.gcd p q:Int))
def dn(p q:Int):Int:=Int.sign q*(q/(Int.gcd p q:Int))
theorem ad6(q:Int):tq q≠0:=by
 unfold tq;split <;> simp_all
theorem a2t{p q:Int}(h1:p≠0)(h2:q≠0):p*q≠0:=Int.mul_ne_zero h1 h2
theorem al1{z:Int}: Int.sign z=0↔z=0:=Int.sign_eq_zero_iff_zero
theorem ag6{p q:Int}(h:q≠0):(0:Int)<(Int.gcd p q:Int):=by
 have:=Int.gcd_pos_of_ne_zero_right p h;omega
theorem aqi(a b:Bool)(x y:Int):Int.gcd (sg a x) (sg b y)=Int.gcd x y:=by
 cases a <;> cases b <;> simp[sg]
theorem a36(a b:Bool){x y:Int}(hy:0<y):nm (sg a x) (sg b y)=sg (a != b) (x/(Int.gcd x y:Int)):=by
 unfold nm;rw[aqi];have hd:((Int.gcd x y:Nat):Int) ∣ x:=Int.gcd_dvd_left x y;have hs:Int.sign y=1:=Int.sign_eq_one_of_pos hy;cases a <;> cases b <;> simp[sg,hs,Int.neg_ediv_of_dvd hd]
theorem a37(a b:Bool){x y:Int}(hy:0<y):dn (sg a x) (sg b y)=y/(Int.gcd x y:Int):=by
 unfold dn;rw[aqi];have hd:((Int.gcd x y:Nat):Int) ∣ y:=Int.gcd_dvd_right x y;have hs:Int.sign y=1:=Int.sign_eq_one_of_pos hy;cases b <;> simp[sg,hs,Int.neg_ediv_of_dvd hd]
theorem Mono.of4{p:Says}(h:Mono4 p):Mono p:=fun v w w' hb hp=>h v w w' (Rl.of_below hb) hp
def Fits2(D:List Nat)(a:Act):Nat->List Value->List Value->Prop
 |_,[],[]=>True
 |i,x::xs,y::ys=>((x=y/\D.contains i=false)\/a.eval (.tmp i)=y)/\Fits2 D a (i+1) xs ys
 |_,_,_=>False
theorem Fits2.at{D:List Nat}{a:Act}: ∀ {xs ys:List Value} {i:Nat},Fits2 D a i xs ys->xs.length=ys.length/\∀k x y,xs[k]? = some x->ys[k]? = some y->(x=y/\D.contains (i+k)=false)\/a.eval (.tmp (i+k))=y
 | [],[],_,_=>⟨rfl,fun k x y h=>by simp at h⟩
 |x::xs,y::ys,i,h=>by
  obtain⟨h1,h2⟩:=h;obtain⟨hl,h3⟩:=Fits2.at h2;refine⟨by simp[hl],fun k u v hu hv=>?_⟩;cases k with
  |zero=>
   simp only[List.getElem?_cons_zero,Option.some.injEq]at hu hv;subst hu hv;exact h1
  |succ k=>
   have:=h3 k u v (by simpa using hu) (by simpa using hv);have e:i+1+k=i+(k+1):=by omega
   rwa[e]at this
 | [],_::_,_,h=>h.elim
 |_::_,[],_,h=>h.elim
theorem aab{xs:List Value}{ds:List Deferred}{k:Nat}{x:Value}(h:xs[k]? = some x):(Act.mk xs.toArray ds).eval (.tmp k)=x:=by
 obtain⟨hk,rfl⟩:=List.getElem?_eq_some_iff.1 h;simp[Act.eval,hk]
theorem aqj{D:List Nat}{a:Act}{xs ys:List Value}{ds:List Deferred}(hn:a.tmps.size=xs.length)(hd:a.defers=ds)(hR:Rest D ⟨xs.toArray,ds⟩ a)(h:Fits2 D a 0 xs ys):a=⟨ys.toArray,ds⟩:=by
 obtain⟨hl,h2⟩:=h.at;obtain⟨tmps,defers⟩:=a;simp only at hn hd;subst hd;congr 1;refine Array.ext (by simp[hn,hl]) fun i h1 h3=>?_
 have hi:i<ys.length:=by simpa using h3
 obtain⟨x,hx⟩:∃x,xs[i]? = some x:=⟨_,List.getElem?_eq_getElem (by omega)⟩;have hy:ys[i]? = some ys[i]:=List.getElem?_eq_getElem hi;have key:(Act.mk tmps defers).eval (.tmp i)=ys[i]:=by
  rcases h2 i x _ hx hy with⟨e,hc⟩|e
  ·rw[Nat.zero_add]at hc;rw[hR i hc,aab hx,e]
  ·rwa[Nat.zero_add]at e
 have:(Act.mk tmps defers).eval (.tmp i)=tmps[i]:=by simp[Act.eval,h1]
 rw[<-this,key];simp
theorem a0n{P:Program}{ops:Array Oper}{Q:Exit->Act->World->Prop}{J K' R:Act->World->Prop}{id:Nat}{xs:List Value}{ds:List Deferred}{w:World}(Ds:List Nat)(Ps:List Says)(hK:∀a' w',Met J a' w'->K' a' w')(hJ:∀a' w',R a' w'->J a' w')(hm:P.follows .mixedOrders=true)(hnd:Ds.Nodup)(hlt:(Ds.all fun d=>decide (d<xs.length))=true)
  (hdep:(ops.toList.zipIdx.all fun p=>p.1.after.all fun e=>decide (e.on<p.2))=true) (hM:Monos Ps) (hD:Duties P xs.length Ds Ps ⟨xs.toArray,ds⟩ w ops.toList Ds Ps)
  (hend:∀a' w',a'.tmps.size=xs.length->a'.defers=ds->Below w.heap.size w w'->Rest Ds ⟨xs.toArray,ds⟩ a'->(∀j,j<Ds.length->Ps.getD j (fun _ _=>True) (a'.eval (.tmp (Ds.getD j 0))) w')->R a' w'):(Code.region id ops true).wp P (Exit.then K' Q) ⟨xs.toArray,ds⟩ w:=
 aro Ds Ps hm (by simp) hnd hlt hdep hM hD fun a' w' h1 h2 h3 h4 h5=>hK _ _ (Met.intro (hJ _ _ (hend a' w' h1 h2 h3 h4 h5)))
section
variable {dst:Option Tmp} {ty:TypeId} {pos:String} {after:Array Edge} {guard:Option (Nat×Bool)} {a:Act} {w:World} {i j k:Nat}
theorem ac8{g:Nat}{ng:Bool}{ao:Option Addr}{n c:Nat}{p:Says}(hp:a.eval (.tmp k)=.pointer (some ⟨g,0,none⟩))(hb:w.heap[g]? = some (.cells #[.bool ng,.slice ao n c] 45 (0,0)))(hv:p (.agg #[.bool ng,.slice ao n c]) w):
  Does Tryz.prog {dst,op:=.load 45 (.tmp k),type:=ty,pos,after,guard} a.eval w fun v' w'=>Below w.heap.size w w'/\p v' w':=
 aa3 (by rw[hp];exact aji hb) ⟨Below.refl _ _,hv⟩
theorem ab3{b off:Nat}{ng:Bool}{ao:Option Addr}{n c:Nat}{p:Says}(hp:a.eval (.tmp k)=.pointer (some ⟨b,off,none⟩))(h0:w.cell? ⟨b,off,none⟩=some (.bool ng))(h1:w.cell? ⟨b,off+1,none⟩=some (.slice ao n c))(hv:p (.agg #[.bool ng,.slice ao n c]) w):
  Does Tryz.prog {dst,op:=.load 45 (.tmp k),type:=ty,pos,after,guard} a.eval w fun v' w'=>Below w.heap.size w w'/\p v' w':=by
 refine aa3 (v:=.agg #[.bool ng,.slice ao n c]) ?_ ⟨Below.refl _ _,hv⟩;rw[hp];go_simp
end
theorem Fits2.nil{D:List Nat}{a:Act}{i:Nat}: Fits2 D a i [] []:=trivial
theorem Fits2.same{D:List Nat}{a:Act}{i:Nat}{x:Value}{xs ys:List Value}(hc:D.contains i=false)(h:Fits2 D a (i+1) xs ys):Fits2 D a i (x::xs) (x::ys):=⟨.inl ⟨rfl,hc⟩,h⟩
theorem Fits2.new{D:List Nat}{a:Act}{i:Nat}{x u:Value}{xs ys:List Value}(hu:a.eval (.tmp i)=u)(h:Fits2 D a (i+1) xs ys):Fits2 D a i (x::xs) (u::ys):=⟨.inr hu,h⟩
theorem Fits2.s4{D:List Nat}{a:Act}{i:Nat}{x1 x2 x3 x4:Value}{xs ys:List Value}(hc:(D.contains i||D.contains (i+1)||D.contains (i+2)||D.contains (i+3))=false)(h:Fits2 D a (i+4) xs ys):Fits2 D a i (x1::x2::x3::x4::xs) (x1::x2::x3::x4::ys):=by
 simp only[Bool.or_eq_false_iff]at hc;exact .same hc.1.1.1 <| .same hc.1.1.2 <| .same hc.1.2 <| .same hc.2 h
theorem Fits2.s16{D:List Nat}{a:Act}{i:Nat}{x1 x2 x3 x4 x5 x6 x7 x8 y1 y2 y3 y4 y5 y6 y7 y8:Value}{xs ys:List Value}(hc:((List.range 16).all fun k=>!D.contains (i+k))=true)(h:Fits2 D a (i+16) xs ys):Fits2 D a i (x1::x2::x3::x4::x5::x6::x7::x8::y1::y2::y3::y4::y5::y6::y7::y8::xs) (x1::x2::x3::x4::x5::x6::x7::x8::y1::y2::y3::y4::y5::y6::y7::y8::ys):=by
 have hk:∀k,k<16->D.contains (i+k)=false:=fun k hk=>by simpa using List.all_eq_true.1 hc k (List.mem_range.2 hk)
 have g:∀j,j+3<16->(D.contains (i+j)||D.contains (i+j+1)||D.contains (i+j+2)||D.contains (i+j+3))=false:=fun j hj=>by
  simp only[Bool.or_eq_false_iff];exact⟨⟨⟨hk j (by omega),hk (j+1) (by omega)⟩,hk (j+2) (by omega)⟩,hk (j+3) (by omega)⟩
 exact .s4 (g 0 (by omega)) <| .s4 (g 4 (by omega)) <| .s4 (g 8 (by omega)) <| .s4 (g 12 (by omega)) h
theorem aat{P:Program}{ops:Array Oper}{Q:Exit->Act->World->Prop}{l:List Oper}{w:World}{D:List Nat}{a:Act}{xs ys:List Value}{ds:List Deferred}(hn:a.tmps.size=xs.length)(hd:a.defers=ds)(hR:Rest D ⟨xs.toArray,ds⟩ a)(h:Fits2 D a 0 xs ys)(k:wpList P ops Q l ⟨ys.toArray,ds⟩ w):wpList P ops Q l a w:=by
 rw[aqj hn hd hR h];exact k
theorem ae6{P:Program}{ops:Array Oper}{Q:Exit->Act->World->Prop}{n:Nat}{Ds:List Nat}{Ps:List Says}{a0:Act}{w0:World}{l:Array Bool}{a:Act}{w:World}{i:Nat}{o:Oper}(hat:∀i o,ops[i]? = some o->i<Ds.length->Duty P n Ds Ps a0 w0 o (Ds.getD i 0) (Ps.getD i fun _ _=>True))(hlo:Ds.length<=ops.size)(hnd:Ds.Nodup)(hlt:(Ds.all fun d=>decide (d<n))=true)(hM:Monos Ps)(ho:ops[i]? = some o)(hil:i<Ds.length)(h:Mid n Ds Ps a0 w0 l a w)(hdeps:∀e∈o.after,Region.binds .any e=true->l.getD e.on false=true):
  wpOp P ops Q i (fun a' w'=>Mid n Ds Ps a0 w0 (l.setIfInBounds i true) a' w') a w:=by
 have h':=h;obtain⟨h1,h2,h3,h4,h5,h6⟩:=h;obtain⟨hdst,hduty⟩:=hat i o ho hil;have hduty:=hduty a w h2 h4 h5 (fun j hj=>by
  obtain⟨e,he,hj⟩:=List.any_eq_true.1 hj;simp only[Bool.and_eq_true,beq_iff_eq]at hj;obtain⟨rfl,hb⟩:=hj
  exact h6 _ (hdeps e (by simpa using he) hb))
 refine wpOp_step ho (fun K' hK=>?_);cases hg:o.guard with
 |none=>
  rw[hg]at hduty;simp only[Region.wanted,hg,if_true];exact Does.wp hduty (fun v w' ⟨hb,hp⟩=>by rw[hdst];exact hK _ _ (h'.put hil hnd hlt hM hb hp))
 |some gb=>
  obtain⟨g,b⟩:=gb;rw[hg]at hduty;simp only at hduty;obtain⟨hgl,hyes,hno⟩:=hduty;obtain⟨og,hog⟩:∃og,ops[g]? = some og:=⟨_,Array.getElem?_eq_getElem (by omega)⟩;have hgd:=(hat g og hog hgl).1;have hgn:Ds.getD g 0<n:=by
   have:=List.all_eq_true.1 hlt (Ds.getD g 0) (by rw[List.getD_eq_getElem?_getD,List.getElem?_eq_getElem hgl];simp);simpa using this
  have hy:yielded ops a.tmps g=(match a.eval (.tmp (Ds.getD g 0))with | .bool b=>some b|_=>none):=by
   unfold yielded;rw[hog];simp only[Option.bind_some,hgd];have:a.tmps[Ds.getD g 0]? = some (a.eval (.tmp (Ds.getD g 0))):=by
    rw[Array.getElem?_eq_getElem (by omega)];simp only[Act.eval,Array.getD,h2,hgn,dif_pos];rfl
   rw[this];generalize a.eval (.tmp (Ds.getD g 0))=v;cases v <;> rfl
  by_cases hv:a.eval (.tmp (Ds.getD g 0))=.bool b
  ·have hw:Region.wanted o (yielded ops a.tmps)=true:=by
    simp only[Region.wanted,hg];rw[hy,hv];simp
   rw[if_pos hw];exact Does.wp (hyes hv) (fun v w' ⟨hb,hp⟩=>by rw[hdst];exact hK _ _ (h'.put hil hnd hlt hM hb hp))
  ·have hw:¬Region.wanted o (yielded ops a.tmps)=true:=by
    simp only[Region.wanted,hg];rw[hy];intro hc;apply hv;generalize a.eval (.tmp (Ds.getD g 0))=v at *
    cases v <;> simp at hc
    rw[hc]
   rw[if_neg hw,hdst];exact hK _ _ (h'.put hil hnd hlt hM (Below.refl _ _) (hno hv))
theorem Duties.take{P:Program}{n:Nat}{Ds:List Nat}{Ps:List Says}{a0:Act}{w0:World}{ops:Array Oper}{m:Nat}(h:Duties P n Ds Ps a0 w0 (ops.toList.take m) Ds Ps)(hm:m<=ops.size):Ds.length=m/\∀i o,ops[i]? = some o->i<Ds.length->Duty P n Ds Ps a0 w0 o (Ds.getD i 0) (Ps.getD i fun _ _=>True):=by
 obtain⟨hl,hat⟩:=h.at;have hl':Ds.length=m:=by rw[hl,List.length_take];simp;omega
 refine⟨hl',fun i o ho hi=>hat i o ?_⟩;rw[List.getElem?_take_of_lt (by omega),Array.getElem?_toList];exact ho
theorem aad{l:Array Bool}{m j:Nat}(h:j<m)(b:Bool):(l.extract 0 m).getD j b=l.getD j b:=by
 rw[Array.getD_eq_getD_getElem?,Array.getD_eq_getD_getElem?,Array.getElem?_extract];simp only[Nat.sub_zero,Nat.zero_add];by_cases hj:j<min m l.size
 ·rw[if_pos hj]
 ·rw[if_neg hj,Array.getElem?_eq_none (by omega)]
theorem ab5{l:Array Bool}{m i:Nat}: (l.setIfInBounds i true).extract 0 m=(l.extract 0 m).setIfInBounds i true:=by
 apply Array.ext_getElem?;intro j;simp only[Array.getElem?_extract,Array.getElem?_setIfInBounds,Array.size_setIfInBounds,Array.size_extract,Nat.sub_zero,Nat.zero_add];by_cases hj:j<min m l.size
 ·rw[if_pos hj,if_pos hj];by_cases e:i=j
  ·subst e;rw[if_pos rfl,if_pos rfl,if_pos (by omega),if_pos hj]
  ·rw[if_neg e,if_neg e]
 ·rw[if_neg hj,if_neg hj];by_cases e:i=j
  ·subst e;rw[if_pos rfl,if_neg hj]
  ·rw[if_neg e]
theorem aby{P:Program}{ops:Array Oper}{Q:Exit->Act->World->Prop}{id n:Nat}{a:Act}{w:World}(m:Nat)(Ds:List Nat)(Ps:List Says)(hm:P.follows .mixedOrders=true)(hn:a.tmps.size=n)(hnd:Ds.Nodup)(hlt:(Ds.all fun d=>decide (d<n))=true)
  (hdep:(ops.toList.zipIdx.all fun p=>p.1.after.all fun e=>decide (e.on<p.2))=true) (hms:m<=ops.size) (hall:(ops.toList.zipIdx.all fun p=>decide (p.2<m)||(List.range p.2).all fun j=>p.1.after.any fun e=>e.on==j&&Region.binds .any e)=true) (hM:Monos Ps) (hD:Duties P n Ds Ps a w (ops.toList.take m) Ds Ps)
  (hend:∀a' w',a'.tmps.size=n->a'.defers=a.defers->Below w.heap.size w w'->Rest Ds a a'->(∀j,j<Ds.length->Ps.getD j (fun _ _=>True) (a'.eval (.tmp (Ds.getD j 0))) w')->wpList P ops Q (ops.toList.drop m) a' w'):(Code.region id ops true).wp P Q a w:=by
 obtain⟨hlen,hat⟩:=hD.take hms;have hL:∀k,k<=ops.size->wpOps P ops Q (List.range' k (ops.size-k))=wpList P ops Q (ops.toList.drop k):=fun k hk=>by
  have:=wpOps_eq_wpList (P:=P) (ops:=ops) (Q:=Q) (ops.toList.drop k) k (fun j=>by rw[List.getElem?_drop,Array.getElem?_toList]);rw[<-this];simp
 have hneed:∀i o,ops[i]? = some o->m<=i->∀l:Array Bool,(∀e∈o.after,Region.binds .any e=true->l.getD e.on false=true)->∀j,j<i->l.getD j false=true:=by
  intro i o ho hi l hl j hj;have h1:=List.all_eq_true.1 hall (o,i) (by rw[List.mem_zipIdx_iff_getElem?];simpa using ho);simp only[Bool.or_eq_true,decide_eq_true_eq]at h1;rcases h1 with h1|h1
  ·omega
  ·have h2:=List.all_eq_true.1 h1 j (List.mem_range.2 hj);rw[<-Array.any_toList]at h2;obtain⟨e,he,h3⟩:=List.any_eq_true.1 h2;replace he:=Array.mem_toList_iff.1 he;simp only[Bool.and_eq_true,beq_iff_eq]at h3;rw[<-h3.1];exact hl e he h3.2
 refine abf hm (fun l a' w'=>l.size=ops.size/\(((∀j,m<=j->l.getD j false=false)/\Mid n Ds Ps a w (l.extract 0 m) a' w')\/∃j,m<j/\j<=ops.size/\(∀k,k<j->l.getD k false=true)/\(∀k,j<=k->l.getD k false=false)/\wpOps P ops Q (List.range' j (ops.size-j)) a' w')) ?_ ?_ ?_
 ·refine⟨by simp,.inl ⟨fun j _=>?_,by simp[hlen];omega,hn,rfl,Below.drew (Below.refl _ _),fun _ _=>rfl,fun j hj=>?_⟩⟩
  ·simp[Array.getElem?_replicate];split <;> simp
  ·exfalso;by_cases hjm:j<m
   ·rw[aad hjm]at hj;simp[Array.getElem?_replicate]at hj;split at hj <;> simp at hj
   ·rw[Array.getD_eq_getD_getElem?,Array.getElem?_eq_none (by simp;omega)]at hj;simp at hj
 ·rintro l a' w' ⟨hs,hI⟩ hr;have hal:=adn hdep hs hr;rcases hI with⟨h1,h2,h3,h4,h5,h6,h7⟩|⟨j,hj1,hj2,hj3,hj4,hj5⟩
  ·have hmo:m=ops.size:=by
    apply Classical.byContradiction;intro hne;have:=hal m (by omega);rw[h1 m (Nat.le_refl _)]at this;cases this
   have:=hend a' w' h3 h4 h5 h6 (fun j hj=>h7 j (by rw[aad (by omega)];exact hal j (by omega)));rw[List.drop_eq_nil_of_le (by simp;omega)]at this;exact this
  ·have hje:j=ops.size:=by
    apply Classical.byContradiction;intro hne;have:=hal j (by omega);rw[hj4 j (Nat.le_refl _)]at this;cases this
   subst hje;simpa[wpOps]using hj5
 ·rintro l a' w' ⟨hs,hI⟩ i hi;obtain⟨hun,o,ho,hdeps⟩:=mem_ready.1 hi;have hio:i<ops.size:=(Array.getElem?_eq_some_iff.1 ho).1;have hset:∀k,k≠i->(l.setIfInBounds i true).getD k false=l.getD k false:=fun k hk=>getD_set_ne false (fun e=>hk e.symm)
  have hseti:(l.setIfInBounds i true).getD i false=true:=by
   rw[Array.getD_eq_getD_getElem?,Array.getElem?_setIfInBounds_self_of_lt (by omega)];rfl
  have hif:l.getD i false=false:=by
   rw[Array.getD_eq_getD_getElem?]at hun ⊢;cases hc:l[i]? with
   |none=>rfl
   |some b=>rw[hc]at hun;simpa using hun
  have hrun:∀j,j=i->wpOps P ops Q (List.range' j (ops.size-j)) a' w'->m<=j->(∀k,k<j->l.getD k false=true)->(∀k,j<=k->l.getD k false=false)->wpOp P ops Q i (fun a' w'=>(l.setIfInBounds i true).size=ops.size/\(((∀j,m<=j->(l.setIfInBounds i true).getD j false=false)/\Mid n Ds Ps a w ((l.setIfInBounds i true).extract 0 m) a' w')\/∃j,m<j/\j<=ops.size/\(∀k,k<j->(l.setIfInBounds i true).getD k false=true)/\(∀k,j<=k->(l.setIfInBounds i true).getD k false=false)/\wpOps P ops Q (List.range' j (ops.size-j)) a' w')) a' w':=by
   rintro j rfl hw hmj hlo hhi;rw[show ops.size-j=(ops.size-(j+1))+1 by omega,List.range'_succ,wpOps_cons]at hw;refine wpOp_mono (fun a2 w2 h=>⟨by simpa using hs,.inr ⟨j+1,by omega,by omega,fun k hk=>?_,fun k hk=>?_,h⟩⟩) hw
   ·by_cases e:k=j
    ·subst e;exact hseti
    ·rw[hset k e];exact hlo k (by omega)
   ·rw[hset k (by omega)];exact hhi k (by omega)
  rcases hI with⟨h1,hmid⟩|⟨j,hj1,hj2,hj3,hj4,hj5⟩
  ·by_cases him:i<m
   ·have hd':∀e∈o.after,Region.binds .any e=true->(l.extract 0 m).getD e.on false=true:=fun e he hb=>by
     have h2:=List.all_eq_true.1 hdep (o,i) (by rw[List.mem_zipIdx_iff_getElem?];simpa using ho);have h3:e.on<i:=by simpa using Array.all_eq_true_iff_forall_mem.1 h2 e he
     rw[aad (by omega)];exact hdeps e he hb
    refine wpOp_mono (fun a2 w2 h=>⟨by simpa using hs,.inl ⟨fun k hk=>?_,?_⟩⟩) (ae6 hat (by omega) hnd hlt hM ho (by omega) hmid hd')
    ·rw[hset k (by omega)];exact h1 k hk
    ·rw[ab5];exact h
   ·have hpre:=hneed i o ho (by omega) l hdeps;have hie:i=m:=by
     apply Classical.byContradiction;intro hne;have:=hpre m (by omega);rw[h1 m (Nat.le_refl _)]at this;cases this
    subst hie;obtain⟨h2,h3,h4,h5,h6,h7⟩:=hmid;have hw:=hend a' w' h3 h4 h5 h6 (fun j hj=>h7 j (by rw[aad (by omega)];exact hpre j (by omega)));rw[<-hL _ hms]at hw;exact hrun i rfl hw (Nat.le_refl _) hpre h1
  ·have hij:i=j:=by
    apply Classical.byContradiction;intro hne;by_cases hlt':i<j
    ·rw[hj3 i hlt']at hif;cases hif
    ·have:=hneed i o ho (by omega) l hdeps j (by omega);rw[hj4 j (Nat.le_refl _)]at this;cases this
   exact hrun j hij.symm hj5 (by omega) hj3 hj4
theorem ao5{x y:Int}(h:(0:Int)<(Int.gcd x y:Int)):(Int.gcd (x/(Int.gcd x y:Int)) (y/(Int.gcd x y:Int)):Int)=1:=by
 have h1:0<Int.gcd x y:=by omega
 rw[Int.gcd_ediv_gcd_ediv_gcd h1];rfl
theorem auj{dst:Option Tmp}{ty:TypeId}{pos:String}{after:Array Edge}{guard:Option (Nat×Bool)}{a:Act}{w:World}{i b off n c:Nat}{ao:Option Addr}(hp:a.eval (.tmp i)=.pointer (some ⟨b,off,none⟩))(h:w.cell? ⟨b,off,none⟩=some (.slice ao n c)):
  Does Tryz.prog {dst,op:=.load 43 (.tmp i),type:=ty,pos,after,guard} a.eval w fun v' w'=>Below w.heap.size w w'/\Eqs (.slice ao n c) v' w':=by
 refine aa3 (v:=.slice ao n c) ?_ ⟨Below.refl _ _,rfl⟩;rw[hp];go_simp
set_option maxRecDepth 100000 in
theorem ai1(w:World)(vp vq:Value)(p q:Int)(L:Nat)(hp:IsW p L vp w)(hq:IsW q L vq w)(h0:q≠0)(hL:L<=100000000):
  Calls Tryz.prog 92 #[vp,vq] w fun e w'=>∃v,e=.returned v/\OutR (nm p q) (dn p q) L v w'/\Below w.heap.size w w':=by
 obtain⟨n1,a1,m1,c1,xs,rfl,A1,l1⟩:=hp;obtain⟨n2,a2,m2,c2,ys,rfl,A2,l2⟩:=hq;have hx0:0<=val xs:=(aac A1.sl.parts.2.2.2).1;have hy0:0<val ys:=by
  have h1:=(aac A2.sl.parts.2.2.2).1;have h2:val ys≠0:=fun e=>h0 (by rw[<-A2.worth,e];cases n2 <;> simp[sg])
  omega
 obtain⟨w1,e1,bx,by',hb1,hs1⟩:=ami w n1 (.slice a1 m1 c1) n2 (.slice a2 m2 c2);have hb2:=hAl w1 (.cells #[.bool false,.slice none 0 0,.slice none 0 0] 47);have hn2:=heap_alloc_new w1 (.cells #[.bool false,.slice none 0 0,.slice none 0 0] 47);have hs2:(w1.alloc (.cells #[.bool false,.slice none 0 0,.slice none 0 0] 47)).heap.size=w1.heap.size+1:=by simp
 rw[hs1]at hn2 hs2;have hb02:=hb1.trans (hb2.mono hb1.size);obtain⟨_,x0,x1,_,_⟩:=aaf ((hb2.block _ (aaa bx)).trans bx);obtain⟨_,y0,y1,_,_⟩:=aaf ((hb2.block _ (aaa by')).trans by');have SX:=hide (A1.sl.below hb02);have SY:=hide (A2.sl.below hb02);have HB:=hide hb02;have HN:=hide hn2;have HX:=hide hx0;have HY:=hide hy0;have HP:Hid (p=sg n1 (val xs)/\q=sg n2 (val ys)):=⟨A1.worth.symm,A2.worth.symm⟩;have HL:Hid (xs.length<=L/\ys.length<=L):=⟨l1,l2⟩;have E1:=hide e1;clear hb1 hb2 hb02 hn2 bx by' hs1 e1 A1 A2 hx0 hy0 h0;go_enter Tryz.func92,Tryz.ntmps92
 go_upto_region 1 with fail
 rw[E1.out];generalize w1.alloc (.cells #[.bool false,.slice none 0 0,.slice none 0 0] 47)=w2 at *
 refine wp_scope_straight ?_;go_upto_region 1 with fail
 refine aby 8 [9,10,11,12,13,14,5,6] [Eqs (.pointer (some ⟨w.heap.size,1,none⟩)),Eqs (.slice a1 m1 c1),(OutL (val xs) L),Eqs (.pointer (some ⟨w.heap.size+1,1,none⟩)),Eqs (.slice a2 m2 c2),(OutL (val ys) L),(OutL (val xs) L),(OutL (val ys) L)] rfl rfl (by decide) (by kernel_rfl) (by kernel_rfl) (by decide) (by kernel_rfl) ⟨Eqs.mono _,Eqs.mono _,(Mono.of4 (OutL.mono4 _ _)),Eqs.mono _,Eqs.mono _,(Mono.of4 (OutL.mono4 _ _)),(Mono.of4 (OutL.mono4 _ _)),(Mono.of4 (OutL.mono4 _ _)),trivial⟩ ?_ ?_
 ·exact⟨⟨rfl,fun a_ w_ _ hB hR hD=>agf ahb ((hR 2 rfl).trans (aab rfl))⟩,
    ⟨rfl,fun a_ w_ _ hB hR hD=>auj (show a_.eval (.tmp 9)=.pointer (some ⟨w.heap.size,1,none⟩)from hD 0 rfl) ((hB.cell (p:=⟨w.heap.size,1,none⟩) (aax x1)).trans x1)⟩,
    ⟨rfl,fun a_ w_ _ hB hR hD=>am1 (L:=L) (by rw[(show a_.eval (.tmp 10)=.slice a1 m1 c1 from hD 1 rfl)];exact⟨_,_,_,_,rfl,(SX.out.below hB),rfl,by omega⟩) (by omega)⟩,
    ⟨rfl,fun a_ w_ _ hB hR hD=>agf ahb ((hR 3 rfl).trans (aab rfl))⟩,
    ⟨rfl,fun a_ w_ _ hB hR hD=>auj (show a_.eval (.tmp 12)=.pointer (some ⟨w.heap.size+1,1,none⟩)from hD 3 rfl) ((hB.cell (p:=⟨w.heap.size+1,1,none⟩) (aax y1)).trans y1)⟩,
    ⟨rfl,fun a_ w_ _ hB hR hD=>am1 (L:=L) (by rw[(show a_.eval (.tmp 13)=.slice a2 m2 c2 from hD 4 rfl)];exact⟨_,_,_,_,rfl,(SY.out.below hB),rfl,by omega⟩) (by omega)⟩,
    ⟨rfl,fun a_ w_ _ hB hR hD=>ahc (show(OutL (val xs) L) (a_.eval (.tmp 11)) w_ from hD 2 rfl)⟩,
    ⟨rfl,fun a_ w_ _ hB hR hD=>ahc (show(OutL (val ys) L) (a_.eval (.tmp 14)) w_ from hD 5 rfl)⟩,trivial⟩
 ·intro a' w' hn' hd' hB' hR' hP';have e9:a'.eval (.tmp 9)=.pointer (some ⟨w.heap.size,1,none⟩):=hP' 0 (by decide);have e10:a'.eval (.tmp 10)=.slice a1 m1 c1:=hP' 1 (by decide);obtain⟨u11,e11⟩:∃u,a'.eval (.tmp 11)=u:=⟨_,rfl⟩;have e12:a'.eval (.tmp 12)=.pointer (some ⟨w.heap.size+1,1,none⟩):=hP' 3 (by decide);have e13:a'.eval (.tmp 13)=.slice a2 m2 c2:=hP' 4 (by decide);obtain⟨u14,e14⟩:∃u,a'.eval (.tmp 14)=u:=⟨_,rfl⟩;obtain⟨u5,e5⟩:∃u,a'.eval (.tmp 5)=u:=⟨_,rfl⟩;have hT1:(OutL (val xs) L) (a'.eval (.tmp 5)) w':=hP' 6 (by decide);rw[e5]at hT1;obtain⟨u6,e6⟩:∃u,a'.eval (.tmp 6)=u:=⟨_,rfl⟩;have hT2:(OutL (val ys) L) (a'.eval (.tmp 6)) w':=hP' 7 (by decide);rw[e6]at hT2;refine aat hn' hd' hR' (.s4 rfl <| .same rfl <| .new e5 <| .new e6 <| .same rfl <| .same rfl <| .new e9 <| .new e10 <| .new e11 <| .new e12 <| .new e13 <| .new e14 <| .s16 rfl <| .s16 rfl <| .s4 rfl <| .nil) ?_;clear e9 e10 e11 e12 e13 e14 e5 e6;obtain⟨a5,c5,r5,rfl,G5,k5⟩:=hT1;obtain⟨a6,c6,r6,rfl,G6,k6⟩:=hT2;have H5:=hide (And.intro G5 k5);have H6:=hide (And.intro G6 k6);have hnr:=(hB'.block _ (aaa HN.out)).trans HN.out;have HNR:=hide hnr;have HBR:=hide (HB.out.trans (hB'.mono HB.out.size));replace x0:=(hB'.cell (p:=⟨w.heap.size,0,none⟩) (aax x0)).trans x0;replace y0:=(hB'.cell (p:=⟨w.heap.size+1,0,none⟩) (aax y0)).trans y0;obtain⟨hg1,hg2⟩:(0:Int)<(Int.gcd (val xs) (val ys):Int)/\True:=⟨ag6 (by have:=HY.out;omega),trivial⟩;obtain⟨g,hg⟩:∃g:Int,(Int.gcd (val xs) (val ys):Int)=g:=⟨_,rfl⟩;rw[hg]at hg1;have HG:Hid ((Int.gcd (val xs) (val ys):Int)=g/\0<g):=⟨hg,hg1⟩;clear hB' hR' hP' hn' hd' hnr G5 G6 k5 k6 hg hg1 hg2 x1 y1;go_wp2_with fail
  go_step3
  go_wp2_with fail
  go_loopg [5,6] 1 (fun k sx sy wr=>∃(a:Option Addr) (b:Nat) (c:Option Addr) (d:Nat) (rx ry:List Int) (X Y:Int),sx=.slice a rx.length b/\sy=.slice c ry.length d/\Got wr a b rx X/\Got wr c d ry Y/\rx.length<=L/\ry.length<=L/\((k=1/\X=val xs/\Y=val ys)\/(k=0/\X=val xs/g/\Y=val ys/g))/\Below w.heap.size w wr/\wr.heap[w.heap.size+2]? = some (.cells #[.bool false,.slice none 0 0,.slice none 0 0] 47 (0,0))/\wr.cell? ⟨w.heap.size,0,none⟩=some (.bool n1)/\wr.cell? ⟨w.heap.size+1,0,none⟩=some (.bool n2))
  case atStart=>exact⟨a5,c5,a6,c6,r5,r6,_,_,rfl,rfl,H5.out.1,H6.out.1,H5.out.2,H6.out.2,.inl ⟨rfl,rfl,rfl⟩,HBR.out,HNR.out,x0,y0⟩
  case round=>
   obtain⟨a,b,c,d,rx,ry,X,Y,rfl,rfl,GX,GY,lx,ly,hk,hbw,hnr,x0,y0⟩:=hrel;have HGX:=hide GX;have HGY:=hide GY;have HLX:=hide (And.intro lx ly);have HK:=hide hk;have HBW:=hide hbw;have HNR:=hide hnr;have hpos:0<=X/\0<Y:=by
    have hx:=HX.out;have hy:=HY.out;have hg:=HG.out;rcases hk with⟨_,rfl,rfl⟩|⟨_,rfl,rfl⟩
    ·exact⟨hx,hy⟩
    ·refine⟨Int.ediv_nonneg hx (by omega),?_⟩;have hd:g ∣ val ys:=by rw[<-hg.1];exact Int.gcd_dvd_right ..
     exact Int.ediv_pos_of_pos_of_dvd hy (by omega) hd
   have HPOS:=hide hpos;have K1:=hide (a35 wr a c _ _ b d rx ry GX.sl GY.sl (by omega) (by omega));rw[GX.val,GY.val]at K1;clear GX GY lx ly hk hbw hnr hpos;go_wp2_with fail
   refine K1.out.mono ?_;rintro e w3 ⟨a7,c7,r7,rfl,G7,k7,hb3⟩;have K2:=hide (agc w3 a7 _ c7 r7 G7.sl (by have:=HLX.out;omega));have HG7:=hide G7;have HB3:=hide hb3;have hx0':=(hb3.cell (p:=⟨w.heap.size,0,none⟩) (aax x0)).trans x0;have hy0':=(hb3.cell (p:=⟨w.heap.size+1,0,none⟩) (aax y0)).trans y0;clear G7 hb3 K1 x0 y0 k7;go_wp2_with fail
   refine K2.out.mono ?_;rintro e w4 ⟨kb,rfl,hbits,hw4⟩;subst w4;rw[HG7.out.val]at hbits;have hg1:=ao4 hbits (ag6 (by have:=HPOS.out;omega));have HGO:=hide hg1;clear hbits K2 hg1;by_cases hb1:(kb:Int)=1
   ·have hb1':((kb:Int)==1)=true:=by simpa using hb1
    have hgo:=HGO.out.1 hb1;have HXY:Hid (X=val xs/g/\Y=val ys/g):=(show _/\_ by
     rcases HK.out with⟨_,hX,hY⟩|⟨_,hX,hY⟩
     ·have hg:=HG.out.1;rw[<-hX,<-hY,hgo]at hg;rw[<-hX,<-hY,<-hg,Int.ediv_one,Int.ediv_one];exact⟨rfl,rfl⟩
     ·exact⟨hX,hY⟩)
    clear hb1 hgo;have HNR2:=hide ((HB3.out.block _ (aaa HNR.out)).trans HNR.out);obtain⟨_,t0,t1,t2,u0,u1,u2⟩:=ach HNR2.out;have HGX3:=hide (HGX.out.below HB3.out);have HGY3:=hide (HGY.out.below HB3.out);have HBF:=hide (HBW.out.trans (HB3.out.mono HBW.out.size));have HEQ:Hid (nm p q=sg (n1 != n2) X/\dn p q=Y):=(show _/\_ by
     rw[HP.out.1,HP.out.2,a36 _ _ HY.out,a37 _ _ HY.out,HG.out.1,HXY.out.1,HXY.out.2]
     exact⟨rfl,rfl⟩)
    have fin:∀ng:Bool,ng=((n1 != n2)&&decide (0<rx.length))->OutR (nm p q) (dn p q) L (.agg #[.bool ng,.slice a rx.length b,.slice c ry.length d]) (((w3.setCell ⟨w.heap.size+2,0,none⟩ (.bool ng)).setCell ⟨w.heap.size+2,1,none⟩ (.slice a rx.length b)).setCell ⟨w.heap.size+2,2,none⟩ (.slice c ry.length d))/\Below w.heap.size w (((w3.setCell ⟨w.heap.size+2,0,none⟩ (.bool ng)).setCell ⟨w.heap.size+2,1,none⟩ (.slice a rx.length b)).setCell ⟨w.heap.size+2,2,none⟩ (.slice c ry.length d)):=fun ng hng=>by
     have hr:=azl HNR2.out (.bool ng) (.slice a rx.length b) (.slice c ry.length d);rw[HEQ.out.1,HEQ.out.2,hng]at *
     exact⟨⟨_,a,b,rx,c,d,ry,rfl,Wh.of (n1 != n2) ⟨HGX3.out.1.ru hr,HGX3.out.2⟩,⟨HGY3.out.1.ru hr,HGY3.out.2⟩,HLX.out.1,HLX.out.2⟩,((HBF.out.setCell (by simp) _).setCell (by simp) _).setCell (by simp) _⟩
    have HF:=hide fin;have HSR:=hide (fun ng:Bool=>at6 HNR2.out (.bool ng) (.slice a rx.length b) (.slice c ry.length d));clear fin;obtain⟨lr,hlr⟩:∃lr,rx.length=lr:=⟨_,rfl⟩;rw[hlr]at HF HSR ⊢;clear HEQ HB3 HBF HGX3 HGY3 hlr;by_cases hn:n1=n2
    ·subst hn;have HFF:=hide (And.intro (HF.out false (by simp)) (HSR.out false));clear HF HSR;go_wp2;exact acf (bodyPost_ret (v:=_) (acb (g:=w.heap.size+2) rfl rfl (lvr3 HFF.out.2)) rfl ⟨_,rfl,HFF.out.1.1,HFF.out.1.2⟩)
    ·have HFF:=hide (And.intro (HF.out (!n1==n2&&decide (0<lr)) rfl) (HSR.out (!n1==n2&&decide (0<lr))));clear HF HSR;go_wp2;exact acf (bodyPost_ret (v:=_) (acb (g:=w.heap.size+2) rfl rfl (lvr3 HFF.out.2)) rfl ⟨_,rfl,HFF.out.1.1,HFF.out.1.2⟩)
   ·have hb1':((kb:Int)==1)=false:=by simpa using hb1
    have hgo:¬(Int.gcd X Y:Int)=1:=fun h=>hb1 (HGO.out.2 h)
    have HK1:=hide (HK.out.resolve_right (fun⟨_,hX,hY⟩=>by
     have hg:=HG.out;have:=ao5 (x:=val xs) (y:=val ys) (by rw[hg.1];exact hg.2);rw[hg.1,<-hX,<-hY]at this
     exact hgo this))
    have HXY:=hide HK1.out.2;have hg7:val r7=g:=by rw[HG7.out.val,HXY.out.1,HXY.out.2];exact HG.out.1
    have K3:=hide (agj w3 a a7 _ _ b c7 rx r7 (HGX.out.below HB3.out).sl HG7.out.sl (by have:=HLX.out;omega) (by rw[hg7];have:=HG.out;omega));rw[hg7,HGX.out.val]at K3;have HG7V:=hide hg7;clear hb1 hgo hg7;go_wp2_with fail
    refine K3.out.mono ?_;rintro e w5 ⟨a8,c8,r8,a9,c9,r9,rfl,G8,G9,k8,k9,hb5⟩;have HG8:=hide G8;have H35:=hide (HB3.out.trans (hb5.mono HB3.out.size));have hx5:=(hb5.cell (p:=⟨w.heap.size,0,none⟩) (aax hx0')).trans hx0';have hy5:=(hb5.cell (p:=⟨w.heap.size+1,0,none⟩) (aax hy0')).trans hy0';have K4:=hide (agj w5 c a7 _ _ d c7 ry r7 (HGY.out.below H35.out).sl (HG7.out.below hb5).sl (by have:=HLX.out;omega) (by rw[HG7V.out];have:=HG.out;omega));rw[HG7V.out,HGY.out.val]at K4;have HK8:=hide k8;clear G8 G9 k8 k9 hb5 K3 hx0' hy0';go_wp2_with fail
    refine K4.out.mono ?_;rintro e w6 ⟨a10,c10,r10,a11,c11,r11,rfl,G10,G11,k10,k11,hb6⟩;have HG10:=hide G10;have HG8':=hide (HG8.out.below hb6);have H36:=hide (H35.out.trans (hb6.mono H35.out.size));have hx6:=(hb6.cell (p:=⟨w.heap.size,0,none⟩) (aax hx5)).trans hx5;have hy6:=(hb6.cell (p:=⟨w.heap.size+1,0,none⟩) (aax hy5)).trans hy5;have HK10:=hide k10;clear G10 G11 k10 k11 hb6 K4 hx5 hy5;go_wp2;go_roundg 0
    case rel=>exact⟨a8,c8,a10,c10,r8,r10,_,_,rfl,rfl,HG8'.out,HG10.out,Nat.le_trans HK8.out HLX.out.1,Nat.le_trans HK10.out HLX.out.2,.inr ⟨rfl,by rw[HXY.out.1],by rw[HXY.out.2]⟩,HBW.out.trans (H36.out.mono HBW.out.size),(H36.out.block _ (aaa HNR.out)).trans HNR.out,hx6,hy6⟩
    case measure=>have:=HK1.out.1;omega
theorem axh(w:World)(L:Nat)(hL:L<=100000000)(nx:Bool)(ax:Option Addr)(mx cx:Nat)(xs:List Int)(zx:Int)(Ax:Ag w nx ax mx cx xs zx)(Lx:xs.length<=L)(ny:Bool)(ay:Option Addr)(my cy:Nat)(ys:List Int)(zy:Int)(Ay:Ag w ny ay my cy ys zy)(Ly:ys.length<=L)(hy:zy≠0):
  Calls Tryz.prog 92 #[.agg #[.bool nx,.slice ax mx cx],.agg #[.bool ny,.slice ay my cy]] w fun e w'=>∃v,e=.returned v/\OutR (nm zx zy) (dn zx zy) L v w'/\Below w.heap.size w w':=
 ai1 w _ _ zx zy L ⟨_,_,_,_,_,rfl,Ax,Lx⟩ ⟨_,_,_,_,_,rfl,Ay,Ly⟩ hy hL
theorem ar5:Has Tryz.prog 92:=by unfold Has;kernel_rfl
theorem auk{dst:Option Tmp}{ty:TypeId}{pos:String}{after:Array Edge}{guard:Option (Nat×Bool)}{a:Act}{w:World}{ats:Array TypeId}{i j:Nat}{p q:Int}{L1 L2:Nat}(h:IsW p L1 (a.eval (.tmp i)) w)(h':IsW q L2 (a.eval (.tmp j)) w)(hL:L1+L2<=100000000)(hq:q≠0):
  Does Tryz.prog {dst,op:=.call {callee:=.value (.func 92),args:=#[.tmp i,.tmp j],argTypes:=ats},type:=ty,pos,after,guard} a.eval w fun v w'=>Below w.heap.size w w'/\OutR (nm p q) (dn p q) (L1+L2) v w':=by
 obtain⟨ng,ao,n,cap,xs,e,A,l⟩:=h;obtain⟨ng',ao',n',cap',xs',e',A',l'⟩:=h';refine aah ar5 _ (by simp only[List.map_toArray,List.map_cons,List.map_nil,e,e']) ((axh w (L1+L2) hL _ _ _ _ _ _ A (by omega) _ _ _ _ _ _ A' (by omega) hq).mono ?_);rintro e w' ⟨v,rfl,h1,hb⟩;exact⟨_,rfl,hb,h1⟩
section
variable {dst:Option Tmp} {ty:TypeId} {pos:String} {after:Array Edge} {guard:Option (Nat×Bool)} {a:Act} {w:World} {ats:Array TypeId} {i j:Nat} {x y:Int} {L L1 L2:Nat}
theorem axi:Has Tryz.prog 120:=by unfold Has;kernel_rfl
end
theorem aul{n g:Nat}{w W:World}(ng:Bool)(a:Option Addr)(k b:Nat)(c:Option Addr)(m d:Nat)(hg:n<=g)(h:W.heap[g]? = some (.cells #[.bool false,.slice none 0 0,.slice none 0 0] 47 (0,0)))(hb:Below n w W):
  Below n w (((W.setCell ⟨g,0,none⟩ (.bool ng)).setCell ⟨g,1,none⟩ (.slice a k b)).setCell ⟨g,2,none⟩ (.slice c m d))/\(loadVar 47 ⟨g,0,none⟩).run Tryz.prog (((W.setCell ⟨g,0,none⟩ (.bool ng)).setCell ⟨g,1,none⟩ (.slice a k b)).setCell ⟨g,2,none⟩ (.slice c m d))=.ok (.agg #[.bool ng,.slice a k b,.slice c m d]) (((W.setCell ⟨g,0,none⟩ (.bool ng)).setCell ⟨g,1,none⟩ (.slice a k b)).setCell ⟨g,2,none⟩ (.slice c m d)):=
 ⟨((hb.setCell hg _).setCell hg _).setCell hg _,lvr3 (at6 h _ _ _)⟩
theorem am2{n g:Nat}{w W:World}{p q:Int}{L:Nat}{ng:Bool}{a c:Option Addr}{k b m d:Nat}(hg:n<=g)(h:W.heap[g]? = some (.cells #[.bool false,.slice none 0 0,.slice none 0 0] 47 (0,0)))(hb:Below n w W)(ho:OutR p q L (.agg #[.bool ng,.slice a k b,.slice c m d]) W):
  OutR p q L (.agg #[.bool ng,.slice a k b,.slice c m d]) (((W.setCell ⟨g,0,none⟩ (.bool ng)).setCell ⟨g,1,none⟩ (.slice a k b)).setCell ⟨g,2,none⟩ (.slice c m d))/\Below n w (((W.setCell ⟨g,0,none⟩ (.bool ng)).setCell ⟨g,1,none⟩ (.slice a k b)).setCell ⟨g,2,none⟩ (.slice c m d))/\(loadVar 47 ⟨g,0,none⟩).run Tryz.prog (((W.setCell ⟨g,0,none⟩ (.bool ng)).setCell ⟨g,1,none⟩ (.slice a k b)).setCell ⟨g,2,none⟩ (.slice c m d))=.ok (.agg #[.bool ng,.slice a k b,.slice c m d]) (((W.setCell ⟨g,0,none⟩ (.bool ng)).setCell ⟨g,1,none⟩ (.slice a k b)).setCell ⟨g,2,none⟩ (.slice c m d)):=
 ⟨OutR.mono5 _ _ _ _ _ _ (azl h _ _ _) ho,aul _ _ _ _ _ _ _ hg h hb⟩
theorem boxz(w:World)(o:Obj):∃w0:World,(w.alloc o).alloc (.cells #[.bool false,.slice none 0 0,.slice none 0 0] 47)=w0/\w0.heap[w.heap.size]? = some o/\w0.heap[w.heap.size+1]? = some (.cells #[.bool false,.slice none 0 0,.slice none 0 0] 47 (0,0))/\Below w.heap.size w w0:=by
 have h1:=heap_alloc_new w o;have h2:=heap_alloc_new (w.alloc o) (.cells #[.bool false,.slice none 0 0,.slice none 0 0] 47);rw[show(w.alloc o).heap.size=w.heap.size+1 by simp]at h2;exact⟨_,rfl,abb h1,h2,(hAl _ _).trans ((hAl _ _).mono (hAl _ _).size)⟩
theorem boxzz(w:World)(o o':Obj):∃w0:World,((w.alloc o).alloc o').alloc (.cells #[.bool false,.slice none 0 0,.slice none 0 0] 47)=w0/\w0.heap[w.heap.size]? = some o/\w0.heap[w.heap.size+1]? = some o'/\w0.heap[w.heap.size+2]? = some (.cells #[.bool false,.slice none 0 0,.slice none 0 0] 47 (0,0))/\Below w.heap.size w w0:=by
 have h1:=heap_alloc_new w o;obtain⟨w0,rfl,h2,h3,hb⟩:=boxz (w.alloc o) o';have e:(w.alloc o).heap.size=w.heap.size+1:=by simp
 rw[e]at h2 h3;exact⟨_,rfl,(hb.block _ (aaa h1)).trans h1,h2,h3,(hAl _ _).trans (hb.mono (hAl _ _).size)⟩
theorem ar6{P:Program}{dst:Option Tmp}{ty:TypeId}{pos:String}{after:Array Edge}{guard:Option (Nat×Bool)}{a:Act}{w:World}{R:Value->World->Prop}{t:TypeId}{v:Value}{w':World}(hb:(Instr.alloc t true (.tuple #[])).run P w=.ok v w')(h:R v w'):Does P {dst,op:=.alloc t,type:=ty,pos,after,guard} a.eval w R:=by
 refine⟨?_⟩;unfold Turns;simp only[execOp];simp[hb,h]
def NewW(n:Nat):Says:=fun v w=>∃g,n<=g/\v=.pointer (some ⟨g,0,none⟩)/\w.heap[g]? = some (.cells #[.bool false,.slice none 0 0] 45 (0,0))
theorem NewW.mono(n:Nat):Mono (NewW n):=fun _ _ _ hb ⟨g,h1,h2,h3⟩=>⟨g,h1,h2,(hb.block _ (aaa h3)).trans h3⟩
theorem aqk{dst:Option Tmp}{ty:TypeId}{pos:String}{after:Array Edge}{guard:Option (Nat×Bool)}{a:Act}{w:World}{n:Nat}(hn:n<=w.heap.size):
  Does Tryz.prog {dst,op:=.alloc 45,type:=ty,pos,after,guard} a.eval w fun v w'=>Below w.heap.size w w'/\NewW n v w':=by
 obtain⟨cs,⟨ng,ao,k,c,e,rfl⟩,hr⟩:=W2ok.alloc w;cases e
 exact ar6 hr ⟨hAl _ _,_,hn,rfl,heap_alloc_new _ _⟩
set_option maxRecDepth 100000 in
theorem a2u(w:World)(Bx:Nat)(nx:Bool)(ax:Option Addr)(mx cx:Nat)(xs:List Int)(zx:Int)(Ax:Ag w nx ax mx cx xs zx)(Lx:xs.length<=Bx)(hL:Bx<=100000000):
  Calls Tryz.prog 21 #[.agg #[.bool nx,.slice ax mx cx]] w fun e w'=>∃v,e=.returned v/\(OutR zx 1 (Bx+2)) v w'/\Below w.heap.size w w':=by
 obtain⟨w0,e0,hx,hz,hb⟩:=boxz w (.cells #[.bool nx,.slice ax mx cx] 45);obtain⟨_,x0,x1,_,_⟩:=aaf hx;have E0:=hide e0;have K1:=hide (a2m w0 nx ax mx cx xs zx ⟨Ax.sl.below hb,Ax.worth⟩ (by omega));have HZ:=hide hz;have HB:=hide hb;clear e0 hx hz hb;go_enter Tryz.func21,Tryz.ntmps21
 go_upto_region 1 with fail
 rw[E0.out];go_wp2_with fail
 refine K1.out.mono ?_;rintro e w1 ⟨n1,a1,c1,r1,rfl,G1,l1,hb1⟩;have K2:=hide (ack w1 1 (by omega) (by omega));have HB1:=hide (HB.out.trans (hb1.mono HB.out.size));have HZ1:=hide ((hb1.block _ (aaa HZ.out)).trans HZ.out);have HG:=hide (And.intro G1 l1);clear G1 l1 hb1 K1 HB HZ;go_wp2_with fail
 refine K2.out.mono ?_;rintro e w9 ⟨v,rfl,I,hb9⟩;obtain⟨a2,c2,r2,rfl,G2,l2⟩:=aed I (by omega);have HB9:=hide (HB1.out.trans (hb9.mono HB1.out.size));have hz:=(hb9.block _ (aaa HZ1.out)).trans HZ1.out;obtain⟨_,t0,t1,t2,u0,u1,u2⟩:=ach hz;have HE:=hide (am2 (p:=zx) (q:=1) (L:=Bx+2) (Nat.le_succ _) hz HB9.out ⟨_,_,_,_,_,_,_,rfl,Wh.below HG.out.1 hb9,G2,by have:=HG.out.2;omega,by omega⟩);clear hz K2 hb9 I G2 l2;go_wp2;exact bodyPost_ret (v:=_) (acb (g:=w.heap.size+1) rfl rfl HE.out.2.2) rfl ⟨_,rfl,HE.out.1,HE.out.2.1⟩
set_option maxRecDepth 100000 in
theorem a0o(w:World)(Br:Nat)(nr:Bool)(ar:Option Addr)(mr cr:Nat)(rs:List Int)(pr:Int)(Ar:Ag w nr ar mr cr rs pr)(Lr:rs.length<=Br)(br:Option Addr)(kr dr:Nat)(rt:List Int)(qr:Int)(Sr:Sl w (.slice br kr dr) rt)(Vr:val rt=qr)(Mr:rt.length<=Br)(hL:2*(Br+2)<=100000000):
  Calls Tryz.prog 191 #[.agg #[.bool nr,.slice ar mr cr,.slice br kr dr]] w fun e w'=>∃v,e=.returned v/\(OutR (nm (tp pr qr) (tq qr)) (dn (tp pr qr) (tq qr)) (2*(Br+2))) v w'/\Below w.heap.size w w':=by
 obtain⟨w0,e0,hx,hz,hb⟩:=boxz w (.cells #[.bool nr,.slice ar mr cr,.slice br kr dr] 47);obtain⟨_,x0,x1,x2,_,_,_⟩:=ach hx;have E0:=hide e0;have K1:=hide (aqg w0 Br (by omega) nr ar mr cr rs pr ⟨Ar.sl.below hb,Ar.worth⟩ Lr br kr dr rt qr (Sr.below hb) Vr Mr);have HZ:=hide hz;have HB:=hide hb;clear e0 hx hz hb;go_enter Tryz.func191,Tryz.ntmps191
 go_upto_region 1 with fail
 rw[E0.out];go_wp2_with fail
 refine K1.out.mono ?_;rintro e w1 ⟨v1,v2,rfl,h1,h2,hb1⟩;have K2:=hide (ai1 w1 v1 v2 _ _ _ h1 h2 (ad6 _) (by omega));have HB1:=hide (HB.out.trans (hb1.mono HB.out.size));have HZ1:=hide ((hb1.block _ (aaa HZ.out)).trans HZ.out);clear h1 h2 hb1 K1 HB HZ;go_wp2_with fail
 refine K2.out.mono ?_;rintro e w9 ⟨v,rfl,ho,hb9⟩;have HB9:=hide (HB1.out.trans (hb9.mono HB1.out.size));have hz:=(hb9.block _ (aaa HZ1.out)).trans HZ1.out;have HO:=hide ho;obtain⟨ng,a,b,rx,c,d,ry,rfl,_⟩:=ho;obtain⟨_,t0,t1,t2,u0,u1,u2⟩:=ach hz;have HE:=hide (am2 (Nat.le_succ _) hz HB9.out HO.out);clear hz K2 hb9 HO;go_wp2;exact bodyPost_ret (v:=_) (acb (g:=w.heap.size+1) rfl rfl HE.out.2.2) rfl ⟨_,rfl,HE.out.1.to rfl rfl (by omega),HE.out.2.1⟩
theorem aum:Has Tryz.prog 191:=by unfold Has;kernel_rfl
theorem axj{dst:Option Tmp}{ty:TypeId}{pos:String}{after:Array Edge}{guard:Option (Nat×Bool)}{a:Act}{w:World}{ats:Array TypeId}{i:Nat}{Br:Nat}{pr qr:Int}(Hr:IsR pr qr Br (a.eval (.tmp i)) w)(hL:2*(Br+2)<=100000000):
  Does Tryz.prog {dst,op:=.call {callee:=.value (.func 191),args:=#[.tmp i],argTypes:=ats},type:=ty,pos,after,guard} a.eval w fun v w'=>Below w.heap.size w w'/\(OutR (nm (tp pr qr) (tq qr)) (dn (tp pr qr) (tq qr)) (2*(Br+2))) v w':=by
 obtain⟨nr,ar,mr,cr,rs,br,kr,dr,rt,er,Ar,Sr,Vr,Lr,Mr⟩:=Hr;refine aah aum _ (by simp only[List.map_toArray,List.map_cons,List.map_nil,er]) ((a0o w Br _ _ _ _ _ _ Ar Lr _ _ _ _ _ Sr Vr Mr hL).mono ?_);rintro e w' ⟨v,rfl,h1,hb⟩;exact⟨_,rfl,hb,h1⟩
theorem a2v(w:World)(Br:Nat)(nr:Bool)(ar:Option Addr)(mr cr:Nat)(rs:List Int)(pr:Int)(Ar:Ag w nr ar mr cr rs pr)(Lr:rs.length<=Br)(br:Option Addr)(kr dr:Nat)(rt:List Int)(qr:Int)(Sr:Sl w (.slice br kr dr) rt)(Vr:val rt=qr)(Mr:rt.length<=Br)(Bu:Nat)(nu:Bool)(au:Option Addr)(mu cu:Nat)(us:List Int)(pu:Int)(Au:Ag w nu au mu cu us pu)(Lu:us.length<=Bu)(bu:Option Addr)(ku du:Nat)(ut:List Int)(qu:Int)(Su:Sl w (.slice bu ku du) ut)(Vu:val ut=qu)(Mu:ut.length<=Bu)(hL:2*(Br+Bu+4)<=100000000):
  Calls Tryz.prog 51 #[.agg #[.bool nr,.slice ar mr cr,.slice br kr dr],.agg #[.bool nu,.slice au mu cu,.slice bu ku du]] w fun e w'=>∃v,e=.returned v/\(OutR (nm (tp pr qr*tp pu qu) (tq qr*tq qu)) (dn (tp pr qr*tp pu qu) (tq qr*tq qu)) (2*(Br+Bu+4))) v w'/\Below w.heap.size w w':=by
 go_enter Tryz.func51,Tryz.ntmps51
 generalize hA:(Act.mk _ _)=aa;have hn:aa.tmps.size=26:=by rw[<-hA];rfl
 have hd:aa.defers = []:=by rw[<-hA]
 have f0:aa.eval (.tmp 0)=.agg #[.bool nr,.slice ar mr cr,.slice br kr dr]:=by rw[<-hA];rfl
 have f1:aa.eval (.tmp 1)=.agg #[.bool nu,.slice au mu cu,.slice bu ku du]:=by rw[<-hA];rfl
 clear hA;have HB:Below w.heap.size w w:=Below.refl _ _;have Dr:Ag w false br kr dr rt qr:=⟨Sr,Vr⟩;have Du:Ag w false bu ku du ut qu:=⟨Su,Vu⟩;refine wp_seq ?_;refine aa2 [some 2,some 3,some 4] [Tt,Tt,Tt] [⟨R3,some 0,0,2,.agg #[.bool nr,.slice ar mr cr,.slice br kr dr],none,[]⟩,⟨R3,some 1,0,3,.agg #[.bool nu,.slice au mu cu,.slice bu ku du],none,[]⟩,⟨R3,some 2,0,4,.agg #[.bool false,.slice none 0 0,.slice none 0 0],none,[]⟩] [] (by kernel_rfl) hn rfl (by kernel_rfl) (by kernel_rfl) (by kernel_rfl) (by kernel_rfl) (by kernel_rfl) (by kernel_rfl) ⟨True.mono4,True.mono4,True.mono4,trivial⟩ (aaz R3ok (aaz R3ok (aaz R3ok aa8))) (IsOld.all (bx:=[⟨R3,some 0,0,2,.agg #[.bool nr,.slice ar mr cr,.slice br kr dr],none,[]⟩,⟨R3,some 1,0,3,.agg #[.bool nu,.slice au mu cu,.slice bu ku du],none,[]⟩,⟨R3,some 2,0,4,.agg #[.bool false,.slice none 0 0,.slice none 0 0],none,[]⟩]) ⟨someNe,someNe,someNe,trivial⟩) (DisOld.all (bx:=[⟨R3,some 0,0,2,.agg #[.bool nr,.slice ar mr cr,.slice br kr dr],none,[]⟩,⟨R3,some 1,0,3,.agg #[.bool nu,.slice au mu cu,.slice bu ku du],none,[]⟩,⟨R3,some 2,0,4,.agg #[.bool false,.slice none 0 0,.slice none 0 0],none,[]⟩]) ⟨someNe,someNe,someNe,trivial⟩) ?_ ?_
 ·exact⟨.alloc 0 _ rfl rfl (.inr ⟨_,rfl,ajl,fun a_ hR=>(hR 0 rfl).trans f0⟩) rfl rfl rfl rfl rfl,.alloc 1 _ rfl rfl (.inr ⟨_,rfl,ajl,fun a_ hR=>(hR 1 rfl).trans f1⟩) rfl rfl rfl rfl rfl,.alloc 2 _ rfl rfl (.inl ⟨rfl,rfl⟩) rfl rfl rfl rfl rfl,trivial⟩
 ·intro a1 w1 gs1 hn1 hd1 hBt hr hR hP hX hU;replace hn:=hn1;replace hd:=hd1.trans hd;have ne2_4:gs1 0≠gs1 2:=hU 0 2 (by simp) (by simp) (by decide);have ne3_4:gs1 1≠gs1 2:=hU 1 2 (by simp) (by simp) (by decide);have b2:BoxV R3 w1 (gs1 0) (.agg #[.bool nr,.slice ar mr cr,.slice br kr dr]):=(hX 0 _ rfl).2.2.2;have f2:=(hX 0 _ rfl).1;have u2:w.heap.size<=gs1 0:=Nat.le_trans HB.size ((hX 0 _ rfl).2.2.1 (by simp));have b3:BoxV R3 w1 (gs1 1) (.agg #[.bool nu,.slice au mu cu,.slice bu ku du]):=(hX 1 _ rfl).2.2.2;have f3:=(hX 1 _ rfl).1;have u3:w.heap.size<=gs1 1:=Nat.le_trans HB.size ((hX 1 _ rfl).2.2.1 (by simp));have b4:BoxV R3 w1 (gs1 2) (.agg #[.bool false,.slice none 0 0,.slice none 0 0]):=(hX 2 _ rfl).2.2.2;have f4:=(hX 2 _ rfl).1;have u4:w.heap.size<=gs1 2:=Nat.le_trans HB.size ((hX 2 _ rfl).2.2.1 (by simp));replace Ar:=Ar.rl hr;replace Sr:=Sr.rl hr;replace Dr:=Dr.rl hr;replace Au:=Au.rl hr;replace Su:=Su.rl hr;replace Du:=Du.rl hr;replace HB:=HB.trans (hBt.below HB.size (UpOld.all (bx:=[⟨R3,some 0,0,2,.agg #[.bool nr,.slice ar mr cr,.slice br kr dr],none,[]⟩,⟨R3,some 1,0,3,.agg #[.bool nu,.slice au mu cu,.slice bu ku du],none,[]⟩,⟨R3,some 2,0,4,.agg #[.bool false,.slice none 0 0,.slice none 0 0],none,[]⟩]) ⟨someNe,someNe,someNe,trivial⟩));clear hBt hr hR hP hX hU;refine wp_seq ?_;refine aa2 [some 10,some 11,some 9,some 12,some 13,some 5,some 6,none,none] [Eqs (.agg #[.bool nr,.slice ar mr cr,.slice br kr dr]),Tup2 (IsW ((tp pr qr)) ((Br)+2)) (IsW ((tq qr)) ((Br)+2)),Tup2 (IsW ((tp pr qr)) ((Br)+2)) (IsW ((tq qr)) ((Br)+2)),IsW ((tp pr qr)) ((Br)+2),IsW ((tq qr)) ((Br)+2),Tt,Tt,Tt,Tt] [⟨W2,some 5,0,5,.agg #[.bool false,.slice none 0 0],some (7,12,3),[]⟩,⟨W2,some 6,0,6,.agg #[.bool false,.slice none 0 0],some (8,13,4),[]⟩] [] (by kernel_rfl) hn rfl (by kernel_rfl) (by kernel_rfl) (by kernel_rfl) (by kernel_rfl) (by kernel_rfl) (by kernel_rfl) ⟨Eqs.mono4 _,Tup2.mono4 (IsW.mono4 _ _) (IsW.mono4 _ _),Tup2.mono4 (IsW.mono4 _ _) (IsW.mono4 _ _),IsW.mono4 _ _,IsW.mono4 _ _,True.mono4,True.mono4,True.mono4,True.mono4,trivial⟩ (aaz W2ok (aaz W2ok aa8)) (IsOld.all (bx:=[⟨W2,some 5,0,5,.agg #[.bool false,.slice none 0 0],some (7,12,3),[]⟩,⟨W2,some 6,0,6,.agg #[.bool false,.slice none 0 0],some (8,13,4),[]⟩]) ⟨someNe,someNe,trivial⟩) (DisOld.all (bx:=[⟨W2,some 5,0,5,.agg #[.bool false,.slice none 0 0],some (7,12,3),[]⟩,⟨W2,some 6,0,6,.agg #[.bool false,.slice none 0 0],some (8,13,4),[]⟩]) ⟨someNe,someNe,trivial⟩) ?_ ?_
  ·exact⟨.norm 10 rfl rfl rfl (fun a_ w_ _ t r R D _ _=>abh R3ok ((R 2 rfl).trans f2) (b2.keep t ⟨someNe,someNe,trivial⟩)),.norm 11 rfl rfl rfl (fun a_ w_ _ t r R D _ _=>aiy (ahe (show a_.eval (.tmp 10)=.agg #[.bool nr,.slice ar mr cr,.slice br kr dr]from D 0 rfl) (Ar.rl r) (Sr.rl r) Vr Lr Mr) (by omega)),.norm 9 rfl rfl rfl (fun a_ w_ _ t r R D _ _=>aee (p:=Tup2 (IsW ((tp pr qr)) ((Br)+2)) (IsW ((tq qr)) ((Br)+2))) (show Tup2 (IsW ((tp pr qr)) ((Br)+2)) (IsW ((tq qr)) ((Br)+2)) (a_.eval (.tmp 11)) w_ from D 1 rfl)),.norm 12 rfl rfl rfl (fun a_ w_ _ t r R D _ _=>ahy (show Tup2 (IsW ((tp pr qr)) ((Br)+2)) (IsW ((tq qr)) ((Br)+2)) (a_.eval (.tmp 9)) w_ from D 2 rfl)),.norm 13 rfl rfl rfl (fun a_ w_ _ t r R D _ _=>ahz (show Tup2 (IsW ((tp pr qr)) ((Br)+2)) (IsW ((tq qr)) ((Br)+2)) (a_.eval (.tmp 9)) w_ from D 2 rfl)),.alloc 0 _ rfl rfl (.inl ⟨rfl,rfl⟩) rfl rfl rfl rfl rfl,.alloc 1 _ rfl rfl (.inl ⟨rfl,rfl⟩) rfl rfl rfl rfl rfl,.store 0 _ _ _ rfl rfl rfl rfl rfl rfl rfl (fun ia h=>by cases h;rfl) rfl rfl rfl IsW.cs,.store 1 _ _ _ rfl rfl rfl rfl rfl rfl rfl (fun ia h=>by cases h;rfl) rfl rfl rfl IsW.cs,trivial⟩
  ·intro a2 w2 gs2 hn2 hd2 hBt hr hR hP hX hU;replace hn:=hn2;replace hd:=hd2.trans hd;have ne4_5:(gs1 2)≠gs2 0:=by have h1:=b4.lt;have h2:=(hX 0 _ rfl).2.2.1 (by simp);omega
   have ne4_6:(gs1 2)≠gs2 1:=by have h1:=b4.lt;have h2:=(hX 1 _ rfl).2.2.1 (by simp);omega
   replace b3:=b3.keep hBt ⟨someNe,someNe,trivial⟩;replace b4:=b4.keep hBt ⟨someNe,someNe,trivial⟩;obtain⟨n_3,a_3,m_3,c_3,r_3,e12,A3,l3⟩:IsW ((tp pr qr)) ((Br)+2) (a2.eval (.tmp 12)) w2:=hP 3 (by decide);have b5:BoxV W2 w2 (gs2 0) (.agg #[.bool n_3,.slice a_3 m_3 c_3]):=ac3 (hX 0 _ rfl).2.2.2 e12;have f5:=(hX 0 _ rfl).1;have u5:w.heap.size<=gs2 0:=Nat.le_trans HB.size ((hX 0 _ rfl).2.2.1 (by simp));obtain⟨n_4,a_4,m_4,c_4,r_4,e13,A4,l4⟩:IsW ((tq qr)) ((Br)+2) (a2.eval (.tmp 13)) w2:=hP 4 (by decide);have b6:BoxV W2 w2 (gs2 1) (.agg #[.bool n_4,.slice a_4 m_4 c_4]):=ac3 (hX 1 _ rfl).2.2.2 e13;have f6:=(hX 1 _ rfl).1;have u6:w.heap.size<=gs2 1:=Nat.le_trans HB.size ((hX 1 _ rfl).2.2.1 (by simp));replace f3:=(hR 3 rfl).trans f3;replace f4:=(hR 4 rfl).trans f4;replace Ar:=Ar.rl hr;replace Sr:=Sr.rl hr;replace Dr:=Dr.rl hr;replace Au:=Au.rl hr;replace Su:=Su.rl hr;replace Du:=Du.rl hr;replace HB:=HB.trans (hBt.below HB.size (UpOld.all (bx:=[⟨W2,some 5,0,5,.agg #[.bool false,.slice none 0 0],some (7,12,3),[]⟩,⟨W2,some 6,0,6,.agg #[.bool false,.slice none 0 0],some (8,13,4),[]⟩]) ⟨someNe,someNe,trivial⟩));clear hBt hr hR hP hX hU;refine wp_seq ?_;refine aa2 [some 15,some 16,some 14,some 17,some 18,some 7,some 8,none,none] [Eqs (.agg #[.bool nu,.slice au mu cu,.slice bu ku du]),Tup2 (IsW ((tp pu qu)) ((Bu)+2)) (IsW ((tq qu)) ((Bu)+2)),Tup2 (IsW ((tp pu qu)) ((Bu)+2)) (IsW ((tq qu)) ((Bu)+2)),IsW ((tp pu qu)) ((Bu)+2),IsW ((tq qu)) ((Bu)+2),Tt,Tt,Tt,Tt] [⟨W2,some 5,0,7,.agg #[.bool false,.slice none 0 0],some (7,17,3),[]⟩,⟨W2,some 6,0,8,.agg #[.bool false,.slice none 0 0],some (8,18,4),[]⟩] [] (by kernel_rfl) hn rfl (by kernel_rfl) (by kernel_rfl) (by kernel_rfl) (by kernel_rfl) (by kernel_rfl) (by kernel_rfl) ⟨Eqs.mono4 _,Tup2.mono4 (IsW.mono4 _ _) (IsW.mono4 _ _),Tup2.mono4 (IsW.mono4 _ _) (IsW.mono4 _ _),IsW.mono4 _ _,IsW.mono4 _ _,True.mono4,True.mono4,True.mono4,True.mono4,trivial⟩ (aaz W2ok (aaz W2ok aa8)) (IsOld.all (bx:=[⟨W2,some 5,0,7,.agg #[.bool false,.slice none 0 0],some (7,17,3),[]⟩,⟨W2,some 6,0,8,.agg #[.bool false,.slice none 0 0],some (8,18,4),[]⟩]) ⟨someNe,someNe,trivial⟩) (DisOld.all (bx:=[⟨W2,some 5,0,7,.agg #[.bool false,.slice none 0 0],some (7,17,3),[]⟩,⟨W2,some 6,0,8,.agg #[.bool false,.slice none 0 0],some (8,18,4),[]⟩]) ⟨someNe,someNe,trivial⟩) ?_ ?_
   ·exact⟨.norm 15 rfl rfl rfl (fun a_ w_ _ t r R D _ _=>abh R3ok ((R 3 rfl).trans f3) (b3.keep t ⟨someNe,someNe,trivial⟩)),.norm 16 rfl rfl rfl (fun a_ w_ _ t r R D _ _=>aiy (ahe (show a_.eval (.tmp 15)=.agg #[.bool nu,.slice au mu cu,.slice bu ku du]from D 0 rfl) (Au.rl r) (Su.rl r) Vu Lu Mu) (by omega)),.norm 14 rfl rfl rfl (fun a_ w_ _ t r R D _ _=>aee (p:=Tup2 (IsW ((tp pu qu)) ((Bu)+2)) (IsW ((tq qu)) ((Bu)+2))) (show Tup2 (IsW ((tp pu qu)) ((Bu)+2)) (IsW ((tq qu)) ((Bu)+2)) (a_.eval (.tmp 16)) w_ from D 1 rfl)),.norm 17 rfl rfl rfl (fun a_ w_ _ t r R D _ _=>ahy (show Tup2 (IsW ((tp pu qu)) ((Bu)+2)) (IsW ((tq qu)) ((Bu)+2)) (a_.eval (.tmp 14)) w_ from D 2 rfl)),.norm 18 rfl rfl rfl (fun a_ w_ _ t r R D _ _=>ahz (show Tup2 (IsW ((tp pu qu)) ((Bu)+2)) (IsW ((tq qu)) ((Bu)+2)) (a_.eval (.tmp 14)) w_ from D 2 rfl)),.alloc 0 _ rfl rfl (.inl ⟨rfl,rfl⟩) rfl rfl rfl rfl rfl,.alloc 1 _ rfl rfl (.inl ⟨rfl,rfl⟩) rfl rfl rfl rfl rfl,.store 0 _ _ _ rfl rfl rfl rfl rfl rfl rfl (fun ia h=>by cases h;rfl) rfl rfl rfl IsW.cs,.store 1 _ _ _ rfl rfl rfl rfl rfl rfl rfl (fun ia h=>by cases h;rfl) rfl rfl rfl IsW.cs,trivial⟩
   ·intro a5 w5 gs5 hn5 hd5 hBt hr hR hP hX hU;replace hn:=hn5;replace hd:=hd5.trans hd;have ne4_7:(gs1 2)≠gs5 0:=by have h1:=b4.lt;have h2:=(hX 0 _ rfl).2.2.1 (by simp);omega
    have ne4_8:(gs1 2)≠gs5 1:=by have h1:=b4.lt;have h2:=(hX 1 _ rfl).2.2.1 (by simp);omega
    replace b4:=b4.keep hBt ⟨someNe,someNe,trivial⟩;replace b5:=b5.keep hBt ⟨someNe,someNe,trivial⟩;replace b6:=b6.keep hBt ⟨someNe,someNe,trivial⟩;obtain⟨n_6,a_6,m_6,c_6,r_6,e17,A6,l6⟩:IsW ((tp pu qu)) ((Bu)+2) (a5.eval (.tmp 17)) w5:=hP 3 (by decide);have b7:BoxV W2 w5 (gs5 0) (.agg #[.bool n_6,.slice a_6 m_6 c_6]):=ac3 (hX 0 _ rfl).2.2.2 e17;have f7:=(hX 0 _ rfl).1;have u7:w.heap.size<=gs5 0:=Nat.le_trans HB.size ((hX 0 _ rfl).2.2.1 (by simp));obtain⟨n_7,a_7,m_7,c_7,r_7,e18,A7,l7⟩:IsW ((tq qu)) ((Bu)+2) (a5.eval (.tmp 18)) w5:=hP 4 (by decide);have b8:BoxV W2 w5 (gs5 1) (.agg #[.bool n_7,.slice a_7 m_7 c_7]):=ac3 (hX 1 _ rfl).2.2.2 e18;have f8:=(hX 1 _ rfl).1;have u8:w.heap.size<=gs5 1:=Nat.le_trans HB.size ((hX 1 _ rfl).2.2.1 (by simp));replace f4:=(hR 4 rfl).trans f4;replace f5:=(hR 5 rfl).trans f5;replace f6:=(hR 6 rfl).trans f6;replace Ar:=Ar.rl hr;replace Sr:=Sr.rl hr;replace Dr:=Dr.rl hr;replace Au:=Au.rl hr;replace Su:=Su.rl hr;replace Du:=Du.rl hr;replace A3:=A3.rl hr;replace A4:=A4.rl hr;replace HB:=HB.trans (hBt.below HB.size (UpOld.all (bx:=[⟨W2,some 5,0,7,.agg #[.bool false,.slice none 0 0],some (7,17,3),[]⟩,⟨W2,some 6,0,8,.agg #[.bool false,.slice none 0 0],some (8,18,4),[]⟩]) ⟨someNe,someNe,trivial⟩));clear hBt hr hR hP hX hU;refine wp_seq ?_;refine aa2 [some 19,some 20,some 21,some 22,some 23,some 24,some 25,none] [Eqs (.agg #[.bool n_3,.slice a_3 m_3 c_3]),Eqs (.agg #[.bool n_6,.slice a_6 m_6 c_6]),OutW (((tp pr qr)*(tp pu qu))) (((Br)+2)+((Bu)+2)),Eqs (.agg #[.bool n_4,.slice a_4 m_4 c_4]),Eqs (.agg #[.bool n_7,.slice a_7 m_7 c_7]),OutW (((tq qr)*(tq qu))) (((Br)+2)+((Bu)+2)),OutR ((nm ((tp pr qr)*(tp pu qu)) ((tq qr)*(tq qu)))) ((dn ((tp pr qr)*(tp pu qu)) ((tq qr)*(tq qu)))) ((((Br)+2)+((Bu)+2))+(((Br)+2)+((Bu)+2))),Tt] [⟨R3,none,(gs1 2),4,.agg #[.bool false,.slice none 0 0,.slice none 0 0],some (7,25,6),[]⟩] [] (by kernel_rfl) hn rfl (by kernel_rfl) (by kernel_rfl) (by kernel_rfl) (by kernel_rfl) (by kernel_rfl) (by kernel_rfl) ⟨Eqs.mono4 _,Eqs.mono4 _,OutW.mono4 _ _,Eqs.mono4 _,Eqs.mono4 _,OutW.mono4 _ _,OutR.mono4 _ _ _,True.mono4,trivial⟩ (aaz R3ok aa8) (IsOld.all (bx:=[⟨R3,none,(gs1 2),4,.agg #[.bool false,.slice none 0 0,.slice none 0 0],some (7,25,6),[]⟩]) ⟨fun _=>⟨f4,b4⟩,trivial⟩) (DisOld.all (bx:=[⟨R3,none,(gs1 2),4,.agg #[.bool false,.slice none 0 0,.slice none 0 0],some (7,25,6),[]⟩]) ⟨fun _=>trivial,trivial⟩) ?_ ?_
    ·exact⟨.norm 19 rfl rfl rfl (fun a_ w_ _ t r R D _ _=>abh W2ok ((R 5 rfl).trans f5) (b5.keep t ⟨fun _=>ne4_5,trivial⟩)),.norm 20 rfl rfl rfl (fun a_ w_ _ t r R D _ _=>abh W2ok ((R 7 rfl).trans f7) (b7.keep t ⟨fun _=>ne4_7,trivial⟩)),.norm 21 rfl rfl rfl (fun a_ w_ _ t r R D _ _=>at0 (adp (show a_.eval (.tmp 19)=.agg #[.bool n_3,.slice a_3 m_3 c_3]from D 0 rfl) (A3.rl r) l3) (adp (show a_.eval (.tmp 20)=.agg #[.bool n_6,.slice a_6 m_6 c_6]from D 1 rfl) (A6.rl r) l6) (by omega) (by omega)),.norm 22 rfl rfl rfl (fun a_ w_ _ t r R D _ _=>abh W2ok ((R 6 rfl).trans f6) (b6.keep t ⟨fun _=>ne4_6,trivial⟩)),.norm 23 rfl rfl rfl (fun a_ w_ _ t r R D _ _=>abh W2ok ((R 8 rfl).trans f8) (b8.keep t ⟨fun _=>ne4_8,trivial⟩)),.norm 24 rfl rfl rfl (fun a_ w_ _ t r R D _ _=>at0 (adp (show a_.eval (.tmp 22)=.agg #[.bool n_4,.slice a_4 m_4 c_4]from D 3 rfl) (A4.rl r) l4) (adp (show a_.eval (.tmp 23)=.agg #[.bool n_7,.slice a_7 m_7 c_7]from D 4 rfl) (A7.rl r) l7) (by omega) (by omega)),.norm 25 rfl rfl rfl (fun a_ w_ _ t r R D _ _=>auk (show OutW (((tp pr qr)*(tp pu qu))) (((Br)+2)+((Bu)+2)) (a_.eval (.tmp 21)) w_ from D 2 rfl).is (show OutW (((tq qr)*(tq qu))) (((Br)+2)+((Bu)+2)) (a_.eval (.tmp 24)) w_ from D 5 rfl).is (by omega) (a2t (ad6 _) (ad6 _))),.store 0 _ _ _ rfl rfl rfl rfl rfl rfl rfl (fun ia h=>by cases h) rfl rfl rfl OutR.cs,trivial⟩
    ·intro a8 w8 gs8 hn8 hd8 hBt hr hR hP hX hU;replace hn:=hn8;replace hd:=hd8.trans hd;obtain⟨n_9,a_9,c_9,r_9,b_9,d_9,s_9,e25,G9,K9,l9,k9⟩:OutR ((nm ((tp pr qr)*(tp pu qu)) ((tq qr)*(tq qu)))) ((dn ((tp pr qr)*(tp pu qu)) ((tq qr)*(tq qu)))) ((((Br)+2)+((Bu)+2))+(((Br)+2)+((Bu)+2))) (a8.eval (.tmp 25)) w8:=hP 6 (by decide);have A9:=G9.ag;have S9:=K9.sl;have V9:=K9.val;have b4:BoxV R3 w8 ((gs1 2)) (.agg #[.bool n_9,.slice a_9 r_9.length c_9,.slice b_9 s_9.length d_9]):=acw ((hX 0 _ rfl).2.1 rfl) (hX 0 _ rfl).2.2.2 e25;replace f4:a8.eval (.tmp 4)=_:=(hR 4 rfl).trans f4;replace Ar:=Ar.rl hr;replace Sr:=Sr.rl hr;replace Dr:=Dr.rl hr;replace Au:=Au.rl hr;replace Su:=Su.rl hr;replace Du:=Du.rl hr;replace A3:=A3.rl hr;replace A4:=A4.rl hr;replace A6:=A6.rl hr;replace A7:=A7.rl hr;replace HB:=HB.trans (hBt.below HB.size (UpOld.all (bx:=[⟨R3,none,(gs1 2),4,.agg #[.bool false,.slice none 0 0,.slice none 0 0],some (7,25,6),[]⟩]) ⟨fun _=>u4,trivial⟩));clear hBt hr hR hP hX hU;refine wp_ret ?_;repeat(first|refine adb ?_|refine acf ?_|refine acx ?_)
     exact bodyPost_ret (v:=.agg #[.bool n_9,.slice a_9 r_9.length c_9,.slice b_9 s_9.length d_9]) (acb rfl f4 (azk b4)) hd ⟨_,rfl,OutR.to (a0h rfl G9 K9 l9 k9) rfl rfl (by omega),HB⟩
set_option maxRecDepth 100000 in
theorem a38(w:World)(Bx:Nat)(nx:Bool)(ax:Option Addr)(mx cx:Nat)(xs:List Int)(zx:Int)(Ax:Ag w nx ax mx cx xs zx)(Lx:xs.length<=Bx)(By:Nat)(ny:Bool)(ay:Option Addr)(my cy:Nat)(ys:List Int)(zy:Int)(Ay:Ag w ny ay my cy ys zy)(Ly:ys.length<=By)(hL:Bx+By<=100000000)(hy:zy≠0):
  Calls Tryz.prog 84 #[.agg #[.bool nx,.slice ax mx cx],.agg #[.bool ny,.slice ay my cy]] w fun e w'=>∃v,e=.returned v/\(Tup2 (OutR (nm zx zy) (dn zx zy) (Bx+By)) (Eqs (.int .i64 0))) v w'/\Below w.heap.size w w':=by
 obtain⟨w0,e0,hx,hy0,hz,hb⟩:=boxzz w (.cells #[.bool nx,.slice ax mx cx] 45) (.cells #[.bool ny,.slice ay my cy] 45);obtain⟨_,y0,y1,_,_⟩:=aaf hy0;have E0:=hide e0;have K1:=hide (aha w0 ny ay my cy ys zy ⟨Ay.sl.below hb,Ay.worth⟩ (by omega) (Int.sign zy) rfl);have hs:(Int.sign zy==0)=false:=by simp[hy]
 have HX:=hide hx;have HY:=hide hy0;have HZ:=hide hz;have HB:=hide hb;clear e0 hx hy0 hz hb;go_enter Tryz.func84,Tryz.ntmps84
 go_upto_region 1 with fail
 rw[E0.out];go_wp2_with fail
 refine K1.out.mono ?_;rintro e w1 ⟨rfl,hb1⟩;have HB1:=hide (HB.out.trans (hb1.mono HB.out.size));have HZ1:=hide ((hb1.block _ (aaa HZ.out)).trans HZ.out);obtain⟨_,x0,x1,_,_⟩:=aaf ((hb1.block _ (aaa HX.out)).trans HX.out);replace y0:=(hb1.cell (p:=⟨w.heap.size+1,0,none⟩) (aax y0)).trans y0;replace y1:=(hb1.cell (p:=⟨w.heap.size+1,1,none⟩) (aax y1)).trans y1;have K2:=hide (ai1 w1 (.agg #[.bool nx,.slice ax mx cx]) (.agg #[.bool ny,.slice ay my cy]) zx zy (Bx+By) ⟨_,_,_,_,_,rfl,⟨Ax.sl.below HB1.out,Ax.worth⟩,by omega⟩ ⟨_,_,_,_,_,rfl,⟨Ay.sl.below HB1.out,Ay.worth⟩,by omega⟩ hy hL);clear hb1 K1 HB HZ HX HY;go_wp2_with fail
 refine K2.out.mono ?_;rintro e w9 ⟨v,rfl,ho,hb9⟩;have HB9:=hide (HB1.out.trans (hb9.mono HB1.out.size));have hz:=(hb9.block _ (aaa HZ1.out)).trans HZ1.out;have HO:=hide ho;obtain⟨ng,a,b,rx,c,d,ry,rfl,_⟩:=ho;obtain⟨_,t0,t1,t2,u0,u1,u2⟩:=ach hz;have HE:=hide (am2 (Nat.le_add_right _ 2) hz HB9.out HO.out);clear hz K2 hb9 HO;go_wp2;exact bodyPost_ret (v:=_) (ajk (g:=w.heap.size+2) rfl rfl HE.out.2.2 rfl) rfl ⟨_,rfl,⟨_,_,rfl,HE.out.1,rfl⟩,HE.out.2.1⟩
set_option maxRecDepth 100000 in
theorem a2w(w:World)(Bx:Nat)(nx:Bool)(ax:Option Addr)(mx cx:Nat)(xs:List Int)(zx:Int)(_Ax:Ag w nx ax mx cx xs zx)(Lx:xs.length<=Bx)(By:Nat)(ny:Bool)(ay:Option Addr)(my cy:Nat)(ys:List Int)(zy:Int)(Ay:Ag w ny ay my cy ys zy)(Ly:ys.length<=By)(hL:Bx+By<=100000000)(hy:zy=0):
  Calls Tryz.prog 84 #[.agg #[.bool nx,.slice ax mx cx],.agg #[.bool ny,.slice ay my cy]] w fun e w'=>∃v,e=.returned v/\(Tup2 (Eqs (.agg #[.bool false,.slice none 0 0,.slice none 0 0])) (Eqs (.int .i64 20))) v w'/\Below w.heap.size w w':=by
 obtain⟨w0,e0,hx,hy0,hz,hb⟩:=boxzz w (.cells #[.bool nx,.slice ax mx cx] 45) (.cells #[.bool ny,.slice ay my cy] 45);obtain⟨_,y0,y1,_,_⟩:=aaf hy0;have E0:=hide e0;have K1:=hide (aha w0 ny ay my cy ys zy ⟨Ay.sl.below hb,Ay.worth⟩ (by omega) (Int.sign zy) rfl);have hs:(Int.sign zy==0)=true:=by simp[hy]
 have HX:=hide hx;have HY:=hide hy0;have HZ:=hide hz;have HB:=hide hb;clear e0 hx hy0 hz hb;go_enter Tryz.func84,Tryz.ntmps84
 go_upto_region 1 with fail
 rw[E0.out];go_wp2_with fail
 refine K1.out.mono ?_;rintro e w1 ⟨rfl,hb1⟩;have HB1:=hide (HB.out.trans (hb1.mono HB.out.size));have HZ1:=hide ((hb1.block _ (aaa HZ.out)).trans HZ.out);obtain⟨_,t0,t1,t2,u0,u1,u2⟩:=ach HZ1.out;have HE:=hide (aul false none 0 0 none 0 0 (Nat.le_add_right _ 2) HZ1.out HB1.out);clear hb1 K1 HB HZ HX HY HB1 HZ1;go_wp2;exact bodyPost_ret (v:=_) (ajk (g:=w.heap.size+2) rfl rfl HE.out.2 rfl) rfl ⟨_,rfl,⟨_,_,rfl,rfl,rfl⟩,HE.out.1⟩
end Lm
namespace Lm
open Go.RowKit
structure Fr (B T:Nat) (w:World) (ao:Option Addr) (cap:Nat) (rs:List Int) (x:Int):Prop where
 ow:Ow B w (.slice ao rs.length cap) rs
 canon:Canon rs
 val:val rs=x
 lies:0<cap->∀g off,ao=some ⟨g,off,none⟩->B<=g/\g<T
theorem Is.fr{B:Nat}{w:World}{v:Value}{x:Int}(h:Is B w v x):∃ao cap rs,v=.slice ao rs.length cap/\Fr B w.heap.size w ao cap rs x:=by
 obtain⟨rs,ho,hc,hv⟩:=h;obtain⟨ao,cap,rfl,h1,h2,h3,h4⟩:=ho;refine⟨ao,cap,rs,rfl,⟨ao,cap,rfl,h1,h2,h3,h4⟩,hc,hv,?_⟩;intro h0 g off e;rcases h4 with h4|⟨g',off',cur,e',hB,hh,_⟩
 ·omega
 ·rw[e']at e;simp only[Option.some.injEq,Addr.mk.injEq,and_true]at e;have:=aaa hh;omega
theorem Fr.got{B T:Nat}{w:World}{ao:Option Addr}{cap:Nat}{rs:List Int}{x:Int}(h:Fr B T w ao cap rs x):Got w ao cap rs x:=⟨h.ow.sl,h.canon,h.val⟩
theorem Fr.kept{B T:Nat}{w w':World}{ao:Option Addr}{cap:Nat}{rs:List Int}{x:Int}(h:Fr B T w ao cap rs x)(hk:∀g,g<w.heap.size->B<=g->g<T->w'.heap[g]? = w.heap[g]?):Fr B T w' ao cap rs x:=by
 obtain⟨ho,hc,hv,hl⟩:=h;refine⟨?_,hc,hv,hl⟩;obtain⟨ao',cap',hv',h1,h2,h3,h4⟩:=ho;obtain⟨rfl,_,rfl⟩:=(Value.slice.injEq .. ▸ hv');refine⟨ao,cap,rfl,h1,h2,h3,?_⟩;rcases h4 with h4|⟨g,off,cur,rfl,hB,hh,r⟩
 ·exact .inl h4
 ·by_cases h0:0<cap
  ·have:=hl h0 g off rfl;exact .inr ⟨g,off,cur,rfl,hB,(hk g (aaa hh) this.1 this.2).trans hh,r⟩
  ·exact .inl (by omega)
theorem Fr.below{B T:Nat}{w w':World}{ao:Option Addr}{cap:Nat}{rs:List Int}{x:Int}(h:Fr B T w ao cap rs x)(hb:Below w.heap.size w w'):Fr B T w' ao cap rs x:=h.kept fun g hg _ _=>hb.block g hg
end Lm
namespace Lm
open Go.RowKit
theorem Is.tight{B:Nat}{w:World}{v:Value}{x:Int}(h:Is B w v x)(hB:B<=w.heap.size):∃ao cap rs B1 T1,v=.slice ao rs.length cap/\Fr B1 T1 w ao cap rs x/\B<=B1/\T1<=w.heap.size/\((cap=0/\T1=B1)\/(0<cap/\T1=B1+1/\∃off,ao=some ⟨B1,off,none⟩)):=by
 obtain⟨rs,ho,hc,hv⟩:=h;obtain⟨ao,cap,rfl,h1,h2,h3,h4⟩:=ho;by_cases h0:cap=0
 ·exact⟨ao,cap,rs,B,B,rfl,⟨⟨ao,cap,rfl,h1,h2,h3,.inl h0⟩,hc,hv,fun h=>by omega⟩,Nat.le_refl _,hB,.inl ⟨h0,rfl⟩⟩
 ·rcases h4 with h4|⟨g,off,cur,rfl,hg,hh,hs,ha⟩
  ·exact absurd h4 h0
  ·refine⟨_,cap,rs,g,g+1,rfl,⟨⟨_,cap,rfl,h1,h2,h3,.inr ⟨g,off,cur,rfl,Nat.le_refl _,hh,hs,ha⟩⟩,hc,hv,fun _ g' off' e=>?_⟩,hg,aaa hh,.inr ⟨by omega,rfl,off,rfl⟩⟩;simp only[Option.some.injEq,Addr.mk.injEq]at e;omega
theorem Is.two{B:Nat}{w:World}{v1 v2:Value}{x1 x2:Int}(h1:Is B w v1 x1)(h2:Is B w v2 x2)(hs:Sep v1 v2)(hB:B<=w.heap.size):∃ao cap rs bo dap ss B1 T1 B2 T2,v1=.slice ao rs.length cap/\v2=.slice bo ss.length dap/\Fr B1 T1 w ao cap rs x1/\Fr B2 T2 w bo dap ss x2/\B<=B1/\T1<=w.heap.size/\B<=B2/\T2<=w.heap.size/\(∀j,B1<=j->j<T1->j<B2\/T2<=j):=by
 obtain⟨ao,cap,rs,B1,T1,rfl,f1,b1,t1,c1⟩:=h1.tight hB;obtain⟨bo,dap,ss,B2,T2,rfl,f2,b2,t2,c2⟩:=h2.tight hB;refine⟨ao,cap,rs,bo,dap,ss,B1,T1,B2,T2,rfl,rfl,f1,f2,b1,t1,b2,t2,fun j hj1 hj2=>?_⟩;rcases c1 with⟨_,c1⟩|⟨p1,c1,off1,rfl⟩
 ·omega
 ·rcases c2 with⟨_,c2⟩|⟨p2,c2,off2,rfl⟩
  ·omega
  ·have:=hs _ _ _ _ _ _ rfl rfl;simp only at this;omega
structure Li (B T:Nat) (w:World) (ao:Option Addr) (cap:Nat) (rs:List Int):Prop where
 ow:Ow B w (.slice ao rs.length cap) rs
 lies:0<cap->∀g off,ao=some ⟨g,off,none⟩->B<=g/\g<T
theorem Fr.li{B T:Nat}{w:World}{ao:Option Addr}{cap:Nat}{rs:List Int}{x:Int}(h:Fr B T w ao cap rs x):Li B T w ao cap rs:=⟨h.ow,h.lies⟩
theorem Li.fr{B T:Nat}{w:World}{ao:Option Addr}{cap:Nat}{rs:List Int}{x:Int}(h:Li B T w ao cap rs)(hg:Got w ao cap rs x):Fr B T w ao cap rs x:=⟨h.ow,hg.canon,hg.val,h.lies⟩
theorem Li.kept{B T:Nat}{w w':World}{ao:Option Addr}{cap:Nat}{rs:List Int}(h:Li B T w ao cap rs)(hk:∀g,g<w.heap.size->B<=g->g<T->w'.heap[g]? = w.heap[g]?):Li B T w' ao cap rs:=by
 obtain⟨ho,hl⟩:=h;refine⟨?_,hl⟩;obtain⟨ao',cap',hv',h1,h2,h3,h4⟩:=ho;obtain⟨rfl,_,rfl⟩:=(Value.slice.injEq .. ▸ hv');refine⟨ao,cap,rfl,h1,h2,h3,?_⟩;rcases h4 with h4|⟨g,off,cur,rfl,hB,hh,r⟩
 ·exact .inl h4
 ·by_cases h0:0<cap
  ·have:=hl h0 g off rfl;exact .inr ⟨g,off,cur,rfl,hB,(hk g (aaa hh) this.1 this.2).trans hh,r⟩
  ·exact .inl (by omega)
theorem Li.below{B T:Nat}{w w':World}{ao:Option Addr}{cap:Nat}{rs:List Int}(h:Li B T w ao cap rs)(hb:Below w.heap.size w w'):Li B T w' ao cap rs:=h.kept fun g hg _ _=>hb.block g hg
theorem Li.set2{B T:Nat}{w:World}{ao:Option Addr}{cap:Nat}{rs:List Int}(h:Li B T w ao cap rs)(k:Nat)(hk:k<B\/T<=k)(b u:Value):Li B T ((w.setCell ⟨k,0,none⟩ b).setCell ⟨k,1,none⟩ u) ao cap rs:=
 h.kept fun g _ h1 h2=>by
  have hne:g≠k:=by omega
  rw[heap_setCell_other _ ⟨k,1,none⟩ g _ hne,heap_setCell_other _ ⟨k,0,none⟩ g _ hne]
theorem ai2(w:World)(a1 a2:Option Addr)(n1 n2 c1 c2:Nat)(xs ys:List Int)(hx:Sl w (.slice a1 n1 c1) xs)(hy:Sl w (.slice a2 n2 c2) ys)(hm1:xs.length<=500000000)(h0:val ys≠0):
  Calls Tryz.prog 113 #[.slice a1 n1 c1,.slice a2 n2 c2] w fun e w'=>∃ao cap rs bo dap ss B1 T1 B2 T2,e=.returned (.tuple #[.slice ao rs.length cap,.slice bo ss.length dap,.bool true])/\Got w' ao cap rs (val xs/val ys)/\Got w' bo dap ss (val xs%val ys)/\rs.length<=xs.length/\ss.length<=ys.length/\Li B1 T1 w' ao cap rs/\Li B2 T2 w' bo dap ss/\(w.heap.size<=B1/\T1<=w'.heap.size/\w.heap.size<=B2/\T2<=w'.heap.size/\∀j,B1<=j->j<T1->j<B2\/T2<=j)/\Below w.heap.size w w':=by
 refine(agi w a1 a2 n1 n2 c1 c2 xs ys hx hy hm1 h0).mono ?_;rintro e w' ⟨v1,v2,rfl,hi1,hi2,hsep,hb⟩;obtain⟨ao,cap,rs,bo,dap,ss,B1,T1,B2,T2,rfl,rfl,f1,f2,x1,x2,x3,x4,x5⟩:=hi1.two hi2 hsep hb.size;have lx:=hx.parts.2.2.2;have ly:=hy.parts.2.2.2;have bx:=aac lx;have bY:=aac ly;refine⟨ao,cap,rs,bo,dap,ss,B1,T1,B2,T2,rfl,f1.got,f2.got,ace lx f1.canon (by rw[f1.val];exact Int.ediv_le_self _ bx.1),ace ly f2.canon (by rw[f2.val];exact Int.le_of_lt (Int.emod_lt_of_pos _ (by omega))),f1.li,f2.li,⟨x1,x2,x3,x4,x5⟩,hb⟩
theorem azm(w:World)(a1 a2:Option Addr)(n1 n2 c1 c2:Nat)(xs ys:List Int)(hx:Sl w (.slice a1 n1 c1) xs)(hy:Sl w (.slice a2 n2 c2) ys)(hm1:xs.length<=1000000000)(hm2:ys.length<=1000000000):
  Calls Tryz.prog 115 #[.slice a1 n1 c1,.slice a2 n2 c2] w fun e w'=>∃ao cap rs,e=.returned (.slice ao rs.length cap)/\Got w' ao cap rs (val xs+val ys)/\rs.length<=xs.length+ys.length+1/\Li w.heap.size w'.heap.size w' ao cap rs/\Below w.heap.size w w':=by
 refine(ap6 w a1 a2 n1 n2 c1 c2 xs ys hx hy hm1 hm2).mono ?_;rintro e w' ⟨v,rfl,hi,hb⟩;obtain⟨ao,cap,rs,rfl,f⟩:=hi.fr;exact⟨ao,cap,rs,rfl,f.got,aqb hx.parts.2.2.2 hy.parts.2.2.2 f.canon f.val,f.li,hb⟩
theorem ar7(w:World)(a1 a2:Option Addr)(n1 n2 c1 c2:Nat)(xs ys:List Int)(hx:Sl w (.slice a1 n1 c1) xs)(hy:Sl w (.slice a2 n2 c2) ys)(hm1:xs.length<=1000000000)(hge:val ys<=val xs):
  Calls Tryz.prog 116 #[.slice a1 n1 c1,.slice a2 n2 c2] w fun e w'=>∃ao cap rs,e=.returned (.tuple #[.slice ao rs.length cap,.bool true])/\Got w' ao cap rs (val xs-val ys)/\rs.length<=xs.length/\Li w.heap.size w'.heap.size w' ao cap rs/\Below w.heap.size w w':=by
 refine(ap8 w a1 a2 n1 n2 c1 c2 xs ys hx hy hm1 hge).mono ?_;rintro e w' ⟨v,rfl,hi,hb⟩;obtain⟨ao,cap,rs,rfl,f⟩:=hi.fr;have:=(aac hy.parts.2.2.2).1;exact⟨ao,cap,rs,rfl,f.got,ace hx.parts.2.2.2 f.canon (by rw[f.val];omega),f.li,hb⟩
end Lm
namespace Lm
open Go.RowKit
theorem aun(w:World)(ao:Option Addr)(n cap:Nat)(zs:List Int)(h:Sl w (.slice ao n cap) zs)(hz:zs.length<=1000000000):
  Calls Tryz.prog 93 #[.slice ao n cap] w fun e w'=>∃ao cap rs,e=.returned (.slice ao rs.length cap)/\Got w' ao cap rs (val zs)/\rs.length<=zs.length/\Li w.heap.size w'.heap.size w' ao cap rs/\Below w.heap.size w w':=by
 refine(ae2 w ao n cap zs h hz).mono ?_;rintro e w' ⟨v,rfl,ho,hb⟩;have hc:=abj h.parts.2.2.2;obtain⟨ao',cap',rs,rfl,f⟩:=(show Is w.heap.size w' v (val zs) from⟨_,ho,hc,aaj zs⟩).fr;refine⟨ao',cap',rs,rfl,f.got,?_,f.li,hb⟩;exact ace h.parts.2.2.2 f.canon (by rw[f.val];exact Int.le_refl _)
theorem a39(w:World)(a1 a2:Option Addr)(n1 n2 c1 c2:Nat)(xs ys:List Int)(hx:Sl w (.slice a1 n1 c1) xs)(hy:Sl w (.slice a2 n2 c2) ys)(hm1:xs.length<=500000000)(hm2:ys.length<=500000000):
  Calls Tryz.prog 108 #[.slice a1 n1 c1,.slice a2 n2 c2] w fun e w'=>∃ao cap rs,e=.returned (.slice ao rs.length cap)/\Got w' ao cap rs (val xs*val ys)/\rs.length<=xs.length+ys.length/\Li w.heap.size w'.heap.size w' ao cap rs/\Below w.heap.size w w':=by
 refine(aqa w a1 a2 n1 n2 c1 c2 xs ys hx hy hm1 hm2).mono ?_;rintro e w' ⟨v,rfl,hi,hb⟩;obtain⟨ao,cap,rs,rfl,f⟩:=hi.fr;exact⟨ao,cap,rs,rfl,f.got,aqc hx.parts.2.2.2 hy.parts.2.2.2 f.canon f.val,f.li,hb⟩
theorem a0p(w:World)(ng:Bool)(ao:Option Addr)(n cap:Nat)(zs:List Int)(h:Sl w (.slice ao n cap) zs)(hz:zs.length<=1000000000):
  Calls Tryz.prog 57 #[.agg #[.bool ng,.slice ao n cap]] w fun e w'=>∃ng' ao cap rs,e=.returned (.agg #[.bool ng',.slice ao rs.length cap])/\Wh w' ng' ao cap rs (sg ng (val zs))/\rs.length<=zs.length/\Li w.heap.size w'.heap.size w' ao cap rs/\Below w.heap.size w w':=by
 obtain⟨w0,e0,bx,br,hb0,hs0⟩:=ac7 w ng (.slice ao n cap);have E0:=hide e0;have h0:=h.below hb0;have HS0:=hide hs0;clear e0 hs0;go_enter Tryz.func57,Tryz.ntmps57
 go_wp2_with fail
 rw[E0.out];obtain⟨c0,c1,f0,f1⟩:=bx.facts;obtain⟨d0,d1,g0,g1⟩:=br.facts;go_region_held3 (fun w'=>w'.cell? ⟨w.heap.size,0,none⟩=some (.bool ng)/\w'.cell? ⟨w.heap.size,1,none⟩=some (.slice ao n cap)) (go_keep) (first
  | (go_at_call 93;refine(aun _ _ _ _ zs (h0.below (by repeat(first|exact Below.refl _ _|refine Below.drew ?_))) hz).mono ?_;rintro e w1 ⟨p1,q1,r1,rfl,G1,l1,o1,hb1⟩;have hb1':Below w0.heap.size w0 w1:=(show Below w0.heap.size w0 _ by repeat(first|exact Below.refl _ _|refine Below.drew ?_)).trans hb1;have bx1:=bx.below hb1';have br1:=br.below hb1';obtain⟨i0,i1,j0,j1⟩:=bx1.facts)
  | (go_at_call 59;refine(aa0 _ _ _ _ r1 _ (G1.below (by repeat(first|exact Below.refl _ _|refine Below.drew ?_))) (by omega)).mono ?_;rintro e w2 ⟨ng2,rfl,G2,hb2⟩;have hb2':Below w1.heap.size w1 w2:=(show Below w1.heap.size w1 _ by repeat(first|exact Below.refl _ _|refine Below.drew ?_)).trans hb2;have bx2:=bx1.below hb2';have br2:=br1.below hb2';obtain⟨k0,k1,m0,m1⟩:=br2.facts;obtain⟨o0,o1,t0,t1⟩:=bx2.facts))
 all_goals
  have X:=hide (br2.set ng2 (.slice p1 r1.length q1)).facts;have Y:=hide (br2.wh ng2 (.slice p1 r1.length q1) G2);have Z:=hide (aam (hb0.trans ((hb1'.trans (hb2'.mono hb1'.size)).mono hb0.size)) (Nat.le_succ _) (.bool ng2) (.slice p1 r1.length q1));clear k0 k1 m0 m1 o0 o1 t0 t1 i0 i1 j0 j1 c0 c1 f0 f1 d0 d1 g0 g1;have hs9:=HS0.out;have o1:Li w0.heap.size w1.heap.size w1 p1 q1 r1:=o1;have s_1:=hb1'.size;have s_2:=hb2'.size;have O1:=hide ((o1.below hb2').set2 (w.heap.size+1) (by omega) (.bool ng2) (.slice p1 r1.length q1));have O2:=hide (show Li w.heap.size _ _ p1 q1 r1 from⟨O1.out.ow.mono (by omega),fun h0 g off e=>by have:=O1.out.lies h0 g off e;exact⟨by omega,Nat.lt_of_lt_of_le this.2 (show w1.heap.size<=((w2.setCell ⟨w.heap.size+1,0,none⟩ (.bool ng2)).setCell ⟨w.heap.size+1,1,none⟩ (.slice p1 r1.length q1)).heap.size by simp[World.setCell];exact s_2)⟩⟩);clear O1;go_wp2;refine bodyPost_ret (v:=.agg #[.bool ng2,.slice p1 r1.length q1]) ?_ rfl ⟨ng2,p1,q1,r1,rfl,Y.out,l1,O2.out,Z.out⟩;simp[results,Tryz.results57,go_sem,X.out.1,X.out.2.1]
theorem a2x(w:World)(ng:Bool)(ao:Option Addr)(n cap:Nat)(zs:List Int)(h:Sl w (.slice ao n cap) zs)(hz:zs.length<=1000000000):
  Calls Tryz.prog 52 #[.agg #[.bool ng,.slice ao n cap]] w fun e w'=>∃ng' ao cap rs,e=.returned (.agg #[.bool ng',.slice ao rs.length cap])/\Wh w' ng' ao cap rs (-sg ng (val zs))/\rs.length<=zs.length/\Li w.heap.size w'.heap.size w' ao cap rs/\Below w.heap.size w w':=by
 obtain⟨w0,e0,bx,br,hb0,hs0⟩:=ac7 w ng (.slice ao n cap);have E0:=hide e0;have h0:=h.below hb0;have HS0:=hide hs0;clear e0 hs0;go_enter Tryz.func52,Tryz.ntmps52
 go_wp2_with fail
 rw[E0.out];obtain⟨c0,c1,f0,f1⟩:=bx.facts;obtain⟨d0,d1,g0,g1⟩:=br.facts;go_region_held3 (fun w'=>w'.cell? ⟨w.heap.size,0,none⟩=some (.bool ng)/\w'.cell? ⟨w.heap.size,1,none⟩=some (.slice ao n cap)) (go_keep) (first
  | (go_at_call 93;refine(aun _ _ _ _ zs (h0.below (by repeat(first|exact Below.refl _ _|refine Below.drew ?_))) hz).mono ?_;rintro e w1 ⟨p1,q1,r1,rfl,G1,l1,o1,hb1⟩;have hb1':Below w0.heap.size w0 w1:=(show Below w0.heap.size w0 _ by repeat(first|exact Below.refl _ _|refine Below.drew ?_)).trans hb1;have bx1:=bx.below hb1';obtain⟨bx1a,bx1b,bx1c,bx1d⟩:=bx1.facts;have br1:=br.below hb1';obtain⟨br1a,br1b,br1c,br1d⟩:=br1.facts)
  | (go_at_call 59;refine(aa0 _ _ _ _ r1 _ (G1.below (by repeat(first|exact Below.refl _ _|refine Below.drew ?_))) (by omega)).mono ?_;rintro e w2 ⟨ng2,rfl,G2,hb2⟩;have hb2':Below w1.heap.size w1 w2:=(show Below w1.heap.size w1 _ by repeat(first|exact Below.refl _ _|refine Below.drew ?_)).trans hb2;have bx2:=bx1.below hb2';obtain⟨bx2a,bx2b,bx2c,bx2d⟩:=bx2.facts;have br2:=br1.below hb2';obtain⟨br2a,br2b,br2c,br2d⟩:=br2.facts))
 all_goals
  have X:=hide (br2.set ng2 (.slice p1 r1.length q1)).facts;have Y:=hide (br2.wh ng2 (.slice p1 r1.length q1) G2);have Z:=hide (aam (hb0.trans ((hb1'.trans (hb2'.mono hb1'.size)).mono hb0.size)) (Nat.le_succ _) (.bool ng2) (.slice p1 r1.length q1));clear bx2a bx2b bx2c bx2d br2a br2b br2c br2d bx1a bx1b bx1c bx1d br1a br1b br1c br1d c0 c1 f0 f1 d0 d1 g0 g1;have hs9:=HS0.out;have o1:Li w0.heap.size w1.heap.size w1 p1 q1 r1:=o1;have s_1:=hb1'.size;have s_2:=hb2'.size;have O1:=hide ((o1.below hb2').set2 (w.heap.size+1) (by omega) (.bool ng2) (.slice p1 r1.length q1));have O2:=hide (show Li w.heap.size _ _ p1 q1 r1 from⟨O1.out.ow.mono (by omega),fun h0 g off e=>by have:=O1.out.lies h0 g off e;exact⟨by omega,Nat.lt_of_lt_of_le this.2 (show w1.heap.size<=((w2.setCell ⟨w.heap.size+1,0,none⟩ (.bool ng2)).setCell ⟨w.heap.size+1,1,none⟩ (.slice p1 r1.length q1)).heap.size by simp[World.setCell];exact s_2)⟩⟩);clear O1;go_wp2;refine bodyPost_ret (v:=.agg #[.bool ng2,.slice p1 r1.length q1]) ?_ rfl ⟨ng2,p1,q1,r1,rfl,by rw[<-amh];exact Y.out,l1,O2.out,Z.out⟩;simp[results,Tryz.results52,go_sem,X.out.1,X.out.2.1]
theorem ar8(w:World)(nx:Bool)(a1:Option Addr)(n1 c1:Nat)(xs:List Int)(hx:Sl w (.slice a1 n1 c1) xs)(a2:Option Addr)(n2 c2:Nat)(ys:List Int)(hy:Sl w (.slice a2 n2 c2) ys)(hm1:xs.length<=400000000)(hm2:ys.length<=400000000):
  Calls Tryz.prog 96 #[.agg #[.bool nx,.slice a1 n1 c1],.bool nx,.slice a2 n2 c2] w fun e w'=>∃ng' ao cap rs,e=.returned (.agg #[.bool ng',.slice ao rs.length cap])/\Wh w' ng' ao cap rs (sg nx (val xs)+sg nx (val ys))/\rs.length<=xs.length+ys.length+1/\Li w.heap.size w'.heap.size w' ao cap rs/\Below w.heap.size w w':=by
 obtain⟨w0,e0,bx,br,hb0,hs0⟩:=ac7 w nx (.slice a1 n1 c1);have E0:=hide e0;have hx0:=hx.below hb0;have hy0:=hy.below hb0;have HS0:=hide hs0;clear e0 hs0;go_enter Tryz.func96,Tryz.ntmps96
 go_wp2_with fail
 rw[E0.out];obtain⟨ca,cb,cc,cd⟩:=bx.facts;obtain⟨da,db,dc,dd⟩:=br.facts;refine(azm _ _ _ _ _ _ _ xs ys hx0 hy0 (by omega) (by omega)).mono ?_;rintro e w1 ⟨p1,q1,r1,rfl,G1,l1,o1,hb1⟩;go_wp2_with fail
 refine(aa0 _ _ _ _ r1 _ G1 (by omega)).mono ?_;rintro e w2 ⟨ng2,rfl,G2,hb2⟩;have br2:=(br.below hb1).below hb2;obtain⟨ka,kb,kc,kd⟩:=br2.facts;have X:=hide (br2.set ng2 (.slice p1 r1.length q1)).facts;have Y:=hide (br2.wh ng2 (.slice p1 r1.length q1) G2);have Z:=hide (aam (hb0.trans ((hb1.trans (hb2.mono hb1.size)).mono hb0.size)) (Nat.le_succ _) (.bool ng2) (.slice p1 r1.length q1))
 skip;have hs9:=HS0.out;have s_1:=hb1.size;have s_2:=hb2.size;have O1:=hide ((o1.below hb2).set2 (w.heap.size+1) (by omega) (.bool ng2) (.slice p1 r1.length q1));have O2:=hide (show Li w.heap.size _ _ p1 q1 r1 from⟨O1.out.ow.mono (by omega),fun h0 g off e=>by have:=O1.out.lies h0 g off e;exact⟨by omega,Nat.lt_of_lt_of_le this.2 (show w1.heap.size<=((w2.setCell ⟨w.heap.size+1,0,none⟩ (.bool ng2)).setCell ⟨w.heap.size+1,1,none⟩ (.slice p1 r1.length q1)).heap.size by simp[World.setCell];exact s_2)⟩⟩);clear O1;go_wp2;refine bodyPost_ret (v:=.agg #[.bool ng2,.slice p1 r1.length q1]) ?_ rfl ⟨ng2,p1,q1,r1,rfl,by rw[<-att];exact Y.out,by omega,O2.out,Z.out⟩;simp[results,Tryz.results96,go_sem,X.out.1,X.out.2.1]
theorem axk(w:World)(nx:Bool)(a1:Option Addr)(n1 c1:Nat)(xs:List Int)(hx:Sl w (.slice a1 n1 c1) xs)(a2:Option Addr)(n2 c2:Nat)(ys:List Int)(hy:Sl w (.slice a2 n2 c2) ys)(hm1:xs.length<=400000000)(hm2:ys.length<=400000000)(hge:val ys<=val xs):
  Calls Tryz.prog 96 #[.agg #[.bool nx,.slice a1 n1 c1],.bool (!nx),.slice a2 n2 c2] w fun e w'=>∃ng' ao cap rs,e=.returned (.agg #[.bool ng',.slice ao rs.length cap])/\Wh w' ng' ao cap rs (sg nx (val xs)+sg (!nx) (val ys))/\rs.length<=xs.length+ys.length+1/\Li w.heap.size w'.heap.size w' ao cap rs/\Below w.heap.size w w':=by
 obtain⟨w0,e0,bx,br,hb0,hs0⟩:=ac7 w nx (.slice a1 n1 c1);have E0:=hide e0;have hx0:=hx.below hb0;have hy0:=hy.below hb0;have HS0:=hide hs0;clear e0 hs0;cases nx
 all_goals
  go_enter Tryz.func96,Tryz.ntmps96
  go_wp2_with fail
  rw[E0.out];obtain⟨ca,cb,cc,cd⟩:=bx.facts;obtain⟨da,db,dc,dd⟩:=br.facts;refine(ar7 _ _ _ _ _ _ _ xs ys hx0 hy0 (by omega) hge).mono ?_;rintro e w1 ⟨p1,q1,r1,rfl,G1,l1,o1,hb1⟩;have bx1:=bx.below hb1;obtain⟨ia,ib,ic,id⟩:=bx1.facts;go_wp2_with fail
  refine(aa0 _ _ _ _ r1 _ G1 (by omega)).mono ?_;rintro e w2 ⟨ng2,rfl,G2,hb2⟩;have br2:=(br.below hb1).below hb2;obtain⟨ka,kb,kc,kd⟩:=br2.facts;have X:=hide (br2.set ng2 (.slice p1 r1.length q1)).facts;have Y:=hide (br2.wh ng2 (.slice p1 r1.length q1) G2);have Z:=hide (aam (hb0.trans ((hb1.trans (hb2.mono hb1.size)).mono hb0.size)) (Nat.le_succ _) (.bool ng2) (.slice p1 r1.length q1))
  skip;have hs9:=HS0.out;have s_1:=hb1.size;have s_2:=hb2.size;have O1:=hide ((o1.below hb2).set2 (w.heap.size+1) (by omega) (.bool ng2) (.slice p1 r1.length q1));have O2:=hide (show Li w.heap.size _ _ p1 q1 r1 from⟨O1.out.ow.mono (by omega),fun h0 g off e=>by have:=O1.out.lies h0 g off e;exact⟨by omega,Nat.lt_of_lt_of_le this.2 (show w1.heap.size<=((w2.setCell ⟨w.heap.size+1,0,none⟩ (.bool ng2)).setCell ⟨w.heap.size+1,1,none⟩ (.slice p1 r1.length q1)).heap.size by simp[World.setCell];exact s_2)⟩⟩);clear O1;go_wp2;refine bodyPost_ret (v:=.agg #[.bool ng2,.slice p1 r1.length q1]) ?_ rfl ⟨ng2,p1,q1,r1,rfl,by rw[<-atu];exact Y.out,by omega,O2.out,Z.out⟩;simp[results,Tryz.results96,go_sem,X.out.1,X.out.2.1]
theorem axl(w:World)(nx:Bool)(a1:Option Addr)(n1 c1:Nat)(xs:List Int)(hx:Sl w (.slice a1 n1 c1) xs)(a2:Option Addr)(n2 c2:Nat)(ys:List Int)(hy:Sl w (.slice a2 n2 c2) ys)(hm1:xs.length<=400000000)(hm2:ys.length<=400000000)(hlt:val xs<val ys):
  Calls Tryz.prog 96 #[.agg #[.bool nx,.slice a1 n1 c1],.bool (!nx),.slice a2 n2 c2] w fun e w'=>∃ng' ao cap rs,e=.returned (.agg #[.bool ng',.slice ao rs.length cap])/\Wh w' ng' ao cap rs (sg nx (val xs)+sg (!nx) (val ys))/\rs.length<=xs.length+ys.length+1/\Li w.heap.size w'.heap.size w' ao cap rs/\Below w.heap.size w w':=by
 obtain⟨w0,e0,bx,br,hb0,hs0⟩:=ac7 w nx (.slice a1 n1 c1);have E0:=hide e0;have hx0:=hx.below hb0;have hy0:=hy.below hb0;have HS0:=hide hs0;clear e0 hs0;cases nx
 all_goals
  go_enter Tryz.func96,Tryz.ntmps96
  go_wp2_with fail
  rw[E0.out];obtain⟨ca,cb,cc,cd⟩:=bx.facts;obtain⟨da,db,dc,dd⟩:=br.facts;refine(ato _ _ _ _ _ _ _ xs ys hx0 hy0 hlt).mono ?_;rintro e w9 ⟨rfl,hb9⟩;have hx9:=hx0.below hb9;have hy9:=hy0.below hb9;have bx9:=bx.below hb9;have br9:=br.below hb9;obtain⟨ia,ib,ic,id⟩:=bx9.facts;go_wp2_with fail
  refine(ar7 _ _ _ _ _ _ _ ys xs hy9 hx9 (by omega) (by omega)).mono ?_;rintro e w1 ⟨p1,q1,r1,rfl,G1,l1,o1,hb1⟩;go_wp2_with fail
  refine(aa0 _ _ _ _ r1 _ G1 (by omega)).mono ?_;rintro e w2 ⟨ng2,rfl,G2,hb2⟩;have br2:=(br9.below hb1).below hb2;obtain⟨ka,kb,kc,kd⟩:=br2.facts;have X:=hide (br2.set ng2 (.slice p1 r1.length q1)).facts;have Y:=hide (br2.wh ng2 (.slice p1 r1.length q1) G2);have Z:=hide (aam (hb0.trans ((hb9.trans ((hb1.trans (hb2.mono hb1.size)).mono hb9.size)).mono hb0.size)) (Nat.le_succ _) (.bool ng2) (.slice p1 r1.length q1))
  skip;have hs9:=HS0.out;have s_9:=hb9.size;have s_1:=hb1.size;have s_2:=hb2.size;have O1:=hide ((o1.below hb2).set2 (w.heap.size+1) (by omega) (.bool ng2) (.slice p1 r1.length q1));have O2:=hide (show Li w.heap.size _ _ p1 q1 r1 from⟨O1.out.ow.mono (by omega),fun h0 g off e=>by have:=O1.out.lies h0 g off e;exact⟨by omega,Nat.lt_of_lt_of_le this.2 (show w1.heap.size<=((w2.setCell ⟨w.heap.size+1,0,none⟩ (.bool ng2)).setCell ⟨w.heap.size+1,1,none⟩ (.slice p1 r1.length q1)).heap.size by simp[World.setCell];exact s_2)⟩⟩);clear O1;go_wp2;refine bodyPost_ret (v:=.agg #[.bool ng2,.slice p1 r1.length q1]) ?_ rfl ⟨ng2,p1,q1,r1,rfl,by rw[<-aqd];exact Y.out,by omega,O2.out,Z.out⟩;simp[results,Tryz.results96,go_sem,X.out.1,X.out.2.1]
theorem auo(w:World)(nx:Bool)(a1:Option Addr)(n1 c1:Nat)(xs:List Int)(hx:Sl w (.slice a1 n1 c1) xs)(ny:Bool)(a2:Option Addr)(n2 c2:Nat)(ys:List Int)(hy:Sl w (.slice a2 n2 c2) ys)(hm1:xs.length<=400000000)(hm2:ys.length<=400000000):
  Calls Tryz.prog 96 #[.agg #[.bool nx,.slice a1 n1 c1],.bool ny,.slice a2 n2 c2] w fun e w'=>∃ng' ao cap rs,e=.returned (.agg #[.bool ng',.slice ao rs.length cap])/\Wh w' ng' ao cap rs (sg nx (val xs)+sg ny (val ys))/\rs.length<=xs.length+ys.length+1/\Li w.heap.size w'.heap.size w' ao cap rs/\Below w.heap.size w w':=by
 by_cases hn:ny=nx
 ·subst hn;exact ar8 w ny a1 n1 c1 xs hx a2 n2 c2 ys hy hm1 hm2
 ·have hn':ny = !nx:=by cases nx <;> cases ny <;> simp_all
  subst hn';by_cases h:val ys<=val xs
  ·exact axk w nx a1 n1 c1 xs hx a2 n2 c2 ys hy hm1 hm2 h
  ·exact axl w nx a1 n1 c1 xs hx a2 n2 c2 ys hy hm1 hm2 (by omega)
theorem a2y(w:World)(nx:Bool)(a1:Option Addr)(n1 c1:Nat)(xs:List Int)(hx:Sl w (.slice a1 n1 c1) xs)(ny:Bool)(a2:Option Addr)(n2 c2:Nat)(ys:List Int)(hy:Sl w (.slice a2 n2 c2) ys)(hm1:xs.length<=400000000)(hm2:ys.length<=400000000):
  Calls Tryz.prog 56 #[.agg #[.bool nx,.slice a1 n1 c1],.agg #[.bool ny,.slice a2 n2 c2]] w fun e w'=>∃ng' ao cap rs,e=.returned (.agg #[.bool ng',.slice ao rs.length cap])/\Wh w' ng' ao cap rs (sg nx (val xs)+sg ny (val ys))/\rs.length<=xs.length+ys.length+1/\Li w.heap.size w'.heap.size w' ao cap rs/\Below w.heap.size w w':=by
 obtain⟨w0,e0,bx,by',br,hb0,hs0⟩:=ae4 w nx (.slice a1 n1 c1) ny (.slice a2 n2 c2);have E0:=hide e0;have hx0:=hx.below hb0;have hy0:=hy.below hb0;have HS0:=hide hs0;clear e0 hs0;go_enter Tryz.func56,Tryz.ntmps56
 go_wp2_with fail
 rw[E0.out];obtain⟨ca,cb,cc,cd⟩:=bx.facts;obtain⟨ea,eb,ec,ed⟩:=by'.facts;obtain⟨da,db,dc,dd⟩:=br.facts;refine(auo _ nx _ _ _ xs hx0 ny _ _ _ ys hy0 hm1 hm2).mono ?_;rintro e w1 ⟨ng2,p1,q1,r1,rfl,G2,l1,o1,hb1⟩;have br2:=br.below hb1;obtain⟨ka,kb,kc,kd⟩:=br2.facts;have X:=hide (br2.set ng2 (.slice p1 r1.length q1)).facts;have Y:=hide (br2.wh ng2 (.slice p1 r1.length q1) G2);have Z:=hide (aam (hb0.trans (hb1.mono hb0.size)) (Nat.le_add_right _ 2) (.bool ng2) (.slice p1 r1.length q1))
 skip;have hs9:=HS0.out;have s_1:=hb1.size;have O1:=hide (o1.set2 (w.heap.size+1+1) (by omega) (.bool ng2) (.slice p1 r1.length q1));have O2:=hide (show Li w.heap.size _ _ p1 q1 r1 from⟨O1.out.ow.mono (by omega),fun h0 g off e=>by have:=O1.out.lies h0 g off e;exact⟨by omega,Nat.lt_of_lt_of_le this.2 (show w1.heap.size<=((w1.setCell ⟨w.heap.size+1+1,0,none⟩ (.bool ng2)).setCell ⟨w.heap.size+1+1,1,none⟩ (.slice p1 r1.length q1)).heap.size by simp[World.setCell])⟩⟩);clear O1;go_wp2;refine bodyPost_ret (v:=.agg #[.bool ng2,.slice p1 r1.length q1]) ?_ rfl ⟨ng2,p1,q1,r1,rfl,Y.out,by omega,O2.out,Z.out⟩;simp[results,Tryz.results56,go_sem,X.out.1,X.out.2.1]
theorem a2z(w:World)(nx:Bool)(a1:Option Addr)(n1 c1:Nat)(xs:List Int)(hx:Sl w (.slice a1 n1 c1) xs)(ny:Bool)(a2:Option Addr)(n2 c2:Nat)(ys:List Int)(hy:Sl w (.slice a2 n2 c2) ys)(hm1:xs.length<=400000000)(hm2:ys.length<=400000000):
  Calls Tryz.prog 101 #[.agg #[.bool nx,.slice a1 n1 c1],.agg #[.bool ny,.slice a2 n2 c2]] w fun e w'=>∃ng' ao cap rs,e=.returned (.agg #[.bool ng',.slice ao rs.length cap])/\Wh w' ng' ao cap rs (sg nx (val xs)-sg ny (val ys))/\rs.length<=xs.length+ys.length+1/\Li w.heap.size w'.heap.size w' ao cap rs/\Below w.heap.size w w':=by
 obtain⟨w0,e0,bx,by',br,hb0,hs0⟩:=ae4 w nx (.slice a1 n1 c1) ny (.slice a2 n2 c2);have E0:=hide e0;have hx0:=hx.below hb0;have hy0:=hy.below hb0;have HS0:=hide hs0;clear e0 hs0;go_enter Tryz.func101,Tryz.ntmps101
 go_wp2_with fail
 rw[E0.out];obtain⟨ca,cb,cc,cd⟩:=bx.facts;obtain⟨ea,eb,ec,ed⟩:=by'.facts;obtain⟨da,db,dc,dd⟩:=br.facts;refine(auo _ nx _ _ _ xs hx0 (!ny) _ _ _ ys hy0 hm1 hm2).mono ?_;rintro e w1 ⟨ng2,p1,q1,r1,rfl,G2,l1,o1,hb1⟩;have br2:=br.below hb1;obtain⟨ka,kb,kc,kd⟩:=br2.facts;have X:=hide (br2.set ng2 (.slice p1 r1.length q1)).facts;have Y:=hide (br2.wh ng2 (.slice p1 r1.length q1) G2);have Z:=hide (aam (hb0.trans (hb1.mono hb0.size)) (Nat.le_add_right _ 2) (.bool ng2) (.slice p1 r1.length q1))
 skip;have hs9:=HS0.out;have s_1:=hb1.size;have O1:=hide (o1.set2 (w.heap.size+1+1) (by omega) (.bool ng2) (.slice p1 r1.length q1));have O2:=hide (show Li w.heap.size _ _ p1 q1 r1 from⟨O1.out.ow.mono (by omega),fun h0 g off e=>by have:=O1.out.lies h0 g off e;exact⟨by omega,Nat.lt_of_lt_of_le this.2 (show w1.heap.size<=((w1.setCell ⟨w.heap.size+1+1,0,none⟩ (.bool ng2)).setCell ⟨w.heap.size+1+1,1,none⟩ (.slice p1 r1.length q1)).heap.size by simp[World.setCell])⟩⟩);clear O1;go_wp2;refine bodyPost_ret (v:=.agg #[.bool ng2,.slice p1 r1.length q1]) ?_ rfl ⟨ng2,p1,q1,r1,rfl,by rw[Int.sub_eq_add_neg,<-amh];exact Y.out,by omega,O2.out,Z.out⟩;simp[results,Tryz.results101,go_sem,X.out.1,X.out.2.1]
theorem a20(w:World)(nx:Bool)(a1:Option Addr)(n1 c1:Nat)(xs:List Int)(hx:Sl w (.slice a1 n1 c1) xs)(ny:Bool)(a2:Option Addr)(n2 c2:Nat)(ys:List Int)(hy:Sl w (.slice a2 n2 c2) ys)(hm1:xs.length<=400000000)(hm2:ys.length<=400000000):
  Calls Tryz.prog 87 #[.agg #[.bool nx,.slice a1 n1 c1],.agg #[.bool ny,.slice a2 n2 c2]] w fun e w'=>∃ng' ao cap rs,e=.returned (.agg #[.bool ng',.slice ao rs.length cap])/\Wh w' ng' ao cap rs (sg nx (val xs)*sg ny (val ys))/\rs.length<=xs.length+ys.length/\Li w.heap.size w'.heap.size w' ao cap rs/\Below w.heap.size w w':=by
 obtain⟨w0,e0,bx,by',br,hb0,hs0⟩:=ae4 w nx (.slice a1 n1 c1) ny (.slice a2 n2 c2);have E0:=hide e0;have hx0:=hx.below hb0;have hy0:=hy.below hb0;have HS0:=hide hs0;clear e0 hs0;have q1':(w.heap.size=w.heap.size+1+1)=False:=by simp;omega
 have q2':(w.heap.size+1+1=w.heap.size)=False:=by simp;omega
 go_enter Tryz.func87,Tryz.ntmps87
 go_wp2_with fail
 rw[E0.out];obtain⟨ca,cb,cc,cd⟩:=bx.facts;obtain⟨ea,eb,ec,ed⟩:=by'.facts;obtain⟨da,db,dc,dd⟩:=br.facts;go_region_held3 (fun w'=>w'.cell? ⟨w.heap.size,0,none⟩=some (.bool nx)/\w'.cell? ⟨w.heap.size,1,none⟩=some (.slice a1 n1 c1)/\w'.cell? ⟨w.heap.size+1,0,none⟩=some (.bool ny)/\w'.cell? ⟨w.heap.size+1,1,none⟩=some (.slice a2 n2 c2)) (go_keep) (first
  | (go_at_call 108;refine(a39 _ _ _ _ _ _ _ xs ys (hx0.below (by repeat(first|exact Below.refl _ _|refine Below.drew ?_))) (hy0.below (by repeat(first|exact Below.refl _ _|refine Below.drew ?_))) (by omega) (by omega)).mono ?_;rintro e w1 ⟨p1,q1,r1,rfl,G1,l1,o1,hb1⟩;have hb1':Below w0.heap.size w0 w1:=(show Below w0.heap.size w0 _ by repeat(first|exact Below.refl _ _|refine Below.drew ?_)).trans hb1;have bx1:=bx.below hb1';obtain⟨bx1a,bx1b,bx1c,bx1d⟩:=bx1.facts;have by1:=by'.below hb1';obtain⟨by1a,by1b,by1c,by1d⟩:=by1.facts;have br1:=br.below hb1';obtain⟨br1a,br1b,br1c,br1d⟩:=br1.facts)
  | (go_at_call 59;refine(aa0 _ _ _ _ r1 _ (G1.below (by repeat(first|exact Below.refl _ _|refine Below.drew ?_))) (by omega)).mono ?_;rintro e w2 ⟨ng2,rfl,G2,hb2⟩;have hb2':Below w1.heap.size w1 w2:=(show Below w1.heap.size w1 _ by repeat(first|exact Below.refl _ _|refine Below.drew ?_)).trans hb2;have bx2:=bx1.below hb2';obtain⟨bx2a,bx2b,bx2c,bx2d⟩:=bx2.facts;have by2:=by1.below hb2';obtain⟨by2a,by2b,by2c,by2d⟩:=by2.facts;have br2:=br1.below hb2';obtain⟨br2a,br2b,br2c,br2d⟩:=br2.facts))
 all_goals
  clear bx1a bx1b bx1c bx1d by1a by1b by1c by1d br1a br1b br1c br1d bx2a bx2b bx2c bx2d by2a by2b by2c by2d ca cb cc cd da db dc dd ea eb ec ed q1' q2';have X:=hide (br2.set ng2 (.slice p1 r1.length q1)).facts;have Y:=hide (br2.wh ng2 (.slice p1 r1.length q1) G2);have Z:=hide (aam (hb0.trans ((hb1'.trans (hb2'.mono hb1'.size)).mono hb0.size)) (Nat.le_add_right _ 2) (.bool ng2) (.slice p1 r1.length q1))
  skip;have hs9:=HS0.out;have o1:Li w0.heap.size w1.heap.size w1 p1 q1 r1:=o1;have s_1:=hb1'.size;have s_2:=hb2'.size;have O1:=hide ((o1.below hb2').set2 (w.heap.size+1+1) (by omega) (.bool ng2) (.slice p1 r1.length q1));have O2:=hide (show Li w.heap.size _ _ p1 q1 r1 from⟨O1.out.ow.mono (by omega),fun h0 g off e=>by have:=O1.out.lies h0 g off e;exact⟨by omega,Nat.lt_of_lt_of_le this.2 (show w1.heap.size<=((w2.setCell ⟨w.heap.size+1+1,0,none⟩ (.bool ng2)).setCell ⟨w.heap.size+1+1,1,none⟩ (.slice p1 r1.length q1)).heap.size by simp[World.setCell];exact s_2)⟩⟩);clear O1;go_wp2;refine bodyPost_ret (v:=.agg #[.bool ng2,.slice p1 r1.length q1]) ?_ rfl ⟨ng2,p1,q1,r1,rfl,by rw[<-atv];exact Y.out,by omega,O2.out,Z.out⟩;simp[results,Tryz.results87,go_sem,X.out.1,X.out.2.1]
end Lm
namespace Dm
open Go.RowKit
open Lm (hide aba aaa ae3 acv cmpI ac2 adg ahw adh)
def sgn(n:Nat):Int:=if n=0 then 0 else 1
end Dm
namespace Dm
open Go.RowKit
open Lm (hide aba aaa)
structure WFr (B T:Nat) (w:World) (ng:Bool) (ao:Option Addr) (cap:Nat) (rs:List Int) (z:Int):Prop where
 fr:Lm.Fr B T w ao cap rs (z.natAbs:Int)
 sgn:ng=decide (z<0)
theorem WFr.wh{B T:Nat}{w:World}{ng:Bool}{ao:Option Addr}{cap:Nat}{rs:List Int}{z:Int}(h:WFr B T w ng ao cap rs z):Lm.Wh w ng ao cap rs z:=⟨h.fr.got,h.sgn⟩
theorem WFr.below{B T:Nat}{w w':World}{ng:Bool}{ao:Option Addr}{cap:Nat}{rs:List Int}{z:Int}(h:WFr B T w ng ao cap rs z)(hb:Below w.heap.size w w'):WFr B T w' ng ao cap rs z:=⟨h.fr.below hb,h.sgn⟩
end Dm
namespace Lm
open Go.RowKit
def IsLen(x:Int)(n:Nat):Prop:=∃rs,Canon rs/\val rs=x/\rs.length=n
theorem alg{x:Int}{m n:Nat}(h:IsLen x m)(h':IsLen x n):m=n:=by
 obtain⟨rs,c,v,rfl⟩:=h;obtain⟨ss,c',v',rfl⟩:=h';rw[afi c c' (by rw[v,v'])]
theorem ar9{x:Int}{k n:Nat}(h:IsLen x n)(hb:IsBits x k):(k+31)/32=n:=by
 obtain⟨rs,c,v,rfl⟩:=h;have hu:=(aac c.1).2;rw[v,aem]at hu;by_cases h0:rs.length=0
 ·have e:rs = []:=List.eq_nil_of_length_eq_zero h0;subst e;have:x=0:=by rw[<-v];rfl
  subst this;rw[aii hb];rfl
 ·have hlow:pw (rs.length-1)<=x:=by
   apply Classical.byContradiction;intro hn;have:=aa7 c (m:=rs.length-1) (by rw[v];omega);omega
  rw[aem]at hlow;have h1:32*(rs.length-1)<k:=by
   apply Classical.byContradiction;intro hn;have:=adj (m:=k) (n:=32*(rs.length-1)) (by omega);have:=hb.1;omega
  have h2:k<=32*rs.length:=by
   rcases hb.2 with h|h
   ·omega
   ·apply Classical.byContradiction;intro hn;have:=adj (m:=32*rs.length) (n:=k-1) (by omega);omega
  omega
theorem asa(w:World)(ng:Bool)(ao:Option Addr)(n cap:Nat)(zs:List Int)(h:Sl w (.slice ao n cap) zs)(hz:zs.length<=1000000000)(m:Nat)(hm:IsLen (val zs) m):
  Calls Tryz.prog 185 #[.agg #[.bool ng,.slice ao n cap]] w fun e w'=>e=.returned (.int .i64 m)/\Below w.heap.size w w':=by
 obtain⟨w0,e0,bx,hb0,hs0⟩:=ajh w ng (.slice ao n cap);have E0:=hide e0;have h0:=h.below hb0;have hu:=(aac h.parts.2.2.2).2;clear e0 hs0;go_enter Tryz.func185,Tryz.ntmps185
 go_wp2_with fail
 rw[E0.out];obtain⟨c0,c1,f0,f1⟩:=bx.facts;refine(agc _ _ _ _ zs h0 hz).mono ?_;rintro e w1 ⟨l,rfl,t,rfl⟩;have hl:=ar9 hm t;have hle:l<=32000000000:=by
  rcases t.2 with h|h
  ·omega
  ·apply Classical.byContradiction;intro hn;rw[aem]at hu;have:=adj (m:=32*zs.length) (n:=l-1) (by omega);omega
 have HL:=hide hl;clear t hl hm hu;go_wp2;go_ret;have hl:=HL.out;exact⟨adh (by omega),hb0⟩
end Lm
namespace Lm
open Go Go.RowKit
open Dm (WFr)
theorem Ow.ru{B:Nat}{w w':World}{v:Value}{zs:List Int}(h:Ow B w v zs)(hr:Ru w w'):Ow B w' v zs:=by
 obtain⟨ao,cap,rfl,h1,h2,h3,h4⟩:=h;refine⟨ao,cap,rfl,h1,h2,h3,?_⟩;rcases h4 with h4|⟨g,off,cur,rfl,hB,hh,r⟩
 ·exact .inl h4
 ·exact .inr ⟨g,off,cur,rfl,hB,hr.rows g cur hh,r⟩
theorem Fr.ru{B T:Nat}{w w':World}{ao:Option Addr}{cap:Nat}{rs:List Int}{x:Int}(h:Fr B T w ao cap rs x)(hr:Ru w w'):Fr B T w' ao cap rs x:=⟨h.ow.ru hr,h.canon,h.val,h.lies⟩
theorem _root_.Go.Proofs.YtjogfjgkabjcfaaGreat.Dm.WFr.ru{B T:Nat}{w w':World}{ng:Bool}{ao:Option Addr}{cap:Nat}{rs:List Int}{z:Int}(h:WFr B T w ng ao cap rs z)(hr:Ru w w'):WFr B T w' ng ao cap rs z:=⟨h.fr.ru hr,h.sgn⟩
theorem _root_.Go.Proofs.YtjogfjgkabjcfaaGreat.Dm.WFr.rl{B T:Nat}{w w':World}{ng:Bool}{ao:Option Addr}{cap:Nat}{rs:List Int}{z:Int}(h:WFr B T w ng ao cap rs z)(hr:Rl w w'):WFr B T w' ng ao cap rs z:=h.ru (Ru.of_rl hr)
def FrW(K:Nat)(z:Int)(L:Nat):Says:=fun v w=>∃ng ao cap rs B T,v=.agg #[.bool ng,.slice ao rs.length cap]/\WFr B T w ng ao cap rs z/\K<=B/\T<=w.heap.size/\rs.length<=L
theorem FrW.mono5(K:Nat)(z:Int)(L:Nat):Mono5 (FrW K z L):=fun _ _ _ hr ⟨ng,ao,cap,rs,B,T,e,h,h1,h2,l⟩=>⟨ng,ao,cap,rs,B,T,e,h.ru hr,h1,Nat.le_trans h2 hr.size,l⟩
theorem FrW.mono4(K:Nat)(z:Int)(L:Nat):Mono4 (FrW K z L):=fun v w w' hr h=>FrW.mono5 K z L v w w' (Ru.of_rl hr) h
theorem FrW.out{z:Int}{L K:Nat}{v:Value}{w:World}: FrW K z L v w->OutW z L v w:=fun⟨ng,ao,cap,rs,_,_,e,h,_,_,l⟩=>⟨ng,ao,cap,rs,e,h.wh,l⟩
theorem FrW.cs{z:Int}{L K:Nat}(v:Value)(w:World)(h:FrW K z L v w):∃cs,W2.Cs v cs:=OutW.cs v w h.out
section
end
section
variable {dst:Option Tmp} {ty:TypeId} {pos:String} {after:Array Edge} {guard:Option (Nat×Bool)} {a:Act} {w:World} {ats:Array TypeId} {i j:Nat} {x y z u:Int} {L L1 L2:Nat}
theorem axm{b:Bool}(h1:a.eval (.tmp i)=.bool b)(h2:a.eval (.tmp j)=.bool b):
  Does Tryz.prog {dst,op:=.binOp .eql 4 (.tmp i) (.tmp j) 4,type:=ty,pos,after,guard} a.eval w fun v' w'=>Below w.heap.size w w'/\Eqs (.bool true) v' w':=by
 have:=a0b (dst:=dst) (ty:=ty) (pos:=pos) (after:=after) (guard:=guard) (w:=w) h1 h2;rwa[beq_self_eq_true]at this
end
section
end
theorem axn{ng:Bool}{ao:Option Addr}{n c:Nat}{w:World}{xs:List Int}{z:Int}(h:Ag w ng ao n c xs z):∃m,IsLen (z.natAbs:Int) m:=by
 have hv:=(aac h.sl.parts.2.2.2).1;refine⟨_,xs.take (tl xs),abj h.sl.parts.2.2.2,?_,rfl⟩;rw[aaj,<-h.worth];cases ng <;> simp[sg] <;> omega
end Lm
namespace Lm
open Go.RowKit
theorem am3(w:World)(a1:Option Addr)(n1 c1:Nat)(xs:List Int)(hx:Sl w (.slice a1 n1 c1) xs)(ny:Bool)(a2:Option Addr)(n2 c2:Nat)(ys:List Int)(hy:Sl w (.slice a2 n2 c2) ys)(hm1:xs.length<=400000000)(hm2:ys.length<=400000000)(h0:val ys≠0):
  Calls Tryz.prog 120 #[.agg #[.bool false,.slice a1 n1 c1],.agg #[.bool ny,.slice a2 n2 c2]] w fun e w'=>∃nq aq cq qs nr ar cr rs B1 T1 B2 T2,e=.returned (.tuple #[.agg #[.bool nq,.slice aq qs.length cq],.agg #[.bool nr,.slice ar rs.length cr],.bool true])/\Wh w' nq aq cq qs (sg false (val xs)/sg ny (val ys))/\Wh w' nr ar cr rs (sg false (val xs)%sg ny (val ys))/\qs.length<=xs.length+4/\rs.length<=ys.length/\Li B1 T1 w' aq cq qs/\Li B2 T2 w' ar cr rs/\(w.heap.size<=B1/\T1<=w'.heap.size/\w.heap.size<=B2/\T2<=w'.heap.size/\∀j,B1<=j->j<T1->j<B2\/T2<=j)/\Below w.heap.size w w':=by
 obtain⟨w0,e0,bx,by',bq,br,hb0,hs0⟩:=ajn w false (.slice a1 n1 c1) ny (.slice a2 n2 c2);have E0:=hide e0;have hx0:=hx.below hb0;have hy0:=hy.below hb0;have HS0:=hide hs0;clear e0 hs0;have PY:Hid (0<val ys):=by have:=(aac hy.parts.2.2.2).1;show _<_;omega
 have LY:=hide hy.parts.2.2.2;have H0:=hide h0;clear h0;go_enter Tryz.func120,Tryz.ntmps120
 go_wp2_with fail
 rw[E0.out];refine(ai2 _ _ _ _ _ _ _ xs ys hx0 hy0 (by omega) H0.out).mono ?_;rintro e w1 ⟨p1,q1,r1,p2,q2,r2,B1,T1,B2,T2,rfl,G1,G2,l1,l2,o1,o2,oo,hb1⟩;have HB:Below w0.heap.size w0 w1:=hb1;obtain⟨xa,xb,xc,xd⟩:=(bx.below HB).facts;obtain⟨ya,yb,yc,yd⟩:=(by'.below HB).facts;go_wp2_with fail
 refine(aa0 _ _ _ _ r1 _ G1 (by omega)).mono ?_;rintro e w7 ⟨ng7,rfl,G7,hb7⟩;replace HB:=HB.trans (hb7.mono HB.size);have G2':=G2.below hb7;clear xa xb xc xd ya yb yc yd;obtain⟨xa,xb,xc,xd⟩:=(bx.below HB).facts;obtain⟨ya,yb,yc,yd⟩:=(by'.below HB).facts;go_wp2_with fail
 refine(aa0 _ _ _ _ r2 _ G2' (by omega)).mono ?_;rintro e w8 ⟨ng8,rfl,G8,hb8⟩;replace HB:=HB.trans (hb8.mono HB.size);replace G7:=G7.below hb8;clear xa xb xc xd ya yb yc yd;have bq8:=bq.below HB;have br8:=br.below HB;obtain⟨qa,qb,qc,qd⟩:=bq8.facts;obtain⟨ra,rb,rc,rd⟩:=br8.facts;have VQ:Hid (sg ny (val xs/val ys)=sg false (val xs)/sg ny (val ys)/\sg false (val xs%val ys)=sg false (val xs)%sg ny (val ys)):=by have h:=amy ny (val xs) (val ys);rwa[show(false != ny)=ny by cases ny <;> rfl]at h
 have Y1:=hide ((br8.other (show w.heap.size+1+1+1≠w.heap.size+1+1 by omega) (.bool ng7) (.slice p1 r1.length q1)).wh ng8 (.slice p2 r2.length q2) (bq8.wh ng7 (.slice p1 r1.length q1) G7));have Y2:=hide ((br8.other (show w.heap.size+1+1+1≠w.heap.size+1+1 by omega) (.bool ng7) (.slice p1 r1.length q1)).wh ng8 (.slice p2 r2.length q2) (bq8.wh ng7 (.slice p1 r1.length q1) G8));have F:=hide (ah2 (nq:=ng7) (vq:=.slice p1 r1.length q1) (nr:=ng8) (vr:=.slice p2 r2.length q2) bq8 br8 (by omega));have Z:=hide (hb0.trans (HB.mono hb0.size));have Z2:=hide (aam (aam Z.out (show w.heap.size<=w.heap.size+1+1 by omega) (.bool ng7) (.slice p1 r1.length q1)) (show w.heap.size<=w.heap.size+1+1+1 by omega) (.bool ng8) (.slice p2 r2.length q2));have hs9:=HS0.out;have s_hb1:=hb1.size;have s_hb7:=hb7.size;have s_hb8:=hb8.size;obtain⟨oo1,oo2,oo3,oo4,oo5⟩:=oo;have O1:=hide ((((o1.below hb7).below hb8).set2 (w.heap.size+1+1) (by omega) (.bool ng7) (.slice p1 r1.length q1)).set2 (w.heap.size+1+1+1) (by omega) (.bool ng8) (.slice p2 r2.length q2));have O2:=hide ((((o2.below hb7).below hb8).set2 (w.heap.size+1+1) (by omega) (.bool ng7) (.slice p1 r1.length q1)).set2 (w.heap.size+1+1+1) (by omega) (.bool ng8) (.slice p2 r2.length q2));have hsz:((((w8.setCell ⟨w.heap.size+1+1,0,none⟩ (.bool ng7)).setCell ⟨w.heap.size+1+1,1,none⟩ (.slice p1 r1.length q1)).setCell ⟨w.heap.size+1+1+1,0,none⟩ (.bool ng8)).setCell ⟨w.heap.size+1+1+1,1,none⟩ (.slice p2 r2.length q2)).heap.size=w8.heap.size:=by simp[World.setCell]
 have OO:Hid (B1≥w.heap.size/\T1<=w8.heap.size/\B2≥w.heap.size/\T2<=w8.heap.size/\∀j,B1<=j->j<T1->j<B2\/T2<=j):=⟨by omega,by omega,by omega,by omega,oo5⟩;rw[<-hsz]at OO;clear hsz;go_wp2;refine bodyPost_ret (v:=.tuple #[.agg #[.bool ng7,.slice p1 r1.length q1],.agg #[.bool ng8,.slice p2 r2.length q2],.bool true]) ?_ rfl ⟨ng7,p1,q1,r1,ng8,p2,q2,r2,B1,T1,B2,T2,rfl,by rw[<-VQ.out.1];exact Y1.out,by rw[<-VQ.out.2];exact Y2.out,by omega,by omega,O1.out,O2.out,OO.out,Z2.out⟩;simp[results,Tryz.results120,go_sem,F.out.1.facts.1,F.out.1.facts.2.1,F.out.2.facts.1,F.out.2.facts.2.1]
theorem al2(w:World)(a1:Option Addr)(n1 c1:Nat)(xs:List Int)(hx:Sl w (.slice a1 n1 c1) xs)(ny:Bool)(a2:Option Addr)(n2 c2:Nat)(ys:List Int)(hy:Sl w (.slice a2 n2 c2) ys)(hm1:xs.length<=400000000)(_hm2:ys.length<=400000000)(h0:val ys≠0)(hev:val xs%val ys=0):
  Calls Tryz.prog 120 #[.agg #[.bool true,.slice a1 n1 c1],.agg #[.bool ny,.slice a2 n2 c2]] w fun e w'=>∃nq aq cq qs nr ar cr rs B1 T1 B2 T2,e=.returned (.tuple #[.agg #[.bool nq,.slice aq qs.length cq],.agg #[.bool nr,.slice ar rs.length cr],.bool true])/\Wh w' nq aq cq qs (sg true (val xs)/sg ny (val ys))/\Wh w' nr ar cr rs (sg true (val xs)%sg ny (val ys))/\qs.length<=xs.length+4/\rs.length<=ys.length/\Li B1 T1 w' aq cq qs/\Li B2 T2 w' ar cr rs/\(w.heap.size<=B1/\T1<=w'.heap.size/\w.heap.size<=B2/\T2<=w'.heap.size/\∀j,B1<=j->j<T1->j<B2\/T2<=j)/\Below w.heap.size w w':=by
 obtain⟨w0,e0,bx,by',bq,br,hb0,hs0⟩:=ajn w true (.slice a1 n1 c1) ny (.slice a2 n2 c2);have E0:=hide e0;have hx0:=hx.below hb0;have hy0:=hy.below hb0;have HS0:=hide hs0;clear e0 hs0;have PY:Hid (0<val ys):=by have:=(aac hy.parts.2.2.2).1;show _<_;omega
 have LY:=hide hy.parts.2.2.2;have H0:=hide h0;have HE:=hide hev;clear hev;clear h0;go_enter Tryz.func120,Tryz.ntmps120
 go_wp2_with fail
 rw[E0.out];refine(ai2 _ _ _ _ _ _ _ xs ys hx0 hy0 (by omega) H0.out).mono ?_;rintro e w1 ⟨p1,q1,r1,p2,q2,r2,B1,T1,B2,T2,rfl,G1,G2,l1,l2,o1,o2,oo,hb1⟩;have HB:Below w0.heap.size w0 w1:=hb1;have hr2:¬0<(r2.length:Int):=by
  have h9:r2 = []:=(aga G2.canon).1 (by rw[G2.val];exact HE.out);rw[h9];simp
 obtain⟨xa,xb,xc,xd⟩:=(bx.below HB).facts;obtain⟨ya,yb,yc,yd⟩:=(by'.below HB).facts;go_wp2_with fail
 refine(aa0 _ _ _ _ r1 _ G1 (by omega)).mono ?_;rintro e w7 ⟨ng7,rfl,G7,hb7⟩;replace HB:=HB.trans (hb7.mono HB.size);have G2':=G2.below hb7;clear xa xb xc xd ya yb yc yd;obtain⟨xa,xb,xc,xd⟩:=(bx.below HB).facts;obtain⟨ya,yb,yc,yd⟩:=(by'.below HB).facts;go_wp2_with fail
 refine(aa0 _ _ _ _ r2 _ G2' (by omega)).mono ?_;rintro e w8 ⟨ng8,rfl,G8,hb8⟩;replace HB:=HB.trans (hb8.mono HB.size);replace G7:=G7.below hb8;clear xa xb xc xd ya yb yc yd;have bq8:=bq.below HB;have br8:=br.below HB;obtain⟨qa,qb,qc,qd⟩:=bq8.facts;obtain⟨ra,rb,rc,rd⟩:=br8.facts;have VQ:Hid (sg (!ny) (val xs/val ys)=sg true (val xs)/sg ny (val ys)/\sg false (val xs%val ys)=sg true (val xs)%sg ny (val ys)):=by have h:=aue true ny PY.out HE.out;rwa[show(true != ny) = !ny by cases ny <;> rfl]at h
 have Y1:=hide ((br8.other (show w.heap.size+1+1+1≠w.heap.size+1+1 by omega) (.bool ng7) (.slice p1 r1.length q1)).wh ng8 (.slice p2 r2.length q2) (bq8.wh ng7 (.slice p1 r1.length q1) G7));have Y2:=hide ((br8.other (show w.heap.size+1+1+1≠w.heap.size+1+1 by omega) (.bool ng7) (.slice p1 r1.length q1)).wh ng8 (.slice p2 r2.length q2) (bq8.wh ng7 (.slice p1 r1.length q1) G8));have F:=hide (ah2 (nq:=ng7) (vq:=.slice p1 r1.length q1) (nr:=ng8) (vr:=.slice p2 r2.length q2) bq8 br8 (by omega));have Z:=hide (hb0.trans (HB.mono hb0.size));have Z2:=hide (aam (aam Z.out (show w.heap.size<=w.heap.size+1+1 by omega) (.bool ng7) (.slice p1 r1.length q1)) (show w.heap.size<=w.heap.size+1+1+1 by omega) (.bool ng8) (.slice p2 r2.length q2));have hs9:=HS0.out;have s_hb1:=hb1.size;have s_hb7:=hb7.size;have s_hb8:=hb8.size;obtain⟨oo1,oo2,oo3,oo4,oo5⟩:=oo;have O1:=hide ((((o1.below hb7).below hb8).set2 (w.heap.size+1+1) (by omega) (.bool ng7) (.slice p1 r1.length q1)).set2 (w.heap.size+1+1+1) (by omega) (.bool ng8) (.slice p2 r2.length q2));have O2:=hide ((((o2.below hb7).below hb8).set2 (w.heap.size+1+1) (by omega) (.bool ng7) (.slice p1 r1.length q1)).set2 (w.heap.size+1+1+1) (by omega) (.bool ng8) (.slice p2 r2.length q2));have hsz:((((w8.setCell ⟨w.heap.size+1+1,0,none⟩ (.bool ng7)).setCell ⟨w.heap.size+1+1,1,none⟩ (.slice p1 r1.length q1)).setCell ⟨w.heap.size+1+1+1,0,none⟩ (.bool ng8)).setCell ⟨w.heap.size+1+1+1,1,none⟩ (.slice p2 r2.length q2)).heap.size=w8.heap.size:=by simp[World.setCell]
 have OO:Hid (B1≥w.heap.size/\T1<=w8.heap.size/\B2≥w.heap.size/\T2<=w8.heap.size/\∀j,B1<=j->j<T1->j<B2\/T2<=j):=⟨by omega,by omega,by omega,by omega,oo5⟩;rw[<-hsz]at OO;clear hsz;go_wp2;refine bodyPost_ret (v:=.tuple #[.agg #[.bool ng7,.slice p1 r1.length q1],.agg #[.bool ng8,.slice p2 r2.length q2],.bool true]) ?_ rfl ⟨ng7,p1,q1,r1,ng8,p2,q2,r2,B1,T1,B2,T2,rfl,by rw[<-VQ.out.1];exact Y1.out,by rw[<-VQ.out.2];exact Y2.out,by omega,by omega,O1.out,O2.out,OO.out,Z2.out⟩;simp[results,Tryz.results120,go_sem,F.out.1.facts.1,F.out.1.facts.2.1,F.out.2.facts.1,F.out.2.facts.2.1]
theorem am4(w:World)(a1:Option Addr)(n1 c1:Nat)(xs:List Int)(hx:Sl w (.slice a1 n1 c1) xs)(ny:Bool)(a2:Option Addr)(n2 c2:Nat)(ys:List Int)(hy:Sl w (.slice a2 n2 c2) ys)(hm1:xs.length<=400000000)(hm2:ys.length<=400000000)(h0:val ys≠0)(hod:val xs%val ys≠0):
  Calls Tryz.prog 120 #[.agg #[.bool true,.slice a1 n1 c1],.agg #[.bool ny,.slice a2 n2 c2]] w fun e w'=>∃nq aq cq qs nr ar cr rs B1 T1 B2 T2,e=.returned (.tuple #[.agg #[.bool nq,.slice aq qs.length cq],.agg #[.bool nr,.slice ar rs.length cr],.bool true])/\Wh w' nq aq cq qs (sg true (val xs)/sg ny (val ys))/\Wh w' nr ar cr rs (sg true (val xs)%sg ny (val ys))/\qs.length<=xs.length+4/\rs.length<=ys.length/\Li B1 T1 w' aq cq qs/\Li B2 T2 w' ar cr rs/\(w.heap.size<=B1/\T1<=w'.heap.size/\w.heap.size<=B2/\T2<=w'.heap.size/\∀j,B1<=j->j<T1->j<B2\/T2<=j)/\Below w.heap.size w w':=by
 obtain⟨w0,e0,bx,by',bq,br,hb0,hs0⟩:=ajn w true (.slice a1 n1 c1) ny (.slice a2 n2 c2);have E0:=hide e0;have hx0:=hx.below hb0;have hy0:=hy.below hb0;have HS0:=hide hs0;clear e0 hs0;have PY:Hid (0<val ys):=by have:=(aac hy.parts.2.2.2).1;show _<_;omega
 have LY:=hide hy.parts.2.2.2;have H0:=hide h0;have HE:=hide hod;clear hod;clear h0;go_enter Tryz.func120,Tryz.ntmps120
 go_wp2_with fail
 rw[E0.out];refine(ai2 _ _ _ _ _ _ _ xs ys hx0 hy0 (by omega) H0.out).mono ?_;rintro e w1 ⟨p1,q1,r1,p2,q2,r2,B1,T1,B2,T2,rfl,G1,G2,l1,l2,o1,o2,oo,hb1⟩;have HB:Below w0.heap.size w0 w1:=hb1;have hr2:0<(r2.length:Int):=by
  have h9:r2≠[]:=fun e=>HE.out (by rw[<-G2.val];exact(aga G2.canon).2 e)
  have h8:r2.length≠0:=fun e=>h9 (List.eq_nil_of_length_eq_zero e)
  omega
 obtain⟨xa,xb,xc,xd⟩:=(bx.below HB).facts;go_wp2_with fail
 refine(ack _ 1 (by omega) (by omega)).mono ?_;rintro e w3 ⟨v3,rfl,hi3,hb3⟩;obtain⟨p3,q3,r3,rfl,G3,l3⟩:=aed hi3 (by omega);clear hi3;replace HB:=HB.trans (hb3.mono HB.size);replace G1:=G1.below hb3;replace G2:=G2.below hb3;go_wp2_with fail
 refine(azm _ _ _ _ _ _ _ r1 r3 G1.sl G3.sl (by omega) (by omega)).mono ?_;rintro e w4 ⟨p4,q4,r4,rfl,G4,l4,o4,hb4⟩;replace HB:=HB.trans (hb4.mono HB.size);replace G2:=G2.below hb4;rw[G1.val,G3.val]at G4;have hy4:=hy0.below HB;obtain⟨ya,yb,yc,yd⟩:=(by'.below HB).facts;go_wp2_with fail
 refine(ar7 _ _ _ _ _ _ _ ys r2 hy4 G2.sl (by omega) (by rw[G2.val];exact Int.le_of_lt (Int.emod_lt_of_pos _ PY.out))).mono ?_;rintro e w5 ⟨p5,q5,r5,rfl,G5,l5,o5,hb5⟩;replace HB:=HB.trans (hb5.mono HB.size);replace G4:=G4.below hb5;rw[G2.val]at G5;clear xa xb xc xd ya yb yc yd G1 G2 G3 hy4;obtain⟨xa,xb,xc,xd⟩:=(bx.below HB).facts;obtain⟨ya,yb,yc,yd⟩:=(by'.below HB).facts;go_wp2_with fail
 refine(aa0 _ _ _ _ r4 _ G4 (by omega)).mono ?_;rintro e w7 ⟨ng7,rfl,G7,hb7⟩;replace HB:=HB.trans (hb7.mono HB.size);have G2':=G5.below hb7;clear xa xb xc xd ya yb yc yd;obtain⟨xa,xb,xc,xd⟩:=(bx.below HB).facts;obtain⟨ya,yb,yc,yd⟩:=(by'.below HB).facts;go_wp2_with fail
 refine(aa0 _ _ _ _ r5 _ G2' (by omega)).mono ?_;rintro e w8 ⟨ng8,rfl,G8,hb8⟩;replace HB:=HB.trans (hb8.mono HB.size);replace G7:=G7.below hb8;clear xa xb xc xd ya yb yc yd;have bq8:=bq.below HB;have br8:=br.below HB;obtain⟨qa,qb,qc,qd⟩:=bq8.facts;obtain⟨ra,rb,rc,rd⟩:=br8.facts;have VQ:Hid (sg (!ny) (val xs/val ys+1)=sg true (val xs)/sg ny (val ys)/\sg false (val ys-val xs%val ys)=sg true (val xs)%sg ny (val ys)):=by have h:=axe ny PY.out HE.out;rwa[show(true != ny) = !ny by cases ny <;> rfl]at h
 have Y1:=hide ((br8.other (show w.heap.size+1+1+1≠w.heap.size+1+1 by omega) (.bool ng7) (.slice p4 r4.length q4)).wh ng8 (.slice p5 r5.length q5) (bq8.wh ng7 (.slice p4 r4.length q4) G7));have Y2:=hide ((br8.other (show w.heap.size+1+1+1≠w.heap.size+1+1 by omega) (.bool ng7) (.slice p4 r4.length q4)).wh ng8 (.slice p5 r5.length q5) (bq8.wh ng7 (.slice p4 r4.length q4) G8));have F:=hide (ah2 (nq:=ng7) (vq:=.slice p4 r4.length q4) (nr:=ng8) (vr:=.slice p5 r5.length q5) bq8 br8 (by omega));have Z:=hide (hb0.trans (HB.mono hb0.size));have Z2:=hide (aam (aam Z.out (show w.heap.size<=w.heap.size+1+1 by omega) (.bool ng7) (.slice p4 r4.length q4)) (show w.heap.size<=w.heap.size+1+1+1 by omega) (.bool ng8) (.slice p5 r5.length q5));have hs9:=HS0.out;have s_hb1:=hb1.size;have s_hb7:=hb7.size;have s_hb8:=hb8.size;have s_hb3:=hb3.size;have s_hb4:=hb4.size;have s_hb5:=hb5.size;have O1:=hide (((((o4.below hb5).below hb7).below hb8).set2 (w.heap.size+1+1) (by omega) (.bool ng7) (.slice p4 r4.length q4)).set2 (w.heap.size+1+1+1) (by omega) (.bool ng8) (.slice p5 r5.length q5));have O2:=hide ((((o5.below hb7).below hb8).set2 (w.heap.size+1+1) (by omega) (.bool ng7) (.slice p4 r4.length q4)).set2 (w.heap.size+1+1+1) (by omega) (.bool ng8) (.slice p5 r5.length q5));have hsz:((((w8.setCell ⟨w.heap.size+1+1,0,none⟩ (.bool ng7)).setCell ⟨w.heap.size+1+1,1,none⟩ (.slice p4 r4.length q4)).setCell ⟨w.heap.size+1+1+1,0,none⟩ (.bool ng8)).setCell ⟨w.heap.size+1+1+1,1,none⟩ (.slice p5 r5.length q5)).heap.size=w8.heap.size:=by simp[World.setCell]
 have OO:Hid (w3.heap.size≥w.heap.size/\w4.heap.size<=w8.heap.size/\w4.heap.size≥w.heap.size/\w5.heap.size<=w8.heap.size/\∀j,w3.heap.size<=j->j<w4.heap.size->j<w4.heap.size\/w5.heap.size<=j):=⟨by omega,by omega,by omega,by omega,fun j h1 h2=>by omega⟩;rw[<-hsz]at OO;clear hsz;go_wp2;refine bodyPost_ret (v:=.tuple #[.agg #[.bool ng7,.slice p4 r4.length q4],.agg #[.bool ng8,.slice p5 r5.length q5],.bool true]) ?_ rfl ⟨ng7,p4,q4,r4,ng8,p5,q5,r5,w3.heap.size,w4.heap.size,w4.heap.size,w5.heap.size,rfl,by rw[<-VQ.out.1];exact Y1.out,by rw[<-VQ.out.2];exact Y2.out,by omega,by omega,O1.out,O2.out,OO.out,Z2.out⟩;simp[results,Tryz.results120,go_sem,F.out.1.facts.1,F.out.1.facts.2.1,F.out.2.facts.1,F.out.2.facts.2.1]
theorem alh(w:World)(nx:Bool)(a1:Option Addr)(n1 c1:Nat)(xs:List Int)(hx:Sl w (.slice a1 n1 c1) xs)(ny:Bool)(a2:Option Addr)(n2 c2:Nat)(ys:List Int)(hy:Sl w (.slice a2 n2 c2) ys)(hm1:xs.length<=400000000)(hm2:ys.length<=400000000)(h0:val ys≠0):
  Calls Tryz.prog 120 #[.agg #[.bool nx,.slice a1 n1 c1],.agg #[.bool ny,.slice a2 n2 c2]] w fun e w'=>∃nq aq cq qs nr ar cr rs B1 T1 B2 T2,e=.returned (.tuple #[.agg #[.bool nq,.slice aq qs.length cq],.agg #[.bool nr,.slice ar rs.length cr],.bool true])/\Wh w' nq aq cq qs (sg nx (val xs)/sg ny (val ys))/\Wh w' nr ar cr rs (sg nx (val xs)%sg ny (val ys))/\qs.length<=xs.length+4/\rs.length<=ys.length/\Li B1 T1 w' aq cq qs/\Li B2 T2 w' ar cr rs/\(w.heap.size<=B1/\T1<=w'.heap.size/\w.heap.size<=B2/\T2<=w'.heap.size/\∀j,B1<=j->j<T1->j<B2\/T2<=j)/\Below w.heap.size w w':=by
 cases nx with
 |false=>exact am3 w a1 n1 c1 xs hx ny a2 n2 c2 ys hy hm1 hm2 h0
 |true=>
  by_cases he:val xs%val ys=0
  ·exact al2 w a1 n1 c1 xs hx ny a2 n2 c2 ys hy hm1 hm2 h0 he
  ·exact am4 w a1 n1 c1 xs hx ny a2 n2 c2 ys hy hm1 hm2 h0 he
theorem a4a(w:World)(a1 a2:Option Addr)(n1 n2 c1 c2:Nat)(xs ys:List Int)(hx:Sl w (.slice a1 n1 c1) xs)(hy:Sl w (.slice a2 n2 c2) ys)(hm1:xs.length<=400000000)(hm2:ys.length<=400000000):
  Calls Tryz.prog 110 #[.slice a1 n1 c1,.slice a2 n2 c2] w fun e w'=>∃ao cap rs,e=.returned (.slice ao rs.length cap)/\Got w' ao cap rs (Int.gcd (val xs) (val ys))/\rs.length<=xs.length+ys.length+1/\Li w.heap.size w'.heap.size w' ao cap rs/\Below w.heap.size w w':=by
 refine(aqh w a1 a2 n1 n2 c1 c2 xs ys hx hy hm1 hm2).mono ?_;rintro e w' ⟨v,rfl,hi,hb⟩;obtain⟨ao,cap,rs,rfl,hg⟩:=hi.fr;refine⟨ao,cap,rs,rfl,hg.got,aa7 hg.canon ?_,hg.li,hb⟩;rw[hg.val];have b1:=aac hx.parts.2.2.2;have b2:=aac hy.parts.2.2.2;have h1:=alf b1.1 b2.1;have m1:=aap (m:=xs.length) (n:=xs.length+ys.length) (by omega);have m2:=aap (m:=ys.length) (n:=xs.length+ys.length) (by omega);rw[pw];have:=aag (xs.length+ys.length);omega
theorem a21(w:World)(nx:Bool)(a1:Option Addr)(n1 c1:Nat)(xs:List Int)(hx:Sl w (.slice a1 n1 c1) xs)(ny:Bool)(a2:Option Addr)(n2 c2:Nat)(ys:List Int)(hy:Sl w (.slice a2 n2 c2) ys)(hm1:xs.length<=400000000)(hm2:ys.length<=400000000):
  Calls Tryz.prog 89 #[.agg #[.bool nx,.slice a1 n1 c1],.agg #[.bool ny,.slice a2 n2 c2]] w fun e w'=>∃ng' ao cap rs,e=.returned (.agg #[.bool ng',.slice ao rs.length cap])/\Wh w' ng' ao cap rs (((Int.gcd (sg nx (val xs)) (sg ny (val ys)):Nat):Int))/\rs.length<=xs.length+ys.length+1/\Li w.heap.size w'.heap.size w' ao cap rs/\Below w.heap.size w w':=by
 obtain⟨w0,e0,bx,by',br,hb0,hs0⟩:=ae4 w nx (.slice a1 n1 c1) ny (.slice a2 n2 c2);have E0:=hide e0;have hx0:=hx.below hb0;have hy0:=hy.below hb0;have HS0:=hide hs0;clear e0 hs0;go_enter Tryz.func89,Tryz.ntmps89
 go_wp2_with fail
 rw[E0.out];obtain⟨ca,cb,cc,cd⟩:=bx.facts;obtain⟨ea,eb,ec,ed⟩:=by'.facts;obtain⟨da,db,dc,dd⟩:=br.facts;refine(a4a _ _ _ _ _ _ _ xs ys hx0 hy0 (by omega) (by omega)).mono ?_;rintro e w1 ⟨p1,q1,r1,rfl,G1,l1,o1,hb1⟩;go_wp2_with fail
 refine(aa0 _ false _ _ r1 _ G1 (by omega)).mono ?_;rintro e w2 ⟨ng2,rfl,G2,hb2⟩;have br2:=(br.below hb1).below hb2;obtain⟨ka,kb,kc,kd⟩:=br2.facts;have SGF:Hid (sg false ((Int.gcd (val xs) (val ys):Nat):Int)=((Int.gcd (sg nx (val xs)) (sg ny (val ys)):Nat):Int)):=by show _=_;rw[a2s];rfl
 have X:=hide (br2.set ng2 (.slice p1 r1.length q1)).facts;have Y:=hide (br2.wh ng2 (.slice p1 r1.length q1) G2);have Z:=hide (aam (hb0.trans ((hb1.trans (hb2.mono hb1.size)).mono hb0.size)) (Nat.le_add_right _ 2) (.bool ng2) (.slice p1 r1.length q1))
 skip;have hs9:=HS0.out;have s_1:=hb1.size;have s_2:=hb2.size;have O1:=hide ((o1.below hb2).set2 (w.heap.size+1+1) (by omega) (.bool ng2) (.slice p1 r1.length q1));have O2:=hide (show Li w.heap.size _ _ p1 q1 r1 from⟨O1.out.ow.mono (by omega),fun h0 g off e=>by have:=O1.out.lies h0 g off e;exact⟨by omega,Nat.lt_of_lt_of_le this.2 (show w1.heap.size<=((w2.setCell ⟨w.heap.size+1+1,0,none⟩ (.bool ng2)).setCell ⟨w.heap.size+1+1,1,none⟩ (.slice p1 r1.length q1)).heap.size by simp[World.setCell];exact s_2)⟩⟩);clear O1;go_wp2;refine bodyPost_ret (v:=.agg #[.bool ng2,.slice p1 r1.length q1]) ?_ rfl ⟨ng2,p1,q1,r1,rfl,by rw[<-SGF.out];exact Y.out,by omega,O2.out,Z.out⟩;simp[results,Tryz.results89,go_sem,X.out.1,X.out.2.1]
end Lm
namespace Dm
open Go.RowKit
open Lm (hide aba aaa cmpI ac2 adg)
def Cl(w:World)(b i:Nat)(v:Value):Prop:=w.cell? ⟨b,i,none⟩=some v
section
end
end Dm
namespace Lm
open Go.RowKit
open Dm (WFr)
theorem a22(B T:Nat)(w:World):Li B T w none 0 []:=⟨⟨none,0,rfl,Nat.le_refl _,by simp[maxLen],aak,.inl rfl⟩,fun h=>by omega⟩
theorem a23(w:World):Wh w false none 0 [] 0:=⟨⟨⟨none,0,rfl,Nat.le_refl _,by simp[maxLen],aak,.inl rfl⟩,afh,rfl⟩,rfl⟩
theorem Li.wfr{B T:Nat}{w:World}{ng:Bool}{ao:Option Addr}{cap:Nat}{rs:List Int}{z:Int}(h:Li B T w ao cap rs)(g:Wh w ng ao cap rs z):WFr B T w ng ao cap rs z:=⟨h.fr g.1,g.2⟩
end Lm
namespace Lm
open Go Go.RowKit
open Dm (WFr)
def SzGe(K:Nat)(w:World):Prop:=K<=w.heap.size
theorem SzGe.le{K:Nat}{w:World}(h:SzGe K w):K<=w.heap.size:=h
theorem SzGe.rl{K:Nat}{w w':World}(h:SzGe K w)(hr:Rl w w'):SzGe K w':=Nat.le_trans h hr.size
section
variable {dst:Option Tmp} {ty:TypeId} {pos:String} {after:Array Edge} {guard:Option (Nat×Bool)} {a:Act} {w:World} {ats:Array TypeId} {i j:Nat} {z:Int}
theorem asb{u:Int}(h1:a.eval (.tmp i)=.int .i64 u)(h2:a.eval (.tmp j)=.int .i64 u):
  Does Tryz.prog {dst,op:=.binOp .neq 3 (.tmp i) (.tmp j) 3,type:=ty,pos,after,guard} a.eval w fun v' w'=>Below w.heap.size w w'/\Eqs (.bool false) v' w':=by
 refine ae5 (v:=.bool false) ?_ ?_ ⟨Below.refl _ _,rfl⟩
 ·rw[h1,h2];simp[go_sem]
 ·rw[h1,h2];simp[go_sem]
theorem a0q{u v:Int}(h1:a.eval (.tmp i)=.int .i64 u)(h : -9223372036854775808<=u+v/\u+v<=9223372036854775807):
  Does Tryz.prog {dst,op:=.binOp .add 3 (.tmp i) (.const (.int .i64 v)) 3,type:=ty,pos,after,guard} a.eval w fun v' w'=>Below w.heap.size w w'/\Eqs (.int .i64 (u+v)) v' w':=by
 refine ae5 (v:=.int .i64 (u+v)) ?_ ?_ ⟨Below.refl _ _,rfl⟩
 ·rw[h1];simp[go_sem,Act.eval]
 ·rw[h1];simp[go_sem,Act.eval];exact wrap64 h.1 h.2
end
end Lm
namespace Lm
open Go Go.RowKit
def Cl(w:World)(v:Value)(size n:Nat)(xs:List Value):Prop:=
 ∃ao cap,v=.slice ao n cap/\n<=cap/\cap<=9223372036854775807/\xs.length=n*size/\(n=0\/∃b off,ao=some ⟨b,off,none⟩/\b<w.heap.size/\∀j u,xs[j]? = some u->w.cell? ⟨b,off+j,none⟩=some u)
theorem Cl.below{w w':World}{v:Value}{size n:Nat}{xs:List Value}(h:Cl w v size n xs)(hb:Below w.heap.size w w'):Cl w' v size n xs:=by
 obtain⟨ao,cap,rfl,h1,h2,h3,h4⟩:=h;refine⟨ao,cap,rfl,h1,h2,h3,?_⟩;rcases h4 with h4|⟨b,off,rfl,hl,hc⟩
 ·exact .inl h4
 ·exact .inr ⟨b,off,rfl,Nat.lt_of_lt_of_le hl hb.size,fun j u hu=>(hb.cell (p:=⟨b,off+j,none⟩) hl).trans (hc j u hu)⟩
theorem Cl.own{w:World}{base:Nat}{e:TypeId}{size n:Nat}{v:Value}{xs:List Value}(h:w.ownsRow base e size v n xs):Cl w v size n xs:=by
 obtain⟨hl,⟨rfl,rfl⟩|⟨g,cap,cur,rfl,hb,hh,h1,h2,h3,h4⟩⟩:=h
 ·exact⟨none,0,rfl,Nat.le_refl _,by omega,hl,.inl rfl⟩
 ·refine⟨_,cap,rfl,h1,by simpa[maxLen]using h2,hl,.inr ⟨g,0,rfl,aaa hh,fun j u hu=>?_⟩⟩;rw[Nat.zero_add,cell_of_row w g j cur e (0,0) hh];rw[<-h4,List.getElem?_take]at hu;split at hu
  ·simpa using hu
  ·cases hu
structure WE where
 ng:Bool
 a:Option Addr
 m:Nat
 c:Nat
 zs:List Int
def WE.z(e:WE):Int:=sg e.ng (val e.zs)
def flat:List WE->List Value
 | []=>[]
 |e::es=>.bool e.ng :: .slice e.a e.m e.c::flat es
theorem aas(es:List WE):(flat es).length=es.length*2:=by
 induction es with
 |nil=>rfl
 |cons e es ih=>simp only[flat,List.length_cons,ih];omega
theorem ab7{es:List WE}{k:Nat}{e:WE}(h:es[k]? = some e):(flat es)[k*2]? = some (.bool e.ng)/\(flat es)[k*2+1]? = some (.slice e.a e.m e.c):=by
 induction es generalizing k with
 |nil=>simp at h
 |cons x es ih=>
  cases k with
  |zero=>
   simp only[List.getElem?_cons_zero,Option.some.injEq]at h;subst h;simp[flat]
  |succ k=>
   have:=ih (k:=k) (by simpa using h);have e1:(k+1)*2=k*2+1+1:=by omega
   rw[e1];simpa[flat]using this
theorem afq(es fs:List WE):flat (es++fs)=flat es++flat fs:=by
 induction es with
 |nil=>rfl
 |cons e es ih=>simp[flat,ih]
structure Rw (w:World) (v:Value) (es:List WE):Prop where
 cl:Cl w v 2 es.length (flat es)
 sl:∀e∈es,Sl w (.slice e.a e.m e.c) e.zs
theorem Rw.below{w w':World}{v:Value}{es:List WE}(h:Rw w v es)(hb:Below w.heap.size w w'):Rw w' v es:=⟨h.cl.below hb,fun e he=>(h.sl e he).below hb⟩
theorem Rw.ag{w:World}{v:Value}{es:List WE}(h:Rw w v es){e:WE}(he:e∈es):Ag w e.ng e.a e.m e.c e.zs e.z:=⟨h.sl e he,rfl⟩
theorem Rw.parts{w:World}{ao:Option Addr}{n cap:Nat}{es:List WE}(h:Rw w (.slice ao n cap) es):n=es.length/\es.length<=cap/\cap<=9223372036854775807:=by
 obtain⟨ao',cap',hv,h1,h2,h3,h4⟩:=h.cl;obtain⟨rfl,rfl,rfl⟩:=(Value.slice.injEq .. ▸ hv);exact⟨rfl,h1,h2⟩
theorem Rw.cells{w:World}{ao:Option Addr}{n cap:Nat}{es:List WE}(h:Rw w (.slice ao n cap) es)(hp:0<es.length):∃b off,ao=some ⟨b,off,none⟩/\b<w.heap.size/\∀j u,(flat es)[j]? = some u->w.cell? ⟨b,off+j,none⟩=some u:=by
 obtain⟨ao',cap',hv,h1,h2,h3,h4⟩:=h.cl;obtain⟨rfl,_,rfl⟩:=(Value.slice.injEq .. ▸ hv);rcases h4 with h4|h4
 ·omega
 ·exact h4
section
variable {dst:Option Tmp} {ty:TypeId} {pos:String} {after:Array Edge} {guard:Option (Nat×Bool)} {a:Act} {w:World} {ats:Array TypeId} {i j:Nat}
theorem akf{ao:Option Addr}{n c:Nat}(h:a.eval (.tmp i)=.slice ao n c):Does Tryz.prog {dst,op:=.call {callee:=.builtin .len,args:=#[.tmp i],argTypes:=#[39]},type:=ty,pos,after,guard} a.eval w fun v' w'=>Below w.heap.size w w'/\Eqs (.int .i64 n) v' w':=by
 have e:(execOp a.eval {dst,op:=.call {callee:=.builtin .len,args:=#[.tmp i],argTypes:=#[39]},type:=ty,pos,after,guard}).run Tryz.prog w=.ok (.value (.int .i64 n)) w:=by
  have h':a.tmps[i]?.getD undef=.slice ao n c:=by simpa[Act.eval]using h
  simp[go_sem,h']
 refine⟨?_⟩;unfold Turns;rw[e];exact⟨Below.refl _ _,rfl⟩
theorem abm{b off n c k:Nat}{ao:Option Addr}(h:a.eval (.tmp i)=.slice ao n c)(hao:ao=some ⟨b,off,none⟩)(hk:a.eval (.tmp j)=.int .i64 (k:Int))(hl:k<n):Does Tryz.prog {dst,op:=.indexAddr 39 (.tmp i) (.tmp j),type:=ty,pos,after,guard} a.eval w fun v' w'=>Below w.heap.size w w'/\Eqs (.pointer (some ⟨b,off+k*2,none⟩)) v' w':=by
 subst hao;have e:(execOp a.eval {dst,op:=.indexAddr 39 (.tmp i) (.tmp j),type:=ty,pos,after,guard}).run Tryz.prog w=.ok (.value (.pointer (some ⟨b,off+k*2,none⟩))) w:=by
  simp only[execOp,h,hk];go_simp
 refine⟨?_⟩;unfold Turns;rw[e];exact⟨Below.refl _ _,rfl⟩
theorem aup{b off k:Nat}{ao:Option Addr}{n cap:Nat}{es:List WE}{e:WE}(hp:a.eval (.tmp i)=.pointer (some ⟨b,off+k*2,none⟩))(hao:ao=some ⟨b,off,none⟩)(hR:Rw w (.slice ao n cap) es)(he:es[k]? = some e):Does Tryz.prog {dst,op:=.load 45 (.tmp i),type:=ty,pos,after,guard} a.eval w fun v' w'=>Below w.heap.size w w'/\Eqs (.agg #[.bool e.ng,.slice e.a e.m e.c]) v' w':=by
 have hk:k<es.length:=(List.getElem?_eq_some_iff.1 he).1;obtain⟨b',off',e',hb,hc⟩:=hR.cells (by omega);obtain⟨rfl,rfl⟩:b'=b/\off'=off:=by
  rw[hao]at e';simp only[Option.some.injEq,Addr.mk.injEq,and_true]at e';exact⟨e'.1.symm,e'.2.symm⟩
 obtain⟨f1,f2⟩:=ab7 he;have h1:=hc _ _ f1;have h2:w.cell? ⟨b',off'+k*2+1,none⟩=_:=hc _ _ f2;refine aa3 (v:=.agg #[.bool e.ng,.slice e.a e.m e.c]) ?_ ⟨Below.refl _ _,rfl⟩;rw[hp];go_simp
end
def lenW:List WE->Nat
 | []=>0
 |e::es=>1+e.m+lenW es
theorem afr(es fs:List WE):lenW (es++fs)=lenW es+lenW fs:=by
 induction es with
 |nil=>simp[lenW]
 |cons e es ih=>simp only[List.cons_append,lenW,ih];omega
theorem auq{es:List WE}{k:Nat}{e:WE}(h:es[k]? = some e):lenW (es.take (k+1))=lenW (es.take k)+(1+e.m):=by
 rw[List.take_add_one,h,afr];simp[lenW]
theorem am5(es:List WE)(k:Nat):lenW (es.take k)<=lenW es:=by
 have:=afr (es.take k) (es.drop k);rw[List.take_append_drop]at this;omega
theorem am6{es:List WE}{e:WE}(h:e∈es):1+e.m<=lenW es:=by
 induction es with
 |nil=>cases h
 |cons x es ih=>
  simp only[lenW];rcases List.mem_cons.1 h with rfl|h
  ·omega
  ·have:=ih h;omega
theorem ao8(es:List WE):es.length<=lenW es:=by
 induction es with
 |nil=>simp
 |cons x es ih=>simp only[lenW,List.length_cons];omega
section
variable {dst:Option Tmp} {ty:TypeId} {pos:String} {after:Array Edge} {guard:Option (Nat×Bool)} {a:Act} {w:World} {ats:Array TypeId} {i j:Nat}
theorem aql{k:Nat}(h1:a.eval (.tmp i)=.int .i64 (k:Int))(h:k<9223372036854775807):
  Does Tryz.prog {dst,op:=.binOp .add 3 (.tmp i) (.const (.int .i64 1)) 3,type:=ty,pos,after,guard} a.eval w fun v' w'=>Below w.heap.size w w'/\Eqs (.int .i64 ((k+1:Nat):Int)) v' w':=by
 have:=a0q (dst:=dst) (ty:=ty) (pos:=pos) (after:=after) (guard:=guard) (w:=w) (v:=1) h1 (by omega);rwa[show((k:Int)+1)=((k+1:Nat):Int) by omega]at this
theorem a0r{u v:Int}(h1:a.eval (.tmp i)=.int .i64 u)(h2:a.eval (.tmp j)=.int .i64 v):
  Does Tryz.prog {dst,op:=.binOp .lss 3 (.tmp i) (.tmp j) 3,type:=ty,pos,after,guard} a.eval w fun v' w'=>Below w.heap.size w w'/\Eqs (.bool (decide (u<v))) v' w':=by
 refine ae5 (v:=.bool (decide (u<v))) ?_ ?_ ⟨Below.refl _ _,rfl⟩
 ·rw[h1,h2];simp[go_sem]
 ·rw[h1,h2];simp[go_sem]
theorem a0s{u v:Int}(h1:a.eval (.tmp i)=.int .i64 u)(h2:a.eval (.tmp j)=.int .i64 v)(h:u=v):
  Does Tryz.prog {dst,op:=.binOp .neq 3 (.tmp i) (.tmp j) 3,type:=ty,pos,after,guard} a.eval w fun v' w'=>Below w.heap.size w w'/\Eqs (.bool false) v' w':=by
 subst h;exact asb h1 h2
end
end Lm
namespace Lm
open Go Go.RowKit Go.ChangeShapes Go.WideShapes Go.ChangeAt Go.Deep
theorem aqm{w:World}{x:Addr}{l c:Nat}{zs:List Int}(hl:l<=c)(hm:c<=maxLen)(hz:zs.length=c)(hcell:∀i,i<zs.length->w.cell? (x.add i)=some (.int .u32 (zs.getD i 0)))(hwz:∀n∈zs,(Lit.int .u32 n).wf=true):Sl w (.slice (some x) l c) (zs.take l):=by
 have hll:(zs.take l).length=l:=by rw[List.length_take];omega
 refine⟨some x,c,by rw[hll],by omega,hm,fun n hn=>?_,?_⟩
 ·have:=bounds_u32 (hwz n (List.mem_of_mem_take hn));omega
 ·by_cases h0:l=0
  ·exact .inl (List.eq_nil_of_length_eq_zero (by omega))
  ·obtain⟨b,off,spot⟩:=x;have h1:=hcell 0 (by omega);have hspot:spot=none:=by simpa[Addr.add]using World.cell?_spot h1
   subst hspot;refine .inr ⟨b,off,rfl,fun i hi=>?_⟩;have h2:=hcell i (by omega);rw[adi _ _ _ (by omega)];have e:(⟨b,off,none⟩:Addr).add i=⟨b,off+i,none⟩:=by
    by_cases hi0:i=0
    ·subst hi0;simp[Addr.add]
    ·simp[Addr.add,hi0]
   rwa[e]at h2
instance:Inhabited WE:=⟨⟨false,none,0,0,[]⟩⟩
theorem ali{H:Type}(zs:List Int):Rows.uptoBulkAll (lits .u32 zs:List (DataW H))=zs.length:=by
 induction zs with
 |nil=>rfl
 |cons z zs ih=>
  have e:(lits .u32 (z::zs):List (DataW H))=.lit (.int .u32 z)::lits .u32 zs:=rfl;rw[e,Rows.uptoBulkAll,ih,Rows.uptoBulk,List.length_cons]
  ·omega
  ·intro b hb;cases hb
theorem ad7{H:Type}(l r:List (DataW H)):Rows.uptoBulkAll (l++r)=Rows.uptoBulkAll l+Rows.uptoBulkAll r:=by
 induction l with
 |nil=>simp[Rows.uptoBulkAll]
 |cons x l ih=>simp only[List.cons_append,Rows.uptoBulkAll,ih];omega
theorem axo(E:Nat->WE)(n:Nat):∀j u,(flat ((List.range n).map E))[j]? = some u->j/2<n/\u=(if j%2=0 then .bool (E (j/2)).ng else .slice (E (j/2)).a (E (j/2)).m (E (j/2)).c):=by
 intro j u hu;have hj:j<(flat ((List.range n).map E)).length:=(List.getElem?_eq_some_iff.1 hu).1;rw[aas,List.length_map,List.length_range]at hj;have hk:j/2<n:=by omega
 have he:((List.range n).map E)[j/2]? = some (E (j/2)):=by simp[hk]
 obtain⟨h1,h2⟩:=ab7 he;refine⟨hk,?_⟩;by_cases h0:j%2=0
 ·rw[if_pos h0];rw[show j/2*2=j by omega,hu]at h1;exact Option.some.inj h1
 ·rw[if_neg h0];rw[show j/2*2+1=j by omega,hu]at h2;exact Option.some.inj h2
theorem am7{H:Type}{enc:TypeId×Value->H}{w:World}{fuel:Nat}{ao:Option Addr}{n cap:Nat}{x:DataW H×List MemPlace}(h:DataW.trod enc Tryz.prog w 0 (fun _=>true) true fuel 39 [.slice ao n cap]=some x):
  ∃es,Rw w (.slice ao n cap) es/\lenW es+1<=Rows.uptoBulk x.1:=by
 rcases open_slice_pairs Tryz.underlying39 Tryz.underlying45 (by kernel_rfl) (by kernel_rfl) (by kernel_rfl) (by kernel_rfl) (by kernel_rfl) h with⟨hcs,rfl⟩|⟨a,len,cap',m,k,V0,V1,D0,D1,P0,P1,hcs,_,hl,hm,hmm,rfl,hall⟩
 ·obtain⟨rfl,rfl,rfl⟩:ao=none/\n=0/\cap=0:=by simpa using hcs
  exact⟨[],⟨⟨none,0,rfl,Nat.le_refl _,by omega,rfl,.inl rfl⟩,fun e he=>by cases he⟩,by simp[lenW,Rows.uptoBulk]⟩
 obtain⟨rfl,rfl,rfl⟩:ao=some a/\n=len/\cap=cap':=by simpa using hcs
 simp only[if_true]at hmm;subst hmm;have each:∀i,i<m->∃e:WE,V0 i=.bool e.ng/\V1 i=.slice e.a e.m e.c/\Sl w (.slice e.a e.m e.c) e.zs/\e.m+1<=Rows.uptoBulk (DataW.agg (H:=H) [D0 i,D1 i]):=by
  intro i hi;obtain⟨_,_,t0,t1⟩:=hall i hi;obtain⟨b,hb0,_⟩:=DataW.trod_bool Tryz.underlying4 t0;obtain hb:V0 i=.bool b:=by simpa using hb0
  rcases open_ints Tryz.underlying43 Tryz.underlying86 (by kernel_rfl) t1 with⟨hcs,_⟩|⟨x,l,c,zs,hcs,_,hl,hm,hz,hx,hcell,hwz⟩
  ·obtain hv:V1 i=.slice none 0 0:=by simpa using hcs
   exact⟨⟨b,none,0,0,[]⟩,hb,hv,⟨none,0,rfl,Nat.le_refl _,by simp[maxLen],aak,.inl rfl⟩,by simp[Rows.uptoBulk]⟩
  ·obtain hv:V1 i=.slice (some x) l c:=by simpa using hcs
   have hz':zs.length=c:=by simpa using hz
   refine⟨⟨b,some x,l,c,zs.take l⟩,hb,hv,aqm hl hm hz' hcell hwz,?_⟩;have hd:D1 i=.slice (lits .u32 (zs.take l)) (lits .u32 (zs.drop l)):=congrArg Prod.fst hx;have hll:(zs.take l).length=l:=by rw[List.length_take];omega
   simp only[Rows.uptoBulk,Rows.uptoBulkAll,hd,ali,hll];omega
 obtain⟨E,hE⟩:=choose_lt each;refine⟨(List.range n).map E,⟨⟨some a,m,by rw[List.length_map,List.length_range],by rw[List.length_map,List.length_range];exact hl,by simpa[maxLen]using hm,aas _,?_⟩,fun e he=>?_⟩,?_⟩
 ·by_cases h0:n=0
  ·exact .inl (by rw[List.length_map,List.length_range];exact h0)
  ·obtain⟨b,off,spot⟩:=a;have h1:=(hall 0 (by omega)).1;have hspot:spot=none:=by simpa[Addr.add]using World.cell?_spot h1
   subst hspot;have hadd:∀i,(⟨b,off,none⟩:Addr).add i=⟨b,off+i,none⟩:=fun i=>by
    by_cases hi0:i=0
    ·subst hi0;simp[Addr.add]
    ·simp[Addr.add,hi0]
   refine .inr ⟨b,off,rfl,aba (off:=off+0*2) (by rw[<-hadd];exact h1),fun j u hu=>?_⟩;obtain⟨hj,rfl⟩:=axo E n j u hu;obtain⟨c0,c1,_,_⟩:=hall (j/2) (by omega);obtain⟨e0,e1,_⟩:=hE (j/2) (by omega);rw[hadd]at c0 c1;by_cases hj0:j%2=0
   ·rw[if_pos hj0,<-e0,<-c0];congr 2;omega
   ·rw[if_neg hj0,<-e1,<-c1];congr 2;omega
 ·obtain⟨i,hi,rfl⟩:=List.mem_map.1 he;exact(hE i (by have:=List.mem_range.1 hi;omega)).2.2.1
 ·have key:∀k,k<=n->lenW ((List.range k).map E)<=Rows.uptoBulkAll ((List.range k).map fun i=>DataW.agg (H:=H) [D0 i,D1 i]):=by
   intro k hk;induction k with
   |zero=>simp[lenW]
   |succ k ih=>
    have h1:=ih (by omega);have h2:=(hE k (by omega)).2.2.2;rw[List.range_succ,List.map_append,List.map_append,afr,ad7];simp only[List.map_cons,List.map_nil,lenW,Rows.uptoBulkAll]at h1 h2 ⊢;omega
  have:=key n (Nat.le_refl _);simp only[Rows.uptoBulk];omega
end Lm
namespace Lm
open Go.RowKit
structure Pl where
 b:Nat
 g:Nat
 l:Nat
 c:Nat
theorem gdrewN{B:Nat}{a w:World}(h:Below B a w)(n:Nat):Below B a (w.drewN n):=h.trans ⟨rfl,rfl,rfl,Nat.le_refl _,fun _ _=>rfl⟩
end Lm
namespace Lm
open Go Go.RowKit
def Ce(w:World)(v:Value)(size n:Nat)(xs:List Value):Prop:=
 ∃ao cap,v=.slice ao n cap/\n<=cap/\cap<=9223372036854775807/\xs.length=n*size/\(n=0\/∃b off,ao=some ⟨b,off,none⟩/\b<w.heap.size/\∀j u,xs[j]? = some u->w.cell? ⟨b,off+j,none⟩=some u)
theorem Ce.below{w w':World}{v:Value}{size n:Nat}{xs:List Value}(h:Ce w v size n xs)(hb:Below w.heap.size w w'):Ce w' v size n xs:=by
 obtain⟨ao,cap,rfl,h1,h2,h3,h4⟩:=h;refine⟨ao,cap,rfl,h1,h2,h3,?_⟩;rcases h4 with h4|⟨b,off,rfl,hl,hc⟩
 ·exact .inl h4
 ·exact .inr ⟨b,off,rfl,Nat.lt_of_lt_of_le hl hb.size,fun j u hu=>(hb.cell (p:=⟨b,off+j,none⟩) hl).trans (hc j u hu)⟩
theorem Ce.own{w:World}{base:Nat}{e:TypeId}{size n:Nat}{v:Value}{xs:List Value}(h:w.ownsRow base e size v n xs):Ce w v size n xs:=by
 obtain⟨hl,⟨rfl,rfl⟩|⟨g,cap,cur,rfl,hb,hh,h1,h2,h3,h4⟩⟩:=h
 ·exact⟨none,0,rfl,Nat.le_refl _,by omega,hl,.inl rfl⟩
 ·refine⟨_,cap,rfl,h1,by simpa[maxLen]using h2,hl,.inr ⟨g,0,rfl,aaa hh,fun j u hu=>?_⟩⟩;rw[Nat.zero_add,cell_of_row w g j cur e (0,0) hh];rw[<-h4,List.getElem?_take]at hu;split at hu
  ·simpa using hu
  ·cases hu
theorem OutW.ru{z:Int}{L:Nat}{v:Value}{w w':World}(h:OutW z L v w)(hr:Ru w w'):OutW z L v w':=OutW.mono5 z L _ _ _ hr h
theorem OutW.fit{z:Int}{L L':Nat}{v:Value}{w:World}(h:OutW z L v w)(hf:(z.natAbs:Int)<pw L'):OutW z L' v w:=by
 obtain⟨ng,ao,cap,rs,e,h1,l1⟩:=h;exact⟨ng,ao,cap,rs,e,h1,aa7 h1.1.2.1 (by rw[h1.1.2.2];exact hf)⟩
structure Rc (q b:Nat) (w w':World):Prop where
 os:w'.os=w.os
 tape:w'.tape=w.tape
 output:w'.output=w.output
 size:w.heap.size<=w'.heap.size
 other:∀k,k<w.heap.size->k≠q->k≠b->w'.heap[k]? = w.heap[k]?
 ru:Ru w w'
theorem Rc.of_below{q b:Nat}{w w':World}(h:Below w.heap.size w w'):Rc q b w w':=⟨h.os,h.tape,h.output,h.size,fun k hk _ _=>h.block k hk,Ru.of_below h⟩
theorem Rc.trans{q b:Nat}{w w' w'':World}(h:Rc q b w w')(h':Rc q b w' w''):Rc q b w w'':=⟨h'.os.trans h.os,h'.tape.trans h.tape,h'.output.trans h.output,Nat.le_trans h.size h'.size,fun k hk h1 h2=>(h'.other k (Nat.lt_of_lt_of_le hk h.size) h1 h2).trans (h.other k hk h1 h2),h.ru.trans h'.ru⟩
theorem Rc.below{q b:Nat}{w w':World}{B:Nat}(h:Rc q b w w')(hB:B<=w.heap.size)(hq:B<=q)(hb:B<=b):Below B w w':=⟨h.os,h.tape,h.output,h.size,fun k hk=>h.other k (by omega) (by omega) (by omega)⟩
theorem FrW.ru{K:Nat}{z:Int}{L:Nat}{v:Value}{w w':World}(h:FrW K z L v w)(hr:Ru w w'):FrW K z L v w':=FrW.mono5 K z L _ _ _ hr h
theorem FrW.of_li{w:World}{B T:Nat}{ng:Bool}{ao:Option Addr}{cap:Nat}{rs:List Int}{z:Int}{L:Nat}(hw:Wh w ng ao cap rs z)(hl:Li B T w ao cap rs)(hT:T<=w.heap.size)(hL:rs.length<=L):FrW B z L (.agg #[.bool ng,.slice ao rs.length cap]) w:=
 ⟨ng,ao,cap,rs,B,T,rfl,⟨⟨hl.ow,hw.1.2.1,hw.1.2.2,hl.lies⟩,hw.2⟩,Nat.le_refl _,hT,hL⟩
theorem FrW.low{K K':Nat}{z:Int}{L:Nat}{v:Value}{w:World}(h:FrW K z L v w)(hk:K'<=K):FrW K' z L v w:=by
 obtain⟨ng,ao,cap,rs,B,T,e,h1,h2,h3,h4⟩:=h;exact⟨ng,ao,cap,rs,B,T,e,h1,Nat.le_trans hk h2,h3,h4⟩
theorem FrW.to{K:Nat}{z z':Int}{L L':Nat}{v:Value}{w:World}(h:FrW K z L v w)(hz:z=z')(hL:L<=L'):FrW K z' L' v w:=by
 subst hz;obtain⟨ng,ao,cap,rs,B,T,e,h1,h2,h3,h4⟩:=h;exact⟨ng,ao,cap,rs,B,T,e,h1,h2,h3,Nat.le_trans h4 hL⟩
theorem FrW.fit{K:Nat}{z:Int}{L L':Nat}{v:Value}{w:World}(h:FrW K z L v w)(hf:(z.natAbs:Int)<pw L'):FrW K z L' v w:=by
 obtain⟨ng,ao,cap,rs,B,T,e,h1,h2,h3,h4⟩:=h;exact⟨ng,ao,cap,rs,B,T,e,h1,h2,h3,aa7 h1.fr.canon (by rw[h1.fr.val];exact hf)⟩
theorem FrW.is{K:Nat}{z:Int}{L:Nat}{v:Value}{w:World}(h:FrW K z L v w):IsW z L v w:=h.out.is
theorem FrW.agg{K:Nat}{z:Int}{L:Nat}{v:Value}{w:World}(h:FrW K z L v w):∃ng ao n cap,v=.agg #[.bool ng,.slice ao n cap]:=by
 obtain⟨ng,ao,cap,rs,B,T,e,_⟩:=h;exact⟨ng,ao,rs.length,cap,e⟩
theorem ae7(w:World){K L:Nat}(hK:K<=w.heap.size):FrW K 0 L (.agg #[.bool false,.slice none 0 0]) w:=⟨false,none,0,[],w.heap.size,w.heap.size,rfl,(a22 _ _ _).wfr (a23 _),hK,Nat.le_refl _,by simp⟩
theorem IsW.ru{z:Int}{L:Nat}{v:Value}{w w':World}(h:IsW z L v w)(hr:Ru w w'):IsW z L v w':=IsW.mono5 z L _ _ _ hr h
section
variable (w:World) (x y:Int) (vx vy:Value) (L M:Nat)
theorem mulF(hx:IsW x L vx w)(hy:IsW y M vy w)(hL:L<=400000000)(hM:M<=400000000):
  Calls Tryz.prog 87 #[vx,vy] w fun e w'=>∃v,e=.returned v/\FrW w.heap.size (x*y) (L+M) v w'/\Below w.heap.size w w':=by
 obtain⟨n1,a1,m1,c1,xs,rfl,A1,l1⟩:=hx;obtain⟨n2,a2,m2,c2,ys,rfl,A2,l2⟩:=hy;refine(a20 w n1 a1 m1 c1 xs A1.sl n2 a2 m2 c2 ys A2.sl (by omega) (by omega)).mono ?_;rintro e w' ⟨ng,ao,cap,rs,rfl,hw,hl,hli,hb⟩;rw[A1.worth,A2.worth]at hw;exact⟨_,rfl,FrW.of_li hw hli (Nat.le_refl _) (by omega),hb⟩
theorem addF(hx:IsW x L vx w)(hy:IsW y M vy w)(hL:L<=400000000)(hM:M<=400000000):
  Calls Tryz.prog 56 #[vx,vy] w fun e w'=>∃v,e=.returned v/\FrW w.heap.size (x+y) (L+M+1) v w'/\Below w.heap.size w w':=by
 obtain⟨n1,a1,m1,c1,xs,rfl,A1,l1⟩:=hx;obtain⟨n2,a2,m2,c2,ys,rfl,A2,l2⟩:=hy;refine(a2y w n1 a1 m1 c1 xs A1.sl n2 a2 m2 c2 ys A2.sl (by omega) (by omega)).mono ?_;rintro e w' ⟨ng,ao,cap,rs,rfl,hw,hl,hli,hb⟩;rw[A1.worth,A2.worth]at hw;exact⟨_,rfl,FrW.of_li hw hli (Nat.le_refl _) (by omega),hb⟩
theorem subF(hx:IsW x L vx w)(hy:IsW y M vy w)(hL:L<=400000000)(hM:M<=400000000):
  Calls Tryz.prog 101 #[vx,vy] w fun e w'=>∃v,e=.returned v/\FrW w.heap.size (x-y) (L+M+1) v w'/\Below w.heap.size w w':=by
 obtain⟨n1,a1,m1,c1,xs,rfl,A1,l1⟩:=hx;obtain⟨n2,a2,m2,c2,ys,rfl,A2,l2⟩:=hy;refine(a2z w n1 a1 m1 c1 xs A1.sl n2 a2 m2 c2 ys A2.sl (by omega) (by omega)).mono ?_;rintro e w' ⟨ng,ao,cap,rs,rfl,hw,hl,hli,hb⟩;rw[A1.worth,A2.worth]at hw;exact⟨_,rfl,FrW.of_li hw hli (Nat.le_refl _) (by omega),hb⟩
theorem gcdF(hx:IsW x L vx w)(hy:IsW y M vy w)(hL:L<=400000000)(hM:M<=400000000):
  Calls Tryz.prog 89 #[vx,vy] w fun e w'=>∃v,e=.returned v/\FrW w.heap.size ((Int.gcd x y:Nat):Int) (L+M+1) v w'/\Below w.heap.size w w':=by
 obtain⟨n1,a1,m1,c1,xs,rfl,A1,l1⟩:=hx;obtain⟨n2,a2,m2,c2,ys,rfl,A2,l2⟩:=hy;refine(a21 w n1 a1 m1 c1 xs A1.sl n2 a2 m2 c2 ys A2.sl (by omega) (by omega)).mono ?_;rintro e w' ⟨ng,ao,cap,rs,rfl,hw,hl,hli,hb⟩;rw[A1.worth,A2.worth]at hw;exact⟨_,rfl,FrW.of_li hw hli (Nat.le_refl _) (by omega),hb⟩
theorem negF(hx:IsW x L vx w)(hL:L<=400000000):
  Calls Tryz.prog 52 #[vx] w fun e w'=>∃v,e=.returned v/\FrW w.heap.size (-x) L v w'/\Below w.heap.size w w':=by
 obtain⟨n1,a1,m1,c1,xs,rfl,A1,l1⟩:=hx;refine(a2x w n1 a1 m1 c1 xs A1.sl (by omega)).mono ?_;rintro e w' ⟨ng,ao,cap,rs,rfl,hw,hl,hli,hb⟩;rw[A1.worth]at hw;exact⟨_,rfl,FrW.of_li hw hli (Nat.le_refl _) (by omega),hb⟩
theorem signF(hx:IsW x L vx w)(hL:L<=400000000):
  Calls Tryz.prog 19 #[vx] w fun e w'=>e=.returned (.int .i64 (Int.sign x))/\Below w.heap.size w w':=by
 obtain⟨n1,a1,m1,c1,xs,rfl,A1,l1⟩:=hx;exact aha w n1 a1 m1 c1 xs x A1 (by omega) _ rfl
theorem divF(hx:IsW x L vx w)(hy:IsW y M vy w)(hL:L<=400000000)(hM:M<=400000000):
  Calls Tryz.prog 120 #[vx,vy] w fun e w'=>∃v1 v2 b,e=.returned (.tuple #[v1,v2,.bool b])/\FrW w.heap.size (x/y) (L+4) v1 w'/\OutW (if y=0 then 0 else x%y) (M+1) v2 w'/\b=decide (y≠0)/\Below w.heap.size w w':=by
 obtain⟨n1,a1,m1,c1,xs,rfl,A1,l1⟩:=hx;obtain⟨n2,a2,m2,c2,ys,rfl,A2,l2⟩:=hy;have hw:=A2.worth;by_cases h0:val ys=0
 ·have hy0:y=0:=by rw[<-hw,h0];cases n2 <;> simp[sg]
  refine(amz w n1 a1 m1 c1 xs A1.sl n2 a2 m2 c2 ys A2.sl h0).mono ?_;rintro e w' ⟨rfl,hb⟩;refine⟨_,_,_,rfl,?_,?_,by rw[hy0];rfl,hb⟩
  ·rw[hy0,Int.ediv_zero];exact ae7 _ hb.size
  ·rw[if_pos hy0];exact(ae7 (K:=0) _ (Nat.zero_le _)).out
 ·have hy0:y≠0:=by rw[<-hw];cases n2 <;> simp[sg] <;> omega
  refine(alh w n1 a1 m1 c1 xs A1.sl n2 a2 m2 c2 ys A2.sl (by omega) (by omega) h0).mono ?_;rintro e w' ⟨nq,aq,cq,qs,nr,ar,cr,rs,B1,T1,B2,T2,rfl,hq,hr,lq,lr,li1,li2,⟨i1,i2,i3,i4,_⟩,hb⟩;rw[A1.worth,A2.worth]at hq hr;refine⟨_,_,_,rfl,(FrW.of_li hq li1 i2 (by omega)).low i1,?_,by simp[hy0],hb⟩;rw[if_neg hy0];exact⟨_,_,_,_,rfl,hr,by omega⟩
end
theorem adk{ops:Array Oper}{o:Oper}{a:Act}{w:World}{K:Act->World->Prop}{Q:Exit->Act->World->Prop}{E:Prop}(hg:o.guard=none)(f:FuncId)(xs:Array Operand)(ats:Array TypeId)
  (hop:o.op=.call {callee:=.value (.func f),args:=xs,argTypes:=ats}) (hf:Has Tryz.prog f) (vs:Array Value) (hx:xs.map a.eval=vs) {Post:Ending->World->Prop} (hc:Calls Tryz.prog f vs w Post) (hK:∀e w',Post e w'->∃r,e=.returned r/\K (a.put o.dst r) w') :
  if Region.wanted o (yielded ops a.tmps)=true then Oper.wp Tryz.prog o a w K Q else E:=by
 obtain⟨dst,op,ty,pos,after,guard⟩:=o;simp only at hop hg;subst hop hg;have hw:Region.wanted {dst,op:=.call {callee:=.value (.func f),args:=xs,argTypes:=ats},type:=ty,pos,after,guard:=none} (yielded ops a.tmps)=true:=by simp[Region.wanted]
 rw[if_pos hw];clear hw;have hd:Does Tryz.prog {dst,op:=.call {callee:=.value (.func f),args:=xs,argTypes:=ats},type:=ty,pos,after,guard:=none} a.eval w (fun r w'=>K (a.put dst r) w'):=aah hf vs hx (hc.mono hK);have hz:=Does.wp (K:=K) (Q:=Q) hd (fun v w' h=>h);exact hz
end Lm
end Go.Proofs.YtjogfjgkabjcfaaGreat
