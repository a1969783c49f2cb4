/-
  The given statement on AffineTurns, for every input of bulk at most 1048576: the call answers true, and each argument reads behind it as it read before; and its card. Its condition: the two tables of unicode/utf8 are laid as the row lists them; the card ties that to the program's text. Beside it: AffineTurns: what its walk uses beside the contracts. No program is named here. The document's CanonOf of a row of fractions. A row as it is printed: its text by codes, its tokens, and what they say. No program is named here. What every program answers that is one: package affine, the walk. AffineTurns: its numbers, as letters for the walk. The law's own question: is no number of the row too long? AffinePulls, the walk. Rows of whole numbers: how long they are together, copied, held against one another. AffineTurns, the walk.
-/
import Derived.Test.YtmglhfbpgbjbkaaGreatDoorRows
import Derived.Test.YtmglhfbpgbjbkaaGreatDoorCards
import Derived.Test.YtmglhfbpgbjbkaaGreatDoorTie
import Derived.ProofKit
import Derived.OpenShut
import Derived.ShutString
import Derived.ChangeOld
import Derived.SizedLaws
import Derived.Lib.SmallJoins
import Derived.Lib.LaidU8
import Derived.Lib.LaidIn
import Derived.Deep.DeepHandedRow
import Derived.SliceStrings
import Derived.JoinedCond
import Derived.Test.YtmglhfbpgbjbkaaGreatDoorXLLawZ4
set_option maxRecDepth 20000
set_option maxHeartbeats 40000000
namespace Go.Proofs.YtmglhfbpgbjbkaaGreatDoor
namespace Lm
open Go Go.RowKit
theorem agd(z:Int):0<(txt z).size/\∀h:0<(txt z).size,(((txt z)[0]'h).toNat:Int)=45↔z<0:=by
 have key:∀(c:Int) (l:List Int),0<=c->c<256->0<(strOfNums (c::l)).size/\∀h:0<(strOfNums (c::l)).size,(((strOfNums (c::l))[0]'h).toNat:Int)=c:=by
  intro c l h0 h1;refine⟨by rw[adg];simp,fun h=>?_⟩;show((UInt8.ofNat c.toNat).toNat:Int)=c;rw[UInt8.toNat_ofNat'];omega
 by_cases hz:z<0
 ·have e:txt z=strOfNums (45::dig (z.natAbs:Int)):=by rw[txt,if_pos hz]
  rw[e];obtain⟨k1,k2⟩:=key 45 (dig (z.natAbs:Int)) (by decide) (by decide);exact⟨k1,fun h=>by rw[k2 h];simp[hz]⟩
 ·have hd:=adm z.natAbs;obtain⟨c,u,hc⟩:=afl hd;have hcd:=hd.1 c (by rw[hc];simp);have e:txt z=strOfNums (c::u):=by rw[txt,if_neg hz,hc]
  rw[e];obtain⟨k1,k2⟩:=key c u (by omega) (by omega);exact⟨k1,fun h=>by rw[k2 h];constructor <;> intro _ <;> omega⟩
theorem awn{l:List Int}(h:l.length=4):∃z0 z1 z2 z3,l = [z0,z1,z2,z3]:=by
 match l,h with
 | [e0,e1,e2,e3],_=>exact⟨_,_,_,_,rfl⟩
theorem ape(n:Nat):∃m,IsLen (n:Int) m:=by
 have key:∀n:Nat,∃zs,Limb zs/\val zs=(n:Int):=by
  intro n;induction n using Nat.strongRecOn with
  |_ n ih=>
   by_cases h:n=0
   ·exact⟨[],aaf,by simp[val,h]⟩
   ·obtain⟨zs,hl,hv⟩:=ih (n/4294967296) (Nat.div_lt_self (by omega) (by omega));refine⟨((n%4294967296:Nat):Int)::zs,fun z hz=>?_,?_⟩
    ·rcases List.mem_cons.1 hz with rfl|hz
     ·omega
     ·exact hl z hz
    ·simp only[val,hv];omega
 obtain⟨zs,hl,hv⟩:=key n;exact⟨_,_,aa4 hl,by rw[aad,hv],rfl⟩
theorem aun{x:Int}{m:Nat}(h:IsLen x m):(m<=32↔x<pw 32):=by
 obtain⟨rs,hc,hv,rfl⟩:=h;constructor
 ·intro hl;have h1:=(aab hc.1).2;have h2:=aa8 hl;omega
 ·exact fun hx=>aa3 hc (by omega)
theorem ayq{z:Int}(h:(z.natAbs:Int)<pw 32):Nd (dig (z.natAbs:Int)) (z.natAbs:Int):=by
 obtain⟨m,hm⟩:=ape z.natAbs;have h1:pw 32<p10 309:=by decide +kernel
 exact⟨adm _,⟨m,hm,(aun hm).2 h⟩,Nat.le_trans (ajg (adm _) (n:=309) (by omega) (by decide)) (by decide)⟩
open Classical in
theorem ale(w:World)(x y:ByteArray)(e:TypeId):Strs (w.alloc (.cells #[.string x,.string y] e)) (.slice (some ⟨w.heap.size,0,none⟩) 2 2) [x,y]:=by
 refine⟨_,2,rfl,Nat.le_refl _,by decide,rfl,.inr ⟨w.heap.size,0,rfl,by simp,fun j u hu=>?_⟩⟩;have hh:=heap_alloc_new w (.cells #[.string x,.string y] e);rw[Nat.zero_add,cell_of_row _ _ _ _ _ (0,0) hh]
 match j with
 |0=>simpa using hu
 |1=>simpa using hu
 |j+2=>simp at hu
theorem aix(w:World)(hT:Tabs w)(v:Value)(hv:Strs w v [⟨#[120]⟩,⟨#[121]⟩]):
  Calls Tryz.prog 12 #[.string ⟨#[50,120,32,61,32,52,121,32,45,32,54]⟩,v] w fun r w'=>Below w.heap.size w w'/\∃x,r=.returned (.tuple #[x,.int .i64 0,.agg #[.int .i64 0,.int .i64 0,.int .i64 0,.int .i64 0]])/\CanRow w' x [1,-2,-3] 16:=by
 refine(afr w hT eqs (by decide) v _ hv ar1 _ _ eqt awg auj 8 16 (by decide) (by decide) (by decide) 7 rs3 awh rfl ?_ ?_ (by simp)).mono ?_
 ·intro k hk;have hk':k<=3:=hk
  match k,hk' with
  |0,_=>decide +kernel
  |1,_=>decide +kernel
  |2,_=>decide +kernel
  |3,_=>decide +kernel
 ·have h:clr rs3 = [2,-4,-6]:=by kernel_rfl
  rw[h];intro z hz;simp at hz;rcases hz with rfl|rfl|rfl <;> decide +kernel
 ·rintro r w' ⟨hb,⟨_,x,rfl,hO⟩|⟨⟨z,hz,hbig⟩,_⟩⟩
  ·rw[alb]at hO;exact⟨hb,x,rfl,hO.can⟩
  ·rw[alb]at hz;simp at hz;rcases hz with rfl|rfl|rfl <;> exact absurd (by decide +kernel) hbig
theorem aik(w:World)(a b c:Int)(e:TypeId):Nums (w.alloc (.cells #[.int .i64 a,.int .i64 b,.int .i64 c] e)) (.slice (some ⟨w.heap.size,0,none⟩) 3 3) [a,b,c]:=ahe w [a,b,c] (by simp) e
theorem ax6(w:World)(hT:Tabs w):
  Calls Tryz.prog 6 #[] w fun r w'=>r=.returned (.bool true)/\Below w.heap.size w w':=by
 have hb0:=hAl w (.cells #[.string ⟨#[120]⟩,.string ⟨#[121]⟩] 9);have K:=hide (aix _ (hT.below hb0) _ (ale w ⟨#[120]⟩ ⟨#[121]⟩ 9));have HT:=hide hT;clear hT;go_enter Tryz.func6,Tryz.ntmps6
 go_wp2_with fail
 refine K.out.mono ?_;rintro r w1 ⟨hb1,x,rfl,hcx⟩;obtain⟨ax,cx,hvx,_⟩:=hcx.is.parts;subst hvx;have hbA:=hAl w1 (.cells #[.int .i64 0,.int .i64 0,.int .i64 0,.int .i64 0] 35);have hb1':=hb0.trans (hb1.mono hb0.size);have hb2:=hb1'.trans (hbA.mono hb1'.size);have HB2:=hide hb2;have HCX:=hide (hcx.below hbA);clear hb0 hb1 hb1' hcx K hbA;go_wp2_with fail
 generalize hW2:w1.alloc (.cells #[.int .i64 0,.int .i64 0,.int .i64 0,.int .i64 0] 35)=w2 at *
 have hs2:w2.heap.size=w1.heap.size+1:=by rw[<-hW2];simp
 rw[<-hs2];have hz3:∀z∈([1,-2,-3]:List Int),-9223372036854775808<=z/\z<=9223372036854775807:=by intro z hz;simp at hz;rcases hz with rfl|rfl|rfl <;> decide
 have HZ3:=hide hz3;have hbn2:=hAl w2 (.cells #[.int .i64 1,.int .i64 (-2),.int .i64 (-3)] 3);refine(am6 _ _ [1,-2,-3] (aik w2 1 (-2) (-3) 3) hz3 (by decide)).mono ?_;rintro e w3 ⟨r3,rfl,hr3,hb3⟩;obtain⟨a3,c3,hv3,_⟩:=hr3.is.parts;subst hv3;have hb23:=hbn2.trans (hb3.mono hbn2.size);have HB3:=hide (HB2.out.trans (hb23.mono HB2.out.size));have HCX3:=hide (HCX.out.below hb23);have hbs:=hAl w3 (.cells #[.string ⟨#[120]⟩,.string ⟨#[121]⟩] 9);have K4:=hide (amg _ ((HT.out.below HB3.out).below hbs) _ _ 2 (hr3.is.below hbs) (by decide) (ale w3 ⟨#[120]⟩ ⟨#[121]⟩ 9) ar1);have HBS:=hide hbs;clear hb3 hb23 hbn2 hr3 hbs hz3 hW2 hs2;go_wp2_with fail
 refine K4.out.mono ?_;rintro e w4 ⟨rfl,hb4⟩;have hb34:=HBS.out.trans (hb4.mono HBS.out.size);have HB4:=hide (HB3.out.trans (hb34.mono HB3.out.size));have HCX4:=hide (HCX3.out.below hb34);have hbn4:=hAl w4 (.cells #[.int .i64 1,.int .i64 (-2),.int .i64 (-3)] 3);have K5:=hide (am6 _ _ [1,-2,-3] (aik w4 1 (-2) (-3) 3) HZ3.out (by decide));have HBN4:=hide hbn4;clear hb4 hb34 hbn4 K4;go_wp2_with fail
 refine K5.out.mono ?_;rintro e w5 ⟨r5,rfl,hr5,hb5⟩;obtain⟨a5,c5,hv5,_⟩:=hr5.is.parts;subst hv5;have hb45:=HBN4.out.trans (hb5.mono HBN4.out.size);have HB5:=hide (HB4.out.trans (hb45.mono HB4.out.size));have K6:=hide (ag1 w5 _ _ [1,-2,-3] 16 2 (HCX4.out.below hb45) hr5);have hst:((⟨#[120,32,45,32,50,42,121,32,61,32,45,51]⟩:ByteArray).toList == [120,32,45,32,50,42,121,32,61,32,45,51])=true:=by rw[ByteArray.toList_eq];decide
 clear hb5 hb45 hr5 K5;go_wp2_with fail
 refine K6.out.mono ?_;rintro e w6 ⟨rfl,hb6⟩;have HB6:=hide (HB5.out.trans (hb6.mono HB5.out.size));clear hb6 K6;go_wp2;refine bodyPost_ret (v:=_) (by simp[results,Tryz.results6,go_sem];try rfl) rfl ⟨rfl,HB6.out⟩
theorem apf(w:World)(x y z:ByteArray)(e:TypeId):Strs (w.alloc (.cells #[.string x,.string y,.string z] e)) (.slice (some ⟨w.heap.size,0,none⟩) 3 3) [x,y,z]:=by
 refine⟨_,3,rfl,Nat.le_refl _,by decide,rfl,.inr ⟨w.heap.size,0,rfl,by simp,fun j u hu=>?_⟩⟩;have hh:=heap_alloc_new w (.cells #[.string x,.string y,.string z] e);rw[Nat.zero_add,cell_of_row _ _ _ _ _ (0,0) hh]
 match j with
 |0=>simpa using hu
 |1=>simpa using hu
 |2=>simpa using hu
 |j+3=>simp at hu
structure Tx (s:ByteArray) (ds:List Int) (x:Int):Prop where
 n:Nd ds x
 e:s=bts (encs (dcs ds))
theorem Tx.z{s:ByteArray}{ds:List Int}{x:Int}(h:Tx s ds x):s.size<=400:=by
 rw[h.e,dcs,<-ak3 ds (af6 h.n.dec.1),adg];exact h.n.sh
theorem ail{z:Int}{s:ByteArray}(h0:¬z<0)(h:(z.natAbs:Int)<pw 32)(e:txt z=s):Tx s (dig z) z:=by
 have h1:=ayq h;have h2:((z.natAbs:Nat):Int)=z:=by omega
 rw[h2]at h1;refine⟨h1,?_⟩;rw[<-e,txt,if_neg h0,h2,ak3 _ (af6 h1.dec.1)];rfl
theorem ahm{z:Int}{s:ByteArray}(h0:¬z<0)(hs:s.size<=300)(e:txt z=s):Tx s (dig z) z:=by
 refine ail h0 ?_ e;have h1:p10 300<pw 32:=by decide +kernel
 have hd:=adm z.natAbs;have h2:((z.natAbs:Nat):Int)=z:=by omega
 rw[<-e,txt,if_neg h0,adg]at hs;have h3:=(abb hd.1).2;rw[hd.2.1]at h3;have h4:p10 (dig (z.natAbs:Int)).length<=p10 300:=abt hs;omega
structure TuQ (s0 s1 s3 sM sO sP sC:ByteArray) (A B D M O P C:List Int) (x y z c':Int):Prop where
 k:TuK A B D M O P C x y z c'
 a:s0=bts (encs (dcs A))
 b:s1=bts (encs (dcs B))
 d:s3=bts (encs (dcs D))
 m:sM=bts (encs (dcs M))
 o:sO=bts (encs (dcs O))
 p:sP=bts (encs (dcs P))
 c:sC=bts (encs (dcs C))
 za:s0.size<=400
 zb:s1.size<=400
 zd:s3.size<=400
 zm:sM.size<=400
 zo:sO.size<=400
 zp:sP.size<=400
 zc:sC.size<=400
structure TuH (s0 s1 s3 sM sO sP:ByteArray) (x y z:Int) (B:Nat):Prop where
 b:B<1000
 a0:Tx s0 (dig x) x
 a1:Tx s1 (dig y) y
 a3:Tx s3 (dig z) z
 m0:Tx sM (dig (x*(1+(B:Int)))) (x*(1+(B:Int)))
 m1:Tx sO (dig (y*(1+(B:Int)))) (y*(1+(B:Int)))
 m3:Tx sP (dig (z*(1+(B:Int)))) (z*(1+(B:Int)))
 x0:(x.natAbs:Int)<pw 32
 x1:(y.natAbs:Int)<pw 32
 x3:(z.natAbs:Int)<pw 32
theorem aml{s0 s1 s3 sM sO sP:ByteArray}{z0 z1 z2 z3:Int}{B:Nat}(hb:txt z0=s0/\txt z1=s1/\txt z3=s3/\txt (z0*(1+(B:Int)))=sM/\txt (z1*(1+(B:Int)))=sO/\txt (z3*(1+(B:Int)))=sP)(hall:∀z ∈ [z0,z1,z2,z3],(z.natAbs:Int)<pw 32)(g0:¬z0<0)(g1:¬z1<0)(g3:¬z3<0)(hB:B<1000)(q0:sM.size<=300)(q1:sO.size<=300)(q3:sP.size<=300):TuH s0 s1 s3 sM sO sP z0 z1 z3 B:=by
 obtain⟨h0,h1,h3,k0,k1,k3⟩:=hb;have a0:=hall z0 (by simp);have a1:=hall z1 (by simp);have a3:=hall z3 (by simp);have key:∀z:Int,¬z<0->¬z*(1+(B:Int))<0:=fun z hz h=>by
  have:=Int.mul_nonneg (a:=z) (b:=1+(B:Int)) (by omega) (by omega);omega
 exact⟨hB,ail g0 a0 h0,ail g1 a1 h1,ail g3 a3 h3,ahm (key _ g0) q0 k0,ahm (key _ g1) q1 k1,ahm (key _ g3) q3 k3,a0,a1,a3⟩
theorem ajx{s0 s1 s3 sM sO sP sC:ByteArray}{z0 z1 z3:Int}{B:Nat}(h:TuH s0 s1 s3 sM sO sP z0 z1 z3 B)(hc:txt (1+(B:Int))=sC):∃A B9 D M O P C,Hid (TuQ s0 s1 s3 sM sO sP sC A B9 D M O P C z0 z1 z3 (1+(B:Int))):=by
 have hb:=h.b;have h1:(1001:Int)<pw 32:=by decide +kernel
 have hC:=ail (z:=1+(B:Int)) (by omega) (by omega) hc;exact⟨_,_,_,_,_,_,_,hide ⟨⟨h.a0.n,h.a1.n,h.a3.n,h.m0.n,h.m1.n,h.m3.n,hC.n,by omega,by omega,h.x0,h.x1,h.x3⟩,h.a0.e,h.a1.e,h.a3.e,h.m0.e,h.m1.e,h.m3.e,hC.e,h.a0.z,h.a1.z,h.a3.z,h.m0.z,h.m1.z,h.m3.z,hC.z⟩⟩
theorem apg(w:World)(v:Value)(zs:List Int)(L:Nat)(h:IsRow w v zs L)(hL:L<=400000)(hl:zs.length<=1000000):
  Calls Tryz.prog 8 #[v] w fun e w'=>Below w.heap.size w w'/\(((∀z∈zs,(z.natAbs:Int)<pw 32)/\e=.returned (.bool true))\/((∃z∈zs,¬(z.natAbs:Int)<pw 32)/\e=.returned (.bool false))):=by
 obtain⟨ao,cap,rfl,_⟩:=h.parts;have HI:=hide h;clear h;generalize hn:zs.length=n at *
 have HN:=hide hn;clear hn;go_enter Tryz.func8,Tryz.ntmps8
 go_wp2_with fail
 go_loopw [3] (fun iv wr=>∃(k:Nat),iv=.int .i64 k/\k<=n/\Below w.heap.size w wr/\∀(j:Nat) (z:Int),j<k->zs[j]? = some z->(z.natAbs:Int)<pw 32) (fun iv _=>n-(intOf iv).toNat)
 case atStart=>exact⟨0,rfl,Nat.zero_le _,Below.refl _ _,fun j z hj=>by omega⟩
 case round=>
  obtain⟨k,rfl,hk,hbw,hall⟩:=hrel;have HW:=hide hbw;have HALL:=hide hall;by_cases hlt:k<n
  ·obtain⟨z,hz⟩:∃z,zs[k]? = some z:=⟨_,List.getElem?_eq_getElem (by have:=HN.out;omega)⟩;obtain⟨b,off,ngx,ax,mx,cx,rfl,hbl,x0,x1,hx⟩:=(HI.out.below hbw).cell hz;have HX:=hide hx;have HZ:=hide hz;have hlt':(k:Int)<(n:Int):=by omega
   clear hbw hall hx hz;go_wp2_with fail
   refine(limbsF _ z L _ HX.out (by omega)).mono ?_;rintro e w3 ⟨m,rfl,hm,hb3⟩;have HM:=hide hm;have HB3:=hide (HW.out.trans (hb3.mono HW.out.size));by_cases hbig:m<=32
   ·have hb':decide ((32:Int)<(m:Int))=false:=by simp;omega
    clear hm hb3 x0 x1;go_wp2;go_roundw
    case rel=>
     refine⟨k+1,by go_num,by omega,HB3.out,fun j y hj hy=>?_⟩;by_cases hjk:j=k
     ·subst hjk;obtain rfl:z=y:=Option.some.inj (HZ.out.symm.trans hy);exact HM.out.1 hbig
     ·exact HALL.out j y (by omega) hy
    case measure=>simp[intOf];omega
   ·have hb':(32:Int)<(m:Int):=by omega
    have HBG:Hid (¬(z.natAbs:Int)<pw 32):=(show ¬(z.natAbs:Int)<pw 32 from fun h=>hbig (hm.2 h));clear hm hb3 x0 x1;go_wp2;refine bodyPost_ret (v:=_) (by simp[results,Tryz.results8,go_sem];try rfl) rfl ⟨HB3.out,.inr ⟨⟨z,List.mem_of_getElem? HZ.out,HBG.out⟩,rfl⟩⟩
  ·have hlt':decide ((k:Int)<(n:Int))=false:=by simp;omega
   clear hbw hall;go_wp2;refine bodyPost_ret (v:=_) (by simp[results,Tryz.results8,go_sem];try rfl) rfl ⟨HW.out,.inl ⟨fun z hz=>?_,rfl⟩⟩;obtain⟨j,hj⟩:=List.getElem?_of_mem hz;exact HALL.out j z (by have:=(List.getElem?_eq_some_iff.1 hj).1;have:=HN.out;omega) hj
theorem Rw.isrow{w:World}{v:Value}{es:List WE}(h:Rw w v es){L:Nat}(hl:lenW es<=L):IsRow w v (es.map WE.z) L:=by
 refine⟨es,h,rfl,fun e he=>?_⟩;have h1:=as8 he;have h2:=(h.sl e he).parts.1;omega
theorem ayr(n:Int):bits .and .i64 n 4611686018427387903=n%4611686018427387904:=by
 have h63:(BitVec.ofInt 64 4611686018427387903).toNat=2 ^ 62-1:=by decide
 have key:(BitVec.ofInt 64 n &&& BitVec.ofInt 64 4611686018427387903).toNat=(n%((2 ^ 64:Nat):Int)).toNat%2 ^ 62:=by
  rw[BitVec.toNat_and,BitVec.toNat_ofInt,h63,Nat.and_two_pow_sub_one_eq_mod]
 show IntKind.i64.wrap ((BitVec.ofInt 64 n &&& BitVec.ofInt 64 4611686018427387903).toNat:Nat)=n%4611686018427387904;rw[key,IntKind.wrap_i64];omega
theorem ax7(v:Int)(m:Nat)(hm:m≠0):∃V:Nat,(bits .and .i64 v 4611686018427387903).tmod (m:Int)=(V:Int)/\V<m:=by
 rw[ayr];obtain⟨u,hu⟩:∃u:Nat,v%4611686018427387904=(u:Int):=⟨(v%4611686018427387904).toNat,by omega⟩;rw[hu];exact⟨u%m,by rw[Int.ofNat_tmod],Nat.mod_lt _ (by omega)⟩
theorem auo(w:World)(ax:Option Addr)(mx cx:Nat)(xs:List WE)(R:Rw w (.slice ax mx cx) xs)(hl:lenW xs<=35184372088832):
  Calls Tryz.prog 7 #[.slice ax mx cx] w fun e w'=>e=.returned (.int .i64 (lenW xs:Int))/\Below w.heap.size w w':=by
 have hll:=alx xs;have HX:=hide R;have HNx:Hid (mx=xs.length):=R.parts.1;have HL:Hid (lenW xs<=35184372088832/\mx<=lenW xs):=(show _/\_ from⟨hl,by rw[HNx.out];exact hll⟩);have hm:mx<=35184372088832:=by have:=HL.out;omega
 clear R hl hll;go_enter Tryz.func7,Tryz.ntmps7
 go_wp2_with fail
 go_loopw [3,4] (fun sv iv wr=>∃k:Nat,iv=.int .i64 k/\k<=mx/\sv=.int .i64 (lenW (xs.take k):Int)/\Below w.heap.size w wr) (fun _ iv _=>mx-(intOf iv).toNat)
 case atStart=>exact⟨0,rfl,Nat.zero_le _,rfl,Below.refl _ _⟩
 case round=>
  obtain⟨k,rfl,hk,rfl,hbw⟩:=hrel;by_cases hlt:k<mx
  ·have hlt':(k:Int)<(mx:Int):=by omega
   obtain⟨ex,hex⟩:∃e,xs[k]? = some e:=⟨_,List.getElem?_eq_getElem (by have:=HNx.out;omega)⟩;obtain⟨bx,ox,hAx,hlx0,hcx⟩:=HX.out.cells (by have:=HNx.out;omega);subst hAx;have hlx:bx<wr.heap.size:=Nat.lt_of_lt_of_le hlx0 hbw.size;have x0:=(hbw.cell (p:=⟨bx,ox+k*2,none⟩) hlx0).trans (hcx _ _ (adk hex).1);have x1:wr.cell? ⟨bx,ox+k*2+1,none⟩=some (.slice ex.a ex.m ex.c):=(hbw.cell (p:=⟨bx,ox+k*2+1,none⟩) hlx0).trans (hcx _ _ (adk hex).2);have hs:=aqp hex;have hle:=aku xs (k+1);have hm2:=HL.out;have HW:=hide hbw;have K1:=hide (ash wr ex.ng ex.a ex.m ex.c (by omega));obtain⟨s,hsv⟩:∃s,lenW (xs.take k)=s:=⟨_,rfl⟩;rw[hsv]at hs ⊢;have hadd:IntKind.i64.wrap ((s:Int)+(1+(ex.m:Int)))=(s:Int)+(1+(ex.m:Int)):=by rw[IntKind.wrap_i64];omega
   have HSV:=hide hs;clear hbw hs hle hsv hm2 hex hcx hlx;go_wp2_with fail
   refine K1.out.mono ?_;rintro e w2 ⟨rfl,hb2⟩;have HB2:=hide (HW.out.trans (hb2.mono HW.out.size));clear hb2 x0 x1 hlx0;go_wp2;go_roundw
   case rel=>exact⟨k+1,by go_num,by omega,by rw[HSV.out];simp,HB2.out⟩
   case measure=>simp[intOf];omega
  ·have hlt':decide ((k:Int)<(mx:Int))=false:=by simp;omega
   have hkn:k=mx:=by omega
   subst hkn;have HW:=hide hbw;clear hbw;go_wp2;refine bodyPost_ret (v:=_) (adx rfl rfl) rfl ⟨by rw[List.take_of_length_le (by have:=HNx.out;omega)];rfl,HW.out⟩
theorem aiy:Has Tryz.prog 9:=by unfold Has;kernel_rfl
set_option linter.unusedSimpArgs false in
theorem alf(w:World)(hT:Tabs w)(ax:Option Addr)(mx cx:Nat)(xs:List WE)(kk:Int)(Rx:Rw w (.slice ax mx cx) xs)(hx:lenW xs<=1048576):
  Calls Tryz.prog 3 #[.slice ax mx cx,.int .i64 kk] w fun e w'=>e=.returned (.bool true)/\Below w.heap.size w w':=by
 have K1:=hide (ax6 w hT);have HX:=hide Rx;have HTB:=hide hT;have hmx:mx=xs.length:=by
  obtain⟨⟨ao',cap',hv,_⟩,_⟩:=id Rx;simp only[Value.slice.injEq]at hv;exact hv.2.1
 obtain⟨B,hB,hB1⟩:∃B:Nat,(bits .and .i64 kk 4611686018427387903).tmod 1000=(B:Int)/\B<1000:=ax7 kk 1000 (by decide);obtain⟨sx,hsx⟩:∃sx,lenW xs=sx:=⟨_,rfl⟩;rw[hsx]at hx;have HSx:=hide hsx;have HMX:=hide hmx;clear Rx hT hsx hmx;go_enter Tryz.func3,Tryz.ntmps3
 go_wp2_with fail
 refine K1.out.mono ?_;rintro e w1 ⟨rfl,hb1⟩;have K2:=auo w1 _ _ _ _ (HX.out.below hb1) (by have:=HSx.out;omega);rw[HSx.out]at K2;have K2:=hide K2;have HB1:=hide hb1;clear hb1 K1;go_wp2_with fail
 refine K2.out.mono ?_;rintro e w2 ⟨rfl,hb2⟩;have HB2:=hide (HB1.out.trans (hb2.mono HB1.out.size));clear hb2 K2 HB1;by_cases hlong:1500<(sx:Int)
 ·have hl':decide (1500<(sx:Int))=true:=by simpa using hlong
  go_wp2;refine bodyPost_ret (v:=_) (by simp[results,Tryz.results3,go_sem];try rfl) rfl ⟨rfl,HB2.out⟩
 ·have hl':decide (1500<(sx:Int))=false:=by simpa using hlong
  have HLG:Hid (lenW xs<=1500):=(show lenW xs<=1500 by have:=HSx.out;omega);clear hlong;by_cases h4:mx=4
  ·have HI:=hide ((HX.out.below HB2.out).isrow (L:=1500) HLG.out);obtain⟨z0,z1,z2,z3,hzs⟩:∃z0 z1 z2 z3,xs.map WE.z = [z0,z1,z2,z3]:=awn (by rw[List.length_map,<-HMX.out,h4]);subst h4;rw[hzs]at HI;have h4':(((4:Nat):Int) != 4)=false:=by decide
   have K3:=hide (apg w2 _ _ 1500 HI.out (by decide) (by simp));clear h4' HMX HLG HSx;go_wp2_with fail
   refine K3.out.mono ?_;rintro e w3 ⟨hb3,⟨hall,rfl⟩|⟨_,rfl⟩⟩
   ·have HI3:=hide (HI.out.below hb3);have HB3:=hide (HB2.out.trans (hb3.mono HB2.out.size));have HALL:=hide hall;obtain⟨b0,off,n0,a0,m0,c0,rfl,hbl,x0,x0',q0⟩:=HI3.out.cell (k:=0) (z:=z0) rfl;obtain⟨b1,off1,n1,a1,m1,c1,e1,_,x1,x1',q1⟩:=HI3.out.cell (k:=1) (z:=z1) rfl;obtain⟨b2,off2,n3,a3,m3,c3,e2,_,x3,x3',q3⟩:=HI3.out.cell (k:=3) (z:=z3) rfl;obtain⟨rfl,rfl⟩:b0=b1/\off=off1:=by simpa using e1
    obtain⟨rfl,rfl⟩:b0=b2/\off=off2:=by simpa using e2
    clear e1 e2 hb3 hall K3 HI HB2;simp only[Nat.zero_mul,Nat.add_zero,Nat.one_mul,Nat.reduceMul,Nat.add_assoc,Nat.reduceAdd]at x0 x0' x1 x1' x3 x3';have K4:=hide (wtextF w3 z0 _ 1500 q0 (by decide));go_wp2_with fail
    refine K4.out.mono ?_;rintro e w4 ⟨rfl,hb4⟩;have y1:=(hb4.cell (p:=⟨b0,off+2,none⟩) hbl).trans x1;have y1':=(hb4.cell (p:=⟨b0,off+3,none⟩) hbl).trans x1';have K5:=hide (wtextF w4 z1 _ 1500 (IsW.ru q1 (Ru.of_below hb4)) (by decide));have hbl4:b0<w4.heap.size:=Nat.lt_of_lt_of_le hbl hb4.size;obtain⟨s0,hs0⟩:∃s,txt z0=s:=⟨_,rfl⟩;rw[hs0];clear K4 x0 x0' x1 x1';go_wp2_with fail
    refine K5.out.mono ?_;rintro e w5 ⟨rfl,hb5⟩;have hb35:=hb4.trans (hb5.mono hb4.size);have y3:=(hb35.cell (p:=⟨b0,off+6,none⟩) hbl).trans x3;have y3':=(hb35.cell (p:=⟨b0,off+7,none⟩) hbl).trans x3';have K6:=hide (wtextF w5 z3 _ 1500 (IsW.ru q3 (Ru.of_below hb35)) (by decide));have hbl5:b0<w5.heap.size:=Nat.lt_of_lt_of_le hbl hb35.size;obtain⟨s1,hs1⟩:∃s,txt z1=s:=⟨_,rfl⟩;rw[hs1];clear K5 x3 x3' y1 y1' hb4 hb5;go_wp2_with fail
    refine K6.out.mono ?_;rintro e w6 ⟨rfl,hb6⟩;have hb36:=hb35.trans (hb6.mono hb35.size);obtain⟨s3,hs3⟩:∃s,txt z3=s:=⟨_,rfl⟩;rw[hs3];have HB6:=hide (HB3.out.trans (hb36.mono HB3.out.size));have hsz6:=hb36.size;have HI6:=hide (HI3.out.below hb36);have HH:=hide (And.intro hs0 (And.intro hs1 hs3));clear K6 y3 y3' hb35 hb6 hb36 q0 q1 q3 HI3 HB3 hbl4 hbl5 hs0 hs1 hs3;obtain⟨p0,f0⟩:0<s0.size/\∀h:0<s0.size,((s0[0]'h).toNat:Int)=45↔z0<0:=by rw[<-HH.out.1];exact agd z0
    obtain⟨p1,f1⟩:0<s1.size/\∀h:0<s1.size,((s1[0]'h).toNat:Int)=45↔z1<0:=by rw[<-HH.out.2.1];exact agd z1
    obtain⟨p3,f3⟩:0<s3.size/\∀h:0<s3.size,((s3[0]'h).toNat:Int)=45↔z3<0:=by rw[<-HH.out.2.2];exact agd z3
    replace f0:=f0 p0;replace f1:=f1 p1;replace f3:=f3 p3;by_cases g0:z0<0
    ·rw[eq_true g0,iff_true]at f0;have e0:(((s0[0]'p0).toNat:Int)==45)=true:=by rw[f0];rfl
     clear f1 f3;go_wp2;refine bodyPost_ret (v:=_) (by simp[results,Tryz.results3,go_sem];try rfl) rfl ⟨rfl,HB6.out⟩
    rw[eq_false g0,iff_false]at f0;have e0:(((s0[0]'p0).toNat:Int)==45)=false:=by rw[beq_eq_false_iff_ne];exact f0
    by_cases g1:z1<0
    ·rw[eq_true g1,iff_true]at f1;have e1:(((s1[0]'p1).toNat:Int)==45)=true:=by rw[f1];rfl
     clear f3;go_wp2;refine bodyPost_ret (v:=_) (by simp[results,Tryz.results3,go_sem];try rfl) rfl ⟨rfl,HB6.out⟩
    rw[eq_false g1,iff_false]at f1;have e1:(((s1[0]'p1).toNat:Int)==45)=false:=by rw[beq_eq_false_iff_ne];exact f1
    by_cases g3:z3<0
    ·rw[eq_true g3,iff_true]at f3;have e3:(((s3[0]'p3).toNat:Int)==45)=true:=by rw[f3];rfl
     go_wp2;refine bodyPost_ret (v:=_) (by simp[results,Tryz.results3,go_sem];try rfl) rfl ⟨rfl,HB6.out⟩
    rw[eq_false g3,iff_false]at f3;have e3:(((s3[0]'p3).toNat:Int)==45)=false:=by rw[beq_eq_false_iff_ne];exact f3
    go_upto_region 13 with fail
    have hbl6:b0<w6.heap.size:=Nat.lt_of_lt_of_le hbl hsz6;have HBL:=hide hbl6;clear f0 f1 f3 e0 e1 e3;go_cut [9] (fun cv wx=>cv=.string (txt (z0*(1+(B:Int))))/\Below w6.heap.size w6 wx)
    case first=>
     obtain⟨b7,off7,n7,a7,m7,c7,e7,_,x7,x7',q7⟩:=HI6.out.cell (k:=0) (z:=z0) rfl;obtain⟨rfl,rfl⟩:b0=b7/\off=off7:=by simpa using e7
     simp only[Nat.zero_mul,Nat.add_zero,Nat.one_mul,Nat.reduceMul,Nat.add_assoc,Nat.reduceAdd]at x7 x7';have Q7:=hide q7;clear e7 q7;go_region_law (first|(refine aam rfl 11 #[.tmp 67] #[3] rfl agp #[.int .i64 (1+(B:Int))] (by simp[Act.eval,Act.put]) (acu _ (1+(B:Int)) (by omega) (by omega)) ?_;rintro e w8 ⟨ng8,ao8,cap8,rs8,rfl,hw8,hl8,hb8⟩;have HO8:=hide (show OutW (1+(B:Int)) 2 (.agg #[.bool ng8,.slice ao8 rs8.length cap8]) w8 from⟨_,_,_,_,rfl,hw8,hl8⟩);have hb68:Below w6.heap.size w6 w8:=(show Below w6.heap.size w6 _ by(repeat' first|with_reducible(first|exact Below.refl _ _|assumption|refine gdrewN ?_ _|refine Below.alloc ?_ ?_ _|refine Below.drew ?_|refine Below.setCell ?_ ?_ _)|go_size)).trans (hb8.mono (by simp));have HB68:=hide hb68;have x8:=(hb68.cell (p:=⟨b0,off,none⟩) HBL.out).trans x7;have x8':=(hb68.cell (p:=⟨b0,off+1,none⟩) HBL.out).trans x7';clear hb8 hb68 hw8 hl8;refine⟨_,rfl,?_⟩)|(refine aam rfl 10 #[.tmp 66,.tmp 68] #[29,29] rfl aef #[.agg #[.bool n7,.slice a7 m7 c7],.agg #[.bool ng8,.slice ao8 rs8.length cap8]] (by simp[Act.eval,Act.put]) (mulF _ z0 (1+(B:Int)) _ _ 1500 2 (IsW.ru Q7.out (Ru.of_below HB68.out)) HO8.out.is (by omega) (by omega)) ?_;rintro e w9 ⟨v9,rfl,h9,hb9⟩;have HB69:=hide (HB68.out.trans (hb9.mono HB68.out.size));have H9:=hide h9;clear hb9 h9;refine⟨_,rfl,?_⟩)|(refine aam rfl 9 #[.tmp 69] #[29] rfl aiy #[v9] (by simp[Act.eval,Act.put]) (wtextF _ _ _ _ H9.out.is (by omega)) ?_;rintro e w10 ⟨rfl,hb10⟩;have HB610:=hide (HB69.out.trans (hb10.mono HB69.out.size));clear hb10;refine⟨_,rfl,?_⟩))
     all_goals (
      go_wp2_with fail
      go_meet
      exact⟨rfl,HB610.out⟩)
    case rest=>
     obtain⟨rfl,hb7⟩:=hcut;obtain⟨wv7,rfl⟩:∃x,x=wc:=⟨_,rfl⟩;obtain⟨sM,hsM⟩:∃s,txt (z0*(1+(B:Int)))=s:=⟨_,rfl⟩;rw[hsM];have HI7:=hide (HI6.out.below hb7);have HB7:=hide (HB6.out.trans (hb7.mono HB6.out.size));have hbl7:b0<wv7.heap.size:=Nat.lt_of_lt_of_le HBL.out hb7.size;have HBL:=hide hbl7;have HM:=hide hsM;clear hb7 hbl7 hsM hbl6 HI6 HB6 hsz6 hbl;go_upto_region 14 with fail
     go_cut [10] (fun cv wx=>cv=.string (txt (z1*(1+(B:Int))))/\Below wv7.heap.size wv7 wx)
     case first=>
      obtain⟨b7,off7,n7,a7,m7,c7,e7,_,x7,x7',q7⟩:=HI7.out.cell (k:=1) (z:=z1) rfl;obtain⟨rfl,rfl⟩:b0=b7/\off=off7:=by simpa using e7
      simp only[Nat.zero_mul,Nat.add_zero,Nat.one_mul,Nat.reduceMul,Nat.add_assoc,Nat.reduceAdd]at x7 x7';have Q7:=hide q7;clear e7 q7;go_region_law (first|(refine aam rfl 11 #[.tmp 74] #[3] rfl agp #[.int .i64 (1+(B:Int))] (by simp[Act.eval,Act.put]) (acu _ (1+(B:Int)) (by omega) (by omega)) ?_;rintro e w8 ⟨ng8,ao8,cap8,rs8,rfl,hw8,hl8,hb8⟩;have HO8:=hide (show OutW (1+(B:Int)) 2 (.agg #[.bool ng8,.slice ao8 rs8.length cap8]) w8 from⟨_,_,_,_,rfl,hw8,hl8⟩);have hb68:Below wv7.heap.size wv7 w8:=(show Below wv7.heap.size wv7 _ by(repeat' first|with_reducible(first|exact Below.refl _ _|assumption|refine gdrewN ?_ _|refine Below.alloc ?_ ?_ _|refine Below.drew ?_|refine Below.setCell ?_ ?_ _)|go_size)).trans (hb8.mono (by simp));have HB68:=hide hb68;have x8:=(hb68.cell (p:=⟨b0,off+2,none⟩) HBL.out).trans x7;have x8':=(hb68.cell (p:=⟨b0,off+3,none⟩) HBL.out).trans x7';clear hb8 hb68 hw8 hl8;refine⟨_,rfl,?_⟩)|(refine aam rfl 10 #[.tmp 73,.tmp 75] #[29,29] rfl aef #[.agg #[.bool n7,.slice a7 m7 c7],.agg #[.bool ng8,.slice ao8 rs8.length cap8]] (by simp[Act.eval,Act.put]) (mulF _ z1 (1+(B:Int)) _ _ 1500 2 (IsW.ru Q7.out (Ru.of_below HB68.out)) HO8.out.is (by omega) (by omega)) ?_;rintro e w9 ⟨v9,rfl,h9,hb9⟩;have HB69:=hide (HB68.out.trans (hb9.mono HB68.out.size));have H9:=hide h9;clear hb9 h9;refine⟨_,rfl,?_⟩)|(refine aam rfl 9 #[.tmp 76] #[29] rfl aiy #[v9] (by simp[Act.eval,Act.put]) (wtextF _ _ _ _ H9.out.is (by omega)) ?_;rintro e w10 ⟨rfl,hb10⟩;have HB610:=hide (HB69.out.trans (hb10.mono HB69.out.size));clear hb10;refine⟨_,rfl,?_⟩))
      all_goals (
       go_wp2_with fail
       go_meet
       exact⟨rfl,HB610.out⟩)
     case rest=>
      obtain⟨rfl,hb8⟩:=hcut;obtain⟨wv8,rfl⟩:∃x,x=wc:=⟨_,rfl⟩;obtain⟨sO,hsO⟩:∃s,txt (z1*(1+(B:Int)))=s:=⟨_,rfl⟩;rw[hsO];have HI8:=hide (HI7.out.below hb8);have HB8:=hide (HB7.out.trans (hb8.mono HB7.out.size));have hbl8:b0<wv8.heap.size:=Nat.lt_of_lt_of_le HBL.out hb8.size;have HBL:=hide hbl8;have HO:=hide hsO;clear hb8 hbl8 hsO HI7 HB7;go_upto_region 15 with fail
      go_cut [11] (fun cv wx=>cv=.string (txt (z3*(1+(B:Int))))/\Below wv8.heap.size wv8 wx)
      case first=>
       obtain⟨b7,off7,n7,a7,m7,c7,e7,_,x7,x7',q7⟩:=HI8.out.cell (k:=3) (z:=z3) rfl;obtain⟨rfl,rfl⟩:b0=b7/\off=off7:=by simpa using e7
       simp only[Nat.zero_mul,Nat.add_zero,Nat.one_mul,Nat.reduceMul,Nat.add_assoc,Nat.reduceAdd]at x7 x7';have Q7:=hide q7;clear e7 q7;go_region_law (first|(refine aam rfl 11 #[.tmp 81] #[3] rfl agp #[.int .i64 (1+(B:Int))] (by simp[Act.eval,Act.put]) (acu _ (1+(B:Int)) (by omega) (by omega)) ?_;rintro e w8 ⟨ng8,ao8,cap8,rs8,rfl,hw8,hl8,hb8⟩;have HO8:=hide (show OutW (1+(B:Int)) 2 (.agg #[.bool ng8,.slice ao8 rs8.length cap8]) w8 from⟨_,_,_,_,rfl,hw8,hl8⟩);have hb68:Below wv8.heap.size wv8 w8:=(show Below wv8.heap.size wv8 _ by(repeat' first|with_reducible(first|exact Below.refl _ _|assumption|refine gdrewN ?_ _|refine Below.alloc ?_ ?_ _|refine Below.drew ?_|refine Below.setCell ?_ ?_ _)|go_size)).trans (hb8.mono (by simp));have HB68:=hide hb68;have x8:=(hb68.cell (p:=⟨b0,off+6,none⟩) HBL.out).trans x7;have x8':=(hb68.cell (p:=⟨b0,off+7,none⟩) HBL.out).trans x7';clear hb8 hb68 hw8 hl8;refine⟨_,rfl,?_⟩)|(refine aam rfl 10 #[.tmp 80,.tmp 82] #[29,29] rfl aef #[.agg #[.bool n7,.slice a7 m7 c7],.agg #[.bool ng8,.slice ao8 rs8.length cap8]] (by simp[Act.eval,Act.put]) (mulF _ z3 (1+(B:Int)) _ _ 1500 2 (IsW.ru Q7.out (Ru.of_below HB68.out)) HO8.out.is (by omega) (by omega)) ?_;rintro e w9 ⟨v9,rfl,h9,hb9⟩;have HB69:=hide (HB68.out.trans (hb9.mono HB68.out.size));have H9:=hide h9;clear hb9 h9;refine⟨_,rfl,?_⟩)|(refine aam rfl 9 #[.tmp 83] #[29] rfl aiy #[v9] (by simp[Act.eval,Act.put]) (wtextF _ _ _ _ H9.out.is (by omega)) ?_;rintro e w10 ⟨rfl,hb10⟩;have HB610:=hide (HB69.out.trans (hb10.mono HB69.out.size));clear hb10;refine⟨_,rfl,?_⟩))
       all_goals (
        go_wp2_with fail
        go_meet
        exact⟨rfl,HB610.out⟩)
      case rest=>
       obtain⟨rfl,hb9⟩:=hcut;obtain⟨wv9,rfl⟩:∃x,x=wc:=⟨_,rfl⟩;obtain⟨sP,hsP⟩:∃s,txt (z3*(1+(B:Int)))=s:=⟨_,rfl⟩;rw[hsP];have HB9:=hide (HB8.out.trans (hb9.mono HB8.out.size));have HP:=hide hsP;clear hb9 hsP HI8 HB8 HBL;have RETT:Hid (Below w.heap.size w wv9):=HB9.out;by_cases q0:300<sM.size
       ·have l0:decide ((300:Int)<(sM.size:Int))=true:=by simp;omega
        go_wp2;refine bodyPost_ret (v:=_) (by simp[results,Tryz.results3,go_sem];try rfl) rfl ⟨rfl,RETT.out⟩
       replace q0:sM.size<=300:=by omega
       have l0:decide ((300:Int)<(sM.size:Int))=false:=by simp;omega
       by_cases q1:300<sO.size
       ·have l1:decide ((300:Int)<(sO.size:Int))=true:=by simp;omega
        go_wp2;refine bodyPost_ret (v:=_) (by simp[results,Tryz.results3,go_sem];try rfl) rfl ⟨rfl,RETT.out⟩
       replace q1:sO.size<=300:=by omega
       have l1:decide ((300:Int)<(sO.size:Int))=false:=by simp;omega
       by_cases q3:300<sP.size
       ·have l3:decide ((300:Int)<(sP.size:Int))=true:=by simp;omega
        go_wp2;refine bodyPost_ret (v:=_) (by simp[results,Tryz.results3,go_sem];try rfl) rfl ⟨rfl,RETT.out⟩
       replace q3:sP.size<=300:=by omega
       have l3:decide ((300:Int)<(sP.size:Int))=false:=by simp;omega
       have HQ0:=hide (aml (hb:=⟨HH.out.1,HH.out.2.1,HH.out.2.2,HM.out,HO.out,HP.out⟩) HALL.out (by omega) (by omega) (by omega) hB1 q0 q1 q3);go_upto_region 18 with fail
       clear l0 l1 l3 HM HO HP HALL RETT;go_wp2_with fail
       refine(acu wv9 (1+(B:Int)) (by omega) (by omega)).mono ?_;rintro e w10 ⟨ng10,ao10,cap10,rs10,rfl,hw10,hl10,hb10⟩;have K11:=hide (wtextF w10 (1+(B:Int)) _ 2 (OutW.is ⟨ng10,ao10,cap10,rs10,rfl,hw10,hl10⟩) (by decide));have HB10:=hide (HB9.out.trans (hb10.mono HB9.out.size));clear hb10 hw10 hl10 HB9;go_wp2_with fail
       refine K11.out.mono ?_;rintro e w11 ⟨rfl,hb11⟩;obtain⟨sC,hsC⟩:∃s,txt (1+(B:Int))=s:=⟨_,rfl⟩;rw[hsC];have HB11:=hide (HB10.out.trans (hb11.mono HB10.out.size));clear hb11 K11 HB10;obtain⟨A,B9,D,M,O,P,C,HQ⟩:∃A B9 D M O P C,Hid (TuQ s0 s1 s3 sM sO sP sC A B9 D M O P C z0 z1 z3 (1+(B:Int))):=ajx HQ0.out hsC;have za:=HQ.out.za;have zb:=HQ.out.zb;have zd:=HQ.out.zd;have zm:=HQ.out.zm;have zo:=HQ.out.zo;have zp:=HQ.out.zp;have zc:=HQ.out.zc;clear hsC HQ0 HH q0 q1 q3 p0 p1 p3;go_upto_region 20 with fail
       have hbA:=hAl w11 (.cells #[.string ⟨#[120]⟩,.string ⟨#[121]⟩,.string ⟨#[122]⟩] 9);have hS12:=apf w11 ⟨#[120]⟩ ⟨#[121]⟩ ⟨#[122]⟩ 9;have hs12:(w11.alloc (.cells #[.string ⟨#[120]⟩,.string ⟨#[121]⟩,.string ⟨#[122]⟩] 9)).heap.size=w11.heap.size+1:=by simp
       generalize w11.alloc (.cells #[.string ⟨#[120]⟩,.string ⟨#[121]⟩,.string ⟨#[122]⟩] 9)=w12 at *
       have HB12:=hide (HB11.out.trans (hbA.mono HB11.out.size));have HV12:=hide hS12;have HS12:=hide hs12;clear hbA hS12 hs12 HB11;obtain⟨uh0,ue0⟩:∃h:ByteArray,(s0:ByteArray)++⟨#[42,120,32,45,32]⟩=h:=⟨_,rfl⟩;have uz0:uh0.size<=800:=by rw[<-ue0,ByteArray.size_append];show _+5<=_;omega
       have uc0:∀W,(Op.stringOp .add s0 ⟨#[42,120,32,45,32]⟩).run Tryz.prog W=.ok (.string uh0) W:=fun W=>by rw[<-ue0];exact run_string_add_sum (P:=Tryz.prog) W _ _ (by rw[<-ByteArray.size_append,ue0];omega)
       obtain⟨uh1,ue1⟩:∃h:ByteArray,(uh0:ByteArray)++s1=h:=⟨_,rfl⟩;have uz1:uh1.size<=1200:=by rw[<-ue1,ByteArray.size_append];skip;omega
       have uc1:∀W,(Op.stringOp .add uh0 s1).run Tryz.prog W=.ok (.string uh1) W:=fun W=>by rw[<-ue1];exact run_string_add_sum (P:=Tryz.prog) W _ _ (by rw[<-ByteArray.size_append,ue1];omega)
       obtain⟨uh2,ue2⟩:∃h:ByteArray,(uh1:ByteArray)++⟨#[42,121,32,43,32,122,32,61,32]⟩=h:=⟨_,rfl⟩;have uz2:uh2.size<=1600:=by rw[<-ue2,ByteArray.size_append];show _+9<=_;omega
       have uc2:∀W,(Op.stringOp .add uh1 ⟨#[42,121,32,43,32,122,32,61,32]⟩).run Tryz.prog W=.ok (.string uh2) W:=fun W=>by rw[<-ue2];exact run_string_add_sum (P:=Tryz.prog) W _ _ (by rw[<-ByteArray.size_append,ue2];omega)
       obtain⟨uh3,ue3⟩:∃h:ByteArray,(uh2:ByteArray)++s3=h:=⟨_,rfl⟩;have uz3:uh3.size<=2000:=by rw[<-ue3,ByteArray.size_append];skip;omega
       have uc3:∀W,(Op.stringOp .add uh2 s3).run Tryz.prog W=.ok (.string uh3) W:=fun W=>by rw[<-ue3];exact run_string_add_sum (P:=Tryz.prog) W _ _ (by rw[<-ByteArray.size_append,ue3];omega)
       have ut:uh3=bts (encs (cs0 A B9 D)):=by
        rw[<-ue3,<-ue2,<-ue1,<-ue0];simp only[HQ.out.a,HQ.out.b,HQ.out.d,show(⟨#[42,120,32,45,32]⟩:ByteArray)=bts (encs [42,120,32,45,32])from rfl,show(⟨#[42,121,32,43,32,122,32,61,32]⟩:ByteArray)=bts (encs [42,121,32,43,32,122,32,61,32])from rfl,acf,<-aa1];simp[cs0,dcs]
       have KE:=hide (HQ.out.k.t0 (HTB.out.below HB12.out) HV12.out);rw[<-ut]at KE;clear ue0 ue1 ue2 ue3 uz0 uz1 uz2 uz3 ut;go_wp2_with fail
       refine KE.out.mono ?_;rintro e w13 ⟨hb13,x13,rfl,ho13⟩;obtain⟨ao13,cap13,rfl,_⟩:=ho13.is.parts;have HO13:=hide ho13.can;have HB13:=hide (HB12.out.trans (hb13.mono HB12.out.size));have HV13:=hide (HV12.out.below hb13);clear hb13 KE ho13 uc0 uc1 uc2 uc3 HB12 HV12;go_upto_region 21 with fail
       have hbP:=hAl w13 (.cells #[.int .i64 0,.int .i64 0,.int .i64 0,.int .i64 0] 35);generalize w13.alloc (.cells #[.int .i64 0,.int .i64 0,.int .i64 0,.int .i64 0] 35)=w14 at *
       have HO14:=hide (HO13.out.below hbP);have HB14:=hide (HB13.out.trans (hbP.mono HB13.out.size));have HV14:=hide (HV13.out.below hbP);clear hbP HO13 HB13 HV13;obtain⟨t0h0,t0e0⟩:∃h:ByteArray,(s3:ByteArray)++⟨#[61]⟩=h:=⟨_,rfl⟩;have t0z0:t0h0.size<=800:=by rw[<-t0e0,ByteArray.size_append];show _+1<=_;omega
       have t0c0:∀W,(Op.stringOp .add s3 ⟨#[61]⟩).run Tryz.prog W=.ok (.string t0h0) W:=fun W=>by rw[<-t0e0];exact run_string_add_sum (P:=Tryz.prog) W _ _ (by rw[<-ByteArray.size_append,t0e0];omega)
       obtain⟨t0h1,t0e1⟩:∃h:ByteArray,(t0h0:ByteArray)++s0=h:=⟨_,rfl⟩;have t0z1:t0h1.size<=1200:=by rw[<-t0e1,ByteArray.size_append];skip;omega
       have t0c1:∀W,(Op.stringOp .add t0h0 s0).run Tryz.prog W=.ok (.string t0h1) W:=fun W=>by rw[<-t0e1];exact run_string_add_sum (P:=Tryz.prog) W _ _ (by rw[<-ByteArray.size_append,t0e1];omega)
       obtain⟨t0h2,t0e2⟩:∃h:ByteArray,(t0h1:ByteArray)++⟨#[120,45]⟩=h:=⟨_,rfl⟩;have t0z2:t0h2.size<=1600:=by rw[<-t0e2,ByteArray.size_append];show _+2<=_;omega
       have t0c2:∀W,(Op.stringOp .add t0h1 ⟨#[120,45]⟩).run Tryz.prog W=.ok (.string t0h2) W:=fun W=>by rw[<-t0e2];exact run_string_add_sum (P:=Tryz.prog) W _ _ (by rw[<-ByteArray.size_append,t0e2];omega)
       obtain⟨t0h3,t0e3⟩:∃h:ByteArray,(t0h2:ByteArray)++s1=h:=⟨_,rfl⟩;have t0z3:t0h3.size<=2000:=by rw[<-t0e3,ByteArray.size_append];skip;omega
       have t0c3:∀W,(Op.stringOp .add t0h2 s1).run Tryz.prog W=.ok (.string t0h3) W:=fun W=>by rw[<-t0e3];exact run_string_add_sum (P:=Tryz.prog) W _ _ (by rw[<-ByteArray.size_append,t0e3];omega)
       obtain⟨t0h4,t0e4⟩:∃h:ByteArray,(t0h3:ByteArray)++⟨#[121,43,122]⟩=h:=⟨_,rfl⟩;have t0z4:t0h4.size<=2400:=by rw[<-t0e4,ByteArray.size_append];show _+3<=_;omega
       have t0c4:∀W,(Op.stringOp .add t0h3 ⟨#[121,43,122]⟩).run Tryz.prog W=.ok (.string t0h4) W:=fun W=>by rw[<-t0e4];exact run_string_add_sum (P:=Tryz.prog) W _ _ (by rw[<-ByteArray.size_append,t0e4];omega)
       have t0t:t0h4=bts (encs (cs1 A B9 D)):=by
        rw[<-t0e4,<-t0e3,<-t0e2,<-t0e1,<-t0e0];simp only[HQ.out.d,HQ.out.a,HQ.out.b,show(⟨#[61]⟩:ByteArray)=bts (encs [61])from rfl,show(⟨#[120,45]⟩:ByteArray)=bts (encs [120,45])from rfl,show(⟨#[121,43,122]⟩:ByteArray)=bts (encs [121,43,122])from rfl,acf,<-aa1];simp[cs1,dcs]
       clear t0e0 t0e1 t0e2 t0e3 t0e4 t0z0 t0z1 t0z2 t0z3 t0z4;obtain⟨t1h0,t1e0⟩:∃h:ByteArray,(sM:ByteArray)++⟨#[120,32,45,32]⟩=h:=⟨_,rfl⟩;have t1z0:t1h0.size<=800:=by rw[<-t1e0,ByteArray.size_append];show _+4<=_;omega
       have t1c0:∀W,(Op.stringOp .add sM ⟨#[120,32,45,32]⟩).run Tryz.prog W=.ok (.string t1h0) W:=fun W=>by rw[<-t1e0];exact run_string_add_sum (P:=Tryz.prog) W _ _ (by rw[<-ByteArray.size_append,t1e0];omega)
       obtain⟨t1h1,t1e1⟩:∃h:ByteArray,(t1h0:ByteArray)++sO=h:=⟨_,rfl⟩;have t1z1:t1h1.size<=1200:=by rw[<-t1e1,ByteArray.size_append];skip;omega
       have t1c1:∀W,(Op.stringOp .add t1h0 sO).run Tryz.prog W=.ok (.string t1h1) W:=fun W=>by rw[<-t1e1];exact run_string_add_sum (P:=Tryz.prog) W _ _ (by rw[<-ByteArray.size_append,t1e1];omega)
       obtain⟨t1h2,t1e2⟩:∃h:ByteArray,(t1h1:ByteArray)++⟨#[194,183,121,32,43,32]⟩=h:=⟨_,rfl⟩;have t1z2:t1h2.size<=1600:=by rw[<-t1e2,ByteArray.size_append];show _+6<=_;omega
       have t1c2:∀W,(Op.stringOp .add t1h1 ⟨#[194,183,121,32,43,32]⟩).run Tryz.prog W=.ok (.string t1h2) W:=fun W=>by rw[<-t1e2];exact run_string_add_sum (P:=Tryz.prog) W _ _ (by rw[<-ByteArray.size_append,t1e2];omega)
       obtain⟨t1h3,t1e3⟩:∃h:ByteArray,(t1h2:ByteArray)++sC=h:=⟨_,rfl⟩;have t1z3:t1h3.size<=2000:=by rw[<-t1e3,ByteArray.size_append];skip;omega
       have t1c3:∀W,(Op.stringOp .add t1h2 sC).run Tryz.prog W=.ok (.string t1h3) W:=fun W=>by rw[<-t1e3];exact run_string_add_sum (P:=Tryz.prog) W _ _ (by rw[<-ByteArray.size_append,t1e3];omega)
       obtain⟨t1h4,t1e4⟩:∃h:ByteArray,(t1h3:ByteArray)++⟨#[32,195,151,32,122,32,61,32]⟩=h:=⟨_,rfl⟩;have t1z4:t1h4.size<=2400:=by rw[<-t1e4,ByteArray.size_append];show _+8<=_;omega
       have t1c4:∀W,(Op.stringOp .add t1h3 ⟨#[32,195,151,32,122,32,61,32]⟩).run Tryz.prog W=.ok (.string t1h4) W:=fun W=>by rw[<-t1e4];exact run_string_add_sum (P:=Tryz.prog) W _ _ (by rw[<-ByteArray.size_append,t1e4];omega)
       obtain⟨t1h5,t1e5⟩:∃h:ByteArray,(t1h4:ByteArray)++sP=h:=⟨_,rfl⟩;have t1z5:t1h5.size<=2800:=by rw[<-t1e5,ByteArray.size_append];skip;omega
       have t1c5:∀W,(Op.stringOp .add t1h4 sP).run Tryz.prog W=.ok (.string t1h5) W:=fun W=>by rw[<-t1e5];exact run_string_add_sum (P:=Tryz.prog) W _ _ (by rw[<-ByteArray.size_append,t1e5];omega)
       have t1t:t1h5=bts (encs (cs2 M O C P)):=by
        rw[<-t1e5,<-t1e4,<-t1e3,<-t1e2,<-t1e1,<-t1e0];simp only[HQ.out.m,HQ.out.o,HQ.out.c,HQ.out.p,show(⟨#[120,32,45,32]⟩:ByteArray)=bts (encs [120,32,45,32])from rfl,show(⟨#[194,183,121,32,43,32]⟩:ByteArray)=bts (encs [183,121,32,43,32])from rfl,show(⟨#[32,195,151,32,122,32,61,32]⟩:ByteArray)=bts (encs [32,215,32,122,32,61,32])from rfl,acf,<-aa1];simp[cs2,dcs]
       clear t1e0 t1e1 t1e2 t1e3 t1e4 t1e5 t1z0 t1z1 t1z2 t1z3 t1z4 t1z5;obtain⟨t2h0,t2e0⟩:∃h:ByteArray,(⟨#[35,32,102,105,114,115,116,10,32]⟩:ByteArray)++s0=h:=⟨_,rfl⟩;have t2z0:t2h0.size<=800:=by rw[<-t2e0,ByteArray.size_append];show 9+_<=_;omega
       have t2c0:∀W,(Op.stringOp .add ⟨#[35,32,102,105,114,115,116,10,32]⟩ s0).run Tryz.prog W=.ok (.string t2h0) W:=fun W=>by rw[<-t2e0];exact run_string_add_sum (P:=Tryz.prog) W _ _ (by rw[<-ByteArray.size_append,t2e0];omega)
       obtain⟨t2h1,t2e1⟩:∃h:ByteArray,(t2h0:ByteArray)++⟨#[32,120,32,226,136,146,32]⟩=h:=⟨_,rfl⟩;have t2z1:t2h1.size<=1200:=by rw[<-t2e1,ByteArray.size_append];show _+7<=_;omega
       have t2c1:∀W,(Op.stringOp .add t2h0 ⟨#[32,120,32,226,136,146,32]⟩).run Tryz.prog W=.ok (.string t2h1) W:=fun W=>by rw[<-t2e1];exact run_string_add_sum (P:=Tryz.prog) W _ _ (by rw[<-ByteArray.size_append,t2e1];omega)
       obtain⟨t2h2,t2e2⟩:∃h:ByteArray,(t2h1:ByteArray)++s1=h:=⟨_,rfl⟩;have t2z2:t2h2.size<=1600:=by rw[<-t2e2,ByteArray.size_append];skip;omega
       have t2c2:∀W,(Op.stringOp .add t2h1 s1).run Tryz.prog W=.ok (.string t2h2) W:=fun W=>by rw[<-t2e2];exact run_string_add_sum (P:=Tryz.prog) W _ _ (by rw[<-ByteArray.size_append,t2e2];omega)
       obtain⟨t2h3,t2e3⟩:∃h:ByteArray,(t2h2:ByteArray)++⟨#[32,121,32,61,32]⟩=h:=⟨_,rfl⟩;have t2z3:t2h3.size<=2000:=by rw[<-t2e3,ByteArray.size_append];show _+5<=_;omega
       have t2c3:∀W,(Op.stringOp .add t2h2 ⟨#[32,121,32,61,32]⟩).run Tryz.prog W=.ok (.string t2h3) W:=fun W=>by rw[<-t2e3];exact run_string_add_sum (P:=Tryz.prog) W _ _ (by rw[<-ByteArray.size_append,t2e3];omega)
       obtain⟨t2h4,t2e4⟩:∃h:ByteArray,(t2h3:ByteArray)++s3=h:=⟨_,rfl⟩;have t2z4:t2h4.size<=2400:=by rw[<-t2e4,ByteArray.size_append];skip;omega
       have t2c4:∀W,(Op.stringOp .add t2h3 s3).run Tryz.prog W=.ok (.string t2h4) W:=fun W=>by rw[<-t2e4];exact run_string_add_sum (P:=Tryz.prog) W _ _ (by rw[<-ByteArray.size_append,t2e4];omega)
       obtain⟨t2h5,t2e5⟩:∃h:ByteArray,(t2h4:ByteArray)++⟨#[32,45,32,122]⟩=h:=⟨_,rfl⟩;have t2z5:t2h5.size<=2800:=by rw[<-t2e5,ByteArray.size_append];show _+4<=_;omega
       have t2c5:∀W,(Op.stringOp .add t2h4 ⟨#[32,45,32,122]⟩).run Tryz.prog W=.ok (.string t2h5) W:=fun W=>by rw[<-t2e5];exact run_string_add_sum (P:=Tryz.prog) W _ _ (by rw[<-ByteArray.size_append,t2e5];omega)
       have t2t:t2h5=bts (encs (cs3 A B9 D)):=by
        rw[<-t2e5,<-t2e4,<-t2e3,<-t2e2,<-t2e1,<-t2e0];simp only[HQ.out.a,HQ.out.b,HQ.out.d,show(⟨#[35,32,102,105,114,115,116,10,32]⟩:ByteArray)=bts (encs [35,32,102,105,114,115,116,10,32])from rfl,show(⟨#[32,120,32,226,136,146,32]⟩:ByteArray)=bts (encs [32,120,32,8722,32])from rfl,show(⟨#[32,121,32,61,32]⟩:ByteArray)=bts (encs [32,121,32,61,32])from rfl,show(⟨#[32,45,32,122]⟩:ByteArray)=bts (encs [32,45,32,122])from rfl,acf,<-aa1];simp[cs3,dcs]
       clear t2e0 t2e1 t2e2 t2e3 t2e4 t2e5 t2z0 t2z1 t2z2 t2z3 t2z4 t2z5;obtain⟨t3h0,t3e0⟩:∃h:ByteArray,(⟨#[45]⟩:ByteArray)++s0=h:=⟨_,rfl⟩;have t3z0:t3h0.size<=800:=by rw[<-t3e0,ByteArray.size_append];show 1+_<=_;omega
       have t3c0:∀W,(Op.stringOp .add ⟨#[45]⟩ s0).run Tryz.prog W=.ok (.string t3h0) W:=fun W=>by rw[<-t3e0];exact run_string_add_sum (P:=Tryz.prog) W _ _ (by rw[<-ByteArray.size_append,t3e0];omega)
       obtain⟨t3h1,t3e1⟩:∃h:ByteArray,(t3h0:ByteArray)++⟨#[120,32,43,32]⟩=h:=⟨_,rfl⟩;have t3z1:t3h1.size<=1200:=by rw[<-t3e1,ByteArray.size_append];show _+4<=_;omega
       have t3c1:∀W,(Op.stringOp .add t3h0 ⟨#[120,32,43,32]⟩).run Tryz.prog W=.ok (.string t3h1) W:=fun W=>by rw[<-t3e1];exact run_string_add_sum (P:=Tryz.prog) W _ _ (by rw[<-ByteArray.size_append,t3e1];omega)
       obtain⟨t3h2,t3e2⟩:∃h:ByteArray,(t3h1:ByteArray)++s1=h:=⟨_,rfl⟩;have t3z2:t3h2.size<=1600:=by rw[<-t3e2,ByteArray.size_append];skip;omega
       have t3c2:∀W,(Op.stringOp .add t3h1 s1).run Tryz.prog W=.ok (.string t3h2) W:=fun W=>by rw[<-t3e2];exact run_string_add_sum (P:=Tryz.prog) W _ _ (by rw[<-ByteArray.size_append,t3e2];omega)
       obtain⟨t3h3,t3e3⟩:∃h:ByteArray,(t3h2:ByteArray)++⟨#[121,32,45,32,122,32,43,32]⟩=h:=⟨_,rfl⟩;have t3z3:t3h3.size<=2000:=by rw[<-t3e3,ByteArray.size_append];show _+8<=_;omega
       have t3c3:∀W,(Op.stringOp .add t3h2 ⟨#[121,32,45,32,122,32,43,32]⟩).run Tryz.prog W=.ok (.string t3h3) W:=fun W=>by rw[<-t3e3];exact run_string_add_sum (P:=Tryz.prog) W _ _ (by rw[<-ByteArray.size_append,t3e3];omega)
       obtain⟨t3h4,t3e4⟩:∃h:ByteArray,(t3h3:ByteArray)++s3=h:=⟨_,rfl⟩;have t3z4:t3h4.size<=2400:=by rw[<-t3e4,ByteArray.size_append];skip;omega
       have t3c4:∀W,(Op.stringOp .add t3h3 s3).run Tryz.prog W=.ok (.string t3h4) W:=fun W=>by rw[<-t3e4];exact run_string_add_sum (P:=Tryz.prog) W _ _ (by rw[<-ByteArray.size_append,t3e4];omega)
       obtain⟨t3h5,t3e5⟩:∃h:ByteArray,(t3h4:ByteArray)++⟨#[32,61,32,48]⟩=h:=⟨_,rfl⟩;have t3z5:t3h5.size<=2800:=by rw[<-t3e5,ByteArray.size_append];show _+4<=_;omega
       have t3c5:∀W,(Op.stringOp .add t3h4 ⟨#[32,61,32,48]⟩).run Tryz.prog W=.ok (.string t3h5) W:=fun W=>by rw[<-t3e5];exact run_string_add_sum (P:=Tryz.prog) W _ _ (by rw[<-ByteArray.size_append,t3e5];omega)
       have t3t:t3h5=bts (encs (cs4 A B9 D)):=by
        rw[<-t3e5,<-t3e4,<-t3e3,<-t3e2,<-t3e1,<-t3e0];simp only[HQ.out.a,HQ.out.b,HQ.out.d,show(⟨#[45]⟩:ByteArray)=bts (encs [45])from rfl,show(⟨#[120,32,43,32]⟩:ByteArray)=bts (encs [120,32,43,32])from rfl,show(⟨#[121,32,45,32,122,32,43,32]⟩:ByteArray)=bts (encs [121,32,45,32,122,32,43,32])from rfl,show(⟨#[32,61,32,48]⟩:ByteArray)=bts (encs [32,61,32,48])from rfl,acf,<-aa1];simp[cs4,dcs]
       clear t3e0 t3e1 t3e2 t3e3 t3e4 t3e5 t3z0 t3z1 t3z2 t3z3 t3z4 t3z5;obtain⟨t4h0,t4e0⟩:∃h:ByteArray,(s0:ByteArray)++⟨#[47]⟩=h:=⟨_,rfl⟩;have t4z0:t4h0.size<=800:=by rw[<-t4e0,ByteArray.size_append];show _+1<=_;omega
       have t4c0:∀W,(Op.stringOp .add s0 ⟨#[47]⟩).run Tryz.prog W=.ok (.string t4h0) W:=fun W=>by rw[<-t4e0];exact run_string_add_sum (P:=Tryz.prog) W _ _ (by rw[<-ByteArray.size_append,t4e0];omega)
       obtain⟨t4h1,t4e1⟩:∃h:ByteArray,(t4h0:ByteArray)++sC=h:=⟨_,rfl⟩;have t4z1:t4h1.size<=1200:=by rw[<-t4e1,ByteArray.size_append];skip;omega
       have t4c1:∀W,(Op.stringOp .add t4h0 sC).run Tryz.prog W=.ok (.string t4h1) W:=fun W=>by rw[<-t4e1];exact run_string_add_sum (P:=Tryz.prog) W _ _ (by rw[<-ByteArray.size_append,t4e1];omega)
       obtain⟨t4h2,t4e2⟩:∃h:ByteArray,(t4h1:ByteArray)++⟨#[120,32,45,32]⟩=h:=⟨_,rfl⟩;have t4z2:t4h2.size<=1600:=by rw[<-t4e2,ByteArray.size_append];show _+4<=_;omega
       have t4c2:∀W,(Op.stringOp .add t4h1 ⟨#[120,32,45,32]⟩).run Tryz.prog W=.ok (.string t4h2) W:=fun W=>by rw[<-t4e2];exact run_string_add_sum (P:=Tryz.prog) W _ _ (by rw[<-ByteArray.size_append,t4e2];omega)
       obtain⟨t4h3,t4e3⟩:∃h:ByteArray,(t4h2:ByteArray)++s1=h:=⟨_,rfl⟩;have t4z3:t4h3.size<=2000:=by rw[<-t4e3,ByteArray.size_append];skip;omega
       have t4c3:∀W,(Op.stringOp .add t4h2 s1).run Tryz.prog W=.ok (.string t4h3) W:=fun W=>by rw[<-t4e3];exact run_string_add_sum (P:=Tryz.prog) W _ _ (by rw[<-ByteArray.size_append,t4e3];omega)
       obtain⟨t4h4,t4e4⟩:∃h:ByteArray,(t4h3:ByteArray)++⟨#[47]⟩=h:=⟨_,rfl⟩;have t4z4:t4h4.size<=2400:=by rw[<-t4e4,ByteArray.size_append];show _+1<=_;omega
       have t4c4:∀W,(Op.stringOp .add t4h3 ⟨#[47]⟩).run Tryz.prog W=.ok (.string t4h4) W:=fun W=>by rw[<-t4e4];exact run_string_add_sum (P:=Tryz.prog) W _ _ (by rw[<-ByteArray.size_append,t4e4];omega)
       obtain⟨t4h5,t4e5⟩:∃h:ByteArray,(t4h4:ByteArray)++sC=h:=⟨_,rfl⟩;have t4z5:t4h5.size<=2800:=by rw[<-t4e5,ByteArray.size_append];skip;omega
       have t4c5:∀W,(Op.stringOp .add t4h4 sC).run Tryz.prog W=.ok (.string t4h5) W:=fun W=>by rw[<-t4e5];exact run_string_add_sum (P:=Tryz.prog) W _ _ (by rw[<-ByteArray.size_append,t4e5];omega)
       obtain⟨t4h6,t4e6⟩:∃h:ByteArray,(t4h5:ByteArray)++⟨#[42,121,32,43,32,49,47]⟩=h:=⟨_,rfl⟩;have t4z6:t4h6.size<=3200:=by rw[<-t4e6,ByteArray.size_append];show _+7<=_;omega
       have t4c6:∀W,(Op.stringOp .add t4h5 ⟨#[42,121,32,43,32,49,47]⟩).run Tryz.prog W=.ok (.string t4h6) W:=fun W=>by rw[<-t4e6];exact run_string_add_sum (P:=Tryz.prog) W _ _ (by rw[<-ByteArray.size_append,t4e6];omega)
       obtain⟨t4h7,t4e7⟩:∃h:ByteArray,(t4h6:ByteArray)++sC=h:=⟨_,rfl⟩;have t4z7:t4h7.size<=3600:=by rw[<-t4e7,ByteArray.size_append];skip;omega
       have t4c7:∀W,(Op.stringOp .add t4h6 sC).run Tryz.prog W=.ok (.string t4h7) W:=fun W=>by rw[<-t4e7];exact run_string_add_sum (P:=Tryz.prog) W _ _ (by rw[<-ByteArray.size_append,t4e7];omega)
       obtain⟨t4h8,t4e8⟩:∃h:ByteArray,(t4h7:ByteArray)++⟨#[122,32,61,32]⟩=h:=⟨_,rfl⟩;have t4z8:t4h8.size<=4000:=by rw[<-t4e8,ByteArray.size_append];show _+4<=_;omega
       have t4c8:∀W,(Op.stringOp .add t4h7 ⟨#[122,32,61,32]⟩).run Tryz.prog W=.ok (.string t4h8) W:=fun W=>by rw[<-t4e8];exact run_string_add_sum (P:=Tryz.prog) W _ _ (by rw[<-ByteArray.size_append,t4e8];omega)
       obtain⟨t4h9,t4e9⟩:∃h:ByteArray,(t4h8:ByteArray)++s3=h:=⟨_,rfl⟩;have t4z9:t4h9.size<=4400:=by rw[<-t4e9,ByteArray.size_append];skip;omega
       have t4c9:∀W,(Op.stringOp .add t4h8 s3).run Tryz.prog W=.ok (.string t4h9) W:=fun W=>by rw[<-t4e9];exact run_string_add_sum (P:=Tryz.prog) W _ _ (by rw[<-ByteArray.size_append,t4e9];omega)
       obtain⟨t4h10,t4e10⟩:∃h:ByteArray,(t4h9:ByteArray)++⟨#[47]⟩=h:=⟨_,rfl⟩;have t4z10:t4h10.size<=4800:=by rw[<-t4e10,ByteArray.size_append];show _+1<=_;omega
       have t4c10:∀W,(Op.stringOp .add t4h9 ⟨#[47]⟩).run Tryz.prog W=.ok (.string t4h10) W:=fun W=>by rw[<-t4e10];exact run_string_add_sum (P:=Tryz.prog) W _ _ (by rw[<-ByteArray.size_append,t4e10];omega)
       obtain⟨t4h11,t4e11⟩:∃h:ByteArray,(t4h10:ByteArray)++sC=h:=⟨_,rfl⟩;have t4z11:t4h11.size<=5200:=by rw[<-t4e11,ByteArray.size_append];skip;omega
       have t4c11:∀W,(Op.stringOp .add t4h10 sC).run Tryz.prog W=.ok (.string t4h11) W:=fun W=>by rw[<-t4e11];exact run_string_add_sum (P:=Tryz.prog) W _ _ (by rw[<-ByteArray.size_append,t4e11];omega)
       have t4t:t4h11=bts (encs (cs5 A B9 C D)):=by
        rw[<-t4e11,<-t4e10,<-t4e9,<-t4e8,<-t4e7,<-t4e6,<-t4e5,<-t4e4,<-t4e3,<-t4e2,<-t4e1,<-t4e0];simp only[HQ.out.a,HQ.out.c,HQ.out.b,HQ.out.d,show(⟨#[47]⟩:ByteArray)=bts (encs [47])from rfl,show(⟨#[120,32,45,32]⟩:ByteArray)=bts (encs [120,32,45,32])from rfl,show(⟨#[42,121,32,43,32,49,47]⟩:ByteArray)=bts (encs [42,121,32,43,32,49,47])from rfl,show(⟨#[122,32,61,32]⟩:ByteArray)=bts (encs [122,32,61,32])from rfl,acf,<-aa1];simp[cs5,dcs]
       clear t4e0 t4e1 t4e2 t4e3 t4e4 t4e5 t4e6 t4e7 t4e8 t4e9 t4e10 t4e11 t4z0 t4z1 t4z2 t4z3 t4z4 t4z5 t4z6 t4z7 t4z8 t4z9 t4z10 t4z11;obtain⟨t5h0,t5e0⟩:∃h:ByteArray,(⟨#[122,32,43,32]⟩:ByteArray)++s0=h:=⟨_,rfl⟩;have t5z0:t5h0.size<=800:=by rw[<-t5e0,ByteArray.size_append];show 4+_<=_;omega
       have t5c0:∀W,(Op.stringOp .add ⟨#[122,32,43,32]⟩ s0).run Tryz.prog W=.ok (.string t5h0) W:=fun W=>by rw[<-t5e0];exact run_string_add_sum (P:=Tryz.prog) W _ _ (by rw[<-ByteArray.size_append,t5e0];omega)
       obtain⟨t5h1,t5e1⟩:∃h:ByteArray,(t5h0:ByteArray)++⟨#[42,120,32,61,32,43]⟩=h:=⟨_,rfl⟩;have t5z1:t5h1.size<=1200:=by rw[<-t5e1,ByteArray.size_append];show _+6<=_;omega
       have t5c1:∀W,(Op.stringOp .add t5h0 ⟨#[42,120,32,61,32,43]⟩).run Tryz.prog W=.ok (.string t5h1) W:=fun W=>by rw[<-t5e1];exact run_string_add_sum (P:=Tryz.prog) W _ _ (by rw[<-ByteArray.size_append,t5e1];omega)
       obtain⟨t5h2,t5e2⟩:∃h:ByteArray,(t5h1:ByteArray)++s3=h:=⟨_,rfl⟩;have t5z2:t5h2.size<=1600:=by rw[<-t5e2,ByteArray.size_append];skip;omega
       have t5c2:∀W,(Op.stringOp .add t5h1 s3).run Tryz.prog W=.ok (.string t5h2) W:=fun W=>by rw[<-t5e2];exact run_string_add_sum (P:=Tryz.prog) W _ _ (by rw[<-ByteArray.size_append,t5e2];omega)
       obtain⟨t5h3,t5e3⟩:∃h:ByteArray,(t5h2:ByteArray)++⟨#[32,43,32]⟩=h:=⟨_,rfl⟩;have t5z3:t5h3.size<=2000:=by rw[<-t5e3,ByteArray.size_append];show _+3<=_;omega
       have t5c3:∀W,(Op.stringOp .add t5h2 ⟨#[32,43,32]⟩).run Tryz.prog W=.ok (.string t5h3) W:=fun W=>by rw[<-t5e3];exact run_string_add_sum (P:=Tryz.prog) W _ _ (by rw[<-ByteArray.size_append,t5e3];omega)
       obtain⟨t5h4,t5e4⟩:∃h:ByteArray,(t5h3:ByteArray)++s1=h:=⟨_,rfl⟩;have t5z4:t5h4.size<=2400:=by rw[<-t5e4,ByteArray.size_append];skip;omega
       have t5c4:∀W,(Op.stringOp .add t5h3 s1).run Tryz.prog W=.ok (.string t5h4) W:=fun W=>by rw[<-t5e4];exact run_string_add_sum (P:=Tryz.prog) W _ _ (by rw[<-ByteArray.size_append,t5e4];omega)
       obtain⟨t5h5,t5e5⟩:∃h:ByteArray,(t5h4:ByteArray)++⟨#[42,121]⟩=h:=⟨_,rfl⟩;have t5z5:t5h5.size<=2800:=by rw[<-t5e5,ByteArray.size_append];show _+2<=_;omega
       have t5c5:∀W,(Op.stringOp .add t5h4 ⟨#[42,121]⟩).run Tryz.prog W=.ok (.string t5h5) W:=fun W=>by rw[<-t5e5];exact run_string_add_sum (P:=Tryz.prog) W _ _ (by rw[<-ByteArray.size_append,t5e5];omega)
       have t5t:t5h5=bts (encs (cs6 A B9 D)):=by
        rw[<-t5e5,<-t5e4,<-t5e3,<-t5e2,<-t5e1,<-t5e0];simp only[HQ.out.a,HQ.out.d,HQ.out.b,show(⟨#[122,32,43,32]⟩:ByteArray)=bts (encs [122,32,43,32])from rfl,show(⟨#[42,120,32,61,32,43]⟩:ByteArray)=bts (encs [42,120,32,61,32,43])from rfl,show(⟨#[32,43,32]⟩:ByteArray)=bts (encs [32,43,32])from rfl,show(⟨#[42,121]⟩:ByteArray)=bts (encs [42,121])from rfl,acf,<-aa1];simp[cs6,dcs]
       clear t5e0 t5e1 t5e2 t5e3 t5e4 t5e5 t5z0 t5z1 t5z2 t5z3 t5z4 t5z5;have HX:Hid (∀k<6,∃t:ByteArray,(∀h:k<([.string t0h4,.string t1h5,.string t2h5,.string t3h5,.string t4h11,.string t5h5]:List Value).length,([.string t0h4,.string t1h5,.string t2h5,.string t3h5,.string t4h11,.string t5h5]:List Value)[k]=.string t)/\∀(W:World) (v:Value),Tabs W->Strs W v vxyz->Calls Tryz.prog 12 #[.string t,v] W fun r w'=>Below W.heap.size W w'/\∃x,r=.returned (.tuple #[x,.int .i64 0,.agg #[.int .i64 0,.int .i64 0,.int .i64 0,.int .i64 0]])/\ORow W.heap.size w' x (canonZ (base4 z0 z1 z3)) 80):=by
        refine(show ∀k<6,_ from ?_);intro k hk
        match k,hk with
        |0,_=>exact⟨t0h4,fun _=>rfl,fun W v h1 h2=>by rw[t0t];exact HQ.out.k.t1 h1 h2⟩
        |1,_=>exact⟨t1h5,fun _=>rfl,fun W v h1 h2=>by rw[t1t];exact HQ.out.k.t2 h1 h2⟩
        |2,_=>exact⟨t2h5,fun _=>rfl,fun W v h1 h2=>by rw[t2t];exact HQ.out.k.t3 h1 h2⟩
        |3,_=>exact⟨t3h5,fun _=>rfl,fun W v h1 h2=>by rw[t3t];exact HQ.out.k.t4 h1 h2⟩
        |4,_=>exact⟨t4h11,fun _=>rfl,fun W v h1 h2=>by rw[t4t];exact HQ.out.k.t5 h1 h2⟩
        |5,_=>exact⟨t5h5,fun _=>rfl,fun W v h1 h2=>by rw[t5t];exact HQ.out.k.t6 h1 h2⟩
       clear t0t t1t t2t t3t t4t t5t HQ za zb zd zm zo zp zc;go_wp2_with fail
       go_loopw [17,18,19,20,21] (fun iv _ _ _ _ wr=>∃(k:Nat),iv=.int .i64 k/\k<=6/\Below w14.heap.size w14 wr) (fun iv _ _ _ _ _=>6-(intOf iv).toNat)
       case atStart=>exact⟨0,rfl,Nat.zero_le _,Below.refl _ _⟩
       case round=>
        obtain⟨k,rfl,hk,hbw⟩:=hrel;have HW:=hide hbw;by_cases hlt:k<6
        ·have hlt':(k:Int)<6:=by omega
         obtain⟨tk,htk,hEq⟩:=HX.out k hlt;have HEQ:=hide hEq;clear hEq;go_upto_region 25 with fail
         have hbq:=hAl wr (.cells #[.string t0h4,.string t1h5,.string t2h5,.string t3h5,.string t4h11,.string t5h5] 9);generalize wr.alloc (.cells #[.string t0h4,.string t1h5,.string t2h5,.string t3h5,.string t4h11,.string t5h5] 9)=wq at *
         have hbq2:=hbw.trans (hbq.mono hbw.size);have KE:=hide (HEQ.out wq _ (HTB.out.below (HB14.out.trans (hbq2.mono HB14.out.size))) (HV14.out.below hbq2));have HBQ:=hide hbq2;clear hbq hbq2 hbw HW htk t0c0 t0c1 t0c2 t0c3 t0c4 t1c0 t1c1 t1c2 t1c3 t1c4 t1c5 t2c0 t2c1 t2c2 t2c3 t2c4 t2c5 t3c0 t3c1 t3c2 t3c3 t3c4 t3c5 t4c0 t4c1 t4c2 t4c3 t4c4 t4c5 t4c6 t4c7 t4c8 t4c9 t4c10 t4c11 t5c0 t5c1 t5c2 t5c3 t5c4 t5c5 HEQ;go_wp2_with fail
         refine KE.out.mono ?_;rintro e wp ⟨hbp,x15,rfl,ho15⟩;obtain⟨ao15,cap15,rfl,_⟩:=ho15.is.parts;have hbp2:=HBQ.out.trans (hbp.mono HBQ.out.size);have HO15:=hide ho15.can;clear hbp KE ho15 HBQ;go_upto_region 26 with fail
         have hbz:=hAl wp (.cells #[.int .i64 0,.int .i64 0,.int .i64 0,.int .i64 0] 35);generalize wp.alloc (.cells #[.int .i64 0,.int .i64 0,.int .i64 0,.int .i64 0] 35)=wz at *
         have hbz2:=hbp2.trans (hbz.mono hbp2.size);have KS:=hide (ag1 wz _ _ _ 80 80 (HO14.out.below hbz2) (HO15.out.below hbz));have HBZ:=hide hbz2;clear hbz hbp2 hbz2 HO15;go_wp2_with fail
         refine KS.out.mono ?_;rintro e ws ⟨rfl,hbs⟩;have HBS:=hide (HBZ.out.trans (hbs.mono HBZ.out.size));clear hbs KS HBZ;go_wp2;go_roundw
         case rel=>exact⟨k+1,by go_num,by omega,HBS.out⟩
         case measure=>simp[intOf];omega
        ·have hlt':decide ((k:Int)<6)=false:=by simp;omega
         have HF:=hide (HB14.out.trans (hbw.mono HB14.out.size));clear hbw;go_wp2;refine bodyPost_ret (v:=_) (by simp[results,Tryz.results3,go_sem];try rfl) rfl ⟨rfl,HF.out⟩
   ·have HB3:=hide (HB2.out.trans (hb3.mono HB2.out.size));clear hb3;go_wp2;refine bodyPost_ret (v:=_) (by simp[results,Tryz.results3,go_sem];try rfl) rfl ⟨rfl,HB3.out⟩
  ·have h4':((mx:Int) != 4)=true:=by simp;omega
   go_wp2;refine bodyPost_ret (v:=_) (by simp[results,Tryz.results3,go_sem];try rfl) rfl ⟨rfl,HB2.out⟩
end Lm
namespace affineTurnsLaw
open Go.ChangeShapes Go.WideShapes Go.ChangeAt Go.RowKit
open Go.ChangeMaps (open_string shut_string)
theorem own:ownKnob Tryz.prog.godebug=none:=by kernel_rfl
theorem laidOut:laidOutB Tryz.prog=true:=by kernel_rfl
noncomputable def laidWorld(os:Os):World:=
 let w0:=World.holding Tryz.prog os ⟨#[],#[],[]⟩
 let put (h:Array Obj) (g:Nat) (cs:Array Value):Array Obj:=h.modify g fun
  |.cells _ t frozen=>.cells cs t frozen
  |o=>o
 let h1:=put w0.heap (Tryz.lays197_ren.g 3) (Lib.firstTab.map fun z=>Value.int .u8 z).toArray
 let h2:=put h1 (Tryz.lays197_ren.g 4) ((List.range 16).flatMap fun i=>[Value.int .u8 (Lib.accLo i),Value.int .u8 (Lib.accHi i)]).toArray
 {w0 with heap:=h2}
theorem laid_met(os:Os):laidMet Tryz.prog Rows.affineTurnsUptoRow.laid ((laidWorld os).forCall (fun _ _=>0) ⟨#[],#[.slice none 0 0,.int .i64 0],[]⟩).memory:=
 laidMet_of_run' 8 (by kernel_rfl) (by kernel_rfl)
theorem tabs{W:World}(h:laidMet Tryz.prog Rows.affineTurnsUptoRow.laid W):Lm.Tabs W:=
 utf8Tabs_of_reads (ρ:=Tryz.lays197_ren) {Tryz.lays197 with} ⟨by kernel_rfl,by kernel_rfl,by kernel_rfl,by kernel_rfl,by kernel_rfl,by kernel_rfl,by kernel_rfl⟩
  (Lib.laidMet.reads h (show ("unicode/utf8.first", Lib.firstData) ∈ Rows.affineTurnsUptoRow.laid from by
   rw[show Lib.firstData=Rows.laid_unicode_utf8_first from by kernel_rfl]
   exact .tail _ (.head _)))
  (Lib.laidMet.reads h (show ("unicode/utf8.acceptRanges", Lib.acceptData) ∈ Rows.affineTurnsUptoRow.laid from by
   rw[show Lib.acceptData=Rows.laid_unicode_utf8_acceptRanges from by kernel_rfl]
   exact .head _))
theorem reads(os:Os){H:Type}(enc:TypeId×Value->H):∃places,DataW.whole enc Tryz.prog ((laidWorld os).forCall (fun _ _=>0) ⟨#[],#[.slice none 0 0,.int .i64 0],[]⟩).memory Tryz.f3.params.toList Rows.affineTurnsSpec.vars false (#[.slice none 0 0,.int .i64 0]:Array Value).toList 8=some ([.nil,.lit (.int .i64 0)],[],places):=
 ⟨[],by kernel_rfl⟩
set_option linter.unusedVariables false in
set_option maxRecDepth 100000 in
theorem lifted(os:Os)(started:os.Started)(H:Type)(enc:TypeId×Value->H)(F:Stop.Interp):
  ReturnsInHanded {} Tryz.checked os 3 .any ((Rows.OpenSpec.upto Rows.affineTurnsSpec).preRow enc Tryz.prog Tryz.f3 Rows.affineTurnsUptoRow.domain false Rows.affineTurnsUptoRow.laid) (((Rows.OpenSpec.upto Rows.affineTurnsSpec).at F).post enc Tryz.prog Tryz.f3 false true false false):=by
 obtain⟨places,hx⟩:=reads os enc;refine returnsInHanded_of_row (C:=Tryz.checked) (s:=(Rows.OpenSpec.upto Rows.affineTurnsSpec)) own started (by kernel_rfl) Tryz.func3
  (witness_row_at (enc:=enc) (C:=Tryz.checked) false (laidWorld os) #[.slice none 0 0,.int .i64 0] rfl (by kernel_rfl) (by kernel_rfl) (by kernel_rfl)
   (OpenSpec.preRow_of_cond 8 hx (by kernel_rfl) (fun k hk=>by cases hk;kernel_rfl) (by kernel_rfl) (laid_met os))) ?_
 intro W base args ds gs before hval0 hW hcnd0 hcond hsz0 hL hj2 hj3;have hTabs:Lm.Tabs W:=tabs hL;have hval:∀(j:Nat) t v,Tryz.f3.params[j]? = some t->args[j]? = some v->Value.okWide Tryz.prog W .any base t v:=hval0;have hW':=hW;obtain⟨p,q,hA0,hV,rfl,hfz,hnd⟩:=hW;have hA:DataW.TrodAll enc Tryz.prog W 0 (fun _=>true) true Tryz.f3.params.toList args.toList ds p:=hA0;have hsz:(DataW.weightsEach Tryz.prog (Tryz.f3.params.toList++Rows.affineTurnsSpec.plain.varTypes Tryz.prog) (ds++gs)).all (·<=reachBytes)=true:=hsz0;rw[Tryz.params3]at hA hval hsz;obtain⟨v0,vs0,d0,ds0,p0,q0,hargs,rfl,rfl,h0,r0⟩:=trodAll_cons hA;obtain⟨v1,vs1,d1,ds1,p1,q1,rfl,rfl,rfl,h1,r1⟩:=trodAll_cons r0;obtain⟨rfl,rfl,rfl⟩:=trodAll_nil r1;obtain rfl:args = #[v0,v1]:=by cases args;simp_all
 obtain⟨rfl,rfl⟩:=trodVars_none hV;have hbulk:Rows.uptoBulkAll ([d0,d1]:List (DataW H))<=1048576:=by
  have h:=of_decide_eq_true (hcond Rows.uptoSmall rfl);simpa only[List.append_nil]using h
 simp only[Rows.uptoBulkAll]at hbulk;obtain⟨a0,len0,cap0,rfl⟩:=okWide_slice Tryz.underlying22 (hval 0 22 v0 rfl rfl);have k0:=h0;have lt0:∀x∈p0,x.block<W.heap.size:=by obtain⟨m,hm⟩:=k0;exact DataW.trod_lt m _ _ _ hm
 obtain⟨z0,w0,b0⟩:∃es,Lm.Rw W (.slice a0 len0 cap0) es/\Lm.lenW es+1<=Rows.uptoBulk d0:=by
  obtain⟨fuel,hf⟩:=h0;exact Lm.ata (x:=(d0,p0)) (by simpa[Value.cells]using hf)
 obtain⟨a1,rfl,rfl,rfl,w1⟩:=open_int Tryz.underlying3 (hval 1 3 v1 rfl rfl) h1;clear hA0 hval0;refine(Lm.alf W hTabs a0 len0 cap0 z0 a1 w0 (by omega)).mono fun e W' ⟨he,bel⟩=>?_
 subst he;exact⟨_,rfl,_,_,_,[],_,[],hW',trodAll_mk1 (shut_bool Tryz.underlying4 _),(trodAll_cons_mk (Below.trod laidOut (by kernel_rfl) (of_decide_eq_true (by kernel_rfl)) k0 bel lt0) (trodAll_cons_mk (shut_int Tryz.underlying3 w1) trodAll_mk0)),rfl,bel.frame _,fun h=>by cases h⟩
theorem said:Rows.AffineTurnsUptoSaid:=
 OpenClaim.holds_of_cond 3 Tryz.f3 rfl rfl rfl rfl rfl rfl rfl ⟨rfl,rfl,rfl,rfl,rfl⟩ rfl rfl rfl rfl rfl (by kernel_rfl) Tryz.func3 (by kernel_rfl)
  (of_decide_eq_true (by kernel_rfl)) (by unfold Func.isWrapper;first|(rw[if_pos (by decide +kernel)];kernel_rfl)|(rw[if_neg (by decide +kernel)];exact⟨rfl,rfl⟩))
  (fun os started H enc _ F=>by rw[OpenClaim.pre_eq_preRow];exact lifted os started H enc F)
theorem plain (f : FuncId) (fn : Func) (hf : Tryz.pinned.checked.prog.funcNamed "rafter/rafterlaw05.AffineTurns" = some f) (hfn : Tryz.pinned.checked.prog.funcs[f]? = some fn) :
  false=Tryz.pinned.checked.prog.looks []/\∀(j:Nat) t,fn.params[j]? = some t->Tryz.pinned.checked.prog.wantsStandIn t=false:=by
 obtain rfl : f = 3 := Option.some.inj ((show Tryz.prog.funcNamed "rafter/rafterlaw05.AffineTurns" = some 3 by kernel_rfl).symm.trans hf) |>.symm
 obtain rfl:fn=Tryz.f3:=(Option.some.inj (Tryz.func3.symm.trans hfn)).symm;refine⟨by kernel_rfl,fun j t ht=>?_⟩;rw[Tryz.params3]at ht;have hm:=Array.mem_of_getElem? ht;simp at hm;rcases hm with rfl|rfl
 ·exact(show Tryz.prog.wantsStandIn 22=false by kernel_rfl)
 ·exact(show Tryz.prog.wantsStandIn 3=false by kernel_rfl)
theorem card:Rows.AffineTurnsUptoCardSaid:=
 Claim7.holds_tied_plain_at .later [] _ _ _ _ said (fun _ h=>by cases h) (by kernel_rfl) (fun _ h=>by cases h) affineTurnsUpto_row_tie rfl ⟨rfl,rfl⟩ (by kernel_rfl) rfl plain (by kernel_rfl)
end affineTurnsLaw
theorem affineTurns_card:Rows.AffineTurnsUptoCardSaid:=affineTurnsLaw.card
#print axioms affineTurns_card
end Go.Proofs.YtmglhfbpgbjbkaaGreatDoor
