/-
  What the text behind the last one leans on, part 1.
-/
import Derived.Deep.QuietTactic
import Derived.BigQuiet
import Derived.Deep.RegionWith
import Derived.Deep.RegionHeld3
import Derived.Deep.LoopGhost
import Derived.Deep.DeepCutAuto
import Derived.Test.YtgmobkafnefpfaaGreatProg
import Derived.WalkKit
import Derived.WalkSpells
import Derived.WalkLawsBesides
import Derived.Deep.AppendLies
import Derived.Test.YtgmobkafnefpfaaGreatMDsLawZ0
namespace Go.Proofs.YtgmobkafnefpfaaGreat
namespace Lm
open Go.RowKit
theorem apn {zs:List Int} (hz:Limb zs) (i:Nat):∃ t:Int,val zs / pw i=(zs.getD (i+1) 0*4294967296+zs.getD i 0)+18446744073709551616*t:=by
 have h0:val zs / pw i=val (zs.drop i):=by
  by_cases hi:i≤zs.length
  ·have e:=abb (zs.take i) (zs.drop i)
   rw [List.take_append_drop,List.length_take,Nat.min_eq_left hi] at e
   have b:=aab (aam hz i)
   rw [List.length_take,Nat.min_eq_left hi] at b
   exact (acq (a:=val zs) (b:=pw i) (by have:=aaj i;omega) (by rw [e,Int.mul_comm];omega) b.1 b.2).1
  ·rw [List.drop_of_length_le (by omega)]
   have b:=aab hz
   have hm:=aa0 (m:=zs.length) (n:=i) (by omega)
   exact Int.ediv_eq_zero_of_lt b.1 (by omega)
 refine ⟨val (zs.drop (i+2)),?_⟩
 rw [h0]
 by_cases h1:i<zs.length
 ·rw [aa2 zs i h1,val]
  by_cases h2:i+1<zs.length
  ·rw [aa2 zs (i+1) h2,val,show i+2=i+1+1 from rfl]
   omega
  ·have e1:zs.drop (i+1) = []:=List.drop_of_length_le (by omega)
   have e2:zs.drop (i+2) = []:=List.drop_of_length_le (by omega)
   have e3:zs.getD (i+1) 0=0:=by rw [List.getD_eq_getElem?_getD,List.getElem?_eq_none (by omega)];rfl
   rw [e1,e2,e3]
   simp [val]
 ·have e1:zs.drop i = []:=List.drop_of_length_le (by omega)
  have e2:zs.drop (i+2) = []:=List.drop_of_length_le (by omega)
  have e3:zs.getD (i+1) 0=0:=by rw [List.getD_eq_getElem?_getD,List.getElem?_eq_none (by omega)];rfl
  have e4:zs.getD i 0=0:=by rw [List.getD_eq_getElem?_getD,List.getElem?_eq_none (by omega)];rfl
  rw [e1,e2,e3,e4]
  simp [val]
theorem axt {x:Int} (h0:0≤x) (h1:x<4294967296):bits .and .u32 x 1073741823=x % 1073741824:=by
 rw [u32_and _ _ h0 h1 (by omega) (by omega)]
 have:(1073741823:Int).toNat=2 ^ 30 - 1:=by decide
 rw [this,Nat.and_two_pow_sub_one_eq_mod]
 omega
theorem anm {V r t:Int} {s:Nat} (hs:s≤31) (hV:V=r+18446744073709551616*t):r / p2 s % 4294967296 % 1073741824=V / p2 s % 1073741824:=by
 have hp:=abv s
 have e1:(18446744073709551616:Int)=p2 s*(1073741824*p2 (34 - s)):=by
  have h9:p2 s*(p2 30*p2 (34 - s))=p2 64:=by rw [←acb,←acb,show s+(30+(34 - s))=64 by omega]
  rw [show p2 30=1073741824 from by decide,show p2 64=18446744073709551616 from by decide] at h9
  exact h9.symm
 have e2:V / p2 s=r / p2 s+1073741824*(p2 (34 - s)*t):=by
  rw [hV,e1,Int.mul_assoc,Int.add_mul_ediv_left _ _ (by omega),Int.mul_assoc]
 rw [e2,Int.add_mul_emod_self_left]
 omega
set_option maxRecDepth 20000 in
set_option maxHeartbeats 400000 in
theorem ahq (w:World) (ao:Option Addr) (n cap:Nat) (zs:List Int) (h:Sl w (.slice ao n cap) zs) (low:Nat) (hlow:low≤100000000) :
  Calls Tryz.prog 123 #[.slice ao n cap,.int .i64 low] w fun e w'=>e=.returned (.int .u32 (val zs / p2 low % 1073741824))∧w' = w:=by
 obtain ⟨rfl,x1,x2,x3⟩:=h.parts
 obtain ⟨i,hi⟩:∃ i,i=low / 32:=⟨_,rfl⟩
 obtain ⟨s,hs⟩:∃ s,s=low % 32:=⟨_,rfl⟩
 have e1:(low:Int) / 32=(i:Nat):=by omega
 have e2:(low:Int) % 32=(s:Nat):=by omega
 have hs31:s≤31:=by omega
 have hib:i≤100000000:=by omega
 have HPL:Hid (p2 low=pw i*p2 s):=by
  show _ = _
  rw [ad4,←acb]
  congr 1
  omega
 have bA:=aaf x3 i
 have bC:=aaf x3 (i+1)
 obtain ⟨t,ht⟩:=apn x3 i
 have k1:Hid (∀ w' : World,Sl w' (.slice ao zs.length cap) zs→Calls Tryz.prog 117 #[.slice ao zs.length cap,.int .i64 ((i:Int)+1)] w' fun e w''=>e=.returned (.int .u32 (zs.getD (i+1) 0))∧w'' = w'):=by
  intro w' h'
  have h9:=agv w' _ zs h' ((i:Int)+1) (by omega)
  rwa [show ((i:Int)+1).toNat=i+1 by omega] at h9
 have k2:Hid (∀ w' : World,Sl w' (.slice ao zs.length cap) zs→Calls Tryz.prog 117 #[.slice ao zs.length cap,.int .i64 (i:Int)] w' fun e w''=>e=.returned (.int .u32 (zs.getD i 0))∧w'' = w'):=fun w' h'=>ab3 w' _ zs h' i
 have HT:=hide ht
 generalize zs.getD (i+1) 0=C at bC k1 HT
 generalize zs.getD i 0=A at bA k2 HT
 have hor:=aea C A bC.1 bC.2 bA.1 bA.2
 obtain ⟨M,hM⟩:∃ M,M=C*4294967296+A:=⟨_,rfl⟩
 rw [←hM] at hor HT
 have hM0:0≤M:=by omega
 have hM1:M<18446744073709551616:=by omega
 have hpw:=aj3 s
 have hp1:=abv s
 have hd0:0≤M / p2 s:=Int.ediv_nonneg hM0 (by omega)
 have hmk:bits .and .u32 (M / p2 s % 4294967296) 1073741823=M / p2 s % 4294967296 % 1073741824:=axt (by omega) (by omega)
 have HV:Hid (M / p2 s % 1073741824=val zs / p2 low % 1073741824):=by
  have h9:=anm hs31 HT.out
  rw [Int.ediv_ediv_of_nonneg (by have:=aaj i;omega),←HPL.out] at h9
  show _ = _
  omega
 clear x3 ht hM hi hs
 go_enter Tryz.func123,Tryz.ntmps123
 go_wp2_with fail
 refine (k1.out _ h).mono ?_
 rintro e w1 ⟨rfl,rfl⟩
 go_wp2_with fail
 refine (k2.out _ h).mono ?_
 rintro e w1 ⟨rfl,rfl⟩
 go_wp2
 go_ret
 exact ⟨by rw [←HV.out];rfl,rfl⟩
end Lm
end Go.Proofs.YtgmobkafnefpfaaGreat
namespace Go.Proofs.YtgmobkafnefpfaaGreat
namespace Lm
open Go.RowKit
theorem aux {xs ys os:List Int} {k:Nat} {p q x y c s:Int} (hk:os.length=k) (hx:xs.getD k 0=x) (hy:ys.getD k 0=y) (hs:s=p*x+q*y+c) (h:val os+pw k*c=p*vf xs k+q*vf ys k) :
  val (os ++ [s % 4294967296])+pw (k+1)*(s / 4294967296)=p*vf xs (k+1)+q*vf ys (k+1):=by
 rw [aba,vf,vf,hx,hy,hk,pw]
 have e:s=s % 4294967296+4294967296*(s / 4294967296):=by omega
 have e2:pw k*(s % 4294967296)+4294967296*pw k*(s / 4294967296)=pw k*s:=by
  rw [Int.mul_comm 4294967296 (pw k),Int.mul_assoc,←Int.mul_add,←e]
 have e3:p*(pw k*x)=pw k*(p*x):=by rw [←Int.mul_assoc,Int.mul_comm p,Int.mul_assoc]
 have e4:q*(pw k*y)=pw k*(q*y):=by rw [←Int.mul_assoc,Int.mul_comm q,Int.mul_assoc]
 rw [Int.add_assoc,e2,hs,Int.mul_add,Int.mul_add,Int.mul_add,Int.mul_add,e3,e4]
 omega
theorem aek {p x:Int} (hp : -1073741824≤p∧p≤1073741824) (hx:0≤x∧x<4294967296) : -4611686018427387904≤p*x∧p*x≤4611686018427387904:=by
 have h1:p*x≤1073741824*x:=Int.mul_le_mul_of_nonneg_right hp.2 hx.1
 have h2 : -1073741824*x≤p*x:=Int.mul_le_mul_of_nonneg_right hp.1 hx.1
 omega
theorem auy {p q x y:Int} (hp : -1073741824≤p∧p≤1073741824) (hq : -1073741824≤q∧q≤1073741824) (hs:(0≤p∧q≤0)∨(p≤0∧0≤q)) (hx:0≤x∧x<4294967296) (hy:0≤y∧y<4294967296) : -4611686018427387904≤p*x+q*y∧p*x+q*y≤4611686018427387904:=by
 have b1:=aek hp hx
 have b2:=aek hq hy
 rcases hs with ⟨h1,h2⟩ | ⟨h1,h2⟩
 ·have p1:0≤p*x:=Int.mul_nonneg h1 hx.1
  have p2:0≤(-q)*y:=Int.mul_nonneg (by omega) hy.1
  rw [Int.neg_mul] at p2
  omega
 ·have p1:0≤(-p)*x:=Int.mul_nonneg (by omega) hx.1
  have p2:0≤q*y:=Int.mul_nonneg h2 hy.1
  rw [Int.neg_mul] at p1
  omega
set_option maxRecDepth 20000 in
set_option maxHeartbeats 1000000 in
theorem agq (w:World) (a1 a2:Option Addr) (n1 n2 c1 c2:Nat) (xs ys:List Int) (hx:Sl w (.slice a1 n1 c1) xs) (hy:Sl w (.slice a2 n2 c2) ys) (hm:xs.length≤1000000) (hl:ys.length≤xs.length) (p q:Int) (hp : -1073741824≤p∧p≤1073741824) (hq : -1073741824≤q∧q≤1073741824) (hs:(0≤p∧q≤0)∨(p≤0∧0≤q)) (h0:0≤p*val xs+q*val ys) (h1:p*val xs+q*val ys<pw xs.length) :
  Calls Tryz.prog 124 #[.int .i64 p,.slice a1 n1 c1,.int .i64 q,.slice a2 n2 c2] w fun e w'=>∃ v,e=.returned v∧Is w.heap.size w' v (p*val xs+q*val ys)∧Below w.heap.size w w' := by
 obtain ⟨rfl,x1,x2,x3⟩:=hx.parts
 obtain ⟨rfl,y1,y2,y3⟩:=hy.parts
 obtain ⟨i0,hi,hz0,hz1,hz2⟩:=info_parts ab4
 have X3:=hide x3
 have Y3:=hide y3
 have H0:=hide h0
 have H1:=hide h1
 have HP:=hide hp
 have HQ:=hide hq
 have HS:=hide hs
 clear x3 y3 h0 h1 hp hq hs
 go_enter Tryz.func124,Tryz.ntmps124
 go_wp2_with (refine wpList_make_full _ rfl (.tmp 14) (.tmp 14) 25 rfl w.heap.size 83 i0 (.int .u32 0) 1 Tryz.underlying25 hi hz0 hz1 .i64 .i64 _ _ xs.length rfl rfl (by omega) (by omega) (by rw [hz2];omega) (by unfold maxLen;omega) (Nat.le_refl _) ?hK)
 case hK =>
  intro w1 hown hgrow
  obtain ⟨_,cur,hh,hcs,hat⟩:=aa4 hown
  have hb1:Below w.heap.size w w1:=(Below.refl w.heap.size w).grown hgrow (Nat.le_refl _) (by simp)
  have HH:=hide hh
  have HC0:=hide hcs
  have HA:=hide hat
  clear hown hgrow hh hcs hat
  go_wp2
  go_loopw [10,18] (fun cv i wr=>∃ (k:Nat) (c:Int) (os:List Int) (cur' : Array Value),k≤xs.length∧cv=.int .i64 c∧i=.int .i64 k∧(-1073741826≤c∧c≤1073741826)∧os.length=k∧Limb os∧val os+pw k*c=p*vf xs k+q*vf ys k∧Wr w1 wr w.heap.size cur' 83∧cur'.size=xs.length∧At cur' .u32 0 (os ++ (List.replicate xs.length 0).drop k)) (fun _ i _=>xs.length - (intOf i).toNat)
  case atStart=>exact ⟨0,0,[],cur,Nat.zero_le _,rfl,rfl,by omega,rfl,aae,by simp [val,vf,pw],Wr.refl HH.out,HC0.out,by simpa using HA.out⟩
  case round =>
   obtain ⟨k,c,os,cur',hk,rfl,rfl,hc,hol,ho,hval,hwr,hcs,hat⟩:=hrel
   have HOL:=hide hol
   have HO:=hide ho
   have HV:=hide hval
   have HW:=hide hwr
   have HC:=hide hcs
   have HT:=hide hat
   clear hol ho hval hwr hcs hat
   by_cases hlt:k<xs.length
   ·have sx:=HW.out.sl (Nat.le_refl _) hb1 rfl hx
    have sy:=HW.out.sl (Nat.le_refl _) hb1 rfl hy
    obtain ⟨b,off,rfl,hcx⟩:=sx.cells (by omega)
    have cx:=hcx k (by omega)
    have bx:=aaf X3.out k
    have by' := aaf Y3.out k
    obtain ⟨x,hxk⟩:∃ x,xs.getD k 0=x:=⟨_,rfl⟩
    obtain ⟨y,hyk⟩:∃ y,ys.getD k 0=y:=⟨_,rfl⟩
    have ky:Hid (∀ n,Calls Tryz.prog 117 #[.slice a2 ys.length c2,.int .i64 k] (wr.drewN n) fun e w'=>e=.returned (.int .u32 y)∧w' = wr.drewN n):=by
     intro n;rw [←hyk];exact ab3 _ _ ys (sy.below (below_drewN (Below.refl _ _) n)) k
    rw [hxk] at cx bx
    rw [hyk] at by'
    have hpx:=aek HP.out bx
    have hqy:=aek HQ.out by'
    have htw:=auy HP.out HQ.out HS.out bx by'
    obtain ⟨P,hP⟩:∃ P,P=p*x:=⟨_,rfl⟩
    obtain ⟨R,hR⟩:∃ R,R=q*y:=⟨_,rfl⟩
    have HV' := hide (aux (p:=p) (q:=q) HOL.out hxk hyk rfl HV.out)
    rw [←hP] at hpx htw HV'
    rw [←hR] at hqy htw HV'
    have ep:p*x=P:=hP.symm
    have er:q*y=R:=hR.symm
    have hlen:(os ++ (List.replicate xs.length (0:Int)).drop k).length=xs.length:=by have:=HOL.out;simp;omega
    have hcell:=HT.out.cell HW.out.here k (by rw [hlen];omega)
    rw [Nat.zero_add] at hcell
    generalize (os ++ (List.replicate xs.length (0:Int)).drop k).getD k 0=old at hcell
    have hfree:=HW.out.free k
    have HT' := hide (HT.out.set k ((P+R+c) % 4294967296))
    have HW' := hide (HW.out.set k (.int .u32 ((P+R+c) % 4294967296)))
    clear hlen sx sy hcx hxk hyk hP hR
    go_wp2
    go_quiet ((go_at_call 117;exact Calls.quiet_of_same (ky.out _)))
    go_wp2
    go_roundw
    case rel=>exact ⟨k+1,(P+R+c) / 4294967296,os ++ [(P+R+c) % 4294967296],_,by omega,rfl,by go_num,by omega,by have:=HOL.out;simp;omega,aah.2 ⟨HO.out,aag.2 ⟨by omega,aae⟩⟩,HV'.out,HW'.out.drewN _,by simpa using HC.out,by rw [←abq os _ k _ HOL.out (by simp;omega)];simpa using HT'.out⟩
    case measure=>simp [intOf];omega
   ·have hkn:k=xs.length:=by omega
    subst hkn
    have hat2:=HT.out
    rw [List.drop_of_length_le (by simp),List.append_nil] at hat2
    have how:Ow w.heap.size wr (.slice (some ⟨w.heap.size,0,none⟩) xs.length xs.length) os:=by
     have:=HOL.out
     exact ⟨_,xs.length,by rw [this],by omega,by unfold maxLen;omega,HO.out,.inr ⟨_,0,_,rfl,Nat.le_refl _,HW.out.here,by rw [HC.out];omega,hat2⟩⟩
    have hbel:Below w.heap.size w wr:=hb1.trans (HW.out.below (Nat.le_refl _))
    have hfin:val os=p*val xs+q*val ys:=by
     have hv:=HV.out
     rw [aa1 xs _ (Nat.le_refl _),aa1 ys _ hl] at hv
     have hb:=aab HO.out
     rw [HOL.out] at hb
     have h0:=H0.out
     have h1:=H1.out
     have hp:=aaj xs.length
     have hc0:c=0:=by
      rcases Int.lt_trichotomy c 0 with h | h | h
      ·have:pw xs.length*c≤pw xs.length*(-1):=Int.mul_le_mul_of_nonneg_left (by omega) (by omega)
       omega
      ·exact h
      ·have:pw xs.length*1≤pw xs.length*c:=Int.mul_le_mul_of_nonneg_left (by omega) (by omega)
       omega
     rw [hc0,Int.mul_zero,Int.add_zero] at hv
     exact hv
    have his:=how.is_cut hfin
    clear hat2 hfin
    go_wp2_with fail
    refine (aan _ _ _ _ _ how.sl).mono ?_
    rintro e w2 ⟨rfl,rfl⟩
    go_wp2
    go_ret
    exact ⟨_,rfl,his,hbel⟩
end Lm
end Go.Proofs.YtgmobkafnefpfaaGreat
namespace Go.Proofs.YtgmobkafnefpfaaGreat
namespace Lm
structure Lh (x0 y0 X Y a b c d x y:Int):Prop where
 ex:x=a*x0+b*y0
 ey:y=c*x0+d*y0
 sig:(0≤a∧b≤0∧c≤0∧0≤d∧d*x - b*y=x0∧a*y - c*x=y0)∨(a≤0∧0≤b∧0≤c∧d≤0∧b*y - d*x=x0∧c*x - a*y=y0)
 xa:0≤x+a
 xb:0≤x+b
 yc:0≤y+c
 yd:0≤y+d
 x1:1≤x
 y0' : 0≤y
 ba : -1073741824≤a∧a≤1073741824
 bb : -1073741824≤b∧b≤1073741824
 bc : -1073741824≤c∧c≤1073741824
 bd : -1073741824≤d∧d≤1073741824
 bx:x<1073741824
 by' : y<1073741824
 le:c*X+d*Y≤a*X+b*Y
 nn:0≤c*X+d*Y
 top:a*X+b*Y≤X
 low:c*X+d*Y≤Y
 bz:b≠0→c*X+d*Y<Y
 gcd:Int.gcd (a*X+b*Y) (c*X+d*Y)=Int.gcd X Y
theorem afa {x0 y0 X Y L a b x:Int} (hX:x0*L≤X) (hX2:X≤(x0+1)*L) (hY:y0*L≤Y) (hY2:Y≤(y0+1)*L) (ex:x=a*x0+b*y0) (ha:0≤a) (hb:b≤0) :
  (x+b)*L≤a*X+b*Y∧a*X+b*Y≤(x+a)*L:=by
 have e1:a*(x0*L)≤a*X:=Int.mul_le_mul_of_nonneg_left hX ha
 have e2:a*X≤a*((x0+1)*L):=Int.mul_le_mul_of_nonneg_left hX2 ha
 have e3:(-b)*(y0*L)≤(-b)*Y:=Int.mul_le_mul_of_nonneg_left hY (by omega)
 have e4:(-b)*Y≤(-b)*((y0+1)*L):=Int.mul_le_mul_of_nonneg_left hY2 (by omega)
 rw [Int.add_mul,Int.one_mul,Int.mul_add] at e2 e4
 rw [Int.neg_mul,Int.neg_mul] at e3
 rw [Int.neg_mul,Int.neg_mul,Int.neg_mul] at e4
 rw [ex,Int.add_mul,Int.add_mul,Int.add_mul,Int.add_mul,Int.mul_assoc,Int.mul_assoc]
 constructor <;> omega
theorem agr {x0 y0 X Y L a b x:Int} (hX:x0*L≤X) (hX2:X≤(x0+1)*L) (hY:y0*L≤Y) (hY2:Y≤(y0+1)*L) (ex:x=a*x0+b*y0) (ha:a≤0) (hb:0≤b) :
  (x+a)*L≤a*X+b*Y∧a*X+b*Y≤(x+b)*L:=by
 have h:=afa hY hY2 hX hX2 (a:=b) (b:=a) (x:=x) (by omega) hb ha
 constructor <;> omega
theorem aet {L X1 Y1 q u v s t:Int} (hL:0<L) (hu:X1≤u*L) (hv:v*L≤X1) (hs:s*L≤Y1) (ht:Y1≤t*L) (h1:q*t≤v) (h2:u<(q+1)*s) (hq:0≤q):q*Y1≤X1∧X1<(q+1)*Y1:=by
 constructor
 ·have e1:q*Y1≤q*(t*L):=Int.mul_le_mul_of_nonneg_left ht hq
  have e2:q*t*L≤v*L:=Int.mul_le_mul_of_nonneg_right h1 (by omega)
  rw [Int.mul_assoc] at e2
  omega
 ·have e1:(q+1)*(s*L)≤(q+1)*Y1:=Int.mul_le_mul_of_nonneg_left hs (by omega)
  have e2:(u+1)*L≤(q+1)*s*L:=Int.mul_le_mul_of_nonneg_right (by omega) (by omega)
  rw [Int.mul_assoc,Int.add_mul,Int.one_mul] at e2
  omega
theorem adf (X Y q:Int):Int.gcd Y (X - q*Y)=Int.gcd X Y:=by
 apply Nat.dvd_antisymm
 ·apply Int.dvd_gcd
  ·have h1:=Int.gcd_dvd_left Y (X - q*Y)
   have h2:=Int.gcd_dvd_right Y (X - q*Y)
   have h4:=Int.dvd_add h2 (Int.dvd_mul_of_dvd_right (b:=q) h1)
   have h3:(X - q*Y)+q*Y=X:=by omega
   rw [h3] at h4
   exact h4
  ·exact Int.gcd_dvd_left _ _
 ·apply Int.dvd_gcd
  ·exact Int.gcd_dvd_right _ _
  ·exact Int.dvd_sub (Int.gcd_dvd_left _ _) (Int.dvd_mul_of_dvd_right (Int.gcd_dvd_right _ _))
theorem ael {c y x0:Int} (hy:1≤y) (hc:0≤c) (h:c*y≤x0):c≤x0:=by
 have:c*1≤c*y:=Int.mul_le_mul_of_nonneg_left hy hc
 omega
theorem Lh.step {x0 y0 X Y L a b c d x y q:Int} (H:Lh x0 y0 X Y a b c d x y) (hL:0<L) (hX:x0*L≤X) (hX2:X≤(x0+1)*L) (hY:y0*L≤Y) (hY2:Y≤(y0+1)*L) (hx0:x0<1073741824) (hy0:y0<1073741824)
  (hc:0<y+c) (hd:0<y+d) (q1:q*(y+c)≤x+a) (q2:x+a<(q+1)*(y+c)) (q3:q*(y+d)≤x+b) (q4:x+b<(q+1)*(y+d)) (hq:0≤q) :
  Lh x0 y0 X Y c d (a - q*c) (b - q*d) y (x - q*y):=by
 have hqy:0≤q*y:=Int.mul_nonneg hq H.y0'
 have m1:q*(y+c)=q*y+q*c:=Int.mul_add _ _ _
 have m2:q*(y+d)=q*y+q*d:=Int.mul_add _ _ _
 have eXY:(a - q*c)*X+(b - q*d)*Y=(a*X+b*Y) - q*(c*X+d*Y):=by
  rw [Int.sub_mul,Int.sub_mul,Int.mul_add,Int.mul_assoc,Int.mul_assoc];omega
 have ey' : x - q*y=(a - q*c)*x0+(b - q*d)*y0:=by
  rw [Int.sub_mul,Int.sub_mul,Int.mul_assoc,Int.mul_assoc,H.ex,H.ey,Int.mul_add];omega
 have n1:d*(x - q*y)=d*x - q*d*y:=by rw [Int.mul_sub,←Int.mul_assoc,Int.mul_comm d q]
 have n2:(b - q*d)*y=b*y - q*d*y:=Int.sub_mul _ _ _
 have n3:c*(x - q*y)=c*x - q*c*y:=by rw [Int.mul_sub,←Int.mul_assoc,Int.mul_comm c q]
 have n4:(a - q*c)*y=a*y - q*c*y:=Int.sub_mul _ _ _
 have key:q*(c*X+d*Y)≤a*X+b*Y∧a*X+b*Y<(q+1)*(c*X+d*Y):=by
  rcases H.sig with ⟨s1,s2,s3,s4,_,_⟩ | ⟨s1,s2,s3,s4,_,_⟩
  ·have b1:=afa hX hX2 hY hY2 H.ex s1 s2
   have b2:=agr hX hX2 hY hY2 H.ey s3 s4
   exact aet hL b1.2 b1.1 b2.1 b2.2 q3 q2 hq
  ·have b1:=agr hX hX2 hY hY2 H.ex s1 s2
   have b2:=afa hX hX2 hY hY2 H.ey s3 s4
   exact aet hL b1.2 b1.1 b2.1 b2.2 q1 q4 hq
 have key2:(q+1)*(c*X+d*Y)=q*(c*X+d*Y)+(c*X+d*Y):=by rw [Int.add_mul,Int.one_mul]
 have hle:=H.le
 have hnn:=H.nn
 have htop:=H.top
 have hlow:=H.low
 have hg:=adf (a*X+b*Y) (c*X+d*Y) q
 rw [H.gcd,←eXY] at hg
 have hsig:((0≤c∧d≤0∧a - q*c≤0∧0≤b - q*d∧(b - q*d)*y - d*(x - q*y)=x0∧c*(x - q*y) - (a - q*c)*y=y0)∨(c≤0∧0≤d∧0≤a - q*c∧b - q*d≤0∧d*(x - q*y) - (b - q*d)*y=x0∧(a - q*c)*y - c*(x - q*y)=y0))∧1≤y∧0≤x - q*y:=by
  rcases H.sig with ⟨s1,s2,s3,s4,s5,s6⟩ | ⟨s1,s2,s3,s4,s5,s6⟩
  ·have p1:q*c≤0:=by
    have:q*c≤q*0:=Int.mul_le_mul_of_nonneg_left s3 hq
    omega
   have p2:0≤q*d:=Int.mul_nonneg hq s4
   exact ⟨.inr ⟨s3,s4,by omega,by omega,by omega,by omega⟩,by omega,by omega⟩
  ·have p1:0≤q*c:=Int.mul_nonneg hq s3
   have p2:q*d≤0:=by
    have:q*d≤q*0:=Int.mul_le_mul_of_nonneg_left s4 hq
    omega
   exact ⟨.inl ⟨s3,s4,by omega,by omega,by omega,by omega⟩,by omega,by omega⟩
 obtain ⟨hsg,hy1,hyy⟩:=hsig
 have hbnd:(-1073741824≤a - q*c∧a - q*c≤1073741824)∧(-1073741824≤b - q*d∧b - q*d≤1073741824):=by
  rcases hsg with ⟨s1,s2,s3,s4,s5,s6⟩ | ⟨s1,s2,s3,s4,s5,s6⟩
  ·have p1:0≤c*(x - q*y):=Int.mul_nonneg s1 hyy
   have p2:0≤(-d)*(x - q*y):=Int.mul_nonneg (by omega) hyy
   rw [Int.neg_mul] at p2
   have f1:=ael (c:=-(a - q*c)) (x0:=y0) hy1 (by omega) (by rw [Int.neg_mul];omega)
   have f2:=ael (c:=b - q*d) (x0:=x0) hy1 (by omega) (by omega)
   omega
  ·have p1:0≤(-c)*(x - q*y):=Int.mul_nonneg (by omega) hyy
   have p2:0≤d*(x - q*y):=Int.mul_nonneg s2 hyy
   rw [Int.neg_mul] at p1
   have f1:=ael (c:=a - q*c) (x0:=y0) hy1 (by omega) (by omega)
   have f2:=ael (c:=-(b - q*d)) (x0:=x0) hy1 (by omega) (by rw [Int.neg_mul];omega)
   omega
 refine ⟨H.ey,ey',?_,H.yc,H.yd,by omega,by omega,hy1,hyy,H.bc,H.bd,hbnd.1,hbnd.2,H.by',?_,?_,?_,?_,?_,?_,hg⟩
 ·rcases hsg with h | h
  ·exact .inl ⟨h.1,h.2.1,h.2.2.1,h.2.2.2.1,h.2.2.2.2.1,h.2.2.2.2.2⟩
  ·exact .inr ⟨h.1,h.2.1,h.2.2.1,h.2.2.2.1,h.2.2.2.2.1,h.2.2.2.2.2⟩
 ·have:=H.bx;omega
 ·rw [eXY];omega
 ·rw [eXY];omega
 ·omega
 ·rw [eXY];omega
 ·intro _;rw [eXY];omega
theorem Lh.start {x0 y0 X Y:Int} (h1:1≤x0) (h2:0≤y0) (h3:x0<1073741824) (h4:y0<1073741824) (hY:0≤Y) (hle:Y≤X):Lh x0 y0 X Y 1 0 0 1 x0 y0:=by
 refine ⟨by omega,by omega,.inl ⟨by omega,by omega,by omega,by omega,by omega,by omega⟩,by omega,by omega,by omega,by omega,h1,h2,by omega,by omega,by omega,by omega,h3,h4,by omega,by omega,by omega,by omega,fun h=>absurd rfl h,?_⟩
 rw [Int.one_mul,Int.zero_mul,Int.zero_mul,Int.one_mul,Int.add_zero,Int.zero_add]
end Lm
end Go.Proofs.YtgmobkafnefpfaaGreat
namespace Go.Proofs.YtgmobkafnefpfaaGreat
namespace Lm
open Go.RowKit
def Fac (w:World) (g:Nat) (a b c d:Int):Prop:=w.heap[g]? = some (.cells #[.int .i64 a,.int .i64 b,.int .i64 c,.int .i64 d] 142 (0,0))
theorem Fac.facts {w:World} {g:Nat} {a b c d:Int} (h:Fac w g a b c d):(w.cell? ⟨g,0,none⟩ = some (.int .i64 a)∧w.cell? ⟨g,1,none⟩ = some (.int .i64 b)∧w.cell? ⟨g,2,none⟩ = some (.int .i64 c)∧w.cell? ⟨g,3,none⟩ = some (.int .i64 d))∧(w.frozen? ⟨g,0,none⟩ = false∧w.frozen? ⟨g,1,none⟩ = false∧w.frozen? ⟨g,2,none⟩ = false∧w.frozen? ⟨g,3,none⟩ = false) :=
 ⟨⟨by rw [cell_of_row _ _ _ _ _ (0,0) h];rfl,by rw [cell_of_row _ _ _ _ _ (0,0) h];rfl,by rw [cell_of_row _ _ _ _ _ (0,0) h];rfl,by rw [cell_of_row _ _ _ _ _ (0,0) h];rfl⟩,frozen_of_row _ _ _ _ _ h,frozen_of_row _ _ _ _ _ h,frozen_of_row _ _ _ _ _ h,frozen_of_row _ _ _ _ _ h⟩
theorem agc {u s:Int} (hs:0<s):u / s*s≤u∧u<(u / s+1)*s:=by
 have h1:=Int.mul_ediv_add_emod u s
 have h2:=Int.emod_nonneg u (show s≠0 by omega)
 have h3:=Int.emod_lt_of_pos u hs
 rw [Int.add_mul,Int.one_mul,Int.mul_comm (u / s) s]
 omega
theorem ai0 {u s:Int} (hu:0≤u) (hs:0<s):0≤u / s∧u / s≤u:=⟨Int.ediv_nonneg hu (by omega),Int.ediv_le_self _ hu⟩
theorem Lh.less {x0 y0 X Y a b c d x y q:Int} (H:Lh x0 y0 X Y a b c d x y) (hq:0≤q) (q2:x+a<(q+1)*(y+c)) (q4:x+b<(q+1)*(y+d)):x - q*y<y∧q*y≤q*y:=by
 have m1:(q+1)*(y+c)=q*y+q*c+(y+c):=by rw [Int.add_mul,Int.one_mul,Int.mul_add]
 have m2:(q+1)*(y+d)=q*y+q*d+(y+d):=by rw [Int.add_mul,Int.one_mul,Int.mul_add]
 rcases H.sig with ⟨s1,s2,s3,s4,_,_⟩ | ⟨s1,s2,s3,s4,_,_⟩
 ·have p1:q*c≤0:=by
   have:q*c≤q*0:=Int.mul_le_mul_of_nonneg_left s3 hq
   omega
  omega
 ·have p2:q*d≤0:=by
   have:q*d≤q*0:=Int.mul_le_mul_of_nonneg_left s4 hq
   omega
  omega
theorem Fac.set {w:World} {g:Nat} {a b c d:Int} (h:Fac w g a b c d) (a' b' c' d' : Int):Fac ((((w.setCell ⟨g,0,none⟩ (.int .i64 a')).setCell ⟨g,1,none⟩ (.int .i64 b')).setCell ⟨g,2,none⟩ (.int .i64 c')).setCell ⟨g,3,none⟩ (.int .i64 d')) g a' b' c' d' := by
 have h1:=heap_setCell_same w g 0 _ _ (.int .i64 a') h
 have h2:=heap_setCell_same _ g 1 _ _ (.int .i64 b') h1
 have h3:=heap_setCell_same _ g 2 _ _ (.int .i64 c') h2
 have h4:=heap_setCell_same _ g 3 _ _ (.int .i64 d') h3
 exact h4
theorem Fac.other {w:World} {g k:Nat} {a b c d:Int} (H:Fac w g a b c d) (hn:g≠k) (a' b' c' d' : Value):Fac ((((w.setCell ⟨k,0,none⟩ a').setCell ⟨k,1,none⟩ b').setCell ⟨k,2,none⟩ c').setCell ⟨k,3,none⟩ d') g a b c d :=
 (heap_setCell_other _ ⟨k,3,none⟩ g d' hn).trans ((heap_setCell_other _ ⟨k,2,none⟩ g c' hn).trans ((heap_setCell_other _ ⟨k,1,none⟩ g b' hn).trans ((heap_setCell_other w ⟨k,0,none⟩ g a' hn).trans H)))
theorem ad5 {B:Nat} {w w1:World} {g:Nat} (hb:Below B w w1) (hg:B≤g) (a b c d:Value):Below B w ((((w1.setCell ⟨g,0,none⟩ a).setCell ⟨g,1,none⟩ b).setCell ⟨g,2,none⟩ c).setCell ⟨g,3,none⟩ d):=(((hb.setCell hg _).setCell hg _).setCell hg _).setCell hg _
set_option maxRecDepth 20000 in
set_option maxHeartbeats 2000000 in
theorem ajh (w:World) (x0 y0 X Y L:Int) (h1:1≤x0) (h2:0≤y0) (h3:x0<1073741824) (h4:y0<1073741824) (hY0:0≤Y) (hle:Y≤X) (hL:0<L) (hX:x0*L≤X) (hX2:X≤(x0+1)*L) (hY:y0*L≤Y) (hY2:Y≤(y0+1)*L) :
  Calls Tryz.prog 122 #[.int .i64 x0,.int .i64 y0] w fun e w'=>∃ a b c d x y,e=.returned (.agg #[.int .i64 a,.int .i64 b,.int .i64 c,.int .i64 d])∧Lh x0 y0 X Y a b c d x y∧Below w.heap.size w w' := by
 have ST:=hide (Lh.start h1 h2 h3 h4 hY0 hle)
 have e0:∃ w0:World,(w.alloc (.cells #[.int .i64 0,.int .i64 0,.int .i64 0,.int .i64 0] 142)).alloc (.cells #[.int .i64 1,.int .i64 0,.int .i64 0,.int .i64 1] 142)=w0∧Fac w0 w.heap.size 0 0 0 0∧Fac w0 (w.heap.size+1) 1 0 0 1∧Below w.heap.size w w0:=by
  have h1:=heap_alloc_new w (.cells #[.int .i64 0,.int .i64 0,.int .i64 0,.int .i64 0] 142)
  have b1:Below w.heap.size w (w.alloc (.cells #[.int .i64 0,.int .i64 0,.int .i64 0,.int .i64 0] 142)):=(Below.refl _ _).alloc (Nat.le_refl _) _
  have h2:=heap_alloc_new (w.alloc (.cells #[.int .i64 0,.int .i64 0,.int .i64 0,.int .i64 0] 142)) (.cells #[.int .i64 1,.int .i64 0,.int .i64 0,.int .i64 1] 142)
  have b2:Below (w.alloc (.cells #[.int .i64 0,.int .i64 0,.int .i64 0,.int .i64 0] 142)).heap.size (w.alloc (.cells #[.int .i64 0,.int .i64 0,.int .i64 0,.int .i64 0] 142)) ((w.alloc (.cells #[.int .i64 0,.int .i64 0,.int .i64 0,.int .i64 0] 142)).alloc (.cells #[.int .i64 1,.int .i64 0,.int .i64 0,.int .i64 1] 142)):=(Below.refl _ _).alloc (Nat.le_refl _) _
  refine ⟨_,rfl,(b2.block _ (by simp)).trans h1,?_,b1.trans (b2.mono b1.size)⟩
  have h3:=h2
  rw [World.size_alloc] at h3
  exact h3
 obtain ⟨w0,e0,hR0,hF0,hb0⟩:=e0
 have E0:=hide e0
 clear e0
 go_enter Tryz.func122,Tryz.ntmps122
 go_wp2
 rw [E0.out]
 go_loopw [0,1] (fun xv yv wr=>∃ a b c d x y:Int,xv=.int .i64 x∧yv=.int .i64 y∧Lh x0 y0 X Y a b c d x y∧Fac wr (w.heap.size+1) a b c d∧Fac wr w.heap.size 0 0 0 0∧Below w.heap.size w wr) (fun _ yv _=>(intOf yv).toNat)
 case atStart=>exact ⟨1,0,0,1,x0,y0,rfl,rfl,ST.out,hF0,hR0,hb0⟩
 case round =>
  obtain ⟨a,b,c,d,x,y,rfl,rfl,hD,hF,hR,HB⟩:=hrel
  have D:=hide hD
  have ba:=hD.ba
  have bb:=hD.bb
  have bc:=hD.bc
  have bd:=hD.bd
  have bx:=hD.bx
  have by' := hD.by'
  have x1:=hD.x1
  have y1:=hD.y0'
  have pxa:=hD.xa
  have pxb:=hD.xb
  have pyc:=hD.yc
  have pyd:=hD.yd
  clear hD
  by_cases hc:y+c=0
  ·have hcb:((y+c) != 0)=false:=by simp [hc]
   have HC:=hide hc
   clear hc
   obtain ⟨⟨fa,fb,fc,fd⟩,_⟩:=hF.facts
   obtain ⟨⟨ra,rb,rc,rd⟩,re,rf,rg,rh⟩:=hR.facts
   have XF:=hide (hR.set a b c d).facts.1
   have Z:=hide (ad5 HB (Nat.le_refl _) (.int .i64 a) (.int .i64 b) (.int .i64 c) (.int .i64 d))
   go_wp2
   refine bodyPost_ret (v:=.agg #[.int .i64 a,.int .i64 b,.int .i64 c,.int .i64 d]) ?_ rfl ⟨a,b,c,d,x,y,rfl,D.out,Z.out⟩
   simp [results,Tryz.results122,go_sem,XF.out.1,XF.out.2.1,XF.out.2.2.1,XF.out.2.2.2]
  ·have hcb:((y+c) != 0)=true:=by simp [hc]
   have hcp:0<y+c:=by omega
   clear hc
   by_cases hd:y+d=0
   ·have hdb:((y+d) != 0)=false:=by simp [hd]
    have HD:=hide hd
    clear hd
    obtain ⟨⟨fa,fb,fc,fd⟩,_⟩:=hF.facts
    obtain ⟨⟨ra,rb,rc,rd⟩,re,rf,rg,rh⟩:=hR.facts
    have XF:=hide (hR.set a b c d).facts.1
    have Z:=hide (ad5 HB (Nat.le_refl _) (.int .i64 a) (.int .i64 b) (.int .i64 c) (.int .i64 d))
    go_wp2
    refine bodyPost_ret (v:=.agg #[.int .i64 a,.int .i64 b,.int .i64 c,.int .i64 d]) ?_ rfl ⟨a,b,c,d,x,y,rfl,D.out,Z.out⟩
    simp [results,Tryz.results122,go_sem,XF.out.1,XF.out.2.1,XF.out.2.2.1,XF.out.2.2.2]
   ·have hdb:((y+d) != 0)=true:=by simp [hd]
    have hdp:0<y+d:=by omega
    clear hd
    have f1:=agc (u:=x+a) hcp
    have f2:=agc (u:=x+b) hdp
    have g1:=ai0 pxa hcp
    have g2:=ai0 pxb hdp
    have t1:(x+a).tdiv (y+c)=(x+a) / (y+c):=Int.tdiv_eq_ediv_of_nonneg pxa
    have t2:(x+b).tdiv (y+d)=(x+b) / (y+d):=Int.tdiv_eq_ediv_of_nonneg pxb
    obtain ⟨q,hq⟩:∃ q,(x+a) / (y+c)=q:=⟨_,rfl⟩
    obtain ⟨q',hq'⟩:∃ q,(x+b) / (y+d)=q:=⟨_,rfl⟩
    rw [hq] at f1 g1 t1
    rw [hq'] at f2 g2 t2
    clear hq hq'
    by_cases hqq:q=q'
    ·subst hqq
     have ST' := hide (D.out.step hL hX hX2 hY hY2 h3 h4 hcp hdp f1.1 f1.2 f2.1 f2.2 g1.1)
     have LS:=(D.out.less g1.1 f1.2 f2.2).1
     have bc' := ST'.out.bc
     have bd' := ST'.out.bd
     have by2:=ST'.out.y0'
     obtain ⟨P1,hP1⟩:∃ P,q*c=P:=⟨_,rfl⟩
     obtain ⟨P2,hP2⟩:∃ P,q*d=P:=⟨_,rfl⟩
     obtain ⟨P3,hP3⟩:∃ P,q*y=P:=⟨_,rfl⟩
     rw [hP1] at ST' bc'
     rw [hP2] at ST' bd'
     rw [hP3] at ST' LS by2
     obtain ⟨⟨fa,fb,fc,fd⟩,fe,ff,fg,fh⟩:=hF.facts
     have HF' := hide (hF.set c d (a - P1) (b - P2))
     have HR' := hide (hR.other (show w.heap.size≠w.heap.size+1 by omega) (.int .i64 c) (.int .i64 d) (.int .i64 (a - P1)) (.int .i64 (b - P2)))
     have HB' := hide (ad5 HB (Nat.le_succ _) (.int .i64 c) (.int .i64 d) (.int .i64 (a - P1)) (.int .i64 (b - P2)))
     have p3:0≤P3:=by rw [←hP3];exact Int.mul_nonneg g1.1 y1
     clear f1 f2
     go_wp2
     go_roundw
     case rel=>exact ⟨c,d,a - P1,b - P2,y,x - P3,rfl,rfl,ST'.out,HF'.out,HR'.out,HB'.out⟩
     case measure=>simp [intOf];omega
    ·have hqb:(q != q')=true:=by simp [hqq]
     clear f1 f2
     obtain ⟨⟨fa,fb,fc,fd⟩,_⟩:=hF.facts
     obtain ⟨⟨ra,rb,rc,rd⟩,re,rf,rg,rh⟩:=hR.facts
     have XF:=hide (hR.set a b c d).facts.1
     have Z:=hide (ad5 HB (Nat.le_refl _) (.int .i64 a) (.int .i64 b) (.int .i64 c) (.int .i64 d))
     go_wp2
     refine bodyPost_ret (v:=.agg #[.int .i64 a,.int .i64 b,.int .i64 c,.int .i64 d]) ?_ rfl ⟨a,b,c,d,x,y,rfl,D.out,Z.out⟩
     simp [results,Tryz.results122,go_sem,XF.out.1,XF.out.2.1,XF.out.2.2.1,XF.out.2.2.2]
end Lm
end Go.Proofs.YtgmobkafnefpfaaGreat
namespace Go.Proofs.YtgmobkafnefpfaaGreat
namespace Lm
open Go.RowKit
theorem Fac.below {w w' : World} {g:Nat} {a b c d:Int} (h:Fac w g a b c d) (hb:Below w.heap.size w w'):Fac w' g a b c d:=(hb.block g (aaa h)).trans h
theorem ace {w w' w'' : World} (h:Below w.heap.size w w') (h2:Below w'.heap.size w' w''):Below w.heap.size w w'' := h.trans (h2.mono h.size)
theorem apo {X Y:Int} {l m:Nat} (hX:IsBits X l) (hl:l=m+30) (hY0:0≤Y) (hle:Y≤X) :
  X / p2 m % 1073741824=X / p2 m∧Y / p2 m % 1073741824=Y / p2 m∧1≤X / p2 m∧0≤Y / p2 m∧X / p2 m<1073741824∧Y / p2 m<1073741824∧X / p2 m*p2 m≤X∧X≤(X / p2 m+1)*p2 m∧Y / p2 m*p2 m≤Y∧Y≤(Y / p2 m+1)*p2 m:=by
 have hp:=abv m
 have hlow:p2 (l - 1)≤X:=by rcases hX.2 with h | h <;> omega
 have h29:p2 (l - 1)=p2 m*p2 29:=by rw [←acb];congr 1;omega
 have h30:p2 l=p2 m*p2 30:=by rw [←acb,hl]
 rw [show p2 29=536870912 from by decide] at h29
 rw [show p2 30=1073741824 from by decide] at h30
 have hX1:=hX.1
 have fx:=agc (u:=X) (s:=p2 m) (by omega)
 have fy:=agc (u:=Y) (s:=p2 m) (by omega)
 have x0:0≤X / p2 m:=Int.ediv_nonneg (by omega) (by omega)
 have y0:0≤Y / p2 m:=Int.ediv_nonneg hY0 (by omega)
 have xl:X / p2 m<1073741824:=Int.ediv_lt_of_lt_mul (by omega) (by rw [Int.mul_comm];omega)
 have yl:Y / p2 m<1073741824:=Int.ediv_lt_of_lt_mul (by omega) (by rw [Int.mul_comm];omega)
 have x1:1≤X / p2 m:=by
  apply Int.le_ediv_of_mul_le (by omega)
  omega
 refine ⟨Int.emod_eq_of_lt x0 xl,Int.emod_eq_of_lt y0 yl,x1,y0,xl,yl,fx.1,by omega,fy.1,by omega⟩
set_option maxRecDepth 20000 in
set_option maxHeartbeats 2000000 in
theorem ahr (w:World) (B:Nat) (hB:B≤w.heap.size) (a1 a2:Option Addr) (c1 c2:Nat) (xs ys:List Int) (hx:Ow B w (.slice a1 xs.length c1) xs) (hy:Ow B w (.slice a2 ys.length c2) ys) (hcy:Canon ys) (hm:xs.length≤400000) (h3:2<ys.length) (hle:val ys≤val xs) :
  Calls Tryz.prog 112 #[.slice a1 xs.length c1,.slice a2 ys.length c2] w fun e w'=>∃ v1 v2 X' Y',e=.returned (.tuple #[v1,v2])∧Is B w' v1 X'∧Is B w' v2 Y'∧Y'≤X'∧Y'<val ys∧X'≤val xs∧Int.gcd X' Y' = Int.gcd (val xs) (val ys)∧Below w.heap.size w w' := by
 obtain ⟨_,x1,x2,x3⟩:=hx.sl.parts
 obtain ⟨_,y1,y2,y3⟩:=hy.sl.parts
 have hY0:=(aab y3).1
 have hlen:ys.length≤xs.length:=aci x3 hcy hle
 have hX64:18446744073709551616≤val xs:=by
  have h9:=aa8 hcy (by intro e;subst e;simp at h3)
  have h8:=aa0 (m:=2) (n:=ys.length - 1) (by omega)
  rw [show pw 2=18446744073709551616 from by decide] at h8
  omega
 have sx:=hx.sl
 have sy:=hy.sl
 go_enter Tryz.func112,Tryz.ntmps112
 go_wp2_with fail
 refine (agz _ _ _ _ xs sx (by omega)).mono ?_
 rintro e w' ⟨l,rfl,t1,rfl⟩
 have hl65:65≤l:=by
  apply Classical.byContradiction
  intro hn
  have h9:=adb (m:=l) (n:=64) (by omega)
  rw [show p2 64=18446744073709551616 from by decide] at h9
  have:=t1.1
  omega
 have hlm:l≤32*xs.length:=by
  have h9:=(aab x3).2
  rw [ad4] at h9
  apply Classical.byContradiction
  intro hn
  have h8:=adb (m:=32*xs.length) (n:=l - 1) (by omega)
  rcases t1.2 with h | h <;> omega
 obtain ⟨m,hm'⟩:∃ m,l=m+30:=⟨l - 30,by omega⟩
 have WF:=hide (apo t1 hm' hY0 hle)
 have el:(l:Int) - 30=(m:Nat):=by omega
 have kx:Hid (∀ w2:World,Sl w2 (.slice a1 xs.length c1) xs→Calls Tryz.prog 123 #[.slice a1 xs.length c1,.int .i64 m] w2 fun e w3=>e=.returned (.int .u32 (val xs / p2 m))∧w3=w2):=by
  intro w2 h2
  have h9:=ahq w2 a1 _ c1 xs h2 m (by omega)
  rwa [WF.out.1] at h9
 have ky:Hid (∀ w2:World,Sl w2 (.slice a2 ys.length c2) ys→Calls Tryz.prog 123 #[.slice a2 ys.length c2,.int .i64 m] w2 fun e w3=>e=.returned (.int .u32 (val ys / p2 m))∧w3=w2):=by
  intro w2 h2
  have h9:=ahq w2 a2 _ c2 ys h2 m (by omega)
  rwa [WF.out.2.1] at h9
 obtain ⟨u,hu⟩:∃ u,val xs / p2 m=u:=⟨_,rfl⟩
 obtain ⟨v,hv⟩:∃ v,val ys / p2 m=v:=⟨_,rfl⟩
 rw [hu] at WF kx
 rw [hv] at WF ky
 have u1:=WF.out.2.2.1
 have v1:=WF.out.2.2.2.1
 have u2:=WF.out.2.2.2.2.1
 have v2:=WF.out.2.2.2.2.2.1
 have kl:Hid (∀ w2:World,Calls Tryz.prog 122 #[.int .i64 u,.int .i64 v] w2 fun e w3=>∃ a b c d x y,e=.returned (.agg #[.int .i64 a,.int .i64 b,.int .i64 c,.int .i64 d])∧Lh u v (val xs) (val ys) a b c d x y∧Below w2.heap.size w2 w3):=by
  intro w2
  have hp:=abv m
  exact ajh w2 u v (val xs) (val ys) (p2 m) u1 v1 u2 v2 hY0 hle (by omega) WF.out.2.2.2.2.2.2.1 WF.out.2.2.2.2.2.2.2.1 WF.out.2.2.2.2.2.2.2.2.1 WF.out.2.2.2.2.2.2.2.2.2
 clear t1 hm' hu hv x3 y3
 go_wp2_with fail
 refine (kx.out _ sx).mono ?_
 rintro e w2 ⟨rfl,rfl⟩
 go_wp2_with fail
 refine (ky.out _ sy).mono ?_
 rintro e w2 ⟨rfl,rfl⟩
 go_wp2_with fail
 refine (kl.out _).mono ?_
 rintro e w3 ⟨a,b,c,d,x,y,rfl,hD,hb3⟩
 have D:=hide hD
 have hb4:Below w3.heap.size w3 (w3.alloc (.cells #[.int .i64 a,.int .i64 b,.int .i64 c,.int .i64 d] 142)):=(Below.refl _ _).alloc (Nat.le_refl _) _
 have HZ:Below w2.heap.size w2 (w3.alloc (.cells #[.int .i64 a,.int .i64 b,.int .i64 c,.int .i64 d] 142)):=ace hb3 hb4
 have FZ:Fac (w3.alloc (.cells #[.int .i64 a,.int .i64 b,.int .i64 c,.int .i64 d] 142)) w3.heap.size a b c d:=heap_alloc_new w3 _
 obtain ⟨w4,e4⟩:∃ w4,w3.alloc (.cells #[.int .i64 a,.int .i64 b,.int .i64 c,.int .i64 d] 142)=w4:=⟨_,rfl⟩
 rw [e4] at HZ FZ
 have E4:=hide e4
 clear e4 hD hb4
 have hx4:=hx.below HZ
 have hy4:=hy.below HZ
 by_cases hb:b=0
 ·subst hb
  have G:=hide (adf (val xs) (val ys) (val xs / val ys))
  have hpos:0<val ys:=by
   have h9:=aa8 hcy (by intro e;subst e;simp at h3)
   have:=aaj (ys.length - 1)
   omega
  have hmod:val xs - val xs / val ys*val ys=val xs % val ys:=by
   have:=Int.mul_ediv_add_emod (val xs) (val ys)
   rw [Int.mul_comm] at this
   omega
  rw [hmod] at G
  have M:=hide (And.intro (Int.emod_nonneg (val xs) (show val ys≠0 by omega)) (Int.emod_lt_of_pos (val xs) hpos))
  clear hmod
  go_wp2_with fail
  rw [E4.out]
  refine (ae9 _ _ _ _ _ _ _ xs ys hx4.sl hy4.sl (by omega) (by omega)).mono ?_
  rintro e w5 ⟨v1',v2',rfl,i1,i2,_,hb5⟩
  have R1:Hid (Is B w5 (.slice a2 ys.length c2) (val ys)):=⟨ys,hy4.below hb5,hcy,rfl⟩
  have R2:=hide (i2.mono (B' := B) (by have:=HZ.size;omega))
  have Z:=hide (ace HZ hb5)
  go_wp2
  go_ret2
  exact ⟨_,_,val ys,val xs % val ys,rfl,R1.out,R2.out,by have:=M.out;omega,M.out.2,hle,G.out,Z.out⟩
 ·have hbb:(b == 0)=false:=by simp [hb]
  obtain ⟨⟨fa,fb,fc,fd⟩,fe,ff,fg,fh⟩:=FZ.facts
  have VX:=(aab hx.sl.parts.2.2.2).2
  have sgn1:(0≤a∧b≤0)∨(a≤0∧0≤b):=by rcases D.out.sig with h | h <;> omega
  have sgn2:(0≤c∧d≤0)∨(c≤0∧0≤d):=by rcases D.out.sig with h | h <;> omega
  have SG1:=hide sgn1
  have SG2:=hide sgn2
  have P1:Hid (0≤a*val xs+b*val ys∧a*val xs+b*val ys<pw xs.length):=by have h1:=D.out.le;have h2:=D.out.nn;have h4:=D.out.top;show _∧_;omega
  have P2:Hid (0≤c*val xs+d*val ys∧c*val xs+d*val ys<pw xs.length):=by have h1:=D.out.le;have h2:=D.out.nn;have h4:=D.out.top;show _∧_;omega
  have HB0:=hide hb
  clear sgn1 sgn2 VX hb
  go_wp2
  rw [E4.out]
  go_region_held3 (fun w'=>w'.cell? ⟨w3.heap.size,0,none⟩ = some (.int .i64 a)∧w'.cell? ⟨w3.heap.size,1,none⟩ = some (.int .i64 b)∧w'.cell? ⟨w3.heap.size,2,none⟩ = some (.int .i64 c)∧w'.cell? ⟨w3.heap.size,3,none⟩ = some (.int .i64 d)) (go_keep) (first
   | (go_at_call 124;have _hq:=hb5';refine (agq _ _ _ _ _ _ _ xs ys ((hx4.below hb5').sl.below (by repeat (first | exact Below.refl _ _ | refine Below.drew ?_))) ((hy4.below hb5').sl.below (by repeat (first | exact Below.refl _ _ | refine Below.drew ?_))) (by omega) hlen c d D.out.bc D.out.bd SG2.out P2.out.1 P2.out.2).mono ?_;rintro e w6 ⟨v6,rfl,i6,hb6⟩;have hb6' : Below w5.heap.size w5 w6:=(show Below w5.heap.size w5 _ by repeat (first | exact Below.refl _ _ | refine Below.drew ?_)).trans hb6;have FZ6:=FZ5.below hb6';obtain ⟨⟨ha,hb,hc,hd⟩,he,hf,hg,hh⟩:=FZ6.facts)
   | (go_at_call 124;refine (agq _ _ _ _ _ _ _ xs ys (hx4.sl.below (by repeat (first | exact Below.refl _ _ | refine Below.drew ?_))) (hy4.sl.below (by repeat (first | exact Below.refl _ _ | refine Below.drew ?_))) (by omega) hlen a b D.out.ba D.out.bb SG1.out P1.out.1 P1.out.2).mono ?_;rintro e w5 ⟨v5,rfl,i5,hb5⟩;have hb5' : Below w4.heap.size w4 w5:=(show Below w4.heap.size w4 _ by repeat (first | exact Below.refl _ _ | refine Below.drew ?_)).trans hb5;have FZ5:=FZ.below hb5';obtain ⟨⟨ga,gb,gc,gd⟩,ge,gf,gg,gh⟩:=FZ5.facts))
  all_goals
   have R1:=hide ((i5.below hb6').mono (B' := B) (show B≤w4.heap.size by have:=HZ.size;omega))
   have R2:=hide (i6.mono (B' := B) (show B≤w5.heap.size by have:=HZ.size;have:=hb5'.size;omega))
   have Z:=hide (ace HZ (ace hb5' hb6'))
   clear fa fb fc fd fe ff fg fh ga gb gc gd ge gf gg gh ha hb hc hd he hf hg hh
   go_wp2
   go_ret2
   exact ⟨_,_,_,_,rfl,R1.out,R2.out,D.out.le,D.out.bz HB0.out,D.out.top,D.out.gcd,Z.out⟩
end Lm
end Go.Proofs.YtgmobkafnefpfaaGreat
namespace Go.Proofs.YtgmobkafnefpfaaGreat
namespace Lm
open Go.RowKit
theorem asm {rs:List Int} (h:¬ 2<rs.length):rs.getD 1 0*4294967296+rs.getD 0 0=val rs:=by
 match rs,h with
 | [],_=>rfl
 | [x],_=>simp [val]
 | [x,y],_=>simp [val];omega
 | _ :: _ :: _ :: _,h=>simp at h
theorem apq {a b:Int} (h:a=b):Ending.returned (.tuple #[.int .u64 a,.bool true])=.returned (.tuple #[.int .u64 b,.bool true]):=by rw [h]
theorem ad6 {rs:List Int} (h:Limb rs) (h2:rs.length≤2):0≤val rs∧val rs<18446744073709551616:=by
 have h1:=aab h
 have h3:=aa0 (m:=rs.length) (n:=2) (by omega)
 rw [show pw 2=18446744073709551616 from by decide] at h3
 omega
set_option maxRecDepth 20000 in
set_option maxHeartbeats 400000 in
theorem ad7 (w:World) (ao:Option Addr) (n cap:Nat) (xs:List Int) (hx:Sl w (.slice ao n cap) xs) (hs:xs.length≤2) :
  Calls Tryz.prog 113 #[.slice ao n cap] w fun e w'=>e=.returned (.tuple #[.int .u64 (val xs),.bool true])∧w' = w:=by
 obtain ⟨rfl,h1,h2,h3⟩:=hx.parts
 have t1:=aav xs
 have kc:=hide (aan w ao _ cap xs hx)
 have hcn:=aa3 h3
 have hX:(xs.take (tl xs)).length=tl xs:=by simp;omega
 have h2' : ¬ (2:Int)<((tl xs:Nat):Int):=by omega
 have E3:=hide (asm (rs:=xs.take (tl xs)) (by omega))
 rw [aai] at E3
 have b1:=aaf hcn.1 1
 have b0:=aaf hcn.1 0
 have k1:=ab3 w _ _ hx.cut 1
 have k0:=ab3 w _ _ hx.cut 0
 generalize (xs.take (tl xs)).getD 1 0=y1 at E3 b1 k1
 generalize (xs.take (tl xs)).getD 0 0=y0 at E3 b0 k0
 have K1:=hide k1
 have K0:=hide k0
 have hor:bits .or .u64 (y1*4294967296) y0=y1*4294967296+y0:=aea y1 y0 b1.1 b1.2 b0.1 b0.2
 clear hcn hX k1 k0
 go_enter Tryz.func113,Tryz.ntmps113
 go_wp2_with fail
 refine (kc.out).mono ?_
 rintro e w' ⟨rfl,rfl⟩
 go_wp2_with fail
 refine (K1.out).mono ?_
 rintro e w' ⟨rfl,rfl⟩
 go_wp2_with fail
 refine (K0.out).mono ?_
 rintro e w' ⟨rfl,rfl⟩
 go_wp2
 go_ret2
 exact ⟨apq E3.out,rfl⟩
theorem aif (m n:Int):Int.gcd n (m % n)=Int.gcd m n:=by
 have h1:=adf m n (m / n)
 have h2:=Int.mul_ediv_add_emod m n
 rw [Int.mul_comm] at h2
 rw [show m - m / n*n=m % n by omega] at h1
 exact h1
theorem auz {a b:Int} (h:a=b):Ending.returned (.int .u64 a)=.returned (.int .u64 b):=by rw [h]
set_option maxRecDepth 20000 in
set_option maxHeartbeats 400000 in
theorem afy (w:World) (m n:Int) (hm:0≤m∧m<18446744073709551616) (hn:0≤n∧n<18446744073709551616) :
  Calls Tryz.prog 114 #[.int .u64 m,.int .u64 n] w fun e w'=>e=.returned (.int .u64 (Int.gcd m n))∧Below w.heap.size w w' := by
 go_enter Tryz.func114,Tryz.ntmps114
 go_wp2
 go_loopw [0,1] (fun mv nv wr=>∃ a b:Int,mv=.int .u64 a∧nv=.int .u64 b∧(0≤a∧a<18446744073709551616)∧(0≤b∧b<18446744073709551616)∧Int.gcd a b=Int.gcd m n∧Below w.heap.size w wr) (fun _ nv _=>(intOf nv).toNat)
 case atStart=>exact ⟨m,n,rfl,rfl,hm,hn,rfl,Below.refl _ _⟩
 case round =>
  obtain ⟨a,b,rfl,rfl,ha,hb,hg,HB⟩:=hrel
  have HG:=hide hg
  clear hg
  by_cases h0:b=0
  ·subst h0
   have HF:Hid (a=(Int.gcd m n:Int)):=by
    show _ = _
    rw [←HG.out,Int.gcd_zero_right]
    omega
   go_wp2
   go_ret
   exact ⟨auz HF.out,HB⟩
  ·have hbb:(b != 0)=true:=by simp [h0]
   have t1:a.tmod b=a % b:=Int.tmod_eq_emod_of_nonneg ha.1
   have r0:=Int.emod_nonneg a h0
   have r1:=Int.emod_lt_of_pos a (show 0<b by omega)
   have HG' := hide ((aif a b).trans HG.out)
   go_wp2
   go_quiet (fail)
   go_wp2
   go_roundw
   case rel=>exact ⟨b,a % b,rfl,rfl,hb,by omega,HG'.out,below_drewN HB _⟩
   case measure=>simp [intOf];omega
theorem Is.ow {B:Nat} {w:World} {v:Value} {x:Int} (h:Is B w v x):∃ ao cap rs,v=.slice ao rs.length cap∧Ow B w (.slice ao rs.length cap) rs∧Canon rs∧val rs=x:=by
 obtain ⟨rs,ho,hc,hv⟩:=h
 obtain ⟨ao,cap,rfl,h1,h2,h3,h4⟩:=ho
 exact ⟨ao,cap,rs,rfl,⟨ao,cap,rfl,h1,h2,h3,h4⟩,hc,hv⟩
theorem akd (w:World) (ao:Option Addr) (n cap:Nat) (zs:List Int) (h:Sl w (.slice ao n cap) zs) (hz:zs.length≤1000000) :
  Calls Tryz.prog 91 #[.slice ao n cap] w fun e w'=>∃ ao cap rs,e=.returned (.slice ao rs.length cap)∧Ow w.heap.size w' (.slice ao rs.length cap) rs∧Canon rs∧val rs=val zs∧rs.length≤zs.length∧Below w.heap.size w w' := by
 refine (ae5 w ao n cap zs h hz).mono ?_
 rintro e w' ⟨v,rfl,ho,hb⟩
 obtain ⟨ao',cap',rs,rfl,h1,h2,h3⟩:=Is.ow (B:=w.heap.size) ⟨_,ho,aa3 h.parts.2.2.2,aai zs⟩
 exact ⟨ao',cap',rs,rfl,h1,h2,h3,aci h.parts.2.2.2 h2 (by omega),hb⟩
theorem al0 {w:World} {v:Value} {r s:List Int} (h1:Sl w v r) (h2:Sl w v s):r=s:=by
 obtain ⟨ao,cap,rfl,_,_,_,h4⟩:=h1
 obtain ⟨ao',cap',hv,_,_,_,g4⟩:=h2
 obtain ⟨rfl,hl,rfl⟩:=(Value.slice.injEq .. ▸ hv)
 apply List.ext_getElem hl
 intro i hi1 hi2
 rcases h4 with rfl | ⟨b,off,rfl,hc⟩
 ·simp at hi1
 rcases g4 with rfl | ⟨b',off',e,hc'⟩
 ·simp at hi2
 ·obtain ⟨rfl,rfl⟩:b=b'∧off=off' := by simpa using e
  have e1:=hc i hi1
  have e2:=hc' i hi2
  rw [e1] at e2
  simp only [Option.some.injEq,Value.int.injEq,true_and,List.getD_eq_getElem?_getD,List.getElem?_eq_getElem hi1,List.getElem?_eq_getElem hi2,Option.getD_some] at e2
  exact e2
open Classical in
noncomputable def worth (w:World) (v:Value):Nat:=if h:∃ r,Sl w v r then (val (Classical.choose h)).toNat else 0
theorem afb {w:World} {v:Value} {r:List Int} (h:Sl w v r):worth w v=(val r).toNat:=by
 have hex:∃ r,Sl w v r:=⟨r,h⟩
 unfold worth
 rw [dif_pos hex,al0 (Classical.choose_spec hex) h]
set_option maxRecDepth 20000 in
set_option maxHeartbeats 2000000 in
theorem au0 (w:World) (a1 a2:Option Addr) (n1 n2 c1 c2:Nat) (xs ys:List Int) (hx:Sl w (.slice a1 n1 c1) xs) (hy:Sl w (.slice a2 n2 c2) ys) (hm1:xs.length≤400000) (hm2:ys.length≤400000) :
  Calls Tryz.prog 100 #[.slice a1 n1 c1,.slice a2 n2 c2] w fun e w'=>∃ v,e=.returned v∧Is w.heap.size w' v (Int.gcd (val xs) (val ys))∧Below w.heap.size w w' := by
 go_enter Tryz.func100,Tryz.ntmps100
 go_wp2_with fail
 refine (akd _ _ _ _ xs hx (by omega)).mono ?_
 rintro e w1 ⟨p1,q1,r1,rfl,o1,k1,v1,l1,hb1⟩
 go_wp2_with fail
 refine (akd _ _ _ _ ys (hy.below hb1) (by omega)).mono ?_
 rintro e w2 ⟨p2,q2,r2,rfl,o2,k2,v2,l2,hb2⟩
 replace o1:=o1.below hb2
 replace o2:=o2.mono (B' := w.heap.size) hb1.size
 have HB2:=ace hb1 hb2
 have C1:=hide k1
 have C2:=hide k2
 have V1:=hide v1
 have V2:=hide v2
 clear k1 k2 v1 v2
 have hle:=fun (h:¬ val r1<val r2)=>show val r2≤val r1 by omega
 have g0:∀ {a b c d:Int},Int.gcd a b=Int.gcd c d→((Int.gcd a b:Nat):Int)=((Int.gcd c d:Nat):Int):=fun h=>by rw [h]
 have G1:Hid (Int.gcd (val r1) (val r2)=Int.gcd (val xs) (val ys)):=by rw [V1.out,V2.out];rfl
 have G2:Hid (Int.gcd (val r2) (val r1)=Int.gcd (val xs) (val ys)):=by show _ = _;rw [Int.gcd_comm];exact G1.out
 clear g0 hle
 by_cases hlt:val r1<val r2
 ·have k1:=hide (abe hlt)
  have HLT:=hide hlt
  clear hlt
  go_wp2_with fail
  refine (af9 _ _ _ _ _ _ _ r1 r2 o1.sl o2.sl).mono ?_
  rintro e w3 ⟨rfl,hb3⟩
  rw [k1.out]
  replace o1:=o1.below hb3
  replace o2:=o2.below hb3
  have HB3:=ace HB2 hb3
  go_wp2
  go_loopw [5,6] (fun xv yv wr=>∃ (p p' : Option Addr) (q q' : Nat) (r r' : List Int),xv=.slice p r.length q∧yv=.slice p' r'.length q'∧Ow w.heap.size wr (.slice p r.length q) r∧Canon r∧Ow w.heap.size wr (.slice p' r'.length q') r'∧Canon r'∧val r'≤val r∧r.length≤400000∧Int.gcd (val r) (val r')=Int.gcd (val xs) (val ys)∧Below w.heap.size w wr) (fun _ yv wr=>worth wr yv)
  case atStart=>exact ⟨p2,p1,q2,q1,r2,r1,rfl,rfl,o2,C2.out,o1,C1.out,by have:=HLT.out;omega,by omega,G2.out,HB3⟩
  case round =>
   obtain ⟨p,p',q,q',r,r',rfl,rfl,hr,hcr,hr',hcr',hle,hlr,hg,HB⟩:=hrel
   obtain ⟨_,z1,z2,z3⟩:=hr.sl.parts
   obtain ⟨_,y1,y2,y3⟩:=hr'.sl.parts
   have HCR:=hide hcr
   have HCR' := hide hcr'
   have HLE:=hide hle
   have HG:=hide hg
   have Z3:=hide z3
   have Y3:=hide y3
   have hrl:r'.length≤r.length:=aci z3 hcr' hle
   clear hcr hcr' hle hg z3 y3
   by_cases h2:2<r'.length
   ·have h2' : (2:Int)<(r'.length:Int):=by omega
    have ks:=hide (ahr wr w.heap.size HB.size p p' q q' r r' hr hr' HCR'.out hlr h2 HLE.out)
    have MW:=hide (afb hr'.sl)
    have V0:=hide (aab Y3.out).1
    go_wp2_with fail
    refine (ks.out).mono ?_
    rintro e w5 ⟨v5,v6,X',Y',rfl,i5,i6,hle5,hlt5,htop5,hg5,hb5⟩
    obtain ⟨p5,q5,r5,rfl,o5,c5,e5⟩:=i5.ow
    obtain ⟨p6,q6,r6,rfl,o6,c6,e6⟩:=i6.ow
    have MW5:=hide (afb o6.sl)
    have L5:Hid (r5.length≤400000):=by
     have h9:=aci Z3.out c5 (by rw [e5];exact htop5)
     show _≤_
     omega
    have R:=hide (And.intro e5 (And.intro e6 (And.intro hle5 (And.intro hlt5 hg5))))
    have C5:=hide c5
    have C6:=hide c6
    have Z5:=hide (HB.trans (hb5.mono HB.size))
    clear e5 e6 hle5 hlt5 htop5 hg5 c5 c6
    go_wp2
    go_roundw
    case rel=>exact ⟨p5,p6,q5,q6,r5,r6,rfl,rfl,o5,C5.out,o6,C6.out,by rw [R.out.1,R.out.2.1];exact R.out.2.2.1,L5.out,by rw [R.out.1,R.out.2.1,R.out.2.2.2.2];exact HG.out,Z5.out⟩
    case measure =>
     rw [MW.out,MW5.out,R.out.2.1]
     have h8:=(aab C6.out.1).1
     rw [R.out.2.1] at h8
     have h7:=R.out.2.2.2.1
     omega
   ·have h2' : ¬ (2:Int)<(r'.length:Int):=by omega
    by_cases h0:val r' = 0
    ·have kd:=hide (aep wr _ _ _ _ _ _ r r' hr.sl hr'.sl h0)
     have F:Hid (Is w.heap.size wr (.slice p r.length q) (Int.gcd (val xs) (val ys))):=by
      refine ⟨r,hr,HCR.out,?_⟩
      rw [←HG.out,h0,Int.gcd_zero_right]
      have:=(aab Z3.out).1
      omega
     go_wp2_with fail
     refine (kd.out).mono ?_
     rintro e w5 ⟨rfl,hb5⟩
     have F5:=hide (F.out.below hb5)
     have Z5:=hide (HB.trans (hb5.mono HB.size))
     go_wp2
     go_ret
     exact ⟨_,rfl,F5.out,Z5.out⟩
    ·have kd:=hide (aka wr _ _ _ _ _ _ r r' hr.sl hr'.sl (by omega) h0)
     have GM:=hide ((aif (val r) (val r')).trans HG.out)
     have sv:=ad6 Y3.out (by omega)
     go_wp2_with fail
     refine (kd.out).mono ?_
     rintro e w5 ⟨p5,q5,r5,p6,q6,r6,rfl,G5,G6,l5,l6,hb5⟩
     have hr5:=hr'.below hb5
     have sv6:=ad6 G6.canon.1 (by omega)
     have V6:=hide G6.val
     have Z5:=HB.trans (hb5.mono HB.size)
     go_wp2_with fail
     refine (ad7 _ _ _ _ r' hr5.sl (by omega)).mono ?_
     rintro e w6 ⟨rfl,rfl⟩
     go_wp2_with fail
     refine (ad7 _ _ _ _ r6 G6.sl (by omega)).mono ?_
     rintro e w6 ⟨rfl,rfl⟩
     go_wp2_with fail
     refine (afy _ (val r') (val r6) sv sv6).mono ?_
     rintro e w7 ⟨rfl,hb7⟩
     have E7:Hid (Int.gcd (val r') (val r6)=Int.gcd (val xs) (val ys)):=by rw [V6.out];exact GM.out
     rw [E7.out]
     have hgl:Hid (((Int.gcd (val xs) (val ys):Nat):Int)<18446744073709551616):=by
      have h9:Int.gcd (val r') (val r6)≤(val r').natAbs:=Int.gcd_le_natAbs_left _ (by omega)
      rw [E7.out] at h9
      show _<_
      omega
     have Z7:=Z5.trans (hb7.mono Z5.size)
     have hs0:(0:Int)≤((Int.gcd (val xs) (val ys):Nat):Int):=by omega
     obtain ⟨GG,hGG⟩:∃ G,((Int.gcd (val xs) (val ys):Nat):Int)=G:=⟨_,rfl⟩
     rw [hGG] at hgl hs0 ⊢
     have HGG:=hide hGG
     clear hGG
     go_wp2_with fail
     refine (ab2 _ GG hs0 hgl.out).mono ?_
     rintro e w8 ⟨v8,rfl,i8,hb8⟩
     have R8:=hide (i8.mono (B' := w.heap.size) Z7.size)
     have Z8:=hide (Z7.trans (hb8.mono Z7.size))
     go_wp2
     go_ret
     exact ⟨_,rfl,by rw [HGG.out];exact R8.out,Z8.out⟩
 ·have HK:Hid (∃ k,cmpI (val r1) (val r2)=k∧¬ k<0):=⟨_,rfl,fun h=>hlt (agy.1 h)⟩
  obtain ⟨k,hk,hk0⟩:=HK.out
  have k1:=hide hk
  have HLT:=hide hlt
  clear hlt hk HK
  go_wp2_with fail
  refine (af9 _ _ _ _ _ _ _ r1 r2 o1.sl o2.sl).mono ?_
  rintro e w3 ⟨rfl,hb3⟩
  rw [k1.out]
  replace o1:=o1.below hb3
  replace o2:=o2.below hb3
  have HB3:=ace HB2 hb3
  go_wp2
  go_loopw [5,6] (fun xv yv wr=>∃ (p p' : Option Addr) (q q' : Nat) (r r' : List Int),xv=.slice p r.length q∧yv=.slice p' r'.length q'∧Ow w.heap.size wr (.slice p r.length q) r∧Canon r∧Ow w.heap.size wr (.slice p' r'.length q') r'∧Canon r'∧val r'≤val r∧r.length≤400000∧Int.gcd (val r) (val r')=Int.gcd (val xs) (val ys)∧Below w.heap.size w wr) (fun _ yv wr=>worth wr yv)
  case atStart=>exact ⟨p1,p2,q1,q2,r1,r2,rfl,rfl,o1,C1.out,o2,C2.out,by have:=HLT.out;omega,by omega,G1.out,HB3⟩
  case round =>
   obtain ⟨p,p',q,q',r,r',rfl,rfl,hr,hcr,hr',hcr',hle,hlr,hg,HB⟩:=hrel
   obtain ⟨_,z1,z2,z3⟩:=hr.sl.parts
   obtain ⟨_,y1,y2,y3⟩:=hr'.sl.parts
   have HCR:=hide hcr
   have HCR' := hide hcr'
   have HLE:=hide hle
   have HG:=hide hg
   have Z3:=hide z3
   have Y3:=hide y3
   have hrl:r'.length≤r.length:=aci z3 hcr' hle
   clear hcr hcr' hle hg z3 y3
   by_cases h2:2<r'.length
   ·have h2' : (2:Int)<(r'.length:Int):=by omega
    have ks:=hide (ahr wr w.heap.size HB.size p p' q q' r r' hr hr' HCR'.out hlr h2 HLE.out)
    have MW:=hide (afb hr'.sl)
    have V0:=hide (aab Y3.out).1
    go_wp2_with fail
    refine (ks.out).mono ?_
    rintro e w5 ⟨v5,v6,X',Y',rfl,i5,i6,hle5,hlt5,htop5,hg5,hb5⟩
    obtain ⟨p5,q5,r5,rfl,o5,c5,e5⟩:=i5.ow
    obtain ⟨p6,q6,r6,rfl,o6,c6,e6⟩:=i6.ow
    have MW5:=hide (afb o6.sl)
    have L5:Hid (r5.length≤400000):=by
     have h9:=aci Z3.out c5 (by rw [e5];exact htop5)
     show _≤_
     omega
    have R:=hide (And.intro e5 (And.intro e6 (And.intro hle5 (And.intro hlt5 hg5))))
    have C5:=hide c5
    have C6:=hide c6
    have Z5:=hide (HB.trans (hb5.mono HB.size))
    clear e5 e6 hle5 hlt5 htop5 hg5 c5 c6
    go_wp2
    go_roundw
    case rel=>exact ⟨p5,p6,q5,q6,r5,r6,rfl,rfl,o5,C5.out,o6,C6.out,by rw [R.out.1,R.out.2.1];exact R.out.2.2.1,L5.out,by rw [R.out.1,R.out.2.1,R.out.2.2.2.2];exact HG.out,Z5.out⟩
    case measure =>
     rw [MW.out,MW5.out,R.out.2.1]
     have h8:=(aab C6.out.1).1
     rw [R.out.2.1] at h8
     have h7:=R.out.2.2.2.1
     omega
   ·have h2' : ¬ (2:Int)<(r'.length:Int):=by omega
    by_cases h0:val r' = 0
    ·have kd:=hide (aep wr _ _ _ _ _ _ r r' hr.sl hr'.sl h0)
     have F:Hid (Is w.heap.size wr (.slice p r.length q) (Int.gcd (val xs) (val ys))):=by
      refine ⟨r,hr,HCR.out,?_⟩
      rw [←HG.out,h0,Int.gcd_zero_right]
      have:=(aab Z3.out).1
      omega
     go_wp2_with fail
     refine (kd.out).mono ?_
     rintro e w5 ⟨rfl,hb5⟩
     have F5:=hide (F.out.below hb5)
     have Z5:=hide (HB.trans (hb5.mono HB.size))
     go_wp2
     go_ret
     exact ⟨_,rfl,F5.out,Z5.out⟩
    ·have kd:=hide (aka wr _ _ _ _ _ _ r r' hr.sl hr'.sl (by omega) h0)
     have GM:=hide ((aif (val r) (val r')).trans HG.out)
     have sv:=ad6 Y3.out (by omega)
     go_wp2_with fail
     refine (kd.out).mono ?_
     rintro e w5 ⟨p5,q5,r5,p6,q6,r6,rfl,G5,G6,l5,l6,hb5⟩
     have hr5:=hr'.below hb5
     have sv6:=ad6 G6.canon.1 (by omega)
     have V6:=hide G6.val
     have Z5:=HB.trans (hb5.mono HB.size)
     go_wp2_with fail
     refine (ad7 _ _ _ _ r' hr5.sl (by omega)).mono ?_
     rintro e w6 ⟨rfl,rfl⟩
     go_wp2_with fail
     refine (ad7 _ _ _ _ r6 G6.sl (by omega)).mono ?_
     rintro e w6 ⟨rfl,rfl⟩
     go_wp2_with fail
     refine (afy _ (val r') (val r6) sv sv6).mono ?_
     rintro e w7 ⟨rfl,hb7⟩
     have E7:Hid (Int.gcd (val r') (val r6)=Int.gcd (val xs) (val ys)):=by rw [V6.out];exact GM.out
     rw [E7.out]
     have hgl:Hid (((Int.gcd (val xs) (val ys):Nat):Int)<18446744073709551616):=by
      have h9:Int.gcd (val r') (val r6)≤(val r').natAbs:=Int.gcd_le_natAbs_left _ (by omega)
      rw [E7.out] at h9
      show _<_
      omega
     have Z7:=Z5.trans (hb7.mono Z5.size)
     have hs0:(0:Int)≤((Int.gcd (val xs) (val ys):Nat):Int):=by omega
     obtain ⟨GG,hGG⟩:∃ G,((Int.gcd (val xs) (val ys):Nat):Int)=G:=⟨_,rfl⟩
     rw [hGG] at hgl hs0 ⊢
     have HGG:=hide hGG
     clear hGG
     go_wp2_with fail
     refine (ab2 _ GG hs0 hgl.out).mono ?_
     rintro e w8 ⟨v8,rfl,i8,hb8⟩
     have R8:=hide (i8.mono (B' := w.heap.size) Z7.size)
     have Z8:=hide (Z7.trans (hb8.mono Z7.size))
     go_wp2
     go_ret
     exact ⟨_,rfl,by rw [HGG.out];exact R8.out,Z8.out⟩
end Lm
end Go.Proofs.YtgmobkafnefpfaaGreat
namespace Go.Proofs.YtgmobkafnefpfaaGreat
namespace Lm
open Go.RowKit
theorem axu (nx ny:Bool) (X Y:Int):Int.gcd (sg nx X) (sg ny Y)=Int.gcd X Y:=by
 cases nx <;> cases ny <;> simp [sg]
theorem apr {X Y:Int} (hX:0≤X) (hY:0≤Y):((Int.gcd X Y:Nat):Int)≤X+Y:=by
 by_cases h:X=0
 ·subst h
  rw [Int.gcd_zero_left]
  omega
 ·have h9:Int.gcd X Y≤X.natAbs:=Int.gcd_le_natAbs_left _ h
  omega
end Lm
end Go.Proofs.YtgmobkafnefpfaaGreat
namespace Go.Proofs.YtgmobkafnefpfaaGreat
namespace Lm
open Go Go.RowKit
section
end
def nm (p q:Int):Int:=Int.sign q*(p / (Int.gcd p q:Int))
def dn (p q:Int):Int:=Int.sign q*(q / (Int.gcd p q:Int))
theorem ad0 {p q:Int} (h:q≠0):(0:Int)<(Int.gcd p q:Int):=by
 have:=Int.gcd_pos_of_ne_zero_right p h
 omega
theorem Mono.of4 {p:Says} (h:Mono4 p):Mono p:=fun v w w' hb hp=>h v w w' (Rl.of_below hb) hp
def Fits2 (D:List Nat) (a:Act):Nat→List Value→List Value→Prop
 | _,[],[]=>True
 | i,x :: xs,y :: ys=>((x=y∧D.contains i=false)∨a.eval (.tmp i)=y)∧Fits2 D a (i+1) xs ys
 | _,_,_=>False
theorem Fits2.at {D:List Nat} {a:Act} : ∀ {xs ys:List Value} {i:Nat},Fits2 D a i xs ys→xs.length=ys.length∧∀ k x y,xs[k]? = some x→ys[k]? = some y→(x=y∧D.contains (i+k)=false)∨a.eval (.tmp (i+k))=y
 | [],[],_,_=>⟨rfl,fun k x y h=>by simp at h⟩
 | x :: xs,y :: ys,i,h=>by
  obtain ⟨h1,h2⟩:=h
  obtain ⟨hl,h3⟩:=Fits2.at h2
  refine ⟨by simp [hl],fun k u v hu hv=>?_⟩
  cases k with
  | zero =>
   simp only [List.getElem?_cons_zero,Option.some.injEq] at hu hv
   subst hu hv
   exact h1
  | succ k =>
   have:=h3 k u v (by simpa using hu) (by simpa using hv)
   have e:i+1+k=i+(k+1):=by omega
   rwa [e] at this
 | [],_ :: _,_,h=>h.elim
 | _ :: _,[],_,h=>h.elim
theorem aac {xs:List Value} {ds:List Deferred} {k:Nat} {x:Value} (h:xs[k]? = some x):(Act.mk xs.toArray ds).eval (.tmp k)=x:=by
 obtain ⟨hk,rfl⟩:=List.getElem?_eq_some_iff.1 h
 simp [Act.eval,hk]
theorem aml {D:List Nat} {a:Act} {xs ys:List Value} {ds:List Deferred} (hn:a.tmps.size=xs.length) (hd:a.defers=ds) (hR:Rest D ⟨xs.toArray,ds⟩ a) (h:Fits2 D a 0 xs ys):a=⟨ys.toArray,ds⟩:=by
 obtain ⟨hl,h2⟩:=h.at
 obtain ⟨tmps,defers⟩:=a
 simp only at hn hd
 subst hd
 congr 1
 refine Array.ext (by simp [hn,hl]) fun i h1 h3=>?_
 have hi:i<ys.length:=by simpa using h3
 obtain ⟨x,hx⟩:∃ x,xs[i]? = some x:=⟨_,List.getElem?_eq_getElem (by omega)⟩
 have hy:ys[i]? = some ys[i]:=List.getElem?_eq_getElem hi
 have key:(Act.mk tmps defers).eval (.tmp i)=ys[i]:=by
  rcases h2 i x _ hx hy with ⟨e,hc⟩ | e
  ·rw [Nat.zero_add] at hc
   rw [hR i hc,aac hx,e]
  ·rwa [Nat.zero_add] at e
 have:(Act.mk tmps defers).eval (.tmp i)=tmps[i]:=by simp [Act.eval,h1]
 rw [←this,key]
 simp
theorem au1 {P:Program} {ops:Array Oper} {Q:Exit→Act→World→Prop} {J K' R:Act→World→Prop} {id:Nat} {xs:List Value} {ds:List Deferred} {w:World} (Ds:List Nat) (Ps:List Says) (hK:∀ a' w',Met J a' w'→K' a' w') (hJ:∀ a' w',R a' w'→J a' w') (hm:P.follows .mixedOrders=true) (hnd:Ds.Nodup) (hlt:(Ds.all fun d=>decide (d<xs.length))=true)
  (hdep:(ops.toList.zipIdx.all fun p=>p.1.after.all fun e=>decide (e.on<p.2))=true) (hM:Monos Ps) (hD:Duties P xs.length Ds Ps ⟨xs.toArray,ds⟩ w ops.toList Ds Ps)
  (hend:∀ a' w',a'.tmps.size=xs.length→a'.defers=ds→Below w.heap.size w w'→Rest Ds ⟨xs.toArray,ds⟩ a'→(∀ j,j<Ds.length→Ps.getD j (fun _ _=>True) (a'.eval (.tmp (Ds.getD j 0))) w')→R a' w'):(Code.region id ops true).wp P (Exit.then K' Q) ⟨xs.toArray,ds⟩ w :=
 am7 Ds Ps hm (by simp) hnd hlt hdep hM hD fun a' w' h1 h2 h3 h4 h5=>hK _ _ (Met.intro (hJ _ _ (hend a' w' h1 h2 h3 h4 h5)))
section
variable {dst:Option Tmp} {ty:TypeId} {pos:String} {after:Array Edge} {guard:Option (Nat × Bool)} {a:Act} {w:World} {i j k:Nat}
theorem ahs {g:Nat} {ng:Bool} {ao:Option Addr} {n c:Nat} {p:Says} (hp:a.eval (.tmp k)=.pointer (some ⟨g,0,none⟩)) (hb:w.heap[g]? = some (.cells #[.bool ng,.slice ao n c] 27 (0,0))) (hv:p (.agg #[.bool ng,.slice ao n c]) w) :
  Does Tryz.prog { dst,op:=.load 27 (.tmp k),type:=ty,pos,after,guard } a.eval w fun v' w'=>Below w.heap.size w w'∧p v' w' :=
 aay (by rw [hp];exact ahl hb) ⟨Below.refl _ _,hv⟩
theorem adr {b off:Nat} {ng:Bool} {ao:Option Addr} {n c:Nat} {p:Says} (hp:a.eval (.tmp k)=.pointer (some ⟨b,off,none⟩)) (h0:w.cell? ⟨b,off,none⟩ = some (.bool ng)) (h1:w.cell? ⟨b,off+1,none⟩ = some (.slice ao n c)) (hv:p (.agg #[.bool ng,.slice ao n c]) w) :
  Does Tryz.prog { dst,op:=.load 27 (.tmp k),type:=ty,pos,after,guard } a.eval w fun v' w'=>Below w.heap.size w w'∧p v' w' := by
 refine aay (v:=.agg #[.bool ng,.slice ao n c]) ?_ ⟨Below.refl _ _,hv⟩
 rw [hp]
 go_simp
end
theorem Fits2.nil {D:List Nat} {a:Act} {i:Nat} : Fits2 D a i [] []:=trivial
theorem Fits2.same {D:List Nat} {a:Act} {i:Nat} {x:Value} {xs ys:List Value} (hc:D.contains i=false) (h:Fits2 D a (i+1) xs ys):Fits2 D a i (x :: xs) (x :: ys):=⟨.inl ⟨rfl,hc⟩,h⟩
theorem Fits2.new {D:List Nat} {a:Act} {i:Nat} {x u:Value} {xs ys:List Value} (hu:a.eval (.tmp i)=u) (h:Fits2 D a (i+1) xs ys):Fits2 D a i (x :: xs) (u :: ys):=⟨.inr hu,h⟩
theorem Fits2.s4 {D:List Nat} {a:Act} {i:Nat} {x1 x2 x3 x4:Value} {xs ys:List Value} (hc:(D.contains i || D.contains (i+1) || D.contains (i+2) || D.contains (i+3))=false) (h:Fits2 D a (i+4) xs ys):Fits2 D a i (x1 :: x2 :: x3 :: x4 :: xs) (x1 :: x2 :: x3 :: x4 :: ys):=by
 simp only [Bool.or_eq_false_iff] at hc
 exact .same hc.1.1.1 <| .same hc.1.1.2 <| .same hc.1.2 <| .same hc.2 h
theorem Fits2.s16 {D:List Nat} {a:Act} {i:Nat} {x1 x2 x3 x4 x5 x6 x7 x8 y1 y2 y3 y4 y5 y6 y7 y8:Value} {xs ys:List Value} (hc:((List.range 16).all fun k=>!D.contains (i+k))=true) (h:Fits2 D a (i+16) xs ys):Fits2 D a i (x1 :: x2 :: x3 :: x4 :: x5 :: x6 :: x7 :: x8 :: y1 :: y2 :: y3 :: y4 :: y5 :: y6 :: y7 :: y8 :: xs) (x1 :: x2 :: x3 :: x4 :: x5 :: x6 :: x7 :: x8 :: y1 :: y2 :: y3 :: y4 :: y5 :: y6 :: y7 :: y8 :: ys):=by
 have hk:∀ k,k<16→D.contains (i+k)=false:=fun k hk=>by simpa using List.all_eq_true.1 hc k (List.mem_range.2 hk)
 have g:∀ j,j+3<16→(D.contains (i+j) || D.contains (i+j+1) || D.contains (i+j+2) || D.contains (i+j+3))=false:=fun j hj=>by
  simp only [Bool.or_eq_false_iff]
  exact ⟨⟨⟨hk j (by omega),hk (j+1) (by omega)⟩,hk (j+2) (by omega)⟩,hk (j+3) (by omega)⟩
 exact .s4 (g 0 (by omega)) <| .s4 (g 4 (by omega)) <| .s4 (g 8 (by omega)) <| .s4 (g 12 (by omega)) h
theorem abn {P:Program} {ops:Array Oper} {Q:Exit→Act→World→Prop} {l:List Oper} {w:World} {D:List Nat} {a:Act} {xs ys:List Value} {ds:List Deferred} (hn:a.tmps.size=xs.length) (hd:a.defers=ds) (hR:Rest D ⟨xs.toArray,ds⟩ a) (h:Fits2 D a 0 xs ys) (k:wpList P ops Q l ⟨ys.toArray,ds⟩ w):wpList P ops Q l a w:=by
 rw [aml hn hd hR h]
 exact k
theorem ake {P:Program} {ops:Array Oper} {Q:Exit→Act→World→Prop} {n:Nat} {Ds:List Nat} {Ps:List Says} {a0:Act} {w0:World} {l:Array Bool} {a:Act} {w:World} {i:Nat} {o:Oper} (hat:∀ i o,ops[i]? = some o→i<Ds.length→Duty P n Ds Ps a0 w0 o (Ds.getD i 0) (Ps.getD i fun _ _=>True)) (hlo:Ds.length≤ops.size) (hnd:Ds.Nodup) (hlt:(Ds.all fun d=>decide (d<n))=true) (hM:Monos Ps) (ho:ops[i]? = some o) (hil:i<Ds.length) (h:Mid n Ds Ps a0 w0 l a w) (hdeps:∀ e ∈ o.after,Region.binds .any e=true→l.getD e.on false=true) :
  wpOp P ops Q i (fun a' w'=>Mid n Ds Ps a0 w0 (l.setIfInBounds i true) a' w') a w:=by
 have h' := h
 obtain ⟨h1,h2,h3,h4,h5,h6⟩:=h
 obtain ⟨hdst,hduty⟩:=hat i o ho hil
 have hduty:=hduty a w h2 h4 h5 (fun j hj=>by
  obtain ⟨e,he,hj⟩:=List.any_eq_true.1 hj
  simp only [Bool.and_eq_true,beq_iff_eq] at hj
  obtain ⟨rfl,hb⟩:=hj
  exact h6 _ (hdeps e (by simpa using he) hb))
 refine wpOp_step ho (fun K' hK=>?_)
 cases hg:o.guard with
 | none =>
  rw [hg] at hduty
  simp only [Region.wanted,hg,if_true]
  exact Does.wp hduty (fun v w' ⟨hb,hp⟩=>by rw [hdst];exact hK _ _ (h'.put hil hnd hlt hM hb hp))
 | some gb =>
  obtain ⟨g,b⟩:=gb
  rw [hg] at hduty
  simp only at hduty
  obtain ⟨hgl,hyes,hno⟩:=hduty
  obtain ⟨og,hog⟩:∃ og,ops[g]? = some og:=⟨_,Array.getElem?_eq_getElem (by omega)⟩
  have hgd:=(hat g og hog hgl).1
  have hgn:Ds.getD g 0<n:=by
   have:=List.all_eq_true.1 hlt (Ds.getD g 0) (by rw [List.getD_eq_getElem?_getD,List.getElem?_eq_getElem hgl];simp)
   simpa using this
  have hy:yielded ops a.tmps g=(match a.eval (.tmp (Ds.getD g 0)) with | .bool b=>some b | _=>none):=by
   unfold yielded
   rw [hog]
   simp only [Option.bind_some,hgd]
   have:a.tmps[Ds.getD g 0]? = some (a.eval (.tmp (Ds.getD g 0))):=by
    rw [Array.getElem?_eq_getElem (by omega)]
    simp only [Act.eval,Array.getD,h2,hgn,dif_pos]
    rfl
   rw [this]
   generalize a.eval (.tmp (Ds.getD g 0))=v
   cases v <;> rfl
  by_cases hv:a.eval (.tmp (Ds.getD g 0))=.bool b
  ·have hw:Region.wanted o (yielded ops a.tmps)=true:=by
    simp only [Region.wanted,hg]
    rw [hy,hv]
    simp
   rw [if_pos hw]
   exact Does.wp (hyes hv) (fun v w' ⟨hb,hp⟩=>by rw [hdst];exact hK _ _ (h'.put hil hnd hlt hM hb hp))
  ·have hw:¬ Region.wanted o (yielded ops a.tmps)=true:=by
    simp only [Region.wanted,hg]
    rw [hy]
    intro hc
    apply hv
    generalize a.eval (.tmp (Ds.getD g 0))=v at *
    cases v <;> simp at hc
    rw [hc]
   rw [if_neg hw,hdst]
   exact hK _ _ (h'.put hil hnd hlt hM (Below.refl _ _) (hno hv))
theorem Duties.take {P:Program} {n:Nat} {Ds:List Nat} {Ps:List Says} {a0:Act} {w0:World} {ops:Array Oper} {m:Nat} (h:Duties P n Ds Ps a0 w0 (ops.toList.take m) Ds Ps) (hm:m≤ops.size):Ds.length=m∧∀ i o,ops[i]? = some o→i<Ds.length→Duty P n Ds Ps a0 w0 o (Ds.getD i 0) (Ps.getD i fun _ _=>True):=by
 obtain ⟨hl,hat⟩:=h.at
 have hl' : Ds.length=m:=by rw [hl,List.length_take];simp;omega
 refine ⟨hl',fun i o ho hi=>hat i o ?_⟩
 rw [List.getElem?_take_of_lt (by omega),Array.getElem?_toList]
 exact ho
theorem aa5 {l:Array Bool} {m j:Nat} (h:j<m) (b:Bool):(l.extract 0 m).getD j b=l.getD j b:=by
 rw [Array.getD_eq_getD_getElem?,Array.getD_eq_getD_getElem?,Array.getElem?_extract]
 simp only [Nat.sub_zero,Nat.zero_add]
 by_cases hj:j<min m l.size
 ·rw [if_pos hj]
 ·rw [if_neg hj,Array.getElem?_eq_none (by omega)]
theorem aeq {l:Array Bool} {m i:Nat} : (l.setIfInBounds i true).extract 0 m=(l.extract 0 m).setIfInBounds i true:=by
 apply Array.ext_getElem?
 intro j
 simp only [Array.getElem?_extract,Array.getElem?_setIfInBounds,Array.size_setIfInBounds,Array.size_extract,Nat.sub_zero,Nat.zero_add]
 by_cases hj:j<min m l.size
 ·rw [if_pos hj,if_pos hj]
  by_cases e:i=j
  ·subst e
   rw [if_pos rfl,if_pos rfl,if_pos (by omega),if_pos hj]
  ·rw [if_neg e,if_neg e]
 ·rw [if_neg hj,if_neg hj]
  by_cases e:i=j
  ·subst e
   rw [if_pos rfl,if_neg hj]
  ·rw [if_neg e]
theorem acw {P:Program} {ops:Array Oper} {Q:Exit→Act→World→Prop} {id n:Nat} {a:Act} {w:World} (m:Nat) (Ds:List Nat) (Ps:List Says) (hm:P.follows .mixedOrders=true) (hn:a.tmps.size=n) (hnd:Ds.Nodup) (hlt:(Ds.all fun d=>decide (d<n))=true)
  (hdep:(ops.toList.zipIdx.all fun p=>p.1.after.all fun e=>decide (e.on<p.2))=true) (hms:m≤ops.size) (hall:(ops.toList.zipIdx.all fun p=>decide (p.2<m) || (List.range p.2).all fun j=>p.1.after.any fun e=>e.on == j && Region.binds .any e)=true) (hM:Monos Ps) (hD:Duties P n Ds Ps a w (ops.toList.take m) Ds Ps)
  (hend:∀ a' w',a'.tmps.size=n→a'.defers=a.defers→Below w.heap.size w w'→Rest Ds a a'→(∀ j,j<Ds.length→Ps.getD j (fun _ _=>True) (a'.eval (.tmp (Ds.getD j 0))) w')→wpList P ops Q (ops.toList.drop m) a' w'):(Code.region id ops true).wp P Q a w:=by
 obtain ⟨hlen,hat⟩:=hD.take hms
 have hL:∀ k,k≤ops.size→wpOps P ops Q (List.range' k (ops.size - k))=wpList P ops Q (ops.toList.drop k):=fun k hk=>by
  have:=wpOps_eq_wpList (P:=P) (ops:=ops) (Q:=Q) (ops.toList.drop k) k (fun j=>by rw [List.getElem?_drop,Array.getElem?_toList])
  rw [←this]
  simp
 have hneed:∀ i o,ops[i]? = some o→m≤i→∀ l:Array Bool,(∀ e ∈ o.after,Region.binds .any e=true→l.getD e.on false=true)→∀ j,j<i→l.getD j false=true:=by
  intro i o ho hi l hl j hj
  have h1:=List.all_eq_true.1 hall (o,i) (by rw [List.mem_zipIdx_iff_getElem?];simpa using ho)
  simp only [Bool.or_eq_true,decide_eq_true_eq] at h1
  rcases h1 with h1 | h1
  ·omega
  ·have h2:=List.all_eq_true.1 h1 j (List.mem_range.2 hj)
   rw [←Array.any_toList] at h2
   obtain ⟨e,he,h3⟩:=List.any_eq_true.1 h2
   replace he:=Array.mem_toList_iff.1 he
   simp only [Bool.and_eq_true,beq_iff_eq] at h3
   rw [←h3.1]
   exact hl e he h3.2
 refine ach hm (fun l a' w'=>l.size=ops.size∧(((∀ j,m≤j→l.getD j false=false)∧Mid n Ds Ps a w (l.extract 0 m) a' w')∨∃ j,m<j∧j≤ops.size∧(∀ k,k<j→l.getD k false=true)∧(∀ k,j≤k→l.getD k false=false)∧wpOps P ops Q (List.range' j (ops.size - j)) a' w')) ?_ ?_ ?_
 ·refine ⟨by simp,.inl ⟨fun j _=>?_,by simp [hlen];omega,hn,rfl,Below.drew (Below.refl _ _),fun _ _=>rfl,fun j hj=>?_⟩⟩
  ·simp [Array.getElem?_replicate]
   split <;> simp
  ·exfalso
   by_cases hjm:j<m
   ·rw [aa5 hjm] at hj
    simp [Array.getElem?_replicate] at hj
    split at hj <;> simp at hj
   ·rw [Array.getD_eq_getD_getElem?,Array.getElem?_eq_none (by simp;omega)] at hj
    simp at hj
 ·rintro l a' w' ⟨hs,hI⟩ hr
  have hal:=ad1 hdep hs hr
  rcases hI with ⟨h1,h2,h3,h4,h5,h6,h7⟩ | ⟨j,hj1,hj2,hj3,hj4,hj5⟩
  ·have hmo:m=ops.size:=by
    apply Classical.byContradiction
    intro hne
    have:=hal m (by omega)
    rw [h1 m (Nat.le_refl _)] at this
    cases this
   have:=hend a' w' h3 h4 h5 h6 (fun j hj=>h7 j (by rw [aa5 (by omega)];exact hal j (by omega)))
   rw [List.drop_eq_nil_of_le (by simp;omega)] at this
   exact this
  ·have hje:j=ops.size:=by
    apply Classical.byContradiction
    intro hne
    have:=hal j (by omega)
    rw [hj4 j (Nat.le_refl _)] at this
    cases this
   subst hje
   simpa [wpOps] using hj5
 ·rintro l a' w' ⟨hs,hI⟩ i hi
  obtain ⟨hun,o,ho,hdeps⟩:=mem_ready.1 hi
  have hio:i<ops.size:=(Array.getElem?_eq_some_iff.1 ho).1
  have hset:∀ k,k≠i→(l.setIfInBounds i true).getD k false=l.getD k false:=fun k hk=>getD_set_ne false (fun e=>hk e.symm)
  have hseti:(l.setIfInBounds i true).getD i false=true:=by
   rw [Array.getD_eq_getD_getElem?,Array.getElem?_setIfInBounds_self_of_lt (by omega)]
   rfl
  have hif:l.getD i false=false:=by
   rw [Array.getD_eq_getD_getElem?] at hun ⊢
   cases hc:l[i]? with
   | none=>rfl
   | some b=>rw [hc] at hun;simpa using hun
  have hrun:∀ j,j=i→wpOps P ops Q (List.range' j (ops.size - j)) a' w'→m≤j→(∀ k,k<j→l.getD k false=true)→(∀ k,j≤k→l.getD k false=false)→wpOp P ops Q i (fun a' w'=>(l.setIfInBounds i true).size=ops.size∧(((∀ j,m≤j→(l.setIfInBounds i true).getD j false=false)∧Mid n Ds Ps a w ((l.setIfInBounds i true).extract 0 m) a' w')∨∃ j,m<j∧j≤ops.size∧(∀ k,k<j→(l.setIfInBounds i true).getD k false=true)∧(∀ k,j≤k→(l.setIfInBounds i true).getD k false=false)∧wpOps P ops Q (List.range' j (ops.size - j)) a' w')) a' w' := by
   rintro j rfl hw hmj hlo hhi
   rw [show ops.size - j=(ops.size - (j+1))+1 by omega,List.range'_succ,wpOps_cons] at hw
   refine wpOp_mono (fun a2 w2 h=>⟨by simpa using hs,.inr ⟨j+1,by omega,by omega,fun k hk=>?_,fun k hk=>?_,h⟩⟩) hw
   ·by_cases e:k=j
    ·subst e;exact hseti
    ·rw [hset k e];exact hlo k (by omega)
   ·rw [hset k (by omega)];exact hhi k (by omega)
  rcases hI with ⟨h1,hmid⟩ | ⟨j,hj1,hj2,hj3,hj4,hj5⟩
  ·by_cases him:i<m
   ·have hd' : ∀ e ∈ o.after,Region.binds .any e=true→(l.extract 0 m).getD e.on false=true:=fun e he hb=>by
     have h2:=List.all_eq_true.1 hdep (o,i) (by rw [List.mem_zipIdx_iff_getElem?];simpa using ho)
     have h3:e.on<i:=by simpa using Array.all_eq_true_iff_forall_mem.1 h2 e he
     rw [aa5 (by omega)]
     exact hdeps e he hb
    refine wpOp_mono (fun a2 w2 h=>⟨by simpa using hs,.inl ⟨fun k hk=>?_,?_⟩⟩) (ake hat (by omega) hnd hlt hM ho (by omega) hmid hd')
    ·rw [hset k (by omega)]
     exact h1 k hk
    ·rw [aeq]
     exact h
   ·have hpre:=hneed i o ho (by omega) l hdeps
    have hie:i=m:=by
     apply Classical.byContradiction
     intro hne
     have:=hpre m (by omega)
     rw [h1 m (Nat.le_refl _)] at this
     cases this
    subst hie
    obtain ⟨h2,h3,h4,h5,h6,h7⟩:=hmid
    have hw:=hend a' w' h3 h4 h5 h6 (fun j hj=>h7 j (by rw [aa5 (by omega)];exact hpre j (by omega)))
    rw [←hL _ hms] at hw
    exact hrun i rfl hw (Nat.le_refl _) hpre h1
  ·have hij:i=j:=by
    apply Classical.byContradiction
    intro hne
    by_cases hlt' : i<j
    ·rw [hj3 i hlt'] at hif
     cases hif
    ·have:=hneed i o ho (by omega) l hdeps j (by omega)
     rw [hj4 j (Nat.le_refl _)] at this
     cases this
   exact hrun j hij.symm hj5 (by omega) hj3 hj4
section
end
theorem afc {P:Program} {dst:Option Tmp} {ty:TypeId} {pos:String} {after:Array Edge} {guard:Option (Nat × Bool)} {a:Act} {w:World} {R:Value→World→Prop} {t:TypeId} {v:Value} {w' : World} (hb:(Instr.alloc t true (.tuple #[])).run P w=.ok v w') (h:R v w'):Does P { dst,op:=.alloc t,type:=ty,pos,after,guard } a.eval w R:=by
 refine ⟨?_⟩
 unfold Turns
 simp only [execOp]
 simp [hb,h]
def NewW (n:Nat):Says:=fun v w=>∃ g,n≤g∧v=.pointer (some ⟨g,0,none⟩)∧w.heap[g]? = some (.cells #[.bool false,.slice none 0 0] 27 (0,0))
theorem NewW.mono (n:Nat):Mono (NewW n):=fun _ _ _ hb ⟨g,h1,h2,h3⟩=>⟨g,h1,h2,(hb.block _ (aaa h3)).trans h3⟩
theorem amm {dst:Option Tmp} {ty:TypeId} {pos:String} {after:Array Edge} {guard:Option (Nat × Bool)} {a:Act} {w:World} {n:Nat} (hn:n≤w.heap.size) :
  Does Tryz.prog { dst,op:=.alloc 27,type:=ty,pos,after,guard } a.eval w fun v w'=>Below w.heap.size w w'∧NewW n v w' := by
 obtain ⟨cs,⟨ng,ao,k,c,e,rfl⟩,hr⟩:=W2ok.alloc w
 cases e
 exact afc hr ⟨hAl _ _,_,hn,rfl,heap_alloc_new _ _⟩
end Lm
end Go.Proofs.YtgmobkafnefpfaaGreat
namespace Go.Proofs.YtgmobkafnefpfaaGreat
namespace Lm
open Go.RowKit
theorem ann {w:World} {B e n:Nat} {v:Value} {xs:List Value} (h:w.ownsRow B e 1 v n xs):∃ a c,v=.slice a n c∧n≤c∧c≤9223372036854775807:=by
 rcases h.2 with ⟨rfl,rfl⟩ | ⟨g,cap,cur,rfl,_,_,h1,h2,_⟩
 ·exact ⟨none,0,rfl,Nat.le_refl _,by omega⟩
 ·exact ⟨_,cap,rfl,h1,h2⟩
structure Fr (B T:Nat) (w:World) (ao:Option Addr) (cap:Nat) (rs:List Int) (x:Int):Prop where
 ow:Ow B w (.slice ao rs.length cap) rs
 canon:Canon rs
 val:val rs=x
 lies:0<cap→∀ g off,ao=some ⟨g,off,none⟩→B≤g∧g<T
theorem Is.fr {B:Nat} {w:World} {v:Value} {x:Int} (h:Is B w v x):∃ ao cap rs,v=.slice ao rs.length cap∧Fr B w.heap.size w ao cap rs x:=by
 obtain ⟨rs,ho,hc,hv⟩:=h
 obtain ⟨ao,cap,rfl,h1,h2,h3,h4⟩:=ho
 refine ⟨ao,cap,rs,rfl,⟨ao,cap,rfl,h1,h2,h3,h4⟩,hc,hv,?_⟩
 intro h0 g off e
 rcases h4 with h4 | ⟨g',off',cur,e',hB,hh,_⟩
 ·omega
 ·rw [e'] at e
  simp only [Option.some.injEq,Addr.mk.injEq,and_true] at e
  have:=aaa hh
  omega
theorem Fr.got {B T:Nat} {w:World} {ao:Option Addr} {cap:Nat} {rs:List Int} {x:Int} (h:Fr B T w ao cap rs x):Got w ao cap rs x:=⟨h.ow.sl,h.canon,h.val⟩
theorem Fr.kept {B T:Nat} {w w' : World} {ao:Option Addr} {cap:Nat} {rs:List Int} {x:Int} (h:Fr B T w ao cap rs x) (hk:∀ g,g<w.heap.size→B≤g→g<T→w'.heap[g]? = w.heap[g]?):Fr B T w' ao cap rs x:=by
 obtain ⟨ho,hc,hv,hl⟩:=h
 refine ⟨?_,hc,hv,hl⟩
 obtain ⟨ao',cap',hv',h1,h2,h3,h4⟩:=ho
 obtain ⟨rfl,_,rfl⟩:=(Value.slice.injEq .. ▸ hv')
 refine ⟨ao,cap,rfl,h1,h2,h3,?_⟩
 rcases h4 with h4 | ⟨g,off,cur,rfl,hB,hh,r⟩
 ·exact .inl h4
 ·by_cases h0:0<cap
  ·have:=hl h0 g off rfl
   exact .inr ⟨g,off,cur,rfl,hB,(hk g (aaa hh) this.1 this.2).trans hh,r⟩
  ·exact .inl (by omega)
end Lm
end Go.Proofs.YtgmobkafnefpfaaGreat
namespace Go.Proofs.YtgmobkafnefpfaaGreat
namespace Lm
open Go.RowKit
theorem Is.tight {B:Nat} {w:World} {v:Value} {x:Int} (h:Is B w v x) (hB:B≤w.heap.size):∃ ao cap rs B1 T1,v=.slice ao rs.length cap∧Fr B1 T1 w ao cap rs x∧B≤B1∧T1≤w.heap.size∧((cap=0∧T1=B1)∨(0<cap∧T1=B1+1∧∃ off,ao=some ⟨B1,off,none⟩)):=by
 obtain ⟨rs,ho,hc,hv⟩:=h
 obtain ⟨ao,cap,rfl,h1,h2,h3,h4⟩:=ho
 by_cases h0:cap=0
 ·exact ⟨ao,cap,rs,B,B,rfl,⟨⟨ao,cap,rfl,h1,h2,h3,.inl h0⟩,hc,hv,fun h=>by omega⟩,Nat.le_refl _,hB,.inl ⟨h0,rfl⟩⟩
 ·rcases h4 with h4 | ⟨g,off,cur,rfl,hg,hh,hs,ha⟩
  ·exact absurd h4 h0
  ·refine ⟨_,cap,rs,g,g+1,rfl,⟨⟨_,cap,rfl,h1,h2,h3,.inr ⟨g,off,cur,rfl,Nat.le_refl _,hh,hs,ha⟩⟩,hc,hv,fun _ g' off' e=>?_⟩,hg,aaa hh,.inr ⟨by omega,rfl,off,rfl⟩⟩
   simp only [Option.some.injEq,Addr.mk.injEq] at e
   omega
theorem Is.two {B:Nat} {w:World} {v1 v2:Value} {x1 x2:Int} (h1:Is B w v1 x1) (h2:Is B w v2 x2) (hs:Sep v1 v2) (hB:B≤w.heap.size):∃ ao cap rs bo dap ss B1 T1 B2 T2,v1=.slice ao rs.length cap∧v2=.slice bo ss.length dap∧Fr B1 T1 w ao cap rs x1∧Fr B2 T2 w bo dap ss x2∧B≤B1∧T1≤w.heap.size∧B≤B2∧T2≤w.heap.size∧(∀ j,B1≤j→j<T1→j<B2∨T2≤j):=by
 obtain ⟨ao,cap,rs,B1,T1,rfl,f1,b1,t1,c1⟩:=h1.tight hB
 obtain ⟨bo,dap,ss,B2,T2,rfl,f2,b2,t2,c2⟩:=h2.tight hB
 refine ⟨ao,cap,rs,bo,dap,ss,B1,T1,B2,T2,rfl,rfl,f1,f2,b1,t1,b2,t2,fun j hj1 hj2=>?_⟩
 rcases c1 with ⟨_,c1⟩ | ⟨p1,c1,off1,rfl⟩
 ·omega
 ·rcases c2 with ⟨_,c2⟩ | ⟨p2,c2,off2,rfl⟩
  ·omega
  ·have:=hs _ _ _ _ _ _ rfl rfl
   simp only at this
   omega
structure Li (B T:Nat) (w:World) (ao:Option Addr) (cap:Nat) (rs:List Int):Prop where
 ow:Ow B w (.slice ao rs.length cap) rs
 lies:0<cap→∀ g off,ao=some ⟨g,off,none⟩→B≤g∧g<T
theorem Fr.li {B T:Nat} {w:World} {ao:Option Addr} {cap:Nat} {rs:List Int} {x:Int} (h:Fr B T w ao cap rs x):Li B T w ao cap rs:=⟨h.ow,h.lies⟩
theorem Li.fr {B T:Nat} {w:World} {ao:Option Addr} {cap:Nat} {rs:List Int} {x:Int} (h:Li B T w ao cap rs) (hg:Got w ao cap rs x):Fr B T w ao cap rs x:=⟨h.ow,hg.canon,hg.val,h.lies⟩
theorem Li.kept {B T:Nat} {w w' : World} {ao:Option Addr} {cap:Nat} {rs:List Int} (h:Li B T w ao cap rs) (hk:∀ g,g<w.heap.size→B≤g→g<T→w'.heap[g]? = w.heap[g]?):Li B T w' ao cap rs:=by
 obtain ⟨ho,hl⟩:=h
 refine ⟨?_,hl⟩
 obtain ⟨ao',cap',hv',h1,h2,h3,h4⟩:=ho
 obtain ⟨rfl,_,rfl⟩:=(Value.slice.injEq .. ▸ hv')
 refine ⟨ao,cap,rfl,h1,h2,h3,?_⟩
 rcases h4 with h4 | ⟨g,off,cur,rfl,hB,hh,r⟩
 ·exact .inl h4
 ·by_cases h0:0<cap
  ·have:=hl h0 g off rfl
   exact .inr ⟨g,off,cur,rfl,hB,(hk g (aaa hh) this.1 this.2).trans hh,r⟩
  ·exact .inl (by omega)
theorem Li.below {B T:Nat} {w w' : World} {ao:Option Addr} {cap:Nat} {rs:List Int} (h:Li B T w ao cap rs) (hb:Below w.heap.size w w'):Li B T w' ao cap rs:=h.kept fun g hg _ _=>hb.block g hg
theorem Li.set2 {B T:Nat} {w:World} {ao:Option Addr} {cap:Nat} {rs:List Int} (h:Li B T w ao cap rs) (k:Nat) (hk:k<B∨T≤k) (b u:Value):Li B T ((w.setCell ⟨k,0,none⟩ b).setCell ⟨k,1,none⟩ u) ao cap rs :=
 h.kept fun g _ h1 h2=>by
  have hne:g≠k:=by omega
  rw [heap_setCell_other _ ⟨k,1,none⟩ g _ hne,heap_setCell_other _ ⟨k,0,none⟩ g _ hne]
theorem ag3 (w:World) (a1 a2:Option Addr) (n1 n2 c1 c2:Nat) (xs ys:List Int) (hx:Sl w (.slice a1 n1 c1) xs) (hy:Sl w (.slice a2 n2 c2) ys) (hm1:xs.length≤500000) (h0:val ys≠0) :
  Calls Tryz.prog 101 #[.slice a1 n1 c1,.slice a2 n2 c2] w fun e w'=>∃ ao cap rs bo dap ss B1 T1 B2 T2,e=.returned (.tuple #[.slice ao rs.length cap,.slice bo ss.length dap,.bool true])∧Got w' ao cap rs (val xs / val ys)∧Got w' bo dap ss (val xs % val ys)∧rs.length≤xs.length∧ss.length≤ys.length∧Li B1 T1 w' ao cap rs∧Li B2 T2 w' bo dap ss∧(w.heap.size≤B1∧T1≤w'.heap.size∧w.heap.size≤B2∧T2≤w'.heap.size∧∀ j,B1≤j→j<T1→j<B2∨T2≤j)∧Below w.heap.size w w' := by
 refine (ae9 w a1 a2 n1 n2 c1 c2 xs ys hx hy hm1 h0).mono ?_
 rintro e w' ⟨v1,v2,rfl,hi1,hi2,hsep,hb⟩
 obtain ⟨ao,cap,rs,bo,dap,ss,B1,T1,B2,T2,rfl,rfl,f1,f2,x1,x2,x3,x4,x5⟩:=hi1.two hi2 hsep hb.size
 have lx:=hx.parts.2.2.2
 have ly:=hy.parts.2.2.2
 have bx:=aab lx
 have bY:=aab ly
 refine ⟨ao,cap,rs,bo,dap,ss,B1,T1,B2,T2,rfl,f1.got,f2.got,aci lx f1.canon (by rw [f1.val];exact Int.ediv_le_self _ bx.1),aci ly f2.canon (by rw [f2.val];exact Int.le_of_lt (Int.emod_lt_of_pos _ (by omega))),f1.li,f2.li,⟨x1,x2,x3,x4,x5⟩,hb⟩
theorem at5 (w:World) (a1 a2:Option Addr) (n1 n2 c1 c2:Nat) (xs ys:List Int) (hx:Sl w (.slice a1 n1 c1) xs) (hy:Sl w (.slice a2 n2 c2) ys) (hm1:xs.length≤1000000) (hm2:ys.length≤1000000) :
  Calls Tryz.prog 102 #[.slice a1 n1 c1,.slice a2 n2 c2] w fun e w'=>∃ ao cap rs,e=.returned (.slice ao rs.length cap)∧Got w' ao cap rs (val xs+val ys)∧rs.length≤xs.length+ys.length+1∧Li w.heap.size w'.heap.size w' ao cap rs∧Below w.heap.size w w' := by
 refine (aua w a1 a2 n1 n2 c1 c2 xs ys hx hy hm1 hm2).mono ?_
 rintro e w' ⟨v,rfl,hi,hb⟩
 obtain ⟨ao,cap,rs,rfl,f⟩:=hi.fr
 exact ⟨ao,cap,rs,rfl,f.got,auj hx.parts.2.2.2 hy.parts.2.2.2 f.canon f.val,f.li,hb⟩
theorem ano (w:World) (a1 a2:Option Addr) (n1 n2 c1 c2:Nat) (xs ys:List Int) (hx:Sl w (.slice a1 n1 c1) xs) (hy:Sl w (.slice a2 n2 c2) ys) (hm1:xs.length≤1000000) (hge:val ys≤val xs) :
  Calls Tryz.prog 103 #[.slice a1 n1 c1,.slice a2 n2 c2] w fun e w'=>∃ ao cap rs,e=.returned (.tuple #[.slice ao rs.length cap,.bool true])∧Got w' ao cap rs (val xs - val ys)∧rs.length≤xs.length∧Li w.heap.size w'.heap.size w' ao cap rs∧Below w.heap.size w w' := by
 refine (auc w a1 a2 n1 n2 c1 c2 xs ys hx hy hm1 hge).mono ?_
 rintro e w' ⟨v,rfl,hi,hb⟩
 obtain ⟨ao,cap,rs,rfl,f⟩:=hi.fr
 have:=(aab hy.parts.2.2.2).1
 exact ⟨ao,cap,rs,rfl,f.got,aci hx.parts.2.2.2 f.canon (by rw [f.val];omega),f.li,hb⟩
end Lm
end Go.Proofs.YtgmobkafnefpfaaGreat
namespace Go.Proofs.YtgmobkafnefpfaaGreat
namespace Lm
open Go.RowKit
theorem axv (w:World) (ao:Option Addr) (n cap:Nat) (zs:List Int) (h:Sl w (.slice ao n cap) zs) (hz:zs.length≤1000000) :
  Calls Tryz.prog 91 #[.slice ao n cap] w fun e w'=>∃ ao cap rs,e=.returned (.slice ao rs.length cap)∧Got w' ao cap rs (val zs)∧rs.length≤zs.length∧Li w.heap.size w'.heap.size w' ao cap rs∧Below w.heap.size w w' := by
 refine (ae5 w ao n cap zs h hz).mono ?_
 rintro e w' ⟨v,rfl,ho,hb⟩
 have hc:=aa3 h.parts.2.2.2
 obtain ⟨ao',cap',rs,rfl,f⟩:=(show Is w.heap.size w' v (val zs) from ⟨_,ho,hc,aai zs⟩).fr
 refine ⟨ao',cap',rs,rfl,f.got,?_,f.li,hb⟩
 exact aci h.parts.2.2.2 f.canon (by rw [f.val];exact Int.le_refl _)
theorem ayq (w:World) (a1 a2:Option Addr) (n1 n2 c1 c2:Nat) (xs ys:List Int) (hx:Sl w (.slice a1 n1 c1) xs) (hy:Sl w (.slice a2 n2 c2) ys) (hm1:xs.length≤500000) (hm2:ys.length≤500000) :
  Calls Tryz.prog 87 #[.slice a1 n1 c1,.slice a2 n2 c2] w fun e w'=>∃ ao cap rs,e=.returned (.slice ao rs.length cap)∧Got w' ao cap rs (val xs*val ys)∧rs.length≤xs.length+ys.length∧Li w.heap.size w'.heap.size w' ao cap rs∧Below w.heap.size w w' := by
 refine (aui w a1 a2 n1 n2 c1 c2 xs ys hx hy hm1 hm2).mono ?_
 rintro e w' ⟨v,rfl,hi,hb⟩
 obtain ⟨ao,cap,rs,rfl,f⟩:=hi.fr
 exact ⟨ao,cap,rs,rfl,f.got,auk hx.parts.2.2.2 hy.parts.2.2.2 f.canon f.val,f.li,hb⟩
set_option maxRecDepth 20000 in
set_option maxHeartbeats 400000 in
theorem axw (w:World) (ng:Bool) (ao:Option Addr) (n cap:Nat) (zs:List Int) (h:Sl w (.slice ao n cap) zs) (hz:zs.length≤1000000) :
  Calls Tryz.prog 67 #[.agg #[.bool ng,.slice ao n cap]] w fun e w'=>∃ ng' ao cap rs,e=.returned (.agg #[.bool ng',.slice ao rs.length cap])∧Wh w' ng' ao cap rs (-sg ng (val zs))∧rs.length≤zs.length∧Li w.heap.size w'.heap.size w' ao cap rs∧Below w.heap.size w w' := by
 obtain ⟨w0,e0,bx,br,hb0,hs0⟩:=acc w ng (.slice ao n cap)
 have E0:=hide e0
 have h0:=h.below hb0
 have HS0:=hide hs0
 clear e0 hs0
 go_enter Tryz.func67,Tryz.ntmps67
 go_wp2_with fail
 rw [E0.out]
 obtain ⟨c0,c1,f0,f1⟩:=bx.facts
 obtain ⟨d0,d1,g0,g1⟩:=br.facts
 go_region_held3 (fun w'=>w'.cell? ⟨w.heap.size,0,none⟩ = some (.bool ng)∧w'.cell? ⟨w.heap.size,1,none⟩ = some (.slice ao n cap)) (go_keep) (first
  | (go_at_call 91;refine (axv _ _ _ _ zs (h0.below (by repeat (first | exact Below.refl _ _ | refine Below.drew ?_))) hz).mono ?_;rintro e w1 ⟨p1,q1,r1,rfl,G1,l1,o1,hb1⟩;have hb1' : Below w0.heap.size w0 w1:=(show Below w0.heap.size w0 _ by repeat (first | exact Below.refl _ _ | refine Below.drew ?_)).trans hb1;have bx1:=bx.below hb1';obtain ⟨bx1a,bx1b,bx1c,bx1d⟩:=bx1.facts;have br1:=br.below hb1';obtain ⟨br1a,br1b,br1c,br1d⟩:=br1.facts)
  | (go_at_call 58;refine (abr _ _ _ _ r1 _ (G1.below (by repeat (first | exact Below.refl _ _ | refine Below.drew ?_))) (by omega)).mono ?_;rintro e w2 ⟨ng2,rfl,G2,hb2⟩;have hb2' : Below w1.heap.size w1 w2:=(show Below w1.heap.size w1 _ by repeat (first | exact Below.refl _ _ | refine Below.drew ?_)).trans hb2;have bx2:=bx1.below hb2';obtain ⟨bx2a,bx2b,bx2c,bx2d⟩:=bx2.facts;have br2:=br1.below hb2';obtain ⟨br2a,br2b,br2c,br2d⟩:=br2.facts))
 all_goals
  have X:=hide (br2.set ng2 (.slice p1 r1.length q1)).facts
  have Y:=hide (br2.wh ng2 (.slice p1 r1.length q1) G2)
  have Z:=hide (aad (hb0.trans ((hb1'.trans (hb2'.mono hb1'.size)).mono hb0.size)) (Nat.le_succ _) (.bool ng2) (.slice p1 r1.length q1))
  clear bx2a bx2b bx2c bx2d br2a br2b br2c br2d bx1a bx1b bx1c bx1d br1a br1b br1c br1d c0 c1 f0 f1 d0 d1 g0 g1
  have hs9:=HS0.out
  have o1:Li w0.heap.size w1.heap.size w1 p1 q1 r1:=o1
  have s_1:=hb1'.size
  have s_2:=hb2'.size
  have O1:=hide ((o1.below hb2').set2 (w.heap.size+1) (by omega) (.bool ng2) (.slice p1 r1.length q1))
  have O2:=hide (show Li w.heap.size _ _ p1 q1 r1 from ⟨O1.out.ow.mono (by omega),fun h0 g off e=>by have:=O1.out.lies h0 g off e;exact ⟨by omega,Nat.lt_of_lt_of_le this.2 (show w1.heap.size≤((w2.setCell ⟨w.heap.size+1,0,none⟩ (.bool ng2)).setCell ⟨w.heap.size+1,1,none⟩ (.slice p1 r1.length q1)).heap.size by simp [World.setCell];exact s_2)⟩⟩)
  clear O1
  go_wp2
  refine bodyPost_ret (v:=.agg #[.bool ng2,.slice p1 r1.length q1]) ?_ rfl ⟨ng2,p1,q1,r1,rfl,by rw [←ahj];exact Y.out,l1,O2.out,Z.out⟩
  simp [results,Tryz.results67,go_sem,X.out.1,X.out.2.1]
set_option maxRecDepth 20000 in
set_option maxHeartbeats 1000000 in
theorem anp (w:World) (nx:Bool) (a1:Option Addr) (n1 c1:Nat) (xs:List Int) (hx:Sl w (.slice a1 n1 c1) xs) (a2:Option Addr) (n2 c2:Nat) (ys:List Int) (hy:Sl w (.slice a2 n2 c2) ys) (hm1:xs.length≤400000) (hm2:ys.length≤400000) :
  Calls Tryz.prog 88 #[.agg #[.bool nx,.slice a1 n1 c1],.bool nx,.slice a2 n2 c2] w fun e w'=>∃ ng' ao cap rs,e=.returned (.agg #[.bool ng',.slice ao rs.length cap])∧Wh w' ng' ao cap rs (sg nx (val xs)+sg nx (val ys))∧rs.length≤xs.length+ys.length+1∧Li w.heap.size w'.heap.size w' ao cap rs∧Below w.heap.size w w' := by
 obtain ⟨w0,e0,bx,br,hb0,hs0⟩:=acc w nx (.slice a1 n1 c1)
 have E0:=hide e0
 have hx0:=hx.below hb0
 have hy0:=hy.below hb0
 have HS0:=hide hs0
 clear e0 hs0
 go_enter Tryz.func88,Tryz.ntmps88
 go_wp2_with fail
 rw [E0.out]
 obtain ⟨ca,cb,cc,cd⟩:=bx.facts
 obtain ⟨da,db,dc,dd⟩:=br.facts
 refine (at5 _ _ _ _ _ _ _ xs ys hx0 hy0 (by omega) (by omega)).mono ?_
 rintro e w1 ⟨p1,q1,r1,rfl,G1,l1,o1,hb1⟩
 go_wp2_with fail
 refine (abr _ _ _ _ r1 _ G1 (by omega)).mono ?_
 rintro e w2 ⟨ng2,rfl,G2,hb2⟩
 have br2:=(br.below hb1).below hb2
 obtain ⟨ka,kb,kc,kd⟩:=br2.facts
 have X:=hide (br2.set ng2 (.slice p1 r1.length q1)).facts
 have Y:=hide (br2.wh ng2 (.slice p1 r1.length q1) G2)
 have Z:=hide (aad (hb0.trans ((hb1.trans (hb2.mono hb1.size)).mono hb0.size)) (Nat.le_succ _) (.bool ng2) (.slice p1 r1.length q1))
 skip
 have hs9:=HS0.out
 have s_1:=hb1.size
 have s_2:=hb2.size
 have O1:=hide ((o1.below hb2).set2 (w.heap.size+1) (by omega) (.bool ng2) (.slice p1 r1.length q1))
 have O2:=hide (show Li w.heap.size _ _ p1 q1 r1 from ⟨O1.out.ow.mono (by omega),fun h0 g off e=>by have:=O1.out.lies h0 g off e;exact ⟨by omega,Nat.lt_of_lt_of_le this.2 (show w1.heap.size≤((w2.setCell ⟨w.heap.size+1,0,none⟩ (.bool ng2)).setCell ⟨w.heap.size+1,1,none⟩ (.slice p1 r1.length q1)).heap.size by simp [World.setCell];exact s_2)⟩⟩)
 clear O1
 go_wp2
 refine bodyPost_ret (v:=.agg #[.bool ng2,.slice p1 r1.length q1]) ?_ rfl ⟨ng2,p1,q1,r1,rfl,by rw [←ahk];exact Y.out,by omega,O2.out,Z.out⟩
 simp [results,Tryz.results88,go_sem,X.out.1,X.out.2.1]
set_option maxRecDepth 20000 in
set_option maxHeartbeats 1000000 in
theorem asn (w:World) (nx:Bool) (a1:Option Addr) (n1 c1:Nat) (xs:List Int) (hx:Sl w (.slice a1 n1 c1) xs) (a2:Option Addr) (n2 c2:Nat) (ys:List Int) (hy:Sl w (.slice a2 n2 c2) ys) (hm1:xs.length≤400000) (hm2:ys.length≤400000) (hge:val ys≤val xs) :
  Calls Tryz.prog 88 #[.agg #[.bool nx,.slice a1 n1 c1],.bool (!nx),.slice a2 n2 c2] w fun e w'=>∃ ng' ao cap rs,e=.returned (.agg #[.bool ng',.slice ao rs.length cap])∧Wh w' ng' ao cap rs (sg nx (val xs)+sg (!nx) (val ys))∧rs.length≤xs.length+ys.length+1∧Li w.heap.size w'.heap.size w' ao cap rs∧Below w.heap.size w w' := by
 obtain ⟨w0,e0,bx,br,hb0,hs0⟩:=acc w nx (.slice a1 n1 c1)
 have E0:=hide e0
 have hx0:=hx.below hb0
 have hy0:=hy.below hb0
 have HS0:=hide hs0
 clear e0 hs0
 cases nx
 all_goals
  go_enter Tryz.func88,Tryz.ntmps88
  go_wp2_with fail
  rw [E0.out]
  obtain ⟨ca,cb,cc,cd⟩:=bx.facts
  obtain ⟨da,db,dc,dd⟩:=br.facts
  refine (ano _ _ _ _ _ _ _ xs ys hx0 hy0 (by omega) hge).mono ?_
  rintro e w1 ⟨p1,q1,r1,rfl,G1,l1,o1,hb1⟩
  have bx1:=bx.below hb1
  obtain ⟨ia,ib,ic,id⟩:=bx1.facts
  go_wp2_with fail
  refine (abr _ _ _ _ r1 _ G1 (by omega)).mono ?_
  rintro e w2 ⟨ng2,rfl,G2,hb2⟩
  have br2:=(br.below hb1).below hb2
  obtain ⟨ka,kb,kc,kd⟩:=br2.facts
  have X:=hide (br2.set ng2 (.slice p1 r1.length q1)).facts
  have Y:=hide (br2.wh ng2 (.slice p1 r1.length q1) G2)
  have Z:=hide (aad (hb0.trans ((hb1.trans (hb2.mono hb1.size)).mono hb0.size)) (Nat.le_succ _) (.bool ng2) (.slice p1 r1.length q1))
  skip
  have hs9:=HS0.out
  have s_1:=hb1.size
  have s_2:=hb2.size
  have O1:=hide ((o1.below hb2).set2 (w.heap.size+1) (by omega) (.bool ng2) (.slice p1 r1.length q1))
  have O2:=hide (show Li w.heap.size _ _ p1 q1 r1 from ⟨O1.out.ow.mono (by omega),fun h0 g off e=>by have:=O1.out.lies h0 g off e;exact ⟨by omega,Nat.lt_of_lt_of_le this.2 (show w1.heap.size≤((w2.setCell ⟨w.heap.size+1,0,none⟩ (.bool ng2)).setCell ⟨w.heap.size+1,1,none⟩ (.slice p1 r1.length q1)).heap.size by simp [World.setCell];exact s_2)⟩⟩)
  clear O1
  go_wp2
  refine bodyPost_ret (v:=.agg #[.bool ng2,.slice p1 r1.length q1]) ?_ rfl ⟨ng2,p1,q1,r1,rfl,by rw [←axl];exact Y.out,by omega,O2.out,Z.out⟩
  simp [results,Tryz.results88,go_sem,X.out.1,X.out.2.1]
set_option maxRecDepth 20000 in
set_option maxHeartbeats 1000000 in
theorem aso (w:World) (nx:Bool) (a1:Option Addr) (n1 c1:Nat) (xs:List Int) (hx:Sl w (.slice a1 n1 c1) xs) (a2:Option Addr) (n2 c2:Nat) (ys:List Int) (hy:Sl w (.slice a2 n2 c2) ys) (hm1:xs.length≤400000) (hm2:ys.length≤400000) (hlt:val xs<val ys) :
  Calls Tryz.prog 88 #[.agg #[.bool nx,.slice a1 n1 c1],.bool (!nx),.slice a2 n2 c2] w fun e w'=>∃ ng' ao cap rs,e=.returned (.agg #[.bool ng',.slice ao rs.length cap])∧Wh w' ng' ao cap rs (sg nx (val xs)+sg (!nx) (val ys))∧rs.length≤xs.length+ys.length+1∧Li w.heap.size w'.heap.size w' ao cap rs∧Below w.heap.size w w' := by
 obtain ⟨w0,e0,bx,br,hb0,hs0⟩:=acc w nx (.slice a1 n1 c1)
 have E0:=hide e0
 have hx0:=hx.below hb0
 have hy0:=hy.below hb0
 have HS0:=hide hs0
 clear e0 hs0
 cases nx
 all_goals
  go_enter Tryz.func88,Tryz.ntmps88
  go_wp2_with fail
  rw [E0.out]
  obtain ⟨ca,cb,cc,cd⟩:=bx.facts
  obtain ⟨da,db,dc,dd⟩:=br.facts
  refine (axj _ _ _ _ _ _ _ xs ys hx0 hy0 hlt).mono ?_
  rintro e w9 ⟨rfl,hb9⟩
  have hx9:=hx0.below hb9
  have hy9:=hy0.below hb9
  have bx9:=bx.below hb9
  have br9:=br.below hb9
  obtain ⟨ia,ib,ic,id⟩:=bx9.facts
  go_wp2_with fail
  refine (ano _ _ _ _ _ _ _ ys xs hy9 hx9 (by omega) (by omega)).mono ?_
  rintro e w1 ⟨p1,q1,r1,rfl,G1,l1,o1,hb1⟩
  go_wp2_with fail
  refine (abr _ _ _ _ r1 _ G1 (by omega)).mono ?_
  rintro e w2 ⟨ng2,rfl,G2,hb2⟩
  have br2:=(br9.below hb1).below hb2
  obtain ⟨ka,kb,kc,kd⟩:=br2.facts
  have X:=hide (br2.set ng2 (.slice p1 r1.length q1)).facts
  have Y:=hide (br2.wh ng2 (.slice p1 r1.length q1) G2)
  have Z:=hide (aad (hb0.trans ((hb9.trans ((hb1.trans (hb2.mono hb1.size)).mono hb9.size)).mono hb0.size)) (Nat.le_succ _) (.bool ng2) (.slice p1 r1.length q1))
  skip
  have hs9:=HS0.out
  have s_9:=hb9.size
  have s_1:=hb1.size
  have s_2:=hb2.size
  have O1:=hide ((o1.below hb2).set2 (w.heap.size+1) (by omega) (.bool ng2) (.slice p1 r1.length q1))
  have O2:=hide (show Li w.heap.size _ _ p1 q1 r1 from ⟨O1.out.ow.mono (by omega),fun h0 g off e=>by have:=O1.out.lies h0 g off e;exact ⟨by omega,Nat.lt_of_lt_of_le this.2 (show w1.heap.size≤((w2.setCell ⟨w.heap.size+1,0,none⟩ (.bool ng2)).setCell ⟨w.heap.size+1,1,none⟩ (.slice p1 r1.length q1)).heap.size by simp [World.setCell];exact s_2)⟩⟩)
  clear O1
  go_wp2
  refine bodyPost_ret (v:=.agg #[.bool ng2,.slice p1 r1.length q1]) ?_ rfl ⟨ng2,p1,q1,r1,rfl,by rw [←aul];exact Y.out,by omega,O2.out,Z.out⟩
  simp [results,Tryz.results88,go_sem,X.out.1,X.out.2.1]
theorem axx (w:World) (nx:Bool) (a1:Option Addr) (n1 c1:Nat) (xs:List Int) (hx:Sl w (.slice a1 n1 c1) xs) (ny:Bool) (a2:Option Addr) (n2 c2:Nat) (ys:List Int) (hy:Sl w (.slice a2 n2 c2) ys) (hm1:xs.length≤400000) (hm2:ys.length≤400000) :
  Calls Tryz.prog 88 #[.agg #[.bool nx,.slice a1 n1 c1],.bool ny,.slice a2 n2 c2] w fun e w'=>∃ ng' ao cap rs,e=.returned (.agg #[.bool ng',.slice ao rs.length cap])∧Wh w' ng' ao cap rs (sg nx (val xs)+sg ny (val ys))∧rs.length≤xs.length+ys.length+1∧Li w.heap.size w'.heap.size w' ao cap rs∧Below w.heap.size w w' := by
 by_cases hn:ny=nx
 ·subst hn
  exact anp w ny a1 n1 c1 xs hx a2 n2 c2 ys hy hm1 hm2
 ·have hn' : ny = !nx:=by cases nx <;> cases ny <;> simp_all
  subst hn'
  by_cases h:val ys≤val xs
  ·exact asn w nx a1 n1 c1 xs hx a2 n2 c2 ys hy hm1 hm2 h
  ·exact aso w nx a1 n1 c1 xs hx a2 n2 c2 ys hy hm1 hm2 (by omega)
set_option maxRecDepth 20000 in
set_option maxHeartbeats 400000 in
theorem axy (w:World) (nx:Bool) (a1:Option Addr) (n1 c1:Nat) (xs:List Int) (hx:Sl w (.slice a1 n1 c1) xs) (ny:Bool) (a2:Option Addr) (n2 c2:Nat) (ys:List Int) (hy:Sl w (.slice a2 n2 c2) ys) (hm1:xs.length≤400000) (hm2:ys.length≤400000) :
  Calls Tryz.prog 63 #[.agg #[.bool nx,.slice a1 n1 c1],.agg #[.bool ny,.slice a2 n2 c2]] w fun e w'=>∃ ng' ao cap rs,e=.returned (.agg #[.bool ng',.slice ao rs.length cap])∧Wh w' ng' ao cap rs (sg nx (val xs) - sg ny (val ys))∧rs.length≤xs.length+ys.length+1∧Li w.heap.size w'.heap.size w' ao cap rs∧Below w.heap.size w w' := by
 obtain ⟨w0,e0,bx,by',br,hb0,hs0⟩:=acj w nx (.slice a1 n1 c1) ny (.slice a2 n2 c2)
 have E0:=hide e0
 have hx0:=hx.below hb0
 have hy0:=hy.below hb0
 have HS0:=hide hs0
 clear e0 hs0
 go_enter Tryz.func63,Tryz.ntmps63
 go_wp2_with fail
 rw [E0.out]
 obtain ⟨ca,cb,cc,cd⟩:=bx.facts
 obtain ⟨ea,eb,ec,ed⟩:=by'.facts
 obtain ⟨da,db,dc,dd⟩:=br.facts
 refine (axx _ nx _ _ _ xs hx0 (!ny) _ _ _ ys hy0 hm1 hm2).mono ?_
 rintro e w1 ⟨ng2,p1,q1,r1,rfl,G2,l1,o1,hb1⟩
 have br2:=br.below hb1
 obtain ⟨ka,kb,kc,kd⟩:=br2.facts
 have X:=hide (br2.set ng2 (.slice p1 r1.length q1)).facts
 have Y:=hide (br2.wh ng2 (.slice p1 r1.length q1) G2)
 have Z:=hide (aad (hb0.trans (hb1.mono hb0.size)) (Nat.le_add_right _ 2) (.bool ng2) (.slice p1 r1.length q1))
 skip
 have hs9:=HS0.out
 have s_1:=hb1.size
 have O1:=hide (o1.set2 (w.heap.size+1+1) (by omega) (.bool ng2) (.slice p1 r1.length q1))
 have O2:=hide (show Li w.heap.size _ _ p1 q1 r1 from ⟨O1.out.ow.mono (by omega),fun h0 g off e=>by have:=O1.out.lies h0 g off e;exact ⟨by omega,Nat.lt_of_lt_of_le this.2 (show w1.heap.size≤((w1.setCell ⟨w.heap.size+1+1,0,none⟩ (.bool ng2)).setCell ⟨w.heap.size+1+1,1,none⟩ (.slice p1 r1.length q1)).heap.size by simp [World.setCell])⟩⟩)
 clear O1
 go_wp2
 refine bodyPost_ret (v:=.agg #[.bool ng2,.slice p1 r1.length q1]) ?_ rfl ⟨ng2,p1,q1,r1,rfl,by rw [Int.sub_eq_add_neg,←ahj];exact Y.out,by omega,O2.out,Z.out⟩
 simp [results,Tryz.results63,go_sem,X.out.1,X.out.2.1]
set_option maxRecDepth 20000 in
set_option maxHeartbeats 400000 in
theorem axz (w:World) (nx:Bool) (a1:Option Addr) (n1 c1:Nat) (xs:List Int) (hx:Sl w (.slice a1 n1 c1) xs) (ny:Bool) (a2:Option Addr) (n2 c2:Nat) (ys:List Int) (hy:Sl w (.slice a2 n2 c2) ys) (hm1:xs.length≤400000) (hm2:ys.length≤400000) :
  Calls Tryz.prog 62 #[.agg #[.bool nx,.slice a1 n1 c1],.agg #[.bool ny,.slice a2 n2 c2]] w fun e w'=>∃ ng' ao cap rs,e=.returned (.agg #[.bool ng',.slice ao rs.length cap])∧Wh w' ng' ao cap rs (sg nx (val xs)*sg ny (val ys))∧rs.length≤xs.length+ys.length∧Li w.heap.size w'.heap.size w' ao cap rs∧Below w.heap.size w w' := by
 obtain ⟨w0,e0,bx,by',br,hb0,hs0⟩:=acj w nx (.slice a1 n1 c1) ny (.slice a2 n2 c2)
 have E0:=hide e0
 have hx0:=hx.below hb0
 have hy0:=hy.below hb0
 have HS0:=hide hs0
 clear e0 hs0
 have q1' : (w.heap.size=w.heap.size+1+1)=False:=by simp;omega
 have q2' : (w.heap.size+1+1=w.heap.size)=False:=by simp;omega
 go_enter Tryz.func62,Tryz.ntmps62
 go_wp2_with fail
 rw [E0.out]
 obtain ⟨ca,cb,cc,cd⟩:=bx.facts
 obtain ⟨ea,eb,ec,ed⟩:=by'.facts
 obtain ⟨da,db,dc,dd⟩:=br.facts
 go_region_held3 (fun w'=>w'.cell? ⟨w.heap.size,0,none⟩ = some (.bool nx)∧w'.cell? ⟨w.heap.size,1,none⟩ = some (.slice a1 n1 c1)∧w'.cell? ⟨w.heap.size+1,0,none⟩ = some (.bool ny)∧w'.cell? ⟨w.heap.size+1,1,none⟩ = some (.slice a2 n2 c2)) (go_keep) (first
  | (go_at_call 87;refine (ayq _ _ _ _ _ _ _ xs ys (hx0.below (by repeat (first | exact Below.refl _ _ | refine Below.drew ?_))) (hy0.below (by repeat (first | exact Below.refl _ _ | refine Below.drew ?_))) (by omega) (by omega)).mono ?_;rintro e w1 ⟨p1,q1,r1,rfl,G1,l1,o1,hb1⟩;have hb1' : Below w0.heap.size w0 w1:=(show Below w0.heap.size w0 _ by repeat (first | exact Below.refl _ _ | refine Below.drew ?_)).trans hb1;have bx1:=bx.below hb1';obtain ⟨bx1a,bx1b,bx1c,bx1d⟩:=bx1.facts;have by1:=by'.below hb1';obtain ⟨by1a,by1b,by1c,by1d⟩:=by1.facts;have br1:=br.below hb1';obtain ⟨br1a,br1b,br1c,br1d⟩:=br1.facts)
  | (go_at_call 58;refine (abr _ _ _ _ r1 _ (G1.below (by repeat (first | exact Below.refl _ _ | refine Below.drew ?_))) (by omega)).mono ?_;rintro e w2 ⟨ng2,rfl,G2,hb2⟩;have hb2' : Below w1.heap.size w1 w2:=(show Below w1.heap.size w1 _ by repeat (first | exact Below.refl _ _ | refine Below.drew ?_)).trans hb2;have bx2:=bx1.below hb2';obtain ⟨bx2a,bx2b,bx2c,bx2d⟩:=bx2.facts;have by2:=by1.below hb2';obtain ⟨by2a,by2b,by2c,by2d⟩:=by2.facts;have br2:=br1.below hb2';obtain ⟨br2a,br2b,br2c,br2d⟩:=br2.facts))
 all_goals
  clear bx1a bx1b bx1c bx1d by1a by1b by1c by1d br1a br1b br1c br1d bx2a bx2b bx2c bx2d by2a by2b by2c by2d ca cb cc cd da db dc dd ea eb ec ed q1' q2'
  have X:=hide (br2.set ng2 (.slice p1 r1.length q1)).facts
  have Y:=hide (br2.wh ng2 (.slice p1 r1.length q1) G2)
  have Z:=hide (aad (hb0.trans ((hb1'.trans (hb2'.mono hb1'.size)).mono hb0.size)) (Nat.le_add_right _ 2) (.bool ng2) (.slice p1 r1.length q1))
  skip
  have hs9:=HS0.out
  have o1:Li w0.heap.size w1.heap.size w1 p1 q1 r1:=o1
  have s_1:=hb1'.size
  have s_2:=hb2'.size
  have O1:=hide ((o1.below hb2').set2 (w.heap.size+1+1) (by omega) (.bool ng2) (.slice p1 r1.length q1))
  have O2:=hide (show Li w.heap.size _ _ p1 q1 r1 from ⟨O1.out.ow.mono (by omega),fun h0 g off e=>by have:=O1.out.lies h0 g off e;exact ⟨by omega,Nat.lt_of_lt_of_le this.2 (show w1.heap.size≤((w2.setCell ⟨w.heap.size+1+1,0,none⟩ (.bool ng2)).setCell ⟨w.heap.size+1+1,1,none⟩ (.slice p1 r1.length q1)).heap.size by simp [World.setCell];exact s_2)⟩⟩)
  clear O1
  go_wp2
  refine bodyPost_ret (v:=.agg #[.bool ng2,.slice p1 r1.length q1]) ?_ rfl ⟨ng2,p1,q1,r1,rfl,by rw [←ajx];exact Y.out,by omega,O2.out,Z.out⟩
  simp [results,Tryz.results62,go_sem,X.out.1,X.out.2.1]
end Lm
end Go.Proofs.YtgmobkafnefpfaaGreat
namespace Go.Proofs.YtgmobkafnefpfaaGreat
namespace Dm
def Limb (zs:List Int):Prop:=∀ z ∈ zs,0≤z∧z<10000
def pw:Nat→Int
 | 0=>1
 | n+1=>10000*pw n
def val:List Int→Int
 | []=>0
 | z :: zs=>z+10000*val zs
def tl:List Int→Nat
 | []=>0
 | z :: zs=>if tl zs=0 then (if z=0 then 0 else 1) else tl zs+1
def Canon (zs:List Int):Prop:=Limb zs∧tl zs=zs.length
theorem aaj (n:Nat):1≤pw n:=by
 induction n with
 | zero=>simp [pw]
 | succ n ih=>simp only [pw];omega
theorem aca (m n:Nat):pw (m+n)=pw m*pw n:=by
 induction m with
 | zero=>simp [pw]
 | succ m ih=>rw [Nat.succ_add];simp only [pw,ih,Int.mul_assoc]
theorem aa0 {m n:Nat} (h:m≤n):pw m≤pw n:=by
 obtain ⟨k,rfl⟩:=Nat.le.dest h
 rw [aca]
 have h1:=aaj m
 have h2:=aaj k
 have:pw m*1≤pw m*pw k:=Int.mul_le_mul_of_nonneg_left h2 (by omega)
 omega
theorem aae:Limb []:=fun _ h=>by cases h
theorem aag {z:Int} {zs:List Int} : Limb (z :: zs)↔(0≤z∧z<10000)∧Limb zs:=by
 constructor
 ·intro h;exact ⟨h z (by simp),fun y hy=>h y (by simp [hy])⟩
 ·rintro ⟨h1,h2⟩ y hy
  simp at hy
  rcases hy with rfl | hy
  ·exact h1
  ·exact h2 y hy
theorem aah {xs ys:List Int} : Limb (xs ++ ys)↔Limb xs∧Limb ys:=by
 constructor
 ·intro h;exact ⟨fun y hy=>h y (by simp [hy]),fun y hy=>h y (by simp [hy])⟩
 ·rintro ⟨h1,h2⟩ y hy
  simp at hy
  rcases hy with hy | hy
  ·exact h1 y hy
  ·exact h2 y hy
theorem aam {zs:List Int} (h:Limb zs) (k:Nat):Limb (zs.take k):=fun y hy=>h y (List.mem_of_mem_take hy)
theorem acp {zs:List Int} (h:Limb zs) (k:Nat):Limb (zs.drop k):=fun y hy=>h y (List.mem_of_mem_drop hy)
theorem aaf {zs:List Int} (h:Limb zs) (i:Nat):0≤zs.getD i 0∧zs.getD i 0<10000:=by
 rw [List.getD_eq_getElem?_getD]
 cases hi:zs[i]? with
 | none=>simp
 | some z=>simpa using h z (List.mem_of_getElem? hi)
theorem ad2 (n:Nat):Limb (List.replicate n 0):=fun y hy=>by
 have:=List.eq_of_mem_replicate hy
 omega
theorem abb (xs ys:List Int):val (xs ++ ys)=val xs+pw xs.length*val ys:=by
 induction xs with
 | nil=>simp [val,pw]
 | cons x xs ih =>
  simp only [List.cons_append,val,List.length_cons,pw,ih,Int.mul_add,Int.mul_assoc]
  omega
theorem aei (n:Nat):val (List.replicate n 0)=0:=by
 induction n with
 | zero=>rfl
 | succ n ih=>simp [List.replicate_succ,val,ih]
theorem aab {zs:List Int} (h:Limb zs):0≤val zs∧val zs<pw zs.length:=by
 induction zs with
 | nil=>simp [val,pw]
 | cons z zs ih =>
  have h' := aag.1 h
  have:=ih h'.2
  simp only [val,List.length_cons,pw]
  omega
theorem aav (zs:List Int):tl zs≤zs.length:=by
 induction zs with
 | nil=>simp [tl]
 | cons z zs ih =>
  simp only [tl,List.length_cons]
  repeat' split
  all_goals omega
theorem ac9 {zs:List Int} (h:tl zs=0):val zs=0:=by
 induction zs with
 | nil=>rfl
 | cons z zs ih =>
  simp only [tl] at h
  by_cases h0:tl zs=0
  ·rw [if_pos h0] at h
   by_cases hz:z=0
   ·simp [val,ih h0,hz]
   ·rw [if_neg hz] at h;omega
  ·rw [if_neg h0] at h;omega
theorem aai (zs:List Int):val (zs.take (tl zs))=val zs:=by
 induction zs with
 | nil=>rfl
 | cons z zs ih =>
  simp only [tl]
  by_cases h0:tl zs=0
  ·rw [if_pos h0]
   by_cases hz:z=0
   ·simp [hz,val,ac9 h0]
   ·simp [hz,val,ac9 h0]
  ·rw [if_neg h0]
   simp [val,ih]
theorem ad3 (zs:List Int):tl (zs.take (tl zs))=tl zs:=by
 induction zs with
 | nil=>rfl
 | cons z zs ih =>
  by_cases h0:tl zs=0
  ·by_cases hz:z=0
   ·simp [tl,h0,hz]
   ·simp [tl,h0,hz]
  ·have e:tl (z :: zs)=tl zs+1:=by simp [tl,h0]
   rw [e,List.take_succ_cons]
   simp [tl,ih,h0]
theorem aa3 {zs:List Int} (h:Limb zs):Canon (zs.take (tl zs)) :=
 ⟨aam h _,by rw [ad3,List.length_take,Nat.min_eq_left (aav zs)]⟩
theorem ab1:Canon []:=⟨aae,rfl⟩
theorem ab7 {zs:List Int} {n:Nat} (h:tl zs≤n+1) (h0:zs.getD n 0=0):tl zs≤n:=by
 induction zs generalizing n with
 | nil=>simp [tl]
 | cons z zs ih =>
  simp only [tl] at h ⊢
  by_cases ht:tl zs=0
  ·rw [if_pos ht] at h ⊢
   by_cases hz:z=0
   ·rw [if_pos hz];omega
   ·rw [if_neg hz]
    cases n with
    | zero=>simp at h0;exact absurd h0 hz
    | succ n=>omega
  ·rw [if_neg ht] at h ⊢
   cases n with
   | zero=>omega
   | succ n =>
    have:=ih (n:=n) (by omega) (by simpa using h0)
    omega
theorem ahg {zs:List Int} {n:Nat} (h0:zs.getD n 0≠0):n+1≤tl zs:=by
 induction zs generalizing n with
 | nil=>simp at h0
 | cons z zs ih =>
  cases n with
  | zero =>
   simp at h0
   simp only [tl,h0,if_false]
   split <;> omega
  | succ n =>
   have:=ih (n:=n) (by simpa using h0)
   simp only [tl]
   rw [if_neg (by omega)]
   omega
theorem acd {z:Int} {zs:List Int} (h:Canon (z :: zs)):Canon zs∧(zs = []→z≠0):=by
 obtain ⟨h1,h2⟩:=h
 have hl:=aav zs
 simp only [tl,List.length_cons] at h2
 refine ⟨⟨(aag.1 h1).2,?_⟩,?_⟩
 ·by_cases h0:tl zs=0
  ·rw [if_pos h0] at h2
   by_cases hz:z=0
   ·rw [if_pos hz] at h2;omega
   ·rw [if_neg hz] at h2;omega
  ·rw [if_neg h0] at h2;omega
 ·rintro rfl hz
  simp [tl,hz] at h2
theorem aa8 {zs:List Int} (h:Canon zs) (h0:zs≠[]):pw (zs.length - 1)≤val zs:=by
 induction zs with
 | nil=>exact absurd rfl h0
 | cons z zs ih =>
  have hc:=acd h
  have hz:=(aag.1 h.1).1
  cases zs with
  | nil =>
   have:=hc.2 rfl
   simp [val,pw]
   omega
  | cons y ys =>
   have:=ih hc.1 (by simp)
   simp only [List.length_cons,Nat.add_sub_cancel,pw] at this ⊢
   rw [val]
   omega
theorem ac0 {xs ys:List Int} (hx:Canon xs) (hy:Canon ys) (h:val xs=val ys):xs=ys:=by
 induction xs generalizing ys with
 | nil =>
  cases ys with
  | nil=>rfl
  | cons y ys =>
   have:=aa8 hy (by simp)
   have:=aaj ((y :: ys).length - 1)
   have h0:0=val (y :: ys):=h
   omega
 | cons x xs ih =>
  cases ys with
  | nil =>
   have:=aa8 hx (by simp)
   have:=aaj ((x :: xs).length - 1)
   have h0:val (x :: xs)=0:=h
   omega
  | cons y ys =>
   have h1:=(aag.1 hx.1).1
   have h2:=(aag.1 hy.1).1
   simp only [val] at h
   have e:x=y:=by omega
   have e' : val xs=val ys:=by omega
   rw [e,ih (acd hx).1 (acd hy).1 e']
theorem acs {zs:List Int} (h:Canon zs):val zs=0↔zs = []:=by
 constructor
 ·intro h0;exact ac0 h ab1 h0
 ·rintro rfl;rfl
theorem ada {xs ys:List Int} (hx:Canon xs) (hy:Canon ys) (h:xs.length<ys.length):val xs<val ys:=by
 have h1:=(aab hx.1).2
 have h2:=aa8 hy (by intro e;subst e;simp at h)
 have h3:=aa0 (m:=xs.length) (n:=ys.length - 1) (by omega)
 omega
theorem ae3 {zs:List Int} (h:Limb zs) (h0:0<tl zs):0<val zs:=by
 have hl:(zs.take (tl zs)).length=tl zs:=by have:=aav zs;rw [List.length_take];omega
 have h1:=aa8 (aa3 h) (by intro e;rw [e] at hl;simp at hl;omega)
 have h2:=aaj ((zs.take (tl zs)).length - 1)
 rw [aai] at h1
 omega
theorem aej {xs ys:List Int} {k:Nat} (hx:Limb xs) (hy:Limb ys) (hl:xs.length=ys.length) (hk:k<xs.length) (hd:xs.drop (k+1)=ys.drop (k+1)) (h:xs.getD k 0<ys.getD k 0):val xs<val ys:=by
 induction k generalizing xs ys with
 | zero =>
  cases xs with
  | nil=>simp at hk
  | cons x xs =>
   cases ys with
   | nil=>simp at hl
   | cons y ys =>
    simp at hd h
    subst hd
    simp only [val]
    omega
 | succ k ih =>
  cases xs with
  | nil=>simp at hk
  | cons x xs =>
   cases ys with
   | nil=>simp at hl
   | cons y ys =>
    have h1:=aag.1 hx
    have h2:=aag.1 hy
    have:=ih h1.2 h2.2 (by simpa using hl) (by simpa using hk) (by simpa using hd) (by simpa using h)
    simp only [val]
    omega
theorem aa7 (zs:List Int) (k:Nat) (h:k<zs.length):zs.take (k+1)=zs.take k ++ [zs.getD k 0]:=by
 rw [List.take_succ_eq_append_getElem h,List.getD_eq_getElem?_getD,List.getElem?_eq_getElem h]
 rfl
theorem aa2 (zs:List Int) (k:Nat) (h:k<zs.length):zs.drop k=zs.getD k 0 :: zs.drop (k+1):=by
 rw [List.drop_eq_getElem_cons h,List.getD_eq_getElem?_getD,List.getElem?_eq_getElem h]
 rfl
def vf (zs:List Int):Nat→Int
 | 0=>0
 | k+1=>vf zs k+pw k*zs.getD k 0
theorem af8 (zs:List Int) (k:Nat):vf zs k=val (zs.take k):=by
 induction k with
 | zero=>simp [vf,val]
 | succ k ih =>
  by_cases h:k<zs.length
  ·rw [aa7 zs k h,abb,vf,ih,List.length_take,Nat.min_eq_left (by omega)]
   simp [val]
  ·rw [vf,ih,List.take_of_length_le (by omega),List.take_of_length_le (by omega)]
   have:zs.getD k 0=0:=by rw [List.getD_eq_getElem?_getD,List.getElem?_eq_none (by omega)];rfl
   rw [this];omega
theorem aa1 (zs:List Int) (k:Nat) (h:zs.length≤k):vf zs k=val zs:=by
 rw [af8,List.take_of_length_le h]
theorem aba (ps:List Int) (x:Int):val (ps ++ [x])=val ps+pw ps.length*x:=by
 rw [abb];simp [val]
theorem ae4 (zs qs:List Int) (k:Nat) (x:Int) (h:k<zs.length):(zs.take (k+1) ++ qs).set k x=zs.take k ++ x :: qs:=by
 rw [aa7 zs k h]
 have:(zs.take k).length=k:=by rw [List.length_take];omega
 rw [List.append_assoc,List.set_append_right _ _ (by omega)]
 simp [this]
end Dm
end Go.Proofs.YtgmobkafnefpfaaGreat
namespace Go.Proofs.YtgmobkafnefpfaaGreat
namespace Dm
open Go.RowKit
theorem hide {p:Prop} (h:p):Hid p:=h
def Sl (w:World) (v:Value) (zs:List Int):Prop :=
 ∃ ao cap,v=.slice ao zs.length cap∧zs.length≤cap∧cap≤maxLen∧Limb zs ∧
  (zs = []∨∃ b off,ao=some ⟨b,off,none⟩∧∀ i,i<zs.length→w.cell? ⟨b,off+i,none⟩ = some (.int .i64 (zs.getD i 0)))
def At (cur:Array Value) (k:IntKind) (off:Nat) (zs:List Int):Prop:=∀ i,i<zs.length→cur[off+i]? = some (.int k (zs.getD i 0))
def Ow (B:Nat) (w:World) (v:Value) (zs:List Int):Prop :=
 ∃ ao cap,v=.slice ao zs.length cap∧zs.length≤cap∧cap≤maxLen∧Limb zs ∧
  (cap=0∨∃ g off cur,ao=some ⟨g,off,none⟩∧B≤g∧w.heap[g]? = some (.cells cur 3 (0,0))∧off+cap≤cur.size∧At cur .i64 off zs)
structure Wr (w w' : World) (g:Nat) (cur:Array Value) (e:TypeId):Prop where
 os:w'.os=w.os
 tape:w'.tape=w.tape
 output:w'.output=w.output
 size:w'.heap.size=w.heap.size
 here:w'.heap[g]? = some (.cells cur e (0,0))
 other:∀ k,k≠g→w'.heap[k]? = w.heap[k]?
def Is (B:Nat) (w:World) (v:Value) (x:Int):Prop:=∃ rs,Ow B w v rs∧Canon rs∧val rs=x
theorem aak {w:World} {b off:Nat} {v:Value} (h:w.cell? ⟨b,off,none⟩ = some v):b<w.heap.size:=by
 apply Classical.byContradiction
 intro hn
 have:w.heap[b]? = none:=Array.getElem?_eq_none (by omega)
 simp [World.cell?,this] at h
theorem aaa {w:World} {b:Nat} {o:Obj} (h:w.heap[b]? = some o):b<w.heap.size:=by
 apply Classical.byContradiction
 intro hn
 rw [Array.getElem?_eq_none (by omega)] at h
 cases h
theorem Sl.below {w w' : World} {v:Value} {zs:List Int} (h:Sl w v zs) (hb:Below w.heap.size w w'):Sl w' v zs:=by
 obtain ⟨ao,cap,rfl,h1,h2,h3,h4⟩:=h
 refine ⟨ao,cap,rfl,h1,h2,h3,?_⟩
 rcases h4 with h4 | ⟨b,off,rfl,hc⟩
 ·exact .inl h4
 ·refine .inr ⟨b,off,rfl,fun i hi=>?_⟩
  have h5:=hc i hi
  rw [hb.cell (p:=⟨b,off+i,none⟩) (aak h5)]
  exact h5
theorem Ow.sl {B:Nat} {w:World} {v:Value} {zs:List Int} (h:Ow B w v zs):Sl w v zs:=by
 obtain ⟨ao,cap,rfl,h1,h2,h3,h4⟩:=h
 refine ⟨ao,cap,rfl,h1,h2,h3,?_⟩
 rcases h4 with h4 | ⟨g,off,cur,rfl,_,hh,hs,ha⟩
 ·exact .inl (List.eq_nil_of_length_eq_zero (by omega))
 ·exact .inr ⟨g,off,rfl,fun i hi=>by rw [cell_of_row w g (off+i) cur _ (0,0) hh];exact ha i hi⟩
theorem Ow.below {B:Nat} {w w' : World} {v:Value} {zs:List Int} (h:Ow B w v zs) (hb:Below w.heap.size w w'):Ow B w' v zs:=by
 obtain ⟨ao,cap,rfl,h1,h2,h3,h4⟩:=h
 refine ⟨ao,cap,rfl,h1,h2,h3,?_⟩
 rcases h4 with h4 | ⟨g,off,cur,rfl,hg,hh,hs,ha⟩
 ·exact .inl h4
 ·exact .inr ⟨g,off,cur,rfl,hg,by rw [hb.block g (aaa hh)];exact hh,hs,ha⟩
theorem At.set {cur:Array Value} {k:IntKind} {off:Nat} {zs:List Int} (h:At cur k off zs) (j:Nat) (x:Int):At (cur.setIfInBounds (off+j) (.int k x)) k off (zs.set j x):=by
 intro i hi
 rw [List.length_set] at hi
 have h1:=h i hi
 have hb:off+i<cur.size:=by
  apply Classical.byContradiction
  intro hn
  rw [Array.getElem?_eq_none (by omega)] at h1
  cases h1
 rw [Array.getElem?_setIfInBounds,List.getD_eq_getElem?_getD,List.getElem?_set]
 by_cases hj:j=i
 ·subst hj
  simp [hi,hb]
 ·rw [if_neg (by omega),if_neg hj,h1,List.getD_eq_getElem?_getD]
theorem At.cell {cur:Array Value} {k:IntKind} {off:Nat} {zs:List Int} (h:At cur k off zs) {w:World} {g:Nat} {e:TypeId} (hh:w.heap[g]? = some (.cells cur e (0,0))) (i:Nat) (hi:i<zs.length):w.cell? ⟨g,off+i,none⟩ = some (.int k (zs.getD i 0)):=by
 rw [cell_of_row w g (off+i) cur _ (0,0) hh];exact h i hi
theorem Wr.refl {w:World} {g:Nat} {cur:Array Value} {e:TypeId} (h:w.heap[g]? = some (.cells cur e (0,0))):Wr w w g cur e:=⟨rfl,rfl,rfl,rfl,h,fun _ _=>rfl⟩
theorem Wr.drew {w w' : World} {g:Nat} {cur:Array Value} {e:TypeId} (h:Wr w w' g cur e):Wr w w'.drew g cur e:=⟨h.os,h.tape,h.output,h.size,h.here,h.other⟩
theorem Wr.drewN {w w' : World} {g:Nat} {cur:Array Value} {e:TypeId} (h:Wr w w' g cur e) (n:Nat):Wr w (w'.drewN n) g cur e:=⟨h.os,h.tape,h.output,h.size,h.here,h.other⟩
theorem Wr.set {w w' : World} {g:Nat} {cur:Array Value} {e:TypeId} (h:Wr w w' g cur e) (i:Nat) (u:Value):Wr w (w'.setCell ⟨g,i,none⟩ u) g (cur.setIfInBounds i u) e :=
 ⟨h.os,h.tape,h.output,by simp [World.setCell,h.size],heap_setCell_same w' g i cur e u h.here,fun k hk=>(heap_setCell_other w' ⟨g,i,none⟩ k u hk).trans (h.other k hk)⟩
theorem Wr.free {w w' : World} {g:Nat} {cur:Array Value} {e:TypeId} (h:Wr w w' g cur e) (i:Nat):w'.frozen? ⟨g,i,none⟩ = false:=frozen_of_row w' g i cur e h.here
theorem Wr.below {w w' : World} {g:Nat} {cur:Array Value} {e:TypeId} (h:Wr w w' g cur e) {B:Nat} (hB:B≤g):Below B w w' :=
 ⟨h.os,h.tape,h.output,by rw [h.size];exact Nat.le_refl _,fun k hk=>h.other k (by omega)⟩
theorem Sl.parts {w:World} {ao:Option Addr} {n cap:Nat} {zs:List Int} (h:Sl w (.slice ao n cap) zs):n=zs.length∧zs.length≤cap∧cap≤9223372036854775807∧Limb zs:=by
 obtain ⟨ao',cap',hv,h1,h2,h3,h4⟩:=h
 obtain ⟨rfl,rfl,rfl⟩:=(Value.slice.injEq .. ▸ hv)
 exact ⟨rfl,h1,h2,h3⟩
theorem Sl.cells {w:World} {ao:Option Addr} {n cap:Nat} {zs:List Int} (h:Sl w (.slice ao n cap) zs) (hp:0<zs.length):∃ b off,ao=some ⟨b,off,none⟩∧∀ i,i<zs.length→w.cell? ⟨b,off+i,none⟩ = some (.int .i64 (zs.getD i 0)):=by
 obtain ⟨ao',cap',hv,h1,h2,h3,h4⟩:=h
 obtain ⟨rfl,rfl,rfl⟩:=(Value.slice.injEq .. ▸ hv)
 rcases h4 with rfl | h4
 ·simp at hp
 ·exact h4
theorem Sl.take {w:World} {ao:Option Addr} {n cap:Nat} {zs:List Int} (h:Sl w (.slice ao n cap) zs) {k:Nat} (hk:k≤zs.length):Sl w (.slice ao k cap) (zs.take k):=by
 obtain ⟨ao',cap',hv,h1,h2,h3,h4⟩:=h
 obtain ⟨rfl,rfl,rfl⟩:=(Value.slice.injEq .. ▸ hv)
 have hl:(zs.take k).length=k:=by rw [List.length_take];omega
 refine ⟨ao,cap,by rw [hl],by omega,h2,aam h3 _,?_⟩
 rcases h4 with rfl | ⟨b,off,rfl,hc⟩
 ·exact .inl (by simp)
 ·refine .inr ⟨b,off,rfl,fun i hi=>?_⟩
  rw [hc i (by omega),List.getD_eq_getElem?_getD,List.getD_eq_getElem?_getD,List.getElem?_take,if_pos (by omega)]
theorem Ow.take {B:Nat} {w:World} {ao:Option Addr} {n cap:Nat} {zs:List Int} (h:Ow B w (.slice ao n cap) zs) {k:Nat} (hk:k≤zs.length):Ow B w (.slice ao k cap) (zs.take k):=by
 obtain ⟨ao',cap',hv,h1,h2,h3,h4⟩:=h
 obtain ⟨rfl,rfl,rfl⟩:=(Value.slice.injEq .. ▸ hv)
 have hl:(zs.take k).length=k:=by rw [List.length_take];omega
 refine ⟨ao,cap,by rw [hl],by omega,h2,aam h3 _,?_⟩
 rcases h4 with h4 | ⟨g,off,cur,rfl,hg,hh,hs,ha⟩
 ·exact .inl h4
 ·refine .inr ⟨g,off,cur,rfl,hg,hh,hs,fun i hi=>?_⟩
  rw [ha i (by omega),List.getD_eq_getElem?_getD,List.getD_eq_getElem?_getD,List.getElem?_take,if_pos (by omega)]
theorem Wr.sl {w w' : World} {g:Nat} {cur:Array Value} {e:TypeId} (h:Wr w w' g cur e) {B:Nat} {w0:World} (hB:B≤g) (hb:Below B w0 w) (hs:w0.heap.size=B) {v:Value} {zs:List Int} (hv:Sl w0 v zs):Sl w' v zs:=by
 subst hs
 exact hv.below (hb.trans (h.below hB))
end Dm
end Go.Proofs.YtgmobkafnefpfaaGreat
namespace Go.Proofs.YtgmobkafnefpfaaGreat
namespace Dm
open Go.RowKit
set_option maxRecDepth 20000 in
set_option maxHeartbeats 400000 in
theorem aan (w:World) (ao:Option Addr) (n cap:Nat) (zs:List Int) (h:Sl w (.slice ao n cap) zs) :
  Calls Tryz.prog 96 #[.slice ao n cap] w fun e w'=>e=.returned (.slice ao (tl zs) cap)∧w' = w:=by
 obtain ⟨ao',cap',hv,h1,h2,h3,h4⟩:=h
 obtain ⟨rfl,rfl,rfl⟩:=(Value.slice.injEq .. ▸ hv)
 unfold maxLen at h2
 have ht:=aav zs
 go_enter Tryz.func96,Tryz.ntmps96
 go_wp2
 go_loop [3] (fun n=>∃ k:Nat,k≤zs.length∧tl zs≤k∧n=.int .i64 k) (fun n=>(intOf n).toNat)
 case atStart=>exact ⟨zs.length,Nat.le_refl _,ht,rfl⟩
 case round =>
  obtain ⟨k,hk,hk2,rfl⟩:=hrel
  cases k with
  | zero =>
   have hz:tl zs=0:=by omega
   have HZ:Hid (tl zs=0):=hz
   clear hz
   go_wp2
   go_ret
   exact ⟨by rw [HZ.out];rfl,rfl⟩
  | succ k =>
   rcases h4 with h4 | ⟨b,off,rfl,hc⟩
   ·subst h4;simp at hk
   have hcell:=hc k (by omega)
   by_cases h0:zs.getD k 0=0
   ·have hle:=ab7 hk2 h0
    rw [h0] at hcell
    clear h0 hc
    go_wp2
    go_round
    case rel=>exact ⟨k,by omega,hle,by go_num⟩
    case measure=>simp [intOf]
   ·have hgt:=ahg h0
    have HZ:Hid (tl zs=k+1):=by show _ = _;omega
    have hb:(zs.getD k 0 == 0)=false:=by simpa using h0
    generalize zs.getD k 0=z at hcell hb
    clear h0 hc
    go_wp2
    go_ret
    exact ⟨by rw [HZ.out];rfl,rfl⟩
end Dm
end Go.Proofs.YtgmobkafnefpfaaGreat
namespace Go.Proofs.YtgmobkafnefpfaaGreat
namespace Dm
open Go.RowKit
theorem acl:(Tryz.prog.info? 3).map (fun i=>(i.zero,i.size,i.bytes))=some (some (.int .i64 0),1,8):=by kernel_rfl
theorem abi {w:World} {B:Nat} {v:Value} {n:Nat} {zs:List Int} (h:w.ownsRow B 3 1 v n (zs.map (Value.int .i64))) (hz:Limb zs):Ow B w v zs:=by
 obtain ⟨h1,h2⟩:=h
 have hn:zs.length=n:=by simpa using h1
 subst hn
 rcases h2 with ⟨rfl,h3⟩ | ⟨g,cap,cur,rfl,hg,hh,hc1,hc2,hs,ht⟩
 ·exact ⟨none,0,by rw [h3],by omega,by simp [maxLen],hz,.inl rfl⟩
 ·refine ⟨_,cap,rfl,hc1,hc2,hz,.inr ⟨g,0,cur,rfl,hg,hh,by omega,fun i hi=>?_⟩⟩
  have e:(cur.toList.take (zs.length*1))[i]? = (zs.map (Value.int .i64))[i]? := by rw [ht]
  rw [List.getElem?_take,if_pos (by omega)] at e
  rw [Nat.zero_add,←Array.getElem?_toList,e,List.getElem?_map,List.getElem?_eq_getElem hi,List.getD_eq_getElem?_getD,List.getElem?_eq_getElem hi]
  rfl
theorem Ow.is_cut {B:Nat} {w:World} {ao:Option Addr} {n cap:Nat} {zs:List Int} {x:Int} (h:Ow B w (.slice ao n cap) zs) (hv:val zs=x):Is B w (.slice ao (tl zs) cap) x:=by
 have hl:=h.sl.parts.2.2.2
 exact ⟨zs.take (tl zs),h.take (aav zs),aa3 hl,by rw [aai,hv]⟩
theorem ai1 {A ds:List Int} {k:Nat} {a c m more s:Int} (hk:ds.length=k) (ha:A.getD k 0=a) (hs:s=c+a*m) (h:val ds+pw k*c=vf A k*m+more) :
  val (ds ++ [s % 10000])+pw (k+1)*(s / 10000)=vf A (k+1)*m+more:=by
 rw [aba,vf,ha,hk,pw,Int.add_mul]
 have e:s=s % 10000+10000*(s / 10000):=by omega
 have e2:pw k*(s % 10000)+10000*pw k*(s / 10000)=pw k*s:=by
  rw [Int.mul_comm 10000 (pw k),Int.mul_assoc,←Int.mul_add,←e]
 have e3:pw k*a*m=pw k*(a*m):=by rw [Int.mul_assoc]
 rw [Int.add_assoc,e2,hs,Int.mul_add,e3]
 omega
theorem al1 {a m:Int} (ha:0≤a∧a<10000) (hm:0≤m∧m≤4294967296):0≤a*m∧a*m≤42945378000704:=by
 refine ⟨Int.mul_nonneg ha.1 hm.1,?_⟩
 have h1:a*m≤9999*m:=Int.mul_le_mul_of_nonneg_right (by omega) hm.1
 omega
theorem acr {w wr w1:World} {v v' : Value} {k:Nat} {ds:List Int} {z:Int} {o:Obj} (h:w1.ownsRow w.heap.size 3 1 v' (k+1) (ds.map (Value.int .i64) ++ [.int .i64 z])) (hg:(wr.alloc o).grownBy w1 v.ownBlock) (hb:Below w.heap.size w wr) (hl:∀ j,v.ownBlock=some j→w.heap.size≤j∧j<wr.heap.size) :
  w1.ownsRow w.heap.size 3 1 v' (k+1) ((ds ++ [z]).map (Value.int .i64))∧Below w.heap.size w w1:=by
 refine ⟨by simpa using h,((hb.alloc hb.size o).grown hg ?_ (fun j hj=>(hl j hj).1))⟩
 have:=hb.size
 simp
 omega
set_option maxRecDepth 20000 in
set_option maxHeartbeats 1000000 in
theorem ab2 (w:World) (ao:Option Addr) (n cap:Nat) (A:List Int) (hA:Sl w (.slice ao n cap) A) (m more:Int) (hm:0≤m∧m≤4294967296) (hmo:0≤more∧more≤4294967296) (hl:A.length≤1000000) :
  Calls Tryz.prog 109 #[.slice ao n cap,.int .i64 m,.int .i64 more] w fun e w'=>∃ v,e=.returned v∧Is w.heap.size w' v (val A*m+more)∧Below w.heap.size w w' := by
 obtain ⟨rfl,h1,h2,h3⟩:=hA.parts
 obtain ⟨i0,hi,hz0,hz1,hz2⟩:=info_parts acl
 have H3:=hide h3
 clear h3
 go_enter Tryz.func109,Tryz.ntmps109
 go_wp2
 go_loopw [7,8,9] (fun dv cv iv wr=>∃ (k:Nat) (c:Int) (ds:List Int),cv=.int .i64 c∧iv=.int .i64 k∧(0≤c∧c≤4294967296)∧(k:Int)+c≤(A.length:Int)+4294967296∧ds.length=k∧Limb ds∧val ds+pw k*c=vf A k*m+more∧wr.ownsRow w.heap.size 3 1 dv k (ds.map (Value.int .i64))∧Below w.heap.size w wr) (fun _ cv iv _=>(A.length - (intOf iv).toNat)*8589934592+(intOf cv).toNat)
 case atStart=>exact ⟨0,more,[],rfl,rfl,hmo,by omega,rfl,aae,by simp [val,vf,pw],World.ownsRow_nil _ _ _ _,Below.refl _ _⟩
 case round =>
  obtain ⟨k,c,ds,rfl,rfl,hc,hkc,hdl,hd,hval,hown,hbel⟩:=hrel
  have HD:=hide hd
  have HDL:=hide hdl
  have HV:=hide hval
  clear hd hdl hval
  have hsz:=hbel.size
  by_cases hlt:k<A.length
  ·have sA:=hA.below hbel
   obtain ⟨b,off,rfl,hca⟩:=sA.cells (by omega)
   have ca:=hca k hlt
   have ba:=aaf H3.out k
   obtain ⟨a,hak⟩:∃ a,A.getD k 0=a:=⟨_,rfl⟩
   rw [hak] at ca ba
   have bm:=al1 ba hm
   have HV' := hide (ai1 (m:=m) HDL.out hak rfl HV.out)
   have d1:decide ((k:Int)<(A.length:Int))=true:=by simp;omega
   have d2:(k:Int)<(A.length:Int):=by omega
   clear hak sA hca
   go_wp2_with (at_builtin;refine wpList_append_own _ rfl (.tmp 33) (.tmp 36) 43 rfl w.heap.size 3 i0 (.int .i64 0) 1 8 Tryz.underlying43 hi hz0 hz1 hz2 rfl (by decide) _ _ _ rfl (hown.alloc _) ⟨wr.heap.size,0,none⟩ 1 1 [.int .i64 ((c+a*m) % 10000)] rfl rfl (cell_one_new _ _ _) ?c2 ?c3 ?c4 ?c5 ?_)
   case c2=>first | rfl | (intro u hu;simp at hu;subst hu;rfl)
   case c3=>unfold maxLen;omega
   case c4=>omega
   case c5=>first | omega | (simp;omega)
   intro v' w1 hown' hgrow _
   have R:=acr hown' hgrow hbel (hown.lt)
   clear hown' hgrow hown
   go_wp2
   go_roundw
   case rel=>exact ⟨k+1,_,ds ++ [(c+a*m) % 10000],rfl,by go_num,by omega,by omega,by have:=HDL.out;simp;omega,aah.2 ⟨HD.out,aag.2 ⟨by omega,aae⟩⟩,HV'.out,R.1,R.2⟩
   case measure=>simp [intOf];omega
  ·have hak:A.getD k 0=0:=by rw [List.getD_eq_getElem?_getD,List.getElem?_eq_none (by omega)];rfl
   have d1:decide ((k:Int)<(A.length:Int))=false:=by simp;omega
   have d2:¬ (k:Int)<(A.length:Int):=by omega
   by_cases hc0:0<c
   ·have HV' := hide (ai1 (m:=m) (s:=c) HDL.out hak (by omega) HV.out)
    clear hak
    go_wp2_with (at_builtin;refine wpList_append_own _ rfl (.tmp 33) (.tmp 36) 43 rfl w.heap.size 3 i0 (.int .i64 0) 1 8 Tryz.underlying43 hi hz0 hz1 hz2 rfl (by decide) _ _ _ rfl (hown.alloc _) ⟨wr.heap.size,0,none⟩ 1 1 [.int .i64 (c % 10000)] rfl rfl (cell_one_new _ _ _) ?c2' ?c3' ?c4' ?c5' ?_)
    case c2'=>first | rfl | (intro u hu;simp at hu;subst hu;rfl)
    case c3'=>unfold maxLen;omega
    case c4'=>omega
    case c5'=>first | omega | (simp;omega)
    intro v' w1 hown' hgrow _
    have R:=acr hown' hgrow hbel (hown.lt)
    clear hown' hgrow hown
    go_wp2
    go_roundw
    case rel=>exact ⟨k+1,c / 10000,ds ++ [c % 10000],rfl,by go_num,by omega,by omega,by have:=HDL.out;simp;omega,aah.2 ⟨HD.out,aag.2 ⟨by omega,aae⟩⟩,HV'.out,R.1,R.2⟩
    case measure=>simp [intOf];omega
   ·have hc1:c=0:=by omega
    subst hc1
    have how:=abi hown HD.out
    have hvv:val ds=val A*m+more:=by
     have:=HV.out
     rw [Int.mul_zero,Int.add_zero,aa1 A _ (by omega)] at this
     exact this
    obtain ⟨ao',cap',rfl,o1,o2,o3,o4⟩:=how
    have how' : Ow w.heap.size wr (.slice ao' ds.length cap') ds:=⟨ao',cap',rfl,o1,o2,o3,o4⟩
    have his:=how'.is_cut hvv
    clear hvv o3 o4 hown hak
    go_wp2_with fail
    refine (aan _ _ _ _ _ how'.sl).mono ?_
    rintro e w2 ⟨rfl,rfl⟩
    go_wp2
    go_ret
    exact ⟨_,rfl,his,hbel⟩
end Dm
end Go.Proofs.YtgmobkafnefpfaaGreat
namespace Go.Proofs.YtgmobkafnefpfaaGreat
namespace Dm
open Go.RowKit
open Lm (hide aak aaa acq)
theorem aa4 {w:World} {B g n:Nat} (h:w.ownsRow B 3 1 (.slice (some ⟨g,0,none⟩) n n) n (madeCells #[Value.int .i64 0] n).toList) :
  B≤g∧∃ cur,w.heap[g]? = some (.cells cur 3 (0,0))∧cur.size=n∧At cur .i64 0 (List.replicate n 0):=by
 rcases h.2 with ⟨h',_⟩ | ⟨g',cap',cur,h',hb,hg,_,_,hs,htake⟩
 ·simp at h'
 ·simp only [Value.slice.injEq,Option.some.injEq,Addr.mk.injEq,and_true,true_and] at h'
  obtain ⟨rfl,rfl⟩:=h'
  refine ⟨hb,cur,hg,by omega,fun i hi=>?_⟩
  simp at hi
  have e:(cur.toList.take (n*1))[i]? = ((madeCells #[Value.int .i64 0] n).toList)[i]? := by rw [htake]
  rw [List.getElem?_take,if_pos (by omega)] at e
  rw [Nat.zero_add,←Array.getElem?_toList,e,Array.getElem?_toList]
  have h0:i<(Array.range n).size:=by simpa using hi
  simp [madeCells,hi,List.getD_eq_getElem?_getD,Nat.mod_one]
theorem agw {p r z d:Int} (hd:0<d) (h1:0≤r) (h2:r<d) (h3:0≤z) (h4:z<10000) (hp:p=r*10000+z):0≤p∧0≤p / d∧p / d<10000∧0≤p % d∧p % d<d∧p=p / d*d+p % d:=by
 have h5:0≤p:=by omega
 have h6:p<10000*d:=by omega
 refine ⟨h5,Int.ediv_nonneg h5 (by omega),Int.ediv_lt_of_lt_mul hd h6,Int.emod_nonneg _ (by omega),Int.emod_lt_of_pos _ hd,?_⟩
 have:=Int.mul_ediv_add_emod p d
 rw [Int.mul_comm] at this
 omega
theorem ah9 {zs qs:List Int} {k:Nat} {d r z p:Int} (hz:zs.drop k=z :: zs.drop (k+1)) (h:val (zs.drop (k+1))=val qs*d+r) (hp:p=r*10000+z) (hq:p=p / d*d+p % d):val (zs.drop k)=val (p / d :: qs)*d+p % d:=by
 rw [hz,val,val,h]
 generalize p / d=q at hq ⊢
 generalize p % d=t at hq ⊢
 rw [Int.add_mul,Int.mul_assoc,Int.mul_add]
 generalize q*d=a at hq ⊢
 generalize val qs*d=b
 omega
set_option maxRecDepth 20000 in
set_option maxHeartbeats 1000000 in
theorem aps (w:World) (ao:Option Addr) (n cap:Nat) (A:List Int) (hA:Sl w (.slice ao n cap) A) (d:Int) (hd:0<d) (hd2:d≤4294967296) (hl:A.length≤1000000) :
  Calls Tryz.prog 82 #[.slice ao n cap,.int .i64 d] w fun e w'=>∃ v,e=.returned (.tuple #[v,.int .i64 (val A % d)])∧Is w.heap.size w' v (val A / d)∧Below w.heap.size w w' := by
 obtain ⟨rfl,h1,h2,h3⟩:=hA.parts
 obtain ⟨i0,hi,hz0,hz1,hz2⟩:=info_parts acl
 have H3:=hide h3
 clear h3
 go_enter Tryz.func82,Tryz.ntmps82
 go_wp2_with (refine wpList_make_full _ rfl (.tmp 10) (.tmp 10) 43 rfl w.heap.size 3 i0 (.int .i64 0) 1 Tryz.underlying43 hi hz0 hz1 .i64 .i64 _ _ A.length rfl rfl (by omega) (by omega) (by rw [hz2];omega) (by unfold maxLen;omega) (Nat.le_refl _) ?hK)
 case hK =>
  intro w1 hown hgrow
  obtain ⟨_,cur,hh,hcs,hat⟩:=aa4 hown
  have hb1:Below w.heap.size w w1:=(Below.refl w.heap.size w).grown hgrow (Nat.le_refl _) (by simp)
  have HH:=hide hh
  have HS:=hide hcs
  have HA:=hide hat
  clear hown hgrow hh hcs hat
  go_wp2
  go_loopw [7,8] (fun rest i wr=>∃ (k:Nat) (r:Int) (qs:List Int) (cur' : Array Value),k≤A.length∧rest=.int .i64 r∧i=.int .i64 ((k:Int) - 1)∧0≤r∧r<d∧val (A.drop k)=val qs*d+r∧Limb qs∧qs.length+k=A.length∧Wr w1 wr w.heap.size cur' 3∧cur'.size=A.length∧At cur' .i64 0 ((List.replicate A.length 0).take k ++ qs)) (fun _ i _=>(intOf i+1).toNat)
  case atStart=>exact ⟨A.length,0,[],cur,Nat.le_refl _,rfl,rfl,by omega,by omega,by simp [val],aae,by simp,Wr.refl HH.out,HS.out,by rw [List.take_of_length_le (by simp),List.append_nil];exact HA.out⟩
  case round =>
   obtain ⟨k,r,qs,cur',hk,rfl,rfl,hr0,hr1,hval,hq,hql,hwr,hcs,hat⟩:=hrel
   have HV:=hide hval
   have HQ:=hide hq
   have HW:=hide hwr
   have HT:=hide hat
   have HC:=hide hcs
   have HL:=hide hql
   clear hval hq hwr hat hcs hql
   cases k with
   | zero =>
    have hat0:=HT.out
    rw [List.take_zero,List.nil_append] at hat0
    have hv0:=HV.out
    rw [List.drop_zero] at hv0
    have hdv:=acq hd hv0 hr0 hr1
    have how:Ow w.heap.size wr (.slice (some ⟨w.heap.size,0,none⟩) A.length A.length) qs:=by
     have:=HL.out
     exact ⟨_,A.length,by rw [show qs.length=A.length by omega],by omega,by unfold maxLen;omega,HQ.out,.inr ⟨_,0,_,rfl,Nat.le_refl _,HW.out.here,by rw [HC.out];omega,hat0⟩⟩
    have hbel:Below w.heap.size w wr:=hb1.trans (HW.out.below (Nat.le_refl _))
    have his:=how.is_cut hdv.1.symm
    have HR:=hide hdv.2
    clear hat0 hv0 hdv
    go_wp2_with fail
    refine (aan _ _ _ _ _ how.sl).mono ?_
    rintro e w2 ⟨rfl,rfl⟩
    go_wp2
    go_ret2
    refine ⟨_,?_,his,hbel⟩
    rw [HR.out]
    rfl
   | succ k =>
    have sA:=HW.out.sl (Nat.le_refl _) hb1 rfl hA
    obtain ⟨b,off,rfl,hca⟩:=sA.cells (by omega)
    have ca:=hca k (by omega)
    have hz:=aaf H3.out k
    have Hz:=hide (aa2 A k (by omega))
    generalize A.getD k 0=z at ca hz Hz
    have hlen:((List.replicate A.length (0:Int)).take (k+1) ++ qs).length=A.length:=by have:=HL.out;rw [List.length_append,List.length_take,List.length_replicate];omega
    have hcell:=HT.out.cell HW.out.here k (by rw [hlen];omega)
    rw [Nat.zero_add] at hcell
    generalize ((List.replicate A.length (0:Int)).take (k+1) ++ qs).getD k 0=old at hcell
    have hfree:=HW.out.free k
    obtain ⟨s1,s2,s3,s4,s5,s6⟩:=agw hd hr0 hr1 hz.1 hz.2 rfl
    have HV' := hide (ah9 Hz.out HV.out rfl s6)
    have HQ' : Hid (Limb ((r*10000+z) / d :: qs)):=aag.2 ⟨⟨s2,s3⟩,HQ.out⟩
    have HT' := hide ((HT.out.set k ((r*10000+z) / d)))
    have HW' := hide (HW.out.set k (.int .i64 ((r*10000+z) / d)))
    have t1:(r*10000+z).tdiv d=(r*10000+z) / d:=Int.tdiv_eq_ediv_of_nonneg s1
    clear s6 hlen sA hca
    go_wp2
    go_roundw
    case rel=>exact ⟨k,(r*10000+z) % d,(r*10000+z) / d :: qs,_,by omega,rfl,rfl,s4,s5,HV'.out,HQ'.out,by have:=HL.out;simp;omega,HW'.out,by simpa using HC.out,by rw [←ae4 _ qs k _ (by rw [List.length_replicate];omega)];simpa using HT'.out⟩
    case measure=>simp [intOf]
set_option maxRecDepth 20000 in
set_option maxHeartbeats 400000 in
theorem akf (w:World) (ng:Bool) (ao:Option Addr) (n cap:Nat) (A:List Int) (hA:Sl w (.slice ao n cap) A) :
  Calls Tryz.prog 75 #[.bool ng,.slice ao n cap] w fun e w'=>e=.returned (.agg #[.bool (ng && decide (0<tl A)),.slice ao (tl A) cap])∧Below w.heap.size w w' := by
 have hb0:Below w.heap.size w (w.alloc (.cells #[.bool false,.slice none 0 0] 51)):=(Below.refl _ _).alloc (Nat.le_refl _) _
 have kc:=hide (aan _ _ _ _ _ (hA.below hb0))
 go_enter Tryz.func75,Tryz.ntmps75
 go_wp2_with fail
 refine (kc.out).mono ?_
 rintro e w' ⟨rfl,rfl⟩
 cases ng with
 | false =>
  go_wp2
  refine bodyPost_ret (v:=.agg #[.bool false,.slice ao (tl A) cap]) (by simp [results,Tryz.results75,go_sem]) rfl ⟨by simp,?_⟩
  exact (Below.refl _ _).alloc (Nat.le_refl _) _
 | true =>
  by_cases h0:0<tl A
  ·have h1:(0:Int)<((tl A:Nat):Int):=by omega
   have h2:Hid (decide (0<tl A)=true):=by simpa [Hid] using h0
   go_wp2
   refine bodyPost_ret (v:=.agg #[.bool true,.slice ao (tl A) cap]) (by simp [results,Tryz.results75,go_sem]) rfl ⟨by rw [h2.out];rfl,?_⟩
   exact (Below.refl _ _).alloc (Nat.le_refl _) _
  ·have h1:¬ (0:Int)<((tl A:Nat):Int):=by omega
   have h2:Hid (decide (0<tl A)=false):=by simpa [Hid] using h0
   go_wp2
   refine bodyPost_ret (v:=.agg #[.bool false,.slice ao (tl A) cap]) (by simp [results,Tryz.results75,go_sem]) rfl ⟨by rw [h2.out];rfl,?_⟩
   exact (Below.refl _ _).alloc (Nat.le_refl _) _
def Got (w:World) (ao:Option Addr) (cap:Nat) (rs:List Int) (x:Int):Prop:=Sl w (.slice ao rs.length cap) rs∧Canon rs∧val rs=x
theorem Got.sl {w:World} {ao:Option Addr} {cap:Nat} {rs:List Int} {x:Int} (h:Got w ao cap rs x):Sl w (.slice ao rs.length cap) rs:=h.1
theorem Got.canon {w:World} {ao:Option Addr} {cap:Nat} {rs:List Int} {x:Int} (h:Got w ao cap rs x):Canon rs:=h.2.1
theorem Got.val {w:World} {ao:Option Addr} {cap:Nat} {rs:List Int} {x:Int} (h:Got w ao cap rs x):Dm.val rs=x:=h.2.2
theorem Got.below {w w' : World} {ao:Option Addr} {cap:Nat} {rs:List Int} {x:Int} (h:Got w ao cap rs x) (hb:Below w.heap.size w w'):Got w' ao cap rs x:=⟨h.1.below hb,h.2⟩
theorem Is.got {B:Nat} {w:World} {v:Value} {x:Int} (h:Is B w v x):∃ ao cap rs,v=.slice ao rs.length cap∧Got w ao cap rs x:=by
 obtain ⟨rs,ho,hc,hv⟩:=h
 obtain ⟨ao,cap,rfl,h1,h2,h3,h4⟩:=ho.sl
 exact ⟨ao,cap,rs,rfl,⟨ao,cap,rfl,h1,h2,h3,h4⟩,hc,hv⟩
theorem aax {rs:List Int} (h:Canon rs) {m:Nat} (hv:val rs<pw m):rs.length≤m:=by
 apply Classical.byContradiction
 intro hn
 have h1:=aa8 h (by intro e;subst e;simp at hn)
 have h2:=aa0 (m:=m) (n:=rs.length - 1) (by omega)
 omega
theorem akg (n:Nat):Lm.pw n≤pw (3*n):=by
 induction n with
 | zero=>simp [Lm.pw,pw]
 | succ n ih =>
  rw [show 3*(n+1)=3*n+3 by omega]
  simp only [Lm.pw,pw]
  have:=Lm.aaj n
  omega
theorem apt {rs:List Int} (h:Canon rs) {xs:List Int} (hx:Lm.Limb xs) (hv:val rs≤Lm.val xs):rs.length≤3*xs.length:=by
 apply aax h
 have:=(Lm.aab hx).2
 have:=akg xs.length
 omega
theorem aht (w:World) (ao:Option Addr) (cap:Nat) (A:List Int) (x:Int) (hA:Got w ao cap A x) :
  Calls Tryz.prog 75 #[.bool false,.slice ao A.length cap] w fun e w'=>e=.returned (.agg #[.bool false,.slice ao A.length cap])∧Below w.heap.size w w' := by
 refine (akf w false ao A.length cap A hA.sl).mono ?_
 rintro e w' ⟨rfl,hb⟩
 rw [hA.canon.2]
 exact ⟨by simp,hb⟩
theorem Sl.setCell {w:World} {v:Value} {zs:List Int} (h:Sl w v zs) {p:Addr} {u0:Value} (hp:w.cell? p=some u0) (hne:∀ z,u0≠.int .i64 z) (u:Value):Sl (w.setCell p u) v zs:=by
 obtain ⟨ao,cap,rfl,h1,h2,h3,h4⟩:=h
 refine ⟨ao,cap,rfl,h1,h2,h3,?_⟩
 rcases h4 with h4 | ⟨b,off,rfl,hc⟩
 ·exact .inl h4
 ·refine .inr ⟨b,off,rfl,fun i hi=>?_⟩
  have hd:p≠⟨b,off+i,none⟩:=by
   intro e
   have h5:=hc i hi
   rw [←e,hp] at h5
   exact hne _ (Option.some.inj h5)
  rw [World.cell?_setCell_other _ _ _ _ hd]
  exact hc i hi
set_option maxRecDepth 20000 in
set_option maxHeartbeats 1000000 in
theorem afp (w:World) (ao:Option Addr) (n cap:Nat) (xs:List Int) (hx:Lm.Sl w (.slice ao n cap) xs) (hl:xs.length≤300000) :
  Calls Tryz.prog 97 #[.slice ao n cap] w fun e w'=>∃ ao' cap' D,e=.returned (.agg #[.bool false,.slice ao' D.length cap'])∧Got w' ao' cap' D (Lm.val xs)∧D.length≤3*xs.length∧Below w.heap.size w w' := by
 obtain ⟨rfl,h1,h2,h3⟩:=hx.parts
 have H3:=hide h3
 have c0:(w.alloc (.cells #[.bool false,.slice none 0 0] 51)).cell? ⟨w.heap.size,0,none⟩ = some (.bool false):=by
  rw [cell_of_row _ _ _ _ _ (0,0) (heap_alloc_new w _)];rfl
 have c1:(w.alloc (.cells #[.bool false,.slice none 0 0] 51)).cell? ⟨w.heap.size,1,none⟩ = some (.slice none 0 0):=by
  rw [cell_of_row _ _ _ _ _ (0,0) (heap_alloc_new w _)];rfl
 have f0:(w.alloc (.cells #[.bool false,.slice none 0 0] 51)).frozen? ⟨w.heap.size,0,none⟩ = false:=frozen_of_row _ _ _ _ _ (heap_alloc_new w _)
 have f1:(w.alloc (.cells #[.bool false,.slice none 0 0] 51)).frozen? ⟨w.heap.size,1,none⟩ = false:=frozen_of_row _ _ _ _ _ (heap_alloc_new w _)
 have hb0:Below w.heap.size w (w.alloc (.cells #[.bool false,.slice none 0 0] 51)):=(Below.refl _ _).alloc (Nat.le_refl _) _
 have hs0:w.heap.size<(w.alloc (.cells #[.bool false,.slice none 0 0] 51)).heap.size:=by simp
 have C:=hide (And.intro c0 (And.intro c1 (And.intro f0 (And.intro f1 (And.intro hb0 hs0)))))
 clear h3 c0 c1 f0 f1 hb0 hs0
 go_enter Tryz.func97,Tryz.ntmps97
 go_wp2
 generalize w.alloc (.cells #[.bool false,.slice none 0 0] 51)=w0 at C ⊢
 go_loopw [3,4] (fun dv iv wr=>∃ (k:Nat) (ao' : Option Addr) (cap' : Nat) (D:List Int),k≤xs.length∧iv=.int .i64 ((k:Int) - 1)∧dv=.slice ao' D.length cap'∧Got wr ao' cap' D (Lm.val (xs.drop k))∧Below w0.heap.size w0 wr) (fun _ i _=>(intOf i+1).toNat)
 case atStart=>exact ⟨xs.length,none,0,[],Nat.le_refl _,rfl,rfl,⟨⟨none,0,rfl,Nat.le_refl _,by simp [maxLen],aae,.inl rfl⟩,ab1,by simp [val,Lm.val]⟩,Below.refl _ _⟩
 case round =>
  obtain ⟨k,ao',cap',D,hk,rfl,rfl,hg,hbel⟩:=hrel
  have hdl:=apt hg.canon (Lm.acp H3.out k) (by rw [hg.val];omega)
  rw [List.length_drop] at hdl
  cases k with
  | zero =>
   rw [List.drop_zero] at hg
   go_wp2_with fail
   refine (aht _ _ _ _ _ hg).mono ?_
   rintro e w1 ⟨rfl,hb1⟩
   replace hg:=hg.below hb1
   have hB:=hbel.trans (hb1.mono hbel.size)
   have d0:=(hB.cell (p:=⟨w.heap.size,0,none⟩) C.out.2.2.2.2.2).trans C.out.1
   have d1:=(hB.cell (p:=⟨w.heap.size,1,none⟩) C.out.2.2.2.2.2).trans C.out.2.1
   have g0:=(hB.frozen (p:=⟨w.heap.size,0,none⟩) C.out.2.2.2.2.2).trans C.out.2.2.1
   have g1:=(hB.frozen (p:=⟨w.heap.size,1,none⟩) C.out.2.2.2.2.2).trans C.out.2.2.2.1
   have hBw:Below w.heap.size w w1:=C.out.2.2.2.2.1.trans (hB.mono C.out.2.2.2.2.1.size)
   have e0:Below w.heap.size w ((w1.setCell ⟨w.heap.size,0,none⟩ (.bool false)).setCell ⟨w.heap.size,1,none⟩ (.slice ao' D.length cap')):=(hBw.setCell (Nat.le_refl _) _).setCell (Nat.le_refl _) _
   have e1:(w1.setCell ⟨w.heap.size,0,none⟩ (.bool false)).cell? ⟨w.heap.size,1,none⟩ = some (.slice none 0 0):=by
    rw [World.cell?_setCell_other _ _ _ _ (by simp)];exact d1
   have e2:=hide ((hg.sl.setCell d0 (fun z=>by simp) (.bool false)).setCell e1 (fun z=>by simp) (.slice ao' D.length cap'))
   have e3:=hide hg.2
   have y0:=World.cell?_setCell_same _ _ (.bool false) d0
   have x1:=World.cell?_setCell_same _ _ (.slice ao' D.length cap') e1
   have X:=hide (And.intro y0 x1)
   clear e1 y0 x1
   go_wp2
   refine bodyPost_ret (v:=.agg #[.bool false,.slice ao' D.length cap']) ?_ rfl ⟨ao',cap',D,rfl,⟨e2.out,e3.out⟩,by omega,e0⟩
   simp [results,Tryz.results97,go_sem,X.out.1,X.out.2]
  | succ k =>
   have sx:=(hx.below C.out.2.2.2.2.1).below hbel
   obtain ⟨b,off,rfl,hcx⟩:=sx.cells (by omega)
   have cx:=hcx k (by omega)
   have bx:=Lm.aaf H3.out k
   have Hd:=hide (Lm.aa2 xs k (by omega))
   generalize xs.getD k 0=z at cx bx Hd
   clear sx hcx
   go_wp2_with fail
   refine (ab2 _ _ _ _ D hg.sl 4294967296 z (by omega) (by omega) (by omega)).mono ?_
   rintro e w1 ⟨v,rfl,hi,hb1⟩
   obtain ⟨ao2,cap2,D2,rfl,hg2⟩:=hi.got
   have HG:Hid (Got w1 ao2 cap2 D2 (Lm.val (xs.drop k))):=by
    show Got _ _ _ _ _
    rw [Hd.out,Lm.val,Int.add_comm,Int.mul_comm,←hg.val]
    exact hg2
   have HBl:=hide (hbel.trans (hb1.mono hbel.size))
   clear hg hg2 hi hb1
   go_wp2
   go_roundw
   case rel=>exact ⟨k,ao2,cap2,D2,by omega,rfl,rfl,HG.out,HBl.out⟩
   case measure=>simp [intOf]
end Dm
end Go.Proofs.YtgmobkafnefpfaaGreat
namespace Go.Proofs.YtgmobkafnefpfaaGreat
namespace Dm
open Go.RowKit
open Lm (hide aak aaa acq ab4)
def lenOf:Value→Nat | .slice _ n _=>n | _=>0
theorem al2 {D E:List Int} (hD:Canon D) (hE:Canon E) (h:val E=val D / 4294967296) (h0:0<D.length):E.length<D.length:=by
 have hb:=aab hD.1
 have:E.length≤D.length - 1:=by
  apply aax hE
  obtain ⟨k,hk⟩:∃ k,D.length=k+1:=⟨D.length - 1,by omega⟩
  rw [hk] at hb ⊢
  simp only [pw,Nat.add_sub_cancel] at hb ⊢
  rw [h]
  have:=aaj k
  omega
 omega
theorem Ow.open {B:Nat} {w:World} {v:Value} {rs:List Int} (h:Ow B w v rs):∃ ao cap,v=.slice ao rs.length cap∧Sl w (.slice ao rs.length cap) rs∧rs.length≤cap∧cap≤9223372036854775807:=by
 obtain ⟨ao,cap,rfl,h1,h2,h3,h4⟩:=h.sl
 exact ⟨ao,cap,rfl,⟨ao,cap,rfl,h1,h2,h3,h4⟩,h1,h2⟩
theorem acf {B e n:Nat} {w w' : World} {v:Value} {xs:List Value} (h:w.ownsRow B e 1 v n xs) (hb:Below w.heap.size w w'):w'.ownsRow B e 1 v n xs:=by
 obtain ⟨h1,h2⟩:=h
 refine ⟨h1,?_⟩
 rcases h2 with h2 | ⟨g,cap,cur,hv,hg,hh,r⟩
 ·exact .inl h2
 ·exact .inr ⟨g,cap,cur,hv,hg,by rw [hb.block g (aaa hh)];exact hh,r⟩
theorem Ow.grown {B:Nat} {w w' : World} {v:Value} {zs:List Int} {row:Option Nat} (h:Ow B w v zs) (hg:w.grownBy w' row) (hr:∀ j,row=some j→j<B):Ow B w' v zs:=by
 obtain ⟨ao,cap,rfl,h1,h2,h3,h4⟩:=h
 refine ⟨ao,cap,rfl,h1,h2,h3,?_⟩
 rcases h4 with h4 | ⟨g,off,cur,rfl,hB,hh,hs,ha⟩
 ·exact .inl h4
 ·refine .inr ⟨g,off,cur,rfl,hB,?_,hs,ha⟩
  rw [hg.block g (aaa hh) (fun e=>by have:=hr g e.symm;omega)]
  exact hh
theorem apu {ls:List Int} {x y:Int} (h:Lm.val ls+Lm.pw ls.length*y=x):Lm.val (ls ++ [y % 4294967296])+Lm.pw (ls ++ [y % 4294967296]).length*(y / 4294967296)=x:=by
 rw [Lm.aba,List.length_append,List.length_singleton,Lm.pw,←h]
 have e:y=y % 4294967296+4294967296*(y / 4294967296):=by omega
 have e2:Lm.pw ls.length*(y % 4294967296)+4294967296*Lm.pw ls.length*(y / 4294967296)=Lm.pw ls.length*y:=by
  rw [Int.mul_comm 4294967296,Int.mul_assoc,←Int.mul_add,←e]
 omega
theorem apv {ls:List Int} {y:Int} (h0:0<y) (h1:y / 4294967296=0):Lm.tl (ls ++ [y % 4294967296])=(ls ++ [y % 4294967296]).length:=by
 have h2:y % 4294967296≠0:=by omega
 have:=Lm.ahg (zs:=ls ++ [y % 4294967296]) (n:=ls.length) (by simpa using h2)
 have:=Lm.aav (ls ++ [y % 4294967296])
 simp at this ⊢
 simp at *
 omega
theorem anq {ls:List Int} {x y:Int} {M:Nat} (hl:Lm.Limb ls) (h:Lm.val ls+Lm.pw ls.length*y=x) (hy:0<y) (hx:x<Lm.pw M):ls.length<M:=by
 apply Classical.byContradiction
 intro hn
 have h1:=Lm.aa0 (m:=M) (n:=ls.length) (by omega)
 have h2:=(Lm.aab hl).1
 have h3:=Lm.aaj ls.length
 have h4:Lm.pw ls.length*1≤Lm.pw ls.length*y:=Int.mul_le_mul_of_nonneg_left (by omega) (by omega)
 omega
theorem anr {B:Nat} {w wr w1:World} {v v' : Value} {k:Nat} {ds:List Int} {z:Int} {o:Obj} (h:w1.ownsRow B 83 1 v' (k+1) (ds.map (Value.int .u32) ++ [.int .u32 z])) (hg:(wr.alloc o).grownBy w1 v.ownBlock) (hb:Below B w wr) (hB:B≤wr.heap.size) (hl:∀ j,v.ownBlock=some j→B≤j∧j<wr.heap.size) :
  w1.ownsRow B 83 1 v' (k+1) ((ds ++ [z]).map (Value.int .u32))∧Below B w w1:=by
 refine ⟨by simpa using h,((hb.alloc hB o).grown hg ?_ (fun j hj=>(hl j hj).1))⟩
 simp
 omega
set_option maxRecDepth 20000 in
set_option maxHeartbeats 1000000 in
theorem ans (w:World) (ng:Bool) (ao:Option Addr) (cap:Nat) (D:List Int) (x:Int) (hD:Got w ao cap D x) (M:Nat) (hx:x<Lm.pw M) (hM:M≤1000000) (hl:D.length≤1000000) (h0:0<D.length) :
  Calls Tryz.prog 51 #[.agg #[.bool ng,.slice ao D.length cap]] w fun e w'=>∃ v,e=.returned v∧Lm.Is w.heap.size w' v x∧Below w.heap.size w w' := by
 obtain ⟨_,h1,h2,h3⟩:=hD.sl.parts
 obtain ⟨i0,hi,hz0,hz1,hz2⟩:=info_parts acl
 obtain ⟨j0,hj,jz0,jz1,jz2⟩:=info_parts ab4
 obtain ⟨b,off,rfl,hc⟩:=hD.sl.cells h0
 have hcells:∀ j u,(D.map (Value.int .i64))[j]? = some u→(w.alloc (Obj.cells #[.bool ng,.slice (some ⟨b,off,none⟩) D.length cap] 51)).cell? ((⟨b,off,none⟩:Addr).add j)=some u:=by
  intro j u hu
  rw [List.getElem?_map] at hu
  have hj:j<D.length:=by
   apply Classical.byContradiction
   intro hn
   rw [List.getElem?_eq_none (by omega)] at hu
   cases hu
  rw [List.getElem?_eq_getElem hj] at hu
  have hcj:=hc j hj
  rw [List.getD_eq_getElem?_getD,List.getElem?_eq_getElem hj] at hcj
  rw [show ((⟨b,off,none⟩:Addr).add j)=⟨b,off+j,none⟩ from by simp [Addr.add],World.cell?_alloc_past _ _ _ (aak hcj),hcj]
  exact hu
 have hone:∀ u ∈ D.map (Value.int .i64),u.oneCell' = true:=by
  intro u hu
  obtain ⟨z,_,rfl⟩:=List.mem_map.1 hu
  rfl
 have H3:=hide h3
 have HC:=hide hD.2
 have HX:=hide hx
 clear hc h3 hD hx
 go_enter Tryz.func51,Tryz.ntmps51
 go_wp2_with (at_builtin;refine wpList_append_own _ rfl (.const (.slice none 0 0)) (.tmp 7) 43 rfl (w.heap.size+1) 3 i0 (.int .i64 0) 1 8 Tryz.underlying43 hi hz0 hz1 hz2 rfl (by decide) _ _ _ rfl (World.ownsRow_nil _ _ _ _) ⟨b,off,none⟩ D.length cap (D.map (Value.int .i64)) rfl (by simp) hcells hone (by unfold maxLen;omega) (by omega) (by simp) ?_)
 intro v' w1 hown hgrow _
 have hb1:Below w.heap.size w w1:=((Below.refl w.heap.size w).alloc (Nat.le_refl _) _).grown hgrow (by simp) (by intro k hk;simp [Value.ownBlock] at hk)
 obtain ⟨ao1,cap1,rfl,s1,_,_⟩:=(abi hown H3.out).open
 have hg1:Got w1 ao1 cap1 D x:=⟨s1,HC.out⟩
 clear hown hgrow s1 hcells hone
 go_wp2
 go_loopw [3,4] (fun lv dv wr=>∃ (ls D2:List Int) (ao2:Option Addr) (cap2:Nat) (y:Int),dv=.slice ao2 D2.length cap2∧Got wr ao2 cap2 D2 y∧D2.length≤D.length∧wr.ownsRow w.heap.size 83 1 lv ls.length (ls.map (Value.int .u32))∧Lm.Limb ls∧Lm.val ls+Lm.pw ls.length*y=x∧(D2 = []→Lm.tl ls=ls.length)∧Below w.heap.size w wr) (fun _ dv _=>lenOf dv)
 case atStart=>exact ⟨[],D,ao1,cap1,x,rfl,hg1,Nat.le_refl _,World.ownsRow_nil _ _ _ _,Lm.aae,by simp [Lm.val,Lm.pw],fun e=>by rw [e] at h0;simp at h0,hb1⟩
 case round =>
  obtain ⟨ls,D2,ao2,cap2,y,rfl,hg,hdl,hown,hls,hv,htop,hbel⟩:=hrel
  have HLS:=hide hls
  have HV:=hide hv
  have HT:=hide htop
  clear hls hv htop
  by_cases hz:0<D2.length
  ·have hy:0<y:=by
    have h5:=ae3 hg.canon.1 (by rw [hg.canon.2];exact hz)
    rw [hg.val] at h5
    exact h5
   have hroom:=anq HLS.out HV.out hy HX.out
   go_wp2_with fail
   refine (aps _ _ _ _ D2 hg.sl 4294967296 (by omega) (by omega) (by omega)).mono ?_
   rintro e w2 ⟨v2,rfl,i2,hb2⟩
   obtain ⟨D3,ho3,hc3,hv3⟩:=i2
   have hsh:=al2 hg.canon hc3 hv3 hz
   rw [hg.val] at hv3 ⊢
   obtain ⟨ao3,cap3,rfl,_,_,_⟩:=ho3.open
   have HO3:=hide ho3
   have HC3:=hide (And.intro hc3 hv3)
   have hls3:Hid (∀ j,u3.ownBlock=some j→w.heap.size≤j∧j<wr.heap.size):=hown.lt
   have hbel2:=hbel.trans (hb2.mono hbel.size)
   have hown2:=acf hown hb2
   have HV' := hide (apu HV.out)
   have HT' : Hid (D3 = []→Lm.tl (ls ++ [y % 4294967296])=(ls ++ [y % 4294967296]).length):=by
    intro e3
    refine apv hy ?_
    rw [e3] at hv3
    exact hv3.symm
   clear ho3 hc3 hv3 hown hbel hb2 hg
   go_wp2_with (at_builtin;refine wpList_append_own _ rfl (.tmp 17) (.tmp 20) 25 rfl w.heap.size 83 j0 (.int .u32 0) 1 4 Tryz.underlying25 hj jz0 jz1 jz2 rfl (by decide) _ _ _ rfl (hown2.alloc _) ⟨w2.heap.size,0,none⟩ 1 1 [.int .u32 (y % 4294967296)] rfl rfl (cell_one_new _ _ _) ?c2 ?c3 ?c4 ?c5 ?_)
   case c2=>first | rfl | (intro u hu;simp at hu;subst hu;rfl)
   case c3=>unfold maxLen;omega
   case c4=>omega
   case c5=>have:=hbel2.size;first | omega | (simp;omega)
   intro v4 w4 hown4 hgrow4 _
   have R:=anr hown4 hgrow4 hbel2 hbel2.size (hown2.lt)
   have HG4:Hid (Got w4 ao3 cap3 D3 (y / 4294967296)):=⟨((HO3.out.below ((Below.refl w2.heap.size w2).alloc (Nat.le_refl _) _)).grown hgrow4 (fun j hj=>(hls3.out j hj).2)).sl,HC3.out⟩
   clear hown4 hgrow4 hown2
   go_wp2
   go_roundw
   case rel=>exact ⟨ls ++ [y % 4294967296],D3,ao3,cap3,y / 4294967296,rfl,HG4.out,by omega,by simpa using R.1,Lm.aah.2 ⟨HLS.out,Lm.aag.2 ⟨by omega,Lm.aae⟩⟩,HV'.out,HT'.out,R.2⟩
   case measure=>simp [lenOf];omega
  ·have hz0:D2 = []:=List.eq_nil_of_length_eq_zero (by omega)
   have hy0:y=0:=by rw [←hg.val,hz0];rfl
   have hvx:Lm.val ls=x:=by have:=HV.out;rw [hy0,Int.mul_zero,Int.add_zero] at this;exact this
   have his:Lm.Is w.heap.size wr u3 x:=⟨ls,Lm.abi hown HLS.out,⟨HLS.out,HT.out hz0⟩,hvx⟩
   clear hz0 hy0 hvx hown hg
   go_wp2
   go_ret
   exact ⟨_,rfl,his,hbel⟩
end Dm
end Go.Proofs.YtgmobkafnefpfaaGreat
namespace Go.Proofs.YtgmobkafnefpfaaGreat
namespace Dm
open Go.RowKit
open Lm (hide aak aaa acq ab4)
set_option maxRecDepth 20000 in
set_option maxHeartbeats 400000 in
theorem ant (w:World) (ng:Bool) (ao:Option Addr) (cap:Nat) (_hcap:cap≤9223372036854775807) :
  Calls Tryz.prog 51 #[.agg #[.bool ng,.slice ao 0 cap]] w fun e w'=>∃ v,e=.returned v∧Lm.Is w.heap.size w' v 0∧Below w.heap.size w w' := by
 cases ao with
 | none =>
  go_enter Tryz.func51,Tryz.ntmps51
  go_wp2
  refine wp_loop_rounds 1 ?_
  rw [rounds_succ]
  go_wp2
  go_ret
  exact ⟨_,rfl,⟨[],⟨none,0,rfl,Nat.le_refl _,by simp [maxLen],Lm.aae,.inl rfl⟩,Lm.ab1,rfl⟩,(Below.refl _ _).alloc (Nat.le_refl _) _⟩
 | some ad =>
  go_enter Tryz.func51,Tryz.ntmps51
  go_wp2
  refine wp_loop_rounds 1 ?_
  rw [rounds_succ]
  go_wp2
  go_ret
  exact ⟨_,rfl,⟨[],⟨none,0,rfl,Nat.le_refl _,by simp [maxLen],Lm.aae,.inl rfl⟩,Lm.ab1,rfl⟩,(Below.refl _ _).alloc (Nat.le_refl _) _⟩
theorem ai2 (w:World) (ng:Bool) (ao:Option Addr) (cap:Nat) (D:List Int) (x:Int) (hD:Got w ao cap D x) (M:Nat) (hx:x<Lm.pw M) (hM:M≤1000000) (hl:D.length≤1000000) :
  Calls Tryz.prog 51 #[.agg #[.bool ng,.slice ao D.length cap]] w fun e w'=>∃ v,e=.returned v∧Lm.Is w.heap.size w' v x∧Below w.heap.size w w' := by
 by_cases h0:0<D.length
 ·exact ans w ng ao cap D x hD M hx hM hl h0
 ·have e:D = []:=List.eq_nil_of_length_eq_zero (by omega)
  have hx0:x=0:=by rw [←hD.val,e];rfl
  have hc:=hD.sl.parts.2.2.1
  rw [hx0,e]
  exact ant w ng ao cap hc
end Dm
end Go.Proofs.YtgmobkafnefpfaaGreat
namespace Go.Proofs.YtgmobkafnefpfaaGreat
namespace Dm
open Go.RowKit
open Lm (hide aak aaa acq ab4 cmpI abe abj ad9 ac1)
theorem ah8 {xs ys:List Int} (hx:Canon xs) (hy:Canon ys) (h:xs.length≠ys.length):cmpI (val xs) (val ys)=if xs.length<ys.length then -1 else 1:=by
 by_cases h' : xs.length<ys.length
 ·rw [if_pos h',abe (ada hx hy h')]
 ·rw [if_neg h',abj (ada hy hx (by omega))]
theorem au2 {xs ys:List Int} {k:Nat} (hx:Limb xs) (hy:Limb ys) (hl:xs.length=ys.length) (hk:k<xs.length) (hd:xs.drop (k+1)=ys.drop (k+1)) (h:xs.getD k 0<ys.getD k 0):cmpI (val xs) (val ys) = -1:=abe (aej hx hy hl hk hd h)
theorem asp {xs ys:List Int} {k:Nat} (hx:Limb xs) (hy:Limb ys) (hl:xs.length=ys.length) (hk:k<xs.length) (hd:xs.drop (k+1)=ys.drop (k+1)) (h:ys.getD k 0<xs.getD k 0):cmpI (val xs) (val ys)=1:=abj (aej hy hx hl.symm (by omega) hd.symm h)
theorem afu {xs ys:List Int} {k:Nat} (hl:xs.length=ys.length) (hk:k<xs.length) (hd:xs.drop (k+1)=ys.drop (k+1)) (h:xs.getD k 0=ys.getD k 0):xs.drop k=ys.drop k:=by
 rw [aa2 xs k hk,aa2 ys k (by omega),hd,h]
set_option maxRecDepth 20000 in
set_option maxHeartbeats 1000000 in
theorem afd (w:World) (g1 g2:Bool) (a1 a2:Option Addr) (c1 c2:Nat) (xs ys:List Int) (x y:Int) (hx:Got w a1 c1 xs x) (hy:Got w a2 c2 ys y) :
  Calls Tryz.prog 77 #[.agg #[.bool g1,.slice a1 xs.length c1],.agg #[.bool g2,.slice a2 ys.length c2]] w fun e w'=>e=.returned (.int .i64 (cmpI x y))∧Below w.heap.size w w' := by
 have e1:(w.alloc (.cells #[.bool g1,.slice a1 xs.length c1] 51)).heap.size=w.heap.size+1:=by simp
 have hb1:Below w.heap.size w (w.alloc (.cells #[.bool g1,.slice a1 xs.length c1] 51)):=(Below.refl _ _).alloc (Nat.le_refl _) _
 have hb2:=((Below.refl (w.heap.size+1) (w.alloc (.cells #[.bool g1,.slice a1 xs.length c1] 51))).alloc (by simp) (.cells #[.bool g2,.slice a2 ys.length c2] 51))
 have k1:((w.alloc (.cells #[.bool g1,.slice a1 xs.length c1] 51)).alloc (.cells #[.bool g2,.slice a2 ys.length c2] 51)).cell? ⟨w.heap.size,1,none⟩ = some (.slice a1 xs.length c1):=by
  rw [hb2.cell (p:=⟨w.heap.size,1,none⟩) (by simp),cell_of_row _ _ _ _ _ (0,0) (heap_alloc_new w _)];rfl
 have k2:((w.alloc (.cells #[.bool g1,.slice a1 xs.length c1] 51)).alloc (.cells #[.bool g2,.slice a2 ys.length c2] 51)).cell? ⟨w.heap.size+1,1,none⟩ = some (.slice a2 ys.length c2):=by
  rw [←e1,cell_of_row _ _ _ _ _ (0,0) (heap_alloc_new _ _)];rfl
 have hbw:=hb1.trans (hb2.mono (by omega))
 have K:=hide (And.intro k1 (And.intro k2 (And.intro hbw (show w.heap.size+1<((w.alloc (.cells #[.bool g1,.slice a1 xs.length c1] 51)).alloc (.cells #[.bool g2,.slice a2 ys.length c2] 51)).heap.size by simp))))
 obtain ⟨_,p1,p2,p3⟩:=hx.sl.parts
 obtain ⟨_,s1,s2,s3⟩:=hy.sl.parts
 have VX:=hide hx.val
 have VY:=hide hy.val
 have CX:=hide hx.canon
 have CY:=hide hy.canon
 have hsx:=hide hx.sl
 have hsy:=hide hy.sl
 clear e1 hb1 hb2 k1 k2 hbw hx hy p3 s3
 by_cases hl:xs.length=ys.length
 ·have hne:(((xs.length:Nat):Int) != ((ys.length:Nat):Int))=false:=by simp [hl]
  have HL:=hide hl
  have l1:xs.length≤ys.length:=by omega
  have l2:ys.length≤xs.length:=by omega
  clear hl
  go_enter Tryz.func77,Tryz.ntmps77
  go_wp2
  generalize (w.alloc (.cells #[.bool g1,.slice a1 xs.length c1] 51)).alloc (.cells #[.bool g2,.slice a2 ys.length c2] 51)=w0 at K ⊢
  go_loopw [5] (fun i wr=>∃ k:Nat,k≤xs.length∧xs.drop k=ys.drop k∧i=.int .i64 ((k:Int) - 1)∧Below w0.heap.size w0 wr) (fun i _=>(intOf i+1).toNat)
  case atStart=>exact ⟨xs.length,Nat.le_refl _,by rw [List.drop_of_length_le (by omega),List.drop_of_length_le (by omega)],rfl,Below.refl _ _⟩
  case round =>
   obtain ⟨k,hk,hd,rfl,hbel⟩:=hrel
   have HD:=hide hd
   clear hd
   have hbw:Below w.heap.size w wr:=K.out.2.2.1.trans (hbel.mono K.out.2.2.1.size)
   cases k with
   | zero =>
    have HE:Hid (cmpI x y=0):=by
     show _ = _
     have:=HD.out
     rw [List.drop_zero,List.drop_zero] at this
     rw [←VX.out,←VY.out,this]
     exact ad9 rfl
    go_wp2
    go_ret
    exact ⟨by rw [HE.out];rfl,hbw⟩
   | succ k =>
    have sx:=(hsx.out.below K.out.2.2.1).below hbel
    have sy:=(hsy.out.below K.out.2.2.1).below hbel
    obtain ⟨b,off,rfl,hc⟩:=sx.cells (by omega)
    obtain ⟨b',off',rfl,hc'⟩:=sy.cells (by omega)
    have f1:=hc k (by omega)
    have f2:=hc' k (by omega)
    have m1:=(hbel.cell (p:=⟨w.heap.size,1,none⟩) (by have:=K.out.2.2.2;simp;omega)).trans K.out.1
    have m2:=(hbel.cell (p:=⟨w.heap.size+1,1,none⟩) K.out.2.2.2).trans K.out.2.1
    have d1:(k:Int)<((xs.length:Nat):Int):=by omega
    have d2:(k:Int)<((ys.length:Nat):Int):=by omega
    have ND:=hide (afu HL.out (by omega) HD.out)
    have NL:=hide (au2 CX.out.1 CY.out.1 HL.out (by omega) HD.out)
    have NH:=hide (asp CX.out.1 CY.out.1 HL.out (by omega) HD.out)
    generalize xs.getD k 0=z at f1 ND NL NH
    generalize ys.getD k 0=z' at f2 ND NL NH
    clear sx sy hc hc'
    rcases Int.lt_trichotomy z z' with h | h | h
    ·have HE:Hid (cmpI x y = -1):=by show _ = _;rw [←VX.out,←VY.out];exact NL.out h
     go_wp2
     go_quiet (fail)
     go_wp2
     go_ret
     exact ⟨by rw [HE.out];rfl,below_drewN hbw _⟩
    ·subst h
     have n1:¬ z<z:=by omega
     go_wp2
     go_quiet (fail)
     go_wp2
     replace f1:(wr.drewN nq).cell? ⟨b,off+k,none⟩ = some (.int .i64 z):=f1
     replace f2:(wr.drewN nq).cell? ⟨b',off'+k,none⟩ = some (.int .i64 z):=f2
     replace m1:(wr.drewN nq).cell? ⟨w.heap.size,1,none⟩ = _:=m1
     replace m2:(wr.drewN nq).cell? ⟨w.heap.size+1,1,none⟩ = _:=m2
     replace hbel:=below_drewN hbel nq
     generalize wr.drewN nq=wr2 at f1 f2 m1 m2 hbel ⊢
     go_quiet (fail)
     go_wp2
     go_roundw
     case rel=>exact ⟨k,by omega,ND.out (by first | rfl | trivial),by go_num,below_drewN hbel _⟩
     case measure=>simp [intOf]
    ·have HE:Hid (cmpI x y=1):=by show _ = _;rw [←VX.out,←VY.out];exact NH.out h
     have n1:¬ z<z' := by omega
     go_wp2
     go_quiet (fail)
     go_wp2
     replace f1:(wr.drewN nq).cell? ⟨b,off+k,none⟩ = some (.int .i64 z):=f1
     replace f2:(wr.drewN nq).cell? ⟨b',off'+k,none⟩ = some (.int .i64 z'):=f2
     replace m1:(wr.drewN nq).cell? ⟨w.heap.size,1,none⟩ = _:=m1
     replace m2:(wr.drewN nq).cell? ⟨w.heap.size+1,1,none⟩ = _:=m2
     replace hbw:=below_drewN hbw nq
     generalize wr.drewN nq=wr2 at f1 f2 m1 m2 hbw ⊢
     go_quiet (fail)
     go_wp2
     go_ret
     exact ⟨by rw [HE.out];rfl,below_drewN hbw _⟩
 ·have hne:(((xs.length:Nat):Int) != ((ys.length:Nat):Int))=true:=by rw [bne_iff_ne];omega
  have HE:=hide (ah8 CX.out CY.out hl)
  rw [VX.out,VY.out] at HE
  by_cases h:xs.length<ys.length
  ·rw [if_pos h] at HE
   have h' : ((xs.length:Nat):Int)<((ys.length:Nat):Int):=by omega
   clear hl
   go_enter Tryz.func77,Tryz.ntmps77
   go_wp2
   go_ret
   exact ⟨by rw [HE.out];rfl,K.out.2.2.1⟩
  ·rw [if_neg h] at HE
   have h' : ¬ ((xs.length:Nat):Int)<((ys.length:Nat):Int):=by omega
   clear hl
   go_enter Tryz.func77,Tryz.ntmps77
   go_wp2
   go_ret
   exact ⟨by rw [HE.out];rfl,K.out.2.2.1⟩
def sgn (n:Nat):Int:=if n=0 then 0 else 1
set_option maxRecDepth 20000 in
set_option maxHeartbeats 400000 in
theorem asq (w:World) (ao:Option Addr) (n cap:Nat) :
  Calls Tryz.prog 45 #[.agg #[.bool false,.slice ao n cap]] w fun e w'=>e=.returned (.int .i64 (sgn n))∧w' = w.alloc (.cells #[.bool false,.slice ao n cap] 51):=by
 by_cases h:n=0
 ·subst h
  go_enter Tryz.func45,Tryz.ntmps45
  go_wp2
  go_ret
  exact ⟨rfl,rfl⟩
 ·have hne:(((n:Nat):Int) == 0)=false:=by simp;omega
  have H:Hid (sgn n=1):=by simp [Hid,sgn,h]
  clear h
  go_enter Tryz.func45,Tryz.ntmps45
  go_wp2
  go_ret
  exact ⟨by rw [H.out];rfl,rfl⟩
theorem akh {w:World} {ao:Option Addr} {cap:Nat} {xs:List Int} {x:Int} (h:Got w ao cap xs x) (h0:xs.length=0):x=0:=by
 have e:xs = []:=List.eq_nil_of_length_eq_zero h0
 rw [←h.val,e];rfl
end Dm
end Go.Proofs.YtgmobkafnefpfaaGreat
namespace Go.Proofs.YtgmobkafnefpfaaGreat
namespace Dm
open Go.RowKit
open Lm (hide)
def Dl (B:Nat) (w:World) (v:Value) (x:Int) (n:Nat):Prop:=∃ ds,Ow B w v ds∧val ds=x∧ds.length≤n
theorem afe {A B ds:List Int} {k:Nat} {a b c s:Int} (hk:ds.length=k) (ha:A.getD k 0=a) (hb:B.getD k 0=b) (hs:s=c+a+b) (h:val ds+pw k*c=vf A k+vf B k) :
  val (ds ++ [s % 10000])+pw (k+1)*(s / 10000)=vf A (k+1)+vf B (k+1):=by
 rw [aba,vf,vf,ha,hb,hk,pw]
 have e:s=s % 10000+10000*(s / 10000):=by omega
 have e2:pw k*(s % 10000)+10000*pw k*(s / 10000)=pw k*s:=by
  rw [Int.mul_comm 10000 (pw k),Int.mul_assoc,←Int.mul_add,←e]
 rw [Int.add_assoc,e2,hs,Int.mul_add,Int.mul_add]
 omega
theorem aem (A:List Int) (k:Nat) (h:¬ k<A.length):A.getD k 0=0:=by
 rw [List.getD_eq_getElem?_getD,List.getElem?_eq_none (by omega)];rfl
set_option maxRecDepth 20000 in
set_option maxHeartbeats 1000000 in
theorem aki (w:World) (a1:Option Addr) (n1 c1:Nat) (A:List Int) (hA:Sl w (.slice a1 n1 c1) A) (a2:Option Addr) (n2 c2:Nat) (B:List Int) (hB:Sl w (.slice a2 n2 c2) B) (hl1:A.length≤1000000) (hl2:B.length≤1000000) :
  Calls Tryz.prog 76 #[.slice a1 n1 c1,.slice a2 n2 c2] w fun e w'=>∃ v,e=.returned v∧Dl w.heap.size w' v (val A+val B) (A.length+B.length+1)∧Below w.heap.size w w' := by
 obtain ⟨rfl,p1,p2,p3⟩:=hA.parts
 obtain ⟨rfl,q1,q2,q3⟩:=hB.parts
 obtain ⟨i0,hi,hz0,hz1,hz2⟩:=info_parts acl
 have P3:=hide p3
 have Q3:=hide q3
 clear p3 q3
 go_enter Tryz.func76,Tryz.ntmps76
 go_wp2
 go_loopw [5,6,7] (fun dv cv iv wr=>∃ (k:Nat) (c:Int) (ds:List Int),cv=.int .i64 c∧iv=.int .i64 k∧(0≤c∧c≤1)∧(k:Int)+c≤(A.length:Int)+B.length+1∧ds.length=k∧Limb ds∧val ds+pw k*c=vf A k+vf B k∧wr.ownsRow w.heap.size 3 1 dv k (ds.map (Value.int .i64))∧Below w.heap.size w wr) (fun _ cv iv _=>(A.length - (intOf iv).toNat)*2+(B.length - (intOf iv).toNat)*2+(intOf cv).toNat)
 case atStart=>exact ⟨0,0,[],rfl,rfl,by omega,by omega,rfl,aae,by simp [val,vf,pw],World.ownsRow_nil _ _ _ _,Below.refl _ _⟩
 case round =>
  obtain ⟨k,c,ds,rfl,rfl,hc,hkc,hdl,hd,hval,hown,hbel⟩:=hrel
  have HD:=hide hd
  have HDL:=hide hdl
  have HV:=hide hval
  clear hd hdl hval
  have hsz:=hbel.size
  by_cases hltA:k<A.length
  ·by_cases hltB:k<B.length
   ·have sA:=hA.below hbel
    obtain ⟨b1,off1,rfl,hca⟩:=sA.cells (by omega)
    have ca:=hca k hltA
    have ba:=aaf P3.out k
    obtain ⟨a,hak⟩:∃ a,A.getD k 0=a:=⟨_,rfl⟩
    rw [hak] at ca ba
    clear sA hca
    have sB:=hB.below hbel
    obtain ⟨b2,off2,rfl,hcb⟩:=sB.cells (by omega)
    have cb:=hcb k hltB
    have bb:=aaf Q3.out k
    obtain ⟨b,hbk⟩:∃ b,B.getD k 0=b:=⟨_,rfl⟩
    rw [hbk] at cb bb
    clear sB hcb
    have dA:(k:Int)<(A.length:Int):=by omega
    have dB:(k:Int)<(B.length:Int):=by omega
    have HV' := hide (afe (s:=c+a+b) HDL.out hak hbk (by omega) HV.out)
    clear hak hbk
    go_wp2_with (at_builtin;refine wpList_append_own _ rfl (.tmp 44) (.tmp 47) 43 rfl w.heap.size 3 i0 (.int .i64 0) 1 8 Tryz.underlying43 hi hz0 hz1 hz2 rfl (by decide) _ _ _ rfl (hown.alloc _) ⟨wr.heap.size,0,none⟩ 1 1 [.int .i64 ((c+a+b) % 10000)] rfl rfl (cell_one_new _ _ _) ?c211 ?c311 ?c411 ?c511 ?_)
    case c211=>first | rfl | (intro u hu;simp at hu;subst hu;rfl)
    case c311=>unfold maxLen;omega
    case c411=>omega
    case c511=>first | omega | (simp;omega)
    intro v' w1 hown' hgrow _
    have R:=acr hown' hgrow hbel (hown.lt)
    clear hown' hgrow hown
    go_wp2
    go_roundw
    case rel=>exact ⟨k+1,(c+a+b) / 10000,ds ++ [(c+a+b) % 10000],rfl,by go_num,by omega,by omega,by have:=HDL.out;simp;omega,aah.2 ⟨HD.out,aag.2 ⟨by omega,aae⟩⟩,HV'.out,R.1,R.2⟩
    case measure=>simp [intOf];omega
   ·have hbk:=aem B k hltB
    have sA:=hA.below hbel
    obtain ⟨b1,off1,rfl,hca⟩:=sA.cells (by omega)
    have ca:=hca k hltA
    have ba:=aaf P3.out k
    obtain ⟨a,hak⟩:∃ a,A.getD k 0=a:=⟨_,rfl⟩
    rw [hak] at ca ba
    clear sA hca
    have dA:(k:Int)<(A.length:Int):=by omega
    have dB:¬ (k:Int)<(B.length:Int):=by omega
    have HV' := hide (afe (s:=c+a) HDL.out hak hbk (by omega) HV.out)
    clear hak hbk
    go_wp2_with (at_builtin;refine wpList_append_own _ rfl (.tmp 44) (.tmp 47) 43 rfl w.heap.size 3 i0 (.int .i64 0) 1 8 Tryz.underlying43 hi hz0 hz1 hz2 rfl (by decide) _ _ _ rfl (hown.alloc _) ⟨wr.heap.size,0,none⟩ 1 1 [.int .i64 ((c+a) % 10000)] rfl rfl (cell_one_new _ _ _) ?c210 ?c310 ?c410 ?c510 ?_)
    case c210=>first | rfl | (intro u hu;simp at hu;subst hu;rfl)
    case c310=>unfold maxLen;omega
    case c410=>omega
    case c510=>first | omega | (simp;omega)
    intro v' w1 hown' hgrow _
    have R:=acr hown' hgrow hbel (hown.lt)
    clear hown' hgrow hown
    go_wp2
    go_roundw
    case rel=>exact ⟨k+1,(c+a) / 10000,ds ++ [(c+a) % 10000],rfl,by go_num,by omega,by omega,by have:=HDL.out;simp;omega,aah.2 ⟨HD.out,aag.2 ⟨by omega,aae⟩⟩,HV'.out,R.1,R.2⟩
    case measure=>simp [intOf];omega
  ·have hak:=aem A k hltA
   by_cases hltB:k<B.length
   ·have sB:=hB.below hbel
    obtain ⟨b2,off2,rfl,hcb⟩:=sB.cells (by omega)
    have cb:=hcb k hltB
    have bb:=aaf Q3.out k
    obtain ⟨b,hbk⟩:∃ b,B.getD k 0=b:=⟨_,rfl⟩
    rw [hbk] at cb bb
    clear sB hcb
    have dA:¬ (k:Int)<(A.length:Int):=by omega
    have dB:(k:Int)<(B.length:Int):=by omega
    have HV' := hide (afe (s:=c+b) HDL.out hak hbk (by omega) HV.out)
    clear hak hbk
    go_wp2_with (at_builtin;refine wpList_append_own _ rfl (.tmp 44) (.tmp 47) 43 rfl w.heap.size 3 i0 (.int .i64 0) 1 8 Tryz.underlying43 hi hz0 hz1 hz2 rfl (by decide) _ _ _ rfl (hown.alloc _) ⟨wr.heap.size,0,none⟩ 1 1 [.int .i64 ((c+b) % 10000)] rfl rfl (cell_one_new _ _ _) ?c201 ?c301 ?c401 ?c501 ?_)
    case c201=>first | rfl | (intro u hu;simp at hu;subst hu;rfl)
    case c301=>unfold maxLen;omega
    case c401=>omega
    case c501=>first | omega | (simp;omega)
    intro v' w1 hown' hgrow _
    have R:=acr hown' hgrow hbel (hown.lt)
    clear hown' hgrow hown
    go_wp2
    go_roundw
    case rel=>exact ⟨k+1,(c+b) / 10000,ds ++ [(c+b) % 10000],rfl,by go_num,by omega,by omega,by have:=HDL.out;simp;omega,aah.2 ⟨HD.out,aag.2 ⟨by omega,aae⟩⟩,HV'.out,R.1,R.2⟩
    case measure=>simp [intOf];omega
   ·have hbk:=aem B k hltB
    by_cases hc0:0<c
    ·have dA:¬ (k:Int)<(A.length:Int):=by omega
     have dB:¬ (k:Int)<(B.length:Int):=by omega
     have HV' := hide (afe (s:=c) HDL.out hak hbk (by omega) HV.out)
     clear hak hbk
     go_wp2_with (at_builtin;refine wpList_append_own _ rfl (.tmp 44) (.tmp 47) 43 rfl w.heap.size 3 i0 (.int .i64 0) 1 8 Tryz.underlying43 hi hz0 hz1 hz2 rfl (by decide) _ _ _ rfl (hown.alloc _) ⟨wr.heap.size,0,none⟩ 1 1 [.int .i64 ((c) % 10000)] rfl rfl (cell_one_new _ _ _) ?c200 ?c300 ?c400 ?c500 ?_)
     case c200=>first | rfl | (intro u hu;simp at hu;subst hu;rfl)
     case c300=>unfold maxLen;omega
     case c400=>omega
     case c500=>first | omega | (simp;omega)
     intro v' w1 hown' hgrow _
     have R:=acr hown' hgrow hbel (hown.lt)
     clear hown' hgrow hown
     go_wp2
     go_roundw
     case rel=>exact ⟨k+1,(c) / 10000,ds ++ [(c) % 10000],rfl,by go_num,by omega,by omega,by have:=HDL.out;simp;omega,aah.2 ⟨HD.out,aag.2 ⟨by omega,aae⟩⟩,HV'.out,R.1,R.2⟩
     case measure=>simp [intOf];omega
    ·have hc1:c=0:=by omega
     subst hc1
     have dA:¬ (k:Int)<(A.length:Int):=by omega
     have dB:¬ (k:Int)<(B.length:Int):=by omega
     have how:=abi hown HD.out
     have hvv:val ds=val A+val B:=by
      have:=HV.out
      rw [Int.mul_zero,Int.add_zero,aa1 A _ (by omega),aa1 B _ (by omega)] at this
      exact this
     have hdl:=HDL.out
     have HVV:=hide hvv
     have HDL' : Hid (ds.length≤A.length+B.length+1):=by show _≤_;omega
     clear hvv hak hbk hown hdl
     go_wp2
     go_ret
     exact ⟨_,rfl,⟨ds,how,HVV.out,HDL'.out⟩,hbel⟩
end Dm
end Go.Proofs.YtgmobkafnefpfaaGreat
namespace Go.Proofs.YtgmobkafnefpfaaGreat
namespace Dm
open Go.RowKit
open Lm (hide aak aaa)
theorem Sl.copy {w:World} {b off n cap:Nat} {D:List Int} (h:Sl w (.slice (some ⟨b,off,none⟩) n cap) D):∀ j u,(D.map (Value.int .i64))[j]? = some u→w.cell? ((⟨b,off,none⟩:Addr).add j)=some u:=by
 intro j u hu
 rw [List.getElem?_map] at hu
 have hj:j<D.length:=by
  apply Classical.byContradiction
  intro hn
  rw [List.getElem?_eq_none (by omega)] at hu
  cases hu
 rw [List.getElem?_eq_getElem hj] at hu
 obtain ⟨b',off',e,hc⟩:=h.cells (by omega)
 obtain ⟨rfl,rfl⟩:b=b'∧off=off' := by simpa using e
 have hcj:=hc j hj
 rw [List.getD_eq_getElem?_getD,List.getElem?_eq_getElem hj] at hcj
 rw [show ((⟨b,off,none⟩:Addr).add j)=⟨b,off+j,none⟩ from by simp [Addr.add],hcj]
 exact hu
theorem ads (D:List Int):∀ u ∈ D.map (Value.int .i64),u.oneCell' = true:=by
 intro u hu
 obtain ⟨z,_,rfl⟩:=List.mem_map.1 hu
 rfl
def dec (t:Int):List Int→List Int
 | []=>[]
 | x :: xs=>(x - t) :: xs
theorem ag4 (xs:List Int):dec 0 xs=xs:=by cases xs <;> simp [dec]
theorem aef {A B lo:List Int} {k:Nat} {a b t t' s:Int} (hk:lo.length=k) (ha:A.getD k 0=a) (hb:B.getD k 0=b) (hs:s=a - t - b+10000*t') (h:val lo+vf B k=vf A k+pw k*t) :
  val (lo ++ [s])+vf B (k+1)=vf A (k+1)+pw (k+1)*t' := by
 rw [aba,vf,vf,ha,hb,hk,pw,hs]
 have e:10000*pw k*t' = pw k*(10000*t'):=by rw [Int.mul_comm 10000 (pw k),Int.mul_assoc]
 rw [e,Int.mul_add,Int.mul_sub,Int.mul_sub]
 omega
theorem aeu (lo r:List Int) (x y:Int) (k:Nat) (hk:lo.length=k):(lo ++ x :: r).set k y=lo ++ y :: r:=by
 subst hk
 induction lo with
 | nil=>rfl
 | cons z zs ih=>simp
theorem aeg (lo r:List Int) (x:Int) (k:Nat) (hk:lo.length=k):(lo ++ x :: r).getD k 0=x:=by
 subst hk
 simp [List.getD_eq_getElem?_getD]
theorem ag5 (A:List Int) (k:Nat) (t:Int) (h:k<A.length):dec t (A.drop k)=(A.getD k 0 - t) :: A.drop (k+1):=by
 rw [aa2 A k h];rfl
theorem akj {A B lo:List Int} {k:Nat} {a b t s:Int} (hk:lo.length=k) (hA:A.length=k+1) (hB:B.length≤A.length) (hle:val B≤val A) (hlo:Limb lo) (ha:A.getD k 0=a) (hb:B.getD k 0=b) (hs:s=a - t - b) (h:val lo+vf B k=vf A k+pw k*t):0≤s:=by
 have h1:=aef (t' := 0) (s:=s) hk ha hb (by omega) h
 rw [aa1 A _ (by omega),aa1 B _ (by omega),Int.mul_zero,Int.add_zero,aba,hk] at h1
 have h2:=(aab hlo).2
 rw [hk] at h2
 apply Classical.byContradiction
 intro hn
 have h3:pw k*s≤pw k*(-1):=Int.mul_le_mul_of_nonneg_left (by omega) (by have:=aaj k;omega)
 omega
set_option maxRecDepth 20000 in
set_option maxHeartbeats 1000000 in
theorem adg (w:World) (a1:Option Addr) (n1 c1:Nat) (A:List Int) (hA:Sl w (.slice a1 n1 c1) A) (a2:Option Addr) (n2 c2:Nat) (B:List Int) (hB:Sl w (.slice a2 n2 c2) B) (hl1:A.length≤1000000) (hBA:B.length≤A.length) (hle:val B≤val A) (h0:0<A.length) :
  Calls Tryz.prog 78 #[.slice a1 n1 c1,.slice a2 n2 c2] w fun e w'=>∃ v,e=.returned v∧Dl w.heap.size w' v (val A - val B) A.length∧Below w.heap.size w w' := by
 obtain ⟨rfl,p1,p2,p3⟩:=hA.parts
 obtain ⟨rfl,q1,q2,q3⟩:=hB.parts
 obtain ⟨i0,hi,hz0,hz1,hz2⟩:=info_parts acl
 obtain ⟨b1,off1,rfl,_⟩:=hA.cells h0
 have hcells:=hA.copy
 have hone:=ads A
 have P3:=hide p3
 have Q3:=hide q3
 have HLE:=hide hle
 clear p3 q3 hle
 go_enter Tryz.func78,Tryz.ntmps78
 go_wp2_with (at_builtin;refine wpList_append_own _ rfl (.const (.slice none 0 0)) (.tmp 7) 43 rfl w.heap.size 3 i0 (.int .i64 0) 1 8 Tryz.underlying43 hi hz0 hz1 hz2 rfl (by decide) _ _ _ rfl (World.ownsRow_nil _ _ _ _) ⟨b1,off1,none⟩ A.length c1 (A.map (Value.int .i64)) rfl (by simp) hcells hone (by unfold maxLen;omega) (by omega) (by simp) ?_)
 intro v' w1 hown hgrow _
 have hb1:Below w.heap.size w w1:=(Below.refl w.heap.size w).grown hgrow (by simp) (by intro k hk;simp [Value.ownBlock] at hk)
 obtain ⟨ao,cap,rfl,o1,o2,_,o4⟩:=abi hown P3.out
 rcases o4 with o4 | ⟨g,off,cur,rfl,hg,hh,hsz,hat⟩
 ·omega
 have o2' : cap≤9223372036854775807:=o2
 have HH:=hide hh
 have HA:=hide hat
 have HSZ:=hide hsz
 clear hown hgrow hcells hone hh hat o2 hsz
 go_wp2
 go_loopw [6] (fun iv wr=>∃ (k:Nat) (t:Int) (lo:List Int) (cur' : Array Value),k≤A.length∧iv=.int .i64 k∧(0≤t∧t≤1)∧(k=A.length→t=0)∧lo.length=k∧Limb lo∧val lo+vf B k=vf A k+pw k*t∧Wr w1 wr g cur' 3∧cur'.size=cur.size∧At cur' .i64 off (lo ++ dec t (A.drop k))) (fun iv _=>A.length - (intOf iv).toNat)
 case atStart=>exact ⟨0,0,[],cur,Nat.zero_le _,rfl,by omega,fun _=>rfl,rfl,aae,by simp [val,vf,pw],Wr.refl HH.out,rfl,by simpa [ag4] using HA.out⟩
 case round =>
  obtain ⟨k,t,lo,cur',hk,rfl,ht,hkt,hlol,hlo,hval,hwr,hcs,hat⟩:=hrel
  have HLO:=hide hlo
  have HLL:=hide hlol
  have HV:=hide hval
  have HC:=hide hcs
  have hww:Wr w1 wr g cur' 3:=hwr
  by_cases hlt:k<A.length
  ·rw [ag5 A k t hlt] at hat
   have ba:=aaf P3.out k
   obtain ⟨a,hak⟩:∃ a,A.getD k 0=a:=⟨_,rfl⟩
   rw [hak] at hat ba
   have dA:(k:Int)<(A.length:Int):=by omega
   have dC:(k:Int)<(cap:Int):=by omega
   by_cases hltB:k<B.length
   ·have sB:=hwr.sl hg hb1 rfl hB
    obtain ⟨b2,off2,rfl,hcb⟩:=sB.cells (by omega)
    have cb:=hcb k hltB
    have bb:=aaf Q3.out k
    obtain ⟨b,hbk⟩:∃ b,B.getD k 0=b:=⟨_,rfl⟩
    rw [hbk] at cb bb
    have dB:(k:Int)<(B.length:Int):=by omega
    have cd:=hat.cell hwr.here k (by simp;omega)
    rw [aeg _ _ _ _ HLL.out] at cd
    have fd:=hwr.free (off+k)
    have hat2:=hat.set k (a - t - b)
    rw [aeu _ _ _ _ _ HLL.out] at hat2
    have hw2:=(hwr.set (off+k) (.int .i64 (a - t - b))).drew
    have HC2:Hid ((cur'.setIfInBounds (off+k) (.int .i64 (a - t - b))).size=cur.size):=by show _ = _;rw [Array.size_setIfInBounds];exact HC.out
    generalize hcur2:cur'.setIfInBounds (off+k) (.int .i64 (a - t - b))=cur2 at hat2 hw2 HC2
    have X2:=hide hat2
    have W2:=hide hw2
    have KB:=hide hbk
    have KA:=hide hak
    clear sB hcb hcur2 hat hwr hww hat2 hw2 hbk hak hlol hlo hval hcs
    go_wp2
    go_region
    generalize (wr.setCell ⟨g,off+k,none⟩ (.int .i64 (a - t - b))).drew=W at W2 ⊢
    have hat2:=X2.out
    have hw2:=W2.out
    have hak:=KA.out
    have hbk:=KB.out
    clear X2 W2 KA KB cd fd
    have hsv:Hid (val (lo ++ [a - t - b])+vf B (k+1)=vf A (k+1)+pw (k+1)*0):=aef (t' := 0) HLL.out hak hbk (by omega) HV.out
    have hsv1:Hid (val (lo ++ [a - t - b+10000])+vf B (k+1)=vf A (k+1)+pw (k+1)*1):=aef (t' := 1) HLL.out hak hbk (by omega) HV.out
    have htop:Hid (A.length=k+1→0≤a - t - b):=fun h=>akj HLL.out h hBA HLE.out HLO.out hak hbk (by omega) HV.out
    have cs:=hat2.cell hw2.here k (by have:=HLL.out;simp;omega)
    rw [aeg _ _ _ _ HLL.out] at cs
    have fs:=hw2.free (off+k)
    by_cases hneg:a - t - b<0
    ·have hk1:k+1<A.length:=by
      apply Classical.byContradiction
      intro hn
      have:=htop.out (by omega)
      omega
     have hat3:=hat2.set k (a - t - b+10000)
     rw [aeu _ _ _ _ _ HLL.out] at hat3
     have hw3:=(hw2.set (off+k) (.int .i64 (a - t - b+10000)))
     have dB1:(k:Int)+1<(A.length:Int):=by omega
     have e3:lo ++ (a - t - b+10000) :: A.drop (k+1)=(lo ++ [a - t - b+10000]) ++ A.getD (k+1) 0 :: A.drop (k+1+1):=by rw [aa2 A (k+1) hk1];simp
     have HLL3:(lo ++ [a - t - b+10000]).length=k+1:=by simp;exact HLL.out
     rw [e3] at hat3
     obtain ⟨a',hak'⟩:∃ a',A.getD (k+1) 0=a' := ⟨_,rfl⟩
     have ba' := aaf P3.out (k+1)
     rw [hak'] at hat3 ba'
     have e2:lo ++ (a - t - b) :: A.drop (k+1)=(lo ++ [a - t - b]) ++ A.getD (k+1) 0 :: A.drop (k+1+1):=by rw [aa2 A (k+1) hk1];simp
     have cs3:=hat2.cell hw2.here (k+1) (by have:=HLL.out;simp;omega)
     rw [e2,aeg _ _ _ _ (by simp;exact HLL.out),hak'] at cs3
     have fs3:=hw2.free (off+(k+1))
     have fs4:=hw3.free (off+(k+1))
     have hat4:=hat3.set (k+1) (a' - 1)
     rw [aeu _ _ _ _ _ HLL3] at hat4
     have hw4:=hw3.set (off+(k+1)) (.int .i64 (a' - 1))
     rw [show (lo ++ [a - t - b+10000]) ++ (a' - 1) :: A.drop (k+1+1)=(lo ++ [a - t - b+10000]) ++ dec 1 (A.drop (k+1)) from by rw [ag5 A (k+1) 1 hk1,hak']] at hat4
     have HF:=hide hat4
     have HW4:=hide hw4
     clear hat2 hat3 hat4 e3 e2 hw2 hw3 hw4 HLL3 hak hak' hbk hsv htop
     go_wp2
     go_roundw
     case rel=>exact ⟨k+1,1,lo ++ [a - t - b+10000],_,by omega,by go_num,by omega,fun h=>by omega,by simp;exact HLL.out,aah.2 ⟨HLO.out,aag.2 ⟨by omega,aae⟩⟩,hsv1.out,HW4.out,by rw [Array.size_setIfInBounds,Array.size_setIfInBounds];exact HC2.out,HF.out⟩
     case measure=>simp [intOf];omega
    ·have HF:Hid (At cur2 .i64 off ((lo ++ [a - t - b]) ++ dec 0 (A.drop (k+1)))):=by rw [ag4,List.append_assoc];exact hat2
     have HW2:=hide hw2
     have HK:=hide (show k+1≤A.length by omega)
     have HD:=hide hsv.out
     clear hat2 hw2 hak hbk hsv hsv1 htop
     go_wp2
     go_roundw
     case rel=>exact ⟨k+1,0,lo ++ [a - t - b],cur2,HK.out,by go_num,by omega,fun _=>rfl,by simp;exact HLL.out,aah.2 ⟨HLO.out,aag.2 ⟨by omega,aae⟩⟩,HD.out,HW2.out,HC2.out,HF.out⟩
     case measure=>simp [intOf];omega
   ·have hbk:=aem B k hltB
    have dB:¬ (k:Int)<(B.length:Int):=by omega
    have hat2:At cur' .i64 off (lo ++ (a - t) :: A.drop (k+1)):=hat
    have hw2:=hwr
    have HC2:=HC
    generalize cur' = cur2 at hat2 hw2 HC2
    clear hat hww hcs hval hlo hlol
    have hsv:Hid (val (lo ++ [a - t])+vf B (k+1)=vf A (k+1)+pw (k+1)*0):=aef (t' := 0) HLL.out hak hbk (by omega) HV.out
    have hsv1:Hid (val (lo ++ [a - t+10000])+vf B (k+1)=vf A (k+1)+pw (k+1)*1):=aef (t' := 1) HLL.out hak hbk (by omega) HV.out
    have htop:Hid (A.length=k+1→0≤a - t):=fun h=>akj HLL.out h hBA HLE.out HLO.out hak hbk (by omega) HV.out
    have cs:=hat2.cell hw2.here k (by have:=HLL.out;simp;omega)
    rw [aeg _ _ _ _ HLL.out] at cs
    have fs:=hw2.free (off+k)
    by_cases hneg:a - t<0
    ·have hk1:k+1<A.length:=by
      apply Classical.byContradiction
      intro hn
      have:=htop.out (by omega)
      omega
     have hat3:=hat2.set k (a - t+10000)
     rw [aeu _ _ _ _ _ HLL.out] at hat3
     have hw3:=(hw2.set (off+k) (.int .i64 (a - t+10000)))
     have dB1:(k:Int)+1<(A.length:Int):=by omega
     have e3:lo ++ (a - t+10000) :: A.drop (k+1)=(lo ++ [a - t+10000]) ++ A.getD (k+1) 0 :: A.drop (k+1+1):=by rw [aa2 A (k+1) hk1];simp
     have HLL3:(lo ++ [a - t+10000]).length=k+1:=by simp;exact HLL.out
     rw [e3] at hat3
     obtain ⟨a',hak'⟩:∃ a',A.getD (k+1) 0=a' := ⟨_,rfl⟩
     have ba' := aaf P3.out (k+1)
     rw [hak'] at hat3 ba'
     have e2:lo ++ (a - t) :: A.drop (k+1)=(lo ++ [a - t]) ++ A.getD (k+1) 0 :: A.drop (k+1+1):=by rw [aa2 A (k+1) hk1];simp
     have cs3:=hat2.cell hw2.here (k+1) (by have:=HLL.out;simp;omega)
     rw [e2,aeg _ _ _ _ (by simp;exact HLL.out),hak'] at cs3
     have fs3:=hw2.free (off+(k+1))
     have fs4:=hw3.free (off+(k+1))
     have hat4:=hat3.set (k+1) (a' - 1)
     rw [aeu _ _ _ _ _ HLL3] at hat4
     have hw4:=hw3.set (off+(k+1)) (.int .i64 (a' - 1))
     rw [show (lo ++ [a - t+10000]) ++ (a' - 1) :: A.drop (k+1+1)=(lo ++ [a - t+10000]) ++ dec 1 (A.drop (k+1)) from by rw [ag5 A (k+1) 1 hk1,hak']] at hat4
     have HF:=hide hat4
     have HW4:=hide hw4
     clear hat2 hat3 hat4 e3 e2 hw2 hw3 hw4 HLL3 hak hak' hbk hsv htop
     go_wp2
     go_roundw
     case rel=>exact ⟨k+1,1,lo ++ [a - t+10000],_,by omega,by go_num,by omega,fun h=>by omega,by simp;exact HLL.out,aah.2 ⟨HLO.out,aag.2 ⟨by omega,aae⟩⟩,hsv1.out,HW4.out,by rw [Array.size_setIfInBounds,Array.size_setIfInBounds];exact HC2.out,HF.out⟩
     case measure=>simp [intOf];omega
    ·have HF:Hid (At cur2 .i64 off ((lo ++ [a - t]) ++ dec 0 (A.drop (k+1)))):=by rw [ag4,List.append_assoc];exact hat2
     have HW2:=hide hw2
     have HK:=hide (show k+1≤A.length by omega)
     have HD:=hide hsv.out
     clear hat2 hw2 hak hbk hsv hsv1 htop
     go_wp2
     go_roundw
     case rel=>exact ⟨k+1,0,lo ++ [a - t],cur2,HK.out,by go_num,by omega,fun _=>rfl,by simp;exact HLL.out,aah.2 ⟨HLO.out,aag.2 ⟨by omega,aae⟩⟩,HD.out,HW2.out,HC2.out,HF.out⟩
     case measure=>simp [intOf];omega
  ·have hkn:k=A.length:=by omega
   have ht0:=hkt hkn
   have hvv:val lo=val A - val B:=by
    have h9:=HV.out
    rw [ht0,Int.mul_zero,Int.add_zero,aa1 A _ (by omega),aa1 B _ (by omega)] at h9
    omega
   have how:Ow w.heap.size wr (.slice (some ⟨g,off,none⟩) A.length cap) lo:=by
    rw [List.drop_of_length_le (by omega)] at hat
    simp only [dec,List.append_nil] at hat
    exact ⟨_,cap,by rw [hlol,hkn],by omega,o2',hlo,.inr ⟨g,off,cur',rfl,hg,hwr.here,by rw [hcs];exact HSZ.out,hat⟩⟩
   have D:Hid (Dl w.heap.size wr (.slice (some ⟨g,off,none⟩) A.length cap) (val A - val B) A.length):=⟨lo,how,hvv,by omega⟩
   have hbel:Below w.heap.size w wr:=hb1.trans (hwr.below hg)
   have dA:¬ (k:Int)<(A.length:Int):=by omega
   clear hvv how hat hwr hww hcs hval hlo hlol ht0 hkt hkn
   go_wp2
   go_ret
   exact ⟨_,rfl,D.out,hbel⟩
end Dm
end Go.Proofs.YtgmobkafnefpfaaGreat
namespace Go.Proofs.YtgmobkafnefpfaaGreat
namespace Dm
open Go.RowKit
open Lm (hide aak aaa)
def sg (ng:Bool) (x:Int):Int:=if ng then -x else x
def Wh (w:World) (ng:Bool) (ao:Option Addr) (cap:Nat) (rs:List Int) (z:Int):Prop:=Got w ao cap rs (z.natAbs:Int)∧ng=decide (z<0)
theorem Wh.sl {w:World} {ng:Bool} {ao:Option Addr} {cap:Nat} {rs:List Int} {z:Int} (h:Wh w ng ao cap rs z):Sl w (.slice ao rs.length cap) rs:=h.1.sl
theorem Wh.below {w w' : World} {ng:Bool} {ao:Option Addr} {cap:Nat} {rs:List Int} {z:Int} (h:Wh w ng ao cap rs z) (hb:Below w.heap.size w w'):Wh w' ng ao cap rs z:=⟨h.1.below hb,h.2⟩
theorem Wh.worth {w:World} {ng:Bool} {ao:Option Addr} {cap:Nat} {rs:List Int} {z:Int} (h:Wh w ng ao cap rs z):sg ng (Dm.val rs)=z:=by
 rw [h.1.val,h.2,sg]
 by_cases hz:z<0
 ·simp [hz];omega
 ·simp [hz];omega
theorem Wh.of {w:World} {ao:Option Addr} {cap:Nat} {rs:List Int} {x:Int} (ng:Bool) (h:Got w ao cap rs x):Wh w (ng && decide (0<rs.length)) ao cap rs (sg ng x):=by
 have h0:0≤x:=by rw [←h.val];exact (aab h.canon.1).1
 have hz:=acs h.canon
 rw [h.val] at hz
 have hl:rs = []↔rs.length=0:=List.length_eq_zero_iff.symm
 cases ng with
 | false =>
  refine ⟨?_,?_⟩
  ·have e:((sg false x).natAbs:Int)=x:=by simp [sg];omega
   rw [e];exact h
  ·simp [sg];omega
 | true =>
  refine ⟨?_,?_⟩
  ·have e:((sg true x).natAbs:Int)=x:=by simp [sg];omega
   rw [e];exact h
  ·have e3:(0<rs.length)↔(sg true x<0):=by
    simp only [sg,if_true]
    constructor
    ·intro h1
     have:x≠0:=fun h2=>by have:=hl.1 (hz.1 h2);omega
     omega
    ·intro h1
     have:rs.length≠0:=fun h2=>by have:=hz.2 (hl.2 h2);omega
     omega
   rw [Bool.true_and]
   exact decide_eq_decide.2 e3
def Box (w:World) (g:Nat) (ng:Bool) (v:Value):Prop:=w.heap[g]? = some (.cells #[.bool ng,v] 51 (0,0))
theorem Box.below {w w' : World} {g:Nat} {ng:Bool} {v:Value} (h:Box w g ng v) (hb:Below w.heap.size w w'):Box w' g ng v:=(hb.block g (aaa h)).trans h
theorem Box.facts {w:World} {g:Nat} {ng:Bool} {v:Value} (h:Box w g ng v):w.cell? ⟨g,0,none⟩ = some (.bool ng)∧w.cell? ⟨g,1,none⟩ = some v∧w.frozen? ⟨g,0,none⟩ = false∧w.frozen? ⟨g,1,none⟩ = false :=
 ⟨by rw [cell_of_row _ _ _ _ _ (0,0) h];rfl,by rw [cell_of_row _ _ _ _ _ (0,0) h];rfl,frozen_of_row _ _ _ _ _ h,frozen_of_row _ _ _ _ _ h⟩
theorem Box.set {w:World} {g:Nat} {ng:Bool} {v:Value} (h:Box w g ng v) (b:Bool) (u:Value):Box ((w.setCell ⟨g,0,none⟩ (.bool b)).setCell ⟨g,1,none⟩ u) g b u:=by
 have h1:=heap_setCell_same w g 0 _ _ (.bool b) h
 have h2:=heap_setCell_same _ g 1 _ _ u h1
 exact h2
theorem Box.sl {w:World} {g:Nat} {ng:Bool} {ao:Option Addr} {n cap:Nat} (h:Box w g ng (.slice ao n cap)) (b:Bool) (u:Value) {v:Value} {zs:List Int} (hs:Sl w v zs):Sl ((w.setCell ⟨g,0,none⟩ (.bool b)).setCell ⟨g,1,none⟩ u) v zs:=by
 refine (hs.setCell h.facts.1 (fun z=>by simp) _).setCell (u0:=.slice ao n cap) ?_ (fun z=>by simp) _
 rw [World.cell?_setCell_other _ _ _ _ (by simp)]
 exact h.facts.2.1
theorem Box.wh {w:World} {g:Nat} {ng:Bool} {ao:Option Addr} {n cap:Nat} (h:Box w g ng (.slice ao n cap)) (b:Bool) (u:Value) {nz:Bool} {az:Option Addr} {cz:Nat} {rs:List Int} {z:Int} (hs:Wh w nz az cz rs z):Wh ((w.setCell ⟨g,0,none⟩ (.bool b)).setCell ⟨g,1,none⟩ u) nz az cz rs z :=
 ⟨⟨h.sl b u hs.1.1,hs.1.2⟩,hs.2⟩
theorem aad {B:Nat} {w w1:World} {g:Nat} (hb:Below B w w1) (hg:B≤g) (b u:Value):Below B w ((w1.setCell ⟨g,0,none⟩ b).setCell ⟨g,1,none⟩ u):=(hb.setCell hg _).setCell hg _
theorem boxed (w:World) (ng:Bool) (v:Value):Box (w.alloc (.cells #[.bool ng,v] 51)) w.heap.size ng v∧Below w.heap.size w (w.alloc (.cells #[.bool ng,v] 51))∧(w.alloc (.cells #[.bool ng,v] 51)).heap.size=w.heap.size+1 :=
 ⟨heap_alloc_new w _,(Below.refl _ _).alloc (Nat.le_refl _) _,by simp⟩
theorem acc (w:World) (ng:Bool) (v:Value):∃ w0:World,(w.alloc (.cells #[.bool ng,v] 51)).alloc (.cells #[.bool false,.slice none 0 0] 51)=w0∧Box w0 w.heap.size ng v∧Box w0 (w.heap.size+1) false (.slice none 0 0)∧Below w.heap.size w w0∧w0.heap.size=w.heap.size+2:=by
 have h1:=boxed w ng v
 have h2:=boxed (w.alloc (.cells #[.bool ng,v] 51)) false (.slice none 0 0)
 rw [h1.2.2] at h2
 refine ⟨_,rfl,h1.1.below (by rw [h1.2.2];exact h2.2.1),h2.1,h1.2.1.trans (h2.2.1.mono (by omega)),h2.2.2⟩
theorem ahj (ng:Bool) (x:Int):sg (!ng) x = - sg ng x:=by cases ng <;> simp [sg]
theorem abm (w:World) (ng:Bool) (v:Value):∃ w0:World,w.alloc (.cells #[.bool ng,v] 51)=w0∧Box w0 w.heap.size ng v∧Below w.heap.size w w0∧w0.heap.size=w.heap.size+1 :=
 ⟨_,rfl,(boxed w ng v).1,(boxed w ng v).2.1,(boxed w ng v).2.2⟩
theorem afw (w:World) (nx:Bool) (vx:Value) (ny:Bool) (vy:Value):∃ w0:World,(w.alloc (.cells #[.bool nx,vx] 51)).alloc (.cells #[.bool ny,vy] 51)=w0∧Box w0 w.heap.size nx vx∧Box w0 (w.heap.size+1) ny vy∧Below w.heap.size w w0∧w0.heap.size=w.heap.size+2:=by
 have h1:=boxed w nx vx
 have h2:=boxed (w.alloc (.cells #[.bool nx,vx] 51)) ny vy
 rw [h1.2.2] at h2
 refine ⟨_,rfl,h1.1.below (by rw [h1.2.2];exact h2.2.1),h2.1,h1.2.1.trans (h2.2.1.mono (by omega)),h2.2.2⟩
theorem acj (w:World) (nx:Bool) (vx:Value) (ny:Bool) (vy:Value):∃ w0:World,((w.alloc (.cells #[.bool nx,vx] 51)).alloc (.cells #[.bool ny,vy] 51)).alloc (.cells #[.bool false,.slice none 0 0] 51)=w0∧Box w0 w.heap.size nx vx∧Box w0 (w.heap.size+1) ny vy∧Box w0 (w.heap.size+1+1) false (.slice none 0 0)∧Below w.heap.size w w0∧w0.heap.size=w.heap.size+3:=by
 obtain ⟨w2,e2,b1,b2,hb,hs⟩:=afw w nx vx ny vy
 have h2:=boxed w2 false (.slice none 0 0)
 rw [e2]
 refine ⟨_,rfl,b1.below h2.2.1,b2.below h2.2.1,?_,hb.trans (h2.2.1.mono (by omega)),by rw [h2.2.2,hs]⟩
 have h3:=h2.1
 rw [hs] at h3
 exact h3
theorem ahk (ng:Bool) (x y:Int):sg ng (x+y)=sg ng x+sg ng y:=by cases ng <;> simp [sg] <;> omega
theorem ajx (n1 n2:Bool) (x y:Int):sg (n1 != n2) (x*y)=sg n1 x*sg n2 y:=by cases n1 <;> cases n2 <;> simp [sg,Int.mul_neg,Int.neg_mul]
theorem Dl.open {B:Nat} {w:World} {v:Value} {x:Int} {n:Nat} (h:Dl B w v x n):∃ ao cap ds,v=.slice ao ds.length cap∧Sl w (.slice ao ds.length cap) ds∧Dm.val ds=x∧ds.length≤n:=by
 obtain ⟨ds,ho,hv,hn⟩:=h
 obtain ⟨ao,cap,rfl,hs,_,_⟩:=ho.open
 exact ⟨ao,cap,ds,rfl,hs,hv,hn⟩
theorem abk (w:World) (ng:Bool) (ao:Option Addr) (cap:Nat) (ds:List Int) (x:Int) (h:Sl w (.slice ao ds.length cap) ds) (hv:Dm.val ds=x) :
  Calls Tryz.prog 75 #[.bool ng,.slice ao ds.length cap] w fun e w'=>∃ ng' rs,e=.returned (.agg #[.bool ng',.slice ao rs.length cap])∧Wh w' ng' ao cap rs (sg ng x)∧rs.length≤ds.length∧Below w.heap.size w w' := by
 refine (akf w ng ao ds.length cap ds h).mono ?_
 rintro e w' ⟨rfl,hb⟩
 have hl:=h.parts.2.2.2
 have ht:=aav ds
 have e1:(ds.take (tl ds)).length=tl ds:=by rw [List.length_take];omega
 have g:Got w' ao cap (ds.take (tl ds)) x:=⟨by rw [e1];exact (h.take ht).below hb,aa3 hl,by rw [aai,hv]⟩
 have g2:=Wh.of ng g
 rw [e1] at g2
 exact ⟨_,ds.take (tl ds),by rw [e1],g2,by omega,hb⟩
theorem Wh.zero {w:World} {ng:Bool} {ao:Option Addr} {cap:Nat} {rs:List Int} {z:Int} (h:Wh w ng ao cap rs z):z=0↔rs = []:=by
 have:=acs h.1.canon
 rw [h.1.val] at this
 rw [←this]
 omega
theorem Wh.len {w:World} {ng:Bool} {ao:Option Addr} {cap:Nat} {rs:List Int} {z:Int} (h:Wh w ng ao cap rs z) {m:Nat} (hz:(z.natAbs:Int)<pw m):rs.length≤m:=aax h.1.canon (by rw [h.1.val];exact hz)
end Dm
end Go.Proofs.YtgmobkafnefpfaaGreat
namespace Go.Proofs.YtgmobkafnefpfaaGreat
namespace Dm
open Go.RowKit
open Lm (hide aak aaa cmpI abe abj)
set_option maxRecDepth 20000 in
set_option maxHeartbeats 1000000 in
theorem apw (w:World) (n1:Bool) (a1:Option Addr) (c1:Nat) (xs:List Int) (x:Int) (hx:Got w a1 c1 xs x) (a2:Option Addr) (c2:Nat) (ys:List Int) (y:Int) (hy:Got w a2 c2 ys y) (m1:xs.length≤400000) (m2:ys.length≤400000) :
  Calls Tryz.prog 43 #[.agg #[.bool n1,.slice a1 xs.length c1],.agg #[.bool n1,.slice a2 ys.length c2]] w fun e w'=>∃ ng' ao cap rs,e=.returned (.agg #[.bool ng',.slice ao rs.length cap])∧Wh w' ng' ao cap rs (sg n1 x+sg n1 y)∧rs.length≤xs.length+ys.length+1∧Below w.heap.size w w' := by
 obtain ⟨w0,e0,bx,by',br,hb0,hs0⟩:=acj w n1 (.slice a1 xs.length c1) (n1) (.slice a2 ys.length c2)
 have E0:=hide e0
 have hx0:=hx.below hb0
 have hy0:=hy.below hb0
 have HB:=hb0
 have ne1:¬ (w.heap.size=w.heap.size+1+1):=by omega
 have ne2:¬ (w.heap.size+1+1=w.heap.size):=by omega
 clear e0 hs0
 cases n1 with
 | false =>
  go_enter Tryz.func43,Tryz.ntmps43
  go_wp2_with fail
  rw [E0.out]
  obtain ⟨bx1,bx2,bx3,bx4⟩:=bx.facts
  obtain ⟨by1,by2,by3,by4⟩:=by'.facts
  obtain ⟨br1,br2,br3,br4⟩:=br.facts
  go_region_held3 (fun w'=>w'.cell? ⟨w.heap.size,0,none⟩ = some (.bool false)∧w'.cell? ⟨w.heap.size,1,none⟩ = some (.slice a1 xs.length c1)∧w'.cell? ⟨w.heap.size+1,0,none⟩ = some (.bool false)∧w'.cell? ⟨w.heap.size+1,1,none⟩ = some (.slice a2 ys.length c2)) (go_keep) (first
    | (go_at_call 75;have _hq:=hb1';refine (abk _ _ p1 q1 d1 _ (s1.below (by repeat (first | exact Below.refl _ _ | refine Below.drew ?_))) e1).mono ?_;rintro e w2 ⟨ng2,r2,rfl,G2,l2,hb2⟩;have hb2' : Below w1.heap.size w1 w2:=(show Below w1.heap.size w1 _ by repeat (first | exact Below.refl _ _ | refine Below.drew ?_)).trans hb2;have HB:=HB.trans (hb2'.mono HB.size);replace bx:=bx.below hb2';clear bx1 bx2 bx3 bx4;obtain ⟨bx1,bx2,bx3,bx4⟩:=bx.facts;replace by' := by'.below hb2';clear by1 by2 by3 by4;obtain ⟨by1,by2,by3,by4⟩:=by'.facts;replace br:=br.below hb2';clear br1 br2 br3 br4;obtain ⟨br1,br2,br3,br4⟩:=br.facts)
    | (go_at_call 76;refine (aki _ _ _ _ xs (hx0.sl.below (by repeat (first | exact Below.refl _ _ | refine Below.drew ?_))) _ _ _ ys (hy0.sl.below (by repeat (first | exact Below.refl _ _ | refine Below.drew ?_))) (by omega) (by omega)).mono ?_;rintro e w1 ⟨v1,rfl,D1,hb1⟩;obtain ⟨p1,q1,d1,rfl,s1,e1,l1⟩:=D1.open;clear D1;have hb1' : Below w0.heap.size w0 w1:=(show Below w0.heap.size w0 _ by repeat (first | exact Below.refl _ _ | refine Below.drew ?_)).trans hb1;have HB:=HB.trans (hb1'.mono HB.size);replace bx:=bx.below hb1';clear bx1 bx2 bx3 bx4;obtain ⟨bx1,bx2,bx3,bx4⟩:=bx.facts;replace by' := by'.below hb1';clear by1 by2 by3 by4;obtain ⟨by1,by2,by3,by4⟩:=by'.facts;replace br:=br.below hb1';clear br1 br2 br3 br4;obtain ⟨br1,br2,br3,br4⟩:=br.facts))
  all_goals
   have X:=hide (br.set ng2 (.slice p1 r2.length q1)).facts
   have Y:=hide (br.wh ng2 (.slice p1 r2.length q1) G2)
   have Z:=hide (aad HB (show w.heap.size≤w.heap.size+1+1 by omega) (.bool ng2) (.slice p1 r2.length q1))
   clear bx1 bx2 bx3 bx4 by1 by2 by3 by4
   go_wp2
   refine bodyPost_ret (v:=.agg #[.bool ng2,.slice p1 r2.length q1]) ?_ rfl ⟨ng2,p1,q1,r2,rfl,by rw [←ahk,←hx.val,←hy.val];exact Y.out,by omega,Z.out⟩
   simp [results,Tryz.results43,go_sem,X.out.1,X.out.2.1]
 | true =>
  go_enter Tryz.func43,Tryz.ntmps43
  go_wp2_with fail
  rw [E0.out]
  obtain ⟨bx1,bx2,bx3,bx4⟩:=bx.facts
  obtain ⟨by1,by2,by3,by4⟩:=by'.facts
  obtain ⟨br1,br2,br3,br4⟩:=br.facts
  go_region_held3 (fun w'=>w'.cell? ⟨w.heap.size,0,none⟩ = some (.bool true)∧w'.cell? ⟨w.heap.size,1,none⟩ = some (.slice a1 xs.length c1)∧w'.cell? ⟨w.heap.size+1,0,none⟩ = some (.bool true)∧w'.cell? ⟨w.heap.size+1,1,none⟩ = some (.slice a2 ys.length c2)) (go_keep) (first
    | (go_at_call 75;have _hq:=hb1';refine (abk _ _ p1 q1 d1 _ (s1.below (by repeat (first | exact Below.refl _ _ | refine Below.drew ?_))) e1).mono ?_;rintro e w2 ⟨ng2,r2,rfl,G2,l2,hb2⟩;have hb2' : Below w1.heap.size w1 w2:=(show Below w1.heap.size w1 _ by repeat (first | exact Below.refl _ _ | refine Below.drew ?_)).trans hb2;have HB:=HB.trans (hb2'.mono HB.size);replace bx:=bx.below hb2';clear bx1 bx2 bx3 bx4;obtain ⟨bx1,bx2,bx3,bx4⟩:=bx.facts;replace by' := by'.below hb2';clear by1 by2 by3 by4;obtain ⟨by1,by2,by3,by4⟩:=by'.facts;replace br:=br.below hb2';clear br1 br2 br3 br4;obtain ⟨br1,br2,br3,br4⟩:=br.facts)
    | (go_at_call 76;refine (aki _ _ _ _ xs (hx0.sl.below (by repeat (first | exact Below.refl _ _ | refine Below.drew ?_))) _ _ _ ys (hy0.sl.below (by repeat (first | exact Below.refl _ _ | refine Below.drew ?_))) (by omega) (by omega)).mono ?_;rintro e w1 ⟨v1,rfl,D1,hb1⟩;obtain ⟨p1,q1,d1,rfl,s1,e1,l1⟩:=D1.open;clear D1;have hb1' : Below w0.heap.size w0 w1:=(show Below w0.heap.size w0 _ by repeat (first | exact Below.refl _ _ | refine Below.drew ?_)).trans hb1;have HB:=HB.trans (hb1'.mono HB.size);replace bx:=bx.below hb1';clear bx1 bx2 bx3 bx4;obtain ⟨bx1,bx2,bx3,bx4⟩:=bx.facts;replace by' := by'.below hb1';clear by1 by2 by3 by4;obtain ⟨by1,by2,by3,by4⟩:=by'.facts;replace br:=br.below hb1';clear br1 br2 br3 br4;obtain ⟨br1,br2,br3,br4⟩:=br.facts))
  all_goals
   have X:=hide (br.set ng2 (.slice p1 r2.length q1)).facts
   have Y:=hide (br.wh ng2 (.slice p1 r2.length q1) G2)
   have Z:=hide (aad HB (show w.heap.size≤w.heap.size+1+1 by omega) (.bool ng2) (.slice p1 r2.length q1))
   clear bx1 bx2 bx3 bx4 by1 by2 by3 by4
   go_wp2
   refine bodyPost_ret (v:=.agg #[.bool ng2,.slice p1 r2.length q1]) ?_ rfl ⟨ng2,p1,q1,r2,rfl,by rw [←ahk,←hx.val,←hy.val];exact Y.out,by omega,Z.out⟩
   simp [results,Tryz.results43,go_sem,X.out.1,X.out.2.1]
set_option maxRecDepth 20000 in
set_option maxHeartbeats 1000000 in
theorem au3 (w:World) (n1:Bool) (a1:Option Addr) (c1:Nat) (xs:List Int) (x:Int) (hx:Got w a1 c1 xs x) (a2:Option Addr) (c2:Nat) (ys:List Int) (y:Int) (hy:Got w a2 c2 ys y) (m1:xs.length≤400000) (m2:ys.length≤400000) (hle:y≤x) (h0:0<x) :
  Calls Tryz.prog 43 #[.agg #[.bool n1,.slice a1 xs.length c1],.agg #[.bool (!n1),.slice a2 ys.length c2]] w fun e w'=>∃ ng' ao cap rs,e=.returned (.agg #[.bool ng',.slice ao rs.length cap])∧Wh w' ng' ao cap rs (sg n1 x+sg (!n1) y)∧rs.length≤xs.length+ys.length+1∧Below w.heap.size w w' := by
 obtain ⟨w0,e0,bx,by',br,hb0,hs0⟩:=acj w n1 (.slice a1 xs.length c1) (!n1) (.slice a2 ys.length c2)
 have E0:=hide e0
 have hx0:=hx.below hb0
 have hy0:=hy.below hb0
 have HB:=hb0
 have ne1:¬ (w.heap.size=w.heap.size+1+1):=by omega
 have ne2:¬ (w.heap.size+1+1=w.heap.size):=by omega
 clear e0 hs0
 have K:=hide (fun w hx hy=>afd w n1 (!n1) a1 a2 c1 c2 xs ys x y hx hy)
 have hc:0≤cmpI x y:=by
  rcases Int.lt_trichotomy x y with h | h | h
  ·omega
  ·rw [Lm.ad9 h];omega
  ·rw [abj h];omega
 have hpos:0<xs.length:=by
  apply Classical.byContradiction
  intro hn
  have:=akh hx (by omega)
  omega
 have hlen:ys.length≤xs.length:=by
  apply Classical.byContradiction
  intro hn
  have:=ada hx.canon hy.canon (by omega)
  rw [hx.val,hy.val] at this
  omega
 generalize cmpI x y=cv at K hc
 cases n1 with
 | false =>
  simp only [Bool.not_false] at E0 by' K ⊢
  go_enter Tryz.func43,Tryz.ntmps43
  go_wp2_with fail
  rw [E0.out]
  obtain ⟨bx1,bx2,bx3,bx4⟩:=bx.facts
  obtain ⟨by1,by2,by3,by4⟩:=by'.facts
  obtain ⟨br1,br2,br3,br4⟩:=br.facts
  refine (K.out _ hx0 hy0).mono ?_
  rintro e w9 ⟨rfl,hb9⟩
  replace HB:=HB.trans (hb9.mono HB.size)
  replace hx0:=hx0.below hb9
  replace hy0:=hy0.below hb9
  replace bx:=bx.below hb9
  replace by' := by'.below hb9
  replace br:=br.below hb9
  clear bx1 bx2 bx3 bx4 by1 by2 by3 by4 br1 br2 br3 br4
  obtain ⟨bx1,bx2,bx3,bx4⟩:=bx.facts
  obtain ⟨by1,by2,by3,by4⟩:=by'.facts
  obtain ⟨br1,br2,br3,br4⟩:=br.facts
  go_wp2_with fail
  go_region_held3 (fun w'=>w'.cell? ⟨w.heap.size,0,none⟩ = some (.bool false)∧w'.cell? ⟨w.heap.size,1,none⟩ = some (.slice a1 xs.length c1)∧w'.cell? ⟨w.heap.size+1,0,none⟩ = some (.bool true)∧w'.cell? ⟨w.heap.size+1,1,none⟩ = some (.slice a2 ys.length c2)) (go_keep) (first
    | (go_at_call 75;have _hq:=hb1';refine (abk _ _ p1 q1 d1 _ (s1.below (by repeat (first | exact Below.refl _ _ | refine Below.drew ?_))) e1).mono ?_;rintro e w2 ⟨ng2,r2,rfl,G2,l2,hb2⟩;have hb2' : Below w1.heap.size w1 w2:=(show Below w1.heap.size w1 _ by repeat (first | exact Below.refl _ _ | refine Below.drew ?_)).trans hb2;have HB:=HB.trans (hb2'.mono HB.size);replace bx:=bx.below hb2';clear bx1 bx2 bx3 bx4;obtain ⟨bx1,bx2,bx3,bx4⟩:=bx.facts;replace by' := by'.below hb2';clear by1 by2 by3 by4;obtain ⟨by1,by2,by3,by4⟩:=by'.facts;replace br:=br.below hb2';clear br1 br2 br3 br4;obtain ⟨br1,br2,br3,br4⟩:=br.facts)
    | (go_at_call 78;refine (adg _ _ _ _ xs (hx0.sl.below (by repeat (first | exact Below.refl _ _ | refine Below.drew ?_))) _ _ _ ys (hy0.sl.below (by repeat (first | exact Below.refl _ _ | refine Below.drew ?_))) (by omega) hlen (by rw [hx.val,hy.val];exact hle) hpos).mono ?_;rintro e w1 ⟨v1,rfl,D1,hb1⟩;obtain ⟨p1,q1,d1,rfl,s1,e1,l1⟩:=D1.open;clear D1;have hb1' : Below w9.heap.size w9 w1:=(show Below w9.heap.size w9 _ by repeat (first | exact Below.refl _ _ | refine Below.drew ?_)).trans hb1;have HB:=HB.trans (hb1'.mono HB.size);replace bx:=bx.below hb1';clear bx1 bx2 bx3 bx4;obtain ⟨bx1,bx2,bx3,bx4⟩:=bx.facts;replace by' := by'.below hb1';clear by1 by2 by3 by4;obtain ⟨by1,by2,by3,by4⟩:=by'.facts;replace br:=br.below hb1';clear br1 br2 br3 br4;obtain ⟨br1,br2,br3,br4⟩:=br.facts))
  all_goals
   have X:=hide (br.set ng2 (.slice p1 r2.length q1)).facts
   have Y:=hide (br.wh ng2 (.slice p1 r2.length q1) G2)
   have Z:=hide (aad HB (show w.heap.size≤w.heap.size+1+1 by omega) (.bool ng2) (.slice p1 r2.length q1))
   clear bx1 bx2 bx3 bx4 by1 by2 by3 by4
   go_wp2
   refine bodyPost_ret (v:=.agg #[.bool ng2,.slice p1 r2.length q1]) ?_ rfl ⟨ng2,p1,q1,r2,rfl,by rw [show sg false x+sg true y=sg false (Dm.val xs - Dm.val ys) by rw [hx.val,hy.val];simp [sg];omega];exact Y.out,by omega,Z.out⟩
   simp [results,Tryz.results43,go_sem,X.out.1,X.out.2.1]
 | true =>
  simp only [Bool.not_true] at E0 by' K ⊢
  go_enter Tryz.func43,Tryz.ntmps43
  go_wp2_with fail
  rw [E0.out]
  obtain ⟨bx1,bx2,bx3,bx4⟩:=bx.facts
  obtain ⟨by1,by2,by3,by4⟩:=by'.facts
  obtain ⟨br1,br2,br3,br4⟩:=br.facts
  refine (K.out _ hx0 hy0).mono ?_
  rintro e w9 ⟨rfl,hb9⟩
  replace HB:=HB.trans (hb9.mono HB.size)
  replace hx0:=hx0.below hb9
  replace hy0:=hy0.below hb9
  replace bx:=bx.below hb9
  replace by' := by'.below hb9
  replace br:=br.below hb9
  clear bx1 bx2 bx3 bx4 by1 by2 by3 by4 br1 br2 br3 br4
  obtain ⟨bx1,bx2,bx3,bx4⟩:=bx.facts
  obtain ⟨by1,by2,by3,by4⟩:=by'.facts
  obtain ⟨br1,br2,br3,br4⟩:=br.facts
  go_wp2_with fail
  go_region_held3 (fun w'=>w'.cell? ⟨w.heap.size,0,none⟩ = some (.bool true)∧w'.cell? ⟨w.heap.size,1,none⟩ = some (.slice a1 xs.length c1)∧w'.cell? ⟨w.heap.size+1,0,none⟩ = some (.bool false)∧w'.cell? ⟨w.heap.size+1,1,none⟩ = some (.slice a2 ys.length c2)) (go_keep) (first
    | (go_at_call 75;have _hq:=hb1';refine (abk _ _ p1 q1 d1 _ (s1.below (by repeat (first | exact Below.refl _ _ | refine Below.drew ?_))) e1).mono ?_;rintro e w2 ⟨ng2,r2,rfl,G2,l2,hb2⟩;have hb2' : Below w1.heap.size w1 w2:=(show Below w1.heap.size w1 _ by repeat (first | exact Below.refl _ _ | refine Below.drew ?_)).trans hb2;have HB:=HB.trans (hb2'.mono HB.size);replace bx:=bx.below hb2';clear bx1 bx2 bx3 bx4;obtain ⟨bx1,bx2,bx3,bx4⟩:=bx.facts;replace by' := by'.below hb2';clear by1 by2 by3 by4;obtain ⟨by1,by2,by3,by4⟩:=by'.facts;replace br:=br.below hb2';clear br1 br2 br3 br4;obtain ⟨br1,br2,br3,br4⟩:=br.facts)
    | (go_at_call 78;refine (adg _ _ _ _ xs (hx0.sl.below (by repeat (first | exact Below.refl _ _ | refine Below.drew ?_))) _ _ _ ys (hy0.sl.below (by repeat (first | exact Below.refl _ _ | refine Below.drew ?_))) (by omega) hlen (by rw [hx.val,hy.val];exact hle) hpos).mono ?_;rintro e w1 ⟨v1,rfl,D1,hb1⟩;obtain ⟨p1,q1,d1,rfl,s1,e1,l1⟩:=D1.open;clear D1;have hb1' : Below w9.heap.size w9 w1:=(show Below w9.heap.size w9 _ by repeat (first | exact Below.refl _ _ | refine Below.drew ?_)).trans hb1;have HB:=HB.trans (hb1'.mono HB.size);replace bx:=bx.below hb1';clear bx1 bx2 bx3 bx4;obtain ⟨bx1,bx2,bx3,bx4⟩:=bx.facts;replace by' := by'.below hb1';clear by1 by2 by3 by4;obtain ⟨by1,by2,by3,by4⟩:=by'.facts;replace br:=br.below hb1';clear br1 br2 br3 br4;obtain ⟨br1,br2,br3,br4⟩:=br.facts))
  all_goals
   have X:=hide (br.set ng2 (.slice p1 r2.length q1)).facts
   have Y:=hide (br.wh ng2 (.slice p1 r2.length q1) G2)
   have Z:=hide (aad HB (show w.heap.size≤w.heap.size+1+1 by omega) (.bool ng2) (.slice p1 r2.length q1))
   clear bx1 bx2 bx3 bx4 by1 by2 by3 by4
   go_wp2
   refine bodyPost_ret (v:=.agg #[.bool ng2,.slice p1 r2.length q1]) ?_ rfl ⟨ng2,p1,q1,r2,rfl,by rw [show sg true x+sg false y=sg true (Dm.val xs - Dm.val ys) by rw [hx.val,hy.val];simp [sg];omega];exact Y.out,by omega,Z.out⟩
   simp [results,Tryz.results43,go_sem,X.out.1,X.out.2.1]
set_option maxRecDepth 20000 in
set_option maxHeartbeats 1000000 in
theorem au4 (w:World) (n1:Bool) (a1:Option Addr) (c1:Nat) (xs:List Int) (x:Int) (hx:Got w a1 c1 xs x) (a2:Option Addr) (c2:Nat) (ys:List Int) (y:Int) (hy:Got w a2 c2 ys y) (m1:xs.length≤400000) (m2:ys.length≤400000) (hle:x<y) :
  Calls Tryz.prog 43 #[.agg #[.bool n1,.slice a1 xs.length c1],.agg #[.bool (!n1),.slice a2 ys.length c2]] w fun e w'=>∃ ng' ao cap rs,e=.returned (.agg #[.bool ng',.slice ao rs.length cap])∧Wh w' ng' ao cap rs (sg n1 x+sg (!n1) y)∧rs.length≤xs.length+ys.length+1∧Below w.heap.size w w' := by
 obtain ⟨w0,e0,bx,by',br,hb0,hs0⟩:=acj w n1 (.slice a1 xs.length c1) (!n1) (.slice a2 ys.length c2)
 have E0:=hide e0
 have hx0:=hx.below hb0
 have hy0:=hy.below hb0
 have HB:=hb0
 have ne1:¬ (w.heap.size=w.heap.size+1+1):=by omega
 have ne2:¬ (w.heap.size+1+1=w.heap.size):=by omega
 clear e0 hs0
 have K:=hide (fun w hx hy=>afd w n1 (!n1) a1 a2 c1 c2 xs ys x y hx hy)
 have hc:¬ 0≤cmpI x y:=by rw [abe hle];omega
 have hpos:0<ys.length:=by
  apply Classical.byContradiction
  intro hn
  have h1:=akh hy (by omega)
  have h2:=(aab hx.canon.1).1
  rw [hx.val] at h2
  omega
 have hlen:xs.length≤ys.length:=by
  apply Classical.byContradiction
  intro hn
  have:=ada hy.canon hx.canon (by omega)
  rw [hx.val,hy.val] at this
  omega
 generalize cmpI x y=cv at K hc
 cases n1 with
 | false =>
  simp only [Bool.not_false] at E0 by' K ⊢
  go_enter Tryz.func43,Tryz.ntmps43
  go_wp2_with fail
  rw [E0.out]
  obtain ⟨bx1,bx2,bx3,bx4⟩:=bx.facts
  obtain ⟨by1,by2,by3,by4⟩:=by'.facts
  obtain ⟨br1,br2,br3,br4⟩:=br.facts
  refine (K.out _ hx0 hy0).mono ?_
  rintro e w9 ⟨rfl,hb9⟩
  replace HB:=HB.trans (hb9.mono HB.size)
  replace hx0:=hx0.below hb9
  replace hy0:=hy0.below hb9
  replace bx:=bx.below hb9
  replace by' := by'.below hb9
  replace br:=br.below hb9
  clear bx1 bx2 bx3 bx4 by1 by2 by3 by4 br1 br2 br3 br4
  obtain ⟨bx1,bx2,bx3,bx4⟩:=bx.facts
  obtain ⟨by1,by2,by3,by4⟩:=by'.facts
  obtain ⟨br1,br2,br3,br4⟩:=br.facts
  go_wp2_with fail
  go_region_held3 (fun w'=>w'.cell? ⟨w.heap.size,0,none⟩ = some (.bool false)∧w'.cell? ⟨w.heap.size,1,none⟩ = some (.slice a1 xs.length c1)∧w'.cell? ⟨w.heap.size+1,0,none⟩ = some (.bool true)∧w'.cell? ⟨w.heap.size+1,1,none⟩ = some (.slice a2 ys.length c2)) (go_keep) (first
    | (go_at_call 75;have _hq:=hb1';refine (abk _ _ p1 q1 d1 _ (s1.below (by repeat (first | exact Below.refl _ _ | refine Below.drew ?_))) e1).mono ?_;rintro e w2 ⟨ng2,r2,rfl,G2,l2,hb2⟩;have hb2' : Below w1.heap.size w1 w2:=(show Below w1.heap.size w1 _ by repeat (first | exact Below.refl _ _ | refine Below.drew ?_)).trans hb2;have HB:=HB.trans (hb2'.mono HB.size);replace bx:=bx.below hb2';clear bx1 bx2 bx3 bx4;obtain ⟨bx1,bx2,bx3,bx4⟩:=bx.facts;replace by' := by'.below hb2';clear by1 by2 by3 by4;obtain ⟨by1,by2,by3,by4⟩:=by'.facts;replace br:=br.below hb2';clear br1 br2 br3 br4;obtain ⟨br1,br2,br3,br4⟩:=br.facts)
    | (go_at_call 78;refine (adg _ _ _ _ ys (hy0.sl.below (by repeat (first | exact Below.refl _ _ | refine Below.drew ?_))) _ _ _ xs (hx0.sl.below (by repeat (first | exact Below.refl _ _ | refine Below.drew ?_))) (by omega) hlen (by rw [hx.val,hy.val];omega) hpos).mono ?_;rintro e w1 ⟨v1,rfl,D1,hb1⟩;obtain ⟨p1,q1,d1,rfl,s1,e1,l1⟩:=D1.open;clear D1;have hb1' : Below w9.heap.size w9 w1:=(show Below w9.heap.size w9 _ by repeat (first | exact Below.refl _ _ | refine Below.drew ?_)).trans hb1;have HB:=HB.trans (hb1'.mono HB.size);replace bx:=bx.below hb1';clear bx1 bx2 bx3 bx4;obtain ⟨bx1,bx2,bx3,bx4⟩:=bx.facts;replace by' := by'.below hb1';clear by1 by2 by3 by4;obtain ⟨by1,by2,by3,by4⟩:=by'.facts;replace br:=br.below hb1';clear br1 br2 br3 br4;obtain ⟨br1,br2,br3,br4⟩:=br.facts))
  all_goals
   have X:=hide (br.set ng2 (.slice p1 r2.length q1)).facts
   have Y:=hide (br.wh ng2 (.slice p1 r2.length q1) G2)
   have Z:=hide (aad HB (show w.heap.size≤w.heap.size+1+1 by omega) (.bool ng2) (.slice p1 r2.length q1))
   clear bx1 bx2 bx3 bx4 by1 by2 by3 by4
   go_wp2
   refine bodyPost_ret (v:=.agg #[.bool ng2,.slice p1 r2.length q1]) ?_ rfl ⟨ng2,p1,q1,r2,rfl,by rw [show sg false x+sg true y=sg true (Dm.val ys - Dm.val xs) by rw [hx.val,hy.val];simp [sg];omega];exact Y.out,by omega,Z.out⟩
   simp [results,Tryz.results43,go_sem,X.out.1,X.out.2.1]
 | true =>
  simp only [Bool.not_true] at E0 by' K ⊢
  go_enter Tryz.func43,Tryz.ntmps43
  go_wp2_with fail
  rw [E0.out]
  obtain ⟨bx1,bx2,bx3,bx4⟩:=bx.facts
  obtain ⟨by1,by2,by3,by4⟩:=by'.facts
  obtain ⟨br1,br2,br3,br4⟩:=br.facts
  refine (K.out _ hx0 hy0).mono ?_
  rintro e w9 ⟨rfl,hb9⟩
  replace HB:=HB.trans (hb9.mono HB.size)
  replace hx0:=hx0.below hb9
  replace hy0:=hy0.below hb9
  replace bx:=bx.below hb9
  replace by' := by'.below hb9
  replace br:=br.below hb9
  clear bx1 bx2 bx3 bx4 by1 by2 by3 by4 br1 br2 br3 br4
  obtain ⟨bx1,bx2,bx3,bx4⟩:=bx.facts
  obtain ⟨by1,by2,by3,by4⟩:=by'.facts
  obtain ⟨br1,br2,br3,br4⟩:=br.facts
  go_wp2_with fail
  go_region_held3 (fun w'=>w'.cell? ⟨w.heap.size,0,none⟩ = some (.bool true)∧w'.cell? ⟨w.heap.size,1,none⟩ = some (.slice a1 xs.length c1)∧w'.cell? ⟨w.heap.size+1,0,none⟩ = some (.bool false)∧w'.cell? ⟨w.heap.size+1,1,none⟩ = some (.slice a2 ys.length c2)) (go_keep) (first
    | (go_at_call 75;have _hq:=hb1';refine (abk _ _ p1 q1 d1 _ (s1.below (by repeat (first | exact Below.refl _ _ | refine Below.drew ?_))) e1).mono ?_;rintro e w2 ⟨ng2,r2,rfl,G2,l2,hb2⟩;have hb2' : Below w1.heap.size w1 w2:=(show Below w1.heap.size w1 _ by repeat (first | exact Below.refl _ _ | refine Below.drew ?_)).trans hb2;have HB:=HB.trans (hb2'.mono HB.size);replace bx:=bx.below hb2';clear bx1 bx2 bx3 bx4;obtain ⟨bx1,bx2,bx3,bx4⟩:=bx.facts;replace by' := by'.below hb2';clear by1 by2 by3 by4;obtain ⟨by1,by2,by3,by4⟩:=by'.facts;replace br:=br.below hb2';clear br1 br2 br3 br4;obtain ⟨br1,br2,br3,br4⟩:=br.facts)
    | (go_at_call 78;refine (adg _ _ _ _ ys (hy0.sl.below (by repeat (first | exact Below.refl _ _ | refine Below.drew ?_))) _ _ _ xs (hx0.sl.below (by repeat (first | exact Below.refl _ _ | refine Below.drew ?_))) (by omega) hlen (by rw [hx.val,hy.val];omega) hpos).mono ?_;rintro e w1 ⟨v1,rfl,D1,hb1⟩;obtain ⟨p1,q1,d1,rfl,s1,e1,l1⟩:=D1.open;clear D1;have hb1' : Below w9.heap.size w9 w1:=(show Below w9.heap.size w9 _ by repeat (first | exact Below.refl _ _ | refine Below.drew ?_)).trans hb1;have HB:=HB.trans (hb1'.mono HB.size);replace bx:=bx.below hb1';clear bx1 bx2 bx3 bx4;obtain ⟨bx1,bx2,bx3,bx4⟩:=bx.facts;replace by' := by'.below hb1';clear by1 by2 by3 by4;obtain ⟨by1,by2,by3,by4⟩:=by'.facts;replace br:=br.below hb1';clear br1 br2 br3 br4;obtain ⟨br1,br2,br3,br4⟩:=br.facts))
  all_goals
   have X:=hide (br.set ng2 (.slice p1 r2.length q1)).facts
   have Y:=hide (br.wh ng2 (.slice p1 r2.length q1) G2)
   have Z:=hide (aad HB (show w.heap.size≤w.heap.size+1+1 by omega) (.bool ng2) (.slice p1 r2.length q1))
   clear bx1 bx2 bx3 bx4 by1 by2 by3 by4
   go_wp2
   refine bodyPost_ret (v:=.agg #[.bool ng2,.slice p1 r2.length q1]) ?_ rfl ⟨ng2,p1,q1,r2,rfl,by rw [show sg true x+sg false y=sg false (Dm.val ys - Dm.val xs) by rw [hx.val,hy.val];simp [sg];omega];exact Y.out,by omega,Z.out⟩
   simp [results,Tryz.results43,go_sem,X.out.1,X.out.2.1]
theorem ahu (w:World) (n1:Bool) (a1:Option Addr) (c1:Nat) (xs:List Int) (x:Int) (hx:Wh w n1 a1 c1 xs x) (n2:Bool) (a2:Option Addr) (c2:Nat) (ys:List Int) (y:Int) (hy:Wh w n2 a2 c2 ys y) (m1:xs.length≤400000) (m2:ys.length≤400000) :
  Calls Tryz.prog 43 #[.agg #[.bool n1,.slice a1 xs.length c1],.agg #[.bool n2,.slice a2 ys.length c2]] w fun e w'=>∃ ng' ao cap rs,e=.returned (.agg #[.bool ng',.slice ao rs.length cap])∧Wh w' ng' ao cap rs (x+y)∧rs.length≤xs.length+ys.length+1∧Below w.heap.size w w' := by
 have wx:=hx.worth
 have wy:=hy.worth
 rw [hx.1.val] at wx
 rw [hy.1.val] at wy
 rw [show x+y=sg n1 (x.natAbs:Int)+sg n2 (y.natAbs:Int) by rw [wx,wy]]
 by_cases hn:n1=n2
 ·subst hn
  exact apw w n1 a1 c1 xs _ hx.1 a2 c2 ys _ hy.1 m1 m2
 ·have hn2:n2 = !n1:=by cases n1 <;> cases n2 <;> simp_all
  have s1:=hx.2
  have s2:=hy.2
  subst hn2
  by_cases hle:(y.natAbs:Int)≤(x.natAbs:Int)
  ·refine au3 w n1 a1 c1 xs _ hx.1 a2 c2 ys _ hy.1 m1 m2 hle ?_
   cases n1
   ·have:y<0:=by simpa using s2.symm
    omega
   ·have:x<0:=by simpa using s1.symm
    omega
  ·exact au4 w n1 a1 c1 xs _ hx.1 a2 c2 ys _ hy.1 m1 m2 (by omega)
end Dm
end Go.Proofs.YtgmobkafnefpfaaGreat
namespace Go.Proofs.YtgmobkafnefpfaaGreat
namespace Dm
open Go.RowKit
open Lm (hide aak aaa cmpI abe abj)
theorem copied {w:World} {B g n cap:Nat} {zs:List Int} (h:w.ownsRow B 3 1 (.slice (some ⟨g,0,none⟩) n cap) n ([] ++ zs.map (Value.int .i64))) (hz:Limb zs):Sl w (.slice (some ⟨g,0,none⟩) zs.length cap) zs:=by
 have hn:zs.length=n:=by simpa using h.1
 subst hn
 rw [List.nil_append] at h
 exact (abi h hz).sl
set_option maxRecDepth 20000 in
set_option maxHeartbeats 1000000 in
theorem anu (w:World) (ng:Bool) (a1:Option Addr) (c1:Nat) (xs:List Int) (x:Int) (hx:Got w a1 c1 xs x) (m1:xs.length≤1000000) (h0:0<xs.length) :
  Calls Tryz.prog 42 #[.agg #[.bool ng,.slice a1 xs.length c1]] w fun e w'=>∃ ng' ao cap rs,e=.returned (.agg #[.bool ng',.slice ao rs.length cap])∧Wh w' ng' ao cap rs (sg (!ng) x)∧rs.length≤xs.length∧Below w.heap.size w w' := by
 obtain ⟨b,off,rfl,_⟩:=hx.sl.cells h0
 obtain ⟨w0,e0,bx,br,hb0,hs0⟩:=acc w ng (.slice (some ⟨b,off,none⟩) xs.length c1)
 have E0:=hide e0
 obtain ⟨i0,hi,hz0,hz1,hz2⟩:=info_parts acl
 obtain ⟨_,p1,p2,p3⟩:=hx.sl.parts
 have P3:=hide p3
 have hx0:=hx.below hb0
 have HB:=hb0
 clear e0 hs0 p3
 go_enter Tryz.func42,Tryz.ntmps42
 go_wp2_with fail
 rw [E0.out]
 obtain ⟨bx1,bx2,bx3,bx4⟩:=bx.facts
 obtain ⟨br1,br2,br3,br4⟩:=br.facts
 go_region_held3 (fun w'=>w'.cell? ⟨w.heap.size,0,none⟩ = some (.bool ng)∧w'.cell? ⟨w.heap.size,1,none⟩ = some (.slice (some ⟨b,off,none⟩) xs.length c1)) (go_keep) (first
  | (go_at_call 75;refine (abk _ _ _ _ xs _ (s1.below (by repeat (first | exact Below.refl _ _ | refine Below.drew ?_))) hx.val).mono ?_;rintro e w2 ⟨ng2,r2,rfl,G2,l2,hb2⟩;have hb2' : Below w1.heap.size w1 w2:=(show Below w1.heap.size w1 _ by repeat (first | exact Below.refl _ _ | refine Below.drew ?_)).trans hb2;have HB:=HB.trans (hb2'.mono HB.size);replace bx:=bx.below hb2';clear bx1 bx2 bx3 bx4;obtain ⟨bx1,bx2,bx3,bx4⟩:=bx.facts;replace br:=br.below hb2';clear br1 br2 br3 br4;obtain ⟨br1,br2,br3,br4⟩:=br.facts)
  | ((refine step_append_lies _ (by rfl) _ _ _ (by rfl) w0.heap.size 3 i0 _ 1 8 Tryz.underlying43 hi hz0 hz1 hz2 rfl (by omega) (.slice none 0 0) 0 [] (by rfl) (World.ownsRow_nil _ _ _ _) ⟨b,off,none⟩ xs.length c1 (xs.map (Value.int .i64)) (by rfl) (by simp) (Sl.copy (hx0.sl.below (by repeat (first | exact Below.refl _ _ | refine Below.drew ?_)))) (ads xs) (by omega) (by unfold maxLen;omega) (by omega) (by simp) w0.heap.size (by simp) ?_;intro g1 q1 w1 hown hgrow hat hlt;have hb1' : Below w0.heap.size w0 w1:=(show Below w0.heap.size w0 _ by repeat (first | exact Below.refl _ _ | refine Below.drew ?_)).grown hgrow (by simp) (by intro k hk;simp [Value.ownBlock] at hk);have HB:=HB.trans (hb1'.mono HB.size);have s1:=copied hown P3.out;replace bx:=bx.below hb1';clear bx1 bx2 bx3 bx4;obtain ⟨bx1,bx2,bx3,bx4⟩:=bx.facts;replace br:=br.below hb1';clear br1 br2 br3 br4;obtain ⟨br1,br2,br3,br4⟩:=br.facts)))
 all_goals
  have X:=hide (br.set ng2 (.slice (some ⟨g1,0,none⟩) r2.length q1)).facts
  have Y:=hide (br.wh ng2 (.slice (some ⟨g1,0,none⟩) r2.length q1) G2)
  have Z:=hide (aad HB (show w.heap.size≤w.heap.size+1 by omega) (.bool ng2) (.slice (some ⟨g1,0,none⟩) r2.length q1))
  clear bx1 bx2 bx3 bx4
  go_wp2
  refine bodyPost_ret (v:=.agg #[.bool ng2,.slice (some ⟨g1,0,none⟩) r2.length q1]) ?_ rfl ⟨ng2,(some ⟨g1,0,none⟩),q1,r2,rfl,Y.out,by omega,Z.out⟩
  simp [results,Tryz.results42,go_sem,X.out.1,X.out.2.1]
set_option maxRecDepth 20000 in
set_option maxHeartbeats 1000000 in
theorem asr (w:World) (ng:Bool) (a1:Option Addr) (c1:Nat) (xs:List Int) (x:Int) (hx:Got w a1 c1 xs x) (m1:xs.length≤1000000) (h0:0<xs.length) :
  Calls Tryz.prog 98 #[.agg #[.bool ng,.slice a1 xs.length c1]] w fun e w'=>∃ ng' ao cap rs,e=.returned (.agg #[.bool ng',.slice ao rs.length cap])∧Wh w' ng' ao cap rs (sg false x)∧rs.length≤xs.length∧Below w.heap.size w w' := by
 obtain ⟨b,off,rfl,_⟩:=hx.sl.cells h0
 obtain ⟨w0,rfl,bx,br,hb0,hs0⟩:=acc w ng (.slice (some ⟨b,off,none⟩) xs.length c1)
 obtain ⟨i0,hi,hz0,hz1,hz2⟩:=info_parts acl
 obtain ⟨_,p1,p2,p3⟩:=hx.sl.parts
 have P3:=hide p3
 have hx0:=hx.below hb0
 have HB:=hb0
 clear p3
 go_enter Tryz.func98,Tryz.ntmps98
 go_wp2_with (at_builtin;refine wpList_append_lies _ rfl _ _ _ rfl w.heap.size 3 i0 _ 1 8 Tryz.underlying43 hi hz0 hz1 hz2 rfl (by omega) (.slice none 0 0) 0 [] rfl (World.ownsRow_nil _ _ _ _) ⟨b,off,none⟩ xs.length c1 (xs.map (Value.int .i64)) rfl (by simp) (Sl.copy hx0.sl) (ads xs) (by omega) (by unfold maxLen;omega) (by omega) (by simp;omega) (w.heap.size+2) (by simp) ?_)
 intro g1 q1 w1 hown hgrow hat hlt
 have hb1:=Below.grown (Below.refl _ _) hgrow (Nat.le_refl _) (by intro k hk;simp [Value.ownBlock] at hk)
 have HB:=HB.trans (hb1.mono HB.size)
 have s1:=copied hown P3.out
 replace bx:=bx.below hb1
 replace br:=br.below hb1
 clear hown hgrow hat hx0
 go_wp2_with fail
 try rw [Nat.zero_add]
 refine (abk _ _ _ _ xs _ s1 hx.val).mono ?_
 rintro e w2 ⟨ng2,r2,rfl,G2,l2,hb2⟩
 replace HB:=HB.trans (hb2.mono HB.size)
 replace bx:=bx.below hb2
 replace br:=br.below hb2
 obtain ⟨bx1,bx2,bx3,bx4⟩:=bx.facts
 obtain ⟨br1,br2,br3,br4⟩:=br.facts
 all_goals
  have X:=hide (br.set ng2 (.slice (some ⟨g1,0,none⟩) r2.length q1)).facts
  have Y:=hide (br.wh ng2 (.slice (some ⟨g1,0,none⟩) r2.length q1) G2)
  have Z:=hide (aad HB (show w.heap.size≤w.heap.size+1 by omega) (.bool ng2) (.slice (some ⟨g1,0,none⟩) r2.length q1))
  clear bx1 bx2 bx3 bx4
  go_wp2
  refine bodyPost_ret (v:=.agg #[.bool ng2,.slice (some ⟨g1,0,none⟩) r2.length q1]) ?_ rfl ⟨ng2,(some ⟨g1,0,none⟩),q1,r2,rfl,Y.out,by omega,Z.out⟩
  simp [results,Tryz.results98,go_sem,X.out.1,X.out.2.1]
theorem ac5 (w:World):Sl w (.slice none ([]:List Int).length 0) []:=⟨none,0,rfl,Nat.le_refl _,by simp [maxLen],aae,.inl rfl⟩
set_option maxRecDepth 20000 in
set_option maxHeartbeats 1000000 in
theorem al3 (w:World) (ng:Bool) (c1:Nat) (_hc:c1≤9223372036854775807) :
  Calls Tryz.prog 42 #[.agg #[.bool ng,.slice none 0 c1]] w fun e w'=>∃ ng' ao cap rs,e=.returned (.agg #[.bool ng',.slice ao rs.length cap])∧Wh w' ng' ao cap rs (sg (!ng) 0)∧rs.length≤0∧Below w.heap.size w w' := by
 obtain ⟨w0,e0,bx,br,hb0,hs0⟩:=acc w ng (.slice none 0 c1)
 have E0:=hide e0
 have HB:=hb0
 clear e0 hs0
 go_enter Tryz.func42,Tryz.ntmps42
 go_wp2_with fail
 rw [E0.out]
 obtain ⟨bx1,bx2,bx3,bx4⟩:=bx.facts
 obtain ⟨br1,br2,br3,br4⟩:=br.facts
 go_region_held3 (fun w'=>w'.cell? ⟨w.heap.size,0,none⟩ = some (.bool ng)∧w'.cell? ⟨w.heap.size,1,none⟩ = some (.slice none 0 c1)) (go_keep) (first
  | (go_at_call 75;refine (abk _ _ none 0 [] 0 (ac5 _) rfl).mono ?_;rintro e w2 ⟨ng2,r2,rfl,G2,l2,hb2⟩;have hb2' : Below w0.heap.size w0 w2:=(show Below w0.heap.size w0 _ by repeat (first | exact Below.refl _ _ | refine Below.drew ?_)).trans hb2;have HB:=HB.trans (hb2'.mono HB.size);replace bx:=bx.below hb2';clear bx1 bx2 bx3 bx4;obtain ⟨bx1,bx2,bx3,bx4⟩:=bx.facts;replace br:=br.below hb2';clear br1 br2 br3 br4;obtain ⟨br1,br2,br3,br4⟩:=br.facts))
 all_goals
  have X:=hide (br.set ng2 (.slice none r2.length 0)).facts
  have Y:=hide (br.wh ng2 (.slice none r2.length 0) G2)
  have Z:=hide (aad HB (show w.heap.size≤w.heap.size+1 by omega) (.bool ng2) (.slice none r2.length 0))
  clear bx1 bx2 bx3 bx4
  go_wp2
  refine bodyPost_ret (v:=.agg #[.bool ng2,.slice none r2.length 0]) ?_ rfl ⟨ng2,none,0,r2,rfl,Y.out,by simpa using l2,Z.out⟩
  simp [results,Tryz.results42,go_sem,X.out.1,X.out.2.1]
set_option maxRecDepth 20000 in
set_option maxHeartbeats 1000000 in
theorem al4 (w:World) (ng:Bool) (ad:Addr) (c1:Nat) (_hc:c1≤9223372036854775807) :
  Calls Tryz.prog 42 #[.agg #[.bool ng,.slice (some ad) 0 c1]] w fun e w'=>∃ ng' ao cap rs,e=.returned (.agg #[.bool ng',.slice ao rs.length cap])∧Wh w' ng' ao cap rs (sg (!ng) 0)∧rs.length≤0∧Below w.heap.size w w' := by
 obtain ⟨w0,e0,bx,br,hb0,hs0⟩:=acc w ng (.slice (some ad) 0 c1)
 have E0:=hide e0
 have HB:=hb0
 clear e0 hs0
 go_enter Tryz.func42,Tryz.ntmps42
 go_wp2_with fail
 rw [E0.out]
 obtain ⟨bx1,bx2,bx3,bx4⟩:=bx.facts
 obtain ⟨br1,br2,br3,br4⟩:=br.facts
 go_region_held3 (fun w'=>w'.cell? ⟨w.heap.size,0,none⟩ = some (.bool ng)∧w'.cell? ⟨w.heap.size,1,none⟩ = some (.slice (some ad) 0 c1)) (go_keep) (first
  | (go_at_call 75;refine (abk _ _ none 0 [] 0 (ac5 _) rfl).mono ?_;rintro e w2 ⟨ng2,r2,rfl,G2,l2,hb2⟩;have hb2' : Below w0.heap.size w0 w2:=(show Below w0.heap.size w0 _ by repeat (first | exact Below.refl _ _ | refine Below.drew ?_)).trans hb2;have HB:=HB.trans (hb2'.mono HB.size);replace bx:=bx.below hb2';clear bx1 bx2 bx3 bx4;obtain ⟨bx1,bx2,bx3,bx4⟩:=bx.facts;replace br:=br.below hb2';clear br1 br2 br3 br4;obtain ⟨br1,br2,br3,br4⟩:=br.facts))
 all_goals
  have X:=hide (br.set ng2 (.slice none r2.length 0)).facts
  have Y:=hide (br.wh ng2 (.slice none r2.length 0) G2)
  have Z:=hide (aad HB (show w.heap.size≤w.heap.size+1 by omega) (.bool ng2) (.slice none r2.length 0))
  clear bx1 bx2 bx3 bx4
  go_wp2
  refine bodyPost_ret (v:=.agg #[.bool ng2,.slice none r2.length 0]) ?_ rfl ⟨ng2,none,0,r2,rfl,Y.out,by simpa using l2,Z.out⟩
  simp [results,Tryz.results42,go_sem,X.out.1,X.out.2.1]
set_option maxRecDepth 20000 in
set_option maxHeartbeats 1000000 in
theorem apx (w:World) (ng:Bool) (c1:Nat) (_hc:c1≤9223372036854775807) :
  Calls Tryz.prog 98 #[.agg #[.bool ng,.slice none 0 c1]] w fun e w'=>∃ ng' ao cap rs,e=.returned (.agg #[.bool ng',.slice ao rs.length cap])∧Wh w' ng' ao cap rs (sg false 0)∧rs.length≤0∧Below w.heap.size w w' := by
 obtain ⟨w0,e0,bx,br,hb0,hs0⟩:=acc w ng (.slice none 0 c1)
 have E0:=hide e0
 have HB:=hb0
 clear e0 hs0
 go_enter Tryz.func98,Tryz.ntmps98
 go_wp2_with fail
 rw [E0.out]
 obtain ⟨bx1,bx2,bx3,bx4⟩:=bx.facts
 obtain ⟨br1,br2,br3,br4⟩:=br.facts
 refine (abk _ _ none 0 [] 0 (ac5 _) rfl).mono ?_
 rintro e w2 ⟨ng2,r2,rfl,G2,l2,hb2⟩
 replace HB:=HB.trans (hb2.mono HB.size)
 replace bx:=bx.below hb2
 replace br:=br.below hb2
 clear bx1 bx2 bx3 bx4 br1 br2 br3 br4
 obtain ⟨bx1,bx2,bx3,bx4⟩:=bx.facts
 obtain ⟨br1,br2,br3,br4⟩:=br.facts
 all_goals
  have X:=hide (br.set ng2 (.slice none r2.length 0)).facts
  have Y:=hide (br.wh ng2 (.slice none r2.length 0) G2)
  have Z:=hide (aad HB (show w.heap.size≤w.heap.size+1 by omega) (.bool ng2) (.slice none r2.length 0))
  clear bx1 bx2 bx3 bx4
  go_wp2
  refine bodyPost_ret (v:=.agg #[.bool ng2,.slice none r2.length 0]) ?_ rfl ⟨ng2,none,0,r2,rfl,Y.out,by simpa using l2,Z.out⟩
  simp [results,Tryz.results98,go_sem,X.out.1,X.out.2.1]
set_option maxRecDepth 20000 in
set_option maxHeartbeats 1000000 in
theorem apy (w:World) (ng:Bool) (ad:Addr) (c1:Nat) (_hc:c1≤9223372036854775807) :
  Calls Tryz.prog 98 #[.agg #[.bool ng,.slice (some ad) 0 c1]] w fun e w'=>∃ ng' ao cap rs,e=.returned (.agg #[.bool ng',.slice ao rs.length cap])∧Wh w' ng' ao cap rs (sg false 0)∧rs.length≤0∧Below w.heap.size w w' := by
 obtain ⟨w0,e0,bx,br,hb0,hs0⟩:=acc w ng (.slice (some ad) 0 c1)
 have E0:=hide e0
 have HB:=hb0
 clear e0 hs0
 go_enter Tryz.func98,Tryz.ntmps98
 go_wp2_with fail
 rw [E0.out]
 obtain ⟨bx1,bx2,bx3,bx4⟩:=bx.facts
 obtain ⟨br1,br2,br3,br4⟩:=br.facts
 refine (abk _ _ none 0 [] 0 (ac5 _) rfl).mono ?_
 rintro e w2 ⟨ng2,r2,rfl,G2,l2,hb2⟩
 replace HB:=HB.trans (hb2.mono HB.size)
 replace bx:=bx.below hb2
 replace br:=br.below hb2
 clear bx1 bx2 bx3 bx4 br1 br2 br3 br4
 obtain ⟨bx1,bx2,bx3,bx4⟩:=bx.facts
 obtain ⟨br1,br2,br3,br4⟩:=br.facts
 all_goals
  have X:=hide (br.set ng2 (.slice none r2.length 0)).facts
  have Y:=hide (br.wh ng2 (.slice none r2.length 0) G2)
  have Z:=hide (aad HB (show w.heap.size≤w.heap.size+1 by omega) (.bool ng2) (.slice none r2.length 0))
  clear bx1 bx2 bx3 bx4
  go_wp2
  refine bodyPost_ret (v:=.agg #[.bool ng2,.slice none r2.length 0]) ?_ rfl ⟨ng2,none,0,r2,rfl,Y.out,by simpa using l2,Z.out⟩
  simp [results,Tryz.results98,go_sem,X.out.1,X.out.2.1]
theorem ai3 (w:World) (ng:Bool) (a1:Option Addr) (c1:Nat) (xs:List Int) (x:Int) (hx:Got w a1 c1 xs x) (m1:xs.length≤1000000) :
  Calls Tryz.prog 42 #[.agg #[.bool ng,.slice a1 xs.length c1]] w fun e w'=>∃ ng' ao cap rs,e=.returned (.agg #[.bool ng',.slice ao rs.length cap])∧Wh w' ng' ao cap rs (sg (!ng) x)∧rs.length≤xs.length∧Below w.heap.size w w' := by
 by_cases h0:0<xs.length
 ·exact anu w ng a1 c1 xs x hx m1 h0
 ·have e:xs = []:=List.eq_nil_of_length_eq_zero (by omega)
  have hx0:x=0:=by rw [←hx.val,e];rfl
  have hc:=hx.sl.parts.2.2.1
  rw [hx0,e]
  cases a1 with
  | none=>exact al3 w ng c1 hc
  | some ad=>exact al4 w ng ad c1 hc
theorem amn (w:World) (ng:Bool) (a1:Option Addr) (c1:Nat) (xs:List Int) (x:Int) (hx:Got w a1 c1 xs x) (m1:xs.length≤1000000) :
  Calls Tryz.prog 98 #[.agg #[.bool ng,.slice a1 xs.length c1]] w fun e w'=>∃ ng' ao cap rs,e=.returned (.agg #[.bool ng',.slice ao rs.length cap])∧Wh w' ng' ao cap rs (sg false x)∧rs.length≤xs.length∧Below w.heap.size w w' := by
 by_cases h0:0<xs.length
 ·exact asr w ng a1 c1 xs x hx m1 h0
 ·have e:xs = []:=List.eq_nil_of_length_eq_zero (by omega)
  have hx0:x=0:=by rw [←hx.val,e];rfl
  have hc:=hx.sl.parts.2.2.1
  rw [hx0,e]
  cases a1 with
  | none=>exact apx w ng c1 hc
  | some ad=>exact apy w ng ad c1 hc
theorem aig (w:World) (n1:Bool) (a1:Option Addr) (c1:Nat) (xs:List Int) (x:Int) (hx:Wh w n1 a1 c1 xs x) (m1:xs.length≤1000000) :
  Calls Tryz.prog 42 #[.agg #[.bool n1,.slice a1 xs.length c1]] w fun e w'=>∃ ng' ao cap rs,e=.returned (.agg #[.bool ng',.slice ao rs.length cap])∧Wh w' ng' ao cap rs (-x)∧rs.length≤xs.length∧Below w.heap.size w w' := by
 have wx:=hx.worth
 rw [hx.1.val] at wx
 rw [show -x=sg (!n1) (x.natAbs:Int) by rw [ahj,wx]]
 exact ai3 w n1 a1 c1 xs _ hx.1 m1
end Dm
end Go.Proofs.YtgmobkafnefpfaaGreat
namespace Go.Proofs.YtgmobkafnefpfaaGreat
namespace Dm
open Go.RowKit
open Lm (hide aak aaa)
theorem ayr (ng:Bool) (x:Int):sg ng x=Lm.sg ng x:=by cases ng <;> simp [sg,Lm.sg]
theorem Wh.nats {w:World} {ao:Option Addr} {cap:Nat} {rs:List Int} {x:Int} (h:Got w ao cap rs x):Wh w false ao cap rs x:=by
 have:=Wh.of false h
 simpa [sg] using this
set_option maxRecDepth 20000 in
set_option maxHeartbeats 1000000 in
theorem ays (w:World) (ng:Bool) (a1:Option Addr) (n1 c1:Nat) (xs:List Int) (hx:Lm.Sl w (.slice a1 n1 c1) xs) (m1:xs.length≤100000) :
  Calls Tryz.prog 79 #[.agg #[.bool ng,.slice a1 n1 c1]] w fun e w'=>∃ ng' ao cap rs,e=.returned (.agg #[.bool ng',.slice ao rs.length cap])∧Wh w' ng' ao cap rs (Lm.sg ng (Lm.val xs))∧rs.length≤3*xs.length∧Below w.heap.size w w' := by
 obtain ⟨w1,e1,bx,hb1,hs1⟩:=Lm.abm w ng (.slice a1 n1 c1)
 obtain ⟨w2,e2,br,hb2,hs2⟩:=abm w1 false (.slice none 0 0)
 have E1:=hide e1
 have E2:=hide e2
 have HB:=hb1.trans (hb2.mono hb1.size)
 replace bx:=bx.below hb2
 rw [hs1] at br
 have hx2:=hx.below HB
 have HS:w2.heap.size=w.heap.size+2:=by omega
 rw [←ayr]
 clear e1 e2 hb1 hb2 hs1 hs2
 cases ng with
 | false =>
  go_enter Tryz.func79,Tryz.ntmps79
  go_upto_region 1 with fail
  rw [E1.out,E2.out]
  obtain ⟨bx1,bx2,bx3,bx4⟩:=bx.facts
  go_wp2_with fail
  refine (afp _ _ _ _ xs hx2 (by omega)).mono ?_
  rintro e w3 ⟨p3,q3,D3,rfl,G3,d3,hb3⟩
  obtain ⟨w4,e4,bn,hb4,hs4⟩:=abm w3 false (.slice p3 D3.length q3)
  have E4:=hide e4
  have z3:=hb3.size
  replace HB:=(HB.trans (hb3.mono HB.size)).trans (hb4.mono (Nat.le_trans HB.size z3))
  replace bx:=(bx.below hb3).below hb4
  replace br:=(br.below hb3).below hb4
  replace G3:=G3.below hb4
  clear e4 hb3 hb4 bx1 bx2 bx3 bx4
  go_upto_region 2 with fail
  rw [E4.out]
  obtain ⟨bx1,bx2,bx3,bx4⟩:=bx.facts
  obtain ⟨br1,br2,br3,br4⟩:=br.facts
  obtain ⟨bn1,bn2,bn3,bn4⟩:=bn.facts
  have F:=hide (br.set false (.slice p3 D3.length q3)).facts
  have Y:=hide (br.wh false (.slice p3 D3.length q3) (Wh.nats G3))
  have Z:=hide (aad HB (show w.heap.size≤w.heap.size+1 by omega) (.bool false) (.slice p3 D3.length q3))
  go_wp2
  refine bodyPost_ret (v:=.agg #[.bool false,.slice p3 D3.length q3]) ?_ rfl ⟨false,p3,q3,D3,rfl,Y.out,by omega,Z.out⟩
  simp [results,Tryz.results79,go_sem,F.out.1,F.out.2.1]
 | true =>
  go_enter Tryz.func79,Tryz.ntmps79
  go_upto_region 1 with fail
  rw [E1.out,E2.out]
  obtain ⟨bx1,bx2,bx3,bx4⟩:=bx.facts
  go_wp2_with fail
  refine (afp _ _ _ _ xs hx2 (by omega)).mono ?_
  rintro e w3 ⟨p3,q3,D3,rfl,G3,d3,hb3⟩
  obtain ⟨w4,e4,bn,hb4,hs4⟩:=abm w3 false (.slice p3 D3.length q3)
  have E4:=hide e4
  have z3:=hb3.size
  replace HB:=(HB.trans (hb3.mono HB.size)).trans (hb4.mono (Nat.le_trans HB.size z3))
  replace bx:=(bx.below hb3).below hb4
  replace br:=(br.below hb3).below hb4
  replace G3:=G3.below hb4
  clear e4 hb3 hb4 bx1 bx2 bx3 bx4
  go_upto_region 2 with fail
  rw [E4.out]
  obtain ⟨bx1,bx2,bx3,bx4⟩:=bx.facts
  obtain ⟨bn1,bn2,bn3,bn4⟩:=bn.facts
  go_wp2_with fail
  refine (ai3 _ _ _ _ D3 _ G3 (by omega)).mono ?_
  rintro e w5 ⟨n5,p5,q5,D5,rfl,G5,d5,hb5⟩
  replace HB:=HB.trans (hb5.mono HB.size)
  replace br:=br.below hb5
  clear bx1 bx2 bx3 bx4 bn1 bn2 bn3 bn4 hb5
  obtain ⟨br1,br2,br3,br4⟩:=br.facts
  have F:=hide (br.set n5 (.slice p5 D5.length q5)).facts
  have Y:=hide (br.wh n5 (.slice p5 D5.length q5) G5)
  have Z:=hide (aad HB (show w.heap.size≤w.heap.size+1 by omega) (.bool n5) (.slice p5 D5.length q5))
  go_wp2
  refine bodyPost_ret (v:=.agg #[.bool n5,.slice p5 D5.length q5]) ?_ rfl ⟨n5,p5,q5,D5,rfl,Y.out,by omega,Z.out⟩
  simp [results,Tryz.results79,go_sem,F.out.1,F.out.2.1]
theorem ayt (w:World) (ng:Bool) (a1:Option Addr) (n1 c1:Nat) (xs:List Int) (x:Int) (hx:Lm.Ag w ng a1 n1 c1 xs x) (m1:xs.length≤100000) :
  Calls Tryz.prog 79 #[.agg #[.bool ng,.slice a1 n1 c1]] w fun e w'=>∃ ng' ao cap rs,e=.returned (.agg #[.bool ng',.slice ao rs.length cap])∧Wh w' ng' ao cap rs x∧rs.length≤3*xs.length∧Below w.heap.size w w' := by
 have h:=ays w ng a1 n1 c1 xs hx.sl m1
 rw [hx.worth] at h
 exact h
structure WFr (B T:Nat) (w:World) (ng:Bool) (ao:Option Addr) (cap:Nat) (rs:List Int) (z:Int):Prop where
 fr:Lm.Fr B T w ao cap rs (z.natAbs:Int)
 sgn:ng=decide (z<0)
theorem WFr.wh {B T:Nat} {w:World} {ng:Bool} {ao:Option Addr} {cap:Nat} {rs:List Int} {z:Int} (h:WFr B T w ng ao cap rs z):Lm.Wh w ng ao cap rs z:=⟨h.fr.got,h.sgn⟩
theorem WFr.kept {B T:Nat} {w w' : World} {ng:Bool} {ao:Option Addr} {cap:Nat} {rs:List Int} {z:Int} (h:WFr B T w ng ao cap rs z) (hk:∀ g,g<w.heap.size→B≤g→g<T→w'.heap[g]? = w.heap[g]?):WFr B T w' ng ao cap rs z:=⟨h.fr.kept hk,h.sgn⟩
theorem WFr.wide {B B' T T' : Nat} {w:World} {ng:Bool} {ao:Option Addr} {cap:Nat} {rs:List Int} {z:Int} (h:WFr B T w ng ao cap rs z) (hB:B'≤B) (hT:T≤T'):WFr B' T' w ng ao cap rs z :=
 ⟨⟨h.fr.ow.mono hB,h.fr.canon,h.fr.val,fun h0 g off e=>by have:=h.fr.lies h0 g off e;omega⟩,h.sgn⟩
theorem ai4 {w:World} {k:Nat} (b u:Value) {g:Nat} (h:g≠k):((w.setCell ⟨k,0,none⟩ b).setCell ⟨k,1,none⟩ u).heap[g]? = w.heap[g]? := by
 rw [heap_setCell_other _ ⟨k,1,none⟩ g _ h,heap_setCell_other _ ⟨k,0,none⟩ g _ h]
set_option maxRecDepth 20000 in
set_option maxHeartbeats 1000000 in
theorem ax0 (w:World) (ng:Bool) (ao:Option Addr) (cap:Nat) (rs:List Int) (z:Int) (h:Wh w ng ao cap rs z) (M:Nat) (hz:(z.natAbs:Int)<Lm.pw M) (hM:M≤1000000) (hl:rs.length≤1000000) :
  Calls Tryz.prog 24 #[.agg #[.bool ng,.slice ao rs.length cap]] w fun e w'=>∃ bo dap ls,e=.returned (.agg #[.bool ng,.slice bo ls.length dap])∧WFr w.heap.size w'.heap.size w' ng bo dap ls z∧ls.length≤M∧Below w.heap.size w w' := by
 obtain ⟨w1,e1,bx,hb1,hs1⟩:=abm w ng (.slice ao rs.length cap)
 obtain ⟨w2,e2,br,hb2,hs2⟩:=Lm.abm w1 false (.slice none 0 0)
 have E1:=hide e1
 have E2:=hide e2
 have HB:=hb1.trans (hb2.mono hb1.size)
 replace bx:=bx.below hb2
 rw [hs1] at br
 have h2:=h.below HB
 have HS:w2.heap.size=w.heap.size+2:=by omega
 have HSG:=hide h.2
 have HZ:=hide hz
 have ne1:¬ (w.heap.size=w.heap.size+1):=by omega
 have ne2:¬ (w.heap.size+1=w.heap.size):=by omega
 clear e1 e2 hb1 hb2 hs1 hs2 hz
 go_enter Tryz.func24,Tryz.ntmps24
 go_upto_region 1 with fail
 rw [E1.out,E2.out]
 obtain ⟨bx1,bx2,bx3,bx4⟩:=bx.facts
 obtain ⟨br1,br2,br3,br4⟩:=br.facts
 go_region_held3 (fun w'=>w'.cell? ⟨w.heap.size,0,none⟩ = some (.bool ng)∧w'.cell? ⟨w.heap.size,1,none⟩ = some (.slice ao rs.length cap)) (go_keep) (first
  | (go_at_call 51;refine (ai2 _ _ _ _ rs _ (h2.1.below (by repeat (first | exact Below.refl _ _ | refine Below.drew ?_))) M HZ.out hM hl).mono ?_;rintro e w1' ⟨v1,rfl,I1,hb1⟩;have hb1' : Below w2.heap.size w2 w1' := (show Below w2.heap.size w2 _ by repeat (first | exact Below.refl _ _ | refine Below.drew ?_)).trans hb1;obtain ⟨p1,q1,r1,rfl,F1⟩:=I1.fr;clear I1;replace bx:=bx.below hb1';clear bx1 bx2 bx3 bx4;obtain ⟨bx1,bx2,bx3,bx4⟩:=bx.facts;replace br:=br.below hb1';clear br1 br2 br3 br4;obtain ⟨br1,br2,br3,br4⟩:=br.facts))
 all_goals
  have HB2:=HB.trans (hb1'.mono HB.size)
  have F:=hide (br.set ng (.slice p1 r1.length q1)).facts
  have hkk:=aaa br
  have Y:=hide (show WFr w2.heap.size w1'.heap.size _ ng p1 q1 r1 z from (WFr.kept (w:=w1') ⟨F1,HSG.out⟩ (fun g _ hg _=>ai4 (.bool ng) (.slice p1 r1.length q1) (show g≠w.heap.size+1 by omega))))
  have Z:=hide (aad HB2 (show w.heap.size≤w.heap.size+1 by omega) (.bool ng) (.slice p1 r1.length q1))
  have LL:=hide (Lm.aax F1.canon (m:=M) (by rw [F1.val];exact HZ.out))
  clear bx1 bx2 bx3 bx4
  go_wp2
  refine bodyPost_ret (v:=.agg #[.bool ng,.slice p1 r1.length q1]) ?_ rfl ⟨p1,q1,r1,rfl,Y.out.wide (by omega) (by simp [World.setCell]),LL.out,Z.out⟩
  simp [results,Tryz.results24,go_sem,F.out.1,F.out.2.1]
end Dm
end Go.Proofs.YtgmobkafnefpfaaGreat
namespace Go.Proofs.YtgmobkafnefpfaaGreat
namespace Lm
open Go.RowKit
def IsLen (x:Int) (n:Nat):Prop:=∃ rs,Canon rs∧val rs=x∧rs.length=n
theorem apz {x:Int} {m n:Nat} (h:IsLen x m) (h' : IsLen x n):m=n:=by
 obtain ⟨rs,c,v,rfl⟩:=h
 obtain ⟨ss,c',v',rfl⟩:=h'
 rw [ac0 c c' (by rw [v,v'])]
theorem anv {x:Int} {k n:Nat} (h:IsLen x n) (hb:IsBits x k):(k+31) / 32=n:=by
 obtain ⟨rs,c,v,rfl⟩:=h
 have hu:=(aab c.1).2
 rw [v,ad4] at hu
 by_cases h0:rs.length=0
 ·have e:rs = []:=List.eq_nil_of_length_eq_zero h0
  subst e
  have:x=0:=by rw [←v];rfl
  subst this
  rw [agm hb]
  rfl
 ·have hlow:pw (rs.length - 1)≤x:=by
   apply Classical.byContradiction
   intro hn
   have:=aax c (m:=rs.length - 1) (by rw [v];omega)
   omega
  rw [ad4] at hlow
  have h1:32*(rs.length - 1)<k:=by
   apply Classical.byContradiction
   intro hn
   have:=adb (m:=k) (n:=32*(rs.length - 1)) (by omega)
   have:=hb.1
   omega
  have h2:k≤32*rs.length:=by
   rcases hb.2 with h | h
   ·omega
   ·apply Classical.byContradiction
    intro hn
    have:=adb (m:=32*rs.length) (n:=k - 1) (by omega)
    omega
  omega
set_option maxRecDepth 20000 in
set_option maxHeartbeats 400000 in
theorem anw (w:World) (ng:Bool) (ao:Option Addr) (n cap:Nat) (zs:List Int) (h:Sl w (.slice ao n cap) zs) (hz:zs.length≤1000000) (m:Nat) (hm:IsLen (val zs) m) :
  Calls Tryz.prog 17 #[.agg #[.bool ng,.slice ao n cap]] w fun e w'=>e=.returned (.int .i64 m)∧Below w.heap.size w w' := by
 obtain ⟨w0,e0,bx,hb0,hs0⟩:=abm w ng (.slice ao n cap)
 have E0:=hide e0
 have h0:=h.below hb0
 have hu:=(aab h.parts.2.2.2).2
 clear e0 hs0
 go_enter Tryz.func17,Tryz.ntmps17
 go_wp2_with fail
 rw [E0.out]
 obtain ⟨c0,c1,f0,f1⟩:=bx.facts
 refine (agz _ _ _ _ zs h0 hz).mono ?_
 rintro e w1 ⟨l,rfl,t,rfl⟩
 have hl:=anv hm t
 have hle:l≤32000000:=by
  rcases t.2 with h | h
  ·omega
  ·apply Classical.byContradiction
   intro hn
   rw [ad4] at hu
   have:=adb (m:=32*zs.length) (n:=l - 1) (by omega)
   omega
 have HL:=hide hl
 clear t hl hm hu
 go_wp2
 go_ret
 have hl:=HL.out
 exact ⟨ac1 (by omega),hb0⟩
end Lm
end Go.Proofs.YtgmobkafnefpfaaGreat
namespace Go.Proofs.YtgmobkafnefpfaaGreat
namespace Lm
open Go Go.RowKit
open Dm (WFr)
theorem Ow.ru {B:Nat} {w w' : World} {v:Value} {zs:List Int} (h:Ow B w v zs) (hr:Ru w w'):Ow B w' v zs:=by
 obtain ⟨ao,cap,rfl,h1,h2,h3,h4⟩:=h
 refine ⟨ao,cap,rfl,h1,h2,h3,?_⟩
 rcases h4 with h4 | ⟨g,off,cur,rfl,hB,hh,r⟩
 ·exact .inl h4
 ·exact .inr ⟨g,off,cur,rfl,hB,hr.rows g cur hh,r⟩
theorem Fr.ru {B T:Nat} {w w' : World} {ao:Option Addr} {cap:Nat} {rs:List Int} {x:Int} (h:Fr B T w ao cap rs x) (hr:Ru w w'):Fr B T w' ao cap rs x:=⟨h.ow.ru hr,h.canon,h.val,h.lies⟩
theorem _root_.Go.Proofs.YtgmobkafnefpfaaGreat.Dm.WFr.ru {B T:Nat} {w w' : World} {ng:Bool} {ao:Option Addr} {cap:Nat} {rs:List Int} {z:Int} (h:WFr B T w ng ao cap rs z) (hr:Ru w w'):WFr B T w' ng ao cap rs z:=⟨h.fr.ru hr,h.sgn⟩
def FrW (K:Nat) (z:Int) (L:Nat):Says:=fun v w=>∃ ng ao cap rs B T,v=.agg #[.bool ng,.slice ao rs.length cap]∧WFr B T w ng ao cap rs z∧K≤B∧T≤w.heap.size∧rs.length≤L
theorem FrW.mono5 (K:Nat) (z:Int) (L:Nat):Mono5 (FrW K z L):=fun _ _ _ hr ⟨ng,ao,cap,rs,B,T,e,h,h1,h2,l⟩=>⟨ng,ao,cap,rs,B,T,e,h.ru hr,h1,Nat.le_trans h2 hr.size,l⟩
theorem FrW.mono4 (K:Nat) (z:Int) (L:Nat):Mono4 (FrW K z L):=fun v w w' hr h=>FrW.mono5 K z L v w w' (Ru.of_rl hr) h
theorem FrW.out {z:Int} {L K:Nat} {v:Value} {w:World} : FrW K z L v w→OutW z L v w:=fun ⟨ng,ao,cap,rs,_,_,e,h,_,_,l⟩=>⟨ng,ao,cap,rs,e,h.wh,l⟩
section
end
section
variable {dst:Option Tmp} {ty:TypeId} {pos:String} {after:Array Edge} {guard:Option (Nat × Bool)} {a:Act} {w:World} {ats:Array TypeId} {i j:Nat} {x y z u:Int} {L L1 L2:Nat}
theorem ass {b:Bool} (h1:a.eval (.tmp i)=.bool b) (h2:a.eval (.tmp j)=.bool b) :
  Does Tryz.prog { dst,op:=.binOp .eql 4 (.tmp i) (.tmp j) 4,type:=ty,pos,after,guard } a.eval w fun v' w'=>Below w.heap.size w w'∧Eqs (.bool true) v' w' := by
 have:=aus (dst:=dst) (ty:=ty) (pos:=pos) (after:=after) (guard:=guard) (w:=w) h1 h2
 rwa [beq_self_eq_true] at this
end
section
end
theorem ast {ng:Bool} {ao:Option Addr} {n c:Nat} {w:World} {xs:List Int} {z:Int} (h:Ag w ng ao n c xs z):∃ m,IsLen (z.natAbs:Int) m:=by
 have hv:=(aab h.sl.parts.2.2.2).1
 refine ⟨_,xs.take (tl xs),aa3 h.sl.parts.2.2.2,?_,rfl⟩
 rw [aai,←h.worth]
 cases ng <;> simp [sg] <;> omega
end Lm
end Go.Proofs.YtgmobkafnefpfaaGreat
namespace Go.Proofs.YtgmobkafnefpfaaGreat
namespace Lm
open Go.RowKit
set_option maxRecDepth 20000 in
set_option maxHeartbeats 1000000 in
theorem akk (w:World) (a1:Option Addr) (n1 c1:Nat) (xs:List Int) (hx:Sl w (.slice a1 n1 c1) xs) (ny:Bool) (a2:Option Addr) (n2 c2:Nat) (ys:List Int) (hy:Sl w (.slice a2 n2 c2) ys) (hm1:xs.length≤400000) (hm2:ys.length≤400000) (h0:val ys≠0) :
  Calls Tryz.prog 84 #[.agg #[.bool false,.slice a1 n1 c1],.agg #[.bool ny,.slice a2 n2 c2]] w fun e w'=>∃ nq aq cq qs nr ar cr rs B1 T1 B2 T2,e=.returned (.tuple #[.agg #[.bool nq,.slice aq qs.length cq],.agg #[.bool nr,.slice ar rs.length cr],.bool true])∧Wh w' nq aq cq qs (sg false (val xs) / sg ny (val ys))∧Wh w' nr ar cr rs (sg false (val xs) % sg ny (val ys))∧qs.length≤xs.length+4∧rs.length≤ys.length∧Li B1 T1 w' aq cq qs∧Li B2 T2 w' ar cr rs∧(w.heap.size≤B1∧T1≤w'.heap.size∧w.heap.size≤B2∧T2≤w'.heap.size∧∀ j,B1≤j→j<T1→j<B2∨T2≤j)∧Below w.heap.size w w' := by
 obtain ⟨w0,e0,bx,by',bq,br,hb0,hs0⟩:=aho w false (.slice a1 n1 c1) ny (.slice a2 n2 c2)
 have E0:=hide e0
 have hx0:=hx.below hb0
 have hy0:=hy.below hb0
 have HS0:=hide hs0
 clear e0 hs0
 have PY:Hid (0<val ys):=by have:=(aab hy.parts.2.2.2).1;show _<_;omega
 have LY:=hide hy.parts.2.2.2
 have H0:=hide h0
 clear h0
 go_enter Tryz.func84,Tryz.ntmps84
 go_wp2_with fail
 rw [E0.out]
 refine (ag3 _ _ _ _ _ _ _ xs ys hx0 hy0 (by omega) H0.out).mono ?_
 rintro e w1 ⟨p1,q1,r1,p2,q2,r2,B1,T1,B2,T2,rfl,G1,G2,l1,l2,o1,o2,oo,hb1⟩
 have HB:Below w0.heap.size w0 w1:=hb1
 obtain ⟨xa,xb,xc,xd⟩:=(bx.below HB).facts
 obtain ⟨ya,yb,yc,yd⟩:=(by'.below HB).facts
 go_wp2_with fail
 refine (abr _ _ _ _ r1 _ G1 (by omega)).mono ?_
 rintro e w7 ⟨ng7,rfl,G7,hb7⟩
 replace HB:=HB.trans (hb7.mono HB.size)
 have G2' := G2.below hb7
 clear xa xb xc xd ya yb yc yd
 obtain ⟨xa,xb,xc,xd⟩:=(bx.below HB).facts
 obtain ⟨ya,yb,yc,yd⟩:=(by'.below HB).facts
 go_wp2_with fail
 refine (abr _ _ _ _ r2 _ G2' (by omega)).mono ?_
 rintro e w8 ⟨ng8,rfl,G8,hb8⟩
 replace HB:=HB.trans (hb8.mono HB.size)
 replace G7:=G7.below hb8
 clear xa xb xc xd ya yb yc yd
 have bq8:=bq.below HB
 have br8:=br.below HB
 obtain ⟨qa,qb,qc,qd⟩:=bq8.facts
 obtain ⟨ra,rb,rc,rd⟩:=br8.facts
 have VQ:Hid (sg ny (val xs / val ys)=sg false (val xs) / sg ny (val ys)∧sg false (val xs % val ys)=sg false (val xs) % sg ny (val ys)):=by have h:=akb ny (val xs) (val ys);rwa [show (false != ny)=ny by cases ny <;> rfl] at h
 have Y1:=hide ((br8.other (show w.heap.size+1+1+1≠w.heap.size+1+1 by omega) (.bool ng7) (.slice p1 r1.length q1)).wh ng8 (.slice p2 r2.length q2) (bq8.wh ng7 (.slice p1 r1.length q1) G7))
 have Y2:=hide ((br8.other (show w.heap.size+1+1+1≠w.heap.size+1+1 by omega) (.bool ng7) (.slice p1 r1.length q1)).wh ng8 (.slice p2 r2.length q2) (bq8.wh ng7 (.slice p1 r1.length q1) G8))
 have F:=hide (agb (nq:=ng7) (vq:=.slice p1 r1.length q1) (nr:=ng8) (vr:=.slice p2 r2.length q2) bq8 br8 (by omega))
 have Z:=hide (hb0.trans (HB.mono hb0.size))
 have Z2:=hide (aad (aad Z.out (show w.heap.size≤w.heap.size+1+1 by omega) (.bool ng7) (.slice p1 r1.length q1)) (show w.heap.size≤w.heap.size+1+1+1 by omega) (.bool ng8) (.slice p2 r2.length q2))
 have hs9:=HS0.out
 have s_hb1:=hb1.size
 have s_hb7:=hb7.size
 have s_hb8:=hb8.size
 obtain ⟨oo1,oo2,oo3,oo4,oo5⟩:=oo
 have O1:=hide ((((o1.below hb7).below hb8).set2 (w.heap.size+1+1) (by omega) (.bool ng7) (.slice p1 r1.length q1)).set2 (w.heap.size+1+1+1) (by omega) (.bool ng8) (.slice p2 r2.length q2))
 have O2:=hide ((((o2.below hb7).below hb8).set2 (w.heap.size+1+1) (by omega) (.bool ng7) (.slice p1 r1.length q1)).set2 (w.heap.size+1+1+1) (by omega) (.bool ng8) (.slice p2 r2.length q2))
 have hsz:((((w8.setCell ⟨w.heap.size+1+1,0,none⟩ (.bool ng7)).setCell ⟨w.heap.size+1+1,1,none⟩ (.slice p1 r1.length q1)).setCell ⟨w.heap.size+1+1+1,0,none⟩ (.bool ng8)).setCell ⟨w.heap.size+1+1+1,1,none⟩ (.slice p2 r2.length q2)).heap.size=w8.heap.size:=by simp [World.setCell]
 have OO:Hid (B1 ≥ w.heap.size∧T1≤w8.heap.size∧B2 ≥ w.heap.size∧T2≤w8.heap.size∧∀ j,B1≤j→j<T1→j<B2∨T2≤j):=⟨by omega,by omega,by omega,by omega,oo5⟩
 rw [←hsz] at OO
 clear hsz
 go_wp2
 refine bodyPost_ret (v:=.tuple #[.agg #[.bool ng7,.slice p1 r1.length q1],.agg #[.bool ng8,.slice p2 r2.length q2],.bool true]) ?_ rfl ⟨ng7,p1,q1,r1,ng8,p2,q2,r2,B1,T1,B2,T2,rfl,by rw [←VQ.out.1];exact Y1.out,by rw [←VQ.out.2];exact Y2.out,by omega,by omega,O1.out,O2.out,OO.out,Z2.out⟩
 simp [results,Tryz.results84,go_sem,F.out.1.facts.1,F.out.1.facts.2.1,F.out.2.facts.1,F.out.2.facts.2.1]
set_option maxRecDepth 20000 in
set_option maxHeartbeats 1000000 in
theorem aji (w:World) (a1:Option Addr) (n1 c1:Nat) (xs:List Int) (hx:Sl w (.slice a1 n1 c1) xs) (ny:Bool) (a2:Option Addr) (n2 c2:Nat) (ys:List Int) (hy:Sl w (.slice a2 n2 c2) ys) (hm1:xs.length≤400000) (_hm2:ys.length≤400000) (h0:val ys≠0) (hev:val xs % val ys=0) :
  Calls Tryz.prog 84 #[.agg #[.bool true,.slice a1 n1 c1],.agg #[.bool ny,.slice a2 n2 c2]] w fun e w'=>∃ nq aq cq qs nr ar cr rs B1 T1 B2 T2,e=.returned (.tuple #[.agg #[.bool nq,.slice aq qs.length cq],.agg #[.bool nr,.slice ar rs.length cr],.bool true])∧Wh w' nq aq cq qs (sg true (val xs) / sg ny (val ys))∧Wh w' nr ar cr rs (sg true (val xs) % sg ny (val ys))∧qs.length≤xs.length+4∧rs.length≤ys.length∧Li B1 T1 w' aq cq qs∧Li B2 T2 w' ar cr rs∧(w.heap.size≤B1∧T1≤w'.heap.size∧w.heap.size≤B2∧T2≤w'.heap.size∧∀ j,B1≤j→j<T1→j<B2∨T2≤j)∧Below w.heap.size w w' := by
 obtain ⟨w0,e0,bx,by',bq,br,hb0,hs0⟩:=aho w true (.slice a1 n1 c1) ny (.slice a2 n2 c2)
 have E0:=hide e0
 have hx0:=hx.below hb0
 have hy0:=hy.below hb0
 have HS0:=hide hs0
 clear e0 hs0
 have PY:Hid (0<val ys):=by have:=(aab hy.parts.2.2.2).1;show _<_;omega
 have LY:=hide hy.parts.2.2.2
 have H0:=hide h0
 have HE:=hide hev
 clear hev
 clear h0
 go_enter Tryz.func84,Tryz.ntmps84
 go_wp2_with fail
 rw [E0.out]
 refine (ag3 _ _ _ _ _ _ _ xs ys hx0 hy0 (by omega) H0.out).mono ?_
 rintro e w1 ⟨p1,q1,r1,p2,q2,r2,B1,T1,B2,T2,rfl,G1,G2,l1,l2,o1,o2,oo,hb1⟩
 have HB:Below w0.heap.size w0 w1:=hb1
 have hr2:¬ 0<(r2.length:Int):=by
  have h9:r2 = []:=(acs G2.canon).1 (by rw [G2.val];exact HE.out)
  rw [h9];simp
 obtain ⟨xa,xb,xc,xd⟩:=(bx.below HB).facts
 obtain ⟨ya,yb,yc,yd⟩:=(by'.below HB).facts
 go_wp2_with fail
 refine (abr _ _ _ _ r1 _ G1 (by omega)).mono ?_
 rintro e w7 ⟨ng7,rfl,G7,hb7⟩
 replace HB:=HB.trans (hb7.mono HB.size)
 have G2' := G2.below hb7
 clear xa xb xc xd ya yb yc yd
 obtain ⟨xa,xb,xc,xd⟩:=(bx.below HB).facts
 obtain ⟨ya,yb,yc,yd⟩:=(by'.below HB).facts
 go_wp2_with fail
 refine (abr _ _ _ _ r2 _ G2' (by omega)).mono ?_
 rintro e w8 ⟨ng8,rfl,G8,hb8⟩
 replace HB:=HB.trans (hb8.mono HB.size)
 replace G7:=G7.below hb8
 clear xa xb xc xd ya yb yc yd
 have bq8:=bq.below HB
 have br8:=br.below HB
 obtain ⟨qa,qb,qc,qd⟩:=bq8.facts
 obtain ⟨ra,rb,rc,rd⟩:=br8.facts
 have VQ:Hid (sg (!ny) (val xs / val ys)=sg true (val xs) / sg ny (val ys)∧sg false (val xs % val ys)=sg true (val xs) % sg ny (val ys)):=by have h:=apm true ny PY.out HE.out;rwa [show (true != ny) = !ny by cases ny <;> rfl] at h
 have Y1:=hide ((br8.other (show w.heap.size+1+1+1≠w.heap.size+1+1 by omega) (.bool ng7) (.slice p1 r1.length q1)).wh ng8 (.slice p2 r2.length q2) (bq8.wh ng7 (.slice p1 r1.length q1) G7))
 have Y2:=hide ((br8.other (show w.heap.size+1+1+1≠w.heap.size+1+1 by omega) (.bool ng7) (.slice p1 r1.length q1)).wh ng8 (.slice p2 r2.length q2) (bq8.wh ng7 (.slice p1 r1.length q1) G8))
 have F:=hide (agb (nq:=ng7) (vq:=.slice p1 r1.length q1) (nr:=ng8) (vr:=.slice p2 r2.length q2) bq8 br8 (by omega))
 have Z:=hide (hb0.trans (HB.mono hb0.size))
 have Z2:=hide (aad (aad Z.out (show w.heap.size≤w.heap.size+1+1 by omega) (.bool ng7) (.slice p1 r1.length q1)) (show w.heap.size≤w.heap.size+1+1+1 by omega) (.bool ng8) (.slice p2 r2.length q2))
 have hs9:=HS0.out
 have s_hb1:=hb1.size
 have s_hb7:=hb7.size
 have s_hb8:=hb8.size
 obtain ⟨oo1,oo2,oo3,oo4,oo5⟩:=oo
 have O1:=hide ((((o1.below hb7).below hb8).set2 (w.heap.size+1+1) (by omega) (.bool ng7) (.slice p1 r1.length q1)).set2 (w.heap.size+1+1+1) (by omega) (.bool ng8) (.slice p2 r2.length q2))
 have O2:=hide ((((o2.below hb7).below hb8).set2 (w.heap.size+1+1) (by omega) (.bool ng7) (.slice p1 r1.length q1)).set2 (w.heap.size+1+1+1) (by omega) (.bool ng8) (.slice p2 r2.length q2))
 have hsz:((((w8.setCell ⟨w.heap.size+1+1,0,none⟩ (.bool ng7)).setCell ⟨w.heap.size+1+1,1,none⟩ (.slice p1 r1.length q1)).setCell ⟨w.heap.size+1+1+1,0,none⟩ (.bool ng8)).setCell ⟨w.heap.size+1+1+1,1,none⟩ (.slice p2 r2.length q2)).heap.size=w8.heap.size:=by simp [World.setCell]
 have OO:Hid (B1 ≥ w.heap.size∧T1≤w8.heap.size∧B2 ≥ w.heap.size∧T2≤w8.heap.size∧∀ j,B1≤j→j<T1→j<B2∨T2≤j):=⟨by omega,by omega,by omega,by omega,oo5⟩
 rw [←hsz] at OO
 clear hsz
 go_wp2
 refine bodyPost_ret (v:=.tuple #[.agg #[.bool ng7,.slice p1 r1.length q1],.agg #[.bool ng8,.slice p2 r2.length q2],.bool true]) ?_ rfl ⟨ng7,p1,q1,r1,ng8,p2,q2,r2,B1,T1,B2,T2,rfl,by rw [←VQ.out.1];exact Y1.out,by rw [←VQ.out.2];exact Y2.out,by omega,by omega,O1.out,O2.out,OO.out,Z2.out⟩
 simp [results,Tryz.results84,go_sem,F.out.1.facts.1,F.out.1.facts.2.1,F.out.2.facts.1,F.out.2.facts.2.1]
set_option maxRecDepth 20000 in
set_option maxHeartbeats 1000000 in
theorem akl (w:World) (a1:Option Addr) (n1 c1:Nat) (xs:List Int) (hx:Sl w (.slice a1 n1 c1) xs) (ny:Bool) (a2:Option Addr) (n2 c2:Nat) (ys:List Int) (hy:Sl w (.slice a2 n2 c2) ys) (hm1:xs.length≤400000) (hm2:ys.length≤400000) (h0:val ys≠0) (hod:val xs % val ys≠0) :
  Calls Tryz.prog 84 #[.agg #[.bool true,.slice a1 n1 c1],.agg #[.bool ny,.slice a2 n2 c2]] w fun e w'=>∃ nq aq cq qs nr ar cr rs B1 T1 B2 T2,e=.returned (.tuple #[.agg #[.bool nq,.slice aq qs.length cq],.agg #[.bool nr,.slice ar rs.length cr],.bool true])∧Wh w' nq aq cq qs (sg true (val xs) / sg ny (val ys))∧Wh w' nr ar cr rs (sg true (val xs) % sg ny (val ys))∧qs.length≤xs.length+4∧rs.length≤ys.length∧Li B1 T1 w' aq cq qs∧Li B2 T2 w' ar cr rs∧(w.heap.size≤B1∧T1≤w'.heap.size∧w.heap.size≤B2∧T2≤w'.heap.size∧∀ j,B1≤j→j<T1→j<B2∨T2≤j)∧Below w.heap.size w w' := by
 obtain ⟨w0,e0,bx,by',bq,br,hb0,hs0⟩:=aho w true (.slice a1 n1 c1) ny (.slice a2 n2 c2)
 have E0:=hide e0
 have hx0:=hx.below hb0
 have hy0:=hy.below hb0
 have HS0:=hide hs0
 clear e0 hs0
 have PY:Hid (0<val ys):=by have:=(aab hy.parts.2.2.2).1;show _<_;omega
 have LY:=hide hy.parts.2.2.2
 have H0:=hide h0
 have HE:=hide hod
 clear hod
 clear h0
 go_enter Tryz.func84,Tryz.ntmps84
 go_wp2_with fail
 rw [E0.out]
 refine (ag3 _ _ _ _ _ _ _ xs ys hx0 hy0 (by omega) H0.out).mono ?_
 rintro e w1 ⟨p1,q1,r1,p2,q2,r2,B1,T1,B2,T2,rfl,G1,G2,l1,l2,o1,o2,oo,hb1⟩
 have HB:Below w0.heap.size w0 w1:=hb1
 have hr2:0<(r2.length:Int):=by
  have h9:r2≠[]:=fun e=>HE.out (by rw [←G2.val];exact (acs G2.canon).2 e)
  have h8:r2.length≠0:=fun e=>h9 (List.eq_nil_of_length_eq_zero e)
  omega
 obtain ⟨xa,xb,xc,xd⟩:=(bx.below HB).facts
 go_wp2_with fail
 refine (ab2 _ 1 (by omega) (by omega)).mono ?_
 rintro e w3 ⟨v3,rfl,hi3,hb3⟩
 obtain ⟨p3,q3,r3,rfl,G3,l3⟩:=aiw hi3 (by omega)
 clear hi3
 replace HB:=HB.trans (hb3.mono HB.size)
 replace G1:=G1.below hb3
 replace G2:=G2.below hb3
 go_wp2_with fail
 refine (at5 _ _ _ _ _ _ _ r1 r3 G1.sl G3.sl (by omega) (by omega)).mono ?_
 rintro e w4 ⟨p4,q4,r4,rfl,G4,l4,o4,hb4⟩
 replace HB:=HB.trans (hb4.mono HB.size)
 replace G2:=G2.below hb4
 rw [G1.val,G3.val] at G4
 have hy4:=hy0.below HB
 obtain ⟨ya,yb,yc,yd⟩:=(by'.below HB).facts
 go_wp2_with fail
 refine (ano _ _ _ _ _ _ _ ys r2 hy4 G2.sl (by omega) (by rw [G2.val];exact Int.le_of_lt (Int.emod_lt_of_pos _ PY.out))).mono ?_
 rintro e w5 ⟨p5,q5,r5,rfl,G5,l5,o5,hb5⟩
 replace HB:=HB.trans (hb5.mono HB.size)
 replace G4:=G4.below hb5
 rw [G2.val] at G5
 clear xa xb xc xd ya yb yc yd G1 G2 G3 hy4
 obtain ⟨xa,xb,xc,xd⟩:=(bx.below HB).facts
 obtain ⟨ya,yb,yc,yd⟩:=(by'.below HB).facts
 go_wp2_with fail
 refine (abr _ _ _ _ r4 _ G4 (by omega)).mono ?_
 rintro e w7 ⟨ng7,rfl,G7,hb7⟩
 replace HB:=HB.trans (hb7.mono HB.size)
 have G2' := G5.below hb7
 clear xa xb xc xd ya yb yc yd
 obtain ⟨xa,xb,xc,xd⟩:=(bx.below HB).facts
 obtain ⟨ya,yb,yc,yd⟩:=(by'.below HB).facts
 go_wp2_with fail
 refine (abr _ _ _ _ r5 _ G2' (by omega)).mono ?_
 rintro e w8 ⟨ng8,rfl,G8,hb8⟩
 replace HB:=HB.trans (hb8.mono HB.size)
 replace G7:=G7.below hb8
 clear xa xb xc xd ya yb yc yd
 have bq8:=bq.below HB
 have br8:=br.below HB
 obtain ⟨qa,qb,qc,qd⟩:=bq8.facts
 obtain ⟨ra,rb,rc,rd⟩:=br8.facts
 have VQ:Hid (sg (!ny) (val xs / val ys+1)=sg true (val xs) / sg ny (val ys)∧sg false (val ys - val xs % val ys)=sg true (val xs) % sg ny (val ys)):=by have h:=asl ny PY.out HE.out;rwa [show (true != ny) = !ny by cases ny <;> rfl] at h
 have Y1:=hide ((br8.other (show w.heap.size+1+1+1≠w.heap.size+1+1 by omega) (.bool ng7) (.slice p4 r4.length q4)).wh ng8 (.slice p5 r5.length q5) (bq8.wh ng7 (.slice p4 r4.length q4) G7))
 have Y2:=hide ((br8.other (show w.heap.size+1+1+1≠w.heap.size+1+1 by omega) (.bool ng7) (.slice p4 r4.length q4)).wh ng8 (.slice p5 r5.length q5) (bq8.wh ng7 (.slice p4 r4.length q4) G8))
 have F:=hide (agb (nq:=ng7) (vq:=.slice p4 r4.length q4) (nr:=ng8) (vr:=.slice p5 r5.length q5) bq8 br8 (by omega))
 have Z:=hide (hb0.trans (HB.mono hb0.size))
 have Z2:=hide (aad (aad Z.out (show w.heap.size≤w.heap.size+1+1 by omega) (.bool ng7) (.slice p4 r4.length q4)) (show w.heap.size≤w.heap.size+1+1+1 by omega) (.bool ng8) (.slice p5 r5.length q5))
 have hs9:=HS0.out
 have s_hb1:=hb1.size
 have s_hb7:=hb7.size
 have s_hb8:=hb8.size
 have s_hb3:=hb3.size
 have s_hb4:=hb4.size
 have s_hb5:=hb5.size
 have O1:=hide (((((o4.below hb5).below hb7).below hb8).set2 (w.heap.size+1+1) (by omega) (.bool ng7) (.slice p4 r4.length q4)).set2 (w.heap.size+1+1+1) (by omega) (.bool ng8) (.slice p5 r5.length q5))
 have O2:=hide ((((o5.below hb7).below hb8).set2 (w.heap.size+1+1) (by omega) (.bool ng7) (.slice p4 r4.length q4)).set2 (w.heap.size+1+1+1) (by omega) (.bool ng8) (.slice p5 r5.length q5))
 have hsz:((((w8.setCell ⟨w.heap.size+1+1,0,none⟩ (.bool ng7)).setCell ⟨w.heap.size+1+1,1,none⟩ (.slice p4 r4.length q4)).setCell ⟨w.heap.size+1+1+1,0,none⟩ (.bool ng8)).setCell ⟨w.heap.size+1+1+1,1,none⟩ (.slice p5 r5.length q5)).heap.size=w8.heap.size:=by simp [World.setCell]
 have OO:Hid (w3.heap.size ≥ w.heap.size∧w4.heap.size≤w8.heap.size∧w4.heap.size ≥ w.heap.size∧w5.heap.size≤w8.heap.size∧∀ j,w3.heap.size≤j→j<w4.heap.size→j<w4.heap.size∨w5.heap.size≤j):=⟨by omega,by omega,by omega,by omega,fun j h1 h2=>by omega⟩
 rw [←hsz] at OO
 clear hsz
 go_wp2
 refine bodyPost_ret (v:=.tuple #[.agg #[.bool ng7,.slice p4 r4.length q4],.agg #[.bool ng8,.slice p5 r5.length q5],.bool true]) ?_ rfl ⟨ng7,p4,q4,r4,ng8,p5,q5,r5,w3.heap.size,w4.heap.size,w4.heap.size,w5.heap.size,rfl,by rw [←VQ.out.1];exact Y1.out,by rw [←VQ.out.2];exact Y2.out,by omega,by omega,O1.out,O2.out,OO.out,Z2.out⟩
 simp [results,Tryz.results84,go_sem,F.out.1.facts.1,F.out.1.facts.2.1,F.out.2.facts.1,F.out.2.facts.2.1]
theorem ap0 (w:World) (nx:Bool) (a1:Option Addr) (n1 c1:Nat) (xs:List Int) (hx:Sl w (.slice a1 n1 c1) xs) (ny:Bool) (a2:Option Addr) (n2 c2:Nat) (ys:List Int) (hy:Sl w (.slice a2 n2 c2) ys) (hm1:xs.length≤400000) (hm2:ys.length≤400000) (h0:val ys≠0) :
  Calls Tryz.prog 84 #[.agg #[.bool nx,.slice a1 n1 c1],.agg #[.bool ny,.slice a2 n2 c2]] w fun e w'=>∃ nq aq cq qs nr ar cr rs B1 T1 B2 T2,e=.returned (.tuple #[.agg #[.bool nq,.slice aq qs.length cq],.agg #[.bool nr,.slice ar rs.length cr],.bool true])∧Wh w' nq aq cq qs (sg nx (val xs) / sg ny (val ys))∧Wh w' nr ar cr rs (sg nx (val xs) % sg ny (val ys))∧qs.length≤xs.length+4∧rs.length≤ys.length∧Li B1 T1 w' aq cq qs∧Li B2 T2 w' ar cr rs∧(w.heap.size≤B1∧T1≤w'.heap.size∧w.heap.size≤B2∧T2≤w'.heap.size∧∀ j,B1≤j→j<T1→j<B2∨T2≤j)∧Below w.heap.size w w' := by
 cases nx with
 | false=>exact akk w a1 n1 c1 xs hx ny a2 n2 c2 ys hy hm1 hm2 h0
 | true =>
  by_cases he:val xs % val ys=0
  ·exact aji w a1 n1 c1 xs hx ny a2 n2 c2 ys hy hm1 hm2 h0 he
  ·exact akl w a1 n1 c1 xs hx ny a2 n2 c2 ys hy hm1 hm2 h0 he
theorem ayu (w:World) (a1 a2:Option Addr) (n1 n2 c1 c2:Nat) (xs ys:List Int) (hx:Sl w (.slice a1 n1 c1) xs) (hy:Sl w (.slice a2 n2 c2) ys) (hm1:xs.length≤400000) (hm2:ys.length≤400000) :
  Calls Tryz.prog 100 #[.slice a1 n1 c1,.slice a2 n2 c2] w fun e w'=>∃ ao cap rs,e=.returned (.slice ao rs.length cap)∧Got w' ao cap rs (Int.gcd (val xs) (val ys))∧rs.length≤xs.length+ys.length+1∧Li w.heap.size w'.heap.size w' ao cap rs∧Below w.heap.size w w' := by
 refine (au0 w a1 a2 n1 n2 c1 c2 xs ys hx hy hm1 hm2).mono ?_
 rintro e w' ⟨v,rfl,hi,hb⟩
 obtain ⟨ao,cap,rs,rfl,hg⟩:=hi.fr
 refine ⟨ao,cap,rs,rfl,hg.got,aax hg.canon ?_,hg.li,hb⟩
 rw [hg.val]
 have b1:=aab hx.parts.2.2.2
 have b2:=aab hy.parts.2.2.2
 have h1:=apr b1.1 b2.1
 have m1:=aa0 (m:=xs.length) (n:=xs.length+ys.length) (by omega)
 have m2:=aa0 (m:=ys.length) (n:=xs.length+ys.length) (by omega)
 rw [pw]
 have:=aaj (xs.length+ys.length)
 omega
set_option maxRecDepth 20000 in
set_option maxHeartbeats 1000000 in
theorem ax1 (w:World) (nx:Bool) (a1:Option Addr) (n1 c1:Nat) (xs:List Int) (hx:Sl w (.slice a1 n1 c1) xs) (ny:Bool) (a2:Option Addr) (n2 c2:Nat) (ys:List Int) (hy:Sl w (.slice a2 n2 c2) ys) (hm1:xs.length≤400000) (hm2:ys.length≤400000) :
  Calls Tryz.prog 83 #[.agg #[.bool nx,.slice a1 n1 c1],.agg #[.bool ny,.slice a2 n2 c2]] w fun e w'=>∃ ng' ao cap rs,e=.returned (.agg #[.bool ng',.slice ao rs.length cap])∧Wh w' ng' ao cap rs (((Int.gcd (sg nx (val xs)) (sg ny (val ys)):Nat):Int))∧rs.length≤xs.length+ys.length+1∧Li w.heap.size w'.heap.size w' ao cap rs∧Below w.heap.size w w' := by
 obtain ⟨w0,e0,bx,by',br,hb0,hs0⟩:=acj w nx (.slice a1 n1 c1) ny (.slice a2 n2 c2)
 have E0:=hide e0
 have hx0:=hx.below hb0
 have hy0:=hy.below hb0
 have HS0:=hide hs0
 clear e0 hs0
 go_enter Tryz.func83,Tryz.ntmps83
 go_wp2_with fail
 rw [E0.out]
 obtain ⟨ca,cb,cc,cd⟩:=bx.facts
 obtain ⟨ea,eb,ec,ed⟩:=by'.facts
 obtain ⟨da,db,dc,dd⟩:=br.facts
 refine (ayu _ _ _ _ _ _ _ xs ys hx0 hy0 (by omega) (by omega)).mono ?_
 rintro e w1 ⟨p1,q1,r1,rfl,G1,l1,o1,hb1⟩
 go_wp2_with fail
 refine (abr _ false _ _ r1 _ G1 (by omega)).mono ?_
 rintro e w2 ⟨ng2,rfl,G2,hb2⟩
 have br2:=(br.below hb1).below hb2
 obtain ⟨ka,kb,kc,kd⟩:=br2.facts
 have SGF:Hid (sg false ((Int.gcd (val xs) (val ys):Nat):Int)=((Int.gcd (sg nx (val xs)) (sg ny (val ys)):Nat):Int)):=by show _ = _;rw [axu];rfl
 have X:=hide (br2.set ng2 (.slice p1 r1.length q1)).facts
 have Y:=hide (br2.wh ng2 (.slice p1 r1.length q1) G2)
 have Z:=hide (aad (hb0.trans ((hb1.trans (hb2.mono hb1.size)).mono hb0.size)) (Nat.le_add_right _ 2) (.bool ng2) (.slice p1 r1.length q1))
 skip
 have hs9:=HS0.out
 have s_1:=hb1.size
 have s_2:=hb2.size
 have O1:=hide ((o1.below hb2).set2 (w.heap.size+1+1) (by omega) (.bool ng2) (.slice p1 r1.length q1))
 have O2:=hide (show Li w.heap.size _ _ p1 q1 r1 from ⟨O1.out.ow.mono (by omega),fun h0 g off e=>by have:=O1.out.lies h0 g off e;exact ⟨by omega,Nat.lt_of_lt_of_le this.2 (show w1.heap.size≤((w2.setCell ⟨w.heap.size+1+1,0,none⟩ (.bool ng2)).setCell ⟨w.heap.size+1+1,1,none⟩ (.slice p1 r1.length q1)).heap.size by simp [World.setCell];exact s_2)⟩⟩)
 clear O1
 go_wp2
 refine bodyPost_ret (v:=.agg #[.bool ng2,.slice p1 r1.length q1]) ?_ rfl ⟨ng2,p1,q1,r1,rfl,by rw [←SGF.out];exact Y.out,by omega,O2.out,Z.out⟩
 simp [results,Tryz.results83,go_sem,X.out.1,X.out.2.1]
end Lm
end Go.Proofs.YtgmobkafnefpfaaGreat
namespace Go.Proofs.YtgmobkafnefpfaaGreat
namespace Dm
open Go.RowKit
open Lm (hide aak aaa cmpI abe abj)
theorem Wh.via {w0 w1 w2:World} {ng:Bool} {ao:Option Addr} {cap:Nat} {rs:List Int} {z:Int} (h:Wh w0 ng ao cap rs z) (h1:Below w0.heap.size w0 w1) (h2:Below w1.heap.size w1 w2):Wh w2 ng ao cap rs z:=(h.below h1).below h2
set_option maxRecDepth 20000 in
set_option maxHeartbeats 1000000 in
theorem ax2 (w:World) (n1:Bool) (a1:Option Addr) (c1:Nat) (xs:List Int) (x:Int) (hx:Wh w n1 a1 c1 xs x) (n2:Bool) (a2:Option Addr) (c2:Nat) (ys:List Int) (y:Int) (hy:Wh w n2 a2 c2 ys y) (m1:xs.length≤400000) (m2:ys.length≤400000) :
  Calls Tryz.prog 110 #[.agg #[.bool n1,.slice a1 xs.length c1],.agg #[.bool n2,.slice a2 ys.length c2]] w fun e w'=>∃ ng' ao cap rs,e=.returned (.agg #[.bool ng',.slice ao rs.length cap])∧Wh w' ng' ao cap rs (x - y)∧rs.length≤xs.length+ys.length+1∧Below w.heap.size w w' := by
 obtain ⟨w0,e0,bx,by',br,hb0,hs0⟩:=acj w n1 (.slice a1 xs.length c1) n2 (.slice a2 ys.length c2)
 have E0:=hide e0
 have hx0:=hx.below hb0
 have hy0:=hy.below hb0
 have HB:=hb0
 have ne1:¬ (w.heap.size=w.heap.size+1+1):=by omega
 have ne2:¬ (w.heap.size+1+1=w.heap.size):=by omega
 clear e0 hs0
 go_enter Tryz.func110,Tryz.ntmps110
 go_wp2_with fail
 rw [E0.out]
 obtain ⟨bx1,bx2,bx3,bx4⟩:=bx.facts
 obtain ⟨by1,by2,by3,by4⟩:=by'.facts
 obtain ⟨br1,br2,br3,br4⟩:=br.facts
 go_region_held3 (fun w'=>w'.cell? ⟨w.heap.size,0,none⟩ = some (.bool n1)∧w'.cell? ⟨w.heap.size,1,none⟩ = some (.slice a1 xs.length c1)∧w'.cell? ⟨w.heap.size+1,0,none⟩ = some (.bool n2)∧w'.cell? ⟨w.heap.size+1,1,none⟩ = some (.slice a2 ys.length c2)) (go_keep) (first
  | (go_at_call 43;have _hq:=hb1';refine (ahu _ _ _ _ xs _ (hx0.via hb1' (by repeat (first | exact Below.refl _ _ | refine Below.drew ?_))) _ _ _ r1 _ (G1.below (by repeat (first | exact Below.refl _ _ | refine Below.drew ?_))) (by omega) (by omega)).mono ?_;rintro e w2 ⟨ng2,p2,q2,r2,rfl,G2,l2,hb2⟩;have hb2' : Below w1.heap.size w1 w2:=(show Below w1.heap.size w1 _ by repeat (first | exact Below.refl _ _ | refine Below.drew ?_)).trans hb2;have HB:=HB.trans (hb2'.mono HB.size);replace bx:=bx.below hb2';clear bx1 bx2 bx3 bx4;obtain ⟨bx1,bx2,bx3,bx4⟩:=bx.facts;replace by' := by'.below hb2';clear by1 by2 by3 by4;obtain ⟨by1,by2,by3,by4⟩:=by'.facts;replace br:=br.below hb2';clear br1 br2 br3 br4;obtain ⟨br1,br2,br3,br4⟩:=br.facts)
  | (go_at_call 42;refine (aig _ _ _ _ ys _ (hy0.below (by repeat (first | exact Below.refl _ _ | refine Below.drew ?_))) (by omega)).mono ?_;rintro e w1 ⟨ng1,p1,q1,r1,rfl,G1,l1,hb1⟩;have hb1' : Below w0.heap.size w0 w1:=(show Below w0.heap.size w0 _ by repeat (first | exact Below.refl _ _ | refine Below.drew ?_)).trans hb1;have HB:=HB.trans (hb1'.mono HB.size);replace bx:=bx.below hb1';clear bx1 bx2 bx3 bx4;obtain ⟨bx1,bx2,bx3,bx4⟩:=bx.facts;replace by' := by'.below hb1';clear by1 by2 by3 by4;obtain ⟨by1,by2,by3,by4⟩:=by'.facts;replace br:=br.below hb1';clear br1 br2 br3 br4;obtain ⟨br1,br2,br3,br4⟩:=br.facts))
 all_goals
  have X:=hide (br.set ng2 (.slice p2 r2.length q2)).facts
  have Y:=hide (br.wh ng2 (.slice p2 r2.length q2) G2)
  have Z:=hide (aad HB (show w.heap.size≤w.heap.size+1+1 by omega) (.bool ng2) (.slice p2 r2.length q2))
  clear bx1 bx2 bx3 bx4 by1 by2 by3 by4
  go_wp2
  refine bodyPost_ret (v:=.agg #[.bool ng2,.slice p2 r2.length q2]) ?_ rfl ⟨ng2,p2,q2,r2,rfl,by rw [show x - y=x+-y by omega];exact Y.out,by omega,Z.out⟩
  simp [results,Tryz.results110,go_sem,X.out.1,X.out.2.1]
end Dm
end Go.Proofs.YtgmobkafnefpfaaGreat
