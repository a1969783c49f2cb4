/-
  What the text behind the last one leans on, part 2.
-/
import Derived.BigRegion
import Derived.Deep.DeepCutAuto
import Derived.Laws.AppendOwn
import Derived.Deep.LoopGhost
import Derived.Test.YtgmobkafnefpfaaGreatRows
import Derived.ProofKit
import Derived.OpenShut
import Derived.Deep.SlicePairs
import Derived.Handy
import Derived.Test.YtgmobkafnefpfaaGreatMDsLawZ1
namespace Go.Proofs.YtgmobkafnefpfaaGreat
namespace Dm
open Go.RowKit
open Lm (hide aak aaa)
theorem aih:∀ (L:List Int) (i:Nat) (x:Int),i<L.length→val (L.set i x)=val L+pw i*(x - L.getD i 0)
 | [],i,x,h=>by simp at h
 | z :: zs,0,x,_=>by simp [val,pw];omega
 | z :: zs,i+1,x,h=>by
  have ih:=aih zs i x (by simpa using h)
  rw [List.set_cons_succ,val,ih,val,List.getD_cons_succ,pw,Int.mul_add,←Int.mul_assoc]
  omega
theorem akm:∀ (L:List Int) (i:Nat),(∀ z ∈ L,0≤z)→pw i*L.getD i 0≤val L
 | [],i,_=>by simp [val]
 | z :: zs,0,h=>by
  have h1:0≤val zs:=by
   have:∀ l:List Int,(∀ z ∈ l,0≤z)→0≤val l:=by
    intro l
    induction l with
    | nil=>intro _;simp [val]
    | cons a l ih =>
     intro hl
     have:=ih (fun z hz=>hl z (List.mem_cons_of_mem _ hz))
     have:=hl a (List.mem_cons_self ..)
     rw [val]
     omega
   exact this zs (fun y hy=>h y (List.mem_cons_of_mem _ hy))
  simp [val,pw]
  omega
 | z :: zs,i+1,h=>by
  have ih:=akm zs i (fun y hy=>h y (List.mem_cons_of_mem _ hy))
  have:=h z (List.mem_cons_self ..)
  rw [List.getD_cons_succ,val,pw,Int.mul_assoc]
  omega
theorem ag6 {L:List Int} (h:Limb L) (i:Nat) (x:Int) (hx:0≤x∧x<10000):Limb (L.set i x):=by
 intro z hz
 rcases List.mem_or_eq_of_mem_set hz with h1 | h1
 ·exact h z h1
 ·rw [h1];exact hx
theorem anx {L:List Int} (h:Limb L) (i:Nat) (x:Int) (hx:0≤x):∀ z ∈ L.set i x,0≤z:=by
 intro z hz
 rcases List.mem_or_eq_of_mem_set hz with h1 | h1
 ·exact (h z h1).1
 ·rw [h1];exact hx
theorem ax3 {a b:Int} (ha:0≤a∧a<10000) (hb:0≤b∧b<10000):0≤a*b∧a*b≤99980001:=by
 refine ⟨Int.mul_nonneg ha.1 hb.1,?_⟩
 have h1:a*b≤9999*b:=Int.mul_le_mul_of_nonneg_right (by omega) hb.1
 omega
theorem ax4 {B M:List Int} {k j:Nat} {P a b c t s:Int} (hl:k+j<M.length) (ht:M.getD (k+j) 0=t) (hb:B.getD j 0=b) (hs:s=c+t+a*b) (h:val M+pw (k+j)*c=P+pw k*(a*vf B j)) :
  val (M.set (k+j) (s % 10000))+pw (k+(j+1))*(s / 10000)=P+pw k*(a*vf B (j+1)):=by
 rw [aih M _ _ hl,ht,vf,hb,←Nat.add_assoc,pw]
 have e:s=s % 10000+10000*(s / 10000):=by omega
 have e2:pw (k+j)*(s % 10000 - t)+10000*pw (k+j)*(s / 10000)=pw (k+j)*(s - t):=by
  rw [Int.mul_comm 10000 (pw (k+j)),Int.mul_assoc,←Int.mul_add]
  congr 1
  omega
 have e3:pw (k+j)*(s - t)=pw (k+j)*c+pw (k+j)*(a*b):=by rw [←Int.mul_add];congr 1;omega
 have e4:pw k*(a*(vf B j+pw j*b))=pw k*(a*vf B j)+pw (k+j)*(a*b):=by
  rw [aca,Int.mul_add,Int.mul_add,Int.mul_assoc (pw k) (pw j),←Int.mul_assoc a (pw j),Int.mul_comm a (pw j),Int.mul_assoc (pw j) a]
 rw [Int.add_assoc,e2,e3,e4]
 omega
theorem au5 {A B M:List Int} {k:Nat} {a c t:Int} (hA:Limb A) (hB:Limb B) (hM:Limb M) (hk:k<A.length) (hl:k+B.length<M.length) (ht:M.getD (k+B.length) 0=t) (ha:A.getD k 0=a) (hc:0≤c) (h:val M+pw (k+B.length)*c=vf A k*val B+pw k*(a*vf B B.length)) :
  val (M.set (k+B.length) (t+c))=vf A (k+1)*val B∧Limb (M.set (k+B.length) (t+c)):=by
 have h0:0≤t:=by rw [←ht];exact (aaf hM _).1
 have e1:val (M.set (k+B.length) (t+c))=vf A (k+1)*val B:=by
  rw [aih M _ _ hl,ht,vf,ha,Int.add_mul,show t+c - t=c by omega,h,aa1 B _ (Nat.le_refl _),Int.mul_assoc]
 refine ⟨e1,ag6 hM _ _ ⟨by omega,?_⟩⟩
 have h1:=akm _ (k+B.length) (anx hM (k+B.length) (t+c) (by omega))
 have h2:(M.set (k+B.length) (t+c)).getD (k+B.length) 0=t+c:=by
  rw [List.getD_eq_getElem?_getD,List.getElem?_set_self hl];rfl
 rw [h2,e1] at h1
 have h3:=aab hB
 have h4:=aab (aam hA (k+1))
 rw [←af8,List.length_take,Nat.min_eq_left (by omega)] at h4
 have h5:vf A (k+1)*val B≤(pw (k+1) - 1)*val B:=Int.mul_le_mul_of_nonneg_right (by omega) h3.1
 have h6:(pw (k+1) - 1)*val B≤(pw (k+1) - 1)*(pw B.length - 1):=Int.mul_le_mul_of_nonneg_left (by omega) (by have:=aaj (k+1);omega)
 have h7:(pw (k+1) - 1)*(pw B.length - 1)<pw (k+1)*pw B.length:=by
  have:=aaj (k+1)
  have:=aaj B.length
  rw [Int.sub_mul,Int.mul_sub]
  omega
 have h8:pw (k+1)*pw B.length=pw (k+B.length)*10000:=by rw [←aca,show k+1+B.length=(k+B.length)+1 by omega,pw,Int.mul_comm]
 apply Classical.byContradiction
 intro hn
 have h9:pw (k+B.length)*10000≤pw (k+B.length)*(t+c):=Int.mul_le_mul_of_nonneg_left (by omega) (by have:=aaj (k+B.length);omega)
 omega
theorem Box.wr {w w' : World} {g g' : Nat} {cur:Array Value} {e:TypeId} {ng:Bool} {v:Value} (h:Box w g ng v) (hw:Wr w w' g' cur e) (hne:g≠g'):Box w' g ng v:=(hw.other g hne).trans h
set_option maxRecDepth 20000 in
set_option maxHeartbeats 1000000 in
theorem asu (w:World) (n1:Bool) (a1:Option Addr) (c1:Nat) (A:List Int) (x:Int) (hx:Got w a1 c1 A x) (n2:Bool) (a2:Option Addr) (c2:Nat) (B:List Int) (y:Int) (hy:Got w a2 c2 B y) (m1:A.length≤400000) (m2:B.length≤400000) :
  Calls Tryz.prog 40 #[.agg #[.bool n1,.slice a1 A.length c1],.agg #[.bool n2,.slice a2 B.length c2]] w fun e w'=>∃ ng' ao cap rs,e=.returned (.agg #[.bool ng',.slice ao rs.length cap])∧Wh w' ng' ao cap rs (sg (n1 != n2) (x*y))∧rs.length≤A.length+B.length+1∧Below w.heap.size w w' := by
 obtain ⟨w0,e0,bx,by',br,hb0,hs0⟩:=acj w n1 (.slice a1 A.length c1) n2 (.slice a2 B.length c2)
 obtain ⟨i0,hi,hz0,hz1,hz2⟩:=info_parts acl
 have E0:=hide e0
 have hx0:=hx.below hb0
 have hy0:=hy.below hb0
 obtain ⟨_,p1,p2,p3⟩:=hx.sl.parts
 obtain ⟨_,q1,q2,q3⟩:=hy.sl.parts
 have P3:=hide p3
 have Q3:=hide q3
 have HS:=hide hs0
 clear p3 q3 e0 hs0
 go_enter Tryz.func40,Tryz.ntmps40
 go_wp2_with (refine wpList_make_full _ rfl (.tmp 16) (.tmp 16) 43 rfl w0.heap.size 3 i0 (.int .i64 0) 1 Tryz.underlying43 hi hz0 hz1 .i64 .i64 _ _ (A.length+B.length+1) rfl rfl (by omega) (by omega) (by rw [hz2];omega) (by unfold maxLen;omega) (by rw [E0.out];exact Nat.le_refl _) ?hK)
 case hK =>
  intro w1 hown hgrow
  rw [E0.out] at hgrow
  generalize hgg:w.heap.size+1+1+1=g at hown ⊢
  obtain ⟨hgB,cur,hh,hcs,hat⟩:=aa4 hown
  have hb1:Below w0.heap.size w0 w1:=(Below.refl _ _).grown hgrow (Nat.le_refl _) (by simp)
  have HB1:=hb0.trans (hb1.mono hb0.size)
  have hs0:=HS.out
  replace bx:=bx.below hb1
  replace by' := by'.below hb1
  replace br:=br.below hb1
  have n1g:w.heap.size≠g:=by omega
  have n2g:w.heap.size+1≠g:=by omega
  have n3g:w.heap.size+1+1≠g:=by omega
  have NG:=hide (And.intro n1g (And.intro n2g n3g))
  have HX:=hide hx0
  have HY:=hide hy0
  have BX:=hide bx
  have BY:=hide by'
  have BR:=hide br
  have HH:=hide hh
  have HC:=hide hcs
  have HAT:=hide hat
  have HG:=hide hgB
  clear hown hgrow hh hcs hat hgB hgg bx by' br hx0 hy0 n1g n2g n3g E0 hs0
  go_wp2
  go_loopw [6] (fun iv wr=>∃ (k:Nat) (M:List Int) (cur' : Array Value),k≤A.length∧iv=.int .i64 k∧M.length=A.length+B.length+1∧Limb M∧val M=vf A k*val B∧Wr w1 wr g cur' 3∧cur'.size=A.length+B.length+1∧At cur' .i64 0 M) (fun iv _=>A.length - (intOf iv).toNat)
  case atStart=>exact ⟨0,List.replicate (A.length+B.length+1) 0,cur,Nat.zero_le _,rfl,by simp,ad2 _,by rw [aei];simp [vf],Wr.refl HH.out,HC.out,HAT.out⟩
  case round =>
   obtain ⟨k,M,cur',hk,rfl,hml,hm,hv,hwr,hcs',hat'⟩:=hrel
   obtain ⟨bx1,bx2,bx3,bx4⟩:=(BX.out.wr hwr NG.out.1).facts
   obtain ⟨by1,by2,by3,by4⟩:=(BY.out.wr hwr NG.out.2.1).facts
   by_cases hlt:k<A.length
   ·have dA:(k:Int)<(A.length:Int):=by omega
    obtain ⟨a,hak⟩:∃ a,A.getD k 0=a:=⟨_,rfl⟩
    have HI:Hid (M.length=A.length+B.length+1∧Limb M∧val M+pw (k+0)*0=vf A k*val B+pw k*(a*vf B 0)∧Wr w1 wr g cur' 3∧cur'.size=A.length+B.length+1∧At cur' .i64 0 M):=⟨hml,hm,by rw [hv];simp [vf],hwr,hcs',hat'⟩
    have HK:=hide hak
    clear hml hm hv hwr hcs' hat' hak
    go_wp2
    clear bx1 bx2 bx3 bx4 by1 by2 by3 by4
    go_loopw [7,8] (fun cv jv wr=>∃ (j:Nat) (c:Int) (M:List Int) (cur' : Array Value),j≤B.length∧jv=.int .i64 j∧cv=.int .i64 c∧(0≤c∧c<10000)∧M.length=A.length+B.length+1∧Limb M∧val M+pw (k+j)*c=vf A k*val B+pw k*(a*vf B j)∧Wr w1 wr g cur' 3∧cur'.size=A.length+B.length+1∧At cur' .i64 0 M) (fun _ jv _=>B.length - (intOf jv).toNat)
    case atStart=>exact ⟨0,0,M,cur',Nat.zero_le _,rfl,rfl,by omega,HI.out.1,HI.out.2.1,HI.out.2.2.1,HI.out.2.2.2.1,HI.out.2.2.2.2.1,HI.out.2.2.2.2.2⟩
    case round =>
     clear HI
     obtain ⟨j,c,M,cur',hj,rfl,rfl,hc,hml,hm,hv,hwr,hcs',hat'⟩:=hrel
     have bx' := BX.out.wr hwr NG.out.1
     have by'' := BY.out.wr hwr NG.out.2.1
     obtain ⟨bx1,bx2,bx3,bx4⟩:=bx'.facts
     obtain ⟨by1,by2,by3,by4⟩:=by''.facts
     have sA:=hwr.sl HG.out hb1 rfl HX.out.sl
     have sB:=hwr.sl HG.out hb1 rfl HY.out.sl
     obtain ⟨b1,off1,rfl,hca⟩:=sA.cells (by omega)
     have ca:=hca k hlt
     have ba:=aaf P3.out k
     rw [HK.out] at ca ba
     have hm0:=hide hml
     by_cases hltB:j<B.length
     ·have dB:(j:Int)<(B.length:Int):=by omega
      obtain ⟨b2,off2,rfl,hcb⟩:=sB.cells (by omega)
      have cb:=hcb j hltB
      have bb:=aaf Q3.out j
      obtain ⟨b,hbk⟩:∃ b,B.getD j 0=b:=⟨_,rfl⟩
      rw [hbk] at cb bb
      have cm:=hat'.cell hwr.here (k+j) (by omega)
      rw [Nat.zero_add] at cm
      have bm:=aaf hm (k+j)
      obtain ⟨t,htk⟩:∃ t,M.getD (k+j) 0=t:=⟨_,rfl⟩
      rw [htk] at cm bm
      have fm:=hwr.free (k+j)
      have hab:=ax3 ba bb
      have dM:(k:Int)+(j:Int)<(A.length:Int)+(B.length:Int)+1:=by omega
      have HV' := hide (ax4 (a:=a) (by omega) htk hbk rfl hv)
      have HL' := hide (ag6 hm (k+j) ((c+t+a*b) % 10000) (by omega))
      have HT' := hide (hat'.set (k+j) ((c+t+a*b) % 10000))
      have HW' := hide hwr
      have HCS:=hide hcs'
      clear sA sB hca hcb hbk htk hml hm hv hwr hcs' hat' bx' by''
      go_wp2
      go_quiet (fail)
      replace cm:(wr.drewN nq).cell? ⟨g,k+j,none⟩ = some (.int .i64 t):=cm
      replace fm:(wr.drewN nq).frozen? ⟨g,k+j,none⟩ = false:=fm
      have HW2:=hide ((HW'.out.drewN nq).set (k+j) (.int .i64 ((c+t+a*b) % 10000)))
      clear HW' ca cb bx1 bx2 bx3 bx4 by1 by2 by3 by4
      generalize wr.drewN nq=wr2 at cm fm HW2 ⊢
      go_wp2
      go_roundw
      case rel=>exact ⟨j+1,(c+t+a*b) / 10000,M.set (k+j) ((c+t+a*b) % 10000),_,by omega,by go_num,rfl,by omega,by rw [List.length_set];exact hm0.out,HL'.out,HV'.out,HW2.out,by rw [Array.size_setIfInBounds];exact HCS.out,by simpa using HT'.out⟩
      case measure=>simp [intOf];omega
     ·have hjB:j=B.length:=by omega
      subst hjB
      have dB:¬ (B.length:Int)<(B.length:Int):=by omega
      have cm:=hat'.cell hwr.here (k+B.length) (by omega)
      rw [Nat.zero_add] at cm
      have bm:=aaf hm (k+B.length)
      obtain ⟨t,htk⟩:∃ t,M.getD (k+B.length) 0=t:=⟨_,rfl⟩
      rw [htk] at cm bm
      have fm:=hwr.free (k+B.length)
      have dM:(k:Int)+(B.length:Int)<(A.length:Int)+(B.length:Int)+1:=by omega
      have HO:=hide (au5 P3.out Q3.out hm hlt (by omega) htk HK.out hc.1 hv)
      have HT' := hide (hat'.set (k+B.length) (t+c))
      have HW' := hide (hwr.set (k+B.length) (.int .i64 (t+c)))
      have HCS:=hide hcs'
      have wr1:IntKind.i64.wrap ((k:Int)+(B.length:Int))=(k:Int)+(B.length:Int):=by rw [IntKind.wrap_i64];omega
      have wr2:IntKind.i64.wrap (t+c)=t+c:=by rw [IntKind.wrap_i64];omega
      have wr3:(0:Int)≤(k:Int)+(B.length:Int):=by omega
      have wr4:((k:Int)+(B.length:Int)).toNat=k+B.length:=by omega
      clear sA sB hca htk hml hm hv hwr hcs' hat' bx' by'' ca
      go_wp2
      go_region
      have HW2:=hide HW'.out.drew
      clear HW' bx1 bx2 bx3 bx4 by1 by2 by3 by4 cm fm
      generalize (wr.setCell ⟨g,k+B.length,none⟩ (.int .i64 (t+c))).drew=wr9 at HW2 ⊢
      go_wp2
      go_roundw
      case rel=>exact ⟨k+1,M.set (k+B.length) (t+c),_,by omega,by go_num,by rw [List.length_set];exact hm0.out,HO.out.2,HO.out.1,HW2.out,by rw [Array.size_setIfInBounds];exact HCS.out,by simpa using HT'.out⟩
      case measure=>simp [intOf];omega
   ·have hkA:k=A.length:=by omega
    subst hkA
    have dA:¬ (A.length:Int)<(A.length:Int):=by omega
    have hvv:val M=x*y:=by rw [hv,aa1 A _ (Nat.le_refl _),HX.out.val,HY.out.val]
    have sM:Sl wr (.slice (some ⟨g,0,none⟩) (A.length+B.length+1) (A.length+B.length+1)) M:=(show Ow g wr _ M from ⟨_,_,by rw [hml],by omega,by unfold maxLen;omega,hm,.inr ⟨g,0,cur',rfl,Nat.le_refl _,hwr.here,by omega,hat'⟩⟩).sl
    have br:=BR.out.wr hwr NG.out.2.2
    have HB:=HB1.trans ((hwr.below HG.out).mono hb0.size)
    rw [←hml] at sM
    have SM:=hide sM
    have HVV:=hide hvv
    have HML:=hide hml
    clear hml hm hv hwr hcs' hat' hvv sM
    go_wp2_with fail
    rw [←HML.out]
    refine (abk _ _ _ _ M _ SM.out HVV.out).mono ?_
    rintro e w2 ⟨ng2,r2,rfl,G2,l2,hb2⟩
    rw [HML.out] at l2
    replace HB:=HB.trans (hb2.mono HB.size)
    replace br:=br.below hb2
    obtain ⟨br1,br2,br3,br4⟩:=br.facts
    have X:=hide (br.set ng2 (.slice (some ⟨g,0,none⟩) r2.length M.length)).facts
    have Y:=hide (br.wh ng2 (.slice (some ⟨g,0,none⟩) r2.length M.length) G2)
    have Z:=hide (aad HB (show w.heap.size≤w.heap.size+1+1 by omega) (.bool ng2) (.slice (some ⟨g,0,none⟩) r2.length M.length))
    clear bx1 bx2 bx3 bx4 by1 by2 by3 by4
    go_wp2
    refine bodyPost_ret (v:=.agg #[.bool ng2,.slice (some ⟨g,0,none⟩) r2.length M.length]) ?_ rfl ⟨ng2,(some ⟨g,0,none⟩),M.length,r2,rfl,by first | exact Y.out | (rw [bne];exact Y.out),l2,Z.out⟩
    simp [results,Tryz.results40,go_sem,X.out.1,X.out.2.1]
theorem ax5 (w:World) (n1:Bool) (a1:Option Addr) (c1:Nat) (xs:List Int) (x:Int) (hx:Wh w n1 a1 c1 xs x) (n2:Bool) (a2:Option Addr) (c2:Nat) (ys:List Int) (y:Int) (hy:Wh w n2 a2 c2 ys y) (m1:xs.length≤400000) (m2:ys.length≤400000) :
  Calls Tryz.prog 40 #[.agg #[.bool n1,.slice a1 xs.length c1],.agg #[.bool n2,.slice a2 ys.length c2]] w fun e w'=>∃ ng' ao cap rs,e=.returned (.agg #[.bool ng',.slice ao rs.length cap])∧Wh w' ng' ao cap rs (x*y)∧rs.length≤xs.length+ys.length+1∧Below w.heap.size w w' := by
 have wx:=hx.worth
 have wy:=hy.worth
 rw [hx.1.val] at wx
 rw [hy.1.val] at wy
 rw [show x*y=sg (n1 != n2) ((x.natAbs:Int)*(y.natAbs:Int)) by rw [ajx,wx,wy]]
 exact asu w n1 a1 c1 xs _ hx.1 n2 a2 c2 ys _ hy.1 m1 m2
end Dm
end Go.Proofs.YtgmobkafnefpfaaGreat
namespace Go.Proofs.YtgmobkafnefpfaaGreat
namespace Dm
open Go.RowKit
open Lm (hide aak aaa cmpI abe abj)
set_option maxRecDepth 20000 in
set_option maxHeartbeats 1000000 in
theorem au6 (w:World) (ng:Bool) (a1:Option Addr) (c1:Nat) (xs:List Int) (x:Int) (hx:Got w a1 c1 xs x) (m1:xs.length≤1000000) (h0:0<xs.length) :
  Calls Tryz.prog 98 #[.agg #[.bool ng,.slice a1 xs.length c1]] w fun e w'=>∃ ng' ao cap rs,e=.returned (.agg #[.bool ng',.slice ao rs.length cap])∧Wh w' ng' ao cap rs (sg false x)∧rs.length≤xs.length∧(∀ b off,ao=some ⟨b,off,none⟩→w.heap.size≤b)∧Below w.heap.size w w' := by
 obtain ⟨b,off,rfl,_⟩:=hx.sl.cells h0
 obtain ⟨w0,rfl,bx,br,hb0,hs0⟩:=acc w ng (.slice (some ⟨b,off,none⟩) xs.length c1)
 obtain ⟨i0,hi,hz0,hz1,hz2⟩:=info_parts acl
 obtain ⟨_,p1,p2,p3⟩:=hx.sl.parts
 have P3:=hide p3
 have hx0:=hx.below hb0
 have HB:=hb0
 clear p3
 go_enter Tryz.func98,Tryz.ntmps98
 go_wp2_with (at_builtin;refine wpList_append_lies _ rfl _ _ _ rfl w.heap.size 3 i0 _ 1 8 Tryz.underlying43 hi hz0 hz1 hz2 rfl (by omega) (.slice none 0 0) 0 [] rfl (World.ownsRow_nil _ _ _ _) ⟨b,off,none⟩ xs.length c1 (xs.map (Value.int .i64)) rfl (by simp) (Sl.copy hx0.sl) (ads xs) (by omega) (by unfold maxLen;omega) (by omega) (by simp;omega) (w.heap.size+2) (by simp) ?_)
 intro g1 q1 w1 hown hgrow hat hlt
 have hb1:=Below.grown (Below.refl _ _) hgrow (Nat.le_refl _) (by intro k hk;simp [Value.ownBlock] at hk)
 have HB:=HB.trans (hb1.mono HB.size)
 have s1:=copied hown P3.out
 replace bx:=bx.below hb1
 replace br:=br.below hb1
 have FAR:Hid (w.heap.size≤g1):=by rcases hat with e | e;(simp [Value.ownBlock] at e);(show w.heap.size≤g1;omega)
 clear hown hgrow hat hx0
 go_wp2_with fail
 try rw [Nat.zero_add]
 refine (abk _ _ _ _ xs _ s1 hx.val).mono ?_
 rintro e w2 ⟨ng2,r2,rfl,G2,l2,hb2⟩
 replace HB:=HB.trans (hb2.mono HB.size)
 replace bx:=bx.below hb2
 replace br:=br.below hb2
 obtain ⟨bx1,bx2,bx3,bx4⟩:=bx.facts
 obtain ⟨br1,br2,br3,br4⟩:=br.facts
 all_goals
  have X:=hide (br.set ng2 (.slice (some ⟨g1,0,none⟩) r2.length q1)).facts
  have Y:=hide (br.wh ng2 (.slice (some ⟨g1,0,none⟩) r2.length q1) G2)
  have Z:=hide (aad HB (show w.heap.size≤w.heap.size+1 by omega) (.bool ng2) (.slice (some ⟨g1,0,none⟩) r2.length q1))
  clear bx1 bx2 bx3 bx4
  go_wp2
  refine bodyPost_ret (v:=.agg #[.bool ng2,.slice (some ⟨g1,0,none⟩) r2.length q1]) ?_ rfl ⟨ng2,(some ⟨g1,0,none⟩),q1,r2,rfl,Y.out,by omega,(fun b off e=>by simp only [Option.some.injEq,Addr.mk.injEq] at e;have:=FAR.out;omega),Z.out⟩
  simp [results,Tryz.results98,go_sem,X.out.1,X.out.2.1]
theorem Is.far {B:Nat} {w:World} {v:Value} {x:Int} (h:Is B w v x):∃ ao cap rs,v=.slice ao rs.length cap∧Got w ao cap rs x∧(0<rs.length→∀ b off,ao=some ⟨b,off,none⟩→B≤b):=by
 obtain ⟨rs,ho,hc,hv⟩:=h
 have hs:=ho.sl
 obtain ⟨ao,cap,rfl,h1,h2,h3,h4⟩:=ho
 refine ⟨ao,cap,rs,rfl,⟨hs,hc,hv⟩,?_⟩
 intro h0 b off e
 rcases h4 with h4 | ⟨g',off',cur,e',hB,hh,_⟩
 ·omega
 ·rw [e'] at e
  simp only [Option.some.injEq,Addr.mk.injEq,and_true] at e
  omega
theorem Wh.natu {w:World} {ao:Option Addr} {cap:Nat} {rs:List Int} {x:Int} (h:Got w ao cap rs x):Wh w false ao cap rs x:=by
 have:=Wh.of false h
 simpa [sg] using this
theorem asv {x y:Int} : cmpI x y≤0↔x≤y:=by
 rcases Int.lt_trichotomy x y with h | h | h
 ·rw [abe h];omega
 ·subst h;simp [Lm.cmpI]
 ·rw [abj h];omega
def Cl (w:World) (b i:Nat) (v:Value):Prop:=w.cell? ⟨b,i,none⟩ = some v
theorem Cl.below {w w' : World} {b i:Nat} {v:Value} (h:Cl w b i v) (hb:Below w.heap.size w w'):Cl w' b i v:=(hb.cell (p:=⟨b,i,none⟩) (aak h)).trans h
theorem Cl.facts {w:World} {b i:Nat} {v:Value} (h:Cl w b i v):w.cell? ⟨b,i,none⟩ = some v∧True∧True∧True:=⟨h,trivial,trivial,trivial⟩
theorem Sl.other {w w' : World} {g n c:Nat} {a:Option Addr} {zs:List Int} (h:Sl w (.slice a n c) zs) (hne:0<zs.length→∀ b off,a=some ⟨b,off,none⟩→b≠g) (ho:∀ k,k≠g→w'.heap[k]? = w.heap[k]?):Sl w' (.slice a n c) zs:=by
 obtain ⟨ao',cap',hv,h1,h2,h3,h4⟩:=h
 obtain ⟨rfl,rfl,rfl⟩:=(Value.slice.injEq .. ▸ hv)
 refine ⟨_,_,rfl,h1,h2,h3,?_⟩
 rcases h4 with h4 | ⟨b,off,rfl,hc⟩
 ·exact .inl h4
 ·by_cases h0:0<zs.length
  ·refine .inr ⟨b,off,rfl,fun i hi=>?_⟩
   rw [World.cell?_of_block (w:=w) (ho b (hne h0 b off rfl))]
   exact hc i hi
  ·exact .inl (List.eq_nil_of_length_eq_zero (by omega))
structure Dv (w wr:World) (na:Bool) (va:Value) (g gy gr n:Nat) (Dl:List Int) (pY:Option Addr) (qY:Nat) (Y:List Int) (y:Int) (nR:Bool) (pR:Option Addr) (qR:Nat) (R:List Int) (r:Int):Prop where
 hb:Below w.heap.size w wr
 ba:Box wr w.heap.size na va
 b4:Box wr (w.heap.size+1+1) false (.slice none 0 0)
 b5:Box wr (w.heap.size+1+1+1) false (.slice none 0 0)
 bY:Box wr gy false (.slice pY Y.length qY)
 bR:Box wr gr nR (.slice pR R.length qR)
 d:∃ cur,wr.heap[g]? = some (.cells cur 3 (0,0))∧cur.size=n∧At cur .i64 0 Dl
 dl:Dl.length=n∧Limb Dl
 hY:Wh wr false pY qY Y y
 hR:Wh wr nR pR qR R r
 lt:w.heap.size+4≤g∧g<gy∧gy<gr
 farY:∀ b off,pY=some ⟨b,off,none⟩→g<b
section
variable {w wr wr' : World} {na:Bool} {va:Value} {g gy gr n:Nat} {Dl:List Int} {pY:Option Addr} {qY:Nat} {Y:List Int} {y:Int} {nR:Bool} {pR:Option Addr} {qR:Nat} {R:List Int} {r:Int}
theorem Dv.below (h:Dv w wr na va g gy gr n Dl pY qY Y y nR pR qR R r) (hb:Below wr.heap.size wr wr'):Dv w wr' na va g gy gr n Dl pY qY Y y nR pR qR R r:=by
 obtain ⟨cur,hh,r1⟩:=h.d
 exact ⟨h.hb.trans (hb.mono h.hb.size),h.ba.below hb,h.b4.below hb,h.b5.below hb,h.bY.below hb,h.bR.below hb,⟨cur,(hb.block g (aaa hh)).trans hh,r1⟩,h.dl,h.hY.below hb,h.hR.below hb,h.lt,h.farY⟩
theorem aa6 {w:World} {g k:Nat} {ng:Bool} {v:Value} (h:Box w k ng v) (hne:k≠g) (b u:Value):Box ((w.setCell ⟨g,0,none⟩ b).setCell ⟨g,1,none⟩ u) k ng v:=by
 unfold Box
 rw [heap_setCell_other _ ⟨g,1,none⟩ k _ hne,heap_setCell_other _ ⟨g,0,none⟩ k _ hne]
 exact h
theorem Dv.setR (h:Dv w wr na va g gy gr n Dl pY qY Y y nR pR qR R r) {n2:Bool} {p2:Option Addr} {q2:Nat} {R2:List Int} {r2:Int} (h2:Wh wr n2 p2 q2 R2 r2) :
  Dv w ((wr.setCell ⟨gr,0,none⟩ (.bool n2)).setCell ⟨gr,1,none⟩ (.slice p2 R2.length q2)) na va g gy gr n Dl pY qY Y y n2 p2 q2 R2 r2:=by
 obtain ⟨cur,hh,r1⟩:=h.d
 have l:=h.lt
 refine ⟨aad h.hb (by omega) _ _,aa6 h.ba (by omega) _ _,aa6 h.b4 (by omega) _ _,aa6 h.b5 (by omega) _ _,aa6 h.bY (by omega) _ _,h.bR.set _ _,⟨cur,?_,r1⟩,h.dl,h.bR.wh _ _ h.hY,h.bR.wh _ _ h2,h.lt,h.farY⟩
 rw [heap_setCell_other _ ⟨gr,1,none⟩ g _ (by simp;omega),heap_setCell_other _ ⟨gr,0,none⟩ g _ (by simp;omega)]
 exact hh
theorem Dv.setD (h:Dv w wr na va g gy gr n Dl pY qY Y y nR pR qR R r) (i:Nat) (q:Int) (hq:0≤q∧q<10000) (hfar:0<R.length→∀ b off,pR=some ⟨b,off,none⟩→b≠g) :
  Dv w (wr.setCell ⟨g,i,none⟩ (.int .i64 q)) na va g gy gr n (Dl.set i q) pY qY Y y nR pR qR R r:=by
 obtain ⟨cur,hh,hs,ha⟩:=h.d
 have l:=h.lt
 have ho:∀ k,k≠g→(wr.setCell ⟨g,i,none⟩ (.int .i64 q)).heap[k]? = wr.heap[k]? := fun k hk=>heap_setCell_other wr ⟨g,i,none⟩ k _ hk
 have hset:=ha.set i q
 rw [Nat.zero_add] at hset
 refine ⟨h.hb.setCell (show w.heap.size≤g by omega) _,(ho _ (by omega)).trans h.ba,(ho _ (by omega)).trans h.b4,(ho _ (by omega)).trans h.b5,(ho _ (by omega)).trans h.bY,(ho _ (by omega)).trans h.bR,⟨_,heap_setCell_same wr g i cur _ _ hh,by rw [Array.size_setIfInBounds];exact hs,hset⟩,⟨by rw [List.length_set];exact h.dl.1,ag6 h.dl.2 _ _ hq⟩,?_,?_,h.lt,h.farY⟩
 ·exact ⟨⟨h.hY.1.1.other (fun _ b off e=>by have:=h.farY b off e;omega) ho,h.hY.1.2⟩,h.hY.2⟩
 ·exact ⟨⟨h.hR.1.1.other hfar ho,h.hR.1.2⟩,h.hR.2⟩
theorem Dv.cell (h:Dv w wr na va g gy gr n Dl pY qY Y y nR pR qR R r) (i:Nat) (hi:i<n):wr.cell? ⟨g,i,none⟩ = some (.int .i64 (Dl.getD i 0))∧wr.frozen? ⟨g,i,none⟩ = false:=by
 obtain ⟨cur,hh,hs,ha⟩:=h.d
 have:=ha.cell hh i (by rw [h.dl.1];exact hi)
 rw [Nat.zero_add] at this
 exact ⟨this,frozen_of_row wr g i cur _ hh⟩
theorem Dv.sl (h:Dv w wr na va g gy gr n Dl pY qY Y y nR pR qR R r) (hn:n≤1000000):Sl wr (.slice (some ⟨g,0,none⟩) n n) Dl:=by
 obtain ⟨cur,hh,hs,ha⟩:=h.d
 exact (show Ow g wr _ Dl from ⟨_,n,by rw [h.dl.1],by rw [h.dl.1];omega,by unfold maxLen;omega,h.dl.2,.inr ⟨g,0,cur,rfl,Nat.le_refl _,hh,by omega,ha⟩⟩).sl
end
theorem ap1 {A Dl:List Int} {k:Nat} {y r a q:Int} (hk:k<A.length) (hd:k<Dl.length) (ha:A.getD k 0=a) (h:val (A.drop (k+1))=y*val (Dl.drop (k+1))+r):val (A.drop k)=y*val ((Dl.set k q).drop k)+(r*10000+a - (y*q+0)):=by
 rw [aa2 A k hk,ha,val,h]
 have e:(Dl.set k q).drop k=q :: Dl.drop (k+1):=by
  rw [aa2 _ k (by rw [List.length_set];exact hd),List.drop_set_of_lt (by omega)]
  congr 1
  rw [List.getD_eq_getElem?_getD,List.getElem?_set_self hd]
  rfl
 rw [e,val,Int.mul_add,Int.mul_add,←Int.mul_assoc,←Int.mul_assoc,Int.mul_comm 10000 y]
 omega
theorem ap2 {A:List Int} (hA:Limb A) {m:Nat} {y:Int} (hy:pw m≤y) {sk:Nat} (hs:A.length - sk≤m):0≤val (A.drop sk)∧val (A.drop sk)<y:=by
 have h1:=aab (acp hA sk)
 have h2:=aa0 (m:=(A.drop sk).length) (n:=m) (by rw [List.length_drop];exact hs)
 omega
theorem au7 {x y q r:Int} (h:x=y*q+r) (h0:0≤r) (h1:r<y):q=x / y∧r=x % y:=by
 have e:(r+y*q) / y=r / y+q:=Int.add_mul_ediv_left _ _ (by omega)
 have e2:(r+y*q) % y=r % y:=Int.add_mul_emod_self_left _ _ _
 rw [Int.add_comm] at h
 rw [h,e,e2,Int.ediv_eq_zero_of_lt h0 h1,Int.emod_eq_of_lt h0 h1]
 omega
end Dm
end Go.Proofs.YtgmobkafnefpfaaGreat
namespace Go.Proofs.YtgmobkafnefpfaaGreat
namespace Dm
open Go.RowKit
open Lm (hide aak aaa cmpI abe abj)
theorem Sl.drop {w:World} {b off n c:Nat} {zs:List Int} (h:Sl w (.slice (some ⟨b,off,none⟩) n c) zs) (k:Nat) (hk:k≤zs.length):Sl w (.slice (some ⟨b,off+k,none⟩) (zs.length - k) (c - k)) (zs.drop k):=by
 obtain ⟨ao',cap',hv,h1,h2,h3,h4⟩:=h
 obtain ⟨rfl,rfl,rfl⟩:=(Value.slice.injEq .. ▸ hv)
 refine ⟨_,_,by rw [List.length_drop],by rw [List.length_drop];omega,Nat.le_trans (Nat.sub_le _ _) h2,acp h3 k,?_⟩
 rcases h4 with rfl | ⟨b',off',e,hc⟩
 ·exact .inl (by simp)
 ·simp only [Option.some.injEq,Addr.mk.injEq,and_true] at e
  obtain ⟨rfl,rfl⟩:=e
  refine .inr ⟨b,off+k,rfl,fun i hi=>?_⟩
  rw [List.length_drop] at hi
  have:=hc (k+i) (by omega)
  rw [List.getD_eq_getElem?_getD,List.getElem?_drop,←List.getD_eq_getElem?_getD,Nat.add_assoc]
  exact this
theorem ap3 (w:World) (ng:Bool) (ao:Option Addr) (n cap:Nat) (ds:List Int) (x:Int) (h:Sl w (.slice ao n cap) ds) (hv:Dm.val ds=x) :
  Calls Tryz.prog 75 #[.bool ng,.slice ao n cap] w fun e w'=>∃ ng' rs,e=.returned (.agg #[.bool ng',.slice ao rs.length cap])∧Wh w' ng' ao cap rs (sg ng x)∧rs.length≤ds.length∧Below w.heap.size w w' := by
 obtain ⟨rfl,_⟩:=h.parts
 exact abk w ng ao cap ds x h hv
set_option maxRecDepth 20000 in
set_option maxHeartbeats 8000000 in
theorem ai5 (w:World) (n1:Bool) (a1:Option Addr) (c1:Nat) (A:List Int) (x:Int) (hx:Got w a1 c1 A x) (n2:Bool) (a2:Option Addr) (c2:Nat) (B:List Int) (y:Int) (hy:Got w a2 c2 B y) (m1:A.length≤300000) (m2:B.length≤300000) (y0:0<B.length) :
  Calls Tryz.prog 99 #[.agg #[.bool n1,.slice a1 A.length c1],.agg #[.bool n2,.slice a2 B.length c2]] w fun e w'=>∃ nq pq qq Q nr pr qr R,e=.returned (.tuple #[.agg #[.bool nq,.slice pq Q.length qq],.agg #[.bool nr,.slice pr R.length qr]])∧Wh w' nq pq qq Q (x / y)∧Wh w' nr pr qr R (x % y)∧Q.length≤A.length∧R.length≤B.length∧Below w.heap.size w w' := by
 obtain ⟨w0,e0,bx,by',br,hb0,hs0⟩:=acj w n1 (.slice a1 A.length c1) n2 (.slice a2 B.length c2)
 obtain ⟨bs5,hb5,hs5⟩:=boxed w0 false (.slice none 0 0)
 obtain ⟨i0,hi,hz0,hz1,hz2⟩:=info_parts acl
 have E0:=hide e0
 rw [hs0] at bs5 hs5
 replace bx:=bx.below hb5
 replace by' := by'.below hb5
 replace br:=br.below hb5
 have HB0:=hb0.trans (hb5.mono hb0.size)
 have hx0:=hx.below HB0
 have hy0:=hy.below HB0
 obtain ⟨_,p1,p2,p3⟩:=hx.sl.parts
 obtain ⟨_,q1,q2,q3⟩:=hy.sl.parts
 have P3:=hide p3
 have Q3:=hide q3
 generalize hw0:w0.alloc (.cells #[.bool false,.slice none 0 0] 51)=w5 at *
 have E5:=hide hw0
 have HS:=hide hs5
 clear p3 q3 e0 hs0 hb5 hw0 hs5
 go_enter Tryz.func99,Tryz.ntmps99
 obtain ⟨bx1,bx2,bx3,bx4⟩:=bx.facts
 go_wp2_with (refine wpList_make_full _ rfl (.tmp 16) (.tmp 16) 43 rfl w5.heap.size 3 i0 (.int .i64 0) 1 Tryz.underlying43 hi hz0 hz1 .i64 .i64 _ _ A.length rfl rfl (by omega) (by omega) (by rw [hz2];omega) (by unfold maxLen;omega) (by rw [E0.out,E5.out];exact Nat.le_refl _) ?hK)
 case hK =>
  intro w1 hown hgrow
  rw [E0.out,E5.out] at hgrow
  have hsz5:=HS.out
  obtain ⟨hgB,cur,hh,hcs,hat⟩:=aa4 hown
  have hb1:Below w5.heap.size w5 w1:=(Below.refl _ _).grown hgrow (Nat.le_refl _) (by simp)
  have HB1:=HB0.trans (hb1.mono HB0.size)
  have hs1:=aaa hh
  replace bx:=bx.below hb1
  replace by' := by'.below hb1
  replace br:=br.below hb1
  replace bs5:=bs5.below hb1
  have hx1:=hx0.below hb1
  have hy1:=hy0.below hb1
  have HH:=hide (And.intro hh (And.intro hcs hat))
  clear hown hgrow hh hcs hat hgB hx0 hy0 bx1 bx2 bx3 bx4 E0 E5 hb1 HB0 HS
  generalize hgg:w.heap.size+1+1+1+1=g at HH hs1 ⊢
  obtain ⟨bx1,bx2,bx3,bx4⟩:=bx.facts
  obtain ⟨by1,by2,by3,by4⟩:=by'.facts
  go_wp2_with fail
  refine (au6 _ _ _ _ B _ hy1 (by omega) y0).mono ?_
  rintro e w2 ⟨nY,pY,qY,Y,rfl,GY,lY,farY,hb2⟩
  have HB2:=HB1.trans (hb2.mono HB1.size)
  have z2:=hb2.size
  replace bx:=bx.below hb2
  replace by' := by'.below hb2
  replace br:=br.below hb2
  replace bs5:=bs5.below hb2
  replace hx1:=hx1.below hb2
  have hh2:=(hb2.block g hs1).trans HH.out.1
  obtain rfl:nY=false:=by
   rw [GY.2]
   have:=(aab Q3.out).1
   rw [hy.val] at this
   simp [sg]
   omega
  simp only [sg,Bool.false_eq_true,if_false] at GY
  obtain ⟨w3,e3,bY,hb3,hs3⟩:=abm w2 false (.slice pY Y.length qY)
  have HB3:=HB2.trans (hb3.mono HB2.size)
  replace bx:=bx.below hb3
  replace by' := by'.below hb3
  replace br:=br.below hb3
  replace bs5:=bs5.below hb3
  replace hx1:=hx1.below hb3
  replace GY:=GY.below hb3
  have hh3:=(hb3.block g (by omega)).trans hh2
  have HH3:=hide (And.intro hh3 HH.out.2)
  have E3:=hide e3
  clear hb2 hb3 hy1 HH hh2 hh3 e3 bx1 bx2 bx3 bx4 by1 by2 by3 by4
  go_upto_region 3 with fail
  rw [E3.out]
  clear E3
  obtain ⟨bx1,bx2,bx3,bx4⟩:=bx.facts
  obtain ⟨by1,by2,by3,by4⟩:=by'.facts
  generalize hgy:w2.heap.size=gy at *
  go_upto_if 29 with fail
  have hsk:∃ sk:Nat,sk=A.length+1 - B.length:=⟨_,rfl⟩
  obtain ⟨sk,hsk⟩:=hsk
  go_cut [8] (fun v wx=>v=.int .i64 (sk:Int)∧wx=w3)
  case first =>
   by_cases hneg:(A.length:Int) - B.length+1<0
   ·go_wp2
    go_meet
    case rel=>exact ⟨by simp;omega,rfl⟩
   ·go_wp2
    go_meet
    case rel=>exact ⟨by simp;omega,rfl⟩
  case rest =>
   obtain ⟨rfl,rfl⟩:=hcut
   have HSK:=hide hsk
   have hskA:sk≤A.length:=by omega
   clear hsk
   have DV0:Hid (∀ (wx:World) (gr:Nat) (nR:Bool) (pR:Option Addr) (qR:Nat) (R:List Int) (r:Int),Below wc.heap.size wc wx→Box wx gr nR (.slice pR R.length qR)→Wh wx nR pR qR R r→gy<gr→Dv w wx n1 (.slice a1 A.length c1) g gy gr A.length (List.replicate A.length 0) pY qY Y y nR pR qR R r):=by
    intro wx gr nR pR qR R r hbx bRx hRx hgr
    have hd:=HH3.out.1
    exact ⟨HB3.trans (hbx.mono HB3.size),bx.below hbx,br.below hbx,bs5.below hbx,bY.below hbx,bRx,⟨cur,(hbx.block g (aaa hd)).trans hd,HH3.out.2⟩,⟨by simp,ad2 _⟩,GY.below hbx,hRx,⟨by omega,by omega,hgr⟩,fun b off e=>by have:=farY b off e;omega⟩
   go_upto_region 6 with fail
   go_cut [9] (fun v wx=>∃ gr nR pR qR R,v=.pointer (some ⟨gr,0,none⟩)∧Dv w wx n1 (.slice a1 A.length c1) g gy gr A.length (List.replicate A.length 0) pY qY Y y nR pR qR R (val (A.drop sk)))
   case first =>
    by_cases hne:sk<A.length
    ·obtain ⟨b,off,rfl,_⟩:=hx1.sl.cells (by omega)
     have sd:=hx1.sl.drop sk (by omega)
     have dI:(sk:Int)≤(A.length:Int):=by omega
     have sd2:=sd
     rw [←List.length_drop] at sd2
     have hlen:(A.drop sk).length=A.length - sk:=List.length_drop
     go_wp2_with (at_builtin;refine wpList_append_lies _ rfl _ _ _ rfl wc.heap.size 3 i0 _ 1 8 Tryz.underlying43 hi hz0 hz1 hz2 rfl (by omega) (.slice none 0 0) 0 [] rfl (World.ownsRow_nil _ _ _ _) ⟨b,off+sk,none⟩ (A.length - sk) (c1 - sk) ((A.drop sk).map (Value.int .i64)) rfl (by simp) (Sl.copy sd) (ads _) (by omega) (by unfold maxLen;omega) (by omega) (Nat.le_refl _) wc.heap.size rfl ?_)
     intro g1 q1 w4 hown hgrow hat hlt
     have hb4:=Below.grown (Below.refl wc.heap.size wc) hgrow (Nat.le_refl _) (by intro k hk;simp [Value.ownBlock] at hk)
     have s4:=copied (zs:=A.drop sk) (by rw [List.nil_append,List.map_drop];exact hown) (acp P3.out sk)
     clear hown hgrow hat
     go_wp2_with fail
     refine (ap3 _ _ _ (A.length - sk) _ (A.drop sk) _ (by rw [hlen] at s4;exact s4) rfl).mono ?_
     rintro e w5 ⟨nR,R,rfl,GR,lR,hb5⟩
     have hb45:Below wc.heap.size wc w5:=hb4.trans (hb5.mono hb4.size)
     obtain ⟨w6,e6,bR,hb6,hs6⟩:=abm w5 nR (.slice (some ⟨g1,0,none⟩) R.length q1)
     have E6:=hide e6
     have z5:=hb45.size
     have FIN:=hide (DV0.out w6 w5.heap.size nR (some ⟨g1,0,none⟩) q1 R _ (hb45.trans (hb6.mono hb45.size)) bR (GR.below hb6) (by omega))
     clear e6 bx1 bx2 bx3 bx4 by1 by2 by3 by4
     go_wp2
     rw [E6.out]
     go_meet
     case rel=>exact ⟨w5.heap.size,nR,(some ⟨g1,0,none⟩),q1,R,rfl,FIN.out⟩
    ·have hsk2:sk=A.length:=by omega
     subst hsk2
     cases a1 with
     | none =>
      go_wp2_with fail
      refine (abk _ _ none 0 [] 0 (ac5 _) rfl).mono ?_
      rintro e w5 ⟨nR,R,rfl,GR,lR,hb5⟩
      have hb45:Below wc.heap.size wc w5:=hb5
      obtain ⟨w6,e6,bR,hb6,hs6⟩:=abm w5 nR (.slice none R.length 0)
      have E6:=hide e6
      have z5:=hb45.size
      have FIN:=hide (DV0.out w6 w5.heap.size nR none 0 R _ (hb45.trans (hb6.mono hb45.size)) bR (GR.below hb6) (by omega))
      clear e6 bx1 bx2 bx3 bx4 by1 by2 by3 by4
      go_wp2
      rw [E6.out]
      go_meet
      case rel=>exact ⟨w5.heap.size,nR,none,0,R,rfl,by rw [List.drop_length];exact FIN.out⟩
     | some ad =>
      rcases Nat.eq_or_lt_of_le p1 with hc | hc
      ·subst hc
       go_wp2_with fail
       refine (abk _ _ none 0 [] 0 (ac5 _) rfl).mono ?_
       rintro e w5 ⟨nR,R,rfl,GR,lR,hb5⟩
       have hb45:Below wc.heap.size wc w5:=hb5
       obtain ⟨w6,e6,bR,hb6,hs6⟩:=abm w5 nR (.slice none R.length 0)
       have E6:=hide e6
       have z5:=hb45.size
       have FIN:=hide (DV0.out w6 w5.heap.size nR none 0 R _ (hb45.trans (hb6.mono hb45.size)) bR (GR.below hb6) (by omega))
       clear e6 bx1 bx2 bx3 bx4 by1 by2 by3 by4
       go_wp2
       rw [E6.out]
       go_meet
       case rel=>exact ⟨w5.heap.size,nR,none,0,R,rfl,by rw [List.drop_length];exact FIN.out⟩
      ·have hc1:¬ c1=A.length:=by omega
       have hc2:¬ A.length=c1:=by omega
       go_wp2_with fail
       refine (abk _ _ none 0 [] 0 (ac5 _) rfl).mono ?_
       rintro e w5 ⟨nR,R,rfl,GR,lR,hb5⟩
       have hb45:Below wc.heap.size wc w5:=hb5
       obtain ⟨w6,e6,bR,hb6,hs6⟩:=abm w5 nR (.slice none R.length 0)
       have E6:=hide e6
       have z5:=hb45.size
       have FIN:=hide (DV0.out w6 w5.heap.size nR none 0 R _ (hb45.trans (hb6.mono hb45.size)) bR (GR.below hb6) (by omega))
       clear e6 bx1 bx2 bx3 bx4 by1 by2 by3 by4
       go_wp2
       rw [E6.out]
       go_meet
       case rel=>exact ⟨w5.heap.size,nR,none,0,R,rfl,by rw [List.drop_length];exact FIN.out⟩
   case rest =>
    obtain ⟨gr,nR,pR,qR,R,rfl,DV⟩:=hcut
    have hyv:0<y:=by rw [←hy.val];have:=aa8 hy.canon (by intro e;rw [e] at y0;simp at y0);have:=aaj (B.length - 1);omega
    have hyp:y<pw B.length:=by rw [←hy.val];exact (aab Q3.out).2
    have HST:=hide (ap2 P3.out (m:=B.length - 1) (y:=y) (sk:=sk) (by rw [←hy.val];exact aa8 hy.canon (by intro e;rw [e] at y0;simp at y0)) (by have:=HSK.out;omega))
    have HYP:=hide hyp
    clear DV0 bx1 bx2 bx3 bx4 by1 by2 by3 by4 bx by' br bs5 bY hx1 GY HH3 farY hyp
    go_wp2
    go_loopw [10] (fun iv wr=>∃ (k:Nat) (Dl:List Int) (nR:Bool) (pR:Option Addr) (qR:Nat) (R:List Int) (r:Int),k≤sk∧iv=.int .i64 ((k:Int) - 1)∧Dv w wr n1 (.slice a1 A.length c1) g gy gr A.length Dl pY qY Y y nR pR qR R r∧val (A.drop k)=y*val (Dl.drop k)+r∧0≤r∧r<y) (fun iv _=>(intOf iv+1).toNat)
    case atStart=>exact ⟨sk,_,_,_,_,_,_,Nat.le_refl _,rfl,DV,by rw [List.drop_replicate,aei];omega,HST.out.1,HST.out.2⟩
    case round =>
     clear DV HST
     obtain ⟨k,Dl,nR,pR,qR,R,r,hk,rfl,DV,hv,hr0,hr1⟩:=hrel
     have lR:=DV.hR.len (m:=B.length) (by have:=HYP.out;omega)
     have HV:=hide hv
     clear hv
     cases k with
     | zero =>
      have hv:=HV.out
      rw [List.drop_zero,List.drop_zero,hx.val] at hv
      have QE:=hide (au7 hv hr0 hr1)
      have bR:=DV.bR
      have b4:=DV.b4
      have b5:=DV.b5
      have HL9:=DV.lt
      have ne1:¬ (w.heap.size+1+1=gr):=by omega
      have ne2:¬ (w.heap.size+1+1+1=gr):=by omega
      have ne3:¬ (gr=w.heap.size+1+1):=by omega
      have ne4:¬ (gr=w.heap.size+1+1+1):=by omega
      obtain ⟨bR1,bR2,bR3,bR4⟩:=bR.facts
      obtain ⟨b41,b42,b43,b44⟩:=b4.facts
      obtain ⟨b51,b52,b53,b54⟩:=b5.facts
      clear hv
      go_wp2_with fail
      go_region_held3 (fun w'=>w'.cell? ⟨gr,0,none⟩ = some (.bool nR)∧w'.cell? ⟨gr,1,none⟩ = some (.slice pR R.length qR)) (go_keep) (first
       | (go_at_call 75;refine (ap3 _ _ _ _ _ Dl _ ((DV.sl (by omega)).below (by repeat (first | exact Below.refl _ _ | refine Below.drew ?_))) rfl).mono ?_;rintro e w1 ⟨n2q,Q,rfl,GQ,lQ,hb1⟩;have hb1' : Below wr.heap.size wr w1:=(show Below wr.heap.size wr _ by repeat (first | exact Below.refl _ _ | refine Below.drew ?_)).trans hb1;replace DV:=DV.below hb1';replace bR:=bR.below hb1';clear bR1 bR2 bR3 bR4;obtain ⟨bR1,bR2,bR3,bR4⟩:=bR.facts;replace b4:=b4.below hb1';clear b41 b42 b43 b44;obtain ⟨b41,b42,b43,b44⟩:=b4.facts;replace b5:=b5.below hb1';clear b51 b52 b53 b54;obtain ⟨b51,b52,b53,b54⟩:=b5.facts))
      all_goals
       have F1:=hide (aa6 (b4.set n2q (.slice (some ⟨g,0,none⟩) Q.length A.length)) (show w.heap.size+1+1≠w.heap.size+1+1+1 by omega) (.bool nR) (.slice pR R.length qR)).facts
       have b5' := aa6 b5 (show w.heap.size+1+1+1≠w.heap.size+1+1 by omega) (.bool n2q) (.slice (some ⟨g,0,none⟩) Q.length A.length)
       have F2:=hide (b5'.set nR (.slice pR R.length qR)).facts
       have Y1:=hide (b5'.wh nR (.slice pR R.length qR) (b4.wh n2q (.slice (some ⟨g,0,none⟩) Q.length A.length) GQ))
       have Y2:=hide (b5'.wh nR (.slice pR R.length qR) (b4.wh n2q (.slice (some ⟨g,0,none⟩) Q.length A.length) DV.hR))
       have Z2:=hide (aad (aad DV.hb (show w.heap.size≤w.heap.size+1+1 by omega) (.bool n2q) (.slice (some ⟨g,0,none⟩) Q.length A.length)) (show w.heap.size≤w.heap.size+1+1+1 by omega) (.bool nR) (.slice pR R.length qR))
       have lD:=DV.dl.1
       clear bR1 bR2 bR3 bR4 DV
       go_wp2
       refine bodyPost_ret (v:=.tuple #[.agg #[.bool n2q,.slice (some ⟨g,0,none⟩) Q.length A.length],.agg #[.bool nR,.slice pR R.length qR]]) ?_ rfl ⟨n2q,some ⟨g,0,none⟩,A.length,Q,nR,pR,qR,R,rfl,by rw [←QE.out.1];exact Y1.out,by rw [←QE.out.2];exact Y2.out,by omega,by omega,Z2.out⟩
       simp [results,Tryz.results99,go_sem,F1.out.1,F1.out.2.1,F2.out.1,F2.out.2.1]
     | succ k =>
      obtain ⟨b,off,rfl,hca⟩:=hx.sl.cells (by omega)
      have cc:Cl wr b (off+k) (.int .i64 (A.getD k 0)):=(DV.hb.cell (p:=⟨b,off+k,none⟩) (aak (hca k (by omega)))).trans (hca k (by omega))
      have ba9:=aaf P3.out k
      obtain ⟨a,hak⟩:∃ a,A.getD k 0=a:=⟨_,rfl⟩
      rw [hak] at cc ba9
      have HAK:=hide hak
      have ba:=DV.ba
      have bR:=DV.bR
      have vR:val R=r:=by rw [DV.hR.1.val];omega
      have dK:(k:Int)<(A.length:Int):=by omega
      have dK0:(0:Int)≤(k:Int):=by omega
      have HL9:=DV.lt
      have hz9:=aaa DV.bR
      clear hca hak
      have ek:(((k+1:Nat):Int) - 1)=(k:Int):=by omega
      rw [ek]
      clear ek
      go_upto_region 10 with fail
      go_cut [] (fun wx=>∃ pR qR R,Dv w wx n1 (.slice (some ⟨b,off,none⟩) A.length c1) g gy gr A.length Dl pY qY Y y false pR qR R (r*10000+a)∧(0<R.length→∀ b off,pR=some ⟨b,off,none⟩→b≠g))
      case first =>
       obtain ⟨cc1,cc2,cc3,cc4⟩:=cc.facts
       obtain ⟨ba1,ba2,ba3,ba4⟩:=ba.facts
       obtain ⟨bR1,bR2,bR3,bR4⟩:=bR.facts
       go_region_with (first
        | (go_at_call 75;have _hq:=hb1';refine (aht _ p1 q1 r1 _ (G1.below (by repeat (first | exact Below.refl _ _ | refine Below.drew ?_)))).mono ?_;rintro e w2 ⟨rfl,hb2⟩;have hb2' : Below w1.heap.size w1 w2:=(show Below w1.heap.size w1 _ by repeat (first | exact Below.refl _ _ | refine Below.drew ?_)).trans hb2;replace G1:=G1.below hb2';replace DV:=DV.below hb2';replace ba:=ba.below hb2';clear ba1 ba2 ba3 ba4;obtain ⟨ba1,ba2,ba3,ba4⟩:=ba.facts;replace bR:=bR.below hb2';clear bR1 bR2 bR3 bR4;obtain ⟨bR1,bR2,bR3,bR4⟩:=bR.facts;replace cc:=cc.below hb2';clear cc1 cc2 cc3 cc4;obtain ⟨cc1,cc2,cc3,cc4⟩:=cc.facts)
        | (go_at_call 109;refine (ab2 _ _ _ _ R (DV.hR.sl.below (by repeat (first | exact Below.refl _ _ | refine Below.drew ?_))) 10000 a (by omega) (by omega) (by omega)).mono ?_;rintro e w1 ⟨v1,rfl,I1,hb1⟩;have hb1' : Below wr.heap.size wr w1:=(show Below wr.heap.size wr _ by repeat (first | exact Below.refl _ _ | refine Below.drew ?_)).trans hb1;obtain ⟨p1,q1,r1,rfl,G1,far1⟩:=I1.far;clear I1;replace DV:=DV.below hb1';replace ba:=ba.below hb1';clear ba1 ba2 ba3 ba4;obtain ⟨ba1,ba2,ba3,ba4⟩:=ba.facts;replace bR:=bR.below hb1';clear bR1 bR2 bR3 bR4;obtain ⟨bR1,bR2,bR3,bR4⟩:=bR.facts;replace cc:=cc.below hb1';clear cc1 cc2 cc3 cc4;obtain ⟨cc1,cc2,cc3,cc4⟩:=cc.facts))
       all_goals
        rw [vR] at G1
        have FIN:=hide (DV.setR (Wh.natu G1))
        have FAR:Hid (0<r1.length→∀ b off,p1=some ⟨b,off,none⟩→b≠g):=fun h0 b off e=>by have:=far1 h0 b off e;simp at this;omega
        clear ba1 ba2 ba3 ba4 cc1 cc2 cc3 cc4 DV
        go_wp2
        go_meet
        case rel=>exact ⟨p1,q1,r1,FIN.out,FAR.out⟩
      case rest =>
       obtain ⟨pR,qR,R,DV,farR⟩:=hcut
       have HFR:=hide farR
       clear farR vR ba bR cc
       have lR2:=DV.hR.len (m:=B.length+1) (by rw [pw];have:=HYP.out;omega)
       go_wp2
       obtain ⟨r9,hr9⟩:∃ r9,r*10000+a=r9:=⟨_,rfl⟩
       rw [hr9] at DV
       have hy9:y*9999+y=y*(9999+1):=by rw [Int.mul_add];omega
       go_loopw [11,12] (fun lo hi wx=>∃ l h:Int,lo=.int .i64 l∧hi=.int .i64 h∧0≤l∧l≤h∧h≤9999∧y*l≤r9∧r9<y*(h+1)∧Below wc.heap.size wc wx) (fun lo hi _=>(intOf hi - intOf lo).toNat)
       case atStart=>exact ⟨0,9999,rfl,rfl,by omega,by omega,by omega,by omega,by omega,Below.refl _ _⟩
       case round =>
        obtain ⟨l,h,rfl,rfl,l0,lh,h9,lo1,hi1,hbx⟩:=hrel
        replace DV:=DV.below hbx
        have LO:=hide lo1
        have HI:=hide hi1
        have HBW:=hide hbx
        clear lo1 hi1 hbx
        by_cases hlt:l<h
        ·obtain ⟨m,hm⟩:∃ m,(l+h+1) / 2=m:=⟨_,rfl⟩
         have hm1:l<m∧m≤h:=by omega
         have bY:=DV.bY
         have bR:=DV.bR
         have vY:val Y=y:=by rw [DV.hY.1.val];omega
         have hg9:0≤r9:=by omega
         go_upto_region 15 with fail
         rw [hm]
         go_cut [66] (fun v wx=>v=.bool (decide (y*m≤r9))∧Below wr.heap.size wr wx)
         case first =>
          obtain ⟨bY1,bY2,bY3,bY4⟩:=bY.facts
          obtain ⟨bR1,bR2,bR3,bR4⟩:=bR.facts
          have K:=hide (fun w g1 g2 a1 a2 c1 c2 xs ys x y hx hy=>afd w g1 g2 a1 a2 c1 c2 xs ys x y hx hy)
          go_region_held3 (fun w'=>w'.cell? ⟨gy,0,none⟩ = some (.bool false)∧w'.cell? ⟨gy,1,none⟩ = some (.slice pY Y.length qY)∧w'.cell? ⟨gr,0,none⟩ = some (.bool false)∧w'.cell? ⟨gr,1,none⟩ = some (.slice pR R.length qR)) (go_keep) (first
           | (go_at_call 77;have _hq:=hb2';refine (afd _ _ _ p1 _ q1 _ r1 R _ _ (G1.below (by repeat (first | exact Below.refl _ _ | refine Below.drew ?_))) (DV.hR.1.below (by repeat (first | exact Below.refl _ _ | refine Below.drew ?_)))).mono ?_;rintro e w3 ⟨rfl,hb3⟩;have hb3' : Below w2.heap.size w2 w3:=(show Below w2.heap.size w2 _ by repeat (first | exact Below.refl _ _ | refine Below.drew ?_)).trans hb3;replace DV:=DV.below hb3';replace bY:=bY.below hb3';clear bY1 bY2 bY3 bY4;obtain ⟨bY1,bY2,bY3,bY4⟩:=bY.facts;replace bR:=bR.below hb3';clear bR1 bR2 bR3 bR4;obtain ⟨bR1,bR2,bR3,bR4⟩:=bR.facts)
           | (go_at_call 75;have _hq:=hb1';refine (aht _ p1 q1 r1 _ (G1.below (by repeat (first | exact Below.refl _ _ | refine Below.drew ?_)))).mono ?_;rintro e w2 ⟨rfl,hb2⟩;have hb2' : Below w1.heap.size w1 w2:=(show Below w1.heap.size w1 _ by repeat (first | exact Below.refl _ _ | refine Below.drew ?_)).trans hb2;replace G1:=G1.below hb2';replace DV:=DV.below hb2';replace bY:=bY.below hb2';clear bY1 bY2 bY3 bY4;obtain ⟨bY1,bY2,bY3,bY4⟩:=bY.facts;replace bR:=bR.below hb2';clear bR1 bR2 bR3 bR4;obtain ⟨bR1,bR2,bR3,bR4⟩:=bR.facts)
           | (go_at_call 109;refine (ab2 _ _ _ _ Y (DV.hY.sl.below (by repeat (first | exact Below.refl _ _ | refine Below.drew ?_))) m 0 (by omega) (by omega) (by omega)).mono ?_;rintro e w1 ⟨v1,rfl,I1,hb1⟩;have hb1' : Below wr.heap.size wr w1:=(show Below wr.heap.size wr _ by repeat (first | exact Below.refl _ _ | refine Below.drew ?_)).trans hb1;obtain ⟨p1,q1,r1,rfl,G1,far1⟩:=I1.far;clear I1 far1;replace DV:=DV.below hb1';replace bY:=bY.below hb1';clear bY1 bY2 bY3 bY4;obtain ⟨bY1,bY2,bY3,bY4⟩:=bY.facts;replace bR:=bR.below hb1';clear bR1 bR2 bR3 bR4;obtain ⟨bR1,bR2,bR3,bR4⟩:=bR.facts))
          all_goals
           clear DV bY1 bY2 bY3 bY4 bR1 bR2 bR3 bR4
           have HBX:=hide ((hb1'.trans (hb2'.mono hb1'.size)).trans (hb3'.mono (Nat.le_trans hb1'.size hb2'.size)))
           have e9:(cmpI (y*m) (r9.natAbs:Int)≤0)↔(y*m≤r9):=by
            rw [show ((r9.natAbs:Nat):Int)=r9 by omega]
            exact asv
           have e10:decide (cmpI (y*m) (r9.natAbs:Int)≤0)=decide (y*m≤r9):=decide_eq_decide.2 e9
           have E9:=hide e10
           clear e9 e10
           go_wp2
           go_meet
           case rel=>exact ⟨by rw [←E9.out],HBX.out⟩
         case rest =>
          obtain ⟨rfl,hbx⟩:=hcut
          by_cases hle:y*m≤r9
          ·have hd:decide (y*m≤r9)=true:=decide_eq_true hle
           rw [hd]
           have HLE:=hide hle
           clear hle hd
           go_wp2
           go_roundw
           case rel=>exact ⟨m,h,by first | rfl | rw [hm],rfl,by omega,by omega,by omega,HLE.out,HI.out,HBW.out.trans (hbx.mono HBW.out.size)⟩
           case measure=>simp [intOf];omega
          ·have hd:decide (y*m≤r9)=false:=decide_eq_false hle
           rw [hd]
           have HLE:=hide hle
           clear hle hd
           go_wp2
           go_roundw
           case rel=>exact ⟨l,m - 1,rfl,by first | rfl | rw [hm],by omega,by omega,by omega,LO.out,by have:=HLE.out;rw [show m - 1+1=m by omega];omega,HBW.out.trans (hbx.mono HBW.out.size)⟩
           case measure=>simp [intOf];omega
        ·obtain rfl:h=l:=by omega
         have vY:val Y=y:=by rw [DV.hY.1.val];omega
         have hg9:0≤r9:=by omega
         obtain ⟨cd,fd⟩:=DV.cell k (by omega)
         have DV2:=DV.setD k h (by omega) HFR.out
         have HDV:=hide DV2
         have hp9:r9<pw (B.length+1):=by rw [pw];have:=HYP.out;omega
         have hp8:val Y*h+0<pw (B.length+1):=by rw [vY];have:=LO.out;omega
         have HP8:=hide hp8
         have vv:∃ dv,Dl.getD k 0=dv:=⟨_,rfl⟩
         obtain ⟨dv,hdv⟩:=vv
         rw [hdv] at cd
         clear hp9 hp8 DV DV2 hdv
         go_upto_region 19 with fail
         generalize wr.setCell ⟨g,k,none⟩ (.int .i64 h)=ws at HDV ⊢
         have DV:=HDV.out
         have bY:=DV.bY
         have bR:=DV.bR
         clear HDV cd fd
         have e1:y*(h+1)=y*h+y:=by rw [Int.mul_add];omega
         have E1:=hide e1
         clear e1
         obtain ⟨bY1,bY2,bY3,bY4⟩:=bY.facts
         obtain ⟨bR1,bR2,bR3,bR4⟩:=bR.facts
         go_region_with (first
           | (go_at_call 110;have _hq:=hb2';refine (ax2 _ _ _ _ R _ (DV.hR.below (by repeat (first | exact Below.refl _ _ | refine Below.drew ?_))) _ p1 q1 r1 _ (Wh.natu (G1.below (by repeat (first | exact Below.refl _ _ | refine Below.drew ?_)))) (by omega) (by have:=aax G1.canon (m:=B.length+1) (by rw [G1.val];exact HP8.out);omega)).mono ?_;rintro e w3 ⟨n3,p3,q3,r3,rfl,G3,l3,hb3⟩;have hb3' : Below w2.heap.size w2 w3:=(show Below w2.heap.size w2 _ by repeat (first | exact Below.refl _ _ | refine Below.drew ?_)).trans hb3;replace DV:=DV.below hb3';replace bY:=bY.below hb3';clear bY1 bY2 bY3 bY4;obtain ⟨bY1,bY2,bY3,bY4⟩:=bY.facts;replace bR:=bR.below hb3';clear bR1 bR2 bR3 bR4;obtain ⟨bR1,bR2,bR3,bR4⟩:=bR.facts)
           | (go_at_call 75;have _hq:=hb1';refine (aht _ p1 q1 r1 _ (G1.below (by repeat (first | exact Below.refl _ _ | refine Below.drew ?_)))).mono ?_;rintro e w2 ⟨rfl,hb2⟩;have hb2' : Below w1.heap.size w1 w2:=(show Below w1.heap.size w1 _ by repeat (first | exact Below.refl _ _ | refine Below.drew ?_)).trans hb2;replace G1:=G1.below hb2';replace DV:=DV.below hb2';replace bY:=bY.below hb2';clear bY1 bY2 bY3 bY4;obtain ⟨bY1,bY2,bY3,bY4⟩:=bY.facts;replace bR:=bR.below hb2';clear bR1 bR2 bR3 bR4;obtain ⟨bR1,bR2,bR3,bR4⟩:=bR.facts)
           | (go_at_call 109;refine (ab2 _ _ _ _ Y (DV.hY.sl.below (by repeat (first | exact Below.refl _ _ | refine Below.drew ?_))) h 0 (by omega) (by omega) (by omega)).mono ?_;rintro e w1 ⟨v1,rfl,I1,hb1⟩;have hb1' : Below ws.heap.size ws w1:=(show Below ws.heap.size ws _ by repeat (first | exact Below.refl _ _ | refine Below.drew ?_)).trans hb1;obtain ⟨p1,q1,r1,rfl,G1,far1⟩:=I1.far;clear I1 far1;replace DV:=DV.below hb1';replace bY:=bY.below hb1';clear bY1 bY2 bY3 bY4;obtain ⟨bY1,bY2,bY3,bY4⟩:=bY.facts;replace bR:=bR.below hb1';clear bR1 bR2 bR3 bR4;obtain ⟨bR1,bR2,bR3,bR4⟩:=bR.facts))
         all_goals
          rw [vY] at G3
          have FIN:=hide (DV.setR G3)
          clear bY1 bY2 bY3 bY4 DV
          go_wp2
          go_roundw
          case rel=>exact ⟨k,Dl.set k h,n3,p3,q3,r3,_,by omega,by go_num,FIN.out,by rw [←hr9];exact ap1 (by omega) (by have:=FIN.out.dl.1;rw [List.length_set] at this;omega) HAK.out HV.out,by have:=LO.out;omega,by have:=HI.out;have:=E1.out;omega⟩
          case measure=>simp [intOf]
end Dm
end Go.Proofs.YtgmobkafnefpfaaGreat
namespace Go.Proofs.YtgmobkafnefpfaaGreat
namespace Dm
open Go.RowKit
open Lm (hide aak aaa)
theorem ap4 {ds:List Int} {k:Nat} {u x:Int} (hk:ds.length=k) (h:val ds+pw k*u=x):val (ds ++ [u % 10000])+pw (k+1)*(u / 10000)=x:=by
 rw [aba,hk,pw]
 have e:u=u % 10000+10000*(u / 10000):=by omega
 have e2:pw k*(u % 10000)+10000*pw k*(u / 10000)=pw k*u:=by
  rw [Int.mul_comm 10000 (pw k),Int.mul_assoc,←Int.mul_add,←e]
 omega
theorem ap5 {ds:List Int} {k:Nat} {u:Int} (_hk:ds.length=k) (hl:Limb ds) (hu:0<u) (h:val ds+pw k*u<18446744073709551616):k≤4:=by
 apply Classical.byContradiction
 intro hn
 have h1:=aa0 (m:=5) (n:=k) (by omega)
 rw [show pw 5=100000000000000000000 from by decide] at h1
 have h2:pw k*1≤pw k*u:=Int.mul_le_mul_of_nonneg_left (by omega) (by omega)
 have h3:=(aab hl).1
 omega
set_option maxRecDepth 20000 in
set_option maxHeartbeats 1000000 in
theorem asw (w:World) (v:Int) (h1 : -9223372036854775808≤v) (h2:v≤9223372036854775807) (h0:v<0) :
  Calls Tryz.prog 39 #[.int .i64 v] w fun e w'=>∃ ng' ao cap rs,e=.returned (.agg #[.bool ng',.slice ao rs.length cap])∧Wh w' ng' ao cap rs v∧rs.length≤5∧Below w.heap.size w w' := by
 obtain ⟨i0,hi,hz0,hz1,hz2⟩:=info_parts acl
 obtain ⟨w0,e0,br,hb0,hs0⟩:=abm w false (.slice none 0 0)
 have E0:=hide e0
 clear e0 hs0
 have hw:IntKind.u64.wrap (-IntKind.u64.wrap v) = -v:=by rw [IntKind.wrap_u64,IntKind.wrap_u64];omega
 go_enter Tryz.func39,Tryz.ntmps39
 go_wp2
 rw [E0.out]
 clear hw
 go_loopw [3,4] (fun mv uv wr=>∃ (k:Nat) (u:Int) (ds:List Int),uv=.int .u64 u∧0≤u∧u<18446744073709551616∧ds.length=k∧k≤5∧Limb ds∧val ds+pw k*u = -v∧wr.ownsRow w0.heap.size 3 1 mv k (ds.map (Value.int .i64))∧Below w0.heap.size w0 wr) (fun _ uv _=>(intOf uv).toNat)
 case atStart=>exact ⟨0,-v,[],rfl,by omega,by omega,rfl,by omega,aae,by simp [val,pw],World.ownsRow_nil _ _ _ _,Below.refl _ _⟩
 case round =>
  obtain ⟨k,u,ds,rfl,hu0,hu1,hdl,hk5,hds,hv,hown,hbel⟩:=hrel
  have HD:=hide hds
  have HDL:=hide hdl
  have HV:=hide hv
  have hsz:=hbel.size
  clear hds hdl hv
  by_cases hu:0<u
  ·have hroom:=ap5 HDL.out HD.out hu (by rw [HV.out];omega)
   have HV' := hide (ap4 HDL.out HV.out)
   go_wp2_with (at_builtin;refine wpList_append_own _ rfl (.tmp 13) (.tmp 17) 43 rfl w0.heap.size 3 i0 (.int .i64 0) 1 8 Tryz.underlying43 hi hz0 hz1 hz2 rfl (by decide) _ _ _ rfl (hown.alloc _) ⟨wr.heap.size,0,none⟩ 1 1 [.int .i64 (u % 10000)] rfl rfl (cell_one_new _ _ _) ?c2 ?c3 ?c4 ?c5 ?_)
   case c2=>first | rfl | (intro x hx;simp at hx;subst hx;rfl)
   case c3=>unfold maxLen;omega
   case c4=>omega
   case c5=>first | omega | (simp;omega)
   intro v4 w4 hown4 hgrow4 _
   have R:=acr hown4 hgrow4 hbel (hown.lt)
   clear hown4 hgrow4 hown
   go_wp2
   go_roundw
   case rel=>exact ⟨k+1,u / 10000,ds ++ [u % 10000],rfl,by omega,by omega,by have:=HDL.out;simp;omega,by omega,aah.2 ⟨HD.out,aag.2 ⟨by omega,aae⟩⟩,HV'.out,R.1,R.2⟩
   case measure=>simp [intOf];omega
  ·have hu' : u=0:=by omega
   subst hu'
   have hval:Hid (val ds = -v):=by have:=HV.out;rw [Int.mul_zero,Int.add_zero] at this;exact this
   obtain ⟨ao1,cap1,hv1,s1,_,_⟩:=(abi hown HD.out).open
   subst hv1
   replace br:=br.below hbel
   have HB:=hb0.trans (hbel.mono hb0.size)
   have hd:decide (v<0)=true:=by simp;omega
   have hsg:Hid (sg true (-v)=v):=by simp [Hid,sg]
   clear hown hbel
   go_wp2_with fail
   try rw [hd]
   refine (abk _ _ _ _ ds _ s1 hval.out).mono ?_
   rintro e w2 ⟨ng2,r2,rfl,G2,l2,hb2⟩
   rw [hsg.out] at G2
   replace br:=br.below hb2
   replace HB:=HB.trans (hb2.mono HB.size)
   have hdl:=HDL.out
   clear hb2 hval s1
   obtain ⟨ka,kb,kc,kd⟩:=br.facts
   have X:=hide (br.set ng2 (.slice ao1 r2.length cap1)).facts
   have Y:=hide (br.wh ng2 (.slice ao1 r2.length cap1) G2)
   have Z:=hide (aad HB (Nat.le_refl _) (.bool ng2) (.slice ao1 r2.length cap1))
   go_wp2
   refine bodyPost_ret (v:=.agg #[.bool ng2,.slice ao1 r2.length cap1]) ?_ rfl ⟨ng2,ao1,cap1,r2,rfl,Y.out,by omega,Z.out⟩
   simp [results,Tryz.results39,go_sem,X.out.1,X.out.2.1]
set_option maxRecDepth 20000 in
set_option maxHeartbeats 1000000 in
theorem asx (w:World) (v:Int) (h1 : -9223372036854775808≤v) (h2:v≤9223372036854775807) (h0:¬ v<0) :
  Calls Tryz.prog 39 #[.int .i64 v] w fun e w'=>∃ ng' ao cap rs,e=.returned (.agg #[.bool ng',.slice ao rs.length cap])∧Wh w' ng' ao cap rs v∧rs.length≤5∧Below w.heap.size w w' := by
 obtain ⟨i0,hi,hz0,hz1,hz2⟩:=info_parts acl
 obtain ⟨w0,e0,br,hb0,hs0⟩:=abm w false (.slice none 0 0)
 have E0:=hide e0
 clear e0 hs0
 have hw:True:=trivial
 go_enter Tryz.func39,Tryz.ntmps39
 go_wp2
 rw [E0.out]
 clear hw
 go_loopw [3,4] (fun mv uv wr=>∃ (k:Nat) (u:Int) (ds:List Int),uv=.int .u64 u∧0≤u∧u<18446744073709551616∧ds.length=k∧k≤5∧Limb ds∧val ds+pw k*u=v∧wr.ownsRow w0.heap.size 3 1 mv k (ds.map (Value.int .i64))∧Below w0.heap.size w0 wr) (fun _ uv _=>(intOf uv).toNat)
 case atStart=>exact ⟨0,v,[],rfl,by omega,by omega,rfl,by omega,aae,by simp [val,pw],World.ownsRow_nil _ _ _ _,Below.refl _ _⟩
 case round =>
  obtain ⟨k,u,ds,rfl,hu0,hu1,hdl,hk5,hds,hv,hown,hbel⟩:=hrel
  have HD:=hide hds
  have HDL:=hide hdl
  have HV:=hide hv
  have hsz:=hbel.size
  clear hds hdl hv
  by_cases hu:0<u
  ·have hroom:=ap5 HDL.out HD.out hu (by rw [HV.out];omega)
   have HV' := hide (ap4 HDL.out HV.out)
   go_wp2_with (at_builtin;refine wpList_append_own _ rfl (.tmp 13) (.tmp 17) 43 rfl w0.heap.size 3 i0 (.int .i64 0) 1 8 Tryz.underlying43 hi hz0 hz1 hz2 rfl (by decide) _ _ _ rfl (hown.alloc _) ⟨wr.heap.size,0,none⟩ 1 1 [.int .i64 (u % 10000)] rfl rfl (cell_one_new _ _ _) ?c2 ?c3 ?c4 ?c5 ?_)
   case c2=>first | rfl | (intro x hx;simp at hx;subst hx;rfl)
   case c3=>unfold maxLen;omega
   case c4=>omega
   case c5=>first | omega | (simp;omega)
   intro v4 w4 hown4 hgrow4 _
   have R:=acr hown4 hgrow4 hbel (hown.lt)
   clear hown4 hgrow4 hown
   go_wp2
   go_roundw
   case rel=>exact ⟨k+1,u / 10000,ds ++ [u % 10000],rfl,by omega,by omega,by have:=HDL.out;simp;omega,by omega,aah.2 ⟨HD.out,aag.2 ⟨by omega,aae⟩⟩,HV'.out,R.1,R.2⟩
   case measure=>simp [intOf];omega
  ·have hu' : u=0:=by omega
   subst hu'
   have hval:Hid (val ds=v):=by have:=HV.out;rw [Int.mul_zero,Int.add_zero] at this;exact this
   obtain ⟨ao1,cap1,hv1,s1,_,_⟩:=(abi hown HD.out).open
   subst hv1
   replace br:=br.below hbel
   have HB:=hb0.trans (hbel.mono hb0.size)
   have hd:decide (v<0)=false:=by simp;omega
   have hsg:Hid (sg false (v)=v):=by simp [Hid,sg]
   clear hown hbel
   go_wp2_with fail
   try rw [hd]
   refine (abk _ _ _ _ ds _ s1 hval.out).mono ?_
   rintro e w2 ⟨ng2,r2,rfl,G2,l2,hb2⟩
   rw [hsg.out] at G2
   replace br:=br.below hb2
   replace HB:=HB.trans (hb2.mono HB.size)
   have hdl:=HDL.out
   clear hb2 hval s1
   obtain ⟨ka,kb,kc,kd⟩:=br.facts
   have X:=hide (br.set ng2 (.slice ao1 r2.length cap1)).facts
   have Y:=hide (br.wh ng2 (.slice ao1 r2.length cap1) G2)
   have Z:=hide (aad HB (Nat.le_refl _) (.bool ng2) (.slice ao1 r2.length cap1))
   go_wp2
   refine bodyPost_ret (v:=.agg #[.bool ng2,.slice ao1 r2.length cap1]) ?_ rfl ⟨ng2,ao1,cap1,r2,rfl,Y.out,by omega,Z.out⟩
   simp [results,Tryz.results39,go_sem,X.out.1,X.out.2.1]
theorem aff (w:World) (v:Int) (h1 : -9223372036854775808≤v) (h2:v≤9223372036854775807) :
  Calls Tryz.prog 39 #[.int .i64 v] w fun e w'=>∃ ng' ao cap rs,e=.returned (.agg #[.bool ng',.slice ao rs.length cap])∧Wh w' ng' ao cap rs v∧rs.length≤5∧Below w.heap.size w w' := by
 by_cases h0:v<0
 ·exact asw w v h1 h2 h0
 ·exact asx w v h1 h2 h0
end Dm
end Go.Proofs.YtgmobkafnefpfaaGreat
namespace Go.Proofs.YtgmobkafnefpfaaGreat
namespace Dm
open Go.RowKit
open Lm (hide aak aaa cmpI abe abj)
theorem adf (u v:Int):Int.gcd v (u % v)=Int.gcd v u:=by
 have h1:=Lm.adf u v (u / v)
 have h2:=Int.mul_ediv_add_emod u v
 rw [Int.mul_comm] at h2
 rw [show u - u / v*v=u % v by omega] at h1
 rw [h1,Int.gcd_comm]
set_option maxRecDepth 20000 in
set_option maxHeartbeats 2000000 in
theorem ax6 (w:World) (n1:Bool) (a1:Option Addr) (c1:Nat) (A:List Int) (x:Int) (hx:Got w a1 c1 A x) (n2:Bool) (a2:Option Addr) (c2:Nat) (B:List Int) (y:Int) (hy:Got w a2 c2 B y) (m1:A.length≤300000) (m2:B.length≤300000) :
  Calls Tryz.prog 80 #[.agg #[.bool n1,.slice a1 A.length c1],.agg #[.bool n2,.slice a2 B.length c2]] w fun e w'=>∃ ng ao cap rs,e=.returned (.agg #[.bool ng,.slice ao rs.length cap])∧Wh w' ng ao cap rs (Int.gcd x y:Int)∧rs.length≤A.length+B.length∧Below w.heap.size w w' := by
 obtain ⟨w0,e0,bx,by',br,hb0,hs0⟩:=acj w n1 (.slice a1 A.length c1) n2 (.slice a2 B.length c2)
 have E0:=hide e0
 have hx0:=hx.below hb0
 have hy0:=hy.below hb0
 have hxn:0≤x:=by rw [←hx.val];exact (aab hx.canon.1).1
 have hyn:0≤y:=by rw [←hy.val];exact (aab hy.canon.1).1
 clear e0
 go_enter Tryz.func80,Tryz.ntmps80
 go_upto_region 1 with fail
 rw [E0.out]
 obtain ⟨bx1,bx2,bx3,bx4⟩:=bx.facts
 go_wp2_with fail
 refine (amn _ _ _ _ A _ hx0 (by omega)).mono ?_
 rintro e w1 ⟨nX,pX,qX,X,rfl,GX,lX,hb1⟩
 obtain ⟨w2,e2,bX,hb2,hs2⟩:=abm w1 nX (.slice pX X.length qX)
 have z1:=hb1.size
 have HB:=hb0.trans (hb1.mono hb0.size)
 replace HB:=HB.trans (hb2.mono HB.size)
 replace bx:=(bx.below hb1).below hb2
 replace by' := (by'.below hb1).below hb2
 replace br:=(br.below hb1).below hb2
 replace hy0:=(hy0.below hb1).below hb2
 replace GX:=GX.below hb2
 have E2:=hide e2
 clear e2 bx1 bx2 bx3 bx4 hb1 hb2 E0
 go_upto_region 2 with fail
 rw [E2.out]
 clear E2
 obtain ⟨by1,by2,by3,by4⟩:=by'.facts
 go_wp2_with fail
 refine (amn _ _ _ _ B _ hy0 (by omega)).mono ?_
 rintro e w3 ⟨nY,pY,qY,Y,rfl,GY,lY,hb3⟩
 obtain ⟨w4,e4,bY,hb4,hs4⟩:=abm w3 nY (.slice pY Y.length qY)
 have z3:=hb3.size
 replace HB:=HB.trans (hb3.mono HB.size)
 replace HB:=HB.trans (hb4.mono HB.size)
 replace br:=(br.below hb3).below hb4
 replace bX:=(bX.below hb3).below hb4
 replace GX:=(GX.below hb3).below hb4
 replace GY:=GY.below hb4
 have E4:=hide e4
 clear e4 by1 by2 by3 by4 hb3 hb4 hy0 hx0 bx by'
 go_wp2_with fail
 rw [E4.out]
 clear E4
 have hsx:w.heap.size+3≤w1.heap.size:=by omega
 have hsy:w1.heap.size+1≤w3.heap.size:=by omega
 have hsz:w3.heap.size<w4.heap.size:=by omega
 generalize w1.heap.size=gx at *
 generalize w3.heap.size=gy at *
 have hsg:sg false x=x:=rfl
 have hsg2:sg false y=y:=rfl
 rw [hsg] at GX
 rw [hsg2] at GY
 clear hsg hsg2 z1 z3 hs2 hs4 hs0
 go_loopg [] y.toNat (fun k wr=>∃ (nX:Bool) (pX:Option Addr) (qX:Nat) (X:List Int) (u:Int) (nY:Bool) (pY:Option Addr) (qY:Nat) (Y:List Int) (v:Int),Box wr gx nX (.slice pX X.length qX)∧Box wr gy nY (.slice pY Y.length qY)∧Box wr (w.heap.size+1+1) false (.slice none 0 0)∧Wh wr nX pX qX X u∧Wh wr nY pY qY Y v∧0≤u∧0≤v∧Int.gcd u v=Int.gcd x y∧X.length≤A.length+B.length∧Y.length≤A.length+B.length∧X.length≤300000∧Y.length≤300000∧Below w.heap.size w wr∧k=v.toNat)
 case atStart=>exact ⟨nX,pX,qX,X,x,nY,pY,qY,Y,y,bX,bY,br,GX,GY,hxn,hyn,rfl,by omega,by omega,by omega,by omega,HB,rfl⟩
 case round =>
  clear bX bY br GX GY HB lX lY
  obtain ⟨nX,pX,qX,X,u,nY,pY,qY,Y,v,bX,bY,br,GX,GY,hu,hv,hg,lX,lY,lX2,lY2,HB,hk⟩:=hrel
  obtain rfl:nY=false:=by rw [GY.2];simp;omega
  have HG:=hide hg
  have HK:=hide hk
  have hz:=GY.zero
  have HZ:=hide hz
  obtain ⟨bY1,bY2,bY3,bY4⟩:=bY.facts
  clear hg hk hz
  go_wp2_with fail
  refine (asq _ _ _ _).mono ?_
  rintro e w5 ⟨rfl,e5⟩
  have hb5:Below wr.heap.size wr w5:=by rw [e5];exact (Below.refl _ _).alloc (Nat.le_refl _) _
  clear e5
  replace bX:=bX.below hb5
  replace bY:=bY.below hb5
  replace br:=br.below hb5
  replace GX:=GX.below hb5
  replace GY:=GY.below hb5
  replace HB:=HB.trans (hb5.mono HB.size)
  clear hb5 bY1 bY2 bY3 bY4
  by_cases h0:Y.length=0
  ·have v0:v=0:=HZ.out.2 (List.eq_nil_of_length_eq_zero h0)
   have hs:sgn Y.length=0:=by simp [sgn,h0]
   rw [hs]
   have HG2:Hid ((Int.gcd x y:Int)=u):=by
    have:=HG.out
    rw [v0] at this
    show ((Int.gcd x y:Nat):Int)=u
    rw [←this,Int.gcd_zero_right]
    omega
   clear hs h0 v0
   obtain ⟨bX1,bX2,bX3,bX4⟩:=bX.facts
   obtain ⟨br1,br2,br3,br4⟩:=br.facts
   have F:=hide (br.set nX (.slice pX X.length qX)).facts
   have Y1:=hide (br.wh nX (.slice pX X.length qX) GX)
   have Z:=hide (aad HB (show w.heap.size≤w.heap.size+1+1 by omega) (.bool nX) (.slice pX X.length qX))
   go_wp2
   refine bodyPost_ret (v:=.agg #[.bool nX,.slice pX X.length qX]) ?_ rfl ⟨nX,pX,qX,X,rfl,by rw [HG2.out];exact Y1.out,by omega,Z.out⟩
   simp [results,Tryz.results80,go_sem,F.out.1,F.out.2.1]
  ·have hs:sgn Y.length=1:=by simp [sgn,h0]
   rw [hs]
   clear hs
   have vp:0<v:=by
    apply Classical.byContradiction
    intro hn
    exact h0 (by rw [HZ.out.1 (by omega)];rfl)
   obtain ⟨bX1,bX2,bX3,bX4⟩:=bX.facts
   obtain ⟨bY1,bY2,bY3,bY4⟩:=bY.facts
   have GX' := GX.1
   have GY' := GY.1
   rw [show ((u.natAbs:Nat):Int)=u by omega] at GX'
   rw [show ((v.natAbs:Nat):Int)=v by omega] at GY'
   go_wp2_with fail
   refine (ai5 _ _ _ _ X _ GX' _ _ _ Y _ GY' (by omega) (by omega) (by omega)).mono ?_
   rintro e w6 ⟨nq,pq,qq,Q,nr,pr,qr,R,rfl,GQ,GR,lQ,lR,hb6⟩
   obtain ⟨w7,e7,bq,bz,hb7,hs7⟩:=afw w6 nq (.slice pq Q.length qq) nr (.slice pr R.length qr)
   have z6:=hb6.size
   have lgy:=aaa bY
   replace bX:=(bX.below hb6).below hb7
   replace bY:=(bY.below hb6).below hb7
   replace br:=(br.below hb6).below hb7
   replace GY:=(GY.below hb6).below hb7
   replace GR:=GR.below hb7
   replace HB:=(HB.trans (hb6.mono HB.size)).trans (hb7.mono (Nat.le_trans HB.size z6))
   have E7:=hide e7
   clear e7 hb6 hb7 bX1 bX2 bX3 bX4 bY1 bY2 bY3 bY4 GX GX' GY' GQ bq
   go_upto_region 5 with fail
   rw [E7.out]
   clear E7
   generalize w6.heap.size=g6 at *
   have bX' := bX.set false (.slice pY Y.length qY)
   have bY' := aa6 bY (show gy≠gx by omega) (.bool false) (.slice pY Y.length qY)
   have br' := aa6 br (show w.heap.size+1+1≠gx by omega) (.bool false) (.slice pY Y.length qY)
   have bz' := aa6 bz (show g6+1≠gx by omega) (.bool false) (.slice pY Y.length qY)
   have GY' := bX.wh false (.slice pY Y.length qY) GY
   have GR' := bX.wh false (.slice pY Y.length qY) GR
   have HB' := aad HB (show w.heap.size≤gx by omega) (.bool false) (.slice pY Y.length qY)
   obtain ⟨bX1,bX2,bX3,bX4⟩:=bX.facts
   obtain ⟨bY1,bY2,bY3,bY4⟩:=bY.facts
   have FF:=hide (And.intro bX' (And.intro bY' (And.intro br' (And.intro bz' (And.intro GY' (And.intro GR' HB'))))))
   clear bX' bY' br' bz' GY' GR' HB'
   go_upto_region 6 with fail
   clear bX bY br bz GY GR HB bX1 bX2 bX3 bX4 bY1 bY2 bY3 bY4
   generalize (w7.setCell ⟨gx,0,none⟩ (.bool false)).setCell ⟨gx,1,none⟩ (.slice pY Y.length qY)=w8 at FF ⊢
   obtain ⟨bX,bY,br,bz,GY,GR,HB⟩:=FF.out
   clear FF
   obtain ⟨bY1,bY2,bY3,bY4⟩:=bY.facts
   obtain ⟨bz1,bz2,bz3,bz4⟩:=bz.facts
   have bX' := aa6 bX (show gx≠gy by omega) (.bool nr) (.slice pr R.length qr)
   have bY' := bY.set nr (.slice pr R.length qr)
   have br' := aa6 br (show w.heap.size+1+1≠gy by omega) (.bool nr) (.slice pr R.length qr)
   have GY' := bY.wh nr (.slice pr R.length qr) GY
   have GR' := bY.wh nr (.slice pr R.length qr) GR
   have HB' := aad HB (show w.heap.size≤gy by omega) (.bool nr) (.slice pr R.length qr)
   have FF:=hide (And.intro bX' (And.intro bY' (And.intro br' (And.intro GY' (And.intro GR' HB')))))
   clear bX' bY' br' GY' GR' HB' bX br
   go_wp2
   go_roundg (u % v).toNat
   case measure =>
    have:=Int.emod_lt_of_pos u vp
    have:=Int.emod_nonneg u (show v≠0 by omega)
    have:=HK.out
    omega
   case rel=>exact ⟨false,pY,qY,Y,v,nr,pr,qr,R,u % v,FF.out.1,FF.out.2.1,FF.out.2.2.1,FF.out.2.2.2.1,FF.out.2.2.2.2.1,hv,Int.emod_nonneg u (show v≠0 by omega),by rw [←HG.out,Int.gcd_comm u v];exact adf u v,lY,by omega,lY2,by omega,FF.out.2.2.2.2.2,rfl⟩
end Dm
end Go.Proofs.YtgmobkafnefpfaaGreat
namespace Go.Proofs.YtgmobkafnefpfaaGreat
namespace Dm
open Go.RowKit
open Lm (hide aak aaa)
set_option maxRecDepth 20000 in
set_option maxHeartbeats 400000 in
theorem anz (w:World) (ng:Bool) (ao:Option Addr) (cap:Nat) :
  Calls Tryz.prog 45 #[.agg #[.bool ng,.slice ao 0 cap]] w fun e w'=>e=.returned (.int .i64 0)∧Below w.heap.size w w' := by
 have hb:Below w.heap.size w (w.alloc (.cells #[.bool ng,.slice ao 0 cap] 51)):=(Below.refl _ _).alloc (Nat.le_refl _) _
 go_enter Tryz.func45,Tryz.ntmps45
 go_wp2
 go_ret
 exact ⟨rfl,hb⟩
set_option maxRecDepth 20000 in
set_option maxHeartbeats 400000 in
theorem ap6 (w:World) (ao:Option Addr) (n cap:Nat) (h0:¬ n=0) :
  Calls Tryz.prog 45 #[.agg #[.bool true,.slice ao n cap]] w fun e w'=>e=.returned (.int .i64 (-1))∧Below w.heap.size w w' := by
 have hb:Below w.heap.size w (w.alloc (.cells #[.bool true,.slice ao n cap] 51)):=(Below.refl _ _).alloc (Nat.le_refl _) _
 have hl2:(((n:Nat):Int) == 0)=false:=by simp;omega
 clear h0
 go_enter Tryz.func45,Tryz.ntmps45
 go_wp2
 go_ret
 exact ⟨rfl,hb⟩
set_option maxRecDepth 20000 in
set_option maxHeartbeats 400000 in
theorem ap7 (w:World) (ao:Option Addr) (n cap:Nat) (h0:¬ n=0) :
  Calls Tryz.prog 45 #[.agg #[.bool false,.slice ao n cap]] w fun e w'=>e=.returned (.int .i64 1)∧Below w.heap.size w w' := by
 have hb:Below w.heap.size w (w.alloc (.cells #[.bool false,.slice ao n cap] 51)):=(Below.refl _ _).alloc (Nat.le_refl _) _
 have hl2:(((n:Nat):Int) == 0)=false:=by simp;omega
 clear h0
 go_enter Tryz.func45,Tryz.ntmps45
 go_wp2
 go_ret
 exact ⟨rfl,hb⟩
theorem au8 (w:World) (ng:Bool) (ao:Option Addr) (cap:Nat) (rs:List Int) (z:Int) (h:Wh w ng ao cap rs z) :
  Calls Tryz.prog 45 #[.agg #[.bool ng,.slice ao rs.length cap]] w fun e w'=>e=.returned (.int .i64 (Int.sign z))∧Below w.heap.size w w' := by
 by_cases h0:rs.length=0
 ·have hz:z=0:=h.zero.2 (List.eq_nil_of_length_eq_zero h0)
  rw [hz,h0]
  exact anz w ng ao cap
 ·have hz:z≠0:=fun e=>h0 (by rw [h.zero.1 e];rfl)
  cases ng with
  | true =>
   have hn:z<0:=by have:=h.2;simpa using this.symm
   rw [Int.sign_eq_neg_one_of_neg hn]
   exact ap6 w ao _ cap h0
  | false =>
   have hn:0<z:=by have:=h.2;simp at this;omega
   rw [Int.sign_eq_one_of_pos hn]
   exact ap7 w ao _ cap h0
theorem au9 (x y:Int):Int.gcd (x.natAbs:Int) (y.natAbs:Int)=Int.gcd x y:=by simp [Int.gcd]
end Dm
end Go.Proofs.YtgmobkafnefpfaaGreat
namespace Go.Proofs.YtgmobkafnefpfaaGreat
namespace Lm
open Go.RowKit
open Dm (WFr ai4)
theorem ax7 (B T:Nat) (w:World):Li B T w none 0 []:=⟨⟨none,0,rfl,Nat.le_refl _,by simp [maxLen],aae,.inl rfl⟩,fun h=>by omega⟩
theorem ax8 (w:World):Wh w false none 0 [] 0:=⟨⟨⟨none,0,rfl,Nat.le_refl _,by simp [maxLen],aae,.inl rfl⟩,ab1,rfl⟩,rfl⟩
theorem Li.wfr {B T:Nat} {w:World} {ng:Bool} {ao:Option Addr} {cap:Nat} {rs:List Int} {z:Int} (h:Li B T w ao cap rs) (g:Wh w ng ao cap rs z):WFr B T w ng ao cap rs z:=⟨h.fr g.1,g.2⟩
end Lm
end Go.Proofs.YtgmobkafnefpfaaGreat
namespace Go.Proofs.YtgmobkafnefpfaaGreat
namespace Lm
open Go Go.RowKit
open Dm (WFr)
section
variable {dst:Option Tmp} {ty:TypeId} {pos:String} {after:Array Edge} {guard:Option (Nat × Bool)} {a:Act} {w:World} {ats:Array TypeId} {i j:Nat} {z:Int}
theorem an0 {u:Int} (h1:a.eval (.tmp i)=.int .i64 u) (h2:a.eval (.tmp j)=.int .i64 u) :
  Does Tryz.prog { dst,op:=.binOp .neq 3 (.tmp i) (.tmp j) 3,type:=ty,pos,after,guard } a.eval w fun v' w'=>Below w.heap.size w w'∧Eqs (.bool false) v' w' := by
 refine adc (v:=.bool false) ?_ ?_ ⟨Below.refl _ _,rfl⟩
 ·rw [h1,h2];simp [go_sem]
 ·rw [h1,h2];simp [go_sem]
theorem ava {u v:Int} (h1:a.eval (.tmp i)=.int .i64 u) (h : -9223372036854775808≤u+v∧u+v≤9223372036854775807) :
  Does Tryz.prog { dst,op:=.binOp .add 3 (.tmp i) (.const (.int .i64 v)) 3,type:=ty,pos,after,guard } a.eval w fun v' w'=>Below w.heap.size w w'∧Eqs (.int .i64 (u+v)) v' w' := by
 refine adc (v:=.int .i64 (u+v)) ?_ ?_ ⟨Below.refl _ _,rfl⟩
 ·rw [h1];simp [go_sem,Act.eval]
 ·rw [h1];simp [go_sem,Act.eval];exact wrap64 h.1 h.2
end
end Lm
end Go.Proofs.YtgmobkafnefpfaaGreat
namespace Go.Proofs.YtgmobkafnefpfaaGreat
namespace Lm
open Go Go.RowKit
def Cl (w:World) (v:Value) (size n:Nat) (xs:List Value):Prop :=
 ∃ ao cap,v=.slice ao n cap∧n≤cap∧cap≤9223372036854775807∧xs.length=n*size∧(n=0∨∃ b off,ao=some ⟨b,off,none⟩∧b<w.heap.size∧∀ j u,xs[j]? = some u→w.cell? ⟨b,off+j,none⟩ = some u)
theorem Cl.below {w w' : World} {v:Value} {size n:Nat} {xs:List Value} (h:Cl w v size n xs) (hb:Below w.heap.size w w'):Cl w' v size n xs:=by
 obtain ⟨ao,cap,rfl,h1,h2,h3,h4⟩:=h
 refine ⟨ao,cap,rfl,h1,h2,h3,?_⟩
 rcases h4 with h4 | ⟨b,off,rfl,hl,hc⟩
 ·exact .inl h4
 ·exact .inr ⟨b,off,rfl,Nat.lt_of_lt_of_le hl hb.size,fun j u hu=>(hb.cell (p:=⟨b,off+j,none⟩) hl).trans (hc j u hu)⟩
theorem Cl.own {w:World} {base:Nat} {e:TypeId} {size n:Nat} {v:Value} {xs:List Value} (h:w.ownsRow base e size v n xs):Cl w v size n xs:=by
 obtain ⟨hl,⟨rfl,rfl⟩ | ⟨g,cap,cur,rfl,hb,hh,h1,h2,h3,h4⟩⟩:=h
 ·exact ⟨none,0,rfl,Nat.le_refl _,by omega,hl,.inl rfl⟩
 ·refine ⟨_,cap,rfl,h1,by simpa [maxLen] using h2,hl,.inr ⟨g,0,rfl,aaa hh,fun j u hu=>?_⟩⟩
  rw [Nat.zero_add,cell_of_row w g j cur e (0,0) hh]
  rw [←h4,List.getElem?_take] at hu
  split at hu
  ·simpa using hu
  ·cases hu
structure WE where
 ng:Bool
 a:Option Addr
 m:Nat
 c:Nat
 zs:List Int
def WE.z (e:WE):Int:=sg e.ng (val e.zs)
def WE.v (e:WE):Value:=.agg #[.bool e.ng,.slice e.a e.m e.c]
def flat:List WE→List Value
 | []=>[]
 | e :: es=>.bool e.ng :: .slice e.a e.m e.c :: flat es
theorem abg (es:List WE):(flat es).length=es.length*2:=by
 induction es with
 | nil=>rfl
 | cons e es ih=>simp only [flat,List.length_cons,ih];omega
theorem abl {es:List WE} {k:Nat} {e:WE} (h:es[k]? = some e):(flat es)[k*2]? = some (.bool e.ng)∧(flat es)[k*2+1]? = some (.slice e.a e.m e.c):=by
 induction es generalizing k with
 | nil=>simp at h
 | cons x es ih =>
  cases k with
  | zero =>
   simp only [List.getElem?_cons_zero,Option.some.injEq] at h
   subst h
   simp [flat]
  | succ k =>
   have:=ih (k:=k) (by simpa using h)
   have e1:(k+1)*2=k*2+1+1:=by omega
   rw [e1]
   simpa [flat] using this
theorem adn (es fs:List WE):flat (es ++ fs)=flat es ++ flat fs:=by
 induction es with
 | nil=>rfl
 | cons e es ih=>simp [flat,ih]
structure Rw (w:World) (v:Value) (es:List WE):Prop where
 cl:Cl w v 2 es.length (flat es)
 sl:∀ e ∈ es,Sl w (.slice e.a e.m e.c) e.zs
theorem Rw.below {w w' : World} {v:Value} {es:List WE} (h:Rw w v es) (hb:Below w.heap.size w w'):Rw w' v es:=⟨h.cl.below hb,fun e he=>(h.sl e he).below hb⟩
theorem Rw.ag {w:World} {v:Value} {es:List WE} (h:Rw w v es) {e:WE} (he:e ∈ es):Ag w e.ng e.a e.m e.c e.zs e.z:=⟨h.sl e he,rfl⟩
theorem Rw.parts {w:World} {ao:Option Addr} {n cap:Nat} {es:List WE} (h:Rw w (.slice ao n cap) es):n=es.length∧es.length≤cap∧cap≤9223372036854775807:=by
 obtain ⟨ao',cap',hv,h1,h2,h3,h4⟩:=h.cl
 obtain ⟨rfl,rfl,rfl⟩:=(Value.slice.injEq .. ▸ hv)
 exact ⟨rfl,h1,h2⟩
theorem Rw.cells {w:World} {ao:Option Addr} {n cap:Nat} {es:List WE} (h:Rw w (.slice ao n cap) es) (hp:0<es.length):∃ b off,ao=some ⟨b,off,none⟩∧b<w.heap.size∧∀ j u,(flat es)[j]? = some u→w.cell? ⟨b,off+j,none⟩ = some u:=by
 obtain ⟨ao',cap',hv,h1,h2,h3,h4⟩:=h.cl
 obtain ⟨rfl,_,rfl⟩:=(Value.slice.injEq .. ▸ hv)
 rcases h4 with h4 | h4
 ·omega
 ·exact h4
section
variable {dst:Option Tmp} {ty:TypeId} {pos:String} {after:Array Edge} {guard:Option (Nat × Bool)} {a:Act} {w:World} {ats:Array TypeId} {i j:Nat}
theorem aii {ao:Option Addr} {n c:Nat} (h:a.eval (.tmp i)=.slice ao n c):Does Tryz.prog { dst,op:=.call { callee:=.builtin .len,args:=#[.tmp i],argTypes:=#[39] },type:=ty,pos,after,guard } a.eval w fun v' w'=>Below w.heap.size w w'∧Eqs (.int .i64 n) v' w' := by
 have e:(execOp a.eval { dst,op:=.call { callee:=.builtin .len,args:=#[.tmp i],argTypes:=#[39] },type:=ty,pos,after,guard }).run Tryz.prog w=.ok (.value (.int .i64 n)) w:=by
  have h' : a.tmps[i]?.getD undef=.slice ao n c:=by simpa [Act.eval] using h
  simp [go_sem,h']
 refine ⟨?_⟩
 unfold Turns
 rw [e]
 exact ⟨Below.refl _ _,rfl⟩
theorem ac3 {b off n c k:Nat} {ao:Option Addr} (h:a.eval (.tmp i)=.slice ao n c) (hao:ao=some ⟨b,off,none⟩) (hk:a.eval (.tmp j)=.int .i64 (k:Int)) (hl:k<n):Does Tryz.prog { dst,op:=.indexAddr 39 (.tmp i) (.tmp j),type:=ty,pos,after,guard } a.eval w fun v' w'=>Below w.heap.size w w'∧Eqs (.pointer (some ⟨b,off+k*2,none⟩)) v' w' := by
 subst hao
 have e:(execOp a.eval { dst,op:=.indexAddr 39 (.tmp i) (.tmp j),type:=ty,pos,after,guard }).run Tryz.prog w=.ok (.value (.pointer (some ⟨b,off+k*2,none⟩))) w:=by
  simp only [execOp,h,hk]
  go_simp
 refine ⟨?_⟩
 unfold Turns
 rw [e]
 exact ⟨Below.refl _ _,rfl⟩
theorem ap8 {b off k:Nat} {ao:Option Addr} {n cap:Nat} {es:List WE} {e:WE} (hp:a.eval (.tmp i)=.pointer (some ⟨b,off+k*2,none⟩)) (hao:ao=some ⟨b,off,none⟩) (hR:Rw w (.slice ao n cap) es) (he:es[k]? = some e):Does Tryz.prog { dst,op:=.load 27 (.tmp i),type:=ty,pos,after,guard } a.eval w fun v' w'=>Below w.heap.size w w'∧Eqs (.agg #[.bool e.ng,.slice e.a e.m e.c]) v' w' := by
 have hk:k<es.length:=(List.getElem?_eq_some_iff.1 he).1
 obtain ⟨b',off',e',hb,hc⟩:=hR.cells (by omega)
 obtain ⟨rfl,rfl⟩:b' = b∧off' = off:=by
  rw [hao] at e'
  simp only [Option.some.injEq,Addr.mk.injEq,and_true] at e'
  exact ⟨e'.1.symm,e'.2.symm⟩
 obtain ⟨f1,f2⟩:=abl he
 have h1:=hc _ _ f1
 have h2:w.cell? ⟨b',off'+k*2+1,none⟩ = _:=hc _ _ f2
 refine aay (v:=.agg #[.bool e.ng,.slice e.a e.m e.c]) ?_ ⟨Below.refl _ _,rfl⟩
 rw [hp]
 go_simp
end
def lenW:List WE→Nat
 | []=>0
 | e :: es=>1+e.m+lenW es
theorem ags (es fs:List WE):lenW (es ++ fs)=lenW es+lenW fs:=by
 induction es with
 | nil=>simp [lenW]
 | cons e es ih=>simp only [List.cons_append,lenW,ih];omega
theorem ap9 {es:List WE} {k:Nat} {e:WE} (h:es[k]? = some e):lenW (es.take (k+1))=lenW (es.take k)+(1+e.m):=by
 rw [List.take_add_one,h,ags]
 simp [lenW]
theorem akn {es:List WE} {e:WE} (h:e ∈ es):1+e.m≤lenW es:=by
 induction es with
 | nil=>cases h
 | cons x es ih =>
  simp only [lenW]
  rcases List.mem_cons.1 h with rfl | h
  ·omega
  ·have:=ih h;omega
section
variable {dst:Option Tmp} {ty:TypeId} {pos:String} {after:Array Edge} {guard:Option (Nat × Bool)} {a:Act} {w:World} {ats:Array TypeId} {i j:Nat}
theorem avb {k:Nat} (h1:a.eval (.tmp i)=.int .i64 (k:Int)) (h:k<9223372036854775807) :
  Does Tryz.prog { dst,op:=.binOp .add 3 (.tmp i) (.const (.int .i64 1)) 3,type:=ty,pos,after,guard } a.eval w fun v' w'=>Below w.heap.size w w'∧Eqs (.int .i64 ((k+1:Nat):Int)) v' w' := by
 have:=ava (dst:=dst) (ty:=ty) (pos:=pos) (after:=after) (guard:=guard) (w:=w) (v:=1) h1 (by omega)
 rwa [show ((k:Int)+1)=((k+1:Nat):Int) by omega] at this
theorem avc {u v:Int} (h1:a.eval (.tmp i)=.int .i64 u) (h2:a.eval (.tmp j)=.int .i64 v) :
  Does Tryz.prog { dst,op:=.binOp .lss 3 (.tmp i) (.tmp j) 3,type:=ty,pos,after,guard } a.eval w fun v' w'=>Below w.heap.size w w'∧Eqs (.bool (decide (u<v))) v' w' := by
 refine adc (v:=.bool (decide (u<v))) ?_ ?_ ⟨Below.refl _ _,rfl⟩
 ·rw [h1,h2];simp [go_sem]
 ·rw [h1,h2];simp [go_sem]
theorem avd {u v:Int} (h1:a.eval (.tmp i)=.int .i64 u) (h2:a.eval (.tmp j)=.int .i64 v) (h:u=v) :
  Does Tryz.prog { dst,op:=.binOp .neq 3 (.tmp i) (.tmp j) 3,type:=ty,pos,after,guard } a.eval w fun v' w'=>Below w.heap.size w w'∧Eqs (.bool false) v' w' := by
 subst h
 exact an0 h1 h2
end
end Lm
end Go.Proofs.YtgmobkafnefpfaaGreat
namespace Go.Proofs.YtgmobkafnefpfaaGreat
namespace Lm
open Go Go.RowKit Go.ChangeShapes Go.WideShapes Go.ChangeAt Go.Deep
theorem amo {w:World} {x:Addr} {l c:Nat} {zs:List Int} (hl:l≤c) (hm:c≤maxLen) (hz:zs.length=c) (hcell:∀ i,i<zs.length→w.cell? (x.add i)=some (.int .u32 (zs.getD i 0))) (hwz:∀ n ∈ zs,(Lit.int .u32 n).wf=true):Sl w (.slice (some x) l c) (zs.take l):=by
 have hll:(zs.take l).length=l:=by rw [List.length_take];omega
 refine ⟨some x,c,by rw [hll],by omega,hm,fun n hn=>?_,?_⟩
 ·have:=bounds_u32 (hwz n (List.mem_of_mem_take hn))
  omega
 ·by_cases h0:l=0
  ·exact .inl (List.eq_nil_of_length_eq_zero (by omega))
  ·obtain ⟨b,off,spot⟩:=x
   have h1:=hcell 0 (by omega)
   have hspot:spot=none:=by simpa [Addr.add] using World.cell?_spot h1
   subst hspot
   refine .inr ⟨b,off,rfl,fun i hi=>?_⟩
   have h2:=hcell i (by omega)
   rw [ac2 _ _ _ (by omega)]
   have e:(⟨b,off,none⟩:Addr).add i=⟨b,off+i,none⟩:=by
    by_cases hi0:i=0
    ·subst hi0;simp [Addr.add]
    ·simp [Addr.add,hi0]
   rwa [e] at h2
instance:Inhabited WE:=⟨⟨false,none,0,0,[]⟩⟩
theorem aqa {H:Type} (zs:List Int):Rows.uptoBulkAll (lits .u32 zs:List (DataW H))=zs.length:=by
 induction zs with
 | nil=>rfl
 | cons z zs ih =>
  have e:(lits .u32 (z :: zs):List (DataW H))=.lit (.int .u32 z) :: lits .u32 zs:=rfl
  rw [e,Rows.uptoBulkAll,ih,Rows.uptoBulk,List.length_cons]
  ·omega
  ·intro b hb;cases hb
theorem al5 {H:Type} (l r:List (DataW H)):Rows.uptoBulkAll (l ++ r)=Rows.uptoBulkAll l+Rows.uptoBulkAll r:=by
 induction l with
 | nil=>simp [Rows.uptoBulkAll]
 | cons x l ih=>simp only [List.cons_append,Rows.uptoBulkAll,ih];omega
theorem ako (E:Nat→WE) (n:Nat):∀ j u,(flat ((List.range n).map E))[j]? = some u→j / 2<n∧u=(if j % 2=0 then .bool (E (j / 2)).ng else .slice (E (j / 2)).a (E (j / 2)).m (E (j / 2)).c):=by
 intro j u hu
 have hj:j<(flat ((List.range n).map E)).length:=(List.getElem?_eq_some_iff.1 hu).1
 rw [abg,List.length_map,List.length_range] at hj
 have hk:j / 2<n:=by omega
 have he:((List.range n).map E)[j / 2]? = some (E (j / 2)):=by simp [hk]
 obtain ⟨h1,h2⟩:=abl he
 refine ⟨hk,?_⟩
 by_cases h0:j % 2=0
 ·rw [if_pos h0]
  rw [show j / 2*2=j by omega,hu] at h1
  exact Option.some.inj h1
 ·rw [if_neg h0]
  rw [show j / 2*2+1=j by omega,hu] at h2
  exact Option.some.inj h2
theorem asy {H:Type} {enc:TypeId × Value→H} {w:World} {fuel:Nat} {ao:Option Addr} {n cap:Nat} {x:DataW H × List MemPlace} (h:DataW.trod enc Tryz.prog w 0 (fun _=>true) true fuel 39 [.slice ao n cap]=some x) :
  ∃ es,Rw w (.slice ao n cap) es∧lenW es+1≤Rows.uptoBulk x.1:=by
 rcases open_slice_pairs Tryz.underlying39 Tryz.underlying27 (by kernel_rfl) (by kernel_rfl) (by kernel_rfl) (by kernel_rfl) (by kernel_rfl) h with ⟨hcs,rfl⟩ | ⟨a,len,cap',m,k,V0,V1,D0,D1,P0,P1,hcs,_,hl,hm,hmm,rfl,hall⟩
 ·obtain ⟨rfl,rfl,rfl⟩:ao=none∧n=0∧cap=0:=by simpa using hcs
  exact ⟨[],⟨⟨none,0,rfl,Nat.le_refl _,by omega,rfl,.inl rfl⟩,fun e he=>by cases he⟩,by simp [lenW,Rows.uptoBulk]⟩
 obtain ⟨rfl,rfl,rfl⟩:ao=some a∧n=len∧cap=cap' := by simpa using hcs
 simp only [if_true] at hmm
 subst hmm
 have each:∀ i,i<m→∃ e:WE,V0 i=.bool e.ng∧V1 i=.slice e.a e.m e.c∧Sl w (.slice e.a e.m e.c) e.zs∧e.m+1≤Rows.uptoBulk (DataW.agg (H:=H) [D0 i,D1 i]):=by
  intro i hi
  obtain ⟨_,_,t0,t1⟩:=hall i hi
  obtain ⟨b,hb0,_⟩:=DataW.trod_bool Tryz.underlying4 t0
  obtain hb:V0 i=.bool b:=by simpa using hb0
  rcases open_ints Tryz.underlying25 Tryz.underlying83 (by kernel_rfl) t1 with ⟨hcs,_⟩ | ⟨x,l,c,zs,hcs,_,hl,hm,hz,hx,hcell,hwz⟩
  ·obtain hv:V1 i=.slice none 0 0:=by simpa using hcs
   exact ⟨⟨b,none,0,0,[]⟩,hb,hv,⟨none,0,rfl,Nat.le_refl _,by simp [maxLen],aae,.inl rfl⟩,by simp [Rows.uptoBulk]⟩
  ·obtain hv:V1 i=.slice (some x) l c:=by simpa using hcs
   have hz' : zs.length=c:=by simpa using hz
   refine ⟨⟨b,some x,l,c,zs.take l⟩,hb,hv,amo hl hm hz' hcell hwz,?_⟩
   have hd:D1 i=.slice (lits .u32 (zs.take l)) (lits .u32 (zs.drop l)):=congrArg Prod.fst hx
   have hll:(zs.take l).length=l:=by rw [List.length_take];omega
   simp only [Rows.uptoBulk,Rows.uptoBulkAll,hd,aqa,hll]
   omega
 obtain ⟨E,hE⟩:=choose_lt each
 refine ⟨(List.range n).map E,⟨⟨some a,m,by rw [List.length_map,List.length_range],by rw [List.length_map,List.length_range];exact hl,by simpa [maxLen] using hm,abg _,?_⟩,fun e he=>?_⟩,?_⟩
 ·by_cases h0:n=0
  ·exact .inl (by rw [List.length_map,List.length_range];exact h0)
  ·obtain ⟨b,off,spot⟩:=a
   have h1:=(hall 0 (by omega)).1
   have hspot:spot=none:=by simpa [Addr.add] using World.cell?_spot h1
   subst hspot
   have hadd:∀ i,(⟨b,off,none⟩:Addr).add i=⟨b,off+i,none⟩:=fun i=>by
    by_cases hi0:i=0
    ·subst hi0;simp [Addr.add]
    ·simp [Addr.add,hi0]
   refine .inr ⟨b,off,rfl,aak (off:=off+0*2) (by rw [←hadd];exact h1),fun j u hu=>?_⟩
   obtain ⟨hj,rfl⟩:=ako E n j u hu
   obtain ⟨c0,c1,_,_⟩:=hall (j / 2) (by omega)
   obtain ⟨e0,e1,_⟩:=hE (j / 2) (by omega)
   rw [hadd] at c0 c1
   by_cases hj0:j % 2=0
   ·rw [if_pos hj0,←e0,←c0]
    congr 2
    omega
   ·rw [if_neg hj0,←e1,←c1]
    congr 2
    omega
 ·obtain ⟨i,hi,rfl⟩:=List.mem_map.1 he
  exact (hE i (by have:=List.mem_range.1 hi;omega)).2.2.1
 ·have key:∀ k,k≤n→lenW ((List.range k).map E)≤Rows.uptoBulkAll ((List.range k).map fun i=>DataW.agg (H:=H) [D0 i,D1 i]):=by
   intro k hk
   induction k with
   | zero=>simp [lenW]
   | succ k ih =>
    have h1:=ih (by omega)
    have h2:=(hE k (by omega)).2.2.2
    rw [List.range_succ,List.map_append,List.map_append,ags,al5]
    simp only [List.map_cons,List.map_nil,lenW,Rows.uptoBulkAll] at h1 h2 ⊢
    omega
  have:=key n (Nat.le_refl _)
  simp only [Rows.uptoBulk]
  omega
end Lm
end Go.Proofs.YtgmobkafnefpfaaGreat
namespace Go.Proofs.YtgmobkafnefpfaaGreat
namespace Lm
open Go.RowKit
structure Pl where
 b:Nat
 g:Nat
 l:Nat
 c:Nat
theorem gdrewN {B:Nat} {a w:World} (h:Below B a w) (n:Nat):Below B a (w.drewN n):=h.trans ⟨rfl,rfl,rfl,Nat.le_refl _,fun _ _=>rfl⟩
end Lm
end Go.Proofs.YtgmobkafnefpfaaGreat
namespace Go.Proofs.YtgmobkafnefpfaaGreat
namespace Lm
open Go Go.RowKit
def Ce (w:World) (v:Value) (size n:Nat) (xs:List Value):Prop :=
 ∃ ao cap,v=.slice ao n cap∧n≤cap∧cap≤9223372036854775807∧xs.length=n*size∧(n=0∨∃ b off,ao=some ⟨b,off,none⟩∧b<w.heap.size∧∀ j u,xs[j]? = some u→w.cell? ⟨b,off+j,none⟩ = some u)
theorem Ce.below {w w' : World} {v:Value} {size n:Nat} {xs:List Value} (h:Ce w v size n xs) (hb:Below w.heap.size w w'):Ce w' v size n xs:=by
 obtain ⟨ao,cap,rfl,h1,h2,h3,h4⟩:=h
 refine ⟨ao,cap,rfl,h1,h2,h3,?_⟩
 rcases h4 with h4 | ⟨b,off,rfl,hl,hc⟩
 ·exact .inl h4
 ·exact .inr ⟨b,off,rfl,Nat.lt_of_lt_of_le hl hb.size,fun j u hu=>(hb.cell (p:=⟨b,off+j,none⟩) hl).trans (hc j u hu)⟩
theorem Ce.own {w:World} {base:Nat} {e:TypeId} {size n:Nat} {v:Value} {xs:List Value} (h:w.ownsRow base e size v n xs):Ce w v size n xs:=by
 obtain ⟨hl,⟨rfl,rfl⟩ | ⟨g,cap,cur,rfl,hb,hh,h1,h2,h3,h4⟩⟩:=h
 ·exact ⟨none,0,rfl,Nat.le_refl _,by omega,hl,.inl rfl⟩
 ·refine ⟨_,cap,rfl,h1,by simpa [maxLen] using h2,hl,.inr ⟨g,0,rfl,aaa hh,fun j u hu=>?_⟩⟩
  rw [Nat.zero_add,cell_of_row w g j cur e (0,0) hh]
  rw [←h4,List.getElem?_take] at hu
  split at hu
  ·simpa using hu
  ·cases hu
theorem OutW.ru {z:Int} {L:Nat} {v:Value} {w w' : World} (h:OutW z L v w) (hr:Ru w w'):OutW z L v w' := OutW.mono5 z L _ _ _ hr h
theorem OutW.fit {z:Int} {L L' : Nat} {v:Value} {w:World} (h:OutW z L v w) (hf:(z.natAbs:Int)<pw L'):OutW z L' v w:=by
 obtain ⟨ng,ao,cap,rs,e,h1,l1⟩:=h
 exact ⟨ng,ao,cap,rs,e,h1,aax h1.1.2.1 (by rw [h1.1.2.2];exact hf)⟩
structure Rc (q b:Nat) (w w' : World):Prop where
 os:w'.os=w.os
 tape:w'.tape=w.tape
 output:w'.output=w.output
 size:w.heap.size≤w'.heap.size
 other:∀ k,k<w.heap.size→k≠q→k≠b→w'.heap[k]? = w.heap[k]?
 ru:Ru w w'
theorem Rc.of_below {q b:Nat} {w w' : World} (h:Below w.heap.size w w'):Rc q b w w' := ⟨h.os,h.tape,h.output,h.size,fun k hk _ _=>h.block k hk,Ru.of_below h⟩
theorem Rc.trans {q b:Nat} {w w' w'' : World} (h:Rc q b w w') (h' : Rc q b w' w''):Rc q b w w'' := ⟨h'.os.trans h.os,h'.tape.trans h.tape,h'.output.trans h.output,Nat.le_trans h.size h'.size,fun k hk h1 h2=>(h'.other k (Nat.lt_of_lt_of_le hk h.size) h1 h2).trans (h.other k hk h1 h2),h.ru.trans h'.ru⟩
theorem Rc.below {q b:Nat} {w w' : World} {B:Nat} (h:Rc q b w w') (hB:B≤w.heap.size) (hq:B≤q) (hb:B≤b):Below B w w' := ⟨h.os,h.tape,h.output,h.size,fun k hk=>h.other k (by omega) (by omega) (by omega)⟩
theorem FrW.ru {K:Nat} {z:Int} {L:Nat} {v:Value} {w w' : World} (h:FrW K z L v w) (hr:Ru w w'):FrW K z L v w' := FrW.mono5 K z L _ _ _ hr h
theorem FrW.of_li {w:World} {B T:Nat} {ng:Bool} {ao:Option Addr} {cap:Nat} {rs:List Int} {z:Int} {L:Nat} (hw:Wh w ng ao cap rs z) (hl:Li B T w ao cap rs) (hT:T≤w.heap.size) (hL:rs.length≤L):FrW B z L (.agg #[.bool ng,.slice ao rs.length cap]) w :=
 ⟨ng,ao,cap,rs,B,T,rfl,⟨⟨hl.ow,hw.1.2.1,hw.1.2.2,hl.lies⟩,hw.2⟩,Nat.le_refl _,hT,hL⟩
theorem FrW.low {K K' : Nat} {z:Int} {L:Nat} {v:Value} {w:World} (h:FrW K z L v w) (hk:K'≤K):FrW K' z L v w:=by
 obtain ⟨ng,ao,cap,rs,B,T,e,h1,h2,h3,h4⟩:=h
 exact ⟨ng,ao,cap,rs,B,T,e,h1,Nat.le_trans hk h2,h3,h4⟩
theorem FrW.to {K:Nat} {z z' : Int} {L L' : Nat} {v:Value} {w:World} (h:FrW K z L v w) (hz:z=z') (hL:L≤L'):FrW K z' L' v w:=by
 subst hz
 obtain ⟨ng,ao,cap,rs,B,T,e,h1,h2,h3,h4⟩:=h
 exact ⟨ng,ao,cap,rs,B,T,e,h1,h2,h3,Nat.le_trans h4 hL⟩
theorem FrW.fit {K:Nat} {z:Int} {L L' : Nat} {v:Value} {w:World} (h:FrW K z L v w) (hf:(z.natAbs:Int)<pw L'):FrW K z L' v w:=by
 obtain ⟨ng,ao,cap,rs,B,T,e,h1,h2,h3,h4⟩:=h
 exact ⟨ng,ao,cap,rs,B,T,e,h1,h2,h3,aax h1.fr.canon (by rw [h1.fr.val];exact hf)⟩
theorem FrW.is {K:Nat} {z:Int} {L:Nat} {v:Value} {w:World} (h:FrW K z L v w):IsW z L v w:=h.out.is
theorem FrW.agg {K:Nat} {z:Int} {L:Nat} {v:Value} {w:World} (h:FrW K z L v w):∃ ng ao n cap,v=.agg #[.bool ng,.slice ao n cap]:=by
 obtain ⟨ng,ao,cap,rs,B,T,e,_⟩:=h
 exact ⟨ng,ao,rs.length,cap,e⟩
theorem adh (w:World) {K L:Nat} (hK:K≤w.heap.size):FrW K 0 L (.agg #[.bool false,.slice none 0 0]) w:=⟨false,none,0,[],w.heap.size,w.heap.size,rfl,(ax7 _ _ _).wfr (ax8 _),hK,Nat.le_refl _,by simp⟩
theorem IsW.ru {z:Int} {L:Nat} {v:Value} {w w' : World} (h:IsW z L v w) (hr:Ru w w'):IsW z L v w' := IsW.mono5 z L _ _ _ hr h
section
variable (w:World) (x y:Int) (vx vy:Value) (L M:Nat)
theorem mulF (hx:IsW x L vx w) (hy:IsW y M vy w) (hL:L≤400000) (hM:M≤400000) :
  Calls Tryz.prog 62 #[vx,vy] w fun e w'=>∃ v,e=.returned v∧FrW w.heap.size (x*y) (L+M) v w'∧Below w.heap.size w w' := by
 obtain ⟨n1,a1,m1,c1,xs,rfl,A1,l1⟩:=hx
 obtain ⟨n2,a2,m2,c2,ys,rfl,A2,l2⟩:=hy
 refine (axz w n1 a1 m1 c1 xs A1.sl n2 a2 m2 c2 ys A2.sl (by omega) (by omega)).mono ?_
 rintro e w' ⟨ng,ao,cap,rs,rfl,hw,hl,hli,hb⟩
 rw [A1.worth,A2.worth] at hw
 exact ⟨_,rfl,FrW.of_li hw hli (Nat.le_refl _) (by omega),hb⟩
theorem subF (hx:IsW x L vx w) (hy:IsW y M vy w) (hL:L≤400000) (hM:M≤400000) :
  Calls Tryz.prog 63 #[vx,vy] w fun e w'=>∃ v,e=.returned v∧FrW w.heap.size (x - y) (L+M+1) v w'∧Below w.heap.size w w' := by
 obtain ⟨n1,a1,m1,c1,xs,rfl,A1,l1⟩:=hx
 obtain ⟨n2,a2,m2,c2,ys,rfl,A2,l2⟩:=hy
 refine (axy w n1 a1 m1 c1 xs A1.sl n2 a2 m2 c2 ys A2.sl (by omega) (by omega)).mono ?_
 rintro e w' ⟨ng,ao,cap,rs,rfl,hw,hl,hli,hb⟩
 rw [A1.worth,A2.worth] at hw
 exact ⟨_,rfl,FrW.of_li hw hli (Nat.le_refl _) (by omega),hb⟩
theorem gcdF (hx:IsW x L vx w) (hy:IsW y M vy w) (hL:L≤400000) (hM:M≤400000) :
  Calls Tryz.prog 83 #[vx,vy] w fun e w'=>∃ v,e=.returned v∧FrW w.heap.size ((Int.gcd x y:Nat):Int) (L+M+1) v w'∧Below w.heap.size w w' := by
 obtain ⟨n1,a1,m1,c1,xs,rfl,A1,l1⟩:=hx
 obtain ⟨n2,a2,m2,c2,ys,rfl,A2,l2⟩:=hy
 refine (ax1 w n1 a1 m1 c1 xs A1.sl n2 a2 m2 c2 ys A2.sl (by omega) (by omega)).mono ?_
 rintro e w' ⟨ng,ao,cap,rs,rfl,hw,hl,hli,hb⟩
 rw [A1.worth,A2.worth] at hw
 exact ⟨_,rfl,FrW.of_li hw hli (Nat.le_refl _) (by omega),hb⟩
theorem negF (hx:IsW x L vx w) (hL:L≤400000) :
  Calls Tryz.prog 67 #[vx] w fun e w'=>∃ v,e=.returned v∧FrW w.heap.size (-x) L v w'∧Below w.heap.size w w' := by
 obtain ⟨n1,a1,m1,c1,xs,rfl,A1,l1⟩:=hx
 refine (axw w n1 a1 m1 c1 xs A1.sl (by omega)).mono ?_
 rintro e w' ⟨ng,ao,cap,rs,rfl,hw,hl,hli,hb⟩
 rw [A1.worth] at hw
 exact ⟨_,rfl,FrW.of_li hw hli (Nat.le_refl _) (by omega),hb⟩
theorem signF (hx:IsW x L vx w) (hL:L≤400000) :
  Calls Tryz.prog 64 #[vx] w fun e w'=>e=.returned (.int .i64 (Int.sign x))∧Below w.heap.size w w' := by
 obtain ⟨n1,a1,m1,c1,xs,rfl,A1,l1⟩:=hx
 exact axm w n1 a1 m1 c1 xs x A1 (by omega) _ rfl
theorem divF (hx:IsW x L vx w) (hy:IsW y M vy w) (hL:L≤400000) (hM:M≤400000) :
  Calls Tryz.prog 84 #[vx,vy] w fun e w'=>∃ v1 v2 b,e=.returned (.tuple #[v1,v2,.bool b])∧FrW w.heap.size (x / y) (L+4) v1 w'∧OutW (if y=0 then 0 else x % y) (M+1) v2 w'∧b=decide (y≠0)∧Below w.heap.size w w' := by
 obtain ⟨n1,a1,m1,c1,xs,rfl,A1,l1⟩:=hx
 obtain ⟨n2,a2,m2,c2,ys,rfl,A2,l2⟩:=hy
 have hw:=A2.worth
 by_cases h0:val ys=0
 ·have hy0:y=0:=by rw [←hw,h0];cases n2 <;> simp [sg]
  refine (akc w n1 a1 m1 c1 xs A1.sl n2 a2 m2 c2 ys A2.sl h0).mono ?_
  rintro e w' ⟨rfl,hb⟩
  refine ⟨_,_,_,rfl,?_,?_,by rw [hy0];rfl,hb⟩
  ·rw [hy0,Int.ediv_zero]
   exact adh _ hb.size
  ·rw [if_pos hy0]
   exact (adh (K:=0) _ (Nat.zero_le _)).out
 ·have hy0:y≠0:=by rw [←hw];cases n2 <;> simp [sg] <;> omega
  refine (ap0 w n1 a1 m1 c1 xs A1.sl n2 a2 m2 c2 ys A2.sl (by omega) (by omega) h0).mono ?_
  rintro e w' ⟨nq,aq,cq,qs,nr,ar,cr,rs,B1,T1,B2,T2,rfl,hq,hr,lq,lr,li1,li2,⟨i1,i2,i3,i4,_⟩,hb⟩
  rw [A1.worth,A2.worth] at hq hr
  refine ⟨_,_,_,rfl,(FrW.of_li hq li1 i2 (by omega)).low i1,?_,by simp [hy0],hb⟩
  rw [if_neg hy0]
  exact ⟨_,_,_,_,rfl,hr,by omega⟩
end
set_option maxRecDepth 20000 in
theorem aqb {ops:Array Oper} {o:Oper} {a:Act} {w:World} {K:Act→World→Prop} {Q:Exit→Act→World→Prop} {E:Prop} (hg:o.guard=none) (f:FuncId) (xs:Array Operand) (ats:Array TypeId)
  (hop:o.op=.call { callee:=.value (.func f),args:=xs,argTypes:=ats }) (hf:Has Tryz.prog f) (vs:Array Value) (hx:xs.map a.eval=vs) {Post:Ending→World→Prop} (hc:Calls Tryz.prog f vs w Post) (hK:∀ e w',Post e w'→∃ r,e=.returned r∧K (a.put o.dst r) w') :
  if Region.wanted o (yielded ops a.tmps)=true then Oper.wp Tryz.prog o a w K Q else E:=by
 obtain ⟨dst,op,ty,pos,after,guard⟩:=o
 simp only at hop hg
 subst hop hg
 have hw:Region.wanted { dst,op:=.call { callee:=.value (.func f),args:=xs,argTypes:=ats },type:=ty,pos,after,guard:=none } (yielded ops a.tmps)=true:=by simp [Region.wanted]
 rw [if_pos hw]
 clear hw
 have hd:Does Tryz.prog { dst,op:=.call { callee:=.value (.func f),args:=xs,argTypes:=ats },type:=ty,pos,after,guard:=none } a.eval w (fun r w'=>K (a.put dst r) w'):=aas hf vs hx (hc.mono hK)
 have hz:=Does.wp (K:=K) (Q:=Q) hd (fun v w' h=>h)
 exact hz
section
variable {dst:Option Tmp} {ty:TypeId} {pos:String} {after:Array Edge} {guard:Option (Nat × Bool)} {a:Act} {w:World} {ats:Array TypeId} {i j:Nat}
theorem an1:Has Tryz.prog 25:=by unfold Has;kernel_rfl
theorem al6 {ax ay:Option Addr} {mx cx my cy:Nat} {zs:List Int} (h1:a.eval (.tmp i)=.slice ax mx cx) (h2:a.eval (.tmp j)=.slice ay my cy) (S1:Sl w (.slice ax mx cx) zs) (S2:Sl w (.slice ay my cy) zs) :
  Does Tryz.prog { dst,op:=.call { callee:=.value (.func 25),args:=#[.tmp i,.tmp j],argTypes:=ats },type:=ty,pos,after,guard } a.eval w fun v w'=>Below w.heap.size w w'∧Eqs (.bool true) v w' := by
 refine aas an1 _ (by simp only [List.map_toArray,List.map_cons,List.map_nil,h1,h2]) ((ajq w _ _ _ _ _ _ zs zs S1 S2).mono ?_)
 rintro e w' ⟨rfl,hb⟩
 exact ⟨_,rfl,hb,by rw [am8];rfl⟩
end
set_option maxRecDepth 20000 in
set_option maxHeartbeats 1000000 in
theorem aqc (w:World) (nx:Bool) (ax ay:Option Addr) (mx cx my cy:Nat) (zs:List Int) (Tx:Sl w (.slice ax mx cx) zs) (Ty:Sl w (.slice ay my cy) zs) :
  Calls Tryz.prog 9 #[.agg #[.bool nx,.slice ax mx cx],.agg #[.bool nx,.slice ay my cy]] w fun e w'=>e=.returned (.bool true)∧Below w.heap.size w w' := by
 go_enter Tryz.func9,Tryz.ntmps9
 generalize hA:(Act.mk _ _)=aa
 have hn:aa.tmps.size=17:=by rw [←hA];rfl
 have hd:aa.defers = []:=by rw [←hA]
 have f0:aa.eval (.tmp 0)=.agg #[.bool nx,.slice ax mx cx]:=by rw [←hA];rfl
 have f1:aa.eval (.tmp 1)=.agg #[.bool nx,.slice ay my cy]:=by rw [←hA];rfl
 clear hA
 have HB:Below w.heap.size w w:=Below.refl _ _
 refine wp_seq ?_
 refine aap [some 2,some 3,some 4] [(fun _ _=>True),(fun _ _=>True),Eqs ((.bool false))] [⟨W2,some 0,0,2,.agg #[.bool nx,.slice ax mx cx],none,[]⟩,⟨W2,some 1,0,3,.agg #[.bool nx,.slice ay my cy],none,[]⟩] [] (by kernel_rfl) hn rfl (by kernel_rfl) (by kernel_rfl) (by kernel_rfl) (by kernel_rfl) (by kernel_rfl) (by kernel_rfl) ⟨True.mono4,True.mono4,Eqs.mono4 _,trivial⟩ (aaq W2ok (aaq W2ok aat)) (IsOld.all (bx:=[⟨W2,some 0,0,2,.agg #[.bool nx,.slice ax mx cx],none,[]⟩,⟨W2,some 1,0,3,.agg #[.bool nx,.slice ay my cy],none,[]⟩]) ⟨someNe,someNe,trivial⟩) (DisOld.all (bx:=[⟨W2,some 0,0,2,.agg #[.bool nx,.slice ax mx cx],none,[]⟩,⟨W2,some 1,0,3,.agg #[.bool nx,.slice ay my cy],none,[]⟩]) ⟨someNe,someNe,trivial⟩) ?_ ?_
 ·exact ⟨.alloc 0 _ rfl rfl (.inr ⟨_,rfl,ang,fun a_ hR=>(hR 0 rfl).trans f0⟩) rfl rfl rfl rfl rfl,
   .alloc 1 _ rfl rfl (.inr ⟨_,rfl,ang,fun a_ hR=>(hR 1 rfl).trans f1⟩) rfl rfl rfl rfl rfl,
   .norm 4 rfl rfl rfl (fun a_ w_ hn_ hBt hr hR hD hO hS=>ab8 rfl),
   trivial⟩
 intro a1 w1 gs1 hn1 hd1 hBt hr hR hP hX hU
 replace hn:=hn1;replace hd:=hd1.trans hd
 have b2:BoxV W2 w1 (gs1 0) (.agg #[.bool nx,.slice ax mx cx]):=(hX 0 _ rfl).2.2.2
 have f2:=(hX 0 _ rfl).1
 have u2:w.heap.size≤gs1 0:=Nat.le_trans HB.size ((hX 0 _ rfl).2.2.1 (by simp))
 have b3:BoxV W2 w1 (gs1 1) (.agg #[.bool nx,.slice ay my cy]):=(hX 1 _ rfl).2.2.2
 have f3:=(hX 1 _ rfl).1
 have u3:w.heap.size≤gs1 1:=Nat.le_trans HB.size ((hX 1 _ rfl).2.2.1 (by simp))
 have e4:a1.eval (.tmp 4)=(.bool false):=hP 2 (by decide)
 have f4:=e4
 replace Tx:=Tx.rl hr
 replace Ty:=Ty.rl hr
 replace HB:=HB.trans (hBt.below HB.size (UpOld.all (bx:=[⟨W2,some 0,0,2,.agg #[.bool nx,.slice ax mx cx],none,[]⟩,⟨W2,some 1,0,3,.agg #[.bool nx,.slice ay my cy],none,[]⟩]) ⟨someNe,someNe,trivial⟩))
 clear hBt hr hR hP hX hU
 refine wp_seq ?_
 refine aap [some 5,some 6,some 7,some 8,some 9,some 10,some 11,some 12,some 13,some 14,some 15,some 16,some 4] [Eqs (.pointer (some ⟨gs1 0,0,none⟩)),Eqs (.bool nx),Eqs (.pointer (some ⟨gs1 1,0,none⟩)),Eqs (.bool nx),Eqs (.bool true),Eqs (.bool true),Eqs (.pointer (some ⟨gs1 0,1,none⟩)),Eqs (.slice ax mx cx),Eqs (.pointer (some ⟨gs1 1,1,none⟩)),Eqs (.slice ay my cy),Eqs (.bool true),Eqs (.bool true),Eqs (.bool true)] [] [] (by kernel_rfl) hn rfl (by kernel_rfl) (by kernel_rfl) (by kernel_rfl) (by kernel_rfl) (by kernel_rfl) (by kernel_rfl) ⟨Eqs.mono4 _,Eqs.mono4 _,Eqs.mono4 _,Eqs.mono4 _,Eqs.mono4 _,Eqs.mono4 _,Eqs.mono4 _,Eqs.mono4 _,Eqs.mono4 _,Eqs.mono4 _,Eqs.mono4 _,Eqs.mono4 _,Eqs.mono4 _,trivial⟩ aat (IsOld.all (bx:=[]) trivial) (DisOld.all (bx:=[]) trivial) ?_ ?_
 ·exact ⟨.norm 5 rfl rfl rfl (fun a_ w_ hn_ hBt hr hR hD hO hS=>aga aj0 ((hR 2 rfl).trans f2)),
   .norm 6 rfl rfl rfl (fun a_ w_ hn_ hBt hr hR hD hO hS=>ag0 (show a_.eval (.tmp 5)=.pointer (some ⟨gs1 0,0,none⟩) from hD 0 rfl) (b2.keep hBt trivial)),
   .norm 7 rfl rfl rfl (fun a_ w_ hn_ hBt hr hR hD hO hS=>aga aj0 ((hR 3 rfl).trans f3)),
   .norm 8 rfl rfl rfl (fun a_ w_ hn_ hBt hr hR hD hO hS=>ag0 (show a_.eval (.tmp 7)=.pointer (some ⟨gs1 1,0,none⟩) from hD 2 rfl) (b3.keep hBt trivial)),
   .norm 9 rfl rfl rfl (fun a_ w_ hn_ hBt hr hR hD hO hS=>ass (show a_.eval (.tmp 6)=.bool nx from hD 1 rfl) (show a_.eval (.tmp 8)=.bool nx from hD 3 rfl)),
   .norm 10 rfl rfl rfl (fun a_ w_ hn_ hBt hr hR hD hO hS=>aao (show a_.eval (.tmp 9)=.bool true from hD 4 rfl)),
   .norm 11 rfl rfl rfl (fun a_ w_ hn_ hBt hr hR hD hO hS=>⟨⟨_,rfl⟩,fun _=>aga aj1 ((hR 2 rfl).trans f2),fun hne=>absurd (hD 5 rfl) hne⟩),
   .norm 12 rfl rfl rfl (fun a_ w_ hn_ hBt hr hR hD hO hS=>⟨⟨_,rfl⟩,fun _=>ag1 (show a_.eval (.tmp 11)=.pointer (some ⟨gs1 0,1,none⟩) from hD 6 rfl) (b2.keep hBt trivial),fun hne=>absurd (hD 5 rfl) hne⟩),
   .norm 13 rfl rfl rfl (fun a_ w_ hn_ hBt hr hR hD hO hS=>⟨⟨_,rfl⟩,fun _=>aga aj1 ((hR 3 rfl).trans f3),fun hne=>absurd (hD 5 rfl) hne⟩),
   .norm 14 rfl rfl rfl (fun a_ w_ hn_ hBt hr hR hD hO hS=>⟨⟨_,rfl⟩,fun _=>ag1 (show a_.eval (.tmp 13)=.pointer (some ⟨gs1 1,1,none⟩) from hD 8 rfl) (b3.keep hBt trivial),fun hne=>absurd (hD 5 rfl) hne⟩),
   .norm 15 rfl rfl rfl (fun a_ w_ hn_ hBt hr hR hD hO hS=>⟨⟨_,rfl⟩,fun _=>al6 (show a_.eval (.tmp 12)=.slice ax mx cx from hD 7 rfl) (show a_.eval (.tmp 14)=.slice ay my cy from hD 9 rfl) (Tx.rl hr) (Ty.rl hr),fun hne=>absurd (hD 5 rfl) hne⟩),
   .norm 16 rfl rfl rfl (fun a_ w_ hn_ hBt hr hR hD hO hS=>ar9 (show a_.eval (.tmp 10)=.bool true from hD 5 rfl) (show a_.eval (.tmp 15)=.bool true from hD 10 rfl)),
   .norm 4 rfl rfl rfl (fun a_ w_ hn_ hBt hr hR hD hO hS=>ab8 (show a_.eval (.tmp 16)=.bool true from hD 11 rfl)),
   trivial⟩
 intro a2 w2 gs2 hn2 hd2 hBt hr hR hP hX hU
 replace hn:=hn2;replace hd:=hd2.trans hd
 have e4:a2.eval (.tmp 4)=.bool true:=hP 12 (by decide)
 have f4:=e4
 replace Tx:=Tx.rl hr
 replace Ty:=Ty.rl hr
 replace HB:=HB.trans (hBt.below HB.size (UpOld.all (bx:=[]) trivial))
 clear hBt hr hR hP hX hU
 refine wp_ret ?_
 repeat (first | refine abx ?_ | refine abp ?_ | refine abo ?_)
 exact bodyPost_ret (v:=.bool true) (adm rfl f4) hd ⟨rfl,HB⟩
section
variable {dst:Option Tmp} {ty:TypeId} {pos:String} {after:Array Edge} {guard:Option (Nat × Bool)} {a:Act} {w:World} {ats:Array TypeId} {i j:Nat}
theorem an2 {nx ny:Bool} {ax ay:Option Addr} {mx cx my cy:Nat} {xs ys:List Int} (h1:a.eval (.tmp i)=.agg #[.bool nx,.slice ax mx cx]) (h2:a.eval (.tmp j)=.agg #[.bool ny,.slice ay my cy]) (S1:Sl w (.slice ax mx cx) xs) (S2:Sl w (.slice ay my cy) ys) (hn:nx=ny) (hz:xs=ys) :
  Does Tryz.prog { dst,op:=.call { callee:=.value (.func 9),args:=#[.tmp i,.tmp j],argTypes:=ats },type:=ty,pos,after,guard } a.eval w fun v w'=>Below w.heap.size w w'∧Eqs (.bool true) v w' := by
 subst hn hz
 refine aas ar8 _ (by simp only [List.map_toArray,List.map_cons,List.map_nil,h1,h2]) ((aqc w nx _ _ _ _ _ _ xs S1 S2).mono ?_)
 rintro e w' ⟨rfl,hb⟩
 exact ⟨_,rfl,hb,rfl⟩
end
def WE.raw (e:WE):Bool × List Int:=(e.ng,e.zs)
def SameR (es fs:List WE):Prop:=es.map WE.raw=fs.map WE.raw
theorem SameR.len {es fs:List WE} (h:SameR es fs):es.length=fs.length:=by simpa using congrArg List.length h
theorem SameR.at {es fs:List WE} (h:SameR es fs) {k:Nat} {e f:WE} (he:es[k]? = some e) (hf:fs[k]? = some f):e.ng=f.ng∧e.zs=f.zs:=by
 have h1:=congrArg (fun l=>l[k]?) h
 simp only [List.getElem?_map,he,hf,Option.map_some,Option.some.injEq,WE.raw,Prod.mk.injEq] at h1
 exact h1
set_option maxRecDepth 20000 in
set_option maxHeartbeats 1000000 in
theorem aqd (w:World) (ax:Option Addr) (mx cx:Nat) (xs:List WE) (Rx0:Rw w (.slice ax mx cx) xs) (ay:Option Addr) (my cy:Nat) (ys:List WE) (Ry0:Rw w (.slice ay my cy) ys) (hS:SameR xs ys) :
  Calls Tryz.prog 28 #[.slice ax mx cx,.slice ay my cy] w fun e w'=>e=.returned (.bool true)∧Below w.heap.size w w' := by
 go_enter Tryz.func28,Tryz.ntmps28
 generalize hA:(Act.mk _ _)=aa
 have hn:aa.tmps.size=27:=by rw [←hA];rfl
 have hd:aa.defers = []:=by rw [←hA]
 have f0:aa.eval (.tmp 0)=.slice ax mx cx:=by rw [←hA];rfl
 have f1:aa.eval (.tmp 1)=.slice ay my cy:=by rw [←hA];rfl
 clear hA
 have HB:Below w.heap.size w w:=Below.refl _ _
 have px:=Rx0.parts;have py:=Ry0.parts;have hSl:=hS.len
 refine wp_seq ?_
 refine aap [some 4] [Eqs ((.bool false))] [] [] (by kernel_rfl) hn rfl (by kernel_rfl) (by kernel_rfl) (by kernel_rfl) (by kernel_rfl) (by kernel_rfl) (by kernel_rfl) ⟨Eqs.mono4 _,trivial⟩ aat (IsOld.all (bx:=[]) trivial) (DisOld.all (bx:=[]) trivial) ?_ ?_
 ·exact ⟨.norm 4 rfl rfl rfl (fun a_ w_ hn_ hBt hr hR hD hO hS=>ab8 rfl),
   trivial⟩
 intro a1 w1 gs1 hn1 hd1 hBt hr hR hP hX hU
 replace hn:=hn1;replace hd:=hd1.trans hd
 replace f0:=(hR 0 rfl).trans f0
 replace f1:=(hR 1 rfl).trans f1
 have e4:a1.eval (.tmp 4)=(.bool false):=hP 0 (by decide)
 have f4:=e4
 replace HB:=HB.trans (hBt.below HB.size (UpOld.all (bx:=[]) trivial))
 clear hBt hr hR hP hX hU
 refine wp_seq ?_
 refine wp_seq ?_
 refine aap [some 6,some 7,some 8,some 9,some 10] [Eqs (.slice ax mx cx),Eqs (.int .i64 (mx:Int)),Eqs (.slice ay my cy),Eqs (.int .i64 (my:Int)),Eqs (.bool false)] [] [] (by kernel_rfl) hn rfl (by kernel_rfl) (by kernel_rfl) (by kernel_rfl) (by kernel_rfl) (by kernel_rfl) (by kernel_rfl) ⟨Eqs.mono4 _,Eqs.mono4 _,Eqs.mono4 _,Eqs.mono4 _,Eqs.mono4 _,trivial⟩ aat (IsOld.all (bx:=[]) trivial) (DisOld.all (bx:=[]) trivial) ?_ ?_
 ·exact ⟨.norm 6 rfl rfl rfl (fun a_ w_ hn_ hBt hr hR hD hO hS=>aao ((hR 0 rfl).trans f0)),
   .norm 7 rfl rfl rfl (fun a_ w_ hn_ hBt hr hR hD hO hS=>aii (show a_.eval (.tmp 6)=.slice ax mx cx from hD 0 rfl)),
   .norm 8 rfl rfl rfl (fun a_ w_ hn_ hBt hr hR hD hO hS=>aao ((hR 1 rfl).trans f1)),
   .norm 9 rfl rfl rfl (fun a_ w_ hn_ hBt hr hR hD hO hS=>aii (show a_.eval (.tmp 8)=.slice ay my cy from hD 2 rfl)),
   .norm 10 rfl rfl rfl (fun a_ w_ hn_ hBt hr hR hD hO hS=>avd (show a_.eval (.tmp 7)=.int .i64 (mx:Int) from hD 1 rfl) (show a_.eval (.tmp 9)=.int .i64 (my:Int) from hD 3 rfl) (by omega)),
   trivial⟩
 intro a2 w2 gs2 hn2 hd2 hBt hr hR hP hX hU
 replace hn:=hn2;replace hd:=hd2.trans hd
 replace f0:=(hR 0 rfl).trans f0
 replace f1:=(hR 1 rfl).trans f1
 replace f4:=(hR 4 rfl).trans f4
 have e10:a2.eval (.tmp 10)=.bool false:=hP 4 (by decide)
 have f10:=e10
 replace HB:=HB.trans (hBt.below HB.size (UpOld.all (bx:=[]) trivial))
 clear hBt hr hR hP hX hU
 refine wp_cond_false f10 ?_
 refine wp_skip ?_
 refine wp_seq ?_
 refine wp_seq ?_
 refine aap [some 5] [Eqs ((.int .i64 0))] [] [] (by kernel_rfl) hn rfl (by kernel_rfl) (by kernel_rfl) (by kernel_rfl) (by kernel_rfl) (by kernel_rfl) (by kernel_rfl) ⟨Eqs.mono4 _,trivial⟩ aat (IsOld.all (bx:=[]) trivial) (DisOld.all (bx:=[]) trivial) ?_ ?_
 ·exact ⟨.norm 5 rfl rfl rfl (fun a_ w_ hn_ hBt hr hR hD hO hS=>ab8 rfl),
   trivial⟩
 intro a3 w3 gs3 hn3 hd3 hBt hr hR hP hX hU
 replace hn:=hn3;replace hd:=hd3.trans hd
 replace f0:=(hR 0 rfl).trans f0
 replace f1:=(hR 1 rfl).trans f1
 replace f4:=(hR 4 rfl).trans f4
 have e5:a3.eval (.tmp 5)=(.int .i64 0):=hP 0 (by decide)
 have f5:=e5
 replace HB:=HB.trans (hBt.below HB.size (UpOld.all (bx:=[]) trivial))
 clear hBt hr hR hP hX hU
 refine wp_block ?_
 refine wp_loop_ghost (fun n a w'=>a.tmps.size=27∧a.defers = []∧a.eval (.tmp 0)=.slice ax mx cx∧a.eval (.tmp 1)=.slice ay my cy∧Below w.heap.size w w'∧∃ k:Nat,k+n=xs.length∧a.eval (.tmp 5)=.int .i64 (k:Int)) xs.length ⟨hn,hd,f0,f1,HB,0,by omega,f5⟩ ?_
 clear hn hd HB f0 f1 f4 f5
 rintro nL aL wL ⟨hn,hd,f0,f1,HB,kL,hk,f5⟩
 refine wp_seq ?_
 refine wp_seq ?_
 refine aap [some 11,some 12,some 13,some 14] [Eqs (.int .i64 (kL:Int)),Eqs (.slice ax mx cx),Eqs (.int .i64 (mx:Int)),Eqs (.bool (decide ((kL:Int)<(mx:Int))))] [] [] (by kernel_rfl) hn rfl (by kernel_rfl) (by kernel_rfl) (by kernel_rfl) (by kernel_rfl) (by kernel_rfl) (by kernel_rfl) ⟨Eqs.mono4 _,Eqs.mono4 _,Eqs.mono4 _,Eqs.mono4 _,trivial⟩ aat (IsOld.all (bx:=[]) trivial) (DisOld.all (bx:=[]) trivial) ?_ ?_
 ·exact ⟨.norm 11 rfl rfl rfl (fun a_ w_ hn_ hBt hr hR hD hO hS=>aao ((hR 5 rfl).trans f5)),
   .norm 12 rfl rfl rfl (fun a_ w_ hn_ hBt hr hR hD hO hS=>aao ((hR 0 rfl).trans f0)),
   .norm 13 rfl rfl rfl (fun a_ w_ hn_ hBt hr hR hD hO hS=>aii (show a_.eval (.tmp 12)=.slice ax mx cx from hD 1 rfl)),
   .norm 14 rfl rfl rfl (fun a_ w_ hn_ hBt hr hR hD hO hS=>avc (show a_.eval (.tmp 11)=.int .i64 (kL:Int) from hD 0 rfl) (show a_.eval (.tmp 13)=.int .i64 (mx:Int) from hD 2 rfl)),
   trivial⟩
 intro a4 w4 gs4 hn4 hd4 hBt hr hR hP hX hU
 replace hn:=hn4;replace hd:=hd4.trans hd
 replace f0:=(hR 0 rfl).trans f0
 replace f1:=(hR 1 rfl).trans f1
 replace f5:=(hR 5 rfl).trans f5
 have e14:a4.eval (.tmp 14)=.bool (decide ((kL:Int)<(mx:Int))):=hP 3 (by decide)
 have f14:=e14
 replace HB:=HB.trans (hBt.below HB.size (UpOld.all (bx:=[]) trivial))
 clear hBt hr hR hP hX hU
 refine wp_cond_split f14 (fun hc14=>?_) (fun hc14=>?_)
 ·skip
  have hlt:=of_decide_eq_true hc14
  obtain ⟨bx_,ox_,hax,_,_⟩:=Rx0.cells (by omega)
  obtain ⟨ex,hex⟩:∃ e,xs[kL]? = some e:=⟨_,List.getElem?_eq_getElem (by omega)⟩
  have Ax0:=Rx0.ag (List.mem_of_getElem? hex)
  have Ax:=Ax0.below HB
  have lx:=Ax.sl.parts.1
  obtain ⟨by_,oy_,hay,_,_⟩:=Ry0.cells (by omega)
  obtain ⟨ey,hey⟩:∃ e,ys[kL]? = some e:=⟨_,List.getElem?_eq_getElem (by omega)⟩
  have Ay0:=Ry0.ag (List.mem_of_getElem? hey)
  have Ay:=Ay0.below HB
  have ly:=Ay.sl.parts.1
  have hsm:=hS.at hex hey
  refine wp_skip ?_
  refine wp_seq ?_
  refine wp_block ?_
  refine wp_seq ?_
  refine aap [some 17,some 18,some 19,some 20,some 21,some 22,some 23,some 24,some 25,some 26] [Eqs (.slice ax mx cx),Eqs (.int .i64 (kL:Int)),Eqs (.pointer (some ⟨bx_,ox_+kL*2,none⟩)),Eqs (.agg #[.bool ex.ng,.slice ex.a ex.m ex.c]),Eqs (.slice ay my cy),Eqs (.int .i64 (kL:Int)),Eqs (.pointer (some ⟨by_,oy_+kL*2,none⟩)),Eqs (.agg #[.bool ey.ng,.slice ey.a ey.m ey.c]),Eqs (.bool true),Eqs (.bool false)] [] [] (by kernel_rfl) hn rfl (by kernel_rfl) (by kernel_rfl) (by kernel_rfl) (by kernel_rfl) (by kernel_rfl) (by kernel_rfl) ⟨Eqs.mono4 _,Eqs.mono4 _,Eqs.mono4 _,Eqs.mono4 _,Eqs.mono4 _,Eqs.mono4 _,Eqs.mono4 _,Eqs.mono4 _,Eqs.mono4 _,Eqs.mono4 _,trivial⟩ aat (IsOld.all (bx:=[]) trivial) (DisOld.all (bx:=[]) trivial) ?_ ?_
  ·exact ⟨.norm 17 rfl rfl rfl (fun a_ w_ hn_ hBt hr hR hD hO hS=>aao ((hR 0 rfl).trans f0)),
    .norm 18 rfl rfl rfl (fun a_ w_ hn_ hBt hr hR hD hO hS=>aao ((hR 5 rfl).trans f5)),
    .norm 19 rfl rfl rfl (fun a_ w_ hn_ hBt hr hR hD hO hS=>ac3 (show a_.eval (.tmp 17)=.slice ax mx cx from hD 0 rfl) hax (show a_.eval (.tmp 18)=.int .i64 (kL:Int) from hD 1 rfl) (by omega)),
    .norm 20 rfl rfl rfl (fun a_ w_ hn_ hBt hr hR hD hO hS=>ap8 (show a_.eval (.tmp 19)=.pointer (some ⟨bx_,ox_+kL*2,none⟩) from hD 2 rfl) hax (Rx0.below (HB.trans (hBt.below HB.size (UpOld.all (bx:=[]) trivial)))) hex),
    .norm 21 rfl rfl rfl (fun a_ w_ hn_ hBt hr hR hD hO hS=>aao ((hR 1 rfl).trans f1)),
    .norm 22 rfl rfl rfl (fun a_ w_ hn_ hBt hr hR hD hO hS=>aao ((hR 5 rfl).trans f5)),
    .norm 23 rfl rfl rfl (fun a_ w_ hn_ hBt hr hR hD hO hS=>ac3 (show a_.eval (.tmp 21)=.slice ay my cy from hD 4 rfl) hay (show a_.eval (.tmp 22)=.int .i64 (kL:Int) from hD 5 rfl) (by omega)),
    .norm 24 rfl rfl rfl (fun a_ w_ hn_ hBt hr hR hD hO hS=>ap8 (show a_.eval (.tmp 23)=.pointer (some ⟨by_,oy_+kL*2,none⟩) from hD 6 rfl) hay (Ry0.below (HB.trans (hBt.below HB.size (UpOld.all (bx:=[]) trivial)))) hey),
    .norm 25 rfl rfl rfl (fun a_ w_ hn_ hBt hr hR hD hO hS=>an2 (show a_.eval (.tmp 20)=.agg #[.bool ex.ng,.slice ex.a ex.m ex.c] from hD 3 rfl) (show a_.eval (.tmp 24)=.agg #[.bool ey.ng,.slice ey.a ey.m ey.c] from hD 7 rfl) (Ax.rl hr).sl (Ay.rl hr).sl hsm.1 hsm.2),
    .norm 26 rfl rfl rfl (fun a_ w_ hn_ hBt hr hR hD hO hS=>apd (show a_.eval (.tmp 25)=.bool true from hD 8 rfl)),
    trivial⟩
  intro a5 w5 gs5 hn5 hd5 hBt hr hR hP hX hU
  replace hn:=hn5;replace hd:=hd5.trans hd
  replace f0:=(hR 0 rfl).trans f0
  replace f1:=(hR 1 rfl).trans f1
  replace f5:=(hR 5 rfl).trans f5
  have e26:a5.eval (.tmp 26)=.bool false:=hP 9 (by decide)
  have f26:=e26
  replace Ax:=Ax.rl hr
  replace Ay:=Ay.rl hr
  replace HB:=HB.trans (hBt.below HB.size (UpOld.all (bx:=[]) trivial))
  clear hBt hr hR hP hX hU
  refine wp_cond_false f26 ?_
  refine wp_skip ?_
  refine aj2 ?_
  refine aap [some 15,some 16,some 5] [Eqs (.int .i64 (kL:Int)),Eqs (.int .i64 ((kL+1:Nat):Int)),Eqs (.int .i64 ((kL+1:Nat):Int))] [] [(2,0)] (by kernel_rfl) hn rfl (by kernel_rfl) (by kernel_rfl) (by kernel_rfl) (by kernel_rfl) (by kernel_rfl) (by kernel_rfl) ⟨Eqs.mono4 _,Eqs.mono4 _,Eqs.mono4 _,trivial⟩ aat (IsOld.all (bx:=[]) trivial) (DisOld.all (bx:=[]) trivial) ?_ ?_
  ·exact ⟨.norm 15 rfl rfl rfl (fun a_ w_ hn_ hBt hr hR hD hO hS=>aao ((hS 2 5 rfl rfl).trans f5)),
    .norm 16 rfl rfl rfl (fun a_ w_ hn_ hBt hr hR hD hO hS=>avb (show a_.eval (.tmp 15)=.int .i64 (kL:Int) from hD 0 rfl) (by omega)),
    .norm 5 rfl rfl rfl (fun a_ w_ hn_ hBt hr hR hD hO hS=>ab8 (show a_.eval (.tmp 16)=.int .i64 ((kL+1:Nat):Int) from hD 1 rfl)),
    trivial⟩
  intro a6 w6 gs6 hn6 hd6 hBt hr hR hP hX hU
  replace hn:=hn6;replace hd:=hd6.trans hd
  replace f0:=(hR 0 rfl).trans f0
  replace f1:=(hR 1 rfl).trans f1
  have e5:a6.eval (.tmp 5)=.int .i64 ((kL+1:Nat):Int):=hP 2 (by decide)
  have f5:=e5
  replace Ax:=Ax.rl hr
  replace Ay:=Ay.rl hr
  replace HB:=HB.trans (hBt.below HB.size (UpOld.all (bx:=[]) trivial))
  clear hBt hr hR hP hX hU
  exact ⟨nL - 1,by omega,hn,hd,f0,f1,HB,kL+1,by omega,f5⟩
 ·skip
  have hlt:=of_decide_eq_false hc14
  refine wp_exit ?_
  repeat (first | refine ape ?_ | refine anc ?_ | refine anf (by decide) ?_)
  refine ane ?_
  refine wp_seq ?_
  refine aap [some 4] [Eqs ((.bool true))] [] [] (by kernel_rfl) hn rfl (by kernel_rfl) (by kernel_rfl) (by kernel_rfl) (by kernel_rfl) (by kernel_rfl) (by kernel_rfl) ⟨Eqs.mono4 _,trivial⟩ aat (IsOld.all (bx:=[]) trivial) (DisOld.all (bx:=[]) trivial) ?_ ?_
  ·exact ⟨.norm 4 rfl rfl rfl (fun a_ w_ hn_ hBt hr hR hD hO hS=>ab8 rfl),
    trivial⟩
  intro a7 w7 gs7 hn7 hd7 hBt hr hR hP hX hU
  replace hn:=hn7;replace hd:=hd7.trans hd
  have e4:a7.eval (.tmp 4)=(.bool true):=hP 0 (by decide)
  have f4:=e4
  replace HB:=HB.trans (hBt.below HB.size (UpOld.all (bx:=[]) trivial))
  clear hBt hr hR hP hX hU
  refine wp_ret ?_
  repeat (first | refine abx ?_ | refine abp ?_ | refine abo ?_)
  exact bodyPost_ret (v:=.bool true) (adm rfl f4) hd ⟨rfl,HB⟩
end Lm
end Go.Proofs.YtgmobkafnefpfaaGreat
namespace Go.Proofs.YtgmobkafnefpfaaGreat
namespace Dm
open Go Go.RowKit
theorem Sl.rl {w w' : World} {v:Value} {zs:List Int} (h:Sl w v zs) (hr:Lm.Rl w w'):Sl w' v zs:=by
 obtain ⟨ao,cap,rfl,h1,h2,h3,h4⟩:=h
 refine ⟨ao,cap,rfl,h1,h2,h3,?_⟩
 rcases h4 with h4 | ⟨b,off,rfl,hc⟩
 ·exact .inl h4
 ·exact .inr ⟨b,off,rfl,fun i hi=>hr.ints _ _ _ (hc i hi)⟩
theorem Wh.rl {w w' : World} {ng:Bool} {ao:Option Addr} {cap:Nat} {rs:List Int} {z:Int} (h:Wh w ng ao cap rs z) (hr:Lm.Rl w w'):Wh w' ng ao cap rs z:=⟨⟨h.1.1.rl hr,h.1.2⟩,h.2⟩
theorem asz (n:Nat):pw n≤Lm.pw n:=by
 induction n with
 | zero=>simp [pw,Lm.pw]
 | succ n ih =>
  have:=aaj n
  simp only [pw,Lm.pw]
  omega
theorem Wh.bound {w:World} {ng:Bool} {ao:Option Addr} {cap:Nat} {rs:List Int} {z:Int} {L:Nat} (h:Wh w ng ao cap rs z) (hl:rs.length≤L):(z.natAbs:Int)<Lm.pw L:=by
 have h1:=(aab h.1.canon.1).2
 rw [h.1.val] at h1
 have h2:=aa0 hl
 have h3:=asz L
 omega
theorem Wh.some {w:World} {ng:Bool} {ao:Option Addr} {cap:Nat} {rs:List Int} {z:Int} (h:Wh w ng ao cap rs z) (hz:z≠0):0<rs.length:=by
 apply Classical.byContradiction
 intro hn
 exact hz (h.zero.2 (List.eq_nil_of_length_eq_zero (by omega)))
end Dm
namespace Lm
open Go Go.RowKit
def N2:BoxTy:=⟨51,.agg #[.bool false,.slice none 0 0],fun v cs=>∃ ng ao n c,v=.agg #[.bool ng,.slice ao n c]∧cs = #[.bool ng,.slice ao n c]⟩
theorem N2ok:BoxOk Tryz.prog N2 where
 noInt:=by
  rintro v cs ⟨ng,ao,n,c,rfl,rfl⟩ i k z
  match i with
  | 0=>simp
  | 1=>simp
  | i+2=>simp
 ne:=by unfold N2;exact ⟨by decide,by decide⟩
 alloc:=fun w=>⟨#[.bool false,.slice none 0 0],⟨_,_,_,_,rfl,rfl⟩,by unfold N2;go_simp⟩
 box:=by
  rintro w v ⟨cs,ng,ao,n,c,rfl,rfl⟩
  exact ⟨_,⟨_,_,_,_,rfl,rfl⟩,by unfold N2;go_simp⟩
 store:=by
  rintro w g v0 v ⟨cs0,⟨m,bo,p,d,rfl,rfl⟩,hh⟩ ⟨cs,ng,ao,n,c,rfl,rfl⟩
  have hb:Dm.Box w g m (.slice bo p d):=hh
  obtain ⟨b1,b2,b3,b4⟩:=hb.facts
  refine ⟨(w.setCell ⟨g,0,none⟩ (.bool ng)).setCell ⟨g,1,none⟩ (.slice ao n c),?_,⟨_,⟨_,_,_,_,rfl,rfl⟩,hb.set ng (.slice ao n c)⟩,⟨rfl,rfl,rfl,by simp [World.setCell],fun k hk=>?_⟩⟩
  ·unfold N2
   go_simp
  ·rw [Below.heap_setCell _ _ _ _ (by simpa using hk),Below.heap_setCell _ _ _ _ (by simpa using hk)]
 load:=by
  rintro w g v ⟨cs,⟨ng,ao,n,c,rfl,rfl⟩,hh⟩
  obtain ⟨b1,b2,b3,b4⟩:=(show Dm.Box w g ng (.slice ao n c) from hh).facts
  unfold N2
  go_simp
def Q4:BoxTy:=⟨77,.agg #[.bool false,.slice none 0 0,.bool false,.slice none 0 0],fun v cs=>∃ ng ao n c mg bo m d,v=.agg #[.bool ng,.slice ao n c,.bool mg,.slice bo m d]∧cs = #[.bool ng,.slice ao n c,.bool mg,.slice bo m d]⟩
theorem aeh {w:World} {g:Nat} {x y z u:Value} {T:TypeId} (h:w.heap[g]? = some (.cells #[x,y,z,u] T (0,0))):w.cell? ⟨g,0,none⟩ = some x∧w.cell? ⟨g,1,none⟩ = some y∧w.cell? ⟨g,2,none⟩ = some z∧w.cell? ⟨g,3,none⟩ = some u∧w.frozen? ⟨g,0,none⟩ = false∧w.frozen? ⟨g,1,none⟩ = false∧w.frozen? ⟨g,2,none⟩ = false∧w.frozen? ⟨g,3,none⟩ = false :=
 ⟨by rw [cell_of_row _ _ _ _ _ (0,0) h];rfl,by rw [cell_of_row _ _ _ _ _ (0,0) h];rfl,by rw [cell_of_row _ _ _ _ _ (0,0) h];rfl,by rw [cell_of_row _ _ _ _ _ (0,0) h];rfl,frozen_of_row _ _ _ _ _ h,frozen_of_row _ _ _ _ _ h,frozen_of_row _ _ _ _ _ h,frozen_of_row _ _ _ _ _ h⟩
theorem Q4ok:BoxOk Tryz.prog Q4 where
 noInt:=by
  rintro v cs ⟨ng,ao,n,c,mg,bo,m,d,rfl,rfl⟩ i k z
  match i with
  | 0=>simp
  | 1=>simp
  | 2=>simp
  | 3=>simp
  | i+4=>simp
 ne:=by unfold Q4;exact ⟨by decide,by decide⟩
 alloc:=fun w=>⟨#[.bool false,.slice none 0 0,.bool false,.slice none 0 0],⟨_,_,_,_,_,_,_,_,rfl,rfl⟩,by unfold Q4;go_simp⟩
 box:=by
  rintro w v ⟨cs,ng,ao,n,c,mg,bo,m,d,rfl,rfl⟩
  exact ⟨_,⟨_,_,_,_,_,_,_,_,rfl,rfl⟩,by unfold Q4;go_simp⟩
 store:=by
  rintro w g v0 v ⟨cs0,⟨m,bo,p,d,mg,b2,d2,e2,rfl,rfl⟩,hh⟩ ⟨cs,ng,ao,n,c,m2,co,q,f,rfl,rfl⟩
  obtain ⟨b1,b2,b3,b4,b5,b6,b7,b8⟩:=aeh hh
  have h1:=heap_setCell_same w g 0 _ _ (.bool ng) hh
  have h2:=heap_setCell_same _ g 1 _ _ (.slice ao n c) h1
  have h3:=heap_setCell_same _ g 2 _ _ (.bool m2) h2
  have h4:=heap_setCell_same _ g 3 _ _ (.slice co q f) h3
  refine ⟨(((w.setCell ⟨g,0,none⟩ (.bool ng)).setCell ⟨g,1,none⟩ (.slice ao n c)).setCell ⟨g,2,none⟩ (.bool m2)).setCell ⟨g,3,none⟩ (.slice co q f),?_,⟨_,⟨_,_,_,_,_,_,_,_,rfl,rfl⟩,h4⟩,⟨rfl,rfl,rfl,by simp [World.setCell],fun k hk=>?_⟩⟩
  ·unfold Q4
   go_simp
  ·rw [Below.heap_setCell _ _ _ _ (by simpa using hk),Below.heap_setCell _ _ _ _ (by simpa using hk),Below.heap_setCell _ _ _ _ (by simpa using hk),Below.heap_setCell _ _ _ _ (by simpa using hk)]
 load:=by
  rintro w g v ⟨cs,⟨ng,ao,n,c,mg,bo,m,d,rfl,rfl⟩,hh⟩
  obtain ⟨b1,b2,b3,b4,b5,b6,b7,b8⟩:=aeh hh
  unfold Q4
  go_simp
def OutN (z:Int) (L:Nat):Says:=fun v w=>∃ ng ao cap rs,v=.agg #[.bool ng,.slice ao rs.length cap]∧Dm.Wh w ng ao cap rs z∧rs.length≤L
def OutQ (p q:Int) (L:Nat):Says:=fun v w=>∃ ng ao cap rs mg bo dap ss,v=.agg #[.bool ng,.slice ao rs.length cap,.bool mg,.slice bo ss.length dap]∧Dm.Wh w ng ao cap rs p∧Dm.Wh w mg bo dap ss q∧rs.length≤L∧ss.length≤L
theorem OutN.mono4 (z:Int) (L:Nat):Mono4 (OutN z L):=fun _ _ _ hb ⟨ng,ao,cap,rs,e,h,l⟩=>⟨ng,ao,cap,rs,e,h.rl hb,l⟩
theorem OutQ.mono4 (p q:Int) (L:Nat):Mono4 (OutQ p q L):=fun _ _ _ hb ⟨ng,ao,cap,rs,mg,bo,dap,ss,e,h,h',l,l'⟩=>⟨ng,ao,cap,rs,mg,bo,dap,ss,e,h.rl hb,h'.rl hb,l,l'⟩
theorem OutN.to {z z' : Int} {L L' : Nat} {v:Value} {w:World} (h:OutN z L v w) (e:z=z') (hl:L≤L'):OutN z' L' v w:=by
 subst e
 obtain ⟨ng,ao,cap,rs,e',h,l⟩:=h
 exact ⟨ng,ao,cap,rs,e',h,Nat.le_trans l hl⟩
theorem OutQ.to {p q p' q' : Int} {L L' : Nat} {v:Value} {w:World} (h:OutQ p q L v w) (e:p=p') (e' : q=q') (hl:L≤L'):OutQ p' q' L' v w:=by
 subst e e'
 obtain ⟨ng,ao,cap,rs,mg,bo,dap,ss,e,h,h',l,l'⟩:=h
 exact ⟨ng,ao,cap,rs,mg,bo,dap,ss,e,h,h',Nat.le_trans l hl,Nat.le_trans l' hl⟩
theorem OutN.cs {z:Int} {L:Nat} (v:Value) (w:World) (h:OutN z L v w):∃ cs,N2.Cs v cs:=by
 obtain ⟨ng,ao,cap,rs,rfl,_⟩:=h
 exact ⟨_,_,_,_,_,rfl,rfl⟩
theorem OutQ.cs {p q:Int} {L:Nat} (v:Value) (w:World) (h:OutQ p q L v w):∃ cs,Q4.Cs v cs:=by
 obtain ⟨ng,ao,cap,rs,mg,bo,dap,ss,rfl,_⟩:=h
 exact ⟨_,_,_,_,_,_,_,_,_,rfl,rfl⟩
theorem afg {ng:Bool} {ao:Option Addr} {n c:Nat} : ∃ cs,N2.Cs (.agg #[.bool ng,.slice ao n c]) cs:=⟨_,_,_,_,_,rfl,rfl⟩
theorem ahv {ng mg:Bool} {ao bo:Option Addr} {n c m d:Nat} : ∃ cs,Q4.Cs (.agg #[.bool ng,.slice ao n c,.bool mg,.slice bo m d]) cs:=⟨_,_,_,_,_,_,_,_,_,rfl,rfl⟩
theorem aar {v:Value} {w:World} {ng:Bool} {ao:Option Addr} {c:Nat} {rs:List Int} {z:Int} {L:Nat} (h:v=.agg #[.bool ng,.slice ao rs.length c]) (hA:Dm.Wh w ng ao c rs z) (hl:rs.length≤L):OutN z L v w:=⟨_,_,_,_,h,hA,hl⟩
theorem aeb {v:Value} {w:World} {ng mg:Bool} {ao bo:Option Addr} {c d:Nat} {rs ss:List Int} {p q:Int} {L:Nat} (h:v=.agg #[.bool ng,.slice ao rs.length c,.bool mg,.slice bo ss.length d]) (hA:Dm.Wh w ng ao c rs p) (hB:Dm.Wh w mg bo d ss q) (hl:rs.length≤L) (hl' : ss.length≤L):OutQ p q L v w:=⟨_,_,_,_,_,_,_,_,h,hA,hB,hl,hl'⟩
theorem aqe {w:World} {g:Nat} {ng:Bool} {ao:Option Addr} {n c:Nat} (h:BoxV N2 w g (.agg #[.bool ng,.slice ao n c])):Dm.Box w g ng (.slice ao n c):=by
 obtain ⟨cs,⟨_,_,_,_,e,rfl⟩,h⟩:=h
 simp only [Value.agg.injEq] at e
 simp only [Array.mk.injEq,List.cons.injEq,Value.bool.injEq,Value.slice.injEq,and_true] at e
 obtain ⟨rfl,rfl,rfl,rfl⟩:=e
 exact h
theorem aqf {w:World} {g:Nat} {ng mg:Bool} {ao bo:Option Addr} {n c m d:Nat} (h:BoxV Q4 w g (.agg #[.bool ng,.slice ao n c,.bool mg,.slice bo m d])):w.heap[g]? = some (.cells #[.bool ng,.slice ao n c,.bool mg,.slice bo m d] 77 (0,0)):=by
 obtain ⟨cs,⟨_,_,_,_,_,_,_,_,e,rfl⟩,h⟩:=h
 simp only [Value.agg.injEq] at e
 simp only [Array.mk.injEq,List.cons.injEq,Value.bool.injEq,Value.slice.injEq,and_true] at e
 obtain ⟨rfl,⟨rfl,rfl,rfl⟩,rfl,rfl,rfl,rfl⟩:=e
 exact h
theorem at6 {w:World} {g:Nat} {v:Value} (h:BoxV N2 w g v):(loadVar 51 ⟨g,0,none⟩).run Tryz.prog w=.ok v w:=by
 obtain ⟨cs,⟨ng,ao,n,c,rfl,rfl⟩,hh⟩:=h
 obtain ⟨b1,b2,b3,b4⟩:=(show Dm.Box w g ng (.slice ao n c) from hh).facts
 go_simp
theorem ahw {w:World} {g:Nat} {v:Value} (h:BoxV Q4 w g v):(loadVar 77 ⟨g,0,none⟩).run Tryz.prog w=.ok v w:=by
 obtain ⟨cs,⟨ng,ao,n,c,mg,bo,m,d,rfl,rfl⟩,hh⟩:=h
 obtain ⟨b1,b2,b3,b4,b5,b6,b7,b8⟩:=aeh hh
 go_simp
section
variable {dst:Option Tmp} {ty:TypeId} {pos:String} {after:Array Edge} {guard:Option (Nat × Bool)} {a:Act} {w:World} {ats:Array TypeId} {i j k g:Nat} {x y z p q:Int} {L L1 L2:Nat}
theorem ahx {f off:Nat} (hf:∀ w:World,(Instr.fieldAt 51 (.pointer (some ⟨g,0,none⟩)) f).run Tryz.prog w=.ok (.pointer (some ⟨g,off,none⟩)) w) (hp:a.eval (.tmp k)=.pointer (some ⟨g,0,none⟩)) :
  Does Tryz.prog { dst,op:=.fieldAddr 51 (.tmp k) f,type:=ty,pos,after,guard } a.eval w fun v' w'=>Below w.heap.size w w'∧Eqs (.pointer (some ⟨g,off,none⟩)) v' w' := by
 refine ⟨?_⟩
 unfold Turns
 simp only [execOp,hp]
 simp [hf]
 exact ⟨Below.refl _ _,rfl⟩
theorem aij (w:World):(Instr.fieldAt 51 (.pointer (some ⟨g,0,none⟩)) 0).run Tryz.prog w=.ok (.pointer (some ⟨g,0,none⟩)) w:=by go_simp
theorem acm {f off:Nat} (hf:∀ w:World,(Instr.fieldAt 77 (.pointer (some ⟨g,0,none⟩)) f).run Tryz.prog w=.ok (.pointer (some ⟨g,off,none⟩)) w) (hp:a.eval (.tmp k)=.pointer (some ⟨g,0,none⟩)) :
  Does Tryz.prog { dst,op:=.fieldAddr 77 (.tmp k) f,type:=ty,pos,after,guard } a.eval w fun v' w'=>Below w.heap.size w w'∧Eqs (.pointer (some ⟨g,off,none⟩)) v' w' := by
 refine ⟨?_⟩
 unfold Turns
 simp only [execOp,hp]
 simp [hf]
 exact ⟨Below.refl _ _,rfl⟩
theorem ahy (w:World):(Instr.fieldAt 77 (.pointer (some ⟨g,0,none⟩)) 0).run Tryz.prog w=.ok (.pointer (some ⟨g,0,none⟩)) w:=by go_simp
theorem afh (w:World):(Instr.fieldAt 77 (.pointer (some ⟨g,0,none⟩)) 1).run Tryz.prog w=.ok (.pointer (some ⟨g,2,none⟩)) w:=by go_simp
theorem afz {ng:Bool} {ao:Option Addr} {n c:Nat} (hp:a.eval (.tmp k)=.pointer (some ⟨g,0,none⟩)) (hb:BoxV N2 w g (.agg #[.bool ng,.slice ao n c])) :
  Does Tryz.prog { dst,op:=.load 4 (.tmp k),type:=ty,pos,after,guard } a.eval w fun v' w'=>Below w.heap.size w w'∧Eqs (.bool ng) v' w' := by
 obtain ⟨b1,b2,b3,b4⟩:=(aqe hb).facts
 refine aay (v:=.bool ng) ?_ ⟨Below.refl _ _,rfl⟩
 rw [hp]
 go_simp
theorem aev {ng mg:Bool} {ao bo:Option Addr} {n c m d:Nat} (hp:a.eval (.tmp k)=.pointer (some ⟨g,0,none⟩)) (hb:BoxV Q4 w g (.agg #[.bool ng,.slice ao n c,.bool mg,.slice bo m d])) :
  Does Tryz.prog { dst,op:=.load 51 (.tmp k),type:=ty,pos,after,guard } a.eval w fun v' w'=>Below w.heap.size w w'∧Eqs (.agg #[.bool ng,.slice ao n c]) v' w' := by
 obtain ⟨b1,b2,b3,b4,b5,b6,b7,b8⟩:=aeh (aqf hb)
 refine aay (v:=.agg #[.bool ng,.slice ao n c]) ?_ ⟨Below.refl _ _,rfl⟩
 rw [hp]
 go_simp
theorem adi {ng mg:Bool} {ao bo:Option Addr} {n c m d:Nat} (hp:a.eval (.tmp k)=.pointer (some ⟨g,2,none⟩)) (hb:BoxV Q4 w g (.agg #[.bool ng,.slice ao n c,.bool mg,.slice bo m d])) :
  Does Tryz.prog { dst,op:=.load 51 (.tmp k),type:=ty,pos,after,guard } a.eval w fun v' w'=>Below w.heap.size w w'∧Eqs (.agg #[.bool mg,.slice bo m d]) v' w' := by
 obtain ⟨b1,b2,b3,b4,b5,b6,b7,b8⟩:=aeh (aqf hb)
 refine aay (v:=.agg #[.bool mg,.slice bo m d]) ?_ ⟨Below.refl _ _,rfl⟩
 rw [hp]
 go_simp
theorem ajl (h1:OutN p L (a.eval (.tmp i)) w) (h2:OutN q L (a.eval (.tmp j)) w):Does Tryz.prog { dst,op:=.build 77 #[(0,.tmp i),(1,.tmp j)],type:=ty,pos,after,guard } a.eval w fun v' w'=>Below w.heap.size w w'∧OutQ p q L v' w' := by
 obtain ⟨ng,ao,cap,rs,e1,W1,l1⟩:=h1
 obtain ⟨mg,bo,dap,ss,e2,W2,l2⟩:=h2
 have e:(execOp a.eval { dst,op:=.build 77 #[(0,.tmp i),(1,.tmp j)],type:=ty,pos,after,guard }).run Tryz.prog w=.ok (.value (.agg #[.bool ng,.slice ao rs.length cap,.bool mg,.slice bo ss.length dap])) w:=by
  simp only [execOp,List.map_toArray,List.map_nil,List.map_cons,e1,e2]
  go_simp
 refine ⟨?_⟩
 unfold Turns
 rw [e]
 exact ⟨Below.refl _ _,aeb rfl W1 W2 l1 l2⟩
theorem as0:Has Tryz.prog 39:=by unfold Has;kernel_rfl
theorem ave {v:Int} (h1 : -9223372036854775808≤v) (h2:v≤9223372036854775807) :
  Does Tryz.prog { dst,op:=.call { callee:=.value (.func 39),args:=#[.const (.int .i64 v)],argTypes:=ats },type:=ty,pos,after,guard } a.eval w fun v' w'=>Below w.heap.size w w'∧OutN v 5 v' w' := by
 refine aas as0 _ (by simp only [List.map_toArray,List.map_cons,List.map_nil,Act.eval]) ((Dm.aff w v h1 h2).mono ?_)
 rintro e w' ⟨ng,ao,cap,rs,rfl,G,l,hb⟩
 exact ⟨_,rfl,hb,_,_,_,_,rfl,G,l⟩
theorem an3:Has Tryz.prog 42:=by unfold Has;kernel_rfl
theorem aen (h:OutN z L (a.eval (.tmp i)) w) (hL:L≤1000000) :
  Does Tryz.prog { dst,op:=.call { callee:=.value (.func 42),args:=#[.tmp i],argTypes:=ats },type:=ty,pos,after,guard } a.eval w fun v w'=>Below w.heap.size w w'∧OutN (-z) L v w' := by
 obtain ⟨ng,ao,cap,rs,e1,W,l⟩:=h
 refine aas an3 _ (by simp only [List.map_toArray,List.map_cons,List.map_nil,e1]) ((Dm.aig w _ _ _ _ _ W (by omega)).mono ?_)
 rintro e w' ⟨ng,ao,cap,rs,rfl,G,l,hb⟩
 exact ⟨_,rfl,hb,_,_,_,_,rfl,G,by omega⟩
theorem as1:Has Tryz.prog 80:=by unfold Has;kernel_rfl
theorem amp (h1:OutN x L1 (a.eval (.tmp i)) w) (h2:OutN y L2 (a.eval (.tmp j)) w) (hL:L1≤300000) (hL' : L2≤300000) :
  Does Tryz.prog { dst,op:=.call { callee:=.value (.func 80),args:=#[.tmp i,.tmp j],argTypes:=ats },type:=ty,pos,after,guard } a.eval w fun v w'=>Below w.heap.size w w'∧OutN ((Int.gcd x y:Nat):Int) (L1+L2) v w' := by
 obtain ⟨ng,ao,cap,rs,e1,W,l⟩:=h1
 obtain ⟨mg,bo,dap,ss,e2,W',l'⟩:=h2
 refine aas as1 _ (by simp only [List.map_toArray,List.map_cons,List.map_nil,e1,e2]) ((Dm.ax6 w ng ao cap rs _ W.1 mg bo dap ss _ W'.1 (by omega) (by omega)).mono ?_)
 rintro e w' ⟨ng,ao,cap,rs,rfl,G,l,hb⟩
 rw [Dm.au9] at G
 exact ⟨_,rfl,hb,_,_,_,_,rfl,G,by omega⟩
theorem akp:Has Tryz.prog 99:=by unfold Has;kernel_rfl
theorem al7 (h1:OutN x L1 (a.eval (.tmp i)) w) (h2:OutN y L2 (a.eval (.tmp j)) w) (hL:L1≤300000) (hL' : L2≤300000) (h0:y≠0) :
  Does Tryz.prog { dst,op:=.call { callee:=.value (.func 99),args:=#[.tmp i,.tmp j],argTypes:=ats },type:=ty,pos,after,guard } a.eval w fun v w'=>Below w.heap.size w w'∧Tup2 (OutN ((x.natAbs:Int) / (y.natAbs:Int)) L1) (OutN ((x.natAbs:Int) % (y.natAbs:Int)) L2) v w' := by
 obtain ⟨ng,ao,cap,rs,e1,W,l⟩:=h1
 obtain ⟨mg,bo,dap,ss,e2,W',l'⟩:=h2
 refine aas akp _ (by simp only [List.map_toArray,List.map_cons,List.map_nil,e1,e2]) ((Dm.ai5 w ng ao cap rs _ W.1 mg bo dap ss _ W'.1 (by omega) (by omega) (W'.some h0)).mono ?_)
 rintro e w' ⟨nq,pq,qq,Q,nr,pr,qr,R,rfl,G,G',l1,l2,hb⟩
 exact ⟨_,rfl,hb,_,_,rfl,⟨_,_,_,_,rfl,G,by omega⟩,⟨_,_,_,_,rfl,G',by omega⟩⟩
theorem an4:Has Tryz.prog 51:=by unfold Has;kernel_rfl
end
end Lm
end Go.Proofs.YtgmobkafnefpfaaGreat
namespace Go.Proofs.YtgmobkafnefpfaaGreat
namespace Lm
open Go Go.RowKit
section
variable {dst:Option Tmp} {ty:TypeId} {pos:String} {after:Array Edge} {guard:Option (Nat × Bool)} {a:Act} {w:World} {ats:Array TypeId} {i j:Nat} {x y u v:Int} {L1 L2:Nat}
theorem as2:Has Tryz.prog 43:=by unfold Has;kernel_rfl
theorem avf (h1:OutN x L1 (a.eval (.tmp i)) w) (h2:OutN y L2 (a.eval (.tmp j)) w) (hL:L1≤400000) (hL' : L2≤400000) :
  Does Tryz.prog { dst,op:=.call { callee:=.value (.func 43),args:=#[.tmp i,.tmp j],argTypes:=ats },type:=ty,pos,after,guard } a.eval w fun v w'=>Below w.heap.size w w'∧OutN (x+y) (L1+L2+1) v w' := by
 obtain ⟨ng,ao,cap,rs,e1,W,l⟩:=h1
 obtain ⟨mg,bo,dap,ss,e2,W',l'⟩:=h2
 refine aas as2 _ (by simp only [List.map_toArray,List.map_cons,List.map_nil,e1,e2]) ((Dm.ahu w ng ao cap rs _ W mg bo dap ss _ W' (by omega) (by omega)).mono ?_)
 rintro e w' ⟨ng,ao,cap,rs,rfl,G,l,hb⟩
 exact ⟨_,rfl,hb,_,_,_,_,rfl,G,by omega⟩
theorem as3:Has Tryz.prog 40:=by unfold Has;kernel_rfl
theorem aec (h1:OutN x L1 (a.eval (.tmp i)) w) (h2:OutN y L2 (a.eval (.tmp j)) w) (hL:L1≤400000) (hL' : L2≤400000) :
  Does Tryz.prog { dst,op:=.call { callee:=.value (.func 40),args:=#[.tmp i,.tmp j],argTypes:=ats },type:=ty,pos,after,guard } a.eval w fun v w'=>Below w.heap.size w w'∧OutN (x*y) (L1+L2+1) v w' := by
 obtain ⟨ng,ao,cap,rs,e1,W,l⟩:=h1
 obtain ⟨mg,bo,dap,ss,e2,W',l'⟩:=h2
 refine aas as3 _ (by simp only [List.map_toArray,List.map_cons,List.map_nil,e1,e2]) ((Dm.ax5 w ng ao cap rs _ W mg bo dap ss _ W' (by omega) (by omega)).mono ?_)
 rintro e w' ⟨ng,ao,cap,rs,rfl,G,l,hb⟩
 exact ⟨_,rfl,hb,_,_,_,_,rfl,G,by omega⟩
end
end Lm
end Go.Proofs.YtgmobkafnefpfaaGreat
namespace Go.Proofs.YtgmobkafnefpfaaGreat
namespace Lm
open Go.RowKit
theorem aqg {w:World} {b off:Nat} {zs:List Int} (hc:∀ i,i<zs.length→w.cell? ⟨b,off+i,none⟩ = some (.int .u32 (zs.getD i 0))):∀ j u,(zs.map (Value.int .u32))[j]? = some u→w.cell? ((⟨b,off,none⟩:Addr).add j)=some u:=by
 intro j u hu
 rw [List.getElem?_map] at hu
 have hj:j<zs.length:=by
  apply Classical.byContradiction
  intro hn
  rw [List.getElem?_eq_none (by omega)] at hu
  cases hu
 rw [List.getElem?_eq_getElem hj] at hu
 have hcj:=hc j hj
 rw [List.getD_eq_getElem?_getD,List.getElem?_eq_getElem hj] at hcj
 rw [show ((⟨b,off,none⟩:Addr).add j)=⟨b,off+j,none⟩ from by simp [Addr.add],hcj]
 exact hu
theorem avg (zs:List Int):∀ u ∈ zs.map (Value.int .u32),u.oneCell' = true:=by
 intro u hu
 obtain ⟨z,_,rfl⟩:=List.mem_map.1 hu
 rfl
end Lm
end Go.Proofs.YtgmobkafnefpfaaGreat
namespace Go.Proofs.YtgmobkafnefpfaaGreat
namespace Lm
open Go Go.RowKit
def OwL (K:Nat) (zs:List Int):Says:=fun v w=>∃ ao cap,v=.slice ao zs.length cap∧Ow K w v zs
theorem OwL.mono5 (K:Nat) (zs:List Int):Mono5 (OwL K zs):=fun _ _ _ hr ⟨ao,cap,e,h⟩=>⟨ao,cap,e,h.ru hr⟩
theorem OwL.mono4 (K:Nat) (zs:List Int):Mono4 (OwL K zs):=fun v w w' hr h=>OwL.mono5 K zs v w w' (Ru.of_rl hr) h
def OwW (K:Nat) (ng:Bool) (zs:List Int):Says:=fun v w=>∃ ao cap,v=.agg #[.bool ng,.slice ao zs.length cap]∧Ow K w (.slice ao zs.length cap) zs
theorem OwW.mono5 (K:Nat) (ng:Bool) (zs:List Int):Mono5 (OwW K ng zs):=fun _ _ _ hr ⟨ao,cap,e,h⟩=>⟨ao,cap,e,h.ru hr⟩
theorem OwW.mono4 (K:Nat) (ng:Bool) (zs:List Int):Mono4 (OwW K ng zs):=fun v w w' hr h=>OwW.mono5 K ng zs v w w' (Ru.of_rl hr) h
theorem OwW.cs {K:Nat} {ng:Bool} {zs:List Int} (v:Value) (w:World) (h:OwW K ng zs v w):∃ cs,W2.Cs v cs:=by
 obtain ⟨ao,cap,rfl,_⟩:=h
 exact ⟨_,_,_,_,_,rfl,rfl⟩
section
variable {dst:Option Tmp} {ty:TypeId} {pos:String} {after:Array Edge} {guard:Option (Nat × Bool)} {a:Act} {w:World} {ats:Array TypeId} {i j:Nat}
theorem an5:Has Tryz.prog 74:=by unfold Has;kernel_rfl
theorem ax9 {K:Nat} {ng:Bool} {zs:List Int} (h1:a.eval (.tmp i)=.bool ng) (h2:OwL K zs (a.eval (.tmp j)) w) :
  Does Tryz.prog { dst,op:=.build 27 #[(0,.tmp i),(1,.tmp j)],type:=ty,pos,after,guard } a.eval w fun v w'=>Below w.heap.size w w'∧OwW K ng zs v w' := by
 obtain ⟨ao,cap,e,ho⟩:=h2
 refine (axq h1 e).mono ?_
 rintro v w' ⟨hb,e'⟩
 exact ⟨hb,ao,cap,e',by rw [←e];exact ho.below hb⟩
end
section
end
theorem Ow.grown {B:Nat} {w w' : World} {v:Value} {zs:List Int} {row:Option Nat} {cur:Nat→Array Value} (h:Ow B w v zs) (hg:w.grownBy w' row) (hr:∀ k,row=some k→w.heap[k]? = some (.cells (cur k) 27 (0,0))):Ow B w' v zs:=by
 obtain ⟨ao,cap,rfl,h1,h2,h3,h4⟩:=h
 refine ⟨ao,cap,rfl,h1,h2,h3,?_⟩
 rcases h4 with h4 | ⟨g,off,c,rfl,hB,hh,h5,h6⟩
 ·exact .inl h4
 ·refine .inr ⟨g,off,c,rfl,hB,(hg.block g (aaa hh) (fun e=>?_)).trans hh,h5,h6⟩
  have:=hr g e.symm
  rw [hh] at this
  injection this with this
  injection this with _ this
  exact absurd this (by decide)
structure RwO (B:Nat) (w:World) (v:Value) (es:List WE):Prop where
 own:w.ownsRow B 27 2 v es.length (flat es)
 ow:∀ e ∈ es,Ow B w (.slice e.a e.m e.c) e.zs
theorem RwO.below {B:Nat} {w w' : World} {v:Value} {es:List WE} (h:RwO B w v es) (hb:Below w.heap.size w w'):RwO B w' v es :=
 ⟨h.own.kept (row:=none) ⟨hb.os,hb.tape,hb.output,hb.size,fun k hk _=>hb.block k hk⟩ (by cases hv:v.ownBlock <;> simp),fun e he=>(h.ow e he).below hb⟩
theorem RwO.rw {B:Nat} {w:World} {v:Value} {es:List WE} (h:RwO B w v es):Rw w v es:=⟨Cl.own h.own,fun e he=>(h.ow e he).sl⟩
theorem amq (B:Nat) (w:World):RwO B w (.slice none 0 0) []:=⟨World.ownsRow_nil w B _ 2,fun e he=>by cases he⟩
def One (w:World) (g:Nat) (ng:Bool) (ao:Option Addr) (n c:Nat):Prop:=w.heap[g]? = some (.cells #[.bool ng,.slice ao n c] 27 (0,0))
section
variable {dst:Option Tmp} {ty:TypeId} {pos:String} {after:Array Edge} {guard:Option (Nat × Bool)} {a:Act} {w:World} {ats:Array TypeId} {i j:Nat}
theorem infoW:(Tryz.prog.info? 27).map (fun i=>(i.zero,i.size,i.bytes))=some (some (.agg #[.bool false,.slice none 0 0]),2,32):=by kernel_rfl
theorem avh {B g:Nat} {v:Value} {es:List WE} {ng:Bool} {ao:Option Addr} {n c:Nat} {zs:List Int} (h1:a.eval (.tmp i)=v) (h2:a.eval (.tmp j)=.slice (some ⟨g,0,none⟩) 1 1) (R:RwO B w v es) (O:One w g ng ao n c) (S:Ow B w (.slice ao n c) zs) (hn:es.length≤1000000) (hB:B≤w.heap.size) :
  Does Tryz.prog { dst,op:=.call { callee:=.builtin .append,args:=#[.tmp i,.tmp j],argTypes:=#[39,39] },type:=ty,pos,after,guard } a.eval w fun v' w'=>RwO B w' v' (es ++ [⟨ng,ao,n,c,zs⟩])∧Below B w w' := by
 obtain ⟨i0,hi,hz0,hz1,hz2⟩:=info_parts infoW
 have hfl:flat (es ++ [⟨ng,ao,n,c,zs⟩])=flat es ++ [.bool ng,.slice ao n c]:=by rw [adn];rfl
 obtain ⟨v',w',hr,ho,hgr,_⟩:=run_append_own (P:=Tryz.prog) w B 39 ty 27 i0 _ 2 32 Tryz.underlying39 hi hz0 hz1 hz2 rfl (by decide) v es.length (flat es) R.own ⟨g,0,none⟩ 1 1 [.bool ng,.slice ao n c] rfl (fun k u hu=>by
  have hc:∀ k,w.cell? ⟨g,k,none⟩ = #[Value.bool ng,.slice ao n c][k]? := fun k=>cell_of_row w g k _ _ (0,0) O
  have ha:(⟨g,0,none⟩:Addr).add k=⟨g,k,none⟩:=by unfold Addr.add;split <;> simp_all
  rw [ha,hc]
  simpa using hu) (by simp [Value.oneCell']) (by simp [maxLen];omega) (by omega) hB
 have e:(execOp a.eval { dst,op:=.call { callee:=.builtin .append,args:=#[.tmp i,.tmp j],argTypes:=#[39,39] },type:=ty,pos,after,guard }).run Tryz.prog w=.ok (.value v') w' := by
  simp only [execOp,resolve,invoke,builtin,Sem.run_bind,Sem.run_pure,Result.andThen_ok,List.map_toArray,List.map_cons,List.map_nil,h1,h2,hr]
 refine ⟨?_⟩
 unfold Turns
 rw [e]
 have hrow:∃ cur:Nat→Array Value,∀ k,v.ownBlock=some k→w.heap[k]? = some (.cells (cur k) 27 (0,0)):=by
  rcases R.own.2 with ⟨rfl,_⟩ | ⟨g',cap,cur,rfl,_,hh,_⟩
  ·exact ⟨fun _=>#[],fun k hk=>by simp [Value.ownBlock] at hk⟩
  ·refine ⟨fun _=>cur,fun k hk=>?_⟩
   simp only [Value.ownBlock,Option.some.injEq] at hk
   subst hk
   exact hh
 obtain ⟨cur,hcur⟩:=hrow
 refine ⟨⟨by rw [hfl,List.length_append];exact ho,fun e he=>?_⟩,⟨hgr.os,hgr.tape,hgr.output,hgr.size,fun k hk=>hgr.block k (by omega) (fun e=>?_)⟩⟩
 ·rcases List.mem_append.1 he with he | he
  ·exact (R.ow e he).grown hgr hcur
  ·obtain rfl:=List.mem_singleton.1 he
   exact S.grown hgr hcur
 ·have:=R.own.lt k e.symm
  omega
end
theorem an6 {es xs:List WE} {k:Nat} {e f:WE} (h:SameR es (xs.take k)) (he:xs[k]? = some e) (hf:f.raw=e.raw):SameR (es ++ [f]) (xs.take (k+1)):=by
 unfold SameR at *
 rw [List.take_add_one,he,List.map_append,List.map_append,h]
 simp [hf]
end Lm
end Go.Proofs.YtgmobkafnefpfaaGreat
namespace Go.Proofs.YtgmobkafnefpfaaGreat
namespace Lm
open Go Go.RowKit
open Dm (WFr)
theorem as4 (n:Nat):(madeCells #[.bool false,.slice none 0 0] (n*2)).toList=flat (List.replicate n ⟨false,none,0,0,[]⟩):=by
 apply List.ext_getElem?
 intro i
 rw [Array.getElem?_toList]
 by_cases hi:i<n*2
 ·have hk:i / 2<n:=by omega
  have h1:(List.replicate n (⟨false,none,0,0,[]⟩:WE))[i / 2]? = some ⟨false,none,0,0,[]⟩:=by rw [List.getElem?_replicate,if_pos hk]
  obtain ⟨f1,f2⟩:=abl h1
  have e0:(madeCells #[.bool false,.slice none 0 0] (n*2))[i]? = some ((#[.bool false,.slice none 0 0]:Array Value)[i % 2]!):=by
   simp [madeCells,hi]
  rw [e0]
  rcases Nat.mod_two_eq_zero_or_one i with h | h
  ·rw [h,←show i / 2*2=i from by omega,f1];rfl
  ·rw [h,←show i / 2*2+1=i from by omega,f2];rfl
 ·rw [Array.getElem?_eq_none (by rw [size_madeCells];omega),List.getElem?_eq_none (by rw [abg];simp;omega)]
theorem an7 {w:World} {B g n size:Nat} {T:TypeId} {xs:List Value} (h:w.ownsRow B T size (.slice (some ⟨g,0,none⟩) n n) n xs):B≤g∧w.heap[g]? = some (.cells xs.toArray T (0,0)):=by
 obtain ⟨hl,⟨h',_⟩ | ⟨g',cap',cur,h',hb,hg,_,_,hs,htake⟩⟩:=h
 ·simp at h'
 ·simp only [Value.slice.injEq,Option.some.injEq,Addr.mk.injEq,and_true,true_and] at h'
  obtain ⟨rfl,rfl⟩:=h'
  refine ⟨hb,?_⟩
  rw [hg,←htake,List.take_of_length_le (by simp;omega)]
def IsRow (w:World) (v:Value) (zs:List Int) (L:Nat):Prop:=∃ es:List WE,Rw w v es∧es.map WE.z=zs∧∀ e ∈ es,e.zs.length≤L
theorem IsRow.below {w w' : World} {v:Value} {zs:List Int} {L:Nat} (h:IsRow w v zs L) (hb:Below w.heap.size w w'):IsRow w' v zs L:=by
 obtain ⟨es,h1,h2,h3⟩:=h
 exact ⟨es,h1.below hb,h2,h3⟩
theorem IsRow.parts {w:World} {v:Value} {zs:List Int} {L:Nat} (h:IsRow w v zs L):∃ ao cap,v=.slice ao zs.length cap∧zs.length≤9223372036854775807:=by
 obtain ⟨es,h1,h2,h3⟩:=h
 obtain ⟨ao,cap,rfl,c1,c2,_⟩:=h1.cl
 have:zs.length=es.length:=by rw [←h2];simp
 exact ⟨ao,cap,by rw [this],by omega⟩
theorem IsRow.cell {w:World} {ao:Option Addr} {n cap:Nat} {zs:List Int} {L k:Nat} {z:Int} (h:IsRow w (.slice ao n cap) zs L) (hz:zs[k]? = some z):∃ b off ng a m c,ao=some ⟨b,off,none⟩∧b<w.heap.size∧w.cell? ⟨b,off+k*2,none⟩ = some (.bool ng)∧w.cell? ⟨b,off+k*2+1,none⟩ = some (.slice a m c)∧IsW z L (.agg #[.bool ng,.slice a m c]) w:=by
 obtain ⟨es,h1,rfl,h3⟩:=h
 rw [List.getElem?_map] at hz
 obtain ⟨e,he,rfl⟩:=Option.map_eq_some_iff.1 hz
 have hk:k<es.length:=(List.getElem?_eq_some_iff.1 he).1
 obtain ⟨b,off,rfl,hb,hc⟩:=h1.cells (by omega)
 obtain ⟨f1,f2⟩:=abl he
 have hm:=List.mem_of_getElem? he
 exact ⟨b,off,e.ng,e.a,e.m,e.c,rfl,hb,hc _ _ f1,hc _ _ f2,⟨_,_,_,_,_,rfl,h1.ag hm,h3 e hm⟩⟩
def PRow (K:Nat) (w:World) (bv n i:Nat) (zs:List Int) (L:Nat):Prop :=
 ∃ (es:List WE) (B T:Nat→Nat),es.length=n∧w.heap[bv]? = some (.cells (flat es).toArray 27 (0,0))∧(∀ (k:Nat) (e:WE),i≤k→es[k]? = some e→e=⟨false,none,0,0,[]⟩)∧(∀ (k:Nat) (e:WE) (z:Int),k<i→es[k]? = some e→zs[k]? = some z→WFr (B k) (T k) w e.ng e.a e.c e.zs z∧e.m=e.zs.length∧e.zs.length≤L∧K≤B k∧T k≤w.heap.size)∧(∀ k k' : Nat,k<k'→k'<i→T k≤B k')
theorem PRow.start {K:Nat} {w:World} {bv n:Nat} {zs:List Int} {L:Nat} (h:w.heap[bv]? = some (.cells (flat (List.replicate n ⟨false,none,0,0,[]⟩)).toArray 27 (0,0))):PRow K w bv n 0 zs L:=by
 refine ⟨_,fun _=>0,fun _=>0,List.length_replicate,h,fun k e _ he=>?_,fun k e z hk=>by omega,fun k k' _ hk=>by omega⟩
 rw [List.getElem?_replicate] at he
 split at he
 ·exact (Option.some.inj he).symm
 ·cases he
theorem PRow.ru {K:Nat} {w w' : World} {bv n i:Nat} {zs:List Int} {L:Nat} (h:PRow K w bv n i zs L) (hr:Ru w w') (hb:w'.heap[bv]? = w.heap[bv]?):PRow K w' bv n i zs L:=by
 obtain ⟨es,B,T,h1,h2,h3,h4,h5⟩:=h
 refine ⟨es,B,T,h1,hb.trans h2,h3,fun k e z hk he hz=>?_,h5⟩
 obtain ⟨g1,g2,g3,g4,g5⟩:=h4 k e z hk he hz
 exact ⟨g1.ru hr,g2,g3,g4,Nat.le_trans g5 hr.size⟩
theorem PRow.lt {K:Nat} {w:World} {bv n i:Nat} {zs:List Int} {L:Nat} (h:PRow K w bv n i zs L):bv<w.heap.size:=by
 obtain ⟨es,B,T,h1,h2,_⟩:=h
 exact aaa h2
theorem PRow.below {K:Nat} {w w' : World} {bv n i:Nat} {zs:List Int} {L:Nat} (h:PRow K w bv n i zs L) (hb:Below w.heap.size w w'):PRow K w' bv n i zs L:=h.ru (Ru.of_below hb) (hb.block bv h.lt)
theorem akq (es:List WE) (i:Nat) (x:WE) (h:i<es.length):flat (es.set i x)=((flat es).set (i*2) (.bool x.ng)).set (i*2+1) (.slice x.a x.m x.c):=by
 induction es generalizing i with
 | nil=>simp at h
 | cons u es ih =>
  cases i with
  | zero=>simp [flat]
  | succ i =>
   have:=ih i (by simpa using h)
   simp only [List.set_cons_succ,flat,show (i+1)*2=i*2+2 from by omega,this]
theorem avi (es:List WE) (i:Nat) (z:Int):(flat es).toArray[i]?≠some (.int .u32 z):=by
 rw [List.getElem?_toArray]
 induction es generalizing i with
 | nil=>simp [flat]
 | cons u es ih =>
  match i with
  | 0=>simp [flat]
  | 1=>simp [flat]
  | i+2=>simpa [flat] using ih i
theorem PRow.cells {K:Nat} {w:World} {bv n i:Nat} {zs:List Int} {L:Nat} (h:PRow K w bv n i zs L) {k:Nat} (hk:k<n):(∃ ng a m c,w.cell? ⟨bv,k*2,none⟩ = some (.bool ng)∧w.cell? ⟨bv,k*2+1,none⟩ = some (.slice a m c))∧w.frozen? ⟨bv,k*2,none⟩ = false∧w.frozen? ⟨bv,k*2+1,none⟩ = false:=by
 obtain ⟨es,B,T,h1,h2,_⟩:=h
 obtain ⟨e,he⟩:∃ e,es[k]? = some e:=⟨_,List.getElem?_eq_getElem (by omega)⟩
 obtain ⟨f1,f2⟩:=abl he
 exact ⟨⟨e.ng,e.a,e.m,e.c,by rw [cell_of_row _ _ _ _ _ (0,0) h2,List.getElem?_toArray];exact f1,by rw [cell_of_row _ _ _ _ _ (0,0) h2,List.getElem?_toArray];exact f2⟩,frozen_of_row _ _ _ _ _ h2,frozen_of_row _ _ _ _ _ h2⟩
theorem PRow.put {K S:Nat} {w1 w2:World} {bv n i:Nat} {zs:List Int} {L:Nat} {z:Int} {ng:Bool} {a:Option Addr} {m c:Nat} (h:PRow K w1 bv n i zs L) (hS:w1.heap.size≤S) (hb:Below w1.heap.size w1 w2) (hi:i<n) (hz:zs[i]? = some z) (hK:K≤S) (hv:FrW S z L (.agg #[.bool ng,.slice a m c]) w2) :
  PRow K ((w2.setCell ⟨bv,i*2,none⟩ (.bool ng)).setCell ⟨bv,i*2+1,none⟩ (.slice a m c)) bv n (i+1) zs L∧Rc bv bv w1 ((w2.setCell ⟨bv,i*2,none⟩ (.bool ng)).setCell ⟨bv,i*2+1,none⟩ (.slice a m c)):=by
 have hlt:=h.lt
 obtain ⟨es,B,T,e1,e2,e3,e4,e5⟩:=h
 replace e2:=(hb.block bv hlt).trans e2
 obtain ⟨ng',ao',cap',rs,B',T',hv1,hv2,hv3,hv4,hv5⟩:=hv
 simp only [Value.agg.injEq,Array.mk.injEq,List.cons.injEq,Value.bool.injEq,Value.slice.injEq,and_true] at hv1
 obtain ⟨rfl,rfl,rfl,rfl⟩:=hv1
 generalize hW:((w2.setCell ⟨bv,i*2,none⟩ (.bool ng)).setCell ⟨bv,i*2+1,none⟩ (.slice a rs.length c))=W
 have hbW:W.heap[bv]? = some (.cells (flat (es.set i ⟨ng,a,rs.length,c,rs⟩)).toArray 27 (0,0)):=by
  rw [←hW,akq es i _ (by omega)]
  have s1:=heap_setCell_same w2 bv (i*2) _ _ (.bool ng) e2
  have s2:=heap_setCell_same _ bv (i*2+1) _ _ (.slice a rs.length c) s1
  rw [s2]
  simp
 have hot:∀ k,k≠bv→W.heap[k]? = w2.heap[k]? := fun k hn=>by rw [←hW,heap_setCell_other _ ⟨bv,i*2+1,none⟩ k _ hn,heap_setCell_other _ ⟨bv,i*2,none⟩ k _ hn]
 have hsz:w2.heap.size≤W.heap.size:=by rw [←hW];simp [World.setCell]
 have hru:Ru w2 W:=Ru.of_one e2 (by decide) (avi es) hsz (fun k _ hn=>hot k hn)
 have hrc:Rc bv bv w2 W:=⟨by rw [←hW];rfl,by rw [←hW];rfl,by rw [←hW];rfl,hsz,fun k _ hn _=>hot k hn,hru⟩
 refine ⟨⟨es.set i ⟨ng,a,rs.length,c,rs⟩,fun k=>if k=i then B' else B k,fun k=>if k=i then T' else T k,by simp [e1],hbW,?_,?_,?_⟩,(Rc.of_below hb).trans hrc⟩
 ·intro k e hk he
  rw [List.getElem?_set_ne (by omega)] at he
  exact e3 k e (by omega) he
 ·intro k e z' hk he hz'
  by_cases hki:k=i
  ·subst hki
   rw [List.getElem?_set_self (by omega)] at he
   obtain rfl:=Option.some.inj he
   rw [hz] at hz'
   obtain rfl:=Option.some.inj hz'
   simp only [if_true]
   exact ⟨hv2.ru hru,trivial,hv5,by omega,Nat.le_trans hv4 hsz⟩
  ·rw [List.getElem?_set_ne (fun h=>hki h.symm)] at he
   simp only [if_neg hki]
   obtain ⟨g1,g2,g3,g4,g5⟩:=e4 k e z' (by omega) he hz'
   exact ⟨(g1.ru (Ru.of_below hb)).ru hru,g2,g3,g4,Nat.le_trans g5 (Nat.le_trans hb.size hsz)⟩
 ·intro k k' hkk hk'
  by_cases hki:k' = i
  ·subst hki
   simp only [if_true,if_neg (show k≠k' by omega)]
   obtain ⟨e,he⟩:∃ e,es[k]? = some e:=⟨_,List.getElem?_eq_getElem (by omega)⟩
   obtain ⟨z',hz'⟩:∃ z',zs[k]? = some z' := ⟨_,List.getElem?_eq_getElem (by have:=(List.getElem?_eq_some_iff.1 hz).1;omega)⟩
   have:=(e4 k e z' hkk he hz').2.2.2.2
   omega
  ·simp only [if_neg hki,if_neg (show k≠i by omega)]
   exact e5 k k' hkk (by omega)
def ORow (K:Nat) (w:World) (v:Value) (zs:List Int) (L:Nat):Prop:=∃ bv,v=.slice (some ⟨bv,0,none⟩) zs.length zs.length∧K≤bv∧PRow K w bv zs.length zs.length zs L∧zs.length≤1000000
theorem PRow.full {K:Nat} {w:World} {bv:Nat} {zs:List Int} {L:Nat} (h:PRow K w bv zs.length zs.length zs L) (hl:zs.length≤1000000):IsRow w (.slice (some ⟨bv,0,none⟩) zs.length zs.length) zs L:=by
 obtain ⟨es,B,T,e1,e2,e3,e4,e5⟩:=h
 have hz:∀ (k:Nat) (e:WE),es[k]? = some e→∃ z,zs[k]? = some z∧WFr (B k) (T k) w e.ng e.a e.c e.zs z∧e.m=e.zs.length∧e.zs.length≤L:=by
  intro k e he
  have hk:=(List.getElem?_eq_some_iff.1 he).1
  obtain ⟨z,hz⟩:∃ z,zs[k]? = some z:=⟨_,List.getElem?_eq_getElem (by omega)⟩
  obtain ⟨g1,g2,g3,_⟩:=e4 k e z (by omega) he hz
  exact ⟨z,hz,g1,g2,g3⟩
 refine ⟨es,⟨⟨_,_,by rw [e1],by omega,by omega,abg es,?_⟩,?_⟩,?_,?_⟩
 ·refine .inr ⟨bv,0,rfl,aaa e2,fun j u hu=>?_⟩
  rw [Nat.zero_add,cell_of_row _ _ _ _ _ (0,0) e2,List.getElem?_toArray]
  exact hu
 ·intro e he
  obtain ⟨k,hk⟩:=List.mem_iff_getElem?.1 he
  obtain ⟨z,_,g1,g2,_⟩:=hz k e hk
  have:=g1.wh.sl
  rwa [←g2] at this
 ·apply List.ext_getElem?
  intro k
  rw [List.getElem?_map]
  cases hk:es[k]? with
  | none =>
   rw [List.getElem?_eq_none_iff] at hk
   rw [Option.map_none,eq_comm,List.getElem?_eq_none_iff]
   omega
  | some e =>
   obtain ⟨z,h1,g1,g2,_⟩:=hz k e hk
   rw [h1,Option.map_some]
   congr 1
   exact g1.wh.worth
 ·intro e he
  obtain ⟨k,hk⟩:=List.mem_iff_getElem?.1 he
  obtain ⟨z,_,_,_,g3⟩:=hz k e hk
  exact g3
theorem ORow.is {K:Nat} {w:World} {v:Value} {zs:List Int} {L:Nat} (h:ORow K w v zs L):IsRow w v zs L:=by
 obtain ⟨bv,rfl,_,h,hl⟩:=h
 exact h.full hl
theorem ORow.below {K:Nat} {w w' : World} {v:Value} {zs:List Int} {L:Nat} (h:ORow K w v zs L) (hb:Below w.heap.size w w'):ORow K w' v zs L:=by
 obtain ⟨bv,e,hK,h,hl⟩:=h
 exact ⟨bv,e,hK,h.below hb,hl⟩
end Lm
end Go.Proofs.YtgmobkafnefpfaaGreat
namespace Go.Proofs.YtgmobkafnefpfaaGreat
namespace Lm
open Go Go.RowKit
theorem afi {α β:Type} (f:β→α→β) (a:β) {l:List α} {k:Nat} {x:α} (h:l[k]? = some x):(l.take (k+1)).foldl f a=f ((l.take k).foldl f a) x:=by
 rw [List.take_add_one,h,List.foldl_append]
 rfl
def gcdL (zs:List Int):Int:=zs.foldl (fun c z=>((Int.gcd c z:Nat):Int)) 0
def sgnL (zs:List Int):Int:=zs.foldl (fun s z=>if s=0 then Int.sign z else s) 0
def dvs (zs:List Int):Int:=if sgnL zs<0 then -(gcdL zs) else gcdL zs
def red (zs:List Int):List Int:=zs.map (· / dvs zs)
theorem af0 {z:Int} {L:Nat} {v:Value} {w:World} (h:IsW z L v w):(z.natAbs:Int)<pw L:=by
 obtain ⟨ng,ao,n,cap,xs,_,hA,hl⟩:=h
 obtain ⟨_,_,_,_,_,hb,_⟩:=hA.sl
 have h1:=aab hb
 have h3:=aa0 hl
 have h4:=hA.worth
 rw [←h4]
 cases ng
 ·simp only [sg]
  rw [if_neg (by decide)]
  omega
 ·simp only [sg]
  rw [if_pos trivial]
  omega
theorem aya {a b N:Int} (ha:(a.natAbs:Int)<N) (hb:(b.natAbs:Int)<N):(((Int.gcd a b:Nat):Int).natAbs:Int)<N:=by
 rw [Int.natAbs_natCast]
 by_cases h:a=0
 ·subst h
  rw [Int.gcd_zero_left]
  exact hb
 ·have:=Nat.gcd_le_left b.natAbs (show 0<a.natAbs by omega)
  unfold Int.gcd
  omega
theorem avj (n:Nat):0<pw n:=by
 have:=aa0 (Nat.zero_le n)
 have h:pw 0=1:=rfl
 omega
theorem infoWz:(Tryz.prog.info? 27).map (fun i=>(i.zero,i.size,i.bytes))=some (some (.agg #[.bool false,.slice none 0 0]),2,32):=by kernel_rfl
theorem info_parts {P:Program} {T:TypeId} {z:Value} {size bytes:Nat} (h:(P.info? T).map (fun i=>(i.zero,i.size,i.bytes))=some (some z,size,bytes)):∃ i,P.info? T=some i∧i.zero=some z∧i.size=size∧i.bytes=bytes:=by
 obtain ⟨i,hi,hz⟩:=Option.map_eq_some_iff.1 h
 simp only [Prod.mk.injEq] at hz
 exact ⟨i,hi,hz.1,hz.2.1,hz.2.2⟩
theorem ayb {z d N:Int} (h:(z.natAbs:Int)<N):((z / d).natAbs:Int)<N:=by
 have:=Int.natAbs_ediv_le_natAbs z d
 omega
set_option maxRecDepth 20000 in
set_option maxHeartbeats 2000000 in
theorem af1 (w:World) (x y:Int) (vx vy:Value) (L M:Nat) (hx:IsW x L vx w) (hy:IsW y M vy w) (hL:L≤400000) (hM:M≤400000) :
  Calls Tryz.prog 55 #[vx,vy] w fun e w'=>∃ v,e=.returned v∧FrW w.heap.size (x / y) (L+4) v w'∧Below w.heap.size w w' := by
 obtain ⟨n1,a1,m1,c1,xs,rfl,_⟩:=id hx
 obtain ⟨n2,a2,m2,c2,ys,rfl,_⟩:=id hy
 have HX:=hide hx
 have HY:=hide hy
 have hb0:Below w.heap.size w (((w.alloc (.cells #[.bool n1,.slice a1 m1 c1] 27)).alloc (.cells #[.bool n2,.slice a2 m2 c2] 27)).alloc (.cells #[.bool false,.slice none 0 0] 27)):=by (repeat' first|with_reducible(first|exact Below.refl _ _|assumption|refine gdrewN ?_ _|refine Below.alloc ?_ ?_ _|refine Below.drew ?_|refine Below.setCell ?_ ?_ _)|go_size)
 clear hx hy
 go_enter Tryz.func55,Tryz.ntmps55
 go_wp2_with fail
 refine (divF _ x y _ _ L M (HX.out.ru (Ru.of_below hb0)) (HY.out.ru (Ru.of_below hb0)) hL hM).mono ?_
 rintro e w1 ⟨v1,v2,b,rfl,h1,h2,_,hb1⟩
 have HB:=hide (hb0.trans (hb1.mono hb0.size))
 have hf:w1.heap[w.heap.size+1+1]? = some (.cells #[.bool false,.slice none 0 0] 27 (0,0)):=by
  refine (hb1.block _ (by simp)).trans ?_
  have:=heap_alloc_new ((w.alloc (.cells #[.bool n1,.slice a1 m1 c1] 27)).alloc (.cells #[.bool n2,.slice a2 m2 c2] 27)) (.cells #[.bool false,.slice none 0 0] 27)
  simpa using this
 have H1:=hide (h1.low hb0.size)
 obtain ⟨ng1,ao1,k1,cap1,rfl⟩:=h1.agg
 obtain ⟨ng2,ao2,cap2,rs2,rfl,_⟩:=h2
 have HF:=hide hf
 generalize hfz:w.heap.size+1+1=f at *
 obtain ⟨hfl,c0,c1',fr0,fr1⟩:=aal hf
 clear h1 hb1 hb0 hf
 go_wp2
 refine bodyPost_ret (v:=.agg #[.bool ng1,.slice ao1 k1 cap1]) (abw (g:=f) rfl rfl (lvw2 (ab0 (ab0 (abz HF.out _ _))))) rfl ⟨_,rfl,H1.out.ru ((act HF.out _ _).trans ((Ru.of_below (hAl _ _)).trans (Ru.of_below (hAl _ _)))),?_⟩
 have HBx:=HB.out
 have hfw:w.heap.size≤f:=by omega
 (repeat' first|with_reducible(first|exact Below.refl _ _|assumption|refine gdrewN ?_ _|refine Below.alloc ?_ ?_ _|refine Below.drew ?_|refine Below.setCell ?_ ?_ _)|go_size)
set_option maxRecDepth 20000 in
set_option maxHeartbeats 4000000 in
theorem akr (w:World) (v:Value) (zs:List Int) (L:Nat) (h:IsRow w v zs L) (hL:L≤100000) :
  Calls Tryz.prog 52 #[v] w fun e w'=>∃ r,e=.returned r∧OutW (dvs zs) L r w'∧Below w.heap.size w w' := by
 obtain ⟨ao,cap,rfl,hn⟩:=h.parts
 have H:=hide h
 clear h
 obtain ⟨n,hnn⟩:∃ n,zs.length=n:=⟨_,rfl⟩
 rw [hnn] at H hn ⊢
 have HN:=hide hnn
 clear hnn
 have hb0:Below w.heap.size w ((w.alloc (.cells #[.bool false,.slice none 0 0] 27)).alloc (.cells #[.bool false,.slice none 0 0] 27)):=by (repeat' first|with_reducible(first|exact Below.refl _ _|assumption|refine gdrewN ?_ _|refine Below.alloc ?_ ?_ _|refine Below.drew ?_|refine Below.setCell ?_ ?_ _)|go_size)
 have hf2:((w.alloc (.cells #[.bool false,.slice none 0 0] 27)).alloc (.cells #[.bool false,.slice none 0 0] 27)).heap[w.heap.size]? = some (.cells #[.bool false,.slice none 0 0] 27 (0,0)):=ab0 (heap_alloc_new w _)
 have hf3:((w.alloc (.cells #[.bool false,.slice none 0 0] 27)).alloc (.cells #[.bool false,.slice none 0 0] 27)).heap[w.heap.size+1]? = some (.cells #[.bool false,.slice none 0 0] 27 (0,0)):=by
  have:=heap_alloc_new (w.alloc (.cells #[.bool false,.slice none 0 0] 27)) (.cells #[.bool false,.slice none 0 0] 27)
  simpa using this
 have HB0:=hide (And.intro hb0 (And.intro hf2 hf3))
 clear hb0 hf2 hf3
 go_enter Tryz.func52,Tryz.ntmps52
 go_wp2
 go_loopw [4,9] (fun sv iv wr=>∃ (k:Nat),iv=.int .i64 k∧k≤n∧sv=.int .i64 (sgnL (zs.take k))∧Below w.heap.size w wr∧wr.heap[w.heap.size]? = some (.cells #[.bool false,.slice none 0 0] 27 (0,0))∧∃ ng a m c,wr.heap[w.heap.size+1]? = some (.cells #[.bool ng,.slice a m c] 27 (0,0))∧OutW (gcdL (zs.take k)) L (.agg #[.bool ng,.slice a m c]) wr) (fun _ iv _=>n - (intOf iv).toNat)
 case atStart =>
  refine ⟨0,rfl,Nat.zero_le _,rfl,HB0.out.1,HB0.out.2.1,false,none,0,0,HB0.out.2.2,?_⟩
  exact (adh (K:=0) _ (Nat.zero_le _)).out
 case round =>
  obtain ⟨k,rfl,hk,rfl,hbw,hf2,ng,a,m,c,hf3,ho⟩:=hrel
  have HW:=hide hbw
  have HF2:=hide hf2
  have HF3:=hide hf3
  have HO:=hide ho
  by_cases hlt:k<n
  ·obtain ⟨z,hz⟩:∃ z,zs[k]? = some z:=⟨_,List.getElem?_eq_getElem (by have:=HN.out;omega)⟩
   obtain ⟨b,off,ngx,ax,mx,cx,rfl,hbl,x0,x1,hx⟩:=H.out.cell hz
   replace x0:=(hbw.cell (p:=⟨b,off+k*2,none⟩) hbl).trans x0
   replace x1:=(hbw.cell (p:=⟨b,off+k*2+1,none⟩) hbl).trans x1
   have HX:=hide (hx.ru (Ru.of_below hbw))
   have HZ:=hide hz
   have hlt' : (k:Int)<(n:Int):=by omega
   obtain ⟨h3l,y0,y1,yf0,yf1⟩:=aal hf3
   have hba:Below wr.heap.size wr (wr.alloc (.cells #[.bool ngx,.slice ax mx cx] 27)):=hAl _ _
   have hsz:=hbw.size
   clear hbw hf2 hf3 ho hx hz
   go_wp2_with fail
   refine (gcdF _ _ z _ _ L L (HO.out.is.ru (Ru.of_below hba)) (HX.out.ru (Ru.of_below hba)) (by omega) (by omega)).mono ?_
   rintro e w1 ⟨v1,rfl,h1,hb1⟩
   have HG:=hide (h1.out.fit (aya (af0 HO.out.is) (af0 HX.out)))
   have hb1' := hba.trans (hb1.mono hba.size)
   have hx1:w1.heap[wr.heap.size]? = some (.cells #[.bool ngx,.slice ax mx cx] 27 (0,0)):=(hb1.block _ (by simp)).trans (heap_alloc_new wr _)
   have hg3:=(hb1'.block _ (aaa HF3.out)).trans HF3.out
   have hg2:=(hb1'.block _ (aaa HF2.out)).trans HF2.out
   have HG3:=hide hg3
   have HG2:=hide hg2
   have HB1:=hide (HW.out.trans (hb1'.mono HW.out.size))
   have HX1:=hide (HX.out.ru (Ru.of_below hb1'))
   obtain ⟨ng1,ao1,k1,cap1,rfl⟩:=h1.agg
   obtain ⟨_,u0,u1,_,_⟩:=aal hx1
   obtain ⟨g3l,v0,v1,vf0,vf1⟩:=aal hg3
   generalize wr.heap.size=fx at *
   clear h1 hb1 hb1' hba hx1 hg3 hg2 x0 x1 y0 y1 yf0 yf1
   have HSK:Hid (sgnL (zs.take (k+1))=if sgnL (zs.take k)=0 then Int.sign z else sgnL (zs.take k)):=afi _ _ HZ.out
   have HGK:Hid (gcdL (zs.take (k+1))=((Int.gcd (gcdL (zs.take k)) z:Nat):Int)):=afi _ _ HZ.out
   generalize hsk:sgnL (zs.take k)=sk at *
   by_cases hs0:sk=0
   ·have HS0:=hide hs0
    subst hs0
    clear hsk
    have hxf:fx≠w.heap.size+1:=by omega
    go_wp2_with fail
    refine (signF _ z _ L (HX1.out.ru (act HG3.out _ _)) (by omega)).mono ?_
    rintro e w2 ⟨rfl,hb2⟩
    have hbs:Below w.heap.size w ((w1.setCell ⟨w.heap.size+1,0,none⟩ (.bool ng1)).setCell ⟨w.heap.size+1,1,none⟩ (.slice ao1 k1 cap1)):=(HB1.out.setCell (Nat.le_succ _) _).setCell (Nat.le_succ _) _
    have hs2:((w1.setCell ⟨w.heap.size+1,0,none⟩ (.bool ng1)).setCell ⟨w.heap.size+1,1,none⟩ (.slice ao1 k1 cap1)).heap[w.heap.size]? = some (.cells #[.bool false,.slice none 0 0] 27 (0,0)):=by rw [heap_setCell_other _ ⟨w.heap.size+1,1,none⟩ _ _ (by show w.heap.size≠w.heap.size+1;omega),heap_setCell_other _ ⟨w.heap.size+1,0,none⟩ _ _ (by show w.heap.size≠w.heap.size+1;omega)];exact HG2.out
    have K1:=hide (hbs.trans (hb2.mono hbs.size))
    have K2:=hide ((hb2.block _ (aaa hs2)).trans hs2)
    have K3:=hide ((hb2.block _ (aaa (abz HG3.out (.bool ng1) (.slice ao1 k1 cap1)))).trans (abz HG3.out _ _))
    have K4:=hide ((HG.out.ru (act HG3.out _ _)).ru (Ru.of_below hb2))
    clear hb2 hbs hs2
    go_wp2
    go_roundw
    case rel =>
     refine ⟨k+1,by go_num,by omega,by rw [HSK.out,if_pos trivial],K1.out,K2.out,_,_,_,_,K3.out,?_⟩
     rw [HGK.out]
     exact K4.out
    case measure=>simp [intOf];omega
   ·have HS0:=hide hs0
    have hs0' : (sk == 0)=false:=beq_eq_false_iff_ne.2 hs0
    clear hsk hs0
    go_wp2
    go_roundw
    case rel =>
     refine ⟨k+1,by go_num,by omega,by rw [HSK.out,if_neg HS0.out],(HB1.out.setCell (Nat.le_succ _) _).setCell (Nat.le_succ _) _,?_,_,_,_,_,abz HG3.out _ _,?_⟩
     ·rw [heap_setCell_other _ ⟨w.heap.size+1,1,none⟩ _ _ (by show w.heap.size≠w.heap.size+1;omega),heap_setCell_other _ ⟨w.heap.size+1,0,none⟩ _ _ (by show w.heap.size≠w.heap.size+1;omega)]
      exact HG2.out
     ·rw [HGK.out]
      exact HG.out.ru (act HG3.out _ _)
    case measure=>simp [intOf];omega
  ·have hlt' : decide ((k:Int)<(n:Int))=false:=by simp;omega
   have hkn:zs.take k=zs:=List.take_of_length_le (by have:=HN.out;omega)
   rw [hkn] at HO ⊢
   obtain ⟨h3l,y0,y1,yf0,yf1⟩:=aal hf3
   obtain ⟨h2l,x0,x1,xf0,xf1⟩:=aal hf2
   clear hbw hf2 hf3 ho hkn
   by_cases hs:sgnL zs<0
   ·have HD:Hid (dvs zs = -(gcdL zs)):=if_pos hs
    generalize sgnL zs=sk at *
    go_wp2_with fail
    refine (negF _ _ _ L HO.out.is (by omega)).mono ?_
    rintro e w1 ⟨v1,rfl,h1,hb1⟩
    have hg2:=(hb1.block _ (aaa HF2.out)).trans HF2.out
    have HG2:=hide hg2
    obtain ⟨h2l',z0,z1,zf0,zf1⟩:=aal hg2
    have HB1:=hide (HW.out.trans (hb1.mono HW.out.size))
    obtain ⟨ng1,ao1,k1,cap1,rfl⟩:=h1.agg
    have H1:=hide h1.out
    clear h1 hb1 hg2 x0 x1 xf0 xf1 y0 y1 yf0 yf1
    go_wp2
    exact bodyPost_ret (v:=.agg #[.bool ng1,.slice ao1 k1 cap1]) (abw (g:=w.heap.size) rfl rfl (lvw2 (abz HG2.out _ _))) rfl ⟨_,rfl,by rw [HD.out];exact H1.out.ru (act HG2.out _ _),(HB1.out.setCell (Nat.le_refl _) _).setCell (Nat.le_refl _) _⟩
   ·have HD:Hid (dvs zs=gcdL zs):=if_neg hs
    have hs' : decide (sgnL zs<0)=false:=decide_eq_false hs
    generalize sgnL zs=sk at *
    clear hs
    go_wp2
    exact bodyPost_ret (v:=.agg #[.bool ng,.slice a m c]) (abw (g:=w.heap.size) rfl rfl (lvw2 (abz HF2.out _ _))) rfl ⟨_,rfl,by rw [HD.out];exact HO.out.ru (act HF2.out _ _),(HW.out.setCell (Nat.le_refl _) _).setCell (Nat.le_refl _) _⟩
theorem avk (z:Int):(Int.sign z != 0)=decide (z≠0):=by
 by_cases h:z=0
 ·subst h;rfl
 ·rw [decide_eq_true h,bne_iff_ne]
  exact fun e=>h (Int.sign_eq_zero_iff_zero.1 e)
set_option maxRecDepth 20000 in
set_option maxHeartbeats 2000000 in
theorem ahz (w:World) (z:Int) (L:Nat) (v:Value) (h:IsW z L v w) (hL:L≤400000) :
  Calls Tryz.prog 34 #[v] w fun e w'=>e=.returned (.bool (decide (z≠0)))∧Below w.heap.size w w' := by
 obtain ⟨ng,ao,n,cap,xs,rfl,_⟩:=id h
 have hb:=hAl w (.cells #[.bool ng,.slice ao n cap] 27)
 have hS:=avk z
 have K:=hide (signF _ z _ L (h.ru (Ru.of_below hb)) hL)
 clear h
 go_enter Tryz.func34,Tryz.ntmps34
 go_wp2_with fail
 refine K.out.mono ?_
 rintro e w1 ⟨rfl,hb1⟩
 have HB:=hide (hb.trans (hb1.mono hb.size))
 clear hb hb1 K
 generalize Int.sign z=sz at *
 go_wp2
 refine bodyPost_ret (v:=_) (by simp [results,Tryz.results34,go_sem];try rfl) rfl ⟨by simp,HB.out⟩
theorem aqh:Has Tryz.prog 34:=by unfold Has;kernel_rfl
def Turn (w:World) (f:FuncId) (cap:Array Value) (zs:List Int) (L M:Nat) (g:Nat→Int):Prop:=∀ (W:World) (c:Nat) (z:Int) (xv:Value),Below w.heap.size w W→zs[c]? = some z→IsW z L xv W→Calls Tryz.prog f (#[.int .i64 (c:Int),xv] ++ cap) W fun e W'=>∃ v,e=.returned v∧FrW W.heap.size (g c) M v W'∧Below W.heap.size W W'
theorem Turn.below {w w1:World} {f:FuncId} {cap:Array Value} {zs:List Int} {L M:Nat} {g:Nat→Int} (h:Turn w f cap zs L M g) (hb:Below w.heap.size w w1):Turn w1 f cap zs L M g:=fun W c z xv h1 h2 h3=>h W c z xv (hb.trans (h1.mono hb.size)) h2 h3
def gRow (g:Nat→Int) (n:Nat):List Int:=(List.range n).map g
theorem acg (g:Nat→Int) (n:Nat):(gRow g n).length=n:=by simp [gRow]
theorem aew {g:Nat→Int} {n k:Nat} (h:k<n):(gRow g n)[k]? = some (g k):=by simp [gRow,h]
set_option maxRecDepth 20000 in
set_option maxHeartbeats 4000000 in
theorem ado (w:World) (v:Value) (zs:List Int) (L M:Nat) (h:IsRow w v zs L) (hl:zs.length≤1000000) (f:FuncId) (hf:Has Tryz.prog f) (cap:Array Value) (g:Nat→Int) (hT:Turn w f cap zs L M g) :
  Calls Tryz.prog 53 #[v,.func (.func f) #[] cap] w fun e w'=>∃ r,e=.returned r∧ORow w.heap.size w' r (gRow g zs.length) M∧Below w.heap.size w w' := by
 obtain ⟨ao,cp,rfl,_⟩:=h.parts
 have H:=hide h
 have HTN:=hide hT
 clear h hT
 obtain ⟨n,hnn⟩:∃ n,zs.length=n:=⟨_,rfl⟩
 rw [hnn] at H hl ⊢
 have HN:=hide hnn
 clear hnn
 obtain ⟨iW,hi,hz0,hz1,hz2⟩:=info_parts infoWz
 go_enter Tryz.func53,Tryz.ntmps53
 go_wp2_with (refine wpList_make_full _ rfl (.tmp 9) (.tmp 9) 39 rfl w.heap.size 27 iW (.agg #[.bool false,.slice none 0 0]) 2 Tryz.underlying39 hi hz0 hz1 .i64 .i64 _ _ n rfl rfl (by omega) (by omega) (by rw [hz2];omega) (by unfold maxLen;omega) (Nat.le_refl _) ?hK)
 case hK =>
  intro w2 hown hgrow
  have hb2:Below w.heap.size w w2:=(Below.refl _ _).grown hgrow (Nat.le_refl _) (by simp)
  obtain ⟨_,hmb⟩:=an7 hown
  rw [as4] at hmb
  have HP0:=hide (PRow.start (K:=w.heap.size) (zs:=gRow g n) (L:=M) hmb)
  have HB:=hide hb2
  clear hown hgrow hmb hb2
  go_wp2
  go_loopw [6,7,13] (fun _ _ iv wr=>∃ (k:Nat),iv=.int .i64 k∧k≤n∧Below w.heap.size w wr∧PRow w.heap.size wr w.heap.size n k (gRow g n) M) (fun _ _ iv _=>n - (intOf iv).toNat)
  case atStart=>exact ⟨0,rfl,Nat.zero_le _,HB.out,HP0.out⟩
  case round =>
   obtain ⟨k,rfl,hk,hbw,hp⟩:=hrel
   have HW:=hide hbw
   have HP:=hide hp
   by_cases hlt:k<n
   ·obtain ⟨z,hz⟩:∃ z,zs[k]? = some z:=⟨_,List.getElem?_eq_getElem (by have:=HN.out;omega)⟩
    obtain ⟨b,off,ngx,ax,mx,cx,rfl,hbl,x0,x1,hx⟩:=H.out.cell hz
    replace x0:=(hbw.cell (p:=⟨b,off+k*2,none⟩) hbl).trans x0
    replace x1:=(hbw.cell (p:=⟨b,off+k*2+1,none⟩) hbl).trans x1
    have hlt' : (k:Int)<(n:Int):=by omega
    have hba:Below wr.heap.size wr (wr.alloc (.cells #[.bool ngx,.slice ax mx cx] 27)):=hAl _ _
    have KC:=hide (HTN.out _ k z (.agg #[.bool ngx,.slice ax mx cx]) (hbw.trans (hba.mono hbw.size)) hz ((hx.ru (Ru.of_below hbw)).ru (Ru.of_below hba)))
    clear hbw hp hx hz
    have hE:∀ args w,(callFunc f args).run Tryz.prog w=.ok (.enter f args) w:=fun args w=>hf.enter args w
    go_wp2_with fail
    refine KC.out.mono ?_
    rintro e w3 ⟨v1,rfl,h1,hb3⟩
    have hb3' := hba.trans (hb3.mono hba.size)
    obtain ⟨ng1,ao1,k1,cap1,rfl⟩:=h1.agg
    have HF:=hide (h1.low hba.size)
    obtain ⟨⟨ngp,ap,mp,cp',p0,p1⟩,pf0,pf1⟩:=(HP.out.below hb3').cells hlt
    have hpl:=(HP.out.below hb3').lt
    have HB3:=hide hb3'
    clear h1 hb3 hb3' hba x0 x1 KC hE
    go_wp2
    obtain ⟨q1,q2⟩:=HP.out.put (Nat.le_refl _) HB3.out hlt (aew hlt) HW.out.size HF.out
    go_roundw
    case rel=>exact ⟨k+1,by go_num,by omega,HW.out.trans (q2.below HW.out.size (Nat.le_refl _) (Nat.le_refl _)),q1⟩
    case measure=>simp [intOf];omega
   ·have hlt' : decide ((k:Int)<(n:Int))=false:=by simp;omega
    have hkn:k=n:=by omega
    subst hkn
    clear hbw hp
    go_wp2
    refine bodyPost_ret (v:=_) (by simp [results,Tryz.results53,go_sem];try rfl) rfl ⟨_,rfl,⟨_,by rw [acg],Nat.le_refl _,by rw [acg];exact HP.out,by rw [acg];exact hl⟩,HW.out⟩
def Nums (w:World) (v:Value) (zs:List Int):Prop:=Ce w v 1 zs.length (zs.map (Value.int .i64))
theorem Nums.cell {w:World} {ao:Option Addr} {n cap:Nat} {zs:List Int} {i:Nat} (h:Nums w (.slice ao n cap) zs) (hi:i<zs.length):∃ b off,ao=some ⟨b,off,none⟩∧w.cell? ⟨b,off+i,none⟩ = some (.int .i64 zs[i]):=by
 obtain ⟨ao',cap',hv,c1,c2,c3,c4⟩:=h
 obtain ⟨rfl,rfl,rfl⟩:=(Value.slice.injEq .. ▸ hv)
 rcases c4 with c4 | ⟨b,off,rfl,hl,hc⟩
 ·omega
 ·exact ⟨b,off,rfl,hc _ _ (by simp [hi])⟩
theorem Nums.parts {w:World} {ao:Option Addr} {n cap:Nat} {zs:List Int} (h:Nums w (.slice ao n cap) zs):n=zs.length∧n≤9223372036854775807:=by
 obtain ⟨ao',cap',hv,c1,c2,c3,c4⟩:=h
 obtain ⟨rfl,rfl,rfl⟩:=(Value.slice.injEq .. ▸ hv)
 exact ⟨rfl,by omega⟩
set_option maxRecDepth 20000 in
set_option maxHeartbeats 400000 in
theorem aqi (w:World) (ao:Option Addr) (n cap:Nat) (zs:List Int) (z:Int) (h:Nums w (.slice ao n cap) zs) :
  Calls Tryz.prog 86 #[.slice ao n cap,.int .i64 z] w fun e w'=>(∃ r:Int,e=.returned (.int .i64 r)∧decide (0≤r)=decide (z ∈ zs))∧w' = w:=by
 obtain ⟨hn,hb⟩:=h.parts
 have H:=hide h
 clear h
 go_enter Tryz.func86,Tryz.ntmps86
 go_wp2
 go_loopw [5,8] (fun _ iv wr=>∃ (i:Nat),iv=.int .i64 i∧i≤n∧z ∉ zs.take i∧wr=w) (fun _ iv _=>n - (intOf iv).toNat)
 case atStart=>exact ⟨0,rfl,Nat.zero_le _,by simp,rfl⟩
 case round =>
  obtain ⟨i,rfl,hi,hz,rfl⟩:=hrel
  have HZ:=hide hz
  clear hz
  by_cases hlt:i<n
  ·obtain ⟨b,off,rfl,hc⟩:=H.out.cell (i:=i) (by omega)
   have hlt' : (i:Int)<(n:Int):=by omega
   have hget:zs[i]? = some (zs[i]'(by omega)):=List.getElem?_eq_getElem _
   generalize zs[i]'(by omega)=y at hc hget
   have HG:=hide hget
   clear hget
   by_cases he:z=y
   ·subst he
    go_wp2
    go_ret
    exact ⟨⟨i,rfl,by simp [List.mem_of_getElem? HG.out]⟩,rfl⟩
   ·have hne:(z == y)=false:=beq_eq_false_iff_ne.2 he
    go_wp2
    go_roundw
    case rel=>exact ⟨i+1,by go_num,by omega,by rw [List.take_add_one,HG.out];simp [HZ.out,he],trivial⟩
    case measure=>simp [intOf];omega
  ·have hlt' : decide ((i:Int)<(n:Int))=false:=by simp;omega
   go_wp2
   go_ret
   exact ⟨⟨-1,rfl,by have:=HZ.out;rw [List.take_of_length_le (by omega)] at this;simp [this]⟩,rfl⟩
theorem aks (w:World) (ao:Option Addr) (n cap:Nat) (zs:List Int) (z:Int) (h:Nums w (.slice ao n cap) zs) :
  Calls Tryz.prog 61 #[.slice ao n cap,.int .i64 z] w fun e w'=>e=.returned (.bool (decide (z ∈ zs)))∧w' = w:=by
 have H:=hide h
 clear h
 go_enter Tryz.func61,Tryz.ntmps61
 go_wp2_with fail
 refine (aqi _ _ _ _ zs _ H.out).mono ?_
 rintro e w' ⟨⟨r,rfl,hr⟩,rfl⟩
 go_wp2
 go_ret
 exact ⟨rfl,rfl⟩
def IsM (w:World) (v:Value) (rows:List (List Int)) (L:Nat):Prop:=∃ vs:List Value,Ce w v 1 rows.length vs∧∀ (i:Nat) (u:Value) (z:List Int),vs[i]? = some u→rows[i]? = some z→IsRow w u z L
def IsP (w:World) (v:Value) (P:List Nat):Prop:=Ce w v 1 P.length (P.map (fun p:Nat=>Value.int .i64 (p:Int)))
theorem IsM.below {w w' : World} {v:Value} {rows:List (List Int)} {L:Nat} (h:IsM w v rows L) (hb:Below w.heap.size w w'):IsM w' v rows L:=by
 obtain ⟨vs,h1,h2⟩:=h
 exact ⟨vs,h1.below hb,fun i u z hu hz=>(h2 i u z hu hz).below hb⟩
theorem IsP.below {w w' : World} {v:Value} {P:List Nat} (h:IsP w v P) (hb:Below w.heap.size w w'):IsP w' v P:=Ce.below h hb
theorem IsM.parts {w:World} {v:Value} {rows:List (List Int)} {L:Nat} (h:IsM w v rows L):∃ ao cap,v=.slice ao rows.length cap∧rows.length≤9223372036854775807:=by
 obtain ⟨vs,⟨ao,cap,rfl,h1,h2,_⟩,_⟩:=h
 exact ⟨ao,cap,rfl,by omega⟩
theorem IsP.parts {w:World} {v:Value} {P:List Nat} (h:IsP w v P):∃ ao cap,v=.slice ao P.length cap∧P.length≤9223372036854775807:=by
 obtain ⟨ao,cap,rfl,h1,h2,_⟩:=h
 exact ⟨ao,cap,rfl,by omega⟩
theorem IsM.cell {w:World} {ao:Option Addr} {n cap:Nat} {rows:List (List Int)} {L i:Nat} {z:List Int} (h:IsM w (.slice ao n cap) rows L) (hz:rows[i]? = some z):∃ b off u,ao=some ⟨b,off,none⟩∧b<w.heap.size∧w.cell? ⟨b,off+i,none⟩ = some u∧IsRow w u z L:=by
 obtain ⟨vs,⟨ao',cap',hv,h1,h2,h3,h4⟩,h5⟩:=h
 obtain ⟨rfl,rfl,rfl⟩:=(Value.slice.injEq .. ▸ hv)
 have hi:i<rows.length:=(List.getElem?_eq_some_iff.1 hz).1
 obtain ⟨u,hu⟩:∃ u,vs[i]? = some u:=⟨_,List.getElem?_eq_getElem (by omega)⟩
 rcases h4 with h4 | ⟨b,off,rfl,hl,hc⟩
 ·omega
 ·exact ⟨b,off,u,rfl,hl,hc i u hu,h5 i u z hu hz⟩
theorem IsP.cell {w:World} {ao:Option Addr} {n cap:Nat} {P:List Nat} {i p:Nat} (h:IsP w (.slice ao n cap) P) (hp:P[i]? = some p):∃ b off,ao=some ⟨b,off,none⟩∧b<w.heap.size∧w.cell? ⟨b,off+i,none⟩ = some (.int .i64 (p:Int)):=by
 obtain ⟨ao',cap',hv,h1,h2,h3,h4⟩:=h
 obtain ⟨rfl,rfl,rfl⟩:=(Value.slice.injEq .. ▸ hv)
 have hi:i<P.length:=(List.getElem?_eq_some_iff.1 hp).1
 rcases h4 with h4 | ⟨b,off,rfl,hl,hc⟩
 ·omega
 ·exact ⟨b,off,rfl,hl,hc i _ (by rw [List.getElem?_map,hp];rfl)⟩
theorem IsP.nums {w:World} {v:Value} {P:List Nat} (h:IsP w v P):Nums w v (P.map (fun p:Nat=>(p:Int))):=by
 unfold Nums
 rw [List.length_map,List.map_map]
 exact h
def Bas (w:World) (q:Nat) (P:List Nat) (rows:List (List Int)) (lead:Int) (L:Nat):Prop:=∃ rv pv ng la lm lc,w.heap[q]? = some (.cells #[rv,pv,.bool ng,.slice la lm lc] 45 (0,0))∧IsM w rv rows L∧IsP w pv P∧IsW lead L (.agg #[.bool ng,.slice la lm lc]) w
theorem Bas.below {w w' : World} {q:Nat} {P:List Nat} {rows:List (List Int)} {lead:Int} {L:Nat} (h:Bas w q P rows lead L) (hb:Below w.heap.size w w'):Bas w' q P rows lead L:=by
 obtain ⟨rv,pv,ng,la,lm,lc,h1,h2,h3,h4⟩:=h
 exact ⟨rv,pv,ng,la,lm,lc,(hb.block _ (aaa h1)).trans h1,h2.below hb,h3.below hb,h4.ru (Ru.of_below hb)⟩
section
variable {dst:Option Tmp} {ty:TypeId} {pos:String} {after:Array Edge} {guard:Option (Nat × Bool)} {a:Act} {w:World} {ats:Array TypeId} {i j k g:Nat} {x y:Int} {L M K:Nat}
theorem acu {p:Addr} {o:Option Addr} (hp:a.eval (.tmp k)=.pointer (some p)) (hc:w.cell? p=some (.pointer o)) :
  Does Tryz.prog { dst,op:=.load 94 (.tmp k),type:=ty,pos,after,guard } a.eval w fun v' w'=>Below w.heap.size w w'∧Eqs (.pointer o) v' w' := by
 refine aay (v:=.pointer o) ?_ ⟨Below.refl _ _,rfl⟩
 rw [hp]
 go_simp
theorem aik {p:Addr} {ao:Option Addr} {n c:Nat} (hp:a.eval (.tmp k)=.pointer (some p)) (hc:w.cell? p=some (.slice ao n c)) :
  Does Tryz.prog { dst,op:=.load 22 (.tmp k),type:=ty,pos,after,guard } a.eval w fun v' w'=>Below w.heap.size w w'∧Eqs (.slice ao n c) v' w' := by
 refine aay (v:=.slice ao n c) ?_ ⟨Below.refl _ _,rfl⟩
 rw [hp]
 go_simp
theorem aco {p:Addr} {ao:Option Addr} {n c:Nat} (hp:a.eval (.tmp k)=.pointer (some p)) (hc:w.cell? p=some (.slice ao n c)) :
  Does Tryz.prog { dst,op:=.load 39 (.tmp k),type:=ty,pos,after,guard } a.eval w fun v' w'=>Below w.heap.size w w'∧Eqs (.slice ao n c) v' w' := by
 refine aay (v:=.slice ao n c) ?_ ⟨Below.refl _ _,rfl⟩
 rw [hp]
 go_simp
theorem avl {p:Addr} {ao:Option Addr} {n c:Nat} (hp:a.eval (.tmp k)=.pointer (some p)) (hc:w.cell? p=some (.slice ao n c)) :
  Does Tryz.prog { dst,op:=.load 43 (.tmp k),type:=ty,pos,after,guard } a.eval w fun v' w'=>Below w.heap.size w w'∧Eqs (.slice ao n c) v' w' := by
 refine aay (v:=.slice ao n c) ?_ ⟨Below.refl _ _,rfl⟩
 rw [hp]
 go_simp
theorem aed {p:Addr} (hp:a.eval (.tmp k)=.pointer (some p)) :
  Does Tryz.prog { dst,op:=.nilCheck (.tmp k),type:=ty,pos,after,guard } a.eval w fun v' w'=>Below w.heap.size w w'∧Eqs (.pointer (some p)) v' w' := by
 have e:(execOp a.eval { dst,op:=.nilCheck (.tmp k),type:=ty,pos,after,guard }).run Tryz.prog w=.ok (.value (.pointer (some p))) w:=by
  simp only [execOp,hp]
  go_simp
 refine ⟨?_⟩
 unfold Turns
 rw [e]
 exact ⟨Below.refl _ _,rfl⟩
theorem aex {f off:Nat} (hf:∀ w:World,(Instr.fieldAt 45 (.pointer (some ⟨g,0,none⟩)) f).run Tryz.prog w=.ok (.pointer (some ⟨g,off,none⟩)) w) (hp:a.eval (.tmp k)=.pointer (some ⟨g,0,none⟩)) :
  Does Tryz.prog { dst,op:=.fieldAddr 45 (.tmp k) f,type:=ty,pos,after,guard } a.eval w fun v' w'=>Below w.heap.size w w'∧Eqs (.pointer (some ⟨g,off,none⟩)) v' w' := by
 refine ⟨?_⟩
 unfold Turns
 simp only [execOp,hp]
 simp [hf]
 exact ⟨Below.refl _ _,rfl⟩
theorem fab0 (w:World):(Instr.fieldAt 45 (.pointer (some ⟨g,0,none⟩)) 0).run Tryz.prog w=.ok (.pointer (some ⟨g,0,none⟩)) w:=by go_simp
theorem fab1 (w:World):(Instr.fieldAt 45 (.pointer (some ⟨g,0,none⟩)) 1).run Tryz.prog w=.ok (.pointer (some ⟨g,1,none⟩)) w:=by go_simp
theorem fab2 (w:World):(Instr.fieldAt 45 (.pointer (some ⟨g,0,none⟩)) 2).run Tryz.prog w=.ok (.pointer (some ⟨g,2,none⟩)) w:=by go_simp
theorem ail {b off n c m:Nat} {ao:Option Addr} (h:a.eval (.tmp i)=.slice ao n c) (hao:ao=some ⟨b,off,none⟩) (hk:a.eval (.tmp j)=.int .i64 (m:Int)) (hl:m<n):Does Tryz.prog { dst,op:=.indexAddr 22 (.tmp i) (.tmp j),type:=ty,pos,after,guard } a.eval w fun v' w'=>Below w.heap.size w w'∧Eqs (.pointer (some ⟨b,off+m,none⟩)) v' w' := by
 subst hao
 have hl' : (m:Int)<(n:Int):=by omega
 have e:(execOp a.eval { dst,op:=.indexAddr 22 (.tmp i) (.tmp j),type:=ty,pos,after,guard }).run Tryz.prog w=.ok (.value (.pointer (some ⟨b,off+m,none⟩))) w:=by
  simp only [execOp,h,hk]
  go_simp
 refine ⟨?_⟩
 unfold Turns
 rw [e]
 exact ⟨Below.refl _ _,rfl⟩
theorem agd (h1:IsW x L (a.eval (.tmp i)) w) (h2:IsW y M (a.eval (.tmp j)) w) (hL:L≤400000) (hM:M≤400000) (hK:K≤w.heap.size) :
  Does Tryz.prog { dst,op:=.call { callee:=.value (.func 62),args:=#[.tmp i,.tmp j],argTypes:=ats },type:=ty,pos,after,guard } a.eval w fun v w'=>Below w.heap.size w w'∧FrW K (x*y) (L+M) v w' :=
 aas auq #[_,_] (by simp) ((mulF _ x y _ _ L M h1 h2 hL hM).mono fun e w' ⟨v,h,hf,hb⟩=>⟨v,h,hb,hf.low hK⟩)
theorem amr (h1:IsW x L (a.eval (.tmp i)) w) (h2:IsW y M (a.eval (.tmp j)) w) (hL:L≤400000) (hM:M≤400000) (hK:K≤w.heap.size) :
  Does Tryz.prog { dst,op:=.call { callee:=.value (.func 63),args:=#[.tmp i,.tmp j],argTypes:=ats },type:=ty,pos,after,guard } a.eval w fun v w'=>Below w.heap.size w w'∧FrW K (x - y) (L+M+1) v w' :=
 aas aup #[_,_] (by simp) ((subF _ x y _ _ L M h1 h2 hL hM).mono fun e w' ⟨v,h,hf,hb⟩=>⟨v,h,hb,hf.low hK⟩)
end
theorem adt {w:World} {v:Value} {zs:List Int} {L:Nat} (h:IsRow w v zs L):∀ z ∈ zs,(z.natAbs:Int)<pw L:=by
 intro z hz
 obtain ⟨k,hk⟩:=List.mem_iff_getElem?.1 hz
 obtain ⟨ao,cap,rfl,_⟩:=h.parts
 obtain ⟨b,off,ng,a,m,c,_,_,_,_,hw⟩:=h.cell hk
 exact af0 hw
def lstep (zs:List Int) (c:Nat) (s:Int) (e:Nat × List Int):Int:=s - zs.getD e.1 0*e.2.getD c 0
def lft (lead:Int) (zs:List Int) (P:List Nat) (rows:List (List Int)) (c:Nat) (x:Int):Int:=if c ∈ P then 0 else (P.zip rows).foldl (lstep zs c) (lead*x)
theorem akt {L:Nat} {lead x:Int} {zs:List Int} {c:Nat} (hl:(lead.natAbs:Int)<pw L) (hx:(x.natAbs:Int)<pw L) (hz:∀ z ∈ zs,(z.natAbs:Int)<pw L):∀ (es:List (Nat × List Int)),(∀ e ∈ es,∀ y ∈ e.2,(y.natAbs:Int)<pw L)→es.length≤4000000→((es.foldl (lstep zs c) (lead*x)).natAbs:Int)<pw (L+L+1):=by
 intro es he hn
 have hp:pw (L+L)=pw L*pw L:=aca L L
 have h0:=avj L
 have hG:∀ (l:List Int) (k:Nat),(∀ y ∈ l,(y.natAbs:Int)<pw L)→((l.getD k 0).natAbs:Int)<pw L:=by
  intro l k hl
  rw [List.getD_eq_getElem?_getD]
  cases h:l[k]? with
  | none=>simpa using h0
  | some y=>exact hl y (List.mem_of_getElem? h)
 have hM:∀ u v:Int,(u.natAbs:Int)<pw L→(v.natAbs:Int)<pw L→((u*v).natAbs:Int)≤pw L*pw L:=by
  intro u v hu hv
  rw [Int.natAbs_mul,Int.natCast_mul]
  exact Int.mul_le_mul (by omega) (by omega) (by omega) (by omega)
 have key:∀ (es:List (Nat × List Int)) (s:Int) (m:Nat),(∀ e ∈ es,∀ y ∈ e.2,(y.natAbs:Int)<pw L)→(s.natAbs:Int)≤m*(pw L*pw L)→((es.foldl (lstep zs c) s).natAbs:Int)≤((m+es.length:Nat):Int)*(pw L*pw L):=by
  intro es
  induction es with
  | nil=>intro s m _ h;simpa using h
  | cons e es ih =>
   intro s m he h
   rw [List.foldl_cons,List.length_cons]
   have h1:=ih (lstep zs c s e) (m+1) (fun e' h'=>he e' (by simp [h'])) (by
    have h2:=hM _ _ (hG zs e.1 hz) (hG e.2 c (he e (by simp)))
    have h3:((lstep zs c s e).natAbs:Int)≤(s.natAbs:Int)+((zs.getD e.1 0*e.2.getD c 0).natAbs:Int):=by unfold lstep;omega
    rw [Int.natCast_add,Int.add_mul]
    omega)
   rw [show m+(es.length+1)=m+1+es.length by omega]
   exact h1
 have h1:=key es (lead*x) 1 he (by have:=hM lead x hl hx;omega)
 rw [show pw (L+L+1)=4294967296*pw (L+L) from rfl,hp]
 have h2:((1+es.length:Nat):Int)*(pw L*pw L)≤4000001*(pw L*pw L):=Int.mul_le_mul_of_nonneg_right (by omega) (Int.mul_nonneg (by omega) (by omega))
 have h3:0<pw L*pw L:=Int.mul_pos h0 h0
 omega
theorem as5 (c:Nat) (P:List Nat):((c:Int) ∈ P.map (fun p:Nat=>(p:Int)))↔c ∈ P:=by
 simp only [List.mem_map]
 constructor
 ·rintro ⟨u,h,e⟩
  obtain rfl:u=c:=by omega
  exact h
 ·exact fun h=>⟨c,h,rfl⟩
theorem adu {n f K M:Nat} {w V:World} {z:Int} {ng ng' : Bool} {a a' : Option Addr} {m m' c c' : Nat} (hf:n≤f) (h:V.heap[f]? = some (.cells #[.bool ng',.slice a' m' c'] 27 (0,0))) (hb:Below n w V) (ho:FrW K z M (.agg #[.bool ng,.slice a m c]) V):FrW K z M (.agg #[.bool ng,.slice a m c]) ((V.setCell ⟨f,0,none⟩ (.bool ng)).setCell ⟨f,1,none⟩ (.slice a m c))∧Below n w ((V.setCell ⟨f,0,none⟩ (.bool ng)).setCell ⟨f,1,none⟩ (.slice a m c))∧(loadVar 27 ⟨f,0,none⟩).run Tryz.prog ((V.setCell ⟨f,0,none⟩ (.bool ng)).setCell ⟨f,1,none⟩ (.slice a m c))=.ok (.agg #[.bool ng,.slice a m c]) ((V.setCell ⟨f,0,none⟩ (.bool ng)).setCell ⟨f,1,none⟩ (.slice a m c)) :=
 ⟨ho.ru (act h _ _),(hb.setCell hf _).setCell hf _,lvw2 (abz h _ _)⟩
set_option maxRecDepth 20000 in
set_option maxHeartbeats 8000000 in
theorem an8 (W:World) (g0:Nat) (hg0:W.heap.size=g0) (c:Nat) (x lead:Int) (xv vr:Value) (g1 g2 q n L M:Nat) (zs:List Int) (P:List Nat) (rows:List (List Int)) (h1:W.heap[g1]? = some (.cells #[.pointer (some ⟨q,0,none⟩)] 94 (0,0))) (h2:W.heap[g2]? = some (.cells #[vr] 39 (0,0))) (hr:IsRow W vr zs L) (hB:Bas W q P rows lead L) (hx:IsW x L xv W) (hzn:zs.length=n) (hcn:c<n) (hrn:∀ r ∈ rows,r.length=n) (hP:∀ p ∈ P,p<n) (hPl:P.length=rows.length) (hPm:P.length≤100000) (hL:L≤100000) (hM:((lft lead zs P rows c x).natAbs:Int)<pw M) :
  Calls Tryz.prog 60 #[.int .i64 (c:Int),xv,.pointer (some ⟨g1,0,none⟩),.pointer (some ⟨g2,0,none⟩)] W fun e W'=>∃ v,e=.returned v∧FrW g0 (lft lead zs P rows c x) M v W'∧Below g0 W W' := by
 obtain ⟨nx,ax,mx,cx,xs,rfl,_⟩:=id hx
 obtain ⟨rv,pv,lng,la,lm,lc,hbq,hMr,hPr,hLd⟩:=hB
 obtain ⟨pa,pc,rfl,hPz⟩:=hPr.parts
 obtain ⟨ma,mc,rfl,hMz⟩:=hMr.parts
 obtain ⟨ra,rc,rfl,_⟩:=hr.parts
 have hb5:Below W.heap.size W ((W.alloc (.cells #[.bool nx,.slice ax mx cx] 27)).alloc (.cells #[.bool false,.slice none 0 0] 27)):=by (repeat' first|with_reducible(first|exact Below.refl _ _|assumption|refine gdrewN ?_ _|refine Below.alloc ?_ ?_ _|refine Below.drew ?_|refine Below.setCell ?_ ?_ _)|go_size)
 have hx5:((W.alloc (.cells #[.bool nx,.slice ax mx cx] 27)).alloc (.cells #[.bool false,.slice none 0 0] 27)).heap[W.heap.size]? = some (.cells #[.bool nx,.slice ax mx cx] 27 (0,0)):=ab0 (heap_alloc_new W _)
 have hz5:((W.alloc (.cells #[.bool nx,.slice ax mx cx] 27)).alloc (.cells #[.bool false,.slice none 0 0] 27)).heap[W.heap.size+1]? = some (.cells #[.bool false,.slice none 0 0] 27 (0,0)):=by
  have:=heap_alloc_new (W.alloc (.cells #[.bool nx,.slice ax mx cx] 27)) (.cells #[.bool false,.slice none 0 0] 27)
  simpa using this
 have hs5:((W.alloc (.cells #[.bool nx,.slice ax mx cx] 27)).alloc (.cells #[.bool false,.slice none 0 0] 27)).heap.size=W.heap.size+2:=by simp
 have HLDb:Hid ((lead.natAbs:Int)<pw L):=af0 hLd
 have HXb:Hid ((x.natAbs:Int)<pw L):=af0 hx
 have HZb:Hid (∀ z ∈ zs,(z.natAbs:Int)<pw L):=adt hr
 have HRb:Hid (∀ r ∈ rows,∀ y ∈ r,(y.natAbs:Int)<pw L):=(fun r hr'=>by
  obtain ⟨i,hi⟩:=List.mem_iff_getElem?.1 hr'
  obtain ⟨_,_,u,_,_,_,hu⟩:=hMr.cell hi
  exact adt hu)
 have HXW:=hide (hx.ru (Ru.of_below hb5))
 have HLD:=hide (hLd.ru (Ru.of_below hb5))
 have HRW:=hide (hr.below hb5)
 have HMR:=hide (hMr.below hb5)
 have HPR:=hide (hPr.below hb5)
 have HBQ:=hide ((hb5.block _ (aaa hbq)).trans hbq)
 have HG1:=hide ((hb5.block _ (aaa h1)).trans h1)
 have HG2:=hide ((hb5.block _ (aaa h2)).trans h2)
 have HPl:=hide (And.intro hPl (And.intro hP (And.intro hrn hzn)))
 have HM:=hide hM
 clear h1 h2 hr hx hbq hMr hPr hLd hPl hP hrn hM
 go_enter Tryz.func60,Tryz.ntmps60
 go_upto_region 1 with fail
 generalize (W.alloc (.cells #[.bool nx,.slice ax mx cx] 27)).alloc (.cells #[.bool false,.slice none 0 0] 27)=w5 at *
 rw [hg0] at hx5 hz5 hb5 hs5
 have HX5:=hide hx5
 have HZ5:=hide hz5
 have HB5:=hide hb5
 have c1:w5.cell? ⟨g1,0,none⟩ = some (.pointer (some ⟨q,0,none⟩)):=by rw [cell_of_row _ _ _ _ _ (0,0) HG1.out];rfl
 have c2:w5.cell? ⟨g2,0,none⟩ = some (.slice ra zs.length rc):=by rw [cell_of_row _ _ _ _ _ (0,0) HG2.out];rfl
 have b0:w5.cell? ⟨q,0,none⟩ = some (.slice ma rows.length mc):=by rw [cell_of_row _ _ _ _ _ (0,0) HBQ.out];rfl
 have b1:w5.cell? ⟨q,1,none⟩ = some (.slice pa P.length pc):=by rw [cell_of_row _ _ _ _ _ (0,0) HBQ.out];rfl
 have b2:w5.cell? ⟨q,2,none⟩ = some (.bool lng):=by rw [cell_of_row _ _ _ _ _ (0,0) HBQ.out];rfl
 have b3:w5.cell? ⟨q,2+1,none⟩ = some (.slice la lm lc):=by rw [cell_of_row _ _ _ _ _ (0,0) HBQ.out];rfl
 have hg1:=aaa HG1.out
 have hg2:=aaa HG2.out
 have hq:=aaa HBQ.out
 have KC:=aks w5 pa P.length pc _ (c:Int) HPR.out.nums
 rw [show decide ((c:Int) ∈ P.map (fun p:Nat=>(p:Int)))=decide (c ∈ P) by rw [decide_eq_decide];exact as5 c P] at KC
 have KC:=hide KC
 clear hx5 hz5 hb5
 go_wp2_with fail
 refine KC.out.mono ?_
 rintro e w6 ⟨rfl,h6⟩
 obtain rfl:w5=w6:=h6.symm
 clear h6
 by_cases hcP:c ∈ P
 ·rw [decide_eq_true hcP]
  obtain ⟨_,z0,z1,f0,f1⟩:=aal HZ5.out
  have HE:=hide (adu (K:=g0) (M:=M) (z:=0) (n:=g0) (Nat.le_succ g0) HZ5.out HB5.out (adh _ (by have:=HB5.out.size;omega)))
  clear KC
  go_wp2
  exact bodyPost_ret (v:=.agg #[.bool false,.slice none 0 0]) (abw (g:=g0+1) rfl rfl HE.out.2.2) rfl ⟨_,rfl,by rw [lft,if_pos hcP];exact HE.out.1,HE.out.2.1⟩
 ·rw [decide_eq_false hcP]
  clear KC
  go_upto_region 3 with fail
  refine acw 7 [17,18,19,20,21,22,7] [Eqs (.pointer (some ⟨q,0,none⟩)),Eqs (.pointer (some ⟨q,0,none⟩)),Eqs (.pointer (some ⟨q,2,none⟩)),(IsW lead L),(IsW x L),(FrW g0 (lead*x) (L+L)),(NewW w5.heap.size)] rfl rfl (by decide) (by kernel_rfl) (by kernel_rfl) (by decide) (by kernel_rfl) ⟨Eqs.mono _,Eqs.mono _,Eqs.mono _,(Mono.of4 (IsW.mono4 _ _)),(Mono.of4 (IsW.mono4 _ _)),(Mono.of4 (FrW.mono4 _ _ _)),(NewW.mono _),trivial⟩ ?_ ?_
  ·exact ⟨⟨rfl,fun a_ w_ _ hB hR hD=>acu ((hR 2 rfl).trans (aac rfl)) ((hB.cell (p:=⟨g1,0,none⟩) hg1).trans c1)⟩,
     ⟨rfl,fun a_ w_ _ hB hR hD=>aed (show a_.eval (.tmp 17)=.pointer (some ⟨q,0,none⟩) from hD 0 rfl)⟩,
     ⟨rfl,fun a_ w_ _ hB hR hD=>aex fab2 (show a_.eval (.tmp 18)=.pointer (some ⟨q,0,none⟩) from hD 1 rfl)⟩,
     ⟨rfl,fun a_ w_ _ hB hR hD=>adr (show a_.eval (.tmp 19)=.pointer (some ⟨q,2,none⟩) from hD 2 rfl) ((hB.cell (p:=⟨q,2,none⟩) hq).trans b2) ((hB.cell (p:=⟨q,2+1,none⟩) hq).trans b3) (Mono.of4 (IsW.mono4 _ _) _ _ _ hB HLD.out)⟩,
     ⟨rfl,fun a_ w_ _ hB hR hD=>ahs ((hR 5 rfl).trans (aac rfl)) ((hB.block _ (aaa HX5.out)).trans HX5.out) (Mono.of4 (IsW.mono4 _ _) _ _ _ hB HXW.out)⟩,
     ⟨rfl,fun a_ w_ _ hB hR hD=>agd (show (IsW lead L) (a_.eval (.tmp 20)) w_ from hD 3 rfl) (show (IsW x L) (a_.eval (.tmp 21)) w_ from hD 4 rfl) (by omega) (by omega) (by have:=HB5.out.size;have:=hB.size;omega)⟩,
     ⟨rfl,fun a_ w_ _ hB hR hD=>amm hB.size⟩,
     trivial⟩
  ·intro a' w' hn' hd' hB' hR' hP'
   have e17:a'.eval (.tmp 17)=.pointer (some ⟨q,0,none⟩):=hP' 0 (by decide)
   have e18:a'.eval (.tmp 18)=.pointer (some ⟨q,0,none⟩):=hP' 1 (by decide)
   have e19:a'.eval (.tmp 19)=.pointer (some ⟨q,2,none⟩):=hP' 2 (by decide)
   obtain ⟨u20,e20⟩:∃ u,a'.eval (.tmp 20)=u:=⟨_,rfl⟩
   obtain ⟨u21,e21⟩:∃ u,a'.eval (.tmp 21)=u:=⟨_,rfl⟩
   obtain ⟨u22,e22⟩:∃ u,a'.eval (.tmp 22)=u:=⟨_,rfl⟩
   have hT:(FrW g0 (lead*x) (L+L)) (a'.eval (.tmp 22)) w' := hP' 5 (by decide)
   rw [e22] at hT
   obtain ⟨u7,e7⟩:∃ u,a'.eval (.tmp 7)=u:=⟨_,rfl⟩
   have hN:(NewW w5.heap.size) (a'.eval (.tmp 7)) w' := hP' 6 (by decide)
   rw [e7] at hN
   refine abn hn' hd' hR' (.s4 rfl <| .same rfl <| .same rfl <| .same rfl <| .new e7 <| .s4 rfl <| .s4 rfl <| .same rfl <| .new e17 <| .new e18 <| .new e19 <| .new e20 <| .new e21 <| .new e22 <| .s16 rfl <| .s4 rfl <| .s4 rfl <| .s4 rfl <| .same rfl <| .nil) ?_
   clear e17 e18 e19 e20 e21 e22 e7
   obtain ⟨ng7,a7,m7,c7,rfl⟩:=hT.agg
   obtain ⟨g7,hg7,rfl,hh7⟩:=hN
   obtain ⟨_,s0,s1,sf0,sf1⟩:=aal hh7
   have hE7:=adu (n:=w5.heap.size) hg7 hh7 hB' hT
   have hS7:=abz hh7 (.bool ng7) (.slice a7 m7 c7)
   have HHM:=hide (And.intro hcP (And.intro hPm hMz))
   clear hn' hd' hR' hP'
   go_upto_region 4 with fail
   generalize (w'.setCell ⟨g7,0,none⟩ (.bool ng7)).setCell ⟨g7,1,none⟩ (.slice a7 m7 c7)=w7 at *
   obtain ⟨hF7,hB7,_⟩:=hE7
   have c1' := (hB7.cell (p:=⟨g1,0,none⟩) hg1).trans c1
   have b1' := (hB7.cell (p:=⟨q,1,none⟩) hq).trans b1
   have HF7:=hide (hF7.fit (L' := L+L+1) (by have:=akt (zs:=zs) (c:=c) HLDb.out HXb.out HZb.out [] (fun e he=>by cases he) (by simp);simpa using this))
   have HB7:=hide hB7
   have HS7:=hide hS7
   clear hF7 hB7 hS7 hh7 hT hB' s0 s1 sf0 sf1
   go_wp2_with fail
   go_loopw [8,9,28] (fun _ _ iv wr=>∃ (k:Nat),iv=.int .i64 k∧k≤P.length∧Below w5.heap.size w5 wr∧∃ sng sa sm sc,wr.heap[g7]? = some (.cells #[.bool sng,.slice sa sm sc] 27 (0,0))∧FrW g0 (((P.zip rows).take k).foldl (lstep zs c) (lead*x)) (L+L+1) (.agg #[.bool sng,.slice sa sm sc]) wr) (fun _ _ iv _=>P.length - (intOf iv).toNat)
   case atStart=>exact ⟨0,rfl,Nat.zero_le _,HB7.out,ng7,a7,m7,c7,HS7.out,HF7.out⟩
   case round =>
    obtain ⟨k,rfl,hk,hbw,sng,sa,sm,sc,hs7,hf7⟩:=hrel
    have HW:=hide hbw
    have HSr:=hide hs7
    have HFr:=hide hf7
    by_cases hlt:k<P.length
    ·have hlt' : (k:Int)<(P.length:Int):=by omega
     obtain ⟨p,hp⟩:∃ p,P[k]? = some p:=⟨_,List.getElem?_eq_getElem hlt⟩
     obtain ⟨r,hr⟩:∃ r,rows[k]? = some r:=⟨_,List.getElem?_eq_getElem (by have:=HPl.out.1;omega)⟩
     have hpn:p<zs.length:=by rw [HPl.out.2.2.2];exact HPl.out.2.1 p (List.mem_of_getElem? hp)
     have hrl:r.length=n:=HPl.out.2.2.1 r (List.mem_of_getElem? hr)
     have hkm:k<rows.length:=(List.getElem?_eq_some_iff.1 hr).1
     have hcn' : c<r.length:=by omega
     obtain ⟨y1,hy1⟩:∃ y,zs[p]? = some y:=⟨_,List.getElem?_eq_getElem hpn⟩
     obtain ⟨y2,hy2⟩:∃ y,r[c]? = some y:=⟨_,List.getElem?_eq_getElem hcn'⟩
     obtain ⟨pb,po,rfl,hpb,p0⟩:=(HPR.out.below hbw).cell hp
     obtain ⟨mb,mo,uv,rfl,hmb,m0,hur⟩:=(HMR.out.below hbw).cell hr
     obtain ⟨ea,ec,rfl,_⟩:=hur.parts
     obtain ⟨eb,eo,eng,ea',em',ec',rfl,heb,e0,e1,hy2w⟩:=hur.cell hy2
     obtain ⟨rb,ro,rng,ra',rm',rc',rfl,hrb,r0,r1,hy1w⟩:=(HRW.out.below hbw).cell hy1
     have HY1:=hide hy1w
     have HY2:=hide hy2w
     have c1r:=(hbw.cell (p:=⟨g1,0,none⟩) hg1).trans c1
     have c2r:=(hbw.cell (p:=⟨g2,0,none⟩) hg2).trans c2
     have b0r:=(hbw.cell (p:=⟨q,0,none⟩) hq).trans b0
     have hg1r:=Nat.lt_of_lt_of_le hg1 hbw.size
     have hg2r:=Nat.lt_of_lt_of_le hg2 hbw.size
     have hqr:=Nat.lt_of_lt_of_le hq hbw.size
     obtain ⟨sk,hsk⟩:∃ s,((P.zip rows).take k).foldl (lstep zs c) (lead*x)=s:=⟨_,rfl⟩
     have HSK:=hide (hf7.is)
     rw [hsk] at HSK
     have HNX:Hid (((P.zip rows).take (k+1)).foldl (lstep zs c) (lead*x)=sk - y1*y2):=by
      have hz:(P.zip rows)[k]? = some (p,r):=by rw [List.getElem?_zip_eq_some];exact ⟨hp,hr⟩
      refine (show _ = _ from ?_)
      rw [afi _ _ hz,hsk,lstep,List.getD_eq_getElem?_getD,List.getD_eq_getElem?_getD,hy1,hy2]
      rfl
     clear hbw hs7 hf7 hy1w hy2w hur hp hr hy1 hy2 hsk
     go_upto_region 7 with fail
     refine acw 17 [33,34,35,36,37,38,39,40,41,42,43,44,45,46,47,48,49] [(IsW sk (L+L+1)),Eqs (.slice (some ⟨rb,ro,none⟩) zs.length rc),Eqs (.int .i64 (p:Int)),Eqs (.pointer (some ⟨rb,ro+p*2,none⟩)),(IsW y1 L),Eqs (.pointer (some ⟨q,0,none⟩)),Eqs (.pointer (some ⟨q,0,none⟩)),Eqs (.pointer (some ⟨q,0,none⟩)),Eqs (.slice (some ⟨mb,mo,none⟩) rows.length mc),Eqs (.int .i64 (k:Int)),Eqs (.pointer (some ⟨mb,mo+k,none⟩)),Eqs (.slice (some ⟨eb,eo,none⟩) r.length ec),Eqs (.int .i64 (c:Int)),Eqs (.pointer (some ⟨eb,eo+c*2,none⟩)),(IsW y2 L),(FrW g0 (y1*y2) (L+L)),(FrW g0 (sk - y1*y2) (L+L+1+(L+L)+1))] rfl rfl (by decide) (by kernel_rfl) (by kernel_rfl) (by decide) (by kernel_rfl) ⟨(Mono.of4 (IsW.mono4 _ _)),Eqs.mono _,Eqs.mono _,Eqs.mono _,(Mono.of4 (IsW.mono4 _ _)),Eqs.mono _,Eqs.mono _,Eqs.mono _,Eqs.mono _,Eqs.mono _,Eqs.mono _,Eqs.mono _,Eqs.mono _,Eqs.mono _,(Mono.of4 (IsW.mono4 _ _)),(Mono.of4 (FrW.mono4 _ _ _)),(Mono.of4 (FrW.mono4 _ _ _)),trivial⟩ ?_ ?_
     ·exact ⟨⟨rfl,fun a_ w_ _ hB hR hD=>ahs ((hR 7 rfl).trans (aac rfl)) ((hB.block _ (aaa HSr.out)).trans HSr.out) (Mono.of4 (IsW.mono4 _ _) _ _ _ hB HSK.out)⟩,
        ⟨rfl,fun a_ w_ _ hB hR hD=>aco ((hR 3 rfl).trans (aac rfl)) ((hB.cell (p:=⟨g2,0,none⟩) hg2r).trans c2r)⟩,
        ⟨rfl,fun a_ w_ _ hB hR hD=>aao ((hR 9 rfl).trans (aac rfl))⟩,
        ⟨rfl,fun a_ w_ _ hB hR hD=>ac3 (show a_.eval (.tmp 34)=.slice (some ⟨rb,ro,none⟩) zs.length rc from hD 1 rfl) rfl (show a_.eval (.tmp 35)=.int .i64 (p:Int) from hD 2 rfl) hpn⟩,
        ⟨rfl,fun a_ w_ _ hB hR hD=>adr (show a_.eval (.tmp 36)=.pointer (some ⟨rb,ro+p*2,none⟩) from hD 3 rfl) ((hB.cell (p:=⟨rb,ro+p*2,none⟩) hrb).trans r0) ((hB.cell (p:=⟨rb,ro+p*2+1,none⟩) hrb).trans r1) (Mono.of4 (IsW.mono4 _ _) _ _ _ hB HY1.out)⟩,
        ⟨rfl,fun a_ w_ _ hB hR hD=>acu ((hR 2 rfl).trans (aac rfl)) ((hB.cell (p:=⟨g1,0,none⟩) hg1r).trans c1r)⟩,
        ⟨rfl,fun a_ w_ _ hB hR hD=>aed (show a_.eval (.tmp 38)=.pointer (some ⟨q,0,none⟩) from hD 5 rfl)⟩,
        ⟨rfl,fun a_ w_ _ hB hR hD=>aex fab0 (show a_.eval (.tmp 39)=.pointer (some ⟨q,0,none⟩) from hD 6 rfl)⟩,
        ⟨rfl,fun a_ w_ _ hB hR hD=>aik (show a_.eval (.tmp 40)=.pointer (some ⟨q,0,none⟩) from hD 7 rfl) ((hB.cell (p:=⟨q,0,none⟩) hqr).trans b0r)⟩,
        ⟨rfl,fun a_ w_ _ hB hR hD=>aao ((hR 8 rfl).trans (aac rfl))⟩,
        ⟨rfl,fun a_ w_ _ hB hR hD=>ail (show a_.eval (.tmp 41)=.slice (some ⟨mb,mo,none⟩) rows.length mc from hD 8 rfl) rfl (show a_.eval (.tmp 42)=.int .i64 (k:Int) from hD 9 rfl) hkm⟩,
        ⟨rfl,fun a_ w_ _ hB hR hD=>aco (show a_.eval (.tmp 43)=.pointer (some ⟨mb,mo+k,none⟩) from hD 10 rfl) ((hB.cell (p:=⟨mb,mo+k,none⟩) hmb).trans m0)⟩,
        ⟨rfl,fun a_ w_ _ hB hR hD=>aao ((hR 0 rfl).trans (aac rfl))⟩,
        ⟨rfl,fun a_ w_ _ hB hR hD=>ac3 (show a_.eval (.tmp 44)=.slice (some ⟨eb,eo,none⟩) r.length ec from hD 11 rfl) rfl (show a_.eval (.tmp 45)=.int .i64 (c:Int) from hD 12 rfl) hcn'⟩,
        ⟨rfl,fun a_ w_ _ hB hR hD=>adr (show a_.eval (.tmp 46)=.pointer (some ⟨eb,eo+c*2,none⟩) from hD 13 rfl) ((hB.cell (p:=⟨eb,eo+c*2,none⟩) heb).trans e0) ((hB.cell (p:=⟨eb,eo+c*2+1,none⟩) heb).trans e1) (Mono.of4 (IsW.mono4 _ _) _ _ _ hB HY2.out)⟩,
        ⟨rfl,fun a_ w_ _ hB hR hD=>agd (show (IsW y1 L) (a_.eval (.tmp 37)) w_ from hD 4 rfl) (show (IsW y2 L) (a_.eval (.tmp 47)) w_ from hD 14 rfl) (by omega) (by omega) (by have:=HB5.out.size;have:=HW.out.size;have:=hB.size;omega)⟩,
        ⟨rfl,fun a_ w_ _ hB hR hD=>amr (show (IsW sk (L+L+1)) (a_.eval (.tmp 33)) w_ from hD 0 rfl) (FrW.is (show (FrW g0 (y1*y2) (L+L)) (a_.eval (.tmp 48)) w_ from hD 15 rfl)) (by omega) (by omega) (by have:=HB5.out.size;have:=HW.out.size;have:=hB.size;omega)⟩,
        trivial⟩
     ·intro a' w' hn' hd' hB' hR' hP'
      obtain ⟨u33,e33⟩:∃ u,a'.eval (.tmp 33)=u:=⟨_,rfl⟩
      have e34:a'.eval (.tmp 34)=.slice (some ⟨rb,ro,none⟩) zs.length rc:=hP' 1 (by decide)
      have e35:a'.eval (.tmp 35)=.int .i64 (p:Int):=hP' 2 (by decide)
      have e36:a'.eval (.tmp 36)=.pointer (some ⟨rb,ro+p*2,none⟩):=hP' 3 (by decide)
      obtain ⟨u37,e37⟩:∃ u,a'.eval (.tmp 37)=u:=⟨_,rfl⟩
      have e38:a'.eval (.tmp 38)=.pointer (some ⟨q,0,none⟩):=hP' 5 (by decide)
      have e39:a'.eval (.tmp 39)=.pointer (some ⟨q,0,none⟩):=hP' 6 (by decide)
      have e40:a'.eval (.tmp 40)=.pointer (some ⟨q,0,none⟩):=hP' 7 (by decide)
      have e41:a'.eval (.tmp 41)=.slice (some ⟨mb,mo,none⟩) rows.length mc:=hP' 8 (by decide)
      have e42:a'.eval (.tmp 42)=.int .i64 (k:Int):=hP' 9 (by decide)
      have e43:a'.eval (.tmp 43)=.pointer (some ⟨mb,mo+k,none⟩):=hP' 10 (by decide)
      have e44:a'.eval (.tmp 44)=.slice (some ⟨eb,eo,none⟩) r.length ec:=hP' 11 (by decide)
      have e45:a'.eval (.tmp 45)=.int .i64 (c:Int):=hP' 12 (by decide)
      have e46:a'.eval (.tmp 46)=.pointer (some ⟨eb,eo+c*2,none⟩):=hP' 13 (by decide)
      obtain ⟨u47,e47⟩:∃ u,a'.eval (.tmp 47)=u:=⟨_,rfl⟩
      obtain ⟨u48,e48⟩:∃ u,a'.eval (.tmp 48)=u:=⟨_,rfl⟩
      obtain ⟨u49,e49⟩:∃ u,a'.eval (.tmp 49)=u:=⟨_,rfl⟩
      have hT:(FrW g0 (sk - y1*y2) (L+L+1+(L+L)+1)) (a'.eval (.tmp 49)) w' := hP' 16 (by decide)
      rw [e49] at hT
      refine abn hn' hd' hR' (.s16 rfl <| .s16 rfl <| .same rfl <| .new e33 <| .new e34 <| .new e35 <| .new e36 <| .new e37 <| .new e38 <| .new e39 <| .new e40 <| .new e41 <| .new e42 <| .new e43 <| .new e44 <| .new e45 <| .new e46 <| .new e47 <| .new e48 <| .new e49 <| .same rfl <| .same rfl <| .nil) ?_
      clear e33 e34 e35 e36 e37 e38 e39 e40 e41 e42 e43 e44 e45 e46 e47 e48 e49
      obtain ⟨ng9,a9,m9,c9,rfl⟩:=hT.agg
      have hs9:=(hB'.block _ (aaa HSr.out)).trans HSr.out
      obtain ⟨_,s0,s1,sf0,sf1⟩:=aal hs9
      have HE9:=hide (adu (n:=w5.heap.size) hg7 hs9 (HW.out.trans (hB'.mono HW.out.size)) hT)
      have HS9:=hide (abz hs9 (.bool ng9) (.slice a9 m9 c9))
      clear hn' hd' hR' hP' hB' hT hs9
      go_wp2
      go_roundw
      case rel =>
       refine ⟨k+1,by go_num,by omega,HE9.out.2.1,ng9,a9,m9,c9,HS9.out,?_⟩
       rw [HNX.out]
       refine HE9.out.1.fit ?_
       rw [←HNX.out]
       exact akt HLDb.out HXb.out HZb.out _ (fun e he=>HRb.out _ (List.of_mem_zip (List.mem_of_mem_take he)).2) (by rw [List.length_take,List.length_zip];have:=HHM.out.2.1;omega)
      case measure=>simp [intOf];omega
    ·have hlt' : decide ((k:Int)<(P.length:Int))=false:=by simp;omega
     obtain ⟨_,s0,s1,sf0,sf1⟩:=aal hs7
     have hz9:=(hbw.block _ (aaa HZ5.out)).trans HZ5.out
     obtain ⟨_,t0,t1,tf0,tf1⟩:=aal hz9
     have hfl:((P.zip rows).take k).foldl (lstep zs c) (lead*x)=lft lead zs P rows c x:=by
      rw [lft,if_neg HHM.out.1,List.take_of_length_le (by rw [List.length_zip];omega)]
     rw [hfl] at hf7
     have HE:=hide (adu (K:=g0) (M:=M) (n:=g0) (Nat.le_succ g0) hz9 (HB5.out.trans (hbw.mono (by have:=HB5.out.size;omega))) (hf7.fit HM.out))
     clear hbw hs7 hf7 hz9 hfl
     go_wp2
     exact bodyPost_ret (v:=_) (abw (g:=g0+1) rfl rfl HE.out.2.2) rfl ⟨_,rfl,HE.out.1,HE.out.2.1⟩
theorem aaw {W:World} {f:Nat} {x:Value} {T:TypeId} (h:W.heap[f]? = some (.cells #[x] T (0,0))):f<W.heap.size∧W.cell? ⟨f,0,none⟩ = some x∧W.frozen? ⟨f,0,none⟩ = false:=⟨aaa h,by rw [cell_of_row _ _ _ _ _ (0,0) h];rfl,frozen_of_row _ _ _ _ _ h⟩
theorem ORow.low {K K' : Nat} {w:World} {v:Value} {zs:List Int} {L:Nat} (h:ORow K w v zs L) (hk:K'≤K):ORow K' w v zs L:=by
 obtain ⟨bv,e,hK,⟨es,B,T,h1,h2,h3,h4,h5⟩,hl⟩:=h
 exact ⟨bv,e,Nat.le_trans hk hK,⟨es,B,T,h1,h2,h3,fun k e z a b c=>by obtain ⟨g1,g2,g3,g4,g5⟩:=h4 k e z a b c;exact ⟨g1,g2,g3,Nat.le_trans hk g4,g5⟩,h5⟩,hl⟩
theorem aqj:Has Tryz.prog 60:=by unfold Has;kernel_rfl
structure Shp (n:Nat) (P:List Nat) (rows:List (List Int)):Prop where
 rl:∀ r ∈ rows,r.length=n
 lt:∀ p ∈ P,p<n
 pl:P.length=rows.length
 pm:P.length≤100000
def lftR (lead:Int) (zs:List Int) (P:List Nat) (rows:List (List Int)) (n:Nat):List Int:=gRow (fun c=>lft lead zs P rows c (zs.getD c 0)) n
set_option maxRecDepth 20000 in
set_option maxHeartbeats 4000000 in
theorem aqk (w:World) (q n L M:Nat) (vr:Value) (zs:List Int) (P:List Nat) (rows:List (List Int)) (lead:Int) (hr:IsRow w vr zs L) (hB:Bas w q P rows lead L) (hzn:zs.length=n) (hS:Shp n P rows) (hn:n≤1000000) (hL:L≤100000) (hM:∀ z ∈ lftR lead zs P rows n,(z.natAbs:Int)<pw M) :
  Calls Tryz.prog 33 #[.pointer (some ⟨q,0,none⟩),vr] w fun e w'=>∃ r,e=.returned r∧ORow w.heap.size w' r (lftR lead zs P rows n) M∧Below w.heap.size w w' := by
 subst hzn
 obtain ⟨ra,rc,rfl,_⟩:=hr.parts
 have hmf:∀ (fn:Fn) (first cap:Array Value) (w:World),(Instr.makeFunc fn first cap).run Tryz.prog w=.ok (.func fn first cap) w:=fun _ _ _ _=>rfl
 obtain ⟨w2,hw2⟩:∃ w2,(w.alloc (.cells #[.pointer (some ⟨q,0,none⟩)] 94)).alloc (.cells #[.slice ra zs.length rc] 39)=w2:=⟨_,rfl⟩
 have h1:w2.heap[w.heap.size]? = some (.cells #[.pointer (some ⟨q,0,none⟩)] 94 (0,0)):=by rw [←hw2];exact ab0 (heap_alloc_new w _)
 have h2:w2.heap[w.heap.size+1]? = some (.cells #[.slice ra zs.length rc] 39 (0,0)):=by
  rw [←hw2]
  have:=heap_alloc_new (w.alloc (.cells #[.pointer (some ⟨q,0,none⟩)] 94)) (.cells #[.slice ra zs.length rc] 39)
  simpa using this
 have hb2:Below w.heap.size w w2:=by rw [←hw2];exact (hAl _ _).trans ((hAl _ _).mono (hAl _ _).size)
 have hT:Turn w2 60 #[.pointer (some ⟨w.heap.size,0,none⟩),.pointer (some ⟨w.heap.size+1,0,none⟩)] zs L M (fun c=>lft lead zs P rows c (zs.getD c 0)):=by
  intro W c z xv hb hz hx
  have hc:c<zs.length:=(List.getElem?_eq_some_iff.1 hz).1
  have hzd:zs.getD c 0=z:=by rw [List.getD_eq_getElem?_getD,hz];rfl
  have hbW:=hb2.trans (hb.mono hb2.size)
  have hMc:((lft lead zs P rows c z).natAbs:Int)<pw M:=hM _ (by
   rw [←hzd]
   exact List.mem_map.2 ⟨c,List.mem_range.2 (by omega),rfl⟩)
  have K:=an8 W W.heap.size rfl c z lead xv (.slice ra zs.length rc) w.heap.size (w.heap.size+1) q zs.length L M zs P rows ((hb.block _ (aaa h1)).trans h1) ((hb.block _ (aaa h2)).trans h2) (hr.below hbW) (hB.below hbW) hx rfl (by omega) hS.rl hS.lt hS.pl hS.pm hL hMc
  have e1:(fun c=>lft lead zs P rows c (zs.getD c 0)) c=lft lead zs P rows c z:=by show lft lead zs P rows c (zs.getD c 0) = _;rw [hzd]
  rw [e1]
  exact K
 have K:=ado w2 _ zs L M (hr.below hb2) (by omega) _ aqj _ _ hT
 obtain ⟨_,c2,_⟩:=aaw h2
 have HW2:=hide hw2
 have HB2:=hide hb2
 have K:=hide K
 clear hr hB hS hM hT h1 h2 hb2 hw2
 go_enter Tryz.func33,Tryz.ntmps33
 go_upto_region 1 with fail
 rw [HW2.out]
 go_wp2_with fail
 refine K.out.mono ?_
 rintro e w3 ⟨r,rfl,ho,hb3⟩
 obtain ⟨ao,cap,rfl,_⟩:=ho.is.parts
 have HO:=hide ho
 have HB3:=hide (HB2.out.trans (hb3.mono HB2.out.size))
 clear ho hb3 K
 go_wp2
 refine bodyPost_ret (v:=_) (by simp [results,Tryz.results33,go_sem];try rfl) rfl ⟨_,rfl,HO.out.low HB2.out.size,HB3.out⟩
theorem age {dst:Option Tmp} {ty:TypeId} {pos:String} {after:Array Edge} {guard:Option (Nat × Bool)} {a:Act} {w:World} {k:Nat} {p:Addr} {z:Int} (hp:a.eval (.tmp k)=.pointer (some p)) (hc:w.cell? p=some (.int .i64 z)) :
  Does Tryz.prog { dst,op:=.load 3 (.tmp k),type:=ty,pos,after,guard } a.eval w fun v' w'=>Below w.heap.size w w'∧Eqs (.int .i64 z) v' w' := by
 refine aay (v:=.int .i64 z) ?_ ⟨Below.refl _ _,rfl⟩
 rw [hp]
 go_simp
theorem an9:Has Tryz.prog 55:=by unfold Has;kernel_rfl
theorem aql {dst:Option Tmp} {ty:TypeId} {pos:String} {after:Array Edge} {guard:Option (Nat × Bool)} {a:Act} {w:World} {ats:Array TypeId} {i j:Nat} {x y:Int} {L M K:Nat} (h1:IsW x L (a.eval (.tmp i)) w) (h2:IsW y M (a.eval (.tmp j)) w) (hL:L≤400000) (hM:M≤400000) (hK:K≤w.heap.size) :
  Does Tryz.prog { dst,op:=.call { callee:=.value (.func 55),args:=#[.tmp i,.tmp j],argTypes:=ats },type:=ty,pos,after,guard } a.eval w fun v w'=>Below w.heap.size w w'∧FrW K (x / y) (L+4) v w' :=
 aas an9 #[_,_] (by simp) ((af1 _ x y _ _ L M h1 h2 hL hM).mono fun e w' ⟨v,h,hf,hb⟩=>⟨v,h,hb,hf.low hK⟩)
set_option maxRecDepth 20000 in
set_option maxHeartbeats 4000000 in
theorem aoa (W:World) (g0:Nat) (hg0:W.heap.size=g0) (k:Nat) (x:Int) (xv:Value) (L:Nat) (hx:IsW x L xv W) (hL:L≤100000) :
  Calls Tryz.prog 66 #[.int .i64 (k:Int),xv] W fun e W'=>∃ v,e=.returned v∧FrW g0 (-x) L v W'∧Below g0 W W' := by
 obtain ⟨nx,ax,mx,cx,xs,rfl,_⟩:=id hx
 have hb5:Below W.heap.size W ((W.alloc (.cells #[.bool nx,.slice ax mx cx] 27)).alloc (.cells #[.bool false,.slice none 0 0] 27)):=by (repeat' first|with_reducible(first|exact Below.refl _ _|assumption|refine gdrewN ?_ _|refine Below.alloc ?_ ?_ _|refine Below.drew ?_|refine Below.setCell ?_ ?_ _)|go_size)
 have hz5:((W.alloc (.cells #[.bool nx,.slice ax mx cx] 27)).alloc (.cells #[.bool false,.slice none 0 0] 27)).heap[W.heap.size+1]? = some (.cells #[.bool false,.slice none 0 0] 27 (0,0)):=by
  have:=heap_alloc_new (W.alloc (.cells #[.bool nx,.slice ax mx cx] 27)) (.cells #[.bool false,.slice none 0 0] 27)
  simpa using this
 have K:=negF _ x _ L (hx.ru (Ru.of_below hb5)) (by omega)
 rw [hg0] at hb5 hz5
 have HB5:=hide hb5
 have HZ5:=hide hz5
 have K:=hide K
 clear hx hb5 hz5
 go_enter Tryz.func66,Tryz.ntmps66
 go_wp2_with fail
 refine K.out.mono ?_
 rintro e w6 ⟨v,rfl,hf,hb6⟩
 obtain ⟨ng6,a6,m6,c6,rfl⟩:=hf.agg
 have hz6:=(hb6.block _ (aaa HZ5.out)).trans HZ5.out
 obtain ⟨_,z0,z1,f0,f1⟩:=aal hz6
 have hb06:=HB5.out.trans (hb6.mono (by have:=HB5.out.size;omega))
 have HE:=hide (adu (K:=g0) (n:=g0) (Nat.le_succ g0) hz6 hb06 (hf.low (by have:=HB5.out.size;omega)))
 clear hf hb6 hz6 hb06 K
 go_wp2
 exact bodyPost_ret (v:=_) (abw (g:=g0+1) rfl rfl HE.out.2.2) rfl ⟨_,rfl,HE.out.1,HE.out.2.1⟩
set_option maxRecDepth 20000 in
set_option maxHeartbeats 8000000 in
theorem aob (W:World) (g0:Nat) (hg0:W.heap.size=g0) (k cc gl gc gr gb q L M:Nat) (x lead:Int) (xv lv rv:Value) (ls rs:List Int) (y1 y2 y3:Int) (u0 u1:Value) (lng:Bool) (la:Option Addr) (lm lc:Nat)
  (h1:W.heap[gl]? = some (.cells #[lv] 39 (0,0))) (h2:W.heap[gc]? = some (.cells #[.int .i64 (cc:Int)] 3 (0,0))) (h3:W.heap[gr]? = some (.cells #[rv] 39 (0,0))) (h4:W.heap[gb]? = some (.cells #[.pointer (some ⟨q,0,none⟩)] 94 (0,0))) (h5:W.heap[q]? = some (.cells #[u0,u1,.bool lng,.slice la lm lc] 45 (0,0)))
  (hl:IsRow W lv ls L) (hr:IsRow W rv rs L) (hd:IsW lead L (.agg #[.bool lng,.slice la lm lc]) W) (hx:IsW x L xv W) (hy1:ls[cc]? = some y1) (hy2:rs[cc]? = some y2) (hy3:ls[k]? = some y3) (hL:L≤50000) (hM:(((y1*x - y2*y3) / lead).natAbs:Int)<pw M) :
  Calls Tryz.prog 68 #[.int .i64 (k:Int),xv,.pointer (some ⟨gl,0,none⟩),.pointer (some ⟨gc,0,none⟩),.pointer (some ⟨gr,0,none⟩),.pointer (some ⟨gb,0,none⟩)] W fun e W'=>∃ v,e=.returned v∧FrW g0 ((y1*x - y2*y3) / lead) M v W'∧Below g0 W W' := by
 obtain ⟨nx,ax,mx,cx,xs,rfl,_⟩:=id hx
 obtain ⟨lav,lcp,rfl,_⟩:=hl.parts
 obtain ⟨rav,rcp,rfl,_⟩:=hr.parts
 have hb5:Below W.heap.size W ((W.alloc (.cells #[.bool nx,.slice ax mx cx] 27)).alloc (.cells #[.bool false,.slice none 0 0] 27)):=by (repeat' first|with_reducible(first|exact Below.refl _ _|assumption|refine gdrewN ?_ _|refine Below.alloc ?_ ?_ _|refine Below.drew ?_|refine Below.setCell ?_ ?_ _)|go_size)
 have hx5:((W.alloc (.cells #[.bool nx,.slice ax mx cx] 27)).alloc (.cells #[.bool false,.slice none 0 0] 27)).heap[W.heap.size]? = some (.cells #[.bool nx,.slice ax mx cx] 27 (0,0)):=ab0 (heap_alloc_new W _)
 have hz5:((W.alloc (.cells #[.bool nx,.slice ax mx cx] 27)).alloc (.cells #[.bool false,.slice none 0 0] 27)).heap[W.heap.size+1]? = some (.cells #[.bool false,.slice none 0 0] 27 (0,0)):=by
  have:=heap_alloc_new (W.alloc (.cells #[.bool nx,.slice ax mx cx] 27)) (.cells #[.bool false,.slice none 0 0] 27)
  simpa using this
 have HXW:=hide (hx.ru (Ru.of_below hb5))
 have HLD:=hide (hd.ru (Ru.of_below hb5))
 obtain ⟨lb,lo,n1,a1,m1,c1,rfl,hlb,l0,l1,hw1⟩:=(hl.below hb5).cell hy1
 obtain ⟨lb',lo',n3,a3,m3,c3,e3,_,k0,k1,hw3⟩:=(hl.below hb5).cell hy3
 obtain ⟨rfl,rfl⟩:lb=lb'∧lo=lo' := by simpa using e3
 obtain ⟨rb,ro,n2,a2,m2,c2,rfl,hrb,r0,r1,hw2⟩:=(hr.below hb5).cell hy2
 have HY1:=hide hw1
 have HY2:=hide hw2
 have HY3:=hide hw3
 have hcl:cc<ls.length:=(List.getElem?_eq_some_iff.1 hy1).1
 have hcr:cc<rs.length:=(List.getElem?_eq_some_iff.1 hy2).1
 have hkl:k<ls.length:=(List.getElem?_eq_some_iff.1 hy3).1
 obtain ⟨hgl,cl,_⟩:=aaw ((hb5.block _ (aaa h1)).trans h1)
 obtain ⟨hgc,ccl,_⟩:=aaw ((hb5.block _ (aaa h2)).trans h2)
 obtain ⟨hgr,cr,_⟩:=aaw ((hb5.block _ (aaa h3)).trans h3)
 obtain ⟨hgb,cb,_⟩:=aaw ((hb5.block _ (aaa h4)).trans h4)
 have hq5:=(hb5.block _ (aaa h5)).trans h5
 have b2:=(show _=some (Value.bool lng) from by rw [cell_of_row _ _ _ _ _ (0,0) hq5];rfl:((W.alloc (.cells #[.bool nx,.slice ax mx cx] 27)).alloc (.cells #[.bool false,.slice none 0 0] 27)).cell? ⟨q,2,none⟩ = some (.bool lng))
 have b3:=(show _=some (Value.slice la lm lc) from by rw [cell_of_row _ _ _ _ _ (0,0) hq5];rfl:((W.alloc (.cells #[.bool nx,.slice ax mx cx] 27)).alloc (.cells #[.bool false,.slice none 0 0] 27)).cell? ⟨q,2+1,none⟩ = some (.slice la lm lc))
 have hq:=aaa hq5
 have HM:=hide hM
 clear hl hr hd hx hy1 hy2 hy3 hw1 hw2 hw3 e3 h1 h2 h3 h4 h5 hq5 hM
 go_enter Tryz.func68,Tryz.ntmps68
 go_upto_region 1 with fail
 generalize (W.alloc (.cells #[.bool nx,.slice ax mx cx] 27)).alloc (.cells #[.bool false,.slice none 0 0] 27)=w5 at *
 rw [hg0] at hx5 hz5 hb5
 have HX5:=hide hx5
 have HZ5:=hide hz5
 have HB5:=hide hb5
 clear hx5 hz5 hb5
 refine acw 17 [10,11,12,13,14,15,16,17,18,19,20,21,22,23,24,25,9] [Eqs (.slice (some ⟨lb,lo,none⟩) ls.length lcp),Eqs (.int .i64 (cc:Int)),Eqs (.pointer (some ⟨lb,lo+cc*2,none⟩)),(IsW y1 L),(IsW x L),(FrW g0 (y1*x) (L+L)),Eqs (.slice (some ⟨rb,ro,none⟩) rs.length rcp),Eqs (.int .i64 (cc:Int)),Eqs (.pointer (some ⟨rb,ro+cc*2,none⟩)),(IsW y2 L),Eqs (.slice (some ⟨lb,lo,none⟩) ls.length lcp),Eqs (.int .i64 (k:Int)),Eqs (.pointer (some ⟨lb,lo+k*2,none⟩)),(IsW y3 L),(FrW g0 (y2*y3) (L+L)),(FrW g0 (y1*x - y2*y3) (L+L+(L+L)+1)),(NewW w5.heap.size)] rfl rfl (by decide) (by kernel_rfl) (by kernel_rfl) (by decide) (by kernel_rfl) ⟨Eqs.mono _,Eqs.mono _,Eqs.mono _,(Mono.of4 (IsW.mono4 _ _)),(Mono.of4 (IsW.mono4 _ _)),(Mono.of4 (FrW.mono4 _ _ _)),Eqs.mono _,Eqs.mono _,Eqs.mono _,(Mono.of4 (IsW.mono4 _ _)),Eqs.mono _,Eqs.mono _,Eqs.mono _,(Mono.of4 (IsW.mono4 _ _)),(Mono.of4 (FrW.mono4 _ _ _)),(Mono.of4 (FrW.mono4 _ _ _)),(NewW.mono _),trivial⟩ ?_ ?_
 ·exact ⟨⟨rfl,fun a_ w_ _ hB hR hD=>aco ((hR 2 rfl).trans (aac rfl)) ((hB.cell (p:=⟨gl,0,none⟩) hgl).trans cl)⟩,
    ⟨rfl,fun a_ w_ _ hB hR hD=>age ((hR 3 rfl).trans (aac rfl)) ((hB.cell (p:=⟨gc,0,none⟩) hgc).trans ccl)⟩,
    ⟨rfl,fun a_ w_ _ hB hR hD=>ac3 (show a_.eval (.tmp 10)=.slice (some ⟨lb,lo,none⟩) ls.length lcp from hD 0 rfl) rfl (show a_.eval (.tmp 11)=.int .i64 (cc:Int) from hD 1 rfl) hcl⟩,
    ⟨rfl,fun a_ w_ _ hB hR hD=>adr (show a_.eval (.tmp 12)=.pointer (some ⟨lb,lo+cc*2,none⟩) from hD 2 rfl) ((hB.cell (p:=⟨lb,lo+cc*2,none⟩) hlb).trans l0) ((hB.cell (p:=⟨lb,lo+cc*2+1,none⟩) hlb).trans l1) (Mono.of4 (IsW.mono4 _ _) _ _ _ hB HY1.out)⟩,
    ⟨rfl,fun a_ w_ _ hB hR hD=>ahs ((hR 7 rfl).trans (aac rfl)) ((hB.block _ (aaa HX5.out)).trans HX5.out) (Mono.of4 (IsW.mono4 _ _) _ _ _ hB HXW.out)⟩,
    ⟨rfl,fun a_ w_ _ hB hR hD=>agd (show (IsW y1 L) (a_.eval (.tmp 13)) w_ from hD 3 rfl) (show (IsW x L) (a_.eval (.tmp 14)) w_ from hD 4 rfl) (by omega) (by omega) (by have:=HB5.out.size;have:=hB.size;omega)⟩,
    ⟨rfl,fun a_ w_ _ hB hR hD=>aco ((hR 4 rfl).trans (aac rfl)) ((hB.cell (p:=⟨gr,0,none⟩) hgr).trans cr)⟩,
    ⟨rfl,fun a_ w_ _ hB hR hD=>age ((hR 3 rfl).trans (aac rfl)) ((hB.cell (p:=⟨gc,0,none⟩) hgc).trans ccl)⟩,
    ⟨rfl,fun a_ w_ _ hB hR hD=>ac3 (show a_.eval (.tmp 16)=.slice (some ⟨rb,ro,none⟩) rs.length rcp from hD 6 rfl) rfl (show a_.eval (.tmp 17)=.int .i64 (cc:Int) from hD 7 rfl) hcr⟩,
    ⟨rfl,fun a_ w_ _ hB hR hD=>adr (show a_.eval (.tmp 18)=.pointer (some ⟨rb,ro+cc*2,none⟩) from hD 8 rfl) ((hB.cell (p:=⟨rb,ro+cc*2,none⟩) hrb).trans r0) ((hB.cell (p:=⟨rb,ro+cc*2+1,none⟩) hrb).trans r1) (Mono.of4 (IsW.mono4 _ _) _ _ _ hB HY2.out)⟩,
    ⟨rfl,fun a_ w_ _ hB hR hD=>aco ((hR 2 rfl).trans (aac rfl)) ((hB.cell (p:=⟨gl,0,none⟩) hgl).trans cl)⟩,
    ⟨rfl,fun a_ w_ _ hB hR hD=>aao ((hR 0 rfl).trans (aac rfl))⟩,
    ⟨rfl,fun a_ w_ _ hB hR hD=>ac3 (show a_.eval (.tmp 20)=.slice (some ⟨lb,lo,none⟩) ls.length lcp from hD 10 rfl) rfl (show a_.eval (.tmp 21)=.int .i64 (k:Int) from hD 11 rfl) hkl⟩,
    ⟨rfl,fun a_ w_ _ hB hR hD=>adr (show a_.eval (.tmp 22)=.pointer (some ⟨lb,lo+k*2,none⟩) from hD 12 rfl) ((hB.cell (p:=⟨lb,lo+k*2,none⟩) hlb).trans k0) ((hB.cell (p:=⟨lb,lo+k*2+1,none⟩) hlb).trans k1) (Mono.of4 (IsW.mono4 _ _) _ _ _ hB HY3.out)⟩,
    ⟨rfl,fun a_ w_ _ hB hR hD=>agd (show (IsW y2 L) (a_.eval (.tmp 19)) w_ from hD 9 rfl) (show (IsW y3 L) (a_.eval (.tmp 23)) w_ from hD 13 rfl) (by omega) (by omega) (by have:=HB5.out.size;have:=hB.size;omega)⟩,
    ⟨rfl,fun a_ w_ _ hB hR hD=>amr (FrW.is (show (FrW g0 (y1*x) (L+L)) (a_.eval (.tmp 15)) w_ from hD 5 rfl)) (FrW.is (show (FrW g0 (y2*y3) (L+L)) (a_.eval (.tmp 24)) w_ from hD 14 rfl)) (by omega) (by omega) (by have:=HB5.out.size;have:=hB.size;omega)⟩,
    ⟨rfl,fun a_ w_ _ hB hR hD=>amm hB.size⟩,
    trivial⟩
 ·intro a' w' hn' hd' hB' hR' hP'
  have e10:a'.eval (.tmp 10)=.slice (some ⟨lb,lo,none⟩) ls.length lcp:=hP' 0 (by decide)
  have e11:a'.eval (.tmp 11)=.int .i64 (cc:Int):=hP' 1 (by decide)
  have e12:a'.eval (.tmp 12)=.pointer (some ⟨lb,lo+cc*2,none⟩):=hP' 2 (by decide)
  obtain ⟨u13,e13⟩:∃ u,a'.eval (.tmp 13)=u:=⟨_,rfl⟩
  obtain ⟨u14,e14⟩:∃ u,a'.eval (.tmp 14)=u:=⟨_,rfl⟩
  obtain ⟨u15,e15⟩:∃ u,a'.eval (.tmp 15)=u:=⟨_,rfl⟩
  have e16:a'.eval (.tmp 16)=.slice (some ⟨rb,ro,none⟩) rs.length rcp:=hP' 6 (by decide)
  have e17:a'.eval (.tmp 17)=.int .i64 (cc:Int):=hP' 7 (by decide)
  have e18:a'.eval (.tmp 18)=.pointer (some ⟨rb,ro+cc*2,none⟩):=hP' 8 (by decide)
  obtain ⟨u19,e19⟩:∃ u,a'.eval (.tmp 19)=u:=⟨_,rfl⟩
  have e20:a'.eval (.tmp 20)=.slice (some ⟨lb,lo,none⟩) ls.length lcp:=hP' 10 (by decide)
  have e21:a'.eval (.tmp 21)=.int .i64 (k:Int):=hP' 11 (by decide)
  have e22:a'.eval (.tmp 22)=.pointer (some ⟨lb,lo+k*2,none⟩):=hP' 12 (by decide)
  obtain ⟨u23,e23⟩:∃ u,a'.eval (.tmp 23)=u:=⟨_,rfl⟩
  obtain ⟨u24,e24⟩:∃ u,a'.eval (.tmp 24)=u:=⟨_,rfl⟩
  obtain ⟨u25,e25⟩:∃ u,a'.eval (.tmp 25)=u:=⟨_,rfl⟩
  have hT:(FrW g0 (y1*x - y2*y3) (L+L+(L+L)+1)) (a'.eval (.tmp 25)) w' := hP' 15 (by decide)
  rw [e25] at hT
  obtain ⟨u9,e9⟩:∃ u,a'.eval (.tmp 9)=u:=⟨_,rfl⟩
  have hN:(NewW w5.heap.size) (a'.eval (.tmp 9)) w' := hP' 16 (by decide)
  rw [e9] at hN
  refine abn hn' hd' hR' (.s4 rfl <| .s4 rfl <| .same rfl <| .new e9 <| .new e10 <| .new e11 <| .new e12 <| .new e13 <| .new e14 <| .new e15 <| .new e16 <| .new e17 <| .new e18 <| .new e19 <| .new e20 <| .new e21 <| .new e22 <| .new e23 <| .new e24 <| .new e25 <| .s4 rfl <| .same rfl <| .same rfl <| .nil) ?_
  clear e10 e11 e12 e13 e14 e15 e16 e17 e18 e19 e20 e21 e22 e23 e24 e25 e9
  obtain ⟨ng9,a9,m9,c9,rfl⟩:=hT.agg
  obtain ⟨g9,hg9,rfl,hh9⟩:=hN
  obtain ⟨_,s0,s1,sf0,sf1⟩:=aal hh9
  have hE9:=adu (n:=w5.heap.size) hg9 hh9 hB' hT
  have hS9:=abz hh9 (.bool ng9) (.slice a9 m9 c9)
  clear hn' hd' hR' hP'
  go_upto_region 2 with fail
  generalize (w'.setCell ⟨g9,0,none⟩ (.bool ng9)).setCell ⟨g9,1,none⟩ (.slice a9 m9 c9)=w9 at *
  obtain ⟨hF9,hB9,_⟩:=hE9
  have cb9:=(hB9.cell (p:=⟨gb,0,none⟩) hgb).trans cb
  have b29:=(hB9.cell (p:=⟨q,2,none⟩) hq).trans b2
  have b39:=(hB9.cell (p:=⟨q,2+1,none⟩) hq).trans b3
  have hgb9:=Nat.lt_of_lt_of_le hgb hB9.size
  have hq9:=Nat.lt_of_lt_of_le hq hB9.size
  have HLD9:=hide (HLD.out.ru (Ru.of_below hB9))
  have HF9:=hide hF9.is
  have HB9:=hide hB9
  have HS9:=hide hS9
  clear hF9 hB9 hS9 hh9 hT hB' s0 s1 sf0 sf1
  refine acw 6 [26,27,28,29,30,31] [(IsW (y1*x - y2*y3) (L+L+(L+L)+1)),Eqs (.pointer (some ⟨q,0,none⟩)),Eqs (.pointer (some ⟨q,0,none⟩)),Eqs (.pointer (some ⟨q,2,none⟩)),(IsW lead L),(FrW g0 ((y1*x - y2*y3) / lead) (L+L+(L+L)+1+4))] rfl rfl (by decide) (by kernel_rfl) (by kernel_rfl) (by decide) (by kernel_rfl) ⟨(Mono.of4 (IsW.mono4 _ _)),Eqs.mono _,Eqs.mono _,Eqs.mono _,(Mono.of4 (IsW.mono4 _ _)),(Mono.of4 (FrW.mono4 _ _ _)),trivial⟩ ?_ ?_
  ·exact ⟨⟨rfl,fun a_ w_ _ hB hR hD=>ahs ((hR 9 rfl).trans (aac rfl)) ((hB.block _ (aaa HS9.out)).trans HS9.out) (Mono.of4 (IsW.mono4 _ _) _ _ _ hB HF9.out)⟩,
     ⟨rfl,fun a_ w_ _ hB hR hD=>acu ((hR 5 rfl).trans (aac rfl)) ((hB.cell (p:=⟨gb,0,none⟩) hgb9).trans cb9)⟩,
     ⟨rfl,fun a_ w_ _ hB hR hD=>aed (show a_.eval (.tmp 27)=.pointer (some ⟨q,0,none⟩) from hD 1 rfl)⟩,
     ⟨rfl,fun a_ w_ _ hB hR hD=>aex fab2 (show a_.eval (.tmp 28)=.pointer (some ⟨q,0,none⟩) from hD 2 rfl)⟩,
     ⟨rfl,fun a_ w_ _ hB hR hD=>adr (show a_.eval (.tmp 29)=.pointer (some ⟨q,2,none⟩) from hD 3 rfl) ((hB.cell (p:=⟨q,2,none⟩) hq9).trans b29) ((hB.cell (p:=⟨q,2+1,none⟩) hq9).trans b39) (Mono.of4 (IsW.mono4 _ _) _ _ _ hB HLD9.out)⟩,
     ⟨rfl,fun a_ w_ _ hB hR hD=>aql (show (IsW (y1*x - y2*y3) (L+L+(L+L)+1)) (a_.eval (.tmp 26)) w_ from hD 0 rfl) (show (IsW lead L) (a_.eval (.tmp 30)) w_ from hD 4 rfl) (by omega) (by omega) (by have:=HB5.out.size;have:=HB9.out.size;have:=hB.size;omega)⟩,
     trivial⟩
  ·intro a' w' hn' hd' hB' hR' hP'
   obtain ⟨u26,e26⟩:∃ u,a'.eval (.tmp 26)=u:=⟨_,rfl⟩
   have e27:a'.eval (.tmp 27)=.pointer (some ⟨q,0,none⟩):=hP' 1 (by decide)
   have e28:a'.eval (.tmp 28)=.pointer (some ⟨q,0,none⟩):=hP' 2 (by decide)
   have e29:a'.eval (.tmp 29)=.pointer (some ⟨q,2,none⟩):=hP' 3 (by decide)
   obtain ⟨u30,e30⟩:∃ u,a'.eval (.tmp 30)=u:=⟨_,rfl⟩
   obtain ⟨u31,e31⟩:∃ u,a'.eval (.tmp 31)=u:=⟨_,rfl⟩
   have hT2:(FrW g0 ((y1*x - y2*y3) / lead) (L+L+(L+L)+1+4)) (a'.eval (.tmp 31)) w' := hP' 5 (by decide)
   rw [e31] at hT2
   refine abn hn' hd' hR' (.s16 rfl <| .s4 rfl <| .s4 rfl <| .same rfl <| .same rfl <| .new e26 <| .new e27 <| .new e28 <| .new e29 <| .new e30 <| .new e31 <| .nil) ?_
   clear e26 e27 e28 e29 e30 e31
   obtain ⟨ngA,aA,mA,cA,rfl⟩:=hT2.agg
   have hzA:=(hB'.block _ (Nat.lt_of_lt_of_le (aaa HZ5.out) HB9.out.size)).trans ((HB9.out.block _ (aaa HZ5.out)).trans HZ5.out)
   obtain ⟨_,t0,t1,tf0,tf1⟩:=aal hzA
   have hbA:=HB5.out.trans ((HB9.out.trans (hB'.mono HB9.out.size)).mono (by have:=HB5.out.size;omega))
   have HE:=hide (adu (K:=g0) (M:=M) (n:=g0) (Nat.le_succ g0) hzA hbA (hT2.fit HM.out))
   clear hn' hd' hR' hP' hB' hT2 hzA hbA
   go_wp2
   exact bodyPost_ret (v:=_) (abw (g:=g0+1) rfl rfl HE.out.2.2) rfl ⟨_,rfl,HE.out.1,HE.out.2.1⟩
def waits (ops:Array Oper):Nat→Nat→Nat→Bool
 | 0,_,_=>false
 | f+1,i,j=>match ops[i]? with
  | some o=>o.after.any fun e=>Region.binds .any e && (e.on == j || waits ops f e.on j)
  | none=>false
def Shut (ops:Array Oper) (l:Array Bool):Prop:=∀ j o,ops[j]? = some o→l.getD j false=true→∀ e ∈ o.after,Region.binds .any e=true→l.getD e.on false=true
theorem afj {ops:Array Oper} {l:Array Bool} (hc:Shut ops l):∀ f i j o,ops[i]? = some o→(∀ e ∈ o.after,Region.binds .any e=true→l.getD e.on false=true)→waits ops f i j=true→l.getD j false=true
 | 0,_,_,_,_,_,h=>by simp [waits] at h
 | f+1,i,j,o,ho,hl,h=>by
  rw [waits,ho] at h
  simp only at h
  rw [←Array.any_toList] at h
  obtain ⟨e,he,h3⟩:=List.any_eq_true.1 h
  replace he:=Array.mem_toList_iff.1 he
  simp only [Bool.and_eq_true,Bool.or_eq_true,beq_iff_eq] at h3
  obtain ⟨hb,h3⟩:=h3
  have hd:=hl e he hb
  rcases h3 with h3 | h3
  ·rw [←h3];exact hd
  ·cases hq:ops[e.on]? with
   | none=>cases f <;> simp [waits,hq] at h3
   | some q=>exact afj hc f e.on j q hq (hc e.on q hq hd) h3
theorem Shut.set {ops:Array Oper} {l:Array Bool} {i:Nat} {o:Oper} (hc:Shut ops l) (ho:ops[i]? = some o) (hd:∀ e ∈ o.after,Region.binds .any e=true→l.getD e.on false=true):Shut ops (l.setIfInBounds i true):=by
 intro j q hq hj e he hb
 have up:l.getD e.on false=true→(l.setIfInBounds i true).getD e.on false=true:=fun h=>by
  by_cases hei:e.on=i
  ·have hlt:e.on<l.size:=by
    apply Classical.byContradiction
    intro hn
    rw [Array.getD_eq_getD_getElem?,Array.getElem?_eq_none (by omega)] at h
    cases h
   rw [hei,Array.getD_eq_getD_getElem?,Array.getElem?_setIfInBounds_self_of_lt (by omega)]
   rfl
  ·rw [getD_set_ne false (fun h=>hei h.symm)]
   exact h
 by_cases hji:j=i
 ·subst hji
  obtain rfl:o=q:=by rw [ho] at hq;exact Option.some.inj hq
  exact up (hd e he hb)
 ·rw [getD_set_ne false (fun h=>hji h.symm)] at hj
  exact up (hc j q hq hj e he hb)
theorem ab6 {P:Program} {ops:Array Oper} {Q:Exit→Act→World→Prop} {id n:Nat} {a:Act} {w:World} (m:Nat) (Ds:List Nat) (Ps:List Says) (hm:P.follows .mixedOrders=true) (hn:a.tmps.size=n) (hnd:Ds.Nodup) (hlt:(Ds.all fun d=>decide (d<n))=true)
  (hdep:(ops.toList.zipIdx.all fun p=>p.1.after.all fun e=>decide (e.on<p.2))=true) (hms:m≤ops.size) (hall:((List.range ops.size).all fun i=>decide (i<m) || (List.range i).all fun j=>waits ops ops.size i j)=true) (hM:Monos Ps) (hD:Duties P n Ds Ps a w (ops.toList.take m) Ds Ps)
  (hend:∀ a' w',a'.tmps.size=n→a'.defers=a.defers→Below w.heap.size w w'→Rest Ds a a'→(∀ j,j<Ds.length→Ps.getD j (fun _ _=>True) (a'.eval (.tmp (Ds.getD j 0))) w')→wpList P ops Q (ops.toList.drop m) a' w'):(Code.region id ops true).wp P Q a w:=by
 obtain ⟨hlen,hat⟩:=hD.take hms
 have hL:∀ k,k≤ops.size→wpOps P ops Q (List.range' k (ops.size - k))=wpList P ops Q (ops.toList.drop k):=fun k hk=>by
  have:=wpOps_eq_wpList (P:=P) (ops:=ops) (Q:=Q) (ops.toList.drop k) k (fun j=>by rw [List.getElem?_drop,Array.getElem?_toList])
  rw [←this]
  simp
 have hneed:∀ i o,ops[i]? = some o→m≤i→∀ l:Array Bool,Shut ops l→(∀ e ∈ o.after,Region.binds .any e=true→l.getD e.on false=true)→∀ j,j<i→l.getD j false=true:=by
  intro i o ho hi l hc hl j hj
  have hio:i<ops.size:=(Array.getElem?_eq_some_iff.1 ho).1
  have h1:=List.all_eq_true.1 hall i (List.mem_range.2 hio)
  simp only [Bool.or_eq_true,decide_eq_true_eq] at h1
  rcases h1 with h1 | h1
  ·omega
  ·exact afj hc _ i j o ho hl (List.all_eq_true.1 h1 j (List.mem_range.2 hj))
 refine ach hm (fun l a' w'=>(l.size=ops.size∧Shut ops l)∧(((∀ j,m≤j→l.getD j false=false)∧Mid n Ds Ps a w (l.extract 0 m) a' w')∨∃ j,m<j∧j≤ops.size∧(∀ k,k<j→l.getD k false=true)∧(∀ k,j≤k→l.getD k false=false)∧wpOps P ops Q (List.range' j (ops.size - j)) a' w')) ?_ ?_ ?_
 ·refine ⟨⟨by simp,fun j o _ hj=>?_⟩,.inl ⟨fun j _=>?_,by simp [hlen];omega,hn,rfl,Below.drew (Below.refl _ _),fun _ _=>rfl,fun j hj=>?_⟩⟩
  ·exfalso
   simp [Array.getElem?_replicate] at hj
   split at hj <;> simp at hj
  ·simp [Array.getElem?_replicate]
   split <;> simp
  ·exfalso
   by_cases hjm:j<m
   ·rw [aa5 hjm] at hj
    simp [Array.getElem?_replicate] at hj
    split at hj <;> simp at hj
   ·rw [Array.getD_eq_getD_getElem?,Array.getElem?_eq_none (by simp;omega)] at hj
    simp at hj
 ·rintro l a' w' ⟨⟨hs,hcl⟩,hI⟩ hr
  have hal:=ad1 hdep hs hr
  rcases hI with ⟨h1,h2,h3,h4,h5,h6,h7⟩ | ⟨j,hj1,hj2,hj3,hj4,hj5⟩
  ·have hmo:m=ops.size:=by
    apply Classical.byContradiction
    intro hne
    have:=hal m (by omega)
    rw [h1 m (Nat.le_refl _)] at this
    cases this
   have:=hend a' w' h3 h4 h5 h6 (fun j hj=>h7 j (by rw [aa5 (by omega)];exact hal j (by omega)))
   rw [List.drop_eq_nil_of_le (by simp;omega)] at this
   exact this
  ·have hje:j=ops.size:=by
    apply Classical.byContradiction
    intro hne
    have:=hal j (by omega)
    rw [hj4 j (Nat.le_refl _)] at this
    cases this
   subst hje
   simpa [wpOps] using hj5
 ·rintro l a' w' ⟨⟨hs,hcl⟩,hI⟩ i hi
  obtain ⟨hun,o,ho,hdeps⟩:=mem_ready.1 hi
  have hio:i<ops.size:=(Array.getElem?_eq_some_iff.1 ho).1
  have hset:∀ k,k≠i→(l.setIfInBounds i true).getD k false=l.getD k false:=fun k hk=>getD_set_ne false (fun e=>hk e.symm)
  have hseti:(l.setIfInBounds i true).getD i false=true:=by
   rw [Array.getD_eq_getD_getElem?,Array.getElem?_setIfInBounds_self_of_lt (by omega)]
   rfl
  have hif:l.getD i false=false:=by
   rw [Array.getD_eq_getD_getElem?] at hun ⊢
   cases hc:l[i]? with
   | none=>rfl
   | some b=>rw [hc] at hun;simpa using hun
  have hcl' : Shut ops (l.setIfInBounds i true):=hcl.set ho hdeps
  have hrun:∀ j,j=i→wpOps P ops Q (List.range' j (ops.size - j)) a' w'→m≤j→(∀ k,k<j→l.getD k false=true)→(∀ k,j≤k→l.getD k false=false)→wpOp P ops Q i (fun a' w'=>((l.setIfInBounds i true).size=ops.size∧Shut ops (l.setIfInBounds i true))∧(((∀ j,m≤j→(l.setIfInBounds i true).getD j false=false)∧Mid n Ds Ps a w ((l.setIfInBounds i true).extract 0 m) a' w')∨∃ j,m<j∧j≤ops.size∧(∀ k,k<j→(l.setIfInBounds i true).getD k false=true)∧(∀ k,j≤k→(l.setIfInBounds i true).getD k false=false)∧wpOps P ops Q (List.range' j (ops.size - j)) a' w')) a' w' := by
   rintro j rfl hw hmj hlo hhi
   rw [show ops.size - j=(ops.size - (j+1))+1 by omega,List.range'_succ,wpOps_cons] at hw
   refine wpOp_mono (fun a2 w2 h=>⟨⟨by simpa using hs,hcl'⟩,.inr ⟨j+1,by omega,by omega,fun k hk=>?_,fun k hk=>?_,h⟩⟩) hw
   ·by_cases e:k=j
    ·subst e;exact hseti
    ·rw [hset k e];exact hlo k (by omega)
   ·rw [hset k (by omega)];exact hhi k (by omega)
  rcases hI with ⟨h1,hmid⟩ | ⟨j,hj1,hj2,hj3,hj4,hj5⟩
  ·by_cases him:i<m
   ·have hd' : ∀ e ∈ o.after,Region.binds .any e=true→(l.extract 0 m).getD e.on false=true:=fun e he hb=>by
     have h2:=List.all_eq_true.1 hdep (o,i) (by rw [List.mem_zipIdx_iff_getElem?];simpa using ho)
     have h3:e.on<i:=by simpa using Array.all_eq_true_iff_forall_mem.1 h2 e he
     rw [aa5 (by omega)]
     exact hdeps e he hb
    refine wpOp_mono (fun a2 w2 h=>⟨⟨by simpa using hs,hcl'⟩,.inl ⟨fun k hk=>?_,?_⟩⟩) (ake hat (by omega) hnd hlt hM ho (by omega) hmid hd')
    ·rw [hset k (by omega)]
     exact h1 k hk
    ·rw [aeq]
     exact h
   ·have hpre:=hneed i o ho (by omega) l hcl hdeps
    have hie:i=m:=by
     apply Classical.byContradiction
     intro hne
     have:=hpre m (by omega)
     rw [h1 m (Nat.le_refl _)] at this
     cases this
    subst hie
    obtain ⟨h2,h3,h4,h5,h6,h7⟩:=hmid
    have hw:=hend a' w' h3 h4 h5 h6 (fun j hj=>h7 j (by rw [aa5 (by omega)];exact hpre j (by omega)))
    rw [←hL _ hms] at hw
    exact hrun i rfl hw (Nat.le_refl _) hpre h1
  ·have hij:i=j:=by
    apply Classical.byContradiction
    intro hne
    by_cases hlt' : i<j
    ·rw [hj3 i hlt'] at hif
     cases hif
    ·have:=hneed i o ho (by omega) l hcl hdeps j (by omega)
     rw [hj4 j (Nat.le_refl _)] at this
     cases this
   exact hrun j hij.symm hj5 (by omega) hj3 hj4
structure Tch (g:Nat) (w w' : World):Prop where
 os:w'.os=w.os
 tape:w'.tape=w.tape
 output:w'.output=w.output
 size:w.heap.size≤w'.heap.size
 other:∀ k,k<w.heap.size→k≠g→w'.heap[k]? = w.heap[k]?
theorem Tch.of_below {g:Nat} {w w' : World} (h:Below w.heap.size w w'):Tch g w w' := ⟨h.os,h.tape,h.output,h.size,fun k hk _=>h.block k hk⟩
theorem Tch.of_grown {g:Nat} {w w' : World} {r:Option Nat} (h:w.grownBy w' r) (hr:∀ k,r=some k→k=g):Tch g w w' := ⟨h.os,h.tape,h.output,h.size,fun k hk hn=>h.block k hk (fun e=>hn (hr k e.symm))⟩
theorem Tch.trans {g:Nat} {w w' w'' : World} (h:Tch g w w') (h' : Tch g w' w''):Tch g w w'' := ⟨h'.os.trans h.os,h'.tape.trans h.tape,h'.output.trans h.output,Nat.le_trans h.size h'.size,fun k hk hn=>(h'.other k (Nat.lt_of_lt_of_le hk h.size) hn).trans (h.other k hk hn)⟩
theorem Tch.below {g B:Nat} {w w' : World} (h:Tch g w w') (hB:B≤w.heap.size) (hg:B≤g):Below B w w' := ⟨h.os,h.tape,h.output,h.size,fun k hk=>h.other k (by omega) (by omega)⟩
def Mid3 (n g ix:Nat) (Ds:List Nat) (Ps:List Says) (a0:Act) (w0:World) (l:Array Bool) (a:Act) (w:World):Prop :=
 l.size=Ds.length∧a.tmps.size=n∧a.defers=a0.defers∧Tch g w0 w∧Rest Ds a0 a∧(∀ j,l.getD j false=true→Ps.getD j (fun _ _=>True) (a.eval (.tmp (Ds.getD j 0))) w)∧(l.getD ix false=false→w.heap[g]? = w0.heap[g]?)
def MonosT (g ix:Nat) (Ps:List Says):Prop:=∀ j,j≠ix→∀ v w w',Tch g w w'→Ps.getD j (fun _ _=>True) v w→Ps.getD j (fun _ _=>True) v w'
def Duty3 (P:Program) (n g ix:Nat) (Ds:List Nat) (Ps:List Says) (a0:Act) (w0:World) (i:Nat) (o:Oper) (d:Nat) (p:Says):Prop :=
 o.dst=some d∧o.guard=none∧∀ a w,a.tmps.size=n→Tch g w0 w→Rest Ds a0 a→Deps Ds Ps o a w→(i≠ix→Does P o a.eval w fun v w'=>Below w.heap.size w w'∧p v w')∧(i=ix→w.heap[g]? = w0.heap[g]?→Does P o a.eval w fun v w'=>Tch g w w'∧p v w')
def Duties3 (P:Program) (n g ix:Nat) (Ds:List Nat) (Ps:List Says) (a0:Act) (w0:World):Nat→List Oper→List Nat→List Says→Prop
 | _,[],[],[]=>True
 | i,o :: os,d :: ds,p :: ps=>Duty3 P n g ix Ds Ps a0 w0 i o d p∧Duties3 P n g ix Ds Ps a0 w0 (i+1) os ds ps
 | _,_,_,_=>False
theorem Duties3.at {P:Program} {n g ix:Nat} {Ds:List Nat} {Ps:List Says} {a0:Act} {w0:World} : ∀ {m:Nat} {os:List Oper} {ds:List Nat} {ps:List Says},Duties3 P n g ix Ds Ps a0 w0 m os ds ps→ds.length=os.length∧∀ i o,os[i]? = some o→Duty3 P n g ix Ds Ps a0 w0 (m+i) o (ds.getD i 0) (ps.getD i fun _ _=>True)
 | _,[],[],[],_=>⟨rfl,fun i o h=>by simp at h⟩
 | m,o :: os,d :: ds,p :: ps,h=>by
  obtain ⟨h1,h2⟩:=h
  obtain ⟨hl,h3⟩:=Duties3.at h2
  refine ⟨by simp [hl],fun i o' ho=>?_⟩
  cases i with
  | zero =>
   simp only [List.getElem?_cons_zero,Option.some.injEq] at ho
   subst ho
   simpa using h1
  | succ i =>
   have:=h3 i o' (by simpa using ho)
   rw [show m+1+i=m+(i+1) by omega] at this
   simpa using this
 | _,[],_ :: _,_,h=>h.elim
 | _,[],[],_ :: _,h=>h.elim
 | _,_ :: _,[],_,h=>h.elim
 | _,_ :: _,_ :: _,[],h=>h.elim
theorem Duties3.take {P:Program} {n g ix:Nat} {Ds:List Nat} {Ps:List Says} {a0:Act} {w0:World} {ops:Array Oper} {m:Nat} (h:Duties3 P n g ix Ds Ps a0 w0 0 (ops.toList.take m) Ds Ps) (hm:m≤ops.size):Ds.length=m∧∀ i o,ops[i]? = some o→i<Ds.length→Duty3 P n g ix Ds Ps a0 w0 i o (Ds.getD i 0) (Ps.getD i fun _ _=>True):=by
 obtain ⟨hl,hat⟩:=h.at
 have hl' : Ds.length=m:=by rw [hl,List.length_take];simp;omega
 refine ⟨hl',fun i o ho hi=>?_⟩
 have:=hat i o (by rw [List.getElem?_take_of_lt (by omega),Array.getElem?_toList];exact ho)
 rwa [Nat.zero_add] at this
theorem Mid3.put {n g ix:Nat} {Ds:List Nat} {Ps:List Says} {a0:Act} {w0:World} {l:Array Bool} {a:Act} {w w' : World} {i:Nat} {v:Value} (h:Mid3 n g ix Ds Ps a0 w0 l a w) (hi:i<Ds.length) (hnd:Ds.Nodup) (hlt:(Ds.all fun d=>decide (d<n))=true) (ht:Tch g w w') (hk:∀ j,j≠i→l.getD j false=true→∀ u,Ps.getD j (fun _ _=>True) u w→Ps.getD j (fun _ _=>True) u w') (hI:(l.setIfInBounds i true).getD ix false=false→w'.heap[g]? = w.heap[g]?) (hp:Ps.getD i (fun _ _=>True) v w') :
  Mid3 n g ix Ds Ps a0 w0 (l.setIfInBounds i true) (a.put (some (Ds.getD i 0)) v) w' := by
 obtain ⟨h1,h2,h3,h4,h5,h6,h7⟩:=h
 have hd:Ds.getD i 0<n:=by
  have:=List.all_eq_true.1 hlt (Ds.getD i 0) (by rw [List.getD_eq_getElem?_getD,List.getElem?_eq_getElem hi];simp)
  simpa using this
 refine ⟨by simp [h1],by rw [ae2];simp [h2],h3,h4.trans ht,fun k hk=>?_,fun j hj=>?_,fun hx=>?_⟩
 ·rw [abf,h5 k hk]
  rintro rfl
  have:Ds.contains (Ds.getD i 0)=true:=by
   rw [List.contains_iff_mem,List.getD_eq_getElem?_getD,List.getElem?_eq_getElem hi]
   simp
  rw [this] at hk
  cases hk
 ·by_cases e:j=i
  ·subst e
   rw [acx (by omega)]
   exact hp
  ·rw [getD_set_ne false (fun h=>e h.symm)] at hj
   have hjl:j<Ds.length:=by
    rw [Array.getD_eq_getD_getElem?] at hj
    cases hc:l[j]? with
    | none=>rw [hc] at hj;simp at hj
    | some b=>rw [←h1];exact (Array.getElem?_eq_some_iff.1 hc).1
   rw [abf (ahf hnd hi hjl (fun h=>e h.symm))]
   exact hk j e hj _ (h6 j hj)
 ·refine (hI hx).trans (h7 ?_)
  by_cases e:ix=i
  ·subst e
   rw [Array.getD_eq_getD_getElem?,Array.getElem?_setIfInBounds_self_of_lt (by omega)] at hx
   cases hx
  ·rwa [getD_set_ne false (fun h=>e h.symm)] at hx
theorem aqm {P:Program} {ops:Array Oper} {Q:Exit→Act→World→Prop} {n g ix:Nat} {Ds:List Nat} {Ps:List Says} {a0:Act} {w0:World} {l:Array Bool} {a:Act} {w:World} {i:Nat} {o:Oper} (hgw:g<w0.heap.size) (hat:∀ i o,ops[i]? = some o→i<Ds.length→Duty3 P n g ix Ds Ps a0 w0 i o (Ds.getD i 0) (Ps.getD i fun _ _=>True)) (hnd:Ds.Nodup) (hlt:(Ds.all fun d=>decide (d<n))=true) (hM:Monos Ps) (hT:MonosT g ix Ps) (ho:ops[i]? = some o) (hil:i<Ds.length) (hun:l.getD i false=false) (h:Mid3 n g ix Ds Ps a0 w0 l a w) (hdeps:∀ e ∈ o.after,Region.binds .any e=true→l.getD e.on false=true) :
  wpOp P ops Q i (fun a' w'=>Mid3 n g ix Ds Ps a0 w0 (l.setIfInBounds i true) a' w') a w:=by
 have h' := h
 obtain ⟨h1,h2,h3,h4,h5,h6,h7⟩:=h
 obtain ⟨hdst,hgd,hduty⟩:=hat i o ho hil
 obtain ⟨hd1,hd2⟩:=hduty a w h2 h4 h5 (fun j hj=>by
  obtain ⟨e,he,hj⟩:=List.any_eq_true.1 hj
  simp only [Bool.and_eq_true,beq_iff_eq] at hj
  obtain ⟨rfl,hb⟩:=hj
  exact h6 _ (hdeps e (by simpa using he) hb))
 refine wpOp_step ho (fun K' hK=>?_)
 simp only [Region.wanted,hgd,if_true]
 by_cases hix:i=ix
 ·subst hix
  refine Does.wp (hd2 rfl (h7 hun)) (fun v w' ⟨hb,hp⟩=>?_)
  rw [hdst]
  refine hK _ _ (h'.put hil hnd hlt hb (fun j hj _ u hu=>hT j hj u w w' hb hu) (fun hx=>?_) hp)
  rw [Array.getD_eq_getD_getElem?,Array.getElem?_setIfInBounds_self_of_lt (by omega)] at hx
  cases hx
 ·refine Does.wp (hd1 hix) (fun v w' ⟨hb,hp⟩=>?_)
  rw [hdst]
  exact hK _ _ (h'.put hil hnd hlt (.of_below hb) (fun j _ _ u hu=>hM.at j u w w' hb hu) (fun _=>hb.block g (Nat.lt_of_lt_of_le hgw h4.size)) hp)
theorem af2 {P:Program} {ops:Array Oper} {Q:Exit→Act→World→Prop} {id n:Nat} {a:Act} {w:World} (g ix m:Nat) (Ds:List Nat) (Ps:List Says) (hgw:g<w.heap.size) (hm:P.follows .mixedOrders=true) (hn:a.tmps.size=n) (hnd:Ds.Nodup) (hlt:(Ds.all fun d=>decide (d<n))=true)
  (hdep:(ops.toList.zipIdx.all fun p=>p.1.after.all fun e=>decide (e.on<p.2))=true) (hms:m≤ops.size) (hall:((List.range ops.size).all fun i=>decide (i<m) || (List.range i).all fun j=>waits ops ops.size i j)=true) (hM:Monos Ps) (hT:MonosT g ix Ps) (hD:Duties3 P n g ix Ds Ps a w 0 (ops.toList.take m) Ds Ps)
  (hend:∀ a' w',a'.tmps.size=n→a'.defers=a.defers→Tch g w w'→Rest Ds a a'→(∀ j,j<Ds.length→Ps.getD j (fun _ _=>True) (a'.eval (.tmp (Ds.getD j 0))) w')→wpList P ops Q (ops.toList.drop m) a' w'):(Code.region id ops true).wp P Q a w:=by
 obtain ⟨hlen,hat⟩:=hD.take hms
 have hL:∀ k,k≤ops.size→wpOps P ops Q (List.range' k (ops.size - k))=wpList P ops Q (ops.toList.drop k):=fun k hk=>by
  have:=wpOps_eq_wpList (P:=P) (ops:=ops) (Q:=Q) (ops.toList.drop k) k (fun j=>by rw [List.getElem?_drop,Array.getElem?_toList])
  rw [←this]
  simp
 have hneed:∀ i o,ops[i]? = some o→m≤i→∀ l:Array Bool,Shut ops l→(∀ e ∈ o.after,Region.binds .any e=true→l.getD e.on false=true)→∀ j,j<i→l.getD j false=true:=by
  intro i o ho hi l hc hl j hj
  have hio:i<ops.size:=(Array.getElem?_eq_some_iff.1 ho).1
  have h1:=List.all_eq_true.1 hall i (List.mem_range.2 hio)
  simp only [Bool.or_eq_true,decide_eq_true_eq] at h1
  rcases h1 with h1 | h1
  ·omega
  ·exact afj hc _ i j o ho hl (List.all_eq_true.1 h1 j (List.mem_range.2 hj))
 refine ach hm (fun l a' w'=>(l.size=ops.size∧Shut ops l)∧(((∀ j,m≤j→l.getD j false=false)∧Mid3 n g ix Ds Ps a w (l.extract 0 m) a' w')∨∃ j,m<j∧j≤ops.size∧(∀ k,k<j→l.getD k false=true)∧(∀ k,j≤k→l.getD k false=false)∧wpOps P ops Q (List.range' j (ops.size - j)) a' w')) ?_ ?_ ?_
 ·refine ⟨⟨by simp,fun j o _ hj=>?_⟩,.inl ⟨fun j _=>?_,by simp [hlen];omega,hn,rfl,.of_below (Below.drew (Below.refl _ _)),fun _ _=>rfl,fun j hj=>?_,fun _=>rfl⟩⟩
  ·exfalso
   simp [Array.getElem?_replicate] at hj
   split at hj <;> simp at hj
  ·simp [Array.getElem?_replicate]
   split <;> simp
  ·exfalso
   by_cases hjm:j<m
   ·rw [aa5 hjm] at hj
    simp [Array.getElem?_replicate] at hj
    split at hj <;> simp at hj
   ·rw [Array.getD_eq_getD_getElem?,Array.getElem?_eq_none (by simp;omega)] at hj
    simp at hj
 ·rintro l a' w' ⟨⟨hs,hcl⟩,hI⟩ hr
  have hal:=ad1 hdep hs hr
  rcases hI with ⟨h1,h2,h3,h4,h5,h6,h7⟩ | ⟨j,hj1,hj2,hj3,hj4,hj5⟩
  ·have hmo:m=ops.size:=by
    apply Classical.byContradiction
    intro hne
    have:=hal m (by omega)
    rw [h1 m (Nat.le_refl _)] at this
    cases this
   have:=hend a' w' h3 h4 h5 h6 (fun j hj=>h7.1 j (by rw [aa5 (by omega)];exact hal j (by omega)))
   rw [List.drop_eq_nil_of_le (by simp;omega)] at this
   exact this
  ·have hje:j=ops.size:=by
    apply Classical.byContradiction
    intro hne
    have:=hal j (by omega)
    rw [hj4 j (Nat.le_refl _)] at this
    cases this
   subst hje
   simpa [wpOps] using hj5
 ·rintro l a' w' ⟨⟨hs,hcl⟩,hI⟩ i hi
  obtain ⟨hun,o,ho,hdeps⟩:=mem_ready.1 hi
  have hio:i<ops.size:=(Array.getElem?_eq_some_iff.1 ho).1
  have hset:∀ k,k≠i→(l.setIfInBounds i true).getD k false=l.getD k false:=fun k hk=>getD_set_ne false (fun e=>hk e.symm)
  have hseti:(l.setIfInBounds i true).getD i false=true:=by
   rw [Array.getD_eq_getD_getElem?,Array.getElem?_setIfInBounds_self_of_lt (by omega)]
   rfl
  have hif:l.getD i false=false:=by
   rw [Array.getD_eq_getD_getElem?] at hun ⊢
   cases hc:l[i]? with
   | none=>rfl
   | some b=>rw [hc] at hun;simpa using hun
  have hcl' : Shut ops (l.setIfInBounds i true):=hcl.set ho hdeps
  have hrun:∀ j,j=i→wpOps P ops Q (List.range' j (ops.size - j)) a' w'→m≤j→(∀ k,k<j→l.getD k false=true)→(∀ k,j≤k→l.getD k false=false)→wpOp P ops Q i (fun a' w'=>((l.setIfInBounds i true).size=ops.size∧Shut ops (l.setIfInBounds i true))∧(((∀ j,m≤j→(l.setIfInBounds i true).getD j false=false)∧Mid3 n g ix Ds Ps a w ((l.setIfInBounds i true).extract 0 m) a' w')∨∃ j,m<j∧j≤ops.size∧(∀ k,k<j→(l.setIfInBounds i true).getD k false=true)∧(∀ k,j≤k→(l.setIfInBounds i true).getD k false=false)∧wpOps P ops Q (List.range' j (ops.size - j)) a' w')) a' w' := by
   rintro j rfl hw hmj hlo hhi
   rw [show ops.size - j=(ops.size - (j+1))+1 by omega,List.range'_succ,wpOps_cons] at hw
   refine wpOp_mono (fun a2 w2 h=>⟨⟨by simpa using hs,hcl'⟩,.inr ⟨j+1,by omega,by omega,fun k hk=>?_,fun k hk=>?_,h⟩⟩) hw
   ·by_cases e:k=j
    ·subst e;exact hseti
    ·rw [hset k e];exact hlo k (by omega)
   ·rw [hset k (by omega)];exact hhi k (by omega)
  rcases hI with ⟨h1,hmid⟩ | ⟨j,hj1,hj2,hj3,hj4,hj5⟩
  ·by_cases him:i<m
   ·have hd' : ∀ e ∈ o.after,Region.binds .any e=true→(l.extract 0 m).getD e.on false=true:=fun e he hb=>by
     have h2:=List.all_eq_true.1 hdep (o,i) (by rw [List.mem_zipIdx_iff_getElem?];simpa using ho)
     have h3:e.on<i:=by simpa using Array.all_eq_true_iff_forall_mem.1 h2 e he
     rw [aa5 (by omega)]
     exact hdeps e he hb
    refine wpOp_mono (fun a2 w2 h=>⟨⟨by simpa using hs,hcl'⟩,.inl ⟨fun k hk=>?_,?_⟩⟩) (aqm hgw hat hnd hlt hM hT ho (by omega) (by rw [aa5 him];exact hif) hmid hd')
    ·rw [hset k (by omega)]
     exact h1 k hk
    ·rw [aeq]
     exact h
   ·have hpre:=hneed i o ho (by omega) l hcl hdeps
    have hie:i=m:=by
     apply Classical.byContradiction
     intro hne
     have:=hpre m (by omega)
     rw [h1 m (Nat.le_refl _)] at this
     cases this
    subst hie
    obtain ⟨h2,h3,h4,h5,h6,h7⟩:=hmid
    have hw:=hend a' w' h3 h4 h5 h6 (fun j hj=>h7.1 j (by rw [aa5 (by omega)];exact hpre j (by omega)))
    rw [←hL _ hms] at hw
    exact hrun i rfl hw (Nat.le_refl _) hpre h1
  ·have hij:i=j:=by
    apply Classical.byContradiction
    intro hne
    by_cases hlt' : i<j
    ·rw [hj3 i hlt'] at hif
     cases hif
    ·have:=hneed i o ho (by omega) l hcl hdeps j (by omega)
     rw [hj4 j (Nat.le_refl _)] at this
     cases this
   exact hrun j hij.symm hj5 (by omega) hj3 hj4
end Lm
end Go.Proofs.YtgmobkafnefpfaaGreat
namespace Go.Proofs.YtgmobkafnefpfaaGreat
namespace Md
abbrev Rw:=Nat→Int
def w (x:Rw):(List Nat→Int)→List Nat→Int
 | _,[]=>0
 | g,c :: cs=>x c*g cs - w x (fun l=>g (c :: l)) cs
theorem acv (x:Rw) {g h:List Nat→Int} (e:∀ l,g l=h l) (cs:List Nat):w x g cs=w x h cs:=by
 rw [show g=h from funext e]
theorem at7 (x:Rw) (g h:List Nat→Int) (cs:List Nat):w x (fun l=>g l+h l) cs=w x g cs+w x h cs:=by
 induction cs generalizing g h with
 | nil=>simp [w]
 | cons c cs ih=>simp only [w,ih];grind
theorem afk (x:Rw) (a:Int) (g:List Nat→Int) (cs:List Nat):w x (fun l=>a*g l) cs=a*w x g cs:=by
 induction cs generalizing g with
 | nil=>simp [w]
 | cons c cs ih=>simp only [w,ih];grind
theorem aoc (x:Rw) (g:List Nat→Int) (cs:List Nat):w x (fun l=>-g l) cs = -w x g cs:=by
 have:=afk x (-1) g cs
 rw [show (fun l=>-g l)=fun l=>-1*g l from funext fun l=>by omega,this]
 omega
theorem ayv (x:Rw) (g h:List Nat→Int) (cs:List Nat):w x (fun l=>g l - h l) cs=w x g cs - w x h cs:=by
 have:=at7 x g (fun l=>-h l) cs
 rw [aoc] at this
 rw [show (fun l=>g l - h l)=fun l=>g l+-h l from funext fun l=>by omega,this]
 omega
theorem aku (x:Rw) (cs:List Nat):w x (fun _=>0) cs=0:=by
 have:=afk x 0 (fun _=>0) cs
 simpa using this
theorem aey (x y:Rw) (g:List Nat→Int) (cs:List Nat):w x (w y g) cs = -w y (w x g) cs:=by
 induction cs generalizing g with
 | nil=>simp [w]
 | cons c cs ih =>
  have h1:∀ (x y:Rw),w x (fun l=>w y g (c :: l)) cs=y c*w x g cs - w x (w y (fun l=>g (c :: l))) cs:=by
   intro x y
   rw [←afk,←ayv]
   exact acv x (fun l=>by rw [w]) cs
  rw [w,w,h1 x y,h1 y x,ih]
  omega
theorem ajm (x y:Rw) (a b:Int) (g:List Nat→Int) (cs:List Nat):w (fun c=>a*x c+b*y c) g cs=a*w x g cs+b*w y g cs:=by
 induction cs generalizing g with
 | nil=>simp [w]
 | cons c cs ih=>simp only [w,ih];grind
theorem aez {x:Rw} (g:List Nat→Int) (cs:List Nat) (h:∀ c ∈ cs,x c=0):w x g cs=0:=by
 induction cs generalizing g with
 | nil=>rfl
 | cons c cs ih=>rw [w,h c (by simp),ih _ (fun d hd=>h d (by simp [hd]))];omega
def Alt (g:List Nat→Int):Prop:=∀ (p:List Nat) (a b:Nat) (q:List Nat),g (p ++ a :: b :: q) = -g (p ++ b :: a :: q)
theorem Alt.pre {g:List Nat→Int} (h:Alt g) (u:List Nat):Alt (fun l=>g (u ++ l)):=fun p a b q=>by
 have:=h (u ++ p) a b q
 simpa using this
theorem Alt.cons {g:List Nat→Int} (h:Alt g) (u:Nat):Alt (fun l=>g (u :: l)):=h.pre [u]
theorem Alt.w {g:List Nat→Int} (h:Alt g) (x:Rw):Alt (Md.w x g):=by
 intro p
 induction p generalizing g with
 | nil =>
  intro a b q
  simp only [List.nil_append,Md.w]
  have h1:=acv x (g:=fun l=>g (a :: b :: l)) (h:=fun l=>-g (b :: a :: l)) (fun l=>h [] a b l) q
  rw [aoc] at h1
  omega
 | cons c p ih =>
  intro a b q
  simp only [List.cons_append,Md.w]
  have h1:=ih (h.cons c) a b q
  have h2:=h p a b q
  rw [h1,h2]
  grind
theorem Alt.two {g:List Nat→Int} (h:Alt g) (a:Nat) (p q:List Nat):g (a :: (p ++ a :: q))=0:=by
 induction p generalizing g with
 | nil=>have:=h [] a a q;simp only [List.nil_append] at this ⊢;omega
 | cons b p ih =>
  have h1:=h [] a b (p ++ a :: q)
  have h2:=ih (h.cons b)
  simp only [List.nil_append,List.cons_append] at h1 h2 ⊢
  omega
theorem Alt.dup {g:List Nat→Int} (h:Alt g) {l:List Nat} (hl:¬ l.Nodup):g l=0:=by
 induction l generalizing g with
 | nil=>exact absurd List.nodup_nil hl
 | cons a l ih =>
  by_cases ha:a ∈ l
  ·obtain ⟨p,q,rfl⟩:=List.append_of_mem ha
   exact h.two a p q
  ·exact ih (h.cons a) (fun hn=>hl (List.nodup_cons.2 ⟨ha,hn⟩))
def sgn:Nat→Int
 | 0=>1
 | n+1=>-sgn n
theorem ah0 (n:Nat):sgn n*sgn n=1:=by
 induction n with
 | zero=>rfl
 | succ n ih=>rw [sgn,Int.neg_mul_neg,ih]
theorem akv (n:Nat):sgn n=if n % 2=1 then -1 else 1:=by
 induction n with
 | zero=>rfl
 | succ n ih =>
  rw [sgn,ih]
  split <;> split <;> omega
theorem Alt.move {g:List Nat→Int} (h:Alt g) (c:Nat) (p q:List Nat):g (c :: (p ++ q))=sgn p.length*g (p ++ c :: q):=by
 induction p generalizing g with
 | nil=>simp [sgn]
 | cons b p ih =>
  have h1:=h [] c b (p ++ q)
  have h2:=ih (h.cons b)
  simp only [List.nil_append,List.cons_append,List.length_cons,sgn] at h1 h2 ⊢
  rw [h1,h2]
  grind
def sub (p k:Nat) (l:List Nat):List Nat:=l.map (fun q=>if q=p then k else q)
theorem sub_self (p:Nat) (l:List Nat):sub p p l=l:=by
 unfold sub
 conv=>rhs;rw [←List.map_id l]
 apply List.map_congr_left
 intro q _
 split
 ·next h=>rw [h];rfl
 ·rfl
theorem ae0 {p:Nat} {l:List Nat} (h:p ∉ l) (k:Nat):sub p k l=l:=by
 unfold sub
 conv=>rhs;rw [←List.map_id l]
 apply List.map_congr_left
 intro q hq
 rw [if_neg (fun e:q=p=>h (by rw [←e];exact hq))]
 rfl
theorem afl (p k q:Nat) (l:List Nat):sub p k (q :: l)=(if q=p then k else q) :: sub p k l:=rfl
theorem ah1 (p k:Nat) (l m:List Nat):sub p k (l ++ m)=sub p k l ++ sub p k m:=by simp [sub]
theorem aee {p k:Nat} {l:List Nat} (hp:p ∈ l) (hk:k ∈ l) (hne:k≠p):¬ (sub p k l).Nodup:=by
 intro hn
 obtain ⟨i,hi,hi'⟩:=List.mem_iff_getElem.1 hp
 obtain ⟨j,hj,hj'⟩:=List.mem_iff_getElem.1 hk
 have hij:i≠j:=fun e=>by subst e;exact hne (hj'.symm.trans hi')
 have h1:(sub p k l)[i]'(by simpa [sub] using hi)=k:=by simp [sub,hi']
 have h2:(sub p k l)[j]'(by simpa [sub] using hj)=k:=by simp [sub,hj',hne]
 exact hij ((List.getElem_inj hn).1 (h1.trans h2.symm))
def sumL (f:Nat→Int):List Nat→Int
 | []=>0
 | q :: l=>f q+sumL f l
theorem aod {f h:Nat→Int} {l:List Nat} (e:∀ q ∈ l,f q=h q):sumL f l=sumL h l:=by
 induction l with
 | nil=>rfl
 | cons q l ih=>rw [sumL,sumL,e q (by simp),ih (fun r hr=>e r (by simp [hr]))]
theorem Alt.expand {g:List Nat→Int} (h:Alt g) (x:Rw) (k:Nat) {Q:List Nat} (hn:Q.Nodup):Md.w x (fun l=>g (k :: l)) Q=sumL (fun p=>x p*g (sub p k Q)) Q:=by
 induction Q generalizing g with
 | nil=>rfl
 | cons q Q ih =>
  obtain ⟨h1,h2⟩:=List.nodup_cons.1 hn
  rw [Md.w,sumL,afl,if_pos rfl,ae0 h1]
  have e:Md.w x (fun l=>g (k :: q :: l)) Q = -Md.w x (fun l=>g (q :: k :: l)) Q:=by
   rw [←aoc]
   exact acv x (fun l=>h [] k q l) Q
  rw [e,ih (h.cons q) h2]
  have:sumL (fun p=>x p*g (q :: sub p k Q)) Q=sumL (fun p=>x p*g (sub p k (q :: Q))) Q:=by
   apply aod
   intro p hp
   rw [afl,if_neg (fun e:q=p=>h1 (by rw [e];exact hp))]
  rw [this]
  omega
def D:List Rw→List Nat→Int
 | []=>fun l=>if l = [] then 1 else 0
 | x :: R=>w x (D R)
theorem ac6 (R:List Rw):Alt (D R):=by
 induction R with
 | nil =>
  intro p a b q
  have:∀ l:List Nat,l≠[]→D [] l=0:=fun l h=>if_neg h
  rw [this _ (by simp),this _ (by simp)]
  rfl
 | cons x R ih=>exact ih.w x
inductive Sp (R:List Rw):Rw→Prop
 | zero:Sp R (fun _=>0)
 | add (a:Int) (x y:Rw) (hx:x ∈ R) (hy:Sp R y):Sp R (fun c=>a*x c+y c)
theorem Sp.mono {R S:List Rw} {x:Rw} (h:Sp R x) (hs:∀ y ∈ R,y ∈ S):Sp S x:=by
 induction h with
 | zero=>exact .zero
 | add a x y hx _ ih=>exact .add a x y (hs x hx) ih
theorem Sp.lin {R:List Rw} {x y:Rw} (hx:Sp R x) (hy:Sp R y) (a b:Int):Sp R (fun c=>a*x c+b*y c):=by
 induction hx with
 | zero =>
  induction hy with
  | zero=>simpa using Sp.zero
  | add e u v hu _ ih =>
   have:=Sp.add (b*e) u _ hu ih
   refine cast (congrArg (Sp R) (funext fun c=>?_)) this
   grind
 | add e u v hu _ ih =>
  have:=Sp.add (a*e) u _ hu ih
  refine cast (congrArg (Sp R) (funext fun c=>?_)) this
  grind
theorem Sp.mem {R:List Rw} {x:Rw} (h:x ∈ R):Sp R x:=by
 have:=Sp.add 1 x _ h Sp.zero
 refine cast (congrArg (Sp R) (funext fun c=>?_)) this
 grind
theorem Sp.smul {R:List Rw} {x:Rw} (h:Sp R x) (a:Int):Sp R (fun c=>a*x c):=by
 have:=h.lin Sp.zero a 0
 refine cast (congrArg (Sp R) (funext fun c=>?_)) this
 grind
theorem sp_w {R:List Rw} (x:Rw) (g:Nat→List Nat→Int) (h:∀ l,Sp R (fun c=>g c l)) (cs:List Nat):Sp R (fun c=>w x (g c) cs):=by
 induction cs generalizing g with
 | nil=>exact .zero
 | cons d cs ih =>
  have:=(h cs).lin (ih (fun c l=>g c (d :: l)) (fun l=>h (d :: l))) (x d) (-1)
  refine cast (congrArg (Sp R) (funext fun c=>?_)) this
  rw [w]
  grind
theorem ae1 (R:List Rw) (cs:List Nat):Sp R (fun c=>D R (c :: cs)):=by
 induction R generalizing cs with
 | nil=>exact Sp.zero
 | cons x R ih =>
  have h1:=(sp_w x (fun c l=>D R (c :: l)) (fun l=>ih l) cs).mono (S:=x :: R) (fun y hy=>by simp [hy])
  have:=(Sp.mem (R:=x :: R) (x:=x) (by simp)).lin h1 (D R cs) (-1)
  refine cast (congrArg (Sp (x :: R)) (funext fun c=>?_)) this
  rw [D,w]
  grind
theorem aqn {p:Nat} {Q:List Nat} (hn:Q.Nodup) (hp:p ∈ Q):∃ a b,Q=a ++ p :: b∧∀ k,sub p k Q=a ++ k :: b:=by
 obtain ⟨a,b,rfl⟩:=List.append_of_mem hp
 refine ⟨a,b,rfl,fun k=>?_⟩
 have h1:=List.nodup_append.1 hn
 have h2:=(List.nodup_cons.1 h1.2.1).1
 have h3:p ∉ a:=fun h=>h1.2.2 p h p (by simp) rfl
 rw [ah1,afl,if_pos rfl,ae0 h3,ae0 h2]
theorem af3 (R:List Rw) {p:Nat} {Q:List Nat} (hn:Q.Nodup) (hp:p ∈ Q):Sp R (fun k=>D R (sub p k Q)):=by
 obtain ⟨a,b,_,h⟩:=aqn hn hp
 have h1:=(ae1 R (a ++ b)).smul (sgn a.length)
 refine cast (congrArg (Sp R) (funext fun c=>?_)) h1
 rw [h c,(ac6 R).move c a b,←Int.mul_assoc,ah0,Int.one_mul]
theorem at8 {R:List Rw} {r:Rw} (h:r ∈ R) (cs:List Nat):w r (D R) cs=0:=by
 induction R generalizing cs with
 | nil=>cases h
 | cons y R ih =>
  have h1:=aey r y (D R) cs
  rw [show D (y :: R)=w y (D R) from rfl,h1]
  rcases List.mem_cons.1 h with rfl | h
  ·have:=aey r r (D R) cs
   omega
  ·rw [acv y (fun l=>ih h l) cs,aku]
   rfl
theorem D_sp {R:List Rw} {x:Rw} (h:Sp R x) (cs:List Nat):w x (D R) cs=0:=by
 induction h with
 | zero=>exact aez _ _ (fun _ _=>rfl)
 | add a x y hx _ ih =>
  have:=ajm x y a 1 (D R) cs
  rw [show (fun c=>a*x c+y c)=fun c=>a*x c+1*y c from funext fun c=>by omega,this,ih,at8 hx]
  omega
theorem avm {R:List Rw} {x:Rw} (h:Sp R x) {Q:List Nat} (hd:D R Q≠0) (hz:∀ q ∈ Q,x q=0) (k:Nat):x k=0:=by
 have h1:=D_sp h (k :: Q)
 rw [w,aez _ Q hz] at h1
 have h2:x k*D R Q=0:=by omega
 rcases Int.mul_eq_zero.1 h2 with h | h
 ·exact h
 ·exact absurd h hd
theorem aim (R:List Rw) (x:Rw) {Q:List Nat} (hn:Q.Nodup) (k:Nat):D (x :: R) (k :: Q)=D R Q*x k - sumL (fun p=>x p*D R (sub p k Q)) Q:=by
 rw [D,w,(ac6 R).expand x k hn]
 grind
theorem adv (R:List Rw) {Q:List Nat} {k:Nat} (hk:k ∈ Q):D R (k :: Q)=0:=(ac6 R).dup (fun hn=>(List.nodup_cons.1 hn).1 hk)
theorem avn (R:List Rw) (x:Rw) {Q a b:List Nat} {c:Nat} (hQ:Q=a ++ b) (hn:(a ++ c :: b).Nodup) (h1:D (x :: R) (a ++ c :: b)≠0) {p:Nat} (hp:p ∈ Q) (k:Nat) :
  D R Q*D (x :: R) (sub p k (a ++ c :: b))=D (x :: R) (a ++ c :: b)*D R (sub p k Q) - D R (sub p c Q)*D (x :: R) (sub c k (a ++ c :: b)):=by
 have hc:c ∈ a ++ c :: b:=by simp
 have hp' : p ∈ a ++ c :: b:=by rw [hQ] at hp;simp at hp ⊢;rcases hp with h | h <;> simp [h]
 have hnQ:Q.Nodup:=by rw [hQ];exact hn.sublist (by simp)
 have hcQ:c ∉ Q:=by
  have h2:=List.nodup_append.1 hn
  rw [hQ,List.mem_append,not_or]
  exact ⟨fun h=>h2.2.2 c h c (by simp) rfl,(List.nodup_cons.1 h2.2.1).1⟩
 have hcp:c≠p:=fun e=>hcQ (e ▸ hp)
 have s1:=(af3 (x :: R) hn hp').smul (D R Q)
 have s2:=((af3 R hnQ hp).mono (S:=x :: R) (fun y hy=>by simp [hy]))
 have s3:=(af3 (x :: R) hn hc)
 have s4:=s2.lin s3 (-D (x :: R) (a ++ c :: b)) (D R (sub p c Q))
 have s5:=s1.lin s4 1 1
 have key:=avm s5 h1 (fun q hq=>?_) k
 ·grind
 ·by_cases e1:q=p
  ·subst e1
   rw [sub_self,sub_self,(ac6 (x :: R)).dup (aee hc hp' (fun e=>hcp e.symm))]
   grind
  ·rw [(ac6 (x :: R)).dup (aee hp' hq e1)]
   by_cases e2:q=c
   ·subst e2
    rw [sub_self]
    grind
   ·have hqQ:q ∈ Q:=by
     rw [hQ]
     simp only [List.mem_append,List.mem_cons] at hq ⊢
     rcases hq with h | h | h
     ·exact .inl h
     ·exact absurd h e2
     ·exact .inr h
    rw [(ac6 R).dup (aee hp hqQ e1),(ac6 (x :: R)).dup (aee hc hq e2)]
    grind
theorem w_le {x:Rw} {g:List Nat→Int} {X G:Int} (N:Nat) (hX:0≤X) (hG:0≤G) (cs:List Nat) (hx:∀ c ∈ cs,(x c).natAbs≤X) (hg:∀ l,(∀ c ∈ l,c ∈ cs)→(g l).natAbs≤G) (hN:cs.length≤N):((w x g cs).natAbs:Int)≤N*(X*G):=by
 have hXG:0≤X*G:=Int.mul_nonneg hX hG
 induction cs generalizing g N with
 | nil=>simp [w];exact Int.mul_nonneg (by omega) hXG
 | cons c cs ih =>
  match N,hN with
  | N+1,hN =>
   have h1:=ih (g:=fun l=>g (c :: l)) N (fun d hd=>hx d (by simp [hd])) (fun l hl=>hg (c :: l) (fun d hd=>by
    rcases List.mem_cons.1 hd with rfl | h
    ·simp
    ·simp [hl d h])) (by simp at hN;omega)
   have h2:((x c*g cs).natAbs:Int)≤X*G:=by
    rw [Int.natAbs_mul,Int.natCast_mul]
    exact Int.mul_le_mul (hx c (by simp)) (hg cs (fun d hd=>by simp [hd])) (by omega) hX
   have h3:(((x c*g cs) - w x (fun l=>g (c :: l)) cs).natAbs:Int)≤((x c*g cs).natAbs:Int)+((w x (fun l=>g (c :: l)) cs).natAbs:Int):=by omega
   rw [w,Int.natCast_add,Int.add_mul]
   omega
end Md
end Go.Proofs.YtgmobkafnefpfaaGreat
