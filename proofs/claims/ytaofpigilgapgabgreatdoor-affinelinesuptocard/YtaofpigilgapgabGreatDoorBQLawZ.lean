/-
  The given statement on AffineLines, for every input of bulk at most 1048576: the call answers true, and each argument reads behind it as it read before; and its card. Its condition: the two tables of unicode/utf8 are laid as the row lists them; the card ties that to the program's text. Beside it: AffineLines, the walk.
-/
import Derived.Test.YtaofpigilgapgabGreatDoorRows
import Derived.Test.YtaofpigilgapgabGreatDoorCards
import Derived.Test.YtaofpigilgapgabGreatDoorTie
import Derived.ProofKit
import Derived.OpenShut
import Derived.ShutString
import Derived.ChangeOld
import Derived.SizedLaws
import Derived.Lib.SmallJoins
import Derived.Lib.LaidU8
import Derived.Lib.LaidIn
import Derived.Deep.DeepHandedRow
import Derived.SliceStrings
import Derived.JoinedCond
import Derived.Test.YtaofpigilgapgabGreatDoorBQLawZ4
namespace Go.Proofs.YtaofpigilgapgabGreatDoor
namespace Lm
open Go Go.RowKit
theorem step_does {ops:Array Oper} {o:Oper} {a:Act} {w:World} {K:Act→World→Prop} {Q:Exit→Act→World→Prop} {E:Prop} {R:Value→World→Prop} (hw:Region.wanted o (yielded ops a.tmps)=true) (hd:Does Tryz.prog o a.eval w R) (hK:∀ r w',R r w'→K (a.put o.dst r) w') :
  if Region.wanted o (yielded ops a.tmps)=true then Oper.wp Tryz.prog o a w K Q else E:=by
 rw [if_pos hw]
 exact Does.wp hd hK
def addZ (rs os:List Int):List Int:=List.zipWith (·+·) rs os
theorem addZ_at {rs os:List Int} {k:Nat} {x y:Int} (hx:rs[k]? = some x) (hy:os[k]? = some y):(addZ rs os)[k]? = some (x+y):=by
 simp [addZ,List.getElem?_zipWith,hx,hy]
theorem addZ_length {rs os:List Int} (h:os.length=rs.length):(addZ rs os).length=rs.length:=by simp [addZ,h]
theorem wsN_add (rs os ss:List Int) (h:os.length=rs.length) (k:Nat) (hk:k≤rs.length):wsN (addZ rs os) ss k=wsN rs ss k+wsN os ss k:=by
 induction k with
 | zero=>simp [wsN]
 | succ k ih =>
  obtain ⟨x,hx⟩:∃ x,rs[k]? = some x:=⟨_,List.getElem?_eq_getElem (by omega)⟩
  obtain ⟨y,hy⟩:∃ y,os[k]? = some y:=⟨_,List.getElem?_eq_getElem (by omega)⟩
  rw [wsN,wsN,wsN,ih (by omega),addZ_at hx hy,hx,hy]
  simp only [Option.getD_some]
  grind
def selfZ (m k:Nat):List Int:=(List.replicate m 0).set k 1
theorem selfZ_length (m k:Nat):(selfZ m k).length=m:=by simp [selfZ]
theorem selfZ_same {m k:Nat} (h:k<m):(selfZ m k)[k]? = some 1:=by simp [selfZ,h]
theorem selfZ_ne {m k i:Nat} (h:i<m) (hn:i≠k):(selfZ m k)[i]? = some 0:=by
 rw [selfZ,List.getElem?_set_ne (fun e=>hn e.symm)]
 simp [h]
theorem wsN_self (m k:Nat) (ss:List Int) (hk:k<m) (j:Nat) (hj:j≤m):wsN (selfZ m k) ss j=if k<j then ss[k]?.getD 0 else 0:=by
 induction j with
 | zero=>simp [wsN]
 | succ j ih =>
  rw [wsN,ih (by omega)]
  by_cases h1:j=k
  ·subst h1
   rw [selfZ_same hk,if_neg (by omega),if_pos (by omega)]
   simp
  ·rw [selfZ_ne (by omega) h1]
   by_cases h2:k<j
   ·rw [if_pos h2,if_pos (by omega)]
    simp
   ·rw [if_neg h2,if_neg (by omega)]
    simp
theorem putZ_self (rs:List Int) (k:Nat) (hk:k+1<rs.length):putZ rs k (selfZ rs.length k)=rs:=by
 apply List.ext_getElem?
 intro i
 by_cases hi:i<rs.length
 ·obtain ⟨x,hx⟩:∃ x,rs[i]? = some x:=⟨_,List.getElem?_eq_getElem hi⟩
  rw [putZ_at hi,hx]
  congr 1
  by_cases h1:i+1=rs.length
  ·rw [if_pos h1,selfZ_ne hi (by omega)]
   simp
  ·rw [if_neg h1]
   by_cases h2:i=k
   ·subst h2
    rw [if_pos rfl,selfZ_same hi,hx]
    simp
   ·rw [if_neg h2,selfZ_ne hi h2]
    simp
 ·rw [List.getElem?_eq_none (by rw [putZ_length];omega),List.getElem?_eq_none (by omega)]
theorem made_z (m k:Nat):((List.replicate m (⟨false,none,0,0,[]⟩:WE)).map WE.z).set k 1=selfZ m k:=by
 rw [List.map_replicate]
 rfl
theorem ow_nil (B:Nat) (w:World):Ow B w (.slice none 0 0) []:=⟨none,0,rfl,Nat.le_refl _,Nat.zero_le _,fun z hz=>(by cases hz),.inl rfl⟩
theorem rwo_made {w:World} {B g n:Nat} {xs:List Value} (h:w.ownsRow B 38 2 (.slice (some ⟨g,0,none⟩) n n) n xs) (hx:xs=flat (List.replicate n ⟨false,none,0,0,[]⟩)):RwO B w (.slice (some ⟨g,0,none⟩) n n) (List.replicate n ⟨false,none,0,0,[]⟩):=by
 subst hx
 refine ⟨by rw [List.length_replicate];exact h,fun e he=>?_⟩
 obtain rfl:=List.eq_of_mem_replicate he
 exact ow_nil _ _
set_option maxRecDepth 20000 in
set_option maxHeartbeats 16000000 in
set_option maxRecDepth 400000 in
theorem lines_any (w:World) (hT:Tabs w) (ax:Option Addr) (mx cx:Nat) (xs:List WE) (ay:Option Addr) (my cy:Nat) (ys:List WE) (az:Option Addr) (mz cz:Nat) (us:List WE) (Rx:Rw w (.slice ax mx cx) xs) (hx:lenW xs≤1048576) (Ry:Rw w (.slice ay my cy) ys) (hy:lenW ys≤1048576) (Rz:Rw w (.slice az mz cz) us) (hz:lenW us≤1048576) :
  Calls Tryz.prog 5 #[.slice ax mx cx,.slice ay my cy,.slice az mz cz] w fun e w'=>e=.returned (.bool true)∧Below w.heap.size w w' := by
 have K1:=hide (awake5 w hT)
 obtain ⟨ex,_,_⟩:=Rx.parts
 obtain ⟨ey,_,_⟩:=Ry.parts
 obtain ⟨ez,_,_⟩:=Rz.parts
 have lx:=lenW_length xs
 have ly:=lenW_length ys
 have lz:=lenW_length us
 have HLx:=hide (And.intro ex hx)
 have HLy:=hide (And.intro ey hy)
 have HLz:=hide (And.intro ez hz)
 have HX:=hide Rx
 have HY:=hide Ry
 have HZ:=hide Rz
 obtain ⟨sx,hsx⟩:∃ sx,lenW xs=sx:=⟨_,rfl⟩
 obtain ⟨sy,hsy⟩:∃ sy,lenW ys=sy:=⟨_,rfl⟩
 obtain ⟨sz,hsz⟩:∃ sz,lenW us=sz:=⟨_,rfl⟩
 rw [←ex] at lx
 rw [←ey] at ly
 rw [←ez] at lz
 rw [hsx] at lx hx
 rw [hsy] at ly hy
 rw [hsz] at lz hz
 have HSx:=hide hsx
 have HSy:=hide hsy
 have HSz:=hide hsz
 clear Rx Ry Rz ex ey ez hT hsx hsy hsz
 have hs1:IntKind.i64.wrap ((sx:Int)+(sy:Int))=(sx:Int)+(sy:Int):=by rw [IntKind.wrap_i64];omega
 have hs2:IntKind.i64.wrap ((sx:Int)+(sy:Int)+(sz:Int))=(sx:Int)+(sy:Int)+(sz:Int):=by rw [IntKind.wrap_i64];omega
 go_enter Tryz.func5,Tryz.ntmps5
 go_wp2_with fail
 refine K1.out.mono ?_
 rintro e w1 ⟨rfl,hb1⟩
 have K2:=hide (lenrow_w w1 _ _ _ _ (HX.out.below hb1) (by have:=HLx.out.2;omega))
 rw [HSx.out] at K2
 have HB1:=hide hb1
 clear hb1 K1
 go_wp2_with fail
 refine K2.out.mono ?_
 rintro e w2 ⟨rfl,hb2⟩
 replace hb2:=HB1.out.trans (hb2.mono HB1.out.size)
 have K3:=hide (lenrow_w w2 _ _ _ _ (HY.out.below hb2) (by have:=HLy.out.2;omega))
 rw [HSy.out] at K3
 have HB2:=hide hb2
 clear hb2 K2 HB1
 go_wp2_with fail
 refine K3.out.mono ?_
 rintro e w3 ⟨rfl,hb3⟩
 replace hb3:=HB2.out.trans (hb3.mono HB2.out.size)
 have K4:=hide (lenrow_w w3 _ _ _ _ (HZ.out.below hb3) (by have:=HLz.out.2;omega))
 rw [HSz.out] at K4
 have HB3:=hide hb3
 clear hb3 K3 HB2
 go_wp2_with fail
 refine K4.out.mono ?_
 rintro e w4 ⟨rfl,hb4⟩
 replace hb4:=HB3.out.trans (hb4.mono HB3.out.size)
 have HB4:=hide hb4
 clear hb4 K4 HB3
 by_cases hlong:1500<(sx:Int)+(sy:Int)+(sz:Int)
 ·have hl' : decide (1500<(sx:Int)+(sy:Int)+(sz:Int))=true:=by simpa using hlong
  go_wp2
  refine bodyPost_ret (v:=_) (by simp [results,Tryz.results5,go_sem];try rfl) rfl ⟨rfl,HB4.out⟩
 ·have hl' : decide (1500<(sx:Int)+(sy:Int)+(sz:Int))=false:=by simpa using hlong
  have HLG:Hid (sx+sy+sz≤1500):=(show sx+sy+sz≤1500 by omega)
  clear hlong
  have hwz:IntKind.i64.wrap ((mz:Int)+1)=(mz:Int)+1:=by rw [IntKind.wrap_i64];omega
  by_cases hx1:mx=mz+1
  ·have hx1' : ((mx:Int) != (mz:Int)+1)=false:=by simp;omega
   have HX1:=hide hx1
   clear hx1
   by_cases hy1:my=mz+1
   ·have hy1' : ((my:Int) != (mz:Int)+1)=false:=by simp;omega
    have HY1:=hide hy1
    clear hy1
    have hx1:=HX1.out
    have hy1:=HY1.out
    have hlg:=HLG.out
    have HEX:=hide (And.intro HLx.out.1 (And.intro HLy.out.1 HLz.out.1))
    have IX:=hide (HX.out.isrow (L:=1500) (by have:=HSx.out;omega))
    have IY:=hide (HY.out.isrow (L:=1500) (by have:=HSy.out;omega))
    have IZ:=hide (HZ.out.isrow (L:=1500) (by have:=HSz.out;omega))
    have HM1:Hid (mz≤1500∧mx≤1500∧my≤1500):=(show mz≤1500∧mx≤1500∧my≤1500 by omega)
    clear hx1 hy1 hlg
    go_wp2_with fail
    go_loopw [8,9] (fun sv iv wr=>∃ (k:Nat) (es:List WE),iv=.int .i64 k∧k≤mz+1∧Below w.heap.size w wr∧RwO w.heap.size wr sv es∧es.map WE.z=(addZ (xs.map WE.z) (ys.map WE.z)).take k∧(∀ e ∈ es,e.zs.length≤3001)∧es.length=k) (fun _ iv _=>mz+1 - (intOf iv).toNat)
    case atStart=>exact ⟨0,[],rfl,Nat.zero_le _,HB4.out,rwo_nil _ _,rfl,fun e he=>(by cases he),rfl⟩
    case round =>
     obtain ⟨k,es,rfl,hk,hbw,ho,hez,hel,hen⟩:=hrel
     obtain ⟨aov,capv,hov,_⟩:=Cl.own ho.own
     subst hov
     have HW:=hide hbw
     have HO:=hide ho
     have HEZ:=hide hez
     have HEL:=hide hel
     have HEN:=hide hen
     have hm1:=HM1.out
     by_cases hlt:k≤mz
     ·obtain ⟨x,hxk⟩:∃ x,(xs.map WE.z)[k]? = some x:=⟨_,List.getElem?_eq_getElem (by have:=HEX.out;have:=HX1.out;simp only [List.length_map];omega)⟩
      obtain ⟨y,hyk⟩:∃ y,(ys.map WE.z)[k]? = some y:=⟨_,List.getElem?_eq_getElem (by have:=HEX.out;have:=HY1.out;simp only [List.length_map];omega)⟩
      obtain ⟨b,off,ngx,axx,mxx,cxx,rfl,hbl,x0,x1,hxw⟩:=IX.out.cell hxk
      obtain ⟨bf,of,ngy,ayy,myy,cyy,rfl,hblf,p0,p1,hyw⟩:=IY.out.cell hyk
      replace x0:=(hbw.cell (p:=⟨b,off+k*2,none⟩) hbl).trans x0
      replace x1:=(hbw.cell (p:=⟨b,off+k*2+1,none⟩) hbl).trans x1
      replace p0:=(hbw.cell (p:=⟨bf,of+k*2,none⟩) hblf).trans p0
      replace p1:=(hbw.cell (p:=⟨bf,of+k*2+1,none⟩) hblf).trans p1
      have HXW:=hide (hxw.ru (Ru.of_below hbw))
      have HYW:=hide (hyw.ru (Ru.of_below hbw))
      have hltx:(k:Int)<(mx:Int):=by have:=HX1.out;omega
      have hlty:(k:Int)<(my:Int):=by have:=HY1.out;omega
      have hle:(k:Int)≤(mz:Int):=by omega
      have hbwr:b<wr.heap.size:=Nat.lt_of_lt_of_le hbl hbw.size
      have hbfr:bf<wr.heap.size:=Nat.lt_of_lt_of_le hblf hbw.size
      have HAK:=hide (addZ_at hxk hyk)
      clear hbw ho hez hel hxw hyw hxk hyk hen
      go_wp2_with fail
      go_region_law (first | (refine step_call rfl 21 #[.tmp 58,.tmp 62] #[38,38] rfl has_addB #[.agg #[.bool ngx,.slice axx mxx cxx],.agg #[.bool ngy,.slice ayy myy cyy]] (by simp [Act.eval]) (addF _ x y _ _ 1500 1500 (HXW.out.ru (Ru.of_below (show Below wr.heap.size wr _ by (repeat' first|with_reducible(first|exact Below.refl _ _|assumption|refine gdrewN ?_ _|refine Below.alloc ?_ ?_ _|refine Below.drew ?_|refine Below.setCell ?_ ?_ _)|go_size)))) (HYW.out.ru (Ru.of_below (show Below wr.heap.size wr _ by (repeat' first|with_reducible(first|exact Below.refl _ _|assumption|refine gdrewN ?_ _|refine Below.alloc ?_ ?_ _|refine Below.drew ?_|refine Below.setCell ?_ ?_ _)|go_size)))) (by omega) (by omega)) ?_;rintro e w7 ⟨v7,rfl,h7,hb7⟩;have hb57:Below wr.heap.size wr w7:=(show Below wr.heap.size wr _ by (repeat' first|with_reducible(first|exact Below.refl _ _|assumption|refine gdrewN ?_ _|refine Below.alloc ?_ ?_ _|refine Below.drew ?_|refine Below.setCell ?_ ?_ _)|go_size)).trans (hb7.mono (by simp));have hf7:=h7.low (show wr.heap.size≤_ from (show Below wr.heap.size wr _ by (repeat' first|with_reducible(first|exact Below.refl _ _|assumption|refine gdrewN ?_ _|refine Below.alloc ?_ ?_ _|refine Below.drew ?_|refine Below.setCell ?_ ?_ _)|go_size)).size);obtain ⟨ng2,ao2,cap2,rs2,B2,T2,rfl,hwf,hB2,hT2,hl2⟩:=hf7;have hA:=hAl w7 (.cells #[.bool ng2,.slice ao2 rs2.length cap2] 38);have hb2' := hb57.trans (hA.mono hb57.size);have hR2:=HO.out.below hb2';have hO2:One _ w7.heap.size ng2 ao2 rs2.length cap2:=heap_alloc_new w7 (.cells #[.bool ng2,.slice ao2 rs2.length cap2] 38);have hS2:Ow w.heap.size _ (.slice ao2 rs2.length cap2) rs2:=(hwf.fr.ow.mono (Nat.le_trans HW.out.size hB2)).below hA;have hsz:=Nat.le_trans HW.out.size hb2'.size;have HWF:=hide hwf;have HB2:=hide hb2';have HR2:=hide hR2;have HO2:=hide hO2;have HS2:=hide hS2;have HSZ:=hide hsz;clear h7 hb7 hb57 hwf hB2 hT2 hA hb2' hR2 hO2 hS2 hsz;refine ⟨_,rfl,?_⟩) | (refine step_does (by simp [Region.wanted]) (op_appr (i:=54) (j:=64) rfl rfl HR2.out HO2.out HS2.out (by have:=HEN.out;omega) HSZ.out) ?_;intro v3 w3 hR3';have hR3:=hR3'.1;have hb3:=hR3'.2;have hcl:=Cl.own hR3.own;obtain ⟨aov3,capv3,hov3,_⟩:=hcl;subst hov3;have HR3:=hide hR3;have HB3:=hide ((HW.out.trans (HB2.out.mono HW.out.size)).trans hb3);clear hR3' hR3 hb3))
      all_goals (
       go_wp2
       go_roundw
       case rel =>
        refine ⟨k+1,es ++ [⟨ng2,ao2,rs2.length,cap2,rs2⟩],by go_num,by omega,HB3.out,by have h:=HR3.out;rw [List.length_append] at h;exact h,?_,?_,by simp [HEN.out]⟩
        ·rw [List.map_append,HEZ.out,List.take_add_one,HAK.out]
         congr 1
         exact congrArg (fun q=>[q]) HWF.out.wh.ag.worth
        ·intro e he
         rcases List.mem_append.1 he with he | he
         ·exact HEL.out e he
         ·obtain rfl:=List.mem_singleton.1 he
          exact hl2
       case measure=>simp [intOf];omega)
     ·have hle:decide ((k:Int)≤(mz:Int))=false:=by simp;omega
      have hkn:k=mz+1:=by omega
      subst hkn
      clear hbw ho hez hel hen
      go_wp2_with fail
      obtain ⟨zr,hzr⟩:∃ z,(xs.map WE.z)[(us.map WE.z).length]? = some z:=⟨_,List.getElem?_eq_getElem (by have:=HEX.out;have:=HX1.out;simp only [List.length_map];omega)⟩
      obtain ⟨zo,hzo⟩:∃ z,(ys.map WE.z)[(us.map WE.z).length]? = some z:=⟨_,List.getElem?_eq_getElem (by have:=HEX.out;have:=HY1.out;simp only [List.length_map];omega)⟩
      have HZR:=hide hzr
      have HZO:=hide hzo
      have HZS:=hide (addZ_at hzr hzo)
      have HAL:=hide (addZ_length (rs:=xs.map WE.z) (os:=ys.map WE.z) (by have:=HEX.out;have:=HX1.out;have:=HY1.out;simp only [List.length_map];omega))
      have ISM:Hid (IsRow wr (.slice aov es.length capv) (addZ (xs.map WE.z) (ys.map WE.z)) 3001):=⟨es,HO.out.rw,by rw [HEZ.out,List.take_of_length_le (by have:=HEX.out;have:=HX1.out;rw [HAL.out];simp only [List.length_map];omega)],HEL.out⟩
      have K1:=hide (left_any wr _ _ _ _ 1500 zr (IX.out.below HW.out) (IZ.out.below HW.out) (by have:=HEX.out;have:=HX1.out;simp only [List.length_map];omega) (by have:=HEX.out;simp only [List.length_map];omega) (by omega) hzr)
      clear hzr hzo hm1 hlt hle
      refine K1.out.mono ?_
      rintro e wa ⟨ra,rfl,ha,hba⟩
      obtain ⟨ng1,ao1,k1,cap1,rfl⟩:=ha.agg
      have hbB:=hAl wa (.cells #[.bool ng1,.slice ao1 k1 cap1] 38)
      have hnewA:=heap_alloc_new wa (.cells #[.bool ng1,.slice ao1 k1 cap1] 38)
      have h9b:=hba.trans (hbB.mono hba.size)
      have HRA:=hide h9b
      have H0a:=hide (HW.out.trans (h9b.mono HW.out.size))
      have HA:=hide (ha.ru (Ru.of_below hbB))
      have HNA:=hide hnewA
      have K2:=hide (left_any _ _ _ _ _ 1500 zo (IY.out.below H0a.out) (IZ.out.below H0a.out) (by have:=HEX.out;have:=HY1.out;simp only [List.length_map];omega) (by have:=HEX.out;have:=HM1.out;simp only [List.length_map];omega) (by omega) HZO.out)
      clear ha hba hbB hnewA h9b K1
      go_wp2_with fail
      generalize hWb:wa.alloc (.cells #[.bool ng1,.slice ao1 k1 cap1] 38)=wb at *
      generalize hfA:wa.heap.size=fA at *
      clear hWb hfA
      refine K2.out.mono ?_
      rintro e wc0 ⟨rb,rfl,hb,hbc⟩
      obtain ⟨ng2,ao2,k2,cap2,rfl⟩:=hb.agg
      have hbC:=hAl wc0 (.cells #[.bool ng2,.slice ao2 k2 cap2] 38)
      have hnewB:=heap_alloc_new wc0 (.cells #[.bool ng2,.slice ao2 k2 cap2] 38)
      have hbd:=hbc.trans (hbC.mono hbc.size)
      have HRB:=hide (HRA.out.trans (hbd.mono HRA.out.size))
      have H0b:=hide (H0a.out.trans (hbd.mono H0a.out.size))
      have HA2:=hide (HA.out.ru (Ru.of_below hbd))
      have HNA2:=hide ((hbd.block _ (lt_of_heap HNA.out)).trans HNA.out)
      have HB:=hide (hb.ru (Ru.of_below hbC))
      have HNB:=hide hnewB
      have K3:=hide (left_any _ _ _ _ _ 3001 (zr+zo) (ISM.out.below HRB.out) ((IZ.out.below H0b.out).wide (by omega)) (by have:=HEX.out;have:=HX1.out;rw [HAL.out];simp only [List.length_map];omega) (by have:=HEX.out;have:=HM1.out;simp only [List.length_map];omega) (by omega) HZS.out)
      clear hb hbc hbC hnewB hbd K2 HA HNA HRA
      go_wp2_with fail
      generalize hWd:wc0.alloc (.cells #[.bool ng2,.slice ao2 k2 cap2] 38)=wd at *
      generalize hfB:wc0.heap.size=fB at *
      clear hWd hfB
      refine K3.out.mono ?_
      rintro e we ⟨rc,rfl,hc,hbe⟩
      obtain ⟨ng3,ao3,k3,cap3,rfl⟩:=hc.agg
      have hbD:=hAl we (.cells #[.bool ng3,.slice ao3 k3 cap3] 38)
      have hnewC:=heap_alloc_new we (.cells #[.bool ng3,.slice ao3 k3 cap3] 38)
      have hbf:=hbe.trans (hbD.mono hbe.size)
      have H0f:=hide (H0b.out.trans (hbf.mono H0b.out.size))
      have HA3:=hide (HA2.out.ru (Ru.of_below hbf))
      have HB3:=hide (HB.out.ru (Ru.of_below hbf))
      have HC3:=hide (hc.ru (Ru.of_below hbD))
      have HNA3:=hide ((hbf.block _ (lt_of_heap HNA2.out)).trans HNA2.out)
      have HNB3:=hide ((hbf.block _ (lt_of_heap HNB.out)).trans HNB.out)
      have HNC3:=hide hnewC
      have HEQ:Hid (wsN (addZ (xs.map WE.z) (ys.map WE.z)) (us.map WE.z) (us.map WE.z).length - (zr+zo)=(wsN (xs.map WE.z) (us.map WE.z) (us.map WE.z).length - zr)+(wsN (ys.map WE.z) (us.map WE.z) (us.map WE.z).length - zo)):=(show _ = _ by
       rw [wsN_add _ _ _ (by have:=HEX.out;have:=HX1.out;have:=HY1.out;simp only [List.length_map];omega) _ (by have:=HEX.out;have:=HX1.out;simp only [List.length_map];omega)]
       omega)
      clear hc hbe hbD hnewC hbf K3 HA2 HB HNA2 HNB HRB H0a H0b
      obtain ⟨AZ,hAZ⟩:∃ z,wsN (xs.map WE.z) (us.map WE.z) (us.map WE.z).length - zr=z:=⟨_,rfl⟩
      obtain ⟨BZ,hBZ⟩:∃ z,wsN (ys.map WE.z) (us.map WE.z) (us.map WE.z).length - zo=z:=⟨_,rfl⟩
      obtain ⟨CZ,hCZ⟩:∃ z,wsN (addZ (xs.map WE.z) (ys.map WE.z)) (us.map WE.z) (us.map WE.z).length - (zr+zo)=z:=⟨_,rfl⟩
      rw [hAZ] at HA3 HEQ
      rw [hBZ] at HB3 HEQ
      rw [hCZ] at HC3 HEQ
      have HAZ:=hide hAZ
      clear hAZ hBZ hCZ
      go_upto_region 16 with fail
      generalize hWg:we.alloc (.cells #[.bool ng3,.slice ao3 k3 cap3] 38)=wg at *
      generalize hfC:we.heap.size=fC at *
      clear hWg hfC
      go_cut [101] (fun cv wx=>cv=.bool false∧Below wg.heap.size wg wx)
      case first =>
       have hEQ:=HEQ.out
       refine cut_abs [84,85,86,87,88,89,90,91,92,93,94,95,96,97,98,99,100,101] [Eqs ((.int .i64 0)),Eqs (.bool false),Eqs (.bool false),Eqs ((.int .i64 0)),Eqs (.bool false),Eqs (.bool false),Eqs (.bool false),Eqs ((.int .i64 0)),Eqs (.bool false),Eqs (.bool false),Eqs (.bool false),(OutW CZ (3*3001+2)),(OutW AZ (3*1500+2)),(OutW BZ (3*1500+2)),(OutW (AZ+BZ) ((3*1500+2)+(3*1500+2)+1)),Eqs (.bool true),Eqs (.bool false),Eqs (.bool false)] (by assumption) (by assumption) rfl (by decide) (by kernel_rfl) (by kernel_rfl) ⟨Eqs.mono _,Eqs.mono _,Eqs.mono _,Eqs.mono _,Eqs.mono _,Eqs.mono _,Eqs.mono _,Eqs.mono _,Eqs.mono _,Eqs.mono _,Eqs.mono _,(Mono.of4 (OutW.mono4 _ _)),(Mono.of4 (OutW.mono4 _ _)),(Mono.of4 (OutW.mono4 _ _)),(Mono.of4 (OutW.mono4 _ _)),Eqs.mono _,Eqs.mono _,Eqs.mono _,trivial⟩ ?_ ?_
       ·exact ⟨⟨rfl,fun a_ w_ _ hB hR hD=>op_mv ((hR 11 rfl).trans (eval_list rfl))⟩,
         ⟨rfl,fun a_ w_ _ hB hR hD=>op_neqE (show a_.eval (.tmp 84)=(.int .i64 0) from hD 0 rfl)⟩,
         ⟨rfl,fun a_ w_ _ hB hR hD=>op_mv (show a_.eval (.tmp 85)=.bool false from hD 1 rfl)⟩,
         ⟨rfl,fun a_ w_ _ hB hR hD=>⟨by decide,fun _=>op_mv ((hR 13 rfl).trans (eval_list rfl)),fun hne=>absurd (hD 2 rfl) hne⟩⟩,
         ⟨rfl,fun a_ w_ _ hB hR hD=>⟨by decide,fun _=>op_neqE (show a_.eval (.tmp 87)=(.int .i64 0) from hD 3 rfl),fun hne=>absurd (hD 2 rfl) hne⟩⟩,
         ⟨rfl,fun a_ w_ _ hB hR hD=>op_pickb (show a_.eval (.tmp 86)=.bool false from hD 2 rfl) (show a_.eval (.tmp 88)=.bool false from hD 4 rfl)⟩,
         ⟨rfl,fun a_ w_ _ hB hR hD=>op_mv (show a_.eval (.tmp 89)=.bool false from hD 5 rfl)⟩,
         ⟨rfl,fun a_ w_ _ hB hR hD=>⟨by decide,fun _=>op_mv ((hR 15 rfl).trans (eval_list rfl)),fun hne=>absurd (hD 6 rfl) hne⟩⟩,
         ⟨rfl,fun a_ w_ _ hB hR hD=>⟨by decide,fun _=>op_neqE (show a_.eval (.tmp 91)=(.int .i64 0) from hD 7 rfl),fun hne=>absurd (hD 6 rfl) hne⟩⟩,
         ⟨rfl,fun a_ w_ _ hB hR hD=>op_pickb (show a_.eval (.tmp 90)=.bool false from hD 6 rfl) (show a_.eval (.tmp 92)=.bool false from hD 8 rfl)⟩,
         ⟨rfl,fun a_ w_ _ hB hR hD=>op_mv (show a_.eval (.tmp 93)=.bool false from hD 9 rfl)⟩,
         ⟨rfl,fun a_ w_ _ hB hR hD=>⟨by decide,fun _=>op_ldP ((hR 14 rfl).trans (eval_list rfl)) ((hB.block _ (lt_of_heap HNC3.out)).trans HNC3.out) (Mono.of4 (OutW.mono4 _ _) _ _ _ hB HC3.out.out),fun hne=>absurd (hD 10 rfl) hne⟩⟩,
         ⟨rfl,fun a_ w_ _ hB hR hD=>⟨by decide,fun _=>op_ldP ((hR 10 rfl).trans (eval_list rfl)) ((hB.block _ (lt_of_heap HNA3.out)).trans HNA3.out) (Mono.of4 (OutW.mono4 _ _) _ _ _ hB HA3.out.out),fun hne=>absurd (hD 10 rfl) hne⟩⟩,
         ⟨rfl,fun a_ w_ _ hB hR hD=>⟨by decide,fun _=>op_ldP ((hR 12 rfl).trans (eval_list rfl)) ((hB.block _ (lt_of_heap HNB3.out)).trans HNB3.out) (Mono.of4 (OutW.mono4 _ _) _ _ _ hB HB3.out.out),fun hne=>absurd (hD 10 rfl) hne⟩⟩,
         ⟨rfl,fun a_ w_ _ hB hR hD=>⟨by decide,fun _=>op_add (L1:=3*1500+2) (L2:=3*1500+2) ((show (OutW AZ (3*1500+2)) (a_.eval (.tmp 96)) w_ from hD 12 rfl)).is ((show (OutW BZ (3*1500+2)) (a_.eval (.tmp 97)) w_ from hD 13 rfl)).is (by omega) (by omega),fun hne=>absurd (hD 10 rfl) hne⟩⟩,
         ⟨rfl,fun a_ w_ _ hB hR hD=>⟨by decide,fun _=>op_same (show (OutW CZ (3*3001+2)) (a_.eval (.tmp 95)) w_ from hD 11 rfl) (show (OutW (AZ+BZ) ((3*1500+2)+(3*1500+2)+1)) (a_.eval (.tmp 98)) w_ from hD 14 rfl) hEQ,fun hne=>absurd (hD 10 rfl) hne⟩⟩,
         ⟨rfl,fun a_ w_ _ hB hR hD=>⟨by decide,fun _=>op_not (show a_.eval (.tmp 99)=.bool true from hD 15 rfl),fun hne=>absurd (hD 10 rfl) hne⟩⟩,
         ⟨rfl,fun a_ w_ _ hB hR hD=>op_pickb (show a_.eval (.tmp 94)=.bool false from hD 10 rfl) (show a_.eval (.tmp 100)=.bool false from hD 16 rfl)⟩,
         trivial⟩
       ·intro a' w' hn' hd' hB' hR' hP'
        (repeat apply Exists.intro)
        refine ⟨?rel,act_fit hn' hd' hR' ?fit⟩
        case fit=>repeat' (first | exact trivial | refine ⟨(by first | exact .inl ⟨rfl,rfl⟩ | exact .inr rfl),?_⟩)
        case rel=>exact ⟨(show _ = _ from hP' 17 (by decide)),hB'⟩
      case rest =>
       obtain ⟨hc101,hbx⟩:=hcut
       have H0x:=hide (H0f.out.trans (hbx.mono H0f.out.size))
       have HA4:=hide (HA3.out.ru (Ru.of_below hbx))
       have HNA4:=hide ((hbx.block _ (lt_of_heap HNA3.out)).trans HNA3.out)
       clear hbx HA3 HB3 HC3 HNA3 HNB3 HNC3 HEQ
       subst hc101
       obtain ⟨m1,hm1⟩:∃ m1:Nat,m1=mz+1:=⟨_,rfl⟩
       have HM2:=hide hm1
       have hwz2:IntKind.i64.wrap ((mz:Int)+1)=(m1:Int):=by rw [IntKind.wrap_i64];have:=HM1.out;omega
       have hm1b:m1≤1000000:=by have:=HM1.out;omega
       clear hm1 hwz
       obtain ⟨iW,hi',hz0',hz1',hz2'⟩:=info_parts infoWz
       go_wp2_with fail
       go_loopw [16] (fun iv wr=>∃ (k:Nat),iv=.int .i64 k∧k≤mz∧Below wc.heap.size wc wr) (fun iv _=>mz - (intOf iv).toNat)
       case atStart=>exact ⟨0,rfl,Nat.zero_le _,Below.refl _ _⟩
       case round =>
        obtain ⟨k,rfl,hk,hbw⟩:=hrel
        have HWc:=hide hbw
        have H0r:=hide (H0x.out.trans (hbw.mono H0x.out.size))
        clear hbw
        by_cases hlt:k<mz
        ·have hltz:(k:Int)<(mz:Int):=by omega
         have HKM:Hid (k<mz):=hlt
         clear hlt
         go_wp2_with (refine wpList_make_full _ rfl (.tmp 108) (.tmp 108) 22 rfl _ 38 iW (.agg #[.bool false,.slice none 0 0]) 2 Tryz.underlying22 hi' hz0' hz1' .i64 .i64 _ _ m1 rfl rfl (by omega) (by omega) (by rw [hz2'];omega) (by unfold maxLen;omega) (Nat.le_refl _) ?hK)
         case hK =>
          intro w1 hown hgrow
          have hb1:Below wr.heap.size wr w1:=(Below.refl _ _).grown hgrow (Nat.le_refl _) (by simp)
          have HRO:=hide (rwo_made hown (made_two _))
          have HR1:=hide hb1
          have K1:=hide (wof_g w1 1 (by decide) (by decide))
          clear hown hgrow hb1
          go_wp2_with fail
          refine K1.out.mono ?_
          rintro e w2 ⟨ng1,ao1,cap1,rs1,rfl,hW1,hl1,hb2⟩
          have hkm:=HKM.out
          have hm2:=HM2.out
          obtain ⟨g,capg,hvg,hgB,hgl,⟨ngq,aq,mq,cq,c0,c1⟩,cf0,cf1,hrow,hrc⟩:=row_store (V:=k) (L:=1500) (HRO.out.below hb2) (by rw [List.length_replicate];omega) (fun e he=>(by obtain rfl:=List.eq_of_mem_replicate he;simp)) (show IsW 1 1500 (.agg #[.bool ng1,.slice ao1 rs1.length cap1]) w2 from ⟨_,_,_,_,_,rfl,hW1.ag,by omega⟩)
          rw [List.length_replicate] at hvg
          simp only [Value.slice.injEq,Option.some.injEq,Addr.mk.injEq,and_true,true_and] at hvg
          obtain ⟨rfl,rfl⟩:=hvg
          rw [made_z] at hrow
          have HROW:=hide hrow
          have HR3:=hide (HR1.out.trans ((hb2.mono HR1.out.size).trans (hrc.below (by have:=HR1.out.size;have:=hb2.size;omega) hgB hgB)))
          have hkm1:(k:Int)<(m1:Int):=by omega
          clear hrow hrc hb2 hW1 K1 hkm hm2
          go_wp2_with fail
          generalize hW3:(w2.setCell ⟨wr.heap.size,k*2,none⟩ (.bool ng1)).setCell ⟨wr.heap.size,k*2+1,none⟩ (.slice ao1 rs1.length cap1)=w3 at *
          clear hW3 c0 c1 cf0 cf1
          have hkm:=HKM.out
          have hex:=HEX.out
          have hx1:=HX1.out
          have hm2:=HM2.out
          have hmm:=HM1.out
          have H03:=hide (H0r.out.trans (HR3.out.mono H0r.out.size))
          obtain ⟨sv,hsv⟩:∃ z,(us.map WE.z)[k]? = some z:=⟨_,List.getElem?_eq_getElem (by simp only [List.length_map];omega)⟩
          have hlz:(us.map WE.z).length=mz:=by simp only [List.length_map];omega
          have hlx:(xs.map WE.z).length=m1:=by simp only [List.length_map];omega
          have K2:=hide (value_any w3 _ _ _ _ 1500 0 HROW.out (IZ.out.below H03.out) (by rw [selfZ_length,hlz];omega) (by omega) (by omega) (by rw [hlz];exact selfZ_ne (by omega) (by omega)))
          rw [wsN_self _ _ _ (by omega) _ (by omega),if_pos (by omega),hsv,Option.getD_some,Int.add_zero] at K2
          have HSV:=hide hsv
          have HLZ:=hide (And.intro hlz hlx)
          clear hkm hex hx1 hm2 hmm hsv hlz hlx
          refine K2.out.mono ?_
          rintro e w4 ⟨rx,rfl,hx,hb4⟩
          obtain ⟨ngx,aox,kx,capx,rfl⟩:=hx.agg
          have hbX:=hAl w4 (.cells #[.bool ngx,.slice aox kx capx] 38)
          have hnewX:=heap_alloc_new w4 (.cells #[.bool ngx,.slice aox kx capx] 38)
          have h35:=hb4.trans (hbX.mono hb4.size)
          have HR5:=hide h35
          have H05:=hide (H03.out.trans (h35.mono H03.out.size))
          have HX4:=hide (hx.ru (Ru.of_below hbX))
          have HNX:=hide hnewX
          have K3:=hide (put_any _ _ _ _ _ k 1500 (IX.out.below H05.out) (HROW.out.below h35) (by rw [selfZ_length];exact HLZ.out.2.symm) (by have:=HLZ.out.2;have:=HM2.out;have:=HKM.out;omega) (by have:=HLZ.out.2;omega) (by omega))
          rw [show selfZ m1 k=selfZ (xs.map WE.z).length k by rw [HLZ.out.2],putZ_self _ _ (by have:=HLZ.out.2;have:=HM2.out;have:=HKM.out;omega)] at K3
          clear hx hb4 hbX hnewX h35 K2
          go_wp2_with fail
          generalize hW5:w4.alloc (.cells #[.bool ngx,.slice aox kx capx] 38)=w5 at *
          generalize hfX:w4.heap.size=fX at *
          clear hW5 hfX
          refine K3.out.mono ?_
          rintro e w6 ⟨rp,rfl,hp,hb6⟩
          obtain ⟨ap,cp,hvp,_⟩:=hp.is.parts
          rw [List.length_map] at hvp
          subst hvp
          have IP:=hide hp.is
          have HR6:=hide hb6
          have H06:=hide (H05.out.trans (hb6.mono H05.out.size))
          have K4:=hide (left_any w6 _ _ _ _ 4502 zr hp.is ((IZ.out.below H06.out).wide (by omega)) (by have:=HLZ.out;have:=HM2.out;omega) (by have:=HLZ.out;have:=HM1.out;omega) (by omega) HZR.out)
          rw [HAZ.out] at K4
          clear hp hb6 K3
          go_wp2_with fail
          refine K4.out.mono ?_
          rintro e w7 ⟨rq,rfl,hq,hb7⟩
          obtain ⟨ngq',aoq,kq,capq,rfl⟩:=hq.agg
          have hbQ:=hAl w7 (.cells #[.bool ngq',.slice aoq kq capq] 38)
          have hnewQ:=heap_alloc_new w7 (.cells #[.bool ngq',.slice aoq kq capq] 38)
          have h68:=hb7.trans (hbQ.mono hb7.size)
          have h58:=HR6.out.trans (h68.mono HR6.out.size)
          have h38:=HR5.out.trans (h58.mono HR5.out.size)
          have HRC:=hide (HWc.out.trans ((HR3.out.trans (h38.mono HR3.out.size)).mono HWc.out.size))
          have H08:=hide (H06.out.trans (h68.mono H06.out.size))
          have HQ4:=hide (hq.ru (Ru.of_below hbQ))
          have HNQ:=hide hnewQ
          have HX5:=hide (HX4.out.ru (Ru.of_below h58))
          have HNX5:=hide ((h58.block _ (lt_of_heap HNX.out)).trans HNX.out)
          have HA5:=hide (HA4.out.ru (Ru.of_below HRC.out))
          have HNA5:=hide ((HRC.out.block _ (lt_of_heap HNA4.out)).trans HNA4.out)
          clear hq hb7 hbQ hnewQ h68 h58 h38 K4 HX4 HNX HROW HRO
          go_upto_region 26 with fail
          generalize hW8:w7.alloc (.cells #[.bool ngq',.slice aoq kq capq] 38)=w8 at *
          generalize hfQ:w7.heap.size=fQ at *
          clear hW8 hfQ
          go_cut [158] (fun cv wx=>cv=.bool false∧Below w8.heap.size w8 wx)
          case first =>
           obtain ⟨bz,oz,ngz,az1,mz1,cz1,haz,hbzl,z0,z1,hzw⟩:=(IZ.out.below H08.out).cell HSV.out
           subst haz
           have HZW:=hide hzw
           refine cut_abs [133,134,135,136,137,138,139,140,141,142,143,144,145,146,147,148,149,150,151,152,153,154,155,156,157,158] [Eqs ((.int .i64 0)),Eqs (.bool false),Eqs (.bool false),Eqs ((.int .i64 0)),Eqs (.bool false),Eqs (.bool false),Eqs (.bool false),Eqs ((.int .i64 0)),Eqs (.bool false),Eqs (.bool false),Eqs (.bool false),(OutW sv (3*1500+2)),Eqs (.slice (some ⟨bz,oz,none⟩) mz cz),Eqs (.int .i64 (k:Int)),Eqs (.pointer (some ⟨bz,oz+k*2,none⟩)),(IsW sv 1500),(OutW sv 1500),Eqs (.bool true),Eqs (.bool false),Eqs (.bool false),Eqs (.bool false),(OutW AZ (3*4502+2)),(OutW AZ (3*1500+2)),Eqs (.bool true),Eqs (.bool false),Eqs (.bool false)] (by assumption) (by assumption) rfl (by decide) (by kernel_rfl) (by kernel_rfl) ⟨Eqs.mono _,Eqs.mono _,Eqs.mono _,Eqs.mono _,Eqs.mono _,Eqs.mono _,Eqs.mono _,Eqs.mono _,Eqs.mono _,Eqs.mono _,Eqs.mono _,(Mono.of4 (OutW.mono4 _ _)),Eqs.mono _,Eqs.mono _,Eqs.mono _,(Mono.of4 (IsW.mono4 _ _)),(Mono.of4 (OutW.mono4 _ _)),Eqs.mono _,Eqs.mono _,Eqs.mono _,Eqs.mono _,(Mono.of4 (OutW.mono4 _ _)),(Mono.of4 (OutW.mono4 _ _)),Eqs.mono _,Eqs.mono _,Eqs.mono _,trivial⟩ ?_ ?_
           ·exact ⟨⟨rfl,fun a_ w_ _ hB hR hD=>op_mv ((hR 19 rfl).trans (eval_list rfl))⟩,
             ⟨rfl,fun a_ w_ _ hB hR hD=>op_neqE (show a_.eval (.tmp 133)=(.int .i64 0) from hD 0 rfl)⟩,
             ⟨rfl,fun a_ w_ _ hB hR hD=>op_mv (show a_.eval (.tmp 134)=.bool false from hD 1 rfl)⟩,
             ⟨rfl,fun a_ w_ _ hB hR hD=>⟨by decide,fun _=>op_mv ((hR 21 rfl).trans (eval_list rfl)),fun hne=>absurd (hD 2 rfl) hne⟩⟩,
             ⟨rfl,fun a_ w_ _ hB hR hD=>⟨by decide,fun _=>op_neqE (show a_.eval (.tmp 136)=(.int .i64 0) from hD 3 rfl),fun hne=>absurd (hD 2 rfl) hne⟩⟩,
             ⟨rfl,fun a_ w_ _ hB hR hD=>op_pickb (show a_.eval (.tmp 135)=.bool false from hD 2 rfl) (show a_.eval (.tmp 137)=.bool false from hD 4 rfl)⟩,
             ⟨rfl,fun a_ w_ _ hB hR hD=>op_mv (show a_.eval (.tmp 138)=.bool false from hD 5 rfl)⟩,
             ⟨rfl,fun a_ w_ _ hB hR hD=>⟨by decide,fun _=>op_mv ((hR 23 rfl).trans (eval_list rfl)),fun hne=>absurd (hD 6 rfl) hne⟩⟩,
             ⟨rfl,fun a_ w_ _ hB hR hD=>⟨by decide,fun _=>op_neqE (show a_.eval (.tmp 140)=(.int .i64 0) from hD 7 rfl),fun hne=>absurd (hD 6 rfl) hne⟩⟩,
             ⟨rfl,fun a_ w_ _ hB hR hD=>op_pickb (show a_.eval (.tmp 139)=.bool false from hD 6 rfl) (show a_.eval (.tmp 141)=.bool false from hD 8 rfl)⟩,
             ⟨rfl,fun a_ w_ _ hB hR hD=>op_mv (show a_.eval (.tmp 142)=.bool false from hD 9 rfl)⟩,
             ⟨rfl,fun a_ w_ _ hB hR hD=>⟨by decide,fun _=>op_ldP ((hR 18 rfl).trans (eval_list rfl)) ((hB.block _ (lt_of_heap HNX5.out)).trans HNX5.out) (Mono.of4 (OutW.mono4 _ _) _ _ _ hB HX5.out.out),fun hne=>absurd (hD 10 rfl) hne⟩⟩,
             ⟨rfl,fun a_ w_ _ hB hR hD=>⟨by decide,fun _=>op_mv ((hR 2 rfl).trans (eval_list rfl)),fun hne=>absurd (hD 10 rfl) hne⟩⟩,
             ⟨rfl,fun a_ w_ _ hB hR hD=>⟨by decide,fun _=>op_mv ((hR 16 rfl).trans (eval_list rfl)),fun hne=>absurd (hD 10 rfl) hne⟩⟩,
             ⟨rfl,fun a_ w_ _ hB hR hD=>⟨by decide,fun _=>op_idxr (show a_.eval (.tmp 145)=.slice (some ⟨bz,oz,none⟩) mz cz from hD 12 rfl) rfl (show a_.eval (.tmp 146)=.int .i64 (k:Int) from hD 13 rfl) (by have:=HKM.out;omega),fun hne=>absurd (hD 10 rfl) hne⟩⟩,
             ⟨rfl,fun a_ w_ _ hB hR hD=>⟨by decide,fun _=>op_ldc (show a_.eval (.tmp 147)=.pointer (some ⟨bz,oz+k*2,none⟩) from hD 14 rfl) ((hB.cell (p:=⟨bz,oz+k*2,none⟩) hbzl).trans z0) ((hB.cell (p:=⟨bz,oz+k*2+1,none⟩) hbzl).trans z1) (Mono.of4 (IsW.mono4 _ _) _ _ _ hB HZW.out),fun hne=>absurd (hD 10 rfl) hne⟩⟩,
             ⟨rfl,fun a_ w_ _ hB hR hD=>⟨by decide,fun _=>op_wtrim (L1:=1500) (show (IsW sv 1500) (a_.eval (.tmp 148)) w_ from hD 15 rfl) (by omega),fun hne=>absurd (hD 10 rfl) hne⟩⟩,
             ⟨rfl,fun a_ w_ _ hB hR hD=>⟨by decide,fun _=>op_same (show (OutW sv (3*1500+2)) (a_.eval (.tmp 144)) w_ from hD 11 rfl) (show (OutW sv 1500) (a_.eval (.tmp 149)) w_ from hD 16 rfl) rfl,fun hne=>absurd (hD 10 rfl) hne⟩⟩,
             ⟨rfl,fun a_ w_ _ hB hR hD=>⟨by decide,fun _=>op_not (show a_.eval (.tmp 150)=.bool true from hD 17 rfl),fun hne=>absurd (hD 10 rfl) hne⟩⟩,
             ⟨rfl,fun a_ w_ _ hB hR hD=>op_pickb (show a_.eval (.tmp 143)=.bool false from hD 10 rfl) (show a_.eval (.tmp 151)=.bool false from hD 18 rfl)⟩,
             ⟨rfl,fun a_ w_ _ hB hR hD=>op_mv (show a_.eval (.tmp 152)=.bool false from hD 19 rfl)⟩,
             ⟨rfl,fun a_ w_ _ hB hR hD=>⟨by decide,fun _=>op_ldP ((hR 22 rfl).trans (eval_list rfl)) ((hB.block _ (lt_of_heap HNQ.out)).trans HNQ.out) (Mono.of4 (OutW.mono4 _ _) _ _ _ hB HQ4.out.out),fun hne=>absurd (hD 20 rfl) hne⟩⟩,
             ⟨rfl,fun a_ w_ _ hB hR hD=>⟨by decide,fun _=>op_ldP ((hR 10 rfl).trans (eval_list rfl)) ((hB.block _ (lt_of_heap HNA5.out)).trans HNA5.out) (Mono.of4 (OutW.mono4 _ _) _ _ _ hB HA5.out.out),fun hne=>absurd (hD 20 rfl) hne⟩⟩,
             ⟨rfl,fun a_ w_ _ hB hR hD=>⟨by decide,fun _=>op_same (show (OutW AZ (3*4502+2)) (a_.eval (.tmp 154)) w_ from hD 21 rfl) (show (OutW AZ (3*1500+2)) (a_.eval (.tmp 155)) w_ from hD 22 rfl) rfl,fun hne=>absurd (hD 20 rfl) hne⟩⟩,
             ⟨rfl,fun a_ w_ _ hB hR hD=>⟨by decide,fun _=>op_not (show a_.eval (.tmp 156)=.bool true from hD 23 rfl),fun hne=>absurd (hD 20 rfl) hne⟩⟩,
             ⟨rfl,fun a_ w_ _ hB hR hD=>op_pickb (show a_.eval (.tmp 153)=.bool false from hD 20 rfl) (show a_.eval (.tmp 157)=.bool false from hD 24 rfl)⟩,
             trivial⟩
           ·intro a' w' hn' hd' hB' hR' hP'
            (repeat apply Exists.intro)
            refine ⟨?rel,act_fit hn' hd' hR' ?fit⟩
            case fit=>repeat' (first | exact trivial | refine ⟨(by first | exact .inl ⟨rfl,rfl⟩ | exact .inr rfl),?_⟩)
            case rel=>exact ⟨(show _ = _ from hP' 25 (by decide)),hB'⟩
          case rest =>
           obtain ⟨hc158,hbx⟩:=hcut
           subst hc158
           have HRD:=hide (HRC.out.trans (hbx.mono HRC.out.size))
           clear hbx
           go_wp2
           go_roundw
           case rel=>exact ⟨k+1,by go_num,by have:=HKM.out;omega,HRD.out⟩
           case measure=>simp [intOf];have:=HKM.out;omega
        ·have hltz:decide ((k:Int)<(mz:Int))=false:=by simp;omega
         obtain rfl:k=mz:=by omega
         clear hlt
         go_wp2
         refine bodyPost_ret (v:=_) (by simp [results,Tryz.results5,go_sem];try rfl) rfl ⟨rfl,H0r.out⟩
   ·have hy1' : ((my:Int) != (mz:Int)+1)=true:=by simp;omega
    clear hy1
    go_wp2
    refine bodyPost_ret (v:=_) (by simp [results,Tryz.results5,go_sem];try rfl) rfl ⟨rfl,HB4.out⟩
  ·have hx1' : ((mx:Int) != (mz:Int)+1)=true:=by simp;omega
   clear hx1
   go_wp2
   refine bodyPost_ret (v:=_) (by simp [results,Tryz.results5,go_sem];try rfl) rfl ⟨rfl,HB4.out⟩
end Lm
end Go.Proofs.YtaofpigilgapgabGreatDoor

namespace Go.Proofs.YtaofpigilgapgabGreatDoor
namespace affineLinesLaw
open Go.ChangeShapes Go.WideShapes Go.ChangeAt Go.RowKit
open Go.ChangeMaps (open_string shut_string)
theorem own:ownKnob Tryz.prog.godebug=none:=by kernel_rfl
theorem laidOut:laidOutB Tryz.prog=true:=by kernel_rfl
noncomputable def laidWorld (os:Os):World :=
 let w0:=World.holding Tryz.prog os ⟨#[],#[],[]⟩
 let put (h:Array Obj) (g:Nat) (cs:Array Value):Array Obj:=h.modify g fun
  | .cells _ t frozen=>.cells cs t frozen
  | o=>o
 let h1:=put w0.heap (Tryz.lays197_ren.g 3) (Lib.firstTab.map fun z=>Value.int .u8 z).toArray
 let h2:=put h1 (Tryz.lays197_ren.g 4) ((List.range 16).flatMap fun i=>[Value.int .u8 (Lib.accLo i),Value.int .u8 (Lib.accHi i)]).toArray
 { w0 with heap:=h2 }
theorem laid_met (os:Os):laidMet Tryz.prog Rows.affineLinesUptoRow.laid ((laidWorld os).forCall (fun _ _=>0) ⟨#[],#[.slice none 0 0,.slice none 0 0,.slice none 0 0],[]⟩).memory :=
 laidMet_of_run' 8 (by kernel_rfl) (by kernel_rfl)
theorem tabs {W:World} (h:laidMet Tryz.prog Rows.affineLinesUptoRow.laid W):Lm.Tabs W :=
 utf8Tabs_of_reads (ρ:=Tryz.lays197_ren) { Tryz.lays197 with } ⟨by kernel_rfl,by kernel_rfl,by kernel_rfl,by kernel_rfl,by kernel_rfl,by kernel_rfl,by kernel_rfl⟩
  (Lib.laidMet.reads h (show ("unicode/utf8.first", Lib.firstData) ∈ Rows.affineLinesUptoRow.laid from by
   rw [show Lib.firstData=Rows.laid_unicode_utf8_first from by kernel_rfl]
   exact .tail _ (.head _)))
  (Lib.laidMet.reads h (show ("unicode/utf8.acceptRanges", Lib.acceptData) ∈ Rows.affineLinesUptoRow.laid from by
   rw [show Lib.acceptData=Rows.laid_unicode_utf8_acceptRanges from by kernel_rfl]
   exact .head _))
theorem reads (os:Os) {H:Type} (enc:TypeId × Value→H):∃ places,DataW.whole enc Tryz.prog ((laidWorld os).forCall (fun _ _=>0) ⟨#[],#[.slice none 0 0,.slice none 0 0,.slice none 0 0],[]⟩).memory Tryz.f5.params.toList Rows.affineLinesSpec.vars false (#[.slice none 0 0,.slice none 0 0,.slice none 0 0]:Array Value).toList 8=some ([.nil,.nil,.nil],[],places) :=
 ⟨[],by kernel_rfl⟩
set_option linter.unusedVariables false in
set_option maxRecDepth 100000 in
theorem lifted (os:Os) (started:os.Started) (H:Type) (enc:TypeId × Value→H) (F:Stop.Interp) :
  ReturnsInHanded {} Tryz.checked os 5 .any ((Rows.OpenSpec.upto Rows.affineLinesSpec).preRow enc Tryz.prog Tryz.f5 Rows.affineLinesUptoRow.domain false Rows.affineLinesUptoRow.laid) (((Rows.OpenSpec.upto Rows.affineLinesSpec).at F).post enc Tryz.prog Tryz.f5 false true false false):=by
 obtain ⟨places,hx⟩:=reads os enc
 refine returnsInHanded_of_row (C:=Tryz.checked) (s:=(Rows.OpenSpec.upto Rows.affineLinesSpec)) own started (by kernel_rfl) Tryz.func5
  (witness_row_at (enc:=enc) (C:=Tryz.checked) false (laidWorld os) #[.slice none 0 0,.slice none 0 0,.slice none 0 0] rfl (by kernel_rfl) (by kernel_rfl) (by kernel_rfl)
   (OpenSpec.preRow_of_cond 8 hx (by kernel_rfl) (fun k hk=>by cases hk;kernel_rfl) (by kernel_rfl) (laid_met os))) ?_
 intro W base args ds gs before hval0 hW hcnd0 hcond hsz0 hL hj2 hj3
 have hTabs:Lm.Tabs W:=tabs hL
 have hval:∀ (j:Nat) t v,Tryz.f5.params[j]? = some t→args[j]? = some v→Value.okWide Tryz.prog W .any base t v:=hval0
 have hW' := hW
 obtain ⟨p,q,hA0,hV,rfl,hfz,hnd⟩:=hW
 have hA:DataW.TrodAll enc Tryz.prog W 0 (fun _=>true) true Tryz.f5.params.toList args.toList ds p:=hA0
 have hsz:(DataW.weightsEach Tryz.prog (Tryz.f5.params.toList ++ Rows.affineLinesSpec.plain.varTypes Tryz.prog) (ds ++ gs)).all (·≤reachBytes)=true:=hsz0
 rw [Tryz.params5] at hA hval hsz
 obtain ⟨v0,vs0,d0,ds0,p0,q0,hargs,rfl,rfl,h0,r0⟩:=trodAll_cons hA
 obtain ⟨v1,vs1,d1,ds1,p1,q1,rfl,rfl,rfl,h1,r1⟩:=trodAll_cons r0
 obtain ⟨v2,vs2,d2,ds2,p2,q2,rfl,rfl,rfl,h2,r2⟩:=trodAll_cons r1
 obtain ⟨rfl,rfl,rfl⟩:=trodAll_nil r2
 obtain rfl:args = #[v0,v1,v2]:=by cases args;simp_all
 obtain ⟨rfl,rfl⟩:=trodVars_none hV
 have hbulk:Rows.uptoBulkAll ([d0,d1,d2]:List (DataW H))≤1048576:=by
  have h:=of_decide_eq_true (hcond Rows.uptoSmall rfl)
  simpa only [List.append_nil] using h
 simp only [Rows.uptoBulkAll] at hbulk
 obtain ⟨a0,len0,cap0,rfl⟩:=okWide_slice Tryz.underlying22 (hval 0 22 v0 rfl rfl)
 have k0:=h0
 have lt0:∀ x ∈ p0,x.block<W.heap.size:=by obtain ⟨m,hm⟩:=k0;exact DataW.trod_lt m _ _ _ hm
 obtain ⟨z0,w0,b0⟩:∃ es,Lm.Rw W (.slice a0 len0 cap0) es∧Lm.lenW es+1≤Rows.uptoBulk d0:=by
  obtain ⟨fuel,hf⟩:=h0
  exact Lm.open_row (x:=(d0,p0)) (by simpa [Value.cells] using hf)
 obtain ⟨a1,len1,cap1,rfl⟩:=okWide_slice Tryz.underlying22 (hval 1 22 v1 rfl rfl)
 have k1:=h1
 have lt1:∀ x ∈ p1,x.block<W.heap.size:=by obtain ⟨m,hm⟩:=k1;exact DataW.trod_lt m _ _ _ hm
 obtain ⟨z1,w1,b1⟩:∃ es,Lm.Rw W (.slice a1 len1 cap1) es∧Lm.lenW es+1≤Rows.uptoBulk d1:=by
  obtain ⟨fuel,hf⟩:=h1
  exact Lm.open_row (x:=(d1,p1)) (by simpa [Value.cells] using hf)
 obtain ⟨a2,len2,cap2,rfl⟩:=okWide_slice Tryz.underlying22 (hval 2 22 v2 rfl rfl)
 have k2:=h2
 have lt2:∀ x ∈ p2,x.block<W.heap.size:=by obtain ⟨m,hm⟩:=k2;exact DataW.trod_lt m _ _ _ hm
 obtain ⟨z2,w2,b2⟩:∃ es,Lm.Rw W (.slice a2 len2 cap2) es∧Lm.lenW es+1≤Rows.uptoBulk d2:=by
  obtain ⟨fuel,hf⟩:=h2
  exact Lm.open_row (x:=(d2,p2)) (by simpa [Value.cells] using hf)
 clear hA0 hval0
 refine (Lm.lines_any W hTabs a0 len0 cap0 z0 a1 len1 cap1 z1 a2 len2 cap2 z2 w0 (by omega) w1 (by omega) w2 (by omega)).mono fun e W' ⟨he,bel⟩=>?_
 subst he
 exact ⟨_,rfl,_,_,_,[],_,[],hW',trodAll_mk1 (shut_bool Tryz.underlying4 _),(trodAll_cons_mk (Below.trod laidOut (by kernel_rfl) (of_decide_eq_true (by kernel_rfl)) k0 bel lt0) (trodAll_cons_mk (Below.trod laidOut (by kernel_rfl) (of_decide_eq_true (by kernel_rfl)) k1 bel lt1) (trodAll_cons_mk (Below.trod laidOut (by kernel_rfl) (of_decide_eq_true (by kernel_rfl)) k2 bel lt2) trodAll_mk0))),rfl,bel.frame _,fun h=>by cases h⟩
theorem said:Rows.AffineLinesUptoSaid :=
 OpenClaim.holds_of_cond 5 Tryz.f5 rfl rfl rfl rfl rfl rfl rfl ⟨rfl,rfl,rfl,rfl,rfl⟩ rfl rfl rfl rfl rfl (by kernel_rfl) Tryz.func5 (by kernel_rfl)
  (of_decide_eq_true (by kernel_rfl)) (by unfold Func.isWrapper;first | (rw [if_pos (by decide +kernel)];kernel_rfl) | (rw [if_neg (by decide +kernel)];exact ⟨rfl,rfl⟩))
  (fun os started H enc _ F=>by rw [OpenClaim.pre_eq_preRow];exact lifted os started H enc F)
theorem plain (f : FuncId) (fn : Func) (hf : Tryz.pinned.checked.prog.funcNamed "rafter/rafterlaw05.AffineLines" = some f) (hfn : Tryz.pinned.checked.prog.funcs[f]? = some fn) :
  false=Tryz.pinned.checked.prog.looks []∧∀ (j:Nat) t,fn.params[j]? = some t→Tryz.pinned.checked.prog.wantsStandIn t=false:=by
 obtain rfl : f = 5 := Option.some.inj ((show Tryz.prog.funcNamed "rafter/rafterlaw05.AffineLines" = some 5 by kernel_rfl).symm.trans hf) |>.symm
 obtain rfl:fn=Tryz.f5:=(Option.some.inj (Tryz.func5.symm.trans hfn)).symm
 refine ⟨by kernel_rfl,fun j t ht=>?_⟩
 rw [Tryz.params5] at ht
 have hm:=Array.mem_of_getElem? ht
 simp at hm
 subst hm
 exact (show Tryz.prog.wantsStandIn 22=false by kernel_rfl)
theorem card:Rows.AffineLinesUptoCardSaid :=
 Claim7.holds_tied_plain_at .later [] _ _ _ _ said (fun _ h=>by cases h) (by kernel_rfl) (fun _ h=>by cases h) affineLinesUpto_row_tie rfl ⟨rfl,rfl⟩ (by kernel_rfl) rfl plain (by kernel_rfl)
end affineLinesLaw
theorem affineLines_card:Rows.AffineLinesUptoCardSaid:=affineLinesLaw.card
#print axioms affineLines_card
end Go.Proofs.YtaofpigilgapgabGreatDoor

