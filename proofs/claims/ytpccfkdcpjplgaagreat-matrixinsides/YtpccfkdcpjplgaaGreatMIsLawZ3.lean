/-
  What the text behind the last one leans on, part 3.
-/
import Derived.Test.YtpccfkdcpjplgaaGreatMIsLawZ2
namespace Go.Proofs.YtpccfkdcpjplgaaGreat
namespace Lm
open Go Go.RowKit
open Dm (WFr)
def CanRow (w:World) (v:Value) (zs:List Int) (L:Nat):Prop:=∃ es:List WE,Rw w v es∧es.length=zs.length∧∀ (k:Nat) (e:WE) (z:Int),es[k]? = some e→zs[k]? = some z→Canon e.zs∧val e.zs=(z.natAbs:Int)∧e.ng=decide (z<0)∧e.zs.length≤L
theorem CanRow.below {w w' : World} {v:Value} {zs:List Int} {L:Nat} (h:CanRow w v zs L) (hb:Below w.heap.size w w'):CanRow w' v zs L:=by
 obtain ⟨es,h1,h2,h3⟩:=h
 exact ⟨es,h1.below hb,h2,h3⟩
theorem CanRow.is {w:World} {v:Value} {zs:List Int} {L:Nat} (h:CanRow w v zs L):IsRow w v zs L:=by
 obtain ⟨es,h1,h2,h3⟩:=h
 refine ⟨es,h1,?_,?_⟩
 ·apply List.ext_getElem?
  intro k
  rw [List.getElem?_map]
  cases hk:es[k]? with
  | none =>
   rw [List.getElem?_eq_none_iff] at hk
   rw [Option.map_none,eq_comm,List.getElem?_eq_none_iff]
   omega
  | some e =>
   have hkl:=(List.getElem?_eq_some_iff.1 hk).1
   obtain ⟨z,hz⟩:∃ z,zs[k]? = some z:=⟨_,List.getElem?_eq_getElem (by omega)⟩
   obtain ⟨c1,c2,c3,_⟩:=h3 k e z hk hz
   rw [hz,Option.map_some]
   congr 1
   unfold WE.z sg
   rw [c2,c3]
   by_cases hn:z<0
   ·rw [if_pos (decide_eq_true hn)];omega
   ·rw [if_neg (by simpa using hn)];omega
 ·intro e he
  obtain ⟨k,hk⟩:=List.mem_iff_getElem?.1 he
  have hkl:=(List.getElem?_eq_some_iff.1 hk).1
  obtain ⟨z,hz⟩:∃ z,zs[k]? = some z:=⟨_,List.getElem?_eq_getElem (by omega)⟩
  exact (h3 k e z hk hz).2.2.2
theorem ORow.can {K:Nat} {w:World} {v:Value} {zs:List Int} {L:Nat} (h:ORow K w v zs L):CanRow w v zs L:=by
 obtain ⟨bv,rfl,_,h,hl⟩:=h
 obtain ⟨es,B,T,e1,e2,e3,e4,e5⟩:=h
 refine ⟨es,⟨⟨_,_,by rw [e1],by omega,by omega,abd es,.inr ⟨bv,0,rfl,aaa e2,fun j u hu=>?_⟩⟩,?_⟩,e1,?_⟩
 ·rw [Nat.zero_add,cell_of_row _ _ _ _ _ (0,0) e2,List.getElem?_toArray]
  exact hu
 ·intro e he
  obtain ⟨k,hk⟩:=List.mem_iff_getElem?.1 he
  have hkl:=(List.getElem?_eq_some_iff.1 hk).1
  obtain ⟨z,hz⟩:∃ z,zs[k]? = some z:=⟨_,List.getElem?_eq_getElem (by omega)⟩
  obtain ⟨g1,g2,_⟩:=e4 k e z (by omega) hk hz
  have:=g1.wh.sl
  rwa [←g2] at this
 ·intro k e z hk hz
  have hkl:=(List.getElem?_eq_some_iff.1 hk).1
  obtain ⟨g1,g2,g3,_⟩:=e4 k e z (by omega) hk hz
  exact ⟨g1.fr.canon,g1.fr.val,g1.sgn,g3⟩
theorem ak8 (w:World) (v v' : Value) (zs:List Int) (L M:Nat) (h:CanRow w v zs L) (h' : CanRow w v' zs M) :
  Calls Tryz.prog 31 #[v,v'] w fun e w'=>e=.returned (.bool true)∧Below w.heap.size w w' := by
 obtain ⟨es,h1,h2,h3⟩:=h
 obtain ⟨fs,g1,g2,g3⟩:=h'
 obtain ⟨a,c,rfl,_⟩:=id h1.cl
 obtain ⟨a',c',rfl,_⟩:=id g1.cl
 refine ao0 w a _ c es h1 a' _ c' fs g1 ?_
 unfold SameR
 apply List.ext_getElem?
 intro k
 rw [List.getElem?_map,List.getElem?_map]
 cases hk:es[k]? with
 | none =>
  rw [List.getElem?_eq_none_iff] at hk
  rw [(List.getElem?_eq_none_iff (l:=fs)).2 (by omega)]
 | some e =>
  have hkl:=(List.getElem?_eq_some_iff.1 hk).1
  obtain ⟨z,hz⟩:∃ z,zs[k]? = some z:=⟨_,List.getElem?_eq_getElem (by omega)⟩
  obtain ⟨f,hf⟩:∃ f,fs[k]? = some f:=⟨_,List.getElem?_eq_getElem (by omega)⟩
  obtain ⟨c1,c2,c3,_⟩:=h3 k e z hk hz
  obtain ⟨d1,d2,d3,_⟩:=g3 k f z hf hz
  rw [hf,Option.map_some,Option.map_some,WE.raw,WE.raw,c3,d3,ad7 c1 d1 (c2.trans d2.symm)]
theorem abe {ops:Array Oper} {rest:List Oper} {o:Oper} {a:Act} {w:World} {Q:Exit→Act→World→Prop} {R:Value→World→Prop} (hg:o.guard=none) (h:Does Tryz.prog o a.eval w R) (hK:∀ v w',R v w'→wpList Tryz.prog ops Q rest (a.put o.dst v) w'):wpList Tryz.prog ops Q (o :: rest) a w:=by
 refine wpList_plain hg fun K hK'=>?_
 exact Does.wp h (fun v w' hr=>hK' _ _ (hK v w' hr))
set_option maxRecDepth 20000 in
set_option maxHeartbeats 1000000 in
theorem ak9 (w:World) (v:Int) (h1 : -9223372036854775808≤v) (h2:v≤9223372036854775807) (h0:v<0) :
  Calls Tryz.prog 43 #[.int .i64 v] w fun e w'=>∃ r,e=.returned r∧FrW w.heap.size v 2 r w'∧Below w.heap.size w w' := by
 obtain ⟨i0,hi,hz0,hz1,hz2⟩:=info_parts ab1
 have hf0:=heap_alloc_new w (.cells #[.bool false,.slice none 0 0] 60)
 have hb0:=hAl w (.cells #[.bool false,.slice none 0 0] 60)
 generalize hE:w.alloc (.cells #[.bool false,.slice none 0 0] 60)=w0 at *
 have E0:=hide hE
 have HF0:=hide hf0
 have HB0:=hide hb0
 clear hE hf0 hb0
 have hw:IntKind.u64.wrap (-IntKind.u64.wrap v) = -v:=by rw [IntKind.wrap_u64,IntKind.wrap_u64];omega
 go_enter Tryz.func43,Tryz.ntmps43
 go_wp2
 rw [E0.out]
 clear hw
 go_loopw [3,4] (fun uv mv wr=>∃ (u:Int) (ls:List Int),uv=.int .u64 u∧0≤u∧u<18446744073709551616∧Limb ls∧val ls+pw ls.length*u = -v∧(u=0→tl ls=ls.length)∧wr.ownsRow w0.heap.size 68 1 mv ls.length (ls.map (Value.int .u32))∧Below w0.heap.size w0 wr) (fun uv _ _=>(intOf uv).toNat)
 case atStart=>exact ⟨-v,[],rfl,by omega,by omega,aae,by simp [val,pw],fun _=>rfl,World.ownsRow_nil _ _ _ _,Below.refl _ _⟩
 case round =>
  obtain ⟨u,ls,rfl,hu0,hu1,hls,hv,htop,hown,hbel⟩:=hrel
  have HL:=hide hls
  have HV:=hide hv
  have HT:=hide htop
  clear hls hv htop
  by_cases hu:0<u
  ·have hroom:=an2 HL.out hu (by rw [HV.out];omega)
   have HV' := hide (an1 HV.out)
   have HT' : Hid (u / 4294967296=0→tl (ls ++ [u % 4294967296])=(ls ++ [u % 4294967296]).length):=fun h=>arv hu h
   go_wp2_with (at_builtin;refine wpList_append_own _ rfl (.tmp 13) (.tmp 16) 27 rfl w0.heap.size 68 i0 (.int .u32 0) 1 4 Tryz.underlying27 hi hz0 hz1 hz2 rfl (by decide) _ _ _ rfl (hown.alloc _) ⟨wr.heap.size,0,none⟩ 1 1 [.int .u32 (u % 4294967296)] rfl rfl (cell_one_new _ _ _) ?c2 ?c3 ?c4 ?c5 ?_)
   case c2=>first | rfl | (intro x hx;simp at hx;subst hx;rfl)
   case c3=>unfold maxLen;omega
   case c4=>omega
   case c5=>have:=hbel.size;first | omega | (simp;omega)
   intro v4 w4 hown4 hgrow4 _
   have R:=ai7 hown4 hgrow4 hbel hbel.size hown.lt
   clear hown4 hgrow4 hown
   go_wp2
   go_roundw
   case rel=>exact ⟨u / 4294967296,ls ++ [u % 4294967296],rfl,by omega,by omega,aai.2 ⟨HL.out,aaf.2 ⟨by omega,aae⟩⟩,HV'.out,HT'.out,by simpa using R.1,R.2⟩
   case measure=>simp [intOf];omega
  ·have hu' : u=0:=by omega
   subst hu'
   have hval:val ls = -v:=by have:=HV.out;rwa [Int.mul_zero,Int.add_zero] at this
   have hcan:Canon ls:=⟨HL.out,HT.out rfl⟩
   have hlen:ls.length≤2:=aa3 hcan (m:=2) (by rw [hval,show pw 2=18446744073709551616 from by decide];omega)
   have how:=aby hown HL.out
   obtain ⟨ao,cap,hmv,_⟩:=id how
   subst hmv
   have hfr:FrW w0.heap.size v 2 (.agg #[.bool true,.slice ao ls.length cap]) wr:=by
    refine ⟨_,_,_,_,w0.heap.size,wr.heap.size,rfl,⟨⟨how,hcan,by rw [hval];omega,fun hc g off hg=>?_⟩,by simp;omega⟩,Nat.le_refl _,Nat.le_refl _,hlen⟩
    subst hg
    obtain ⟨ao',cap',e1,_,_,_,e4⟩:=how
    simp only [Value.slice.injEq] at e1
    obtain ⟨rfl,_,rfl⟩:=e1
    rcases e4 with e4 | ⟨g',off',cur,e5,hB',hh,_⟩
    ·omega
    ·simp only [Option.some.injEq,Addr.mk.injEq] at e5
     obtain ⟨rfl,_,_⟩:=e5
     exact ⟨hB',aaa hh⟩
   have HFR:=hide (hfr.low HB0.out.size)
   have HFx:=hide ((hbel.block _ (aaa HF0.out)).trans HF0.out)
   have HBx:=hide (HB0.out.trans (hbel.mono HB0.out.size))
   obtain ⟨hfl,c0,c1,fr0,fr1⟩:=aao HFx.out
   have hd:decide (v<0)=true:=by simp;omega
   clear hval hown how hfr hbel hcan
   go_wp2
   exact bodyPost_ret (v:=.agg #[.bool true,.slice ao ls.length cap]) (ab5 (g:=w.heap.size) rfl rfl (lvw2 (ab3 HFx.out _ _))) rfl ⟨_,rfl,HFR.out.ru (ac6 HFx.out _ _),(HBx.out.setCell (Nat.le_refl _) _).setCell (Nat.le_refl _) _⟩
set_option maxRecDepth 20000 in
set_option maxHeartbeats 1000000 in
theorem ala (w:World) (v:Int) (h1 : -9223372036854775808≤v) (h2:v≤9223372036854775807) (h0:¬ v<0) :
  Calls Tryz.prog 43 #[.int .i64 v] w fun e w'=>∃ r,e=.returned r∧FrW w.heap.size v 2 r w'∧Below w.heap.size w w' := by
 obtain ⟨i0,hi,hz0,hz1,hz2⟩:=info_parts ab1
 have hf0:=heap_alloc_new w (.cells #[.bool false,.slice none 0 0] 60)
 have hb0:=hAl w (.cells #[.bool false,.slice none 0 0] 60)
 generalize hE:w.alloc (.cells #[.bool false,.slice none 0 0] 60)=w0 at *
 have E0:=hide hE
 have HF0:=hide hf0
 have HB0:=hide hb0
 clear hE hf0 hb0
 have hw:True:=trivial
 go_enter Tryz.func43,Tryz.ntmps43
 go_wp2
 rw [E0.out]
 clear hw
 go_loopw [3,4] (fun uv mv wr=>∃ (u:Int) (ls:List Int),uv=.int .u64 u∧0≤u∧u<18446744073709551616∧Limb ls∧val ls+pw ls.length*u=v∧(u=0→tl ls=ls.length)∧wr.ownsRow w0.heap.size 68 1 mv ls.length (ls.map (Value.int .u32))∧Below w0.heap.size w0 wr) (fun uv _ _=>(intOf uv).toNat)
 case atStart=>exact ⟨v,[],rfl,by omega,by omega,aae,by simp [val,pw],fun _=>rfl,World.ownsRow_nil _ _ _ _,Below.refl _ _⟩
 case round =>
  obtain ⟨u,ls,rfl,hu0,hu1,hls,hv,htop,hown,hbel⟩:=hrel
  have HL:=hide hls
  have HV:=hide hv
  have HT:=hide htop
  clear hls hv htop
  by_cases hu:0<u
  ·have hroom:=an2 HL.out hu (by rw [HV.out];omega)
   have HV' := hide (an1 HV.out)
   have HT' : Hid (u / 4294967296=0→tl (ls ++ [u % 4294967296])=(ls ++ [u % 4294967296]).length):=fun h=>arv hu h
   go_wp2_with (at_builtin;refine wpList_append_own _ rfl (.tmp 13) (.tmp 16) 27 rfl w0.heap.size 68 i0 (.int .u32 0) 1 4 Tryz.underlying27 hi hz0 hz1 hz2 rfl (by decide) _ _ _ rfl (hown.alloc _) ⟨wr.heap.size,0,none⟩ 1 1 [.int .u32 (u % 4294967296)] rfl rfl (cell_one_new _ _ _) ?c2 ?c3 ?c4 ?c5 ?_)
   case c2=>first | rfl | (intro x hx;simp at hx;subst hx;rfl)
   case c3=>unfold maxLen;omega
   case c4=>omega
   case c5=>have:=hbel.size;first | omega | (simp;omega)
   intro v4 w4 hown4 hgrow4 _
   have R:=ai7 hown4 hgrow4 hbel hbel.size hown.lt
   clear hown4 hgrow4 hown
   go_wp2
   go_roundw
   case rel=>exact ⟨u / 4294967296,ls ++ [u % 4294967296],rfl,by omega,by omega,aai.2 ⟨HL.out,aaf.2 ⟨by omega,aae⟩⟩,HV'.out,HT'.out,by simpa using R.1,R.2⟩
   case measure=>simp [intOf];omega
  ·have hu' : u=0:=by omega
   subst hu'
   have hval:val ls=v:=by have:=HV.out;rwa [Int.mul_zero,Int.add_zero] at this
   have hcan:Canon ls:=⟨HL.out,HT.out rfl⟩
   have hlen:ls.length≤2:=aa3 hcan (m:=2) (by rw [hval,show pw 2=18446744073709551616 from by decide];omega)
   have how:=aby hown HL.out
   obtain ⟨ao,cap,hmv,_⟩:=id how
   subst hmv
   have hfr:FrW w0.heap.size v 2 (.agg #[.bool false,.slice ao ls.length cap]) wr:=by
    refine ⟨_,_,_,_,w0.heap.size,wr.heap.size,rfl,⟨⟨how,hcan,by rw [hval];omega,fun hc g off hg=>?_⟩,by simp;omega⟩,Nat.le_refl _,Nat.le_refl _,hlen⟩
    subst hg
    obtain ⟨ao',cap',e1,_,_,_,e4⟩:=how
    simp only [Value.slice.injEq] at e1
    obtain ⟨rfl,_,rfl⟩:=e1
    rcases e4 with e4 | ⟨g',off',cur,e5,hB',hh,_⟩
    ·omega
    ·simp only [Option.some.injEq,Addr.mk.injEq] at e5
     obtain ⟨rfl,_,_⟩:=e5
     exact ⟨hB',aaa hh⟩
   have HFR:=hide (hfr.low HB0.out.size)
   have HFx:=hide ((hbel.block _ (aaa HF0.out)).trans HF0.out)
   have HBx:=hide (HB0.out.trans (hbel.mono HB0.out.size))
   obtain ⟨hfl,c0,c1,fr0,fr1⟩:=aao HFx.out
   have hd:decide (v<0)=false:=by simp;omega
   clear hval hown how hfr hbel hcan
   go_wp2
   exact bodyPost_ret (v:=.agg #[.bool false,.slice ao ls.length cap]) (ab5 (g:=w.heap.size) rfl rfl (lvw2 (ab3 HFx.out _ _))) rfl ⟨_,rfl,HFR.out.ru (ac6 HFx.out _ _),(HBx.out.setCell (Nat.le_refl _) _).setCell (Nat.le_refl _) _⟩
theorem ara (w:World) (v:Int) (h1 : -9223372036854775808≤v) (h2:v≤9223372036854775807) :
  Calls Tryz.prog 43 #[.int .i64 v] w fun e w'=>∃ r,e=.returned r∧FrW w.heap.size v 2 r w'∧Below w.heap.size w w' := by
 by_cases h0:v<0
 ·exact ak9 w v h1 h2 h0
 ·exact ala w v h1 h2 h0
set_option maxRecDepth 20000 in
set_option maxHeartbeats 4000000 in
theorem ati (w:World) (v:Value) (zs:List Int) (h:Nums w v zs) (hz:∀ z ∈ zs,-9223372036854775808≤z∧z≤9223372036854775807) (hl:zs.length≤1000) :
  Calls Tryz.prog 23 #[v] w fun e w'=>∃ r,e=.returned r∧CanRow w' r zs 2∧Below w.heap.size w w' := by
 obtain ⟨ao,cap,rfl,_⟩:=id h
 have H:=hide h
 have HZ:=hide hz
 clear h hz
 obtain ⟨n,hn⟩:∃ n,zs.length=n:=⟨_,rfl⟩
 rw [hn] at H hl ⊢
 have HN:=hide hn
 clear hn
 go_enter Tryz.func23,Tryz.ntmps23
 go_wp2_with fail
 go_loopw [3,4] (fun ov iv wr=>∃ (k:Nat) (es:List WE),iv=.int .i64 k∧k≤n∧Below w.heap.size w wr∧es.length=k∧RwO w.heap.size wr ov es∧∀ (j:Nat) (e:WE) (z:Int),es[j]? = some e→zs[j]? = some z→Canon e.zs∧val e.zs=(z.natAbs:Int)∧e.ng=decide (z<0)∧e.zs.length≤2) (fun _ iv _=>n - (intOf iv).toNat)
 case atStart=>exact ⟨0,[],rfl,Nat.zero_le _,Below.refl _ _,rfl,als _ _,fun j e z he=>(by simp at he)⟩
 case round =>
  obtain ⟨k,es,rfl,hk,hbw,hes,hown,hall⟩:=hrel
  have HW:=hide hbw
  have HES:=hide hes
  have HOWN:=hide hown
  have HALL:=hide hall
  by_cases hlt:k<n
  ·obtain ⟨b,off,rfl,hc⟩:=(show Nums wr (.slice ao n cap) zs from Ce.below H.out hbw).cell (i:=k) (by have:=HN.out;omega)
   have hget:zs[k]? = some (zs[k]'(by have:=HN.out;omega)):=List.getElem?_eq_getElem _
   generalize zs[k]'(by have:=HN.out;omega)=z at hc hget
   have HG:=hide hget
   have hzb:=HZ.out z (List.mem_of_getElem? hget)
   have hlt' : (k:Int)<(n:Int):=by omega
   obtain ⟨aov,capv,hov,_⟩:=Cl.own hown.own
   subst hov
   clear hbw hes hown hall hget
   go_wp2_with fail
   refine (ara wr z hzb.1 hzb.2).mono ?_
   rintro e w2 ⟨r2,rfl,hf2,hb2⟩
   obtain ⟨ng2,ao2,cap2,rs2,B2,T2,rfl,hwf,hB2,hT2,hl2⟩:=hf2
   have hA:=hAl w2 (.cells #[.bool ng2,.slice ao2 rs2.length cap2] 60)
   have hb2' := hb2.trans (hA.mono hb2.size)
   have hR2:=HOWN.out.below hb2'
   have hO2:One _ w2.heap.size ng2 ao2 rs2.length cap2:=heap_alloc_new w2 (.cells #[.bool ng2,.slice ao2 rs2.length cap2] 60)
   have hS2:Ow w.heap.size _ (.slice ao2 rs2.length cap2) rs2:=(hwf.fr.ow.mono (Nat.le_trans HW.out.size hB2)).below hA
   have hsz:w.heap.size≤(w2.alloc (.cells #[.bool ng2,.slice ao2 rs2.length cap2] 60)).heap.size:=Nat.le_trans HW.out.size hb2'.size
   go_wp2_with (at_builtin;refine abe rfl (as9 (i:=11) (j:=17) rfl rfl hR2 hO2 hS2 (by rw [HES.out];omega) hsz) ?_)
   intro v3 w3 hR3 hb3
   obtain ⟨aov3,capv3,hov3,_⟩:=Cl.own hR3.own
   subst hov3
   have HR3:=hide hR3
   have HB3:=hide ((HW.out.trans (hb2'.mono HW.out.size)).trans hb3)
   have HWF:=hide hwf
   clear hR3 hb3 hR2 hO2 hS2 hsz hA hb2 hb2' hwf hB2 hT2
   go_wp2
   go_roundw
   case rel =>
    refine ⟨k+1,es ++ [⟨ng2,ao2,rs2.length,cap2,rs2⟩],by go_num,by omega,HB3.out,by simp [HES.out],HR3.out,fun j e y he hy=>?_⟩
    by_cases hj:j<es.length
    ·rw [List.getElem?_append_left hj] at he
     exact HALL.out j e y he hy
    ·have hjl:=(List.getElem?_eq_some_iff.1 he).1
     simp at hjl
     obtain rfl:j=es.length:=by omega
     rw [List.getElem?_append_right (Nat.le_refl _)] at he
     simp at he
     subst he
     rw [HES.out,HG.out] at hy
     obtain rfl:=Option.some.inj hy
     exact ⟨HWF.out.fr.canon,HWF.out.fr.val,HWF.out.sgn,hl2⟩
   case measure=>simp [intOf];omega
  ·have hlt' : decide ((k:Int)<(n:Int))=false:=by simp;omega
   have hkn:k=n:=by omega
   subst hkn
   clear hbw hes hown hall
   go_wp2
   refine bodyPost_ret (v:=_) (acu rfl rfl) rfl ⟨_,rfl,⟨es,HOWN.out.rw,by rw [HES.out,HN.out],HALL.out⟩,HW.out⟩
end Lm
end Go.Proofs.YtpccfkdcpjplgaaGreat
namespace Go.Proofs.YtpccfkdcpjplgaaGreat
namespace Lm
open Go Go.RowKit
theorem OutN.fit {z:Int} {L M:Nat} {v:Value} {w:World} (h:OutN z L v w) (hz:(z.natAbs:Int)<pw M):OutN z (3*M) v w:=by
 obtain ⟨ng,ao,cap,rs,e,W,l⟩:=h
 exact ⟨ng,ao,cap,rs,e,W,W.len (Int.lt_of_lt_of_le hz (Dm.ajp M))⟩
theorem OutN.rl {z:Int} {L:Nat} {v:Value} {w w' : World} (h:OutN z L v w) (hr:Rl w w'):OutN z L v w' := OutN.mono4 z L _ _ _ hr h
theorem OutN.agg {z:Int} {L:Nat} {v:Value} {w:World} (h:OutN z L v w):∃ ng ao n cap,v=.agg #[.bool ng,.slice ao n cap]:=by
 obtain ⟨ng,ao,cap,rs,rfl,_⟩:=h
 exact ⟨ng,ao,_,cap,rfl⟩
def NRow (w:World) (v:Value) (zs:List Int) (L:Nat):Prop:=∃ fs:List WE,Cl w v 2 fs.length (flat fs)∧fs.length=zs.length∧∀ (k:Nat) (f:WE) (z:Int),fs[k]? = some f→zs[k]? = some z→OutN z L f.v w
theorem NRow.below {w w' : World} {v:Value} {zs:List Int} {L:Nat} (h:NRow w v zs L) (hb:Below w.heap.size w w'):NRow w' v zs L:=by
 obtain ⟨fs,h1,h2,h3⟩:=h
 exact ⟨fs,h1.below hb,h2,fun k f z hf hz=>(h3 k f z hf hz).rl (Rl.of_below hb)⟩
theorem NRow.parts {w:World} {v:Value} {zs:List Int} {L:Nat} (h:NRow w v zs L):∃ ao cap,v=.slice ao zs.length cap∧zs.length≤9223372036854775807:=by
 obtain ⟨fs,⟨ao,cap,rfl,h1,h2,_⟩,h3,_⟩:=h
 exact ⟨ao,cap,by rw [h3],by omega⟩
theorem NRow.cell {w:World} {ao:Option Addr} {n cap:Nat} {zs:List Int} {L k:Nat} {z:Int} (h:NRow w (.slice ao n cap) zs L) (hz:zs[k]? = some z):∃ b off ng a m c,ao=some ⟨b,off,none⟩∧b<w.heap.size∧w.cell? ⟨b,off+k*2,none⟩ = some (.bool ng)∧w.cell? ⟨b,off+k*2+1,none⟩ = some (.slice a m c)∧OutN z L (.agg #[.bool ng,.slice a m c]) w:=by
 obtain ⟨fs,⟨ao',cap',hv,h1,h2,h3,h4⟩,h5,h6⟩:=h
 simp only [Value.slice.injEq] at hv
 obtain ⟨rfl,rfl,rfl⟩:=hv
 have hk:=(List.getElem?_eq_some_iff.1 hz).1
 obtain ⟨f,hf⟩:∃ f,fs[k]? = some f:=⟨_,List.getElem?_eq_getElem (by omega)⟩
 obtain ⟨f1,f2⟩:=abf hf
 rcases h4 with h4 | ⟨b,off,rfl,hb,hc⟩
 ·omega
 ·exact ⟨b,off,f.ng,f.a,f.m,f.c,rfl,hb,hc _ _ f1,by rw [Nat.add_assoc];exact hc _ _ f2,h6 k f z hf hz⟩
def isI:Value→Bool
 | .int _ _=>true
 | _=>false
def NoI (w:World) (v:Value):Prop:=∀ g cs T,v.ownBlock=some g→w.heap[g]? = some (.cells cs T (0,0))→∀ x ∈ cs.toList,isI x=false
theorem NoI.below {w w' : World} {v:Value} (h:NoI w v) (hl:∀ k,v.ownBlock=some k→k<w.heap.size) (hb:Below w.heap.size w w'):NoI w' v:=fun g cs T hg hh=>h g cs T hg ((hb.block g (hl g hg)).symm.trans hh)
theorem aj5 {z:Array Value} (hz:∀ x ∈ z.toList,isI x=false) (n:Nat):∀ x ∈ (Builtin.zeroCells z n).toList,isI x=false:=by
 intro x hx
 simp only [Builtin.zeroCells,Array.toList_map,List.mem_map] at hx
 obtain ⟨j,_,rfl⟩:=hx
 by_cases h:j % z.size<z.size
 ·rw [getElem!_pos z _ h]
  exact hz _ (by simp)
 ·rw [getElem!_neg z _ h]
  rfl
theorem alz {P:Program} (w:World) (base:Nat) (t ty e:TypeId) (i:TypeInfo) (z:Value) (bytes:Nat) (ht:P.underlying t=some (.slice e)) (hi:P.info? e=some i) (hz:i.zero=some z) (hby:i.bytes=bytes) (_hsz:0<i.size)
  (v:Value) (n:Nat) (xs:List Value) (hown:w.ownsRow base e i.size v n xs) (a:Addr) (c:Nat) (news:List Value) (hl:news.length=i.size) (hnews:∀ j u,news[j]? = some u→w.cell? (a.add j)=some u) (h1:∀ u ∈ news,u.oneCell' = true)
  (h63:n+1≤maxLen) (hbytes:(n+1)*bytes≤140737488355328) (hI:NoI w v) (hN:∀ u ∈ news,isI u=false) (hZ:∀ u ∈ z.cells.toList,isI u=false) {v' : Value} {w' : World} (hr:(Builtin.append_ #[t,t] ty #[v,.slice (some a) 1 c]).run P w=.ok v' w'):NoI w' v' := by
 subst hby
 have hl' : news.length=1*i.size:=by omega
 have hsmall:n+1≤9223372036854775807:=by simp only [maxLen] at h63;omega
 rcases hown.2 with ⟨rfl,rfl⟩ | ⟨g,cap,cur,rfl,hbg,hg,hnc,hcm,hcs,htake⟩
 ·have hr' := run_append_nil (P:=P) w t ty e i z ht hi hz a 1 c news hl' hnews (by omega) (by omega) (by omega)
  rw [hr] at hr'
  injection hr' with e1 e2
  subst e1 e2
  intro g cs T hg hh x hx
  simp only [Value.ownBlock,Option.some.injEq] at hg
  subst hg
  rw [show (w.drew.alloc (Obj.cells (news.toArray ++ Builtin.zeroCells z.cells (grownCap w 1 0 e - 1)) e)).heap[w.heap.size]? = _ from heap_alloc_new w.drew _] at hh
  injection hh with hh
  injection hh with hh
  subst hh
  simp only [Array.toList_append,List.mem_append] at hx
  rcases hx with hx | hx
  ·exact hN x hx
  ·exact aj5 hZ _ x hx
 ·have hcur:=hI g cur e rfl hg
  by_cases hroom:n+1≤cap
  ·have hfit:n*i.size+news.length≤cur.size:=by rw [hl',hcs,←Nat.add_mul];exact Nat.mul_le_mul_right _ hroom
   have hr' := run_append_room (P:=P) w t ty e i ht hi g n cap cur hg a 1 c news hl' hnews h1 hroom hfit
   rw [hr] at hr'
   injection hr' with e1 e2
   subst e1 e2
   intro g' cs T hg' hh x hx
   simp only [Value.ownBlock,Option.some.injEq] at hg'
   subst hg'
   rw [setRow_heap w g cur _ e _ hg] at hh
   injection hh with hh
   injection hh with hh
   subst hh
   simp only [List.mem_append] at hx
   rcases hx with (hx | hx) | hx
   ·exact hcur x (List.mem_of_mem_take hx)
   ·exact hN x hx
   ·exact hcur x (List.mem_of_mem_drop hx)
  ·have hr' := run_append_grow (P:=P) w t ty e i z ht hi hz ⟨g,0,none⟩ n cap xs hown.1 (hown.cells (g:=g) rfl) a 1 c news hl' hnews (by omega) (by omega) (growslice_fits (by omega) hbytes)
   rw [hr] at hr'
   injection hr' with e1 e2
   subst e1 e2
   intro g' cs T hg' hh x hx
   simp only [Value.ownBlock,Option.some.injEq] at hg'
   subst hg'
   rw [show (w.drew.alloc (Obj.cells (xs.toArray ++ news.toArray ++ Builtin.zeroCells z.cells (grownCap w (n+1) cap e - (n+1))) e)).heap[w.heap.size]? = _ from heap_alloc_new w.drew _] at hh
   injection hh with hh
   injection hh with hh
   subst hh
   simp only [Array.toList_append,List.mem_append] at hx
   rcases hx with (hx | hx) | hx
   ·rw [←htake] at hx
    exact hcur x (List.mem_of_mem_take hx)
   ·exact hN x hx
   ·exact aj5 hZ _ x hx
structure RnO (B:Nat) (w:World) (v:Value) (fs:List WE) (zs:List Int) (L:Nat):Prop where
 own:w.ownsRow B 83 2 v fs.length (flat fs)
 noi:NoI w v
 len:fs.length=zs.length
 out:∀ (k:Nat) (f:WE) (z:Int),fs[k]? = some f→zs[k]? = some z→OutN z L f.v w
theorem RnO.below {B:Nat} {w w' : World} {v:Value} {fs:List WE} {zs:List Int} {L:Nat} (h:RnO B w v fs zs L) (hb:Below w.heap.size w w'):RnO B w' v fs zs L :=
 ⟨h.own.kept (row:=none) ⟨hb.os,hb.tape,hb.output,hb.size,fun k hk _=>hb.block k hk⟩ (by cases hv:v.ownBlock <;> simp),h.noi.below (fun k hk=>(h.own.lt k hk).2) hb,h.len,fun k f z hf hz=>(h.out k f z hf hz).rl (Rl.of_below hb)⟩
theorem RnO.nrow {B:Nat} {w:World} {v:Value} {fs:List WE} {zs:List Int} {L:Nat} (h:RnO B w v fs zs L):NRow w v zs L:=⟨fs,Cl.own h.own,h.len,h.out⟩
theorem al0 (B:Nat) (w:World) (L:Nat):RnO B w (.slice none 0 0) [] [] L:=⟨World.ownsRow_nil w B _ 2,fun g cs T hg=>by simp [Value.ownBlock] at hg,rfl,fun k f z hf=>by simp at hf⟩
section
variable {dst:Option Tmp} {ty:TypeId} {pos:String} {after:Array Edge} {guard:Option (Nat × Bool)} {a:Act} {w:World} {ats:Array TypeId} {i j:Nat}
theorem infoN:(Tryz.prog.info? 83).map (fun i=>(i.zero,i.size,i.bytes))=some (some (.agg #[.bool false,.slice none 0 0]),2,32):=by kernel_rfl
theorem al1 {B g:Nat} {v:Value} {es:List WE} {zs:List Int} {L:Nat} {z:Int} {ng:Bool} {ao:Option Addr} {n c:Nat} (h1:a.eval (.tmp i)=v) (h2:a.eval (.tmp j)=.slice (some ⟨g,0,none⟩) 1 1) (R:RnO B w v es zs L) (O:w.heap[g]? = some (.cells #[.bool ng,.slice ao n c] 83 (0,0))) (S:OutN z L (.agg #[.bool ng,.slice ao n c]) w) (hn:es.length≤1000000) (hB:B≤w.heap.size) :
  Does Tryz.prog { dst,op:=.call { callee:=.builtin .append,args:=#[.tmp i,.tmp j],argTypes:=#[76,76] },type:=ty,pos,after,guard } a.eval w fun v' w'=>RnO B w' v' (es ++ [⟨ng,ao,n,c,[]⟩]) (zs ++ [z]) L∧Below B w w' := by
 obtain ⟨i0,hi,hz0,hz1,hz2⟩:=info_parts infoN
 have hfl:flat (es ++ [⟨ng,ao,n,c,[]⟩])=flat es ++ [.bool ng,.slice ao n c]:=by rw [aeh];rfl
 have hcl:∀ (k:Nat) (u:Value),[Value.bool ng,.slice ao n c][k]? = some u→w.cell? ((⟨g,0,none⟩:Addr).add k)=some u:=fun k u hu=>by
  have hc:∀ k,w.cell? ⟨g,k,none⟩ = #[Value.bool ng,.slice ao n c][k]? := fun k=>cell_of_row w g k _ _ (0,0) O
  have ha:(⟨g,0,none⟩:Addr).add k=⟨g,k,none⟩:=by unfold Addr.add;split <;> simp_all
  rw [ha,hc]
  simpa using hu
 obtain ⟨v',w',hr,ho,hgr,_⟩:=run_append_own (P:=Tryz.prog) w B 76 ty 83 i0 _ 2 32 Tryz.underlying76 hi hz0 hz1 hz2 rfl (by decide) v es.length (flat es) R.own ⟨g,0,none⟩ 1 1 [.bool ng,.slice ao n c] rfl hcl (by simp [Value.oneCell']) (by simp [maxLen];omega) (by omega) hB
 have e:(execOp a.eval { dst,op:=.call { callee:=.builtin .append,args:=#[.tmp i,.tmp j],argTypes:=#[76,76] },type:=ty,pos,after,guard }).run Tryz.prog w=.ok (.value v') w' := by
  simp only [execOp,resolve,invoke,builtin,Sem.run_bind,Sem.run_pure,Result.andThen_ok,List.map_toArray,List.map_cons,List.map_nil,h1,h2,hr]
 refine ⟨?_⟩
 unfold Turns
 rw [e]
 have hrl:Rl w w' := by
  refine ⟨hgr.size,fun p k z e=>?_,fun k cs T hT e=>?_⟩
  ·rw [World.cell?_of_block (w:=w) (hgr.block p.block (acl e) fun hb=>?_)]
   ·exact e
   ·rcases R.own.2 with ⟨rfl,_⟩ | ⟨g',cap,cur,rfl,_,hh,h5,h6,h7,h8⟩
    ·simp [Value.ownBlock] at hb
    ·simp only [Value.ownBlock,Option.some.injEq] at hb
     obtain ⟨pb,po,pm⟩:=p
     simp only at hb
     subst hb
     simp only [World.cell?,hh] at e
     cases pm with
     | some m=>simp at e
     | none =>
      have hm:=R.noi _ cur _ rfl hh (.int k z) (Array.mem_toList_iff.2 (Array.mem_of_getElem? (i:=po) (by simpa using e)))
      exact absurd hm (by simp [isI])
  ·refine (hgr.block k (aaa e) fun hb=>?_).trans e
   rcases R.own.2 with ⟨rfl,_⟩ | ⟨g',cap,cur,rfl,_,hh,_⟩
   ·simp [Value.ownBlock] at hb
   ·simp only [Value.ownBlock,Option.some.injEq] at hb
    subst hb
    rw [hh] at e
    injection e with e
    injection e with _ e _
    rcases hT with rfl | rfl
    ·exact absurd e (by decide)
    ·exact absurd e (by decide)
 have hni:NoI w' v' := by
  have hown:=R.own
  rw [←hz1] at hown
  exact alz (P:=Tryz.prog) w B 76 ty 83 i0 _ 32 Tryz.underlying76 hi hz0 hz2 (by omega) v es.length (flat es) hown ⟨g,0,none⟩ 1 [.bool ng,.slice ao n c] (by rw [hz1];rfl) hcl (by simp [Value.oneCell']) (by simp [maxLen];omega) (by omega) R.noi (by simp [isI]) (by simp [Value.cells,isI]) hr
 refine ⟨⟨by rw [hfl,List.length_append];exact ho,hni,by simp [R.len],fun k f y hf hy=>?_⟩,⟨hgr.os,hgr.tape,hgr.output,hgr.size,fun k hk=>hgr.block k (by omega) (fun e=>?_)⟩⟩
 ·by_cases hk:k<es.length
  ·rw [List.getElem?_append_left hk] at hf
   rw [List.getElem?_append_left (by rw [←R.len];exact hk)] at hy
   exact (R.out k f y hf hy).rl hrl
  ·have hkl:=(List.getElem?_eq_some_iff.1 hf).1
   simp at hkl
   obtain rfl:k=es.length:=by omega
   rw [List.getElem?_append_right (Nat.le_refl _)] at hf
   rw [List.getElem?_append_right (by rw [R.len];exact Nat.le_refl _)] at hy
   simp [R.len] at hf hy
   subst hf hy
   exact S.rl hrl
 ·have:=R.own.lt k e.symm
  omega
end
theorem nofF (w:World) (x:Int) (v:Value) (L:Nat) (hx:IsW x L v w) (hL:L≤100000) :
  Calls Tryz.prog 81 #[v] w fun e w'=>∃ r,e=.returned r∧OutN x (3*L) r w'∧Below w.heap.size w w' := by
 obtain ⟨n1,a1,m1,c1,xs,rfl,A1,l1⟩:=hx
 refine (Dm.avk w _ _ _ _ xs x A1 (by omega)).mono ?_
 rintro e w' ⟨ng,ao,cap,rs,rfl,G,l,hb⟩
 exact ⟨_,rfl,⟨_,_,_,_,rfl,G,by omega⟩,hb⟩
set_option maxRecDepth 20000 in
set_option maxHeartbeats 4000000 in
theorem aj6 (w:World) (v:Value) (zs:List Int) (L:Nat) (h:IsRow w v zs L) (hl:zs.length≤100001) (hL:L≤100000) :
  Calls Tryz.prog 42 #[v] w fun e w'=>∃ r,e=.returned r∧NRow w' r zs (3*L)∧Below w.heap.size w w' := by
 obtain ⟨ao,cap,rfl,_⟩:=h.parts
 have H:=hide h
 clear h
 obtain ⟨n,hn⟩:∃ n,zs.length=n:=⟨_,rfl⟩
 rw [hn] at H hl ⊢
 have HN:=hide hn
 clear hn
 go_enter Tryz.func42,Tryz.ntmps42
 go_wp2_with fail
 go_loopw [3,4] (fun ov iv wr=>∃ (k:Nat) (fs:List WE),iv=.int .i64 k∧k≤n∧Below w.heap.size w wr∧RnO w.heap.size wr ov fs (zs.take k) (3*L)) (fun _ iv _=>n - (intOf iv).toNat)
 case atStart=>exact ⟨0,[],rfl,Nat.zero_le _,Below.refl _ _,al0 _ _ _⟩
 case round =>
  obtain ⟨k,fs,rfl,hk,hbw,hown⟩:=hrel
  have HW:=hide hbw
  have HOWN:=hide hown
  by_cases hlt:k<n
  ·obtain ⟨z,hz⟩:∃ z,zs[k]? = some z:=⟨_,List.getElem?_eq_getElem (by have:=HN.out;omega)⟩
   obtain ⟨b,off,ng,a,m,c,rfl,hbl,x0,x1,hxw⟩:=(H.out.below hbw).cell hz
   have HZ:=hide hz
   have K1:=hide (nofF wr z _ L hxw hL)
   have hlt' : (k:Int)<(n:Int):=by omega
   obtain ⟨aov,capv,hov,_⟩:=Cl.own hown.own
   subst hov
   clear hbw hown hz hxw
   go_wp2_with fail
   refine K1.out.mono ?_
   rintro e w2 ⟨r2,rfl,hf2,hb2⟩
   obtain ⟨ng2,ao2,n2,cap2,rfl⟩:=hf2.agg
   have hA:=hAl w2 (.cells #[.bool ng2,.slice ao2 n2 cap2] 83)
   have hb2' := hb2.trans (hA.mono hb2.size)
   have hR2:=HOWN.out.below hb2'
   have hO2:=heap_alloc_new w2 (.cells #[.bool ng2,.slice ao2 n2 cap2] 83)
   have hS2:=hf2.rl (Rl.of_below hA)
   have hsz:w.heap.size≤(w2.alloc (.cells #[.bool ng2,.slice ao2 n2 cap2] 83)).heap.size:=Nat.le_trans HW.out.size hb2'.size
   have hfl:fs.length≤1000000:=by rw [HOWN.out.len,List.length_take];omega
   go_wp2_with (at_builtin;refine abe rfl (al1 (i:=11) (j:=17) rfl rfl hR2 hO2 hS2 hfl hsz) ?_)
   intro v3 w3 hR3 hb3
   obtain ⟨aov3,capv3,hov3,_⟩:=Cl.own hR3.own
   subst hov3
   have HR3:=hide hR3
   have HB3:=hide ((HW.out.trans (hb2'.mono HW.out.size)).trans hb3)
   clear hR3 hb3 hR2 hO2 hS2 hsz hA hb2 hb2' hf2 hfl
   go_wp2
   go_roundw
   case rel =>
    refine ⟨k+1,fs ++ [⟨ng2,ao2,n2,cap2,[]⟩],by go_num,by omega,HB3.out,?_⟩
    rw [List.take_add_one,HZ.out]
    exact HR3.out
   case measure=>simp [intOf];omega
  ·have hlt' : decide ((k:Int)<(n:Int))=false:=by simp;omega
   have hkn:k=n:=by omega
   subst hkn
   obtain ⟨aov,capv,hov,_⟩:=Cl.own hown.own
   subst hov
   clear hbw hown
   go_wp2
   refine bodyPost_ret (v:=_) (acu rfl rfl) rfl ⟨_,rfl,(by have h:=HOWN.out.nrow;rw [List.take_of_length_le (by have:=HN.out;omega)] at h;exact h),HW.out⟩
theorem NRow.len {w:World} {ao:Option Addr} {n cap:Nat} {zs:List Int} {L:Nat} (h:NRow w (.slice ao n cap) zs L):n=zs.length∧zs.length≤9223372036854775807:=by
 obtain ⟨a,c,e,h2⟩:=h.parts
 simp only [Value.slice.injEq] at e
 exact ⟨e.2.1,h2⟩
theorem NRow.some {w:World} {ao:Option Addr} {n cap:Nat} {zs:List Int} {L:Nat} (h:NRow w (.slice ao n cap) zs L) (hn:0<n):∃ b off,ao=some ⟨b,off,none⟩:=by
 have:=h.len.1
 obtain ⟨b,off,_,_,_,_,e,_⟩:=h.cell (k:=0) (List.getElem?_eq_getElem (by omega))
 exact ⟨b,off,e⟩
theorem aij (w:World) (L:Nat):OutN 0 L (.agg #[.bool false,.slice none 0 0]) w:=⟨false,none,0,[],rfl,⟨⟨Dm.adf w,Dm.ace,rfl⟩,rfl⟩,by simp⟩
section
variable {dst:Option Tmp} {ty:TypeId} {pos:String} {after:Array Edge} {guard:Option (Nat × Bool)} {a:Act} {w:World} {ats:Array TypeId} {i j:Nat}
theorem acr {b off n c k:Nat} {ao:Option Addr} (h:a.eval (.tmp i)=.slice ao n c) (hao:ao=some ⟨b,off,none⟩) (hk:a.eval (.tmp j)=.int .i64 (k:Int)) (hl:k<n):Does Tryz.prog { dst,op:=.indexAddr 76 (.tmp i) (.tmp j),type:=ty,pos,after,guard } a.eval w fun v' w'=>Below w.heap.size w w'∧Eqs (.pointer (some ⟨b,off+k*2,none⟩)) v' w' := by
 subst hao
 have hl' : (k:Int)<(n:Int):=by omega
 refine ⟨?_⟩
 unfold Turns
 simp only [execOp,h,hk]
 go_simp
 exact ⟨Below.refl _ _,rfl⟩
theorem apl {b off k:Nat} {ao:Option Addr} {n cap:Nat} {zs:List Int} {L:Nat} {z:Int} (hp:a.eval (.tmp i)=.pointer (some ⟨b,off+k*2,none⟩)) (hao:ao=some ⟨b,off,none⟩) (hR:NRow w (.slice ao n cap) zs L) (hz:zs[k]? = some z):Does Tryz.prog { dst,op:=.load 83 (.tmp i),type:=ty,pos,after,guard } a.eval w fun v' w'=>Below w.heap.size w w'∧OutN z L v' w' := by
 obtain ⟨b',off',ng,a',m,c,e,_,h0,h1,ho⟩:=hR.cell hz
 rw [hao] at e
 simp only [Option.some.injEq,Addr.mk.injEq,and_true] at e
 obtain ⟨rfl,rfl⟩:=e
 refine aa4 (v:=.agg #[.bool ng,.slice a' m c]) ?_ ⟨Below.refl _ _,ho⟩
 rw [hp]
 go_simp
end
theorem arb (es:List WE) (i:Nat) (k:IntKind) (z:Int):(flat es).toArray[i]?≠some (.int k z):=by
 intro h
 rw [List.getElem?_toArray] at h
 have hlt:=(List.getElem?_eq_some_iff.1 h).1
 rw [abd] at hlt
 obtain ⟨e,he⟩:∃ e,es[i / 2]? = some e:=⟨_,List.getElem?_eq_getElem (by omega)⟩
 obtain ⟨f1,f2⟩:=abf he
 rcases (by omega:i=i / 2*2∨i=i / 2*2+1) with e1 | e1
 ·rw [e1,f1] at h
  simp at h
 ·rw [e1,f2] at h
  simp at h
def PN (w:World) (bv n i:Nat) (zs:List Int) (L:Nat):Prop :=
 ∃ es:List WE,es.length=n∧w.heap[bv]? = some (.cells (flat es).toArray 83 (0,0))∧∀ (k:Nat) (e:WE) (z:Int),k<i→es[k]? = some e→zs[k]? = some z→OutN z L e.v w
theorem PN.lt {w:World} {bv n i:Nat} {zs:List Int} {L:Nat} (h:PN w bv n i zs L):bv<w.heap.size:=by
 obtain ⟨es,h1,h2,_⟩:=h
 exact aaa h2
theorem PN.cells {w:World} {bv n i:Nat} {zs:List Int} {L:Nat} (h:PN w bv n i zs L) {k:Nat} (hk:k<n):(∃ ng a m c,w.cell? ⟨bv,k*2,none⟩ = some (.bool ng)∧w.cell? ⟨bv,k*2+1,none⟩ = some (.slice a m c))∧w.frozen? ⟨bv,k*2,none⟩ = false∧w.frozen? ⟨bv,k*2+1,none⟩ = false:=by
 obtain ⟨es,h1,h2,_⟩:=h
 obtain ⟨e,he⟩:∃ e,es[k]? = some e:=⟨_,List.getElem?_eq_getElem (by omega)⟩
 obtain ⟨f1,f2⟩:=abf he
 exact ⟨⟨e.ng,e.a,e.m,e.c,by rw [cell_of_row _ _ _ _ _ (0,0) h2,List.getElem?_toArray];exact f1,by rw [cell_of_row _ _ _ _ _ (0,0) h2,List.getElem?_toArray];exact f2⟩,frozen_of_row _ _ _ _ _ h2,frozen_of_row _ _ _ _ _ h2⟩
theorem PN.at {w:World} {bv n i:Nat} {zs:List Int} {L:Nat} (h:PN w bv n i zs L) {k:Nat} {z:Int} (hk:k<i) (hi:i≤n) (hz:zs[k]? = some z):∃ ng a m c,w.cell? ⟨bv,0+k*2,none⟩ = some (.bool ng)∧w.cell? ⟨bv,0+k*2+1,none⟩ = some (.slice a m c)∧OutN z L (.agg #[.bool ng,.slice a m c]) w:=by
 obtain ⟨es,h1,h2,h3⟩:=h
 obtain ⟨e,he⟩:∃ e,es[k]? = some e:=⟨_,List.getElem?_eq_getElem (by omega)⟩
 obtain ⟨f1,f2⟩:=abf he
 refine ⟨e.ng,e.a,e.m,e.c,?_,?_,h3 k e z hk he hz⟩
 ·rw [Nat.zero_add,cell_of_row _ _ _ _ _ (0,0) h2,List.getElem?_toArray];exact f1
 ·rw [Nat.zero_add,cell_of_row _ _ _ _ _ (0,0) h2,List.getElem?_toArray];exact f2
theorem PN.nrow {w:World} {bv n:Nat} {zs:List Int} {L:Nat} (h:PN w bv n n zs L) (hl:zs.length=n) (hn:n≤1000000):NRow w (.slice (some ⟨bv,0,none⟩) n n) zs L:=by
 have hlt:=h.lt
 obtain ⟨es,h1,h2,h4⟩:=h
 refine ⟨es,⟨some ⟨bv,0,none⟩,n,by rw [h1],by omega,by omega,abd _,.inr ⟨bv,0,rfl,hlt,fun j u hu=>?_⟩⟩,by omega,fun k f z hf hz=>h4 k f z (by have:=(List.getElem?_eq_some_iff.1 hf).1;omega) hf hz⟩
 rw [Nat.zero_add,cell_of_row _ _ _ _ _ (0,0) h2,List.getElem?_toArray]
 exact hu
section
variable {dst:Option Tmp} {ty:TypeId} {pos:String} {after:Array Edge} {guard:Option (Nat × Bool)} {a:Act} {w:World} {ats:Array TypeId} {i j:Nat}
theorem acc {b off:Nat} {ng:Bool} {ao:Option Addr} {n c:Nat} {q:Says} (hp:a.eval (.tmp i)=.pointer (some ⟨b,off,none⟩)) (h0:w.cell? ⟨b,off,none⟩ = some (.bool ng)) (h1:w.cell? ⟨b,off+1,none⟩ = some (.slice ao n c)) (hv:q (.agg #[.bool ng,.slice ao n c]) w) :
  Does Tryz.prog { dst,op:=.load 83 (.tmp i),type:=ty,pos,after,guard } a.eval w fun v' w'=>Below w.heap.size w w'∧q v' w' := by
 refine aa4 (v:=.agg #[.bool ng,.slice ao n c]) ?_ ⟨Below.refl _ _,hv⟩
 rw [hp]
 go_simp
end
def ov (x y:Int):Int:=sg (decide (x<0) != decide (y<0)) ((x.natAbs:Int) / (y.natAbs:Int))
theorem arc {x g:Int} (hg:0<g) (hd:g ∣ x):ov x g=x / g:=by
 obtain ⟨k,rfl⟩:=hd
 have h1:decide (g<0)=false:=decide_eq_false (by omega)
 have h2:((g.natAbs:Nat):Int)=g:=by omega
 rw [Int.mul_ediv_cancel_left _ (by omega)]
 unfold ov
 rw [h1,h2,Int.natAbs_mul]
 have h3:((g.natAbs*k.natAbs:Nat):Int)=g*(k.natAbs:Int):=by
  rw [Int.natCast_mul,h2]
 rw [h3,Int.mul_ediv_cancel_left _ (by omega)]
 by_cases hk:k<0
 ·have:g*k<0:=Int.mul_neg_of_pos_of_neg hg hk
  simp [sg,this]
  omega
 ·have:¬ g*k<0:=by
   have:=Int.mul_nonneg (show 0≤g by omega) (show 0≤k by omega)
   omega
  simp [sg,this]
  omega
section
end
set_option maxRecDepth 20000 in
set_option maxHeartbeats 2000000 in
theorem atj (w:World) (Bx:Nat) (nx:Bool) (ax:Option Addr) (cx:Nat) (xs:List Int) (zx:Int) (Gx:Dm.Wh w nx ax cx xs zx) (Lx:xs.length≤Bx) (By:Nat) (ny:Bool) (ay:Option Addr) (cy:Nat) (ys:List Int) (zy:Int) (Gy:Dm.Wh w ny ay cy ys zy) (Ly:ys.length≤By) (hL:Bx≤300000) (hL2:By≤300000) (hy:zy≠0) :
  Calls Tryz.prog 83 #[.agg #[.bool nx,.slice ax xs.length cx],.agg #[.bool ny,.slice ay ys.length cy]] w fun e w'=>∃ v,e=.returned v∧(OutN (ov zx zy) Bx) v w'∧Below w.heap.size w w' := by
 go_enter Tryz.func83,Tryz.ntmps83
 generalize hA:(Act.mk _ _)=aa
 have hn:aa.tmps.size=21:=by rw [←hA];rfl
 have hd:aa.defers = []:=by rw [←hA]
 have f0:aa.eval (.tmp 0)=.agg #[.bool nx,.slice ax xs.length cx]:=by rw [←hA];rfl
 have f1:aa.eval (.tmp 1)=.agg #[.bool ny,.slice ay ys.length cy]:=by rw [←hA];rfl
 clear hA
 have HB:Below w.heap.size w w:=Below.refl _ _
 refine wp_seq ?_
 refine abc [some 2,some 3,some 4] [Tt,Tt,Tt] [⟨N2,some 0,0,2,.agg #[.bool nx,.slice ax xs.length cx],none,[]⟩,⟨N2,some 1,0,3,.agg #[.bool ny,.slice ay ys.length cy],none,[]⟩,⟨N2,some 2,0,4,.agg #[.bool false,.slice none 0 0],none,[]⟩] [] (by kernel_rfl) hn rfl (by kernel_rfl) (by kernel_rfl) (by kernel_rfl) (by kernel_rfl) (by kernel_rfl) (by kernel_rfl) ⟨True.mono4,True.mono4,True.mono4,trivial⟩ (abv N2ok (abv N2ok (abv N2ok abo))) (IsOld.all (bx:=[⟨N2,some 0,0,2,.agg #[.bool nx,.slice ax xs.length cx],none,[]⟩,⟨N2,some 1,0,3,.agg #[.bool ny,.slice ay ys.length cy],none,[]⟩,⟨N2,some 2,0,4,.agg #[.bool false,.slice none 0 0],none,[]⟩]) ⟨someNe,someNe,someNe,trivial⟩) (DisOld.all (bx:=[⟨N2,some 0,0,2,.agg #[.bool nx,.slice ax xs.length cx],none,[]⟩,⟨N2,some 1,0,3,.agg #[.bool ny,.slice ay ys.length cy],none,[]⟩,⟨N2,some 2,0,4,.agg #[.bool false,.slice none 0 0],none,[]⟩]) ⟨someNe,someNe,someNe,trivial⟩) ?_ ?_
 ·exact ⟨.alloc 0 _ rfl rfl (.inr ⟨_,rfl,aix,fun a_ hR=>(hR 0 rfl).trans f0⟩) rfl rfl rfl rfl rfl,.alloc 1 _ rfl rfl (.inr ⟨_,rfl,aix,fun a_ hR=>(hR 1 rfl).trans f1⟩) rfl rfl rfl rfl rfl,.alloc 2 _ rfl rfl (.inl ⟨rfl,rfl⟩) rfl rfl rfl rfl rfl,trivial⟩
 ·intro a1 w1 gs1 hn1 hd1 hBt hr hR hP hX hU
  replace hn:=hn1;replace hd:=hd1.trans hd
  have ne2_4:gs1 0≠gs1 2:=hU 0 2 (by simp) (by simp) (by decide)
  have ne3_4:gs1 1≠gs1 2:=hU 1 2 (by simp) (by simp) (by decide)
  have b2:BoxV N2 w1 (gs1 0) (.agg #[.bool nx,.slice ax xs.length cx]):=(hX 0 _ rfl).2.2.2
  have f2:=(hX 0 _ rfl).1
  have u2:w.heap.size≤gs1 0:=Nat.le_trans HB.size ((hX 0 _ rfl).2.2.1 (by simp))
  have b3:BoxV N2 w1 (gs1 1) (.agg #[.bool ny,.slice ay ys.length cy]):=(hX 1 _ rfl).2.2.2
  have f3:=(hX 1 _ rfl).1
  have u3:w.heap.size≤gs1 1:=Nat.le_trans HB.size ((hX 1 _ rfl).2.2.1 (by simp))
  have b4:BoxV N2 w1 (gs1 2) (.agg #[.bool false,.slice none 0 0]):=(hX 2 _ rfl).2.2.2
  have f4:=(hX 2 _ rfl).1
  have u4:w.heap.size≤gs1 2:=Nat.le_trans HB.size ((hX 2 _ rfl).2.2.1 (by simp))
  replace Gx:=Gx.rl hr
  replace Gy:=Gy.rl hr
  replace HB:=HB.trans (hBt.below HB.size (UpOld.all (bx:=[⟨N2,some 0,0,2,.agg #[.bool nx,.slice ax xs.length cx],none,[]⟩,⟨N2,some 1,0,3,.agg #[.bool ny,.slice ay ys.length cy],none,[]⟩,⟨N2,some 2,0,4,.agg #[.bool false,.slice none 0 0],none,[]⟩]) ⟨someNe,someNe,someNe,trivial⟩))
  clear hBt hr hR hP hX hU
  refine wp_seq ?_
  refine abc [some 8,some 9,some 10,some 7,some 11,some 12,some 5,some 6,none,none] [Eqs (.agg #[.bool nx,.slice ax xs.length cx]),Eqs (.agg #[.bool ny,.slice ay ys.length cy]),Tup2 (OutN ((((zx).natAbs:Int) / ((zy).natAbs:Int))) (Bx)) (OutN ((((zx).natAbs:Int) % ((zy).natAbs:Int))) (By)),Tup2 (OutN ((((zx).natAbs:Int) / ((zy).natAbs:Int))) (Bx)) (OutN ((((zx).natAbs:Int) % ((zy).natAbs:Int))) (By)),OutN ((((zx).natAbs:Int) / ((zy).natAbs:Int))) (Bx),OutN ((((zx).natAbs:Int) % ((zy).natAbs:Int))) (By),Tt,Tt,Tt,Tt] [⟨N2,some 6,0,5,.agg #[.bool false,.slice none 0 0],some (8,11,4),[]⟩,⟨N2,some 7,0,6,.agg #[.bool false,.slice none 0 0],some (9,12,5),[]⟩] [] (by kernel_rfl) hn rfl (by kernel_rfl) (by kernel_rfl) (by kernel_rfl) (by kernel_rfl) (by kernel_rfl) (by kernel_rfl) ⟨Eqs.mono4 _,Eqs.mono4 _,Tup2.mono4 (OutN.mono4 _ _) (OutN.mono4 _ _),Tup2.mono4 (OutN.mono4 _ _) (OutN.mono4 _ _),OutN.mono4 _ _,OutN.mono4 _ _,True.mono4,True.mono4,True.mono4,True.mono4,trivial⟩ (abv N2ok (abv N2ok abo)) (IsOld.all (bx:=[⟨N2,some 6,0,5,.agg #[.bool false,.slice none 0 0],some (8,11,4),[]⟩,⟨N2,some 7,0,6,.agg #[.bool false,.slice none 0 0],some (9,12,5),[]⟩]) ⟨someNe,someNe,trivial⟩) (DisOld.all (bx:=[⟨N2,some 6,0,5,.agg #[.bool false,.slice none 0 0],some (8,11,4),[]⟩,⟨N2,some 7,0,6,.agg #[.bool false,.slice none 0 0],some (9,12,5),[]⟩]) ⟨someNe,someNe,trivial⟩) ?_ ?_
  ·exact ⟨.norm 8 rfl rfl rfl (fun a_ w_ _ t r R D _ _=>ad1 N2ok ((R 2 rfl).trans f2) (b2.keep t ⟨someNe,someNe,trivial⟩)),.norm 9 rfl rfl rfl (fun a_ w_ _ t r R D _ _=>ad1 N2ok ((R 3 rfl).trans f3) (b3.keep t ⟨someNe,someNe,trivial⟩)),.norm 10 rfl rfl rfl (fun a_ w_ _ t r R D _ _=>ak5 (aen (show a_.eval (.tmp 8)=.agg #[.bool nx,.slice ax xs.length cx] from D 0 rfl) (Gx.rl r) Lx) (aen (show a_.eval (.tmp 9)=.agg #[.bool ny,.slice ay ys.length cy] from D 1 rfl) (Gy.rl r) Ly) (by omega) (by omega) hy),.norm 7 rfl rfl rfl (fun a_ w_ _ t r R D _ _=>auh (p:=Tup2 (OutN ((((zx).natAbs:Int) / ((zy).natAbs:Int))) (Bx)) (OutN ((((zx).natAbs:Int) % ((zy).natAbs:Int))) (By))) (show Tup2 (OutN ((((zx).natAbs:Int) / ((zy).natAbs:Int))) (Bx)) (OutN ((((zx).natAbs:Int) % ((zy).natAbs:Int))) (By)) (a_.eval (.tmp 10)) w_ from D 2 rfl)),.norm 11 rfl rfl rfl (fun a_ w_ _ t r R D _ _=>asl (show Tup2 (OutN ((((zx).natAbs:Int) / ((zy).natAbs:Int))) (Bx)) (OutN ((((zx).natAbs:Int) % ((zy).natAbs:Int))) (By)) (a_.eval (.tmp 7)) w_ from D 3 rfl)),.norm 12 rfl rfl rfl (fun a_ w_ _ t r R D _ _=>asm (show Tup2 (OutN ((((zx).natAbs:Int) / ((zy).natAbs:Int))) (Bx)) (OutN ((((zx).natAbs:Int) % ((zy).natAbs:Int))) (By)) (a_.eval (.tmp 7)) w_ from D 3 rfl)),.alloc 0 _ rfl rfl (.inl ⟨rfl,rfl⟩) rfl rfl rfl rfl rfl,.alloc 1 _ rfl rfl (.inl ⟨rfl,rfl⟩) rfl rfl rfl rfl rfl,.store 0 _ _ _ rfl rfl rfl rfl rfl rfl rfl (fun ia h=>by cases h;rfl) rfl rfl rfl OutN.cs,.store 1 _ _ _ rfl rfl rfl rfl rfl rfl rfl (fun ia h=>by cases h;rfl) rfl rfl rfl OutN.cs,trivial⟩
  ·intro a2 w2 gs2 hn2 hd2 hBt hr hR hP hX hU
   replace hn:=hn2;replace hd:=hd2.trans hd
   have ne2_5:(gs1 0)≠gs2 0:=by have h1:=b2.lt;have h2:=(hX 0 _ rfl).2.2.1 (by simp);omega
   have ne3_5:(gs1 1)≠gs2 0:=by have h1:=b3.lt;have h2:=(hX 0 _ rfl).2.2.1 (by simp);omega
   have ne4_5:(gs1 2)≠gs2 0:=by have h1:=b4.lt;have h2:=(hX 0 _ rfl).2.2.1 (by simp);omega
   replace b2:=b2.keep hBt ⟨someNe,someNe,trivial⟩
   replace b3:=b3.keep hBt ⟨someNe,someNe,trivial⟩
   replace b4:=b4.keep hBt ⟨someNe,someNe,trivial⟩
   obtain ⟨n_3,a_3,c_3,r_3,e11,G3,l3⟩:OutN ((((zx).natAbs:Int) / ((zy).natAbs:Int))) (Bx) (a2.eval (.tmp 11)) w2:=hP 4 (by decide)
   have b5:BoxV N2 w2 (gs2 0) (.agg #[.bool n_3,.slice a_3 r_3.length c_3]):=asj (hX 0 _ rfl).2.2.2 e11
   have f5:=(hX 0 _ rfl).1
   have u5:w.heap.size≤gs2 0:=Nat.le_trans HB.size ((hX 0 _ rfl).2.2.1 (by simp))
   replace f2:=(hR 2 rfl).trans f2
   replace f3:=(hR 3 rfl).trans f3
   replace f4:=(hR 4 rfl).trans f4
   replace Gx:=Gx.rl hr
   replace Gy:=Gy.rl hr
   replace HB:=HB.trans (hBt.below HB.size (UpOld.all (bx:=[⟨N2,some 6,0,5,.agg #[.bool false,.slice none 0 0],some (8,11,4),[]⟩,⟨N2,some 7,0,6,.agg #[.bool false,.slice none 0 0],some (9,12,5),[]⟩]) ⟨someNe,someNe,trivial⟩))
   clear hBt hr hR hP hX hU
   refine wp_seq ?_
   refine wp_seq ?_
   refine abc [some 13,some 14,some 15,some 16,some 17] [Eqs (.pointer (some ⟨gs1 0,0,none⟩)),Eqs (.bool nx),Eqs (.pointer (some ⟨gs1 1,0,none⟩)),Eqs (.bool ny),Eqs (.bool (nx != ny))] [] [] (by kernel_rfl) hn rfl (by kernel_rfl) (by kernel_rfl) (by kernel_rfl) (by kernel_rfl) (by kernel_rfl) (by kernel_rfl) ⟨Eqs.mono4 _,Eqs.mono4 _,Eqs.mono4 _,Eqs.mono4 _,Eqs.mono4 _,trivial⟩ abo (IsOld.all (bx:=[]) trivial) (DisOld.all (bx:=[]) trivial) ?_ ?_
   ·exact ⟨.norm 13 rfl rfl rfl (fun a_ w_ _ t r R D _ _=>ao3 alq ((R 2 rfl).trans f2)),.norm 14 rfl rfl rfl (fun a_ w_ _ t r R D _ _=>aig (show a_.eval (.tmp 13)=.pointer (some ⟨gs1 0,0,none⟩) from D 0 rfl) (b2.keep t trivial)),.norm 15 rfl rfl rfl (fun a_ w_ _ t r R D _ _=>ao3 alq ((R 3 rfl).trans f3)),.norm 16 rfl rfl rfl (fun a_ w_ _ t r R D _ _=>aig (show a_.eval (.tmp 15)=.pointer (some ⟨gs1 1,0,none⟩) from D 2 rfl) (b3.keep t trivial)),.norm 17 rfl rfl rfl (fun a_ w_ _ t r R D _ _=>asn (show a_.eval (.tmp 14)=.bool nx from D 1 rfl) (show a_.eval (.tmp 16)=.bool ny from D 3 rfl)),trivial⟩
   ·intro a4 w4 gs4 hn4 hd4 hBt hr hR hP hX hU
    replace hn:=hn4;replace hd:=hd4.trans hd
    replace b4:=b4.keep hBt trivial
    replace b5:=b5.keep hBt trivial
    replace f4:=(hR 4 rfl).trans f4
    replace f5:=(hR 5 rfl).trans f5
    have e17:a4.eval (.tmp 17)=.bool (nx != ny):=hP 4 (by decide)
    have f17:=e17
    replace Gx:=Gx.rl hr
    replace Gy:=Gy.rl hr
    replace G3:=G3.rl hr
    replace HB:=HB.trans (hBt.below HB.size (UpOld.all (bx:=[]) trivial))
    clear hBt hr hR hP hX hU
    refine wp_cond_split f17 (fun hc17=>?_) (fun hc17=>?_)
    ·skip
     refine abc [some 18,some 19,none] [Eqs (.agg #[.bool n_3,.slice a_3 r_3.length c_3]),OutN ((-(((zx).natAbs:Int) / ((zy).natAbs:Int)))) (Bx),Tt] [⟨N2,none,(gs2 0),5,.agg #[.bool n_3,.slice a_3 r_3.length c_3],some (2,19,1),[0]⟩] [] (by kernel_rfl) hn rfl (by kernel_rfl) (by kernel_rfl) (by kernel_rfl) (by kernel_rfl) (by kernel_rfl) (by kernel_rfl) ⟨Eqs.mono4 _,OutN.mono4 _ _,True.mono4,trivial⟩ (abv N2ok abo) (IsOld.all (bx:=[⟨N2,none,(gs2 0),5,.agg #[.bool n_3,.slice a_3 r_3.length c_3],some (2,19,1),[0]⟩]) ⟨fun _=>⟨f5,b5⟩,trivial⟩) (DisOld.all (bx:=[⟨N2,none,(gs2 0),5,.agg #[.bool n_3,.slice a_3 r_3.length c_3],some (2,19,1),[0]⟩]) ⟨fun _=>trivial,trivial⟩) ?_ ?_
     ·exact ⟨.norm 18 rfl rfl rfl (fun a_ w_ _ t r R D hO _=>ad1 N2ok ((R 5 rfl).trans f5) (hO 0 _ rfl rfl rfl)),.norm 19 rfl rfl rfl (fun a_ w_ _ t r R D _ _=>ao4 (aen (show a_.eval (.tmp 18)=.agg #[.bool n_3,.slice a_3 r_3.length c_3] from D 0 rfl) (G3.rl r) l3) (by omega)),.store 0 _ _ _ rfl rfl rfl rfl rfl rfl rfl (fun ia h=>by cases h) rfl rfl rfl OutN.cs,trivial⟩
     ·intro a5 w5 gs5 hn5 hd5 hBt hr hR hP hX hU
      replace hn:=hn5;replace hd:=hd5.trans hd
      replace b4:=b4.keep hBt ⟨fun _=>ne4_5.symm,trivial⟩
      obtain ⟨n_6,a_6,c_6,r_6,e19,G6,l6⟩:OutN ((-(((zx).natAbs:Int) / ((zy).natAbs:Int)))) (Bx) (a5.eval (.tmp 19)) w5:=hP 1 (by decide)
      have b5:BoxV N2 w5 ((gs2 0)) (.agg #[.bool n_6,.slice a_6 r_6.length c_6]):=aey ((hX 0 _ rfl).2.1 rfl) (hX 0 _ rfl).2.2.2 e19
      replace f5:a5.eval (.tmp 5) = _:=(hR 5 rfl).trans f5
      replace f4:=(hR 4 rfl).trans f4
      replace Gx:=Gx.rl hr
      replace Gy:=Gy.rl hr
      replace G3:=G3.rl hr
      replace HB:=HB.trans (hBt.below HB.size (UpOld.all (bx:=[⟨N2,none,(gs2 0),5,.agg #[.bool n_3,.slice a_3 r_3.length c_3],some (2,19,1),[0]⟩]) ⟨fun _=>u5,trivial⟩))
      clear hBt hr hR hP hX hU
      refine wp_seq ?_
      refine abc [some 20,none] [Eqs (.agg #[.bool n_6,.slice a_6 r_6.length c_6]),Tt] [⟨N2,none,(gs1 2),4,.agg #[.bool false,.slice none 0 0],some (1,20,0),[]⟩] [] (by kernel_rfl) hn rfl (by kernel_rfl) (by kernel_rfl) (by kernel_rfl) (by kernel_rfl) (by kernel_rfl) (by kernel_rfl) ⟨Eqs.mono4 _,True.mono4,trivial⟩ (abv N2ok abo) (IsOld.all (bx:=[⟨N2,none,(gs1 2),4,.agg #[.bool false,.slice none 0 0],some (1,20,0),[]⟩]) ⟨fun _=>⟨f4,b4⟩,trivial⟩) (DisOld.all (bx:=[⟨N2,none,(gs1 2),4,.agg #[.bool false,.slice none 0 0],some (1,20,0),[]⟩]) ⟨fun _=>trivial,trivial⟩) ?_ ?_
      ·exact ⟨.norm 20 rfl rfl rfl (fun a_ w_ _ t r R D _ _=>ad1 N2ok ((R 5 rfl).trans f5) (b5.keep t ⟨fun _=>ne4_5,trivial⟩)),.store 0 _ _ _ rfl rfl rfl rfl rfl rfl rfl (fun ia h=>by cases h) rfl rfl rfl (an6 aix),trivial⟩
      ·intro a7 w7 gs7 hn7 hd7 hBt hr hR hP hX hU
       replace hn:=hn7;replace hd:=hd7.trans hd
       have e20:a7.eval (.tmp 20)=.agg #[.bool n_6,.slice a_6 r_6.length c_6]:=hP 0 (by decide)
       have b4:BoxV N2 w7 ((gs1 2)) (.agg #[.bool n_6,.slice a_6 r_6.length c_6]):=aey ((hX 0 _ rfl).2.1 rfl) (hX 0 _ rfl).2.2.2 e20
       replace f4:a7.eval (.tmp 4) = _:=(hR 4 rfl).trans f4
       replace Gx:=Gx.rl hr
       replace Gy:=Gy.rl hr
       replace G3:=G3.rl hr
       replace G6:=G6.rl hr
       replace HB:=HB.trans (hBt.below HB.size (UpOld.all (bx:=[⟨N2,none,(gs1 2),4,.agg #[.bool false,.slice none 0 0],some (1,20,0),[]⟩]) ⟨fun _=>u4,trivial⟩))
       clear hBt hr hR hP hX hU
       refine wp_ret ?_
       repeat (first | refine ad2 ?_ | refine ada ?_ | refine ac9 ?_)
       exact bodyPost_ret (v:=.agg #[.bool n_6,.slice a_6 r_6.length c_6]) (ab5 rfl f4 (ary b4)) hd ⟨_,rfl,OutN.to (aen rfl G6 l6) (by rw [ov,←Gx.2,←Gy.2,hc17];rfl) (by omega),HB⟩
    ·skip
     refine wp_skip ?_
     refine wp_seq ?_
     refine abc [some 20,none] [Eqs (.agg #[.bool n_3,.slice a_3 r_3.length c_3]),Tt] [⟨N2,none,(gs1 2),4,.agg #[.bool false,.slice none 0 0],some (1,20,0),[]⟩] [] (by kernel_rfl) hn rfl (by kernel_rfl) (by kernel_rfl) (by kernel_rfl) (by kernel_rfl) (by kernel_rfl) (by kernel_rfl) ⟨Eqs.mono4 _,True.mono4,trivial⟩ (abv N2ok abo) (IsOld.all (bx:=[⟨N2,none,(gs1 2),4,.agg #[.bool false,.slice none 0 0],some (1,20,0),[]⟩]) ⟨fun _=>⟨f4,b4⟩,trivial⟩) (DisOld.all (bx:=[⟨N2,none,(gs1 2),4,.agg #[.bool false,.slice none 0 0],some (1,20,0),[]⟩]) ⟨fun _=>trivial,trivial⟩) ?_ ?_
     ·exact ⟨.norm 20 rfl rfl rfl (fun a_ w_ _ t r R D _ _=>ad1 N2ok ((R 5 rfl).trans f5) (b5.keep t ⟨fun _=>ne4_5,trivial⟩)),.store 0 _ _ _ rfl rfl rfl rfl rfl rfl rfl (fun ia h=>by cases h) rfl rfl rfl (an6 aix),trivial⟩
     ·intro a8 w8 gs8 hn8 hd8 hBt hr hR hP hX hU
      replace hn:=hn8;replace hd:=hd8.trans hd
      have e20:a8.eval (.tmp 20)=.agg #[.bool n_3,.slice a_3 r_3.length c_3]:=hP 0 (by decide)
      have b4:BoxV N2 w8 ((gs1 2)) (.agg #[.bool n_3,.slice a_3 r_3.length c_3]):=aey ((hX 0 _ rfl).2.1 rfl) (hX 0 _ rfl).2.2.2 e20
      replace f4:a8.eval (.tmp 4) = _:=(hR 4 rfl).trans f4
      replace Gx:=Gx.rl hr
      replace Gy:=Gy.rl hr
      replace G3:=G3.rl hr
      replace HB:=HB.trans (hBt.below HB.size (UpOld.all (bx:=[⟨N2,none,(gs1 2),4,.agg #[.bool false,.slice none 0 0],some (1,20,0),[]⟩]) ⟨fun _=>u4,trivial⟩))
      clear hBt hr hR hP hX hU
      refine wp_ret ?_
      repeat (first | refine ad2 ?_ | refine ada ?_ | refine ac9 ?_)
      exact bodyPost_ret (v:=.agg #[.bool n_3,.slice a_3 r_3.length c_3]) (ab5 rfl f4 (ary b4)) hd ⟨_,rfl,OutN.to (aen rfl G3 l3) (by rw [ov,←Gx.2,←Gy.2,hc17];rfl) (by omega),HB⟩
theorem apm:Has Tryz.prog 83:=by unfold Has;kernel_rfl
theorem ard {dst:Option Tmp} {ty:TypeId} {pos:String} {after:Array Edge} {guard:Option (Nat × Bool)} {a:Act} {w:World} {ats:Array TypeId} {i j:Nat} {Bx:Nat} {zx:Int} (Hx:OutN zx Bx (a.eval (.tmp i)) w) {By:Nat} {zy:Int} (Hy:OutN zy By (a.eval (.tmp j)) w) (hL:Bx≤300000) (hL2:By≤300000) (hy:zy≠0) :
  Does Tryz.prog { dst,op:=.call { callee:=.value (.func 83),args:=#[.tmp i,.tmp j],argTypes:=ats },type:=ty,pos,after,guard } a.eval w fun v w'=>Below w.heap.size w w'∧(OutN (ov zx zy) Bx) v w' := by
 obtain ⟨nx,ax,cx,xs,ex,Gx,Lx⟩:=Hx
 obtain ⟨ny,ay,cy,ys,ey,Gy,Ly⟩:=Hy
 refine aas apm _ (by simp only [List.map_toArray,List.map_cons,List.map_nil,ex,ey]) ((atj w Bx _ _ _ _ _ Gx Lx By _ _ _ _ _ Gy Ly hL hL2 hy).mono ?_)
 rintro e w' ⟨v,rfl,h1,hb⟩
 exact ⟨_,rfl,hb,h1⟩
theorem nset {w2:World} {bv i:Nat} {es:List WE} {ng:Bool} {a:Option Addr} {m c:Nat} (e2:w2.heap[bv]? = some (.cells (flat es).toArray 83 (0,0))) (hi:i<es.length):∃ W,W=((w2.setCell ⟨bv,i*2,none⟩ (.bool ng)).setCell ⟨bv,i*2+1,none⟩ (.slice a m c))∧W.heap[bv]? = some (.cells (flat (es.set i ⟨ng,a,m,c,[]⟩)).toArray 83 (0,0))∧Rl w2 W∧∀ B,B≤bv→Below B w2 W:=by
 refine ⟨_,rfl,?_⟩
 generalize hW:((w2.setCell ⟨bv,i*2,none⟩ (.bool ng)).setCell ⟨bv,i*2+1,none⟩ (.slice a m c))=W
 have hbW:W.heap[bv]? = some (.cells (flat (es.set i ⟨ng,a,m,c,[]⟩)).toArray 83 (0,0)):=by
  rw [←hW,ajz es i _ hi]
  have s1:=heap_setCell_same w2 bv (i*2) _ _ (.bool ng) e2
  have s2:=heap_setCell_same _ bv (i*2+1) _ _ (.slice a m c) s1
  rw [s2]
  simp
 have hot:∀ k,k≠bv→W.heap[k]? = w2.heap[k]? := fun k hn=>by rw [←hW,heap_setCell_other _ ⟨bv,i*2+1,none⟩ k _ hn,heap_setCell_other _ ⟨bv,i*2,none⟩ k _ hn]
 have hsz:W.heap.size=w2.heap.size:=by rw [←hW];simp [World.setCell]
 have hou:W.os=w2.os∧W.tape=w2.tape∧W.output=w2.output:=by rw [←hW];exact ⟨rfl,rfl,rfl⟩
 refine ⟨hbW,⟨Nat.le_of_eq hsz.symm,fun q k y e=>?_,fun k cs T hT e=>?_⟩,fun B hB=>⟨hou.1,hou.2.1,hou.2.2,Nat.le_of_eq hsz.symm,fun k hk=>hot k (by omega)⟩⟩
 ·by_cases hq:q.block=bv
  ·exfalso
   obtain ⟨qb,qo,qm⟩:=q
   simp only at hq
   subst hq
   simp only [World.cell?,e2] at e
   cases qm with
   | none=>exact arb es qo k y (by simpa using e)
   | some m=>simp at e
  ·rw [World.cell?_of_block (w:=w2) (hot q.block hq)]
   exact e
 ·by_cases hk:k=bv
  ·exfalso
   subst hk
   rw [e2] at e
   injection e with e
   injection e with _ e _
   rcases hT with rfl | rfl
   ·exact absurd e (by decide)
   ·exact absurd e (by decide)
  ·exact (hot k hk).trans e
theorem avq {w2:World} {g:Nat} {ng0:Bool} {a0:Option Addr} {m0 c0:Nat} (ng:Bool) (a:Option Addr) (m c:Nat) (e2:w2.heap[g]? = some (.cells #[.bool ng0,.slice a0 m0 c0] 83 (0,0))):((w2.setCell ⟨g,0,none⟩ (.bool ng)).setCell ⟨g,1,none⟩ (.slice a m c)).heap[g]? = some (.cells #[.bool ng,.slice a m c] 83 (0,0))∧Rl w2 ((w2.setCell ⟨g,0,none⟩ (.bool ng)).setCell ⟨g,1,none⟩ (.slice a m c))∧∀ B,B≤g→Below B w2 ((w2.setCell ⟨g,0,none⟩ (.bool ng)).setCell ⟨g,1,none⟩ (.slice a m c)):=by
 obtain ⟨W,hW,h1,h2,h3⟩:=nset (w2:=w2) (bv:=g) (i:=0) (es:=[⟨ng0,a0,m0,c0,[]⟩]) (ng:=ng) (a:=a) (m:=m) (c:=c) e2 (by simp)
 simp only [Nat.zero_mul,Nat.zero_add] at hW
 rw [←hW]
 exact ⟨h1,h2,h3⟩
theorem nsignF (w:World) (z:Int) (v:Value) (L:Nat) (h:OutN z L v w) :
  Calls Tryz.prog 46 #[v] w fun e w'=>e=.returned (.int .i64 (Int.sign z))∧Below w.heap.size w w' := by
 obtain ⟨ng,ao,cap,rs,rfl,W,l⟩:=h
 exact Dm.as0 w _ _ _ _ _ W
theorem nminusF (w:World) (z:Int) (v:Value) (L:Nat) (h:OutN z L v w) (hL:L≤1000000) :
  Calls Tryz.prog 66 #[v] w fun e w'=>∃ r,e=.returned r∧OutN (-z) L r w'∧Below w.heap.size w w' := by
 obtain ⟨ng,ao,cap,rs,rfl,W,l⟩:=h
 refine (Dm.ahs w _ _ _ _ _ W (by omega)).mono ?_
 rintro e w' ⟨ng,ao,cap,rs,rfl,G,l,hb⟩
 exact ⟨_,rfl,⟨_,_,_,_,rfl,G,by omega⟩,hb⟩
def PZ (w:World) (bv n i:Nat) (zs:List Int) (L:Nat):Prop :=
 ∃ es:List WE,es.length=n∧w.heap[bv]? = some (.cells (flat es).toArray 83 (0,0))∧(∀ (k:Nat) (e:WE) (z:Int),k<i→es[k]? = some e→zs[k]? = some z→OutN z L e.v w)∧∀ (k:Nat) (e:WE),i≤k→es[k]? = some e→e=⟨false,none,0,0,[]⟩
theorem PZ.pn {w:World} {bv n i:Nat} {zs:List Int} {L:Nat} (h:PZ w bv n i zs L):PN w bv n i zs L:=by
 obtain ⟨es,h1,h2,h3,_⟩:=h
 exact ⟨es,h1,h2,h3⟩
theorem PZ.below {w w' : World} {bv n i:Nat} {zs:List Int} {L:Nat} (h:PZ w bv n i zs L) (hb:Below w.heap.size w w'):PZ w' bv n i zs L:=by
 have hl:=h.pn.lt
 obtain ⟨es,h1,h2,h3,h4⟩:=h
 exact ⟨es,h1,(hb.block bv hl).trans h2,fun k e z hk he hz=>(h3 k e z hk he hz).rl (Rl.of_below hb),h4⟩
theorem PZ.start {w:World} {bv n:Nat} {zs:List Int} {L:Nat} (h:w.heap[bv]? = some (.cells (flat (List.replicate n ⟨false,none,0,0,[]⟩)).toArray 83 (0,0))):PZ w bv n 0 zs L:=⟨_,by simp,h,fun k e z hk=>(by omega),fun k e _ he=>List.eq_of_mem_replicate (List.mem_of_getElem? he)⟩
theorem PZ.zero {w:World} {bv n i:Nat} {zs:List Int} {L:Nat} (h:PZ w bv n i zs L) (hz:zs[i]? = some 0):PZ w bv n (i+1) zs L:=by
 obtain ⟨es,h1,h2,h3,h4⟩:=h
 refine ⟨es,h1,h2,fun k e z hk he hz'=>?_,fun k e hk he=>h4 k e (by omega) he⟩
 by_cases hki:k=i
 ·subst hki
  rw [hz] at hz'
  obtain rfl:=Option.some.inj hz'
  rw [h4 k e (Nat.le_refl _) he]
  exact aij _ _
 ·exact h3 k e z (by omega) he hz'
theorem PZ.put {w1 w2:World} {bv n i:Nat} {zs:List Int} {L:Nat} {z:Int} {ng:Bool} {a:Option Addr} {m c:Nat} (h:PZ w1 bv n i zs L) (hb:Below w1.heap.size w1 w2) (hi:i<n) (hz:zs[i]? = some z) (hv:OutN z L (.agg #[.bool ng,.slice a m c]) w2) :
  PZ ((w2.setCell ⟨bv,i*2,none⟩ (.bool ng)).setCell ⟨bv,i*2+1,none⟩ (.slice a m c)) bv n (i+1) zs L∧∀ B,B≤bv→B≤w1.heap.size→Below B w1 ((w2.setCell ⟨bv,i*2,none⟩ (.bool ng)).setCell ⟨bv,i*2+1,none⟩ (.slice a m c)):=by
 have hlt:=h.pn.lt
 obtain ⟨es,e1,e2,e4,e5⟩:=h
 obtain ⟨W,hW,hbW,hrl,hbl⟩:=nset (ng:=ng) (a:=a) (m:=m) (c:=c) (i:=i) ((hb.block bv hlt).trans e2) (by omega)
 rw [←hW]
 refine ⟨⟨es.set i ⟨ng,a,m,c,[]⟩,by simp [e1],hbW,fun k e z' hk he hz'=>?_,fun k e hk he=>?_⟩,fun B hB hB1=>(hb.mono hB1).trans (hbl B hB)⟩
 ·by_cases hki:k=i
  ·subst hki
   rw [List.getElem?_set_self (by omega)] at he
   obtain rfl:=Option.some.inj he
   rw [hz] at hz'
   obtain rfl:=Option.some.inj hz'
   exact hv.rl hrl
  ·rw [List.getElem?_set_ne (fun h=>hki h.symm)] at he
   exact ((e4 k e z' (by omega) he hz').rl (Rl.of_below hb)).rl hrl
 ·rw [List.getElem?_set_ne (by omega)] at he
  exact e5 k e (by omega) he
theorem PZ.over {w1 w2:World} {bv n i:Nat} {zs:List Int} {L:Nat} {y z:Int} {ng:Bool} {a:Option Addr} {m c:Nat} (h:PZ w1 bv n (i+1) (zs.set i y) L) (hb:Below w1.heap.size w1 w2) (hi:i<n) (hz:zs[i]? = some z) (hv:OutN z L (.agg #[.bool ng,.slice a m c]) w2) :
  PZ ((w2.setCell ⟨bv,i*2,none⟩ (.bool ng)).setCell ⟨bv,i*2+1,none⟩ (.slice a m c)) bv n (i+1) zs L∧∀ B,B≤bv→B≤w1.heap.size→Below B w1 ((w2.setCell ⟨bv,i*2,none⟩ (.bool ng)).setCell ⟨bv,i*2+1,none⟩ (.slice a m c)):=by
 have hlt:=h.pn.lt
 obtain ⟨es,e1,e2,e4,e5⟩:=h
 obtain ⟨W,hW,hbW,hrl,hbl⟩:=nset (ng:=ng) (a:=a) (m:=m) (c:=c) (i:=i) ((hb.block bv hlt).trans e2) (by omega)
 rw [←hW]
 refine ⟨⟨es.set i ⟨ng,a,m,c,[]⟩,by simp [e1],hbW,fun k e z' hk he hz'=>?_,fun k e hk he=>?_⟩,fun B hB hB1=>(hb.mono hB1).trans (hbl B hB)⟩
 ·by_cases hki:k=i
  ·subst hki
   rw [List.getElem?_set_self (by omega)] at he
   obtain rfl:=Option.some.inj he
   rw [hz] at hz'
   obtain rfl:=Option.some.inj hz'
   exact hv.rl hrl
  ·rw [List.getElem?_set_ne (fun h=>hki h.symm)] at he
   exact ((e4 k e z' (by omega) he (by rw [List.getElem?_set_ne (fun h=>hki h.symm)];exact hz')).rl (Rl.of_below hb)).rl hrl
 ·rw [List.getElem?_set_ne (by omega)] at he
  exact e5 k e (by omega) he
theorem atk {zs:List Int} {N:Int} (hN:0<N) (h:∀ z ∈ zs,(z.natAbs:Int)<N):∀ k,((gcdL (zs.take k)).natAbs:Int)<N:=by
 intro k
 induction k with
 | zero=>simpa [gcdL] using hN
 | succ k ih =>
  by_cases hk:k<zs.length
  ·obtain ⟨z,hz⟩:∃ z,zs[k]? = some z:=⟨_,List.getElem?_eq_getElem hk⟩
   unfold gcdL at ih ⊢
   rw [ach _ _ hz]
   exact ao6 ih (h z (List.mem_of_getElem? hz))
  ·rw [List.take_of_length_le (by omega)]
   rwa [List.take_of_length_le (by omega)] at ih
set_option maxRecDepth 20000 in
set_option maxHeartbeats 16000000 in
set_option maxRecDepth 100000 in
theorem ahe (w:World) (v:Value) (zs:List Int) (L:Nat) (h:NRow w v zs (3*L)) (hn:zs.length≤100000) (hL:L≤100000) (hb0:∀ z ∈ zs,(z.natAbs:Int)<pw L) (h0:zs≠[]) :
  Calls Tryz.prog 45 #[v] w fun e w'=>∃ r,e=.returned r∧NRow w' r (red zs) (3*L)∧Below w.heap.size w w' := by
 obtain ⟨ar,cr,rfl,_⟩:=h.parts
 have hpos:0<zs.length:=List.length_pos_iff.2 h0
 have HR:=hide h
 have HBZ:=hide hb0
 obtain ⟨n,hnn⟩:∃ n,zs.length=n:=⟨_,rfl⟩
 rw [hnn] at HR hn hpos ⊢
 obtain ⟨b,off,har⟩:=HR.out.some hpos
 subst har
 have HN:=hide hnn
 have hba:=hAl w (.cells #[.bool false,.slice none 0 0] 83)
 have hna:=heap_alloc_new w (.cells #[.bool false,.slice none 0 0] 83)
 have HBA:=hide hba
 have HNA:=hide hna
 clear h h0 hb0 hnn hba hna
 obtain ⟨iN,hi',hz0',hz1',hz2'⟩:=info_parts infoN
 go_enter Tryz.func45,Tryz.ntmps45
 go_wp2_with fail
 generalize w.alloc (.cells #[.bool false,.slice none 0 0] 83)=wa at *
 go_loopw [4,5] (fun sv iv wr=>∃ (k:Nat),iv=.int .i64 k∧k≤n∧sv=.int .i64 (sgnL (zs.take k))∧Below w.heap.size w wr∧∃ ng a m c,wr.heap[w.heap.size]? = some (.cells #[.bool ng,.slice a m c] 83 (0,0))∧OutN (gcdL (zs.take k)) (3*L) (.agg #[.bool ng,.slice a m c]) wr) (fun _ iv _=>n - (intOf iv).toNat)
 case atStart=>exact ⟨0,rfl,Nat.zero_le _,rfl,HBA.out,false,none,0,0,HNA.out,aij _ _⟩
 case round =>
  obtain ⟨k,rfl,hk,rfl,hbw,ngg,ag,mg,cg,hgb,hgo⟩:=hrel
  have HW:=hide hbw
  have HRr:=hide (HR.out.below hbw)
  have HG:=hide hgo
  have HGB:=hide hgb
  obtain ⟨hgl,g0,g1,gf0,gf1⟩:=aao hgb
  by_cases hlt:k<n
  ·have hlt' : (k:Int)<(n:Int):=by omega
   obtain ⟨z,hz⟩:∃ z,zs[k]? = some z:=⟨_,List.getElem?_eq_getElem (by have:=HN.out;omega)⟩
   have HZ:=hide hz
   have hgs:gcdL (zs.take (k+1))=((Int.gcd (gcdL (zs.take k)) z:Nat):Int):=ach _ _ hz
   have hss:sgnL (zs.take (k+1))=if sgnL (zs.take k)=0 then Int.sign z else sgnL (zs.take k):=ach _ _ hz
   have HGS:=hide hgs
   have HSS:=hide hss
   have HFIT:Hid (((((Int.gcd (gcdL (zs.take k)) z:Nat):Int)).natAbs:Int)<pw L):=(show _<_ by rw [←hgs];exact atk (alt L) HBZ.out (k+1))
   obtain ⟨sk,hsk⟩:∃ s,sgnL (zs.take k)=s:=⟨_,rfl⟩
   have HSK:=hide hsk
   rw [hsk] at HSS ⊢
   clear hbw hgo hgb hz hgs hss hsk
   go_upto_region 6 with fail
   refine abz 6 [15,16,17,18,19,20] [(OutN (gcdL (zs.take k)) (3*L)),Eqs (.slice (some ⟨b,off,none⟩) n cr),Eqs (.int .i64 (k:Int)),Eqs (.pointer (some ⟨b,off+k*2,none⟩)),(OutN z (3*L)),(OutN (((Int.gcd (gcdL (zs.take k)) z:Nat):Int)) (3*L))] rfl rfl (by decide) (by kernel_rfl) (by kernel_rfl) (by decide) (by kernel_rfl) ⟨(Mono.of4 (OutN.mono4 _ _)),Eqs.mono _,Eqs.mono _,Eqs.mono _,(Mono.of4 (OutN.mono4 _ _)),(Mono.of4 (OutN.mono4 _ _)),trivial⟩ ?_ ?_
   ·exact ⟨⟨rfl,fun a_ w_ _ hB hR hD=>acc ((hR 3 rfl).trans (aab rfl)) ((hB.cell (p:=⟨w.heap.size,0,none⟩) hgl).trans g0) ((hB.cell (p:=⟨w.heap.size,0+1,none⟩) hgl).trans g1) (Mono.of4 (OutN.mono4 _ _) _ _ _ hB HG.out)⟩,
      ⟨rfl,fun a_ w_ _ hB hR hD=>aam ((hR 0 rfl).trans (aab rfl))⟩,
      ⟨rfl,fun a_ w_ _ hB hR hD=>aam ((hR 5 rfl).trans (aab rfl))⟩,
      ⟨rfl,fun a_ w_ _ hB hR hD=>acr (show a_.eval (.tmp 16)=.slice (some ⟨b,off,none⟩) n cr from hD 1 rfl) rfl (show a_.eval (.tmp 17)=.int .i64 (k:Int) from hD 2 rfl) (by omega)⟩,
      ⟨rfl,fun a_ w_ _ hB hR hD=>apl (show a_.eval (.tmp 18)=.pointer (some ⟨b,off+k*2,none⟩) from hD 3 rfl) rfl (HRr.out.below hB) HZ.out⟩,
      ⟨rfl,fun a_ w_ _ hB hR hD=>(as6 (L1:=3*L) (L2:=3*L) (show (OutN (gcdL (zs.take k)) (3*L)) (a_.eval (.tmp 15)) w_ from hD 0 rfl) (show (OutN z (3*L)) (a_.eval (.tmp 19)) w_ from hD 4 rfl) (by omega) (by omega)).mono (fun _ _ h_=>⟨h_.1,h_.2.fit HFIT.out⟩)⟩,
      trivial⟩
   ·intro a' w' hn' hd' hB' hR' hP'
    obtain ⟨u15,e15⟩:∃ u,a'.eval (.tmp 15)=u:=⟨_,rfl⟩
    have e16:a'.eval (.tmp 16)=.slice (some ⟨b,off,none⟩) n cr:=hP' 1 (by decide)
    have e17:a'.eval (.tmp 17)=.int .i64 (k:Int):=hP' 2 (by decide)
    have e18:a'.eval (.tmp 18)=.pointer (some ⟨b,off+k*2,none⟩):=hP' 3 (by decide)
    obtain ⟨u19,e19⟩:∃ u,a'.eval (.tmp 19)=u:=⟨_,rfl⟩
    obtain ⟨u20,e20⟩:∃ u,a'.eval (.tmp 20)=u:=⟨_,rfl⟩
    have hT:(OutN (((Int.gcd (gcdL (zs.take k)) z:Nat):Int)) (3*L)) (a'.eval (.tmp 20)) w' := hP' 5 (by decide)
    rw [e20] at hT
    refine abj hn' hd' hR' (.same rfl <| .same rfl <| .same rfl <| .same rfl <| .same rfl <| .same rfl <| .same rfl <| .same rfl <| .same rfl <| .same rfl <| .same rfl <| .same rfl <| .same rfl <| .same rfl <| .same rfl <| .new e15 <| .new e16 <| .new e17 <| .new e18 <| .new e19 <| .new e20 <| .same rfl <| .same rfl <| .same rfl <| .same rfl <| .same rfl <| .same rfl <| .same rfl <| .same rfl <| .same rfl <| .same rfl <| .same rfl <| .same rfl <| .same rfl <| .same rfl <| .same rfl <| .same rfl <| .same rfl <| .same rfl <| .same rfl <| .same rfl <| .same rfl <| .same rfl <| .same rfl <| .same rfl <| .same rfl <| .same rfl <| .same rfl <| .same rfl <| .same rfl <| .same rfl <| .same rfl <| .same rfl <| .same rfl <| .same rfl <| .same rfl <| .same rfl <| .same rfl <| .same rfl <| .same rfl <| .nil) ?_
    clear e15 e16 e17 e18 e19 e20
    obtain ⟨ng1,a1,m1,c1,rfl⟩:=hT.agg
    have hgb' := (hB'.block _ (aaa HGB.out)).trans HGB.out
    obtain ⟨_,c0',c1',f0,f1⟩:=aao hgb'
    obtain ⟨s1,s2,s3⟩:=avq ng1 a1 m1 c1 hgb'
    have HT:=hide (hT.rl s2)
    have HNB:=hide s1
    have HBW2:=hide ((HW.out.trans (hB'.mono HW.out.size)).trans (s3 _ (Nat.le_refl _)))
    clear hB' hR' hP' hn' hd' hT hgb' g0 g1 gf0 gf1 hgl s1 s2 s3
    by_cases hs0:sk=0
    ·have hs0' : (sk == 0)=true:=by simpa using hs0
     clear hs0
     go_upto_region 8 with fail
     generalize ((w'.setCell ⟨w.heap.size,0,none⟩ (.bool ng1)).setCell ⟨w.heap.size,1,none⟩ (.slice a1 m1 c1))=w2 at *
     obtain ⟨b5,o5,ngx,ax,mx,cx,hbb,hbl,x0,x1,hxo⟩:=(HR.out.below HBW2.out).cell HZ.out
     simp only [Option.some.injEq,Addr.mk.injEq,and_true] at hbb
     obtain ⟨rfl,rfl⟩:=hbb
     have K1:=hide (nsignF w2 z _ _ hxo)
     clear c0' c1' f0 f1 hxo
     go_wp2_with fail
     refine K1.out.mono ?_
     rintro e w3 ⟨rfl,hb3⟩
     have HB3:=hide (HBW2.out.trans (hb3.mono HBW2.out.size))
     have HT3:=hide (HT.out.rl (Rl.of_below hb3))
     have HN3:=hide ((hb3.block _ (aaa HNB.out)).trans HNB.out)
     clear hb3 K1 x0 x1 hbl
     go_wp2
     go_roundw
     case rel=>exact ⟨k+1,by go_num,by omega,by rw [HSS.out,if_pos (by simpa using hs0')],HB3.out,ng1,a1,m1,c1,HN3.out,by rw [HGS.out];exact HT3.out⟩
     case measure=>simp [intOf];omega
    ·have hs0' : (sk == 0)=false:=by simpa using hs0
     clear hs0
     go_wp2
     go_roundw
     case rel=>exact ⟨k+1,by go_num,by omega,by rw [HSS.out,if_neg (by simpa using hs0')],HBW2.out,ng1,a1,m1,c1,HNB.out,by rw [HGS.out];exact HT.out⟩
     case measure=>simp [intOf];omega
  ·have hlt' : decide ((k:Int)<(n:Int))=false:=by simp;omega
   obtain rfl:k=n:=by omega
   rw [List.take_of_length_le (by have:=HN.out;omega)] at HG ⊢
   clear hlt hbw hgo hgb
   have HZL:Hid ((red zs).length=k):=(show _ = _ by rw [red,List.length_map];exact HN.out)
   obtain ⟨sk,hsk⟩:∃ s,sgnL zs=s:=⟨_,rfl⟩
   have HSK:=hide hsk
   rw [hsk]
   clear hsk
   go_wp2_with (refine wpList_make_full _ rfl (.tmp 29) (.tmp 29) 76 rfl _ 83 iN (.agg #[.bool false,.slice none 0 0]) 2 Tryz.underlying76 hi' hz0' hz1' .i64 .i64 _ _ k rfl rfl (by omega) (by omega) (by rw [hz2'];omega) (by unfold maxLen;omega) (Nat.le_refl _) ?hK)
   case hK =>
    intro w1 hown hgrow
    have hb1:Below wr.heap.size wr w1:=(Below.refl _ _).grown hgrow (Nat.le_refl _) (by simp)
    obtain ⟨_,hmb⟩:=aha hown
    rw [ajy] at hmb
    obtain ⟨bv,hbv⟩:∃ bv,wr.heap.size=bv:=⟨_,rfl⟩
    have HBV:Hid (w.heap.size<bv):=(show w.heap.size<bv by rw [←hbv];exact hgl)
    rw [hbv] at hmb ⊢
    have HP0:=hide (PZ.start (zs:=red zs) (L:=3*L) hmb)
    have HB1:=hide (HW.out.trans (hb1.mono HW.out.size))
    have HG1:=hide ((hb1.block _ hgl).trans HGB.out)
    have HGO1:=hide (HG.out.rl (Rl.of_below hb1))
    clear hown hgrow hb1 hmb hbv g0 g1 gf0 gf1 hgl HRr HW HGB HG
    go_wp2_with fail
    go_loopw [7] (fun iv wr=>∃ (j:Nat),iv=.int .i64 j∧j≤k∧Below w.heap.size w wr∧PZ wr bv k j (red zs) (3*L)∧wr.heap[w.heap.size]? = some (.cells #[.bool ngg,.slice ag mg cg] 83 (0,0))∧OutN (gcdL zs) (3*L) (.agg #[.bool ngg,.slice ag mg cg]) wr) (fun iv _=>k - (intOf iv).toNat)
    case atStart=>exact ⟨0,rfl,Nat.zero_le _,HB1.out,HP0.out,HG1.out,HGO1.out⟩
    case round =>
     obtain ⟨j,rfl,hj,hbw,hp,hgb,hgo⟩:=hrel
     have HW:=hide hbw
     have HP:=hide hp
     have HGB:=hide hgb
     have HG:=hide hgo
     obtain ⟨hgl,g0,g1,gf0,gf1⟩:=aao hgb
     by_cases hlt:j<k
     ·have hlt' : (j:Int)<(k:Int):=by omega
      obtain ⟨z,hz⟩:∃ z,zs[j]? = some z:=⟨_,List.getElem?_eq_getElem (by have:=HN.out;omega)⟩
      have HZ:=hide hz
      have HRD:Hid ((red zs)[j]? = some (z / dvs zs)):=(show _ = _ by rw [red,List.getElem?_map,hz];rfl)
      have K1:=hide (nsignF wr _ _ _ hgo)
      clear hbw hp hgb hgo hz
      by_cases hg0:gcdL zs=0
      ·have hall:∀ y ∈ zs,y=0:=fun y hy=>by have:=ae8 y hy;rw [hg0] at this;exact Int.zero_dvd.1 this
       have hsg:=ape hall
       have hsk:=HSK.out
       rw [hsg] at hsk
       subst hsk
       have hzd:z / dvs zs=0:=by rw [hall z (List.mem_of_getElem? HZ.out)];exact Int.zero_ediv _
       rw [hzd] at HRD
       rw [hg0] at K1
       clear hall hsg hzd hg0
       go_wp2_with fail
       refine K1.out.mono ?_
       rintro e w2 ⟨rfl,hb2⟩
       have HB2:=hide (HW.out.trans (hb2.mono HW.out.size))
       have HP2:=hide ((HP.out.below hb2).zero HRD.out)
       have HG2:=hide (HG.out.rl (Rl.of_below hb2))
       have HGB2:=hide ((hb2.block _ hgl).trans HGB.out)
       clear hb2 K1 g0 g1 gf0 gf1 hgl
       go_wp2
       go_roundw
       case rel=>exact ⟨j+1,by go_num,by omega,HB2.out,HP2.out,HGB2.out,HG2.out⟩
       case measure=>simp [intOf];omega
      ·have hgp:0<gcdL zs:=by have:=aei zs;omega
       rw [Int.sign_eq_one_of_pos hgp] at K1
       have HNE:Hid (gcdL zs≠0):=hg0
       have HOV:Hid (ov z (gcdL zs)=z / gcdL zs):=arc hgp (ae8 z (List.mem_of_getElem? HZ.out))
       clear hg0 hgp
       go_wp2_with fail
       refine K1.out.mono ?_
       rintro e w2 ⟨rfl,hb2⟩
       have HW2:=hide (HW.out.trans (hb2.mono HW.out.size))
       have HPw:=hide (HP.out.below hb2)
       have HRr:=hide (HR.out.below HW2.out)
       have HGB2:=hide ((hb2.block _ hgl).trans HGB.out)
       have HG2:=hide (HG.out.rl (Rl.of_below hb2))
       clear hb2 K1 g0 g1 gf0 gf1 hgl
       obtain ⟨hgl,g0,g1,gf0,gf1⟩:=aao HGB2.out
       go_upto_region 14 with fail
       refine abz 8 [40,41,42,43,44,45,46,47] [Eqs (.slice (some ⟨bv,0,none⟩) k k),Eqs (.int .i64 (j:Int)),Eqs (.slice (some ⟨b,off,none⟩) k cr),Eqs (.int .i64 (j:Int)),Eqs (.pointer (some ⟨b,off+j*2,none⟩)),(OutN z (3*L)),(OutN (gcdL zs) (3*L)),(OutN (z / gcdL zs) (3*L))] rfl rfl (by decide) (by kernel_rfl) (by kernel_rfl) (by decide) (by kernel_rfl) ⟨Eqs.mono _,Eqs.mono _,Eqs.mono _,Eqs.mono _,Eqs.mono _,(Mono.of4 (OutN.mono4 _ _)),(Mono.of4 (OutN.mono4 _ _)),(Mono.of4 (OutN.mono4 _ _)),trivial⟩ ?_ ?_
       ·exact ⟨⟨rfl,fun a_ w_ _ hB hR hD=>aam ((hR 6 rfl).trans (aab rfl))⟩,
          ⟨rfl,fun a_ w_ _ hB hR hD=>aam ((hR 7 rfl).trans (aab rfl))⟩,
          ⟨rfl,fun a_ w_ _ hB hR hD=>aam ((hR 0 rfl).trans (aab rfl))⟩,
          ⟨rfl,fun a_ w_ _ hB hR hD=>aam ((hR 7 rfl).trans (aab rfl))⟩,
          ⟨rfl,fun a_ w_ _ hB hR hD=>acr (show a_.eval (.tmp 42)=.slice (some ⟨b,off,none⟩) k cr from hD 2 rfl) rfl (show a_.eval (.tmp 43)=.int .i64 (j:Int) from hD 3 rfl) (by omega)⟩,
          ⟨rfl,fun a_ w_ _ hB hR hD=>apl (show a_.eval (.tmp 44)=.pointer (some ⟨b,off+j*2,none⟩) from hD 4 rfl) rfl (HRr.out.below hB) HZ.out⟩,
          ⟨rfl,fun a_ w_ _ hB hR hD=>acc ((hR 3 rfl).trans (aab rfl)) ((hB.cell (p:=⟨w.heap.size,0,none⟩) hgl).trans g0) ((hB.cell (p:=⟨w.heap.size,0+1,none⟩) hgl).trans g1) (Mono.of4 (OutN.mono4 _ _) _ _ _ hB HG2.out)⟩,
          ⟨rfl,fun a_ w_ _ hB hR hD=>(ard (Bx:=3*L) (By:=3*L) (show (OutN z (3*L)) (a_.eval (.tmp 45)) w_ from hD 5 rfl) (show (OutN (gcdL zs) (3*L)) (a_.eval (.tmp 46)) w_ from hD 6 rfl) (by omega) (by omega) HNE.out).mono (fun _ _ h_=>⟨h_.1,h_.2.to HOV.out (Nat.le_refl _)⟩)⟩,
          trivial⟩
       ·intro a' w' hn' hd' hB' hR' hP'
        have e40:a'.eval (.tmp 40)=.slice (some ⟨bv,0,none⟩) k k:=hP' 0 (by decide)
        have e41:a'.eval (.tmp 41)=.int .i64 (j:Int):=hP' 1 (by decide)
        have e42:a'.eval (.tmp 42)=.slice (some ⟨b,off,none⟩) k cr:=hP' 2 (by decide)
        have e43:a'.eval (.tmp 43)=.int .i64 (j:Int):=hP' 3 (by decide)
        have e44:a'.eval (.tmp 44)=.pointer (some ⟨b,off+j*2,none⟩):=hP' 4 (by decide)
        obtain ⟨u45,e45⟩:∃ u,a'.eval (.tmp 45)=u:=⟨_,rfl⟩
        obtain ⟨u46,e46⟩:∃ u,a'.eval (.tmp 46)=u:=⟨_,rfl⟩
        obtain ⟨u47,e47⟩:∃ u,a'.eval (.tmp 47)=u:=⟨_,rfl⟩
        have hT:(OutN (z / gcdL zs) (3*L)) (a'.eval (.tmp 47)) w' := hP' 7 (by decide)
        rw [e47] at hT
        refine abj hn' hd' hR' (.same rfl <| .same rfl <| .same rfl <| .same rfl <| .same rfl <| .same rfl <| .same rfl <| .same rfl <| .same rfl <| .same rfl <| .same rfl <| .same rfl <| .same rfl <| .same rfl <| .same rfl <| .same rfl <| .same rfl <| .same rfl <| .same rfl <| .same rfl <| .same rfl <| .same rfl <| .same rfl <| .same rfl <| .same rfl <| .same rfl <| .same rfl <| .same rfl <| .same rfl <| .same rfl <| .same rfl <| .same rfl <| .same rfl <| .same rfl <| .same rfl <| .same rfl <| .same rfl <| .same rfl <| .same rfl <| .same rfl <| .new e40 <| .new e41 <| .new e42 <| .new e43 <| .new e44 <| .new e45 <| .new e46 <| .new e47 <| .same rfl <| .same rfl <| .same rfl <| .same rfl <| .same rfl <| .same rfl <| .same rfl <| .same rfl <| .same rfl <| .same rfl <| .same rfl <| .same rfl <| .nil) ?_
        clear e40 e41 e42 e43 e44 e45 e46 e47
        obtain ⟨ng1,a1,m1,c1,rfl⟩:=hT.agg
        obtain ⟨⟨ngq,aq,mq,cq,c0',c1'⟩,f0,f1⟩:=(HPw.out.below hB').pn.cells (k:=j) (by omega)
        have hbv:=HBV.out
        by_cases hs:sk<0
        ·have hs' : decide (sk<0)=true:=by simpa using hs
         have hset:((red zs).set j (z / gcdL zs))[j]? = some (z / gcdL zs):=by rw [List.getElem?_set_self (by have:=HZL.out;omega)]
         obtain ⟨hp2,hbl⟩:=(show PZ w2 bv k j ((red zs).set j (z / gcdL zs)) (3*L) from by obtain ⟨es,q1,q2,q3,q4⟩:=HPw.out;exact ⟨es,q1,q2,fun i e y hi he hy=>q3 i e y hi he (by rwa [List.getElem?_set_ne (by omega)] at hy),q4⟩).put hB' (by omega) hset hT
         have HP3:=hide hp2
         have HW3:=hide (HW2.out.trans (hbl w.heap.size (by omega) HW2.out.size))
         have hgl3:=hbl (w.heap.size+1) (by omega) (by omega)
         have HGB3:=hide ((hgl3.block _ (by omega)).trans HGB2.out)
         have HG3:=hide (HG2.out.rl ((Rl.of_below hB').trans (show Rl w' ((w'.setCell ⟨bv,j*2,none⟩ (.bool ng1)).setCell ⟨bv,j*2+1,none⟩ (.slice a1 m1 c1)) by obtain ⟨es,q1,q2,_⟩:=HPw.out;obtain ⟨W,hW,_,hr,_⟩:=nset (ng:=ng1) (a:=a1) (m:=m1) (c:=c1) (i:=j) ((hB'.block bv HPw.out.pn.lt).trans q2) (by omega);rw [←hW];exact hr)))
         have HT3:Hid (z / dvs zs = -(z / gcdL zs)):=(show _ = _ by rw [dvs,if_pos (by rw [HSK.out];exact hs),Int.ediv_neg])
         clear hB' hR' hP' hn' hd' hT hset hp2 hbl hgl3 g0 g1 gf0 gf1 hgl hs
         go_upto_region 16 with fail
         generalize ((w'.setCell ⟨bv,j*2,none⟩ (.bool ng1)).setCell ⟨bv,j*2+1,none⟩ (.slice a1 m1 c1))=w3 at *
         obtain ⟨ngd,ad,md,cd,d0,d1,hd⟩:=HP3.out.pn.at (k:=j) (by omega) (by omega) (by rw [List.getElem?_set_self (by have:=HZL.out;omega)])
         rw [Nat.zero_add] at d0 d1
         have K2:=hide (nminusF w3 _ _ _ hd (by omega))
         clear c0' c1' f0 f1 hd
         go_wp2_with fail
         refine K2.out.mono ?_
         rintro e w4 ⟨r4,rfl,hr4,hb4⟩
         obtain ⟨ng4,a4,m4,c4,rfl⟩:=hr4.agg
         obtain ⟨⟨ngq,aq,mq,cq,c0',c1'⟩,f0,f1⟩:=(HP3.out.below hb4).pn.cells (k:=j) (by omega)
         rw [←HT3.out] at hr4
         obtain ⟨hp5,hbl⟩:=HP3.out.over hb4 (by omega) HRD.out hr4
         have HP5:=hide hp5
         have HW5:=hide (HW3.out.trans (hbl w.heap.size (by omega) HW3.out.size))
         have hl3:=aaa HGB3.out
         have hgl5:=hbl (w.heap.size+1) (by omega) (by omega)
         have HGB5:=hide ((hgl5.block _ (by omega)).trans HGB3.out)
         have HG5:=hide (HG3.out.rl ((Rl.of_below hb4).trans (show Rl w4 ((w4.setCell ⟨bv,j*2,none⟩ (.bool ng4)).setCell ⟨bv,j*2+1,none⟩ (.slice a4 m4 c4)) by obtain ⟨es,q1,q2,_⟩:=HP3.out;obtain ⟨W,hW,_,hr,_⟩:=nset (ng:=ng4) (a:=a4) (m:=m4) (c:=c4) (i:=j) ((hb4.block bv HP3.out.pn.lt).trans q2) (by omega);rw [←hW];exact hr)))
         clear d0 d1 hr4 hb4 hp5 hbl hl3 hgl5 K2
         go_wp2
         go_roundw
         case rel=>exact ⟨j+1,by go_num,by omega,HW5.out,HP5.out,HGB5.out,HG5.out⟩
         case measure=>simp [intOf];omega
        ·have hs' : decide (sk<0)=false:=by simpa using hs
         have HT3:Hid (z / dvs zs=z / gcdL zs):=(show _ = _ by rw [dvs,if_neg (by rw [HSK.out];exact hs)])
         rw [←HT3.out] at hT
         obtain ⟨hp2,hbl⟩:=HPw.out.put hB' (by omega) HRD.out hT
         have HP3:=hide hp2
         have HW3:=hide (HW2.out.trans (hbl w.heap.size (by omega) HW2.out.size))
         have hgl3:=hbl (w.heap.size+1) (by omega) (by omega)
         have HGB3:=hide ((hgl3.block _ (by omega)).trans HGB2.out)
         have HG3:=hide (HG2.out.rl ((Rl.of_below hB').trans (show Rl w' ((w'.setCell ⟨bv,j*2,none⟩ (.bool ng1)).setCell ⟨bv,j*2+1,none⟩ (.slice a1 m1 c1)) by obtain ⟨es,q1,q2,_⟩:=HPw.out;obtain ⟨W,hW,_,hr,_⟩:=nset (ng:=ng1) (a:=a1) (m:=m1) (c:=c1) (i:=j) ((hB'.block bv HPw.out.pn.lt).trans q2) (by omega);rw [←hW];exact hr)))
         clear hB' hR' hP' hn' hd' hT hp2 hbl hgl3 g0 g1 gf0 gf1 hgl hs
         go_wp2
         go_roundw
         case rel=>exact ⟨j+1,by go_num,by omega,HW3.out,HP3.out,HGB3.out,HG3.out⟩
         case measure=>simp [intOf];omega
     ·have hlt' : decide ((j:Int)<(k:Int))=false:=by simp;omega
      obtain rfl:j=k:=by omega
      clear hlt hbw hp hgb hgo g0 g1 gf0 gf1 hgl
      go_wp2
      refine bodyPost_ret (v:=_) (acu rfl rfl) rfl ⟨_,rfl,HP.out.pn.nrow HZL.out (by omega),HW.out⟩
def OneN (z:Int) (L:Nat):Says:=fun v w=>∃ g ng a m c,v=.slice (some ⟨g,0,none⟩) 1 1∧w.heap[g]? = some (.cells #[.bool ng,.slice a m c] 83 (0,0))∧OutN z L (.agg #[.bool ng,.slice a m c]) w
theorem OneN.mono (z:Int) (L:Nat):Mono (OneN z L):=fun _ _ _ hb ⟨g,ng,a,m,c,e,h,o⟩=>⟨g,ng,a,m,c,e,(hb.block g (aaa h)).trans h,o.rl (Rl.of_below hb)⟩
section
variable {dst:Option Tmp} {ty:TypeId} {pos:String} {after:Array Edge} {guard:Option (Nat × Bool)} {a:Act} {w:World} {ats:Array TypeId} {i j:Nat}
theorem atl {z:Int} {L:Nat} (h:OutN z L (a.eval (.tmp i)) w) :
  Does Tryz.prog { dst,op:=.buildSlice 76 1 #[(0,.tmp i)],type:=ty,pos,after,guard } a.eval w fun v w'=>Below w.heap.size w w'∧OneN z L v w' := by
 obtain ⟨ng,ao,n,c,e⟩:=h.agg
 rw [e] at h
 have hb:=hAl w (.cells #[.bool ng,.slice ao n c] 83)
 refine act (v:=.slice (some ⟨w.heap.size,0,none⟩) 1 1) (w' := w.alloc (.cells #[.bool ng,.slice ao n c] 83)) ?_ ⟨hb,_,_,_,_,_,rfl,heap_alloc_new _ _,h.rl (Rl.of_below hb)⟩
 simp only [List.map_toArray,List.map_cons,List.map_nil,e]
 go_simp
end
def joinZ (p:Int) (us:List Int) (q:Int) (ys:List Int):List Int:=List.zipWith (fun x y=>p*x - q*y) us ys
set_option maxRecDepth 20000 in
set_option maxHeartbeats 16000000 in
set_option maxRecDepth 100000 in
theorem anf (w:World) (p q:Int) (us ys:List Int) (vp va vq vb:Value) (M N:Nat) (hp:OutN p (3*M) vp w) (ha:NRow w va us (3*M)) (hq:OutN q (3*M) vq w) (hb:NRow w vb ys (3*M)) (hab:us.length=ys.length) (hn:us.length≤100000) (hM:M≤60000) (hN:N≤100000) (hne:us≠[]) (hz:∀ z ∈ joinZ p us q ys,(z.natAbs:Int)<pw N) :
  Calls Tryz.prog 47 #[vp,va,vq,vb] w fun e w'=>∃ r,e=.returned r∧NRow w' r (red (joinZ p us q ys)) (3*N)∧Below w.heap.size w w' := by
 obtain ⟨aa,ca,rfl,_⟩:=ha.parts
 obtain ⟨ab,cb,rfl,_⟩:=hb.parts
 obtain ⟨ngp,ap,np,cp,rfl⟩:=hp.agg
 obtain ⟨ngq,aq,nq,cq,rfl⟩:=hq.agg
 have hpos:0<us.length:=List.length_pos_iff.2 hne
 obtain ⟨ba,oa,_,_,_,_,haa,-⟩:=ha.cell (k:=0) (List.getElem?_eq_getElem hpos)
 subst haa
 obtain ⟨bb,ob,_,_,_,_,hbb,-⟩:=hb.cell (k:=0) (List.getElem?_eq_getElem (by omega))
 subst hbb
 obtain ⟨n,hnn⟩:∃ n,us.length=n:=⟨_,rfl⟩
 have hnb:ys.length=n:=by omega
 have hA:=hAl w (.cells #[.bool ngp,.slice ap np cp] 83)
 have hA' := hAl (w.alloc (.cells #[.bool ngp,.slice ap np cp] 83)) (.cells #[.bool ngq,.slice aq nq cq] 83)
 have h4:=heap_alloc_new w (.cells #[.bool ngp,.slice ap np cp] 83)
 have h6:=heap_alloc_new (w.alloc (.cells #[.bool ngp,.slice ap np cp] 83)) (.cells #[.bool ngq,.slice aq nq cq] 83)
 rw [show (w.alloc (.cells #[.bool ngp,.slice ap np cp] 83)).heap.size=w.heap.size+1 from Array.size_push ..] at h6
 have h4' := (hA'.block _ (aaa h4)).trans h4
 have hBB:=hA.trans (hA'.mono hA.size)
 have HP:=hide (hp.rl (Rl.of_below hBB))
 have HQ:=hide (hq.rl (Rl.of_below hBB))
 have HA:=hide (ha.below hBB)
 have HB:=hide (hb.below hBB)
 have HBB:=hide hBB
 rw [hnn] at HA hn hpos ⊢
 rw [hnb] at HB ⊢
 have HNA:=hide hnn
 have HNB:=hide hnb
 have HZ:=hide hz
 have HNE:=hide hne
 have H4:=hide h4'
 have H6:=hide h6
 clear hp ha hq hb hab hnn hnb hne hz hA hA' h4 h6 h4' hBB
 go_enter Tryz.func47,Tryz.ntmps47
 go_wp2_with fail
 generalize ew:(w.alloc (.cells #[.bool ngp,.slice ap np cp] 83)).alloc (.cells #[.bool ngq,.slice aq nq cq] 83)=wa at *
 clear ew
 go_loopw [9,10] (fun ov iv wr=>∃ (k:Nat) (fs:List WE),iv=.int .i64 k∧k≤n∧Below wa.heap.size wa wr∧RnO wa.heap.size wr ov fs ((joinZ p us q ys).take k) (3*N)) (fun _ iv _=>n - (intOf iv).toNat)
 case atStart=>exact ⟨0,[],rfl,Nat.zero_le _,Below.refl _ _,al0 _ _ _⟩
 case round =>
  obtain ⟨k,fs,rfl,hk,hbw,hown⟩:=hrel
  obtain ⟨aov,capv,hov,_⟩:=Cl.own hown.own
  subst hov
  have HW:=hide hbw
  have HOWN:=hide hown
  by_cases hlt:k<n
  ·have hlt' : (k:Int)<(n:Int):=by omega
   obtain ⟨x,hx⟩:∃ x,us[k]? = some x:=⟨_,List.getElem?_eq_getElem (by have:=HNA.out;omega)⟩
   obtain ⟨y,hy⟩:∃ y,ys[k]? = some y:=⟨_,List.getElem?_eq_getElem (by have:=HNB.out;omega)⟩
   have hzk:(joinZ p us q ys)[k]? = some (p*x - q*y):=by unfold joinZ;rw [List.getElem?_zipWith,hx,hy]
   have HZK:=hide hzk
   have HFIT:Hid (((p*x - q*y).natAbs:Int)<pw N):=HZ.out _ (List.mem_of_getElem? hzk)
   obtain ⟨ba',oa',_,_,_,_,e1,hbla,xa0,xa1,hxv⟩:=(HA.out.below hbw).cell hx
   obtain ⟨rfl,rfl⟩:ba=ba'∧oa=oa' := by simpa using e1
   obtain ⟨bb',ob',_,_,_,_,e2,hblb,xb0,xb1,hyv⟩:=(HB.out.below hbw).cell hy
   obtain ⟨rfl,rfl⟩:bb=bb'∧ob=ob' := by simpa using e2
   have HX:=hide hxv
   have HY:=hide hyv
   obtain ⟨hl4,c40,c41,_,_⟩:=aao ((hbw.block _ (aaa H4.out)).trans H4.out)
   obtain ⟨hl6,c60,c61,_,_⟩:=aao ((hbw.block _ (aaa H6.out)).trans H6.out)
   have HP:=hide (HP.out.rl (Rl.of_below hbw))
   have HQ:=hide (HQ.out.rl (Rl.of_below hbw))
   clear hbw hown hx hy hzk e1 e2 hxv hyv
   go_upto_region 5 with fail
   refine acv 15 [17,18,19,20,21,22,23,24,25,26,27,28,29,30,31] [Eqs (.slice aov fs.length capv),(OutN (p) (3*M)),Eqs (.slice (some ⟨ba,oa,none⟩) n ca),Eqs (.int .i64 (k:Int)),Eqs (.pointer (some ⟨ba,oa+k*2,none⟩)),(OutN (x) (3*M)),(OutN (p*x) (3*M+3*M+1)),(OutN (q) (3*M)),Eqs (.slice (some ⟨bb,ob,none⟩) n cb),Eqs (.int .i64 (k:Int)),Eqs (.pointer (some ⟨bb,ob+k*2,none⟩)),(OutN (y) (3*M)),(OutN (q*y) (3*M+3*M+1)),(OutN (p*x - q*y) (3*N)),(OneN (p*x - q*y) (3*N))] rfl rfl (by decide) (by kernel_rfl) (by kernel_rfl) (by decide) (by kernel_rfl) ⟨Eqs.mono _,(Mono.of4 (OutN.mono4 _ _)),Eqs.mono _,Eqs.mono _,Eqs.mono _,(Mono.of4 (OutN.mono4 _ _)),(Mono.of4 (OutN.mono4 _ _)),(Mono.of4 (OutN.mono4 _ _)),Eqs.mono _,Eqs.mono _,Eqs.mono _,(Mono.of4 (OutN.mono4 _ _)),(Mono.of4 (OutN.mono4 _ _)),(Mono.of4 (OutN.mono4 _ _)),(OneN.mono _ _),trivial⟩ ?_ ?_
   ·exact ⟨⟨rfl,fun a_ w_ _ hB hR hD=>aam ((hR 9 rfl).trans (aab rfl))⟩,
      ⟨rfl,fun a_ w_ _ hB hR hD=>acc ((hR 4 rfl).trans (aab rfl)) ((hB.cell (p:=⟨w.heap.size,0,none⟩) hl4).trans c40) ((hB.cell (p:=⟨w.heap.size,0+1,none⟩) hl4).trans c41) (Mono.of4 (OutN.mono4 _ _) _ _ _ hB HP.out)⟩,
      ⟨rfl,fun a_ w_ _ hB hR hD=>aam ((hR 1 rfl).trans (aab rfl))⟩,
      ⟨rfl,fun a_ w_ _ hB hR hD=>aam ((hR 10 rfl).trans (aab rfl))⟩,
      ⟨rfl,fun a_ w_ _ hB hR hD=>acr (show a_.eval (.tmp 19)=.slice (some ⟨ba,oa,none⟩) n ca from hD 2 rfl) rfl (show a_.eval (.tmp 20)=.int .i64 (k:Int) from hD 3 rfl) (by omega)⟩,
      ⟨rfl,fun a_ w_ _ hB hR hD=>acc (show a_.eval (.tmp 21)=.pointer (some ⟨ba,oa+k*2,none⟩) from hD 4 rfl) ((hB.cell (p:=⟨ba,oa+k*2,none⟩) hbla).trans xa0) ((hB.cell (p:=⟨ba,oa+k*2+1,none⟩) hbla).trans xa1) (Mono.of4 (OutN.mono4 _ _) _ _ _ hB HX.out)⟩,
      ⟨rfl,fun a_ w_ _ hB hR hD=>alr (L1:=3*M) (L2:=3*M) (show (OutN (p) (3*M)) (a_.eval (.tmp 18)) w_ from hD 1 rfl) (show (OutN (x) (3*M)) (a_.eval (.tmp 22)) w_ from hD 5 rfl) (by omega) (by omega)⟩,
      ⟨rfl,fun a_ w_ _ hB hR hD=>acc ((hR 6 rfl).trans (aab rfl)) ((hB.cell (p:=⟨w.heap.size+1,0,none⟩) hl6).trans c60) ((hB.cell (p:=⟨w.heap.size+1,0+1,none⟩) hl6).trans c61) (Mono.of4 (OutN.mono4 _ _) _ _ _ hB HQ.out)⟩,
      ⟨rfl,fun a_ w_ _ hB hR hD=>aam ((hR 3 rfl).trans (aab rfl))⟩,
      ⟨rfl,fun a_ w_ _ hB hR hD=>aam ((hR 10 rfl).trans (aab rfl))⟩,
      ⟨rfl,fun a_ w_ _ hB hR hD=>acr (show a_.eval (.tmp 25)=.slice (some ⟨bb,ob,none⟩) n cb from hD 8 rfl) rfl (show a_.eval (.tmp 26)=.int .i64 (k:Int) from hD 9 rfl) (by omega)⟩,
      ⟨rfl,fun a_ w_ _ hB hR hD=>acc (show a_.eval (.tmp 27)=.pointer (some ⟨bb,ob+k*2,none⟩) from hD 10 rfl) ((hB.cell (p:=⟨bb,ob+k*2,none⟩) hblb).trans xb0) ((hB.cell (p:=⟨bb,ob+k*2+1,none⟩) hblb).trans xb1) (Mono.of4 (OutN.mono4 _ _) _ _ _ hB HY.out)⟩,
      ⟨rfl,fun a_ w_ _ hB hR hD=>alr (L1:=3*M) (L2:=3*M) (show (OutN (q) (3*M)) (a_.eval (.tmp 24)) w_ from hD 7 rfl) (show (OutN (y) (3*M)) (a_.eval (.tmp 28)) w_ from hD 11 rfl) (by omega) (by omega)⟩,
      ⟨rfl,fun a_ w_ _ hB hR hD=>(as7 (L1:=3*M+3*M+1) (L2:=3*M+3*M+1) (show (OutN (p*x) (3*M+3*M+1)) (a_.eval (.tmp 23)) w_ from hD 6 rfl) (show (OutN (q*y) (3*M+3*M+1)) (a_.eval (.tmp 29)) w_ from hD 12 rfl) (by omega) (by omega)).mono (fun _ _ h_=>⟨h_.1,h_.2.fit HFIT.out⟩)⟩,
      ⟨rfl,fun a_ w_ _ hB hR hD=>atl (show (OutN (p*x - q*y) (3*N)) (a_.eval (.tmp 30)) w_ from hD 13 rfl)⟩,
      trivial⟩
   ·intro a' w' hn' hd' hB' hR' hP'
    have e17:a'.eval (.tmp 17)=.slice aov fs.length capv:=hP' 0 (by decide)
    obtain ⟨u18,e18⟩:∃ u,a'.eval (.tmp 18)=u:=⟨_,rfl⟩
    have e19:a'.eval (.tmp 19)=.slice (some ⟨ba,oa,none⟩) n ca:=hP' 2 (by decide)
    have e20:a'.eval (.tmp 20)=.int .i64 (k:Int):=hP' 3 (by decide)
    have e21:a'.eval (.tmp 21)=.pointer (some ⟨ba,oa+k*2,none⟩):=hP' 4 (by decide)
    obtain ⟨u22,e22⟩:∃ u,a'.eval (.tmp 22)=u:=⟨_,rfl⟩
    obtain ⟨u23,e23⟩:∃ u,a'.eval (.tmp 23)=u:=⟨_,rfl⟩
    obtain ⟨u24,e24⟩:∃ u,a'.eval (.tmp 24)=u:=⟨_,rfl⟩
    have e25:a'.eval (.tmp 25)=.slice (some ⟨bb,ob,none⟩) n cb:=hP' 8 (by decide)
    have e26:a'.eval (.tmp 26)=.int .i64 (k:Int):=hP' 9 (by decide)
    have e27:a'.eval (.tmp 27)=.pointer (some ⟨bb,ob+k*2,none⟩):=hP' 10 (by decide)
    obtain ⟨u28,e28⟩:∃ u,a'.eval (.tmp 28)=u:=⟨_,rfl⟩
    obtain ⟨u29,e29⟩:∃ u,a'.eval (.tmp 29)=u:=⟨_,rfl⟩
    obtain ⟨u30,e30⟩:∃ u,a'.eval (.tmp 30)=u:=⟨_,rfl⟩
    obtain ⟨u31,e31⟩:∃ u,a'.eval (.tmp 31)=u:=⟨_,rfl⟩
    have hT:(OneN (p*x - q*y) (3*N)) (a'.eval (.tmp 31)) w' := hP' 14 (by decide)
    rw [e31] at hT
    refine abj hn' hd' hR' (.s16 rfl <| .same rfl <| .new e17 <| .new e18 <| .new e19 <| .new e20 <| .new e21 <| .new e22 <| .new e23 <| .new e24 <| .new e25 <| .new e26 <| .new e27 <| .new e28 <| .new e29 <| .new e30 <| .new e31 <| .same rfl <| .same rfl <| .same rfl <| .nil) ?_
    clear e17 e18 e19 e20 e21 e22 e23 e24 e25 e26 e27 e28 e29 e30 e31
    obtain ⟨gN,ng1,a1,m1,c1,rfl,hO2,hS2⟩:=hT
    have hR2:=HOWN.out.below hB'
    have hsz:wa.heap.size≤w'.heap.size:=Nat.le_trans HW.out.size hB'.size
    have hfl:fs.length≤1000000:=by rw [HOWN.out.len,List.length_take];omega
    have HJB:=hide (HW.out.trans (hB'.mono HW.out.size))
    clear hR' hP' hn' hd' hB' xa0 xa1 xb0 xb1 hbla hblb c40 c41 c60 c61 hl4 hl6
    refine abe rfl (al1 (i:=17) (j:=31) rfl rfl hR2 hO2 hS2 hfl hsz) ?_
    rintro v3 w3 ⟨hR3,hb3⟩
    obtain ⟨aov3,capv3,hov3,_⟩:=Cl.own hR3.own
    subst hov3
    have HR3:=hide hR3
    have HB3:=hide (HJB.out.trans hb3)
    clear hR3 hb3 hR2 hO2 hS2 hsz hfl
    go_wp2
    go_roundw
    case rel=>exact ⟨k+1,fs ++ [⟨ng1,a1,m1,c1,[]⟩],by go_num,by omega,HB3.out,by have h:=HR3.out;rw [List.length_append] at h;rw [List.take_add_one,HZK.out];exact h⟩
    case measure=>simp [intOf];omega
  ·have hlt' : decide ((k:Int)<(n:Int))=false:=by simp;omega
   obtain rfl:k=n:=by omega
   have hjl:(joinZ p us q ys).length=k:=by unfold joinZ;rw [List.length_zipWith];have:=HNA.out;have:=HNB.out;omega
   have hall:(joinZ p us q ys).take k=joinZ p us q ys:=List.take_of_length_le (by omega)
   have hNR:NRow wr (.slice aov fs.length capv) (joinZ p us q ys) (3*N):=by have:=HOWN.out.nrow;rwa [hall] at this
   have hne2:joinZ p us q ys≠[]:=fun e=>by rw [e] at hjl;simp at hjl;omega
   have K9:=hide (ahe wr _ (joinZ p us q ys) N hNR (by omega) hN HZ.out hne2)
   have HBJ:=hide (HBB.out.trans (HW.out.mono HBB.out.size))
   clear hbw hown hall hNR hne2 hjl
   go_wp2_with fail
   refine K9.out.mono ?_
   rintro e w9 ⟨r9,rfl,h9,hb9⟩
   obtain ⟨a9,c9,hv9,_⟩:=id h9.parts
   subst hv9
   have H9:=hide h9
   have HB9:=hide (HBJ.out.trans (hb9.mono HBJ.out.size))
   clear h9 hb9 K9
   go_wp2
   refine bodyPost_ret (v:=_) (acu rfl rfl) rfl ⟨_,rfl,H9.out,HB9.out⟩
def isB:Value→Bool
 | .bool _=>true
 | _=>false
def NoB (w:World) (v:Value):Prop:=∀ g cs T,v.ownBlock=some g→w.heap[g]? = some (.cells cs T (0,0))→∀ x ∈ cs.toList,isB x=false
theorem NoB.below {w w' : World} {v:Value} (h:NoB w v) (hl:∀ k,v.ownBlock=some k→k<w.heap.size) (hb:Below w.heap.size w w'):NoB w' v:=fun g cs T hg hh=>h g cs T hg ((hb.block g (hl g hg)).symm.trans hh)
theorem aj7 {z:Array Value} (hz:∀ x ∈ z.toList,isB x=false) (n:Nat):∀ x ∈ (Builtin.zeroCells z n).toList,isB x=false:=by
 intro x hx
 simp only [Builtin.zeroCells,Array.toList_map,List.mem_map] at hx
 obtain ⟨j,hj,rfl⟩:=hx
 by_cases h:j % z.size<z.size
 ·rw [getElem!_pos z _ h]
  exact hz _ (by simp)
 ·exfalso
  have h0:z.size=0:=Classical.byContradiction fun h1=>h (Nat.mod_lt _ (by omega))
  rw [h0,Nat.mul_zero] at hj
  simp at hj
theorem atm {P:Program} (w:World) (base:Nat) (t ty e:TypeId) (i:TypeInfo) (z:Value) (bytes:Nat) (ht:P.underlying t=some (.slice e)) (hi:P.info? e=some i) (hz:i.zero=some z) (hby:i.bytes=bytes) (_hsz:0<i.size)
  (v:Value) (n:Nat) (xs:List Value) (hown:w.ownsRow base e i.size v n xs) (a:Addr) (c:Nat) (news:List Value) (hl:news.length=i.size) (hnews:∀ j u,news[j]? = some u→w.cell? (a.add j)=some u) (h1:∀ u ∈ news,u.oneCell' = true)
  (h63:n+1≤maxLen) (hbytes:(n+1)*bytes≤140737488355328) (hI:NoB w v) (hN:∀ u ∈ news,isB u=false) (hZ:∀ u ∈ z.cells.toList,isB u=false) {v' : Value} {w' : World} (hr:(Builtin.append_ #[t,t] ty #[v,.slice (some a) 1 c]).run P w=.ok v' w'):NoB w' v' := by
 subst hby
 have hl' : news.length=1*i.size:=by omega
 have hsmall:n+1≤9223372036854775807:=by simp only [maxLen] at h63;omega
 rcases hown.2 with ⟨rfl,rfl⟩ | ⟨g,cap,cur,rfl,hbg,hg,hnc,hcm,hcs,htake⟩
 ·have hr' := run_append_nil (P:=P) w t ty e i z ht hi hz a 1 c news hl' hnews (by omega) (by omega) (by omega)
  rw [hr] at hr'
  injection hr' with e1 e2
  subst e1 e2
  intro g cs T hg hh x hx
  simp only [Value.ownBlock,Option.some.injEq] at hg
  subst hg
  rw [show (w.drew.alloc (Obj.cells (news.toArray ++ Builtin.zeroCells z.cells (grownCap w 1 0 e - 1)) e)).heap[w.heap.size]? = _ from heap_alloc_new w.drew _] at hh
  injection hh with hh
  injection hh with hh
  subst hh
  simp only [Array.toList_append,List.mem_append] at hx
  rcases hx with hx | hx
  ·exact hN x hx
  ·exact aj7 hZ _ x hx
 ·have hcur:=hI g cur e rfl hg
  by_cases hroom:n+1≤cap
  ·have hfit:n*i.size+news.length≤cur.size:=by rw [hl',hcs,←Nat.add_mul];exact Nat.mul_le_mul_right _ hroom
   have hr' := run_append_room (P:=P) w t ty e i ht hi g n cap cur hg a 1 c news hl' hnews h1 hroom hfit
   rw [hr] at hr'
   injection hr' with e1 e2
   subst e1 e2
   intro g' cs T hg' hh x hx
   simp only [Value.ownBlock,Option.some.injEq] at hg'
   subst hg'
   rw [setRow_heap w g cur _ e _ hg] at hh
   injection hh with hh
   injection hh with hh
   subst hh
   simp only [List.mem_append] at hx
   rcases hx with (hx | hx) | hx
   ·exact hcur x (List.mem_of_mem_take hx)
   ·exact hN x hx
   ·exact hcur x (List.mem_of_mem_drop hx)
  ·have hr' := run_append_grow (P:=P) w t ty e i z ht hi hz ⟨g,0,none⟩ n cap xs hown.1 (hown.cells (g:=g) rfl) a 1 c news hl' hnews (by omega) (by omega) (growslice_fits (by omega) hbytes)
   rw [hr] at hr'
   injection hr' with e1 e2
   subst e1 e2
   intro g' cs T hg' hh x hx
   simp only [Value.ownBlock,Option.some.injEq] at hg'
   subst hg'
   rw [show (w.drew.alloc (Obj.cells (xs.toArray ++ news.toArray ++ Builtin.zeroCells z.cells (grownCap w (n+1) cap e - (n+1))) e)).heap[w.heap.size]? = _ from heap_alloc_new w.drew _] at hh
   injection hh with hh
   injection hh with hh
   subst hh
   simp only [Array.toList_append,List.mem_append] at hx
   rcases hx with (hx | hx) | hx
   ·rw [←htake] at hx
    exact hcur x (List.mem_of_mem_take hx)
   ·exact hN x hx
   ·exact aj7 hZ _ x hx
theorem aik:∀ (es:List WE) (u:Value),u ∈ flat es→u.oneCell' = true
 | [],_,hu=>by cases hu
 | e :: es,u,hu=>by
  simp only [flat,List.mem_cons] at hu
  rcases hu with rfl | rfl | hu
  ·rfl
  ·rfl
  ·exact aik es u hu
def NM (w:World) (v:Value) (rows:List (List Int)) (L:Nat):Prop:=∃ vs:List Value,Ce w v 1 rows.length vs∧∀ (i:Nat) (u:Value) (z:List Int),vs[i]? = some u→rows[i]? = some z→NRow w u z L
theorem arf {w w' : World} {g:Nat} {cs:Array Value} (hg:w.heap[g]? = some (.cells cs 76 (0,0))) (hI:∀ x ∈ cs.toList,isI x=false) (hs:w.heap.size≤w'.heap.size) (hk:∀ k,k<w.heap.size→k≠g→w'.heap[k]? = w.heap[k]?):Rl w w' := by
 refine ⟨hs,fun p k z e=>?_,fun k cs T hT e=>?_⟩
 ·rw [World.cell?_of_block (w:=w) (hk p.block (acl e) fun hb=>?_)]
  ·exact e
  ·obtain ⟨pb,po,pm⟩:=p
   simp only at hb
   subst hb
   simp only [World.cell?,hg] at e
   cases pm with
   | some m=>simp at e
   | none =>
    have hm:=hI (.int k z) (Array.mem_toList_iff.2 (Array.mem_of_getElem? (i:=po) (by simpa using e)))
    exact absurd hm (by simp [isI])
 ·refine (hk k (aaa e) fun hb=>?_).trans e
  subst hb
  rw [hg] at e
  injection e with e
  injection e with _ e _
  rcases hT with rfl | rfl
  ·exact absurd e (by decide)
  ·exact absurd e (by decide)
theorem NRow.other {w w' : World} {u:Value} {zs:List Int} {L g:Nat} {cs:Array Value} (h:NRow w u zs L) (hg:w.heap[g]? = Option.some (.cells cs 76 (0,0))) (hI:∀ x ∈ cs.toList,isI x=false) (hB:∀ x ∈ cs.toList,isB x=false) (hs:w.heap.size≤w'.heap.size) (hk:∀ k,k<w.heap.size→k≠g→w'.heap[k]? = w.heap[k]?):NRow w' u zs L:=by
 obtain ⟨fs,⟨ao,cap,rfl,h1,h2,h3,h4⟩,h5,h6⟩:=h
 refine ⟨fs,⟨ao,cap,rfl,h1,h2,h3,?_⟩,h5,fun k f z hf hz=>(h6 k f z hf hz).rl (arf hg hI hs hk)⟩
 rcases h4 with h4 | ⟨b,off,rfl,hl,hc⟩
 ·exact .inl h4
 ·by_cases h0:fs.length=0
  ·exact .inl h0
  ·obtain ⟨f,hf⟩:∃ f,fs[0]? = Option.some f:=⟨_,List.getElem?_eq_getElem (by omega)⟩
   have c0:=hc _ _ (abf hf).1
   have hne:b≠g:=fun e=>by
    subst e
    simp only [World.cell?,hg] at c0
    have:=hB (.bool f.ng) (Array.mem_toList_iff.2 (Array.mem_of_getElem? (i:=off+0*2) (by simpa using c0)))
    exact absurd this (by simp [isB])
   exact .inr ⟨b,off,rfl,Nat.lt_of_lt_of_le hl hs,fun j u hu=>by
    rw [World.cell?_of_block (w:=w) (hk b hl hne)]
    exact hc j u hu⟩
structure RmO (B:Nat) (w:World) (v:Value) (vs:List Value) (rows:List (List Int)) (L:Nat):Prop where
 own:w.ownsRow B 76 1 v vs.length vs
 noi:NoI w v
 nob:NoB w v
 len:vs.length=rows.length
 out:∀ (k:Nat) (u:Value) (z:List Int),vs[k]? = some u→rows[k]? = some z→NRow w u z L
theorem RmO.below {B:Nat} {w w' : World} {v:Value} {vs:List Value} {rows:List (List Int)} {L:Nat} (h:RmO B w v vs rows L) (hb:Below w.heap.size w w'):RmO B w' v vs rows L :=
 ⟨h.own.kept (row:=none) ⟨hb.os,hb.tape,hb.output,hb.size,fun k hk _=>hb.block k hk⟩ (by cases hv:v.ownBlock <;> simp),h.noi.below (fun k hk=>(h.own.lt k hk).2) hb,h.nob.below (fun k hk=>(h.own.lt k hk).2) hb,h.len,fun k u z hu hz=>(h.out k u z hu hz).below hb⟩
theorem al2 (B:Nat) (w:World) (L:Nat):RmO B w (.slice none 0 0) [] [] L:=⟨World.ownsRow_nil w B _ 1,fun g cs T hg=>by simp [Value.ownBlock] at hg,fun g cs T hg=>by simp [Value.ownBlock] at hg,rfl,fun k f z hf=>by simp at hf⟩
theorem RmO.nm {B:Nat} {w:World} {v:Value} {vs:List Value} {rows:List (List Int)} {L:Nat} (h:RmO B w v vs rows L):NM w v rows L:=⟨vs,by rw [←h.len];exact Ce.own h.own,h.out⟩
section
variable {dst:Option Tmp} {ty:TypeId} {pos:String} {after:Array Edge} {guard:Option (Nat × Bool)} {a:Act} {w:World} {ats:Array TypeId} {i j:Nat}
theorem infoSn:(Tryz.prog.info? 76).map (fun i=>(i.zero,i.size,i.bytes))=some (some (.slice none 0 0),1,24):=by kernel_rfl
theorem al3 {B g:Nat} {v:Value} {vs:List Value} {rows:List (List Int)} {L:Nat} {z:List Int} {u:Value} (h1:a.eval (.tmp i)=v) (h2:a.eval (.tmp j)=.slice (some ⟨g,0,none⟩) 1 1) (R:RmO B w v vs rows L) (O:w.heap[g]? = some (.cells #[u] 76 (0,0))) (S:NRow w u z L) (hn:vs.length≤1000000) (hB:B≤w.heap.size) :
  Does Tryz.prog { dst,op:=.call { callee:=.builtin .append,args:=#[.tmp i,.tmp j],argTypes:=#[53,53] },type:=ty,pos,after,guard } a.eval w fun v' w'=>RmO B w' v' (vs ++ [u]) (rows ++ [z]) L∧Below B w w' := by
 obtain ⟨i0,hi,hz0,hz1,hz2⟩:=info_parts infoSn
 obtain ⟨ua,uc,hu,_⟩:=S.parts
 have hcl:∀ (k:Nat) (x:Value),[u][k]? = some x→w.cell? ((⟨g,0,none⟩:Addr).add k)=some x:=fun k x hx=>by
  have hc:∀ k,w.cell? ⟨g,k,none⟩ = #[u][k]? := fun k=>cell_of_row w g k _ _ (0,0) O
  have ha:(⟨g,0,none⟩:Addr).add k=⟨g,k,none⟩:=by unfold Addr.add;split <;> simp_all
  rw [ha,hc]
  simpa using hx
 have h1c:∀ x ∈ [u],x.oneCell' = true:=fun x hx=>by obtain rfl:=List.mem_singleton.1 hx;rw [hu];rfl
 obtain ⟨v',w',hr,ho,hgr,_⟩:=run_append_own (P:=Tryz.prog) w B 53 ty 76 i0 _ 1 24 Tryz.underlying53 hi hz0 hz1 hz2 rfl (by decide) v vs.length vs R.own ⟨g,0,none⟩ 1 1 [u] rfl hcl h1c (by simp [maxLen];omega) (by omega) hB
 have e:(execOp a.eval { dst,op:=.call { callee:=.builtin .append,args:=#[.tmp i,.tmp j],argTypes:=#[53,53] },type:=ty,pos,after,guard }).run Tryz.prog w=.ok (.value v') w' := by
  simp only [execOp,resolve,invoke,builtin,Sem.run_bind,Sem.run_pure,Result.andThen_ok,List.map_toArray,List.map_cons,List.map_nil,h1,h2,hr]
 refine ⟨?_⟩
 unfold Turns
 rw [e]
 have hkeep:∀ {x:Value} {y:List Int},NRow w x y L→NRow w' x y L:=fun {x y} hx=>by
  rcases R.own.2 with ⟨rfl,_⟩ | ⟨g',cap,cur,rfl,_,hh,h5,h6,h7,h8⟩
  ·exact hx.below ⟨hgr.os,hgr.tape,hgr.output,hgr.size,fun k hk=>hgr.block k hk (by simp [Value.ownBlock])⟩
  ·exact hx.other hh (R.noi _ cur _ rfl hh) (R.nob _ cur _ rfl hh) hgr.size (fun k hk hne=>hgr.block k hk (by simp [Value.ownBlock];exact fun h=>hne h))
 have hown:=R.own
 rw [←hz1] at hown
 have hni:NoI w' v' := alz (P:=Tryz.prog) w B 53 ty 76 i0 _ 24 Tryz.underlying53 hi hz0 hz2 (by omega) v vs.length vs hown ⟨g,0,none⟩ 1 [u] (by rw [hz1];rfl) hcl h1c (by simp [maxLen];omega) (by omega) R.noi (by rw [hu];simp [isI]) (by simp [Value.cells,isI]) hr
 have hnb:NoB w' v' := atm (P:=Tryz.prog) w B 53 ty 76 i0 _ 24 Tryz.underlying53 hi hz0 hz2 (by omega) v vs.length vs hown ⟨g,0,none⟩ 1 [u] (by rw [hz1];rfl) hcl h1c (by simp [maxLen];omega) (by omega) R.nob (by rw [hu];simp [isB]) (by simp [Value.cells,isB]) hr
 refine ⟨⟨by rw [List.length_append];exact ho,hni,hnb,by simp [R.len],fun k x y hx hy=>?_⟩,⟨hgr.os,hgr.tape,hgr.output,hgr.size,fun k hk=>hgr.block k (by omega) (fun e=>?_)⟩⟩
 ·by_cases hk:k<vs.length
  ·rw [List.getElem?_append_left hk] at hx
   rw [List.getElem?_append_left (by rw [←R.len];exact hk)] at hy
   exact hkeep (R.out k x y hx hy)
  ·have hkl:=(List.getElem?_eq_some_iff.1 hx).1
   simp at hkl
   obtain rfl:k=vs.length:=by omega
   rw [List.getElem?_append_right (Nat.le_refl _)] at hx
   rw [List.getElem?_append_right (by rw [R.len];exact Nat.le_refl _)] at hy
   simp [R.len] at hx hy
   subst hx hy
   exact hkeep S
 ·have:=R.own.lt k e.symm
  omega
theorem aj8 {m c0:Nat} {a0:Option Addr} {zs:List Int} {L:Nat} (h:a.eval (.tmp i)=.slice a0 m c0) (hR:NRow w (.slice a0 m c0) zs L) (hm:m≤1000000) :
  Does Tryz.prog { dst,op:=.call { callee:=.builtin .append,args:=#[.const (.slice none 0 0),.tmp i],argTypes:=#[76,76] },type:=ty,pos,after,guard } a.eval w fun v w'=>NRow w' v zs L∧Below w.heap.size w w' := by
 obtain ⟨iW,hi,hz0,hz1,hz2⟩:=info_parts infoN
 obtain ⟨fs,hC,hl,ho⟩:=hR
 obtain ⟨ao',cap',hv,h1,h2,h3,h4⟩:=hC
 obtain ⟨rfl,hme,rfl⟩:=(Value.slice.injEq .. ▸ hv)
 have h0:a.eval (.const (.slice none 0 0))=.slice none 0 0:=rfl
 have key:∃ v' w',(Builtin.append_ #[76,76] ty #[.slice none 0 0,.slice a0 m c0]).run Tryz.prog w=.ok v' w'∧w'.ownsRow w.heap.size 83 2 v' m (flat fs)∧Below w.heap.size w w' := by
  cases a0 with
  | none =>
   have hm0:fs.length=0:=by
    rcases h4 with h4 | ⟨b,off,e,_⟩
    ·exact h4
    ·cases e
   obtain rfl:fs = []:=List.length_eq_zero_iff.1 hm0
   obtain rfl:m=0:=hme
   exact ⟨.slice none 0 0,w,by simp [Builtin.append_,run_underlying Tryz.underlying76,sizeOf,typeInfo,hi,Builtin.lenOf,Builtin.firstCells],World.ownsRow_nil _ _ _ _,Below.refl _ _⟩
  | some ad =>
   obtain ⟨v',w',hr,ho,hgr,_⟩:=run_append_own (P:=Tryz.prog) w w.heap.size 76 ty 83 iW _ 2 32 Tryz.underlying76 hi hz0 hz1 hz2 rfl (by decide) (.slice none 0 0) 0 [] (World.ownsRow_nil _ _ _ _) ad m c0 (flat fs) (by rw [abd];omega) (fun j u hu=>by
    rcases h4 with h4 | ⟨b,off,e,_,hc⟩
    ·rw [List.getElem?_eq_none (by rw [abd];omega)] at hu;cases hu
    ·obtain rfl:=Option.some.inj e
     rw [Addr.add_lit]
     exact hc j u hu) (aik fs) (by simp [maxLen];omega) (by omega) (Nat.le_refl _)
   exact ⟨v',w',hr,by simpa using ho,(Below.refl _ _).grown hgr (Nat.le_refl _) (fun k hk=>by cases hk)⟩
 obtain ⟨v',w',hr,how,hb⟩:=key
 have e:(execOp a.eval { dst,op:=.call { callee:=.builtin .append,args:=#[.const (.slice none 0 0),.tmp i],argTypes:=#[76,76] },type:=ty,pos,after,guard }).run Tryz.prog w=.ok (.value v') w' := by
  simp only [execOp,resolve,invoke,builtin,Sem.run_bind,Sem.run_pure,Result.andThen_ok,List.map_toArray,List.map_cons,List.map_nil,h,h0,hr]
 refine ⟨?_⟩
 unfold Turns
 rw [e]
 exact ⟨⟨fs,by rw [←hme];exact Cl.own how,hl,fun k f z hf hz=>(ho k f z hf hz).rl (Rl.of_below hb)⟩,hb⟩
end
theorem NM.below {w w' : World} {v:Value} {rows:List (List Int)} {L:Nat} (h:NM w v rows L) (hb:Below w.heap.size w w'):NM w' v rows L:=by
 obtain ⟨vs,h1,h2⟩:=h
 exact ⟨vs,h1.below hb,fun i u z hu hz=>(h2 i u z hu hz).below hb⟩
theorem NM.parts {w:World} {v:Value} {rows:List (List Int)} {L:Nat} (h:NM w v rows L):∃ ao cap,v=.slice ao rows.length cap∧rows.length≤9223372036854775807:=by
 obtain ⟨vs,⟨ao,cap,rfl,h1,h2,_⟩,_⟩:=h
 exact ⟨ao,cap,rfl,by omega⟩
theorem NM.cell {w:World} {ao:Option Addr} {n cap:Nat} {rows:List (List Int)} {L k:Nat} {z:List Int} (h:NM w (.slice ao n cap) rows L) (hz:rows[k]? = some z):∃ b off u,ao=some ⟨b,off,none⟩∧b<w.heap.size∧w.cell? ⟨b,off+k,none⟩ = some u∧NRow w u z L:=by
 obtain ⟨vs,⟨ao',cap',hv,h1,h2,h3,h4⟩,h6⟩:=h
 obtain ⟨rfl,hn,rfl⟩:=(Value.slice.injEq .. ▸ hv)
 have hk:=(List.getElem?_eq_some_iff.1 hz).1
 obtain ⟨u,hu⟩:∃ u,vs[k]? = some u:=⟨_,List.getElem?_eq_getElem (by omega)⟩
 rcases h4 with h4 | ⟨b,off,rfl,hb,hc⟩
 ·omega
 ·exact ⟨b,off,u,rfl,hb,hc k u hu,h6 k u z hu hz⟩
set_option maxRecDepth 20000 in
set_option maxHeartbeats 8000000 in
set_option maxRecDepth 100000 in
theorem ang (w:World) (v:Value) (rows:List (List Int)) (L:Nat) (h:NM w v rows L) (hl:rows.length≤100000) (hr:∀ r ∈ rows,r.length≤1000000) :
  Calls Tryz.prog 44 #[v] w fun e w'=>∃ r vs,e=.returned r∧RmO w.heap.size w' r vs rows L∧Below w.heap.size w w' := by
 obtain ⟨ao,cap,rfl,_⟩:=h.parts
 have H:=hide h
 have HR:=hide hr
 clear h hr
 obtain ⟨n,hn⟩:∃ n,rows.length=n:=⟨_,rfl⟩
 rw [hn] at H hl ⊢
 have HN:=hide hn
 clear hn
 go_enter Tryz.func44,Tryz.ntmps44
 go_wp2_with fail
 go_loopw [3,4] (fun ov iv wr=>∃ (k:Nat) (vs:List Value),iv=.int .i64 k∧k≤n∧Below w.heap.size w wr∧RmO w.heap.size wr ov vs (rows.take k) L) (fun _ iv _=>n - (intOf iv).toNat)
 case atStart=>exact ⟨0,[],rfl,Nat.zero_le _,Below.refl _ _,al2 _ _ _⟩
 case round =>
  obtain ⟨k,vs,rfl,hk,hbw,hown⟩:=hrel
  have HW:=hide hbw
  have HOWN:=hide hown
  obtain ⟨aov,capv,hov,-⟩:=Ce.own hown.own
  subst hov
  by_cases hlt:k<n
  ·obtain ⟨z,hz⟩:∃ z,rows[k]? = some z:=⟨_,List.getElem?_eq_getElem (by have:=HN.out;omega)⟩
   obtain ⟨b,off,u,rfl,hbl,x0,hu⟩:=(H.out.below hbw).cell hz
   obtain ⟨ua,uc,rfl,_⟩:=id hu.parts
   have HZ:=hide hz
   have hm:z.length≤1000000:=HR.out z (List.mem_of_getElem? hz)
   obtain ⟨m,hzm⟩:∃ m,z.length=m:=⟨_,rfl⟩
   rw [hzm] at hm hu x0
   have HU:=hide hu
   have hlt' : (k:Int)<(n:Int):=by omega
   clear hbw hown hz hu hzm
   go_wp2_with (at_builtin;refine abe rfl (aj8 (i:=15) rfl HU.out hm) ?_)
   intro v2 w2 hR2 hb2
   have HR2:=hide hR2
   obtain ⟨a2,c2,rfl,_⟩:=id hR2.parts
   have hA:=hAl w2 (.cells #[.slice a2 z.length c2] 76)
   have hO:=heap_alloc_new w2 (.cells #[.slice a2 z.length c2] 76)
   have hb2' := hb2.trans (hA.mono hb2.size)
   have hRm:=HOWN.out.below hb2'
   have hS:=hR2.below hA
   have hsz:w.heap.size≤(w2.alloc (.cells #[.slice a2 z.length c2] 76)).heap.size:=Nat.le_trans HW.out.size hb2'.size
   have hfl:vs.length≤1000000:=by rw [HOWN.out.len,List.length_take];omega
   go_wp2_with (at_builtin;refine abe rfl (al3 (i:=11) (j:=17) rfl rfl hRm hO hS hfl hsz) ?_)
   intro v3 w3 hR3 hb3
   obtain ⟨aov3,capv3,hov3,-⟩:=Ce.own hR3.own
   subst hov3
   have HR3:=hide hR3
   have HB3:=hide ((HW.out.trans (hb2'.mono HW.out.size)).trans hb3)
   clear hR3 hb3 hR2 hO hRm hS hsz hA hb2 hb2' hfl
   go_wp2
   go_roundw
   case rel =>
    refine ⟨k+1,vs ++ [.slice a2 z.length c2],by go_num,by omega,HB3.out,?_⟩
    rw [List.take_add_one,HZ.out]
    exact HR3.out
   case measure=>simp [intOf];omega
  ·have hlt' : decide ((k:Int)<(n:Int))=false:=by simp;omega
   have hkn:k=n:=by omega
   subst hkn
   clear hbw hown
   go_wp2
   refine bodyPost_ret (v:=_) (acu rfl rfl) rfl ⟨_,vs,rfl,(by have h:=HOWN.out;rw [List.take_of_length_le (by have:=HN.out;omega)] at h;exact h),HW.out⟩
theorem apn {zs:List Int} (h:Dm.Canon zs) (hne:zs≠[]):zs.getD (zs.length - 1) 0≠0:=fun h0=>by
 have hp:=List.length_pos_iff.2 hne
 have h1:=h.2
 have h2:=Dm.abq (zs:=zs) (n:=zs.length - 1) (by omega) h0
 omega
structure Ap (w w' : World) (g:Option Nat) (n:Nat):Prop where
 size:w.heap.size≤w'.heap.size
 other:∀ k,k<w.heap.size→some k≠g→w'.heap[k]? = w.heap[k]?
 first:∀ g0,g=some g0→∃ cur cur',w.heap[g0]? = some (.cells cur 3 (0,0))∧w'.heap[g0]? = some (.cells cur' 3 (0,0))∧(∀ j,j<n→cur'[j]? = cur[j]?)∧(∀ j x,n≤j→cur[j]? = some x→x=.int .i64 0)∧∀ x ∈ cur.toList,isI x=true
theorem OutN.ap {z:Int} {L:Nat} {v:Value} {w w' : World} {g:Option Nat} {n:Nat} (h:OutN z L v w) (ha:Ap w w' g n):OutN z L v w' := by
 obtain ⟨ng,ao,cap,rs,rfl,⟨⟨hS,hC,hv⟩,hng⟩,l⟩:=h
 refine ⟨ng,ao,cap,rs,rfl,⟨⟨?_,hC,hv⟩,hng⟩,l⟩
 obtain ⟨ao',cap',e,h1,h2,h3,h4⟩:=hS
 refine ⟨ao',cap',e,h1,h2,h3,?_⟩
 rcases h4 with h4 | ⟨b,off,rfl,hc⟩
 ·exact .inl h4
 ·by_cases hne:rs = []
  ·exact .inl hne
  ·refine .inr ⟨b,off,rfl,fun i hi=>?_⟩
   have hci:=hc i hi
   by_cases hg:g=some b
   ·obtain ⟨cur,cur',c1,c2,c3,c4,_⟩:=ha.first b hg
    have hp:=List.length_pos_iff.2 hne
    have htop:=hc (rs.length - 1) (by omega)
    rw [cell_of_row w b _ _ _ (0,0) c1] at htop hci
    have hlt:off+(rs.length - 1)<n:=Classical.byContradiction fun hn=>by
     have:=c4 _ _ (by omega) htop
     injection this with _ this
     exact apn hC hne this
    rw [cell_of_row w' b _ _ _ (0,0) c2,c3 _ (by omega)]
    exact hci
   ·rw [World.cell?_of_block (w:=w) (ha.other b (acl hci) (fun h=>hg h.symm))]
    exact hci
theorem NRow.ap {w w' : World} {u:Value} {zs:List Int} {L:Nat} {g:Option Nat} {n:Nat} (h:NRow w u zs L) (ha:Ap w w' g n):NRow w' u zs L:=by
 obtain ⟨fs,⟨ao,cap,rfl,h1,h2,h3,h4⟩,h5,h6⟩:=h
 refine ⟨fs,⟨ao,cap,rfl,h1,h2,h3,?_⟩,h5,fun k f z hf hz=>(h6 k f z hf hz).ap ha⟩
 rcases h4 with h4 | ⟨b,off,rfl,hl,hc⟩
 ·exact .inl h4
 ·by_cases h0:fs.length=0
  ·exact .inl h0
  ·obtain ⟨f,hf⟩:∃ f,fs[0]? = Option.some f:=⟨_,List.getElem?_eq_getElem (by omega)⟩
   have c0:=hc _ _ (abf hf).1
   have hne:Option.some b≠g:=fun e=>by
    obtain ⟨cur,cur',c1,c2,c3,c4,c5⟩:=ha.first b e.symm
    rw [cell_of_row w b _ _ _ (0,0) c1] at c0
    have:=c5 (.bool f.ng) (Array.mem_toList_iff.2 (Array.mem_of_getElem? c0))
    exact absurd this (by simp [isI])
   exact .inr ⟨b,off,rfl,Nat.lt_of_lt_of_le hl ha.size,fun j u hu=>by
    rw [World.cell?_of_block (w:=w) (ha.other b hl hne)]
    exact hc j u hu⟩
theorem RmO.ap {B:Nat} {w w' : World} {v:Value} {vs:List Value} {rows:List (List Int)} {L:Nat} {g:Option Nat} {n:Nat} (h:RmO B w v vs rows L) (ha:Ap w w' g n):RmO B w' v vs rows L:=by
 have hout:∀ (k:Nat) (u:Value) (z:List Int),vs[k]? = some u→rows[k]? = some z→NRow w' u z L:=fun k u z hu hz=>(h.out k u z hu hz).ap ha
 obtain ⟨o1,o2 | ⟨b,cap,cur,rfl,o3,o4,o5,o6,o7,o8⟩⟩:=h.own
 ·obtain ⟨rfl,o2⟩:=o2
  exact ⟨⟨o1,.inl ⟨rfl,o2⟩⟩,fun g cs T hg=>by simp [Value.ownBlock] at hg,fun g cs T hg=>by simp [Value.ownBlock] at hg,h.len,hout⟩
 ·have hb:w'.heap[b]? = some (.cells cur 76 (0,0)):=by
   rw [ha.other b (aaa o4) (fun e=>?_)]
   ·exact o4
   ·obtain ⟨c,c',c1,_⟩:=ha.first b e.symm
    rw [o4] at c1
    injection c1 with c1
    injection c1 with _ c1
    exact absurd c1 (by decide)
  refine ⟨⟨o1,.inr ⟨b,cap,cur,rfl,o3,hb,o5,o6,o7,o8⟩⟩,fun g cs T hg hh=>?_,fun g cs T hg hh=>?_,h.len,hout⟩
  ·simp only [Value.ownBlock,Option.some.injEq] at hg
   subst hg
   rw [hb] at hh
   exact h.noi _ cs T rfl (by rw [o4];exact hh)
  ·simp only [Value.ownBlock,Option.some.injEq] at hg
   subst hg
   rw [hb] at hh
   exact h.nob _ cs T rfl (by rw [o4];exact hh)
def cellsOf:Option Obj→Array Value
 | some (.cells c _ _)=>c
 | _=>#[]
theorem ad5 {c c' : Array Value} {T T' : TypeId} {f f' : Nat × Nat} (h:some (Obj.cells c T f)=some (Obj.cells c' T' f')):c=c' := congrArg cellsOf h
structure Iv (B:Nat) (w:World) (v:Value) (xs:List Int):Prop where
 own:w.ownsRow B 3 1 v xs.length (xs.map (Value.int .i64))
 spare:∀ g cs,v.ownBlock=some g→w.heap[g]? = some (.cells cs 3 (0,0))→∀ j x,xs.length≤j→cs[j]? = some x→x=.int .i64 0
theorem au6 (B:Nat) (w:World):Iv B w (.slice none 0 0) []:=⟨World.ownsRow_nil _ _ _ _,fun g cs hg=>by simp [Value.ownBlock] at hg⟩
theorem Iv.keep {B:Nat} {w w' : World} {v:Value} {xs:List Int} (h:Iv B w v xs) (hk:∀ k,v.ownBlock=some k→w'.heap[k]? = w.heap[k]?):Iv B w' v xs:=by
 refine ⟨?_,fun g cs hg hh=>h.spare g cs hg (by rw [←hk g hg];exact hh)⟩
 obtain ⟨o1,o2 | ⟨b,cap,cur,rfl,o3,o4,o5⟩⟩:=h.own
 ·exact ⟨o1,.inl o2⟩
 ·exact ⟨o1,.inr ⟨b,cap,cur,rfl,o3,(hk b rfl).trans o4,o5⟩⟩
theorem Iv.below {B:Nat} {w w' : World} {v:Value} {xs:List Int} (h:Iv B w v xs) (hb:Below w.heap.size w w'):Iv B w' v xs:=h.keep fun k hk=>hb.block k (h.own.lt k hk).2
theorem ahf (n j:Nat) (x:Value) (h:(Builtin.zeroCells (Value.int .i64 0).cells n)[j]? = some x):x=.int .i64 0:=by
 have hx:=Array.mem_of_getElem? h
 simp only [Builtin.zeroCells,Array.mem_map] at hx
 obtain ⟨k,_,rfl⟩:=hx
 simp [Value.cells,Nat.mod_one]
theorem infoI:(Tryz.prog.info? 3).map (fun i=>(i.zero,i.size,i.bytes))=some (some (.int .i64 0),1,8):=by kernel_rfl
theorem au7 {B g:Nat} {w:World} {v:Value} {xs:List Int} {c:Int} {ty:TypeId} (R:Iv B w v xs) (O:w.heap[g]? = some (.cells #[.int .i64 c] 3 (0,0))) (hn:xs.length≤1000000) (hB:B≤w.heap.size) :
  ∃ v' w',(Builtin.append_ #[54,54] ty #[v,.slice (some ⟨g,0,none⟩) 1 1]).run Tryz.prog w=.ok v' w'∧Iv B w' v' (xs ++ [c])∧Below B w w'∧Ap w w' v.ownBlock xs.length:=by
 obtain ⟨i0,hi,hz0,hz1,hz2⟩:=info_parts infoI
 have hcl:∀ (k:Nat) (x:Value),[Value.int .i64 c][k]? = some x→w.cell? ((⟨g,0,none⟩:Addr).add k)=some x:=fun k x hx=>by
  have hc:∀ k,w.cell? ⟨g,k,none⟩ = #[Value.int .i64 c][k]? := fun k=>cell_of_row w g k _ _ (0,0) O
  have ha:(⟨g,0,none⟩:Addr).add k=⟨g,k,none⟩:=by unfold Addr.add;split <;> simp_all
  rw [ha,hc]
  simpa using hx
 have h1c:∀ x ∈ [Value.int .i64 c],x.oneCell' = true:=fun x hx=>by obtain rfl:=List.mem_singleton.1 hx;rfl
 obtain ⟨v',w',hr,ho,hgr,_⟩:=run_append_own (P:=Tryz.prog) w B 54 ty 3 i0 _ 1 8 Tryz.underlying54 hi hz0 hz1 hz2 rfl (by decide) v xs.length (xs.map (Value.int .i64)) R.own ⟨g,0,none⟩ 1 1 [.int .i64 c] rfl hcl h1c (by simp [maxLen];omega) (by omega) hB
 have hown' : w'.ownsRow B 3 1 v' (xs ++ [c]).length ((xs ++ [c]).map (Value.int .i64)):=by rw [List.length_append,List.map_append];exact ho
 have hbel:Below B w w' := ⟨hgr.os,hgr.tape,hgr.output,hgr.size,fun k hk=>hgr.block k (by omega) (fun e=>by have:=R.own.lt k e.symm;omega)⟩
 have hl1 : [Value.int .i64 c].length=1*i0.size:=by rw [hz1];rfl
 refine ⟨v',w',hr,?_⟩
 rcases R.own.2 with ⟨rfl,hx0⟩ | ⟨b,cap,cur,rfl,hbg,hg,hnc,hcm,hcs,htake⟩
 ·have hr' := run_append_nil (P:=Tryz.prog) w 54 ty 3 i0 _ Tryz.underlying54 hi hz0 ⟨g,0,none⟩ 1 1 [.int .i64 c] hl1 hcl (by omega) (by omega) (by omega)
  rw [hr] at hr'
  injection hr' with e1 e2
  subst e1 e2
  refine ⟨⟨hown',fun g' cs hg' hh j x hj hx=>?_⟩,hbel,hgr.size,fun k hk hne=>hgr.block k hk hne,fun g0 h0=>by simp [Value.ownBlock] at h0⟩
  simp only [Value.ownBlock,Option.some.injEq] at hg'
  subst hg'
  rw [show (w.drew.alloc (Obj.cells ([Value.int .i64 c].toArray ++ Builtin.zeroCells (Value.int .i64 0).cells (grownCap w 1 0 3 - 1)) 3)).heap[w.heap.size]? = _ from heap_alloc_new w.drew _] at hh
  replace hh:=ad5 hh
  subst hh
  rw [List.length_append] at hj
  rw [Array.getElem?_append_right (by simp;simp at hj;omega)] at hx
  exact ahf _ _ _ hx
 ·have hsp:=R.spare b cur rfl hg
  have hcs' : cur.size=cap:=by omega
  have htk:∀ j,j<xs.length→cur[j]? = some (.int .i64 (xs.getD j 0)):=fun j hj=>by
   have h1:(cur.toList.take (xs.length*1))[j]? = (xs.map (Value.int .i64))[j]? := by rw [htake]
   rw [List.getElem?_take_of_lt (by omega),Array.getElem?_toList,List.getElem?_map] at h1
   rw [h1,List.getD_eq_getElem?_getD,List.getElem?_eq_getElem hj]
   rfl
  have hall:∀ x ∈ cur.toList,isI x=true:=fun x hx=>by
   obtain ⟨j,hj⟩:=List.mem_iff_getElem?.1 hx
   rw [Array.getElem?_toList] at hj
   by_cases hjl:j<xs.length
   ·rw [htk j hjl] at hj
    obtain rfl:=Option.some.inj hj
    rfl
   ·rw [hsp j x (by omega) hj]
    rfl
  by_cases hroom:xs.length+1≤cap
  ·have hfit:xs.length*i0.size+[Value.int .i64 c].length≤cur.size:=by rw [hz1,hcs'];simpa using hroom
   have hr' := run_append_room (P:=Tryz.prog) w 54 ty 3 i0 Tryz.underlying54 hi b xs.length cap cur hg ⟨g,0,none⟩ 1 1 [.int .i64 c] hl1 hcl h1c hroom hfit
   rw [hr] at hr'
   injection hr' with e1 e2
   rw [hz1] at e2
   subst e1 e2
   have hnew:=setRow_heap w b cur (cur.toList.take (xs.length*1) ++ [Value.int .i64 c] ++ cur.toList.drop (xs.length*1+[Value.int .i64 c].length)).toArray 3 (0,0) hg
   refine ⟨⟨hown',fun g' cs hg' hh j x hj hx=>?_⟩,hbel,hgr.size,fun k hk hne=>hgr.block k hk hne,fun g0 h0=>?_⟩
   ·simp only [Value.ownBlock,Option.some.injEq] at hg'
    subst hg'
    rw [hnew] at hh
    replace hh:=ad5 hh
    subst hh
    rw [List.length_append] at hj
    simp only [List.length_singleton] at hj
    rw [List.getElem?_toArray,List.getElem?_append_right (by simp;omega),List.getElem?_drop,Array.getElem?_toList] at hx
    refine hsp _ x ?_ hx
    simp
    omega
   ·simp only [Value.ownBlock,Option.some.injEq] at h0
    subst h0
    refine ⟨cur,_,hg,hnew,fun j hj=>?_,hsp,hall⟩
    rw [List.getElem?_toArray,List.append_assoc,List.getElem?_append_left (by simp;omega),List.getElem?_take_of_lt (by omega),Array.getElem?_toList]
  ·have hr' := run_append_grow (P:=Tryz.prog) w 54 ty 3 i0 _ Tryz.underlying54 hi hz0 ⟨b,0,none⟩ xs.length cap (xs.map (Value.int .i64)) (by rw [hz1];exact R.own.1) (R.own.cells (g:=b) rfl) ⟨g,0,none⟩ 1 1 [.int .i64 c] hl1 hcl (by omega) (by omega) (growslice_fits (by omega) (by rw [hz2];omega))
   rw [hr] at hr'
   injection hr' with e1 e2
   subst e1 e2
   refine ⟨⟨hown',fun g' cs hg' hh j x hj hx=>?_⟩,hbel,hgr.size,fun k hk hne=>hgr.block k hk hne,fun g0 h0=>?_⟩
   ·simp only [Value.ownBlock,Option.some.injEq] at hg'
    subst hg'
    rw [show (w.drew.alloc (Obj.cells ((xs.map (Value.int .i64)).toArray ++ [Value.int .i64 c].toArray ++ Builtin.zeroCells (Value.int .i64 0).cells (grownCap w (xs.length+1) cap 3 - (xs.length+1))) 3)).heap[w.heap.size]? = _ from heap_alloc_new w.drew _] at hh
    replace hh:=ad5 hh
    subst hh
    rw [List.length_append] at hj
    rw [Array.getElem?_append_right (by simp;simp at hj;omega)] at hx
    exact ahf _ _ _ hx
   ·simp only [Value.ownBlock,Option.some.injEq] at h0
    subst h0
    have hkeep:(w.drew.alloc (Obj.cells ((xs.map (Value.int .i64)).toArray ++ [Value.int .i64 c].toArray ++ Builtin.zeroCells (Value.int .i64 0).cells (grownCap w (xs.length+1) cap 3 - (xs.length+1))) 3)).heap[b]? = w.heap[b]? := (hAl w.drew _).block b (aaa hg)
    exact ⟨cur,cur,hg,hkeep.trans hg,fun _ _=>rfl,hsp,hall⟩
theorem RmO.block {B:Nat} {w:World} {a:Option Addr} {n c:Nat} {vs:List Value} {rows:List (List Int)} {L:Nat} (h:RmO B w (.slice a n c) vs rows L) (hn:0<n):∃ g cur,a=some ⟨g,0,none⟩∧B≤g∧w.heap[g]? = some (.cells cur 76 (0,0))∧n=rows.length∧n≤cur.size∧cur.toList.take n=vs:=by
 obtain ⟨o1,⟨o2,_⟩ | ⟨g,cap,cur,e,o3,o4,o5,o6,o7,o8⟩⟩:=h.own
 ·obtain ⟨_,hh,_⟩:=(Value.slice.injEq .. ▸ o2)
  omega
 ·obtain ⟨rfl,hh,rfl⟩:=(Value.slice.injEq .. ▸ e)
  have hl:=h.len
  exact ⟨g,cur,rfl,o3,o4,by omega,by omega,by rw [hh];simpa using o8⟩
theorem RmO.len' {B:Nat} {w:World} {a:Option Addr} {n c:Nat} {vs:List Value} {rows:List (List Int)} {L:Nat} (h:RmO B w (.slice a n c) vs rows L):n=rows.length:=by
 obtain ⟨_,_,e,_⟩:=Ce.own h.own
 obtain ⟨_,hh,_⟩:=(Value.slice.injEq .. ▸ e)
 exact hh.trans h.len
theorem RmO.put {B:Nat} {w:World} {g n c k:Nat} {vs:List Value} {rows:List (List Int)} {L:Nat} {u:Value} {z:List Int} (h:RmO B w (.slice (some ⟨g,0,none⟩) n c) vs rows L) (hk:k<n) (hu:NRow w u z L) :
  RmO B (w.setCell ⟨g,k,none⟩ u) (.slice (some ⟨g,0,none⟩) n c) (vs.set k u) (rows.set k z) L∧(∀ B',B'≤g→Below B' w (w.setCell ⟨g,k,none⟩ u))∧(∀ {x:Value} {y:List Int} {L' : Nat},NRow w x y L'→NRow (w.setCell ⟨g,k,none⟩ u) x y L')∧∀ b,b≠g→(w.setCell ⟨g,k,none⟩ u).heap[b]? = w.heap[b]? := by
 obtain ⟨ua,uc,rfl,_⟩:=id hu.parts
 obtain ⟨o1,⟨o2,_⟩ | ⟨g',cap,cur,e,o3,o4,o5,o6,o7,o8⟩⟩:=h.own
 ·obtain ⟨hh,_⟩:=(Value.slice.injEq .. ▸ o2)
  cases hh
 obtain ⟨ha,hh,rfl⟩:=(Value.slice.injEq .. ▸ e)
 obtain rfl:g=g' := by simpa using ha
 have hnew:=heap_setCell_same w g k cur 76 (.slice ua z.length uc) o4
 have hot:∀ b,b≠g→(w.setCell ⟨g,k,none⟩ (.slice ua z.length uc)).heap[b]? = w.heap[b]? := fun b hb=>heap_setCell_other w ⟨g,k,none⟩ b _ hb
 have hsz:(w.setCell ⟨g,k,none⟩ (.slice ua z.length uc)).heap.size=w.heap.size:=by simp [World.setCell]
 have hou:(w.setCell ⟨g,k,none⟩ (.slice ua z.length uc)).os=w.os∧(w.setCell ⟨g,k,none⟩ (.slice ua z.length uc)).tape=w.tape∧(w.setCell ⟨g,k,none⟩ (.slice ua z.length uc)).output=w.output:=⟨rfl,rfl,rfl⟩
 generalize w.setCell ⟨g,k,none⟩ (.slice ua z.length uc)=W at *
 have hI:=h.noi g cur _ rfl o4
 have hB:=h.nob g cur _ rfl o4
 have hkeep:∀ {x:Value} {y:List Int} {L' : Nat},NRow w x y L'→NRow W x y L' := fun hx=>hx.other o4 hI hB (Nat.le_of_eq hsz.symm) (fun b _ hb=>hot b hb)
 have hmem:∀ x ∈ (cur.setIfInBounds k (.slice ua z.length uc)).toList,x=.slice ua z.length uc∨x ∈ cur.toList:=fun x hx=>by
  rw [Array.toList_setIfInBounds] at hx
  rcases List.mem_or_eq_of_mem_set hx with h | h
  ·exact .inr h
  ·exact .inl h
 refine ⟨⟨⟨by simp,.inr ⟨g,c,_,by rw [List.length_set,hh],o3,hnew,by simpa using o5,o6,by simpa using o7,?_⟩⟩,fun b cs T hb hc x hx=>?_,fun b cs T hb hc x hx=>?_,by simp [h.len],fun j x y hx hy=>?_⟩,fun B' hB'=>⟨hou.1,hou.2.1,hou.2.2,Nat.le_of_eq hsz.symm,fun b hb=>hot b (by omega)⟩,hkeep,hot⟩
 ·rw [Array.toList_setIfInBounds,List.length_set,List.take_set,o8]
 ·simp only [Value.ownBlock,Option.some.injEq] at hb
  subst hb
  rw [hnew] at hc
  obtain rfl:=ad5 hc
  rcases hmem x hx with rfl | h
  ·rfl
  ·exact hI x h
 ·simp only [Value.ownBlock,Option.some.injEq] at hb
  subst hb
  rw [hnew] at hc
  obtain rfl:=ad5 hc
  rcases hmem x hx with rfl | h
  ·rfl
  ·exact hB x h
 ·by_cases hj:j=k
  ·subst hj
   have hl:=h.len
   have hjv:j<vs.length:=by omega
   rw [List.getElem?_set_self hjv] at hx
   rw [List.getElem?_set_self (by omega)] at hy
   obtain rfl:=Option.some.inj hx
   obtain rfl:=Option.some.inj hy
   exact hkeep hu
  ·rw [List.getElem?_set_ne (fun h=>hj h.symm)] at hx hy
   exact hkeep (h.out j x y hx hy)
set_option maxRecDepth 20000 in
set_option maxHeartbeats 8000000 in
set_option maxRecDepth 100000 in
theorem anh (w:World) (v:Value) (L M:Nat) (h:NRow w v [] L) :
  Calls Tryz.prog 45 #[v] w fun e w'=>∃ r,e=.returned r∧NRow w' r (red []) M∧Below w.heap.size w w' := by
 obtain ⟨ar,cr,rfl,-⟩:=h.parts
 simp only [List.length_nil]
 have HBA:=hide (hAl w (.cells #[.bool false,.slice none 0 0] 83))
 clear h
 obtain ⟨iN,hi',hz0',hz1',hz2'⟩:=info_parts infoN
 go_enter Tryz.func45,Tryz.ntmps45
 go_wp2_with fail
 generalize w.alloc (.cells #[.bool false,.slice none 0 0] 83)=wa at *
 go_loopw [4,5] (fun sv iv wr=>∃ s:Int,sv=.int .i64 s∧iv=.int .i64 0∧Below w.heap.size w wr) (fun _ _ _=>0)
 case atStart=>exact ⟨0,rfl,rfl,HBA.out⟩
 case round =>
  obtain ⟨s,rfl,rfl,hbw⟩:=hrel
  have HW:=hide hbw
  clear hbw
  go_wp2_with (refine wpList_make_full _ rfl (.tmp 29) (.tmp 29) 76 rfl _ 83 iN (.agg #[.bool false,.slice none 0 0]) 2 Tryz.underlying76 hi' hz0' hz1' .i64 .i64 _ _ 0 rfl rfl (by omega) (by omega) (by rw [hz2'];omega) (by unfold maxLen;omega) (Nat.le_refl _) ?hK)
  case hK =>
   intro w1 hown hgrow
   have hb1:Below wr.heap.size wr w1:=(Below.refl _ _).grown hgrow (Nat.le_refl _) (by simp)
   have HB1:=hide (HW.out.trans (hb1.mono HW.out.size))
   generalize wr.heap.size=bv at *
   clear hown hgrow hb1 HW
   go_wp2_with fail
   go_loopw [7] (fun iv wr=>iv=.int .i64 0∧Below w.heap.size w wr) (fun _ _=>0)
   case atStart=>exact ⟨rfl,HB1.out⟩
   case round =>
    obtain ⟨rfl,hbw⟩:=hrel
    have HW:=hide hbw
    clear hbw
    go_wp2
    refine bodyPost_ret (v:=_) (acu rfl rfl) rfl ⟨_,rfl,⟨[],⟨_,_,rfl,Nat.le_refl _,by omega,rfl,.inl rfl⟩,rfl,fun k f z hf=>by simp at hf⟩,HW.out⟩
end Lm
end Go.Proofs.YtpccfkdcpjplgaaGreat
