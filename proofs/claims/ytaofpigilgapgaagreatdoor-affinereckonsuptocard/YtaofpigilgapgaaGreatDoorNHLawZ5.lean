/-
  What the text behind the last one leans on, part 5.
-/
import Derived.Shelf.Lay
import Derived.Shelf.Strings.BuilderK
import Derived.Shelf.Unicode.DecodeSlow
import Derived.Deep.DeepCutAuto
import Derived.Test.YtaofpigilgapgaaGreatDoorNHLawZ4
namespace Go.Proofs.YtaofpigilgapgaaGreatDoor
namespace Lm
open Go Go.RowKit
set_option maxRecDepth 20000 in
set_option maxHeartbeats 8000000 in
theorem left_any (w:World) (vr vs:Value) (rs ss:List Int) (L:Nat) (z:Int) (hr:IsRow w vr rs L) (hs:IsRow w vs ss L) (hl:rs.length=ss.length+1) (hn:ss.length≤1000000) (hL:L≤20000) (hz:rs[ss.length]? = some z) :
  Calls Tryz.prog 33 #[vr,vs] w fun e w'=>∃ r,e=.returned (.tuple #[r,.int .i64 0])∧FrW w.heap.size (wsN rs ss ss.length - z) (3*L+2) r w'∧Below w.heap.size w w' := by
 obtain ⟨ar,cr,rfl,_⟩:=hr.parts
 obtain ⟨as_,cs_,rfl,_⟩:=hs.parts
 obtain ⟨b,off,ngx,ax,mx,cx,rfl,hbl,x0,x1,hx⟩:=hr.cell hz
 have hb0:=hAl w (.cells #[.bool false,.slice none 0 0] 66)
 have hf0:=heap_alloc_new w (.cells #[.bool false,.slice none 0 0] 66)
 have HR:=hide (hr.below hb0)
 have HS:=hide (hs.below hb0)
 have HX:=hide (hx.ru (Ru.of_below hb0))
 replace x0:=(hb0.cell (p:=⟨b,off+ss.length*2,none⟩) hbl).trans x0
 replace x1:=(hb0.cell (p:=⟨b,off+ss.length*2+1,none⟩) hbl).trans x1
 have HL:=hide hl
 clear hr hs hx hz
 generalize hmm:rs.length=m0 at *
 generalize hnn:ss.length=n at *
 have hne:((m0:Int) != (n:Int)+1)=false:=by simp;omega
 have hlt' : (n:Int)<(m0:Int):=by omega
 have HMM:=hide hmm
 clear hl hmm
 go_enter Tryz.func33,Tryz.ntmps33
 go_wp2_with fail
 generalize w.alloc (.cells #[.bool false,.slice none 0 0] 66)=w5 at *
 have HF0:=hide hf0
 have HB0:=hide hb0
 have hb5:b<w5.heap.size:=Nat.lt_of_lt_of_le hbl hb0.size
 have HN:=hide hnn
 clear hf0 hb0 hnn
 go_region_law (first | (refine step_call rfl 80 #[.tmp 13,.tmp 14] #[23,23] rfl has_weighed #[.slice (some ⟨b,off,none⟩) m0 cr,.slice as_ n cs_] (by simp [Act.eval,Act.put]) (weighed_any _ _ _ rs ss L (HR.out.below (show Below w5.heap.size w5 _ by (repeat' first|with_reducible(first|exact Below.refl _ _|assumption|refine gdrewN ?_ _|refine Below.alloc ?_ ?_ _|refine Below.drew ?_|refine Below.setCell ?_ ?_ _)|go_size))) (HS.out.below (show Below w5.heap.size w5 _ by (repeat' first|with_reducible(first|exact Below.refl _ _|assumption|refine gdrewN ?_ _|refine Below.alloc ?_ ?_ _|refine Below.drew ?_|refine Below.setCell ?_ ?_ _)|go_size))) (by have:=HL.out;have:=HN.out;have:=HMM.out;omega) (by have:=HN.out;omega) hL) ?_;rintro e w7 ⟨v7,rfl,h7,hb7⟩;obtain ⟨ng7,ao7,k7,cap7,rfl⟩:=h7.agg;have hb57:Below w5.heap.size w5 w7:=(show Below w5.heap.size w5 _ by (repeat' first|with_reducible(first|exact Below.refl _ _|assumption|refine gdrewN ?_ _|refine Below.alloc ?_ ?_ _|refine Below.drew ?_|refine Below.setCell ?_ ?_ _)|go_size)).trans (hb7.mono (by simp));have HB57:=hide hb57;have H7:=hide h7;have x07:=(hb57.cell (p:=⟨b,off+n*2,none⟩) hb5).trans x0;have x17:=(hb57.cell (p:=⟨b,off+n*2+1,none⟩) hb5).trans x1;clear h7 hb7 hb57;refine ⟨_,rfl,?_⟩) | (refine step_call rfl 79 #[.tmp 15,.tmp 20] #[66,66] rfl has_subB #[.agg #[.bool ng7,.slice ao7 k7 cap7],.agg #[.bool ngx,.slice ax mx cx]] (by simp [Act.eval]) (subF _ (wsN rs ss n) z _ _ (2*L+1) L (by rw [←HN.out];exact H7.out.is) (HX.out.ru (Ru.of_below HB57.out)) (by omega) (by omega)) ?_;rintro e w8 ⟨v8,rfl,h8,hb8⟩;obtain ⟨ng8,ao8,k8,cap8,rfl⟩:=h8.agg;have hb58:Below w5.heap.size w5 w8:=HB57.out.trans (hb8.mono HB57.out.size);have HB58:=hide hb58;have H8:=hide (h8.low (Nat.le_trans HB0.out.size HB57.out.size));have hc8:=(hb58.block _ (lt_of_heap HF0.out)).trans HF0.out;have HC8:=hide hc8;have hc8' := two_cells hc8;obtain ⟨hcl8,y08,y18,yf08,yf18⟩:=hc8';clear h8 hb8 hb58 hc8;refine ⟨_,rfl,?_⟩))
 all_goals (
  go_wp2
  exact bodyPost_ret (v:=.tuple #[.agg #[.bool ng8,.slice ao8 k8 cap8],.int .i64 0]) (res_ct (g:=w.heap.size) rfl rfl (lvw2 (set_w2 HC8.out _ _)) rfl) rfl ⟨_,rfl,(H8.out.ru (ru_w2 HC8.out _ _)).to rfl (by omega),((HB0.out.trans (HB58.out.mono HB0.out.size)).setCell (Nat.le_refl _) _).setCell (Nat.le_refl _) _⟩)
set_option maxRecDepth 20000 in
set_option maxHeartbeats 8000000 in
theorem value_any (w:World) (vr vs:Value) (rs ss:List Int) (L:Nat) (z:Int) (hr:IsRow w vr rs L) (hs:IsRow w vs ss L) (hl:rs.length=ss.length+1) (hn:ss.length≤1000000) (hL:L≤20000) (hz:rs[ss.length]? = some z) :
  Calls Tryz.prog 34 #[vr,vs] w fun e w'=>∃ r,e=.returned (.tuple #[r,.int .i64 0])∧FrW w.heap.size (wsN rs ss ss.length+z) (3*L+2) r w'∧Below w.heap.size w w' := by
 obtain ⟨ar,cr,rfl,_⟩:=hr.parts
 obtain ⟨as_,cs_,rfl,_⟩:=hs.parts
 obtain ⟨b,off,ngx,ax,mx,cx,rfl,hbl,x0,x1,hx⟩:=hr.cell hz
 have hb0:=hAl w (.cells #[.bool false,.slice none 0 0] 66)
 have hf0:=heap_alloc_new w (.cells #[.bool false,.slice none 0 0] 66)
 have HR:=hide (hr.below hb0)
 have HS:=hide (hs.below hb0)
 have HX:=hide (hx.ru (Ru.of_below hb0))
 replace x0:=(hb0.cell (p:=⟨b,off+ss.length*2,none⟩) hbl).trans x0
 replace x1:=(hb0.cell (p:=⟨b,off+ss.length*2+1,none⟩) hbl).trans x1
 have HL:=hide hl
 clear hr hs hx hz
 generalize hmm:rs.length=m0 at *
 generalize hnn:ss.length=n at *
 have hne:((m0:Int) != (n:Int)+1)=false:=by simp;omega
 have hlt' : (n:Int)<(m0:Int):=by omega
 have HMM:=hide hmm
 clear hl hmm
 go_enter Tryz.func34,Tryz.ntmps34
 go_wp2_with fail
 generalize w.alloc (.cells #[.bool false,.slice none 0 0] 66)=w5 at *
 have HF0:=hide hf0
 have HB0:=hide hb0
 have hb5:b<w5.heap.size:=Nat.lt_of_lt_of_le hbl hb0.size
 have HN:=hide hnn
 clear hf0 hb0 hnn
 go_region_law (first | (refine step_call rfl 80 #[.tmp 13,.tmp 14] #[23,23] rfl has_weighed #[.slice (some ⟨b,off,none⟩) m0 cr,.slice as_ n cs_] (by simp [Act.eval,Act.put]) (weighed_any _ _ _ rs ss L (HR.out.below (show Below w5.heap.size w5 _ by (repeat' first|with_reducible(first|exact Below.refl _ _|assumption|refine gdrewN ?_ _|refine Below.alloc ?_ ?_ _|refine Below.drew ?_|refine Below.setCell ?_ ?_ _)|go_size))) (HS.out.below (show Below w5.heap.size w5 _ by (repeat' first|with_reducible(first|exact Below.refl _ _|assumption|refine gdrewN ?_ _|refine Below.alloc ?_ ?_ _|refine Below.drew ?_|refine Below.setCell ?_ ?_ _)|go_size))) (by have:=HL.out;have:=HN.out;have:=HMM.out;omega) (by have:=HN.out;omega) hL) ?_;rintro e w7 ⟨v7,rfl,h7,hb7⟩;obtain ⟨ng7,ao7,k7,cap7,rfl⟩:=h7.agg;have hb57:Below w5.heap.size w5 w7:=(show Below w5.heap.size w5 _ by (repeat' first|with_reducible(first|exact Below.refl _ _|assumption|refine gdrewN ?_ _|refine Below.alloc ?_ ?_ _|refine Below.drew ?_|refine Below.setCell ?_ ?_ _)|go_size)).trans (hb7.mono (by simp));have HB57:=hide hb57;have H7:=hide h7;have x07:=(hb57.cell (p:=⟨b,off+n*2,none⟩) hb5).trans x0;have x17:=(hb57.cell (p:=⟨b,off+n*2+1,none⟩) hb5).trans x1;clear h7 hb7 hb57;refine ⟨_,rfl,?_⟩) | (refine step_call rfl 81 #[.tmp 15,.tmp 20] #[66,66] rfl has_addB #[.agg #[.bool ng7,.slice ao7 k7 cap7],.agg #[.bool ngx,.slice ax mx cx]] (by simp [Act.eval]) (addF _ (wsN rs ss n) z _ _ (2*L+1) L (by rw [←HN.out];exact H7.out.is) (HX.out.ru (Ru.of_below HB57.out)) (by omega) (by omega)) ?_;rintro e w8 ⟨v8,rfl,h8,hb8⟩;obtain ⟨ng8,ao8,k8,cap8,rfl⟩:=h8.agg;have hb58:Below w5.heap.size w5 w8:=HB57.out.trans (hb8.mono HB57.out.size);have HB58:=hide hb58;have H8:=hide (h8.low (Nat.le_trans HB0.out.size HB57.out.size));have hc8:=(hb58.block _ (lt_of_heap HF0.out)).trans HF0.out;have HC8:=hide hc8;have hc8' := two_cells hc8;obtain ⟨hcl8,y08,y18,yf08,yf18⟩:=hc8';clear h8 hb8 hb58 hc8;refine ⟨_,rfl,?_⟩))
 all_goals (
  go_wp2
  exact bodyPost_ret (v:=.tuple #[.agg #[.bool ng8,.slice ao8 k8 cap8],.int .i64 0]) (res_ct (g:=w.heap.size) rfl rfl (lvw2 (set_w2 HC8.out _ _)) rfl) rfl ⟨_,rfl,(H8.out.ru (ru_w2 HC8.out _ _)).to rfl (by omega),((HB0.out.trans (HB58.out.mono HB0.out.size)).setCell (Nat.le_refl _) _).setCell (Nat.le_refl _) _⟩)
end Lm
end Go.Proofs.YtaofpigilgapgaaGreatDoor

namespace Go.Proofs.YtaofpigilgapgaaGreatDoor
namespace Lm
open Go Go.RowKit
def NR (zs:List Int) (L:Nat):Says:=fun v w=>NRow w v zs L
theorem NR.mono (zs:List Int) (L:Nat):Mono (NR zs L):=fun _ _ _ hb h=>NRow.below h hb
section
variable {dst:Option Tmp} {ty:TypeId} {pos:String} {after:Array Edge} {guard:Option (Nat × Bool)} {a:Act} {w:World} {ats:Array TypeId} {i j:Nat}
theorem has_nall:Has Tryz.prog 53:=by unfold Has;kernel_rfl
theorem op_nall {zs:List Int} {L:Nat} (h:IsRow w (a.eval (.tmp i)) zs L) (hl:zs.length≤100001) (hL:L≤100000) :
  Does Tryz.prog { dst,op:=.call { callee:=.value (.func 53),args:=#[.tmp i],argTypes:=ats },type:=ty,pos,after,guard } a.eval w fun v w'=>Below w.heap.size w w'∧NR zs (3*L) v w' := by
 refine does_call has_nall _ (by simp only [List.map_toArray,List.map_cons,List.map_nil]) ((nall_any w _ zs L h hl hL).mono ?_)
 rintro e w' ⟨r,rfl,hr,hb⟩
 exact ⟨_,rfl,hb,hr⟩
theorem has_nsum5:Has Tryz.prog 83:=by unfold Has;kernel_rfl
theorem op_nsum' {rs ss:List Int} {L n:Nat} (hn:ss.length=n) (h1:NR rs (3*L) (a.eval (.tmp i)) w) (h2:NR ss (3*L) (a.eval (.tmp j)) w) (hle:ss.length≤rs.length) (hlen:ss.length≤100000) (hL:L≤10000) (hrs:∀ z ∈ rs,(z.natAbs:Int)<pw L) (hss:∀ z ∈ ss,(z.natAbs:Int)<pw L) :
  Does Tryz.prog { dst,op:=.call { callee:=.value (.func 83),args:=#[.tmp i,.tmp j],argTypes:=ats },type:=ty,pos,after,guard } a.eval w fun v w'=>Below w.heap.size w w'∧OutN (wsN rs ss n) (3*(2*L+1)) v w' := by
 subst hn
 obtain ⟨a1,c1,e1,_⟩:=NRow.parts h1
 obtain ⟨a2,c2,e2,_⟩:=NRow.parts h2
 unfold NR at h1 h2
 rw [e1] at h1
 rw [e2] at h2
 refine does_call has_nsum5 _ (by simp only [List.map_toArray,List.map_cons,List.map_nil,e1,e2]) ((nsum_z w L _ _ _ rs h1 _ _ _ ss h2 hle hlen hL hrs hss).mono ?_)
 rintro e w' ⟨r,rfl,hr,hb⟩
 exact ⟨_,rfl,hb,hr⟩
end
set_option maxRecDepth 20000 in
set_option maxHeartbeats 4000000 in
theorem nleft_any (w:World) (vr vs:Value) (rs ss:List Int) (L:Nat) (z:Int) (hr:IsRow w vr rs L) (hs:IsRow w vs ss L) (hl:rs.length=ss.length+1) (hn:ss.length≤100000) (hL:L≤10000) (hz:rs[ss.length]? = some z) :
  Calls Tryz.prog 35 #[vr,vs] w fun e w'=>∃ r,e=.returned (.tuple #[r,.int .i64 0])∧OutW (wsN rs ss ss.length - z) (9*L+4) r w'∧Below w.heap.size w w' := by
 obtain ⟨ar,cr,rfl,hmx⟩:=hr.parts
 obtain ⟨as_,cs_,rfl,_⟩:=hs.parts
 obtain ⟨b,off,ngx,ax,mx,cx,rfl,hbl,x0,x1,hx⟩:=hr.cell hz
 have HRL:=hide hr.lt
 have HSL:=hide hs.lt
 have hb0:=hAl w (.cells #[.bool false,.slice none 0 0] 66)
 have hf0:=heap_alloc_new w (.cells #[.bool false,.slice none 0 0] 66)
 have HR:=hide (hr.below hb0)
 have HS:=hide (hs.below hb0)
 have HX:=hide (hx.ru (Ru.of_below hb0))
 replace x0:=(hb0.cell (p:=⟨b,off+ss.length*2,none⟩) hbl).trans x0
 replace x1:=(hb0.cell (p:=⟨b,off+ss.length*2+1,none⟩) hbl).trans x1
 clear hr hs hx hz
 generalize hmm:rs.length=m0 at *
 generalize hnn:ss.length=n at *
 have hw1:IntKind.i64.wrap ((n:Int)+1)=(n:Int)+1:=by rw [IntKind.wrap_i64];omega
 have hne:((m0:Int) != (n:Int)+1)=false:=by simp;omega
 have hlt' : (n:Int)<(m0:Int):=by omega
 have HLN:Hid (rs.length=n+1∧ss.length=n∧n≤100000):=(show rs.length=n+1∧ss.length=n∧n≤100000 by omega)
 have HN:Hid (ss.length=n):=hnn
 clear hl hmm hnn
 go_enter Tryz.func35,Tryz.ntmps35
 go_upto_region 3 with fail
 generalize w.alloc (.cells #[.bool false,.slice none 0 0] 66)=w5 at *
 have HF0:=hide hf0
 have HB0:=hide hb0
 have hb5:b<w5.heap.size:=Nat.lt_of_lt_of_le hbl hb0.size
 clear hf0 hb0
 refine region_tail 13 [13,14,15,16,17,18,19,20,21,22,23,24,25] [Eqs (.slice (some ⟨b,off,none⟩) m0 cr),(NR rs (3*L)),Eqs (.slice as_ n cs_),(NR ss (3*L)),(OutN (wsN rs ss n) (3*(2*L+1))),Eqs (.slice (some ⟨b,off,none⟩) m0 cr),Eqs (.slice as_ n cs_),Eqs (.int .i64 (n:Int)),Eqs (.pointer (some ⟨b,off+n*2,none⟩)),(IsW z L),(OutN z (3*L)),(OutN (wsN rs ss n - z) (3*(2*L+1)+3*L+1)),(OutW (wsN rs ss n - z) (3*(2*L+1)+3*L+1))] rfl rfl (by decide) (by kernel_rfl) (by kernel_rfl) (by decide) (by kernel_rfl) ⟨Eqs.mono _,(NR.mono _ _),Eqs.mono _,(NR.mono _ _),(Mono.of4 (OutN.mono4 _ _)),Eqs.mono _,Eqs.mono _,Eqs.mono _,Eqs.mono _,(Mono.of4 (IsW.mono4 _ _)),(Mono.of4 (OutN.mono4 _ _)),(Mono.of4 (OutN.mono4 _ _)),(Mono.of4 (OutW.mono4 _ _)),trivial⟩ ?_ ?_
 ·exact ⟨⟨rfl,fun a_ w_ _ hB hR hD=>op_mv ((hR 0 rfl).trans (eval_list rfl))⟩,
    ⟨rfl,fun a_ w_ _ hB hR hD=>op_nall (zs:=rs) (L:=L) (by rw [(show a_.eval (.tmp 13)=.slice (some ⟨b,off,none⟩) m0 cr from hD 0 rfl)];exact HR.out.below hB) (by have:=HLN.out;omega) (by omega)⟩,
    ⟨rfl,fun a_ w_ _ hB hR hD=>op_mv ((hR 1 rfl).trans (eval_list rfl))⟩,
    ⟨rfl,fun a_ w_ _ hB hR hD=>op_nall (zs:=ss) (L:=L) (by rw [(show a_.eval (.tmp 15)=.slice as_ n cs_ from hD 2 rfl)];exact HS.out.below hB) (by have:=HLN.out;omega) (by omega)⟩,
    ⟨rfl,fun a_ w_ _ hB hR hD=>op_nsum' HN.out (show (NR rs (3*L)) (a_.eval (.tmp 14)) w_ from hD 1 rfl) (show (NR ss (3*L)) (a_.eval (.tmp 16)) w_ from hD 3 rfl) (by have:=HLN.out;omega) (by have:=HLN.out;omega) (by omega) HRL.out HSL.out⟩,
    ⟨rfl,fun a_ w_ _ hB hR hD=>op_mv ((hR 0 rfl).trans (eval_list rfl))⟩,
    ⟨rfl,fun a_ w_ _ hB hR hD=>op_mv ((hR 1 rfl).trans (eval_list rfl))⟩,
    ⟨rfl,fun a_ w_ _ hB hR hD=>op_lenr (show a_.eval (.tmp 19)=.slice as_ n cs_ from hD 6 rfl)⟩,
    ⟨rfl,fun a_ w_ _ hB hR hD=>op_idxr (show a_.eval (.tmp 18)=.slice (some ⟨b,off,none⟩) m0 cr from hD 5 rfl) rfl (show a_.eval (.tmp 20)=.int .i64 (n:Int) from hD 7 rfl) (by omega)⟩,
    ⟨rfl,fun a_ w_ _ hB hR hD=>op_ldc (show a_.eval (.tmp 21)=.pointer (some ⟨b,off+n*2,none⟩) from hD 8 rfl) ((hB.cell (p:=⟨b,off+n*2,none⟩) hb5).trans x0) ((hB.cell (p:=⟨b,off+n*2+1,none⟩) hb5).trans x1) (Mono.of4 (IsW.mono4 _ _) _ _ _ hB HX.out)⟩,
    ⟨rfl,fun a_ w_ _ hB hR hD=>op_nof (show (IsW z L) (a_.eval (.tmp 22)) w_ from hD 9 rfl) (by omega)⟩,
    ⟨rfl,fun a_ w_ _ hB hR hD=>op_nsub (show (OutN (wsN rs ss n) (3*(2*L+1))) (a_.eval (.tmp 17)) w_ from hD 4 rfl) (show (OutN z (3*L)) (a_.eval (.tmp 23)) w_ from hD 10 rfl) (by omega) (by omega)⟩,
    ⟨rfl,fun a_ w_ _ hB hR hD=>op_ntold (show (OutN (wsN rs ss n - z) (3*(2*L+1)+3*L+1)) (a_.eval (.tmp 24)) w_ from hD 11 rfl) (by omega)⟩,
    trivial⟩
 ·intro a' w' hn' hd' hB' hR' hP'
  have e13:a'.eval (.tmp 13)=.slice (some ⟨b,off,none⟩) m0 cr:=hP' 0 (by decide)
  obtain ⟨u14,e14⟩:∃ u,a'.eval (.tmp 14)=u:=⟨_,rfl⟩
  have e15:a'.eval (.tmp 15)=.slice as_ n cs_:=hP' 2 (by decide)
  obtain ⟨u16,e16⟩:∃ u,a'.eval (.tmp 16)=u:=⟨_,rfl⟩
  obtain ⟨u17,e17⟩:∃ u,a'.eval (.tmp 17)=u:=⟨_,rfl⟩
  have e18:a'.eval (.tmp 18)=.slice (some ⟨b,off,none⟩) m0 cr:=hP' 5 (by decide)
  have e19:a'.eval (.tmp 19)=.slice as_ n cs_:=hP' 6 (by decide)
  have e20:a'.eval (.tmp 20)=.int .i64 (n:Int):=hP' 7 (by decide)
  have e21:a'.eval (.tmp 21)=.pointer (some ⟨b,off+n*2,none⟩):=hP' 8 (by decide)
  obtain ⟨u22,e22⟩:∃ u,a'.eval (.tmp 22)=u:=⟨_,rfl⟩
  obtain ⟨u23,e23⟩:∃ u,a'.eval (.tmp 23)=u:=⟨_,rfl⟩
  obtain ⟨u24,e24⟩:∃ u,a'.eval (.tmp 24)=u:=⟨_,rfl⟩
  obtain ⟨u25,e25⟩:∃ u,a'.eval (.tmp 25)=u:=⟨_,rfl⟩
  have hT:(OutW (wsN rs ss n - z) (3*(2*L+1)+3*L+1)) (a'.eval (.tmp 25)) w' := hP' 12 (by decide)
  rw [e25] at hT
  refine tail_fit hn' hd' hR' (.same rfl <| .same rfl <| .same rfl <| .same rfl <| .same rfl <| .same rfl <| .same rfl <| .same rfl <| .same rfl <| .same rfl <| .same rfl <| .same rfl <| .same rfl <| .new e13 <| .new e14 <| .new e15 <| .new e16 <| .new e17 <| .new e18 <| .new e19 <| .new e20 <| .new e21 <| .new e22 <| .new e23 <| .new e24 <| .new e25 <| .nil) ?_
  clear e13 e14 e15 e16 e17 e18 e19 e20 e21 e22 e23 e24 e25
  obtain ⟨ng8,ao8,cap8,rs8,rfl,hw8,hl8⟩:=hT
  have hf8:=(hB'.block _ (lt_of_heap HF0.out)).trans HF0.out
  obtain ⟨_,c0,c1,g0,g1⟩:=two_cells hf8
  have H8:Hid (OutW (wsN rs ss n - z) (9*L+4) (.agg #[.bool ng8,.slice ao8 rs8.length cap8]) w'):=⟨_,_,_,_,rfl,hw8,by omega⟩
  have HC8:=hide hf8
  have HB8:=hide (HB0.out.trans (hB'.mono HB0.out.size))
  clear hB' hR' hP' hn' hd' hw8 hf8
  go_wp2
  exact bodyPost_ret (v:=.tuple #[.agg #[.bool ng8,.slice ao8 rs8.length cap8],.int .i64 0]) (res_ct (g:=w.heap.size) rfl rfl (lvw2 (set_w2 HC8.out _ _)) rfl) rfl ⟨_,rfl,OutW.mono5 _ _ _ _ _ (ru_w2 HC8.out _ _) H8.out,(HB8.out.setCell (Nat.le_refl _) _).setCell (Nat.le_refl _) _⟩
set_option maxRecDepth 20000 in
set_option maxHeartbeats 4000000 in
theorem nvalue_any (w:World) (vr vs:Value) (rs ss:List Int) (L:Nat) (z:Int) (hr:IsRow w vr rs L) (hs:IsRow w vs ss L) (hl:rs.length=ss.length+1) (hn:ss.length≤100000) (hL:L≤10000) (hz:rs[ss.length]? = some z) :
  Calls Tryz.prog 36 #[vr,vs] w fun e w'=>∃ r,e=.returned (.tuple #[r,.int .i64 0])∧OutW (wsN rs ss ss.length+z) (9*L+4) r w'∧Below w.heap.size w w' := by
 obtain ⟨ar,cr,rfl,hmx⟩:=hr.parts
 obtain ⟨as_,cs_,rfl,_⟩:=hs.parts
 obtain ⟨b,off,ngx,ax,mx,cx,rfl,hbl,x0,x1,hx⟩:=hr.cell hz
 have HRL:=hide hr.lt
 have HSL:=hide hs.lt
 have hb0:=hAl w (.cells #[.bool false,.slice none 0 0] 66)
 have hf0:=heap_alloc_new w (.cells #[.bool false,.slice none 0 0] 66)
 have HR:=hide (hr.below hb0)
 have HS:=hide (hs.below hb0)
 have HX:=hide (hx.ru (Ru.of_below hb0))
 replace x0:=(hb0.cell (p:=⟨b,off+ss.length*2,none⟩) hbl).trans x0
 replace x1:=(hb0.cell (p:=⟨b,off+ss.length*2+1,none⟩) hbl).trans x1
 clear hr hs hx hz
 generalize hmm:rs.length=m0 at *
 generalize hnn:ss.length=n at *
 have hw1:IntKind.i64.wrap ((n:Int)+1)=(n:Int)+1:=by rw [IntKind.wrap_i64];omega
 have hne:((m0:Int) != (n:Int)+1)=false:=by simp;omega
 have hlt' : (n:Int)<(m0:Int):=by omega
 have HLN:Hid (rs.length=n+1∧ss.length=n∧n≤100000):=(show rs.length=n+1∧ss.length=n∧n≤100000 by omega)
 have HN:Hid (ss.length=n):=hnn
 clear hl hmm hnn
 go_enter Tryz.func36,Tryz.ntmps36
 go_upto_region 3 with fail
 generalize w.alloc (.cells #[.bool false,.slice none 0 0] 66)=w5 at *
 have HF0:=hide hf0
 have HB0:=hide hb0
 have hb5:b<w5.heap.size:=Nat.lt_of_lt_of_le hbl hb0.size
 clear hf0 hb0
 refine region_tail 13 [13,14,15,16,17,18,19,20,21,22,23,24,25] [Eqs (.slice (some ⟨b,off,none⟩) m0 cr),(NR rs (3*L)),Eqs (.slice as_ n cs_),(NR ss (3*L)),(OutN (wsN rs ss n) (3*(2*L+1))),Eqs (.slice (some ⟨b,off,none⟩) m0 cr),Eqs (.slice as_ n cs_),Eqs (.int .i64 (n:Int)),Eqs (.pointer (some ⟨b,off+n*2,none⟩)),(IsW z L),(OutN z (3*L)),(OutN (wsN rs ss n+z) (3*(2*L+1)+3*L+1)),(OutW (wsN rs ss n+z) (3*(2*L+1)+3*L+1))] rfl rfl (by decide) (by kernel_rfl) (by kernel_rfl) (by decide) (by kernel_rfl) ⟨Eqs.mono _,(NR.mono _ _),Eqs.mono _,(NR.mono _ _),(Mono.of4 (OutN.mono4 _ _)),Eqs.mono _,Eqs.mono _,Eqs.mono _,Eqs.mono _,(Mono.of4 (IsW.mono4 _ _)),(Mono.of4 (OutN.mono4 _ _)),(Mono.of4 (OutN.mono4 _ _)),(Mono.of4 (OutW.mono4 _ _)),trivial⟩ ?_ ?_
 ·exact ⟨⟨rfl,fun a_ w_ _ hB hR hD=>op_mv ((hR 0 rfl).trans (eval_list rfl))⟩,
    ⟨rfl,fun a_ w_ _ hB hR hD=>op_nall (zs:=rs) (L:=L) (by rw [(show a_.eval (.tmp 13)=.slice (some ⟨b,off,none⟩) m0 cr from hD 0 rfl)];exact HR.out.below hB) (by have:=HLN.out;omega) (by omega)⟩,
    ⟨rfl,fun a_ w_ _ hB hR hD=>op_mv ((hR 1 rfl).trans (eval_list rfl))⟩,
    ⟨rfl,fun a_ w_ _ hB hR hD=>op_nall (zs:=ss) (L:=L) (by rw [(show a_.eval (.tmp 15)=.slice as_ n cs_ from hD 2 rfl)];exact HS.out.below hB) (by have:=HLN.out;omega) (by omega)⟩,
    ⟨rfl,fun a_ w_ _ hB hR hD=>op_nsum' HN.out (show (NR rs (3*L)) (a_.eval (.tmp 14)) w_ from hD 1 rfl) (show (NR ss (3*L)) (a_.eval (.tmp 16)) w_ from hD 3 rfl) (by have:=HLN.out;omega) (by have:=HLN.out;omega) (by omega) HRL.out HSL.out⟩,
    ⟨rfl,fun a_ w_ _ hB hR hD=>op_mv ((hR 0 rfl).trans (eval_list rfl))⟩,
    ⟨rfl,fun a_ w_ _ hB hR hD=>op_mv ((hR 1 rfl).trans (eval_list rfl))⟩,
    ⟨rfl,fun a_ w_ _ hB hR hD=>op_lenr (show a_.eval (.tmp 19)=.slice as_ n cs_ from hD 6 rfl)⟩,
    ⟨rfl,fun a_ w_ _ hB hR hD=>op_idxr (show a_.eval (.tmp 18)=.slice (some ⟨b,off,none⟩) m0 cr from hD 5 rfl) rfl (show a_.eval (.tmp 20)=.int .i64 (n:Int) from hD 7 rfl) (by omega)⟩,
    ⟨rfl,fun a_ w_ _ hB hR hD=>op_ldc (show a_.eval (.tmp 21)=.pointer (some ⟨b,off+n*2,none⟩) from hD 8 rfl) ((hB.cell (p:=⟨b,off+n*2,none⟩) hb5).trans x0) ((hB.cell (p:=⟨b,off+n*2+1,none⟩) hb5).trans x1) (Mono.of4 (IsW.mono4 _ _) _ _ _ hB HX.out)⟩,
    ⟨rfl,fun a_ w_ _ hB hR hD=>op_nof (show (IsW z L) (a_.eval (.tmp 22)) w_ from hD 9 rfl) (by omega)⟩,
    ⟨rfl,fun a_ w_ _ hB hR hD=>op_nadd (show (OutN (wsN rs ss n) (3*(2*L+1))) (a_.eval (.tmp 17)) w_ from hD 4 rfl) (show (OutN z (3*L)) (a_.eval (.tmp 23)) w_ from hD 10 rfl) (by omega) (by omega)⟩,
    ⟨rfl,fun a_ w_ _ hB hR hD=>op_ntold (show (OutN (wsN rs ss n+z) (3*(2*L+1)+3*L+1)) (a_.eval (.tmp 24)) w_ from hD 11 rfl) (by omega)⟩,
    trivial⟩
 ·intro a' w' hn' hd' hB' hR' hP'
  have e13:a'.eval (.tmp 13)=.slice (some ⟨b,off,none⟩) m0 cr:=hP' 0 (by decide)
  obtain ⟨u14,e14⟩:∃ u,a'.eval (.tmp 14)=u:=⟨_,rfl⟩
  have e15:a'.eval (.tmp 15)=.slice as_ n cs_:=hP' 2 (by decide)
  obtain ⟨u16,e16⟩:∃ u,a'.eval (.tmp 16)=u:=⟨_,rfl⟩
  obtain ⟨u17,e17⟩:∃ u,a'.eval (.tmp 17)=u:=⟨_,rfl⟩
  have e18:a'.eval (.tmp 18)=.slice (some ⟨b,off,none⟩) m0 cr:=hP' 5 (by decide)
  have e19:a'.eval (.tmp 19)=.slice as_ n cs_:=hP' 6 (by decide)
  have e20:a'.eval (.tmp 20)=.int .i64 (n:Int):=hP' 7 (by decide)
  have e21:a'.eval (.tmp 21)=.pointer (some ⟨b,off+n*2,none⟩):=hP' 8 (by decide)
  obtain ⟨u22,e22⟩:∃ u,a'.eval (.tmp 22)=u:=⟨_,rfl⟩
  obtain ⟨u23,e23⟩:∃ u,a'.eval (.tmp 23)=u:=⟨_,rfl⟩
  obtain ⟨u24,e24⟩:∃ u,a'.eval (.tmp 24)=u:=⟨_,rfl⟩
  obtain ⟨u25,e25⟩:∃ u,a'.eval (.tmp 25)=u:=⟨_,rfl⟩
  have hT:(OutW (wsN rs ss n+z) (3*(2*L+1)+3*L+1)) (a'.eval (.tmp 25)) w' := hP' 12 (by decide)
  rw [e25] at hT
  refine tail_fit hn' hd' hR' (.same rfl <| .same rfl <| .same rfl <| .same rfl <| .same rfl <| .same rfl <| .same rfl <| .same rfl <| .same rfl <| .same rfl <| .same rfl <| .same rfl <| .same rfl <| .new e13 <| .new e14 <| .new e15 <| .new e16 <| .new e17 <| .new e18 <| .new e19 <| .new e20 <| .new e21 <| .new e22 <| .new e23 <| .new e24 <| .new e25 <| .nil) ?_
  clear e13 e14 e15 e16 e17 e18 e19 e20 e21 e22 e23 e24 e25
  obtain ⟨ng8,ao8,cap8,rs8,rfl,hw8,hl8⟩:=hT
  have hf8:=(hB'.block _ (lt_of_heap HF0.out)).trans HF0.out
  obtain ⟨_,c0,c1,g0,g1⟩:=two_cells hf8
  have H8:Hid (OutW (wsN rs ss n+z) (9*L+4) (.agg #[.bool ng8,.slice ao8 rs8.length cap8]) w'):=⟨_,_,_,_,rfl,hw8,by omega⟩
  have HC8:=hide hf8
  have HB8:=hide (HB0.out.trans (hB'.mono HB0.out.size))
  clear hB' hR' hP' hn' hd' hw8 hf8
  go_wp2
  exact bodyPost_ret (v:=.tuple #[.agg #[.bool ng8,.slice ao8 rs8.length cap8],.int .i64 0]) (res_ct (g:=w.heap.size) rfl rfl (lvw2 (set_w2 HC8.out _ _)) rfl) rfl ⟨_,rfl,OutW.mono5 _ _ _ _ _ (ru_w2 HC8.out _ _) H8.out,(HB8.out.setCell (Nat.le_refl _) _).setCell (Nat.le_refl _) _⟩
end Lm
end Go.Proofs.YtaofpigilgapgaaGreatDoor

namespace Go.Proofs.YtaofpigilgapgaaGreatDoor
namespace Lm
open Go Go.RowKit
set_option maxRecDepth 20000 in
set_option maxHeartbeats 2000000 in
theorem left_bad (w:World) (ar as_:Option Addr) (nr cr ns cs:Nat) (h:nr≠ns+1) (hs:ns≤9223372036854775806) :
  Calls Tryz.prog 33 #[.slice ar nr cr,.slice as_ ns cs] w fun e w'=>e=.returned (.tuple #[.agg #[.bool false,.slice none 0 0],.int .i64 1])∧Below w.heap.size w w' := by
 have hb0:=hAl w (.cells #[.bool false,.slice none 0 0] 66)
 have hf0:=heap_alloc_new w (.cells #[.bool false,.slice none 0 0] 66)
 obtain ⟨_,c0,c1,g0,g1⟩:=two_cells hf0
 have HB0:=hide hb0
 have HF0:=hide hf0
 clear hb0 hf0
 have hw1:IntKind.i64.wrap ((ns:Int)+1)=(ns:Int)+1:=by rw [IntKind.wrap_i64];omega
 have hne:((nr:Int) != (ns:Int)+1)=true:=by simp;omega
 clear h
 go_enter Tryz.func33,Tryz.ntmps33
 go_wp2
 exact bodyPost_ret (v:=.tuple #[.agg #[.bool false,.slice none 0 0],.int .i64 1]) (res_ct (g:=w.heap.size) rfl rfl (lvw2 HF0.out) rfl) rfl ⟨rfl,HB0.out⟩
set_option maxRecDepth 20000 in
set_option maxHeartbeats 2000000 in
theorem value_bad (w:World) (ar as_:Option Addr) (nr cr ns cs:Nat) (h:nr≠ns+1) (hs:ns≤9223372036854775806) :
  Calls Tryz.prog 34 #[.slice ar nr cr,.slice as_ ns cs] w fun e w'=>e=.returned (.tuple #[.agg #[.bool false,.slice none 0 0],.int .i64 1])∧Below w.heap.size w w' := by
 have hb0:=hAl w (.cells #[.bool false,.slice none 0 0] 66)
 have hf0:=heap_alloc_new w (.cells #[.bool false,.slice none 0 0] 66)
 obtain ⟨_,c0,c1,g0,g1⟩:=two_cells hf0
 have HB0:=hide hb0
 have HF0:=hide hf0
 clear hb0 hf0
 have hw1:IntKind.i64.wrap ((ns:Int)+1)=(ns:Int)+1:=by rw [IntKind.wrap_i64];omega
 have hne:((nr:Int) != (ns:Int)+1)=true:=by simp;omega
 clear h
 go_enter Tryz.func34,Tryz.ntmps34
 go_wp2
 exact bodyPost_ret (v:=.tuple #[.agg #[.bool false,.slice none 0 0],.int .i64 1]) (res_ct (g:=w.heap.size) rfl rfl (lvw2 HF0.out) rfl) rfl ⟨rfl,HB0.out⟩
set_option maxRecDepth 20000 in
set_option maxHeartbeats 2000000 in
theorem nleft_bad (w:World) (ar as_:Option Addr) (nr cr ns cs:Nat) (h:nr≠ns+1) (hs:ns≤9223372036854775806) :
  Calls Tryz.prog 35 #[.slice ar nr cr,.slice as_ ns cs] w fun e w'=>e=.returned (.tuple #[.agg #[.bool false,.slice none 0 0],.int .i64 1])∧Below w.heap.size w w' := by
 have hb0:=hAl w (.cells #[.bool false,.slice none 0 0] 66)
 have hf0:=heap_alloc_new w (.cells #[.bool false,.slice none 0 0] 66)
 obtain ⟨_,c0,c1,g0,g1⟩:=two_cells hf0
 have HB0:=hide hb0
 have HF0:=hide hf0
 clear hb0 hf0
 have hw1:IntKind.i64.wrap ((ns:Int)+1)=(ns:Int)+1:=by rw [IntKind.wrap_i64];omega
 have hne:((nr:Int) != (ns:Int)+1)=true:=by simp;omega
 clear h
 go_enter Tryz.func35,Tryz.ntmps35
 go_wp2
 exact bodyPost_ret (v:=.tuple #[.agg #[.bool false,.slice none 0 0],.int .i64 1]) (res_ct (g:=w.heap.size) rfl rfl (lvw2 HF0.out) rfl) rfl ⟨rfl,HB0.out⟩
set_option maxRecDepth 20000 in
set_option maxHeartbeats 2000000 in
theorem nvalue_bad (w:World) (ar as_:Option Addr) (nr cr ns cs:Nat) (h:nr≠ns+1) (hs:ns≤9223372036854775806) :
  Calls Tryz.prog 36 #[.slice ar nr cr,.slice as_ ns cs] w fun e w'=>e=.returned (.tuple #[.agg #[.bool false,.slice none 0 0],.int .i64 1])∧Below w.heap.size w w' := by
 have hb0:=hAl w (.cells #[.bool false,.slice none 0 0] 66)
 have hf0:=heap_alloc_new w (.cells #[.bool false,.slice none 0 0] 66)
 obtain ⟨_,c0,c1,g0,g1⟩:=two_cells hf0
 have HB0:=hide hb0
 have HF0:=hide hf0
 clear hb0 hf0
 have hw1:IntKind.i64.wrap ((ns:Int)+1)=(ns:Int)+1:=by rw [IntKind.wrap_i64];omega
 have hne:((nr:Int) != (ns:Int)+1)=true:=by simp;omega
 clear h
 go_enter Tryz.func36,Tryz.ntmps36
 go_wp2
 exact bodyPost_ret (v:=.tuple #[.agg #[.bool false,.slice none 0 0],.int .i64 1]) (res_ct (g:=w.heap.size) rfl rfl (lvw2 HF0.out) rfl) rfl ⟨rfl,HB0.out⟩
theorem outw_nil5 (w:World) {L:Nat} : OutW 0 L (.agg #[.bool false,.slice none 0 0]) w:=(frw_zero w (K:=0) (L:=L) (Nat.zero_le _)).out
theorem left_both (rs ss:List Int) (L:Nat) (hn:ss.length≤100000) (hL:L≤10000):∃ z e:Int,
  (∀ w p q,IsRow w p rs L→IsRow w q ss L→Calls Tryz.prog 33 #[p,q] w fun x w'=>∃ r,x=.returned (.tuple #[r,.int .i64 e])∧FrW w.heap.size z (3*L+2) r w'∧Below w.heap.size w w') ∧
  (∀ w p q,IsRow w p rs L→IsRow w q ss L→Calls Tryz.prog 35 #[p,q] w fun x w'=>∃ r,x=.returned (.tuple #[r,.int .i64 e])∧OutW z (9*L+4) r w'∧Below w.heap.size w w'):=by
 by_cases h:rs.length=ss.length+1
 ·obtain ⟨z,hz⟩:∃ z,rs[ss.length]? = some z:=⟨_,List.getElem?_eq_getElem (by omega)⟩
  exact ⟨_,0,fun w p q hp hq=>left_any w p q rs ss L z hp hq h (by omega) (by omega) hz,fun w p q hp hq=>nleft_any w p q rs ss L z hp hq h hn hL hz⟩
 ·refine ⟨0,1,fun w p q hp hq=>?_,fun w p q hp hq=>?_⟩
  ·obtain ⟨ap,cp,rfl,_⟩:=hp.parts
   obtain ⟨aq,cq,rfl,_⟩:=hq.parts
   refine (left_bad w ap aq _ cp _ cq h (by omega)).mono ?_
   rintro e w' ⟨rfl,hb⟩
   exact ⟨_,rfl,frw_zero _ hb.size,hb⟩
  ·obtain ⟨ap,cp,rfl,_⟩:=hp.parts
   obtain ⟨aq,cq,rfl,_⟩:=hq.parts
   refine (nleft_bad w ap aq _ cp _ cq h (by omega)).mono ?_
   rintro e w' ⟨rfl,hb⟩
   exact ⟨_,rfl,outw_nil5 _,hb⟩
theorem value_both (rs ss:List Int) (L:Nat) (hn:ss.length≤100000) (hL:L≤10000):∃ z e:Int,
  (∀ w p q,IsRow w p rs L→IsRow w q ss L→Calls Tryz.prog 34 #[p,q] w fun x w'=>∃ r,x=.returned (.tuple #[r,.int .i64 e])∧FrW w.heap.size z (3*L+2) r w'∧Below w.heap.size w w') ∧
  (∀ w p q,IsRow w p rs L→IsRow w q ss L→Calls Tryz.prog 36 #[p,q] w fun x w'=>∃ r,x=.returned (.tuple #[r,.int .i64 e])∧OutW z (9*L+4) r w'∧Below w.heap.size w w'):=by
 by_cases h:rs.length=ss.length+1
 ·obtain ⟨z,hz⟩:∃ z,rs[ss.length]? = some z:=⟨_,List.getElem?_eq_getElem (by omega)⟩
  exact ⟨_,0,fun w p q hp hq=>value_any w p q rs ss L z hp hq h (by omega) (by omega) hz,fun w p q hp hq=>nvalue_any w p q rs ss L z hp hq h hn hL hz⟩
 ·refine ⟨0,1,fun w p q hp hq=>?_,fun w p q hp hq=>?_⟩
  ·obtain ⟨ap,cp,rfl,_⟩:=hp.parts
   obtain ⟨aq,cq,rfl,_⟩:=hq.parts
   refine (value_bad w ap aq _ cp _ cq h (by omega)).mono ?_
   rintro e w' ⟨rfl,hb⟩
   exact ⟨_,rfl,frw_zero _ hb.size,hb⟩
  ·obtain ⟨ap,cp,rfl,_⟩:=hp.parts
   obtain ⟨aq,cq,rfl,_⟩:=hq.parts
   refine (nvalue_bad w ap aq _ cp _ cq h (by omega)).mono ?_
   rintro e w' ⟨rfl,hb⟩
   exact ⟨_,rfl,outw_nil5 _,hb⟩
end Lm
end Go.Proofs.YtaofpigilgapgaaGreatDoor

namespace Go.Proofs.YtaofpigilgapgaaGreatDoor
namespace Lm
open Go Go.RowKit
def tsg (t:Tk) (s:ByteArray):Bool:=decide (t.kind=3) && decide (t.text=s)
set_option maxRecDepth 20000 in
set_option maxHeartbeats 1000000 in
theorem asign_yes (w:World) (q b:Nat) (tv uv:Value) (l:List Tk) (vs:List ByteArray) (i:Nat) (t:Tk) (h:Rea w q b tv uv l vs i) (ht:l[i]? = some t) (s:ByteArray) (hk:t.kind=3) (hx:t.text=s) (hj:i+1<l.length) (hl:l.length≤100000) :
  Calls Tryz.prog 119 #[.pointer (some ⟨q,0,none⟩),.string s] w fun r w'=>r=.returned (.bool true)∧Rea w' q b tv uv l vs (i+1)∧Rc q q w w' := by
 have H:=hide h
 have hq:=lt_of_heap h.blk
 have K:=hide (atoken_any w q b tv uv l vs i t h ht)
 have hi:i≤100000:=by omega
 clear hl
 have HJ:=hide hj
 obtain ⟨_,_,_,_,_,_,K1,_,KF,_⟩:=h.cells ht
 have HK1:=hide (And.intro K1 KF)
 clear h ht hj K1 KF
 unfold Tk.av at K
 rw [hk,hx] at K
 clear hk hx
 go_enter Tryz.func119,Tryz.ntmps119
 go_wp2_with fail
 refine K.out.mono ?_
 rintro r w1 ⟨rfl,hb⟩
 have HB:=hide hb
 have k1:=(hb.cell (p:=⟨q,1,none⟩) hq).trans HK1.out.1
 have kf:w1.frozen? ⟨q,1,none⟩ = false:=frozen_of_row w1 q 1 _ _ ((hb.block q hq).trans H.out.blk)
 have hq1:q<w1.heap.size:=Nat.lt_of_lt_of_le hq hb.size
 clear hb K HK1
 generalize hf:w1.heap.size=f at *
 have hqf:q≠f:=by omega
 go_wp2
 refine bodyPost_ret (v:=_) (by simp [results,Tryz.results119,go_sem];try rfl) rfl ⟨rfl,?_⟩
 obtain ⟨n1,n2⟩:=H.out.next (.of_below HB.out) (HB.out.block q hq) HJ.out
 have hA:∀ (W:World) (o:Obj),Below W.heap.size W (W.alloc o):=fun W o=>(Below.refl _ _).alloc (Nat.le_refl _) o
 exact ⟨n1.below (hA _ _),n2.trans (.of_below (hA _ _))⟩
set_option maxRecDepth 20000 in
set_option maxHeartbeats 1000000 in
theorem asign_no (w:World) (q b:Nat) (tv uv:Value) (l:List Tk) (vs:List ByteArray) (i:Nat) (t:Tk) (h:Rea w q b tv uv l vs i) (ht:l[i]? = some t) (s:ByteArray) (hk:t.kind=3→t.text≠s) :
  Calls Tryz.prog 119 #[.pointer (some ⟨q,0,none⟩),.string s] w fun r w'=>r=.returned (.bool false)∧Rea w' q b tv uv l vs i∧Rc q q w w' := by
 have H:=hide h
 have K:=hide (atoken_any w q b tv uv l vs i t h ht)
 clear h ht
 unfold Tk.av at K
 have hA:∀ (W:World) (o:Obj),Below W.heap.size W (W.alloc o):=fun W o=>(Below.refl _ _).alloc (Nat.le_refl _) o
 by_cases h3:t.kind=3
 ·have hx:(t.text.toList == s.toList)=false:=ba_ne (hk h3)
  rw [h3] at K
  clear hk h3
  generalize t.text=x at K hx
  go_enter Tryz.func119,Tryz.ntmps119
  go_wp2_with fail
  refine K.out.mono ?_
  rintro r w1 ⟨rfl,hb⟩
  have HB:=hide hb
  clear hb K
  go_wp2
  refine bodyPost_ret (v:=_) (by simp [results,Tryz.results119,go_sem];try rfl) rfl ⟨rfl,?_⟩
  exact ⟨(H.out.below HB.out).below (hA _ _),(Rc.of_below HB.out).trans (.of_below (hA _ _))⟩
 ·have hx:(t.kind != 3)=true:=bne_iff_ne.2 h3
  clear hk h3
  generalize t.kind=x at K hx
  go_enter Tryz.func119,Tryz.ntmps119
  go_wp2_with fail
  refine K.out.mono ?_
  rintro r w1 ⟨rfl,hb⟩
  have HB:=hide hb
  clear hb K
  go_wp2
  refine bodyPost_ret (v:=_) (by simp [results,Tryz.results119,go_sem];try rfl) rfl ⟨rfl,?_⟩
  exact ⟨(H.out.below HB.out).below (hA _ _),(Rc.of_below HB.out).trans (.of_below (hA _ _))⟩
theorem asign_any (w:World) (q b:Nat) (tv uv:Value) (l:List Tk) (vs:List ByteArray) (i:Nat) (t:Tk) (h:Rea w q b tv uv l vs i) (ht:l[i]? = some t) (s:ByteArray) (hj:t.kind=3→i+1<l.length) (hl:l.length≤100000) :
  Calls Tryz.prog 119 #[.pointer (some ⟨q,0,none⟩),.string s] w fun r w'=>r=.returned (.bool (tsg t s))∧Rea w' q b tv uv l vs (if tsg t s then i+1 else i)∧Rc q q w w' := by
 by_cases hc:t.kind=3∧t.text=s
 ·have e:tsg t s=true:=by simp [tsg,hc.1,hc.2]
  rw [e]
  exact asign_yes w q b tv uv l vs i t h ht s hc.1 hc.2 (hj hc.1) hl
 ·have e:tsg t s=false:=by
   simp only [tsg,Bool.and_eq_false_imp,decide_eq_true_eq,decide_eq_false_iff_not]
   exact fun h1 h2=>hc ⟨h1,h2⟩
  rw [e]
  exact asign_no w q b tv uv l vs i t h ht s (fun h1 h2=>hc ⟨h1,h2⟩)
end Lm
end Go.Proofs.YtaofpigilgapgaaGreatDoor

namespace Go.Proofs
open Go.Shelf
shelf_lay Lays.n169 Nm 169 at Tryz as Tryz.lays169
namespace YtaofpigilgapgaaGreatDoor
namespace Lm
open Go Go.RowKit
theorem bext169:Builder.Extra Tryz.prog Tryz.lays169_ren where
 sizeBuilder:=by kernel_rfl
 liesBuilder:=by kernel_rfl
 t5:=Tryz.underlying5
 a5:=Tryz.isAgg5
 z5:=Tryz.sizeOf5
 v5:=Tryz.zeroValue5
 infoByte:=by kernel_rfl
 cellsByte:=by kernel_rfl
 sizeByte:=by kernel_rfl
 neB5:=by decide
def Bld (w:World) (B b:Nat) (l:List UInt8):Prop:=Lib.IsBuilderF 173 5 B b (Lib.byteCells l) w
theorem bsize:(Tryz.prog.info? 173).map (·.size)=some 2:=by kernel_rfl
theorem blies:liesAt Tryz.prog Tryz.prog.depth 173 (2 / Tryz.prog.cellsOf 173) 0 173 1=true:=by kernel_rfl
set_option maxRecDepth 20000 in
set_option maxHeartbeats 1000000 in
set_option maxRecDepth 100000 in
theorem bcheck_used (b:Nat) (w:World) (h0:w.cell? ⟨b,0,none⟩ = some (.pointer (some ⟨b,0,none⟩))) :
  Calls Tryz.prog 167 #[.pointer (some ⟨b,0,none⟩)] w fun e w'=>e=.returned (.tuple #[])∧w' = w:=by
 obtain ⟨j,hj,_⟩:=Option.map_eq_some_iff.1 bsize
 go_enter Tryz.func167,Tryz.ntmps167
 go_wp2
 rw [Lib.run_neq_ptr_same w _ Tryz.underlying170 hj]
 go_wp2
 go_end0
 exact ⟨rfl,rfl⟩
set_option maxRecDepth 20000 in
set_option maxHeartbeats 1000000 in
set_option maxRecDepth 100000 in
theorem bcheck_fresh (b:Nat) (w:World) (h0:w.cell? ⟨b,0,none⟩ = some (.pointer none)) (hsh:w.shape? b=some (173,2)) (hfz:w.frozen? ⟨b,0,none⟩ = false) :
  Calls Tryz.prog 167 #[.pointer (some ⟨b,0,none⟩)] w fun e w'=>e=.returned (.tuple #[])∧w' = w.setCell ⟨b,0,none⟩ (.pointer (some ⟨b,0,none⟩)):=by
 obtain ⟨j,hj,hjs⟩:=Option.map_eq_some_iff.1 bsize
 go_enter Tryz.func167,Tryz.ntmps167
 go_wp2
 rw [Lib.run_to_unsafe w ⟨b,0,none⟩ Tryz.underlying170 Tryz.underlying236 hj (by rw [hjs];decide) hsh (Nat.zero_lt_succ 1)]
 simp only [Result.andThen]
 rw [Oper.upon_value]
 go_wp2
 rw [run_callFunc_extern Tryz.func196 (by kernel_rfl) (by kernel_rfl) (by kernel_rfl) (e:=Extern.AbiNoEscape.same) (by kernel_rfl)]
 rw [Lib.run_noEscape]
 simp only [Result.andThen]
 rw [Oper.upon_value]
 go_wp2
 rw [Lib.run_from_unsafe w ⟨b,0,none⟩ Tryz.underlying236 Tryz.underlying170 hj hsh blies]
 simp only [Result.andThen]
 rw [Oper.upon_value]
 go_wp2
 go_end0
 exact ⟨rfl,rfl⟩
theorem bcheck (B b:Nat) (l:List UInt8) (w:World) (h:Bld w B b l) :
  Calls Tryz.prog 167 #[.pointer (some ⟨b,0,none⟩)] w fun e w'=>e=.returned (.tuple #[])∧(Lib.BuilderAtF 173 5 B b (.pointer (some ⟨b,0,none⟩)) (Lib.byteCells l) w'∧Below B w w'∧Lib.OthersKept 5 (some b) w w'):=by
 rcases h with h | h
 ·refine (bcheck_fresh b w h.cell0 h.shape h.frozen0).mono ?_
  rintro e w' ⟨rfl,rfl⟩
  exact ⟨rfl,h.used _,(Below.refl B w).setCell (p:=⟨b,0,none⟩) h.1 _,(Lib.OthersKept.refl _ _ w).setCell ⟨b,0,none⟩ rfl _⟩
 ·refine (bcheck_used b w h.cell0).mono ?_
  rintro e w' ⟨rfl,rfl⟩
  exact ⟨rfl,h,Below.refl B _,Lib.OthersKept.refl _ _ _⟩
theorem binfo:∃ i0,Tryz.prog.info? 5=some i0∧i0.zero=some (.int .u8 0)∧i0.size=1∧i0.bytes=1:=by
 obtain ⟨i0,h1,h2,h3,h4⟩:=info_parts bext169.infoByte
 exact ⟨i0,h1,h2,h3,h4⟩
set_option maxRecDepth 20000 in
set_option maxHeartbeats 2000000 in
set_option maxRecDepth 100000 in
theorem bwstr (B b:Nat) (l:List UInt8) (s:ByteArray) (w:World) (h:Bld w B b l) (hlen:l.length+s.size≤140737488355328) (hBw:B≤w.heap.size) :
  Calls Tryz.prog 123 #[.pointer (some ⟨b,0,none⟩),.string s] w fun e w'=>e=.returned (.tuple #[.int .i64 s.size,.nilIface])∧Bld w' B b (l ++ s.data.toList)∧Below B w w'∧Lib.OthersKept 5 (some b) w w' := by
 obtain ⟨i0,hi,hz0,hz1,hz2⟩:=binfo
 have hbl:(Lib.byteCells l).length=l.length:=Lib.byteCells_length l
 have HL:=hide hbl
 have HH:=hide h
 clear hbl h
 go_enter Tryz.func123,Tryz.ntmps123
 go_wp2_with fail
 refine (bcheck B b l _ HH.out).mono ?_
 rintro e w1 ⟨rfl,h1,hb1,hk1⟩
 obtain ⟨hB,v,hbk,hown,hne⟩:=h1
 have c0:w1.cell? ⟨b,0,none⟩ = some (.pointer (some ⟨b,0,none⟩)):=by rw [Lib.cell_of_heap hbk];rfl
 have c1:w1.cell? ⟨b,1,none⟩ = some v:=by rw [Lib.cell_of_heap hbk];rfl
 go_wp2_with (at_builtin;refine Lib.wpList_append_own_stringF _ rfl _ _ 171 9 rfl B 5 i0 Tryz.underlying171 Tryz.underlying9 hi hz0 hz1 hz2 _ _ _ rfl hown s rfl ?c3 ?c4 ?c5 ?_)
 case c3=>have:=HL.out;unfold maxLen;omega
 case c4=>have:=HL.out;omega
 case c5=>have:=hb1.size;omega
 intro v' w2 hown' hgrow _
 have hlt:b<w1.heap.size:=lt_of_heap hbk
 have hb2:w2.heap[b]? = some (.cells #[.pointer (some ⟨b,0,none⟩),v] 173 (0,0)):=by
  rw [hgrow.block b hlt (fun e=>hne e.symm)]
  exact hbk
 have d0:w2.cell? ⟨b,0,none⟩ = some (.pointer (some ⟨b,0,none⟩)):=by rw [Lib.cell_of_heap hb2];rfl
 have d1:w2.cell? ⟨b,1,none⟩ = some v:=by rw [Lib.cell_of_heap hb2];rfl
 have f1:w2.frozen? ⟨b,1,none⟩ = false:=Lib.frozen_of_heap hb2 1
 obtain ⟨ao,n',cap,rfl⟩:∃ ao n' cap,v' = .slice ao n' cap:=by
  rcases hown'.2 with ⟨hv,_⟩ | ⟨g,cap,cur,fz,hv,_⟩
  ·exact ⟨_,_,_,hv⟩
  ·exact ⟨_,_,_,hv⟩
 go_wp2
 go_ret2
 refine ⟨rfl,?_,?_,(hk1.grown hgrow (Lib.ownsRowF_kind hown)).setCell ⟨b,1,none⟩ rfl _⟩
 ·unfold Bld
  rw [Lib.byteCells_append]
  have hcc:Lib.byteCells s.data.toList=Lib.strCells s:=by rfl
  rw [hcc]
  exact .inr (Lib.BuilderAtF.put (T:=173) (e:=5) hB hb2 (bs' := Lib.byteCells l ++ Lib.strCells s) (by simpa [Lib.strCells_length] using hown') bext169.neB5)
 ·exact (hb1.grown hgrow (by have:=hb1.size;omega) (fun k hk=>(hown.lt k hk).1)).setCell (p:=⟨b,1,none⟩) hB _
theorem bstring (B b:Nat) (l:List UInt8) (w:World) (h:Bld w B b l) (hBw:B≤w.heap.size) :
  Calls Tryz.prog 124 #[.pointer (some ⟨b,0,none⟩)] w fun e w'=>e=.returned (.string ⟨l.toArray⟩)∧Below B w w' := by
 refine (Any.Builder_String_any_k Tryz.lays169 bext169 B b l w h hBw).mono ?_
 rintro e w' ⟨rfl,h1,h2,h3⟩
 exact ⟨rfl,h2⟩
end Lm
end YtaofpigilgapgaaGreatDoor
end Go.Proofs

namespace Go.Proofs.YtaofpigilgapgaaGreatDoor
namespace Lm
open Go Go.RowKit
def skc:Bool→List Nat→List Nat
 | _,[]=>[]
 | true,c :: cs=>skc (decide (c≠10)) cs
 | false,c :: cs=>if gcls c=6 then skc true cs else if gcls c=1 then skc false cs else c :: cs
def inK (ks:List Int) (c:Nat):Bool:=decide (gcls c ∈ ks)
def bts (l:List UInt8):ByteArray:=⟨l.toArray⟩
def Stop (ks:List Int) (r:List Nat):Prop:=∀ c t,r=c :: t→inK ks c=false
inductive TokC:List Nat→Int→ByteArray→List Nat→Prop
 | name (c:Nat) (u r:List Nat) (hc:gcls c=2) (hu:∀ d ∈ c :: u,inK [2,3,4] d=true) (hr:Stop [2,3,4] r) (hl:(c :: u).length≤16):TokC ((c :: u) ++ r) 1 (bts (encs (c :: u))) r
 | num (c:Nat) (u r:List Nat) (n:Nat) (ds:List Int) (hu:∀ d ∈ c :: u,inK [3] d=true) (hr:Stop [3] r) (hn:IsLen (dval (bytesOf (bts (encs (c :: u))))) n) (hl:n≤32) (hd:IsDec ds (dval (bytesOf (bts (encs (c :: u)))))):TokC ((c :: u) ++ r) 2 (strOfNums ds) r
 | two (c:Nat) (x:Int) (r:List Nat) (h:(c=8788∧x=58)∨(c=8800∧x=33)):TokC ([c] ++ r) 3 (strOfNums [x,61]) r
 | pair (c:Nat) (r:List Nat) (h:c=58∨c=33):TokC ([c,61] ++ r) 3 (strOfNums [(c:Int),61]) r
 | sign (c:Nat) (r:List Nat) (hc:gcls c=5) (h:c≠8788∧c≠8800∧c≠58∧c≠33):TokC ([c] ++ r) 3 (strOfNums [gfold c]) r
inductive ScanC:List Nat→List (Int × ByteArray)→Prop
 | done (r:List Nat) (h:skc false r = []):ScanC r [(0,⟨#[]⟩)]
 | tok (r:List Nat) (k:Int) (x:ByteArray) (rest:List Nat) (ts:List (Int × ByteArray)) (h:TokC (skc false r) k x rest) (hr:ScanC rest ts):ScanC r ((k,x) :: ts)
theorem adv_append (p:Pl) (a b:List Nat):adv p (a ++ b)=adv (adv p a) b:=by
 induction a generalizing p with
 | nil=>rfl
 | cons c a ih=>simp only [List.cons_append,adv,ih]
theorem encs_append (a b:List Nat):encs (a ++ b)=encs a ++ encs b:=by
 induction a with
 | nil=>rfl
 | cons c a ih=>simp only [List.cons_append,encs,ih,List.append_assoc]
theorem plf_glf (p:Pl) (cs:List Nat):plf (glf p cs) (adv p cs)=p:=by
 cases cs <;> rfl
theorem skp_glf (b:Bool) (p:Pl) (cs:List Nat):∃ a,cs=a ++ skc b cs∧skp b (glf p cs)=glf (adv p a) (skc b cs):=by
 induction cs generalizing b p with
 | nil=>exact ⟨[],by cases b <;> rfl,by cases b <;> rfl⟩
 | cons c cs ih =>
  cases b with
  | true =>
   obtain ⟨a,h1,h2⟩:=ih (decide (c≠10)) (p.past c (encL c).length)
   refine ⟨c :: a,?_,?_⟩
   ·rw [skc,List.cons_append,←h1]
   ·simp only [glf,skp,skc]
    rw [h2];rfl
  | false =>
   by_cases h6:gcls c=6
   ·obtain ⟨a,h1,h2⟩:=ih true (p.past c (encL c).length)
    refine ⟨c :: a,?_,?_⟩
    ·rw [skc,if_pos h6,List.cons_append,←h1]
    ·simp only [glf,skp,skc]
     rw [if_pos h6,if_pos h6,h2];rfl
   ·by_cases h1c:gcls c=1
    ·obtain ⟨a,h1,h2⟩:=ih false (p.past c (encL c).length)
     refine ⟨c :: a,?_,?_⟩
     ·rw [skc,if_neg h6,if_pos h1c,List.cons_append,←h1]
     ·simp only [glf,skp,skc]
      rw [if_neg h6,if_pos h1c,if_neg h6,if_pos h1c,h2];rfl
    ·refine ⟨[],?_,?_⟩
     ·rw [skc,if_neg h6,if_neg h1c];rfl
     ·simp only [glf,skp,skc]
      rw [if_neg h6,if_neg h1c,if_neg h6,if_neg h1c];rfl
theorem dropWhile_glf (ks:List Int) (p:Pl) (cs:List Nat):∃ u r,cs=u ++ r∧(glf p cs).dropWhile (inC ks)=glf (adv p u) r∧(∀ d ∈ u,inK ks d=true)∧Stop ks r:=by
 induction cs generalizing p with
 | nil=>exact ⟨[],[],rfl,rfl,by simp,by intro c t h;cases h⟩
 | cons c cs ih =>
  by_cases hc:inK ks c=true
  ·obtain ⟨u,r,h1,h2,h3,h4⟩:=ih (p.past c (encL c).length)
   refine ⟨c :: u,r,by rw [List.cons_append,←h1],?_,?_,h4⟩
   ·rw [glf,List.dropWhile_cons_of_pos (show inC ks ⟨c,p⟩ = true from hc),h2];rfl
   ·intro d hd
    rcases List.mem_cons.1 hd with rfl | hd
    ·exact hc
    ·exact h3 d hd
  ·refine ⟨[],c :: cs,rfl,?_,by simp,?_⟩
   ·rw [glf,List.dropWhile_cons_of_neg (show ¬ inC ks ⟨c,p⟩ = true from hc)];rfl
   ·intro d t h
    obtain ⟨rfl,rfl⟩:=List.cons.inj h
    simpa using hc
theorem extract_encs (s:ByteArray) (L:List UInt8) (u r:List Nat) (p:Pl) (hp:p.b=L.length) (h:s.data.toList=L ++ encs (u ++ r)):s.extract p.b (adv p u).b=bts (encs u):=by
 have hd:(s.extract p.b (adv p u).b).data.toList=encs u:=by
  rw [ByteArray.data_extract,Array.toList_extract,List.extract_eq_take_drop,h,encs_append,adv_b,hp,List.drop_left,show L.length+(encs u).length - L.length=(encs u).length from by omega,List.take_left]
 cases hx:s.extract p.b (adv p u).b with
 | mk d =>
  rw [hx] at hd
  unfold bts
  rw [←hd]
theorem gfold_58 {c:Nat} : gfold c=58↔c=58:=by
 unfold gfold
 repeat' split
 all_goals omega
theorem gfold_33 {c:Nat} : gfold c=33↔c=33:=by
 unfold gfold
 repeat' split
 all_goals omega
theorem tokR_C (s:ByteArray) (L:List UInt8) (c:Nat) (t:List Nat) (p:Pl) (hp:p.b=L.length) (h:s.data.toList=L ++ encs (c :: t)) (k:Int) (x:ByteArray) (rest:List Gl)
  (hT:TokR s (adv p (c :: t)) ⟨c,p⟩ (glf (p.past c (encL c).length) t) (.ok k x rest)):∃ v r,c :: t=v ++ r∧rest=glf (adv p v) r∧TokC (c :: t) k x r:=by
 unfold TokR at hT
 have hgl:(⟨c,p⟩:Gl) :: glf (p.past c (encL c).length) t=glf p (c :: t):=rfl
 rw [hgl] at hT
 simp only at hT
 by_cases c2:gcls c=2
 ·rw [if_pos c2] at hT
  obtain ⟨u,r,h1,h2,h3,h4⟩:=dropWhile_glf [2,3,4] p (c :: t)
  have hcu:∃ u',u=c :: u' := by
   cases u with
   | nil =>
    have:=h4 c t (by simpa using h1.symm)
    simp [inK,c2] at this
   | cons d u' =>
    obtain ⟨rfl,_⟩:=List.cons.inj h1
    exact ⟨u',rfl⟩
  obtain ⟨u',rfl⟩:=hcu
  rw [h2] at hT
  by_cases h16:16<(glf p (c :: t)).length - (glf (adv p (c :: u')) r).length
  ·rw [if_pos h16] at hT;cases hT
  ·rw [if_neg h16] at hT
   injection hT with e1 e2 e3
   subst e1 e3
   rw [glf_len,glf_len] at h16
   have hpe:plf (glf (adv p (c :: u')) r) (adv p (c :: t))=adv p (c :: u'):=by rw [h1,adv_append,plf_glf]
   rw [hpe,extract_encs s L (c :: u') r p hp (by rw [h,h1])] at e2
   refine ⟨c :: u',r,h1,rfl,?_⟩
   rw [e2,h1]
   refine .name c u' r c2 h3 h4 ?_
   rw [h1,List.length_append] at h16
   omega
 ·rw [if_neg c2] at hT
  by_cases c3:gcls c=3
  ·rw [if_pos c3] at hT
   obtain ⟨n,ds,hn,hd,hT⟩:=hT
   obtain ⟨u,r,h1,h2,h3,h4⟩:=dropWhile_glf [3] p (c :: t)
   have hcu:∃ u',u=c :: u' := by
    cases u with
    | nil =>
     have:=h4 c t (by simpa using h1.symm)
     simp [inK,c3] at this
    | cons d u' =>
     obtain ⟨rfl,_⟩:=List.cons.inj h1
     exact ⟨u',rfl⟩
   obtain ⟨u',rfl⟩:=hcu
   have hpe:plf (glf (adv p (c :: u')) r) (adv p (c :: t))=adv p (c :: u'):=by rw [h1,adv_append,plf_glf]
   rw [h2,hpe,extract_encs s L (c :: u') r p hp (by rw [h,h1])] at hn hd
   rw [h2] at hT
   by_cases h32:32<n
   ·rw [if_pos h32] at hT;cases hT
   ·rw [if_neg h32] at hT
    injection hT with e1 e2 e3
    subst e1 e3
    refine ⟨c :: u',r,h1,rfl,?_⟩
    rw [e2,h1]
    exact .num c u' r n ds h3 h4 hn (by omega) hd
  ·rw [if_neg c3] at hT
   by_cases c5:gcls c=5
   ·rw [if_pos c5] at hT
    unfold signS at hT
    by_cases a1:gfold c=8788
    ·rw [if_pos a1] at hT
     injection hT with e1 e2 e3
     subst e1 e2 e3
     have hc:c=8788:=by
      unfold gfold at a1
      repeat' split at a1
      all_goals omega
     exact ⟨[c],t,rfl,rfl,.two c 58 t (.inl ⟨hc,rfl⟩)⟩
    rw [if_neg a1] at hT
    by_cases a2:gfold c=8800
    ·rw [if_pos a2] at hT
     injection hT with e1 e2 e3
     subst e1 e2 e3
     have hc:c=8800:=by
      unfold gfold at a2
      repeat' split at a2
      all_goals omega
     exact ⟨[c],t,rfl,rfl,.two c 33 t (.inr ⟨hc,rfl⟩)⟩
    rw [if_neg a2] at hT
    by_cases a3:gfold c=58∨gfold c=33
    ·rw [if_pos a3] at hT
     cases t with
     | nil=>cases hT
     | cons d t =>
      simp only [glf] at hT
      by_cases hd:d=61
      ·rw [if_pos hd] at hT
       injection hT with e1 e2 e3
       subst e1 e2 e3 hd
       have hc:c=58∨c=33:=by
        rcases a3 with a | a
        ·exact .inl (gfold_58.1 a)
        ·exact .inr (gfold_33.1 a)
       have hg:gfold c=(c:Int):=by rcases hc with rfl | rfl <;> rfl
       rw [hg]
       exact ⟨[c,61],t,rfl,rfl,.pair c t hc⟩
      ·rw [if_neg hd] at hT;cases hT
    ·rw [if_neg a3] at hT
     injection hT with e1 e2 e3
     subst e1 e2 e3
     refine ⟨[c],t,rfl,rfl,.sign c t c5 ⟨?_,?_,?_,?_⟩⟩
     ·rintro rfl;exact a1 rfl
     ·rintro rfl;exact a2 rfl
     ·rintro rfl;exact a3 (.inl rfl)
     ·rintro rfl;exact a3 (.inr rfl)
   ·rw [if_neg c5] at hT;cases hT
theorem scanR_C (s:ByteArray) (cs:List Nat) (L:List UInt8) (p:Pl) (hp:p.b=L.length) (h:s.data.toList=L ++ encs cs) (l:List Tk) (hR:ScanR s (adv p cs) (glf p cs) (.ok l)):ScanC cs (l.map fun t=>(t.kind,t.text)):=by
 generalize hg:glf p cs=gs at hR
 generalize he:adv p cs=e at hR
 generalize ho:SO.ok l=o at hR
 induction hR generalizing cs L p l with
 | done r h1 hb =>
  cases ho
  subst hg
  obtain ⟨a,h2,h3⟩:=skp_glf false p cs
  rw [h1] at h3
  refine .done cs ?_
  cases hx:skc false cs with
  | nil=>rfl
  | cons c t=>rw [hx] at h3;cases h3
 | rune r h1 hb=>cases ho
 | bad r g t k h1 ht=>cases ho
 | tok r g t kind text rest o h1 ht hr ih =>
  subst hg he
  cases o with
  | bad k p=>cases ho
  | ok l' =>
   simp only [SO.pre,SO.ok.injEq] at ho
   subst ho
   obtain ⟨a,h2,h3⟩:=skp_glf false p cs
   rw [h1] at h3
   cases hx:skc false cs with
   | nil=>rw [hx] at h3;cases h3
   | cons c t' =>
    rw [hx] at h3 h2
    simp only [glf] at h3
    obtain ⟨rfl,rfl⟩:=List.cons.inj h3
    have hpa:(adv p a).b=(L ++ encs a).length:=by rw [adv_b,hp,List.length_append]
    have hsa:s.data.toList=(L ++ encs a) ++ encs (c :: t'):=by rw [h,List.append_assoc,←encs_append,←h2]
    have hea:adv p cs=adv (adv p a) (c :: t'):=by rw [←adv_append,←h2]
    rw [hea] at ht
    obtain ⟨v,r,h4,rfl,h6⟩:=tokR_C s _ c t' _ hpa hsa _ _ _ ht
    refine .tok cs _ _ r _ (by rw [hx];exact h6) ?_
    exact ih r ((L ++ encs a) ++ encs v) (adv (adv p a) v) (by rw [adv_b,hpa,←List.length_append]) (by rw [hsa,h4,encs_append,List.append_assoc,List.append_assoc,List.append_assoc]) l' rfl (by rw [hea,h4,adv_append]) rfl
end Lm
end Go.Proofs.YtaofpigilgapgaaGreatDoor

namespace Go.Proofs.YtaofpigilgapgaaGreatDoor
namespace Lm
open Go Go.RowKit
theorem decN_back {n b0 b1 b2 b3:Nat} (_h0:b0<256) (_h1:b1<256) (_h2:b2<256) (_h3:b3<256) {c k:Nat} (h:Lib.decodeN n b0 b1 b2 b3=(c,k)) (hv:(c,k)≠(65533,1)) :
  (k=1∧c=b0∧c<128)∨(k=2∧128≤c∧c<2048∧b0=192+c / 64∧b1=128+c % 64) ∨
  (k=3∧2048≤c∧c<65536∧b0=224+c / 4096∧b1=128+c / 64 % 64∧b2=128+c % 64) ∨
  (k=4∧65536≤c∧c≤1114111∧b0=240+c / 262144∧b1=128+c / 4096 % 64∧b2=128+c / 64 % 64∧b3=128+c % 64):=by
 unfold Lib.decodeN at h
 repeat' split at h
 all_goals try exact absurd h.symm hv
 all_goals (simp only [Prod.mk.injEq] at h;obtain ⟨rfl,rfl⟩:=h)
 ·exact .inl (by omega)
 ·exact .inr (.inl (by omega))
 ·exact .inr (.inr (.inl (by omega)))
 ·exact .inr (.inr (.inr (by omega)))
theorem ext_one (s:ByteArray) (i:Nat) (h:i<s.size) (k:Nat) (hk:i+(k+1)≤s.size):(s.extract i (i+(k+1))).data.toList=s.get! i :: (s.extract (i+1) (i+1+k)).data.toList:=by
 have hl:i<s.data.toList.length:=h
 rw [ByteArray.data_extract,ByteArray.data_extract,Array.toList_extract,Array.toList_extract,List.extract_eq_take_drop,List.extract_eq_take_drop,List.drop_eq_getElem_cons hl,show i+(k+1) - i=k+1 from by omega,show i+1+k - (i+1)=k from by omega,List.take_succ_cons]
 congr 1
 cases s with
 | mk d=>exact (getElem!_pos d i h).symm
theorem ext_nil (s:ByteArray) (i:Nat):(s.extract i (i+0)).data.toList = []:=by
 rw [ByteArray.data_extract];simp
end Lm
end Go.Proofs.YtaofpigilgapgaaGreatDoor

namespace Go.Proofs.YtaofpigilgapgaaGreatDoor
namespace Lm
open Go Go.RowKit
theorem decN_cod {n b0 b1 b2 b3:Nat} (h0:b0<256) {c k:Nat} (h:Lib.decodeN n b0 b1 b2 b3=(c,k)) (hv:(c,k)≠(65533,1)):Cod c:=by
 unfold Lib.decodeN at h
 repeat' split at h
 all_goals try exact absurd h.symm hv
 all_goals (simp only [Prod.mk.injEq] at h;obtain ⟨rfl,rfl⟩:=h)
 all_goals (unfold Cod;omega)
theorem u8_of {u:UInt8} {n:Nat} (h:u.toNat=n):u=n.toUInt8:=by
 subst h
 exact UInt8.toNat_inj.1 (by rw [Nat.toUInt8,UInt8.toNat_ofNat'];have:=UInt8.toNat_lt u;omega)
theorem dec_bytes (s:ByteArray) (i:Nat) (h:i<s.size) (hv:Utf8.decode s i≠(65533,1)):Cod (Utf8.decode s i).1∧(s.extract i (i+(Utf8.decode s i).2)).data.toList=encL (Utf8.decode s i).1∧(Utf8.decode s i).2=(encL (Utf8.decode s i).1).length:=by
 have hl:=dec_le s i h
 obtain ⟨c,k,e⟩:∃ c k,Utf8.decode s i=(c,k):=⟨_,_,rfl⟩
 rw [e] at hv hl ⊢
 rw [Lib.decode_at] at e
 simp only at hl ⊢
 refine ⟨decN_cod (UInt8.toNat_lt _) e hv,?_⟩
 rcases decN_back (UInt8.toNat_lt _) (UInt8.toNat_lt _) (UInt8.toNat_lt _) (UInt8.toNat_lt _) e hv with ⟨rfl,h1,h2⟩ | ⟨rfl,h1,h2,h3,h4⟩ | ⟨rfl,h1,h2,h3,h4,h5⟩ | ⟨rfl,h1,h2,h3,h4,h5,h6⟩
 ·unfold encL
  rw [if_pos h2,ext_one s i h 0 (by omega),ext_nil,u8_of h1.symm]
  exact ⟨rfl,rfl⟩
 ·unfold encL
  rw [if_neg (by omega),if_pos h2,ext_one s i h 1 (by omega),ext_one s (i+1) (by omega) 0 (by omega),ext_nil,u8_of h3,u8_of h4]
  exact ⟨rfl,rfl⟩
 ·unfold encL
  rw [if_neg (by omega),if_neg (by omega),if_pos h2,ext_one s i h 2 (by omega),ext_one s (i+1) (by omega) 1 (by omega),ext_one s (i+1+1) (by omega) 0 (by omega),ext_nil,u8_of h3,u8_of h4,u8_of h5]
  exact ⟨rfl,rfl⟩
 ·unfold encL
  rw [if_neg (by omega),if_neg (by omega),if_neg (by omega),ext_one s i h 3 (by omega),ext_one s (i+1) (by omega) 2 (by omega),ext_one s (i+1+1) (by omega) 1 (by omega),ext_one s (i+1+1+1) (by omega) 0 (by omega),ext_nil,u8_of h3,u8_of h4,u8_of h5,u8_of h6]
  exact ⟨rfl,rfl⟩
theorem snd_codes {s:ByteArray} {p e:Pl} {gs:List Gl} (h:Snd s p gs e) (he:s.size≤e.b) (hb:p.b≤s.size):∃ cs,gs=glf p cs∧e=adv p cs∧(∀ c ∈ cs,Cod c)∧(s.data.toList.drop p.b)=encs cs:=by
 induction h with
 | stop p h =>
  refine ⟨[],rfl,rfl,by simp,?_⟩
  rw [List.drop_eq_nil_of_le (by show s.data.toList.length≤p.b;exact he)]
  rfl
 | go p gs e h1 h2 hr ih =>
  have hd:=dec_le s p.b h1
  obtain ⟨k1,k2,k3⟩:=dec_bytes s p.b h1 h2
  obtain ⟨cs,i1,i2,i3,i4⟩:=ih he (by simp only [Pl.past];omega)
  rw [k3] at i1 i2
  refine ⟨(Utf8.decode s p.b).1 :: cs,by rw [i1];rfl,by rw [i2];rfl,?_,?_⟩
  ·intro c hc
   rcases List.mem_cons.1 hc with rfl | hc
   ·exact k1
   ·exact i3 c hc
  ·rw [encs,←i4,←k2,ByteArray.data_extract,Array.toList_extract,List.extract_eq_take_drop,show p.b+(Utf8.decode s p.b).2 - p.b=(Utf8.decode s p.b).2 from by omega]
   simp only [Pl.past]
   rw [←List.drop_drop,List.take_append_drop]
theorem scanR_end {s:ByteArray} {e:Pl} {gs:List Gl} {l:List Tk} (h:ScanR s e gs (.ok l)):s.size≤e.b:=by
 generalize ho:SO.ok l=o at h
 induction h generalizing l with
 | done r h hb=>exact hb
 | rune r h hb=>cases ho
 | bad r g t k h ht=>cases ho
 | tok r g t kind text rest o h ht hr ih =>
  cases o with
  | bad k p=>cases ho
  | ok l'=>exact ih rfl
theorem tokR_bad {s:ByteArray} {e:Pl} {g:Gl} {r:List Gl} {k:Int} (h:TokR s e g r (.bad k)):k=42∨k=2∨k=41:=by
 unfold TokR at h
 split at h
 ·split at h
  ·injection h with h;exact .inl h
  ·cases h
 ·split at h
  ·obtain ⟨n,ds,_,_,h⟩:=h
   split at h
   ·injection h with h;exact .inr (.inl h)
   ·cases h
  ·split at h
   ·unfold signS at h
    split at h
    ·cases h
    ·split at h
     ·cases h
     ·split at h
      ·split at h
       ·injection h with h;exact .inr (.inr h)
       ·split at h
        ·cases h
        ·injection h with h;exact .inr (.inr h)
      ·cases h
   ·injection h with h;exact .inr (.inr h)
theorem scanR_bad {s:ByteArray} {e:Pl} {gs:List Gl} {k:Int} {p:Pl} (h:ScanR s e gs (.bad k p)):k≠0:=by
 generalize ho:SO.bad k p=o at h
 induction h with
 | done r h hb=>cases ho
 | rune r h hb=>injection ho with e1 _;omega
 | bad r g t k' h ht =>
  injection ho with e1 _
  subst e1
  rcases tokR_bad ht with h | h | h <;> omega
 | tok r g t kind text rest o h ht hr ih =>
  cases o with
  | bad k' p'=>exact ih ho
  | ok l'=>cases ho
end Lm
end Go.Proofs.YtaofpigilgapgaaGreatDoor

namespace Go.Proofs.YtaofpigilgapgaaGreatDoor
namespace Lm
open Go Go.RowKit
theorem skp_drop (c:Bool) (l:List Gl):∃ j,j≤l.length∧skp c l=l.drop j:=by
 induction l generalizing c with
 | nil=>exact ⟨0,Nat.le_refl _,by cases c <;> rfl⟩
 | cons x l ih =>
  cases c with
  | true =>
   obtain ⟨j,h1,h2⟩:=ih (decide (x.code≠10))
   exact ⟨j+1,by simp;omega,by rw [skp,h2];rfl⟩
  | false =>
   by_cases h6:gcls x.code=6
   ·obtain ⟨j,h1,h2⟩:=ih true
    exact ⟨j+1,by simp;omega,by rw [skp,if_pos h6,h2];rfl⟩
   ·by_cases h1c:gcls x.code=1
    ·obtain ⟨j,h1,h2⟩:=ih false
     exact ⟨j+1,by simp;omega,by rw [skp,if_neg h6,if_pos h1c,h2];rfl⟩
    ·exact ⟨0,Nat.zero_le _,by rw [skp,if_neg h6,if_neg h1c];rfl⟩
end Lm
end Go.Proofs.YtaofpigilgapgaaGreatDoor

namespace Go.Proofs.YtaofpigilgapgaaGreatDoor
namespace Lm
open Go Go.RowKit
def nmS (s:ByteArray):SO→Bool
 | .ok (t :: _)=>(t.kind == 1) && (t.text.toList == s.toList)
 | _=>false
theorem encs_nil {u:List Nat} (h:encs u = []):u = []:=by
 cases u with
 | nil=>rfl
 | cons c u =>
  have h1:=encL_pos c
  have h2:=congrArg List.length h
  simp only [encs,List.length_append,List.length_nil] at h2
  omega
theorem name_two {s:ByteArray} {gs:List Gl} {e:Pl} {l:List Tk} (hQ:Snd s pl0 gs e) (hR:ScanR s e gs (.ok l)):∃ t r,l=t :: r∧(t.kind=1→t.text=s→l.length=2):=by
 obtain ⟨cs,rfl,rfl,hc,hb⟩:=snd_codes hQ (scanR_end hR) (Nat.zero_le _)
 have hsb:s.data.toList = [] ++ encs cs:=by simpa [pl0] using hb
 have hC:=scanR_C s cs [] pl0 rfl hsb l hR
 generalize hm:(l.map fun t=>(t.kind,t.text))=ts at hC
 cases hC with
 | done _ h1 =>
  cases l with
  | nil=>simp at hm
  | cons t r =>
   refine ⟨t,r,rfl,fun hk _=>?_⟩
   simp only [List.map_cons,List.cons.injEq,Prod.mk.injEq] at hm
   omega
 | tok _ k x rest ts' h1 h2 =>
  cases l with
  | nil=>simp at hm
  | cons t r =>
   refine ⟨t,r,rfl,fun hk hx=>?_⟩
   simp only [List.map_cons,List.cons.injEq,Prod.mk.injEq] at hm
   obtain ⟨⟨e1,e2⟩,e3⟩:=hm
   obtain ⟨a,hsp,_⟩:=skp_glf false pl0 cs
   have hk1:k=1:=by omega
   have hxs:x=s:=by rw [←e2,hx]
   clear e1 e2 hk hx
   subst hk1
   generalize hq:skc false cs=q at h1 hsp
   cases h1 with
   | name c u _ hc2 hu hr hl =>
    have h3:=congrArg (fun b=>b.data.toList) hxs
    rw [hsb,hsp,encs_append,encs_append] at h3
    simp only [bts,List.nil_append] at h3
    have h4:=congrArg List.length h3
    simp only [List.length_append] at h4
    have h5:encs rest = []:=List.eq_nil_of_length_eq_zero (by omega)
    have h6:=encs_nil h5
    subst h6
    cases h2 with
    | done _ _ =>
     have:=congrArg List.length e3
     simpa using this
    | tok _ _ _ _ _ h7 _ =>
     exfalso
     generalize hz:skc false []=z at h7
     have:z = []:=by rw [←hz];rfl
     subst this
     generalize hy:([]:List Nat)=y at h7
     cases h7 <;> simp at hy
set_option maxRecDepth 20000 in
set_option maxHeartbeats 2000000 in
theorem name_prog (w:World) (hT:Tabs w) (s:ByteArray) (hs:s.size≤4096) (gs:List Gl) (e:Pl) (hQ:Snd s pl0 gs e) :
  Calls Tryz.prog 43 #[.string s] w fun r w'=>Below w.heap.size w w'∧∃ o,ScanR s e gs o∧r=.returned (.bool (nmS s o)):=by
 have HT:=hide hT
 have HQ:=hide hQ
 clear hT hQ
 go_enter Tryz.func43,Tryz.ntmps43
 go_wp2_with fail
 refine (scan_short w s HT.out hs).mono ?_
 rintro r w1 ⟨hb1,gs',e',o,h1,h2,h3⟩
 obtain ⟨rfl,rfl⟩:=h1.one HQ.out
 have HB:=hide (hb1.alloc hb1.size (.cells #[.int .i64 0,.int .i64 0,.int .i64 0,.int .i64 0] 51))
 have HBr:=hide hb1
 have HR:=hide h2
 clear hb1 h1
 cases o with
 | bad k p =>
  have hk:(k == 0)=false:=beq_eq_false_iff_ne.2 (scanR_bad h2)
  obtain rfl:=h3
  clear h2
  unfold Pl.v
  go_wp2
  go_ret
  exact ⟨HBr.out.alloc HBr.out.size _,_,HR.out,rfl⟩
 | ok l =>
  obtain ⟨v,rfl,hown⟩:=h3
  have hTs:Ts w1 v l:=Ts.own hown
  obtain ⟨t,rr,rfl,_⟩:=name_two HQ.out h2
  obtain ⟨ao,cap,rfl,hn⟩:=hTs.parts
  obtain ⟨b,off,rfl,g⟩:=hTs.tok (i:=0) (t:=t) rfl
  obtain ⟨_,a0,a1,_,_,_,_⟩:=g.below ((Below.refl _ _).alloc (Nat.le_refl _) (.cells #[.int .i64 0,.int .i64 0,.int .i64 0,.int .i64 0] 51))
  rw [Nat.zero_mul,Nat.add_zero] at a0 a1
  have hln:(0:Int)<((t :: rr).length:Int):=by simp
  clear g hown h2 hTs
  generalize (t :: rr).length=n at hn hln ⊢
  unfold Pl.v
  simp only [plz]
  by_cases hk:t.kind=1
  ·have hk' : (t.kind == 1)=true:=by rw [hk];rfl
   go_wp2
   go_ret
   exact ⟨HB.out,_,HR.out,by simp only [nmS,hk',Bool.true_and];rfl⟩
  ·have hk' : (t.kind == 1)=false:=beq_eq_false_iff_ne.2 hk
   go_wp2
   go_ret
   exact ⟨HB.out,_,HR.out,by simp only [nmS,hk',Bool.false_and];rfl⟩
set_option maxRecDepth 20000 in
set_option maxHeartbeats 1000000 in
theorem name_long (w:World) (s:ByteArray) (hs:4096<s.size) :
  Calls Tryz.prog 43 #[.string s] w fun r w'=>Below w.heap.size w w'∧r=.returned (.bool false):=by
 go_enter Tryz.func43,Tryz.ntmps43
 go_wp2_with fail
 refine (scan_long w s hs).mono ?_
 rintro r w1 ⟨hb1,rfl⟩
 unfold Pl.v
 go_wp2
 go_ret
 exact ⟨hb1.alloc hb1.size _,rfl⟩
end Lm
end Go.Proofs.YtaofpigilgapgaaGreatDoor

namespace Go.Proofs.YtaofpigilgapgaaGreatDoor
namespace Lm
open Go Go.RowKit
def ixS (x:ByteArray):List ByteArray→Option Nat
 | []=>none
 | y :: r=>if y=x then some 0 else (ixS x r).map (·+1)
theorem ixS_none {x:ByteArray} {ss:List ByteArray} (h:x ∉ ss):ixS x ss=none:=by
 induction ss with
 | nil=>rfl
 | cons y r ih =>
  rw [ixS,if_neg (fun e=>h (by simp [e])),ih (fun e=>h (by simp [e]))]
  rfl
theorem ixS_some {x:ByteArray} {ss:List ByteArray} {k:Nat} (h:x ∉ ss.take k) (hk:ss[k]? = some x):ixS x ss=some k:=by
 induction ss generalizing k with
 | nil=>simp at hk
 | cons y r ih =>
  cases k with
  | zero =>
   simp at hk
   rw [ixS,if_pos hk]
  | succ k =>
   simp only [List.take_succ_cons,List.mem_cons,not_or] at h
   rw [ixS,if_neg (fun e=>h.1 e.symm),ih h.2 (by simpa using hk)]
   rfl
theorem ixS_at {x:ByteArray} {ss:List ByteArray} {k:Nat} (h:ixS x ss=some k):ss[k]? = some x:=by
 induction ss generalizing k with
 | nil=>simp [ixS] at h
 | cons y r ih =>
  rw [ixS] at h
  split at h
  ·next e=>obtain rfl:=Option.some.inj h;simp [e]
  ·cases hr:ixS x r with
   | none=>rw [hr] at h;simp at h
   | some m =>
    rw [hr] at h
    simp at h
    subst h
    simpa using ih hr
theorem ixS_not {x:ByteArray} {ss:List ByteArray} (h:ixS x ss=none):x ∉ ss:=by
 induction ss with
 | nil=>simp
 | cons y r ih =>
  rw [ixS] at h
  split at h
  ·simp at h
  ·next e =>
   have:ixS x r=none:=by cases hr:ixS x r <;> simp [hr] at h ⊢
   simp only [List.mem_cons,not_or]
   exact ⟨fun e'=>e e'.symm,ih this⟩
def ixV (o:Option Nat):Value:=match o with | some k=>.int .i64 (k:Int) | none=>.int .i64 (-1)
theorem Strs.parts {w:World} {ao:Option Addr} {n cap:Nat} {ss:List ByteArray} (h:Strs w (.slice ao n cap) ss):n=ss.length∧n≤9223372036854775807∧n≤cap∧cap≤9223372036854775807:=by
 obtain ⟨ao',cap',hv,c1,c2,c3,c4⟩:=h
 obtain ⟨rfl,rfl,rfl⟩:=(Value.slice.injEq .. ▸ hv)
 exact ⟨rfl,by omega,c1,c2⟩
theorem Strs.take {w:World} {ao:Option Addr} {n cap:Nat} {ss:List ByteArray} (h:Strs w (.slice ao n cap) ss) (k:Nat) (hk:k≤ss.length):Strs w (.slice ao k cap) (ss.take k):=by
 obtain ⟨ao',cap',hv,c1,c2,c3,c4⟩:=h
 obtain ⟨rfl,rfl,rfl⟩:=(Value.slice.injEq .. ▸ hv)
 refine ⟨ao,cap,by rw [List.length_take,Nat.min_eq_left hk],by rw [List.length_take];omega,c2,by simp,?_⟩
 rcases c4 with c4 | ⟨b,off,rfl,hl,hc⟩
 ·exact .inl (by rw [List.length_take];omega)
 ·refine .inr ⟨b,off,rfl,hl,fun j u hu=>hc j u ?_⟩
  rw [List.map_take,List.getElem?_take] at hu
  split at hu
  ·exact hu
  ·cases hu
set_option maxRecDepth 20000 in
set_option maxHeartbeats 1000000 in
theorem indexs_any (w:World) (ao:Option Addr) (n cap:Nat) (ss:List ByteArray) (x:ByteArray) (h:Strs w (.slice ao n cap) ss) :
  Calls Tryz.prog 90 #[.slice ao n cap,.string x] w fun e w'=>e=.returned (ixV (ixS x ss))∧w' = w:=by
 obtain ⟨hn,hb,_,_⟩:=h.parts
 have H:=hide h
 clear h
 go_enter Tryz.func90,Tryz.ntmps90
 go_wp2
 go_loopw [5,8] (fun _ iv wr=>∃ (i:Nat),iv=.int .i64 i∧i≤n∧x ∉ ss.take i∧wr=w) (fun _ iv _=>n - (intOf iv).toNat)
 case atStart=>exact ⟨0,rfl,Nat.zero_le _,by simp,rfl⟩
 case round =>
  obtain ⟨i,rfl,hi,hz,rfl⟩:=hrel
  have HZ:=hide hz
  clear hz
  by_cases hlt:i<n
  ·have hget:ss[i]? = some (ss[i]'(by omega)):=List.getElem?_eq_getElem _
   obtain ⟨b,off,rfl,hbl,hc⟩:=H.out.cell hget
   have hlt' : (i:Int)<(n:Int):=by omega
   generalize ss[i]'(by omega)=y at hc hget
   have HG:=hide hget
   clear hget
   by_cases he:x=y
   ·subst he
    go_wp2
    go_ret
    exact ⟨by rw [ixS_some HZ.out HG.out];rfl,rfl⟩
   ·have hne:(x.toList == y.toList)=false:=ba_ne he
    go_wp2
    go_roundw
    case rel=>exact ⟨i+1,by go_num,by omega,by rw [List.take_add_one,HG.out];simp [HZ.out,he],trivial⟩
    case measure=>simp [intOf];omega
  ·have hlt' : decide ((i:Int)<(n:Int))=false:=by simp;omega
   go_wp2
   go_ret
   exact ⟨by have:=HZ.out;rw [List.take_of_length_le (by omega)] at this;rw [ixS_none this];rfl,rfl⟩
set_option maxRecDepth 20000 in
set_option maxHeartbeats 1000000 in
theorem containss_any (w:World) (ao:Option Addr) (n cap:Nat) (ss:List ByteArray) (x:ByteArray) (h:Strs w (.slice ao n cap) ss) :
  Calls Tryz.prog 44 #[.slice ao n cap,.string x] w fun e w'=>e=.returned (.bool (ixS x ss).isSome)∧w' = w:=by
 have K:=hide (indexs_any w ao n cap ss x h)
 clear h
 generalize hg:ixS x ss=o at K
 have HG:=hide hg
 clear hg
 cases o with
 | none =>
  unfold ixV at K
  go_enter Tryz.func44,Tryz.ntmps44
  go_wp2_with fail
  refine K.out.mono ?_
  rintro e w' ⟨rfl,rfl⟩
  go_wp2
  go_ret
  exact ⟨rfl,rfl⟩
 | some k =>
  unfold ixV at K
  have hk:(0:Int)≤(k:Int):=by omega
  go_enter Tryz.func44,Tryz.ntmps44
  go_wp2_with fail
  refine K.out.mono ?_
  rintro e w' ⟨rfl,rfl⟩
  go_wp2
  go_ret
  exact ⟨rfl,rfl⟩
open Classical in
noncomputable def isNm (s:ByteArray):Bool:=decide (s.size≤4096∧∃ gs e o,Snd s pl0 gs e∧ScanR s e gs o∧nmS s o=true)
open Classical in
theorem isNm_eq {s:ByteArray} {gs:List Gl} {e:Pl} {o:SO} (hs:s.size≤4096) (hQ:Snd s pl0 gs e) (hR:ScanR s e gs o):nmS s o=isNm s:=by
 unfold isNm
 by_cases h:nmS s o=true
 ·rw [h,decide_eq_true ⟨hs,gs,e,o,hQ,hR,h⟩]
 ·rw [Bool.not_eq_true] at h
  rw [h,eq_comm,decide_eq_false_iff_not]
  rintro ⟨_,gs',e',o',h1,h2,h3⟩
  obtain ⟨rfl,rfl⟩:=h1.one hQ
  obtain rfl:=h2.one hR
  rw [h] at h3
  cases h3
open Classical in
theorem isNm_long {s:ByteArray} (hs:4096<s.size):isNm s=false:=by
 unfold isNm
 rw [decide_eq_false_iff_not]
 rintro ⟨h,_⟩
 omega
theorem name_is (w:World) (hT:Tabs w) (s:ByteArray):Calls Tryz.prog 43 #[.string s] w fun r w'=>Below w.heap.size w w'∧r=.returned (.bool (isNm s)):=by
 by_cases hs:4096<s.size
 ·rw [isNm_long hs]
  exact name_long w s hs
 ·obtain ⟨gs,e,hQ⟩:=snd_is s s.size pl0 (by simp [pl0])
  refine (name_prog w hT s (by omega) gs e hQ).mono ?_
  rintro r w' ⟨hb,o,hR,rfl⟩
  exact ⟨hb,by rw [isNm_eq (by omega) hQ hR]⟩
def NmsOk (vs:List ByteArray):Prop:=vs.length≤16∧∀ (i:Nat) (x:ByteArray),vs[i]? = some x→isNm x=true∧x ∉ vs.take i
open Classical in
noncomputable def nmsE (vs:List ByteArray):Int:=if NmsOk vs then 0 else 1
set_option maxRecDepth 20000 in
set_option maxHeartbeats 2000000 in
theorem names_any (w:World) (hT:Tabs w) (v:Value) (vs:List ByteArray) (h:Strs w v vs) :
  Calls Tryz.prog 12 #[v] w fun e w'=>e=.returned (.int .i64 (nmsE vs))∧Below w.heap.size w w' := by
 obtain ⟨ao,cap,rfl,_⟩:=id h
 obtain ⟨_,hb,hb2,hb3⟩:=h.parts
 have H:=hide h
 have HT:=hide hT
 clear h hT
 obtain ⟨n,hn⟩:∃ n,vs.length=n:=⟨_,rfl⟩
 rw [hn] at H hb hb2 ⊢
 have HN:=hide hn
 clear hn
 by_cases hbig:16<n
 ·have hbig' : (16:Int)<(n:Int):=by omega
  have he:nmsE vs=1:=if_neg (fun h=>by have:=h.1;rw [HN.out] at this;omega)
  rw [he]
  clear he
  go_enter Tryz.func12,Tryz.ntmps12
  go_wp2
  go_ret
  exact ⟨rfl,Below.refl _ _⟩
 have hbig' : decide ((16:Int)<(n:Int))=false:=by simp;omega
 go_enter Tryz.func12,Tryz.ntmps12
 go_wp2
 go_loopw [3,4,10] (fun _ _ iv wr=>∃ (i:Nat),iv=.int .i64 i∧i≤n∧(∀ (j:Nat) (x:ByteArray),j<i→vs[j]? = some x→isNm x=true∧x ∉ vs.take j)∧Below w.heap.size w wr) (fun _ _ iv _=>n - (intOf iv).toNat)
 case atStart=>exact ⟨0,rfl,Nat.zero_le _,by intro j x hj;omega,Below.refl _ _⟩
 case round =>
  obtain ⟨i,rfl,hi,hz,hbw⟩:=hrel
  have HZ:=hide hz
  have HW:=hide hbw
  clear hz hbw
  by_cases hlt:i<n
  ·have hget:vs[i]? = some (vs[i]'(by have:=HN.out;omega)):=List.getElem?_eq_getElem _
   generalize vs[i]'(by have:=HN.out;omega)=x at hget
   obtain ⟨b,off,rfl,hbl,hc⟩:=(H.out.below HW.out).cell hget
   have HG:=hide hget
   have HS:=hide (H.out.below HW.out)
   have hlt' : (i:Int)<(n:Int):=by omega
   clear hget
   have K:=hide (name_is wr (HT.out.below HW.out) x)
   cases hnm:isNm x with
   | false =>
    have HNM:=hide hnm
    rw [hnm] at K
    clear hnm
    have HE:Hid (nmsE vs=1):=if_neg (fun h=>by have:=(h.2 i x HG.out).1;rw [HNM.out] at this;cases this)
    go_wp2_with fail
    refine K.out.mono ?_
    rintro r w1 ⟨hb1,rfl⟩
    have HB1:=hide (HW.out.trans (hb1.mono HW.out.size))
    clear hb1
    go_wp2
    go_ret
    exact ⟨by rw [HE.out];rfl,HB1.out⟩
   | true =>
    have HNM:=hide hnm
    rw [hnm] at K
    clear hnm
    go_wp2_with fail
    refine K.out.mono ?_
    rintro r w1 ⟨hb1,rfl⟩
    have HB1:=hide (HW.out.trans (hb1.mono HW.out.size))
    have HS1:=hide ((HS.out.below hb1).take i (by have:=HN.out;omega))
    clear hb1
    have K2:=hide (containss_any w1 _ _ _ _ x HS1.out)
    by_cases hm:x ∈ vs.take i
    ·have e1:(ixS x (vs.take i)).isSome=true:=by
      cases hq:ixS x (vs.take i) with
      | none=>exact absurd hm (ixS_not hq)
      | some k=>rfl
     rw [e1] at K2
     have HE:Hid (nmsE vs=1):=if_neg (fun h=>(h.2 i x HG.out).2 hm)
     clear e1
     go_wp2_with fail
     refine K2.out.mono ?_
     rintro r w2 ⟨rfl,rfl⟩
     go_wp2
     go_ret
     exact ⟨by rw [HE.out];rfl,HB1.out⟩
    ·have e1:(ixS x (vs.take i)).isSome=false:=by rw [ixS_none hm];rfl
     rw [e1] at K2
     have HM:=hide hm
     clear e1 hm
     go_wp2_with fail
     refine K2.out.mono ?_
     rintro r w2 ⟨rfl,rfl⟩
     go_wp2
     go_roundw
     case rel =>
      refine ⟨i+1,by go_num,by omega,?_,HB1.out⟩
      intro j y hj hy
      by_cases hji:j=i
      ·subst hji
       rw [HG.out] at hy
       obtain rfl:=Option.some.inj hy
       exact ⟨HNM.out,HM.out⟩
      ·exact HZ.out j y (by omega) hy
     case measure=>simp [intOf];omega
  ·have hlt' : decide ((i:Int)<(n:Int))=false:=by simp;omega
   have HE:Hid (nmsE vs=0):=if_pos ⟨by rw [HN.out];omega,fun j x hj=>HZ.out j x (by have:=(List.getElem?_eq_some_iff.1 hj).1;rw [HN.out] at this;omega) hj⟩
   go_wp2
   go_ret
   exact ⟨by rw [HE.out];rfl,HW.out⟩
end Lm
end Go.Proofs.YtaofpigilgapgaaGreatDoor

namespace Go.Proofs.YtaofpigilgapgaaGreatDoor
namespace Lm
open Go Go.RowKit
section
variable {dst:Option Tmp} {ty:TypeId} {pos:String} {after:Array Edge} {guard:Option (Nat × Bool)} {a:Act} {w:World} {ats:Array TypeId} {i j:Nat}
theorem op_eql32k {u v:Int} (h1:a.eval (.tmp i)=.int .i32 u) :
  Does Tryz.prog { dst,op:=.binOp .eql 21 (.tmp i) (.const (.int .i32 v)) 21,type:=ty,pos,after,guard } a.eval w fun v' w'=>Below w.heap.size w w'∧Eqs (.bool (decide (u=v))) v' w' := by
 refine does_bin (v:=.bool (decide (u=v))) ?_ ?_ ⟨Below.refl _ _,rfl⟩
 ·rw [h1];simp [go_sem,Act.eval]
 ·rw [h1];simp [go_sem,Act.eval];rfl
theorem op_eql32t {u v:Int} (h1:a.eval (.tmp i)=.int .i32 u) (h:u=v) :
  Does Tryz.prog { dst,op:=.binOp .eql 21 (.tmp i) (.const (.int .i32 v)) 21,type:=ty,pos,after,guard } a.eval w fun v' w'=>Below w.heap.size w w'∧Eqs (.bool true) v' w' :=
 (op_eql32k h1).mono fun _ _ ⟨hb,e⟩=>⟨hb,by rw [Eqs,show _ = _ from e,decide_eq_true h]⟩
theorem op_eql32f {u v:Int} (h1:a.eval (.tmp i)=.int .i32 u) (h:u≠v) :
  Does Tryz.prog { dst,op:=.binOp .eql 21 (.tmp i) (.const (.int .i32 v)) 21,type:=ty,pos,after,guard } a.eval w fun v' w'=>Below w.heap.size w w'∧Eqs (.bool false) v' w' :=
 (op_eql32k h1).mono fun _ _ ⟨hb,e⟩=>⟨hb,by rw [Eqs,show _ = _ from e,decide_eq_false h]⟩
theorem op_slst {s:ByteArray} {x:Operand} {k:Nat} (h:a.eval (.tmp i)=.string s) (hx:a.eval x=.int .i64 (k:Int)) (hk:k≤s.size):Does Tryz.prog { dst,op:=.slice 9 (.tmp i) (some x) none none,type:=ty,pos,after,guard } a.eval w fun v' w'=>Below w.heap.size w w'∧Eqs (.string (s.extract k s.size)) v' w' := by
 have e:(execOp a.eval { dst,op:=.slice 9 (.tmp i) (some x) none none,type:=ty,pos,after,guard }).run Tryz.prog w=.ok (.value (.string (s.extract k s.size))) w:=by
  simp only [execOp,Option.map,h,hx]
  go_simp
 refine ⟨?_⟩
 unfold Turns
 rw [e]
 exact ⟨Below.refl _ _,rfl⟩
end
end Lm
end Go.Proofs.YtaofpigilgapgaaGreatDoor

namespace Go.Proofs.YtaofpigilgapgaaGreatDoor
namespace Lm
open Go Go.RowKit
section
variable {dst:Option Tmp} {ty:TypeId} {pos:String} {after:Array Edge} {guard:Option (Nat × Bool)} {a:Act} {w:World} {ats:Array TypeId} {i j:Nat}
theorem has_decode:Has Tryz.prog 156:=by unfold Has;kernel_rfl
theorem op_decode {s:ByteArray} {R:Int} {K:Nat} (h:a.eval (.tmp i)=.string s) (hT:Tabs w) (hd:(((Lib.decodeGo s).1:Nat):Int)=R∧(Lib.decodeGo s).2=K) :
  Does Tryz.prog { dst,op:=.call { callee:=.value (.func 156),args:=#[.tmp i],argTypes:=ats },type:=ty,pos,after,guard } a.eval w fun v w'=>Below w.heap.size w w'∧Tup2 (Eqs (.int .i32 R)) (Eqs (.int .i64 (K:Int))) v w' := by
 refine does_call has_decode _ (by simp only [List.map_toArray,List.map_cons,List.map_nil,h]) ((decode_any w s hT).mono ?_)
 rintro e w' ⟨rfl,hb⟩
 obtain ⟨rfl,rfl⟩:=hd
 exact ⟨_,rfl,hb,_,_,rfl,rfl,rfl⟩
end
set_option maxRecDepth 20000 in
set_option maxHeartbeats 1000000 in
theorem split_z (w:World) (s:ByteArray) (hT:Tabs w) :
  Calls Tryz.prog 216 #[.string s] w fun e w'=>e=.returned (.tuple #[.bool (msplit s).1,.string (msplit s).2])∧Below w.heap.size w w' := by
 rcases msplit_ways s with ⟨⟨hd0,h3⟩,hm⟩ | ⟨⟨hd0,h3⟩,hm⟩ | ⟨⟨hn1',hn2',_,_⟩,hm⟩
 ·skip
  go_enter Tryz.func216,Tryz.ntmps216
  generalize hA:(Act.mk _ _)=aa
  have hn:aa.tmps.size=19:=by rw [←hA];rfl
  have hd:aa.defers = []:=by rw [←hA]
  have f0:aa.eval (.tmp 0)=.string s:=by rw [←hA];rfl
  clear hA
  have HB:Below w.heap.size w w:=Below.refl _ _
  refine wp_seq ?_
  refine region4 [some 2,some 3] [Eqs ((.bool false)),Eqs ((.string ⟨#[]⟩))] [] [] (by kernel_rfl) hn rfl (by kernel_rfl) (by kernel_rfl) (by kernel_rfl) (by kernel_rfl) (by kernel_rfl) (by kernel_rfl) ⟨Eqs.mono4 _,Eqs.mono4 _,trivial⟩ ok_nil (IsOld.all (bx:=[]) trivial) (DisOld.all (bx:=[]) trivial) ?_ ?_
  ·exact ⟨.norm 2 rfl rfl rfl (fun a_ w_ hn_ hBt hr hR hD hO hS=>op_assign rfl),
    .norm 3 rfl rfl rfl (fun a_ w_ hn_ hBt hr hR hD hO hS=>op_assign rfl),
    trivial⟩
  intro a1 w1 gs1 hn1 hd1 hBt hr hR hP hX hU
  replace hn:=hn1;replace hd:=hd1.trans hd
  replace f0:=(hR 0 rfl).trans f0
  have e2:a1.eval (.tmp 2)=(.bool false):=hP 0 (by decide)
  have f2:=e2
  have e3:a1.eval (.tmp 3)=(.string ⟨#[]⟩):=hP 1 (by decide)
  have f3:=e3
  replace HB:=HB.trans (hBt.below HB.size (UpOld.all (bx:=[]) trivial))
  clear hBt hr hR hP hX hU
  refine wp_seq ?_
  refine region4 [some 7,some 8,some 6,some 9,some 10,some 4,some 5] [Eqs (.string s),Tup2 (Eqs (.int .i32 8722)) (Eqs (.int .i64 (3:Int))),Tup2 (Eqs (.int .i32 8722)) (Eqs (.int .i64 (3:Int))),Eqs (.int .i32 8722),Eqs (.int .i64 (3:Int)),Eqs (.int .i32 8722),Eqs (.int .i64 (3:Int))] [] [] (by kernel_rfl) hn rfl (by kernel_rfl) (by kernel_rfl) (by kernel_rfl) (by kernel_rfl) (by kernel_rfl) (by kernel_rfl) ⟨Eqs.mono4 _,Tup2.mono4 (Eqs.mono4 _) (Eqs.mono4 _),Tup2.mono4 (Eqs.mono4 _) (Eqs.mono4 _),Eqs.mono4 _,Eqs.mono4 _,Eqs.mono4 _,Eqs.mono4 _,trivial⟩ ok_nil (IsOld.all (bx:=[]) trivial) (DisOld.all (bx:=[]) trivial) ?_ ?_
  ·exact ⟨.norm 7 rfl rfl rfl (fun a_ w_ hn_ hBt hr hR hD hO hS=>op_mv ((hR 0 rfl).trans f0)),
    .norm 8 rfl rfl rfl (fun a_ w_ hn_ hBt hr hR hD hO hS=>op_decode (show a_.eval (.tmp 7)=.string s from hD 0 rfl) (hT.below (HB.trans (hBt.below HB.size (UpOld.all (bx:=[]) trivial)))) ⟨by rw [hd0];rfl,by rw [hd0]⟩),
    .norm 6 rfl rfl rfl (fun a_ w_ hn_ hBt hr hR hD hO hS=>op_mvp (p:=Tup2 (Eqs (.int .i32 8722)) (Eqs (.int .i64 (3:Int)))) (show Tup2 (Eqs (.int .i32 8722)) (Eqs (.int .i64 (3:Int))) (a_.eval (.tmp 8)) w_ from hD 1 rfl)),
    .norm 9 rfl rfl rfl (fun a_ w_ hn_ hBt hr hR hD hO hS=>op_ex20 (show Tup2 (Eqs (.int .i32 8722)) (Eqs (.int .i64 (3:Int))) (a_.eval (.tmp 6)) w_ from hD 2 rfl)),
    .norm 10 rfl rfl rfl (fun a_ w_ hn_ hBt hr hR hD hO hS=>op_ex21 (show Tup2 (Eqs (.int .i32 8722)) (Eqs (.int .i64 (3:Int))) (a_.eval (.tmp 6)) w_ from hD 2 rfl)),
    .norm 4 rfl rfl rfl (fun a_ w_ hn_ hBt hr hR hD hO hS=>op_assign (show a_.eval (.tmp 9)=.int .i32 8722 from hD 3 rfl)),
    .norm 5 rfl rfl rfl (fun a_ w_ hn_ hBt hr hR hD hO hS=>op_assign (show a_.eval (.tmp 10)=.int .i64 (3:Int) from hD 4 rfl)),
    trivial⟩
  intro a2 w2 gs2 hn2 hd2 hBt hr hR hP hX hU
  replace hn:=hn2;replace hd:=hd2.trans hd
  replace f0:=(hR 0 rfl).trans f0
  replace f2:=(hR 2 rfl).trans f2
  replace f3:=(hR 3 rfl).trans f3
  have e4:a2.eval (.tmp 4)=.int .i32 8722:=hP 5 (by decide)
  have f4:=e4
  have e5:a2.eval (.tmp 5)=.int .i64 (3:Int):=hP 6 (by decide)
  have f5:=e5
  replace HB:=HB.trans (hBt.below HB.size (UpOld.all (bx:=[]) trivial))
  clear hBt hr hR hP hX hU
  refine wp_seq ?_
  refine wp_seq ?_
  refine region4 [some 11] [Eqs (.int .i32 8722)] [] [] (by kernel_rfl) hn rfl (by kernel_rfl) (by kernel_rfl) (by kernel_rfl) (by kernel_rfl) (by kernel_rfl) (by kernel_rfl) ⟨Eqs.mono4 _,trivial⟩ ok_nil (IsOld.all (bx:=[]) trivial) (DisOld.all (bx:=[]) trivial) ?_ ?_
  ·exact ⟨.norm 11 rfl rfl rfl (fun a_ w_ hn_ hBt hr hR hD hO hS=>op_mv ((hR 4 rfl).trans f4)),
    trivial⟩
  intro a3 w3 gs3 hn3 hd3 hBt hr hR hP hX hU
  replace hn:=hn3;replace hd:=hd3.trans hd
  replace f0:=(hR 0 rfl).trans f0
  replace f2:=(hR 2 rfl).trans f2
  replace f3:=(hR 3 rfl).trans f3
  replace f5:=(hR 5 rfl).trans f5
  have e11:a3.eval (.tmp 11)=.int .i32 8722:=hP 0 (by decide)
  have f11:=e11
  replace HB:=HB.trans (hBt.below HB.size (UpOld.all (bx:=[]) trivial))
  clear hBt hr hR hP hX hU
  refine wp_block ?_
  refine wp_seq ?_
  refine wp_seq ?_
  refine region4 [some 13,some 12] [Eqs (.bool false),Eqs (.bool false)] [] [] (by kernel_rfl) hn rfl (by kernel_rfl) (by kernel_rfl) (by kernel_rfl) (by kernel_rfl) (by kernel_rfl) (by kernel_rfl) ⟨Eqs.mono4 _,Eqs.mono4 _,trivial⟩ ok_nil (IsOld.all (bx:=[]) trivial) (DisOld.all (bx:=[]) trivial) ?_ ?_
  ·exact ⟨.norm 13 rfl rfl rfl (fun a_ w_ hn_ hBt hr hR hD hO hS=>op_eql32f ((hR 11 rfl).trans f11) (by decide)),
    .norm 12 rfl rfl rfl (fun a_ w_ hn_ hBt hr hR hD hO hS=>op_assign (show a_.eval (.tmp 13)=.bool false from hD 0 rfl)),
    trivial⟩
  intro a4 w4 gs4 hn4 hd4 hBt hr hR hP hX hU
  replace hn:=hn4;replace hd:=hd4.trans hd
  replace f0:=(hR 0 rfl).trans f0
  replace f2:=(hR 2 rfl).trans f2
  replace f3:=(hR 3 rfl).trans f3
  replace f5:=(hR 5 rfl).trans f5
  replace f11:=(hR 11 rfl).trans f11
  have e12:a4.eval (.tmp 12)=.bool false:=hP 1 (by decide)
  have f12:=e12
  replace HB:=HB.trans (hBt.below HB.size (UpOld.all (bx:=[]) trivial))
  clear hBt hr hR hP hX hU
  refine wp_cond_false f12 ?_
  refine region4 [some 14,some 12] [Eqs (.bool true),Eqs (.bool true)] [] [] (by kernel_rfl) hn rfl (by kernel_rfl) (by kernel_rfl) (by kernel_rfl) (by kernel_rfl) (by kernel_rfl) (by kernel_rfl) ⟨Eqs.mono4 _,Eqs.mono4 _,trivial⟩ ok_nil (IsOld.all (bx:=[]) trivial) (DisOld.all (bx:=[]) trivial) ?_ ?_
  ·exact ⟨.norm 14 rfl rfl rfl (fun a_ w_ hn_ hBt hr hR hD hO hS=>op_eql32t ((hR 11 rfl).trans f11) rfl),
    .norm 12 rfl rfl rfl (fun a_ w_ hn_ hBt hr hR hD hO hS=>op_assign (show a_.eval (.tmp 14)=.bool true from hD 0 rfl)),
    trivial⟩
  intro a5 w5 gs5 hn5 hd5 hBt hr hR hP hX hU
  replace hn:=hn5;replace hd:=hd5.trans hd
  replace f0:=(hR 0 rfl).trans f0
  replace f2:=(hR 2 rfl).trans f2
  replace f3:=(hR 3 rfl).trans f3
  replace f5:=(hR 5 rfl).trans f5
  have e12:a5.eval (.tmp 12)=.bool true:=hP 1 (by decide)
  have f12:=e12
  replace HB:=HB.trans (hBt.below HB.size (UpOld.all (bx:=[]) trivial))
  clear hBt hr hR hP hX hU
  refine wp_cond_true f12 ?_
  refine wp_seq ?_
  refine region4 [some 15,some 16,some 17,some 2,some 3] [Eqs (.string s),Eqs (.int .i64 (3:Int)),Eqs (.string ((s).extract 3 (s).size)),Eqs ((.bool true)),Eqs (.string ((s).extract 3 (s).size))] [] [] (by kernel_rfl) hn rfl (by kernel_rfl) (by kernel_rfl) (by kernel_rfl) (by kernel_rfl) (by kernel_rfl) (by kernel_rfl) ⟨Eqs.mono4 _,Eqs.mono4 _,Eqs.mono4 _,Eqs.mono4 _,Eqs.mono4 _,trivial⟩ ok_nil (IsOld.all (bx:=[]) trivial) (DisOld.all (bx:=[]) trivial) ?_ ?_
  ·exact ⟨.norm 15 rfl rfl rfl (fun a_ w_ hn_ hBt hr hR hD hO hS=>op_mv ((hR 0 rfl).trans f0)),
    .norm 16 rfl rfl rfl (fun a_ w_ hn_ hBt hr hR hD hO hS=>op_mv ((hR 5 rfl).trans f5)),
    .norm 17 rfl rfl rfl (fun a_ w_ hn_ hBt hr hR hD hO hS=>op_slst (k:=3) (show a_.eval (.tmp 15)=.string s from hD 0 rfl) (show a_.eval (.tmp 16)=.int .i64 (3:Int) from hD 1 rfl) (by omega)),
    .norm 2 rfl rfl rfl (fun a_ w_ hn_ hBt hr hR hD hO hS=>op_assign rfl),
    .norm 3 rfl rfl rfl (fun a_ w_ hn_ hBt hr hR hD hO hS=>op_assign (show a_.eval (.tmp 17)=.string ((s).extract 3 (s).size) from hD 2 rfl)),
    trivial⟩
  intro a6 w6 gs6 hn6 hd6 hBt hr hR hP hX hU
  replace hn:=hn6;replace hd:=hd6.trans hd
  replace f0:=(hR 0 rfl).trans f0
  have e2:a6.eval (.tmp 2)=(.bool true):=hP 3 (by decide)
  have f2:=e2
  have e3:a6.eval (.tmp 3)=.string ((s).extract 3 (s).size):=hP 4 (by decide)
  have f3:=e3
  replace HB:=HB.trans (hBt.below HB.size (UpOld.all (bx:=[]) trivial))
  clear hBt hr hR hP hX hU
  refine wp_ret ?_
  repeat (first | refine then_ret ?_ | refine scope_ret ?_ | refine block_ret ?_)
  exact bodyPost_ret (v:=.tuple #[.bool true,.string ((s).extract 3 (s).size)]) (res_tt2 rfl f2 f3) hd ⟨by rw [hm],HB⟩
 ·skip
  go_enter Tryz.func216,Tryz.ntmps216
  generalize hA:(Act.mk _ _)=aa
  have hn:aa.tmps.size=19:=by rw [←hA];rfl
  have hd:aa.defers = []:=by rw [←hA]
  have f0:aa.eval (.tmp 0)=.string s:=by rw [←hA];rfl
  clear hA
  have HB:Below w.heap.size w w:=Below.refl _ _
  refine wp_seq ?_
  refine region4 [some 2,some 3] [Eqs ((.bool false)),Eqs ((.string ⟨#[]⟩))] [] [] (by kernel_rfl) hn rfl (by kernel_rfl) (by kernel_rfl) (by kernel_rfl) (by kernel_rfl) (by kernel_rfl) (by kernel_rfl) ⟨Eqs.mono4 _,Eqs.mono4 _,trivial⟩ ok_nil (IsOld.all (bx:=[]) trivial) (DisOld.all (bx:=[]) trivial) ?_ ?_
  ·exact ⟨.norm 2 rfl rfl rfl (fun a_ w_ hn_ hBt hr hR hD hO hS=>op_assign rfl),
    .norm 3 rfl rfl rfl (fun a_ w_ hn_ hBt hr hR hD hO hS=>op_assign rfl),
    trivial⟩
  intro a1 w1 gs1 hn1 hd1 hBt hr hR hP hX hU
  replace hn:=hn1;replace hd:=hd1.trans hd
  replace f0:=(hR 0 rfl).trans f0
  have e2:a1.eval (.tmp 2)=(.bool false):=hP 0 (by decide)
  have f2:=e2
  have e3:a1.eval (.tmp 3)=(.string ⟨#[]⟩):=hP 1 (by decide)
  have f3:=e3
  replace HB:=HB.trans (hBt.below HB.size (UpOld.all (bx:=[]) trivial))
  clear hBt hr hR hP hX hU
  refine wp_seq ?_
  refine region4 [some 7,some 8,some 6,some 9,some 10,some 4,some 5] [Eqs (.string s),Tup2 (Eqs (.int .i32 45)) (Eqs (.int .i64 (1:Int))),Tup2 (Eqs (.int .i32 45)) (Eqs (.int .i64 (1:Int))),Eqs (.int .i32 45),Eqs (.int .i64 (1:Int)),Eqs (.int .i32 45),Eqs (.int .i64 (1:Int))] [] [] (by kernel_rfl) hn rfl (by kernel_rfl) (by kernel_rfl) (by kernel_rfl) (by kernel_rfl) (by kernel_rfl) (by kernel_rfl) ⟨Eqs.mono4 _,Tup2.mono4 (Eqs.mono4 _) (Eqs.mono4 _),Tup2.mono4 (Eqs.mono4 _) (Eqs.mono4 _),Eqs.mono4 _,Eqs.mono4 _,Eqs.mono4 _,Eqs.mono4 _,trivial⟩ ok_nil (IsOld.all (bx:=[]) trivial) (DisOld.all (bx:=[]) trivial) ?_ ?_
  ·exact ⟨.norm 7 rfl rfl rfl (fun a_ w_ hn_ hBt hr hR hD hO hS=>op_mv ((hR 0 rfl).trans f0)),
    .norm 8 rfl rfl rfl (fun a_ w_ hn_ hBt hr hR hD hO hS=>op_decode (show a_.eval (.tmp 7)=.string s from hD 0 rfl) (hT.below (HB.trans (hBt.below HB.size (UpOld.all (bx:=[]) trivial)))) ⟨by rw [hd0];rfl,by rw [hd0]⟩),
    .norm 6 rfl rfl rfl (fun a_ w_ hn_ hBt hr hR hD hO hS=>op_mvp (p:=Tup2 (Eqs (.int .i32 45)) (Eqs (.int .i64 (1:Int)))) (show Tup2 (Eqs (.int .i32 45)) (Eqs (.int .i64 (1:Int))) (a_.eval (.tmp 8)) w_ from hD 1 rfl)),
    .norm 9 rfl rfl rfl (fun a_ w_ hn_ hBt hr hR hD hO hS=>op_ex20 (show Tup2 (Eqs (.int .i32 45)) (Eqs (.int .i64 (1:Int))) (a_.eval (.tmp 6)) w_ from hD 2 rfl)),
    .norm 10 rfl rfl rfl (fun a_ w_ hn_ hBt hr hR hD hO hS=>op_ex21 (show Tup2 (Eqs (.int .i32 45)) (Eqs (.int .i64 (1:Int))) (a_.eval (.tmp 6)) w_ from hD 2 rfl)),
    .norm 4 rfl rfl rfl (fun a_ w_ hn_ hBt hr hR hD hO hS=>op_assign (show a_.eval (.tmp 9)=.int .i32 45 from hD 3 rfl)),
    .norm 5 rfl rfl rfl (fun a_ w_ hn_ hBt hr hR hD hO hS=>op_assign (show a_.eval (.tmp 10)=.int .i64 (1:Int) from hD 4 rfl)),
    trivial⟩
  intro a2 w2 gs2 hn2 hd2 hBt hr hR hP hX hU
  replace hn:=hn2;replace hd:=hd2.trans hd
  replace f0:=(hR 0 rfl).trans f0
  replace f2:=(hR 2 rfl).trans f2
  replace f3:=(hR 3 rfl).trans f3
  have e4:a2.eval (.tmp 4)=.int .i32 45:=hP 5 (by decide)
  have f4:=e4
  have e5:a2.eval (.tmp 5)=.int .i64 (1:Int):=hP 6 (by decide)
  have f5:=e5
  replace HB:=HB.trans (hBt.below HB.size (UpOld.all (bx:=[]) trivial))
  clear hBt hr hR hP hX hU
  refine wp_seq ?_
  refine wp_seq ?_
  refine region4 [some 11] [Eqs (.int .i32 45)] [] [] (by kernel_rfl) hn rfl (by kernel_rfl) (by kernel_rfl) (by kernel_rfl) (by kernel_rfl) (by kernel_rfl) (by kernel_rfl) ⟨Eqs.mono4 _,trivial⟩ ok_nil (IsOld.all (bx:=[]) trivial) (DisOld.all (bx:=[]) trivial) ?_ ?_
  ·exact ⟨.norm 11 rfl rfl rfl (fun a_ w_ hn_ hBt hr hR hD hO hS=>op_mv ((hR 4 rfl).trans f4)),
    trivial⟩
  intro a3 w3 gs3 hn3 hd3 hBt hr hR hP hX hU
  replace hn:=hn3;replace hd:=hd3.trans hd
  replace f0:=(hR 0 rfl).trans f0
  replace f2:=(hR 2 rfl).trans f2
  replace f3:=(hR 3 rfl).trans f3
  replace f5:=(hR 5 rfl).trans f5
  have e11:a3.eval (.tmp 11)=.int .i32 45:=hP 0 (by decide)
  have f11:=e11
  replace HB:=HB.trans (hBt.below HB.size (UpOld.all (bx:=[]) trivial))
  clear hBt hr hR hP hX hU
  refine wp_block ?_
  refine wp_seq ?_
  refine wp_seq ?_
  refine region4 [some 13,some 12] [Eqs (.bool true),Eqs (.bool true)] [] [] (by kernel_rfl) hn rfl (by kernel_rfl) (by kernel_rfl) (by kernel_rfl) (by kernel_rfl) (by kernel_rfl) (by kernel_rfl) ⟨Eqs.mono4 _,Eqs.mono4 _,trivial⟩ ok_nil (IsOld.all (bx:=[]) trivial) (DisOld.all (bx:=[]) trivial) ?_ ?_
  ·exact ⟨.norm 13 rfl rfl rfl (fun a_ w_ hn_ hBt hr hR hD hO hS=>op_eql32t ((hR 11 rfl).trans f11) rfl),
    .norm 12 rfl rfl rfl (fun a_ w_ hn_ hBt hr hR hD hO hS=>op_assign (show a_.eval (.tmp 13)=.bool true from hD 0 rfl)),
    trivial⟩
  intro a4 w4 gs4 hn4 hd4 hBt hr hR hP hX hU
  replace hn:=hn4;replace hd:=hd4.trans hd
  replace f0:=(hR 0 rfl).trans f0
  replace f2:=(hR 2 rfl).trans f2
  replace f3:=(hR 3 rfl).trans f3
  replace f5:=(hR 5 rfl).trans f5
  replace f11:=(hR 11 rfl).trans f11
  have e12:a4.eval (.tmp 12)=.bool true:=hP 1 (by decide)
  have f12:=e12
  replace HB:=HB.trans (hBt.below HB.size (UpOld.all (bx:=[]) trivial))
  clear hBt hr hR hP hX hU
  refine wp_cond_true f12 ?_
  refine wp_skip ?_
  refine wp_cond_true f12 ?_
  refine wp_seq ?_
  refine region4 [some 15,some 16,some 17,some 2,some 3] [Eqs (.string s),Eqs (.int .i64 (1:Int)),Eqs (.string ((s).extract 1 (s).size)),Eqs ((.bool true)),Eqs (.string ((s).extract 1 (s).size))] [] [] (by kernel_rfl) hn rfl (by kernel_rfl) (by kernel_rfl) (by kernel_rfl) (by kernel_rfl) (by kernel_rfl) (by kernel_rfl) ⟨Eqs.mono4 _,Eqs.mono4 _,Eqs.mono4 _,Eqs.mono4 _,Eqs.mono4 _,trivial⟩ ok_nil (IsOld.all (bx:=[]) trivial) (DisOld.all (bx:=[]) trivial) ?_ ?_
  ·exact ⟨.norm 15 rfl rfl rfl (fun a_ w_ hn_ hBt hr hR hD hO hS=>op_mv ((hR 0 rfl).trans f0)),
    .norm 16 rfl rfl rfl (fun a_ w_ hn_ hBt hr hR hD hO hS=>op_mv ((hR 5 rfl).trans f5)),
    .norm 17 rfl rfl rfl (fun a_ w_ hn_ hBt hr hR hD hO hS=>op_slst (k:=1) (show a_.eval (.tmp 15)=.string s from hD 0 rfl) (show a_.eval (.tmp 16)=.int .i64 (1:Int) from hD 1 rfl) (by omega)),
    .norm 2 rfl rfl rfl (fun a_ w_ hn_ hBt hr hR hD hO hS=>op_assign rfl),
    .norm 3 rfl rfl rfl (fun a_ w_ hn_ hBt hr hR hD hO hS=>op_assign (show a_.eval (.tmp 17)=.string ((s).extract 1 (s).size) from hD 2 rfl)),
    trivial⟩
  intro a5 w5 gs5 hn5 hd5 hBt hr hR hP hX hU
  replace hn:=hn5;replace hd:=hd5.trans hd
  replace f0:=(hR 0 rfl).trans f0
  have e2:a5.eval (.tmp 2)=(.bool true):=hP 3 (by decide)
  have f2:=e2
  have e3:a5.eval (.tmp 3)=.string ((s).extract 1 (s).size):=hP 4 (by decide)
  have f3:=e3
  replace HB:=HB.trans (hBt.below HB.size (UpOld.all (bx:=[]) trivial))
  clear hBt hr hR hP hX hU
  refine wp_ret ?_
  repeat (first | refine then_ret ?_ | refine scope_ret ?_ | refine block_ret ?_)
  exact bodyPost_ret (v:=.tuple #[.bool true,.string ((s).extract 1 (s).size)]) (res_tt2 rfl f2 f3) hd ⟨by rw [hm],HB⟩
 ·have hne1:(((Lib.decodeGo s).1:Nat):Int)≠45:=by omega
  have hne2:(((Lib.decodeGo s).1:Nat):Int)≠8722:=by omega
  go_enter Tryz.func216,Tryz.ntmps216
  generalize hA:(Act.mk _ _)=aa
  have hn:aa.tmps.size=19:=by rw [←hA];rfl
  have hd:aa.defers = []:=by rw [←hA]
  have f0:aa.eval (.tmp 0)=.string s:=by rw [←hA];rfl
  clear hA
  have HB:Below w.heap.size w w:=Below.refl _ _
  refine wp_seq ?_
  refine region4 [some 2,some 3] [Eqs ((.bool false)),Eqs ((.string ⟨#[]⟩))] [] [] (by kernel_rfl) hn rfl (by kernel_rfl) (by kernel_rfl) (by kernel_rfl) (by kernel_rfl) (by kernel_rfl) (by kernel_rfl) ⟨Eqs.mono4 _,Eqs.mono4 _,trivial⟩ ok_nil (IsOld.all (bx:=[]) trivial) (DisOld.all (bx:=[]) trivial) ?_ ?_
  ·exact ⟨.norm 2 rfl rfl rfl (fun a_ w_ hn_ hBt hr hR hD hO hS=>op_assign rfl),
    .norm 3 rfl rfl rfl (fun a_ w_ hn_ hBt hr hR hD hO hS=>op_assign rfl),
    trivial⟩
  intro a1 w1 gs1 hn1 hd1 hBt hr hR hP hX hU
  replace hn:=hn1;replace hd:=hd1.trans hd
  replace f0:=(hR 0 rfl).trans f0
  have e2:a1.eval (.tmp 2)=(.bool false):=hP 0 (by decide)
  have f2:=e2
  have e3:a1.eval (.tmp 3)=(.string ⟨#[]⟩):=hP 1 (by decide)
  have f3:=e3
  replace HB:=HB.trans (hBt.below HB.size (UpOld.all (bx:=[]) trivial))
  clear hBt hr hR hP hX hU
  refine wp_seq ?_
  refine region4 [some 7,some 8,some 6,some 9,some 10,some 4,some 5] [Eqs (.string s),Tup2 (Eqs (.int .i32 (((Lib.decodeGo s).1:Nat):Int))) (Eqs (.int .i64 ((Lib.decodeGo s).2:Int))),Tup2 (Eqs (.int .i32 (((Lib.decodeGo s).1:Nat):Int))) (Eqs (.int .i64 ((Lib.decodeGo s).2:Int))),Eqs (.int .i32 (((Lib.decodeGo s).1:Nat):Int)),Eqs (.int .i64 ((Lib.decodeGo s).2:Int)),Eqs (.int .i32 (((Lib.decodeGo s).1:Nat):Int)),Eqs (.int .i64 ((Lib.decodeGo s).2:Int))] [] [] (by kernel_rfl) hn rfl (by kernel_rfl) (by kernel_rfl) (by kernel_rfl) (by kernel_rfl) (by kernel_rfl) (by kernel_rfl) ⟨Eqs.mono4 _,Tup2.mono4 (Eqs.mono4 _) (Eqs.mono4 _),Tup2.mono4 (Eqs.mono4 _) (Eqs.mono4 _),Eqs.mono4 _,Eqs.mono4 _,Eqs.mono4 _,Eqs.mono4 _,trivial⟩ ok_nil (IsOld.all (bx:=[]) trivial) (DisOld.all (bx:=[]) trivial) ?_ ?_
  ·exact ⟨.norm 7 rfl rfl rfl (fun a_ w_ hn_ hBt hr hR hD hO hS=>op_mv ((hR 0 rfl).trans f0)),
    .norm 8 rfl rfl rfl (fun a_ w_ hn_ hBt hr hR hD hO hS=>op_decode (show a_.eval (.tmp 7)=.string s from hD 0 rfl) (hT.below (HB.trans (hBt.below HB.size (UpOld.all (bx:=[]) trivial)))) ⟨rfl,rfl⟩),
    .norm 6 rfl rfl rfl (fun a_ w_ hn_ hBt hr hR hD hO hS=>op_mvp (p:=Tup2 (Eqs (.int .i32 (((Lib.decodeGo s).1:Nat):Int))) (Eqs (.int .i64 ((Lib.decodeGo s).2:Int)))) (show Tup2 (Eqs (.int .i32 (((Lib.decodeGo s).1:Nat):Int))) (Eqs (.int .i64 ((Lib.decodeGo s).2:Int))) (a_.eval (.tmp 8)) w_ from hD 1 rfl)),
    .norm 9 rfl rfl rfl (fun a_ w_ hn_ hBt hr hR hD hO hS=>op_ex20 (show Tup2 (Eqs (.int .i32 (((Lib.decodeGo s).1:Nat):Int))) (Eqs (.int .i64 ((Lib.decodeGo s).2:Int))) (a_.eval (.tmp 6)) w_ from hD 2 rfl)),
    .norm 10 rfl rfl rfl (fun a_ w_ hn_ hBt hr hR hD hO hS=>op_ex21 (show Tup2 (Eqs (.int .i32 (((Lib.decodeGo s).1:Nat):Int))) (Eqs (.int .i64 ((Lib.decodeGo s).2:Int))) (a_.eval (.tmp 6)) w_ from hD 2 rfl)),
    .norm 4 rfl rfl rfl (fun a_ w_ hn_ hBt hr hR hD hO hS=>op_assign (show a_.eval (.tmp 9)=.int .i32 (((Lib.decodeGo s).1:Nat):Int) from hD 3 rfl)),
    .norm 5 rfl rfl rfl (fun a_ w_ hn_ hBt hr hR hD hO hS=>op_assign (show a_.eval (.tmp 10)=.int .i64 ((Lib.decodeGo s).2:Int) from hD 4 rfl)),
    trivial⟩
  intro a2 w2 gs2 hn2 hd2 hBt hr hR hP hX hU
  replace hn:=hn2;replace hd:=hd2.trans hd
  replace f0:=(hR 0 rfl).trans f0
  replace f2:=(hR 2 rfl).trans f2
  replace f3:=(hR 3 rfl).trans f3
  have e4:a2.eval (.tmp 4)=.int .i32 (((Lib.decodeGo s).1:Nat):Int):=hP 5 (by decide)
  have f4:=e4
  have e5:a2.eval (.tmp 5)=.int .i64 ((Lib.decodeGo s).2:Int):=hP 6 (by decide)
  have f5:=e5
  replace HB:=HB.trans (hBt.below HB.size (UpOld.all (bx:=[]) trivial))
  clear hBt hr hR hP hX hU
  refine wp_seq ?_
  refine wp_seq ?_
  refine region4 [some 11] [Eqs (.int .i32 (((Lib.decodeGo s).1:Nat):Int))] [] [] (by kernel_rfl) hn rfl (by kernel_rfl) (by kernel_rfl) (by kernel_rfl) (by kernel_rfl) (by kernel_rfl) (by kernel_rfl) ⟨Eqs.mono4 _,trivial⟩ ok_nil (IsOld.all (bx:=[]) trivial) (DisOld.all (bx:=[]) trivial) ?_ ?_
  ·exact ⟨.norm 11 rfl rfl rfl (fun a_ w_ hn_ hBt hr hR hD hO hS=>op_mv ((hR 4 rfl).trans f4)),
    trivial⟩
  intro a3 w3 gs3 hn3 hd3 hBt hr hR hP hX hU
  replace hn:=hn3;replace hd:=hd3.trans hd
  replace f0:=(hR 0 rfl).trans f0
  replace f2:=(hR 2 rfl).trans f2
  replace f3:=(hR 3 rfl).trans f3
  replace f5:=(hR 5 rfl).trans f5
  have e11:a3.eval (.tmp 11)=.int .i32 (((Lib.decodeGo s).1:Nat):Int):=hP 0 (by decide)
  have f11:=e11
  replace HB:=HB.trans (hBt.below HB.size (UpOld.all (bx:=[]) trivial))
  clear hBt hr hR hP hX hU
  refine wp_block ?_
  refine wp_seq ?_
  refine wp_seq ?_
  refine region4 [some 13,some 12] [Eqs (.bool false),Eqs (.bool false)] [] [] (by kernel_rfl) hn rfl (by kernel_rfl) (by kernel_rfl) (by kernel_rfl) (by kernel_rfl) (by kernel_rfl) (by kernel_rfl) ⟨Eqs.mono4 _,Eqs.mono4 _,trivial⟩ ok_nil (IsOld.all (bx:=[]) trivial) (DisOld.all (bx:=[]) trivial) ?_ ?_
  ·exact ⟨.norm 13 rfl rfl rfl (fun a_ w_ hn_ hBt hr hR hD hO hS=>op_eql32f ((hR 11 rfl).trans f11) hne1),
    .norm 12 rfl rfl rfl (fun a_ w_ hn_ hBt hr hR hD hO hS=>op_assign (show a_.eval (.tmp 13)=.bool false from hD 0 rfl)),
    trivial⟩
  intro a4 w4 gs4 hn4 hd4 hBt hr hR hP hX hU
  replace hn:=hn4;replace hd:=hd4.trans hd
  replace f0:=(hR 0 rfl).trans f0
  replace f2:=(hR 2 rfl).trans f2
  replace f3:=(hR 3 rfl).trans f3
  replace f5:=(hR 5 rfl).trans f5
  replace f11:=(hR 11 rfl).trans f11
  have e12:a4.eval (.tmp 12)=.bool false:=hP 1 (by decide)
  have f12:=e12
  replace HB:=HB.trans (hBt.below HB.size (UpOld.all (bx:=[]) trivial))
  clear hBt hr hR hP hX hU
  refine wp_cond_false f12 ?_
  refine region4 [some 14,some 12] [Eqs (.bool false),Eqs (.bool false)] [] [] (by kernel_rfl) hn rfl (by kernel_rfl) (by kernel_rfl) (by kernel_rfl) (by kernel_rfl) (by kernel_rfl) (by kernel_rfl) ⟨Eqs.mono4 _,Eqs.mono4 _,trivial⟩ ok_nil (IsOld.all (bx:=[]) trivial) (DisOld.all (bx:=[]) trivial) ?_ ?_
  ·exact ⟨.norm 14 rfl rfl rfl (fun a_ w_ hn_ hBt hr hR hD hO hS=>op_eql32f ((hR 11 rfl).trans f11) hne2),
    .norm 12 rfl rfl rfl (fun a_ w_ hn_ hBt hr hR hD hO hS=>op_assign (show a_.eval (.tmp 14)=.bool false from hD 0 rfl)),
    trivial⟩
  intro a5 w5 gs5 hn5 hd5 hBt hr hR hP hX hU
  replace hn:=hn5;replace hd:=hd5.trans hd
  replace f0:=(hR 0 rfl).trans f0
  replace f2:=(hR 2 rfl).trans f2
  replace f3:=(hR 3 rfl).trans f3
  replace f5:=(hR 5 rfl).trans f5
  have e12:a5.eval (.tmp 12)=.bool false:=hP 1 (by decide)
  have f12:=e12
  replace HB:=HB.trans (hBt.below HB.size (UpOld.all (bx:=[]) trivial))
  clear hBt hr hR hP hX hU
  refine wp_cond_false f12 ?_
  refine wp_skip ?_
  refine block_normal ?_
  refine wp_seq ?_
  refine region4 [some 18,some 2,some 3] [Eqs (.string s),Eqs ((.bool false)),Eqs (.string s)] [] [] (by kernel_rfl) hn rfl (by kernel_rfl) (by kernel_rfl) (by kernel_rfl) (by kernel_rfl) (by kernel_rfl) (by kernel_rfl) ⟨Eqs.mono4 _,Eqs.mono4 _,Eqs.mono4 _,trivial⟩ ok_nil (IsOld.all (bx:=[]) trivial) (DisOld.all (bx:=[]) trivial) ?_ ?_
  ·exact ⟨.norm 18 rfl rfl rfl (fun a_ w_ hn_ hBt hr hR hD hO hS=>op_mv ((hR 0 rfl).trans f0)),
    .norm 2 rfl rfl rfl (fun a_ w_ hn_ hBt hr hR hD hO hS=>op_assign rfl),
    .norm 3 rfl rfl rfl (fun a_ w_ hn_ hBt hr hR hD hO hS=>op_assign (show a_.eval (.tmp 18)=.string s from hD 0 rfl)),
    trivial⟩
  intro a6 w6 gs6 hn6 hd6 hBt hr hR hP hX hU
  replace hn:=hn6;replace hd:=hd6.trans hd
  have e2:a6.eval (.tmp 2)=(.bool false):=hP 1 (by decide)
  have f2:=e2
  have e3:a6.eval (.tmp 3)=.string s:=hP 2 (by decide)
  have f3:=e3
  replace HB:=HB.trans (hBt.below HB.size (UpOld.all (bx:=[]) trivial))
  clear hBt hr hR hP hX hU
  refine wp_ret ?_
  repeat (first | refine then_ret ?_ | refine scope_ret ?_ | refine block_ret ?_)
  exact bodyPost_ret (v:=.tuple #[.bool false,.string s]) (res_tt2 rfl f2 f3) hd ⟨by rw [hm],HB⟩
end Lm
end Go.Proofs.YtaofpigilgapgaaGreatDoor

namespace Go.Proofs.YtaofpigilgapgaaGreatDoor
namespace Lm
open Go Go.RowKit
open Dm (Err Fine)
open Classical in
noncomputable def kOf (r:ByteArray):Int:=if 5120<r.size then 2 else if 1≤r.size∧Dig (bytesOf r) then 0 else 10
open Classical in
noncomputable def xOf (r:ByteArray):Int:=if Fine r then dval (bytesOf r) else 0
theorem of_err {r:ByteArray} {k:Int} (h:Err r k):k=kOf r∧xOf r=0∧kOf r≠0:=by
 have hf:¬ Fine r:=fun hf=>Dm.err_fine h hf
 have h1:k=kOf r:=by
  rcases h with ⟨rfl,h2⟩ | ⟨rfl,h2,h3⟩
  ·rw [kOf,if_pos h2]
  ·rw [kOf,if_neg (by omega),if_neg h3]
 refine ⟨h1,by rw [xOf,if_neg hf],?_⟩
 rw [←h1]
 rcases h with ⟨h1,_⟩ | ⟨h1,_⟩ <;> omega
theorem of_fine {r:ByteArray} (h:Fine r):kOf r=0∧xOf r=dval (bytesOf r):=by
 refine ⟨?_,by rw [xOf,if_pos h]⟩
 rw [kOf,if_neg (by have:=h.2.1;omega),if_pos ⟨h.1,h.2.2⟩]
theorem p10_le_pw (n:Nat):p10 n≤pw n:=by
 induction n with
 | zero=>simp [p10,pw]
 | succ n ih =>
  simp only [p10,pw]
  have:=pw_pos n
  omega
noncomputable def zOf (s:ByteArray):Int:=sg (msplit s).1 (xOf (msplit s).2)
noncomputable def eOf (s:ByteArray):Int:=kOf (msplit s).2
section
variable {dst:Option Tmp} {ty:TypeId} {pos:String} {after:Array Edge} {guard:Option (Nat × Bool)} {a:Act} {w:World} {ats:Array TypeId} {i j:Nat}
theorem has_split:Has Tryz.prog 216:=by unfold Has;kernel_rfl
theorem op_split {s:ByteArray} (h:a.eval (.tmp i)=.string s) (hT:Tabs w) :
  Does Tryz.prog { dst,op:=.call { callee:=.value (.func 216),args:=#[.tmp i],argTypes:=ats },type:=ty,pos,after,guard } a.eval w fun v w'=>Below w.heap.size w w'∧Tup2 (Eqs (.bool (msplit s).1)) (Eqs (.string (msplit s).2)) v w' := by
 refine does_call has_split _ (by simp only [List.map_toArray,List.map_cons,List.map_nil,h]) ((split_z w s hT).mono ?_)
 rintro e w' ⟨rfl,hb⟩
 exact ⟨_,rfl,hb,_,_,rfl,rfl,rfl⟩
theorem has_lparse:Has Tryz.prog 191:=by unfold Has;kernel_rfl
theorem op_lparse {s:ByteArray} (h:a.eval (.tmp i)=.string s) :
  Does Tryz.prog { dst,op:=.call { callee:=.value (.func 191),args:=#[.tmp i],argTypes:=ats },type:=ty,pos,after,guard } a.eval w fun v w'=>Below w.heap.size w w'∧Tup2 (OutL (xOf s) 6000) (Eqs (.int .i64 (kOf s))) v w' := by
 refine does_call has_lparse _ (by simp only [List.map_toArray,List.map_cons,List.map_nil,h]) ((parse_e w s).mono ?_)
 rintro e w' ⟨⟨k,hk,rfl⟩ | ⟨hf,v,rfl,rs,ho,hc,hv⟩,hb⟩
 ·obtain ⟨h1,h2,_⟩:=of_err hk
  refine ⟨_,rfl,hb,_,_,rfl,?_,by rw [h1];rfl⟩
  rw [h2]
  exact ⟨none,0,[],rfl,⟨sl_nil w',canon_nil,rfl⟩,by simp⟩
 ·obtain ⟨h1,h2⟩:=of_fine hf
  refine ⟨_,rfl,hb,_,_,rfl,?_,by rw [h1];rfl⟩
  rw [h2]
  obtain ⟨ao,cap,rfl,_⟩:=id ho
  refine ⟨ao,cap,rs,rfl,⟨ho.sl,hc,hv⟩,?_⟩
  have h3:=(dval_bounds hf.2.2).2
  rw [bytesOf_length] at h3
  have h4:=canon_len hc (m:=s.size) (by rw [hv];have:=p10_le_pw s.size;omega)
  have:=hf.2.1
  omega
theorem has_signed:Has Tryz.prog 95:=by unfold Has;kernel_rfl
theorem op_signed0 {b:Bool} {x:Int} {L:Nat} (h1:a.eval (.tmp i)=.bool b) (h2:OutL x L (a.eval (.tmp j)) w) (hL:L≤1000000) :
  Does Tryz.prog { dst,op:=.call { callee:=.value (.func 95),args:=#[.tmp i,.tmp j],argTypes:=ats },type:=ty,pos,after,guard } a.eval w fun v w'=>Below w.heap.size w w'∧OutW (sg b x) L v w' := by
 obtain ⟨ao,cap,rs,e,G,l⟩:=h2
 refine does_call has_signed _ (by simp only [List.map_toArray,List.map_cons,List.map_nil,h1,e]) ((signed_g w b ao cap rs x G (by omega)).mono ?_)
 rintro e w' ⟨ng,rfl,hW,hb⟩
 exact ⟨_,rfl,hb,ng,ao,cap,rs,rfl,hW,l⟩
theorem op_neqkE {u v:Int} (h1:a.eval (.tmp i)=.int .i64 u) :
  Does Tryz.prog { dst,op:=.binOp .neq 27 (.tmp i) (.const (.int .i64 v)) 27,type:=ty,pos,after,guard } a.eval w fun v' w'=>Below w.heap.size w w'∧Eqs (.bool (!decide (u=v))) v' w' := by
 refine does_bin (v:=.bool (!decide (u=v))) ?_ ?_ ⟨Below.refl _ _,rfl⟩
 ·rw [h1];simp [go_sem,Act.eval]
 ·rw [h1];simp [go_sem,Act.eval];rfl
end
theorem xOf_zero {r:ByteArray} {b:Bool} (h:kOf r≠0):sg b (xOf r)=0:=by
 have hf:¬ Fine r:=fun hf=>h (of_fine hf).1
 rw [xOf,if_neg hf]
 cases b <;> rfl
theorem outw_zero (w:World) {L:Nat} : OutW 0 L (.agg #[.bool false,.slice none 0 0]) w:=⟨false,none,0,[],rfl,⟨⟨sl_nil w,canon_nil,rfl⟩,rfl⟩,by simp⟩
set_option maxRecDepth 20000 in
set_option maxHeartbeats 1000000 in
theorem wparse_z (w:World) (s:ByteArray) (hT:Tabs w) :
  Calls Tryz.prog 215 #[.string s] w fun e w'=>∃ v,e=.returned v∧Tup2 (OutW (zOf s) 6000) (Eqs (.int .i64 (eOf s))) v w'∧Below w.heap.size w w' := by
 go_enter Tryz.func215,Tryz.ntmps215
 generalize hA:(Act.mk _ _)=aa
 have hn:aa.tmps.size=25:=by rw [←hA];rfl
 have hd:aa.defers = []:=by rw [←hA]
 have f0:aa.eval (.tmp 0)=.string s:=by rw [←hA];rfl
 clear hA
 have HB:Below w.heap.size w w:=Below.refl _ _
 refine wp_seq ?_
 refine region4 [some 2,some 3] [(fun _ _=>True),Eqs ((.int .i64 0))] [⟨W2,some 0,0,2,.agg #[.bool false,.slice none 0 0],none,[]⟩] [] (by kernel_rfl) hn rfl (by kernel_rfl) (by kernel_rfl) (by kernel_rfl) (by kernel_rfl) (by kernel_rfl) (by kernel_rfl) ⟨True.mono4,Eqs.mono4 _,trivial⟩ (ok_cons W2ok ok_nil) (IsOld.all (bx:=[⟨W2,some 0,0,2,.agg #[.bool false,.slice none 0 0],none,[]⟩]) ⟨someNe,trivial⟩) (DisOld.all (bx:=[⟨W2,some 0,0,2,.agg #[.bool false,.slice none 0 0],none,[]⟩]) ⟨someNe,trivial⟩) ?_ ?_
 ·exact ⟨.alloc 0 _ rfl rfl (.inl ⟨rfl,rfl⟩) rfl rfl rfl rfl rfl,
   .norm 3 rfl rfl rfl (fun a_ w_ hn_ hBt hr hR hD hO hS=>op_assign rfl),
   trivial⟩
 intro a1 w1 gs1 hn1 hd1 hBt hr hR hP hX hU
 replace hn:=hn1;replace hd:=hd1.trans hd
 have b2:BoxV W2 w1 (gs1 0) (.agg #[.bool false,.slice none 0 0]):=(hX 0 _ rfl).2.2.2
 have f2:=(hX 0 _ rfl).1
 have u2:w.heap.size≤gs1 0:=Nat.le_trans HB.size ((hX 0 _ rfl).2.2.1 (by simp))
 replace f0:=(hR 0 rfl).trans f0
 have e3:a1.eval (.tmp 3)=(.int .i64 0):=hP 1 (by decide)
 have f3:=e3
 replace HB:=HB.trans (hBt.below HB.size (UpOld.all (bx:=[⟨W2,some 0,0,2,.agg #[.bool false,.slice none 0 0],none,[]⟩]) ⟨someNe,trivial⟩))
 clear hBt hr hR hP hX hU
 refine wp_seq ?_
 refine region4 [some 9,some 10,some 8,some 11,some 12,some 4,some 5] [Eqs (.string s),Tup2 (Eqs (.bool (msplit s).1)) (Eqs (.string (msplit s).2)),Tup2 (Eqs (.bool (msplit s).1)) (Eqs (.string (msplit s).2)),Eqs (.bool (msplit s).1),Eqs (.string (msplit s).2),Eqs (.bool (msplit s).1),Eqs (.string (msplit s).2)] [] [] (by kernel_rfl) hn rfl (by kernel_rfl) (by kernel_rfl) (by kernel_rfl) (by kernel_rfl) (by kernel_rfl) (by kernel_rfl) ⟨Eqs.mono4 _,Tup2.mono4 (Eqs.mono4 _) (Eqs.mono4 _),Tup2.mono4 (Eqs.mono4 _) (Eqs.mono4 _),Eqs.mono4 _,Eqs.mono4 _,Eqs.mono4 _,Eqs.mono4 _,trivial⟩ ok_nil (IsOld.all (bx:=[]) trivial) (DisOld.all (bx:=[]) trivial) ?_ ?_
 ·exact ⟨.norm 9 rfl rfl rfl (fun a_ w_ hn_ hBt hr hR hD hO hS=>op_mv ((hR 0 rfl).trans f0)),
   .norm 10 rfl rfl rfl (fun a_ w_ hn_ hBt hr hR hD hO hS=>op_split (show a_.eval (.tmp 9)=.string s from hD 0 rfl) (hT.below (HB.trans (hBt.below HB.size (UpOld.all (bx:=[]) trivial))))),
   .norm 8 rfl rfl rfl (fun a_ w_ hn_ hBt hr hR hD hO hS=>op_mvp (p:=Tup2 (Eqs (.bool (msplit s).1)) (Eqs (.string (msplit s).2))) (show Tup2 (Eqs (.bool (msplit s).1)) (Eqs (.string (msplit s).2)) (a_.eval (.tmp 10)) w_ from hD 1 rfl)),
   .norm 11 rfl rfl rfl (fun a_ w_ hn_ hBt hr hR hD hO hS=>op_ex20 (show Tup2 (Eqs (.bool (msplit s).1)) (Eqs (.string (msplit s).2)) (a_.eval (.tmp 8)) w_ from hD 2 rfl)),
   .norm 12 rfl rfl rfl (fun a_ w_ hn_ hBt hr hR hD hO hS=>op_ex21 (show Tup2 (Eqs (.bool (msplit s).1)) (Eqs (.string (msplit s).2)) (a_.eval (.tmp 8)) w_ from hD 2 rfl)),
   .norm 4 rfl rfl rfl (fun a_ w_ hn_ hBt hr hR hD hO hS=>op_assign (show a_.eval (.tmp 11)=.bool (msplit s).1 from hD 3 rfl)),
   .norm 5 rfl rfl rfl (fun a_ w_ hn_ hBt hr hR hD hO hS=>op_assign (show a_.eval (.tmp 12)=.string (msplit s).2 from hD 4 rfl)),
   trivial⟩
 intro a2 w2 gs2 hn2 hd2 hBt hr hR hP hX hU
 replace hn:=hn2;replace hd:=hd2.trans hd
 replace b2:=b2.keep hBt trivial
 replace f2:=(hR 2 rfl).trans f2
 replace f3:=(hR 3 rfl).trans f3
 have e4:a2.eval (.tmp 4)=.bool (msplit s).1:=hP 5 (by decide)
 have f4:=e4
 have e5:a2.eval (.tmp 5)=.string (msplit s).2:=hP 6 (by decide)
 have f5:=e5
 replace HB:=HB.trans (hBt.below HB.size (UpOld.all (bx:=[]) trivial))
 clear hBt hr hR hP hX hU
 refine wp_seq ?_
 refine region4 [some 14,some 15,some 13,some 16,some 17,some 6,some 7] [Eqs (.string (msplit s).2),Tup2 (OutL (xOf (msplit s).2) (6000)) (Eqs (.int .i64 (kOf (msplit s).2))),Tup2 (OutL (xOf (msplit s).2) (6000)) (Eqs (.int .i64 (kOf (msplit s).2))),OutL (xOf (msplit s).2) (6000),Eqs (.int .i64 (kOf (msplit s).2)),OutL (xOf (msplit s).2) (6000),Eqs (.int .i64 (kOf (msplit s).2))] [] [] (by kernel_rfl) hn rfl (by kernel_rfl) (by kernel_rfl) (by kernel_rfl) (by kernel_rfl) (by kernel_rfl) (by kernel_rfl) ⟨Eqs.mono4 _,Tup2.mono4 (OutL.mono4 _ _) (Eqs.mono4 _),Tup2.mono4 (OutL.mono4 _ _) (Eqs.mono4 _),OutL.mono4 _ _,Eqs.mono4 _,OutL.mono4 _ _,Eqs.mono4 _,trivial⟩ ok_nil (IsOld.all (bx:=[]) trivial) (DisOld.all (bx:=[]) trivial) ?_ ?_
 ·exact ⟨.norm 14 rfl rfl rfl (fun a_ w_ hn_ hBt hr hR hD hO hS=>op_mv ((hR 5 rfl).trans f5)),
   .norm 15 rfl rfl rfl (fun a_ w_ hn_ hBt hr hR hD hO hS=>op_lparse (show a_.eval (.tmp 14)=.string (msplit s).2 from hD 0 rfl)),
   .norm 13 rfl rfl rfl (fun a_ w_ hn_ hBt hr hR hD hO hS=>op_mvp (p:=Tup2 (OutL (xOf (msplit s).2) (6000)) (Eqs (.int .i64 (kOf (msplit s).2)))) (show Tup2 (OutL (xOf (msplit s).2) (6000)) (Eqs (.int .i64 (kOf (msplit s).2))) (a_.eval (.tmp 15)) w_ from hD 1 rfl)),
   .norm 16 rfl rfl rfl (fun a_ w_ hn_ hBt hr hR hD hO hS=>op_ex20 (show Tup2 (OutL (xOf (msplit s).2) (6000)) (Eqs (.int .i64 (kOf (msplit s).2))) (a_.eval (.tmp 13)) w_ from hD 2 rfl)),
   .norm 17 rfl rfl rfl (fun a_ w_ hn_ hBt hr hR hD hO hS=>op_ex21 (show Tup2 (OutL (xOf (msplit s).2) (6000)) (Eqs (.int .i64 (kOf (msplit s).2))) (a_.eval (.tmp 13)) w_ from hD 2 rfl)),
   .norm 6 rfl rfl rfl (fun a_ w_ hn_ hBt hr hR hD hO hS=>op_asp (p:=OutL (xOf (msplit s).2) (6000)) (show OutL (xOf (msplit s).2) (6000) (a_.eval (.tmp 16)) w_ from hD 3 rfl)),
   .norm 7 rfl rfl rfl (fun a_ w_ hn_ hBt hr hR hD hO hS=>op_assign (show a_.eval (.tmp 17)=.int .i64 (kOf (msplit s).2) from hD 4 rfl)),
   trivial⟩
 intro a3 w3 gs3 hn3 hd3 hBt hr hR hP hX hU
 replace hn:=hn3;replace hd:=hd3.trans hd
 replace b2:=b2.keep hBt trivial
 replace f2:=(hR 2 rfl).trans f2
 replace f3:=(hR 3 rfl).trans f3
 replace f4:=(hR 4 rfl).trans f4
 obtain ⟨a_4,c_4,r_4,e6,K4,l4⟩:OutL (xOf (msplit s).2) (6000) (a3.eval (.tmp 6)) w3:=hP 5 (by decide)
 have S4:=K4.sl;have V4:=K4.val
 have f6:=e6
 have e7:a3.eval (.tmp 7)=.int .i64 (kOf (msplit s).2):=hP 6 (by decide)
 have f7:=e7
 replace HB:=HB.trans (hBt.below HB.size (UpOld.all (bx:=[]) trivial))
 clear hBt hr hR hP hX hU
 refine wp_seq ?_
 refine wp_seq ?_
 refine region4 [some 18,some 19] [Eqs (.int .i64 (kOf (msplit s).2)),Eqs (.bool (!decide ((kOf (msplit s).2)=0)))] [] [] (by kernel_rfl) hn rfl (by kernel_rfl) (by kernel_rfl) (by kernel_rfl) (by kernel_rfl) (by kernel_rfl) (by kernel_rfl) ⟨Eqs.mono4 _,Eqs.mono4 _,trivial⟩ ok_nil (IsOld.all (bx:=[]) trivial) (DisOld.all (bx:=[]) trivial) ?_ ?_
 ·exact ⟨.norm 18 rfl rfl rfl (fun a_ w_ hn_ hBt hr hR hD hO hS=>op_mv ((hR 7 rfl).trans f7)),
   .norm 19 rfl rfl rfl (fun a_ w_ hn_ hBt hr hR hD hO hS=>op_neqkE (show a_.eval (.tmp 18)=.int .i64 (kOf (msplit s).2) from hD 0 rfl)),
   trivial⟩
 intro a5 w5 gs5 hn5 hd5 hBt hr hR hP hX hU
 replace hn:=hn5;replace hd:=hd5.trans hd
 replace b2:=b2.keep hBt trivial
 replace f2:=(hR 2 rfl).trans f2
 replace f3:=(hR 3 rfl).trans f3
 replace f4:=(hR 4 rfl).trans f4
 replace f6:=(hR 6 rfl).trans f6
 replace f7:=(hR 7 rfl).trans f7
 have e19:a5.eval (.tmp 19)=.bool (!decide ((kOf (msplit s).2)=0)):=hP 1 (by decide)
 have f19:=e19
 replace K4:=K4.rl hr
 replace S4:=S4.rl hr
 replace HB:=HB.trans (hBt.below HB.size (UpOld.all (bx:=[]) trivial))
 clear hBt hr hR hP hX hU
 refine wp_cond_split f19 (fun hc19=>?_) (fun hc19=>?_)
 ·skip
  have hk0:kOf (msplit s).2≠0:=by simpa using hc19
  refine wp_seq ?_
  refine region4 [some 20,some 21,none,some 3] [Eqs (.agg #[.bool false,.slice none 0 0]),Eqs (.int .i64 (kOf (msplit s).2)),(fun _ _=>True),Eqs (.int .i64 (kOf (msplit s).2))] [⟨W2,none,(gs1 0),2,.agg #[.bool false,.slice none 0 0],some (2,20,0),[]⟩] [] (by kernel_rfl) hn rfl (by kernel_rfl) (by kernel_rfl) (by kernel_rfl) (by kernel_rfl) (by kernel_rfl) (by kernel_rfl) ⟨Eqs.mono4 _,Eqs.mono4 _,True.mono4,Eqs.mono4 _,trivial⟩ (ok_cons W2ok ok_nil) (IsOld.all (bx:=[⟨W2,none,(gs1 0),2,.agg #[.bool false,.slice none 0 0],some (2,20,0),[]⟩]) ⟨fun _=>⟨f2,b2⟩,trivial⟩) (DisOld.all (bx:=[⟨W2,none,(gs1 0),2,.agg #[.bool false,.slice none 0 0],some (2,20,0),[]⟩]) ⟨fun _=>trivial,trivial⟩) ?_ ?_
  ·exact ⟨.norm 20 rfl rfl rfl (fun a_ w_ hn_ hBt hr hR hD hO hS=>op_bW0),
    .norm 21 rfl rfl rfl (fun a_ w_ hn_ hBt hr hR hD hO hS=>op_mv ((hR 7 rfl).trans f7)),
    .store 0 _ _ _ rfl rfl rfl rfl rfl rfl rfl (fun ia h=>by cases h) rfl rfl rfl (eqs_cs w2_cs),
    .norm 3 rfl rfl rfl (fun a_ w_ hn_ hBt hr hR hD hO hS=>op_assign (show a_.eval (.tmp 21)=.int .i64 (kOf (msplit s).2) from hD 1 rfl)),
    trivial⟩
  intro a6 w6 gs6 hn6 hd6 hBt hr hR hP hX hU
  replace hn:=hn6;replace hd:=hd6.trans hd
  have e20:a6.eval (.tmp 20)=.agg #[.bool false,.slice none 0 0]:=hP 0 (by decide)
  have b2:BoxV W2 w6 ((gs1 0)) (.agg #[.bool false,.slice none 0 0]):=boxv_old ((hX 0 _ rfl).2.1 rfl) (hX 0 _ rfl).2.2.2 e20
  replace f2:a6.eval (.tmp 2) = _:=(hR 2 rfl).trans f2
  replace f4:=(hR 4 rfl).trans f4
  replace f6:=(hR 6 rfl).trans f6
  have e3:a6.eval (.tmp 3)=.int .i64 (kOf (msplit s).2):=hP 3 (by decide)
  have f3:=e3
  replace K4:=K4.rl hr
  replace S4:=S4.rl hr
  replace HB:=HB.trans (hBt.below HB.size (UpOld.all (bx:=[⟨W2,none,(gs1 0),2,.agg #[.bool false,.slice none 0 0],some (2,20,0),[]⟩]) ⟨fun _=>u2,trivial⟩))
  clear hBt hr hR hP hX hU
  refine wp_ret ?_
  repeat (first | refine then_ret ?_ | refine scope_ret ?_ | refine block_ret ?_)
  exact bodyPost_ret (v:=.tuple #[.agg #[.bool false,.slice none 0 0],.int .i64 (kOf (msplit s).2)]) (res_ct rfl f2 (lv_W2 b2) f3) hd ⟨_,rfl,⟨_,_,rfl,by rw [zOf,xOf_zero hk0];exact outw_zero _,rfl⟩,HB⟩
 ·skip
  have hk0:kOf (msplit s).2=0:=by simpa using hc19
  refine wp_skip ?_
  refine wp_seq ?_
  refine region4 [some 22,some 23,some 24,none,some 3] [Eqs (.bool (msplit s).1),Eqs (.slice a_4 r_4.length c_4),OutW (sg ((msplit s).1) (xOf (msplit s).2)) (6000),(fun _ _=>True),Eqs ((.int .i64 0))] [⟨W2,none,(gs1 0),2,.agg #[.bool false,.slice none 0 0],some (3,24,2),[]⟩] [] (by kernel_rfl) hn rfl (by kernel_rfl) (by kernel_rfl) (by kernel_rfl) (by kernel_rfl) (by kernel_rfl) (by kernel_rfl) ⟨Eqs.mono4 _,Eqs.mono4 _,OutW.mono4 _ _,True.mono4,Eqs.mono4 _,trivial⟩ (ok_cons W2ok ok_nil) (IsOld.all (bx:=[⟨W2,none,(gs1 0),2,.agg #[.bool false,.slice none 0 0],some (3,24,2),[]⟩]) ⟨fun _=>⟨f2,b2⟩,trivial⟩) (DisOld.all (bx:=[⟨W2,none,(gs1 0),2,.agg #[.bool false,.slice none 0 0],some (3,24,2),[]⟩]) ⟨fun _=>trivial,trivial⟩) ?_ ?_
  ·exact ⟨.norm 22 rfl rfl rfl (fun a_ w_ hn_ hBt hr hR hD hO hS=>op_mv ((hR 4 rfl).trans f4)),
    .norm 23 rfl rfl rfl (fun a_ w_ hn_ hBt hr hR hD hO hS=>op_mv ((hR 6 rfl).trans f6)),
    .norm 24 rfl rfl rfl (fun a_ w_ hn_ hBt hr hR hD hO hS=>op_signed0 (show a_.eval (.tmp 22)=.bool (msplit s).1 from hD 0 rfl) (outl_eq (show a_.eval (.tmp 23)=.slice a_4 r_4.length c_4 from hD 1 rfl) (K4.rl hr) l4) (by omega)),
    .store 0 _ _ _ rfl rfl rfl rfl rfl rfl rfl (fun ia h=>by cases h) rfl rfl rfl OutW.cs,
    .norm 3 rfl rfl rfl (fun a_ w_ hn_ hBt hr hR hD hO hS=>op_assign rfl),
    trivial⟩
  intro a7 w7 gs7 hn7 hd7 hBt hr hR hP hX hU
  replace hn:=hn7;replace hd:=hd7.trans hd
  obtain ⟨n_8,a_8,c_8,r_8,e24,G8,l8⟩:OutW (sg ((msplit s).1) (xOf (msplit s).2)) (6000) (a7.eval (.tmp 24)) w7:=hP 2 (by decide)
  have A8:=G8.ag
  have b2:BoxV W2 w7 ((gs1 0)) (.agg #[.bool n_8,.slice a_8 r_8.length c_8]):=boxv_old ((hX 0 _ rfl).2.1 rfl) (hX 0 _ rfl).2.2.2 e24
  replace f2:a7.eval (.tmp 2) = _:=(hR 2 rfl).trans f2
  have e3:a7.eval (.tmp 3)=(.int .i64 0):=hP 4 (by decide)
  have f3:=e3
  replace K4:=K4.rl hr
  replace S4:=S4.rl hr
  replace HB:=HB.trans (hBt.below HB.size (UpOld.all (bx:=[⟨W2,none,(gs1 0),2,.agg #[.bool false,.slice none 0 0],some (3,24,2),[]⟩]) ⟨fun _=>u2,trivial⟩))
  clear hBt hr hR hP hX hU
  refine wp_ret ?_
  repeat (first | refine then_ret ?_ | refine scope_ret ?_ | refine block_ret ?_)
  exact bodyPost_ret (v:=.tuple #[.agg #[.bool n_8,.slice a_8 r_8.length c_8],(.int .i64 0)]) (res_ct rfl f2 (lv_W2 b2) f3) hd ⟨_,rfl,⟨_,_,rfl,outw_eq rfl G8 l8,by rw [eOf,hk0];rfl⟩,HB⟩
end Lm
end Go.Proofs.YtaofpigilgapgaaGreatDoor

namespace Go.Proofs.YtaofpigilgapgaaGreatDoor
namespace Lm
open Go Go.RowKit
set_option maxRecDepth 20000 in
set_option maxHeartbeats 2000000 in
theorem anumber_any (w:World) (hT:Tabs w) (q b:Nat) (tv uv:Value) (l:List Tk) (vs:List ByteArray) (i:Nat) (t:Tk) (h:Rea w q b tv uv l vs i) (ht:l[i]? = some t) :
  Calls Tryz.prog 206 #[.pointer (some ⟨q,0,none⟩)] w fun e w'=>∃ v,e=.returned v∧OutW (zOf t.text) 6000 v w'∧Below w.heap.size w w' := by
 have hb0:Below w.heap.size w (w.alloc (.cells #[.bool false,.slice none 0 0] 66)):=hAl _ _
 have K:=hide (atoken_any _ q b tv uv l vs i t (h.below hb0) ht)
 have HT:=hide hT
 clear h ht hT
 unfold Tk.av at K
 have hf1:∀ W,(Instr.field 113 (.agg #[.int .i64 t.kind,.string t.text,.int .i64 t.pl.b,.int .i64 t.pl.g,.int .i64 t.pl.l,.int .i64 t.pl.c]) 1).run Tryz.prog W=.ok (.string t.text) W:=fun W=>tk_f1 _ _ _ _ _ _ W
 go_enter Tryz.func206,Tryz.ntmps206
 go_wp2_with fail
 refine K.out.mono ?_
 rintro r w1 ⟨rfl,hb⟩
 have HB:=hide (hb0.trans (hb.mono hb0.size))
 have hf:w1.heap[w.heap.size]? = some (.cells #[.bool false,.slice none 0 0] 66 (0,0)):=(hb.block _ (by simp)).trans (heap_alloc_new w _)
 have HF:=hide hf
 clear hb K hb0 hf
 go_wp2_with fail
 refine (wparse_z w1 t.text (HT.out.below HB.out)).mono ?_
 rintro r w2 ⟨v,rfl,⟨x,y,rfl,ho,rfl⟩,hb2⟩
 obtain ⟨ng,ao,cap,rs,rfl,ho'⟩:=id ho
 have HO:=hide ho
 have HB2:=hide (HB.out.trans (hb2.mono HB.out.size))
 have hf:=(hb2.block _ (lt_of_heap HF.out)).trans HF.out
 have HF2:=hide hf
 generalize hfz:w.heap.size=f at *
 obtain ⟨hfl,c0,c1,fr0,fr1⟩:f<w2.heap.size∧w2.cell? ⟨f,0,none⟩ = some (.bool false)∧w2.cell? ⟨f,1,none⟩ = some (.slice none 0 0)∧w2.frozen? ⟨f,0,none⟩ = false∧w2.frozen? ⟨f,1,none⟩ = false:=⟨lt_of_heap hf,by rw [cell_of_row _ _ _ _ _ (0,0) hf];rfl,by rw [cell_of_row _ _ _ _ _ (0,0) hf];rfl,frozen_of_row _ _ _ _ _ hf,frozen_of_row _ _ _ _ _ hf⟩
 clear ho ho' hb2 HF hf
 go_wp2
 refine bodyPost_ret (v:=.agg #[.bool ng,.slice ao rs.length cap]) (res_c (g:=f) rfl rfl (lvw2 (alloc_keep (set_w2 HF2.out _ _)))) rfl ⟨_,rfl,HO.out.ru ((ru_w2 HF2.out _ _).trans (Ru.of_below (hAl _ _))),?_⟩
 rw [hfz]
 have HBx:=HB2.out
 (repeat' first|with_reducible(first|exact Below.refl _ _|assumption|refine gdrewN ?_ _|refine Below.alloc ?_ ?_ _|refine Below.drew ?_|refine Below.setCell ?_ ?_ _)|go_size)
def sMinus:ByteArray:=⟨#[45]⟩
def sPlus:ByteArray:=⟨#[43]⟩
def sOver:ByteArray:=⟨#[47]⟩
def sTimes:ByteArray:=⟨#[42]⟩
def sEq:ByteArray:=⟨#[61]⟩
def tpm (t:Tk):Bool:=tsg t sMinus || tsg t sPlus
set_option maxRecDepth 20000 in
set_option maxHeartbeats 2000000 in
theorem apm_any (w:World) (q b:Nat) (tv uv:Value) (l:List Tk) (vs:List ByteArray) (i:Nat) (t:Tk) (h:Rea w q b tv uv l vs i) (ht:l[i]? = some t) (hj:t.kind=3→i+1<l.length) (hl:l.length≤100000) :
  Calls Tryz.prog 162 #[.pointer (some ⟨q,0,none⟩)] w fun e w'=>e=.returned (.tuple #[.bool (tsg t sMinus),.bool (tpm t)])∧Rea w' q b tv uv l vs (if tpm t then i+1 else i)∧Rc q q w w' := by
 have K:=hide (asign_any w q b tv uv l vs i t h ht sMinus hj hl)
 have HT:=hide ht
 have HJ:=hide (And.intro hj hl)
 clear h ht hj hl
 cases hm:tsg t sMinus with
 | true =>
  have e1:tpm t=true:=by rw [tpm,hm];rfl
  rw [hm] at K
  rw [e1]
  clear e1 hm
  unfold sMinus at K
  go_enter Tryz.func162,Tryz.ntmps162
  go_wp2_with fail
  refine K.out.mono ?_
  rintro r w1 ⟨rfl,h1,h2⟩
  have H1:=hide h1
  have H2:=hide h2
  clear h1 h2 K
  go_wp2
  refine bodyPost_ret (v:=_) (by simp [results,Tryz.results162,go_sem];try rfl) rfl ⟨rfl,H1.out,H2.out⟩
 | false =>
  have e1:tpm t=tsg t sPlus:=by rw [tpm,hm];rfl
  rw [hm] at K
  rw [e1]
  clear e1 hm
  unfold sMinus at K
  obtain ⟨bp,hbp⟩:∃ bp,tsg t sPlus=bp:=⟨_,rfl⟩
  obtain ⟨j,hjj⟩:∃ j,(if bp=true then i+1 else i)=j:=⟨_,rfl⟩
  rw [hbp,hjj]
  have HBP:=hide hbp
  have HJJ:=hide hjj
  clear hbp hjj
  go_enter Tryz.func162,Tryz.ntmps162
  go_wp2_with fail
  refine K.out.mono ?_
  rintro r w1 ⟨rfl,h1,h2⟩
  have K2:=hide (asign_any w1 q b tv uv l vs i t h1 HT.out sPlus HJ.out.1 HJ.out.2)
  have H2:=hide h2
  clear h1 h2 K
  rw [HBP.out,HJJ.out] at K2
  unfold sPlus at K2
  go_wp2_with fail
  refine K2.out.mono ?_
  rintro r w2 ⟨rfl,h1,h2⟩
  have H1:=hide h1
  have H3:=hide (H2.out.trans h2)
  clear h1 h2 K2
  go_wp2
  refine bodyPost_ret (v:=_) (by simp [results,Tryz.results162,go_sem];try rfl) rfl ⟨rfl,H1.out,H3.out⟩
inductive CoefR (l:List Tk) (i:Nat):Bool→Nat→Rat→Prop
 | plain (t t1:Tk) (h:l[i]? = some t) (h1:l[i+1]? = some t1) (hs:tsg t1 sOver=false):CoefR l i true (i+1) (zOf t.text:Int)
 | over (t t1 t2:Tk) (h:l[i]? = some t) (h1:l[i+1]? = some t1) (hs:tsg t1 sOver=true) (h2:l[i+2]? = some t2) (hz:zOf t2.text≠0):CoefR l i true (i+3) (Rat.divInt (zOf t.text) (zOf t2.text))
 | bad (t t1 t2:Tk) (h:l[i]? = some t) (h1:l[i+1]? = some t1) (hs:tsg t1 sOver=true) (h2:l[i+2]? = some t2) (hz:zOf t2.text=0):CoefR l i false (i+2) 0
structure Wf (l:List Tk):Prop where
 len:l.length≤100000
 stop:∀ (i:Nat) (t:Tk),l[i]? = some t→i+1=l.length→t.kind=0∧t.text=⟨#[]⟩
theorem Wf.more {l:List Tk} (h:Wf l) {i:Nat} {t:Tk} (ht:l[i]? = some t) (hk:t.kind≠0):i+1<l.length:=by
 have:=(List.getElem?_eq_some_iff.1 ht).1
 by_cases he:i+1=l.length
 ·exact absurd (h.stop i t ht he).1 hk
 ·omega
theorem ru_next {w:World} {q b:Nat} {tv uv:Value} {l:List Tk} {vs:List ByteArray} {i:Nat} {u:Value} (h:Rea w q b tv uv l vs i):Ru w (w.setCell ⟨q,1,none⟩ u):=by
 refine Ru.of_one h.blk (by decide) ?_ (by simp [World.setCell]) (fun k _ hn=>heap_setCell_other w ⟨q,1,none⟩ k _ hn)
 obtain ⟨ao,ct,rfl,_⟩:=h.tks.parts
 obtain ⟨ao',ct',rfl,_⟩:=h.vrs
 intro k z
 match k with
 | 0=>simp
 | 1=>simp
 | 2=>simp
 | k+3=>simp
theorem Rea.fill3 {w w3:World} {q b:Nat} {tv uv:Value} {l:List Tk} {vs:List ByteArray} {i j f:Nat} {ng:Bool} {a d:Option Addr} {n c k e:Nat} (H:Rea w q b tv uv l vs i) (HR:Rea w3 q b tv uv l vs j) (HC:Rc q q w w3) (hf:w3.heap[f]? = some (.cells #[.bool ng,.slice a n c,.slice d k e] 89 (0,0))) (hfw:w.heap.size≤f) (u v x:Value):Rea (((w3.setCell ⟨f,0,none⟩ u).setCell ⟨f,1,none⟩ v).setCell ⟨f,2,none⟩ x) q b tv uv l vs j∧Rc q q w (((w3.setCell ⟨f,0,none⟩ u).setCell ⟨f,1,none⟩ v).setCell ⟨f,2,none⟩ x):=by
 have hq:=lt_of_heap H.blk
 have ho:∀ k,k≠f→(((w3.setCell ⟨f,0,none⟩ u).setCell ⟨f,1,none⟩ v).setCell ⟨f,2,none⟩ x).heap[k]? = w3.heap[k]? := fun k hn=>by rw [heap_setCell_other _ ⟨f,2,none⟩ k _ hn,heap_setCell_other _ ⟨f,1,none⟩ k _ hn,heap_setCell_other _ ⟨f,0,none⟩ k _ hn]
 have hrc:Rc q q w (((w3.setCell ⟨f,0,none⟩ u).setCell ⟨f,1,none⟩ v).setCell ⟨f,2,none⟩ x):=⟨HC.os,HC.tape,HC.output,by simpa [World.setCell] using HC.size,fun k hk h1 h2=>(ho k (by omega)).trans (HC.other k hk h1 h2),HC.ru.trans (ru_r3 hf u v x)⟩
 exact ⟨H.rc hrc.wide ((ho q (by omega)).trans HR.blk) HR.lt,hrc⟩
theorem Tabs.rcs {w w' : World} {q b:Nat} (hT:Tabs w) (hr:Rc q b w w') (hq:∀ z,w.cell? ⟨q,0,none⟩≠some (.int .u8 z)) (hb:∀ z,w.cell? ⟨b,0,none⟩≠some (.int .u8 z)):Tabs w' := by
 obtain ⟨h1,h2⟩:=hT
 have keep:∀ g c z,(∃ z0,w.cell? ⟨g,0,none⟩ = some (.int .u8 z0))→w.cell? ⟨g,c,none⟩ = some (.int .u8 z)→w'.cell? ⟨g,c,none⟩ = some (.int .u8 z):=by
  rintro g c z ⟨z0,e0⟩ e
  have n1:g≠q:=by rintro rfl;exact hq _ e0
  have n2:g≠b:=by rintro rfl;exact hb _ e0
  rw [World.cell?_of_block (w:=w) (hr.other g (lt_of_cell' e) n1 n2)]
  exact e
 refine ⟨fun c hc=>keep _ _ _ ⟨_,h1 0 (by decide)⟩ (h1 c hc),fun i hi=>⟨keep _ _ _ ⟨_,(h2 0 (by decide)).1⟩ (h2 i hi).1,keep _ _ _ ⟨_,(h2 0 (by decide)).1⟩ (h2 i hi).2⟩⟩
theorem Rea.no8 {w:World} {q b:Nat} {tv uv:Value} {l:List Tk} {vs:List ByteArray} {i:Nat} (h:Rea w q b tv uv l vs i) (z:Int):w.cell? ⟨q,0,none⟩≠some (.int .u8 z):=by
 rw [cell_of_row _ _ _ _ _ (0,0) h.blk]
 obtain ⟨ao,ct,rfl,_⟩:=h.tks.parts
 simp
theorem Tabs.rc {w w' : World} {q b:Nat} {tv uv:Value} {l:List Tk} {vs:List ByteArray} {i:Nat} (hT:Tabs w) (h:Rea w q b tv uv l vs i) (hr:Rc q q w w'):Tabs w' := hT.rcs hr h.no8 h.no8
set_option maxRecDepth 20000 in
set_option maxHeartbeats 4000000 in
theorem acoef_plain (w:World) (hT:Tabs w) (q b:Nat) (tv uv:Value) (l:List Tk) (hW:Wf l) (vs:List ByteArray) (i:Nat) (h:Rea w q b tv uv l vs i) (t t1:Tk) (ht:l[i]? = some t) (ht1:l[i+1]? = some t1) (hs:tsg t1 sOver=false) (N:Nat) (hz:Fit (zOf t.text:Int) N) :
  Calls Tryz.prog 194 #[.pointer (some ⟨q,0,none⟩)] w fun e w'=>∃ v,e=.returned (.tuple #[v,.bool true])∧OutQr (zOf t.text:Int) N v w'∧Rea w' q b tv uv l vs (i+1)∧Rc q q w w' := by
 have hj:i+1<l.length:=(List.getElem?_eq_some_iff.1 ht1).1
 have HJ:=hide hj
 have hi:i≤100000:=by have:=hW.len;omega
 have hq:=lt_of_heap h.blk
 have hb0:Below w.heap.size w (w.alloc (.cells #[.bool false,.slice none 0 0,.slice none 0 0] 89)):=hAl _ _
 have K:=hide (anumber_any _ (hT.below hb0) q b tv uv l vs i t (h.below hb0) ht)
 have H:=hide h
 have HT1:=hide ht1
 have HS:=hide hs
 have HW:=hide hW
 have HZ:=hide hz
 clear h ht ht1 hs hT hW hj hz
 go_enter Tryz.func194,Tryz.ntmps194
 go_wp2_with fail
 refine K.out.mono ?_
 rintro r w1 ⟨v,rfl,ho,hb1⟩
 obtain ⟨ng,ao,cap,rs,rfl,_⟩:=id ho
 have HO:=hide ho
 have HB:=hide (hb0.trans (hb1.mono hb0.size))
 have hf:w1.heap[w.heap.size]? = some (.cells #[.bool false,.slice none 0 0,.slice none 0 0] 89 (0,0)):=(hb1.block _ (by simp)).trans (heap_alloc_new w _)
 have HF:=hide hf
 have hqb:=(HB.out.block q hq).trans H.out.blk
 have k1:w1.cell? ⟨q,1,none⟩ = some (.int .i64 i):=by rw [cell_of_row _ _ _ _ _ (0,0) hqb];rfl
 have kf:w1.frozen? ⟨q,1,none⟩ = false:=frozen_of_row w1 q 1 _ _ hqb
 have hq1:q<w1.heap.size:=lt_of_heap hqb
 clear ho hb1 K hb0 hf hqb
 go_wp2_with fail
 obtain ⟨n1,n2⟩:=H.out.next (.of_below HB.out) (HB.out.block q hq) HJ.out
 have hmm:(w1.setCell ⟨q,1,none⟩ (.int .i64 ((i:Int)+1))).heap.size=w1.heap.size:=by simp [World.setCell]
 have hf2:((w1.setCell ⟨q,1,none⟩ (.int .i64 ((i:Int)+1))).alloc (.cells #[.bool ng,.slice ao rs.length cap] 66)).heap[w.heap.size]? = some (.cells #[.bool false,.slice none 0 0,.slice none 0 0] 89 (0,0)):=alloc_keep ((heap_setCell_other w1 ⟨q,1,none⟩ _ _ (by show w.heap.size≠q;omega)).trans HF.out)
 have hm2:((w1.setCell ⟨q,1,none⟩ (.int .i64 ((i:Int)+1))).alloc (.cells #[.bool ng,.slice ao rs.length cap] 66)).heap[w1.heap.size]? = some (.cells #[.bool ng,.slice ao rs.length cap] 66 (0,0)):=by rw [←hmm];exact heap_alloc_new _ _
 have hu2:Ru w1 ((w1.setCell ⟨q,1,none⟩ (.int .i64 ((i:Int)+1))).alloc (.cells #[.bool ng,.slice ao rs.length cap] 66)):=(ru_next (H.out.below HB.out)).trans (Ru.of_below (hAl _ _))
 have K:=asign_any _ q b tv uv l vs (i+1) t1 (n1.below (hAl _ (.cells #[.bool ng,.slice ao rs.length cap] 66))) HT1.out sOver (fun h3=>HW.out.more HT1.out (by rw [h3];decide)) HW.out.len
 rw [HS.out] at K
 refine K.mono ?_
 rintro r w2 ⟨rfl,hR2,hC2⟩
 have HR2:=hide hR2
 have HC2:=hide ((n2.trans (.of_below (hAl _ _))).trans hC2)
 have HO2:=hide (HO.out.ru (hu2.trans hC2.ru))
 have hf3:=(hC2.other _ (lt_of_heap hf2) (by omega) (by omega)).trans hf2
 have hm3:=(hC2.other _ (lt_of_heap hm2) (by omega) (by omega)).trans hm2
 have HF3:=hide hf3
 obtain ⟨_,m0,m1,_,_⟩:=two_cells hm3
 have HM3:=hide hm3
 clear hR2 hC2 hf2 hm2 hu2 K n1 n2 hmm hm3 hf3 k1 kf
 go_wp2_with fail
 refine (rfrom_q w2 _ _ _ HO2.out.is (by omega)).mono ?_
 rintro r w3 ⟨v,rfl,ho3,hb3⟩
 replace ho3:=ho3.fit HZ.out
 obtain ⟨ng1,ao1,cap1,rs1,bo1,dap1,ss1,rfl,_⟩:=id ho3
 have HO3:=hide ho3
 have hf4:=(hb3.block _ (lt_of_heap HF3.out)).trans HF3.out
 have HF4:=hide hf4
 obtain ⟨hfl,c0,c1,c2,fr0,fr1,fr2⟩:=three_cells hf4
 have HR4:=hide (HR2.out.below hb3)
 have HC4:=hide (HC2.out.trans (.of_below hb3))
 clear ho3 hb3 hf4
 go_wp2
 obtain ⟨x1,x2⟩:=H.out.fill3 HR4.out HC4.out HF4.out (Nat.le_refl _) (.bool ng1) (.slice ao1 rs1.length cap1) (.slice bo1 ss1.length dap1)
 exact bodyPost_ret (v:=.tuple #[.agg #[.bool ng1,.slice ao1 rs1.length cap1,.slice bo1 ss1.length dap1],.bool true]) (res_ct (g:=w.heap.size) rfl rfl (lvr3 (set_r3 HF4.out _ _ _)) rfl) rfl ⟨_,rfl,HO3.out.ru (ru_r3 HF4.out _ _ _),x1,x2⟩
end Lm
end Go.Proofs.YtaofpigilgapgaaGreatDoor

namespace Go.Proofs.YtaofpigilgapgaaGreatDoor
namespace Lm
open Go Go.RowKit
theorem has_anumber:Has Tryz.prog 206:=by unfold Has;kernel_rfl
theorem rof_yes (w:World) (x y:Value) (z u:Int) (L M:Nat) (hx:IsW z L x w) (hy:IsW u M y w) (hL:L+M≤100000) (hu:u≠0) (N:Nat) (hf:Fit (Rat.divInt z u) N) :
  Calls Tryz.prog 207 #[x,y] w fun e w'=>Below w.heap.size w w'∧∃ v,e=.returned (.tuple #[v,.int .i64 0])∧OutQr (Rat.divInt z u) N v w' := by
 refine (rof_q w x y z u L M hx hy hL).mono ?_
 rintro e w' ⟨hb,⟨_,v,rfl,ho⟩ | ⟨h0,_⟩⟩
 ·exact ⟨hb,v,rfl,ho.fit hf⟩
 ·exact absurd h0 hu
theorem rof_no (w:World) (x y:Value) (z u:Int) (L M:Nat) (hx:IsW z L x w) (hy:IsW u M y w) (hL:L+M≤100000) (hu:u=0) :
  Calls Tryz.prog 207 #[x,y] w fun e w'=>Below w.heap.size w w'∧e=.returned (.tuple #[.agg #[.bool false,.slice none 0 0,.slice none 0 0],.int .i64 20]):=by
 refine (rof_q w x y z u L M hx hy hL).mono ?_
 rintro e w' ⟨hb,⟨h0,_⟩ | ⟨_,rfl⟩⟩
 ·exact absurd hu h0
 ·exact ⟨hb,rfl⟩
theorem zOf_nil:zOf ⟨#[]⟩ = 0:=by
 have h1:msplit ⟨#[]⟩ = (false,⟨#[]⟩):=by kernel_rfl
 have h2:¬ Dm.Fine ⟨#[]⟩:=by
  rintro ⟨h,_⟩
  exact absurd h (by decide)
 rw [zOf,h1,xOf,if_neg h2]
 rfl
def OutQr0 (v:Value):Prop:=v=.agg #[.bool false,.slice none 0 0,.slice none 0 0]
set_option maxRecDepth 20000 in
set_option maxHeartbeats 4000000 in
theorem acoef_over (w:World) (hT:Tabs w) (q b:Nat) (tv uv:Value) (l:List Tk) (hW:Wf l) (vs:List ByteArray) (i:Nat) (h:Rea w q b tv uv l vs i) (t t1 t2:Tk) (ht:l[i]? = some t) (ht1:l[i+1]? = some t1) (hs:tsg t1 sOver=true) (ht2:l[i+2]? = some t2) (hnz:zOf t2.text≠0) (N:Nat) (hz:Fit (Rat.divInt (zOf t.text) (zOf t2.text)) N) :
  Calls Tryz.prog 194 #[.pointer (some ⟨q,0,none⟩)] w fun e w'=>∃ v,e=.returned (.tuple #[v,.bool true])∧OutQr (Rat.divInt (zOf t.text) (zOf t2.text)) N v w'∧Rea w' q b tv uv l vs (i+3)∧Rc q q w w' := by
 have HT2:=hide ht2
 have HTT:=hide hT
 have HNZ:=hide hnz
 have hj:i+1<l.length:=(List.getElem?_eq_some_iff.1 ht1).1
 have HJ:=hide hj
 have hj3:i+2+1<l.length:=by
  have h1:=(List.getElem?_eq_some_iff.1 ht2).1
  by_cases he:i+2+1=l.length
  ·have h2:=(hW.stop _ _ ht2 he).2
   rw [h2] at hnz
   exact absurd zOf_nil hnz
  ·omega
 have HJ3:=hide hj3
 clear hj3
 have hi:i≤100000:=by have:=hW.len;omega
 have hq:=lt_of_heap h.blk
 have hb0:Below w.heap.size w (w.alloc (.cells #[.bool false,.slice none 0 0,.slice none 0 0] 89)):=hAl _ _
 have K:=hide (anumber_any _ (hT.below hb0) q b tv uv l vs i t (h.below hb0) ht)
 have H:=hide h
 have HT1:=hide ht1
 have HS:=hide hs
 have HW:=hide hW
 have HZ:=hide hz
 clear h ht ht1 ht2 hs hT hW hj hz hnz
 go_enter Tryz.func194,Tryz.ntmps194
 go_wp2_with fail
 refine K.out.mono ?_
 rintro r w1 ⟨v,rfl,ho,hb1⟩
 obtain ⟨ng,ao,cap,rs,rfl,_⟩:=id ho
 have HO:=hide ho
 have HB:=hide (hb0.trans (hb1.mono hb0.size))
 have hf:w1.heap[w.heap.size]? = some (.cells #[.bool false,.slice none 0 0,.slice none 0 0] 89 (0,0)):=(hb1.block _ (by simp)).trans (heap_alloc_new w _)
 have HF:=hide hf
 have hqb:=(HB.out.block q hq).trans H.out.blk
 have k1:w1.cell? ⟨q,1,none⟩ = some (.int .i64 i):=by rw [cell_of_row _ _ _ _ _ (0,0) hqb];rfl
 have kf:w1.frozen? ⟨q,1,none⟩ = false:=frozen_of_row w1 q 1 _ _ hqb
 have hq1:q<w1.heap.size:=lt_of_heap hqb
 clear ho hb1 K hb0 hf hqb
 go_wp2_with fail
 obtain ⟨n1,n2⟩:=H.out.next (.of_below HB.out) (HB.out.block q hq) HJ.out
 have hmm:(w1.setCell ⟨q,1,none⟩ (.int .i64 ((i:Int)+1))).heap.size=w1.heap.size:=by simp [World.setCell]
 have hf2:((w1.setCell ⟨q,1,none⟩ (.int .i64 ((i:Int)+1))).alloc (.cells #[.bool ng,.slice ao rs.length cap] 66)).heap[w.heap.size]? = some (.cells #[.bool false,.slice none 0 0,.slice none 0 0] 89 (0,0)):=alloc_keep ((heap_setCell_other w1 ⟨q,1,none⟩ _ _ (by show w.heap.size≠q;omega)).trans HF.out)
 have hm2:((w1.setCell ⟨q,1,none⟩ (.int .i64 ((i:Int)+1))).alloc (.cells #[.bool ng,.slice ao rs.length cap] 66)).heap[w1.heap.size]? = some (.cells #[.bool ng,.slice ao rs.length cap] 66 (0,0)):=by rw [←hmm];exact heap_alloc_new _ _
 have hu2:Ru w1 ((w1.setCell ⟨q,1,none⟩ (.int .i64 ((i:Int)+1))).alloc (.cells #[.bool ng,.slice ao rs.length cap] 66)):=(ru_next (H.out.below HB.out)).trans (Ru.of_below (hAl _ _))
 have K:=asign_any _ q b tv uv l vs (i+1) t1 (n1.below (hAl _ (.cells #[.bool ng,.slice ao rs.length cap] 66))) HT1.out sOver (fun h3=>HW.out.more HT1.out (by rw [h3];decide)) HW.out.len
 rw [HS.out] at K
 refine K.mono ?_
 rintro r w2 ⟨rfl,hR2,hC2⟩
 have HR2:=hide hR2
 have HC2:=hide ((n2.trans (.of_below (hAl _ _))).trans hC2)
 have HO2:=hide (HO.out.ru (hu2.trans hC2.ru))
 have hf3:=(hC2.other _ (lt_of_heap hf2) (by omega) (by omega)).trans hf2
 have hm3:=(hC2.other _ (lt_of_heap hm2) (by omega) (by omega)).trans hm2
 have HF3:=hide hf3
 obtain ⟨_,m0,m1,_,_⟩:=two_cells hm3
 have HM3:=hide hm3
 clear hR2 hC2 hf2 hm2 hu2 K n1 n2 hmm hm3 hf3 k1 kf
 rw [if_pos rfl] at HR2
 have HTw:=hide (HTT.out.rc H.out HC2.out)
 go_wp2_with fail
 go_cut [5,6] (fun pv ev wx=>∃ p ng4 ao4 m4 c4 bo4 k4 d4,pv=.pointer (some ⟨p,0,none⟩)∧ev=.int .i64 0∧wx.heap[p]? = some (.cells #[.bool ng4,.slice ao4 m4 c4,.slice bo4 k4 d4] 89 (0,0))∧OutQr (Rat.divInt (zOf t.text) (zOf t2.text)) N (.agg #[.bool ng4,.slice ao4 m4 c4,.slice bo4 k4 d4]) wx∧Below w2.heap.size w2 wx∧w2.heap.size≤p)
 case first =>
  go_region_law (first | (refine step_call rfl 206 #[.tmp 23] #[117] rfl has_anumber #[.pointer (some ⟨q,0,none⟩)] (by simp [Act.eval,Act.put]) (anumber_any _ (HTw.out.below (show Below w2.heap.size w2 _ by (repeat' first|with_reducible(first|exact Below.refl _ _|assumption|refine gdrewN ?_ _|refine Below.alloc ?_ ?_ _|refine Below.drew ?_|refine Below.setCell ?_ ?_ _)|go_size))) q b tv uv l vs (i+2) t2 (HR2.out.below (show Below w2.heap.size w2 _ by (repeat' first|with_reducible(first|exact Below.refl _ _|assumption|refine gdrewN ?_ _|refine Below.alloc ?_ ?_ _|refine Below.drew ?_|refine Below.setCell ?_ ?_ _)|go_size))) HT2.out) ?_;rintro e w3 ⟨v,rfl,ho3,hb3⟩;obtain ⟨ng3,ao3,cap3,rs3,rfl,_⟩:=id ho3;have HO3:=hide ho3;have hb23:Below w2.heap.size w2 w3:=(show Below w2.heap.size w2 _ by (repeat' first|with_reducible(first|exact Below.refl _ _|assumption|refine gdrewN ?_ _|refine Below.alloc ?_ ?_ _|refine Below.drew ?_|refine Below.setCell ?_ ?_ _)|go_size)).trans (hb3.mono (by simp));have HB23:=hide hb23;have hm3:=(hb23.block _ (lt_of_heap HM3.out)).trans HM3.out;have hm3:=two_cells hm3;obtain ⟨_,m03,m13,_,_⟩:=hm3;first | (have hz3:w3.heap[w2.heap.size]? = some (.cells #[.bool false,.slice none 0 0,.slice none 0 0] 89 (0,0)):=(hb3.block _ (by simp)).trans (heap_alloc_new w2 _);have hz3' := three_cells hz3;have HZ3:=hide hz3;clear hz3;obtain ⟨_,z30,z31,z32,y30,y31,y32⟩:=hz3') | skip;clear ho3 hb3 hb23;refine ⟨_,rfl,?_⟩) | (refine step_call rfl 207 #[.tmp 22,.tmp 24] #[66,66] rfl has_rof #[.agg #[.bool ng,.slice ao rs.length cap],.agg #[.bool ng3,.slice ao3 rs3.length cap3]] (by simp [Act.eval]) (rof_yes _ _ _ _ _ 6000 6000 (HO2.out.ru (Ru.of_below (HB23.out.trans ((show Below w3.heap.size w3 _ by (repeat' first|with_reducible(first|exact Below.refl _ _|assumption|refine gdrewN ?_ _|refine Below.alloc ?_ ?_ _|refine Below.drew ?_|refine Below.setCell ?_ ?_ _)|go_size)).mono HB23.out.size)))).is (HO3.out.ru (Ru.of_below (show Below w3.heap.size w3 _ by (repeat' first|with_reducible(first|exact Below.refl _ _|assumption|refine gdrewN ?_ _|refine Below.alloc ?_ ?_ _|refine Below.drew ?_|refine Below.setCell ?_ ?_ _)|go_size)))).is (by omega) HNZ.out N HZ.out) ?_;rintro e w4 ⟨hb4,v,rfl,ho4⟩;obtain ⟨ng4,ao4,cap4,rs4,bo4,dap4,ss4,rfl,_⟩:=id ho4;have HO4:=hide ho4;clear ho4;have hb24:Below w2.heap.size w2 w4:=(show Below w2.heap.size w2 _ from (HB23.out.trans ((show Below w3.heap.size w3 _ by (repeat' first|with_reducible(first|exact Below.refl _ _|assumption|refine gdrewN ?_ _|refine Below.alloc ?_ ?_ _|refine Below.drew ?_|refine Below.setCell ?_ ?_ _)|go_size)).mono HB23.out.size))).trans (hb4.mono (by first | exact HB23.out.size | exact Nat.le_trans HB23.out.size (Nat.le_of_lt (by simp))));have HB24:=hide hb24;have hq4:=hb24.block q (lt_of_heap HR2.out.blk);have hq4:=hq4.trans HR2.out.blk;have q41:w4.cell? ⟨q,1,none⟩ = some (.int .i64 ((i+2:Nat):Int)):=(by rw [cell_of_row _ _ _ _ _ (0,0) hq4];rfl);have q4f:w4.frozen? ⟨q,1,none⟩ = false:=frozen_of_row w4 q 1 _ _ hq4;have hf4:=(hb24.block _ (lt_of_heap HF3.out)).trans HF3.out;have HF4:=hide hf4;have hf4:=three_cells hf4;obtain ⟨hfl,c0,c1,c2,fr0,fr1,fr2⟩:=hf4;first | (have hz4:=(hb4.block _ (lt_of_heap HZ3.out)).trans HZ3.out;have hz4' := three_cells hz4;have HZ4:=hide hz4;clear hz4;obtain ⟨_,z40,z41,z42,y40,y41,y42⟩:=hz4') | (have hz4:w4.heap[w3.heap.size]? = some (.cells #[.bool false,.slice none 0 0,.slice none 0 0] 89 (0,0)):=(hb4.block _ (by simp)).trans (heap_alloc_new w3 _);have hz4' := three_cells hz4;have HZ4:=hide hz4;clear hz4;obtain ⟨_,z40,z41,z42,y40,y41,y42⟩:=hz4') | skip;clear hb4 hb24 hq4;refine ⟨_,rfl,?_⟩))
  all_goals (
   go_wp2_with fail
   go_meet
   have hb24:=HB24.out
   have hb23:=HB23.out
   first
   | exact ⟨_,_,_,_,_,_,_,_,rfl,rfl,set_r3 HZ4.out _ _ _,HO4.out.ru (ru_r3 HZ4.out _ _ _),((hb24.setCell (by first | exact Nat.le_refl _ | exact hb23.size) _).setCell (by first | exact Nat.le_refl _ | exact hb23.size) _).setCell (by first | exact Nat.le_refl _ | exact hb23.size) _,by first | exact Nat.le_refl _ | exact hb23.size⟩
   | exact ⟨_,_,_,_,_,_,_,_,rfl,rfl,heap_alloc_new w4 _,HO4.out.ru (Ru.of_below (hAl _ _)),hb24.alloc hb24.size _,hb24.size⟩)
 case rest =>
  obtain ⟨p,ng4,ao4,m4,c4,bo4,k4,d4,rfl,rfl,hp,ho4,hb,hpl⟩:=hcut
  have HO4:=hide ho4
  have hq2:=lt_of_heap HR2.out.blk
  have hq4:=(hb.block q hq2).trans HR2.out.blk
  have q41:wc.cell? ⟨q,1,none⟩ = some (.int .i64 ((i+2:Nat):Int)):=by rw [cell_of_row _ _ _ _ _ (0,0) hq4];rfl
  rw [show ((i+2:Nat):Int)=(i:Int)+2 from by omega] at q41
  have q4f:wc.frozen? ⟨q,1,none⟩ = false:=frozen_of_row wc q 1 _ _ hq4
  have hf4:=(hb.block _ (lt_of_heap HF3.out)).trans HF3.out
  have HF4:=hide hf4
  obtain ⟨hfl,c0,c1,c2,fr0,fr1,fr2⟩:=three_cells hf4
  obtain ⟨hpl2,p0,p1,p2,_,_,_⟩:=three_cells hp
  have HB4:=hide hb
  have hpq:p≠q:=by omega
  have hfp:=lt_of_heap HF3.out
  have hpf:p≠w.heap.size:=by omega
  clear ho4 hb hq4 hf4 hp m0 m1
  go_wp2
  obtain ⟨n1,n2⟩:=HR2.out.next (.of_below HB4.out) (HB4.out.block q hq2) HJ3.out
  rw [show ((i+2:Nat):Int)=(i:Int)+2 from by omega] at n1 n2
  have hfq:(wc.setCell ⟨q,1,none⟩ (.int .i64 ((i:Int)+2+1))).heap[w.heap.size]? = some (.cells #[.bool false,.slice none 0 0,.slice none 0 0] 89 (0,0)):=(heap_setCell_other wc ⟨q,1,none⟩ _ _ (by show w.heap.size≠q;omega)).trans HF4.out
  obtain ⟨x1,x2⟩:=H.out.fill3 n1 (HC2.out.trans n2) hfq (Nat.le_refl _) (.bool ng4) (.slice ao4 m4 c4) (.slice bo4 k4 d4)
  exact bodyPost_ret (v:=.tuple #[.agg #[.bool ng4,.slice ao4 m4 c4,.slice bo4 k4 d4],.bool true]) (res_ct (g:=w.heap.size) rfl rfl (lvr3 (set_r3 hfq _ _ _)) rfl) rfl ⟨_,rfl,HO4.out.ru ((ru_next (HR2.out.below HB4.out)).trans (ru_r3 hfq _ _ _)),x1,x2⟩
set_option maxRecDepth 20000 in
set_option maxHeartbeats 4000000 in
theorem acoef_bad (w:World) (hT:Tabs w) (q b:Nat) (tv uv:Value) (l:List Tk) (hW:Wf l) (vs:List ByteArray) (i:Nat) (h:Rea w q b tv uv l vs i) (t t1 t2:Tk) (ht:l[i]? = some t) (ht1:l[i+1]? = some t1) (hs:tsg t1 sOver=true) (ht2:l[i+2]? = some t2) (hnz:zOf t2.text=0) :
  Calls Tryz.prog 194 #[.pointer (some ⟨q,0,none⟩)] w fun e w'=>∃ v,e=.returned (.tuple #[v,.bool false])∧OutQr0 v∧Rea w' q b tv uv l vs (i+2)∧Rc q q w w' := by
 have HT2:=hide ht2
 have HTT:=hide hT
 have HNZ:=hide hnz
 have hj:i+1<l.length:=(List.getElem?_eq_some_iff.1 ht1).1
 have HJ:=hide hj
 have hi:i≤100000:=by have:=hW.len;omega
 have hq:=lt_of_heap h.blk
 have hb0:Below w.heap.size w (w.alloc (.cells #[.bool false,.slice none 0 0,.slice none 0 0] 89)):=hAl _ _
 have K:=hide (anumber_any _ (hT.below hb0) q b tv uv l vs i t (h.below hb0) ht)
 have H:=hide h
 have HT1:=hide ht1
 have HS:=hide hs
 have HW:=hide hW
 clear h ht ht1 ht2 hs hT hW hj hnz
 go_enter Tryz.func194,Tryz.ntmps194
 go_wp2_with fail
 refine K.out.mono ?_
 rintro r w1 ⟨v,rfl,ho,hb1⟩
 obtain ⟨ng,ao,cap,rs,rfl,_⟩:=id ho
 have HO:=hide ho
 have HB:=hide (hb0.trans (hb1.mono hb0.size))
 have hf:w1.heap[w.heap.size]? = some (.cells #[.bool false,.slice none 0 0,.slice none 0 0] 89 (0,0)):=(hb1.block _ (by simp)).trans (heap_alloc_new w _)
 have HF:=hide hf
 have hqb:=(HB.out.block q hq).trans H.out.blk
 have k1:w1.cell? ⟨q,1,none⟩ = some (.int .i64 i):=by rw [cell_of_row _ _ _ _ _ (0,0) hqb];rfl
 have kf:w1.frozen? ⟨q,1,none⟩ = false:=frozen_of_row w1 q 1 _ _ hqb
 have hq1:q<w1.heap.size:=lt_of_heap hqb
 clear ho hb1 K hb0 hf hqb
 go_wp2_with fail
 obtain ⟨n1,n2⟩:=H.out.next (.of_below HB.out) (HB.out.block q hq) HJ.out
 have hmm:(w1.setCell ⟨q,1,none⟩ (.int .i64 ((i:Int)+1))).heap.size=w1.heap.size:=by simp [World.setCell]
 have hf2:((w1.setCell ⟨q,1,none⟩ (.int .i64 ((i:Int)+1))).alloc (.cells #[.bool ng,.slice ao rs.length cap] 66)).heap[w.heap.size]? = some (.cells #[.bool false,.slice none 0 0,.slice none 0 0] 89 (0,0)):=alloc_keep ((heap_setCell_other w1 ⟨q,1,none⟩ _ _ (by show w.heap.size≠q;omega)).trans HF.out)
 have hm2:((w1.setCell ⟨q,1,none⟩ (.int .i64 ((i:Int)+1))).alloc (.cells #[.bool ng,.slice ao rs.length cap] 66)).heap[w1.heap.size]? = some (.cells #[.bool ng,.slice ao rs.length cap] 66 (0,0)):=by rw [←hmm];exact heap_alloc_new _ _
 have hu2:Ru w1 ((w1.setCell ⟨q,1,none⟩ (.int .i64 ((i:Int)+1))).alloc (.cells #[.bool ng,.slice ao rs.length cap] 66)):=(ru_next (H.out.below HB.out)).trans (Ru.of_below (hAl _ _))
 have K:=asign_any _ q b tv uv l vs (i+1) t1 (n1.below (hAl _ (.cells #[.bool ng,.slice ao rs.length cap] 66))) HT1.out sOver (fun h3=>HW.out.more HT1.out (by rw [h3];decide)) HW.out.len
 rw [HS.out] at K
 refine K.mono ?_
 rintro r w2 ⟨rfl,hR2,hC2⟩
 have HR2:=hide hR2
 have HC2:=hide ((n2.trans (.of_below (hAl _ _))).trans hC2)
 have HO2:=hide (HO.out.ru (hu2.trans hC2.ru))
 have hf3:=(hC2.other _ (lt_of_heap hf2) (by omega) (by omega)).trans hf2
 have hm3:=(hC2.other _ (lt_of_heap hm2) (by omega) (by omega)).trans hm2
 have HF3:=hide hf3
 obtain ⟨_,m0,m1,_,_⟩:=two_cells hm3
 have HM3:=hide hm3
 clear hR2 hC2 hf2 hm2 hu2 K n1 n2 hmm hm3 hf3 k1 kf
 rw [if_pos rfl] at HR2
 have HTw:=hide (HTT.out.rc H.out HC2.out)
 go_wp2_with fail
 go_cut [6] (fun ev wx=>ev=.int .i64 20∧Below w2.heap.size w2 wx)
 case first =>
  go_region_law (first | (refine step_call rfl 206 #[.tmp 23] #[117] rfl has_anumber #[.pointer (some ⟨q,0,none⟩)] (by simp [Act.eval,Act.put]) (anumber_any _ (HTw.out.below (show Below w2.heap.size w2 _ by (repeat' first|with_reducible(first|exact Below.refl _ _|assumption|refine gdrewN ?_ _|refine Below.alloc ?_ ?_ _|refine Below.drew ?_|refine Below.setCell ?_ ?_ _)|go_size))) q b tv uv l vs (i+2) t2 (HR2.out.below (show Below w2.heap.size w2 _ by (repeat' first|with_reducible(first|exact Below.refl _ _|assumption|refine gdrewN ?_ _|refine Below.alloc ?_ ?_ _|refine Below.drew ?_|refine Below.setCell ?_ ?_ _)|go_size))) HT2.out) ?_;rintro e w3 ⟨v,rfl,ho3,hb3⟩;obtain ⟨ng3,ao3,cap3,rs3,rfl,_⟩:=id ho3;have HO3:=hide ho3;have hb23:Below w2.heap.size w2 w3:=(show Below w2.heap.size w2 _ by (repeat' first|with_reducible(first|exact Below.refl _ _|assumption|refine gdrewN ?_ _|refine Below.alloc ?_ ?_ _|refine Below.drew ?_|refine Below.setCell ?_ ?_ _)|go_size)).trans (hb3.mono (by simp));have HB23:=hide hb23;have hm3:=(hb23.block _ (lt_of_heap HM3.out)).trans HM3.out;have hm3:=two_cells hm3;obtain ⟨_,m03,m13,_,_⟩:=hm3;first | (have hz3:w3.heap[w2.heap.size]? = some (.cells #[.bool false,.slice none 0 0,.slice none 0 0] 89 (0,0)):=(hb3.block _ (by simp)).trans (heap_alloc_new w2 _);have hz3' := three_cells hz3;have HZ3:=hide hz3;clear hz3;obtain ⟨_,z30,z31,z32,y30,y31,y32⟩:=hz3') | skip;clear ho3 hb3 hb23;refine ⟨_,rfl,?_⟩) | (refine step_call rfl 207 #[.tmp 22,.tmp 24] #[66,66] rfl has_rof #[.agg #[.bool ng,.slice ao rs.length cap],.agg #[.bool ng3,.slice ao3 rs3.length cap3]] (by simp [Act.eval]) (rof_no _ _ _ _ _ 6000 6000 (HO2.out.ru (Ru.of_below (HB23.out.trans ((show Below w3.heap.size w3 _ by (repeat' first|with_reducible(first|exact Below.refl _ _|assumption|refine gdrewN ?_ _|refine Below.alloc ?_ ?_ _|refine Below.drew ?_|refine Below.setCell ?_ ?_ _)|go_size)).mono HB23.out.size)))).is (HO3.out.ru (Ru.of_below (show Below w3.heap.size w3 _ by (repeat' first|with_reducible(first|exact Below.refl _ _|assumption|refine gdrewN ?_ _|refine Below.alloc ?_ ?_ _|refine Below.drew ?_|refine Below.setCell ?_ ?_ _)|go_size)))).is (by omega) HNZ.out) ?_;rintro e w4 ⟨hb4,rfl⟩;have hb24:Below w2.heap.size w2 w4:=(show Below w2.heap.size w2 _ from (HB23.out.trans ((show Below w3.heap.size w3 _ by (repeat' first|with_reducible(first|exact Below.refl _ _|assumption|refine gdrewN ?_ _|refine Below.alloc ?_ ?_ _|refine Below.drew ?_|refine Below.setCell ?_ ?_ _)|go_size)).mono HB23.out.size))).trans (hb4.mono (by first | exact HB23.out.size | exact Nat.le_trans HB23.out.size (Nat.le_of_lt (by simp))));have HB24:=hide hb24;have hq4:=hb24.block q (lt_of_heap HR2.out.blk);have hq4:=hq4.trans HR2.out.blk;have q41:w4.cell? ⟨q,1,none⟩ = some (.int .i64 ((i+2:Nat):Int)):=(by rw [cell_of_row _ _ _ _ _ (0,0) hq4];rfl);have q4f:w4.frozen? ⟨q,1,none⟩ = false:=frozen_of_row w4 q 1 _ _ hq4;have hf4:=(hb24.block _ (lt_of_heap HF3.out)).trans HF3.out;have HF4:=hide hf4;have hf4:=three_cells hf4;obtain ⟨hfl,c0,c1,c2,fr0,fr1,fr2⟩:=hf4;first | (have hz4:=(hb4.block _ (lt_of_heap HZ3.out)).trans HZ3.out;have hz4' := three_cells hz4;have HZ4:=hide hz4;clear hz4;obtain ⟨_,z40,z41,z42,y40,y41,y42⟩:=hz4') | (have hz4:w4.heap[w3.heap.size]? = some (.cells #[.bool false,.slice none 0 0,.slice none 0 0] 89 (0,0)):=(hb4.block _ (by simp)).trans (heap_alloc_new w3 _);have hz4' := three_cells hz4;have HZ4:=hide hz4;clear hz4;obtain ⟨_,z40,z41,z42,y40,y41,y42⟩:=hz4') | skip;clear hb4 hb24 hq4;refine ⟨_,rfl,?_⟩))
  all_goals (
   go_wp2_with fail
   go_meet
   have hb24:=HB24.out
   have hb23:=HB23.out
   first
   | exact ⟨rfl,((hb24.setCell (by first | exact Nat.le_refl _ | exact hb23.size) _).setCell (by first | exact Nat.le_refl _ | exact hb23.size) _).setCell (by first | exact Nat.le_refl _ | exact hb23.size) _⟩
   | exact ⟨rfl,hb24.alloc hb24.size _⟩)
 case rest =>
  obtain ⟨rfl,hb⟩:=hcut
  have hf4:=(hb.block _ (lt_of_heap HF3.out)).trans HF3.out
  have HF4:=hide hf4
  obtain ⟨hfl,c0,c1,c2,fr0,fr1,fr2⟩:=three_cells hf4
  have HB4:=hide hb
  clear hb hf4 m0 m1
  go_wp2
  obtain ⟨x1,x2⟩:=H.out.fill3 (HR2.out.below HB4.out) (HC2.out.trans (.of_below HB4.out)) HF4.out (Nat.le_refl _) (.bool false) (.slice none 0 0) (.slice none 0 0)
  exact bodyPost_ret (v:=.tuple #[.agg #[.bool false,.slice none 0 0,.slice none 0 0],.bool false]) (res_ct (g:=w.heap.size) rfl rfl (lvr3 (set_r3 HF4.out _ _ _)) rfl) rfl ⟨_,rfl,rfl,x1,x2⟩
end Lm
end Go.Proofs.YtaofpigilgapgaaGreatDoor

namespace Go.Proofs.YtaofpigilgapgaaGreatDoor
namespace Lm
open Go Go.RowKit
theorem has_atoken:Has Tryz.prog 74:=by unfold Has;kernel_rfl
theorem has_indexs:Has Tryz.prog 90:=by unfold Has;kernel_rfl
set_option maxRecDepth 20000 in
set_option maxHeartbeats 4000000 in
theorem avar_no (w:World) (q b:Nat) (tv uv:Value) (l:List Tk) (vs:List ByteArray) (i:Nat) (h:Rea w q b tv uv l vs i) (t:Tk) (ht:l[i]? = some t) (x:Rat) (L:Nat) (xv av:Value) (hx:IsQ x L xv w) (hk:ixS t.text vs=none) :
  Calls Tryz.prog 195 #[.pointer (some ⟨q,0,none⟩),xv,av] w fun e w'=>e=.returned (.bool false)∧Rea w' q b tv uv l vs i∧Rc q q w w' := by
 obtain ⟨ng,ao,n,cap,xs,bo,m,dap,ys,p,d,rfl,_⟩:=hx.open
 obtain ⟨au,cu,rfl,_⟩:=h.vrs
 have H:=hide h
 have HT:=hide ht
 have HK:=hide hk
 have hq:=lt_of_heap h.blk
 have k2:w.cell? ⟨q,2,none⟩ = some (.slice au vs.length cu):=by rw [cell_of_row _ _ _ _ _ (0,0) h.blk];rfl
 have hf1:∀ W,(Instr.field 113 (.agg #[.int .i64 t.kind,.string t.text,.int .i64 t.pl.b,.int .i64 t.pl.g,.int .i64 t.pl.l,.int .i64 t.pl.c]) 1).run Tryz.prog W=.ok (.string t.text) W:=fun W=>tk_f1 _ _ _ _ _ _ W
 clear h ht hx hk
 generalize vs.length=nv at *
 go_enter Tryz.func195,Tryz.ntmps195
 go_wp2_with fail
 go_cut [7] (fun ev wx=>ev=.int .i64 (-1)∧Below w.heap.size w wx)
 case first =>
  go_region_law (first | (refine step_call rfl 74 #[.tmp 12] #[117] rfl has_atoken #[.pointer (some ⟨q,0,none⟩)] (by simp [Act.eval,Act.put]) (atoken_any _ q b tv (.slice au nv cu) l vs i t (H.out.below (show Below w.heap.size w _ by (repeat' first|with_reducible(first|exact Below.refl _ _|assumption|refine gdrewN ?_ _|refine Below.alloc ?_ ?_ _|refine Below.drew ?_|refine Below.setCell ?_ ?_ _)|go_size))) HT.out) ?_;rintro e w1 ⟨rfl,hb1⟩;have hbw:Below w.heap.size w w1:=(show Below w.heap.size w _ by (repeat' first|with_reducible(first|exact Below.refl _ _|assumption|refine gdrewN ?_ _|refine Below.alloc ?_ ?_ _|refine Below.drew ?_|refine Below.setCell ?_ ?_ _)|go_size)).trans (hb1.mono (by simp));have HB1:=hide hbw;have k21:=(hbw.cell (p:=⟨q,2,none⟩) hq).trans k2;unfold Tk.av;clear hb1 hbw;refine ⟨_,rfl,?_⟩) | (refine step_call rfl 90 #[.tmp 11,.tmp 14] #[22,9] rfl has_indexs #[.slice au nv cu,.string t.text] (by simp [Act.eval,Act.put]) (indexs_any _ _ _ _ vs t.text (H.out.below HB1.out).vrs) ?_;rintro e w2 ⟨rfl,rfl⟩;rw [HK.out];unfold ixV;refine ⟨_,rfl,?_⟩))
  all_goals (
   go_wp2_with fail
   go_meet
   exact ⟨rfl,HB1.out⟩)
 case rest =>
  obtain ⟨rfl,hb⟩:=hcut
  have HB:=hide hb
  clear hb
  go_wp2
  refine bodyPost_ret (v:=_) (by simp [results,Tryz.results195,go_sem];try rfl) rfl ⟨rfl,H.out.below HB.out,.of_below HB.out⟩
set_option maxRecDepth 20000 in
set_option maxHeartbeats 4000000 in
theorem avar_yes (w:World) (q b:Nat) (tv uv:Value) (l:List Tk) (vs:List ByteArray) (i:Nat) (h:Rea w q b tv uv l vs i) (t:Tk) (ht:l[i]? = some t) (x:Rat) (L:Nat) (xv av:Value) (hx:IsQ x L xv w) (g k:Nat) (rs:List Rat) (r:Rat) (sn:Bool) (hk:ixS t.text vs=some k) (hj:i+1<l.length) (hl:l.length≤100000) (hA:AddV q b g w av sn) (hR:RQ w g b rs L) (hr:rs[k]? = some r) (hL:L≤10000) (hfx:Fit x L) (hfr:Fit (r+sgq sn x) L) (hqb:q≠b) (hqg:g≠q) :
  Calls Tryz.prog 195 #[.pointer (some ⟨q,0,none⟩),xv,av] w fun e w'=>e=.returned (.bool true)∧Rea w' q b tv uv l vs (i+1)∧Rc q b w w'∧RQ w' g b (rs.set k (r+sgq sn x)) L:=by
 have HX:=hide hx
 obtain ⟨f,cp,rfl,hf,hadd⟩:=addv_any hA rs L k r hr hL
 have HADD:=hide hadd
 have HR:=hide hR
 have HF:=hide (And.intro hfx hfr)
 have HJ:=hide hj
 have hi:i≤100000:=by omega
 have hent:∀ args W,(callFunc f args).run Tryz.prog W=.ok (.enter f args) W:=hf.enter
 clear hadd hA hR hr hfx hfr hj hl
 obtain ⟨ng,ao,n,cap,xs,bo,m,dap,ys,p,d,rfl,_⟩:=hx.open
 obtain ⟨au,cu,rfl,_⟩:=h.vrs
 have H:=hide h
 have HT:=hide ht
 have HK:=hide hk
 have hq:=lt_of_heap h.blk
 have k2:w.cell? ⟨q,2,none⟩ = some (.slice au vs.length cu):=by rw [cell_of_row _ _ _ _ _ (0,0) h.blk];rfl
 have hf1:∀ W,(Instr.field 113 (.agg #[.int .i64 t.kind,.string t.text,.int .i64 t.pl.b,.int .i64 t.pl.g,.int .i64 t.pl.l,.int .i64 t.pl.c]) 1).run Tryz.prog W=.ok (.string t.text) W:=fun W=>tk_f1 _ _ _ _ _ _ W
 clear h ht hx hk
 generalize vs.length=nv at *
 go_enter Tryz.func195,Tryz.ntmps195
 go_wp2_with fail
 go_cut [7] (fun ev wx=>ev=.int .i64 (k:Int)∧Below w.heap.size w wx∧wx.heap[w.heap.size]? = some (.cells #[.bool ng,.slice ao n cap,.slice bo m dap] 89 (0,0)))
 case first =>
  go_region_law (first | (refine step_call rfl 74 #[.tmp 12] #[117] rfl has_atoken #[.pointer (some ⟨q,0,none⟩)] (by simp [Act.eval,Act.put]) (atoken_any _ q b tv (.slice au nv cu) l vs i t (H.out.below (show Below w.heap.size w _ by (repeat' first|with_reducible(first|exact Below.refl _ _|assumption|refine gdrewN ?_ _|refine Below.alloc ?_ ?_ _|refine Below.drew ?_|refine Below.setCell ?_ ?_ _)|go_size))) HT.out) ?_;rintro e w1 ⟨rfl,hb1⟩;have hbw:Below w.heap.size w w1:=(show Below w.heap.size w _ by (repeat' first|with_reducible(first|exact Below.refl _ _|assumption|refine gdrewN ?_ _|refine Below.alloc ?_ ?_ _|refine Below.drew ?_|refine Below.setCell ?_ ?_ _)|go_size)).trans (hb1.mono (by simp));have HB1:=hide hbw;have k21:=(hbw.cell (p:=⟨q,2,none⟩) hq).trans k2;have hbx:w1.heap[w.heap.size]? = some (.cells #[.bool ng,.slice ao n cap,.slice bo m dap] 89 (0,0)):=(hb1.block _ (by simp)).trans (heap_alloc_new w _);have HBX:=hide hbx;clear hbx;unfold Tk.av;clear hb1 hbw;refine ⟨_,rfl,?_⟩) | (refine step_call rfl 90 #[.tmp 11,.tmp 14] #[22,9] rfl has_indexs #[.slice au nv cu,.string t.text] (by simp [Act.eval,Act.put]) (indexs_any _ _ _ _ vs t.text (H.out.below HB1.out).vrs) ?_;rintro e w2 ⟨rfl,rfl⟩;rw [HK.out];unfold ixV;refine ⟨_,rfl,?_⟩))
  all_goals (
   go_wp2_with fail
   go_meet
   exact ⟨rfl,HB1.out,HBX.out⟩)
 case rest =>
  obtain ⟨rfl,hb,hbx⟩:=hcut
  obtain ⟨_,x0,x1,x2,_,_,_⟩:=three_cells hbx
  have HB:=hide hb
  have hkk:decide ((k:Int)<0)=false:=by simp
  clear hb hbx
  go_wp2_with fail
  refine (HADD.out wc x _ HB.out (HR.out.below HB.out) (HX.out.ru (Ru.of_below HB.out)) HF.out.1 HF.out.2).mono ?_
  rintro e w2 ⟨rfl,hrc,hrq⟩
  have hqw:=(hrc.other q (Nat.lt_of_lt_of_le hq HB.out.size) hqb hqb).trans (HB.out.block q hq)
  have hrc' : Rc q b w w2:=(Rc.of_below HB.out).trans hrc.wideR
  have h2:Rea w2 q b tv (.slice au nv cu) l vs i:=H.out.rc hrc' (hqw.trans H.out.blk) H.out.lt
  have HRC:=hide hrc'
  have HRQ:=hide hrq
  have k1:w2.cell? ⟨q,1,none⟩ = some (.int .i64 i):=by rw [cell_of_row _ _ _ _ _ (0,0) h2.blk];rfl
  have kf:w2.frozen? ⟨q,1,none⟩ = false:=frozen_of_row w2 q 1 _ _ h2.blk
  have hq2:=lt_of_heap h2.blk
  have H2:=hide h2
  clear hqw hrc hrc' hrq h2 x0 x1 x2
  go_wp2
  obtain ⟨n1,n2⟩:=H2.out.next (Rc.refl _ _ _) rfl HJ.out
  have hbq:b≠q:=fun e=>hqb e.symm
  refine bodyPost_ret (v:=_) (by simp [results,Tryz.results195,go_sem];try rfl) rfl ⟨rfl,n1,HRC.out.trans n2.wide,HRQ.out.rc n2 hqg hbq⟩
end Lm
end Go.Proofs.YtaofpigilgapgaaGreatDoor

namespace Go.Proofs.YtaofpigilgapgaaGreatDoor
namespace Lm
open Go Go.RowKit
theorem has_rnegA:Has Tryz.prog 165:=by unfold Has;kernel_rfl
theorem fit_one {L:Nat} (h:1≤L):Fit (1:Rat) L:=by
 have h1:pw 1≤pw L:=pw_mono h
 have h2:(1:Int)<pw 1:=by decide
 exact ⟨by show (1:Int)<_;omega,by show (1:Int)<_;omega⟩
set_option maxRecDepth 20000 in
set_option maxHeartbeats 8000000 in
theorem aterm_other (w:World) (hT:Tabs w) (q b g:Nat) (tv uv:Value) (l:List Tk) (hW:Wf l) (vs:List ByteArray) (i:Nat) (h:Rea w q b tv uv l vs i) (t:Tk) (ht:l[i]? = some t) (L:Nat) (_hL:L≤10000) (hL1:1≤L) (av:Value) (sn:Bool) (hA:AddV q b g w av sn) (rs:List Rat) (hR:RQ w g b rs L) (_hqb:q≠b) (_hqg:g≠q) (h1:t.kind≠1) (h2:t.kind≠2) :
  Calls Tryz.prog 163 #[.pointer (some ⟨q,0,none⟩),av] w fun e w'=>e=.returned (.bool false)∧Rea w' q b tv uv l vs i∧Rc q b w w'∧RQ w' g b rs L:=by
 have e1:(t.kind == 1)=false:=beq_eq_false_iff_ne.2 h1
 have e2:(t.kind == 2)=false:=beq_eq_false_iff_ne.2 h2
 clear h1 h2
 have H:=hide h
 have HT:=hide ht
 have HTT:=hide hT
 have HA:=hide hA
 have HR:=hide hR
 have HW:=hide hW
 have hq:=lt_of_heap h.blk
 have hgl:=lt_of_heap hR.slot
 have hf0:∀ W,(Instr.field 113 (.agg #[.int .i64 t.kind,.string t.text,.int .i64 t.pl.b,.int .i64 t.pl.g,.int .i64 t.pl.l,.int .i64 t.pl.c]) 0).run Tryz.prog W=.ok (.int .i64 t.kind) W:=fun W=>tk_f0 _ _ _ _ _ _ W
 clear h ht hA hR hT hW
 go_enter Tryz.func163,Tryz.ntmps163
 go_wp2_with fail
 refine (wof_g w 1 (by decide) (by decide)).mono ?_
 rintro r w1 ⟨ng0,ao0,cap0,rs0,rfl,hw1,hl1,hb1⟩
 have ho1:OutW 1 2 (.agg #[.bool ng0,.slice ao0 rs0.length cap0]) w1:=⟨_,_,_,_,rfl,hw1,hl1⟩
 clear hw1 hl1
 go_wp2_with fail
 refine (rfrom_q w1 _ _ _ ho1.is (by omega)).mono ?_
 rintro r w2 ⟨v,rfl,ho2,hb2⟩
 replace ho2:OutQr (1:Rat) L v w2:=OutQr.fit ho2 (fit_one hL1)
 obtain ⟨ng1,ao1,cap1,rs1,bo1,dap1,ss1,rfl,_⟩:=id ho2
 have hbw2:=hb1.trans (hb2.mono hb1.size)
 have hbw:Below w.heap.size w (w2.alloc (.cells #[.bool ng1,.slice ao1 rs1.length cap1,.slice bo1 ss1.length dap1] 89)):=hbw2.alloc hbw2.size _
 clear ho1 hb1 hb2
 go_wp2_with fail
 refine (atoken_any _ q b tv uv l vs i t (H.out.below hbw) HT.out).mono ?_
 rintro r w3 ⟨rfl,hb3⟩
 have hbx:w3.heap[w2.heap.size]? = some (.cells #[.bool ng1,.slice ao1 rs1.length cap1,.slice bo1 ss1.length dap1] 89 (0,0)):=(hb3.block _ (by simp)).trans (heap_alloc_new w2 _)
 have HBX:=hide hbx
 have HO:=hide (ho2.ru (Ru.of_below ((hAl w2 _).trans (hb3.mono (hAl w2 _).size))))
 have HB3:=hide (hbw.trans (hb3.mono hbw.size))
 have hf5:w.heap.size≤w2.heap.size:=hbw2.size
 generalize w2.heap.size=f5 at *
 unfold Tk.av
 clear hbw hbw2 hb3 hbx ho2
 go_wp2
 refine bodyPost_ret (v:=_) (by simp [results,Tryz.results163,go_sem];try rfl) rfl ⟨rfl,H.out.below HB3.out,.of_below HB3.out,HR.out.below HB3.out⟩
set_option maxRecDepth 20000 in
set_option maxHeartbeats 8000000 in
theorem aterm_name (w:World) (hT:Tabs w) (q b g:Nat) (tv uv:Value) (l:List Tk) (hW:Wf l) (vs:List ByteArray) (i:Nat) (h:Rea w q b tv uv l vs i) (t:Tk) (ht:l[i]? = some t) (L:Nat) (_hL:L≤10000) (hL1:1≤L) (av:Value) (sn:Bool) (hA:AddV q b g w av sn) (rs:List Rat) (hR:RQ w g b rs L) (_hqb:q≠b) (_hqg:g≠q) (h1:t.kind=1) (ok:Bool) (j:Nat) (rs' : List Rat) (hv:∀ W xv,Rc q q w W→Rea W q b tv uv l vs i→IsQ (1:Rat) L xv W→Calls Tryz.prog 195 #[.pointer (some ⟨q,0,none⟩),xv,av] W fun e w'=>e=.returned (.bool ok)∧Rea w' q b tv uv l vs j∧Rc q b W w'∧RQ w' g b rs' L) :
  Calls Tryz.prog 163 #[.pointer (some ⟨q,0,none⟩),av] w fun e w'=>e=.returned (.bool ok)∧Rea w' q b tv uv l vs j∧Rc q b w w'∧RQ w' g b rs' L:=by
 have HV:=hide hv
 clear hv
 have H1:=hide h1
 clear h1
 have H:=hide h
 have HT:=hide ht
 have HTT:=hide hT
 have HA:=hide hA
 have HR:=hide hR
 have HW:=hide hW
 have hq:=lt_of_heap h.blk
 have hgl:=lt_of_heap hR.slot
 have hf0:∀ W,(Instr.field 113 (.agg #[.int .i64 t.kind,.string t.text,.int .i64 t.pl.b,.int .i64 t.pl.g,.int .i64 t.pl.l,.int .i64 t.pl.c]) 0).run Tryz.prog W=.ok (.int .i64 t.kind) W:=fun W=>tk_f0 _ _ _ _ _ _ W
 clear h ht hA hR hT hW
 go_enter Tryz.func163,Tryz.ntmps163
 go_wp2_with fail
 refine (wof_g w 1 (by decide) (by decide)).mono ?_
 rintro r w1 ⟨ng0,ao0,cap0,rs0,rfl,hw1,hl1,hb1⟩
 have ho1:OutW 1 2 (.agg #[.bool ng0,.slice ao0 rs0.length cap0]) w1:=⟨_,_,_,_,rfl,hw1,hl1⟩
 clear hw1 hl1
 go_wp2_with fail
 refine (rfrom_q w1 _ _ _ ho1.is (by omega)).mono ?_
 rintro r w2 ⟨v,rfl,ho2,hb2⟩
 replace ho2:OutQr (1:Rat) L v w2:=OutQr.fit ho2 (fit_one hL1)
 obtain ⟨ng1,ao1,cap1,rs1,bo1,dap1,ss1,rfl,_⟩:=id ho2
 have hbw2:=hb1.trans (hb2.mono hb1.size)
 have hbw:Below w.heap.size w (w2.alloc (.cells #[.bool ng1,.slice ao1 rs1.length cap1,.slice bo1 ss1.length dap1] 89)):=hbw2.alloc hbw2.size _
 clear ho1 hb1 hb2
 go_wp2_with fail
 refine (atoken_any _ q b tv uv l vs i t (H.out.below hbw) HT.out).mono ?_
 rintro r w3 ⟨rfl,hb3⟩
 have hbx:w3.heap[w2.heap.size]? = some (.cells #[.bool ng1,.slice ao1 rs1.length cap1,.slice bo1 ss1.length dap1] 89 (0,0)):=(hb3.block _ (by simp)).trans (heap_alloc_new w2 _)
 have HBX:=hide hbx
 have HO:=hide (ho2.ru (Ru.of_below ((hAl w2 _).trans (hb3.mono (hAl w2 _).size))))
 have HB3:=hide (hbw.trans (hb3.mono hbw.size))
 have hf5:w.heap.size≤w2.heap.size:=hbw2.size
 generalize w2.heap.size=f5 at *
 unfold Tk.av
 clear hbw hbw2 hb3 hbx ho2
 rw [H1.out] at *
 obtain ⟨_,x0,x1,x2,_,_,_⟩:=three_cells HBX.out
 go_wp2_with fail
 refine (HV.out w3 _ (.of_below HB3.out) (H.out.below HB3.out) HO.out.is).mono ?_
 rintro e w4 ⟨rfl,r1,r2,r3⟩
 have R1:=hide r1
 have R2:=hide ((Rc.of_below HB3.out).trans r2)
 have R3' := hide r3
 clear r1 r2 r3 x0 x1 x2
 go_wp2
 refine bodyPost_ret (v:=_) (by simp [results,Tryz.results163,go_sem];try rfl) rfl ⟨rfl,R1.out,R2.out,R3'.out⟩
set_option maxRecDepth 20000 in
set_option maxHeartbeats 8000000 in
theorem aterm_bad (w:World) (hT:Tabs w) (q b g:Nat) (tv uv:Value) (l:List Tk) (hW:Wf l) (vs:List ByteArray) (i:Nat) (h:Rea w q b tv uv l vs i) (t:Tk) (ht:l[i]? = some t) (L:Nat) (_hL:L≤10000) (hL1:1≤L) (av:Value) (sn:Bool) (hA:AddV q b g w av sn) (rs:List Rat) (hR:RQ w g b rs L) (_hqb:q≠b) (_hqg:g≠q) (h1:t.kind=2) (j:Nat) (hc:∀ W,Below w.heap.size w W→Calls Tryz.prog 194 #[.pointer (some ⟨q,0,none⟩)] W fun e w'=>∃ v,e=.returned (.tuple #[v,.bool false])∧OutQr0 v∧Rea w' q b tv uv l vs j∧Rc q q W w') :
  Calls Tryz.prog 163 #[.pointer (some ⟨q,0,none⟩),av] w fun e w'=>e=.returned (.bool false)∧Rea w' q b tv uv l vs j∧Rc q b w w'∧RQ w' g b rs L:=by
 have HC:=hide hc
 clear hc
 have H1:=hide h1
 clear h1
 have H:=hide h
 have HT:=hide ht
 have HTT:=hide hT
 have HA:=hide hA
 have HR:=hide hR
 have HW:=hide hW
 have hq:=lt_of_heap h.blk
 have hgl:=lt_of_heap hR.slot
 have hf0:∀ W,(Instr.field 113 (.agg #[.int .i64 t.kind,.string t.text,.int .i64 t.pl.b,.int .i64 t.pl.g,.int .i64 t.pl.l,.int .i64 t.pl.c]) 0).run Tryz.prog W=.ok (.int .i64 t.kind) W:=fun W=>tk_f0 _ _ _ _ _ _ W
 clear h ht hA hR hT hW
 go_enter Tryz.func163,Tryz.ntmps163
 go_wp2_with fail
 refine (wof_g w 1 (by decide) (by decide)).mono ?_
 rintro r w1 ⟨ng0,ao0,cap0,rs0,rfl,hw1,hl1,hb1⟩
 have ho1:OutW 1 2 (.agg #[.bool ng0,.slice ao0 rs0.length cap0]) w1:=⟨_,_,_,_,rfl,hw1,hl1⟩
 clear hw1 hl1
 go_wp2_with fail
 refine (rfrom_q w1 _ _ _ ho1.is (by omega)).mono ?_
 rintro r w2 ⟨v,rfl,ho2,hb2⟩
 replace ho2:OutQr (1:Rat) L v w2:=OutQr.fit ho2 (fit_one hL1)
 obtain ⟨ng1,ao1,cap1,rs1,bo1,dap1,ss1,rfl,_⟩:=id ho2
 have hbw2:=hb1.trans (hb2.mono hb1.size)
 have hbw:Below w.heap.size w (w2.alloc (.cells #[.bool ng1,.slice ao1 rs1.length cap1,.slice bo1 ss1.length dap1] 89)):=hbw2.alloc hbw2.size _
 clear ho1 hb1 hb2
 go_wp2_with fail
 refine (atoken_any _ q b tv uv l vs i t (H.out.below hbw) HT.out).mono ?_
 rintro r w3 ⟨rfl,hb3⟩
 have hbx:w3.heap[w2.heap.size]? = some (.cells #[.bool ng1,.slice ao1 rs1.length cap1,.slice bo1 ss1.length dap1] 89 (0,0)):=(hb3.block _ (by simp)).trans (heap_alloc_new w2 _)
 have HBX:=hide hbx
 have HO:=hide (ho2.ru (Ru.of_below ((hAl w2 _).trans (hb3.mono (hAl w2 _).size))))
 have HB3:=hide (hbw.trans (hb3.mono hbw.size))
 have hf5:w.heap.size≤w2.heap.size:=hbw2.size
 generalize w2.heap.size=f5 at *
 unfold Tk.av
 clear hbw hbw2 hb3 hbx ho2
 rw [H1.out] at *
 go_wp2_with fail
 refine (HC.out w3 HB3.out).mono ?_
 rintro e w4 ⟨v,rfl,rfl,r1,r2⟩
 have R1:=hide r1
 have R2:=hide ((Rc.of_below HB3.out).trans r2)
 clear r1 r2
 go_wp2
 refine bodyPost_ret (v:=_) (by simp [results,Tryz.results163,go_sem];try rfl) rfl ⟨rfl,R1.out.below (hAl _ _),R2.out.wide.trans (.of_below (hAl _ _)),(HR.out.rc R2.out _hqg (fun e=>_hqb e.symm)).below (hAl _ _)⟩
set_option maxRecDepth 20000 in
set_option maxHeartbeats 8000000 in
theorem aterm_alone (w:World) (hT:Tabs w) (q b g:Nat) (tv uv:Value) (l:List Tk) (hW:Wf l) (vs:List ByteArray) (i:Nat) (h:Rea w q b tv uv l vs i) (t:Tk) (ht:l[i]? = some t) (L:Nat) (_hL:L≤10000) (hL1:1≤L) (av:Value) (sn:Bool) (hA:AddV q b g w av sn) (rs:List Rat) (hR:RQ w g b rs L) (_hqb:q≠b) (_hqg:g≠q) (h1:t.kind=2) (j:Nat) (x r0:Rat) (hc:∀ W,Below w.heap.size w W→Calls Tryz.prog 194 #[.pointer (some ⟨q,0,none⟩)] W fun e w'=>∃ v,e=.returned (.tuple #[v,.bool true])∧OutQr x L v w'∧Rea w' q b tv uv l vs j∧Rc q q W w') (t1:Tk) (ht1:l[j]? = some t1) (hs:tsg t1 sTimes=false) (hk1:t1.kind≠1) (hr0:rs[vs.length]? = some r0) (hfx:Fit x L) (hfr:Fit (r0+sgq sn (-x)) L) :
  Calls Tryz.prog 163 #[.pointer (some ⟨q,0,none⟩),av] w fun e w'=>e=.returned (.bool true)∧Rea w' q b tv uv l vs j∧Rc q b w w'∧RQ w' g b (rs.set vs.length (r0+sgq sn (-x))) L:=by
 have HC:=hide hc
 have H1:=hide h1
 have HT1:=hide ht1
 have HS:=hide hs
 have hjl:j<l.length:=(List.getElem?_eq_some_iff.1 ht1).1
 clear hc h1 ht1 hs
 obtain ⟨f,cp,rfl,hf,hadd⟩:=addv_any hA rs L vs.length r0 hr0 _hL
 have HR0:=hide hr0
 have hent:∀ args W,(callFunc f args).run Tryz.prog W=.ok (.enter f args) W:=hf.enter
 have HK1:Hid ((t1.kind != 1)=true):=bne_iff_ne.2 hk1
 have HF:=hide (And.intro hfx hfr)
 obtain ⟨au,cu,huv,_⟩:=id h.vrs
 have HUV:=hide huv
 clear huv
 clear hadd hr0 hfx hfr hk1
 have H:=hide h
 have HT:=hide ht
 have HTT:=hide hT
 have HA:=hide hA
 have HR:=hide hR
 have HW:=hide hW
 have hq:=lt_of_heap h.blk
 have hgl:=lt_of_heap hR.slot
 have hf0:∀ W,(Instr.field 113 (.agg #[.int .i64 t.kind,.string t.text,.int .i64 t.pl.b,.int .i64 t.pl.g,.int .i64 t.pl.l,.int .i64 t.pl.c]) 0).run Tryz.prog W=.ok (.int .i64 t.kind) W:=fun W=>tk_f0 _ _ _ _ _ _ W
 clear h ht hA hR hT hW
 go_enter Tryz.func163,Tryz.ntmps163
 go_wp2_with fail
 refine (wof_g w 1 (by decide) (by decide)).mono ?_
 rintro r w1 ⟨ng0,ao0,cap0,rs0,rfl,hw1,hl1,hb1⟩
 have ho1:OutW 1 2 (.agg #[.bool ng0,.slice ao0 rs0.length cap0]) w1:=⟨_,_,_,_,rfl,hw1,hl1⟩
 clear hw1 hl1
 go_wp2_with fail
 refine (rfrom_q w1 _ _ _ ho1.is (by omega)).mono ?_
 rintro r w2 ⟨v,rfl,ho2,hb2⟩
 replace ho2:OutQr (1:Rat) L v w2:=OutQr.fit ho2 (fit_one hL1)
 obtain ⟨ng1,ao1,cap1,rs1,bo1,dap1,ss1,rfl,_⟩:=id ho2
 have hbw2:=hb1.trans (hb2.mono hb1.size)
 have hbw:Below w.heap.size w (w2.alloc (.cells #[.bool ng1,.slice ao1 rs1.length cap1,.slice bo1 ss1.length dap1] 89)):=hbw2.alloc hbw2.size _
 clear ho1 hb1 hb2
 go_wp2_with fail
 refine (atoken_any _ q b tv uv l vs i t (H.out.below hbw) HT.out).mono ?_
 rintro r w3 ⟨rfl,hb3⟩
 have hbx:w3.heap[w2.heap.size]? = some (.cells #[.bool ng1,.slice ao1 rs1.length cap1,.slice bo1 ss1.length dap1] 89 (0,0)):=(hb3.block _ (by simp)).trans (heap_alloc_new w2 _)
 have HBX:=hide hbx
 have HO:=hide (ho2.ru (Ru.of_below ((hAl w2 _).trans (hb3.mono (hAl w2 _).size))))
 have HB3:=hide (hbw.trans (hb3.mono hbw.size))
 have hf5:w.heap.size≤w2.heap.size:=hbw2.size
 generalize w2.heap.size=f5 at *
 unfold Tk.av
 clear hbw hbw2 hb3 hbx ho2
 rw [H1.out] at *
 go_wp2_with fail
 refine (HC.out w3 HB3.out).mono ?_
 rintro e w4 ⟨v,rfl,hox,r1,r2⟩
 obtain ⟨ng6,ao6,cap6,rs6,bo6,dap6,ss6,rfl,_⟩:=id hox
 have hbx4:=(r2.other _ (lt_of_heap HBX.out) (by omega) (by omega)).trans HBX.out
 have hr4:Rc q q w w4:=(Rc.of_below HB3.out).trans r2
 have hal:=hAl w4 (.cells #[.bool ng6,.slice ao6 rs6.length cap6,.slice bo6 ss6.length dap6] 89)
 have h6:=heap_alloc_new w4 (.cells #[.bool ng6,.slice ao6 rs6.length cap6,.slice bo6 ss6.length dap6] 89)
 have hf6:w.heap.size≤w4.heap.size:=hr4.size
 have hf56:f5<w4.heap.size:=lt_of_heap hbx4
 go_wp2_with fail
 refine (asign_any _ q b tv uv l vs j t1 (r1.below hal) HT1.out sTimes (fun h3=>HW.out.more HT1.out (by rw [h3];decide)) HW.out.len).mono ?_
 rw [HS.out]
 rintro e w5 ⟨rfl,r3,r4⟩
 have hr5:Rc q q w w5:=(hr4.trans (.of_below hal)).trans r4
 have h65:=(r4.other _ (lt_of_heap h6) (by omega) (by omega)).trans h6
 have h55:=(r4.other _ (lt_of_heap (alloc_keep (o' := .cells #[.bool ng6,.slice ao6 rs6.length cap6,.slice bo6 ss6.length dap6] 89) hbx4)) (by omega) (by omega)).trans (alloc_keep hbx4)
 have H65:=hide h65
 have H55:=hide h55
 have HOX:=hide (hox.ru ((Ru.of_below hal).trans r4.ru))
 have HR5:=hide hr5
 have R3_:=hide r3
 generalize w4.heap.size=f6 at *
 clear hox r1 r2 hbx4 hr4 hal h6 r3 r4 hr5 h65 h55
 have hf01:∀ W,(Instr.field 113 (.agg #[.int .i64 t1.kind,.string t1.text,.int .i64 t1.pl.b,.int .i64 t1.pl.g,.int .i64 t1.pl.l,.int .i64 t1.pl.c]) 0).run Tryz.prog W=.ok (.int .i64 t1.kind) W:=fun W=>tk_f0 _ _ _ _ _ _ W
 have hk1:=HK1.out
 go_wp2_with fail
 refine (atoken_any w5 q b tv uv l vs j t1 R3_.out HT1.out).mono ?_
 rintro r w6 ⟨rfl,hb6⟩
 unfold Tk.av
 have R6:=hide (R3_.out.below hb6)
 have HR6:=hide (HR5.out.trans (.of_below hb6))
 have h66:=(hb6.block _ (lt_of_heap H65.out)).trans H65.out
 have HOX6:=hide (HOX.out.ru (Ru.of_below hb6))
 obtain ⟨hl6,x0,x1,x2,_,_,_⟩:=three_cells h66
 obtain ⟨f',cp',e',hf',hadd⟩:=addv_any (HA.out.rc HR6.out.wide) rs L vs.length r0 HR0.out _hL
 obtain ⟨rfl,rfl⟩:f=f'∧cp=cp' := by simpa using e'
 have HADD:=hide hadd
 have HRQ6:=hide (HR.out.rc HR6.out _hqg (fun e=>_hqb e.symm))
 have hq6:=lt_of_heap R6.out.blk
 have k2:w6.cell? ⟨q,2,none⟩ = some (.slice au vs.length cu):=by rw [cell_of_row _ _ _ _ _ (0,0) R6.out.blk,HUV.out];rfl
 generalize hnv:vs.length=nv at *
 have HNV:=hide hnv
 clear hb6 h66 hadd e' hf' hnv
 go_wp2_with fail
 go_region_law (first | (refine step_call rfl 165 #[.tmp 39] #[89] rfl has_rnegA #[.agg #[.bool ng6,.slice ao6 rs6.length cap6,.slice bo6 ss6.length dap6]] (by simp [Act.eval,Act.put]) (rneg_q _ _ x L L (HOX6.out.ru (Ru.of_below (show Below w6.heap.size w6 _ by (repeat' first|with_reducible(first|exact Below.refl _ _|assumption|refine gdrewN ?_ _|refine Below.alloc ?_ ?_ _|refine Below.drew ?_|refine Below.setCell ?_ ?_ _)|go_size)))).is (by omega) HF.out.1) ?_;rintro e w7 ⟨v,rfl,ho7,hb7⟩;obtain ⟨ng7,ao7,cap7,rs7,bo7,dap7,ss7,rfl,_⟩:=id ho7;have HO7:=hide ho7;have hb67:Below w6.heap.size w6 w7:=(show Below w6.heap.size w6 _ by (repeat' first|with_reducible(first|exact Below.refl _ _|assumption|refine gdrewN ?_ _|refine Below.alloc ?_ ?_ _|refine Below.drew ?_|refine Below.setCell ?_ ?_ _)|go_size)).trans (hb7.mono (by simp));have HB67:=hide hb67;have k27:=(hb67.cell (p:=⟨q,2,none⟩) hq6).trans k2;clear ho7 hb7 hb67;refine ⟨_,rfl,?_⟩) | (refine step_callv rfl f (.tmp 33) #[.tmp 38,.tmp 40] #[3,89] rfl hf #[cp] (by simp [Act.eval,Act.put]) #[.int .i64 (nv:Int),.agg #[.bool ng7,.slice ao7 rs7.length cap7,.slice bo7 ss7.length dap7]] (by simp [Act.eval,Act.put]) (HADD.out w7 (-x) _ HB67.out (HRQ6.out.below HB67.out) HO7.out.is (fit_neg HF.out.1) HF.out.2) ?_;rintro e w8 ⟨rfl,hr8,hq8⟩;have HR8:=hide hr8;have HQ8:=hide hq8;clear hr8 hq8;refine ⟨_,rfl,?_⟩))
 all_goals
  go_wp2
  refine bodyPost_ret (v:=_) (by simp [results,Tryz.results163,go_sem];try rfl) rfl ⟨rfl,(R6.out.below HB67.out).rcR HR8.out _hqb,(HR6.out.wide.trans (.of_below HB67.out)).trans HR8.out.wideR,by rw [HNV.out];exact HQ8.out⟩
set_option maxRecDepth 20000 in
set_option maxHeartbeats 8000000 in
theorem aterm_star (w:World) (hT:Tabs w) (q b g:Nat) (tv uv:Value) (l:List Tk) (hW:Wf l) (vs:List ByteArray) (i:Nat) (h:Rea w q b tv uv l vs i) (t:Tk) (ht:l[i]? = some t) (L:Nat) (_hL:L≤10000) (hL1:1≤L) (av:Value) (sn:Bool) (hA:AddV q b g w av sn) (rs:List Rat) (hR:RQ w g b rs L) (_hqb:q≠b) (_hqg:g≠q) (h1:t.kind=2) (j:Nat) (x:Rat) (hc:∀ W,Below w.heap.size w W→Calls Tryz.prog 194 #[.pointer (some ⟨q,0,none⟩)] W fun e w'=>∃ v,e=.returned (.tuple #[v,.bool true])∧OutQr x L v w'∧Rea w' q b tv uv l vs j∧Rc q q W w') (t1:Tk) (ht1:l[j]? = some t1) (hs:tsg t1 sTimes=true) (ok:Bool) (k:Nat) (rs' : List Rat) (hv:∀ W xv,Rc q q w W→Rea W q b tv uv l vs (j+1)→IsQ x L xv W→Calls Tryz.prog 195 #[.pointer (some ⟨q,0,none⟩),xv,av] W fun e w'=>e=.returned (.bool ok)∧Rea w' q b tv uv l vs k∧Rc q b W w'∧RQ w' g b rs' L) :
  Calls Tryz.prog 163 #[.pointer (some ⟨q,0,none⟩),av] w fun e w'=>e=.returned (.bool ok)∧Rea w' q b tv uv l vs k∧Rc q b w w'∧RQ w' g b rs' L:=by
 have HC:=hide hc
 have H1:=hide h1
 have HT1:=hide ht1
 have HS:=hide hs
 have hjl:j<l.length:=(List.getElem?_eq_some_iff.1 ht1).1
 clear hc h1 ht1 hs
 have HV:=hide hv
 clear hv
 have H:=hide h
 have HT:=hide ht
 have HTT:=hide hT
 have HA:=hide hA
 have HR:=hide hR
 have HW:=hide hW
 have hq:=lt_of_heap h.blk
 have hgl:=lt_of_heap hR.slot
 have hf0:∀ W,(Instr.field 113 (.agg #[.int .i64 t.kind,.string t.text,.int .i64 t.pl.b,.int .i64 t.pl.g,.int .i64 t.pl.l,.int .i64 t.pl.c]) 0).run Tryz.prog W=.ok (.int .i64 t.kind) W:=fun W=>tk_f0 _ _ _ _ _ _ W
 clear h ht hA hR hT hW
 go_enter Tryz.func163,Tryz.ntmps163
 go_wp2_with fail
 refine (wof_g w 1 (by decide) (by decide)).mono ?_
 rintro r w1 ⟨ng0,ao0,cap0,rs0,rfl,hw1,hl1,hb1⟩
 have ho1:OutW 1 2 (.agg #[.bool ng0,.slice ao0 rs0.length cap0]) w1:=⟨_,_,_,_,rfl,hw1,hl1⟩
 clear hw1 hl1
 go_wp2_with fail
 refine (rfrom_q w1 _ _ _ ho1.is (by omega)).mono ?_
 rintro r w2 ⟨v,rfl,ho2,hb2⟩
 replace ho2:OutQr (1:Rat) L v w2:=OutQr.fit ho2 (fit_one hL1)
 obtain ⟨ng1,ao1,cap1,rs1,bo1,dap1,ss1,rfl,_⟩:=id ho2
 have hbw2:=hb1.trans (hb2.mono hb1.size)
 have hbw:Below w.heap.size w (w2.alloc (.cells #[.bool ng1,.slice ao1 rs1.length cap1,.slice bo1 ss1.length dap1] 89)):=hbw2.alloc hbw2.size _
 clear ho1 hb1 hb2
 go_wp2_with fail
 refine (atoken_any _ q b tv uv l vs i t (H.out.below hbw) HT.out).mono ?_
 rintro r w3 ⟨rfl,hb3⟩
 have hbx:w3.heap[w2.heap.size]? = some (.cells #[.bool ng1,.slice ao1 rs1.length cap1,.slice bo1 ss1.length dap1] 89 (0,0)):=(hb3.block _ (by simp)).trans (heap_alloc_new w2 _)
 have HBX:=hide hbx
 have HO:=hide (ho2.ru (Ru.of_below ((hAl w2 _).trans (hb3.mono (hAl w2 _).size))))
 have HB3:=hide (hbw.trans (hb3.mono hbw.size))
 have hf5:w.heap.size≤w2.heap.size:=hbw2.size
 generalize w2.heap.size=f5 at *
 unfold Tk.av
 clear hbw hbw2 hb3 hbx ho2
 rw [H1.out] at *
 go_wp2_with fail
 refine (HC.out w3 HB3.out).mono ?_
 rintro e w4 ⟨v,rfl,hox,r1,r2⟩
 obtain ⟨ng6,ao6,cap6,rs6,bo6,dap6,ss6,rfl,_⟩:=id hox
 have hbx4:=(r2.other _ (lt_of_heap HBX.out) (by omega) (by omega)).trans HBX.out
 have hr4:Rc q q w w4:=(Rc.of_below HB3.out).trans r2
 have hal:=hAl w4 (.cells #[.bool ng6,.slice ao6 rs6.length cap6,.slice bo6 ss6.length dap6] 89)
 have h6:=heap_alloc_new w4 (.cells #[.bool ng6,.slice ao6 rs6.length cap6,.slice bo6 ss6.length dap6] 89)
 have hf6:w.heap.size≤w4.heap.size:=hr4.size
 have hf56:f5<w4.heap.size:=lt_of_heap hbx4
 go_wp2_with fail
 refine (asign_any _ q b tv uv l vs j t1 (r1.below hal) HT1.out sTimes (fun h3=>HW.out.more HT1.out (by rw [h3];decide)) HW.out.len).mono ?_
 rw [HS.out]
 rintro e w5 ⟨rfl,r3,r4⟩
 have hr5:Rc q q w w5:=(hr4.trans (.of_below hal)).trans r4
 have h65:=(r4.other _ (lt_of_heap h6) (by omega) (by omega)).trans h6
 have h55:=(r4.other _ (lt_of_heap (alloc_keep (o' := .cells #[.bool ng6,.slice ao6 rs6.length cap6,.slice bo6 ss6.length dap6] 89) hbx4)) (by omega) (by omega)).trans (alloc_keep hbx4)
 have H65:=hide h65
 have H55:=hide h55
 have HOX:=hide (hox.ru ((Ru.of_below hal).trans r4.ru))
 have HR5:=hide hr5
 have R3_:=hide r3
 generalize w4.heap.size=f6 at *
 clear hox r1 r2 hbx4 hr4 hal h6 r3 r4 hr5 h65 h55
 rw [if_pos rfl] at R3_
 obtain ⟨hl5,y0,y1,y2,yf0,yf1,yf2⟩:=three_cells H55.out
 obtain ⟨hl6,x0,x1,x2,_,_,_⟩:=three_cells H65.out
 go_wp2_with fail
 obtain ⟨v1,v2⟩:=H.out.fill3 R3_.out HR5.out H55.out hf5 (.bool ng6) (.slice ao6 rs6.length cap6) (.slice bo6 ss6.length dap6)
 refine (HV.out _ _ v2 v1 (HOX.out.ru (ru_r3 H55.out _ _ _)).is).mono ?_
 rintro e w7 ⟨rfl,r1,r2,r3⟩
 have R1:=hide r1
 have R2:=hide (v2.wide.trans r2)
 have R4:=hide r3
 clear r1 r2 r3 v1 v2 x0 x1 x2 y0 y1 y2
 go_wp2
 refine bodyPost_ret (v:=_) (by simp [results,Tryz.results163,go_sem];try rfl) rfl ⟨rfl,R1.out,R2.out,R4.out⟩
set_option maxRecDepth 20000 in
set_option maxHeartbeats 8000000 in
theorem aterm_next (w:World) (hT:Tabs w) (q b g:Nat) (tv uv:Value) (l:List Tk) (hW:Wf l) (vs:List ByteArray) (i:Nat) (h:Rea w q b tv uv l vs i) (t:Tk) (ht:l[i]? = some t) (L:Nat) (_hL:L≤10000) (hL1:1≤L) (av:Value) (sn:Bool) (hA:AddV q b g w av sn) (rs:List Rat) (hR:RQ w g b rs L) (_hqb:q≠b) (_hqg:g≠q) (h1:t.kind=2) (j:Nat) (x:Rat) (hc:∀ W,Below w.heap.size w W→Calls Tryz.prog 194 #[.pointer (some ⟨q,0,none⟩)] W fun e w'=>∃ v,e=.returned (.tuple #[v,.bool true])∧OutQr x L v w'∧Rea w' q b tv uv l vs j∧Rc q q W w') (t1:Tk) (ht1:l[j]? = some t1) (hs:tsg t1 sTimes=false) (hk1:t1.kind=1) (ok:Bool) (k:Nat) (rs' : List Rat) (hv:∀ W xv,Rc q q w W→Rea W q b tv uv l vs j→IsQ x L xv W→Calls Tryz.prog 195 #[.pointer (some ⟨q,0,none⟩),xv,av] W fun e w'=>e=.returned (.bool ok)∧Rea w' q b tv uv l vs k∧Rc q b W w'∧RQ w' g b rs' L) :
  Calls Tryz.prog 163 #[.pointer (some ⟨q,0,none⟩),av] w fun e w'=>e=.returned (.bool ok)∧Rea w' q b tv uv l vs k∧Rc q b w w'∧RQ w' g b rs' L:=by
 have HC:=hide hc
 have H1:=hide h1
 have HT1:=hide ht1
 have HS:=hide hs
 have hjl:j<l.length:=(List.getElem?_eq_some_iff.1 ht1).1
 clear hc h1 ht1 hs
 have HV:=hide hv
 have HK1:=hide hk1
 clear hv hk1
 have H:=hide h
 have HT:=hide ht
 have HTT:=hide hT
 have HA:=hide hA
 have HR:=hide hR
 have HW:=hide hW
 have hq:=lt_of_heap h.blk
 have hgl:=lt_of_heap hR.slot
 have hf0:∀ W,(Instr.field 113 (.agg #[.int .i64 t.kind,.string t.text,.int .i64 t.pl.b,.int .i64 t.pl.g,.int .i64 t.pl.l,.int .i64 t.pl.c]) 0).run Tryz.prog W=.ok (.int .i64 t.kind) W:=fun W=>tk_f0 _ _ _ _ _ _ W
 clear h ht hA hR hT hW
 go_enter Tryz.func163,Tryz.ntmps163
 go_wp2_with fail
 refine (wof_g w 1 (by decide) (by decide)).mono ?_
 rintro r w1 ⟨ng0,ao0,cap0,rs0,rfl,hw1,hl1,hb1⟩
 have ho1:OutW 1 2 (.agg #[.bool ng0,.slice ao0 rs0.length cap0]) w1:=⟨_,_,_,_,rfl,hw1,hl1⟩
 clear hw1 hl1
 go_wp2_with fail
 refine (rfrom_q w1 _ _ _ ho1.is (by omega)).mono ?_
 rintro r w2 ⟨v,rfl,ho2,hb2⟩
 replace ho2:OutQr (1:Rat) L v w2:=OutQr.fit ho2 (fit_one hL1)
 obtain ⟨ng1,ao1,cap1,rs1,bo1,dap1,ss1,rfl,_⟩:=id ho2
 have hbw2:=hb1.trans (hb2.mono hb1.size)
 have hbw:Below w.heap.size w (w2.alloc (.cells #[.bool ng1,.slice ao1 rs1.length cap1,.slice bo1 ss1.length dap1] 89)):=hbw2.alloc hbw2.size _
 clear ho1 hb1 hb2
 go_wp2_with fail
 refine (atoken_any _ q b tv uv l vs i t (H.out.below hbw) HT.out).mono ?_
 rintro r w3 ⟨rfl,hb3⟩
 have hbx:w3.heap[w2.heap.size]? = some (.cells #[.bool ng1,.slice ao1 rs1.length cap1,.slice bo1 ss1.length dap1] 89 (0,0)):=(hb3.block _ (by simp)).trans (heap_alloc_new w2 _)
 have HBX:=hide hbx
 have HO:=hide (ho2.ru (Ru.of_below ((hAl w2 _).trans (hb3.mono (hAl w2 _).size))))
 have HB3:=hide (hbw.trans (hb3.mono hbw.size))
 have hf5:w.heap.size≤w2.heap.size:=hbw2.size
 generalize w2.heap.size=f5 at *
 unfold Tk.av
 clear hbw hbw2 hb3 hbx ho2
 rw [H1.out] at *
 go_wp2_with fail
 refine (HC.out w3 HB3.out).mono ?_
 rintro e w4 ⟨v,rfl,hox,r1,r2⟩
 obtain ⟨ng6,ao6,cap6,rs6,bo6,dap6,ss6,rfl,_⟩:=id hox
 have hbx4:=(r2.other _ (lt_of_heap HBX.out) (by omega) (by omega)).trans HBX.out
 have hr4:Rc q q w w4:=(Rc.of_below HB3.out).trans r2
 have hal:=hAl w4 (.cells #[.bool ng6,.slice ao6 rs6.length cap6,.slice bo6 ss6.length dap6] 89)
 have h6:=heap_alloc_new w4 (.cells #[.bool ng6,.slice ao6 rs6.length cap6,.slice bo6 ss6.length dap6] 89)
 have hf6:w.heap.size≤w4.heap.size:=hr4.size
 have hf56:f5<w4.heap.size:=lt_of_heap hbx4
 go_wp2_with fail
 refine (asign_any _ q b tv uv l vs j t1 (r1.below hal) HT1.out sTimes (fun h3=>HW.out.more HT1.out (by rw [h3];decide)) HW.out.len).mono ?_
 rw [HS.out]
 rintro e w5 ⟨rfl,r3,r4⟩
 have hr5:Rc q q w w5:=(hr4.trans (.of_below hal)).trans r4
 have h65:=(r4.other _ (lt_of_heap h6) (by omega) (by omega)).trans h6
 have h55:=(r4.other _ (lt_of_heap (alloc_keep (o' := .cells #[.bool ng6,.slice ao6 rs6.length cap6,.slice bo6 ss6.length dap6] 89) hbx4)) (by omega) (by omega)).trans (alloc_keep hbx4)
 have H65:=hide h65
 have H55:=hide h55
 have HOX:=hide (hox.ru ((Ru.of_below hal).trans r4.ru))
 have HR5:=hide hr5
 have R3_:=hide r3
 generalize w4.heap.size=f6 at *
 clear hox r1 r2 hbx4 hr4 hal h6 r3 r4 hr5 h65 h55
 rw [if_neg (by decide)] at R3_
 have hf01:∀ W,(Instr.field 113 (.agg #[.int .i64 t1.kind,.string t1.text,.int .i64 t1.pl.b,.int .i64 t1.pl.g,.int .i64 t1.pl.l,.int .i64 t1.pl.c]) 0).run Tryz.prog W=.ok (.int .i64 1) W:=fun W=>(tk_f0 _ _ _ _ _ _ W).trans (by rw [HK1.out])
 go_wp2_with fail
 refine (atoken_any w5 q b tv uv l vs j t1 R3_.out HT1.out).mono ?_
 rintro r w6 ⟨rfl,hb6⟩
 unfold Tk.av
 replace R3_:=hide (R3_.out.below hb6)
 replace HR5:=hide (HR5.out.trans (.of_below hb6))
 replace H65:=hide ((hb6.block _ (lt_of_heap H65.out)).trans H65.out)
 replace H55:=hide ((hb6.block _ (lt_of_heap H55.out)).trans H55.out)
 replace HOX:=hide (HOX.out.ru (Ru.of_below hb6))
 clear hb6
 obtain ⟨hl5,y0,y1,y2,yf0,yf1,yf2⟩:=three_cells H55.out
 obtain ⟨hl6,x0,x1,x2,_,_,_⟩:=three_cells H65.out
 go_wp2_with fail
 obtain ⟨v1,v2⟩:=H.out.fill3 R3_.out HR5.out H55.out hf5 (.bool ng6) (.slice ao6 rs6.length cap6) (.slice bo6 ss6.length dap6)
 refine (HV.out _ _ v2 v1 (HOX.out.ru (ru_r3 H55.out _ _ _)).is).mono ?_
 rintro e w7 ⟨rfl,r1,r2,r3⟩
 have R1:=hide r1
 have R2:=hide (v2.wide.trans r2)
 have R4:=hide r3
 clear r1 r2 r3 v1 v2 x0 x1 x2 y0 y1 y2
 go_wp2
 refine bodyPost_ret (v:=_) (by simp [results,Tryz.results163,go_sem];try rfl) rfl ⟨rfl,R1.out,R2.out,R4.out⟩
end Lm
end Go.Proofs.YtaofpigilgapgaaGreatDoor

namespace Go.Proofs.YtaofpigilgapgaaGreatDoor
namespace Lm
open Go Go.RowKit
inductive VarR (l:List Tk) (vs:List ByteArray) (L:Nat) (sn:Bool) (x:Rat) (rs:List Rat) (i:Nat):Bool→Nat→List Rat→Prop
 | no (t:Tk) (ht:l[i]? = some t) (hk:ixS t.text vs=none):VarR l vs L sn x rs i false i rs
 | yes (t:Tk) (k:Nat) (r:Rat) (ht:l[i]? = some t) (hk:ixS t.text vs=some k) (hr:rs[k]? = some r) (hx:Fit x L) (hf:Fit (r+sgq sn x) L):VarR l vs L sn x rs i true (i+1) (rs.set k (r+sgq sn x))
inductive TermR (l:List Tk) (vs:List ByteArray) (L:Nat) (sn:Bool) (rs:List Rat) (i:Nat):Bool→Nat→List Rat→Prop
 | other (t:Tk) (ht:l[i]? = some t) (h1:t.kind≠1) (h2:t.kind≠2):TermR l vs L sn rs i false i rs
 | name (t:Tk) (ht:l[i]? = some t) (h1:t.kind=1) (ok:Bool) (j:Nat) (rs' : List Rat) (hv:VarR l vs L sn 1 rs i ok j rs'):TermR l vs L sn rs i ok j rs'
 | bad (t:Tk) (ht:l[i]? = some t) (h1:t.kind=2) (j:Nat) (x:Rat) (hc:CoefR l i false j x):TermR l vs L sn rs i false j rs
 | alone (t:Tk) (ht:l[i]? = some t) (h1:t.kind=2) (j:Nat) (x:Rat) (hc:CoefR l i true j x) (hx:Fit x L) (t1:Tk) (ht1:l[j]? = some t1) (hs:tsg t1 sTimes=false) (hk1:t1.kind≠1) (r0:Rat) (hr:rs[vs.length]? = some r0) (hf:Fit (r0+sgq sn (-x)) L):TermR l vs L sn rs i true j (rs.set vs.length (r0+sgq sn (-x)))
 | star (t:Tk) (ht:l[i]? = some t) (h1:t.kind=2) (j:Nat) (x:Rat) (hc:CoefR l i true j x) (hx:Fit x L) (t1:Tk) (ht1:l[j]? = some t1) (hs:tsg t1 sTimes=true) (ok:Bool) (k:Nat) (rs' : List Rat) (hv:VarR l vs L sn x rs (j+1) ok k rs'):TermR l vs L sn rs i ok k rs'
 | next (t:Tk) (ht:l[i]? = some t) (h1:t.kind=2) (j:Nat) (x:Rat) (hc:CoefR l i true j x) (hx:Fit x L) (t1:Tk) (ht1:l[j]? = some t1) (hs:tsg t1 sTimes=false) (hk1:t1.kind=1) (ok:Bool) (k:Nat) (rs' : List Rat) (hv:VarR l vs L sn x rs j ok k rs'):TermR l vs L sn rs i ok k rs'
theorem CoefR.lt {l:List Tk} {i j:Nat} {x:Rat} (h:CoefR l i true j x):i<j:=by cases h <;> omega
theorem VarR.lt {l:List Tk} {vs:List ByteArray} {L:Nat} {sn:Bool} {x:Rat} {rs rs' : List Rat} {i j:Nat} (h:VarR l vs L sn x rs i true j rs'):i<j:=by cases h;omega
theorem TermR.lt {l:List Tk} {vs:List ByteArray} {L:Nat} {sn:Bool} {rs rs' : List Rat} {i j:Nat} (h:TermR l vs L sn rs i true j rs'):i<j:=by
 cases h with
 | name t ht h1 ok j rs' hv=>exact hv.lt
 | alone t ht h1 j x hc hx t1 ht1 hs hk1 r0 hr hf=>exact hc.lt
 | star t ht h1 j x hc hx t1 ht1 hs ok k rs' hv=>have:=hc.lt;have:=hv.lt;omega
 | next t ht h1 j x hc hx t1 ht1 hs hk1 ok k rs' hv=>have:=hc.lt;have:=hv.lt;omega
structure Env (w:World) (q b g:Nat) (tv uv:Value) (l:List Tk) (vs:List ByteArray) (L:Nat):Prop where
 tabs:Tabs w
 wf:Wf l
 nov:(⟨#[]⟩:ByteArray) ∉ vs
 hL:L≤10000
 hL1:1≤L
 qb:q≠b
 gq:g≠q
theorem acoef_any {w:World} {q b g:Nat} {tv uv:Value} {l:List Tk} {vs:List ByteArray} {L i j:Nat} {x:Rat} (E:Env w q b g tv uv l vs L) (h:Rea w q b tv uv l vs i) (hc:CoefR l i true j x) (hx:Fit x L) (W:World) (hb:Below w.heap.size w W) :
  Calls Tryz.prog 194 #[.pointer (some ⟨q,0,none⟩)] W fun e w'=>∃ v,e=.returned (.tuple #[v,.bool true])∧OutQr x L v w'∧Rea w' q b tv uv l vs j∧Rc q q W w' := by
 cases hc with
 | plain t t1 ht ht1 hs=>exact acoef_plain W (E.tabs.below hb) q b tv uv l E.wf vs i (h.below hb) t t1 ht ht1 hs L hx
 | over t t1 t2 ht ht1 hs ht2 hz=>exact acoef_over W (E.tabs.below hb) q b tv uv l E.wf vs i (h.below hb) t t1 t2 ht ht1 hs ht2 hz L hx
theorem acoef_none {w:World} {q b g:Nat} {tv uv:Value} {l:List Tk} {vs:List ByteArray} {L i j:Nat} {x:Rat} (E:Env w q b g tv uv l vs L) (h:Rea w q b tv uv l vs i) (hc:CoefR l i false j x) (W:World) (hb:Below w.heap.size w W) :
  Calls Tryz.prog 194 #[.pointer (some ⟨q,0,none⟩)] W fun e w'=>∃ v,e=.returned (.tuple #[v,.bool false])∧OutQr0 v∧Rea w' q b tv uv l vs j∧Rc q q W w' := by
 cases hc with
 | bad t t1 t2 ht ht1 hs ht2 hz=>exact acoef_bad W (E.tabs.below hb) q b tv uv l E.wf vs i (h.below hb) t t1 t2 ht ht1 hs ht2 hz
theorem avar_any {w:World} {q b g:Nat} {tv uv:Value} {l:List Tk} {vs:List ByteArray} {L i j:Nat} {x:Rat} {sn ok:Bool} {rs rs' : List Rat} (E:Env w q b g tv uv l vs L) (hv:VarR l vs L sn x rs i ok j rs') {av:Value} (hA:AddV q b g w av sn) (hR:RQ w g b rs L) (W:World) (xv:Value) (hr:Rc q q w W) (h:Rea W q b tv uv l vs i) (hx:IsQ x L xv W) :
  Calls Tryz.prog 195 #[.pointer (some ⟨q,0,none⟩),xv,av] W fun e w'=>e=.returned (.bool ok)∧Rea w' q b tv uv l vs j∧Rc q b W w'∧RQ w' g b rs' L:=by
 have hR' := hR.rc hr E.gq (fun e=>E.qb e.symm)
 cases hv with
 | no t ht hk =>
  refine (avar_no W q b tv uv l vs i h t ht x L xv av hx hk).mono ?_
  rintro e w' ⟨rfl,h1,h2⟩
  exact ⟨rfl,h1,h2.wide,hR'.rc h2 E.gq (fun e=>E.qb e.symm)⟩
 | yes t k r ht hk hrk hfx hf =>
  have hj:i+1<l.length:=by
   have h1:=(List.getElem?_eq_some_iff.1 ht).1
   by_cases he:i+1=l.length
   ·have h2:=(E.wf.stop _ _ ht he).2
    rw [h2] at hk
    exact absurd (List.mem_of_getElem? (ixS_at hk)) E.nov
   ·omega
  exact avar_yes W q b tv uv l vs i h t ht x L xv av hx g k rs r sn hk hj E.wf.len (hA.rc hr.wide) hR' hrk E.hL hfx hf E.qb E.gq
theorem aterm_any (w:World) (q b g:Nat) (tv uv:Value) (l:List Tk) (vs:List ByteArray) (L:Nat) (E:Env w q b g tv uv l vs L) (sn ok:Bool) (rs rs' : List Rat) (i j:Nat) (ht:TermR l vs L sn rs i ok j rs') (av:Value) (hA:AddV q b g w av sn) (hR:RQ w g b rs L) (h:Rea w q b tv uv l vs i) :
  Calls Tryz.prog 163 #[.pointer (some ⟨q,0,none⟩),av] w fun e w'=>e=.returned (.bool ok)∧Rea w' q b tv uv l vs j∧Rc q b w w'∧RQ w' g b rs' L:=by
 cases ht with
 | other t ht h1 h2=>exact aterm_other w E.tabs q b g tv uv l E.wf vs i h t ht L E.hL E.hL1 av sn hA rs hR E.qb E.gq h1 h2
 | name t ht h1 ok j rs' hv=>exact aterm_name w E.tabs q b g tv uv l E.wf vs i h t ht L E.hL E.hL1 av sn hA rs hR E.qb E.gq h1 ok j rs' (avar_any E hv hA hR)
 | bad t ht h1 j x hc=>exact aterm_bad w E.tabs q b g tv uv l E.wf vs i h t ht L E.hL E.hL1 av sn hA rs hR E.qb E.gq h1 j (acoef_none E h hc)
 | alone t ht h1 j x hc hx t1 ht1 hs hk1 r0 hr hf=>exact aterm_alone w E.tabs q b g tv uv l E.wf vs i h t ht L E.hL E.hL1 av sn hA rs hR E.qb E.gq h1 j x r0 (acoef_any E h hc hx) t1 ht1 hs hk1 hr hx hf
 | star t ht h1 j x hc hx t1 ht1 hs ok k rs' hv=>exact aterm_star w E.tabs q b g tv uv l E.wf vs i h t ht L E.hL E.hL1 av sn hA rs hR E.qb E.gq h1 j x (acoef_any E h hc hx) t1 ht1 hs _ _ _ (avar_any E hv hA hR)
 | next t ht h1 j x hc hx t1 ht1 hs hk1 ok k rs' hv=>exact aterm_next w E.tabs q b g tv uv l E.wf vs i h t ht L E.hL E.hL1 av sn hA rs hR E.qb E.gq h1 j x (acoef_any E h hc hx) t1 ht1 hs hk1 _ _ _ (avar_any E hv hA hR)
end Lm
end Go.Proofs.YtaofpigilgapgaaGreatDoor

namespace Go.Proofs.YtaofpigilgapgaaGreatDoor
namespace Lm
open Go Go.RowKit
inductive SideL (l:List Tk) (vs:List ByteArray) (L:Nat) (sn:Bool):Bool→Nat→List Rat→Bool→Nat→List Rat→Prop
 | bad (m:Bool) (i j:Nat) (rs rs' : List Rat) (h:TermR l vs L (m != sn) rs i false j rs'):SideL l vs L sn m i rs false j rs'
 | last (m:Bool) (i j:Nat) (rs rs' : List Rat) (h:TermR l vs L (m != sn) rs i true j rs') (t:Tk) (ht:l[j]? = some t) (hp:tpm t=false):SideL l vs L sn m i rs true j rs'
 | more (m:Bool) (i j k:Nat) (rs rs' rs'' : List Rat) (ok:Bool) (h:TermR l vs L (m != sn) rs i true j rs') (t:Tk) (ht:l[j]? = some t) (hp:tpm t=true) (hr:SideL l vs L sn (tsg t sMinus) (j+1) rs' ok k rs''):SideL l vs L sn m i rs ok k rs''
def SideR (l:List Tk) (vs:List ByteArray) (L:Nat) (sn:Bool) (i:Nat) (rs:List Rat) (ok:Bool) (k:Nat) (rs' : List Rat):Prop:=∃ t,l[i]? = some t∧SideL l vs L sn (tsg t sMinus) (if tpm t then i+1 else i) rs ok k rs'
def nx (w:World) (q:Nat):Nat:=match w.cell? ⟨q,1,none⟩ with | some (.int _ z)=>z.toNat | _=>0
theorem Rea.nx {w:World} {q b:Nat} {tv uv:Value} {l:List Tk} {vs:List ByteArray} {i:Nat} (h:Rea w q b tv uv l vs i):nx w q=i:=by
 unfold Lm.nx
 rw [cell_of_row _ _ _ _ _ (0,0) h.blk]
 simp
theorem Env.rc {w w' : World} {q b g:Nat} {tv uv:Value} {l:List Tk} {vs:List ByteArray} {L i:Nat} {rs:List Rat} (E:Env w q b g tv uv l vs L) (h:Rea w q b tv uv l vs i) (hR:RQ w g b rs L) (hr:Rc q b w w'):Env w' q b g tv uv l vs L:=by
 refine ⟨E.tabs.rcs hr h.no8 ?_,E.wf,E.nov,E.hL,E.hL1,E.qb,E.gq⟩
 obtain ⟨es,e1,e2,e3⟩:=hR.row
 intro z
 rw [cell_of_row _ _ _ _ _ (0,0) e2,List.getElem?_toArray]
 cases es with
 | nil=>simp [rf3]
 | cons e es=>simp [rf3]
set_option maxRecDepth 20000 in
set_option maxHeartbeats 8000000 in
theorem aside_any (w:World) (q b g:Nat) (tv uv:Value) (l:List Tk) (vs:List ByteArray) (L:Nat) (E:Env w q b g tv uv l vs L) (sn ok:Bool) (rs rs' : List Rat) (i k:Nat) (hs:SideR l vs L sn i rs ok k rs') (av:Value) (hA:AddV q b g w av sn) (hR:RQ w g b rs L) (h:Rea w q b tv uv l vs i) :
  Calls Tryz.prog 118 #[.pointer (some ⟨q,0,none⟩),av] w fun e w'=>e=.returned (.bool ok)∧Rea w' q b tv uv l vs k∧Rc q b w w'∧RQ w' g b rs' L:=by
 obtain ⟨t,ht,hs⟩:=hs
 have K:=hide (apm_any w q b tv uv l vs i t h ht (fun h3=>E.wf.more ht (by rw [h3];decide)) E.wf.len)
 have HE:=hide E
 have HA:=hide hA
 have HR:=hide hR
 have H:=hide h
 have HS:=hide hs
 obtain ⟨j0,hj0⟩:∃ j0,(if tpm t=true then i+1 else i)=j0:=⟨_,rfl⟩
 rw [hj0] at K HS
 clear E hA hR h hs ht hj0
 generalize tsg t sMinus=m0 at K HS
 generalize tpm t=p0 at K
 go_enter Tryz.func118,Tryz.ntmps118
 go_wp2_with fail
 refine K.out.mono ?_
 rintro e w1 ⟨rfl,r1,r2⟩
 have H1:=hide r1
 have HC1:=hide (show Rc q b w w1 from r2.wide)
 have HQ1:=hide (HR.out.rc r2 HE.out.gq (fun e=>HE.out.qb e.symm))
 clear r1 r2 K
 go_wp2_with fail
 go_loopw [5,7] (fun mv ov wr=>Rc q b w wr∧((∃ m j rsj,mv=.bool m∧ov=.bool true∧SideL l vs L sn m j rsj ok k rs'∧Rea wr q b tv uv l vs j∧RQ wr g b rsj L)∨(∃ m,mv=.bool m∧ov=.bool false∧ok=true∧Rea wr q b tv uv l vs k∧RQ wr g b rs' L))) (fun _ ov wr=>(l.length - nx wr q)+(match ov with | .bool true=>1 | _=>0))
 case atStart=>exact ⟨HC1.out,.inl ⟨m0,j0,rs,rfl,rfl,HS.out,H1.out,HQ1.out⟩⟩
 case round =>
  obtain ⟨hrc,⟨m,j,rsj,rfl,rfl,hsl,hrea,hrq⟩ | ⟨m,rfl,rfl,rfl,hrea,hrq⟩⟩:=hrel
  ·have HC:=hide hrc
   have HSL:=hide hsl
   have HRE:=hide hrea
   have HRQ:=hide hrq
   clear hrc hsl hrea hrq
   cases m with
   | false =>
    have HEr:=hide (HE.out.rc H.out HR.out HC.out)
    have HAr:=hide (HA.out.rc HC.out)
    cases HSL.out with
    | bad _ _ j' _ _ hterm =>
     rw [show (false != sn)=sn from by cases sn <;> rfl] at hterm
     have HTM:=hide hterm
     clear hterm HSL
     have HA2:=HAr
     have HC2:=HC
     have HRE2:=HRE
     have HRQ2:=HRQ
     have HE2:=HEr
     go_wp2_with fail
     refine (aterm_any wr q b g tv uv l vs L HE2.out sn false rsj rs' j k HTM.out av HA2.out HRQ2.out HRE2.out).mono ?_
     rintro e w3 ⟨rfl,r1,r2,r3⟩
     have R1:=hide r1
     have R2:=hide (HC2.out.trans r2)
     have R3' := hide r3
     clear r1 r2 r3
     go_wp2
     refine bodyPost_ret (v:=_) (by simp [results,Tryz.results118,go_sem];try rfl) rfl ⟨rfl,R1.out,R2.out,R3'.out⟩
    | last _ _ j' _ _ hterm t ht hp =>
     have hlt:=hterm.lt
     rw [show (false != sn)=sn from by cases sn <;> rfl] at hterm
     have HTM:=hide hterm
     have HT:=hide ht
     have HP:=hide hp
     clear hterm ht hp HSL
     have HA2:=HAr
     have HC2:=HC
     have HRE2:=HRE
     have HRQ2:=HRQ
     have HE2:=HEr
     go_wp2_with fail
     refine (aterm_any wr q b g tv uv l vs L HE2.out sn true rsj rs' j k HTM.out av HA2.out HRQ2.out HRE2.out).mono ?_
     rintro e w3 ⟨rfl,r1,r2,r3⟩
     have K2:=apm_any w3 q b tv uv l vs k t r1 HT.out (fun h3=>HE.out.wf.more HT.out (by rw [h3];decide)) HE.out.wf.len
     rw [HP.out] at K2
     have K2:=hide K2
     have R2:=hide (HC2.out.trans r2)
     have R3' := hide r3
     clear r1 r2 r3
     go_wp2_with fail
     refine K2.out.mono ?_
     rintro e w4 ⟨rfl,s1,s2⟩
     have S1:=hide s1
     have S2:=hide (R2.out.trans s2.wide)
     have S3:=hide (R3'.out.rc s2 HE.out.gq (fun e=>HE.out.qb e.symm))
     clear s1 s2 K2
     go_wp2
     go_roundw
     case rel=>exact ⟨S2.out,.inr ⟨_,rfl,rfl,trivial,S1.out,S3.out⟩⟩
     case measure =>
      have e1:=S1.out.nx
      have e2:=HRE.out.nx
      have e3:=HRE.out.lt
      rw [if_neg (by decide)] at e1
      simp only [e1,e2]
      omega
    | more _ _ j' _ _ rs'' _ _ hterm t ht hp hr =>
     have hlt:=hterm.lt
     rw [show (false != sn)=sn from by cases sn <;> rfl] at hterm
     have HTM:=hide hterm
     have HT:=hide ht
     have HP:=hide hp
     have HNX:=hide hr
     clear hr
     clear hterm ht hp HSL
     have HA2:=HAr
     have HC2:=HC
     have HRE2:=HRE
     have HRQ2:=HRQ
     have HE2:=HEr
     go_wp2_with fail
     refine (aterm_any wr q b g tv uv l vs L HE2.out sn true rsj rs'' j j' HTM.out av HA2.out HRQ2.out HRE2.out).mono ?_
     rintro e w3 ⟨rfl,r1,r2,r3⟩
     have K2:=apm_any w3 q b tv uv l vs j' t r1 HT.out (fun h3=>HE.out.wf.more HT.out (by rw [h3];decide)) HE.out.wf.len
     rw [HP.out] at K2
     have K2:=hide K2
     have R2:=hide (HC2.out.trans r2)
     have R3' := hide r3
     clear r1 r2 r3
     go_wp2_with fail
     refine K2.out.mono ?_
     rintro e w4 ⟨rfl,s1,s2⟩
     have S1:=hide s1
     have S2:=hide (R2.out.trans s2.wide)
     have S3:=hide (R3'.out.rc s2 HE.out.gq (fun e=>HE.out.qb e.symm))
     clear s1 s2 K2
     go_wp2
     go_roundw
     case rel=>exact ⟨S2.out,.inl ⟨_,_,_,rfl,rfl,HNX.out,S1.out,S3.out⟩⟩
     case measure =>
      have e1:=S1.out.nx
      have e2:=HRE.out.nx
      have e3:=HRE.out.lt
      rw [if_pos trivial] at e1
      simp only [e1,e2]
      omega
   | true =>
    have HEr:=hide (HE.out.rc H.out HR.out HC.out)
    have HAr:=hide (HA.out.rc HC.out)
    cases HSL.out with
    | bad _ _ j' _ _ hterm =>
     rw [show (true != sn)=(!sn) from by cases sn <;> rfl] at hterm
     have HTM:=hide hterm
     clear hterm HSL
     go_wp2_with fail
     refine (turned_any wr av q b g sn HAr.out (lt_of_heap HRE.out.blk) (lt_of_heap HRQ.out.row.choose_spec.2.1)).mono ?_
     rintro e w2 ⟨uv2,rfl,ha2,hb2⟩
     have HA2:=hide ha2
     have HC2:=hide (HC.out.trans (.of_below hb2))
     have HRE2:=hide (HRE.out.below hb2)
     have HRQ2:=hide (HRQ.out.below hb2)
     have HE2:=hide (HEr.out.rc HRE.out HRQ.out (.of_below hb2))
     clear ha2 hb2
     go_wp2_with fail
     refine (aterm_any w2 q b g tv uv l vs L HE2.out (!sn) false rsj rs' j k HTM.out uv2 HA2.out HRQ2.out HRE2.out).mono ?_
     rintro e w3 ⟨rfl,r1,r2,r3⟩
     have R1:=hide r1
     have R2:=hide (HC2.out.trans r2)
     have R3' := hide r3
     clear r1 r2 r3
     go_wp2
     refine bodyPost_ret (v:=_) (by simp [results,Tryz.results118,go_sem];try rfl) rfl ⟨rfl,R1.out,R2.out,R3'.out⟩
    | last _ _ j' _ _ hterm t ht hp =>
     have hlt:=hterm.lt
     rw [show (true != sn)=(!sn) from by cases sn <;> rfl] at hterm
     have HTM:=hide hterm
     have HT:=hide ht
     have HP:=hide hp
     clear hterm ht hp HSL
     go_wp2_with fail
     refine (turned_any wr av q b g sn HAr.out (lt_of_heap HRE.out.blk) (lt_of_heap HRQ.out.row.choose_spec.2.1)).mono ?_
     rintro e w2 ⟨uv2,rfl,ha2,hb2⟩
     have HA2:=hide ha2
     have HC2:=hide (HC.out.trans (.of_below hb2))
     have HRE2:=hide (HRE.out.below hb2)
     have HRQ2:=hide (HRQ.out.below hb2)
     have HE2:=hide (HEr.out.rc HRE.out HRQ.out (.of_below hb2))
     clear ha2 hb2
     go_wp2_with fail
     refine (aterm_any w2 q b g tv uv l vs L HE2.out (!sn) true rsj rs' j k HTM.out uv2 HA2.out HRQ2.out HRE2.out).mono ?_
     rintro e w3 ⟨rfl,r1,r2,r3⟩
     have K2:=apm_any w3 q b tv uv l vs k t r1 HT.out (fun h3=>HE.out.wf.more HT.out (by rw [h3];decide)) HE.out.wf.len
     rw [HP.out] at K2
     have K2:=hide K2
     have R2:=hide (HC2.out.trans r2)
     have R3' := hide r3
     clear r1 r2 r3
     go_wp2_with fail
     refine K2.out.mono ?_
     rintro e w4 ⟨rfl,s1,s2⟩
     have S1:=hide s1
     have S2:=hide (R2.out.trans s2.wide)
     have S3:=hide (R3'.out.rc s2 HE.out.gq (fun e=>HE.out.qb e.symm))
     clear s1 s2 K2
     go_wp2
     go_roundw
     case rel=>exact ⟨S2.out,.inr ⟨_,rfl,rfl,trivial,S1.out,S3.out⟩⟩
     case measure =>
      have e1:=S1.out.nx
      have e2:=HRE.out.nx
      have e3:=HRE.out.lt
      rw [if_neg (by decide)] at e1
      simp only [e1,e2]
      omega
    | more _ _ j' _ _ rs'' _ _ hterm t ht hp hr =>
     have hlt:=hterm.lt
     rw [show (true != sn)=(!sn) from by cases sn <;> rfl] at hterm
     have HTM:=hide hterm
     have HT:=hide ht
     have HP:=hide hp
     have HNX:=hide hr
     clear hr
     clear hterm ht hp HSL
     go_wp2_with fail
     refine (turned_any wr av q b g sn HAr.out (lt_of_heap HRE.out.blk) (lt_of_heap HRQ.out.row.choose_spec.2.1)).mono ?_
     rintro e w2 ⟨uv2,rfl,ha2,hb2⟩
     have HA2:=hide ha2
     have HC2:=hide (HC.out.trans (.of_below hb2))
     have HRE2:=hide (HRE.out.below hb2)
     have HRQ2:=hide (HRQ.out.below hb2)
     have HE2:=hide (HEr.out.rc HRE.out HRQ.out (.of_below hb2))
     clear ha2 hb2
     go_wp2_with fail
     refine (aterm_any w2 q b g tv uv l vs L HE2.out (!sn) true rsj rs'' j j' HTM.out uv2 HA2.out HRQ2.out HRE2.out).mono ?_
     rintro e w3 ⟨rfl,r1,r2,r3⟩
     have K2:=apm_any w3 q b tv uv l vs j' t r1 HT.out (fun h3=>HE.out.wf.more HT.out (by rw [h3];decide)) HE.out.wf.len
     rw [HP.out] at K2
     have K2:=hide K2
     have R2:=hide (HC2.out.trans r2)
     have R3' := hide r3
     clear r1 r2 r3
     go_wp2_with fail
     refine K2.out.mono ?_
     rintro e w4 ⟨rfl,s1,s2⟩
     have S1:=hide s1
     have S2:=hide (R2.out.trans s2.wide)
     have S3:=hide (R3'.out.rc s2 HE.out.gq (fun e=>HE.out.qb e.symm))
     clear s1 s2 K2
     go_wp2
     go_roundw
     case rel=>exact ⟨S2.out,.inl ⟨_,_,_,rfl,rfl,HNX.out,S1.out,S3.out⟩⟩
     case measure =>
      have e1:=S1.out.nx
      have e2:=HRE.out.nx
      have e3:=HRE.out.lt
      rw [if_pos trivial] at e1
      simp only [e1,e2]
      omega
  ·have HC:=hide hrc
   have HRE:=hide hrea
   have HRQ:=hide hrq
   clear hrc hrea hrq
   go_wp2
   refine bodyPost_ret (v:=_) (by simp [results,Tryz.results118,go_sem];try rfl) rfl ⟨rfl,HRE.out,HC.out,HRQ.out⟩
end Lm
end Go.Proofs.YtaofpigilgapgaaGreatDoor

namespace Go.Proofs.YtaofpigilgapgaaGreatDoor
namespace Lm
open Go Go.RowKit
inductive EqR (l:List Tk) (vs:List ByteArray) (L:Nat) (i:Nat) (rs:List Rat):Bool→Nat→List Rat→Prop
 | bad1 (k:Nat) (rs1:List Rat) (h:SideR l vs L false i rs false k rs1):EqR l vs L i rs false k rs1
 | bad2 (k:Nat) (rs1:List Rat) (t:Tk) (h:SideR l vs L false i rs true k rs1) (ht:l[k]? = some t) (hs:tsg t sEq=false):EqR l vs L i rs false k rs1
 | bad3 (k:Nat) (rs1:List Rat) (t:Tk) (h:SideR l vs L false i rs true k rs1) (ht:l[k]? = some t) (hs:tsg t sEq=true) (k2:Nat) (rs2:List Rat) (h2:SideR l vs L true (k+1) rs1 false k2 rs2):EqR l vs L i rs false k2 rs2
 | bad4 (k:Nat) (rs1:List Rat) (t:Tk) (h:SideR l vs L false i rs true k rs1) (ht:l[k]? = some t) (hs:tsg t sEq=true) (k2:Nat) (rs2:List Rat) (h2:SideR l vs L true (k+1) rs1 true k2 rs2) (t2:Tk) (ht2:l[k2]? = some t2) (hk:t2.kind≠0):EqR l vs L i rs false k2 rs2
 | good (k:Nat) (rs1:List Rat) (t:Tk) (h:SideR l vs L false i rs true k rs1) (ht:l[k]? = some t) (hs:tsg t sEq=true) (k2:Nat) (rs2:List Rat) (h2:SideR l vs L true (k+1) rs1 true k2 rs2) (t2:Tk) (ht2:l[k2]? = some t2) (hk:t2.kind=0):EqR l vs L i rs true k2 rs2
set_option maxRecDepth 20000 in
set_option maxHeartbeats 8000000 in
theorem aequation_any (w:World) (q b g:Nat) (tv uv:Value) (l:List Tk) (vs:List ByteArray) (L:Nat) (E:Env w q b g tv uv l vs L) (ok:Bool) (rs rs' : List Rat) (i k:Nat) (he:EqR l vs L i rs ok k rs') (av:Value) (hA:AddV q b g w av false) (hR:RQ w g b rs L) (h:Rea w q b tv uv l vs i) :
  Calls Tryz.prog 71 #[.pointer (some ⟨q,0,none⟩),av] w fun e w'=>e=.returned (.bool ok)∧Rea w' q b tv uv l vs k∧Rc q b w w'∧RQ w' g b rs' L:=by
 have HE:=hide E
 have HA:=hide hA
 have HR:=hide hR
 have H:=hide h
 clear E hA hR h
 cases he with
 | bad1 _ _ hs1 =>
  have HS1:=hide hs1
  clear hs1
  go_enter Tryz.func71,Tryz.ntmps71
  go_wp2_with fail
  refine (aside_any w q b g tv uv l vs L HE.out false false rs rs' i k HS1.out av HA.out HR.out H.out).mono ?_
  rintro e w1 ⟨rfl,r1,r2,r3⟩
  have R1:=hide r1
  have C1:=hide r2
  have Q1:=hide r3
  clear r1 r2 r3
  go_wp2
  refine bodyPost_ret (v:=_) (by simp [results,Tryz.results71,go_sem];try rfl) rfl ⟨rfl,R1.out,C1.out,Q1.out⟩
 | bad2 _ _ t hs1 ht hsg =>
  have HT:=hide ht
  have HSG:=hide hsg
  clear ht hsg
  have HS1:=hide hs1
  clear hs1
  go_enter Tryz.func71,Tryz.ntmps71
  go_wp2_with fail
  refine (aside_any w q b g tv uv l vs L HE.out false true rs rs' i k HS1.out av HA.out HR.out H.out).mono ?_
  rintro e w1 ⟨rfl,r1,r2,r3⟩
  have R1:=hide r1
  have C1:=hide r2
  have Q1:=hide r3
  clear r1 r2 r3
  have K:=asign_any w1 q b tv uv l vs k t R1.out HT.out sEq (fun h3=>HE.out.wf.more HT.out (by rw [h3];decide)) HE.out.wf.len
  rw [HSG.out] at K
  unfold sEq at K
  have K:=hide K
  go_wp2_with fail
  refine K.out.mono ?_
  rintro e w2 ⟨rfl,s1,s2⟩
  have R2:=hide s1
  have C2:=hide (C1.out.trans s2.wide)
  have Q2:=hide (Q1.out.rc s2 HE.out.gq (fun e=>HE.out.qb e.symm))
  clear s1 s2 K
  go_wp2
  refine bodyPost_ret (v:=_) (by simp [results,Tryz.results71,go_sem];try rfl) rfl ⟨rfl,R2.out,C2.out,Q2.out⟩
 | bad3 k1 rs1 t hs1 ht hsg _ _ hs2 =>
  have HT:=hide ht
  have HSG:=hide hsg
  clear ht hsg
  have HS2:=hide hs2
  clear hs2
  have HS1:=hide hs1
  clear hs1
  go_enter Tryz.func71,Tryz.ntmps71
  go_wp2_with fail
  refine (aside_any w q b g tv uv l vs L HE.out false true rs rs1 i k1 HS1.out av HA.out HR.out H.out).mono ?_
  rintro e w1 ⟨rfl,r1,r2,r3⟩
  have R1:=hide r1
  have C1:=hide r2
  have Q1:=hide r3
  clear r1 r2 r3
  have K:=asign_any w1 q b tv uv l vs k1 t R1.out HT.out sEq (fun h3=>HE.out.wf.more HT.out (by rw [h3];decide)) HE.out.wf.len
  rw [HSG.out] at K
  unfold sEq at K
  have K:=hide K
  go_wp2_with fail
  refine K.out.mono ?_
  rintro e w2 ⟨rfl,s1,s2⟩
  have R2:=hide s1
  have C2:=hide (C1.out.trans s2.wide)
  have Q2:=hide (Q1.out.rc s2 HE.out.gq (fun e=>HE.out.qb e.symm))
  clear s1 s2 K
  rw [if_pos trivial] at R2
  have HE2:=hide (HE.out.rc H.out HR.out C2.out)
  go_wp2_with fail
  refine (turned_any w2 av q b g false (HA.out.rc C2.out) (lt_of_heap R2.out.blk) (lt_of_heap Q2.out.row.choose_spec.2.1)).mono ?_
  rintro e w3 ⟨u3,rfl,ha3,hb3⟩
  have HA3:=hide ha3
  have R3:=hide (R2.out.below hb3)
  have C3:=hide (C2.out.trans (.of_below hb3))
  have Q3:=hide (Q2.out.below hb3)
  have HE3:=hide (HE2.out.rc R2.out Q2.out (.of_below hb3))
  clear ha3 hb3
  go_wp2_with fail
  refine (aside_any w3 q b g tv uv l vs L HE3.out true false rs1 rs' (k1+1) k HS2.out u3 HA3.out Q3.out R3.out).mono ?_
  rintro e w4 ⟨rfl,r1,r2,r3⟩
  have R4:=hide r1
  have C4:=hide (C3.out.trans r2)
  have QE4:=hide r3
  clear r1 r2 r3
  go_wp2
  refine bodyPost_ret (v:=_) (by simp [results,Tryz.results71,go_sem];try rfl) rfl ⟨rfl,R4.out,C4.out,QE4.out⟩
 | bad4 k1 rs1 t hs1 ht hsg _ _ hs2 t2 ht2 hk =>
  have HT:=hide ht
  have HSG:=hide hsg
  clear ht hsg
  have HS2:=hide hs2
  have HT2:=hide ht2
  have HK:=hide hk
  clear hs2 ht2 hk
  have HS1:=hide hs1
  clear hs1
  go_enter Tryz.func71,Tryz.ntmps71
  go_wp2_with fail
  refine (aside_any w q b g tv uv l vs L HE.out false true rs rs1 i k1 HS1.out av HA.out HR.out H.out).mono ?_
  rintro e w1 ⟨rfl,r1,r2,r3⟩
  have R1:=hide r1
  have C1:=hide r2
  have Q1:=hide r3
  clear r1 r2 r3
  have K:=asign_any w1 q b tv uv l vs k1 t R1.out HT.out sEq (fun h3=>HE.out.wf.more HT.out (by rw [h3];decide)) HE.out.wf.len
  rw [HSG.out] at K
  unfold sEq at K
  have K:=hide K
  go_wp2_with fail
  refine K.out.mono ?_
  rintro e w2 ⟨rfl,s1,s2⟩
  have R2:=hide s1
  have C2:=hide (C1.out.trans s2.wide)
  have Q2:=hide (Q1.out.rc s2 HE.out.gq (fun e=>HE.out.qb e.symm))
  clear s1 s2 K
  rw [if_pos trivial] at R2
  have HE2:=hide (HE.out.rc H.out HR.out C2.out)
  go_wp2_with fail
  refine (turned_any w2 av q b g false (HA.out.rc C2.out) (lt_of_heap R2.out.blk) (lt_of_heap Q2.out.row.choose_spec.2.1)).mono ?_
  rintro e w3 ⟨u3,rfl,ha3,hb3⟩
  have HA3:=hide ha3
  have R3:=hide (R2.out.below hb3)
  have C3:=hide (C2.out.trans (.of_below hb3))
  have Q3:=hide (Q2.out.below hb3)
  have HE3:=hide (HE2.out.rc R2.out Q2.out (.of_below hb3))
  clear ha3 hb3
  go_wp2_with fail
  refine (aside_any w3 q b g tv uv l vs L HE3.out true true rs1 rs' (k1+1) k HS2.out u3 HA3.out Q3.out R3.out).mono ?_
  rintro e w4 ⟨rfl,r1,r2,r3⟩
  have R4:=hide r1
  have C4:=hide (C3.out.trans r2)
  have QE4:=hide r3
  clear r1 r2 r3
  have hf0:∀ W,(Instr.field 113 (.agg #[.int .i64 t2.kind,.string t2.text,.int .i64 t2.pl.b,.int .i64 t2.pl.g,.int .i64 t2.pl.l,.int .i64 t2.pl.c]) 0).run Tryz.prog W=.ok (.int .i64 t2.kind) W:=fun W=>tk_f0 _ _ _ _ _ _ W
  go_wp2_with fail
  refine (atoken_any w4 q b tv uv l vs k t2 R4.out HT2.out).mono ?_
  rintro e w5 ⟨rfl,hb5⟩
  have R5:=hide (R4.out.below hb5)
  have C5:=hide (C4.out.trans (.of_below hb5))
  have Q5:=hide (QE4.out.below hb5)
  unfold Tk.av
  clear hb5
  have hk0:(t2.kind == 0)=false:=beq_eq_false_iff_ne.2 HK.out
  go_wp2
  refine bodyPost_ret (v:=_) (by simp [results,Tryz.results71,go_sem];try rfl) rfl ⟨rfl,R5.out,C5.out,Q5.out⟩
 | good k1 rs1 t hs1 ht hsg _ _ hs2 t2 ht2 hk =>
  have HT:=hide ht
  have HSG:=hide hsg
  clear ht hsg
  have HS2:=hide hs2
  have HT2:=hide ht2
  have HK:=hide hk
  clear hs2 ht2 hk
  have HS1:=hide hs1
  clear hs1
  go_enter Tryz.func71,Tryz.ntmps71
  go_wp2_with fail
  refine (aside_any w q b g tv uv l vs L HE.out false true rs rs1 i k1 HS1.out av HA.out HR.out H.out).mono ?_
  rintro e w1 ⟨rfl,r1,r2,r3⟩
  have R1:=hide r1
  have C1:=hide r2
  have Q1:=hide r3
  clear r1 r2 r3
  have K:=asign_any w1 q b tv uv l vs k1 t R1.out HT.out sEq (fun h3=>HE.out.wf.more HT.out (by rw [h3];decide)) HE.out.wf.len
  rw [HSG.out] at K
  unfold sEq at K
  have K:=hide K
  go_wp2_with fail
  refine K.out.mono ?_
  rintro e w2 ⟨rfl,s1,s2⟩
  have R2:=hide s1
  have C2:=hide (C1.out.trans s2.wide)
  have Q2:=hide (Q1.out.rc s2 HE.out.gq (fun e=>HE.out.qb e.symm))
  clear s1 s2 K
  rw [if_pos trivial] at R2
  have HE2:=hide (HE.out.rc H.out HR.out C2.out)
  go_wp2_with fail
  refine (turned_any w2 av q b g false (HA.out.rc C2.out) (lt_of_heap R2.out.blk) (lt_of_heap Q2.out.row.choose_spec.2.1)).mono ?_
  rintro e w3 ⟨u3,rfl,ha3,hb3⟩
  have HA3:=hide ha3
  have R3:=hide (R2.out.below hb3)
  have C3:=hide (C2.out.trans (.of_below hb3))
  have Q3:=hide (Q2.out.below hb3)
  have HE3:=hide (HE2.out.rc R2.out Q2.out (.of_below hb3))
  clear ha3 hb3
  go_wp2_with fail
  refine (aside_any w3 q b g tv uv l vs L HE3.out true true rs1 rs' (k1+1) k HS2.out u3 HA3.out Q3.out R3.out).mono ?_
  rintro e w4 ⟨rfl,r1,r2,r3⟩
  have R4:=hide r1
  have C4:=hide (C3.out.trans r2)
  have QE4:=hide r3
  clear r1 r2 r3
  have hf0:∀ W,(Instr.field 113 (.agg #[.int .i64 t2.kind,.string t2.text,.int .i64 t2.pl.b,.int .i64 t2.pl.g,.int .i64 t2.pl.l,.int .i64 t2.pl.c]) 0).run Tryz.prog W=.ok (.int .i64 t2.kind) W:=fun W=>tk_f0 _ _ _ _ _ _ W
  go_wp2_with fail
  refine (atoken_any w4 q b tv uv l vs k t2 R4.out HT2.out).mono ?_
  rintro e w5 ⟨rfl,hb5⟩
  have R5:=hide (R4.out.below hb5)
  have C5:=hide (C4.out.trans (.of_below hb5))
  have Q5:=hide (QE4.out.below hb5)
  unfold Tk.av
  clear hb5
  have hk0:(t2.kind == 0)=true:=beq_iff_eq.2 HK.out
  go_wp2
  refine bodyPost_ret (v:=_) (by simp [results,Tryz.results71,go_sem];try rfl) rfl ⟨rfl,R5.out,C5.out,Q5.out⟩
end Lm
end Go.Proofs.YtaofpigilgapgaaGreatDoor

namespace Go.Proofs.YtaofpigilgapgaaGreatDoor
namespace Lm
open Go Go.RowKit
theorem dropW_le (p:Gl→Bool) (l:List Gl):(l.dropWhile p).length≤l.length:=by
 induction l with
 | nil=>simp
 | cons x l ih =>
  simp only [List.dropWhile_cons]
  split
  ·simp only [List.length_cons];omega
  ·exact Nat.le_refl _
theorem tokR_rest {s:ByteArray} {e:Pl} {g:Gl} {r:List Gl} {k:Int} {x:ByteArray} {t:List Gl} (h:TokR s e g r (.ok k x t)):t.length≤r.length∧k≠0:=by
 unfold TokR at h
 split at h
 ·next h2 =>
  split at h
  ·cases h
  ·injection h with h1 h3 h4
   subst h1 h4
   refine ⟨?_,by decide⟩
   rw [List.dropWhile_cons,if_pos (by simp [inC,h2])]
   exact dropW_le _ _
 ·split at h
  ·next h2 =>
   obtain ⟨n,ds,_,_,h⟩:=h
   split at h
   ·cases h
   ·injection h with h1 h3 h4
    subst h1 h4
    refine ⟨?_,by decide⟩
    rw [List.dropWhile_cons,if_pos (by simp [inC,h2])]
    exact dropW_le _ _
  ·split at h
   ·unfold signS at h
    split at h
    ·injection h with h1 h3 h4
     subst h1 h4
     exact ⟨Nat.le_refl _,by decide⟩
    ·split at h
     ·injection h with h1 h3 h4
      subst h1 h4
      exact ⟨Nat.le_refl _,by decide⟩
     ·split at h
      ·cases r with
       | nil=>cases h
       | cons y r =>
        simp only at h
        split at h
        ·injection h with h1 h3 h4
         subst h1 h4
         exact ⟨by simp,by decide⟩
        ·cases h
      ·injection h with h1 h3 h4
       subst h1 h4
       exact ⟨Nat.le_refl _,by decide⟩
   ·cases h
theorem scanR_wf {s:ByteArray} {e:Pl} {r:List Gl} {o:SO} (h:ScanR s e r o):∀ l,o=.ok l→l.length≤r.length+1∧0<l.length∧∀ (i:Nat) (t:Tk),l[i]? = some t→i+1=l.length→t.kind=0∧t.text=⟨#[]⟩:=by
 induction h with
 | done r h hb =>
  intro l hl
  injection hl with hl
  subst hl
  refine ⟨by simp,by simp,fun i t ht hi=>?_⟩
  have:i=0:=by simpa using hi
  subst this
  simp at ht
  subst ht
  exact ⟨rfl,rfl⟩
 | rune r h hb=>intro l hl;cases hl
 | bad r g t k h ht=>intro l hl;cases hl
 | tok r g t kind text rest o h ht hr ih =>
  intro l hl
  cases o with
  | bad k p=>cases hl
  | ok l' =>
   injection hl with hl
   subst hl
   obtain ⟨i1,i0,i2⟩:=ih l' rfl
   have h1:=(tokR_rest ht).1
   obtain ⟨j,hj,hd⟩:=skp_drop false r
   have h2:t.length+1≤r.length:=by
    have:(g :: t).length=r.length - j:=by rw [←h,hd,List.length_drop]
    simp at this
    omega
   refine ⟨by simp only [List.length_cons];omega,by simp,fun i u hu hi=>?_⟩
   cases i with
   | zero=>simp only [List.length_cons] at hi;omega
   | succ i=>exact i2 i u (by simpa using hu) (by simp only [List.length_cons] at hi;omega)
theorem wf_of_scan {s:ByteArray} {e:Pl} {gs:List Gl} {l:List Tk} (hs:s.size≤4096) (hQ:Snd s pl0 gs e) (hR:ScanR s e gs (.ok l)):Wf l∧0<l.length:=by
 obtain ⟨h1,h0,h2⟩:=scanR_wf hR l rfl
 have h3:=hQ.ends pl0_ok (Nat.zero_le _)
 have:pl0.b=0:=rfl
 exact ⟨⟨by omega,h2⟩,h0⟩
end Lm
end Go.Proofs.YtaofpigilgapgaaGreatDoor

namespace Go.Proofs.YtaofpigilgapgaaGreatDoor
namespace Lm
open Go Go.RowKit
theorem res_ttp {fn:Func} {a:Act} {w:World} {k k' m g:Nat} {v v' x0 x1 x2 x3:Value} (hr:fn.results = #[.tmp k,.tmp k',.cell m 51]) (h1:a.eval (.tmp k)=v) (h2:a.eval (.tmp k')=v') (h3:a.eval (.tmp m)=.pointer (some ⟨g,0,none⟩)) (hh:w.heap[g]? = some (.cells #[x0,x1,x2,x3] 51 (0,0))):(results fn a.tmps).run Tryz.prog w=.ok (.tuple #[v,v',.agg #[x0,x1,x2,x3]]) w:=by
 have e1:a.tmps[k]?.getD undef=v:=by simpa [Act.eval] using h1
 have e2:a.tmps[k']?.getD undef=v' := by simpa [Act.eval] using h2
 have e3:a.tmps[m]?.getD undef=.pointer (some ⟨g,0,none⟩):=by simpa [Act.eval] using h3
 have c0:w.cell? ⟨g,0,none⟩ = some x0:=by rw [cell_of_row _ _ _ _ _ (0,0) hh];rfl
 have c1:w.cell? ⟨g,1,none⟩ = some x1:=by rw [cell_of_row _ _ _ _ _ (0,0) hh];rfl
 have c2:w.cell? ⟨g,2,none⟩ = some x2:=by rw [cell_of_row _ _ _ _ _ (0,0) hh];rfl
 have c3:w.cell? ⟨g,3,none⟩ = some x3:=by rw [cell_of_row _ _ _ _ _ (0,0) hh];rfl
 simp [results,hr,e1,e2,e3,go_sem,c0,c1,c2,c3,asAddr]
theorem set_p4 {W:World} {f:Nat} {x y z t:Value} {T:TypeId} (h:W.heap[f]? = some (.cells #[x,y,z,t] T (0,0))) (a b c d:Value):((((W.setCell ⟨f,0,none⟩ a).setCell ⟨f,1,none⟩ b).setCell ⟨f,2,none⟩ c).setCell ⟨f,3,none⟩ d).heap[f]? = some (.cells #[a,b,c,d] T (0,0)):=by
 have s1:=heap_setCell_same W f 0 _ _ a h
 have s2:=heap_setCell_same _ f 1 _ _ b s1
 have s3:=heap_setCell_same _ f 2 _ _ c s2
 have s4:=heap_setCell_same _ f 3 _ _ d s3
 rw [s4]
 simp
theorem ru_p4 {W:World} {f:Nat} {x y z t:Int} (h:W.heap[f]? = some (.cells #[.int .i64 x,.int .i64 y,.int .i64 z,.int .i64 t] 51 (0,0))) (a b c d:Value):Ru W ((((W.setCell ⟨f,0,none⟩ a).setCell ⟨f,1,none⟩ b).setCell ⟨f,2,none⟩ c).setCell ⟨f,3,none⟩ d):=by
 refine Ru.of_one h (by decide) ?_ (by simp [World.setCell]) (fun k _ hn=>by rw [heap_setCell_other _ ⟨f,3,none⟩ k _ hn,heap_setCell_other _ ⟨f,2,none⟩ k _ hn,heap_setCell_other _ ⟨f,1,none⟩ k _ hn,heap_setCell_other _ ⟨f,0,none⟩ k _ hn])
 intro i z
 match i with
 | 0=>simp
 | 1=>simp
 | 2=>simp
 | 3=>simp
 | i+4=>simp
theorem four_cells {W:World} {f:Nat} {x y z t:Value} {T:TypeId} (h:W.heap[f]? = some (.cells #[x,y,z,t] T (0,0))):f<W.heap.size∧W.cell? ⟨f,0,none⟩ = some x∧W.cell? ⟨f,1,none⟩ = some y∧W.cell? ⟨f,2,none⟩ = some z∧W.cell? ⟨f,3,none⟩ = some t∧W.frozen? ⟨f,0,none⟩ = false∧W.frozen? ⟨f,1,none⟩ = false∧W.frozen? ⟨f,2,none⟩ = false∧W.frozen? ⟨f,3,none⟩ = false:=⟨lt_of_heap h,by rw [cell_of_row _ _ _ _ _ (0,0) h];rfl,by rw [cell_of_row _ _ _ _ _ (0,0) h];rfl,by rw [cell_of_row _ _ _ _ _ (0,0) h];rfl,by rw [cell_of_row _ _ _ _ _ (0,0) h];rfl,frozen_of_row _ _ _ _ _ h,frozen_of_row _ _ _ _ _ h,frozen_of_row _ _ _ _ _ h,frozen_of_row _ _ _ _ _ h⟩
theorem rq_start {w:World} {g b n:Nat} {L:Nat} (hg:w.heap[g]? = some (.cells #[.slice (some ⟨b,0,none⟩) n n] 34 (0,0))) (hb:w.heap[b]? = some (.cells (rf3 (List.replicate n ⟨false,none,0,0,none,0,0⟩)).toArray 89 (0,0))) (hne:g≠b):RQ w g b (List.replicate n 0) L:=by
 refine ⟨by simpa using hg,⟨_,by simp,hb,fun i e r he hr=>?_⟩,hne⟩
 obtain rfl:=List.eq_of_mem_replicate (List.mem_of_getElem? he)
 obtain rfl:=List.eq_of_mem_replicate (List.mem_of_getElem? hr)
 exact ⟨0,0,⟨_,_,_,_,[],_,_,_,[],rfl,⟨sl_nil w,rfl⟩,sl_nil w,rfl,by simp,by simp⟩,Rat.divInt_zero 0⟩
set_option maxRecDepth 20000 in
set_option maxHeartbeats 8000000 in
theorem equation_good (w:World) (hT:Tabs w) (s:ByteArray) (hs:s.size≤4096) (v:Value) (vs:List ByteArray) (hv:Strs w v vs) (hN:NmsOk vs) (gs:List Gl) (e:Pl) (l:List Tk) (hQ:Snd s pl0 gs e) (hR:ScanR s e gs (.ok l)) (L M:Nat) (hL:L≤10000) (hL1:1≤L) (hM:M≤100000) (k:Nat) (rs:List Rat) (hE:EqR l vs L 0 (List.replicate (vs.length+1) 0) true k rs) (hrl:rs.length=vs.length+1) (hC:∀ k,k≤rs.length→((comR (rs.take k)).natAbs:Int)<pw M) (hD:∀ z ∈ clr rs,(z.natAbs:Int)<pw M) (hnov:(⟨#[]⟩:ByteArray) ∉ vs) :
  Calls Tryz.prog 27 #[.string s,v] w fun r w'=>Below w.heap.size w w'∧(((∀ z ∈ canonZ rs,(z.natAbs:Int)<pw 32)∧∃ x,r=.returned (.tuple #[x,.int .i64 0,.agg #[.int .i64 0,.int .i64 0,.int .i64 0,.int .i64 0]])∧ORow w.heap.size w' x (canonZ rs) M)∨((∃ z ∈ canonZ rs,¬ (z.natAbs:Int)<pw 32)∧r=.returned (.tuple #[.slice none 0 0,.int .i64 2,.agg #[.int .i64 0,.int .i64 0,.int .i64 0,.int .i64 0]]))):=by
 obtain ⟨av,cv,rfl,_⟩:=id hv
 have hvl:vs.length≤16:=hN.1
 have hb0:Below w.heap.size w (w.alloc (.cells #[.int .i64 0,.int .i64 0,.int .i64 0,.int .i64 0] 51)):=hAl _ _
 have K:=names_any _ (hT.below hb0) _ vs (hv.below hb0)
 rw [show nmsE vs=0 from if_pos hN] at K
 have K:=hide K
 have HT:=hide hT
 have HV:=hide hv
 have HQ:=hide hQ
 have HR:=hide hR
 have HE:=hide hE
 have HC:=hide (And.intro hC hD)
 have HRL:=hide hrl
 obtain ⟨hWf,hl0⟩:=wf_of_scan hs hQ hR
 have HWf:=hide hWf
 have HNV:=hide hnov
 obtain ⟨iR,hi,hz0,hz1,hz2⟩:=info_parts infoRz
 clear hT hv hQ hR hE hC hD hrl hWf hnov hN
 go_enter Tryz.func27,Tryz.ntmps27
 go_wp2_with fail
 refine K.out.mono ?_
 rintro r w1 ⟨rfl,hb1⟩
 have hb1' := hb0.trans (hb1.mono hb0.size)
 have hf6:w1.heap[w.heap.size]? = some (.cells #[.int .i64 0,.int .i64 0,.int .i64 0,.int .i64 0] 51 (0,0)):=(hb1.block _ (by simp)).trans (heap_alloc_new w _)
 clear K hb0 hb1
 go_wp2_with fail
 refine (scan_short w1 s (HT.out.below hb1') hs).mono ?_
 rintro r w2 ⟨hb2,gs',e',o,s1,s2,s3⟩
 obtain ⟨rfl,rfl⟩:=s1.one HQ.out
 obtain rfl:=s2.one HR.out
 obtain ⟨tv,rfl,hown⟩:=s3
 have hts:Ts w2 tv l:=Ts.own hown
 have hb2' := hb1'.trans (hb2.mono hb1'.size)
 have hf62:=(hb2.block _ (lt_of_heap hf6)).trans hf6
 have hbA:=hAl w2 (.cells #[.int .i64 0,.int .i64 0,.int .i64 0,.int .i64 0] 51)
 have hb3:=hb2'.trans (hbA.mono hb2'.size)
 obtain ⟨at_,ct,rfl,_⟩:=hts.parts
 have HTS:=hide (hts.below hbA)
 have HF6:=hide (alloc_keep (o' := .cells #[.int .i64 0,.int .i64 0,.int .i64 0,.int .i64 0] 51) hf62)
 have HB3:=hide hb3
 have hlt2:w.heap.size<w2.heap.size:=lt_of_heap hf62
 have hT2:w2.ownsRow w1.heap.size 113 6 (.slice at_ l.length ct) l.length (tflat l):=hown
 have HOWN:=hide hT2
 unfold Pl.v plz
 clear hb1' hb2 hb2' hf6 hf62 s1 s2 hown hts hT2
 go_wp2_with (refine wpList_make_full _ rfl (.tmp 36) (.tmp 36) 34 rfl w.heap.size 89 iR (.agg #[.bool false,.slice none 0 0,.slice none 0 0]) 3 Tryz.underlying34 hi hz0 hz1 .i64 .i64 _ _ (vs.length+1) rfl rfl (by omega) (by omega) (by rw [hz2];omega) (by unfold maxLen;omega) HB3.out.size ?hK)
 case hK =>
  intro w4 hown hgrow
  have hb4:=(Below.refl _ _).grown hgrow (Nat.le_refl _) (by simp)
  obtain ⟨_,hmb⟩:=made_block hown
  rw [made_three] at hmb
  have hsz4:(w2.alloc (.cells #[.int .i64 0,.int .i64 0,.int .i64 0,.int .i64 0] 51)).heap.size=w2.heap.size+1:=by simp
  have hbl4:w2.heap.size+1<w4.heap.size:=lt_of_heap hmb
  generalize hW5:w4.alloc (.cells #[.slice (some ⟨w2.heap.size+1,0,none⟩) (vs.length+1) (vs.length+1)] 34)=w5
  have hb45:Below w4.heap.size w4 w5:=by rw [←hW5];exact hAl _ _
  have hg5:w5.heap[w4.heap.size]? = some (.cells #[.slice (some ⟨w2.heap.size+1,0,none⟩) (vs.length+1) (vs.length+1)] 34 (0,0)):=by rw [←hW5];exact heap_alloc_new _ _
  have hs5:w5.heap.size=w4.heap.size+1:=by rw [←hW5];simp
  generalize hW6:w5.alloc (.cells #[.slice at_ l.length ct,.int .i64 0,.slice av vs.length cv] 119)=w6
  have hb56:Below w5.heap.size w5 w6:=by rw [←hW6];exact hAl _ _
  have hq6:w6.heap[w4.heap.size+1]? = some (.cells #[.slice at_ l.length ct,.int .i64 ((0:Nat):Int),.slice av vs.length cv] 119 (0,0)):=by rw [←hW6,←hs5];exact heap_alloc_new _ _
  have hb46:=hb45.trans (hb56.mono hb45.size)
  have hb36:=hb4.trans (hb46.mono hb4.size)
  have hb06:Below w.heap.size w w6:=HB3.out.trans (hb36.mono HB3.out.size)
  have hRQ:RQ w6 w4.heap.size (w2.heap.size+1) (List.replicate (vs.length+1) 0) L:=by
   refine rq_start ((hb56.block _ (lt_of_heap hg5)).trans hg5) ((hb46.block _ (lt_of_heap hmb)).trans hmb) (by omega)
  have hsw:w.heap.size≤w2.heap.size+1:=by have:=HB3.out.size;omega
  have hRE:Rea w6 (w4.heap.size+1) (w2.heap.size+1) (.slice at_ l.length ct) (.slice av vs.length cv) l vs 0:=by
   refine ⟨hq6,HTS.out.below hb36,HV.out.below hb06,hl0,?_,?_⟩
   ·rintro _ b' off n c hv'
    have hts2:Ts w2 (.slice at_ l.length ct) l:=Ts.own HOWN.out
    obtain ⟨ao',cap',e1,_,_,_,e4⟩:=hts2
    rcases e4 with e4 | ⟨b2,off2,e4,hl2,_⟩
    ·omega
    ·rw [e4] at e1
     have e5:=hv'.symm.trans e1
     simp only [Value.slice.injEq,Option.some.injEq,Addr.mk.injEq] at e5
     omega
   ·rintro hp b' off n c hv'
    obtain ⟨ao',cap',e1,_,_,_,e4⟩:=HV.out
    rcases e4 with e4 | ⟨b2,off2,e4,hl2,_⟩
    ·omega
    ·rw [e4] at e1
     have e5:=hv'.symm.trans e1
     simp only [Value.slice.injEq,Option.some.injEq,Addr.mk.injEq] at e5
     omega
  have hEnv:Env w6 (w4.heap.size+1) (w2.heap.size+1) w4.heap.size (.slice at_ l.length ct) (.slice av vs.length cv) l vs L:=⟨HT.out.below hb06,HWf.out,HNV.out,hL,hL1,by omega,by omega⟩
  have KE:=hide (aequation_any w6 _ _ _ _ _ l vs L hEnv true _ rs 0 k HE.out _ .base hRQ hRE)
  have HF66:=hide ((hb36.block _ (lt_of_heap HF6.out)).trans HF6.out)
  have HB06:=hide hb06
  have hgl:w4.heap.size<w6.heap.size:=by have:=hb56.size;omega
  have HRQ:=hide hRQ
  have HW5:=hide hW5
  have HW6:=hide hW6
  clear hW5 hW6 hRQ hRE hEnv hb36 hb06 hb46 hb45 hb56 hb4 hmb hown hgrow hg5 hq6
  go_wp2_with fail
  rw [HW5.out,HW6.out]
  refine KE.out.mono ?_
  rintro r w7 ⟨rfl,_,hrc,hrq⟩
  have hb07:Below w.heap.size w w7:=HB06.out.trans (hrc.below HB06.out.size (by omega) hsw)
  have hf67:=(hrc.other _ (lt_of_heap HF66.out) (by omega) (by omega)).trans HF66.out
  have hsl:=hrq.slot
  have HIS:=hide (hrq.row_is (by rw [HRL.out];omega))
  rw [HRL.out] at hsl HIS
  have sg0:w7.cell? ⟨w4.heap.size,0,none⟩ = some (.slice (some ⟨w2.heap.size+1,0,none⟩) (vs.length+1) (vs.length+1)):=by rw [cell_of_row _ _ _ _ _ (0,0) hsl];rfl
  have HF67:=hide hf67
  have HB07:=hide hb07
  clear hrc hrq hb07 hf67 hsl KE
  go_wp2_with fail
  refine (canon_any w7 _ rs L M HIS.out hL hL1 hM (by rw [HRL.out];omega) HC.out.1 HC.out.2 (by intro h;have:=HRL.out;rw [h] at this;simp at this)).mono ?_
  rintro r w8 ⟨hb8,⟨hsm,x,rfl,hor⟩ | ⟨hbig,rfl⟩⟩
  ·have hf68:=(hb8.block _ (lt_of_heap HF67.out)).trans HF67.out
   have HF68:=hide hf68
   have HB8:=hide (HB07.out.trans (hb8.mono HB07.out.size))
   obtain ⟨bv,rfl,hbv⟩:=id hor
   have HOR:=hide hor
   have HSM:=hide hsm
   have h78:=HB07.out.size
   obtain ⟨hfl,c0,c1,c2,c3,f0,f1,f2,f3⟩:=four_cells hf68
   clear hb8 hf68 hor hsm sg0
   go_wp2
   refine bodyPost_ret (v:=.tuple #[.slice (some ⟨bv,0,none⟩) (canonZ rs).length (canonZ rs).length,.int .i64 0,.agg #[.int .i64 0,.int .i64 0,.int .i64 0,.int .i64 0]]) (res_ttp (g:=w.heap.size) rfl rfl rfl rfl (set_p4 HF68.out _ _ _ _)) rfl ⟨?_,.inl ⟨HSM.out,_,rfl,?_⟩⟩
   ·exact (((HB8.out.setCell (Nat.le_refl _) _).setCell (Nat.le_refl _) _).setCell (Nat.le_refl _) _).setCell (Nat.le_refl _) _
   ·obtain ⟨bv',e1,e2,e3,e4⟩:=HOR.out
    have hbb:bv≠w.heap.size:=by have:=hbv.1;have:=lt_of_heap HF67.out;omega
    obtain rfl:bv' = bv:=by
     simp only [Value.slice.injEq,Option.some.injEq,Addr.mk.injEq] at e1
     exact e1.1.1.symm
    refine ⟨bv',rfl,by omega,(PRow.low e3 h78).ru (ru_p4 HF68.out _ _ _ _) ?_,e4⟩
    rw [heap_setCell_other _ ⟨w.heap.size,3,none⟩ _ _ hbb,heap_setCell_other _ ⟨w.heap.size,2,none⟩ _ _ hbb,heap_setCell_other _ ⟨w.heap.size,1,none⟩ _ _ hbb,heap_setCell_other _ ⟨w.heap.size,0,none⟩ _ _ hbb]
  ·have hf68:=(hb8.block _ (lt_of_heap HF67.out)).trans HF67.out
   have HF68:=hide hf68
   have HB8:=hide (HB07.out.trans (hb8.mono HB07.out.size))
   have HBG:=hide hbig
   obtain ⟨hfl,c0,c1,c2,c3,f0,f1,f2,f3⟩:=four_cells hf68
   clear hb8 hf68 hbig sg0
   go_wp2
   refine bodyPost_ret (v:=.tuple #[.slice none 0 0,.int .i64 2,.agg #[.int .i64 0,.int .i64 0,.int .i64 0,.int .i64 0]]) (res_ttp (g:=w.heap.size) rfl rfl rfl rfl (set_p4 HF68.out _ _ _ _)) rfl ⟨?_,.inr ⟨HBG.out,rfl⟩⟩
   exact (((HB8.out.setCell (Nat.le_refl _) _).setCell (Nat.le_refl _) _).setCell (Nat.le_refl _) _).setCell (Nat.le_refl _) _
end Lm
end Go.Proofs.YtaofpigilgapgaaGreatDoor

namespace Go.Proofs.YtaofpigilgapgaaGreatDoor
namespace Lm
open Go Go.RowKit
theorem has_ofB:Has Tryz.prog 49:=by unfold Has;kernel_rfl
theorem has_cmpB:Has Tryz.prog 48:=by unfold Has;kernel_rfl
theorem bldAt_keep {B b:Nat} {p:Value} {bs:List Value} {W W' : World} (h:Lib.BuilderAtF 173 5 B b p bs W) (hk:Below W.heap.size W W'):Lib.BuilderAtF 173 5 B b p bs W' := by
 have hlt:=h.lt
 obtain ⟨h1,v,h2,h3,h4⟩:=h
 have hg:W.grownBy W' none:=⟨hk.os,hk.tape,hk.output,hk.size,fun k h _=>hk.block k h⟩
 exact ⟨h1,v,(hk.block b hlt).trans h2,h3.kept (row:=none) hg (Classical.em _),h4⟩
theorem Bld.keep {W W' : World} {B b:Nat} {l:List UInt8} (h:Bld W B b l) (hk:Below W.heap.size W W'):Bld W' B b l:=by
 rcases h with h | h
 ·exact .inl (bldAt_keep h hk)
 ·exact .inr (bldAt_keep h hk)
theorem mag_is {z:Int} {L:Nat} {w:World} {ng:Bool} {a:Option Addr} {n c:Nat} (h:IsW z L (.agg #[.bool ng,.slice a n c]) w):IsW (z.natAbs:Int) L (.agg #[.bool false,.slice a n c]) w:=by
 obtain ⟨ng',ao,n',cap,xs,hv,hA,hl⟩:=h
 simp only [Value.agg.injEq,Array.mk.injEq,List.cons.injEq,Value.bool.injEq,Value.slice.injEq,and_true] at hv
 obtain ⟨rfl,rfl,rfl,rfl⟩:=hv
 refine ⟨_,_,_,_,_,rfl,⟨hA.sl,?_⟩,hl⟩
 obtain ⟨_,_,_,_,_,hb,_⟩:=hA.sl
 have h1:=val_bounds hb
 have h4:=hA.worth
 rw [←h4]
 show val xs = _
 cases ng
 ·simp only [sg];rw [if_neg (by decide)];omega
 ·simp only [sg];rw [if_pos trivial];omega
theorem cmp0 {a b:Int} (h:cmpI a b=0):a=b:=by
 unfold cmpI at h
 split at h
 ·omega
 ·split at h
  ·omega
  ·omega
theorem neq_dec (k:Int):(k != 0)=(!decide (k=0)):=by
 by_cases h:k=0 <;> simp [h]
set_option maxRecDepth 20000 in
set_option maxHeartbeats 8000000 in
theorem term_one (w:World) (z:Int) (L:Nat) (v:Value) (nm:ByteArray) (first:Bool) (hv:IsW z L v w) (hL:L≤100000) (hz:z=1) (hf:first=true) (hs:nm.size≤1000000) :
  Calls Tryz.prog 76 #[v,.string nm,.bool first] w fun e w'=>e=.returned (.string ⟨nm.data.toList.toArray⟩)∧Below w.heap.size w w' := by
 obtain ⟨ng,a,n,c,xs,rfl,_⟩:=id hv
 subst hf
 have hb0:=hAl w (.cells #[.bool ng,.slice a n c] 66)
 have HV:=hide hv
 have K:=signF _ z _ L (hv.ru (Ru.of_below hb0)) (by omega)
 rw [hz] at K
 have K:=hide K
 have HZ:=hide hz
 clear hv hz
 go_enter Tryz.func76,Tryz.ntmps76
 go_wp2_with fail
 refine K.out.mono ?_
 rintro e w1 ⟨rfl,hb1⟩
 have hx:w1.heap[w.heap.size]? = some (.cells #[.bool ng,.slice a n c] 66 (0,0)):=(hb1.block _ (by simp)).trans (heap_alloc_new w _)
 obtain ⟨hxl,x0,x1,_,_⟩:=two_cells hx
 have hb01:=hb0.trans (hb1.mono hb0.size)
 have hB:Bld (w1.alloc (.cells #[.pointer none,.slice none 0 0] 173)) w1.heap.size w1.heap.size []:=Lib.IsBuilderF.of (Lib.fresh_isBuilder 173 5 w1)
 have HB:=hide hB
 have HB01:=hide hb01
 clear hb0 hb1 hB K hx hb01
 go_wp2_with fail
 have hal2:=hAl (w1.alloc (.cells #[.pointer none,.slice none 0 0] 173)) (.cells #[.bool false,.slice a n c] 66)
 have hnw:=heap_alloc_new (w1.alloc (.cells #[.pointer none,.slice none 0 0] 173)) (.cells #[.bool false,.slice a n c] 66)
 rw [show (w1.alloc (.cells #[.pointer none,.slice none 0 0] 173)).heap.size=w1.heap.size+1 by simp] at hnw
 have hb12:=(hAl w1 (.cells #[.pointer none,.slice none 0 0] 173)).trans (hal2.mono (hAl w1 _).size)
 have hB2:Bld _ w1.heap.size w1.heap.size []:=Lib.IsBuilderF.alloc HB.out (.cells #[.bool false,.slice a n c] 66)
 generalize ((w1.alloc (.cells #[.pointer none,.slice none 0 0] 173)).alloc (.cells #[.bool false,.slice a n c] 66))=w2 at *
 have hb02:=HB01.out.trans (hb12.mono HB01.out.size)
 generalize hf9:w1.heap.size+1=f9 at *
 have HB2:=hide hB2
 have hw12:=hb02.size
 have HM:=hide (mag_is (HV.out.ru (Ru.of_below hb02)))
 have HB02:=hide hb02
 obtain ⟨hnl,u0,u1,_,_⟩:=two_cells hnw
 have HNW:=hide hnw
 clear hal2 hnw hb12 hB2 hb02 x0 x1
 go_cut [34] (fun bv wx=>bv=.bool (!decide (cmpI (z.natAbs:Int) 1=0))∧Below w2.heap.size w2 wx)
 case first =>
  go_region_law (first | (refine step_call rfl 49 #[.const (.int .i64 1)] #[3] rfl has_ofB #[.int .i64 1] (by simp [Act.eval]) (wof_g _ 1 (by decide) (by decide)) ?_;rintro e w3 ⟨ng3,ao3,cap3,rs3,rfl,hw3,hl3,hb3⟩;have ho3:OutW 1 2 (.agg #[.bool ng3,.slice ao3 rs3.length cap3]) w3:=⟨_,_,_,_,rfl,hw3,hl3⟩;have HO3:=hide ho3;have hb23:Below w2.heap.size w2 w3:=(show Below w2.heap.size w2 _ by (repeat' first|with_reducible(first|exact Below.refl _ _|assumption|refine gdrewN ?_ _|refine Below.alloc ?_ ?_ _|refine Below.drew ?_|refine Below.setCell ?_ ?_ _)|go_size)).trans (hb3.mono (by simp));have HB23:=hide hb23;have u03:=(hb23.cell (p:=⟨f9,0,none⟩) hnl).trans u0;have u13:=(hb23.cell (p:=⟨f9,1,none⟩) hnl).trans u1;clear ho3 hb3 hb23 hw3 hl3;refine ⟨_,rfl,?_⟩) | (refine step_call rfl 48 #[.tmp 31,.tmp 32] #[66,66] rfl has_cmpB #[.agg #[.bool false,.slice a n c],.agg #[.bool ng3,.slice ao3 rs3.length cap3]] (by simp [Act.eval]) (cmpF _ (z.natAbs:Int) 1 _ _ L 2 (HM.out.ru (Ru.of_below HB23.out)) HO3.out.is (by omega) (by omega)) ?_;rintro e w4 ⟨rfl,hb4⟩;have HB24:=hide (HB23.out.trans (hb4.mono HB23.out.size));clear hb4;refine ⟨_,rfl,?_⟩))
  all_goals (
   go_wp2_with fail
   go_meet
   exact ⟨by rw [neq_dec],HB24.out⟩)
 case rest =>
  obtain ⟨rfl,hb5⟩:=hcut
  rw [show (!decide (cmpI (z.natAbs:Int) 1=0))=false by rw [HZ.out];rfl]
  have hB5:Bld wc w1.heap.size w1.heap.size []:=HB2.out.keep hb5
  have HB05:=hide (HB02.out.trans (hb5.mono HB02.out.size))
  have hsz5:w1.heap.size≤wc.heap.size:=by have:=hb5.size;omega
  have hs01:=HB01.out.size
  have K5:=hide (bwstr w1.heap.size w1.heap.size [] nm wc hB5 (by simp;omega) hsz5)
  clear hb5 hB5
  go_wp2_with fail
  refine K5.out.mono ?_
  rintro e w6 ⟨rfl,hB6,hb6,_⟩
  have HB06:=hide (HB05.out.trans (hb6.mono hs01))
  rw [List.nil_append] at hB6
  have K6:=hide (bstring w1.heap.size w1.heap.size nm.data.toList w6 hB6 (Nat.le_trans hsz5 hb6.size))
  clear hB6 hb6 K5
  go_wp2_with fail
  refine K6.out.mono ?_
  rintro e w7 ⟨rfl,hb7⟩
  have HB07:=hide (HB06.out.trans (hb7.mono hs01))
  clear hb7 K6
  go_wp2
  refine bodyPost_ret (v:=_) (by simp [results,Tryz.results76,go_sem];try rfl) rfl ⟨rfl,HB07.out⟩
set_option maxRecDepth 20000 in
set_option maxHeartbeats 8000000 in
theorem term_minus (w:World) (z:Int) (L:Nat) (v:Value) (nm:ByteArray) (first:Bool) (hv:IsW z L v w) (hL:L≤100000) (hz:z<0) (h1:z.natAbs≠1) (hdz:∀ ds,IsDec ds (z.natAbs:Int)→(strOfNums ds).size≤10000000) (hf:first=false) (hs:nm.size≤1000000) :
  Calls Tryz.prog 76 #[v,.string nm,.bool first] w fun e w'=>∃ ds,IsDec ds (z.natAbs:Int)∧e=.returned (.string ⟨(32 :: 45 :: 32 :: ((strOfNums ds).data.toList ++ 42 :: nm.data.toList)).toArray⟩)∧Below w.heap.size w w' := by
 obtain ⟨ng,a,n,c,xs,rfl,_⟩:=id hv
 subst hf
 have hb0:=hAl w (.cells #[.bool ng,.slice a n c] 66)
 have HV:=hide hv
 have K:=signF _ z _ L (hv.ru (Ru.of_below hb0)) (by omega)
 rw [Int.sign_eq_neg_one_of_neg hz] at K
 have K:=hide K
 have HZ:=hide hz
 have H1:=hide h1
 have HDZ:=hide hdz
 clear hv hz h1 hdz
 go_enter Tryz.func76,Tryz.ntmps76
 go_wp2_with fail
 refine K.out.mono ?_
 rintro e w1 ⟨rfl,hb1⟩
 have hx:w1.heap[w.heap.size]? = some (.cells #[.bool ng,.slice a n c] 66 (0,0)):=(hb1.block _ (by simp)).trans (heap_alloc_new w _)
 obtain ⟨hxl,x0,x1,_,_⟩:=two_cells hx
 have hb01:=hb0.trans (hb1.mono hb0.size)
 have hB:Bld (w1.alloc (.cells #[.pointer none,.slice none 0 0] 173)) w1.heap.size w1.heap.size []:=Lib.IsBuilderF.of (Lib.fresh_isBuilder 173 5 w1)
 have HB:=hide hB
 have HB01:=hide hb01
 clear hb0 hb1 hB K hx hb01
 go_wp2_with fail
 refine (bwstr w1.heap.size w1.heap.size [] ⟨#[32,45,32]⟩ _ HB.out (by simp;decide) (by simp)).mono ?_
 rintro e wa ⟨rfl,hBa,hba,_⟩
 rw [List.nil_append] at hBa
 have hb1a:Below w1.heap.size w1 wa:=(hAl w1 (.cells #[.pointer none,.slice none 0 0] 173)).trans hba
 have y0:=(hb1a.cell (p:=⟨w.heap.size,0,none⟩) hxl).trans x0
 have y1:=(hb1a.cell (p:=⟨w.heap.size,1,none⟩) hxl).trans x1
 have hxla:w.heap.size<wa.heap.size:=Nat.lt_of_lt_of_le hxl hb1a.size
 go_wp2_with fail
 have hal2:=hAl wa (.cells #[.bool false,.slice a n c] 66)
 have hnw:=heap_alloc_new wa (.cells #[.bool false,.slice a n c] 66)
 have hb12:=hb1a.trans (hal2.mono hb1a.size)
 have hB2:Bld _ w1.heap.size w1.heap.size [32,45,32]:=Lib.IsBuilderF.alloc hBa (.cells #[.bool false,.slice a n c] 66)
 generalize (wa.alloc (.cells #[.bool false,.slice a n c] 66))=w2 at *
 have hb02:=HB01.out.trans (hb12.mono HB01.out.size)
 have hsz2:=hb12.size
 generalize hf9:wa.heap.size=f9 at *
 have HB2:=hide hB2
 have hw12:=hb02.size
 have HM:=hide (mag_is (HV.out.ru (Ru.of_below hb02)))
 have HB02:=hide hb02
 obtain ⟨hnl,u0,u1,_,_⟩:=two_cells hnw
 have HNW:=hide hnw
 clear hal2 hnw hb12 hB2 hb02 x0 x1 y0 y1 hBa hba hb1a
 go_cut [34] (fun bv wx=>bv=.bool (!decide (cmpI (z.natAbs:Int) 1=0))∧Below w2.heap.size w2 wx)
 case first =>
  go_region_law (first | (refine step_call rfl 49 #[.const (.int .i64 1)] #[3] rfl has_ofB #[.int .i64 1] (by simp [Act.eval]) (wof_g _ 1 (by decide) (by decide)) ?_;rintro e w3 ⟨ng3,ao3,cap3,rs3,rfl,hw3,hl3,hb3⟩;have ho3:OutW 1 2 (.agg #[.bool ng3,.slice ao3 rs3.length cap3]) w3:=⟨_,_,_,_,rfl,hw3,hl3⟩;have HO3:=hide ho3;have hb23:Below w2.heap.size w2 w3:=(show Below w2.heap.size w2 _ by (repeat' first|with_reducible(first|exact Below.refl _ _|assumption|refine gdrewN ?_ _|refine Below.alloc ?_ ?_ _|refine Below.drew ?_|refine Below.setCell ?_ ?_ _)|go_size)).trans (hb3.mono (by simp));have HB23:=hide hb23;have u03:=(hb23.cell (p:=⟨f9,0,none⟩) hnl).trans u0;have u13:=(hb23.cell (p:=⟨f9,1,none⟩) hnl).trans u1;clear ho3 hb3 hb23 hw3 hl3;refine ⟨_,rfl,?_⟩) | (refine step_call rfl 48 #[.tmp 31,.tmp 32] #[66,66] rfl has_cmpB #[.agg #[.bool false,.slice a n c],.agg #[.bool ng3,.slice ao3 rs3.length cap3]] (by simp [Act.eval]) (cmpF _ (z.natAbs:Int) 1 _ _ L 2 (HM.out.ru (Ru.of_below HB23.out)) HO3.out.is (by omega) (by omega)) ?_;rintro e w4 ⟨rfl,hb4⟩;have HB24:=hide (HB23.out.trans (hb4.mono HB23.out.size));clear hb4;refine ⟨_,rfl,?_⟩))
  all_goals (
   go_wp2_with fail
   go_meet
   exact ⟨by rw [neq_dec],HB24.out⟩)
 case rest =>
  obtain ⟨rfl,hb5⟩:=hcut
  rw [show (!decide (cmpI (z.natAbs:Int) 1=0))=true by
   have hne:cmpI (z.natAbs:Int) 1≠0:=fun h=>H1.out (by have:=cmp0 h;omega)
   simp [hne]]
  have hB5:Bld wc w1.heap.size w1.heap.size [32,45,32]:=HB2.out.keep hb5
  have hnw5:=(hb5.block _ (lt_of_heap HNW.out)).trans HNW.out
  obtain ⟨hnl5,v0,v1,_,_⟩:=two_cells hnw5
  have HB05:=hide (HB02.out.trans (hb5.mono HB02.out.size))
  have hsz5:w1.heap.size≤wc.heap.size:=Nat.le_trans hsz2 hb5.size
  have hs01:=HB01.out.size
  have HM5:=hide (HM.out.ru (Ru.of_below hb5))
  have HBd5:=hide hB5
  clear hb5 hB5 hnw5
  obtain ⟨ngm,am,nm',cm,xm,hvm,hAm,hlm⟩:=HM5.out
  simp only [Value.agg.injEq,Array.mk.injEq,List.cons.injEq,Value.bool.injEq,Value.slice.injEq,and_true] at hvm
  obtain ⟨rfl,rfl,rfl,rfl⟩:=hvm
  have KT:=wtext_pos wc false a n c xm hAm.sl (by omega) (by rw [hAm.worth];omega)
  have hval:val xm=(z.natAbs:Int):=hAm.worth
  rw [hval] at KT
  have KT:=hide KT
  clear hAm hlm hval
  go_wp2_with fail
  refine KT.out.mono ?_
  rintro e w6 ⟨ds,rfl,hds,hb6⟩
  have HDS:=hide hds
  have HB06:=hide (HB05.out.trans (hb6.mono HB05.out.size))
  have hdl:(strOfNums ds).size≤10000000:=HDZ.out ds hds
  have K6:=hide (bwstr w1.heap.size w1.heap.size [32,45,32] (strOfNums ds) w6 (HBd5.out.keep hb6) (by simp;omega) (Nat.le_trans hsz5 hb6.size))
  have hsz6:=Nat.le_trans hsz5 hb6.size
  clear hds hb6 v0 v1 KT
  generalize hsd:(strOfNums ds)=sd at *
  have HSD:=hide hsd
  clear hsd
  go_wp2_with fail
  refine K6.out.mono ?_
  rintro e w7 ⟨rfl,hB7,hb7,_⟩
  have HB07:=hide (HB06.out.trans (hb7.mono hs01))
  have hsz7:=Nat.le_trans hsz6 hb7.size
  have hds7:sd.data.size≤10000000:=hdl
  have K7:=hide (bwstr w1.heap.size w1.heap.size _ ⟨#[42]⟩ w7 hB7 (by simp only [List.length_append,List.length_cons,List.length_nil,Array.length_toList];show _+1≤_;omega) hsz7)
  clear hB7 hb7 K6
  go_wp2_with fail
  refine K7.out.mono ?_
  rintro e w8 ⟨rfl,hB8,hb8,_⟩
  have HB08:=hide (HB07.out.trans (hb8.mono hs01))
  have hsz8:=Nat.le_trans hsz7 hb8.size
  have hnm8:nm.data.size≤1000000:=hs
  have K8:=hide (bwstr w1.heap.size w1.heap.size _ nm w8 hB8 (by simp only [List.length_append,List.length_cons,List.length_nil,Array.length_toList];omega) hsz8)
  clear hB8 hb8 K7
  go_wp2_with fail
  refine K8.out.mono ?_
  rintro e w9 ⟨rfl,hB9,hb9,_⟩
  have HB09:=hide (HB08.out.trans (hb9.mono hs01))
  have K9:=hide (bstring w1.heap.size w1.heap.size _ w9 hB9 (Nat.le_trans hsz8 hb9.size))
  clear hB9 hb9 K8
  go_wp2_with fail
  refine K9.out.mono ?_
  rintro e w10 ⟨rfl,hb10⟩
  have HB10:=hide (HB09.out.trans (hb10.mono hs01))
  clear hb10 K9
  go_wp2
  exact bodyPost_ret (v:=_) (res_t rfl rfl) rfl ⟨ds,HDS.out,by rw [HSD.out];rfl,HB10.out⟩
end Lm
end Go.Proofs.YtaofpigilgapgaaGreatDoor

namespace Go.Proofs.YtaofpigilgapgaaGreatDoor
namespace Lm
open Go Go.RowKit
theorem isDec2 {ds:List Int} (h:IsDec ds 2):ds = [50]:=isDec_one h ⟨by intro z hz;simp at hz;omega,by kernel_rfl,.inr ⟨50,[],rfl,by decide⟩⟩
theorem isDec3 {ds:List Int} (h:IsDec ds 3):ds = [51]:=isDec_one h ⟨by intro z hz;simp at hz;omega,by kernel_rfl,.inr ⟨51,[],rfl,by decide⟩⟩
theorem wtext_m3 (w:World) (v:Value) (L:Nat) (h:IsW (-3) L v w) (hL:L≤100000):Calls Tryz.prog 77 #[v] w fun e w'=>e=.returned (.string ⟨#[45,51]⟩)∧Below w.heap.size w w' := by
 obtain ⟨ng,a,n,c,xs,rfl,hA,hl⟩:=h
 refine (wtext_neg w ng a n c xs hA.sl (by omega) (by rw [hA.worth];decide)).mono ?_
 rintro e w' ⟨ds,rfl,hd,hb⟩
 have hv:val xs=3:=by
  obtain ⟨_,_,_,_,_,hb',_⟩:=hA.sl
  have h1:=val_bounds hb'
  have h4:=hA.worth
  cases ng
  ·simp only [sg] at h4;rw [if_neg (by decide)] at h4;omega
  ·simp only [sg] at h4;rw [if_pos trivial] at h4;omega
 rw [hv] at hd
 obtain rfl:=isDec3 hd
 exact ⟨by kernel_rfl,hb⟩
theorem term_x (w:World) (L:Nat) (v:Value) (hv:IsW 1 L v w) (hL:L≤100000):Calls Tryz.prog 76 #[v,.string ⟨#[120]⟩,.bool true] w fun e w'=>e=.returned (.string ⟨#[120]⟩)∧Below w.heap.size w w' :=
 term_one w 1 L v ⟨#[120]⟩ true hv hL rfl rfl (by decide)
theorem term_y (w:World) (L:Nat) (v:Value) (hv:IsW (-2) L v w) (hL:L≤100000):Calls Tryz.prog 76 #[v,.string ⟨#[121]⟩,.bool false] w fun e w'=>e=.returned (.string ⟨#[32,45,32,50,42,121]⟩)∧Below w.heap.size w w' := by
 refine (term_minus w (-2) L v ⟨#[121]⟩ false hv hL (by decide) (by decide) (fun ds hd=>by obtain rfl:=isDec2 hd;decide) rfl (by decide)).mono ?_
 rintro e w' ⟨ds,hd,rfl,hb⟩
 obtain rfl:=isDec2 hd
 exact ⟨by kernel_rfl,hb⟩
set_option maxRecDepth 20000 in
set_option maxHeartbeats 8000000 in
theorem print_awake (w:World) (hT:Tabs w) (rv vv:Value) (L:Nat) (hr:IsRow w rv [1,-2,-3] L) (hL:L≤100000) (hv:Strs w vv [⟨#[120]⟩,⟨#[121]⟩]) (hN:NmsOk [⟨#[120]⟩,⟨#[121]⟩]) :
  Calls Tryz.prog 31 #[rv,vv] w fun e w'=>e=.returned (.tuple #[.string ⟨#[120,32,45,32,50,42,121,32,61,32,45,51]⟩,.int .i64 0])∧Below w.heap.size w w' := by
 obtain ⟨ra,rc,rfl,_⟩:=hr.parts
 obtain ⟨va,vc,rfl,_⟩:=id hv
 have K:=names_any w hT _ _ hv
 rw [show nmsE [⟨#[120]⟩,⟨#[121]⟩]=0 from if_pos hN] at K
 have K:=hide K
 have HR:=hide hr
 have HV:=hide hv
 obtain ⟨b,off,ng2,a2,m2,c2,rfl,hbl,_,_,_⟩:=hr.cell (k:=2) (z:=-3) rfl
 obtain ⟨bv,ov,rfl,hbvl,_⟩:=hv.cell (i:=0) rfl
 clear hT hr hv hN
 simp only [List.length_cons,List.length_nil,Nat.zero_add,Nat.reduceAdd] at *
 have hadd:∀ (A B:ByteArray),A.size+B.size≤1000→∀ W,(Op.stringOp .add A B).run Tryz.prog W=.ok (.string (A ++ B)) W:=fun A B h W=>run_string_add_sum (P:=Tryz.prog) W A B (by omega)
 have hA0:∀ W,(Op.stringOp .add ⟨#[]⟩ ⟨#[120]⟩).run Tryz.prog W=.ok (.string ⟨#[120]⟩) W:=fun W=>hadd _ _ (by decide) W
 have hA1:∀ W,(Op.stringOp .add ⟨#[120]⟩ ⟨#[32,45,32,50,42,121]⟩).run Tryz.prog W=.ok (.string ⟨#[120,32,45,32,50,42,121]⟩) W:=fun W=>hadd _ _ (by decide) W
 have hA2:∀ W,(Op.stringOp .add ⟨#[120,32,45,32,50,42,121]⟩ ⟨#[32,61,32]⟩).run Tryz.prog W=.ok (.string ⟨#[120,32,45,32,50,42,121,32,61,32]⟩) W:=fun W=>hadd _ _ (by decide) W
 have hA3:∀ W,(Op.stringOp .add ⟨#[120,32,45,32,50,42,121,32,61,32]⟩ ⟨#[45,51]⟩).run Tryz.prog W=.ok (.string ⟨#[120,32,45,32,50,42,121,32,61,32,45,51]⟩) W:=fun W=>hadd _ _ (by decide) W
 clear hadd
 go_enter Tryz.func31,Tryz.ntmps31
 go_wp2_with fail
 refine K.out.mono ?_
 rintro e w1 ⟨rfl,hb1⟩
 have HB1:=hide hb1
 clear hb1 K
 go_wp2_with fail
 go_loopw [6,7,8,22] (fun lv _ _ iv wr=>Below w.heap.size w wr∧((iv=.int .i64 0∧lv=.string ⟨#[]⟩)∨(iv=.int .i64 1∧lv=.string ⟨#[120]⟩)∨(iv=.int .i64 2∧lv=.string ⟨#[120,32,45,32,50,42,121]⟩))) (fun _ _ _ iv _=>2 - (intOf iv).toNat)
 case atStart=>exact ⟨HB1.out,.inl ⟨rfl,rfl⟩⟩
 case round =>
  obtain ⟨hbw,⟨rfl,rfl⟩ | ⟨rfl,rfl⟩ | ⟨rfl,rfl⟩⟩:=hrel
  ·obtain ⟨b',off',ng,a,m,c,hao,_,x0,x1,hx⟩:=(HR.out.below hbw).cell (k:=0) (z:=1) rfl
   obtain ⟨rfl,rfl⟩:b=b'∧off=off' := by simpa using hao
   obtain ⟨bv',ov',hao',_,v0⟩:=(HV.out.below hbw).cell (i:=0) rfl
   obtain ⟨rfl,rfl⟩:bv=bv'∧ov=ov' := by simpa using hao'
   have HW:=hide hbw
   have K:=hide (term_x wr L _ hx hL)
   clear hbw hx hao hao'
   simp only [Nat.zero_mul,Nat.add_zero] at x0 x1 v0
   go_wp2_with fail
   refine K.out.mono ?_
   rintro e w2 ⟨rfl,hb2⟩
   have HB2:=hide (HW.out.trans (hb2.mono HW.out.size))
   clear hb2 K
   go_wp2
   go_roundw
   case rel=>exact ⟨HB2.out,.inr (.inl ⟨rfl,rfl⟩)⟩
   case measure=>simp [intOf]
  ·obtain ⟨b',off',ng,a,m,c,hao,_,x0,x1,hx⟩:=(HR.out.below hbw).cell (k:=1) (z:=-2) rfl
   obtain ⟨rfl,rfl⟩:b=b'∧off=off' := by simpa using hao
   obtain ⟨bv',ov',hao',_,v0⟩:=(HV.out.below hbw).cell (i:=1) rfl
   obtain ⟨rfl,rfl⟩:bv=bv'∧ov=ov' := by simpa using hao'
   have HW:=hide hbw
   have K:=hide (term_y wr L _ hx hL)
   clear hbw hx hao hao'
   simp only [Nat.one_mul] at x0 x1
   go_wp2_with fail
   refine K.out.mono ?_
   rintro e w2 ⟨rfl,hb2⟩
   have HB2:=hide (HW.out.trans (hb2.mono HW.out.size))
   clear hb2 K
   go_wp2
   go_roundw
   case rel=>exact ⟨HB2.out,.inr (.inr ⟨rfl,rfl⟩)⟩
   case measure=>simp [intOf]
  ·obtain ⟨b',off',ng,a,m,c,hao,_,x0,x1,hx⟩:=(HR.out.below hbw).cell (k:=2) (z:=-3) rfl
   obtain ⟨rfl,rfl⟩:b=b'∧off=off' := by simpa using hao
   have HW:=hide hbw
   have K:=hide (wtext_m3 wr _ L hx hL)
   clear hbw hx hao
   simp only [Nat.reduceMul] at x0 x1
   go_wp2_with fail
   refine K.out.mono ?_
   rintro e w2 ⟨rfl,hb2⟩
   have HB2:=hide (HW.out.trans (hb2.mono HW.out.size))
   clear hb2 K
   go_wp2
   refine bodyPost_ret (v:=_) (by simp [results,Tryz.results31,go_sem];try rfl) rfl ⟨rfl,HB2.out⟩
end Lm
end Go.Proofs.YtaofpigilgapgaaGreatDoor

namespace Go.Proofs.YtaofpigilgapgaaGreatDoor
namespace Lm
open Go Go.RowKit
theorem nm_one (c:Nat) (s:ByteArray) (gs:List Gl) (e:Pl) (l:List Tk) (_hc:c<128) (hs:s.size≤4096) (hQ:Snd s pl0 gs e) (hR:ScanR s e gs (.ok l)) (hn:nmS s (.ok l)=true):isNm s=true:=by
 rw [←isNm_eq hs hQ hR]
 exact hn
theorem isnm_x:isNm ⟨#[120]⟩ = true:=by
 refine nm_one 120 ⟨#[120]⟩ [⟨120,⟨0,0,1,1⟩⟩] ⟨1,1,1,2⟩ [⟨1,⟨#[120]⟩,⟨0,0,1,1⟩⟩,⟨0,⟨#[]⟩,⟨1,1,1,2⟩⟩] (by decide) (by decide) ?_ ?_ (by kernel_rfl)
 ·refine snd_step (k:=1) (by decide) (by kernel_rfl) (by decide) ?_
  exact .stop ⟨1,1,1,2⟩ (.inl (by decide))
 ·refine ScanR.tok _ ⟨120,⟨0,0,1,1⟩⟩ [] 1 ⟨#[120]⟩ [] (.ok [⟨0,⟨#[]⟩,⟨1,1,1,2⟩⟩]) (by kernel_rfl) (tok_name (by kernel_rfl) (by kernel_rfl) (by decide) (by kernel_rfl)) ?_
  exact ScanR.done _ (by kernel_rfl) (by decide)
theorem isnm_y:isNm ⟨#[121]⟩ = true:=by
 refine nm_one 121 ⟨#[121]⟩ [⟨121,⟨0,0,1,1⟩⟩] ⟨1,1,1,2⟩ [⟨1,⟨#[121]⟩,⟨0,0,1,1⟩⟩,⟨0,⟨#[]⟩,⟨1,1,1,2⟩⟩] (by decide) (by decide) ?_ ?_ (by kernel_rfl)
 ·refine snd_step (k:=1) (by decide) (by kernel_rfl) (by decide) ?_
  exact .stop ⟨1,1,1,2⟩ (.inl (by decide))
 ·refine ScanR.tok _ ⟨121,⟨0,0,1,1⟩⟩ [] 1 ⟨#[121]⟩ [] (.ok [⟨0,⟨#[]⟩,⟨1,1,1,2⟩⟩]) (by kernel_rfl) (tok_name (by kernel_rfl) (by kernel_rfl) (by decide) (by kernel_rfl)) ?_
  exact ScanR.done _ (by kernel_rfl) (by decide)
theorem nms_xy:NmsOk [⟨#[120]⟩,⟨#[121]⟩]:=by
 refine ⟨by decide,fun i x hx=>?_⟩
 match i with
 | 0=>simp at hx;subst hx;exact ⟨isnm_x,by simp⟩
 | 1=>simp at hx;subst hx;exact ⟨isnm_y,by simp⟩
 | i+2=>simp at hx
def eqs:ByteArray:=⟨#[50,120,32,61,32,52,121,32,45,32,54]⟩
def eqt:List Tk:=[⟨2,⟨#[50]⟩,⟨0,0,1,1⟩⟩,⟨1,⟨#[120]⟩,⟨1,1,1,2⟩⟩,⟨3,⟨#[61]⟩,⟨3,3,1,4⟩⟩,⟨2,⟨#[52]⟩,⟨5,5,1,6⟩⟩,⟨1,⟨#[121]⟩,⟨6,6,1,7⟩⟩,⟨3,⟨#[45]⟩,⟨8,8,1,9⟩⟩,⟨2,⟨#[54]⟩,⟨10,10,1,11⟩⟩,⟨0,⟨#[]⟩,⟨11,11,1,12⟩⟩]
theorem eqs_snd:Snd eqs pl0 [⟨50,⟨0,0,1,1⟩⟩,⟨120,⟨1,1,1,2⟩⟩,⟨32,⟨2,2,1,3⟩⟩,⟨61,⟨3,3,1,4⟩⟩,⟨32,⟨4,4,1,5⟩⟩,⟨52,⟨5,5,1,6⟩⟩,⟨121,⟨6,6,1,7⟩⟩,⟨32,⟨7,7,1,8⟩⟩,⟨45,⟨8,8,1,9⟩⟩,⟨32,⟨9,9,1,10⟩⟩,⟨54,⟨10,10,1,11⟩⟩] ⟨11,11,1,12⟩:=by
 refine snd_step (p:=⟨0,0,1,1⟩) (k:=1) (by decide) (by kernel_rfl) (by decide) ?_
 refine snd_step (p:=⟨1,1,1,2⟩) (k:=1) (by decide) (by kernel_rfl) (by decide) ?_
 refine snd_step (p:=⟨2,2,1,3⟩) (k:=1) (by decide) (by kernel_rfl) (by decide) ?_
 refine snd_step (p:=⟨3,3,1,4⟩) (k:=1) (by decide) (by kernel_rfl) (by decide) ?_
 refine snd_step (p:=⟨4,4,1,5⟩) (k:=1) (by decide) (by kernel_rfl) (by decide) ?_
 refine snd_step (p:=⟨5,5,1,6⟩) (k:=1) (by decide) (by kernel_rfl) (by decide) ?_
 refine snd_step (p:=⟨6,6,1,7⟩) (k:=1) (by decide) (by kernel_rfl) (by decide) ?_
 refine snd_step (p:=⟨7,7,1,8⟩) (k:=1) (by decide) (by kernel_rfl) (by decide) ?_
 refine snd_step (p:=⟨8,8,1,9⟩) (k:=1) (by decide) (by kernel_rfl) (by decide) ?_
 refine snd_step (p:=⟨9,9,1,10⟩) (k:=1) (by decide) (by kernel_rfl) (by decide) ?_
 refine snd_step (p:=⟨10,10,1,11⟩) (k:=1) (by decide) (by kernel_rfl) (by decide) ?_
 exact .stop ⟨11,11,1,12⟩ (.inl (by decide))
theorem eqs_scan:ScanR eqs ⟨11,11,1,12⟩ [⟨50,⟨0,0,1,1⟩⟩,⟨120,⟨1,1,1,2⟩⟩,⟨32,⟨2,2,1,3⟩⟩,⟨61,⟨3,3,1,4⟩⟩,⟨32,⟨4,4,1,5⟩⟩,⟨52,⟨5,5,1,6⟩⟩,⟨121,⟨6,6,1,7⟩⟩,⟨32,⟨7,7,1,8⟩⟩,⟨45,⟨8,8,1,9⟩⟩,⟨32,⟨9,9,1,10⟩⟩,⟨54,⟨10,10,1,11⟩⟩] (.ok eqt):=by
 show ScanR eqs ⟨11,11,1,12⟩ [⟨50,⟨0,0,1,1⟩⟩,⟨120,⟨1,1,1,2⟩⟩,⟨32,⟨2,2,1,3⟩⟩,⟨61,⟨3,3,1,4⟩⟩,⟨32,⟨4,4,1,5⟩⟩,⟨52,⟨5,5,1,6⟩⟩,⟨121,⟨6,6,1,7⟩⟩,⟨32,⟨7,7,1,8⟩⟩,⟨45,⟨8,8,1,9⟩⟩,⟨32,⟨9,9,1,10⟩⟩,⟨54,⟨10,10,1,11⟩⟩] (.ok [⟨2,⟨#[50]⟩,⟨0,0,1,1⟩⟩,⟨1,⟨#[120]⟩,⟨1,1,1,2⟩⟩,⟨3,⟨#[61]⟩,⟨3,3,1,4⟩⟩,⟨2,⟨#[52]⟩,⟨5,5,1,6⟩⟩,⟨1,⟨#[121]⟩,⟨6,6,1,7⟩⟩,⟨3,⟨#[45]⟩,⟨8,8,1,9⟩⟩,⟨2,⟨#[54]⟩,⟨10,10,1,11⟩⟩,⟨0,⟨#[]⟩,⟨11,11,1,12⟩⟩])
 have hn0:TokR eqs ⟨11,11,1,12⟩ ⟨50,⟨0,0,1,1⟩⟩ [⟨120,⟨1,1,1,2⟩⟩,⟨32,⟨2,2,1,3⟩⟩,⟨61,⟨3,3,1,4⟩⟩,⟨32,⟨4,4,1,5⟩⟩,⟨52,⟨5,5,1,6⟩⟩,⟨121,⟨6,6,1,7⟩⟩,⟨32,⟨7,7,1,8⟩⟩,⟨45,⟨8,8,1,9⟩⟩,⟨32,⟨9,9,1,10⟩⟩,⟨54,⟨10,10,1,11⟩⟩] (.ok 2 ⟨#[50]⟩ [⟨120,⟨1,1,1,2⟩⟩,⟨32,⟨2,2,1,3⟩⟩,⟨61,⟨3,3,1,4⟩⟩,⟨32,⟨4,4,1,5⟩⟩,⟨52,⟨5,5,1,6⟩⟩,⟨121,⟨6,6,1,7⟩⟩,⟨32,⟨7,7,1,8⟩⟩,⟨45,⟨8,8,1,9⟩⟩,⟨32,⟨9,9,1,10⟩⟩,⟨54,⟨10,10,1,11⟩⟩]):=by
  have hv:dval (bytesOf (eqs.extract 0 1))=2:=by kernel_rfl
  have h1:IsLen (dval (bytesOf (eqs.extract 0 1))) 1:=⟨[2],⟨by intro z hz;simp at hz;omega,by kernel_rfl⟩,by rw [hv];kernel_rfl,rfl⟩
  have h2:IsDec [50] (dval (bytesOf (eqs.extract 0 1))):=⟨by intro z hz;simp at hz;omega,by rw [hv];kernel_rfl,.inr ⟨50,[],rfl,by decide⟩⟩
  exact tokR_num (s:=eqs) (e:=⟨11,11,1,12⟩) (g:=⟨50,⟨0,0,1,1⟩⟩) (r:=[⟨120,⟨1,1,1,2⟩⟩,⟨32,⟨2,2,1,3⟩⟩,⟨61,⟨3,3,1,4⟩⟩,⟨32,⟨4,4,1,5⟩⟩,⟨52,⟨5,5,1,6⟩⟩,⟨121,⟨6,6,1,7⟩⟩,⟨32,⟨7,7,1,8⟩⟩,⟨45,⟨8,8,1,9⟩⟩,⟨32,⟨9,9,1,10⟩⟩,⟨54,⟨10,10,1,11⟩⟩]) (n:=1) (ds:=[50]) (by kernel_rfl) h1 h2
 refine ScanR.tok _ ⟨50,⟨0,0,1,1⟩⟩ [⟨120,⟨1,1,1,2⟩⟩,⟨32,⟨2,2,1,3⟩⟩,⟨61,⟨3,3,1,4⟩⟩,⟨32,⟨4,4,1,5⟩⟩,⟨52,⟨5,5,1,6⟩⟩,⟨121,⟨6,6,1,7⟩⟩,⟨32,⟨7,7,1,8⟩⟩,⟨45,⟨8,8,1,9⟩⟩,⟨32,⟨9,9,1,10⟩⟩,⟨54,⟨10,10,1,11⟩⟩] 2 ⟨#[50]⟩ [⟨120,⟨1,1,1,2⟩⟩,⟨32,⟨2,2,1,3⟩⟩,⟨61,⟨3,3,1,4⟩⟩,⟨32,⟨4,4,1,5⟩⟩,⟨52,⟨5,5,1,6⟩⟩,⟨121,⟨6,6,1,7⟩⟩,⟨32,⟨7,7,1,8⟩⟩,⟨45,⟨8,8,1,9⟩⟩,⟨32,⟨9,9,1,10⟩⟩,⟨54,⟨10,10,1,11⟩⟩] (.ok [⟨1,⟨#[120]⟩,⟨1,1,1,2⟩⟩,⟨3,⟨#[61]⟩,⟨3,3,1,4⟩⟩,⟨2,⟨#[52]⟩,⟨5,5,1,6⟩⟩,⟨1,⟨#[121]⟩,⟨6,6,1,7⟩⟩,⟨3,⟨#[45]⟩,⟨8,8,1,9⟩⟩,⟨2,⟨#[54]⟩,⟨10,10,1,11⟩⟩,⟨0,⟨#[]⟩,⟨11,11,1,12⟩⟩]) (by kernel_rfl) hn0 ?_
 refine ScanR.tok _ ⟨120,⟨1,1,1,2⟩⟩ [⟨32,⟨2,2,1,3⟩⟩,⟨61,⟨3,3,1,4⟩⟩,⟨32,⟨4,4,1,5⟩⟩,⟨52,⟨5,5,1,6⟩⟩,⟨121,⟨6,6,1,7⟩⟩,⟨32,⟨7,7,1,8⟩⟩,⟨45,⟨8,8,1,9⟩⟩,⟨32,⟨9,9,1,10⟩⟩,⟨54,⟨10,10,1,11⟩⟩] 1 ⟨#[120]⟩ [⟨32,⟨2,2,1,3⟩⟩,⟨61,⟨3,3,1,4⟩⟩,⟨32,⟨4,4,1,5⟩⟩,⟨52,⟨5,5,1,6⟩⟩,⟨121,⟨6,6,1,7⟩⟩,⟨32,⟨7,7,1,8⟩⟩,⟨45,⟨8,8,1,9⟩⟩,⟨32,⟨9,9,1,10⟩⟩,⟨54,⟨10,10,1,11⟩⟩] (.ok [⟨3,⟨#[61]⟩,⟨3,3,1,4⟩⟩,⟨2,⟨#[52]⟩,⟨5,5,1,6⟩⟩,⟨1,⟨#[121]⟩,⟨6,6,1,7⟩⟩,⟨3,⟨#[45]⟩,⟨8,8,1,9⟩⟩,⟨2,⟨#[54]⟩,⟨10,10,1,11⟩⟩,⟨0,⟨#[]⟩,⟨11,11,1,12⟩⟩]) (by kernel_rfl) (tok_name (by kernel_rfl) (by kernel_rfl) (by decide) (by kernel_rfl)) ?_
 refine ScanR.tok _ ⟨61,⟨3,3,1,4⟩⟩ [⟨32,⟨4,4,1,5⟩⟩,⟨52,⟨5,5,1,6⟩⟩,⟨121,⟨6,6,1,7⟩⟩,⟨32,⟨7,7,1,8⟩⟩,⟨45,⟨8,8,1,9⟩⟩,⟨32,⟨9,9,1,10⟩⟩,⟨54,⟨10,10,1,11⟩⟩] 3 ⟨#[61]⟩ [⟨32,⟨4,4,1,5⟩⟩,⟨52,⟨5,5,1,6⟩⟩,⟨121,⟨6,6,1,7⟩⟩,⟨32,⟨7,7,1,8⟩⟩,⟨45,⟨8,8,1,9⟩⟩,⟨32,⟨9,9,1,10⟩⟩,⟨54,⟨10,10,1,11⟩⟩] (.ok [⟨2,⟨#[52]⟩,⟨5,5,1,6⟩⟩,⟨1,⟨#[121]⟩,⟨6,6,1,7⟩⟩,⟨3,⟨#[45]⟩,⟨8,8,1,9⟩⟩,⟨2,⟨#[54]⟩,⟨10,10,1,11⟩⟩,⟨0,⟨#[]⟩,⟨11,11,1,12⟩⟩]) (by kernel_rfl) (tokR_sign (by kernel_rfl)) ?_
 have hn5:TokR eqs ⟨11,11,1,12⟩ ⟨52,⟨5,5,1,6⟩⟩ [⟨121,⟨6,6,1,7⟩⟩,⟨32,⟨7,7,1,8⟩⟩,⟨45,⟨8,8,1,9⟩⟩,⟨32,⟨9,9,1,10⟩⟩,⟨54,⟨10,10,1,11⟩⟩] (.ok 2 ⟨#[52]⟩ [⟨121,⟨6,6,1,7⟩⟩,⟨32,⟨7,7,1,8⟩⟩,⟨45,⟨8,8,1,9⟩⟩,⟨32,⟨9,9,1,10⟩⟩,⟨54,⟨10,10,1,11⟩⟩]):=by
  have hv:dval (bytesOf (eqs.extract 5 6))=4:=by kernel_rfl
  have h1:IsLen (dval (bytesOf (eqs.extract 5 6))) 1:=⟨[4],⟨by intro z hz;simp at hz;omega,by kernel_rfl⟩,by rw [hv];kernel_rfl,rfl⟩
  have h2:IsDec [52] (dval (bytesOf (eqs.extract 5 6))):=⟨by intro z hz;simp at hz;omega,by rw [hv];kernel_rfl,.inr ⟨52,[],rfl,by decide⟩⟩
  exact tokR_num (s:=eqs) (e:=⟨11,11,1,12⟩) (g:=⟨52,⟨5,5,1,6⟩⟩) (r:=[⟨121,⟨6,6,1,7⟩⟩,⟨32,⟨7,7,1,8⟩⟩,⟨45,⟨8,8,1,9⟩⟩,⟨32,⟨9,9,1,10⟩⟩,⟨54,⟨10,10,1,11⟩⟩]) (n:=1) (ds:=[52]) (by kernel_rfl) h1 h2
 refine ScanR.tok _ ⟨52,⟨5,5,1,6⟩⟩ [⟨121,⟨6,6,1,7⟩⟩,⟨32,⟨7,7,1,8⟩⟩,⟨45,⟨8,8,1,9⟩⟩,⟨32,⟨9,9,1,10⟩⟩,⟨54,⟨10,10,1,11⟩⟩] 2 ⟨#[52]⟩ [⟨121,⟨6,6,1,7⟩⟩,⟨32,⟨7,7,1,8⟩⟩,⟨45,⟨8,8,1,9⟩⟩,⟨32,⟨9,9,1,10⟩⟩,⟨54,⟨10,10,1,11⟩⟩] (.ok [⟨1,⟨#[121]⟩,⟨6,6,1,7⟩⟩,⟨3,⟨#[45]⟩,⟨8,8,1,9⟩⟩,⟨2,⟨#[54]⟩,⟨10,10,1,11⟩⟩,⟨0,⟨#[]⟩,⟨11,11,1,12⟩⟩]) (by kernel_rfl) hn5 ?_
 refine ScanR.tok _ ⟨121,⟨6,6,1,7⟩⟩ [⟨32,⟨7,7,1,8⟩⟩,⟨45,⟨8,8,1,9⟩⟩,⟨32,⟨9,9,1,10⟩⟩,⟨54,⟨10,10,1,11⟩⟩] 1 ⟨#[121]⟩ [⟨32,⟨7,7,1,8⟩⟩,⟨45,⟨8,8,1,9⟩⟩,⟨32,⟨9,9,1,10⟩⟩,⟨54,⟨10,10,1,11⟩⟩] (.ok [⟨3,⟨#[45]⟩,⟨8,8,1,9⟩⟩,⟨2,⟨#[54]⟩,⟨10,10,1,11⟩⟩,⟨0,⟨#[]⟩,⟨11,11,1,12⟩⟩]) (by kernel_rfl) (tok_name (by kernel_rfl) (by kernel_rfl) (by decide) (by kernel_rfl)) ?_
 refine ScanR.tok _ ⟨45,⟨8,8,1,9⟩⟩ [⟨32,⟨9,9,1,10⟩⟩,⟨54,⟨10,10,1,11⟩⟩] 3 ⟨#[45]⟩ [⟨32,⟨9,9,1,10⟩⟩,⟨54,⟨10,10,1,11⟩⟩] (.ok [⟨2,⟨#[54]⟩,⟨10,10,1,11⟩⟩,⟨0,⟨#[]⟩,⟨11,11,1,12⟩⟩]) (by kernel_rfl) (tokR_sign (by kernel_rfl)) ?_
 have hn10:TokR eqs ⟨11,11,1,12⟩ ⟨54,⟨10,10,1,11⟩⟩ [] (.ok 2 ⟨#[54]⟩ []):=by
  have hv:dval (bytesOf (eqs.extract 10 11))=6:=by kernel_rfl
  have h1:IsLen (dval (bytesOf (eqs.extract 10 11))) 1:=⟨[6],⟨by intro z hz;simp at hz;omega,by kernel_rfl⟩,by rw [hv];kernel_rfl,rfl⟩
  have h2:IsDec [54] (dval (bytesOf (eqs.extract 10 11))):=⟨by intro z hz;simp at hz;omega,by rw [hv];kernel_rfl,.inr ⟨54,[],rfl,by decide⟩⟩
  exact tokR_num (s:=eqs) (e:=⟨11,11,1,12⟩) (g:=⟨54,⟨10,10,1,11⟩⟩) (r:=[]) (n:=1) (ds:=[54]) (by kernel_rfl) h1 h2
 refine ScanR.tok _ ⟨54,⟨10,10,1,11⟩⟩ [] 2 ⟨#[54]⟩ [] (.ok [⟨0,⟨#[]⟩,⟨11,11,1,12⟩⟩]) (by kernel_rfl) hn10 ?_
 exact ScanR.done _ (by kernel_rfl) (by decide)
theorem z_2:zOf ⟨#[50]⟩ = 2:=by
 have h1:msplit ⟨#[50]⟩ = (false,⟨#[50]⟩):=by kernel_rfl
 have h2:Dm.Fine ⟨#[50]⟩:=⟨by decide,by decide,by intro z hz;simp [bytesOf] at hz;omega⟩
 have h3:zOf ⟨#[50]⟩ = sg false (xOf ⟨#[50]⟩):=by unfold zOf;rw [h1]
 rw [h3,(of_fine h2).2]
 exact (by kernel_rfl:sg false (dval (bytesOf ⟨#[50]⟩))=2)
theorem z_4:zOf ⟨#[52]⟩ = 4:=by
 have h1:msplit ⟨#[52]⟩ = (false,⟨#[52]⟩):=by kernel_rfl
 have h2:Dm.Fine ⟨#[52]⟩:=⟨by decide,by decide,by intro z hz;simp [bytesOf] at hz;omega⟩
 have h3:zOf ⟨#[52]⟩ = sg false (xOf ⟨#[52]⟩):=by unfold zOf;rw [h1]
 rw [h3,(of_fine h2).2]
 exact (by kernel_rfl:sg false (dval (bytesOf ⟨#[52]⟩))=4)
theorem z_6:zOf ⟨#[54]⟩ = 6:=by
 have h1:msplit ⟨#[54]⟩ = (false,⟨#[54]⟩):=by kernel_rfl
 have h2:Dm.Fine ⟨#[54]⟩:=⟨by decide,by decide,by intro z hz;simp [bytesOf] at hz;omega⟩
 have h3:zOf ⟨#[54]⟩ = sg false (xOf ⟨#[54]⟩):=by unfold zOf;rw [h1]
 rw [h3,(of_fine h2).2]
 exact (by kernel_rfl:sg false (dval (bytesOf ⟨#[54]⟩))=6)
theorem coef_plain' {l:List Tk} {i:Nat} {t t1:Tk} {z:Int} (h:l[i]? = some t) (h1:l[i+1]? = some t1) (hs:tsg t1 sOver=false) (hz:zOf t.text=z):CoefR l i true (i+1) (z:Int):=by
 subst hz
 exact .plain t t1 h h1 hs
def rs0:List Rat:=List.replicate 3 0
def rs1:List Rat:=rs0.set 0 (0+sgq false ((2:Int):Rat))
def rs2:List Rat:=rs1.set 1 (0+sgq true ((4:Int):Rat))
def rs3:List Rat:=rs2.set 2 (0+sgq false (-((6:Int):Rat)))
theorem eq_read:EqR eqt [⟨#[120]⟩,⟨#[121]⟩] 8 0 (List.replicate 3 0) true 7 rs3:=by
 refine .good 2 rs1 ⟨3,⟨#[61]⟩,⟨3,3,1,4⟩⟩ ?_ rfl (by kernel_rfl) 7 rs3 ?_ ⟨0,⟨#[]⟩,⟨11,11,1,12⟩⟩ rfl rfl
 ·refine ⟨_,rfl,?_⟩
  refine .last _ _ 2 _ _ ?_ ⟨3,⟨#[61]⟩,⟨3,3,1,4⟩⟩ rfl (by kernel_rfl)
  exact .next _ rfl rfl 1 _ (coef_plain' rfl rfl (by kernel_rfl) z_2) (by constructor <;> decide +kernel) _ rfl (by kernel_rfl) rfl _ _ _ (.yes _ 0 0 rfl (by kernel_rfl) rfl (by constructor <;> decide +kernel) (by constructor <;> decide +kernel))
 ·refine ⟨_,rfl,?_⟩
  refine .more _ _ 5 _ _ rs2 _ _ ?_ ⟨3,⟨#[45]⟩,⟨8,8,1,9⟩⟩ rfl (by kernel_rfl) ?_
  ·exact .next _ rfl rfl 4 _ (coef_plain' rfl rfl (by kernel_rfl) z_4) (by constructor <;> decide +kernel) _ rfl (by kernel_rfl) rfl _ _ _ (.yes _ 1 0 rfl (by kernel_rfl) rfl (by constructor <;> decide +kernel) (by constructor <;> decide +kernel))
  ·refine .last _ _ 7 _ _ ?_ ⟨0,⟨#[]⟩,⟨11,11,1,12⟩⟩ rfl (by kernel_rfl)
   exact .alone _ rfl rfl 7 _ (coef_plain' rfl rfl (by kernel_rfl) z_6) (by constructor <;> decide +kernel) _ rfl (by kernel_rfl) (by decide) 0 rfl (by constructor <;> decide +kernel)
theorem eq_canon:canonZ rs3 = [1,-2,-3]:=by kernel_rfl
end Lm
end Go.Proofs.YtaofpigilgapgaaGreatDoor

namespace Go.Proofs.YtaofpigilgapgaaGreatDoor
namespace Lm
open Go Go.RowKit
theorem strs_two (w:World) (x y:ByteArray) (e:TypeId):Strs (w.alloc (.cells #[.string x,.string y] e)) (.slice (some ⟨w.heap.size,0,none⟩) 2 2) [x,y]:=by
 refine ⟨_,2,rfl,Nat.le_refl _,by decide,rfl,.inr ⟨w.heap.size,0,rfl,by simp,fun j u hu=>?_⟩⟩
 have hh:=heap_alloc_new w (.cells #[.string x,.string y] e)
 rw [Nat.zero_add,cell_of_row _ _ _ _ _ (0,0) hh]
 match j with
 | 0=>simpa using hu
 | 1=>simpa using hu
 | j+2=>simp at hu
theorem equation_awake (w:World) (hT:Tabs w) (v:Value) (hv:Strs w v [⟨#[120]⟩,⟨#[121]⟩]) :
  Calls Tryz.prog 27 #[.string ⟨#[50,120,32,61,32,52,121,32,45,32,54]⟩,v] w fun r w'=>Below w.heap.size w w'∧∃ x,r=.returned (.tuple #[x,.int .i64 0,.agg #[.int .i64 0,.int .i64 0,.int .i64 0,.int .i64 0]])∧CanRow w' x [1,-2,-3] 16:=by
 refine (equation_good w hT eqs (by decide) v _ hv nms_xy _ _ eqt eqs_snd eqs_scan 8 16 (by decide) (by decide) (by decide) 7 rs3 eq_read rfl ?_ ?_ (by simp)).mono ?_
 ·intro k hk
  have hk' : k≤3:=hk
  match k,hk' with
  | 0,_=>decide +kernel
  | 1,_=>decide +kernel
  | 2,_=>decide +kernel
  | 3,_=>decide +kernel
 ·have h:clr rs3 = [2,-4,-6]:=by kernel_rfl
  rw [h]
  intro z hz
  simp at hz
  rcases hz with rfl | rfl | rfl <;> decide +kernel
 ·rintro r w' ⟨hb,⟨_,x,rfl,hO⟩ | ⟨⟨z,hz,hbig⟩,_⟩⟩
  ·rw [eq_canon] at hO
   exact ⟨hb,x,rfl,hO.can⟩
  ·rw [eq_canon] at hz
   simp at hz
   rcases hz with rfl | rfl | rfl <;> exact absurd (by decide +kernel) hbig
theorem nums_three (w:World) (a b c:Int) (e:TypeId):Nums (w.alloc (.cells #[.int .i64 a,.int .i64 b,.int .i64 c] e)) (.slice (some ⟨w.heap.size,0,none⟩) 3 3) [a,b,c]:=nums_new w [a,b,c] (by simp) e
set_option maxRecDepth 20000 in
set_option maxHeartbeats 8000000 in
theorem awake5 (w:World) (hT:Tabs w) :
  Calls Tryz.prog 9 #[] w fun r w'=>r=.returned (.bool true)∧Below w.heap.size w w' := by
 have hb0:=hAl w (.cells #[.string ⟨#[120]⟩,.string ⟨#[121]⟩] 9)
 have K:=hide (equation_awake _ (hT.below hb0) _ (strs_two w ⟨#[120]⟩ ⟨#[121]⟩ 9))
 have HT:=hide hT
 clear hT
 go_enter Tryz.func9,Tryz.ntmps9
 go_wp2_with fail
 refine K.out.mono ?_
 rintro r w1 ⟨hb1,x,rfl,hcx⟩
 obtain ⟨ax,cx,hvx,_⟩:=hcx.is.parts
 subst hvx
 have hbA:=hAl w1 (.cells #[.int .i64 0,.int .i64 0,.int .i64 0,.int .i64 0] 51)
 have hb1' := hb0.trans (hb1.mono hb0.size)
 have hb2:=hb1'.trans (hbA.mono hb1'.size)
 have HB2:=hide hb2
 have HCX:=hide (hcx.below hbA)
 clear hb0 hb1 hb1' hcx K hbA
 go_wp2_with fail
 generalize hW2:w1.alloc (.cells #[.int .i64 0,.int .i64 0,.int .i64 0,.int .i64 0] 51)=w2 at *
 have hs2:w2.heap.size=w1.heap.size+1:=by rw [←hW2];simp
 rw [←hs2]
 have hz3:∀ z ∈ ([1,-2,-3]:List Int),-9223372036854775808≤z∧z≤9223372036854775807:=by intro z hz;simp at hz;rcases hz with rfl | rfl | rfl <;> decide
 have HZ3:=hide hz3
 have hbn2:=hAl w2 (.cells #[.int .i64 1,.int .i64 (-2),.int .i64 (-3)] 3)
 refine (row_any _ _ [1,-2,-3] (nums_three w2 1 (-2) (-3) 3) hz3 (by decide)).mono ?_
 rintro e w3 ⟨r3,rfl,hr3,hb3⟩
 obtain ⟨a3,c3,hv3,_⟩:=hr3.is.parts
 subst hv3
 have hb23:=hbn2.trans (hb3.mono hbn2.size)
 have HB3:=hide (HB2.out.trans (hb23.mono HB2.out.size))
 have HCX3:=hide (HCX.out.below hb23)
 have hbs:=hAl w3 (.cells #[.string ⟨#[120]⟩,.string ⟨#[121]⟩] 9)
 have K4:=hide (print_awake _ ((HT.out.below HB3.out).below hbs) _ _ 2 (hr3.is.below hbs) (by decide) (strs_two w3 ⟨#[120]⟩ ⟨#[121]⟩ 9) nms_xy)
 have HBS:=hide hbs
 clear hb3 hb23 hbn2 hr3 hbs hz3 hW2 hs2
 go_wp2_with fail
 refine K4.out.mono ?_
 rintro e w4 ⟨rfl,hb4⟩
 have hb34:=HBS.out.trans (hb4.mono HBS.out.size)
 have HB4:=hide (HB3.out.trans (hb34.mono HB3.out.size))
 have HCX4:=hide (HCX3.out.below hb34)
 have hbn4:=hAl w4 (.cells #[.int .i64 1,.int .i64 (-2),.int .i64 (-3)] 3)
 have K5:=hide (row_any _ _ [1,-2,-3] (nums_three w4 1 (-2) (-3) 3) HZ3.out (by decide))
 have HBN4:=hide hbn4
 clear hb4 hb34 hbn4 K4
 go_wp2_with fail
 refine K5.out.mono ?_
 rintro e w5 ⟨r5,rfl,hr5,hb5⟩
 obtain ⟨a5,c5,hv5,_⟩:=hr5.is.parts
 subst hv5
 have hb45:=HBN4.out.trans (hb5.mono HBN4.out.size)
 have HB5:=hide (HB4.out.trans (hb45.mono HB4.out.size))
 have K6:=hide (samerow_can w5 _ _ [1,-2,-3] 16 2 (HCX4.out.below hb45) hr5)
 have hst:((⟨#[120,32,45,32,50,42,121,32,61,32,45,51]⟩:ByteArray).toList == [120,32,45,32,50,42,121,32,61,32,45,51])=true:=by rw [ByteArray.toList_eq];decide
 clear hb5 hb45 hr5 K5
 go_wp2_with fail
 refine K6.out.mono ?_
 rintro e w6 ⟨rfl,hb6⟩
 have HB6:=hide (HB5.out.trans (hb6.mono HB5.out.size))
 clear hb6 K6
 go_wp2
 refine bodyPost_ret (v:=_) (by simp [results,Tryz.results9,go_sem];try rfl) rfl ⟨rfl,HB6.out⟩
end Lm
end Go.Proofs.YtaofpigilgapgaaGreatDoor

namespace Go.Proofs.YtaofpigilgapgaaGreatDoor
namespace Lm
open Go Go.RowKit
theorem Rw.isrow {w:World} {v:Value} {es:List WE} (h:Rw w v es) {L:Nat} (hl:lenW es≤L):IsRow w v (es.map WE.z) L:=by
 refine ⟨es,h,rfl,fun e he=>?_⟩
 have h1:=lenW_mem he
 have h2:=(h.sl e he).parts.1
 omega
theorem SameR.zs {es us:List WE} (h:SameR es us):es.map WE.z=us.map WE.z:=by
 have e:∀ l:List WE,l.map WE.z=(l.map WE.raw).map fun p=>sg p.1 (val p.2):=fun l=>by rw [List.map_map];rfl
 rw [e,e,h]
theorem SameR.le {es us:List WE} {L:Nat} (h:SameR es us) (hl:∀ e ∈ us,e.zs.length≤L):∀ e ∈ es,e.zs.length≤L:=by
 intro e he
 have h1:e.raw ∈ us.map WE.raw:=by rw [←h];exact List.mem_map_of_mem he
 obtain ⟨u,hu,hr⟩:=List.mem_map.1 h1
 have h2:u.zs=e.zs:=congrArg Prod.snd hr
 rw [←h2]
 exact hl u hu
end Lm
end Go.Proofs.YtaofpigilgapgaaGreatDoor

