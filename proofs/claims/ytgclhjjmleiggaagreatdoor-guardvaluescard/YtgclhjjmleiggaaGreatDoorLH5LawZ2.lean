/-
  What the text behind the last one leans on, part 2.
-/
import Derived.Deep.RegionLaw
import Derived.Test.YtgclhjjmleiggaaGreatDoorLH5LawZ1
namespace Go.Proofs.YtgclhjjmleiggaaGreatDoor
namespace Lm
open Go Go.RowKit
def wsN (fs ss:List Int):Nat→Int
 | 0=>0
 | k+1=>wsN fs ss k+fs[k]?.getD 0*ss[k]?.getD 0
theorem am5 {a b:Int} {L:Nat} (ha:(a.natAbs:Int)<pw L) (hb:(b.natAbs:Int)<pw L):((a*b).natAbs:Int)≤pw (2*L) - 1:=by
 rw [Int.natAbs_mul,show 2*L=L+L from by omega,ada]
 have h1:(a.natAbs:Int)≤pw L - 1:=by omega
 have h2:(b.natAbs:Int)≤pw L - 1:=by omega
 have h3:((a.natAbs*b.natAbs:Nat):Int)≤(pw L - 1)*(pw L - 1):=by
  rw [Int.natCast_mul]
  exact Int.mul_le_mul h1 h2 (by omega) (by omega)
 have h4:(pw L - 1)*(pw L - 1)=pw L*pw L - pw L - pw L+1:=by
  rw [Int.sub_mul,Int.mul_sub]
  omega
 have:=ag0 L
 omega
theorem av8 (fs ss:List Int) (L:Nat) (hf:∀ z ∈ fs,(z.natAbs:Int)<pw L) (hs:∀ z ∈ ss,(z.natAbs:Int)<pw L) (k:Nat):((wsN fs ss k).natAbs:Int)≤k*(pw (2*L) - 1):=by
 induction k with
 | zero=>simp [wsN]
 | succ k ih =>
  have hp:=ag0 L
  have h1:((fs[k]?.getD 0).natAbs:Int)<pw L:=by
   cases h:fs[k]? with
   | none=>simpa using hp
   | some z=>exact hf z (List.mem_of_getElem? h)
  have h2:((ss[k]?.getD 0).natAbs:Int)<pw L:=by
   cases h:ss[k]? with
   | none=>simpa using hp
   | some z=>exact hs z (List.mem_of_getElem? h)
  have h3:=am5 h1 h2
  have h4:=Int.natAbs_add_le (wsN fs ss k) (fs[k]?.getD 0*ss[k]?.getD 0)
  have h5:((k+1:Nat):Int)*(pw (2*L) - 1)=k*(pw (2*L) - 1)+(pw (2*L) - 1):=by rw [Int.natCast_add,Int.add_mul];simp
  rw [h5,wsN]
  omega
theorem av9 (fs ss:List Int) (L:Nat) (hf:∀ z ∈ fs,(z.natAbs:Int)<pw L) (hs:∀ z ∈ ss,(z.natAbs:Int)<pw L) (k:Nat) (hk:k≤4000000000):((wsN fs ss k).natAbs:Int)<pw (2*L+1):=by
 have h:=av8 fs ss L hf hs k
 rw [ada,show pw 1=4294967296 from by decide]
 have hp:=ag0 (2*L)
 have h1:(k:Int)*(pw (2*L) - 1)≤4000000000*(pw (2*L) - 1):=Int.mul_le_mul_of_nonneg_right (by omega) (by omega)
 omega
theorem IsRow.lt {w:World} {v:Value} {zs:List Int} {L:Nat} (h:IsRow w v zs L):∀ z ∈ zs,(z.natAbs:Int)<pw L:=by
 intro z hz
 obtain ⟨k,hk⟩:=List.mem_iff_getElem?.1 hz
 obtain ⟨ao,cap,rfl,_⟩:=h.parts
 obtain ⟨b,off,ng,a,m,c,_,_,_,_,hw⟩:=h.cell hk
 exact av7 hw
theorem ai9:Has Tryz.prog 16:=by unfold Has;kernel_rfl
theorem akp:Has Tryz.prog 17:=by unfold Has;kernel_rfl
set_option maxRecDepth 20000 in
set_option maxHeartbeats 8000000 in
theorem akq (w:World) (vf vs:Value) (fs ss:List Int) (L:Nat) (hf:IsRow w vf fs L) (hs:IsRow w vs ss L) (hl:ss.length≤fs.length) (hn:ss.length≤1000000000) (hL:L≤100000000) :
  Calls Tryz.prog 17 #[vf,vs] w fun e w'=>∃ r,e=.returned r∧FrW w.heap.size (wsN fs ss ss.length) (2*L+1) r w'∧Below w.heap.size w w' := by
 obtain ⟨af,cf,rfl,hfl⟩:=hf.parts
 obtain ⟨as_,cs_,rfl,_⟩:=hs.parts
 have HLF:=hide hf.lt
 have HLS:=hide hs.lt
 have HF:=hide hf
 have HS:=hide hs
 clear hf hs
 obtain ⟨n,hnn⟩:∃ n,ss.length=n:=⟨_,rfl⟩
 obtain ⟨m0,hmm⟩:∃ m0,fs.length=m0:=⟨_,rfl⟩
 rw [hnn] at HS hl hn ⊢
 rw [hmm] at HF hl hfl ⊢
 have HN:=hide hnn
 have HM:=hide hmm
 clear hnn hmm
 have hb0:Below w.heap.size w ((w.alloc (.cells #[.bool false,.slice none 0 0] 33)).alloc (.cells #[.bool false,.slice none 0 0] 33)):=by (repeat' first|with_reducible(first|exact Below.refl _ _|assumption|refine gdrewN ?_ _|refine Below.alloc ?_ ?_ _|refine Below.drew ?_|refine Below.setCell ?_ ?_ _)|go_size)
 have hf2:((w.alloc (.cells #[.bool false,.slice none 0 0] 33)).alloc (.cells #[.bool false,.slice none 0 0] 33)).heap[w.heap.size]? = some (.cells #[.bool false,.slice none 0 0] 33 (0,0)):=ame (heap_alloc_new w _)
 have hf3:((w.alloc (.cells #[.bool false,.slice none 0 0] 33)).alloc (.cells #[.bool false,.slice none 0 0] 33)).heap[w.heap.size+1]? = some (.cells #[.bool false,.slice none 0 0] 33 (0,0)):=by
  have:=heap_alloc_new (w.alloc (.cells #[.bool false,.slice none 0 0] 33)) (.cells #[.bool false,.slice none 0 0] 33)
  simpa using this
 have HB0:=hide (And.intro hb0 (And.intro hf2 hf3))
 clear hb0 hf2 hf3
 go_enter Tryz.func17,Tryz.ntmps17
 go_wp2
 go_loopw [6,7,10] (fun _ _ iv wr=>∃ (k:Nat),iv=.int .i64 k∧k≤n∧Below w.heap.size w wr∧wr.heap[w.heap.size]? = some (.cells #[.bool false,.slice none 0 0] 33 (0,0))∧∃ ng a m c,wr.heap[w.heap.size+1]? = some (.cells #[.bool ng,.slice a m c] 33 (0,0))∧FrW w.heap.size (wsN fs ss k) (2*L+1) (.agg #[.bool ng,.slice a m c]) wr) (fun _ _ iv _=>n - (intOf iv).toNat)
 case atStart=>exact ⟨0,rfl,Nat.zero_le _,HB0.out.1,HB0.out.2.1,false,none,0,0,HB0.out.2.2,afv _ HB0.out.1.size⟩
 case round =>
  obtain ⟨k,rfl,hk,hbw,hf2,ng,a,m,c,hf3,ho⟩:=hrel
  have HW:=hide hbw
  have HF2:=hide hf2
  have HF3:=hide hf3
  have HO:=hide ho
  by_cases hlt:k<n
  ·obtain ⟨z,hz⟩:∃ z,ss[k]? = some z:=⟨_,List.getElem?_eq_getElem (by have:=HN.out;omega)⟩
   obtain ⟨y,hy⟩:∃ y,fs[k]? = some y:=⟨_,List.getElem?_eq_getElem (by have:=HM.out;omega)⟩
   obtain ⟨b,off,ngx,ax,mx,cx,rfl,hbl,x0,x1,hx⟩:=HS.out.cell hz
   obtain ⟨bf,offf,ngf,axf,mxf,cxf,rfl,hblf,p0,p1,hxf⟩:=HF.out.cell hy
   replace x0:=(hbw.cell (p:=⟨b,off+k*2,none⟩) hbl).trans x0
   replace x1:=(hbw.cell (p:=⟨b,off+k*2+1,none⟩) hbl).trans x1
   have hba:Below wr.heap.size wr (wr.alloc (.cells #[.bool ngx,.slice ax mx cx] 33)):=hAl _ _
   have hbwa:=hbw.trans (hba.mono hbw.size)
   replace p0:=(hbwa.cell (p:=⟨bf,offf+k*2,none⟩) hblf).trans p0
   replace p1:=(hbwa.cell (p:=⟨bf,offf+k*2+1,none⟩) hblf).trans p1
   have HX:=hide (hx.ru (Ru.of_below hbwa))
   have HXF:=hide (hxf.ru (Ru.of_below hbwa))
   have hlt' : (k:Int)<(n:Int):=by omega
   have hltm:(k:Int)<(m0:Int):=by omega
   have HKW:Hid (wsN fs ss (k+1)=wsN fs ss k+y*z):=(show wsN fs ss (k+1)=wsN fs ss k+y*z by rw [wsN,hz,hy];rfl)
   have HFT:=hide (av9 fs ss L HLF.out HLS.out (k+1) (by omega))
   have hcb:=(hba.block _ (aaa hf3)).trans hf3
   have hcz:=(hba.block _ (aaa hf2)).trans hf2
   have hnew:=heap_alloc_new wr (.cells #[.bool ngx,.slice ax mx cx] 33)
   have HCO:=hide (ho.ru (Ru.of_below hba))
   have HWA:=hide hbwa
   have hszw:=hbw.size
   clear hbw hf2 hf3 ho hx hxf hz hy
   go_wp2_with fail
   generalize (wr.alloc (.cells #[.bool ngx,.slice ax mx cx] 33))=w5 at *
   obtain ⟨hcl,y0,y1,yf0,yf1⟩:=aa1 hcb
   obtain ⟨hnl,u0,u1,_,_⟩:=aa1 hnew
   have HCB:=hide hcb
   have HCZ:=hide hcz
   have hbfl:bf<w5.heap.size:=Nat.lt_of_lt_of_le hblf HWA.out.size
   generalize hf7:wr.heap.size=f7 at *
   clear hba hbwa hnew hcb hcz x0 x1
   go_region_law (first | (refine adk rfl 26 #[.tmp 19,.tmp 20] #[33,33] rfl ar5 #[.agg #[.bool ngf,.slice axf mxf cxf],.agg #[.bool ngx,.slice ax mx cx]] (by simp [Act.eval]) (mulF _ y z _ _ L L (HXF.out.ru (Ru.of_below (show Below w5.heap.size w5 _ by (repeat' first|with_reducible(first|exact Below.refl _ _|assumption|refine gdrewN ?_ _|refine Below.alloc ?_ ?_ _|refine Below.drew ?_|refine Below.setCell ?_ ?_ _)|go_size)))) (HX.out.ru (Ru.of_below (show Below w5.heap.size w5 _ by (repeat' first|with_reducible(first|exact Below.refl _ _|assumption|refine gdrewN ?_ _|refine Below.alloc ?_ ?_ _|refine Below.drew ?_|refine Below.setCell ?_ ?_ _)|go_size)))) (by omega) (by omega)) ?_;rintro e w7 ⟨v7,rfl,h7,hb7⟩;obtain ⟨ng7,ao7,k7,cap7,rfl⟩:=h7.agg;have hb57:Below w5.heap.size w5 w7:=(show Below w5.heap.size w5 _ by (repeat' first|with_reducible(first|exact Below.refl _ _|assumption|refine gdrewN ?_ _|refine Below.alloc ?_ ?_ _|refine Below.drew ?_|refine Below.setCell ?_ ?_ _)|go_size)).trans (hb7.mono (by simp));have HB57:=hide hb57;have H7:=hide h7;have y07:=(hb57.cell (p:=⟨w.heap.size+1,0,none⟩) hcl).trans y0;have y17:=(hb57.cell (p:=⟨w.heap.size+1,1,none⟩) hcl).trans y1;clear h7 hb7 hb57;refine ⟨_,rfl,?_⟩) | (refine adk rfl 16 #[.tmp 15,.tmp 21] #[33,33] rfl ai9 #[.agg #[.bool ng,.slice a m c],.agg #[.bool ng7,.slice ao7 k7 cap7]] (by simp [Act.eval]) (addF _ (wsN fs ss k) (y*z) _ _ (2*L+1) (L+L) (HCO.out.is.ru (Ru.of_below HB57.out)) H7.out.is (by omega) (by omega)) ?_;rintro e w8 ⟨v8,rfl,h8,hb8⟩;obtain ⟨ng8,ao8,k8,cap8,rfl⟩:=h8.agg;have hb58:Below w5.heap.size w5 w8:=HB57.out.trans (hb8.mono HB57.out.size);have HB58:=hide hb58;have H8:=hide (h8.low (Nat.le_trans HWA.out.size HB57.out.size));have hc8:=(hb58.block _ hcl).trans HCB.out;have HC8:=hide hc8;have hc8' := aa1 hc8;obtain ⟨hcl8,y08,y18,yf08,yf18⟩:=hc8';clear h8 hb8 hb58 hc8;refine ⟨_,rfl,?_⟩))
   all_goals (
    go_wp2
    go_roundw
    case rel =>
     refine ⟨k+1,by go_num,by omega,?_,?_,_,_,_,_,adz HC8.out _ _,?_⟩
     ·exact ((HWA.out.trans (HB58.out.mono HWA.out.size)).setCell (Nat.le_succ _) _).setCell (Nat.le_succ _) _
     ·rw [heap_setCell_other _ ⟨w.heap.size+1,1,none⟩ _ _ (by show w.heap.size≠w.heap.size+1;omega),heap_setCell_other _ ⟨w.heap.size+1,0,none⟩ _ _ (by show w.heap.size≠w.heap.size+1;omega)]
      exact (HB58.out.block _ (aaa HCZ.out)).trans HCZ.out
     ·rw [HKW.out]
      exact (H8.out.fit (by rw [←HKW.out];exact HFT.out)).ru (ae6 HC8.out _ _)
    case measure=>simp [intOf];omega)
  ·have hlt' : decide ((k:Int)<(n:Int))=false:=by simp;omega
   have hkn:k=n:=by omega
   subst hkn
   obtain ⟨h3l,y0,y1,yf0,yf1⟩:=aa1 hf3
   obtain ⟨h2l,x0,x1,xf0,xf1⟩:=aa1 hf2
   clear hbw hf2 hf3 ho
   go_wp2
   exact bodyPost_ret (v:=.agg #[.bool ng,.slice a m c]) (af7 (g:=w.heap.size) rfl rfl (lvw2 (adz HF2.out _ _))) rfl ⟨_,rfl,HO.out.ru (ae6 HF2.out _ _),(HW.out.setCell (Nat.le_refl _) _).setCell (Nat.le_refl _) _⟩
set_option maxRecDepth 20000 in
set_option maxHeartbeats 8000000 in
theorem apr (w:World) (vr vs:Value) (rs ss:List Int) (L:Nat) (z:Int) (hr:IsRow w vr rs L) (hs:IsRow w vs ss L) (hl:rs.length=ss.length+1) (hn:ss.length≤1000000000) (hL:L≤100000000) (hz:rs[ss.length]? = some z) :
  Calls Tryz.prog 8 #[vr,vs] w fun e w'=>∃ r,e=.returned (.tuple #[r,.int .i64 0])∧FrW w.heap.size (wsN rs ss ss.length+z) (3*L+2) r w'∧Below w.heap.size w w' := by
 obtain ⟨ar,cr,rfl,_⟩:=hr.parts
 obtain ⟨as_,cs_,rfl,_⟩:=hs.parts
 obtain ⟨b,off,ngx,ax,mx,cx,rfl,hbl,x0,x1,hx⟩:=hr.cell hz
 have hb0:=hAl w (.cells #[.bool false,.slice none 0 0] 33)
 have hf0:=heap_alloc_new w (.cells #[.bool false,.slice none 0 0] 33)
 have HR:=hide (hr.below hb0)
 have HS:=hide (hs.below hb0)
 have HX:=hide (hx.ru (Ru.of_below hb0))
 replace x0:=(hb0.cell (p:=⟨b,off+ss.length*2,none⟩) hbl).trans x0
 replace x1:=(hb0.cell (p:=⟨b,off+ss.length*2+1,none⟩) hbl).trans x1
 have HL:=hide hl
 clear hr hs hx hz
 generalize hmm:rs.length=m0 at *
 generalize hnn:ss.length=n at *
 have hne:((m0:Int) != (n:Int)+1)=false:=by simp;omega
 have hlt' : (n:Int)<(m0:Int):=by omega
 have HMM:=hide hmm
 clear hl hmm
 go_enter Tryz.func8,Tryz.ntmps8
 go_wp2_with fail
 generalize w.alloc (.cells #[.bool false,.slice none 0 0] 33)=w5 at *
 have HF0:=hide hf0
 have HB0:=hide hb0
 have hb5:b<w5.heap.size:=Nat.lt_of_lt_of_le hbl hb0.size
 have HN:=hide hnn
 clear hf0 hb0 hnn
 go_region_law (first | (refine adk rfl 17 #[.tmp 13,.tmp 14] #[23,23] rfl akp #[.slice (some ⟨b,off,none⟩) m0 cr,.slice as_ n cs_] (by simp [Act.eval,Act.put]) (akq _ _ _ rs ss L (HR.out.below (show Below w5.heap.size w5 _ by (repeat' first|with_reducible(first|exact Below.refl _ _|assumption|refine gdrewN ?_ _|refine Below.alloc ?_ ?_ _|refine Below.drew ?_|refine Below.setCell ?_ ?_ _)|go_size))) (HS.out.below (show Below w5.heap.size w5 _ by (repeat' first|with_reducible(first|exact Below.refl _ _|assumption|refine gdrewN ?_ _|refine Below.alloc ?_ ?_ _|refine Below.drew ?_|refine Below.setCell ?_ ?_ _)|go_size))) (by have:=HL.out;have:=HN.out;have:=HMM.out;omega) (by have:=HN.out;omega) hL) ?_;rintro e w7 ⟨v7,rfl,h7,hb7⟩;obtain ⟨ng7,ao7,k7,cap7,rfl⟩:=h7.agg;have hb57:Below w5.heap.size w5 w7:=(show Below w5.heap.size w5 _ by (repeat' first|with_reducible(first|exact Below.refl _ _|assumption|refine gdrewN ?_ _|refine Below.alloc ?_ ?_ _|refine Below.drew ?_|refine Below.setCell ?_ ?_ _)|go_size)).trans (hb7.mono (by simp));have HB57:=hide hb57;have H7:=hide h7;have x07:=(hb57.cell (p:=⟨b,off+n*2,none⟩) hb5).trans x0;have x17:=(hb57.cell (p:=⟨b,off+n*2+1,none⟩) hb5).trans x1;clear h7 hb7 hb57;refine ⟨_,rfl,?_⟩) | (refine adk rfl 16 #[.tmp 15,.tmp 20] #[33,33] rfl ai9 #[.agg #[.bool ng7,.slice ao7 k7 cap7],.agg #[.bool ngx,.slice ax mx cx]] (by simp [Act.eval]) (addF _ (wsN rs ss n) z _ _ (2*L+1) L (by rw [←HN.out];exact H7.out.is) (HX.out.ru (Ru.of_below HB57.out)) (by omega) (by omega)) ?_;rintro e w8 ⟨v8,rfl,h8,hb8⟩;obtain ⟨ng8,ao8,k8,cap8,rfl⟩:=h8.agg;have hb58:Below w5.heap.size w5 w8:=HB57.out.trans (hb8.mono HB57.out.size);have HB58:=hide hb58;have H8:=hide (h8.low (Nat.le_trans HB0.out.size HB57.out.size));have hc8:=(hb58.block _ (aaa HF0.out)).trans HF0.out;have HC8:=hide hc8;have hc8' := aa1 hc8;obtain ⟨hcl8,y08,y18,yf08,yf18⟩:=hc8';clear h8 hb8 hb58 hc8;refine ⟨_,rfl,?_⟩))
 all_goals (
  go_wp2
  exact bodyPost_ret (v:=.tuple #[.agg #[.bool ng8,.slice ao8 k8 cap8],.int .i64 0]) (aio (g:=w.heap.size) rfl rfl (lvw2 (adz HC8.out _ _)) rfl) rfl ⟨_,rfl,(H8.out.ru (ae6 HC8.out _ _)).to rfl (by omega),((HB0.out.trans (HB58.out.mono HB0.out.size)).setCell (Nat.le_refl _) _).setCell (Nat.le_refl _) _⟩)
end Lm
end Go.Proofs.YtgclhjjmleiggaaGreatDoor
namespace Go.Proofs.YtgclhjjmleiggaaGreatDoor
namespace Lm
open Go Go.RowKit
open Dm (WFr)
def CanRow (w:World) (v:Value) (zs:List Int) (L:Nat):Prop:=∃ es:List WE,Rw w v es∧es.length=zs.length∧∀ (k:Nat) (e:WE) (z:Int),es[k]? = some e→zs[k]? = some z→Canon e.zs∧val e.zs=(z.natAbs:Int)∧e.ng=decide (z<0)∧e.zs.length≤L
theorem CanRow.below {w w' : World} {v:Value} {zs:List Int} {L:Nat} (h:CanRow w v zs L) (hb:Below w.heap.size w w'):CanRow w' v zs L:=by
 obtain ⟨es,h1,h2,h3⟩:=h
 exact ⟨es,h1.below hb,h2,h3⟩
theorem CanRow.is {w:World} {v:Value} {zs:List Int} {L:Nat} (h:CanRow w v zs L):IsRow w v zs L:=by
 obtain ⟨es,h1,h2,h3⟩:=h
 refine ⟨es,h1,?_,?_⟩
 ·apply List.ext_getElem?
  intro k
  rw [List.getElem?_map]
  cases hk:es[k]? with
  | none =>
   rw [List.getElem?_eq_none_iff] at hk
   rw [Option.map_none,eq_comm,List.getElem?_eq_none_iff]
   omega
  | some e =>
   have hkl:=(List.getElem?_eq_some_iff.1 hk).1
   obtain ⟨z,hz⟩:∃ z,zs[k]? = some z:=⟨_,List.getElem?_eq_getElem (by omega)⟩
   obtain ⟨c1,c2,c3,_⟩:=h3 k e z hk hz
   rw [hz,Option.map_some]
   congr 1
   unfold WE.z sg
   rw [c2,c3]
   by_cases hn:z<0
   ·rw [if_pos (decide_eq_true hn)];omega
   ·rw [if_neg (by simpa using hn)];omega
 ·intro e he
  obtain ⟨k,hk⟩:=List.mem_iff_getElem?.1 he
  have hkl:=(List.getElem?_eq_some_iff.1 hk).1
  obtain ⟨z,hz⟩:∃ z,zs[k]? = some z:=⟨_,List.getElem?_eq_getElem (by omega)⟩
  exact (h3 k e z hk hz).2.2.2
theorem akr (w:World) (v v' : Value) (zs:List Int) (L M:Nat) (h:CanRow w v zs L) (h' : CanRow w v' zs M) :
  Calls Tryz.prog 10 #[v,v'] w fun e w'=>e=.returned (.bool true)∧Below w.heap.size w w' := by
 obtain ⟨es,h1,h2,h3⟩:=h
 obtain ⟨fs,g1,g2,g3⟩:=h'
 obtain ⟨a,c,rfl,_⟩:=id h1.cl
 obtain ⟨a',c',rfl,_⟩:=id g1.cl
 refine app w a _ c es h1 a' _ c' fs g1 ?_
 unfold SameR
 apply List.ext_getElem?
 intro k
 rw [List.getElem?_map,List.getElem?_map]
 cases hk:es[k]? with
 | none =>
  rw [List.getElem?_eq_none_iff] at hk
  rw [(List.getElem?_eq_none_iff (l:=fs)).2 (by omega)]
 | some e =>
  have hkl:=(List.getElem?_eq_some_iff.1 hk).1
  obtain ⟨z,hz⟩:∃ z,zs[k]? = some z:=⟨_,List.getElem?_eq_getElem (by omega)⟩
  obtain ⟨f,hf⟩:∃ f,fs[k]? = some f:=⟨_,List.getElem?_eq_getElem (by omega)⟩
  obtain ⟨c1,c2,c3,_⟩:=h3 k e z hk hz
  obtain ⟨d1,d2,d3,_⟩:=g3 k f z hf hz
  rw [hf,Option.map_some,Option.map_some,WE.raw,WE.raw,c3,d3,adg c1 d1 (c2.trans d2.symm)]
theorem aks {ops:Array Oper} {rest:List Oper} {o:Oper} {a:Act} {w:World} {Q:Exit→Act→World→Prop} {R:Value→World→Prop} (hg:o.guard=none) (h:Does Tryz.prog o a.eval w R) (hK:∀ v w',R v w'→wpList Tryz.prog ops Q rest (a.put o.dst v) w'):wpList Tryz.prog ops Q (o :: rest) a w:=by
 refine wpList_plain hg fun K hK'=>?_
 exact Does.wp h (fun v w' hr=>hK' _ _ (hK v w' hr))
set_option maxRecDepth 20000 in
set_option maxHeartbeats 1000000 in
theorem akt (w:World) (v:Int) (h1 : -9223372036854775808≤v) (h2:v≤9223372036854775807) (h0:v<0) :
  Calls Tryz.prog 19 #[.int .i64 v] w fun e w'=>∃ r,e=.returned r∧FrW w.heap.size v 2 r w'∧Below w.heap.size w w' := by
 obtain ⟨i0,hi,hz0,hz1,hz2⟩:=info_parts abu
 have hf0:=heap_alloc_new w (.cells #[.bool false,.slice none 0 0] 33)
 have hb0:=hAl w (.cells #[.bool false,.slice none 0 0] 33)
 generalize hE:w.alloc (.cells #[.bool false,.slice none 0 0] 33)=w0 at *
 have E0:=hide hE
 have HF0:=hide hf0
 have HB0:=hide hb0
 clear hE hf0 hb0
 have hw:IntKind.u64.wrap (-IntKind.u64.wrap v) = -v:=by rw [IntKind.wrap_u64,IntKind.wrap_u64];omega
 go_enter Tryz.func19,Tryz.ntmps19
 go_wp2
 rw [E0.out]
 clear hw
 go_loopw [3,4] (fun uv mv wr=>∃ (u:Int) (ls:List Int),uv=.int .u64 u∧0≤u∧u<18446744073709551616∧Limb ls∧val ls+pw ls.length*u = -v∧(u=0→tl ls=ls.length)∧wr.ownsRow w0.heap.size 68 1 mv ls.length (ls.map (Value.int .u32))∧Below w0.heap.size w0 wr) (fun uv _ _=>(intOf uv).toNat)
 case atStart=>exact ⟨-v,[],rfl,by omega,by omega,aaf,by simp [val,pw],fun _=>rfl,World.ownsRow_nil _ _ _ _,Below.refl _ _⟩
 case round =>
  obtain ⟨u,ls,rfl,hu0,hu1,hls,hv,htop,hown,hbel⟩:=hrel
  have HL:=hide hls
  have HV:=hide hv
  have HT:=hide htop
  clear hls hv htop
  by_cases hu:0<u
  ·have hroom:=aor HL.out hu (by rw [HV.out];omega)
   have HV' := hide (aoq HV.out)
   have HT' : Hid (u / 4294967296=0→tl (ls ++ [u % 4294967296])=(ls ++ [u % 4294967296]).length):=fun h=>atj hu h
   go_wp2_with (at_builtin;refine wpList_append_own _ rfl (.tmp 13) (.tmp 16) 31 rfl w0.heap.size 68 i0 (.int .u32 0) 1 4 Tryz.underlying31 hi hz0 hz1 hz2 rfl (by decide) _ _ _ rfl (hown.alloc _) ⟨wr.heap.size,0,none⟩ 1 1 [.int .u32 (u % 4294967296)] rfl rfl (cell_one_new _ _ _) ?c2 ?c3 ?c4 ?c5 ?_)
   case c2=>first | rfl | (intro x hx;simp at hx;subst hx;rfl)
   case c3=>unfold maxLen;omega
   case c4=>omega
   case c5=>have:=hbel.size;first | omega | (simp;omega)
   intro v4 w4 hown4 hgrow4 _
   have R:=aij hown4 hgrow4 hbel hbel.size hown.lt
   clear hown4 hgrow4 hown
   go_wp2
   go_roundw
   case rel=>exact ⟨u / 4294967296,ls ++ [u % 4294967296],rfl,by omega,by omega,aan.2 ⟨HL.out,aag.2 ⟨by omega,aaf⟩⟩,HV'.out,HT'.out,by simpa using R.1,R.2⟩
   case measure=>simp [intOf];omega
  ·have hu' : u=0:=by omega
   subst hu'
   have hval:val ls = -v:=by have:=HV.out;rwa [Int.mul_zero,Int.add_zero] at this
   have hcan:Canon ls:=⟨HL.out,HT.out rfl⟩
   have hlen:ls.length≤2:=aa9 hcan (m:=2) (by rw [hval,show pw 2=18446744073709551616 from by decide];omega)
   have how:=adh hown HL.out
   obtain ⟨ao,cap,hmv,_⟩:=id how
   subst hmv
   have hfr:FrW w0.heap.size v 2 (.agg #[.bool true,.slice ao ls.length cap]) wr:=by
    refine ⟨_,_,_,_,w0.heap.size,wr.heap.size,rfl,⟨⟨how,hcan,by rw [hval];omega,fun hc g off hg=>?_⟩,by simp;omega⟩,Nat.le_refl _,Nat.le_refl _,hlen⟩
    subst hg
    obtain ⟨ao',cap',e1,_,_,_,e4⟩:=how
    simp only [Value.slice.injEq] at e1
    obtain ⟨rfl,_,rfl⟩:=e1
    rcases e4 with e4 | ⟨g',off',cur,e5,hB',hh,_⟩
    ·omega
    ·simp only [Option.some.injEq,Addr.mk.injEq] at e5
     obtain ⟨rfl,_,_⟩:=e5
     exact ⟨hB',aaa hh⟩
   have HFR:=hide (hfr.low HB0.out.size)
   have HFx:=hide ((hbel.block _ (aaa HF0.out)).trans HF0.out)
   have HBx:=hide (HB0.out.trans (hbel.mono HB0.out.size))
   obtain ⟨hfl,c0,c1,fr0,fr1⟩:=aa1 HFx.out
   have hd:decide (v<0)=true:=by simp;omega
   clear hval hown how hfr hbel hcan
   go_wp2
   exact bodyPost_ret (v:=.agg #[.bool true,.slice ao ls.length cap]) (af7 (g:=w.heap.size) rfl rfl (lvw2 (adz HFx.out _ _))) rfl ⟨_,rfl,HFR.out.ru (ae6 HFx.out _ _),(HBx.out.setCell (Nat.le_refl _) _).setCell (Nat.le_refl _) _⟩
set_option maxRecDepth 20000 in
set_option maxHeartbeats 1000000 in
theorem aku (w:World) (v:Int) (h1 : -9223372036854775808≤v) (h2:v≤9223372036854775807) (h0:¬ v<0) :
  Calls Tryz.prog 19 #[.int .i64 v] w fun e w'=>∃ r,e=.returned r∧FrW w.heap.size v 2 r w'∧Below w.heap.size w w' := by
 obtain ⟨i0,hi,hz0,hz1,hz2⟩:=info_parts abu
 have hf0:=heap_alloc_new w (.cells #[.bool false,.slice none 0 0] 33)
 have hb0:=hAl w (.cells #[.bool false,.slice none 0 0] 33)
 generalize hE:w.alloc (.cells #[.bool false,.slice none 0 0] 33)=w0 at *
 have E0:=hide hE
 have HF0:=hide hf0
 have HB0:=hide hb0
 clear hE hf0 hb0
 have hw:True:=trivial
 go_enter Tryz.func19,Tryz.ntmps19
 go_wp2
 rw [E0.out]
 clear hw
 go_loopw [3,4] (fun uv mv wr=>∃ (u:Int) (ls:List Int),uv=.int .u64 u∧0≤u∧u<18446744073709551616∧Limb ls∧val ls+pw ls.length*u=v∧(u=0→tl ls=ls.length)∧wr.ownsRow w0.heap.size 68 1 mv ls.length (ls.map (Value.int .u32))∧Below w0.heap.size w0 wr) (fun uv _ _=>(intOf uv).toNat)
 case atStart=>exact ⟨v,[],rfl,by omega,by omega,aaf,by simp [val,pw],fun _=>rfl,World.ownsRow_nil _ _ _ _,Below.refl _ _⟩
 case round =>
  obtain ⟨u,ls,rfl,hu0,hu1,hls,hv,htop,hown,hbel⟩:=hrel
  have HL:=hide hls
  have HV:=hide hv
  have HT:=hide htop
  clear hls hv htop
  by_cases hu:0<u
  ·have hroom:=aor HL.out hu (by rw [HV.out];omega)
   have HV' := hide (aoq HV.out)
   have HT' : Hid (u / 4294967296=0→tl (ls ++ [u % 4294967296])=(ls ++ [u % 4294967296]).length):=fun h=>atj hu h
   go_wp2_with (at_builtin;refine wpList_append_own _ rfl (.tmp 13) (.tmp 16) 31 rfl w0.heap.size 68 i0 (.int .u32 0) 1 4 Tryz.underlying31 hi hz0 hz1 hz2 rfl (by decide) _ _ _ rfl (hown.alloc _) ⟨wr.heap.size,0,none⟩ 1 1 [.int .u32 (u % 4294967296)] rfl rfl (cell_one_new _ _ _) ?c2 ?c3 ?c4 ?c5 ?_)
   case c2=>first | rfl | (intro x hx;simp at hx;subst hx;rfl)
   case c3=>unfold maxLen;omega
   case c4=>omega
   case c5=>have:=hbel.size;first | omega | (simp;omega)
   intro v4 w4 hown4 hgrow4 _
   have R:=aij hown4 hgrow4 hbel hbel.size hown.lt
   clear hown4 hgrow4 hown
   go_wp2
   go_roundw
   case rel=>exact ⟨u / 4294967296,ls ++ [u % 4294967296],rfl,by omega,by omega,aan.2 ⟨HL.out,aag.2 ⟨by omega,aaf⟩⟩,HV'.out,HT'.out,by simpa using R.1,R.2⟩
   case measure=>simp [intOf];omega
  ·have hu' : u=0:=by omega
   subst hu'
   have hval:val ls=v:=by have:=HV.out;rwa [Int.mul_zero,Int.add_zero] at this
   have hcan:Canon ls:=⟨HL.out,HT.out rfl⟩
   have hlen:ls.length≤2:=aa9 hcan (m:=2) (by rw [hval,show pw 2=18446744073709551616 from by decide];omega)
   have how:=adh hown HL.out
   obtain ⟨ao,cap,hmv,_⟩:=id how
   subst hmv
   have hfr:FrW w0.heap.size v 2 (.agg #[.bool false,.slice ao ls.length cap]) wr:=by
    refine ⟨_,_,_,_,w0.heap.size,wr.heap.size,rfl,⟨⟨how,hcan,by rw [hval];omega,fun hc g off hg=>?_⟩,by simp;omega⟩,Nat.le_refl _,Nat.le_refl _,hlen⟩
    subst hg
    obtain ⟨ao',cap',e1,_,_,_,e4⟩:=how
    simp only [Value.slice.injEq] at e1
    obtain ⟨rfl,_,rfl⟩:=e1
    rcases e4 with e4 | ⟨g',off',cur,e5,hB',hh,_⟩
    ·omega
    ·simp only [Option.some.injEq,Addr.mk.injEq] at e5
     obtain ⟨rfl,_,_⟩:=e5
     exact ⟨hB',aaa hh⟩
   have HFR:=hide (hfr.low HB0.out.size)
   have HFx:=hide ((hbel.block _ (aaa HF0.out)).trans HF0.out)
   have HBx:=hide (HB0.out.trans (hbel.mono HB0.out.size))
   obtain ⟨hfl,c0,c1,fr0,fr1⟩:=aa1 HFx.out
   have hd:decide (v<0)=false:=by simp;omega
   clear hval hown how hfr hbel hcan
   go_wp2
   exact bodyPost_ret (v:=.agg #[.bool false,.slice ao ls.length cap]) (af7 (g:=w.heap.size) rfl rfl (lvw2 (adz HFx.out _ _))) rfl ⟨_,rfl,HFR.out.ru (ae6 HFx.out _ _),(HBx.out.setCell (Nat.le_refl _) _).setCell (Nat.le_refl _) _⟩
theorem ar6 (w:World) (v:Int) (h1 : -9223372036854775808≤v) (h2:v≤9223372036854775807) :
  Calls Tryz.prog 19 #[.int .i64 v] w fun e w'=>∃ r,e=.returned r∧FrW w.heap.size v 2 r w'∧Below w.heap.size w w' := by
 by_cases h0:v<0
 ·exact akt w v h1 h2 h0
 ·exact aku w v h1 h2 h0
set_option maxRecDepth 20000 in
set_option maxHeartbeats 4000000 in
theorem aup (w:World) (v:Value) (zs:List Int) (h:Nums w v zs) (hz:∀ z ∈ zs,-9223372036854775808≤z∧z≤9223372036854775807) (hl:zs.length≤1000) :
  Calls Tryz.prog 11 #[v] w fun e w'=>∃ r,e=.returned r∧CanRow w' r zs 2∧Below w.heap.size w w' := by
 obtain ⟨ao,cap,rfl,_⟩:=id h
 have H:=hide h
 have HZ:=hide hz
 clear h hz
 obtain ⟨n,hn⟩:∃ n,zs.length=n:=⟨_,rfl⟩
 rw [hn] at H hl ⊢
 have HN:=hide hn
 clear hn
 go_enter Tryz.func11,Tryz.ntmps11
 go_wp2_with fail
 go_loopw [3,4] (fun ov iv wr=>∃ (k:Nat) (es:List WE),iv=.int .i64 k∧k≤n∧Below w.heap.size w wr∧es.length=k∧RwO w.heap.size wr ov es∧∀ (j:Nat) (e:WE) (z:Int),es[j]? = some e→zs[j]? = some z→Canon e.zs∧val e.zs=(z.natAbs:Int)∧e.ng=decide (z<0)∧e.zs.length≤2) (fun _ iv _=>n - (intOf iv).toNat)
 case atStart=>exact ⟨0,[],rfl,Nat.zero_le _,Below.refl _ _,rfl,aum _ _,fun j e z he=>(by simp at he)⟩
 case round =>
  obtain ⟨k,es,rfl,hk,hbw,hes,hown,hall⟩:=hrel
  have HW:=hide hbw
  have HES:=hide hes
  have HOWN:=hide hown
  have HALL:=hide hall
  by_cases hlt:k<n
  ·obtain ⟨b,off,rfl,hc⟩:=(show Nums wr (.slice ao n cap) zs from Ce.below H.out hbw).cell (i:=k) (by have:=HN.out;omega)
   have hget:zs[k]? = some (zs[k]'(by have:=HN.out;omega)):=List.getElem?_eq_getElem _
   generalize zs[k]'(by have:=HN.out;omega)=z at hc hget
   have HG:=hide hget
   have hzb:=HZ.out z (List.mem_of_getElem? hget)
   have hlt' : (k:Int)<(n:Int):=by omega
   obtain ⟨aov,capv,hov,_⟩:=Cl.own hown.own
   subst hov
   clear hbw hes hown hall hget
   go_wp2_with fail
   refine (ar6 wr z hzb.1 hzb.2).mono ?_
   rintro e w2 ⟨r2,rfl,hf2,hb2⟩
   obtain ⟨ng2,ao2,cap2,rs2,B2,T2,rfl,hwf,hB2,hT2,hl2⟩:=hf2
   have hA:=hAl w2 (.cells #[.bool ng2,.slice ao2 rs2.length cap2] 33)
   have hb2' := hb2.trans (hA.mono hb2.size)
   have hR2:=HOWN.out.below hb2'
   have hO2:One _ w2.heap.size ng2 ao2 rs2.length cap2:=heap_alloc_new w2 (.cells #[.bool ng2,.slice ao2 rs2.length cap2] 33)
   have hS2:Ow w.heap.size _ (.slice ao2 rs2.length cap2) rs2:=(hwf.fr.ow.mono (Nat.le_trans HW.out.size hB2)).below hA
   have hsz:w.heap.size≤(w2.alloc (.cells #[.bool ng2,.slice ao2 rs2.length cap2] 33)).heap.size:=Nat.le_trans HW.out.size hb2'.size
   go_wp2_with (at_builtin;refine aks rfl (aun (i:=11) (j:=17) rfl rfl hR2 hO2 hS2 (by rw [HES.out];omega) hsz) ?_)
   intro v3 w3 hR3 hb3
   obtain ⟨aov3,capv3,hov3,_⟩:=Cl.own hR3.own
   subst hov3
   have HR3:=hide hR3
   have HB3:=hide ((HW.out.trans (hb2'.mono HW.out.size)).trans hb3)
   have HWF:=hide hwf
   clear hR3 hb3 hR2 hO2 hS2 hsz hA hb2 hb2' hwf hB2 hT2
   go_wp2
   go_roundw
   case rel =>
    refine ⟨k+1,es ++ [⟨ng2,ao2,rs2.length,cap2,rs2⟩],by go_num,by omega,HB3.out,by simp [HES.out],HR3.out,fun j e y he hy=>?_⟩
    by_cases hj:j<es.length
    ·rw [List.getElem?_append_left hj] at he
     exact HALL.out j e y he hy
    ·have hjl:=(List.getElem?_eq_some_iff.1 he).1
     simp at hjl
     obtain rfl:j=es.length:=by omega
     rw [List.getElem?_append_right (Nat.le_refl _)] at he
     simp at he
     subst he
     rw [HES.out,HG.out] at hy
     obtain rfl:=Option.some.inj hy
     exact ⟨HWF.out.fr.canon,HWF.out.fr.val,HWF.out.sgn,hl2⟩
   case measure=>simp [intOf];omega
  ·have hlt' : decide ((k:Int)<(n:Int))=false:=by simp;omega
   have hkn:k=n:=by omega
   subst hkn
   clear hbw hes hown hall
   go_wp2
   refine bodyPost_ret (v:=_) (ah3 rfl rfl) rfl ⟨_,rfl,⟨es,HOWN.out.rw,by rw [HES.out,HN.out],HALL.out⟩,HW.out⟩
end Lm
end Go.Proofs.YtgclhjjmleiggaaGreatDoor
namespace Go.Proofs.YtgclhjjmleiggaaGreatDoor
namespace Lm
open Go Go.RowKit
theorem ar7 (a b:Int):IntKind.i64.wrap (IntKind.i64.wrap a+b)=IntKind.i64.wrap (a+b):=by
 rw [IntKind.wrap_i64,IntKind.wrap_i64,IntKind.wrap_i64]
 omega
theorem auq {a:Int} (h:0≤a) (h' : a≤9223372036854775807):IntKind.i64.wrap a=a:=by
 rw [IntKind.wrap_i64]
 omega
set_option maxRecDepth 20000 in
set_option maxHeartbeats 4000000 in
theorem ar8 (w:World) (ax:Option Addr) (mx cx:Nat) (xs:List WE) (R:Rw w (.slice ax mx cx) xs) (hm:∀ e ∈ xs,e.m≤35184372088832) :
  Calls Tryz.prog 5 #[.slice ax mx cx] w fun e w'=>e=.returned (.int .i64 (IntKind.i64.wrap (lenW xs:Int)))∧Below w.heap.size w w' := by
 have HX:=hide R
 have HNx:Hid (mx=xs.length):=R.parts.1
 have hml:mx≤9223372036854775807:=by have:=R.parts;omega
 have HMM:=hide hm
 clear R hm
 go_enter Tryz.func5,Tryz.ntmps5
 go_wp2_with fail
 go_loopw [3,4] (fun sv iv wr=>∃ (k:Nat) (s:Int),iv=.int .i64 k∧k≤mx∧sv=.int .i64 s∧s=IntKind.i64.wrap (lenW (xs.take k):Int)∧Below w.heap.size w wr) (fun _ iv _=>mx - (intOf iv).toNat)
 case atStart=>exact ⟨0,0,rfl,Nat.zero_le _,rfl,rfl,Below.refl _ _⟩
 case round =>
  obtain ⟨k,s,rfl,hk,rfl,hsw,hbw⟩:=hrel
  have HSW:=hide hsw
  by_cases hlt:k<mx
  ·have hlt' : (k:Int)<(mx:Int):=by omega
   have HLT:=hide hlt
   obtain ⟨ex,hex⟩:∃ e,xs[k]? = some e:=⟨_,List.getElem?_eq_getElem (by have:=HNx.out;omega)⟩
   obtain ⟨bx,ox,hAx,hlx0,hcx⟩:=HX.out.cells (by have:=HNx.out;omega)
   subst hAx
   have hlx:bx<wr.heap.size:=Nat.lt_of_lt_of_le hlx0 hbw.size
   have x0:=(hbw.cell (p:=⟨bx,ox+k*2,none⟩) hlx0).trans (hcx _ _ (acf hex).1)
   have x1:wr.cell? ⟨bx,ox+k*2+1,none⟩ = some (.slice ex.a ex.m ex.c):=(hbw.cell (p:=⟨bx,ox+k*2+1,none⟩) hlx0).trans (hcx _ _ (acf hex).2)
   have hs:=apf hex
   have hem:=HMM.out ex (List.mem_of_getElem? hex)
   have HW:=hide hbw
   have K1:=hide (arb wr ex.ng ex.a ex.m ex.c (by omega))
   obtain ⟨t,hadd⟩:∃ t,IntKind.i64.wrap (s+(1+(ex.m:Int)))=t:=⟨_,rfl⟩
   have HT:Hid (t=IntKind.i64.wrap (lenW (xs.take (k+1)):Int)):=(show t = _ by
    rw [←hadd,HSW.out,ar7,hs]
    first | done | rfl | (congr 1;omega) | simp)
   clear hbw hs hsw hex hcx hlx
   go_wp2_with fail
   refine K1.out.mono ?_
   rintro e w2 ⟨rfl,hb2⟩
   have HB2:=hide (HW.out.trans (hb2.mono HW.out.size))
   clear hb2 x0 x1 hlx0
   go_wp2
   go_roundw
   case rel=>exact ⟨k+1,t,by go_num,HLT.out,rfl,HT.out,HB2.out⟩
   case measure=>have:=HLT.out;simp [intOf];omega
  ·have hlt' : decide ((k:Int)<(mx:Int))=false:=by simp;omega
   have hkn:k=mx:=by omega
   subst hkn
   have HW:=hide hbw
   clear hbw hsw
   go_wp2
   refine bodyPost_ret (v:=_) (ah3 rfl rfl) rfl ⟨?_,HW.out⟩
   have:=HSW.out
   rw [List.take_of_length_le (by have:=HNx.out;omega)] at this
   rw [←this]
   rfl
end Lm
end Go.Proofs.YtgclhjjmleiggaaGreatDoor
