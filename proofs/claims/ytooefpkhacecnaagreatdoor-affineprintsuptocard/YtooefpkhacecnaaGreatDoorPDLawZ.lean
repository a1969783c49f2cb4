/-
  The given statement on AffinePrints, for every input of bulk at most 1048576: the call answers true, and each argument reads behind it as it read before; and its card. Its condition: the two tables of unicode/utf8 are laid as the row lists them; the card ties that to the program's text. Beside it: The reader of equations: a fraction as a coefficient. The reader of equations: a variable. The reader of equations: a term. The reader of equations: what its parts come to, as relations on tokens; a term. The reader of equations: a side, and the whole. The reader of equations: an equation. What the tokens of a text are like. The program's Equation. The text of one row: what every program answers that is one. What every program answers that is one: package affine. What every program answers that is one: package affine, the walk. AffinePulls, the walk. Rows of whole numbers: how long they are together, copied, held against one another. Print, the program's and the document's, of any row over any names: both answer one text and one error. AffinePrints, the walk. A row of texts that is handed in: what it reads as.
-/
import Derived.Deep.DeepCutAuto
import Derived.Test.YtooefpkhacecnaaGreatDoorRows
import Derived.SliceStrings
import Derived.OpenShut
import Derived.Test.YtooefpkhacecnaaGreatDoorCards
import Derived.Test.YtooefpkhacecnaaGreatDoorTie
import Derived.ProofKit
import Derived.ShutString
import Derived.ChangeOld
import Derived.SizedLaws
import Derived.Lib.SmallJoins
import Derived.Lib.LaidU8
import Derived.Lib.LaidIn
import Derived.Deep.DeepHandedRow
import Derived.JoinedCond
import Derived.Test.YtooefpkhacecnaaGreatDoorPDLawZ4
set_option maxRecDepth 20000
set_option maxHeartbeats 40000000
namespace Go.Proofs.YtooefpkhacecnaaGreatDoor
namespace Lm
open Go Go.RowKit
theorem ahk:Has Tryz.prog 183:=by unfold Has;kernel_rfl
theorem ayr(w:World)(x y:Value)(z u:Int)(L M:Nat)(hx:IsW z L x w)(hy:IsW u M y w)(hL:L+M<=100000)(hu:u≠0)(N:Nat)(hf:Fit (Rat.divInt z u) N):
  Calls Tryz.prog 184 #[x,y] w fun e w'=>Below w.heap.size w w'/\∃v,e=.returned (.tuple #[v,.int .i64 0])/\OutQr (Rat.divInt z u) N v w':=by
 refine(awy w x y z u L M hx hy hL).mono ?_;rintro e w' ⟨hb,⟨_,v,rfl,ho⟩|⟨h0,_⟩⟩
 ·exact⟨hb,v,rfl,ho.fit hf⟩
 ·exact absurd h0 hu
theorem a0g(w:World)(x y:Value)(z u:Int)(L M:Nat)(hx:IsW z L x w)(hy:IsW u M y w)(hL:L+M<=100000)(hu:u=0):
  Calls Tryz.prog 184 #[x,y] w fun e w'=>Below w.heap.size w w'/\e=.returned (.tuple #[.agg #[.bool false,.slice none 0 0,.slice none 0 0],.int .i64 20]):=by
 refine(awy w x y z u L M hx hy hL).mono ?_;rintro e w' ⟨hb,⟨h0,_⟩|⟨_,rfl⟩⟩
 ·exact absurd hu h0
 ·exact⟨hb,rfl⟩
theorem ays:zOf ⟨#[]⟩=0:=by
 have h1:msplit ⟨#[]⟩=(false,⟨#[]⟩):=by kernel_rfl
 have h2:¬Dm.Fine ⟨#[]⟩:=by
  rintro ⟨h,_⟩;exact absurd h (by decide)
 rw[zOf,h1,xOf,if_neg h2];rfl
def OutQr0(v:Value):Prop:=v=.agg #[.bool false,.slice none 0 0,.slice none 0 0]
theorem aqz(w:World)(hT:Tabs w)(q b:Nat)(tv uv:Value)(l:List Tk)(hW:Wf l)(vs:List ByteArray)(i:Nat)(h:Rea w q b tv uv l vs i)(t t1 t2:Tk)(ht:l[i]? = some t)(ht1:l[i+1]? = some t1)(hs:tsg t1 sOver=true)(ht2:l[i+2]? = some t2)(hnz:zOf t2.text≠0)(N:Nat)(hz:Fit (Rat.divInt (zOf t.text) (zOf t2.text)) N):
  Calls Tryz.prog 169 #[.pointer (some ⟨q,0,none⟩)] w fun e w'=>∃v,e=.returned (.tuple #[v,.bool true])/\OutQr (Rat.divInt (zOf t.text) (zOf t2.text)) N v w'/\Rea w' q b tv uv l vs (i+3)/\Rc q q w w':=by
 have HT2:=hide ht2;have HTT:=hide hT;have HNZ:=hide hnz;have hj:i+1<l.length:=(List.getElem?_eq_some_iff.1 ht1).1;have HJ:=hide hj;have hj3:i+2+1<l.length:=by
  have h1:=(List.getElem?_eq_some_iff.1 ht2).1;by_cases he:i+2+1=l.length
  ·have h2:=(hW.stop _ _ ht2 he).2;rw[h2]at hnz;exact absurd ays hnz
  ·omega
 have HJ3:=hide hj3;clear hj3;have hi:i<=100000:=by have:=hW.len;omega
 have hq:=aaa h.blk;have hb0:Below w.heap.size w (w.alloc (.cells #[.bool false,.slice none 0 0,.slice none 0 0] 62)):=hAl _ _;have K:=hide (ac9 _ (hT.below hb0) q b tv uv l vs i t (h.below hb0) ht);have H:=hide h;have HT1:=hide ht1;have HS:=hide hs;have HW:=hide hW;have HZ:=hide hz;clear h ht ht1 ht2 hs hT hW hj hz hnz;go_enter Tryz.func169,Tryz.ntmps169
 go_wp2_with fail
 refine K.out.mono ?_;rintro r w1 ⟨v,rfl,ho,hb1⟩;obtain⟨ng,ao,cap,rs,rfl,_⟩:=id ho;have HO:=hide ho;have HB:=hide (hb0.trans (hb1.mono hb0.size));have hf:w1.heap[w.heap.size]? = some (.cells #[.bool false,.slice none 0 0,.slice none 0 0] 62 (0,0)):=(hb1.block _ (by simp)).trans (heap_alloc_new w _);have HF:=hide hf;have hqb:=(HB.out.block q hq).trans H.out.blk;have k1:w1.cell? ⟨q,1,none⟩=some (.int .i64 i):=by rw[cell_of_row _ _ _ _ _ (0,0) hqb];rfl
 have kf:w1.frozen? ⟨q,1,none⟩=false:=frozen_of_row w1 q 1 _ _ hqb;have hq1:q<w1.heap.size:=aaa hqb;clear ho hb1 K hb0 hf hqb;go_wp2_with fail
 obtain⟨n1,n2⟩:=H.out.next (.of_below HB.out) (HB.out.block q hq) HJ.out;have hmm:(w1.setCell ⟨q,1,none⟩ (.int .i64 ((i:Int)+1))).heap.size=w1.heap.size:=by simp[World.setCell]
 have hf2:((w1.setCell ⟨q,1,none⟩ (.int .i64 ((i:Int)+1))).alloc (.cells #[.bool ng,.slice ao rs.length cap] 60)).heap[w.heap.size]? = some (.cells #[.bool false,.slice none 0 0,.slice none 0 0] 62 (0,0)):=aa2 ((heap_setCell_other w1 ⟨q,1,none⟩ _ _ (by show w.heap.size≠q;omega)).trans HF.out);have hm2:((w1.setCell ⟨q,1,none⟩ (.int .i64 ((i:Int)+1))).alloc (.cells #[.bool ng,.slice ao rs.length cap] 60)).heap[w1.heap.size]? = some (.cells #[.bool ng,.slice ao rs.length cap] 60 (0,0)):=by rw[<-hmm];exact heap_alloc_new _ _
 have hu2:Ru w1 ((w1.setCell ⟨q,1,none⟩ (.int .i64 ((i:Int)+1))).alloc (.cells #[.bool ng,.slice ao rs.length cap] 60)):=(ag6 (H.out.below HB.out)).trans (Ru.of_below (hAl _ _));have K:=abt _ q b tv uv l vs (i+1) t1 (n1.below (hAl _ (.cells #[.bool ng,.slice ao rs.length cap] 60))) HT1.out sOver (fun h3=>HW.out.more HT1.out (by rw[h3];decide)) HW.out.len;rw[HS.out]at K;refine K.mono ?_;rintro r w2 ⟨rfl,hR2,hC2⟩;have HR2:=hide hR2;have HC2:=hide ((n2.trans (.of_below (hAl _ _))).trans hC2);have HO2:=hide (HO.out.ru (hu2.trans hC2.ru));have hf3:=(hC2.other _ (aaa hf2) (by omega) (by omega)).trans hf2;have hm3:=(hC2.other _ (aaa hm2) (by omega) (by omega)).trans hm2;have HF3:=hide hf3;obtain⟨_,m0,m1,_,_⟩:=aam hm3;have HM3:=hide hm3;clear hR2 hC2 hf2 hm2 hu2 K n1 n2 hmm hm3 hf3 k1 kf;rw[if_pos rfl]at HR2;have HTw:=hide (HTT.out.rc H.out HC2.out);go_wp2_with fail
 go_cut [5,6] (fun pv ev wx=>∃p ng4 ao4 m4 c4 bo4 k4 d4,pv=.pointer (some ⟨p,0,none⟩)/\ev=.int .i64 0/\wx.heap[p]? = some (.cells #[.bool ng4,.slice ao4 m4 c4,.slice bo4 k4 d4] 62 (0,0))/\OutQr (Rat.divInt (zOf t.text) (zOf t2.text)) N (.agg #[.bool ng4,.slice ao4 m4 c4,.slice bo4 k4 d4]) wx/\Below w2.heap.size w2 wx/\w2.heap.size<=p)
 case first=>
  go_region_law (first|(refine aa4 rfl 183 #[.tmp 23] #[102] rfl ahk #[.pointer (some ⟨q,0,none⟩)] (by simp[Act.eval,Act.put]) (ac9 _ (HTw.out.below (show Below w2.heap.size w2 _ by(repeat' first|with_reducible(first|exact Below.refl _ _|assumption|refine gdrewN ?_ _|refine Below.alloc ?_ ?_ _|refine Below.drew ?_|refine Below.setCell ?_ ?_ _)|go_size))) q b tv uv l vs (i+2) t2 (HR2.out.below (show Below w2.heap.size w2 _ by(repeat' first|with_reducible(first|exact Below.refl _ _|assumption|refine gdrewN ?_ _|refine Below.alloc ?_ ?_ _|refine Below.drew ?_|refine Below.setCell ?_ ?_ _)|go_size))) HT2.out) ?_;rintro e w3 ⟨v,rfl,ho3,hb3⟩;obtain⟨ng3,ao3,cap3,rs3,rfl,_⟩:=id ho3;have HO3:=hide ho3;have hb23:Below w2.heap.size w2 w3:=(show Below w2.heap.size w2 _ by(repeat' first|with_reducible(first|exact Below.refl _ _|assumption|refine gdrewN ?_ _|refine Below.alloc ?_ ?_ _|refine Below.drew ?_|refine Below.setCell ?_ ?_ _)|go_size)).trans (hb3.mono (by simp));have HB23:=hide hb23;have hm3:=(hb23.block _ (aaa HM3.out)).trans HM3.out;have hm3:=aam hm3;obtain⟨_,m03,m13,_,_⟩:=hm3;first|(have hz3:w3.heap[w2.heap.size]? = some (.cells #[.bool false,.slice none 0 0,.slice none 0 0] 62 (0,0)):=(hb3.block _ (by simp)).trans (heap_alloc_new w2 _);have hz3':=aag hz3;have HZ3:=hide hz3;clear hz3;obtain⟨_,z30,z31,z32,y30,y31,y32⟩:=hz3')|skip;clear ho3 hb3 hb23;refine⟨_,rfl,?_⟩)|(refine aa4 rfl 184 #[.tmp 22,.tmp 24] #[60,60] rfl an1 #[.agg #[.bool ng,.slice ao rs.length cap],.agg #[.bool ng3,.slice ao3 rs3.length cap3]] (by simp[Act.eval]) (ayr _ _ _ _ _ 6000 6000 (HO2.out.ru (Ru.of_below (HB23.out.trans ((show Below w3.heap.size w3 _ by(repeat' first|with_reducible(first|exact Below.refl _ _|assumption|refine gdrewN ?_ _|refine Below.alloc ?_ ?_ _|refine Below.drew ?_|refine Below.setCell ?_ ?_ _)|go_size)).mono HB23.out.size)))).is (HO3.out.ru (Ru.of_below (show Below w3.heap.size w3 _ by(repeat' first|with_reducible(first|exact Below.refl _ _|assumption|refine gdrewN ?_ _|refine Below.alloc ?_ ?_ _|refine Below.drew ?_|refine Below.setCell ?_ ?_ _)|go_size)))).is (by omega) HNZ.out N HZ.out) ?_;rintro e w4 ⟨hb4,v,rfl,ho4⟩;obtain⟨ng4,ao4,cap4,rs4,bo4,dap4,ss4,rfl,_⟩:=id ho4;have HO4:=hide ho4;clear ho4;have hb24:Below w2.heap.size w2 w4:=(show Below w2.heap.size w2 _ from(HB23.out.trans ((show Below w3.heap.size w3 _ by(repeat' first|with_reducible(first|exact Below.refl _ _|assumption|refine gdrewN ?_ _|refine Below.alloc ?_ ?_ _|refine Below.drew ?_|refine Below.setCell ?_ ?_ _)|go_size)).mono HB23.out.size))).trans (hb4.mono (by first|exact HB23.out.size|exact Nat.le_trans HB23.out.size (Nat.le_of_lt (by simp))));have HB24:=hide hb24;have hq4:=hb24.block q (aaa HR2.out.blk);have hq4:=hq4.trans HR2.out.blk;have q41:w4.cell? ⟨q,1,none⟩=some (.int .i64 ((i+2:Nat):Int)):=(by rw[cell_of_row _ _ _ _ _ (0,0) hq4];rfl);have q4f:w4.frozen? ⟨q,1,none⟩=false:=frozen_of_row w4 q 1 _ _ hq4;have hf4:=(hb24.block _ (aaa HF3.out)).trans HF3.out;have HF4:=hide hf4;have hf4:=aag hf4;obtain⟨hfl,c0,c1,c2,fr0,fr1,fr2⟩:=hf4;first|(have hz4:=(hb4.block _ (aaa HZ3.out)).trans HZ3.out;have hz4':=aag hz4;have HZ4:=hide hz4;clear hz4;obtain⟨_,z40,z41,z42,y40,y41,y42⟩:=hz4')|(have hz4:w4.heap[w3.heap.size]? = some (.cells #[.bool false,.slice none 0 0,.slice none 0 0] 62 (0,0)):=(hb4.block _ (by simp)).trans (heap_alloc_new w3 _);have hz4':=aag hz4;have HZ4:=hide hz4;clear hz4;obtain⟨_,z40,z41,z42,y40,y41,y42⟩:=hz4')|skip;clear hb4 hb24 hq4;refine⟨_,rfl,?_⟩))
  all_goals (
   go_wp2_with fail
   go_meet;have hb24:=HB24.out;have hb23:=HB23.out;first
   |exact⟨_,_,_,_,_,_,_,_,rfl,rfl,aff HZ4.out _ _ _,HO4.out.ru (ae0 HZ4.out _ _ _),((hb24.setCell (by first|exact Nat.le_refl _|exact hb23.size) _).setCell (by first|exact Nat.le_refl _|exact hb23.size) _).setCell (by first|exact Nat.le_refl _|exact hb23.size) _,by first|exact Nat.le_refl _|exact hb23.size⟩
   |exact⟨_,_,_,_,_,_,_,_,rfl,rfl,heap_alloc_new w4 _,HO4.out.ru (Ru.of_below (hAl _ _)),hb24.alloc hb24.size _,hb24.size⟩)
 case rest=>
  obtain⟨p,ng4,ao4,m4,c4,bo4,k4,d4,rfl,rfl,hp,ho4,hb,hpl⟩:=hcut;have HO4:=hide ho4;have hq2:=aaa HR2.out.blk;have hq4:=(hb.block q hq2).trans HR2.out.blk;have q41:wc.cell? ⟨q,1,none⟩=some (.int .i64 ((i+2:Nat):Int)):=by rw[cell_of_row _ _ _ _ _ (0,0) hq4];rfl
  rw[show((i+2:Nat):Int)=(i:Int)+2 from by omega]at q41;have q4f:wc.frozen? ⟨q,1,none⟩=false:=frozen_of_row wc q 1 _ _ hq4;have hf4:=(hb.block _ (aaa HF3.out)).trans HF3.out;have HF4:=hide hf4;obtain⟨hfl,c0,c1,c2,fr0,fr1,fr2⟩:=aag hf4;obtain⟨hpl2,p0,p1,p2,_,_,_⟩:=aag hp;have HB4:=hide hb;have hpq:p≠q:=by omega
  have hfp:=aaa HF3.out;have hpf:p≠w.heap.size:=by omega
  clear ho4 hb hq4 hf4 hp m0 m1;go_wp2;obtain⟨n1,n2⟩:=HR2.out.next (.of_below HB4.out) (HB4.out.block q hq2) HJ3.out;rw[show((i+2:Nat):Int)=(i:Int)+2 from by omega]at n1 n2;have hfq:(wc.setCell ⟨q,1,none⟩ (.int .i64 ((i:Int)+2+1))).heap[w.heap.size]? = some (.cells #[.bool false,.slice none 0 0,.slice none 0 0] 62 (0,0)):=(heap_setCell_other wc ⟨q,1,none⟩ _ _ (by show w.heap.size≠q;omega)).trans HF4.out;obtain⟨x1,x2⟩:=H.out.fill3 n1 (HC2.out.trans n2) hfq (Nat.le_refl _) (.bool ng4) (.slice ao4 m4 c4) (.slice bo4 k4 d4);exact bodyPost_ret (v:=.tuple #[.agg #[.bool ng4,.slice ao4 m4 c4,.slice bo4 k4 d4],.bool true]) (aeq (g:=w.heap.size) rfl rfl (lvr3 (aff hfq _ _ _)) rfl) rfl ⟨_,rfl,HO4.out.ru ((ag6 (HR2.out.below HB4.out)).trans (ae0 hfq _ _ _)),x1,x2⟩
theorem at0(w:World)(hT:Tabs w)(q b:Nat)(tv uv:Value)(l:List Tk)(hW:Wf l)(vs:List ByteArray)(i:Nat)(h:Rea w q b tv uv l vs i)(t t1 t2:Tk)(ht:l[i]? = some t)(ht1:l[i+1]? = some t1)(hs:tsg t1 sOver=true)(ht2:l[i+2]? = some t2)(hnz:zOf t2.text=0):
  Calls Tryz.prog 169 #[.pointer (some ⟨q,0,none⟩)] w fun e w'=>∃v,e=.returned (.tuple #[v,.bool false])/\OutQr0 v/\Rea w' q b tv uv l vs (i+2)/\Rc q q w w':=by
 have HT2:=hide ht2;have HTT:=hide hT;have HNZ:=hide hnz;have hj:i+1<l.length:=(List.getElem?_eq_some_iff.1 ht1).1;have HJ:=hide hj;have hi:i<=100000:=by have:=hW.len;omega
 have hq:=aaa h.blk;have hb0:Below w.heap.size w (w.alloc (.cells #[.bool false,.slice none 0 0,.slice none 0 0] 62)):=hAl _ _;have K:=hide (ac9 _ (hT.below hb0) q b tv uv l vs i t (h.below hb0) ht);have H:=hide h;have HT1:=hide ht1;have HS:=hide hs;have HW:=hide hW;clear h ht ht1 ht2 hs hT hW hj hnz;go_enter Tryz.func169,Tryz.ntmps169
 go_wp2_with fail
 refine K.out.mono ?_;rintro r w1 ⟨v,rfl,ho,hb1⟩;obtain⟨ng,ao,cap,rs,rfl,_⟩:=id ho;have HO:=hide ho;have HB:=hide (hb0.trans (hb1.mono hb0.size));have hf:w1.heap[w.heap.size]? = some (.cells #[.bool false,.slice none 0 0,.slice none 0 0] 62 (0,0)):=(hb1.block _ (by simp)).trans (heap_alloc_new w _);have HF:=hide hf;have hqb:=(HB.out.block q hq).trans H.out.blk;have k1:w1.cell? ⟨q,1,none⟩=some (.int .i64 i):=by rw[cell_of_row _ _ _ _ _ (0,0) hqb];rfl
 have kf:w1.frozen? ⟨q,1,none⟩=false:=frozen_of_row w1 q 1 _ _ hqb;have hq1:q<w1.heap.size:=aaa hqb;clear ho hb1 K hb0 hf hqb;go_wp2_with fail
 obtain⟨n1,n2⟩:=H.out.next (.of_below HB.out) (HB.out.block q hq) HJ.out;have hmm:(w1.setCell ⟨q,1,none⟩ (.int .i64 ((i:Int)+1))).heap.size=w1.heap.size:=by simp[World.setCell]
 have hf2:((w1.setCell ⟨q,1,none⟩ (.int .i64 ((i:Int)+1))).alloc (.cells #[.bool ng,.slice ao rs.length cap] 60)).heap[w.heap.size]? = some (.cells #[.bool false,.slice none 0 0,.slice none 0 0] 62 (0,0)):=aa2 ((heap_setCell_other w1 ⟨q,1,none⟩ _ _ (by show w.heap.size≠q;omega)).trans HF.out);have hm2:((w1.setCell ⟨q,1,none⟩ (.int .i64 ((i:Int)+1))).alloc (.cells #[.bool ng,.slice ao rs.length cap] 60)).heap[w1.heap.size]? = some (.cells #[.bool ng,.slice ao rs.length cap] 60 (0,0)):=by rw[<-hmm];exact heap_alloc_new _ _
 have hu2:Ru w1 ((w1.setCell ⟨q,1,none⟩ (.int .i64 ((i:Int)+1))).alloc (.cells #[.bool ng,.slice ao rs.length cap] 60)):=(ag6 (H.out.below HB.out)).trans (Ru.of_below (hAl _ _));have K:=abt _ q b tv uv l vs (i+1) t1 (n1.below (hAl _ (.cells #[.bool ng,.slice ao rs.length cap] 60))) HT1.out sOver (fun h3=>HW.out.more HT1.out (by rw[h3];decide)) HW.out.len;rw[HS.out]at K;refine K.mono ?_;rintro r w2 ⟨rfl,hR2,hC2⟩;have HR2:=hide hR2;have HC2:=hide ((n2.trans (.of_below (hAl _ _))).trans hC2);have HO2:=hide (HO.out.ru (hu2.trans hC2.ru));have hf3:=(hC2.other _ (aaa hf2) (by omega) (by omega)).trans hf2;have hm3:=(hC2.other _ (aaa hm2) (by omega) (by omega)).trans hm2;have HF3:=hide hf3;obtain⟨_,m0,m1,_,_⟩:=aam hm3;have HM3:=hide hm3;clear hR2 hC2 hf2 hm2 hu2 K n1 n2 hmm hm3 hf3 k1 kf;rw[if_pos rfl]at HR2;have HTw:=hide (HTT.out.rc H.out HC2.out);go_wp2_with fail
 go_cut [6] (fun ev wx=>ev=.int .i64 20/\Below w2.heap.size w2 wx)
 case first=>
  go_region_law (first|(refine aa4 rfl 183 #[.tmp 23] #[102] rfl ahk #[.pointer (some ⟨q,0,none⟩)] (by simp[Act.eval,Act.put]) (ac9 _ (HTw.out.below (show Below w2.heap.size w2 _ by(repeat' first|with_reducible(first|exact Below.refl _ _|assumption|refine gdrewN ?_ _|refine Below.alloc ?_ ?_ _|refine Below.drew ?_|refine Below.setCell ?_ ?_ _)|go_size))) q b tv uv l vs (i+2) t2 (HR2.out.below (show Below w2.heap.size w2 _ by(repeat' first|with_reducible(first|exact Below.refl _ _|assumption|refine gdrewN ?_ _|refine Below.alloc ?_ ?_ _|refine Below.drew ?_|refine Below.setCell ?_ ?_ _)|go_size))) HT2.out) ?_;rintro e w3 ⟨v,rfl,ho3,hb3⟩;obtain⟨ng3,ao3,cap3,rs3,rfl,_⟩:=id ho3;have HO3:=hide ho3;have hb23:Below w2.heap.size w2 w3:=(show Below w2.heap.size w2 _ by(repeat' first|with_reducible(first|exact Below.refl _ _|assumption|refine gdrewN ?_ _|refine Below.alloc ?_ ?_ _|refine Below.drew ?_|refine Below.setCell ?_ ?_ _)|go_size)).trans (hb3.mono (by simp));have HB23:=hide hb23;have hm3:=(hb23.block _ (aaa HM3.out)).trans HM3.out;have hm3:=aam hm3;obtain⟨_,m03,m13,_,_⟩:=hm3;first|(have hz3:w3.heap[w2.heap.size]? = some (.cells #[.bool false,.slice none 0 0,.slice none 0 0] 62 (0,0)):=(hb3.block _ (by simp)).trans (heap_alloc_new w2 _);have hz3':=aag hz3;have HZ3:=hide hz3;clear hz3;obtain⟨_,z30,z31,z32,y30,y31,y32⟩:=hz3')|skip;clear ho3 hb3 hb23;refine⟨_,rfl,?_⟩)|(refine aa4 rfl 184 #[.tmp 22,.tmp 24] #[60,60] rfl an1 #[.agg #[.bool ng,.slice ao rs.length cap],.agg #[.bool ng3,.slice ao3 rs3.length cap3]] (by simp[Act.eval]) (a0g _ _ _ _ _ 6000 6000 (HO2.out.ru (Ru.of_below (HB23.out.trans ((show Below w3.heap.size w3 _ by(repeat' first|with_reducible(first|exact Below.refl _ _|assumption|refine gdrewN ?_ _|refine Below.alloc ?_ ?_ _|refine Below.drew ?_|refine Below.setCell ?_ ?_ _)|go_size)).mono HB23.out.size)))).is (HO3.out.ru (Ru.of_below (show Below w3.heap.size w3 _ by(repeat' first|with_reducible(first|exact Below.refl _ _|assumption|refine gdrewN ?_ _|refine Below.alloc ?_ ?_ _|refine Below.drew ?_|refine Below.setCell ?_ ?_ _)|go_size)))).is (by omega) HNZ.out) ?_;rintro e w4 ⟨hb4,rfl⟩;have hb24:Below w2.heap.size w2 w4:=(show Below w2.heap.size w2 _ from(HB23.out.trans ((show Below w3.heap.size w3 _ by(repeat' first|with_reducible(first|exact Below.refl _ _|assumption|refine gdrewN ?_ _|refine Below.alloc ?_ ?_ _|refine Below.drew ?_|refine Below.setCell ?_ ?_ _)|go_size)).mono HB23.out.size))).trans (hb4.mono (by first|exact HB23.out.size|exact Nat.le_trans HB23.out.size (Nat.le_of_lt (by simp))));have HB24:=hide hb24;have hq4:=hb24.block q (aaa HR2.out.blk);have hq4:=hq4.trans HR2.out.blk;have q41:w4.cell? ⟨q,1,none⟩=some (.int .i64 ((i+2:Nat):Int)):=(by rw[cell_of_row _ _ _ _ _ (0,0) hq4];rfl);have q4f:w4.frozen? ⟨q,1,none⟩=false:=frozen_of_row w4 q 1 _ _ hq4;have hf4:=(hb24.block _ (aaa HF3.out)).trans HF3.out;have HF4:=hide hf4;have hf4:=aag hf4;obtain⟨hfl,c0,c1,c2,fr0,fr1,fr2⟩:=hf4;first|(have hz4:=(hb4.block _ (aaa HZ3.out)).trans HZ3.out;have hz4':=aag hz4;have HZ4:=hide hz4;clear hz4;obtain⟨_,z40,z41,z42,y40,y41,y42⟩:=hz4')|(have hz4:w4.heap[w3.heap.size]? = some (.cells #[.bool false,.slice none 0 0,.slice none 0 0] 62 (0,0)):=(hb4.block _ (by simp)).trans (heap_alloc_new w3 _);have hz4':=aag hz4;have HZ4:=hide hz4;clear hz4;obtain⟨_,z40,z41,z42,y40,y41,y42⟩:=hz4')|skip;clear hb4 hb24 hq4;refine⟨_,rfl,?_⟩))
  all_goals (
   go_wp2_with fail
   go_meet;have hb24:=HB24.out;have hb23:=HB23.out;first
   |exact⟨rfl,((hb24.setCell (by first|exact Nat.le_refl _|exact hb23.size) _).setCell (by first|exact Nat.le_refl _|exact hb23.size) _).setCell (by first|exact Nat.le_refl _|exact hb23.size) _⟩
   |exact⟨rfl,hb24.alloc hb24.size _⟩)
 case rest=>
  obtain⟨rfl,hb⟩:=hcut;have hf4:=(hb.block _ (aaa HF3.out)).trans HF3.out;have HF4:=hide hf4;obtain⟨hfl,c0,c1,c2,fr0,fr1,fr2⟩:=aag hf4;have HB4:=hide hb;clear hb hf4 m0 m1;go_wp2;obtain⟨x1,x2⟩:=H.out.fill3 (HR2.out.below HB4.out) (HC2.out.trans (.of_below HB4.out)) HF4.out (Nat.le_refl _) (.bool false) (.slice none 0 0) (.slice none 0 0);exact bodyPost_ret (v:=.tuple #[.agg #[.bool false,.slice none 0 0,.slice none 0 0],.bool false]) (aeq (g:=w.heap.size) rfl rfl (lvr3 (aff HF4.out _ _ _)) rfl) rfl ⟨_,rfl,rfl,x1,x2⟩
theorem ai2:Has Tryz.prog 65:=by unfold Has;kernel_rfl
theorem ai3:Has Tryz.prog 73:=by unfold Has;kernel_rfl
theorem ayt(w:World)(q b:Nat)(tv uv:Value)(l:List Tk)(vs:List ByteArray)(i:Nat)(h:Rea w q b tv uv l vs i)(t:Tk)(ht:l[i]? = some t)(x:Rat)(L:Nat)(xv av:Value)(hx:IsQ x L xv w)(hk:ixS t.text vs=none):
  Calls Tryz.prog 170 #[.pointer (some ⟨q,0,none⟩),xv,av] w fun e w'=>e=.returned (.bool false)/\Rea w' q b tv uv l vs i/\Rc q q w w':=by
 obtain⟨ng,ao,n,cap,xs,bo,m,dap,ys,p,d,rfl,_⟩:=hx.open;obtain⟨au,cu,rfl,_⟩:=h.vrs;have H:=hide h;have HT:=hide ht;have HK:=hide hk;have hq:=aaa h.blk;have k2:w.cell? ⟨q,2,none⟩=some (.slice au vs.length cu):=by rw[cell_of_row _ _ _ _ _ (0,0) h.blk];rfl
 have hf1:∀W,(Instr.field 109 (.agg #[.int .i64 t.kind,.string t.text,.int .i64 t.pl.b,.int .i64 t.pl.g,.int .i64 t.pl.l,.int .i64 t.pl.c]) 1).run Tryz.prog W=.ok (.string t.text) W:=fun W=>aql _ _ _ _ _ _ W
 clear h ht hx hk;generalize vs.length=nv at *
 go_enter Tryz.func170,Tryz.ntmps170
 go_wp2_with fail
 go_cut [7] (fun ev wx=>ev=.int .i64 (-1)/\Below w.heap.size w wx)
 case first=>
  go_region_law (first|(refine aa4 rfl 65 #[.tmp 12] #[102] rfl ai2 #[.pointer (some ⟨q,0,none⟩)] (by simp[Act.eval,Act.put]) (aa8 _ q b tv (.slice au nv cu) l vs i t (H.out.below (show Below w.heap.size w _ by(repeat' first|with_reducible(first|exact Below.refl _ _|assumption|refine gdrewN ?_ _|refine Below.alloc ?_ ?_ _|refine Below.drew ?_|refine Below.setCell ?_ ?_ _)|go_size))) HT.out) ?_;rintro e w1 ⟨rfl,hb1⟩;have hbw:Below w.heap.size w w1:=(show Below w.heap.size w _ by(repeat' first|with_reducible(first|exact Below.refl _ _|assumption|refine gdrewN ?_ _|refine Below.alloc ?_ ?_ _|refine Below.drew ?_|refine Below.setCell ?_ ?_ _)|go_size)).trans (hb1.mono (by simp));have HB1:=hide hbw;have k21:=(hbw.cell (p:=⟨q,2,none⟩) hq).trans k2;unfold Tk.av;clear hb1 hbw;refine⟨_,rfl,?_⟩)|(refine aa4 rfl 73 #[.tmp 11,.tmp 14] #[22,9] rfl ai3 #[.slice au nv cu,.string t.text] (by simp[Act.eval,Act.put]) (af2 _ _ _ _ vs t.text (H.out.below HB1.out).vrs) ?_;rintro e w2 ⟨rfl,rfl⟩;rw[HK.out];unfold ixV;refine⟨_,rfl,?_⟩))
  all_goals (
   go_wp2_with fail
   go_meet
   exact⟨rfl,HB1.out⟩)
 case rest=>
  obtain⟨rfl,hb⟩:=hcut;have HB:=hide hb;clear hb;go_wp2;refine bodyPost_ret (v:=_) (by simp[results,Tryz.results170,go_sem];try rfl) rfl ⟨rfl,H.out.below HB.out,.of_below HB.out⟩
theorem awq(w:World)(q b:Nat)(tv uv:Value)(l:List Tk)(vs:List ByteArray)(i:Nat)(h:Rea w q b tv uv l vs i)(t:Tk)(ht:l[i]? = some t)(x:Rat)(L:Nat)(xv av:Value)(hx:IsQ x L xv w)(g k:Nat)(rs:List Rat)(r:Rat)(sn:Bool)(hk:ixS t.text vs=some k)(hj:i+1<l.length)(hl:l.length<=100000)(hA:AddV q b g w av sn)(hR:RQ w g b rs L)(hr:rs[k]? = some r)(hL:L<=10000)(hfx:Fit x L)(hfr:Fit (r+sgq sn x) L)(hqb:q≠b)(hqg:g≠q):
  Calls Tryz.prog 170 #[.pointer (some ⟨q,0,none⟩),xv,av] w fun e w'=>e=.returned (.bool true)/\Rea w' q b tv uv l vs (i+1)/\Rc q b w w'/\RQ w' g b (rs.set k (r+sgq sn x)) L:=by
 have HX:=hide hx;obtain⟨f,cp,rfl,hf,hadd⟩:=ah3 hA rs L k r hr hL;have HADD:=hide hadd;have HR:=hide hR;have HF:=hide (And.intro hfx hfr);have HJ:=hide hj;have hi:i<=100000:=by omega
 have hent:∀args W,(callFunc f args).run Tryz.prog W=.ok (.enter f args) W:=hf.enter;clear hadd hA hR hr hfx hfr hj hl;obtain⟨ng,ao,n,cap,xs,bo,m,dap,ys,p,d,rfl,_⟩:=hx.open;obtain⟨au,cu,rfl,_⟩:=h.vrs;have H:=hide h;have HT:=hide ht;have HK:=hide hk;have hq:=aaa h.blk;have k2:w.cell? ⟨q,2,none⟩=some (.slice au vs.length cu):=by rw[cell_of_row _ _ _ _ _ (0,0) h.blk];rfl
 have hf1:∀W,(Instr.field 109 (.agg #[.int .i64 t.kind,.string t.text,.int .i64 t.pl.b,.int .i64 t.pl.g,.int .i64 t.pl.l,.int .i64 t.pl.c]) 1).run Tryz.prog W=.ok (.string t.text) W:=fun W=>aql _ _ _ _ _ _ W
 clear h ht hx hk;generalize vs.length=nv at *
 go_enter Tryz.func170,Tryz.ntmps170
 go_wp2_with fail
 go_cut [7] (fun ev wx=>ev=.int .i64 (k:Int)/\Below w.heap.size w wx/\wx.heap[w.heap.size]? = some (.cells #[.bool ng,.slice ao n cap,.slice bo m dap] 62 (0,0)))
 case first=>
  go_region_law (first|(refine aa4 rfl 65 #[.tmp 12] #[102] rfl ai2 #[.pointer (some ⟨q,0,none⟩)] (by simp[Act.eval,Act.put]) (aa8 _ q b tv (.slice au nv cu) l vs i t (H.out.below (show Below w.heap.size w _ by(repeat' first|with_reducible(first|exact Below.refl _ _|assumption|refine gdrewN ?_ _|refine Below.alloc ?_ ?_ _|refine Below.drew ?_|refine Below.setCell ?_ ?_ _)|go_size))) HT.out) ?_;rintro e w1 ⟨rfl,hb1⟩;have hbw:Below w.heap.size w w1:=(show Below w.heap.size w _ by(repeat' first|with_reducible(first|exact Below.refl _ _|assumption|refine gdrewN ?_ _|refine Below.alloc ?_ ?_ _|refine Below.drew ?_|refine Below.setCell ?_ ?_ _)|go_size)).trans (hb1.mono (by simp));have HB1:=hide hbw;have k21:=(hbw.cell (p:=⟨q,2,none⟩) hq).trans k2;have hbx:w1.heap[w.heap.size]? = some (.cells #[.bool ng,.slice ao n cap,.slice bo m dap] 62 (0,0)):=(hb1.block _ (by simp)).trans (heap_alloc_new w _);have HBX:=hide hbx;clear hbx;unfold Tk.av;clear hb1 hbw;refine⟨_,rfl,?_⟩)|(refine aa4 rfl 73 #[.tmp 11,.tmp 14] #[22,9] rfl ai3 #[.slice au nv cu,.string t.text] (by simp[Act.eval,Act.put]) (af2 _ _ _ _ vs t.text (H.out.below HB1.out).vrs) ?_;rintro e w2 ⟨rfl,rfl⟩;rw[HK.out];unfold ixV;refine⟨_,rfl,?_⟩))
  all_goals (
   go_wp2_with fail
   go_meet
   exact⟨rfl,HB1.out,HBX.out⟩)
 case rest=>
  obtain⟨rfl,hb,hbx⟩:=hcut;obtain⟨_,x0,x1,x2,_,_,_⟩:=aag hbx;have HB:=hide hb;have hkk:decide ((k:Int)<0)=false:=by simp
  clear hb hbx;go_wp2_with fail
  refine(HADD.out wc x _ HB.out (HR.out.below HB.out) (HX.out.ru (Ru.of_below HB.out)) HF.out.1 HF.out.2).mono ?_;rintro e w2 ⟨rfl,hrc,hrq⟩;have hqw:=(hrc.other q (Nat.lt_of_lt_of_le hq HB.out.size) hqb hqb).trans (HB.out.block q hq);have hrc':Rc q b w w2:=(Rc.of_below HB.out).trans hrc.wideR;have h2:Rea w2 q b tv (.slice au nv cu) l vs i:=H.out.rc hrc' (hqw.trans H.out.blk) H.out.lt;have HRC:=hide hrc';have HRQ:=hide hrq;have k1:w2.cell? ⟨q,1,none⟩=some (.int .i64 i):=by rw[cell_of_row _ _ _ _ _ (0,0) h2.blk];rfl
  have kf:w2.frozen? ⟨q,1,none⟩=false:=frozen_of_row w2 q 1 _ _ h2.blk;have hq2:=aaa h2.blk;have H2:=hide h2;clear hqw hrc hrc' hrq h2 x0 x1 x2;go_wp2;obtain⟨n1,n2⟩:=H2.out.next (Rc.refl _ _ _) rfl HJ.out;have hbq:b≠q:=fun e=>hqb e.symm
  refine bodyPost_ret (v:=_) (by simp[results,Tryz.results170,go_sem];try rfl) rfl ⟨rfl,n1,HRC.out.trans n2.wide,HRQ.out.rc n2 hqg hbq⟩
theorem at1:Has Tryz.prog 138:=by unfold Has;kernel_rfl
theorem aek{L:Nat}(h:1<=L):Fit (1:Rat) L:=by
 have h1:pw 1<=pw L:=aa9 h;have h2:(1:Int)<pw 1:=by decide
 exact⟨by show(1:Int)<_;omega,by show(1:Int)<_;omega⟩
theorem anm(w:World)(hT:Tabs w)(q b g:Nat)(tv uv:Value)(l:List Tk)(hW:Wf l)(vs:List ByteArray)(i:Nat)(h:Rea w q b tv uv l vs i)(t:Tk)(ht:l[i]? = some t)(L:Nat)(_hL:L<=10000)(hL1:1<=L)(av:Value)(sn:Bool)(hA:AddV q b g w av sn)(rs:List Rat)(hR:RQ w g b rs L)(_hqb:q≠b)(_hqg:g≠q)(h1:t.kind≠1)(h2:t.kind≠2):
  Calls Tryz.prog 136 #[.pointer (some ⟨q,0,none⟩),av] w fun e w'=>e=.returned (.bool false)/\Rea w' q b tv uv l vs i/\Rc q b w w'/\RQ w' g b rs L:=by
 have e1:(t.kind==1)=false:=beq_eq_false_iff_ne.2 h1;have e2:(t.kind==2)=false:=beq_eq_false_iff_ne.2 h2;clear h1 h2;have H:=hide h;have HT:=hide ht;have HTT:=hide hT;have HA:=hide hA;have HR:=hide hR;have HW:=hide hW;have hq:=aaa h.blk;have hgl:=aaa hR.slot;have hf0:∀W,(Instr.field 109 (.agg #[.int .i64 t.kind,.string t.text,.int .i64 t.pl.b,.int .i64 t.pl.g,.int .i64 t.pl.l,.int .i64 t.pl.c]) 0).run Tryz.prog W=.ok (.int .i64 t.kind) W:=fun W=>ady _ _ _ _ _ _ W
 clear h ht hA hR hT hW;go_enter Tryz.func136,Tryz.ntmps136
 go_wp2_with fail
 refine(aeb w 1 (by decide) (by decide)).mono ?_;rintro r w1 ⟨ng0,ao0,cap0,rs0,rfl,hw1,hl1,hb1⟩;have ho1:OutW 1 2 (.agg #[.bool ng0,.slice ao0 rs0.length cap0]) w1:=⟨_,_,_,_,rfl,hw1,hl1⟩;clear hw1 hl1;go_wp2_with fail
 refine(adt w1 _ _ _ ho1.is (by omega)).mono ?_;rintro r w2 ⟨v,rfl,ho2,hb2⟩;replace ho2:OutQr (1:Rat) L v w2:=OutQr.fit ho2 (aek hL1);obtain⟨ng1,ao1,cap1,rs1,bo1,dap1,ss1,rfl,_⟩:=id ho2;have hbw2:=hb1.trans (hb2.mono hb1.size);have hbw:Below w.heap.size w (w2.alloc (.cells #[.bool ng1,.slice ao1 rs1.length cap1,.slice bo1 ss1.length dap1] 62)):=hbw2.alloc hbw2.size _;clear ho1 hb1 hb2;go_wp2_with fail
 refine(aa8 _ q b tv uv l vs i t (H.out.below hbw) HT.out).mono ?_;rintro r w3 ⟨rfl,hb3⟩;have hbx:w3.heap[w2.heap.size]? = some (.cells #[.bool ng1,.slice ao1 rs1.length cap1,.slice bo1 ss1.length dap1] 62 (0,0)):=(hb3.block _ (by simp)).trans (heap_alloc_new w2 _);have HBX:=hide hbx;have HO:=hide (ho2.ru (Ru.of_below ((hAl w2 _).trans (hb3.mono (hAl w2 _).size))));have HB3:=hide (hbw.trans (hb3.mono hbw.size));have hf5:w.heap.size<=w2.heap.size:=hbw2.size;generalize w2.heap.size=f5 at *
 unfold Tk.av;clear hbw hbw2 hb3 hbx ho2;go_wp2;refine bodyPost_ret (v:=_) (by simp[results,Tryz.results136,go_sem];try rfl) rfl ⟨rfl,H.out.below HB3.out,.of_below HB3.out,HR.out.below HB3.out⟩
theorem aq0(w:World)(hT:Tabs w)(q b g:Nat)(tv uv:Value)(l:List Tk)(hW:Wf l)(vs:List ByteArray)(i:Nat)(h:Rea w q b tv uv l vs i)(t:Tk)(ht:l[i]? = some t)(L:Nat)(_hL:L<=10000)(hL1:1<=L)(av:Value)(sn:Bool)(hA:AddV q b g w av sn)(rs:List Rat)(hR:RQ w g b rs L)(_hqb:q≠b)(_hqg:g≠q)(h1:t.kind=1)(ok:Bool)(j:Nat)(rs':List Rat)(hv:∀W xv,Rc q q w W->Rea W q b tv uv l vs i->IsQ (1:Rat) L xv W->Calls Tryz.prog 170 #[.pointer (some ⟨q,0,none⟩),xv,av] W fun e w'=>e=.returned (.bool ok)/\Rea w' q b tv uv l vs j/\Rc q b W w'/\RQ w' g b rs' L):
  Calls Tryz.prog 136 #[.pointer (some ⟨q,0,none⟩),av] w fun e w'=>e=.returned (.bool ok)/\Rea w' q b tv uv l vs j/\Rc q b w w'/\RQ w' g b rs' L:=by
 have HV:=hide hv;clear hv;have H1:=hide h1;clear h1;have H:=hide h;have HT:=hide ht;have HTT:=hide hT;have HA:=hide hA;have HR:=hide hR;have HW:=hide hW;have hq:=aaa h.blk;have hgl:=aaa hR.slot;have hf0:∀W,(Instr.field 109 (.agg #[.int .i64 t.kind,.string t.text,.int .i64 t.pl.b,.int .i64 t.pl.g,.int .i64 t.pl.l,.int .i64 t.pl.c]) 0).run Tryz.prog W=.ok (.int .i64 t.kind) W:=fun W=>ady _ _ _ _ _ _ W
 clear h ht hA hR hT hW;go_enter Tryz.func136,Tryz.ntmps136
 go_wp2_with fail
 refine(aeb w 1 (by decide) (by decide)).mono ?_;rintro r w1 ⟨ng0,ao0,cap0,rs0,rfl,hw1,hl1,hb1⟩;have ho1:OutW 1 2 (.agg #[.bool ng0,.slice ao0 rs0.length cap0]) w1:=⟨_,_,_,_,rfl,hw1,hl1⟩;clear hw1 hl1;go_wp2_with fail
 refine(adt w1 _ _ _ ho1.is (by omega)).mono ?_;rintro r w2 ⟨v,rfl,ho2,hb2⟩;replace ho2:OutQr (1:Rat) L v w2:=OutQr.fit ho2 (aek hL1);obtain⟨ng1,ao1,cap1,rs1,bo1,dap1,ss1,rfl,_⟩:=id ho2;have hbw2:=hb1.trans (hb2.mono hb1.size);have hbw:Below w.heap.size w (w2.alloc (.cells #[.bool ng1,.slice ao1 rs1.length cap1,.slice bo1 ss1.length dap1] 62)):=hbw2.alloc hbw2.size _;clear ho1 hb1 hb2;go_wp2_with fail
 refine(aa8 _ q b tv uv l vs i t (H.out.below hbw) HT.out).mono ?_;rintro r w3 ⟨rfl,hb3⟩;have hbx:w3.heap[w2.heap.size]? = some (.cells #[.bool ng1,.slice ao1 rs1.length cap1,.slice bo1 ss1.length dap1] 62 (0,0)):=(hb3.block _ (by simp)).trans (heap_alloc_new w2 _);have HBX:=hide hbx;have HO:=hide (ho2.ru (Ru.of_below ((hAl w2 _).trans (hb3.mono (hAl w2 _).size))));have HB3:=hide (hbw.trans (hb3.mono hbw.size));have hf5:w.heap.size<=w2.heap.size:=hbw2.size;generalize w2.heap.size=f5 at *
 unfold Tk.av;clear hbw hbw2 hb3 hbx ho2;rw[H1.out]at *
 obtain⟨_,x0,x1,x2,_,_,_⟩:=aag HBX.out;go_wp2_with fail
 refine(HV.out w3 _ (.of_below HB3.out) (H.out.below HB3.out) HO.out.is).mono ?_;rintro e w4 ⟨rfl,r1,r2,r3⟩;have R1:=hide r1;have R2:=hide ((Rc.of_below HB3.out).trans r2);have R3':=hide r3;clear r1 r2 r3 x0 x1 x2;go_wp2;refine bodyPost_ret (v:=_) (by simp[results,Tryz.results136,go_sem];try rfl) rfl ⟨rfl,R1.out,R2.out,R3'.out⟩
theorem at2(w:World)(hT:Tabs w)(q b g:Nat)(tv uv:Value)(l:List Tk)(hW:Wf l)(vs:List ByteArray)(i:Nat)(h:Rea w q b tv uv l vs i)(t:Tk)(ht:l[i]? = some t)(L:Nat)(_hL:L<=10000)(hL1:1<=L)(av:Value)(sn:Bool)(hA:AddV q b g w av sn)(rs:List Rat)(hR:RQ w g b rs L)(_hqb:q≠b)(_hqg:g≠q)(h1:t.kind=2)(j:Nat)(hc:∀W,Below w.heap.size w W->Calls Tryz.prog 169 #[.pointer (some ⟨q,0,none⟩)] W fun e w'=>∃v,e=.returned (.tuple #[v,.bool false])/\OutQr0 v/\Rea w' q b tv uv l vs j/\Rc q q W w'):
  Calls Tryz.prog 136 #[.pointer (some ⟨q,0,none⟩),av] w fun e w'=>e=.returned (.bool false)/\Rea w' q b tv uv l vs j/\Rc q b w w'/\RQ w' g b rs L:=by
 have HC:=hide hc;clear hc;have H1:=hide h1;clear h1;have H:=hide h;have HT:=hide ht;have HTT:=hide hT;have HA:=hide hA;have HR:=hide hR;have HW:=hide hW;have hq:=aaa h.blk;have hgl:=aaa hR.slot;have hf0:∀W,(Instr.field 109 (.agg #[.int .i64 t.kind,.string t.text,.int .i64 t.pl.b,.int .i64 t.pl.g,.int .i64 t.pl.l,.int .i64 t.pl.c]) 0).run Tryz.prog W=.ok (.int .i64 t.kind) W:=fun W=>ady _ _ _ _ _ _ W
 clear h ht hA hR hT hW;go_enter Tryz.func136,Tryz.ntmps136
 go_wp2_with fail
 refine(aeb w 1 (by decide) (by decide)).mono ?_;rintro r w1 ⟨ng0,ao0,cap0,rs0,rfl,hw1,hl1,hb1⟩;have ho1:OutW 1 2 (.agg #[.bool ng0,.slice ao0 rs0.length cap0]) w1:=⟨_,_,_,_,rfl,hw1,hl1⟩;clear hw1 hl1;go_wp2_with fail
 refine(adt w1 _ _ _ ho1.is (by omega)).mono ?_;rintro r w2 ⟨v,rfl,ho2,hb2⟩;replace ho2:OutQr (1:Rat) L v w2:=OutQr.fit ho2 (aek hL1);obtain⟨ng1,ao1,cap1,rs1,bo1,dap1,ss1,rfl,_⟩:=id ho2;have hbw2:=hb1.trans (hb2.mono hb1.size);have hbw:Below w.heap.size w (w2.alloc (.cells #[.bool ng1,.slice ao1 rs1.length cap1,.slice bo1 ss1.length dap1] 62)):=hbw2.alloc hbw2.size _;clear ho1 hb1 hb2;go_wp2_with fail
 refine(aa8 _ q b tv uv l vs i t (H.out.below hbw) HT.out).mono ?_;rintro r w3 ⟨rfl,hb3⟩;have hbx:w3.heap[w2.heap.size]? = some (.cells #[.bool ng1,.slice ao1 rs1.length cap1,.slice bo1 ss1.length dap1] 62 (0,0)):=(hb3.block _ (by simp)).trans (heap_alloc_new w2 _);have HBX:=hide hbx;have HO:=hide (ho2.ru (Ru.of_below ((hAl w2 _).trans (hb3.mono (hAl w2 _).size))));have HB3:=hide (hbw.trans (hb3.mono hbw.size));have hf5:w.heap.size<=w2.heap.size:=hbw2.size;generalize w2.heap.size=f5 at *
 unfold Tk.av;clear hbw hbw2 hb3 hbx ho2;rw[H1.out]at *
 go_wp2_with fail
 refine(HC.out w3 HB3.out).mono ?_;rintro e w4 ⟨v,rfl,rfl,r1,r2⟩;have R1:=hide r1;have R2:=hide ((Rc.of_below HB3.out).trans r2);clear r1 r2;go_wp2;refine bodyPost_ret (v:=_) (by simp[results,Tryz.results136,go_sem];try rfl) rfl ⟨rfl,R1.out.below (hAl _ _),R2.out.wide.trans (.of_below (hAl _ _)),(HR.out.rc R2.out _hqg (fun e=>_hqb e.symm)).below (hAl _ _)⟩
theorem ann(w:World)(hT:Tabs w)(q b g:Nat)(tv uv:Value)(l:List Tk)(hW:Wf l)(vs:List ByteArray)(i:Nat)(h:Rea w q b tv uv l vs i)(t:Tk)(ht:l[i]? = some t)(L:Nat)(_hL:L<=10000)(hL1:1<=L)(av:Value)(sn:Bool)(hA:AddV q b g w av sn)(rs:List Rat)(hR:RQ w g b rs L)(_hqb:q≠b)(_hqg:g≠q)(h1:t.kind=2)(j:Nat)(x r0:Rat)(hc:∀W,Below w.heap.size w W->Calls Tryz.prog 169 #[.pointer (some ⟨q,0,none⟩)] W fun e w'=>∃v,e=.returned (.tuple #[v,.bool true])/\OutQr x L v w'/\Rea w' q b tv uv l vs j/\Rc q q W w')(t1:Tk)(ht1:l[j]? = some t1)(hs:tsg t1 sTimes=false)(hk1:t1.kind≠1)(hr0:rs[vs.length]? = some r0)(hfx:Fit x L)(hfr:Fit (r0+sgq sn (-x)) L):
  Calls Tryz.prog 136 #[.pointer (some ⟨q,0,none⟩),av] w fun e w'=>e=.returned (.bool true)/\Rea w' q b tv uv l vs j/\Rc q b w w'/\RQ w' g b (rs.set vs.length (r0+sgq sn (-x))) L:=by
 have HC:=hide hc;have H1:=hide h1;have HT1:=hide ht1;have HS:=hide hs;have hjl:j<l.length:=(List.getElem?_eq_some_iff.1 ht1).1;clear hc h1 ht1 hs;obtain⟨f,cp,rfl,hf,hadd⟩:=ah3 hA rs L vs.length r0 hr0 _hL;have HR0:=hide hr0;have hent:∀args W,(callFunc f args).run Tryz.prog W=.ok (.enter f args) W:=hf.enter;have HK1:Hid ((t1.kind != 1)=true):=bne_iff_ne.2 hk1;have HF:=hide (And.intro hfx hfr);obtain⟨au,cu,huv,_⟩:=id h.vrs;have HUV:=hide huv;clear huv;clear hadd hr0 hfx hfr hk1;have H:=hide h;have HT:=hide ht;have HTT:=hide hT;have HA:=hide hA;have HR:=hide hR;have HW:=hide hW;have hq:=aaa h.blk;have hgl:=aaa hR.slot;have hf0:∀W,(Instr.field 109 (.agg #[.int .i64 t.kind,.string t.text,.int .i64 t.pl.b,.int .i64 t.pl.g,.int .i64 t.pl.l,.int .i64 t.pl.c]) 0).run Tryz.prog W=.ok (.int .i64 t.kind) W:=fun W=>ady _ _ _ _ _ _ W
 clear h ht hA hR hT hW;go_enter Tryz.func136,Tryz.ntmps136
 go_wp2_with fail
 refine(aeb w 1 (by decide) (by decide)).mono ?_;rintro r w1 ⟨ng0,ao0,cap0,rs0,rfl,hw1,hl1,hb1⟩;have ho1:OutW 1 2 (.agg #[.bool ng0,.slice ao0 rs0.length cap0]) w1:=⟨_,_,_,_,rfl,hw1,hl1⟩;clear hw1 hl1;go_wp2_with fail
 refine(adt w1 _ _ _ ho1.is (by omega)).mono ?_;rintro r w2 ⟨v,rfl,ho2,hb2⟩;replace ho2:OutQr (1:Rat) L v w2:=OutQr.fit ho2 (aek hL1);obtain⟨ng1,ao1,cap1,rs1,bo1,dap1,ss1,rfl,_⟩:=id ho2;have hbw2:=hb1.trans (hb2.mono hb1.size);have hbw:Below w.heap.size w (w2.alloc (.cells #[.bool ng1,.slice ao1 rs1.length cap1,.slice bo1 ss1.length dap1] 62)):=hbw2.alloc hbw2.size _;clear ho1 hb1 hb2;go_wp2_with fail
 refine(aa8 _ q b tv uv l vs i t (H.out.below hbw) HT.out).mono ?_;rintro r w3 ⟨rfl,hb3⟩;have hbx:w3.heap[w2.heap.size]? = some (.cells #[.bool ng1,.slice ao1 rs1.length cap1,.slice bo1 ss1.length dap1] 62 (0,0)):=(hb3.block _ (by simp)).trans (heap_alloc_new w2 _);have HBX:=hide hbx;have HO:=hide (ho2.ru (Ru.of_below ((hAl w2 _).trans (hb3.mono (hAl w2 _).size))));have HB3:=hide (hbw.trans (hb3.mono hbw.size));have hf5:w.heap.size<=w2.heap.size:=hbw2.size;generalize w2.heap.size=f5 at *
 unfold Tk.av;clear hbw hbw2 hb3 hbx ho2;rw[H1.out]at *
 go_wp2_with fail
 refine(HC.out w3 HB3.out).mono ?_;rintro e w4 ⟨v,rfl,hox,r1,r2⟩;obtain⟨ng6,ao6,cap6,rs6,bo6,dap6,ss6,rfl,_⟩:=id hox;have hbx4:=(r2.other _ (aaa HBX.out) (by omega) (by omega)).trans HBX.out;have hr4:Rc q q w w4:=(Rc.of_below HB3.out).trans r2;have hal:=hAl w4 (.cells #[.bool ng6,.slice ao6 rs6.length cap6,.slice bo6 ss6.length dap6] 62);have h6:=heap_alloc_new w4 (.cells #[.bool ng6,.slice ao6 rs6.length cap6,.slice bo6 ss6.length dap6] 62);have hf6:w.heap.size<=w4.heap.size:=hr4.size;have hf56:f5<w4.heap.size:=aaa hbx4;go_wp2_with fail
 refine(abt _ q b tv uv l vs j t1 (r1.below hal) HT1.out sTimes (fun h3=>HW.out.more HT1.out (by rw[h3];decide)) HW.out.len).mono ?_;rw[HS.out];rintro e w5 ⟨rfl,r3,r4⟩;have hr5:Rc q q w w5:=(hr4.trans (.of_below hal)).trans r4;have h65:=(r4.other _ (aaa h6) (by omega) (by omega)).trans h6;have h55:=(r4.other _ (aaa (aa2 (o':=.cells #[.bool ng6,.slice ao6 rs6.length cap6,.slice bo6 ss6.length dap6] 62) hbx4)) (by omega) (by omega)).trans (aa2 hbx4);have H65:=hide h65;have H55:=hide h55;have HOX:=hide (hox.ru ((Ru.of_below hal).trans r4.ru));have HR5:=hide hr5;have R3_:=hide r3;generalize w4.heap.size=f6 at *
 clear hox r1 r2 hbx4 hr4 hal h6 r3 r4 hr5 h65 h55;have hf01:∀W,(Instr.field 109 (.agg #[.int .i64 t1.kind,.string t1.text,.int .i64 t1.pl.b,.int .i64 t1.pl.g,.int .i64 t1.pl.l,.int .i64 t1.pl.c]) 0).run Tryz.prog W=.ok (.int .i64 t1.kind) W:=fun W=>ady _ _ _ _ _ _ W
 have hk1:=HK1.out;go_wp2_with fail
 refine(aa8 w5 q b tv uv l vs j t1 R3_.out HT1.out).mono ?_;rintro r w6 ⟨rfl,hb6⟩;unfold Tk.av;have R6:=hide (R3_.out.below hb6);have HR6:=hide (HR5.out.trans (.of_below hb6));have h66:=(hb6.block _ (aaa H65.out)).trans H65.out;have HOX6:=hide (HOX.out.ru (Ru.of_below hb6));obtain⟨hl6,x0,x1,x2,_,_,_⟩:=aag h66;obtain⟨f',cp',e',hf',hadd⟩:=ah3 (HA.out.rc HR6.out.wide) rs L vs.length r0 HR0.out _hL;obtain⟨rfl,rfl⟩:f=f'/\cp=cp':=by simpa using e'
 have HADD:=hide hadd;have HRQ6:=hide (HR.out.rc HR6.out _hqg (fun e=>_hqb e.symm));have hq6:=aaa R6.out.blk;have k2:w6.cell? ⟨q,2,none⟩=some (.slice au vs.length cu):=by rw[cell_of_row _ _ _ _ _ (0,0) R6.out.blk,HUV.out];rfl
 generalize hnv:vs.length=nv at *
 have HNV:=hide hnv;clear hb6 h66 hadd e' hf' hnv;go_wp2_with fail
 go_region_law (first|(refine aa4 rfl 138 #[.tmp 39] #[62] rfl at1 #[.agg #[.bool ng6,.slice ao6 rs6.length cap6,.slice bo6 ss6.length dap6]] (by simp[Act.eval,Act.put]) (asw _ _ x L L (HOX6.out.ru (Ru.of_below (show Below w6.heap.size w6 _ by(repeat' first|with_reducible(first|exact Below.refl _ _|assumption|refine gdrewN ?_ _|refine Below.alloc ?_ ?_ _|refine Below.drew ?_|refine Below.setCell ?_ ?_ _)|go_size)))).is (by omega) HF.out.1) ?_;rintro e w7 ⟨v,rfl,ho7,hb7⟩;obtain⟨ng7,ao7,cap7,rs7,bo7,dap7,ss7,rfl,_⟩:=id ho7;have HO7:=hide ho7;have hb67:Below w6.heap.size w6 w7:=(show Below w6.heap.size w6 _ by(repeat' first|with_reducible(first|exact Below.refl _ _|assumption|refine gdrewN ?_ _|refine Below.alloc ?_ ?_ _|refine Below.drew ?_|refine Below.setCell ?_ ?_ _)|go_size)).trans (hb7.mono (by simp));have HB67:=hide hb67;have k27:=(hb67.cell (p:=⟨q,2,none⟩) hq6).trans k2;clear ho7 hb7 hb67;refine⟨_,rfl,?_⟩)|(refine aim rfl f (.tmp 33) #[.tmp 38,.tmp 40] #[3,62] rfl hf #[cp] (by simp[Act.eval,Act.put]) #[.int .i64 (nv:Int),.agg #[.bool ng7,.slice ao7 rs7.length cap7,.slice bo7 ss7.length dap7]] (by simp[Act.eval,Act.put]) (HADD.out w7 (-x) _ HB67.out (HRQ6.out.below HB67.out) HO7.out.is (aoe HF.out.1) HF.out.2) ?_;rintro e w8 ⟨rfl,hr8,hq8⟩;have HR8:=hide hr8;have HQ8:=hide hq8;clear hr8 hq8;refine⟨_,rfl,?_⟩))
 all_goals
  go_wp2;refine bodyPost_ret (v:=_) (by simp[results,Tryz.results136,go_sem];try rfl) rfl ⟨rfl,(R6.out.below HB67.out).rcR HR8.out _hqb,(HR6.out.wide.trans (.of_below HB67.out)).trans HR8.out.wideR,by rw[HNV.out];exact HQ8.out⟩
theorem aq1(w:World)(hT:Tabs w)(q b g:Nat)(tv uv:Value)(l:List Tk)(hW:Wf l)(vs:List ByteArray)(i:Nat)(h:Rea w q b tv uv l vs i)(t:Tk)(ht:l[i]? = some t)(L:Nat)(_hL:L<=10000)(hL1:1<=L)(av:Value)(sn:Bool)(hA:AddV q b g w av sn)(rs:List Rat)(hR:RQ w g b rs L)(_hqb:q≠b)(_hqg:g≠q)(h1:t.kind=2)(j:Nat)(x:Rat)(hc:∀W,Below w.heap.size w W->Calls Tryz.prog 169 #[.pointer (some ⟨q,0,none⟩)] W fun e w'=>∃v,e=.returned (.tuple #[v,.bool true])/\OutQr x L v w'/\Rea w' q b tv uv l vs j/\Rc q q W w')(t1:Tk)(ht1:l[j]? = some t1)(hs:tsg t1 sTimes=true)(ok:Bool)(k:Nat)(rs':List Rat)(hv:∀W xv,Rc q q w W->Rea W q b tv uv l vs (j+1)->IsQ x L xv W->Calls Tryz.prog 170 #[.pointer (some ⟨q,0,none⟩),xv,av] W fun e w'=>e=.returned (.bool ok)/\Rea w' q b tv uv l vs k/\Rc q b W w'/\RQ w' g b rs' L):
  Calls Tryz.prog 136 #[.pointer (some ⟨q,0,none⟩),av] w fun e w'=>e=.returned (.bool ok)/\Rea w' q b tv uv l vs k/\Rc q b w w'/\RQ w' g b rs' L:=by
 have HC:=hide hc;have H1:=hide h1;have HT1:=hide ht1;have HS:=hide hs;have hjl:j<l.length:=(List.getElem?_eq_some_iff.1 ht1).1;clear hc h1 ht1 hs;have HV:=hide hv;clear hv;have H:=hide h;have HT:=hide ht;have HTT:=hide hT;have HA:=hide hA;have HR:=hide hR;have HW:=hide hW;have hq:=aaa h.blk;have hgl:=aaa hR.slot;have hf0:∀W,(Instr.field 109 (.agg #[.int .i64 t.kind,.string t.text,.int .i64 t.pl.b,.int .i64 t.pl.g,.int .i64 t.pl.l,.int .i64 t.pl.c]) 0).run Tryz.prog W=.ok (.int .i64 t.kind) W:=fun W=>ady _ _ _ _ _ _ W
 clear h ht hA hR hT hW;go_enter Tryz.func136,Tryz.ntmps136
 go_wp2_with fail
 refine(aeb w 1 (by decide) (by decide)).mono ?_;rintro r w1 ⟨ng0,ao0,cap0,rs0,rfl,hw1,hl1,hb1⟩;have ho1:OutW 1 2 (.agg #[.bool ng0,.slice ao0 rs0.length cap0]) w1:=⟨_,_,_,_,rfl,hw1,hl1⟩;clear hw1 hl1;go_wp2_with fail
 refine(adt w1 _ _ _ ho1.is (by omega)).mono ?_;rintro r w2 ⟨v,rfl,ho2,hb2⟩;replace ho2:OutQr (1:Rat) L v w2:=OutQr.fit ho2 (aek hL1);obtain⟨ng1,ao1,cap1,rs1,bo1,dap1,ss1,rfl,_⟩:=id ho2;have hbw2:=hb1.trans (hb2.mono hb1.size);have hbw:Below w.heap.size w (w2.alloc (.cells #[.bool ng1,.slice ao1 rs1.length cap1,.slice bo1 ss1.length dap1] 62)):=hbw2.alloc hbw2.size _;clear ho1 hb1 hb2;go_wp2_with fail
 refine(aa8 _ q b tv uv l vs i t (H.out.below hbw) HT.out).mono ?_;rintro r w3 ⟨rfl,hb3⟩;have hbx:w3.heap[w2.heap.size]? = some (.cells #[.bool ng1,.slice ao1 rs1.length cap1,.slice bo1 ss1.length dap1] 62 (0,0)):=(hb3.block _ (by simp)).trans (heap_alloc_new w2 _);have HBX:=hide hbx;have HO:=hide (ho2.ru (Ru.of_below ((hAl w2 _).trans (hb3.mono (hAl w2 _).size))));have HB3:=hide (hbw.trans (hb3.mono hbw.size));have hf5:w.heap.size<=w2.heap.size:=hbw2.size;generalize w2.heap.size=f5 at *
 unfold Tk.av;clear hbw hbw2 hb3 hbx ho2;rw[H1.out]at *
 go_wp2_with fail
 refine(HC.out w3 HB3.out).mono ?_;rintro e w4 ⟨v,rfl,hox,r1,r2⟩;obtain⟨ng6,ao6,cap6,rs6,bo6,dap6,ss6,rfl,_⟩:=id hox;have hbx4:=(r2.other _ (aaa HBX.out) (by omega) (by omega)).trans HBX.out;have hr4:Rc q q w w4:=(Rc.of_below HB3.out).trans r2;have hal:=hAl w4 (.cells #[.bool ng6,.slice ao6 rs6.length cap6,.slice bo6 ss6.length dap6] 62);have h6:=heap_alloc_new w4 (.cells #[.bool ng6,.slice ao6 rs6.length cap6,.slice bo6 ss6.length dap6] 62);have hf6:w.heap.size<=w4.heap.size:=hr4.size;have hf56:f5<w4.heap.size:=aaa hbx4;go_wp2_with fail
 refine(abt _ q b tv uv l vs j t1 (r1.below hal) HT1.out sTimes (fun h3=>HW.out.more HT1.out (by rw[h3];decide)) HW.out.len).mono ?_;rw[HS.out];rintro e w5 ⟨rfl,r3,r4⟩;have hr5:Rc q q w w5:=(hr4.trans (.of_below hal)).trans r4;have h65:=(r4.other _ (aaa h6) (by omega) (by omega)).trans h6;have h55:=(r4.other _ (aaa (aa2 (o':=.cells #[.bool ng6,.slice ao6 rs6.length cap6,.slice bo6 ss6.length dap6] 62) hbx4)) (by omega) (by omega)).trans (aa2 hbx4);have H65:=hide h65;have H55:=hide h55;have HOX:=hide (hox.ru ((Ru.of_below hal).trans r4.ru));have HR5:=hide hr5;have R3_:=hide r3;generalize w4.heap.size=f6 at *
 clear hox r1 r2 hbx4 hr4 hal h6 r3 r4 hr5 h65 h55;rw[if_pos rfl]at R3_;obtain⟨hl5,y0,y1,y2,yf0,yf1,yf2⟩:=aag H55.out;obtain⟨hl6,x0,x1,x2,_,_,_⟩:=aag H65.out;go_wp2_with fail
 obtain⟨v1,v2⟩:=H.out.fill3 R3_.out HR5.out H55.out hf5 (.bool ng6) (.slice ao6 rs6.length cap6) (.slice bo6 ss6.length dap6);refine(HV.out _ _ v2 v1 (HOX.out.ru (ae0 H55.out _ _ _)).is).mono ?_;rintro e w7 ⟨rfl,r1,r2,r3⟩;have R1:=hide r1;have R2:=hide (v2.wide.trans r2);have R4:=hide r3;clear r1 r2 r3 v1 v2 x0 x1 x2 y0 y1 y2;go_wp2;refine bodyPost_ret (v:=_) (by simp[results,Tryz.results136,go_sem];try rfl) rfl ⟨rfl,R1.out,R2.out,R4.out⟩
theorem aq2(w:World)(hT:Tabs w)(q b g:Nat)(tv uv:Value)(l:List Tk)(hW:Wf l)(vs:List ByteArray)(i:Nat)(h:Rea w q b tv uv l vs i)(t:Tk)(ht:l[i]? = some t)(L:Nat)(_hL:L<=10000)(hL1:1<=L)(av:Value)(sn:Bool)(hA:AddV q b g w av sn)(rs:List Rat)(hR:RQ w g b rs L)(_hqb:q≠b)(_hqg:g≠q)(h1:t.kind=2)(j:Nat)(x:Rat)(hc:∀W,Below w.heap.size w W->Calls Tryz.prog 169 #[.pointer (some ⟨q,0,none⟩)] W fun e w'=>∃v,e=.returned (.tuple #[v,.bool true])/\OutQr x L v w'/\Rea w' q b tv uv l vs j/\Rc q q W w')(t1:Tk)(ht1:l[j]? = some t1)(hs:tsg t1 sTimes=false)(hk1:t1.kind=1)(ok:Bool)(k:Nat)(rs':List Rat)(hv:∀W xv,Rc q q w W->Rea W q b tv uv l vs j->IsQ x L xv W->Calls Tryz.prog 170 #[.pointer (some ⟨q,0,none⟩),xv,av] W fun e w'=>e=.returned (.bool ok)/\Rea w' q b tv uv l vs k/\Rc q b W w'/\RQ w' g b rs' L):
  Calls Tryz.prog 136 #[.pointer (some ⟨q,0,none⟩),av] w fun e w'=>e=.returned (.bool ok)/\Rea w' q b tv uv l vs k/\Rc q b w w'/\RQ w' g b rs' L:=by
 have HC:=hide hc;have H1:=hide h1;have HT1:=hide ht1;have HS:=hide hs;have hjl:j<l.length:=(List.getElem?_eq_some_iff.1 ht1).1;clear hc h1 ht1 hs;have HV:=hide hv;have HK1:=hide hk1;clear hv hk1;have H:=hide h;have HT:=hide ht;have HTT:=hide hT;have HA:=hide hA;have HR:=hide hR;have HW:=hide hW;have hq:=aaa h.blk;have hgl:=aaa hR.slot;have hf0:∀W,(Instr.field 109 (.agg #[.int .i64 t.kind,.string t.text,.int .i64 t.pl.b,.int .i64 t.pl.g,.int .i64 t.pl.l,.int .i64 t.pl.c]) 0).run Tryz.prog W=.ok (.int .i64 t.kind) W:=fun W=>ady _ _ _ _ _ _ W
 clear h ht hA hR hT hW;go_enter Tryz.func136,Tryz.ntmps136
 go_wp2_with fail
 refine(aeb w 1 (by decide) (by decide)).mono ?_;rintro r w1 ⟨ng0,ao0,cap0,rs0,rfl,hw1,hl1,hb1⟩;have ho1:OutW 1 2 (.agg #[.bool ng0,.slice ao0 rs0.length cap0]) w1:=⟨_,_,_,_,rfl,hw1,hl1⟩;clear hw1 hl1;go_wp2_with fail
 refine(adt w1 _ _ _ ho1.is (by omega)).mono ?_;rintro r w2 ⟨v,rfl,ho2,hb2⟩;replace ho2:OutQr (1:Rat) L v w2:=OutQr.fit ho2 (aek hL1);obtain⟨ng1,ao1,cap1,rs1,bo1,dap1,ss1,rfl,_⟩:=id ho2;have hbw2:=hb1.trans (hb2.mono hb1.size);have hbw:Below w.heap.size w (w2.alloc (.cells #[.bool ng1,.slice ao1 rs1.length cap1,.slice bo1 ss1.length dap1] 62)):=hbw2.alloc hbw2.size _;clear ho1 hb1 hb2;go_wp2_with fail
 refine(aa8 _ q b tv uv l vs i t (H.out.below hbw) HT.out).mono ?_;rintro r w3 ⟨rfl,hb3⟩;have hbx:w3.heap[w2.heap.size]? = some (.cells #[.bool ng1,.slice ao1 rs1.length cap1,.slice bo1 ss1.length dap1] 62 (0,0)):=(hb3.block _ (by simp)).trans (heap_alloc_new w2 _);have HBX:=hide hbx;have HO:=hide (ho2.ru (Ru.of_below ((hAl w2 _).trans (hb3.mono (hAl w2 _).size))));have HB3:=hide (hbw.trans (hb3.mono hbw.size));have hf5:w.heap.size<=w2.heap.size:=hbw2.size;generalize w2.heap.size=f5 at *
 unfold Tk.av;clear hbw hbw2 hb3 hbx ho2;rw[H1.out]at *
 go_wp2_with fail
 refine(HC.out w3 HB3.out).mono ?_;rintro e w4 ⟨v,rfl,hox,r1,r2⟩;obtain⟨ng6,ao6,cap6,rs6,bo6,dap6,ss6,rfl,_⟩:=id hox;have hbx4:=(r2.other _ (aaa HBX.out) (by omega) (by omega)).trans HBX.out;have hr4:Rc q q w w4:=(Rc.of_below HB3.out).trans r2;have hal:=hAl w4 (.cells #[.bool ng6,.slice ao6 rs6.length cap6,.slice bo6 ss6.length dap6] 62);have h6:=heap_alloc_new w4 (.cells #[.bool ng6,.slice ao6 rs6.length cap6,.slice bo6 ss6.length dap6] 62);have hf6:w.heap.size<=w4.heap.size:=hr4.size;have hf56:f5<w4.heap.size:=aaa hbx4;go_wp2_with fail
 refine(abt _ q b tv uv l vs j t1 (r1.below hal) HT1.out sTimes (fun h3=>HW.out.more HT1.out (by rw[h3];decide)) HW.out.len).mono ?_;rw[HS.out];rintro e w5 ⟨rfl,r3,r4⟩;have hr5:Rc q q w w5:=(hr4.trans (.of_below hal)).trans r4;have h65:=(r4.other _ (aaa h6) (by omega) (by omega)).trans h6;have h55:=(r4.other _ (aaa (aa2 (o':=.cells #[.bool ng6,.slice ao6 rs6.length cap6,.slice bo6 ss6.length dap6] 62) hbx4)) (by omega) (by omega)).trans (aa2 hbx4);have H65:=hide h65;have H55:=hide h55;have HOX:=hide (hox.ru ((Ru.of_below hal).trans r4.ru));have HR5:=hide hr5;have R3_:=hide r3;generalize w4.heap.size=f6 at *
 clear hox r1 r2 hbx4 hr4 hal h6 r3 r4 hr5 h65 h55;rw[if_neg (by decide)]at R3_;have hf01:∀W,(Instr.field 109 (.agg #[.int .i64 t1.kind,.string t1.text,.int .i64 t1.pl.b,.int .i64 t1.pl.g,.int .i64 t1.pl.l,.int .i64 t1.pl.c]) 0).run Tryz.prog W=.ok (.int .i64 1) W:=fun W=>(ady _ _ _ _ _ _ W).trans (by rw[HK1.out])
 go_wp2_with fail
 refine(aa8 w5 q b tv uv l vs j t1 R3_.out HT1.out).mono ?_;rintro r w6 ⟨rfl,hb6⟩;unfold Tk.av;replace R3_:=hide (R3_.out.below hb6);replace HR5:=hide (HR5.out.trans (.of_below hb6));replace H65:=hide ((hb6.block _ (aaa H65.out)).trans H65.out);replace H55:=hide ((hb6.block _ (aaa H55.out)).trans H55.out);replace HOX:=hide (HOX.out.ru (Ru.of_below hb6));clear hb6;obtain⟨hl5,y0,y1,y2,yf0,yf1,yf2⟩:=aag H55.out;obtain⟨hl6,x0,x1,x2,_,_,_⟩:=aag H65.out;go_wp2_with fail
 obtain⟨v1,v2⟩:=H.out.fill3 R3_.out HR5.out H55.out hf5 (.bool ng6) (.slice ao6 rs6.length cap6) (.slice bo6 ss6.length dap6);refine(HV.out _ _ v2 v1 (HOX.out.ru (ae0 H55.out _ _ _)).is).mono ?_;rintro e w7 ⟨rfl,r1,r2,r3⟩;have R1:=hide r1;have R2:=hide (v2.wide.trans r2);have R4:=hide r3;clear r1 r2 r3 v1 v2 x0 x1 x2 y0 y1 y2;go_wp2;refine bodyPost_ret (v:=_) (by simp[results,Tryz.results136,go_sem];try rfl) rfl ⟨rfl,R1.out,R2.out,R4.out⟩
inductive VarR (l:List Tk) (vs:List ByteArray) (L:Nat) (sn:Bool) (x:Rat) (rs:List Rat) (i:Nat):Bool->Nat->List Rat->Prop
 |no (t:Tk) (ht:l[i]? = some t) (hk:ixS t.text vs=none):VarR l vs L sn x rs i false i rs
 |yes (t:Tk) (k:Nat) (r:Rat) (ht:l[i]? = some t) (hk:ixS t.text vs=some k) (hr:rs[k]? = some r) (hx:Fit x L) (hf:Fit (r+sgq sn x) L):VarR l vs L sn x rs i true (i+1) (rs.set k (r+sgq sn x))
inductive TermR (l:List Tk) (vs:List ByteArray) (L:Nat) (sn:Bool) (rs:List Rat) (i:Nat):Bool->Nat->List Rat->Prop
 |other (t:Tk) (ht:l[i]? = some t) (h1:t.kind≠1) (h2:t.kind≠2):TermR l vs L sn rs i false i rs
 |name (t:Tk) (ht:l[i]? = some t) (h1:t.kind=1) (ok:Bool) (j:Nat) (rs':List Rat) (hv:VarR l vs L sn 1 rs i ok j rs'):TermR l vs L sn rs i ok j rs'
 |bad (t:Tk) (ht:l[i]? = some t) (h1:t.kind=2) (j:Nat) (x:Rat) (hc:CoefR l i false j x):TermR l vs L sn rs i false j rs
 |alone (t:Tk) (ht:l[i]? = some t) (h1:t.kind=2) (j:Nat) (x:Rat) (hc:CoefR l i true j x) (hx:Fit x L) (t1:Tk) (ht1:l[j]? = some t1) (hs:tsg t1 sTimes=false) (hk1:t1.kind≠1) (r0:Rat) (hr:rs[vs.length]? = some r0) (hf:Fit (r0+sgq sn (-x)) L):TermR l vs L sn rs i true j (rs.set vs.length (r0+sgq sn (-x)))
 |star (t:Tk) (ht:l[i]? = some t) (h1:t.kind=2) (j:Nat) (x:Rat) (hc:CoefR l i true j x) (hx:Fit x L) (t1:Tk) (ht1:l[j]? = some t1) (hs:tsg t1 sTimes=true) (ok:Bool) (k:Nat) (rs':List Rat) (hv:VarR l vs L sn x rs (j+1) ok k rs'):TermR l vs L sn rs i ok k rs'
 |next (t:Tk) (ht:l[i]? = some t) (h1:t.kind=2) (j:Nat) (x:Rat) (hc:CoefR l i true j x) (hx:Fit x L) (t1:Tk) (ht1:l[j]? = some t1) (hs:tsg t1 sTimes=false) (hk1:t1.kind=1) (ok:Bool) (k:Nat) (rs':List Rat) (hv:VarR l vs L sn x rs j ok k rs'):TermR l vs L sn rs i ok k rs'
theorem CoefR.lt{l:List Tk}{i j:Nat}{x:Rat}(h:CoefR l i true j x):i<j:=by cases h <;> omega
theorem VarR.lt{l:List Tk}{vs:List ByteArray}{L:Nat}{sn:Bool}{x:Rat}{rs rs':List Rat}{i j:Nat}(h:VarR l vs L sn x rs i true j rs'):i<j:=by cases h;omega
theorem TermR.lt{l:List Tk}{vs:List ByteArray}{L:Nat}{sn:Bool}{rs rs':List Rat}{i j:Nat}(h:TermR l vs L sn rs i true j rs'):i<j:=by
 cases h with
 |name t ht h1 ok j rs' hv=>exact hv.lt
 |alone t ht h1 j x hc hx t1 ht1 hs hk1 r0 hr hf=>exact hc.lt
 |star t ht h1 j x hc hx t1 ht1 hs ok k rs' hv=>have:=hc.lt;have:=hv.lt;omega
 |next t ht h1 j x hc hx t1 ht1 hs hk1 ok k rs' hv=>have:=hc.lt;have:=hv.lt;omega
structure Env (w:World) (q b g:Nat) (tv uv:Value) (l:List Tk) (vs:List ByteArray) (L:Nat):Prop where
 tabs:Tabs w
 wf:Wf l
 nov:(⟨#[]⟩:ByteArray)∉vs
 hL:L<=10000
 hL1:1<=L
 qb:q≠b
 gq:g≠q
theorem agt{w:World}{q b g:Nat}{tv uv:Value}{l:List Tk}{vs:List ByteArray}{L i j:Nat}{x:Rat}(E:Env w q b g tv uv l vs L)(h:Rea w q b tv uv l vs i)(hc:CoefR l i true j x)(hx:Fit x L)(W:World)(hb:Below w.heap.size w W):
  Calls Tryz.prog 169 #[.pointer (some ⟨q,0,none⟩)] W fun e w'=>∃v,e=.returned (.tuple #[v,.bool true])/\OutQr x L v w'/\Rea w' q b tv uv l vs j/\Rc q q W w':=by
 cases hc with
 |plain t t1 ht ht1 hs=>exact anl W (E.tabs.below hb) q b tv uv l E.wf vs i (h.below hb) t t1 ht ht1 hs L hx
 |over t t1 t2 ht ht1 hs ht2 hz=>exact aqz W (E.tabs.below hb) q b tv uv l E.wf vs i (h.below hb) t t1 t2 ht ht1 hs ht2 hz L hx
theorem aq3{w:World}{q b g:Nat}{tv uv:Value}{l:List Tk}{vs:List ByteArray}{L i j:Nat}{x:Rat}(E:Env w q b g tv uv l vs L)(h:Rea w q b tv uv l vs i)(hc:CoefR l i false j x)(W:World)(hb:Below w.heap.size w W):
  Calls Tryz.prog 169 #[.pointer (some ⟨q,0,none⟩)] W fun e w'=>∃v,e=.returned (.tuple #[v,.bool false])/\OutQr0 v/\Rea w' q b tv uv l vs j/\Rc q q W w':=by
 cases hc with
 |bad t t1 t2 ht ht1 hs ht2 hz=>exact at0 W (E.tabs.below hb) q b tv uv l E.wf vs i (h.below hb) t t1 t2 ht ht1 hs ht2 hz
theorem ah5{w:World}{q b g:Nat}{tv uv:Value}{l:List Tk}{vs:List ByteArray}{L i j:Nat}{x:Rat}{sn ok:Bool}{rs rs':List Rat}(E:Env w q b g tv uv l vs L)(hv:VarR l vs L sn x rs i ok j rs'){av:Value}(hA:AddV q b g w av sn)(hR:RQ w g b rs L)(W:World)(xv:Value)(hr:Rc q q w W)(h:Rea W q b tv uv l vs i)(hx:IsQ x L xv W):
  Calls Tryz.prog 170 #[.pointer (some ⟨q,0,none⟩),xv,av] W fun e w'=>e=.returned (.bool ok)/\Rea w' q b tv uv l vs j/\Rc q b W w'/\RQ w' g b rs' L:=by
 have hR':=hR.rc hr E.gq (fun e=>E.qb e.symm);cases hv with
 |no t ht hk=>
  refine(ayt W q b tv uv l vs i h t ht x L xv av hx hk).mono ?_;rintro e w' ⟨rfl,h1,h2⟩;exact⟨rfl,h1,h2.wide,hR'.rc h2 E.gq (fun e=>E.qb e.symm)⟩
 |yes t k r ht hk hrk hfx hf=>
  have hj:i+1<l.length:=by
   have h1:=(List.getElem?_eq_some_iff.1 ht).1;by_cases he:i+1=l.length
   ·have h2:=(E.wf.stop _ _ ht he).2;rw[h2]at hk;exact absurd (List.mem_of_getElem? (a0d hk)) E.nov
   ·omega
  exact awq W q b tv uv l vs i h t ht x L xv av hx g k rs r sn hk hj E.wf.len (hA.rc hr.wide) hR' hrk E.hL hfx hf E.qb E.gq
theorem adk(w:World)(q b g:Nat)(tv uv:Value)(l:List Tk)(vs:List ByteArray)(L:Nat)(E:Env w q b g tv uv l vs L)(sn ok:Bool)(rs rs':List Rat)(i j:Nat)(ht:TermR l vs L sn rs i ok j rs')(av:Value)(hA:AddV q b g w av sn)(hR:RQ w g b rs L)(h:Rea w q b tv uv l vs i):
  Calls Tryz.prog 136 #[.pointer (some ⟨q,0,none⟩),av] w fun e w'=>e=.returned (.bool ok)/\Rea w' q b tv uv l vs j/\Rc q b w w'/\RQ w' g b rs' L:=by
 cases ht with
 |other t ht h1 h2=>exact anm w E.tabs q b g tv uv l E.wf vs i h t ht L E.hL E.hL1 av sn hA rs hR E.qb E.gq h1 h2
 |name t ht h1 ok j rs' hv=>exact aq0 w E.tabs q b g tv uv l E.wf vs i h t ht L E.hL E.hL1 av sn hA rs hR E.qb E.gq h1 ok j rs' (ah5 E hv hA hR)
 |bad t ht h1 j x hc=>exact at2 w E.tabs q b g tv uv l E.wf vs i h t ht L E.hL E.hL1 av sn hA rs hR E.qb E.gq h1 j (aq3 E h hc)
 |alone t ht h1 j x hc hx t1 ht1 hs hk1 r0 hr hf=>exact ann w E.tabs q b g tv uv l E.wf vs i h t ht L E.hL E.hL1 av sn hA rs hR E.qb E.gq h1 j x r0 (agt E h hc hx) t1 ht1 hs hk1 hr hx hf
 |star t ht h1 j x hc hx t1 ht1 hs ok k rs' hv=>exact aq1 w E.tabs q b g tv uv l E.wf vs i h t ht L E.hL E.hL1 av sn hA rs hR E.qb E.gq h1 j x (agt E h hc hx) t1 ht1 hs _ _ _ (ah5 E hv hA hR)
 |next t ht h1 j x hc hx t1 ht1 hs hk1 ok k rs' hv=>exact aq2 w E.tabs q b g tv uv l E.wf vs i h t ht L E.hL E.hL1 av sn hA rs hR E.qb E.gq h1 j x (agt E h hc hx) t1 ht1 hs hk1 _ _ _ (ah5 E hv hA hR)
inductive SideL (l:List Tk) (vs:List ByteArray) (L:Nat) (sn:Bool):Bool->Nat->List Rat->Bool->Nat->List Rat->Prop
 |bad (m:Bool) (i j:Nat) (rs rs':List Rat) (h:TermR l vs L (m != sn) rs i false j rs'):SideL l vs L sn m i rs false j rs'
 |last (m:Bool) (i j:Nat) (rs rs':List Rat) (h:TermR l vs L (m != sn) rs i true j rs') (t:Tk) (ht:l[j]? = some t) (hp:tpm t=false):SideL l vs L sn m i rs true j rs'
 |more (m:Bool) (i j k:Nat) (rs rs' rs'':List Rat) (ok:Bool) (h:TermR l vs L (m != sn) rs i true j rs') (t:Tk) (ht:l[j]? = some t) (hp:tpm t=true) (hr:SideL l vs L sn (tsg t sMinus) (j+1) rs' ok k rs''):SideL l vs L sn m i rs ok k rs''
def SideR(l:List Tk)(vs:List ByteArray)(L:Nat)(sn:Bool)(i:Nat)(rs:List Rat)(ok:Bool)(k:Nat)(rs':List Rat):Prop:=∃t,l[i]? = some t/\SideL l vs L sn (tsg t sMinus) (if tpm t then i+1 else i) rs ok k rs'
def nx(w:World)(q:Nat):Nat:=match w.cell? ⟨q,1,none⟩with|some (.int _ z)=>z.toNat|_=>0
theorem Rea.nx{w:World}{q b:Nat}{tv uv:Value}{l:List Tk}{vs:List ByteArray}{i:Nat}(h:Rea w q b tv uv l vs i):nx w q=i:=by
 unfold Lm.nx;rw[cell_of_row _ _ _ _ _ (0,0) h.blk];simp
theorem Env.rc{w w':World}{q b g:Nat}{tv uv:Value}{l:List Tk}{vs:List ByteArray}{L i:Nat}{rs:List Rat}(E:Env w q b g tv uv l vs L)(h:Rea w q b tv uv l vs i)(hR:RQ w g b rs L)(hr:Rc q b w w'):Env w' q b g tv uv l vs L:=by
 refine⟨E.tabs.rcs hr h.no8 ?_,E.wf,E.nov,E.hL,E.hL1,E.qb,E.gq⟩;obtain⟨es,e1,e2,e3⟩:=hR.row;intro z;rw[cell_of_row _ _ _ _ _ (0,0) e2,List.getElem?_toArray];cases es with
 |nil=>simp[rf3]
 |cons e es=>simp[rf3]
theorem acp(w:World)(q b g:Nat)(tv uv:Value)(l:List Tk)(vs:List ByteArray)(L:Nat)(E:Env w q b g tv uv l vs L)(sn ok:Bool)(rs rs':List Rat)(i k:Nat)(hs:SideR l vs L sn i rs ok k rs')(av:Value)(hA:AddV q b g w av sn)(hR:RQ w g b rs L)(h:Rea w q b tv uv l vs i):
  Calls Tryz.prog 103 #[.pointer (some ⟨q,0,none⟩),av] w fun e w'=>e=.returned (.bool ok)/\Rea w' q b tv uv l vs k/\Rc q b w w'/\RQ w' g b rs' L:=by
 obtain⟨t,ht,hs⟩:=hs;have K:=hide (afm w q b tv uv l vs i t h ht (fun h3=>E.wf.more ht (by rw[h3];decide)) E.wf.len);have HE:=hide E;have HA:=hide hA;have HR:=hide hR;have H:=hide h;have HS:=hide hs;obtain⟨j0,hj0⟩:∃j0,(if tpm t=true then i+1 else i)=j0:=⟨_,rfl⟩;rw[hj0]at K HS;clear E hA hR h hs ht hj0;generalize tsg t sMinus=m0 at K HS;generalize tpm t=p0 at K;go_enter Tryz.func103,Tryz.ntmps103
 go_wp2_with fail
 refine K.out.mono ?_;rintro e w1 ⟨rfl,r1,r2⟩;have H1:=hide r1;have HC1:=hide (show Rc q b w w1 from r2.wide);have HQ1:=hide (HR.out.rc r2 HE.out.gq (fun e=>HE.out.qb e.symm));clear r1 r2 K;go_wp2_with fail
 go_loopw [5,7] (fun mv ov wr=>Rc q b w wr/\((∃m j rsj,mv=.bool m/\ov=.bool true/\SideL l vs L sn m j rsj ok k rs'/\Rea wr q b tv uv l vs j/\RQ wr g b rsj L)\/(∃m,mv=.bool m/\ov=.bool false/\ok=true/\Rea wr q b tv uv l vs k/\RQ wr g b rs' L))) (fun _ ov wr=>(l.length-nx wr q)+(match ov with | .bool true=>1|_=>0))
 case atStart=>exact⟨HC1.out,.inl ⟨m0,j0,rs,rfl,rfl,HS.out,H1.out,HQ1.out⟩⟩
 case round=>
  obtain⟨hrc,⟨m,j,rsj,rfl,rfl,hsl,hrea,hrq⟩|⟨m,rfl,rfl,rfl,hrea,hrq⟩⟩:=hrel
  ·have HC:=hide hrc;have HSL:=hide hsl;have HRE:=hide hrea;have HRQ:=hide hrq;clear hrc hsl hrea hrq;cases m with
   |false=>
    have HEr:=hide (HE.out.rc H.out HR.out HC.out);have HAr:=hide (HA.out.rc HC.out);cases HSL.out with
    |bad _ _ j' _ _ hterm=>
     rw[show(false != sn)=sn from by cases sn <;> rfl]at hterm;have HTM:=hide hterm;clear hterm HSL;have HA2:=HAr;have HC2:=HC;have HRE2:=HRE;have HRQ2:=HRQ;have HE2:=HEr;go_wp2_with fail
     refine(adk wr q b g tv uv l vs L HE2.out sn false rsj rs' j k HTM.out av HA2.out HRQ2.out HRE2.out).mono ?_;rintro e w3 ⟨rfl,r1,r2,r3⟩;have R1:=hide r1;have R2:=hide (HC2.out.trans r2);have R3':=hide r3;clear r1 r2 r3;go_wp2;refine bodyPost_ret (v:=_) (by simp[results,Tryz.results103,go_sem];try rfl) rfl ⟨rfl,R1.out,R2.out,R3'.out⟩
    |last _ _ j' _ _ hterm t ht hp=>
     have hlt:=hterm.lt;rw[show(false != sn)=sn from by cases sn <;> rfl]at hterm;have HTM:=hide hterm;have HT:=hide ht;have HP:=hide hp;clear hterm ht hp HSL;have HA2:=HAr;have HC2:=HC;have HRE2:=HRE;have HRQ2:=HRQ;have HE2:=HEr;go_wp2_with fail
     refine(adk wr q b g tv uv l vs L HE2.out sn true rsj rs' j k HTM.out av HA2.out HRQ2.out HRE2.out).mono ?_;rintro e w3 ⟨rfl,r1,r2,r3⟩;have K2:=afm w3 q b tv uv l vs k t r1 HT.out (fun h3=>HE.out.wf.more HT.out (by rw[h3];decide)) HE.out.wf.len;rw[HP.out]at K2;have K2:=hide K2;have R2:=hide (HC2.out.trans r2);have R3':=hide r3;clear r1 r2 r3;go_wp2_with fail
     refine K2.out.mono ?_;rintro e w4 ⟨rfl,s1,s2⟩;have S1:=hide s1;have S2:=hide (R2.out.trans s2.wide);have S3:=hide (R3'.out.rc s2 HE.out.gq (fun e=>HE.out.qb e.symm));clear s1 s2 K2;go_wp2;go_roundw
     case rel=>exact⟨S2.out,.inr ⟨_,rfl,rfl,trivial,S1.out,S3.out⟩⟩
     case measure=>
      have e1:=S1.out.nx;have e2:=HRE.out.nx;have e3:=HRE.out.lt;rw[if_neg (by decide)]at e1;simp only[e1,e2];omega
    |more _ _ j' _ _ rs'' _ _ hterm t ht hp hr=>
     have hlt:=hterm.lt;rw[show(false != sn)=sn from by cases sn <;> rfl]at hterm;have HTM:=hide hterm;have HT:=hide ht;have HP:=hide hp;have HNX:=hide hr;clear hr;clear hterm ht hp HSL;have HA2:=HAr;have HC2:=HC;have HRE2:=HRE;have HRQ2:=HRQ;have HE2:=HEr;go_wp2_with fail
     refine(adk wr q b g tv uv l vs L HE2.out sn true rsj rs'' j j' HTM.out av HA2.out HRQ2.out HRE2.out).mono ?_;rintro e w3 ⟨rfl,r1,r2,r3⟩;have K2:=afm w3 q b tv uv l vs j' t r1 HT.out (fun h3=>HE.out.wf.more HT.out (by rw[h3];decide)) HE.out.wf.len;rw[HP.out]at K2;have K2:=hide K2;have R2:=hide (HC2.out.trans r2);have R3':=hide r3;clear r1 r2 r3;go_wp2_with fail
     refine K2.out.mono ?_;rintro e w4 ⟨rfl,s1,s2⟩;have S1:=hide s1;have S2:=hide (R2.out.trans s2.wide);have S3:=hide (R3'.out.rc s2 HE.out.gq (fun e=>HE.out.qb e.symm));clear s1 s2 K2;go_wp2;go_roundw
     case rel=>exact⟨S2.out,.inl ⟨_,_,_,rfl,rfl,HNX.out,S1.out,S3.out⟩⟩
     case measure=>
      have e1:=S1.out.nx;have e2:=HRE.out.nx;have e3:=HRE.out.lt;rw[if_pos trivial]at e1;simp only[e1,e2];omega
   |true=>
    have HEr:=hide (HE.out.rc H.out HR.out HC.out);have HAr:=hide (HA.out.rc HC.out);cases HSL.out with
    |bad _ _ j' _ _ hterm=>
     rw[show(true != sn)=(!sn)from by cases sn <;> rfl]at hterm;have HTM:=hide hterm;clear hterm HSL;go_wp2_with fail
     refine(ac5 wr av q b g sn HAr.out (aaa HRE.out.blk) (aaa HRQ.out.row.choose_spec.2.1)).mono ?_;rintro e w2 ⟨uv2,rfl,ha2,hb2⟩;have HA2:=hide ha2;have HC2:=hide (HC.out.trans (.of_below hb2));have HRE2:=hide (HRE.out.below hb2);have HRQ2:=hide (HRQ.out.below hb2);have HE2:=hide (HEr.out.rc HRE.out HRQ.out (.of_below hb2));clear ha2 hb2;go_wp2_with fail
     refine(adk w2 q b g tv uv l vs L HE2.out (!sn) false rsj rs' j k HTM.out uv2 HA2.out HRQ2.out HRE2.out).mono ?_;rintro e w3 ⟨rfl,r1,r2,r3⟩;have R1:=hide r1;have R2:=hide (HC2.out.trans r2);have R3':=hide r3;clear r1 r2 r3;go_wp2;refine bodyPost_ret (v:=_) (by simp[results,Tryz.results103,go_sem];try rfl) rfl ⟨rfl,R1.out,R2.out,R3'.out⟩
    |last _ _ j' _ _ hterm t ht hp=>
     have hlt:=hterm.lt;rw[show(true != sn)=(!sn)from by cases sn <;> rfl]at hterm;have HTM:=hide hterm;have HT:=hide ht;have HP:=hide hp;clear hterm ht hp HSL;go_wp2_with fail
     refine(ac5 wr av q b g sn HAr.out (aaa HRE.out.blk) (aaa HRQ.out.row.choose_spec.2.1)).mono ?_;rintro e w2 ⟨uv2,rfl,ha2,hb2⟩;have HA2:=hide ha2;have HC2:=hide (HC.out.trans (.of_below hb2));have HRE2:=hide (HRE.out.below hb2);have HRQ2:=hide (HRQ.out.below hb2);have HE2:=hide (HEr.out.rc HRE.out HRQ.out (.of_below hb2));clear ha2 hb2;go_wp2_with fail
     refine(adk w2 q b g tv uv l vs L HE2.out (!sn) true rsj rs' j k HTM.out uv2 HA2.out HRQ2.out HRE2.out).mono ?_;rintro e w3 ⟨rfl,r1,r2,r3⟩;have K2:=afm w3 q b tv uv l vs k t r1 HT.out (fun h3=>HE.out.wf.more HT.out (by rw[h3];decide)) HE.out.wf.len;rw[HP.out]at K2;have K2:=hide K2;have R2:=hide (HC2.out.trans r2);have R3':=hide r3;clear r1 r2 r3;go_wp2_with fail
     refine K2.out.mono ?_;rintro e w4 ⟨rfl,s1,s2⟩;have S1:=hide s1;have S2:=hide (R2.out.trans s2.wide);have S3:=hide (R3'.out.rc s2 HE.out.gq (fun e=>HE.out.qb e.symm));clear s1 s2 K2;go_wp2;go_roundw
     case rel=>exact⟨S2.out,.inr ⟨_,rfl,rfl,trivial,S1.out,S3.out⟩⟩
     case measure=>
      have e1:=S1.out.nx;have e2:=HRE.out.nx;have e3:=HRE.out.lt;rw[if_neg (by decide)]at e1;simp only[e1,e2];omega
    |more _ _ j' _ _ rs'' _ _ hterm t ht hp hr=>
     have hlt:=hterm.lt;rw[show(true != sn)=(!sn)from by cases sn <;> rfl]at hterm;have HTM:=hide hterm;have HT:=hide ht;have HP:=hide hp;have HNX:=hide hr;clear hr;clear hterm ht hp HSL;go_wp2_with fail
     refine(ac5 wr av q b g sn HAr.out (aaa HRE.out.blk) (aaa HRQ.out.row.choose_spec.2.1)).mono ?_;rintro e w2 ⟨uv2,rfl,ha2,hb2⟩;have HA2:=hide ha2;have HC2:=hide (HC.out.trans (.of_below hb2));have HRE2:=hide (HRE.out.below hb2);have HRQ2:=hide (HRQ.out.below hb2);have HE2:=hide (HEr.out.rc HRE.out HRQ.out (.of_below hb2));clear ha2 hb2;go_wp2_with fail
     refine(adk w2 q b g tv uv l vs L HE2.out (!sn) true rsj rs'' j j' HTM.out uv2 HA2.out HRQ2.out HRE2.out).mono ?_;rintro e w3 ⟨rfl,r1,r2,r3⟩;have K2:=afm w3 q b tv uv l vs j' t r1 HT.out (fun h3=>HE.out.wf.more HT.out (by rw[h3];decide)) HE.out.wf.len;rw[HP.out]at K2;have K2:=hide K2;have R2:=hide (HC2.out.trans r2);have R3':=hide r3;clear r1 r2 r3;go_wp2_with fail
     refine K2.out.mono ?_;rintro e w4 ⟨rfl,s1,s2⟩;have S1:=hide s1;have S2:=hide (R2.out.trans s2.wide);have S3:=hide (R3'.out.rc s2 HE.out.gq (fun e=>HE.out.qb e.symm));clear s1 s2 K2;go_wp2;go_roundw
     case rel=>exact⟨S2.out,.inl ⟨_,_,_,rfl,rfl,HNX.out,S1.out,S3.out⟩⟩
     case measure=>
      have e1:=S1.out.nx;have e2:=HRE.out.nx;have e3:=HRE.out.lt;rw[if_pos trivial]at e1;simp only[e1,e2];omega
  ·have HC:=hide hrc;have HRE:=hide hrea;have HRQ:=hide hrq;clear hrc hrea hrq;go_wp2;refine bodyPost_ret (v:=_) (by simp[results,Tryz.results103,go_sem];try rfl) rfl ⟨rfl,HRE.out,HC.out,HRQ.out⟩
inductive EqR (l:List Tk) (vs:List ByteArray) (L:Nat) (i:Nat) (rs:List Rat):Bool->Nat->List Rat->Prop
 |bad1 (k:Nat) (rs1:List Rat) (h:SideR l vs L false i rs false k rs1):EqR l vs L i rs false k rs1
 |bad2 (k:Nat) (rs1:List Rat) (t:Tk) (h:SideR l vs L false i rs true k rs1) (ht:l[k]? = some t) (hs:tsg t sEq=false):EqR l vs L i rs false k rs1
 |bad3 (k:Nat) (rs1:List Rat) (t:Tk) (h:SideR l vs L false i rs true k rs1) (ht:l[k]? = some t) (hs:tsg t sEq=true) (k2:Nat) (rs2:List Rat) (h2:SideR l vs L true (k+1) rs1 false k2 rs2):EqR l vs L i rs false k2 rs2
 |bad4 (k:Nat) (rs1:List Rat) (t:Tk) (h:SideR l vs L false i rs true k rs1) (ht:l[k]? = some t) (hs:tsg t sEq=true) (k2:Nat) (rs2:List Rat) (h2:SideR l vs L true (k+1) rs1 true k2 rs2) (t2:Tk) (ht2:l[k2]? = some t2) (hk:t2.kind≠0):EqR l vs L i rs false k2 rs2
 |good (k:Nat) (rs1:List Rat) (t:Tk) (h:SideR l vs L false i rs true k rs1) (ht:l[k]? = some t) (hs:tsg t sEq=true) (k2:Nat) (rs2:List Rat) (h2:SideR l vs L true (k+1) rs1 true k2 rs2) (t2:Tk) (ht2:l[k2]? = some t2) (hk:t2.kind=0):EqR l vs L i rs true k2 rs2
theorem aki(w:World)(q b g:Nat)(tv uv:Value)(l:List Tk)(vs:List ByteArray)(L:Nat)(E:Env w q b g tv uv l vs L)(ok:Bool)(rs rs':List Rat)(i k:Nat)(he:EqR l vs L i rs ok k rs')(av:Value)(hA:AddV q b g w av false)(hR:RQ w g b rs L)(h:Rea w q b tv uv l vs i):
  Calls Tryz.prog 62 #[.pointer (some ⟨q,0,none⟩),av] w fun e w'=>e=.returned (.bool ok)/\Rea w' q b tv uv l vs k/\Rc q b w w'/\RQ w' g b rs' L:=by
 have HE:=hide E;have HA:=hide hA;have HR:=hide hR;have H:=hide h;clear E hA hR h;cases he with
 |bad1 _ _ hs1=>
  have HS1:=hide hs1;clear hs1;go_enter Tryz.func62,Tryz.ntmps62
  go_wp2_with fail
  refine(acp w q b g tv uv l vs L HE.out false false rs rs' i k HS1.out av HA.out HR.out H.out).mono ?_;rintro e w1 ⟨rfl,r1,r2,r3⟩;have R1:=hide r1;have C1:=hide r2;have Q1:=hide r3;clear r1 r2 r3;go_wp2;refine bodyPost_ret (v:=_) (by simp[results,Tryz.results62,go_sem];try rfl) rfl ⟨rfl,R1.out,C1.out,Q1.out⟩
 |bad2 _ _ t hs1 ht hsg=>
  have HT:=hide ht;have HSG:=hide hsg;clear ht hsg;have HS1:=hide hs1;clear hs1;go_enter Tryz.func62,Tryz.ntmps62
  go_wp2_with fail
  refine(acp w q b g tv uv l vs L HE.out false true rs rs' i k HS1.out av HA.out HR.out H.out).mono ?_;rintro e w1 ⟨rfl,r1,r2,r3⟩;have R1:=hide r1;have C1:=hide r2;have Q1:=hide r3;clear r1 r2 r3;have K:=abt w1 q b tv uv l vs k t R1.out HT.out sEq (fun h3=>HE.out.wf.more HT.out (by rw[h3];decide)) HE.out.wf.len;rw[HSG.out]at K;unfold sEq at K;have K:=hide K;go_wp2_with fail
  refine K.out.mono ?_;rintro e w2 ⟨rfl,s1,s2⟩;have R2:=hide s1;have C2:=hide (C1.out.trans s2.wide);have Q2:=hide (Q1.out.rc s2 HE.out.gq (fun e=>HE.out.qb e.symm));clear s1 s2 K;go_wp2;refine bodyPost_ret (v:=_) (by simp[results,Tryz.results62,go_sem];try rfl) rfl ⟨rfl,R2.out,C2.out,Q2.out⟩
 |bad3 k1 rs1 t hs1 ht hsg _ _ hs2=>
  have HT:=hide ht;have HSG:=hide hsg;clear ht hsg;have HS2:=hide hs2;clear hs2;have HS1:=hide hs1;clear hs1;go_enter Tryz.func62,Tryz.ntmps62
  go_wp2_with fail
  refine(acp w q b g tv uv l vs L HE.out false true rs rs1 i k1 HS1.out av HA.out HR.out H.out).mono ?_;rintro e w1 ⟨rfl,r1,r2,r3⟩;have R1:=hide r1;have C1:=hide r2;have Q1:=hide r3;clear r1 r2 r3;have K:=abt w1 q b tv uv l vs k1 t R1.out HT.out sEq (fun h3=>HE.out.wf.more HT.out (by rw[h3];decide)) HE.out.wf.len;rw[HSG.out]at K;unfold sEq at K;have K:=hide K;go_wp2_with fail
  refine K.out.mono ?_;rintro e w2 ⟨rfl,s1,s2⟩;have R2:=hide s1;have C2:=hide (C1.out.trans s2.wide);have Q2:=hide (Q1.out.rc s2 HE.out.gq (fun e=>HE.out.qb e.symm));clear s1 s2 K;rw[if_pos trivial]at R2;have HE2:=hide (HE.out.rc H.out HR.out C2.out);go_wp2_with fail
  refine(ac5 w2 av q b g false (HA.out.rc C2.out) (aaa R2.out.blk) (aaa Q2.out.row.choose_spec.2.1)).mono ?_;rintro e w3 ⟨u3,rfl,ha3,hb3⟩;have HA3:=hide ha3;have R3:=hide (R2.out.below hb3);have C3:=hide (C2.out.trans (.of_below hb3));have Q3:=hide (Q2.out.below hb3);have HE3:=hide (HE2.out.rc R2.out Q2.out (.of_below hb3));clear ha3 hb3;go_wp2_with fail
  refine(acp w3 q b g tv uv l vs L HE3.out true false rs1 rs' (k1+1) k HS2.out u3 HA3.out Q3.out R3.out).mono ?_;rintro e w4 ⟨rfl,r1,r2,r3⟩;have R4:=hide r1;have C4:=hide (C3.out.trans r2);have QE4:=hide r3;clear r1 r2 r3;go_wp2;refine bodyPost_ret (v:=_) (by simp[results,Tryz.results62,go_sem];try rfl) rfl ⟨rfl,R4.out,C4.out,QE4.out⟩
 |bad4 k1 rs1 t hs1 ht hsg _ _ hs2 t2 ht2 hk=>
  have HT:=hide ht;have HSG:=hide hsg;clear ht hsg;have HS2:=hide hs2;have HT2:=hide ht2;have HK:=hide hk;clear hs2 ht2 hk;have HS1:=hide hs1;clear hs1;go_enter Tryz.func62,Tryz.ntmps62
  go_wp2_with fail
  refine(acp w q b g tv uv l vs L HE.out false true rs rs1 i k1 HS1.out av HA.out HR.out H.out).mono ?_;rintro e w1 ⟨rfl,r1,r2,r3⟩;have R1:=hide r1;have C1:=hide r2;have Q1:=hide r3;clear r1 r2 r3;have K:=abt w1 q b tv uv l vs k1 t R1.out HT.out sEq (fun h3=>HE.out.wf.more HT.out (by rw[h3];decide)) HE.out.wf.len;rw[HSG.out]at K;unfold sEq at K;have K:=hide K;go_wp2_with fail
  refine K.out.mono ?_;rintro e w2 ⟨rfl,s1,s2⟩;have R2:=hide s1;have C2:=hide (C1.out.trans s2.wide);have Q2:=hide (Q1.out.rc s2 HE.out.gq (fun e=>HE.out.qb e.symm));clear s1 s2 K;rw[if_pos trivial]at R2;have HE2:=hide (HE.out.rc H.out HR.out C2.out);go_wp2_with fail
  refine(ac5 w2 av q b g false (HA.out.rc C2.out) (aaa R2.out.blk) (aaa Q2.out.row.choose_spec.2.1)).mono ?_;rintro e w3 ⟨u3,rfl,ha3,hb3⟩;have HA3:=hide ha3;have R3:=hide (R2.out.below hb3);have C3:=hide (C2.out.trans (.of_below hb3));have Q3:=hide (Q2.out.below hb3);have HE3:=hide (HE2.out.rc R2.out Q2.out (.of_below hb3));clear ha3 hb3;go_wp2_with fail
  refine(acp w3 q b g tv uv l vs L HE3.out true true rs1 rs' (k1+1) k HS2.out u3 HA3.out Q3.out R3.out).mono ?_;rintro e w4 ⟨rfl,r1,r2,r3⟩;have R4:=hide r1;have C4:=hide (C3.out.trans r2);have QE4:=hide r3;clear r1 r2 r3;have hf0:∀W,(Instr.field 109 (.agg #[.int .i64 t2.kind,.string t2.text,.int .i64 t2.pl.b,.int .i64 t2.pl.g,.int .i64 t2.pl.l,.int .i64 t2.pl.c]) 0).run Tryz.prog W=.ok (.int .i64 t2.kind) W:=fun W=>ady _ _ _ _ _ _ W
  go_wp2_with fail
  refine(aa8 w4 q b tv uv l vs k t2 R4.out HT2.out).mono ?_;rintro e w5 ⟨rfl,hb5⟩;have R5:=hide (R4.out.below hb5);have C5:=hide (C4.out.trans (.of_below hb5));have Q5:=hide (QE4.out.below hb5);unfold Tk.av;clear hb5;have hk0:(t2.kind==0)=false:=beq_eq_false_iff_ne.2 HK.out;go_wp2;refine bodyPost_ret (v:=_) (by simp[results,Tryz.results62,go_sem];try rfl) rfl ⟨rfl,R5.out,C5.out,Q5.out⟩
 |good k1 rs1 t hs1 ht hsg _ _ hs2 t2 ht2 hk=>
  have HT:=hide ht;have HSG:=hide hsg;clear ht hsg;have HS2:=hide hs2;have HT2:=hide ht2;have HK:=hide hk;clear hs2 ht2 hk;have HS1:=hide hs1;clear hs1;go_enter Tryz.func62,Tryz.ntmps62
  go_wp2_with fail
  refine(acp w q b g tv uv l vs L HE.out false true rs rs1 i k1 HS1.out av HA.out HR.out H.out).mono ?_;rintro e w1 ⟨rfl,r1,r2,r3⟩;have R1:=hide r1;have C1:=hide r2;have Q1:=hide r3;clear r1 r2 r3;have K:=abt w1 q b tv uv l vs k1 t R1.out HT.out sEq (fun h3=>HE.out.wf.more HT.out (by rw[h3];decide)) HE.out.wf.len;rw[HSG.out]at K;unfold sEq at K;have K:=hide K;go_wp2_with fail
  refine K.out.mono ?_;rintro e w2 ⟨rfl,s1,s2⟩;have R2:=hide s1;have C2:=hide (C1.out.trans s2.wide);have Q2:=hide (Q1.out.rc s2 HE.out.gq (fun e=>HE.out.qb e.symm));clear s1 s2 K;rw[if_pos trivial]at R2;have HE2:=hide (HE.out.rc H.out HR.out C2.out);go_wp2_with fail
  refine(ac5 w2 av q b g false (HA.out.rc C2.out) (aaa R2.out.blk) (aaa Q2.out.row.choose_spec.2.1)).mono ?_;rintro e w3 ⟨u3,rfl,ha3,hb3⟩;have HA3:=hide ha3;have R3:=hide (R2.out.below hb3);have C3:=hide (C2.out.trans (.of_below hb3));have Q3:=hide (Q2.out.below hb3);have HE3:=hide (HE2.out.rc R2.out Q2.out (.of_below hb3));clear ha3 hb3;go_wp2_with fail
  refine(acp w3 q b g tv uv l vs L HE3.out true true rs1 rs' (k1+1) k HS2.out u3 HA3.out Q3.out R3.out).mono ?_;rintro e w4 ⟨rfl,r1,r2,r3⟩;have R4:=hide r1;have C4:=hide (C3.out.trans r2);have QE4:=hide r3;clear r1 r2 r3;have hf0:∀W,(Instr.field 109 (.agg #[.int .i64 t2.kind,.string t2.text,.int .i64 t2.pl.b,.int .i64 t2.pl.g,.int .i64 t2.pl.l,.int .i64 t2.pl.c]) 0).run Tryz.prog W=.ok (.int .i64 t2.kind) W:=fun W=>ady _ _ _ _ _ _ W
  go_wp2_with fail
  refine(aa8 w4 q b tv uv l vs k t2 R4.out HT2.out).mono ?_;rintro e w5 ⟨rfl,hb5⟩;have R5:=hide (R4.out.below hb5);have C5:=hide (C4.out.trans (.of_below hb5));have Q5:=hide (QE4.out.below hb5);unfold Tk.av;clear hb5;have hk0:(t2.kind==0)=true:=beq_iff_eq.2 HK.out;go_wp2;refine bodyPost_ret (v:=_) (by simp[results,Tryz.results62,go_sem];try rfl) rfl ⟨rfl,R5.out,C5.out,Q5.out⟩
theorem ama(p:Gl->Bool)(l:List Gl):(l.dropWhile p).length<=l.length:=by
 induction l with
 |nil=>simp
 |cons x l ih=>
  simp only[List.dropWhile_cons];split
  ·simp only[List.length_cons];omega
  ·exact Nat.le_refl _
theorem at3{s:ByteArray}{e:Pl}{g:Gl}{r:List Gl}{k:Int}{x:ByteArray}{t:List Gl}(h:TokR s e g r (.ok k x t)):t.length<=r.length/\k≠0:=by
 unfold TokR at h;split at h
 ·next h2=>
  split at h
  ·cases h
  ·injection h with h1 h3 h4;subst h1 h4;refine⟨?_,by decide⟩;rw[List.dropWhile_cons,if_pos (by simp[inC,h2])];exact ama _ _
 ·split at h
  ·next h2=>
   obtain⟨n,ds,_,_,h⟩:=h;split at h
   ·cases h
   ·injection h with h1 h3 h4;subst h1 h4;refine⟨?_,by decide⟩;rw[List.dropWhile_cons,if_pos (by simp[inC,h2])];exact ama _ _
  ·split at h
   ·unfold signS at h;split at h
    ·injection h with h1 h3 h4;subst h1 h4;exact⟨Nat.le_refl _,by decide⟩
    ·split at h
     ·injection h with h1 h3 h4;subst h1 h4;exact⟨Nat.le_refl _,by decide⟩
     ·split at h
      ·cases r with
       |nil=>cases h
       |cons y r=>
        simp only at h;split at h
        ·injection h with h1 h3 h4;subst h1 h4;exact⟨by simp,by decide⟩
        ·cases h
      ·injection h with h1 h3 h4;subst h1 h4;exact⟨Nat.le_refl _,by decide⟩
   ·cases h
theorem awr{s:ByteArray}{e:Pl}{r:List Gl}{o:SO}(h:ScanR s e r o):∀l,o=.ok l->l.length<=r.length+1/\0<l.length/\∀(i:Nat) (t:Tk),l[i]? = some t->i+1=l.length->t.kind=0/\t.text=⟨#[]⟩:=by
 induction h with
 |done r h hb=>
  intro l hl;injection hl with hl;subst hl;refine⟨by simp,by simp,fun i t ht hi=>?_⟩;have:i=0:=by simpa using hi
  subst this;simp at ht;subst ht;exact⟨rfl,rfl⟩
 |rune r h hb=>intro l hl;cases hl
 |bad r g t k h ht=>intro l hl;cases hl
 |tok r g t kind text rest o h ht hr ih=>
  intro l hl;cases o with
  |bad k p=>cases hl
  |ok l'=>
   injection hl with hl;subst hl;obtain⟨i1,i0,i2⟩:=ih l' rfl;have h1:=(at3 ht).1;obtain⟨j,hj,hd⟩:=al3 false r;have h2:t.length+1<=r.length:=by
    have:(g::t).length=r.length-j:=by rw[<-h,hd,List.length_drop]
    simp at this;omega
   refine⟨by simp only[List.length_cons];omega,by simp,fun i u hu hi=>?_⟩;cases i with
   |zero=>simp only[List.length_cons]at hi;omega
   |succ i=>exact i2 i u (by simpa using hu) (by simp only[List.length_cons]at hi;omega)
theorem aq4{s:ByteArray}{e:Pl}{gs:List Gl}{l:List Tk}(hs:s.size<=4096)(hQ:Snd s pl0 gs e)(hR:ScanR s e gs (.ok l)):Wf l/\0<l.length:=by
 obtain⟨h1,h0,h2⟩:=awr hR l rfl;have h3:=hQ.ends ad5 (Nat.zero_le _);have:pl0.b=0:=rfl;exact⟨⟨by omega,h2⟩,h0⟩
theorem aok{fn:Func}{a:Act}{w:World}{k k' m g:Nat}{v v' x0 x1 x2 x3:Value}(hr:fn.results = #[.tmp k,.tmp k',.cell m 56])(h1:a.eval (.tmp k)=v)(h2:a.eval (.tmp k')=v')(h3:a.eval (.tmp m)=.pointer (some ⟨g,0,none⟩))(hh:w.heap[g]? = some (.cells #[x0,x1,x2,x3] 56 (0,0))):(results fn a.tmps).run Tryz.prog w=.ok (.tuple #[v,v',.agg #[x0,x1,x2,x3]]) w:=by
 have e1:a.tmps[k]?.getD undef=v:=by simpa[Act.eval]using h1
 have e2:a.tmps[k']?.getD undef=v':=by simpa[Act.eval]using h2
 have e3:a.tmps[m]?.getD undef=.pointer (some ⟨g,0,none⟩):=by simpa[Act.eval]using h3
 have c0:w.cell? ⟨g,0,none⟩=some x0:=by rw[cell_of_row _ _ _ _ _ (0,0) hh];rfl
 have c1:w.cell? ⟨g,1,none⟩=some x1:=by rw[cell_of_row _ _ _ _ _ (0,0) hh];rfl
 have c2:w.cell? ⟨g,2,none⟩=some x2:=by rw[cell_of_row _ _ _ _ _ (0,0) hh];rfl
 have c3:w.cell? ⟨g,3,none⟩=some x3:=by rw[cell_of_row _ _ _ _ _ (0,0) hh];rfl
 simp[results,hr,e1,e2,e3,go_sem,c0,c1,c2,c3,asAddr]
theorem at4{W:World}{f:Nat}{x y z t:Value}{T:TypeId}(h:W.heap[f]? = some (.cells #[x,y,z,t] T (0,0)))(a b c d:Value):((((W.setCell ⟨f,0,none⟩ a).setCell ⟨f,1,none⟩ b).setCell ⟨f,2,none⟩ c).setCell ⟨f,3,none⟩ d).heap[f]? = some (.cells #[a,b,c,d] T (0,0)):=by
 have s1:=heap_setCell_same W f 0 _ _ a h;have s2:=heap_setCell_same _ f 1 _ _ b s1;have s3:=heap_setCell_same _ f 2 _ _ c s2;have s4:=heap_setCell_same _ f 3 _ _ d s3;rw[s4];simp
theorem a06{W:World}{f:Nat}{x y z t:Int}(h:W.heap[f]? = some (.cells #[.int .i64 x,.int .i64 y,.int .i64 z,.int .i64 t] 56 (0,0)))(a b c d:Value):Ru W ((((W.setCell ⟨f,0,none⟩ a).setCell ⟨f,1,none⟩ b).setCell ⟨f,2,none⟩ c).setCell ⟨f,3,none⟩ d):=by
 refine Ru.of_one h (by decide) ?_ (by simp[World.setCell]) (fun k _ hn=>by rw[heap_setCell_other _ ⟨f,3,none⟩ k _ hn,heap_setCell_other _ ⟨f,2,none⟩ k _ hn,heap_setCell_other _ ⟨f,1,none⟩ k _ hn,heap_setCell_other _ ⟨f,0,none⟩ k _ hn]);intro i z
 match i with
 |0=>simp
 |1=>simp
 |2=>simp
 |3=>simp
 |i+4=>simp
theorem ai4{W:World}{f:Nat}{x y z t:Value}{T:TypeId}(h:W.heap[f]? = some (.cells #[x,y,z,t] T (0,0))):f<W.heap.size/\W.cell? ⟨f,0,none⟩=some x/\W.cell? ⟨f,1,none⟩=some y/\W.cell? ⟨f,2,none⟩=some z/\W.cell? ⟨f,3,none⟩=some t/\W.frozen? ⟨f,0,none⟩=false/\W.frozen? ⟨f,1,none⟩=false/\W.frozen? ⟨f,2,none⟩=false/\W.frozen? ⟨f,3,none⟩=false:=⟨aaa h,by rw[cell_of_row _ _ _ _ _ (0,0) h];rfl,by rw[cell_of_row _ _ _ _ _ (0,0) h];rfl,by rw[cell_of_row _ _ _ _ _ (0,0) h];rfl,by rw[cell_of_row _ _ _ _ _ (0,0) h];rfl,frozen_of_row _ _ _ _ _ h,frozen_of_row _ _ _ _ _ h,frozen_of_row _ _ _ _ _ h,frozen_of_row _ _ _ _ _ h⟩
theorem aws{w:World}{g b n:Nat}{L:Nat}(hg:w.heap[g]? = some (.cells #[.slice (some ⟨b,0,none⟩) n n] 34 (0,0)))(hb:w.heap[b]? = some (.cells (rf3 (List.replicate n ⟨false,none,0,0,none,0,0⟩)).toArray 62 (0,0)))(hne:g≠b):RQ w g b (List.replicate n 0) L:=by
 refine⟨by simpa using hg,⟨_,by simp,hb,fun i e r he hr=>?_⟩,hne⟩;obtain rfl:=List.eq_of_mem_replicate (List.mem_of_getElem? he);obtain rfl:=List.eq_of_mem_replicate (List.mem_of_getElem? hr);exact⟨0,0,⟨_,_,_,_,[],_,_,_,[],rfl,⟨ac6 w,rfl⟩,ac6 w,rfl,by simp,by simp⟩,Rat.divInt_zero 0⟩
theorem akj(w:World)(hT:Tabs w)(s:ByteArray)(hs:s.size<=4096)(v:Value)(vs:List ByteArray)(hv:Strs w v vs)(hN:NmsOk vs)(gs:List Gl)(e:Pl)(l:List Tk)(hQ:Snd s pl0 gs e)(hR:ScanR s e gs (.ok l))(L M:Nat)(hL:L<=10000)(hL1:1<=L)(hM:M<=100000)(k:Nat)(rs:List Rat)(hE:EqR l vs L 0 (List.replicate (vs.length+1) 0) true k rs)(hrl:rs.length=vs.length+1)(hC:∀k,k<=rs.length->((comR (rs.take k)).natAbs:Int)<pw M)(hD:∀z∈clr rs,(z.natAbs:Int)<pw M)(hnov:(⟨#[]⟩:ByteArray)∉vs):
  Calls Tryz.prog 30 #[.string s,v] w fun r w'=>Below w.heap.size w w'/\(((∀z∈canonZ rs,(z.natAbs:Int)<pw 32)/\∃x,r=.returned (.tuple #[x,.int .i64 0,.agg #[.int .i64 0,.int .i64 0,.int .i64 0,.int .i64 0]])/\ORow w.heap.size w' x (canonZ rs) M)\/((∃z∈canonZ rs,¬(z.natAbs:Int)<pw 32)/\r=.returned (.tuple #[.slice none 0 0,.int .i64 2,.agg #[.int .i64 0,.int .i64 0,.int .i64 0,.int .i64 0]]))):=by
 obtain⟨av,cv,rfl,_⟩:=id hv;have hvl:vs.length<=16:=hN.1;have hb0:Below w.heap.size w (w.alloc (.cells #[.int .i64 0,.int .i64 0,.int .i64 0,.int .i64 0] 56)):=hAl _ _;have K:=agq _ (hT.below hb0) _ vs (hv.below hb0);rw[show nmsE vs=0 from if_pos hN]at K;have K:=hide K;have HT:=hide hT;have HV:=hide hv;have HQ:=hide hQ;have HR:=hide hR;have HE:=hide hE;have HC:=hide (And.intro hC hD);have HRL:=hide hrl;obtain⟨hWf,hl0⟩:=aq4 hs hQ hR;have HWf:=hide hWf;have HNV:=hide hnov;obtain⟨iR,hi,hz0,hz1,hz2⟩:=info_parts infoRz;clear hT hv hQ hR hE hC hD hrl hWf hnov hN;go_enter Tryz.func30,Tryz.ntmps30
 go_wp2_with fail
 refine K.out.mono ?_;rintro r w1 ⟨rfl,hb1⟩;have hb1':=hb0.trans (hb1.mono hb0.size);have hf6:w1.heap[w.heap.size]? = some (.cells #[.int .i64 0,.int .i64 0,.int .i64 0,.int .i64 0] 56 (0,0)):=(hb1.block _ (by simp)).trans (heap_alloc_new w _);clear K hb0 hb1;go_wp2_with fail
 refine(ait w1 s (HT.out.below hb1') hs).mono ?_;rintro r w2 ⟨hb2,gs',e',o,s1,s2,s3⟩;obtain⟨rfl,rfl⟩:=s1.one HQ.out;obtain rfl:=s2.one HR.out;obtain⟨tv,rfl,hown⟩:=s3;have hts:Ts w2 tv l:=Ts.own hown;have hb2':=hb1'.trans (hb2.mono hb1'.size);have hf62:=(hb2.block _ (aaa hf6)).trans hf6;have hbA:=hAl w2 (.cells #[.int .i64 0,.int .i64 0,.int .i64 0,.int .i64 0] 56);have hb3:=hb2'.trans (hbA.mono hb2'.size);obtain⟨at_,ct,rfl,_⟩:=hts.parts;have HTS:=hide (hts.below hbA);have HF6:=hide (aa2 (o':=.cells #[.int .i64 0,.int .i64 0,.int .i64 0,.int .i64 0] 56) hf62);have HB3:=hide hb3;have hlt2:w.heap.size<w2.heap.size:=aaa hf62;have hT2:w2.ownsRow w1.heap.size 109 6 (.slice at_ l.length ct) l.length (tflat l):=hown;have HOWN:=hide hT2;unfold Pl.v plz;clear hb1' hb2 hb2' hf6 hf62 s1 s2 hown hts hT2;go_wp2_with (refine wpList_make_full _ rfl (.tmp 36) (.tmp 36) 34 rfl w.heap.size 62 iR (.agg #[.bool false,.slice none 0 0,.slice none 0 0]) 3 Tryz.underlying34 hi hz0 hz1 .i64 .i64 _ _ (vs.length+1) rfl rfl (by omega) (by omega) (by rw[hz2];omega) (by unfold maxLen;omega) HB3.out.size ?hK)
 case hK=>
  intro w4 hown hgrow;have hb4:=(Below.refl _ _).grown hgrow (Nat.le_refl _) (by simp);obtain⟨_,hmb⟩:=aeg hown;rw[aiw]at hmb;have hsz4:(w2.alloc (.cells #[.int .i64 0,.int .i64 0,.int .i64 0,.int .i64 0] 56)).heap.size=w2.heap.size+1:=by simp
  have hbl4:w2.heap.size+1<w4.heap.size:=aaa hmb;generalize hW5:w4.alloc (.cells #[.slice (some ⟨w2.heap.size+1,0,none⟩) (vs.length+1) (vs.length+1)] 34)=w5;have hb45:Below w4.heap.size w4 w5:=by rw[<-hW5];exact hAl _ _
  have hg5:w5.heap[w4.heap.size]? = some (.cells #[.slice (some ⟨w2.heap.size+1,0,none⟩) (vs.length+1) (vs.length+1)] 34 (0,0)):=by rw[<-hW5];exact heap_alloc_new _ _
  have hs5:w5.heap.size=w4.heap.size+1:=by rw[<-hW5];simp
  generalize hW6:w5.alloc (.cells #[.slice at_ l.length ct,.int .i64 0,.slice av vs.length cv] 104)=w6;have hb56:Below w5.heap.size w5 w6:=by rw[<-hW6];exact hAl _ _
  have hq6:w6.heap[w4.heap.size+1]? = some (.cells #[.slice at_ l.length ct,.int .i64 ((0:Nat):Int),.slice av vs.length cv] 104 (0,0)):=by rw[<-hW6,<-hs5];exact heap_alloc_new _ _
  have hb46:=hb45.trans (hb56.mono hb45.size);have hb36:=hb4.trans (hb46.mono hb4.size);have hb06:Below w.heap.size w w6:=HB3.out.trans (hb36.mono HB3.out.size);have hRQ:RQ w6 w4.heap.size (w2.heap.size+1) (List.replicate (vs.length+1) 0) L:=by
   refine aws ((hb56.block _ (aaa hg5)).trans hg5) ((hb46.block _ (aaa hmb)).trans hmb) (by omega)
  have hsw:w.heap.size<=w2.heap.size+1:=by have:=HB3.out.size;omega
  have hRE:Rea w6 (w4.heap.size+1) (w2.heap.size+1) (.slice at_ l.length ct) (.slice av vs.length cv) l vs 0:=by
   refine⟨hq6,HTS.out.below hb36,HV.out.below hb06,hl0,?_,?_⟩
   ·rintro _ b' off n c hv';have hts2:Ts w2 (.slice at_ l.length ct) l:=Ts.own HOWN.out;obtain⟨ao',cap',e1,_,_,_,e4⟩:=hts2;rcases e4 with e4|⟨b2,off2,e4,hl2,_⟩
    ·omega
    ·rw[e4]at e1;have e5:=hv'.symm.trans e1;simp only[Value.slice.injEq,Option.some.injEq,Addr.mk.injEq]at e5;omega
   ·rintro hp b' off n c hv';obtain⟨ao',cap',e1,_,_,_,e4⟩:=HV.out;rcases e4 with e4|⟨b2,off2,e4,hl2,_⟩
    ·omega
    ·rw[e4]at e1;have e5:=hv'.symm.trans e1;simp only[Value.slice.injEq,Option.some.injEq,Addr.mk.injEq]at e5;omega
  have hEnv:Env w6 (w4.heap.size+1) (w2.heap.size+1) w4.heap.size (.slice at_ l.length ct) (.slice av vs.length cv) l vs L:=⟨HT.out.below hb06,HWf.out,HNV.out,hL,hL1,by omega,by omega⟩;have KE:=hide (aki w6 _ _ _ _ _ l vs L hEnv true _ rs 0 k HE.out _ .base hRQ hRE);have HF66:=hide ((hb36.block _ (aaa HF6.out)).trans HF6.out);have HB06:=hide hb06;have hgl:w4.heap.size<w6.heap.size:=by have:=hb56.size;omega
  have HRQ:=hide hRQ;have HW5:=hide hW5;have HW6:=hide hW6;clear hW5 hW6 hRQ hRE hEnv hb36 hb06 hb46 hb45 hb56 hb4 hmb hown hgrow hg5 hq6;go_wp2_with fail
  rw[HW5.out,HW6.out];refine KE.out.mono ?_;rintro r w7 ⟨rfl,_,hrc,hrq⟩;have hb07:Below w.heap.size w w7:=HB06.out.trans (hrc.below HB06.out.size (by omega) hsw);have hf67:=(hrc.other _ (aaa HF66.out) (by omega) (by omega)).trans HF66.out;have hsl:=hrq.slot;have HIS:=hide (hrq.row_is (by rw[HRL.out];omega));rw[HRL.out]at hsl HIS;have sg0:w7.cell? ⟨w4.heap.size,0,none⟩=some (.slice (some ⟨w2.heap.size+1,0,none⟩) (vs.length+1) (vs.length+1)):=by rw[cell_of_row _ _ _ _ _ (0,0) hsl];rfl
  have HF67:=hide hf67;have HB07:=hide hb07;clear hrc hrq hb07 hf67 hsl KE;go_wp2_with fail
  refine(aty w7 _ rs L M HIS.out hL hL1 hM (by rw[HRL.out];omega) HC.out.1 HC.out.2 (by intro h;have:=HRL.out;rw[h]at this;simp at this)).mono ?_;rintro r w8 ⟨hb8,⟨hsm,x,rfl,hor⟩|⟨hbig,rfl⟩⟩
  ·have hf68:=(hb8.block _ (aaa HF67.out)).trans HF67.out;have HF68:=hide hf68;have HB8:=hide (HB07.out.trans (hb8.mono HB07.out.size));obtain⟨bv,rfl,hbv⟩:=id hor;have HOR:=hide hor;have HSM:=hide hsm;have h78:=HB07.out.size;obtain⟨hfl,c0,c1,c2,c3,f0,f1,f2,f3⟩:=ai4 hf68;clear hb8 hf68 hor hsm sg0;go_wp2;refine bodyPost_ret (v:=.tuple #[.slice (some ⟨bv,0,none⟩) (canonZ rs).length (canonZ rs).length,.int .i64 0,.agg #[.int .i64 0,.int .i64 0,.int .i64 0,.int .i64 0]]) (aok (g:=w.heap.size) rfl rfl rfl rfl (at4 HF68.out _ _ _ _)) rfl ⟨?_,.inl ⟨HSM.out,_,rfl,?_⟩⟩
   ·exact(((HB8.out.setCell (Nat.le_refl _) _).setCell (Nat.le_refl _) _).setCell (Nat.le_refl _) _).setCell (Nat.le_refl _) _
   ·obtain⟨bv',e1,e2,e3,e4⟩:=HOR.out;have hbb:bv≠w.heap.size:=by have:=hbv.1;have:=aaa HF67.out;omega
    obtain rfl:bv'=bv:=by
     simp only[Value.slice.injEq,Option.some.injEq,Addr.mk.injEq]at e1;exact e1.1.1.symm
    refine⟨bv',rfl,by omega,(PRow.low e3 h78).ru (a06 HF68.out _ _ _ _) ?_,e4⟩;rw[heap_setCell_other _ ⟨w.heap.size,3,none⟩ _ _ hbb,heap_setCell_other _ ⟨w.heap.size,2,none⟩ _ _ hbb,heap_setCell_other _ ⟨w.heap.size,1,none⟩ _ _ hbb,heap_setCell_other _ ⟨w.heap.size,0,none⟩ _ _ hbb]
  ·have hf68:=(hb8.block _ (aaa HF67.out)).trans HF67.out;have HF68:=hide hf68;have HB8:=hide (HB07.out.trans (hb8.mono HB07.out.size));have HBG:=hide hbig;obtain⟨hfl,c0,c1,c2,c3,f0,f1,f2,f3⟩:=ai4 hf68;clear hb8 hf68 hbig sg0;go_wp2;refine bodyPost_ret (v:=.tuple #[.slice none 0 0,.int .i64 2,.agg #[.int .i64 0,.int .i64 0,.int .i64 0,.int .i64 0]]) (aok (g:=w.heap.size) rfl rfl rfl rfl (at4 HF68.out _ _ _ _)) rfl ⟨?_,.inr ⟨HBG.out,rfl⟩⟩;exact(((HB8.out.setCell (Nat.le_refl _) _).setCell (Nat.le_refl _) _).setCell (Nat.le_refl _) _).setCell (Nat.le_refl _) _
theorem a0h:IsDec [50] 2:=⟨by intro z hz;simp at hz;omega,by kernel_rfl,.inr ⟨50,[],rfl,by decide⟩⟩
theorem a0i:IsDec [51] 3:=⟨by intro z hz;simp at hz;omega,by kernel_rfl,.inr ⟨51,[],rfl,by decide⟩⟩
theorem a07:txt 2=⟨#[50]⟩:=by
 rw[txt,if_neg (by decide),show((2:Int).natAbs:Int)=2 from rfl,<-adr a0h];rfl
theorem a0j:txt (-3)=⟨#[45,51]⟩:=by
 rw[txt,if_pos (by decide),show((-3:Int).natAbs:Int)=3 from rfl,<-adr a0i];rfl
theorem at5:prn [1,-2,-3] [⟨#[120]⟩,⟨#[121]⟩]=⟨#[120,32,45,32,50,42,121,32,61,32,45,51]⟩:=by
 have h1:lefts [1,-2,-3] [⟨#[120]⟩,⟨#[121]⟩] 1 = [120]:=rfl;have h2:lefts [1,-2,-3] [⟨#[120]⟩,⟨#[121]⟩] 2 = [120,32,45,32,50,42,121]:=by
  rw[lefts,h1,show tterm ([1,-2,-3].getD 1 0) (decide (([120]:List UInt8) = [])) (([⟨#[120]⟩,⟨#[121]⟩]:List ByteArray).getD 1 ⟨#[]⟩).data.toList = [32,45,32]++(((txt 2).data.toList ++ [42]) ++ [121])from rfl,a07];rfl
 rw[prn,show([⟨#[120]⟩,⟨#[121]⟩]:List ByteArray).length=2 from rfl,h2,show([1,-2,-3]:List Int).getD 2 0 = -3 from rfl,a0j];rfl
theorem ano(w:World)(hT:Tabs w)(rv vv:Value)(L:Nat)(hr:IsRow w rv [1,-2,-3] L)(hL:L<=100000)(hv:Strs w vv [⟨#[120]⟩,⟨#[121]⟩])(hN:NmsOk [⟨#[120]⟩,⟨#[121]⟩]):
  Calls Tryz.prog 26 #[rv,vv] w fun e w'=>e=.returned (.tuple #[.string ⟨#[120,32,45,32,50,42,121,32,61,32,45,51]⟩,.int .i64 0])/\Below w.heap.size w w':=by
 refine(aj9 w hT rv vv _ _ L hr hL hv hN rfl).mono ?_;rintro e w' ⟨rfl,hb⟩;exact⟨by rw[at5],hb⟩
theorem at6(c:Nat)(s:ByteArray)(gs:List Gl)(e:Pl)(l:List Tk)(_hc:c<128)(hs:s.size<=4096)(hQ:Snd s pl0 gs e)(hR:ScanR s e gs (.ok l))(hn:nmS s (.ok l)=true):isNm s=true:=by
 rw[<-ajk hs hQ hR];exact hn
theorem a0k:isNm ⟨#[120]⟩=true:=by
 refine at6 120 ⟨#[120]⟩ [⟨120,⟨0,0,1,1⟩⟩] ⟨1,1,1,2⟩ [⟨1,⟨#[120]⟩,⟨0,0,1,1⟩⟩,⟨0,⟨#[]⟩,⟨1,1,1,2⟩⟩] (by decide) (by decide) ?_ ?_ (by kernel_rfl)
 ·refine abw (k:=1) (by decide) (by kernel_rfl) (by decide) ?_;exact .stop ⟨1,1,1,2⟩ (.inl (by decide))
 ·refine ScanR.tok _ ⟨120,⟨0,0,1,1⟩⟩ [] 1 ⟨#[120]⟩ [] (.ok [⟨0,⟨#[]⟩,⟨1,1,1,2⟩⟩]) (by kernel_rfl) (af0 (by kernel_rfl) (by kernel_rfl) (by decide) (by kernel_rfl)) ?_;exact ScanR.done _ (by kernel_rfl) (by decide)
theorem a0l:isNm ⟨#[121]⟩=true:=by
 refine at6 121 ⟨#[121]⟩ [⟨121,⟨0,0,1,1⟩⟩] ⟨1,1,1,2⟩ [⟨1,⟨#[121]⟩,⟨0,0,1,1⟩⟩,⟨0,⟨#[]⟩,⟨1,1,1,2⟩⟩] (by decide) (by decide) ?_ ?_ (by kernel_rfl)
 ·refine abw (k:=1) (by decide) (by kernel_rfl) (by decide) ?_;exact .stop ⟨1,1,1,2⟩ (.inl (by decide))
 ·refine ScanR.tok _ ⟨121,⟨0,0,1,1⟩⟩ [] 1 ⟨#[121]⟩ [] (.ok [⟨0,⟨#[]⟩,⟨1,1,1,2⟩⟩]) (by kernel_rfl) (af0 (by kernel_rfl) (by kernel_rfl) (by decide) (by kernel_rfl)) ?_;exact ScanR.done _ (by kernel_rfl) (by decide)
theorem at7:NmsOk [⟨#[120]⟩,⟨#[121]⟩]:=by
 refine⟨by decide,fun i x hx=>?_⟩
 match i with
 |0=>simp at hx;subst hx;exact⟨a0k,by simp⟩
 |1=>simp at hx;subst hx;exact⟨a0l,by simp⟩
 |i+2=>simp at hx
def eqs:ByteArray:=⟨#[50,120,32,61,32,52,121,32,45,32,54]⟩
def eqt:List Tk:=[⟨2,⟨#[50]⟩,⟨0,0,1,1⟩⟩,⟨1,⟨#[120]⟩,⟨1,1,1,2⟩⟩,⟨3,⟨#[61]⟩,⟨3,3,1,4⟩⟩,⟨2,⟨#[52]⟩,⟨5,5,1,6⟩⟩,⟨1,⟨#[121]⟩,⟨6,6,1,7⟩⟩,⟨3,⟨#[45]⟩,⟨8,8,1,9⟩⟩,⟨2,⟨#[54]⟩,⟨10,10,1,11⟩⟩,⟨0,⟨#[]⟩,⟨11,11,1,12⟩⟩]
theorem ayu:Snd eqs pl0 [⟨50,⟨0,0,1,1⟩⟩,⟨120,⟨1,1,1,2⟩⟩,⟨32,⟨2,2,1,3⟩⟩,⟨61,⟨3,3,1,4⟩⟩,⟨32,⟨4,4,1,5⟩⟩,⟨52,⟨5,5,1,6⟩⟩,⟨121,⟨6,6,1,7⟩⟩,⟨32,⟨7,7,1,8⟩⟩,⟨45,⟨8,8,1,9⟩⟩,⟨32,⟨9,9,1,10⟩⟩,⟨54,⟨10,10,1,11⟩⟩] ⟨11,11,1,12⟩:=by
 refine abw (p:=⟨0,0,1,1⟩) (k:=1) (by decide) (by kernel_rfl) (by decide) ?_;refine abw (p:=⟨1,1,1,2⟩) (k:=1) (by decide) (by kernel_rfl) (by decide) ?_;refine abw (p:=⟨2,2,1,3⟩) (k:=1) (by decide) (by kernel_rfl) (by decide) ?_;refine abw (p:=⟨3,3,1,4⟩) (k:=1) (by decide) (by kernel_rfl) (by decide) ?_;refine abw (p:=⟨4,4,1,5⟩) (k:=1) (by decide) (by kernel_rfl) (by decide) ?_;refine abw (p:=⟨5,5,1,6⟩) (k:=1) (by decide) (by kernel_rfl) (by decide) ?_;refine abw (p:=⟨6,6,1,7⟩) (k:=1) (by decide) (by kernel_rfl) (by decide) ?_;refine abw (p:=⟨7,7,1,8⟩) (k:=1) (by decide) (by kernel_rfl) (by decide) ?_;refine abw (p:=⟨8,8,1,9⟩) (k:=1) (by decide) (by kernel_rfl) (by decide) ?_;refine abw (p:=⟨9,9,1,10⟩) (k:=1) (by decide) (by kernel_rfl) (by decide) ?_;refine abw (p:=⟨10,10,1,11⟩) (k:=1) (by decide) (by kernel_rfl) (by decide) ?_;exact .stop ⟨11,11,1,12⟩ (.inl (by decide))
theorem awt:ScanR eqs ⟨11,11,1,12⟩ [⟨50,⟨0,0,1,1⟩⟩,⟨120,⟨1,1,1,2⟩⟩,⟨32,⟨2,2,1,3⟩⟩,⟨61,⟨3,3,1,4⟩⟩,⟨32,⟨4,4,1,5⟩⟩,⟨52,⟨5,5,1,6⟩⟩,⟨121,⟨6,6,1,7⟩⟩,⟨32,⟨7,7,1,8⟩⟩,⟨45,⟨8,8,1,9⟩⟩,⟨32,⟨9,9,1,10⟩⟩,⟨54,⟨10,10,1,11⟩⟩] (.ok eqt):=by
 show ScanR eqs ⟨11,11,1,12⟩ [⟨50,⟨0,0,1,1⟩⟩,⟨120,⟨1,1,1,2⟩⟩,⟨32,⟨2,2,1,3⟩⟩,⟨61,⟨3,3,1,4⟩⟩,⟨32,⟨4,4,1,5⟩⟩,⟨52,⟨5,5,1,6⟩⟩,⟨121,⟨6,6,1,7⟩⟩,⟨32,⟨7,7,1,8⟩⟩,⟨45,⟨8,8,1,9⟩⟩,⟨32,⟨9,9,1,10⟩⟩,⟨54,⟨10,10,1,11⟩⟩] (.ok [⟨2,⟨#[50]⟩,⟨0,0,1,1⟩⟩,⟨1,⟨#[120]⟩,⟨1,1,1,2⟩⟩,⟨3,⟨#[61]⟩,⟨3,3,1,4⟩⟩,⟨2,⟨#[52]⟩,⟨5,5,1,6⟩⟩,⟨1,⟨#[121]⟩,⟨6,6,1,7⟩⟩,⟨3,⟨#[45]⟩,⟨8,8,1,9⟩⟩,⟨2,⟨#[54]⟩,⟨10,10,1,11⟩⟩,⟨0,⟨#[]⟩,⟨11,11,1,12⟩⟩]);have hn0:TokR eqs ⟨11,11,1,12⟩ ⟨50,⟨0,0,1,1⟩⟩ [⟨120,⟨1,1,1,2⟩⟩,⟨32,⟨2,2,1,3⟩⟩,⟨61,⟨3,3,1,4⟩⟩,⟨32,⟨4,4,1,5⟩⟩,⟨52,⟨5,5,1,6⟩⟩,⟨121,⟨6,6,1,7⟩⟩,⟨32,⟨7,7,1,8⟩⟩,⟨45,⟨8,8,1,9⟩⟩,⟨32,⟨9,9,1,10⟩⟩,⟨54,⟨10,10,1,11⟩⟩] (.ok 2 ⟨#[50]⟩ [⟨120,⟨1,1,1,2⟩⟩,⟨32,⟨2,2,1,3⟩⟩,⟨61,⟨3,3,1,4⟩⟩,⟨32,⟨4,4,1,5⟩⟩,⟨52,⟨5,5,1,6⟩⟩,⟨121,⟨6,6,1,7⟩⟩,⟨32,⟨7,7,1,8⟩⟩,⟨45,⟨8,8,1,9⟩⟩,⟨32,⟨9,9,1,10⟩⟩,⟨54,⟨10,10,1,11⟩⟩]):=by
  have hv:dval (bytesOf (eqs.extract 0 1))=2:=by kernel_rfl
  have h1:IsLen (dval (bytesOf (eqs.extract 0 1))) 1:=⟨[2],⟨by intro z hz;simp at hz;omega,by kernel_rfl⟩,by rw[hv];kernel_rfl,rfl⟩;have h2:IsDec [50] (dval (bytesOf (eqs.extract 0 1))):=⟨by intro z hz;simp at hz;omega,by rw[hv];kernel_rfl,.inr ⟨50,[],rfl,by decide⟩⟩;exact ac3 (s:=eqs) (e:=⟨11,11,1,12⟩) (g:=⟨50,⟨0,0,1,1⟩⟩) (r:=[⟨120,⟨1,1,1,2⟩⟩,⟨32,⟨2,2,1,3⟩⟩,⟨61,⟨3,3,1,4⟩⟩,⟨32,⟨4,4,1,5⟩⟩,⟨52,⟨5,5,1,6⟩⟩,⟨121,⟨6,6,1,7⟩⟩,⟨32,⟨7,7,1,8⟩⟩,⟨45,⟨8,8,1,9⟩⟩,⟨32,⟨9,9,1,10⟩⟩,⟨54,⟨10,10,1,11⟩⟩]) (n:=1) (ds:=[50]) (by kernel_rfl) h1 h2
 refine ScanR.tok _ ⟨50,⟨0,0,1,1⟩⟩ [⟨120,⟨1,1,1,2⟩⟩,⟨32,⟨2,2,1,3⟩⟩,⟨61,⟨3,3,1,4⟩⟩,⟨32,⟨4,4,1,5⟩⟩,⟨52,⟨5,5,1,6⟩⟩,⟨121,⟨6,6,1,7⟩⟩,⟨32,⟨7,7,1,8⟩⟩,⟨45,⟨8,8,1,9⟩⟩,⟨32,⟨9,9,1,10⟩⟩,⟨54,⟨10,10,1,11⟩⟩] 2 ⟨#[50]⟩ [⟨120,⟨1,1,1,2⟩⟩,⟨32,⟨2,2,1,3⟩⟩,⟨61,⟨3,3,1,4⟩⟩,⟨32,⟨4,4,1,5⟩⟩,⟨52,⟨5,5,1,6⟩⟩,⟨121,⟨6,6,1,7⟩⟩,⟨32,⟨7,7,1,8⟩⟩,⟨45,⟨8,8,1,9⟩⟩,⟨32,⟨9,9,1,10⟩⟩,⟨54,⟨10,10,1,11⟩⟩] (.ok [⟨1,⟨#[120]⟩,⟨1,1,1,2⟩⟩,⟨3,⟨#[61]⟩,⟨3,3,1,4⟩⟩,⟨2,⟨#[52]⟩,⟨5,5,1,6⟩⟩,⟨1,⟨#[121]⟩,⟨6,6,1,7⟩⟩,⟨3,⟨#[45]⟩,⟨8,8,1,9⟩⟩,⟨2,⟨#[54]⟩,⟨10,10,1,11⟩⟩,⟨0,⟨#[]⟩,⟨11,11,1,12⟩⟩]) (by kernel_rfl) hn0 ?_;refine ScanR.tok _ ⟨120,⟨1,1,1,2⟩⟩ [⟨32,⟨2,2,1,3⟩⟩,⟨61,⟨3,3,1,4⟩⟩,⟨32,⟨4,4,1,5⟩⟩,⟨52,⟨5,5,1,6⟩⟩,⟨121,⟨6,6,1,7⟩⟩,⟨32,⟨7,7,1,8⟩⟩,⟨45,⟨8,8,1,9⟩⟩,⟨32,⟨9,9,1,10⟩⟩,⟨54,⟨10,10,1,11⟩⟩] 1 ⟨#[120]⟩ [⟨32,⟨2,2,1,3⟩⟩,⟨61,⟨3,3,1,4⟩⟩,⟨32,⟨4,4,1,5⟩⟩,⟨52,⟨5,5,1,6⟩⟩,⟨121,⟨6,6,1,7⟩⟩,⟨32,⟨7,7,1,8⟩⟩,⟨45,⟨8,8,1,9⟩⟩,⟨32,⟨9,9,1,10⟩⟩,⟨54,⟨10,10,1,11⟩⟩] (.ok [⟨3,⟨#[61]⟩,⟨3,3,1,4⟩⟩,⟨2,⟨#[52]⟩,⟨5,5,1,6⟩⟩,⟨1,⟨#[121]⟩,⟨6,6,1,7⟩⟩,⟨3,⟨#[45]⟩,⟨8,8,1,9⟩⟩,⟨2,⟨#[54]⟩,⟨10,10,1,11⟩⟩,⟨0,⟨#[]⟩,⟨11,11,1,12⟩⟩]) (by kernel_rfl) (af0 (by kernel_rfl) (by kernel_rfl) (by decide) (by kernel_rfl)) ?_;refine ScanR.tok _ ⟨61,⟨3,3,1,4⟩⟩ [⟨32,⟨4,4,1,5⟩⟩,⟨52,⟨5,5,1,6⟩⟩,⟨121,⟨6,6,1,7⟩⟩,⟨32,⟨7,7,1,8⟩⟩,⟨45,⟨8,8,1,9⟩⟩,⟨32,⟨9,9,1,10⟩⟩,⟨54,⟨10,10,1,11⟩⟩] 3 ⟨#[61]⟩ [⟨32,⟨4,4,1,5⟩⟩,⟨52,⟨5,5,1,6⟩⟩,⟨121,⟨6,6,1,7⟩⟩,⟨32,⟨7,7,1,8⟩⟩,⟨45,⟨8,8,1,9⟩⟩,⟨32,⟨9,9,1,10⟩⟩,⟨54,⟨10,10,1,11⟩⟩] (.ok [⟨2,⟨#[52]⟩,⟨5,5,1,6⟩⟩,⟨1,⟨#[121]⟩,⟨6,6,1,7⟩⟩,⟨3,⟨#[45]⟩,⟨8,8,1,9⟩⟩,⟨2,⟨#[54]⟩,⟨10,10,1,11⟩⟩,⟨0,⟨#[]⟩,⟨11,11,1,12⟩⟩]) (by kernel_rfl) (ae5 (by kernel_rfl)) ?_;have hn5:TokR eqs ⟨11,11,1,12⟩ ⟨52,⟨5,5,1,6⟩⟩ [⟨121,⟨6,6,1,7⟩⟩,⟨32,⟨7,7,1,8⟩⟩,⟨45,⟨8,8,1,9⟩⟩,⟨32,⟨9,9,1,10⟩⟩,⟨54,⟨10,10,1,11⟩⟩] (.ok 2 ⟨#[52]⟩ [⟨121,⟨6,6,1,7⟩⟩,⟨32,⟨7,7,1,8⟩⟩,⟨45,⟨8,8,1,9⟩⟩,⟨32,⟨9,9,1,10⟩⟩,⟨54,⟨10,10,1,11⟩⟩]):=by
  have hv:dval (bytesOf (eqs.extract 5 6))=4:=by kernel_rfl
  have h1:IsLen (dval (bytesOf (eqs.extract 5 6))) 1:=⟨[4],⟨by intro z hz;simp at hz;omega,by kernel_rfl⟩,by rw[hv];kernel_rfl,rfl⟩;have h2:IsDec [52] (dval (bytesOf (eqs.extract 5 6))):=⟨by intro z hz;simp at hz;omega,by rw[hv];kernel_rfl,.inr ⟨52,[],rfl,by decide⟩⟩;exact ac3 (s:=eqs) (e:=⟨11,11,1,12⟩) (g:=⟨52,⟨5,5,1,6⟩⟩) (r:=[⟨121,⟨6,6,1,7⟩⟩,⟨32,⟨7,7,1,8⟩⟩,⟨45,⟨8,8,1,9⟩⟩,⟨32,⟨9,9,1,10⟩⟩,⟨54,⟨10,10,1,11⟩⟩]) (n:=1) (ds:=[52]) (by kernel_rfl) h1 h2
 refine ScanR.tok _ ⟨52,⟨5,5,1,6⟩⟩ [⟨121,⟨6,6,1,7⟩⟩,⟨32,⟨7,7,1,8⟩⟩,⟨45,⟨8,8,1,9⟩⟩,⟨32,⟨9,9,1,10⟩⟩,⟨54,⟨10,10,1,11⟩⟩] 2 ⟨#[52]⟩ [⟨121,⟨6,6,1,7⟩⟩,⟨32,⟨7,7,1,8⟩⟩,⟨45,⟨8,8,1,9⟩⟩,⟨32,⟨9,9,1,10⟩⟩,⟨54,⟨10,10,1,11⟩⟩] (.ok [⟨1,⟨#[121]⟩,⟨6,6,1,7⟩⟩,⟨3,⟨#[45]⟩,⟨8,8,1,9⟩⟩,⟨2,⟨#[54]⟩,⟨10,10,1,11⟩⟩,⟨0,⟨#[]⟩,⟨11,11,1,12⟩⟩]) (by kernel_rfl) hn5 ?_;refine ScanR.tok _ ⟨121,⟨6,6,1,7⟩⟩ [⟨32,⟨7,7,1,8⟩⟩,⟨45,⟨8,8,1,9⟩⟩,⟨32,⟨9,9,1,10⟩⟩,⟨54,⟨10,10,1,11⟩⟩] 1 ⟨#[121]⟩ [⟨32,⟨7,7,1,8⟩⟩,⟨45,⟨8,8,1,9⟩⟩,⟨32,⟨9,9,1,10⟩⟩,⟨54,⟨10,10,1,11⟩⟩] (.ok [⟨3,⟨#[45]⟩,⟨8,8,1,9⟩⟩,⟨2,⟨#[54]⟩,⟨10,10,1,11⟩⟩,⟨0,⟨#[]⟩,⟨11,11,1,12⟩⟩]) (by kernel_rfl) (af0 (by kernel_rfl) (by kernel_rfl) (by decide) (by kernel_rfl)) ?_;refine ScanR.tok _ ⟨45,⟨8,8,1,9⟩⟩ [⟨32,⟨9,9,1,10⟩⟩,⟨54,⟨10,10,1,11⟩⟩] 3 ⟨#[45]⟩ [⟨32,⟨9,9,1,10⟩⟩,⟨54,⟨10,10,1,11⟩⟩] (.ok [⟨2,⟨#[54]⟩,⟨10,10,1,11⟩⟩,⟨0,⟨#[]⟩,⟨11,11,1,12⟩⟩]) (by kernel_rfl) (ae5 (by kernel_rfl)) ?_;have hn10:TokR eqs ⟨11,11,1,12⟩ ⟨54,⟨10,10,1,11⟩⟩ [] (.ok 2 ⟨#[54]⟩ []):=by
  have hv:dval (bytesOf (eqs.extract 10 11))=6:=by kernel_rfl
  have h1:IsLen (dval (bytesOf (eqs.extract 10 11))) 1:=⟨[6],⟨by intro z hz;simp at hz;omega,by kernel_rfl⟩,by rw[hv];kernel_rfl,rfl⟩;have h2:IsDec [54] (dval (bytesOf (eqs.extract 10 11))):=⟨by intro z hz;simp at hz;omega,by rw[hv];kernel_rfl,.inr ⟨54,[],rfl,by decide⟩⟩;exact ac3 (s:=eqs) (e:=⟨11,11,1,12⟩) (g:=⟨54,⟨10,10,1,11⟩⟩) (r:=[]) (n:=1) (ds:=[54]) (by kernel_rfl) h1 h2
 refine ScanR.tok _ ⟨54,⟨10,10,1,11⟩⟩ [] 2 ⟨#[54]⟩ [] (.ok [⟨0,⟨#[]⟩,⟨11,11,1,12⟩⟩]) (by kernel_rfl) hn10 ?_;exact ScanR.done _ (by kernel_rfl) (by decide)
theorem z_2:zOf ⟨#[50]⟩=2:=by
 have h1:msplit ⟨#[50]⟩=(false,⟨#[50]⟩):=by kernel_rfl
 have h2:Dm.Fine ⟨#[50]⟩:=⟨by decide,by decide,by intro z hz;simp[bytesOf]at hz;omega⟩;have h3:zOf ⟨#[50]⟩=sg false (xOf ⟨#[50]⟩):=by unfold zOf;rw[h1]
 rw[h3,(afk h2).2];exact(by kernel_rfl:sg false (dval (bytesOf ⟨#[50]⟩))=2)
theorem z_4:zOf ⟨#[52]⟩=4:=by
 have h1:msplit ⟨#[52]⟩=(false,⟨#[52]⟩):=by kernel_rfl
 have h2:Dm.Fine ⟨#[52]⟩:=⟨by decide,by decide,by intro z hz;simp[bytesOf]at hz;omega⟩;have h3:zOf ⟨#[52]⟩=sg false (xOf ⟨#[52]⟩):=by unfold zOf;rw[h1]
 rw[h3,(afk h2).2];exact(by kernel_rfl:sg false (dval (bytesOf ⟨#[52]⟩))=4)
theorem z_6:zOf ⟨#[54]⟩=6:=by
 have h1:msplit ⟨#[54]⟩=(false,⟨#[54]⟩):=by kernel_rfl
 have h2:Dm.Fine ⟨#[54]⟩:=⟨by decide,by decide,by intro z hz;simp[bytesOf]at hz;omega⟩;have h3:zOf ⟨#[54]⟩=sg false (xOf ⟨#[54]⟩):=by unfold zOf;rw[h1]
 rw[h3,(afk h2).2];exact(by kernel_rfl:sg false (dval (bytesOf ⟨#[54]⟩))=6)
theorem afa{l:List Tk}{i:Nat}{t t1:Tk}{z:Int}(h:l[i]? = some t)(h1:l[i+1]? = some t1)(hs:tsg t1 sOver=false)(hz:zOf t.text=z):CoefR l i true (i+1) (z:Int):=by
 subst hz;exact .plain t t1 h h1 hs
def rs0:List Rat:=List.replicate 3 0
def rs1:List Rat:=rs0.set 0 (0+sgq false ((2:Int):Rat))
def rs2:List Rat:=rs1.set 1 (0+sgq true ((4:Int):Rat))
def rs3:List Rat:=rs2.set 2 (0+sgq false (-((6:Int):Rat)))
theorem ayv:EqR eqt [⟨#[120]⟩,⟨#[121]⟩] 8 0 (List.replicate 3 0) true 7 rs3:=by
 refine .good 2 rs1 ⟨3,⟨#[61]⟩,⟨3,3,1,4⟩⟩ ?_ rfl (by kernel_rfl) 7 rs3 ?_ ⟨0,⟨#[]⟩,⟨11,11,1,12⟩⟩ rfl rfl
 ·refine⟨_,rfl,?_⟩;refine .last _ _ 2 _ _ ?_ ⟨3,⟨#[61]⟩,⟨3,3,1,4⟩⟩ rfl (by kernel_rfl);exact .next _ rfl rfl 1 _ (afa rfl rfl (by kernel_rfl) z_2) (by constructor <;> decide +kernel) _ rfl (by kernel_rfl) rfl _ _ _ (.yes _ 0 0 rfl (by kernel_rfl) rfl (by constructor <;> decide +kernel) (by constructor <;> decide +kernel))
 ·refine⟨_,rfl,?_⟩;refine .more _ _ 5 _ _ rs2 _ _ ?_ ⟨3,⟨#[45]⟩,⟨8,8,1,9⟩⟩ rfl (by kernel_rfl) ?_
  ·exact .next _ rfl rfl 4 _ (afa rfl rfl (by kernel_rfl) z_4) (by constructor <;> decide +kernel) _ rfl (by kernel_rfl) rfl _ _ _ (.yes _ 1 0 rfl (by kernel_rfl) rfl (by constructor <;> decide +kernel) (by constructor <;> decide +kernel))
  ·refine .last _ _ 7 _ _ ?_ ⟨0,⟨#[]⟩,⟨11,11,1,12⟩⟩ rfl (by kernel_rfl);exact .alone _ rfl rfl 7 _ (afa rfl rfl (by kernel_rfl) z_6) (by constructor <;> decide +kernel) _ rfl (by kernel_rfl) (by decide) 0 rfl (by constructor <;> decide +kernel)
theorem amb:canonZ rs3 = [1,-2,-3]:=by kernel_rfl
theorem amc(w:World)(x y:ByteArray)(e:TypeId):Strs (w.alloc (.cells #[.string x,.string y] e)) (.slice (some ⟨w.heap.size,0,none⟩) 2 2) [x,y]:=by
 refine⟨_,2,rfl,Nat.le_refl _,by decide,rfl,.inr ⟨w.heap.size,0,rfl,by simp,fun j u hu=>?_⟩⟩;have hh:=heap_alloc_new w (.cells #[.string x,.string y] e);rw[Nat.zero_add,cell_of_row _ _ _ _ _ (0,0) hh]
 match j with
 |0=>simpa using hu
 |1=>simpa using hu
 |j+2=>simp at hu
theorem ajl(w:World)(hT:Tabs w)(v:Value)(hv:Strs w v [⟨#[120]⟩,⟨#[121]⟩]):
  Calls Tryz.prog 30 #[.string ⟨#[50,120,32,61,32,52,121,32,45,32,54]⟩,v] w fun r w'=>Below w.heap.size w w'/\∃x,r=.returned (.tuple #[x,.int .i64 0,.agg #[.int .i64 0,.int .i64 0,.int .i64 0,.int .i64 0]])/\CanRow w' x [1,-2,-3] 16:=by
 refine(akj w hT eqs (by decide) v _ hv at7 _ _ eqt ayu awt 8 16 (by decide) (by decide) (by decide) 7 rs3 ayv rfl ?_ ?_ (by simp)).mono ?_
 ·intro k hk;have hk':k<=3:=hk
  match k,hk' with
  |0,_=>decide +kernel
  |1,_=>decide +kernel
  |2,_=>decide +kernel
  |3,_=>decide +kernel
 ·have h:clr rs3 = [2,-4,-6]:=by kernel_rfl
  rw[h];intro z hz;simp at hz;rcases hz with rfl|rfl|rfl <;> decide +kernel
 ·rintro r w' ⟨hb,⟨_,x,rfl,hO⟩|⟨⟨z,hz,hbig⟩,_⟩⟩
  ·rw[amb]at hO;exact⟨hb,x,rfl,hO.can⟩
  ·rw[amb]at hz;simp at hz;rcases hz with rfl|rfl|rfl <;> exact absurd (by decide +kernel) hbig
theorem ai5(w:World)(a b c:Int)(e:TypeId):Nums (w.alloc (.cells #[.int .i64 a,.int .i64 b,.int .i64 c] e)) (.slice (some ⟨w.heap.size,0,none⟩) 3 3) [a,b,c]:=ah0 w [a,b,c] (by simp) e
theorem a0m(w:World)(hT:Tabs w):
  Calls Tryz.prog 9 #[] w fun r w'=>r=.returned (.bool true)/\Below w.heap.size w w':=by
 have hb0:=hAl w (.cells #[.string ⟨#[120]⟩,.string ⟨#[121]⟩] 9);have K:=hide (ajl _ (hT.below hb0) _ (amc w ⟨#[120]⟩ ⟨#[121]⟩ 9));have HT:=hide hT;clear hT;go_enter Tryz.func9,Tryz.ntmps9
 go_wp2_with fail
 refine K.out.mono ?_;rintro r w1 ⟨hb1,x,rfl,hcx⟩;obtain⟨ax,cx,hvx,_⟩:=hcx.is.parts;subst hvx;have hbA:=hAl w1 (.cells #[.int .i64 0,.int .i64 0,.int .i64 0,.int .i64 0] 56);have hb1':=hb0.trans (hb1.mono hb0.size);have hb2:=hb1'.trans (hbA.mono hb1'.size);have HB2:=hide hb2;have HCX:=hide (hcx.below hbA);clear hb0 hb1 hb1' hcx K hbA;go_wp2_with fail
 generalize hW2:w1.alloc (.cells #[.int .i64 0,.int .i64 0,.int .i64 0,.int .i64 0] 56)=w2 at *
 have hs2:w2.heap.size=w1.heap.size+1:=by rw[<-hW2];simp
 rw[<-hs2];have hz3:∀z∈([1,-2,-3]:List Int),-9223372036854775808<=z/\z<=9223372036854775807:=by intro z hz;simp at hz;rcases hz with rfl|rfl|rfl <;> decide
 have HZ3:=hide hz3;have hbn2:=hAl w2 (.cells #[.int .i64 1,.int .i64 (-2),.int .i64 (-3)] 3);refine(aoj _ _ [1,-2,-3] (ai5 w2 1 (-2) (-3) 3) hz3 (by decide)).mono ?_;rintro e w3 ⟨r3,rfl,hr3,hb3⟩;obtain⟨a3,c3,hv3,_⟩:=hr3.is.parts;subst hv3;have hb23:=hbn2.trans (hb3.mono hbn2.size);have HB3:=hide (HB2.out.trans (hb23.mono HB2.out.size));have HCX3:=hide (HCX.out.below hb23);have hbs:=hAl w3 (.cells #[.string ⟨#[120]⟩,.string ⟨#[121]⟩] 9);have K4:=hide (ano _ ((HT.out.below HB3.out).below hbs) _ _ 2 (hr3.is.below hbs) (by decide) (amc w3 ⟨#[120]⟩ ⟨#[121]⟩ 9) at7);have HBS:=hide hbs;clear hb3 hb23 hbn2 hr3 hbs hz3 hW2 hs2;go_wp2_with fail
 refine K4.out.mono ?_;rintro e w4 ⟨rfl,hb4⟩;have hb34:=HBS.out.trans (hb4.mono HBS.out.size);have HB4:=hide (HB3.out.trans (hb34.mono HB3.out.size));have HCX4:=hide (HCX3.out.below hb34);have hbn4:=hAl w4 (.cells #[.int .i64 1,.int .i64 (-2),.int .i64 (-3)] 3);have K5:=hide (aoj _ _ [1,-2,-3] (ai5 w4 1 (-2) (-3) 3) HZ3.out (by decide));have HBN4:=hide hbn4;clear hb4 hb34 hbn4 K4;go_wp2_with fail
 refine K5.out.mono ?_;rintro e w5 ⟨r5,rfl,hr5,hb5⟩;obtain⟨a5,c5,hv5,_⟩:=hr5.is.parts;subst hv5;have hb45:=HBN4.out.trans (hb5.mono HBN4.out.size);have HB5:=hide (HB4.out.trans (hb45.mono HB4.out.size));have K6:=hide (anh w5 _ _ [1,-2,-3] 16 2 (HCX4.out.below hb45) hr5);have hst:((⟨#[120,32,45,32,50,42,121,32,61,32,45,51]⟩:ByteArray).toList == [120,32,45,32,50,42,121,32,61,32,45,51])=true:=by rw[ByteArray.toList_eq];decide
 clear hb5 hb45 hr5 K5;go_wp2_with fail
 refine K6.out.mono ?_;rintro e w6 ⟨rfl,hb6⟩;have HB6:=hide (HB5.out.trans (hb6.mono HB5.out.size));clear hb6 K6;go_wp2;refine bodyPost_ret (v:=_) (by simp[results,Tryz.results9,go_sem];try rfl) rfl ⟨rfl,HB6.out⟩
theorem Rw.isrow{w:World}{v:Value}{es:List WE}(h:Rw w v es){L:Nat}(hl:lenW es<=L):IsRow w v (es.map WE.z) L:=by
 refine⟨es,h,rfl,fun e he=>?_⟩;have h1:=ahz he;have h2:=(h.sl e he).parts.1;omega
theorem SameR.zs{es us:List WE}(h:SameR es us):es.map WE.z=us.map WE.z:=by
 have e:∀l:List WE,l.map WE.z=(l.map WE.raw).map fun p=>sg p.1 (val p.2):=fun l=>by rw[List.map_map];rfl
 rw[e,e,h]
theorem SameR.le{es us:List WE}{L:Nat}(h:SameR es us)(hl:∀e∈us,e.zs.length<=L):∀e∈es,e.zs.length<=L:=by
 intro e he;have h1:e.raw∈us.map WE.raw:=by rw[<-h];exact List.mem_map_of_mem he
 obtain⟨u,hu,hr⟩:=List.mem_map.1 h1;have h2:u.zs=e.zs:=congrArg Prod.snd hr;rw[<-h2];exact hl u hu
theorem awu(w:World)(ax:Option Addr)(mx cx:Nat)(xs:List WE)(R:Rw w (.slice ax mx cx) xs)(hl:lenW xs<=35184372088832):
  Calls Tryz.prog 10 #[.slice ax mx cx] w fun e w'=>e=.returned (.int .i64 (lenW xs:Int))/\Below w.heap.size w w':=by
 have hll:=ahh xs;have HX:=hide R;have HNx:Hid (mx=xs.length):=R.parts.1;have HL:Hid (lenW xs<=35184372088832/\mx<=lenW xs):=(show _/\_ from⟨hl,by rw[HNx.out];exact hll⟩);have hm:mx<=35184372088832:=by have:=HL.out;omega
 clear R hl hll;go_enter Tryz.func10,Tryz.ntmps10
 go_wp2_with fail
 go_loopw [3,4] (fun sv iv wr=>∃k:Nat,iv=.int .i64 k/\k<=mx/\sv=.int .i64 (lenW (xs.take k):Int)/\Below w.heap.size w wr) (fun _ iv _=>mx-(intOf iv).toNat)
 case atStart=>exact⟨0,rfl,Nat.zero_le _,rfl,Below.refl _ _⟩
 case round=>
  obtain⟨k,rfl,hk,rfl,hbw⟩:=hrel;by_cases hlt:k<mx
  ·have hlt':(k:Int)<(mx:Int):=by omega
   obtain⟨ex,hex⟩:∃e,xs[k]? = some e:=⟨_,List.getElem?_eq_getElem (by have:=HNx.out;omega)⟩;obtain⟨bx,ox,hAx,hlx0,hcx⟩:=HX.out.cells (by have:=HNx.out;omega);subst hAx;have hlx:bx<wr.heap.size:=Nat.lt_of_lt_of_le hlx0 hbw.size;have x0:=(hbw.cell (p:=⟨bx,ox+k*2,none⟩) hlx0).trans (hcx _ _ (acv hex).1);have x1:wr.cell? ⟨bx,ox+k*2+1,none⟩=some (.slice ex.a ex.m ex.c):=(hbw.cell (p:=⟨bx,ox+k*2+1,none⟩) hlx0).trans (hcx _ _ (acv hex).2);have hs:=asm hex;have hle:=alh xs (k+1);have hm2:=HL.out;have HW:=hide hbw;have K1:=hide (auj wr ex.ng ex.a ex.m ex.c (by omega));obtain⟨s,hsv⟩:∃s,lenW (xs.take k)=s:=⟨_,rfl⟩;rw[hsv]at hs ⊢;have hadd:IntKind.i64.wrap ((s:Int)+(1+(ex.m:Int)))=(s:Int)+(1+(ex.m:Int)):=by rw[IntKind.wrap_i64];omega
   have HSV:=hide hs;clear hbw hs hle hsv hm2 hex hcx hlx;go_wp2_with fail
   refine K1.out.mono ?_;rintro e w2 ⟨rfl,hb2⟩;have HB2:=hide (HW.out.trans (hb2.mono HW.out.size));clear hb2 x0 x1 hlx0;go_wp2;go_roundw
   case rel=>exact⟨k+1,by go_num,by omega,by rw[HSV.out];simp,HB2.out⟩
   case measure=>simp[intOf];omega
  ·have hlt':decide ((k:Int)<(mx:Int))=false:=by simp;omega
   have hkn:k=mx:=by omega
   subst hkn;have HW:=hide hbw;clear hbw;go_wp2;refine bodyPost_ret (v:=_) (acs rfl rfl) rfl ⟨by rw[List.take_of_length_le (by have:=HNx.out;omega)];rfl,HW.out⟩
theorem at8(w:World)(ax:Option Addr)(mx cx:Nat)(xs:List WE)(R:Rw w (.slice ax mx cx) xs)(hl:lenW xs<=100000):
  Calls Tryz.prog 16 #[.slice ax mx cx] w fun e w'=>∃v es,e=.returned v/\RwO w.heap.size w' v es/\SameR es xs/\Below w.heap.size w w':=by
 have hll:=ahh xs;have HX:=hide R;have HNx:Hid (mx=xs.length):=R.parts.1;have HL:Hid (lenW xs<=100000/\mx<=lenW xs):=(show _/\_ from⟨hl,by rw[HNx.out];exact hll⟩);have hm:mx<=100000:=by have:=HL.out;omega
 clear R hl hll;go_enter Tryz.func16,Tryz.ntmps16
 go_wp2_with fail
 go_loopw [3,4] (fun ov iv wr=>∃(k:Nat) (es:List WE),iv=.int .i64 k/\k<=mx/\Below w.heap.size w wr/\RwO w.heap.size wr ov es/\SameR es (xs.take k)) (fun _ iv _=>mx-(intOf iv).toNat)
 case atStart=>exact⟨0,[],rfl,Nat.zero_le _,Below.refl _ _,an8 _ _,rfl⟩
 case round=>
  obtain⟨k,es,rfl,hk,hbw,ho,hs⟩:=hrel;obtain⟨aov,capv,hov,_⟩:=Cl.own ho.own;subst hov;have HO:=hide ho;have HS:=hide hs;have HW:=hide hbw;by_cases hlt:k<mx
  ·have hlt':(k:Int)<(mx:Int):=by omega
   obtain⟨ex,hex⟩:∃e,xs[k]? = some e:=⟨_,List.getElem?_eq_getElem (by have:=HNx.out;omega)⟩;obtain⟨bx,ox,hAx,hlx0,hcx⟩:=HX.out.cells (by have:=HNx.out;omega);subst hAx;have hlx:bx<wr.heap.size:=Nat.lt_of_lt_of_le hlx0 hbw.size;have x0:=(hbw.cell (p:=⟨bx,ox+k*2,none⟩) hlx0).trans (hcx _ _ (acv hex).1);have x1:wr.cell? ⟨bx,ox+k*2+1,none⟩=some (.slice ex.a ex.m ex.c):=(hbw.cell (p:=⟨bx,ox+k*2+1,none⟩) hlx0).trans (hcx _ _ (acv hex).2);have hsl:=(HX.out.sl ex (List.mem_of_getElem? hex)).below hbw;have hem:=ahz (List.mem_of_getElem? hex);have hm2:=HL.out;have hes:es.length<=1000000:=by rw[hs.len,List.length_take];omega
   have K1:=hide (avn wr ex.ng ex.a ex.m ex.c ex.zs hsl (by have:=hsl.parts.1;omega));have HEX:=hide hex;clear hbw ho hs hsl hem hm2 hex hcx hlx;go_wp2_with fail
   refine K1.out.mono ?_;rintro e w2 ⟨r2,rfl,⟨ao2,cap2,rfl,hw2⟩,hb2⟩;have hA:=hAl w2 (.cells #[.bool ex.ng,.slice ao2 ex.zs.length cap2] 60);have hb2':=hb2.trans (hA.mono hb2.size);have hR2:=HO.out.below hb2';have hO2:One _ w2.heap.size ex.ng ao2 ex.zs.length cap2:=heap_alloc_new w2 (.cells #[.bool ex.ng,.slice ao2 ex.zs.length cap2] 60);have hS2:Ow w.heap.size _ (.slice ao2 ex.zs.length cap2) ex.zs:=(hw2.mono HW.out.size).below hA;have hsz:w.heap.size<=(w2.alloc (.cells #[.bool ex.ng,.slice ao2 ex.zs.length cap2] 60)).heap.size:=Nat.le_trans HW.out.size hb2'.size;clear x0 x1 hlx0;go_wp2_with (at_builtin;refine ae9 rfl (an9 (i:=11) (j:=17) rfl rfl hR2 hO2 hS2 hes hsz) ?_)
   intro v3 w3 hR3 hb3;obtain⟨aov3,capv3,hov3,_⟩:=Cl.own hR3.own;subst hov3;have HR3:=hide hR3;have HB3:=hide ((HW.out.trans (hb2'.mono HW.out.size)).trans hb3);clear hR3 hb3 hR2 hO2 hS2 hsz hA hb2 hb2' hw2;go_wp2;go_roundw
   case rel=>exact⟨k+1,_,by go_num,by omega,HB3.out,HR3.out,ap8 HS.out HEX.out rfl⟩
   case measure=>simp[intOf];omega
  ·have hlt':decide ((k:Int)<(mx:Int))=false:=by simp;omega
   have hkn:k=mx:=by omega
   subst hkn;clear hbw ho hs;go_wp2;refine bodyPost_ret (v:=_) (acs rfl rfl) rfl ⟨_,es,rfl,HO.out,(by have h:=HS.out;rwa[List.take_of_length_le (by have:=HNx.out;omega)]at h),HW.out⟩
theorem at9(w:World)(_hT:Tabs w)(rv vv:Value)(zs:List Int)(vs:List ByteArray)(L:Nat)(hr:IsRow w rv zs L)(hv:Strs w vv vs)(hbad:¬(NmsOk vs/\zs.length=vs.length+1)):
  Calls Tryz.prog 26 #[rv,vv] w fun e w'=>e=.returned (.tuple #[.string ⟨#[]⟩,.int .i64 1])/\Below w.heap.size w w':=by
 have hT:=_hT;have K:=agq w hT _ _ hv;obtain⟨ra,rc,rfl,hm⟩:=hr.parts;obtain⟨va,vc,rfl,_⟩:=id hv;clear hr hv _hT hT;obtain⟨n,hn⟩:∃n,vs.length=n:=⟨_,rfl⟩;obtain⟨m,hm'⟩:∃m,zs.length=m:=⟨_,rfl⟩;rw[hn]at K ⊢;rw[hm']at hm ⊢;by_cases hN:NmsOk vs
 ·rw[show nmsE vs=0 from if_pos hN]at K;have K:=hide K;have h16:n<=16:=by have:=hN.1;omega
  have hwn:IntKind.i64.wrap ((n:Int)+1)=(n:Int)+1:=by rw[IntKind.wrap_i64];omega
  have hne:((m:Int) != (n:Int)+1)=true:=by simp;intro e;exact hbad ⟨hN,by omega⟩
  clear hbad hN hn hm';go_enter Tryz.func26,Tryz.ntmps26
  go_wp2_with fail
  refine K.out.mono ?_;rintro e w1 ⟨rfl,hb1⟩;have HB1:=hide hb1;clear hb1 K;go_wp2;refine bodyPost_ret (v:=_) (by simp[results,Tryz.results26,go_sem];try rfl) rfl ⟨rfl,HB1.out⟩
 ·rw[show nmsE vs=1 from if_neg hN]at K;have K:=hide K;clear hbad hN hn hm';go_enter Tryz.func26,Tryz.ntmps26
  go_wp2_with fail
  refine K.out.mono ?_;rintro e w1 ⟨rfl,hb1⟩;have HB1:=hide hb1;clear hb1 K;go_wp2;refine bodyPost_ret (v:=_) (by simp[results,Tryz.results26,go_sem];try rfl) rfl ⟨rfl,HB1.out⟩
theorem aq5(w:World)(_hT:Tabs w)(rv vv:Value)(zs:List Int)(vs:List ByteArray)(L:Nat)(hr:IsRow w rv zs L)(hv:Strs w vv vs)(hbad:¬(NmsOk vs/\zs.length=vs.length+1)):
  Calls Tryz.prog 27 #[rv,vv] w fun e w'=>e=.returned (.tuple #[.string ⟨#[]⟩,.int .i64 1])/\Below w.heap.size w w':=by
 have hT:=_hT;have K:=ai1 w _ _ hv;obtain⟨ra,rc,rfl,hm⟩:=hr.parts;obtain⟨va,vc,rfl,_⟩:=id hv;clear hr hv _hT hT;obtain⟨n,hn⟩:∃n,vs.length=n:=⟨_,rfl⟩;obtain⟨m,hm'⟩:∃m,zs.length=m:=⟨_,rfl⟩;rw[hn]at K ⊢;rw[hm']at hm ⊢;by_cases hN:NmsOk vs
 ·rw[show nmsE vs=0 from if_pos hN]at K;have K:=hide K;have h16:n<=16:=by have:=hN.1;omega
  have hwn:IntKind.i64.wrap ((n:Int)+1)=(n:Int)+1:=by rw[IntKind.wrap_i64];omega
  have hne:((m:Int) != (n:Int)+1)=true:=by simp;intro e;exact hbad ⟨hN,by omega⟩
  clear hbad hN hn hm';go_enter Tryz.func27,Tryz.ntmps27
  go_wp2_with fail
  refine K.out.mono ?_;rintro e w1 ⟨rfl,hb1⟩;have HB1:=hide hb1;clear hb1 K;go_wp2;refine bodyPost_ret (v:=_) (by simp[results,Tryz.results27,go_sem];try rfl) rfl ⟨rfl,HB1.out⟩
 ·rw[show nmsE vs=1 from if_neg hN]at K;have K:=hide K;clear hbad hN hn hm';go_enter Tryz.func27,Tryz.ntmps27
  go_wp2_with fail
  refine K.out.mono ?_;rintro e w1 ⟨rfl,hb1⟩;have HB1:=hide hb1;clear hb1 K;go_wp2;refine bodyPost_ret (v:=_) (by simp[results,Tryz.results27,go_sem];try rfl) rfl ⟨rfl,HB1.out⟩
theorem aq6(w:World)(rv vv:Value)(zs:List Int)(vs:List ByteArray)(L:Nat)(hr:IsRow w rv zs L)(hL:L<=10000)(hv:Strs w vv vs)(hN:NmsOk vs)(hl:zs.length=vs.length+1):
  Calls Tryz.prog 27 #[rv,vv] w fun e w'=>e=.returned (.tuple #[.string (prn zs vs),.int .i64 0])/\Below w.heap.size w w':=by
 have K:=ai1 w _ _ hv;rw[show nmsE vs=0 from if_pos hN]at K;have hlt:=al7 hr;have HR:=hide hr;have HV:=hide hv;have hn16:=hN.1;obtain⟨ra,rc,rfl,hm⟩:=hr.parts;obtain⟨va,vc,rfl,_⟩:=id hv;have K2:∀W,Below w.heap.size w W->Calls Tryz.prog 46 #[.slice ra zs.length rc] W fun e w'=>∃r,e=.returned r/\NRow w' r zs (3*L)/\Below W.heap.size W w':=fun W hb=>awo W _ zs L (HR.out.below hb) (by omega) (by omega)
 have K2:=hide K2;have K3:∀W r,Below w.heap.size w W->NRow W r zs (3*L)->Calls Tryz.prog 60 #[r,.slice va vs.length vc] W fun e w'=>e=.returned (.string (prn zs vs))/\Below W.heap.size W w':=fun W r hb h=>ank W r _ zs vs L h hL hlt (HV.out.below hb) hN hl
 have K3:=hide K3;clear hr hv hlt hN HR HV;rw[hl]at K2 hm ⊢;obtain⟨n,hn⟩:∃n,vs.length=n:=⟨_,rfl⟩;rw[hn]at K K2 K3 hm hn16 ⊢;have K:=hide K;have hwn:IntKind.i64.wrap ((n:Int)+1)=(n:Int)+1:=by rw[IntKind.wrap_i64];omega
 have hne:(((n+1:Nat):Int) != (n:Int)+1)=false:=by simp
 clear hl hn;go_enter Tryz.func27,Tryz.ntmps27
 go_wp2_with fail
 refine K.out.mono ?_;rintro e w1 ⟨rfl,hb1⟩;have K2':=hide (K2.out w1 hb1);have HB1:=hide hb1;clear hb1 K K2;go_wp2_with fail
 refine K2'.out.mono ?_;rintro e w2 ⟨r2,rfl,h2,hb2⟩;have HB2:=hide (HB1.out.trans (hb2.mono HB1.out.size));have K3':=hide (K3.out w2 r2 HB2.out h2);obtain⟨a2,c2,hv2,_⟩:=h2.parts;subst hv2;clear h2 hb2 K2' K3;go_wp2_with fail
 refine K3'.out.mono ?_;rintro e w3 ⟨rfl,hb3⟩;have HB3:=hide (HB2.out.trans (hb3.mono HB2.out.size));clear hb3 K3';go_wp2;refine bodyPost_ret (v:=_) (by simp[results,Tryz.results27,go_sem];try rfl) rfl ⟨rfl,HB3.out⟩
theorem anp(zs:List Int)(vs:List ByteArray)(L:Nat)(hL:L<=10000):∃(tx:ByteArray) (pe:Int),
  (∀w rv vv,Tabs w->IsRow w rv zs L->Strs w vv vs->Calls Tryz.prog 26 #[rv,vv] w fun e w'=>e=.returned (.tuple #[.string tx,.int .i64 pe])/\Below w.heap.size w w') /\
  (∀w rv vv,Tabs w->IsRow w rv zs L->Strs w vv vs->Calls Tryz.prog 27 #[rv,vv] w fun e w'=>e=.returned (.tuple #[.string tx,.int .i64 pe])/\Below w.heap.size w w'):=by
 by_cases h:NmsOk vs/\zs.length=vs.length+1
 ·exact⟨_,_,fun w rv vv hT hr hv=>aj9 w hT rv vv zs vs L hr (by omega) hv h.1 h.2,fun w rv vv _ hr hv=>aq6 w rv vv zs vs L hr hL hv h.1 h.2⟩
 ·exact⟨_,_,fun w rv vv hT hr hv=>at9 w hT rv vv zs vs L hr hv h,fun w rv vv hT hr hv=>aq5 w hT rv vv zs vs L hr hv h⟩
theorem akk(w:World)(hT:Tabs w)(ax:Option Addr)(mx cx:Nat)(xs:List WE)(v:Value)(vs:List ByteArray)(Rx:Rw w (.slice ax mx cx) xs)(hx:lenW xs<=1048576)(hv:Strs w v vs)(hvl:vs.length<=1099511627776):
  Calls Tryz.prog 5 #[.slice ax mx cx,v] w fun e w'=>e=.returned (.bool true)/\Below w.heap.size w w':=by
 have K1:=hide (a0m w hT);obtain⟨av,cv,rfl,_⟩:=id hv;have HX:=hide Rx;have HV:=hide hv;have HTB:=hide hT;obtain⟨sx,hsx⟩:∃sx,lenW xs=sx:=⟨_,rfl⟩;rw[hsx]at hx;have HSx:=hide hsx;clear Rx hT hsx hv;go_enter Tryz.func5,Tryz.ntmps5
 go_wp2_with fail
 refine K1.out.mono ?_;rintro e w1 ⟨rfl,hb1⟩;have K2:=awu w1 _ _ _ _ (HX.out.below hb1) (by have:=HSx.out;omega);rw[HSx.out]at K2;have K2:=hide K2;have HB1:=hide hb1;clear hb1 K1;go_wp2_with fail
 refine K2.out.mono ?_;rintro e w2 ⟨rfl,hb2⟩;have HB2:=hide (HB1.out.trans (hb2.mono HB1.out.size));clear hb2 K2 HB1;by_cases hlong:1500<(sx:Int)
 ·have hl':decide (1500<(sx:Int))=true:=by simpa using hlong
  go_wp2;refine bodyPost_ret (v:=_) (by simp[results,Tryz.results5,go_sem];try rfl) rfl ⟨rfl,HB2.out⟩
 ·have hl':decide (1500<(sx:Int))=false:=by simpa using hlong
  have HLG:Hid (lenW xs<=1500):=(show lenW xs<=1500 by have:=HSx.out;omega);obtain⟨tx,pe,hP1,hP2⟩:=anp (xs.map WE.z) vs 1500 (by omega);have HP1:=hide hP1;have HP2:=hide hP2;have hee:(pe==pe)=true:=by simp
  have htt:(tx.toList==tx.toList)=true:=by simp
  clear hlong hP1 hP2;have K6:=hide (at8 w2 _ _ _ _ (HX.out.below HB2.out) (by have:=HLG.out;omega));go_wp2_with fail
  refine K6.out.mono ?_;rintro e w6 ⟨vp,es,rfl,ho6,hs6,hb6⟩;obtain⟨ap,cp,hvp,_⟩:=Cl.own ho6.own;subst hvp;have HB6:=hide (HB2.out.trans (hb6.mono HB2.out.size));have IP:IsRow w6 (.slice ap es.length cp) (xs.map WE.z) 1500:=⟨es,ho6.rw,hs6.zs,hs6.le (fun e he=>(by have:=ahz he;have:=(HX.out.sl e he).parts.1;have:=HLG.out;omega))⟩;have HIP:=hide IP;have IX:=hide (HX.out.isrow (L:=1500) (by have:=HLG.out;omega));have K3:=hide (akh w6 _ vs (HV.out.below HB6.out) hvl);clear ho6 hs6 hb6 K6 IP;go_wp2_with fail
  refine K3.out.mono ?_;rintro e w3 ⟨r3,rfl,h3,hb3⟩;obtain⟨a3,c3,rfl,_⟩:=id h3;have HB3:=hide (HB6.out.trans (hb3.mono HB6.out.size));have K4:=hide (HP1.out w3 _ _ (HTB.out.below HB3.out) (HIP.out.below hb3) h3);clear h3 hb3 K3;go_wp2_with fail
  refine K4.out.mono ?_;rintro e w4 ⟨rfl,hb4⟩;have HB4:=hide (HB3.out.trans (hb4.mono HB3.out.size));have K5:=hide (HP2.out w4 _ _ (HTB.out.below HB4.out) (IX.out.below HB4.out) (HV.out.below HB4.out));clear hb4 K4;go_wp2_with fail
  refine K5.out.mono ?_;rintro e w5 ⟨rfl,hb5⟩;have HB5:=hide (HB4.out.trans (hb5.mono HB4.out.size));clear hb5 K5;go_wp2_with (go_at_call 11;refine(axz _ _).mono ?_;rintro r w' ⟨rfl,rfl⟩)
  refine bodyPost_ret (v:=_) (by simp[results,Tryz.results5,go_sem];try rfl) rfl ⟨rfl,HB5.out⟩
end Lm
namespace Lm
open Go Go.RowKit Go.ChangeShapes Go.WideShapes Go.ChangeAt
theorem aua{w:World}{x:Addr}{l c:Nat}{ss:List ByteArray}(hl:l<=c)(hm:c<=maxLen)(hz:ss.length=c)(hcell:∀i,i<ss.length->w.cell? (x.add i)=some (.string (ss.getD i ByteArray.empty))):Strs w (.slice (some x) l c) (ss.take l):=by
 have hll:(ss.take l).length=l:=by rw[List.length_take];omega
 refine⟨some x,c,by rw[hll],by omega,by simpa[maxLen]using hm,by simp,?_⟩;by_cases h0:l=0
 ·exact .inl (by omega)
 ·obtain⟨b,off,spot⟩:=x;have h1:=hcell 0 (by omega);have hspot:spot=none:=by simpa[Addr.add]using World.cell?_spot h1
  subst hspot;have ha:∀i,(⟨b,off,none⟩:Addr).add i=⟨b,off+i,none⟩:=by
   intro i;by_cases hi0:i=0
   ·subst hi0;simp[Addr.add]
   ·simp[Addr.add,hi0]
  refine .inr ⟨b,off,rfl,?_,fun j u hu=>?_⟩
  ·rw[ha]at h1;exact aap h1
  ·obtain⟨hj,hju⟩:=List.getElem?_eq_some_iff.1 hu;simp only[List.length_map,hll]at hj;have h2:=hcell j (by omega);rw[ha]at h2;rw[h2];simp only[List.getElem_map,List.getElem_take]at hju;rw[<-hju,List.getD_eq_getElem?_getD,List.getElem?_eq_getElem (by omega)];rfl
theorem aub{H:Type}(ss:List ByteArray):(jpre ss).length+ss.length<=2*Rows.uptoBulkAll (strs ss:List (DataW H)):=by
 have key:∀ss:List ByteArray,(ss.flatMap fun y=>(32:UInt8)::y.data.toList).length=Rows.uptoBulkAll (strs ss:List (DataW H))/\ss.length<=Rows.uptoBulkAll (strs ss:List (DataW H)):=by
  intro ss;induction ss with
  |nil=>exact⟨rfl,Nat.le_refl _⟩
  |cons x r ih=>
   have e:(strs (x::r):List (DataW H))=.lit (.string x.data.toList)::strs r:=rfl;rw[e,Rows.uptoBulkAll,Rows.uptoBulk,List.flatMap_cons,List.length_append,List.length_cons,List.length_cons,ih.1];exact⟨rfl,by have:=ih.2;omega⟩
 have h:=key ss;have h2:(jpre ss).length<=(ss.flatMap fun y=>(32:UInt8)::y.data.toList).length:=by
  cases ss with
  |nil=>simp[jpre]
  |cons x r=>
   simp only[jpre,List.flatMap_cons,List.length_append,List.length_cons];omega
 omega
end Lm
namespace affinePrintsLaw
open Go.ChangeShapes Go.WideShapes Go.ChangeAt Go.RowKit
open Go.ChangeMaps (open_string shut_string)
theorem own:ownKnob Tryz.prog.godebug=none:=by kernel_rfl
theorem laidOut:laidOutB Tryz.prog=true:=by kernel_rfl
noncomputable def laidWorld(os:Os):World:=
 let w0:=World.holding Tryz.prog os ⟨#[],#[],[]⟩
 let put (h:Array Obj) (g:Nat) (cs:Array Value):Array Obj:=h.modify g fun
  |.cells _ t frozen=>.cells cs t frozen
  |o=>o
 let h1:=put w0.heap (Tryz.lays197_ren.g 3) (Lib.firstTab.map fun z=>Value.int .u8 z).toArray
 let h2:=put h1 (Tryz.lays197_ren.g 4) ((List.range 16).flatMap fun i=>[Value.int .u8 (Lib.accLo i),Value.int .u8 (Lib.accHi i)]).toArray
 {w0 with heap:=h2}
theorem laid_met(os:Os):laidMet Tryz.prog Rows.affinePrintsUptoRow.laid ((laidWorld os).forCall (fun _ _=>0) ⟨#[],#[.slice none 0 0,.slice none 0 0],[]⟩).memory:=
 laidMet_of_run' 8 (by kernel_rfl) (by kernel_rfl)
theorem tabs{W:World}(h:laidMet Tryz.prog Rows.affinePrintsUptoRow.laid W):Lm.Tabs W:=
 utf8Tabs_of_reads (ρ:=Tryz.lays197_ren) {Tryz.lays197 with} ⟨by kernel_rfl,by kernel_rfl,by kernel_rfl,by kernel_rfl,by kernel_rfl,by kernel_rfl,by kernel_rfl⟩
  (Lib.laidMet.reads h (show ("unicode/utf8.first", Lib.firstData) ∈ Rows.affinePrintsUptoRow.laid from by
   rw[show Lib.firstData=Rows.laid_unicode_utf8_first from by kernel_rfl]
   exact .tail _ (.head _)))
  (Lib.laidMet.reads h (show ("unicode/utf8.acceptRanges", Lib.acceptData) ∈ Rows.affinePrintsUptoRow.laid from by
   rw[show Lib.acceptData=Rows.laid_unicode_utf8_acceptRanges from by kernel_rfl]
   exact .head _))
theorem reads(os:Os){H:Type}(enc:TypeId×Value->H):∃places,DataW.whole enc Tryz.prog ((laidWorld os).forCall (fun _ _=>0) ⟨#[],#[.slice none 0 0,.slice none 0 0],[]⟩).memory Tryz.f5.params.toList Rows.affinePrintsSpec.vars false (#[.slice none 0 0,.slice none 0 0]:Array Value).toList 8=some ([.nil,.nil],[],places):=
 ⟨[],by kernel_rfl⟩
set_option linter.unusedVariables false in
set_option maxRecDepth 100000 in
theorem lifted(os:Os)(started:os.Started)(H:Type)(enc:TypeId×Value->H)(F:Stop.Interp):
  ReturnsInHanded {} Tryz.checked os 5 .any ((Rows.OpenSpec.upto Rows.affinePrintsSpec).preRow enc Tryz.prog Tryz.f5 Rows.affinePrintsUptoRow.domain false Rows.affinePrintsUptoRow.laid) (((Rows.OpenSpec.upto Rows.affinePrintsSpec).at F).post enc Tryz.prog Tryz.f5 false true false false):=by
 obtain⟨places,hx⟩:=reads os enc;refine returnsInHanded_of_row (C:=Tryz.checked) (s:=(Rows.OpenSpec.upto Rows.affinePrintsSpec)) own started (by kernel_rfl) Tryz.func5
  (witness_row_at (enc:=enc) (C:=Tryz.checked) false (laidWorld os) #[.slice none 0 0,.slice none 0 0] rfl (by kernel_rfl) (by kernel_rfl) (by kernel_rfl)
   (OpenSpec.preRow_of_cond 8 hx (by kernel_rfl) (fun k hk=>by cases hk;kernel_rfl) (by kernel_rfl) (laid_met os))) ?_
 intro W base args ds gs before hval0 hW hcnd0 hcond hsz0 hL hj2 hj3;have hTabs:Lm.Tabs W:=tabs hL;have hval:∀(j:Nat) t v,Tryz.f5.params[j]? = some t->args[j]? = some v->Value.okWide Tryz.prog W .any base t v:=hval0;have hW':=hW;obtain⟨p,q,hA0,hV,rfl,hfz,hnd⟩:=hW;have hA:DataW.TrodAll enc Tryz.prog W 0 (fun _=>true) true Tryz.f5.params.toList args.toList ds p:=hA0;have hsz:(DataW.weightsEach Tryz.prog (Tryz.f5.params.toList++Rows.affinePrintsSpec.plain.varTypes Tryz.prog) (ds++gs)).all (·<=reachBytes)=true:=hsz0;rw[Tryz.params5]at hA hval hsz;obtain⟨v0,vs0,d0,ds0,p0,q0,hargs,rfl,rfl,h0,r0⟩:=trodAll_cons hA;obtain⟨v1,vs1,d1,ds1,p1,q1,rfl,rfl,rfl,h1,r1⟩:=trodAll_cons r0;obtain⟨rfl,rfl,rfl⟩:=trodAll_nil r1;obtain rfl:args = #[v0,v1]:=by cases args;simp_all
 obtain⟨rfl,rfl⟩:=trodVars_none hV;have hbulk:Rows.uptoBulkAll ([d0,d1]:List (DataW H))<=1048576:=by
  have h:=of_decide_eq_true (hcond Rows.uptoSmall rfl);simpa only[List.append_nil]using h
 simp only[Rows.uptoBulkAll]at hbulk;obtain⟨a0,len0,cap0,rfl⟩:=okWide_slice Tryz.underlying23 (hval 0 23 v0 rfl rfl);have k0:=h0;have lt0:∀x∈p0,x.block<W.heap.size:=by obtain⟨m,hm⟩:=k0;exact DataW.trod_lt m _ _ _ hm
 obtain⟨z0,w0,b0⟩:∃es,Lm.Rw W (.slice a0 len0 cap0) es/\Lm.lenW es+1<=Rows.uptoBulk d0:=by
  obtain⟨fuel,hf⟩:=h0;exact Lm.avc (x:=(d0,p0)) (by simpa[Value.cells]using hf)
 obtain⟨a1,len1,cap1,rfl⟩:=okWide_slice Tryz.underlying22 (hval 1 22 v1 rfl rfl);have k1:=h1;have lt1:∀x∈p1,x.block<W.heap.size:=by obtain⟨m,hm⟩:=k1;exact DataW.trod_lt m _ _ _ hm
 obtain⟨z1,w1,b1⟩:∃ss,Lm.Strs W (.slice a1 len1 cap1) ss/\(Lm.jpre ss).length+ss.length<=2*Rows.uptoBulk d1:=by
  obtain⟨fuel,hf⟩:=h1;have hf':DataW.trod enc Tryz.prog W 0 (fun _=>true) true fuel 22 [.slice a1 len1 cap1]=some (d1,p1):=by simpa[Value.cells]using hf
  rcases open_strings Tryz.underlying22 Tryz.underlying9 (by kernel_rfl) hf' with⟨hcs,_⟩|⟨x,l,c,ss,hcs,_,hl,hm,hz,hx,hcell,_⟩
  ·obtain⟨rfl,rfl,rfl⟩:a1=none/\len1=0/\cap1=0:=by simpa using hcs
   exact⟨[],⟨none,0,rfl,Nat.le_refl _,by omega,rfl,.inl rfl⟩,by simp[Lm.jpre]⟩
  ·obtain⟨rfl,rfl,rfl⟩:a1=some x/\len1=l/\cap1=c:=by simpa using hcs
   have hz':ss.length=cap1:=by simpa using hz
   have hx1:d1=.slice (strs (ss.take len1)) (strs (ss.drop len1)):=congrArg Prod.fst hx;have hbk:(Lm.jpre (ss.take len1)).length+(ss.take len1).length<=2*Rows.uptoBulkAll (strs (ss.take len1):List (DataW H)):=Lm.aub _;rw[hx1];simp only[Rows.uptoBulk];exact⟨ss.take len1,Lm.aua hl hm hz' hcell,by omega⟩
 clear hA0 hval0;refine(Lm.akk W hTabs a0 len0 cap0 z0 (.slice a1 len1 cap1) z1 w0 (by omega) w1 (by omega)).mono fun e W' ⟨he,bel⟩=>?_
 subst he;exact⟨_,rfl,_,_,_,[],_,[],hW',trodAll_mk1 (shut_bool Tryz.underlying4 _),(trodAll_cons_mk (Below.trod laidOut (by kernel_rfl) (of_decide_eq_true (by kernel_rfl)) k0 bel lt0) (trodAll_cons_mk (Below.trod laidOut (by kernel_rfl) (of_decide_eq_true (by kernel_rfl)) k1 bel lt1) trodAll_mk0)),rfl,bel.frame _,fun h=>by cases h⟩
theorem said:Rows.AffinePrintsUptoSaid:=
 OpenClaim.holds_of_cond 5 Tryz.f5 rfl rfl rfl rfl rfl rfl rfl ⟨rfl,rfl,rfl,rfl,rfl⟩ rfl rfl rfl rfl rfl (by kernel_rfl) Tryz.func5 (by kernel_rfl)
  (of_decide_eq_true (by kernel_rfl)) (by unfold Func.isWrapper;first|(rw[if_pos (by decide +kernel)];kernel_rfl)|(rw[if_neg (by decide +kernel)];exact⟨rfl,rfl⟩))
  (fun os started H enc _ F=>by rw[OpenClaim.pre_eq_preRow];exact lifted os started H enc F)
theorem plain (f : FuncId) (fn : Func) (hf : Tryz.pinned.checked.prog.funcNamed "rafter/rafterlaw05.AffinePrints" = some f) (hfn : Tryz.pinned.checked.prog.funcs[f]? = some fn) :
  false=Tryz.pinned.checked.prog.looks []/\∀(j:Nat) t,fn.params[j]? = some t->Tryz.pinned.checked.prog.wantsStandIn t=false:=by
 obtain rfl : f = 5 := Option.some.inj ((show Tryz.prog.funcNamed "rafter/rafterlaw05.AffinePrints" = some 5 by kernel_rfl).symm.trans hf) |>.symm
 obtain rfl:fn=Tryz.f5:=(Option.some.inj (Tryz.func5.symm.trans hfn)).symm;refine⟨by kernel_rfl,fun j t ht=>?_⟩;rw[Tryz.params5]at ht;have hm:=Array.mem_of_getElem? ht;simp at hm;rcases hm with rfl|rfl
 ·exact(show Tryz.prog.wantsStandIn 23=false by kernel_rfl)
 ·exact(show Tryz.prog.wantsStandIn 22=false by kernel_rfl)
theorem card:Rows.AffinePrintsUptoCardSaid:=
 Claim7.holds_tied_plain_at .later [] _ _ _ _ said (fun _ h=>by cases h) (by kernel_rfl) (fun _ h=>by cases h) affinePrintsUpto_row_tie rfl ⟨rfl,rfl⟩ (by kernel_rfl) rfl plain (by kernel_rfl)
end affinePrintsLaw
theorem affinePrints_card:Rows.AffinePrintsUptoCardSaid:=affinePrintsLaw.card
#print axioms affinePrints_card
end Go.Proofs.YtooefpkhacecnaaGreatDoor
