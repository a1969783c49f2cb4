/-
  The given statement on AffineBad, for every input: the call answers true, and each argument reads behind it as it read before; and its card. Its condition: the two tables of unicode/utf8 are laid as the row lists them; the card ties that to the program's text. Beside it: AffineBad, the walk.
-/
import Derived.Test.YtooefpkhacecnaaGreatDoorRows
import Derived.Test.YtooefpkhacecnaaGreatDoorCards
import Derived.Test.YtooefpkhacecnaaGreatDoorTie
import Derived.ProofKit
import Derived.OpenShut
import Derived.ShutString
import Derived.ChangeOld
import Derived.SizedLaws
import Derived.Lib.SmallJoins
import Derived.Lib.LaidU8
import Derived.Lib.LaidIn
import Derived.Deep.DeepHandedRow
import Derived.Test.YtooefpkhacecnaaGreatDoorXDLawZ4
set_option maxRecDepth 20000
set_option maxHeartbeats 40000000
namespace Go.Proofs.YtooefpkhacecnaaGreatDoor
namespace Lm
open Go Go.RowKit
theorem oftext(w:World)(z:Int)(L:Nat)(v:Value)(h:IsW z L v w)(hL:L<=1000)(h0:0<=z):
  Calls Tryz.prog 33 #[v] w fun e w'=>e=.returned (.string (strOfNums (dig z)))/\Below w.heap.size w w':=by
 refine(wtextF w z v L h (by omega)).mono ?_;rintro e w' ⟨rfl,hb⟩;refine⟨?_,hb⟩;rw[txt,if_neg (by omega),show((z.natAbs:Int))=z by omega]
theorem avi(w:World):∃W,((w.alloc (.cells #[.string ⟨#[120]⟩,.string ⟨#[121]⟩] 9)).alloc (.cells #[.string ⟨#[32,61]⟩,.string ⟨#[32,43,32,61,32,49]⟩,.string ⟨#[32,61,61,32,49]⟩,.string ⟨#[32,61,32,49,32,49]⟩,.string ⟨#[32,61,32,120,32,121]⟩,.string ⟨#[32,61,32,40,120,41]⟩,.string ⟨#[32,61,32,49,47,48]⟩,.string ⟨#[32,61,32,113]⟩,.string ⟨#[32,42,32,120,32,61,32,49]⟩,.string ⟨#[32,61,32,50,42]⟩,.string ⟨#[32,61,32,51,32,36]⟩,.string ⟨#[32,61,32,120,226,130,129]⟩] 9)).alloc (.cells #[.int .i64 2,.int .i64 3,.int .i64 2,.int .i64 5,.int .i64 5,.int .i64 3,.int .i64 5,.int .i64 3,.int .i64 1,.int .i64 5,.int .i64 5,.int .i64 3] 3)=W/\Below w.heap.size w W/\W.heap.size=w.heap.size+3/\Strs W (.slice (some ⟨w.heap.size,0,none⟩) 2 2) vxy/\(∀k<12,W.cell? ⟨w.heap.size+1,k,none⟩=some (.string (bts (encs (badC k)))))/\(∀k<12,W.cell? ⟨w.heap.size+1+1,k,none⟩=some (.int .i64 (gapN k))):=by
 have b1:=hAl w (.cells #[.string ⟨#[120]⟩,.string ⟨#[121]⟩] 9);generalize hW1:w.alloc (.cells #[.string ⟨#[120]⟩,.string ⟨#[121]⟩] 9)=w1 at *
 have s1:w1.heap.size=w.heap.size+1:=by rw[<-hW1];simp
 have hS:Strs w1 (.slice (some ⟨w.heap.size,0,none⟩) 2 2) vxy:=by rw[<-hW1];exact ahi w _ _ _
 have b2:=hAl w1 (.cells #[.string ⟨#[32,61]⟩,.string ⟨#[32,43,32,61,32,49]⟩,.string ⟨#[32,61,61,32,49]⟩,.string ⟨#[32,61,32,49,32,49]⟩,.string ⟨#[32,61,32,120,32,121]⟩,.string ⟨#[32,61,32,40,120,41]⟩,.string ⟨#[32,61,32,49,47,48]⟩,.string ⟨#[32,61,32,113]⟩,.string ⟨#[32,42,32,120,32,61,32,49]⟩,.string ⟨#[32,61,32,50,42]⟩,.string ⟨#[32,61,32,51,32,36]⟩,.string ⟨#[32,61,32,120,226,130,129]⟩] 9);have hB:=heap_alloc_new w1 (.cells #[.string ⟨#[32,61]⟩,.string ⟨#[32,43,32,61,32,49]⟩,.string ⟨#[32,61,61,32,49]⟩,.string ⟨#[32,61,32,49,32,49]⟩,.string ⟨#[32,61,32,120,32,121]⟩,.string ⟨#[32,61,32,40,120,41]⟩,.string ⟨#[32,61,32,49,47,48]⟩,.string ⟨#[32,61,32,113]⟩,.string ⟨#[32,42,32,120,32,61,32,49]⟩,.string ⟨#[32,61,32,50,42]⟩,.string ⟨#[32,61,32,51,32,36]⟩,.string ⟨#[32,61,32,120,226,130,129]⟩] 9);generalize hW2:w1.alloc (.cells #[.string ⟨#[32,61]⟩,.string ⟨#[32,43,32,61,32,49]⟩,.string ⟨#[32,61,61,32,49]⟩,.string ⟨#[32,61,32,49,32,49]⟩,.string ⟨#[32,61,32,120,32,121]⟩,.string ⟨#[32,61,32,40,120,41]⟩,.string ⟨#[32,61,32,49,47,48]⟩,.string ⟨#[32,61,32,113]⟩,.string ⟨#[32,42,32,120,32,61,32,49]⟩,.string ⟨#[32,61,32,50,42]⟩,.string ⟨#[32,61,32,51,32,36]⟩,.string ⟨#[32,61,32,120,226,130,129]⟩] 9)=w2 at *
 have s2:w2.heap.size=w1.heap.size+1:=by rw[<-hW2];simp
 have b3:=hAl w2 (.cells #[.int .i64 2,.int .i64 3,.int .i64 2,.int .i64 5,.int .i64 5,.int .i64 3,.int .i64 5,.int .i64 3,.int .i64 1,.int .i64 5,.int .i64 5,.int .i64 3] 3);have hG:=heap_alloc_new w2 (.cells #[.int .i64 2,.int .i64 3,.int .i64 2,.int .i64 5,.int .i64 5,.int .i64 3,.int .i64 5,.int .i64 3,.int .i64 1,.int .i64 5,.int .i64 5,.int .i64 3] 3);generalize hW3:w2.alloc (.cells #[.int .i64 2,.int .i64 3,.int .i64 2,.int .i64 5,.int .i64 5,.int .i64 3,.int .i64 5,.int .i64 3,.int .i64 1,.int .i64 5,.int .i64 5,.int .i64 3] 3)=w3 at *
 have s3:w3.heap.size=w2.heap.size+1:=by rw[<-hW3];simp
 have b12:=b1.trans (b2.mono b1.size);have hB3:=(b3.block _ (aaa hB)).trans hB;rw[s1]at hB3;rw[s2,s1]at hG;refine⟨w3,rfl,b12.trans (b3.mono b12.size),by omega,(hS.below b2).below b3,fun k hk=>?_,fun k hk=>?_⟩
 ·rw[cell_of_row _ _ _ _ _ (0,0) hB3]
  match k,hk with
  |0,_=>rfl
  |1,_=>rfl
  |2,_=>rfl
  |3,_=>rfl
  |4,_=>rfl
  |5,_=>rfl
  |6,_=>rfl
  |7,_=>rfl
  |8,_=>rfl
  |9,_=>rfl
  |10,_=>rfl
  |11,_=>rfl
 ·rw[cell_of_row _ _ _ _ _ (0,0) hG]
  match k,hk with
  |0,_=>rfl
  |1,_=>rfl
  |2,_=>rfl
  |3,_=>rfl
  |4,_=>rfl
  |5,_=>rfl
  |6,_=>rfl
  |7,_=>rfl
  |8,_=>rfl
  |9,_=>rfl
  |10,_=>rfl
  |11,_=>rfl
theorem aom(w:World)(hT:Tabs w)(a b kind:Int):
  Calls Tryz.prog 8 #[.int .i64 a,.int .i64 b,.int .i64 kind] w fun e w'=>e=.returned (.bool true)/\Below w.heap.size w w':=by
 have K1:=hide (aw1 w hT);have HT:=hide hT;obtain⟨A,hA,hA0,hA1⟩:∃A:Int,bits .and .i64 a 4611686018427387903=A/\0<=A/\A<4611686018427387904:=⟨_,rfl,by rw[aol];omega,by rw[aol];omega⟩;obtain⟨B,hB,hB1⟩:∃B:Nat,(bits .and .i64 b 4611686018427387903).tmod 1000=(B:Int)/\B<1000:=arf b 1000 (by decide);obtain⟨V,hV,hV1⟩:∃V:Nat,(bits .and .i64 kind 4611686018427387903).tmod 12=(V:Int)/\V<12:=arf kind 12 (by decide);clear hT;go_enter Tryz.func8,Tryz.ntmps8
 go_wp2_with fail
 refine K1.out.mono ?_;rintro e w1 ⟨rfl,hb1⟩;clear K1;go_wp2_with fail
 refine(ac2 w1 A (by omega) (by omega)).mono ?_;rintro e w2 ⟨ng2,ao2,cap2,rs2,rfl,hw2,hl2,hb2⟩;have hb12:=hb1.trans (hb2.mono hb1.size);have K3:=hide (oftext w2 A 2 _ (OutW.is ⟨ng2,ao2,cap2,rs2,rfl,hw2,hl2⟩) (by decide) hA0);clear hb1 hb2 hw2 hl2;go_wp2_with fail
 refine K3.out.mono ?_;rintro e w3 ⟨rfl,hb3⟩;have hb13:=hb12.trans (hb3.mono hb12.size);obtain⟨X,hX⟩:∃X,dig A=X:=⟨_,rfl⟩;rw[hX];have hDX:IsDec X A:=by rw[<-hX];have:=adu A.toNat;rwa[show((A.toNat:Nat):Int)=A by omega]at this
 clear K3 hb12 hb3 hX;go_wp2_with fail
 refine(ac2 w3 (1+(B:Int)) (by omega) (by omega)).mono ?_;rintro e w4 ⟨ng4,ao4,cap4,rs4,rfl,hw4,hl4,hb4⟩;have hb14:=hb13.trans (hb4.mono hb13.size);have K5:=hide (oftext w4 (1+(B:Int)) 2 _ (OutW.is ⟨ng4,ao4,cap4,rs4,rfl,hw4,hl4⟩) (by decide) (by omega));clear hb13 hb4 hw4 hl4;go_wp2_with fail
 refine K5.out.mono ?_;rintro e w5 ⟨rfl,hb5⟩;have hb15:=hb14.trans (hb5.mono hb14.size);obtain⟨Y,hY⟩:∃Y,dig (1+(B:Int))=Y:=⟨_,rfl⟩;rw[hY];have hDY:IsDec Y (1+(B:Int)):=by rw[<-hY];have:=adu (1+B);rwa[show((1+B:Nat):Int)=1+(B:Int) by omega]at this
 clear K5 hb14 hb5 hY;have hK:HdK X Y A (1+(B:Int)):=by
  have q1:(4611686018427387904:Int)<pw 7:=by decide +kernel
  have q2:(4611686018427387904:Int)<p10 99:=by decide +kernel
  exact⟨hDX,hDY,hA0,by omega,by omega,by omega,Nat.le_succ_of_le (af6 hDX (n:=99) (by omega) (by omega)),Nat.le_succ_of_le (af6 hDY (n:=99) (by omega) (by omega))⟩
 have HK:=hide hK;have hlx:=hK.lx;have hly:=hK.ly;obtain⟨sX,hsX⟩:∃s,strOfNums X=s:=⟨_,rfl⟩;obtain⟨sY,hsY⟩:∃s,strOfNums Y=s:=⟨_,rfl⟩;have zX:sX.size=X.length:=by rw[<-hsX,ac1]
 have zY:sY.size=Y.length:=by rw[<-hsY,ac1]
 obtain⟨h1,e1⟩:∃h,sX++⟨#[120,32,45,32]⟩=h:=⟨_,rfl⟩;have z1:h1.size=X.length+4:=by rw[<-e1,ByteArray.size_append,zX];rfl
 obtain⟨h2,e2⟩:∃h,h1++sY=h:=⟨_,rfl⟩;have z2:h2.size=X.length+4+Y.length:=by rw[<-e2,ByteArray.size_append,z1,zY]
 obtain⟨h3,e3⟩:∃h,h2++⟨#[47]⟩=h:=⟨_,rfl⟩;have z3:h3.size=X.length+4+Y.length+1:=by rw[<-e3,ByteArray.size_append,z2];rfl
 obtain⟨h4,e4⟩:∃h,h3++sY=h:=⟨_,rfl⟩;have z4:h4.size=X.length+4+Y.length+1+Y.length:=by rw[<-e4,ByteArray.size_append,z3,zY]
 obtain⟨h5,e5⟩:∃h,h4++⟨#[42,121]⟩=h:=⟨_,rfl⟩;have z5:h5.size=X.length+4+Y.length+1+Y.length+2:=by rw[<-e5,ByteArray.size_append,z4];rfl
 have c1:∀W,(Op.stringOp .add sX ⟨#[120,32,45,32]⟩).run Tryz.prog W=.ok (.string h1) W:=fun W=>by rw[<-e1];exact run_string_add_sum (P:=Tryz.prog) W _ _ (by rw[zX];show _+4<=_;omega)
 have c2:∀W,(Op.stringOp .add h1 sY).run Tryz.prog W=.ok (.string h2) W:=fun W=>by rw[<-e2];exact run_string_add_sum (P:=Tryz.prog) W _ _ (by rw[z1,zY];omega)
 have c3:∀W,(Op.stringOp .add h2 ⟨#[47]⟩).run Tryz.prog W=.ok (.string h3) W:=fun W=>by rw[<-e3];exact run_string_add_sum (P:=Tryz.prog) W _ _ (by rw[z2];show _+1<=_;omega)
 have c4:∀W,(Op.stringOp .add h3 sY).run Tryz.prog W=.ok (.string h4) W:=fun W=>by rw[<-e4];exact run_string_add_sum (P:=Tryz.prog) W _ _ (by rw[z3,zY];omega)
 have c5:∀W,(Op.stringOp .add h4 ⟨#[42,121]⟩).run Tryz.prog W=.ok (.string h5) W:=fun W=>by rw[<-e5];exact run_string_add_sum (P:=Tryz.prog) W _ _ (by rw[z4];show _+2<=_;omega)
 have hH:h5=bts (encs (hdc X Y [])):=by
  rw[<-e5,<-e4,<-e3,<-e2,<-e1,<-hsX,<-hsY,ad6 X (acx hDX.1),ad6 Y (acx hDY.1),show(⟨#[120,32,45,32]⟩:ByteArray)=bts (encs [120,32,45,32])from rfl,show(⟨#[47]⟩:ByteArray)=bts (encs [47])from rfl,show(⟨#[42,121]⟩:ByteArray)=bts (encs [42,121])from rfl];simp only[ac5,<-aa2];simp[hdc,dcs]
 have HH:=hide hH;rw[hsX,hsY];clear hH e1 e2 e3 e4 e5 z1 z2 z3 z4 hsX hsY zX zY hK hDX hDY;go_upto_region 10 with fail
 obtain⟨w6,hw6,hb6,hs6,hv6,hk6,hg6⟩:=avi w5;rw[hw6];have hb16:=hb15.trans (hb6.mono hb15.size);have kc:=hk6 V hV1;have gc:=hg6 V hV1;obtain⟨sB,hsB⟩:∃s,bts (encs (badC V))=s:=⟨_,rfl⟩;rw[hsB]at kc;have zB:sB.size<=40:=by
  have:∀k<12,(bts (encs (badC k))).size<=40:=by decide
  rw[<-hsB];exact this V hV1
 obtain⟨h6,e6⟩:∃h,h5++sB=h:=⟨_,rfl⟩;have c6:∀W,(Op.stringOp .add h5 sB).run Tryz.prog W=.ok (.string h6) W:=fun W=>by rw[<-e6];exact run_string_add_sum (P:=Tryz.prog) W _ _ (by rw[z5];omega)
 have hH6:h6=bts (encs (hdc X Y (badC V))):=by
  rw[<-e6,<-hsB,HH.out,ac5,<-aa2];simp[hdc]
 have KE:=hide (HK.out.kind V hV1 w6 (HT.out.below hb16) _ hv6);rw[<-hH6]at KE;obtain⟨D,zD,zD2,hD0,hD1⟩:∃D:Int,((h5.size:Nat):Int)=D/\((hdl X Y:Nat):Int)=D/\0<=D/\D<=1000:=⟨_,rfl,by rw[z5,hdl];omega,by omega,by rw[z5];omega⟩;obtain⟨G,zG,hG0,hG1⟩:∃G:Int,((gapN V:Nat):Int)=G/\0<=G/\G<=10:=⟨_,rfl,by omega,by
  have:∀k<12,gapN k<=10:=by decide
  have:=this V hV1
  omega⟩
 rw[zG]at gc;have q1:((hdl X Y+gapN V:Nat):Int)=D+G:=by rw[Int.natCast_add,zD2,zG]
 have q2:((hdl X Y+gapN V+1:Nat):Int)=D+G+1:=by rw[Int.natCast_add,q1];rfl
 rw[q1,q2]at KE;have HB16:=hide hb16;have HV6:=hide hv6;clear hH6 e6 hsB zB hw6 hk6 hg6 c1 c2 c3 c4 c5 q1 q2 zD2 zG hb6 hb15 hb16 hv6 z5 HH;go_wp2_with fail
 refine KE.out.mono ?_;rintro e w7 ⟨hb7,rfl⟩;have gc7:=(hb7.cell (p:=⟨w5.heap.size+1+1,V,none⟩) (by show w5.heap.size+1+1<_;omega)).trans gc;have HB17:=hide (HB16.out.trans (hb7.mono HB16.out.size));have HV7:=hide (HV6.out.below hb7);have hs7:=hb7.size;clear KE hb7 gc kc c6 HV6 HB16;go_upto_region 11 with fail
 have hbA:=hAl w7 (.cells #[.int .i64 (D+G),.int .i64 (D+G),.int .i64 1,.int .i64 (D+G+1)] 56);have hn8:=heap_alloc_new w7 (.cells #[.int .i64 (D+G),.int .i64 (D+G),.int .i64 1,.int .i64 (D+G+1)] 56);generalize w7.alloc (.cells #[.int .i64 (D+G),.int .i64 (D+G),.int .i64 1,.int .i64 (D+G+1)] 56)=w8 at *
 have gc8:=(hbA.cell (p:=⟨w5.heap.size+1+1,V,none⟩) (by show w5.heap.size+1+1<_;omega)).trans gc7;obtain⟨hfl,p0,p1,p2,p3,_⟩:=abl hn8;have HN8:=hide hn8;have HC8:=hide hbA;clear hbA gc7 hn8;go_upto_region 14 with fail
 clear p0 p1 p2 p3 gc8;obtain⟨iU,hi,hz0,hz1,hz2⟩:=info_parts abw;go_wp2_with (refine wpList_make_full _ rfl (.const (.int .i64 32)) (.const (.int .i64 32)) 38 rfl w8.heap.size 70 iU (.int .u32 0) 1 Tryz.underlying38 hi hz0 hz1 .i64 .i64 _ _ 32 rfl rfl (by omega) (by omega) (by rw[hz2];omega) (by unfold maxLen;omega) (Nat.le_refl _) ?hK)
 case hK=>
  intro w9 hown hgrow;obtain⟨_,cur,hh,hcs,hat⟩:=aa6 hown;have hb9:Below w8.heap.size w8 w9:=(Below.refl w8.heap.size w8).grown hgrow (Nat.le_refl _) (by simp);have HB9:=hide hb9;have HH:=hide hh;have HS:=hide hcs;have HA:=hide hat;have k31:w9.cell? ⟨w8.heap.size,31,none⟩=some (.int .u32 0):=by
   rw[cell_of_row _ _ _ _ _ (0,0) hh];have:=hat 31 (by simp);simpa using this
  have f31:w9.frozen? ⟨w8.heap.size,31,none⟩=false:=frozen_of_row _ _ _ _ _ hh;have l31:w8.heap.size<w9.heap.size:=aaa hh;clear hown hgrow hh hcs hat hb9 hi hz0 hz1 hz2;go_upto_region 16 with fail
  have hc9:=HC8.out.trans (HB9.out.mono HC8.out.size);have hc10:=hc9.setCell (p:=⟨w8.heap.size,31,none⟩) HC8.out.size (.int .u32 2147483648);have hh10:=heap_setCell_same w9 w8.heap.size 31 _ _ (.int .u32 2147483648) HH.out;have hn9:=(HB9.out.block _ hfl).trans HN8.out;have hn10:=(heap_setCell_other w9 ⟨w8.heap.size,31,none⟩ w7.heap.size (.int .u32 2147483648) (by show w7.heap.size≠w8.heap.size;omega)).trans hn9;generalize w9.setCell ⟨w8.heap.size,31,none⟩ (.int .u32 2147483648)=w10 at *
  have hA10:=HA.out.set 31 2147483648;rw[Nat.zero_add]at hA10;have hS10:Sl w10 (.slice (some ⟨w8.heap.size,0,none⟩) 32 32) ((List.replicate 32 0).set 31 2147483648):=by
   refine⟨some ⟨w8.heap.size,0,none⟩,32,rfl,Nat.le_refl _,by decide,?_,.inr ⟨w8.heap.size,0,rfl,fun i hi=>hA10.cell hh10 i hi⟩⟩;intro z hz;rcases List.mem_or_eq_of_mem_set hz with h|rfl
   ·have:=List.eq_of_mem_replicate h;omega
   ·omega
  have hT10:IsW tT 32 (.agg #[.bool false,.slice (some ⟨w8.heap.size,0,none⟩) 32 32]) w10:=⟨false,_,_,_,_,rfl,⟨hS10,by decide +kernel⟩,by simp⟩;have K10:=hide (oftext w10 tT 32 _ hT10 (by decide) (by decide +kernel));have HC10:=hide hc10;have HN10:=hide hn10;clear hc9 hc10 hh10 hn9 hn10 hA10 hS10 hT10 HH HS HA HB9 k31 f31 l31;go_wp2_with fail
  refine K10.out.mono ?_;rintro e w11 ⟨rfl,hb11⟩;have hc11:=HC10.out.trans (hb11.mono HC10.out.size);have hn11:=(hb11.block _ (aaa HN10.out)).trans HN10.out;obtain⟨Z,hZ⟩:∃Z,dig tT=Z:=⟨_,rfl⟩;rw[hZ];have hDZ:IsDec Z tT:=by rw[<-hZ];have:=adu tT.toNat;rwa[show((tT.toNat:Nat):Int)=tT by decide +kernel]at this
  obtain⟨sZ,hsZ⟩:∃s,strOfNums Z=s:=⟨_,rfl⟩;rw[hsZ];have zZ:sZ.size<=400:=by rw[<-hsZ,ac1];exact afh hDZ
  obtain⟨u1,e1⟩:∃h,⟨#[50,47,53,120,32,61,32]⟩++sZ=h:=⟨_,rfl⟩;obtain⟨u2,e2⟩:∃h,⟨#[49,47,51,120,32,61,32]⟩++sZ=h:=⟨_,rfl⟩;obtain⟨u3,e3⟩:∃h,⟨#[120,32,61,32]⟩++sZ=h:=⟨_,rfl⟩;have c1:∀W,(Op.stringOp .add ⟨#[50,47,53,120,32,61,32]⟩ sZ).run Tryz.prog W=.ok (.string u1) W:=fun W=>by rw[<-e1];exact run_string_add_sum (P:=Tryz.prog) W _ _ (by show 7+_<=_;omega)
  have c2:∀W,(Op.stringOp .add ⟨#[49,47,51,120,32,61,32]⟩ sZ).run Tryz.prog W=.ok (.string u2) W:=fun W=>by rw[<-e2];exact run_string_add_sum (P:=Tryz.prog) W _ _ (by show 7+_<=_;omega)
  have c3:∀W,(Op.stringOp .add ⟨#[120,32,61,32]⟩ sZ).run Tryz.prog W=.ok (.string u3) W:=fun W=>by rw[<-e3];exact run_string_add_sum (P:=Tryz.prog) W _ _ (by show 4+_<=_;omega)
  have hu1:u1=bts (encs (lp 50 53 Z)):=by
   rw[<-e1,<-hsZ,ad6 Z (acx hDZ.1),show(⟨#[50,47,53,120,32,61,32]⟩:ByteArray)=bts (encs [50,47,53,120,32,61,32])from rfl,ac5,<-aa2];rfl
  have hu2:u2=bts (encs (lp 49 51 Z)):=by
   rw[<-e2,<-hsZ,ad6 Z (acx hDZ.1),show(⟨#[49,47,51,120,32,61,32]⟩:ByteArray)=bts (encs [49,47,51,120,32,61,32])from rfl,ac5,<-aa2];rfl
  have hu3:u3=bts (encs (lq Z)):=by
   rw[<-e3,<-hsZ,ad6 Z (acx hDZ.1),show(⟨#[120,32,61,32]⟩:ByteArray)=bts (encs [120,32,61,32])from rfl,ac5,<-aa2];rfl
  have hT11:=HT.out.below (HB17.out.trans (hc11.mono HB17.out.size));have K11:=hide (ak4 hT11 (HV7.out.below hc11) hDZ (n:=50) (d:=53) (.inl ⟨rfl,rfl⟩));rw[<-hu1]at K11;have HU2:=hide hu2;have HU3:=hide hu3;have HDZ:=hide hDZ;have HC11:=hide hc11;have HN11:=hide hn11;clear hb11 hc11 hn11 hu1 hu2 hu3 e1 e2 e3 hsZ zZ hT11 hZ hDZ K10 HC10 HN10;go_wp2_with fail
  refine K11.out.mono ?_;rintro e w12 ⟨hb12,rfl⟩;have hc12:=HC11.out.trans (hb12.mono HC11.out.size);have hn12:=(hb12.block _ (aaa HN11.out)).trans HN11.out;obtain⟨hfl12,c0,c1',c2',c3',f0,f1,f2,f3⟩:=abl hn12;have HC12:=hide hc12;have HN12:=hide hn12;clear hb12 hc12 hn12 K11 c1;go_upto_region 18 with fail
  have hc13:=(((HC12.out.setCell (p:=⟨w7.heap.size,0,none⟩) (Nat.le_refl _) (.int .i64 0)).setCell (p:=⟨w7.heap.size,1,none⟩) (Nat.le_refl _) (.int .i64 0)).setCell (p:=⟨w7.heap.size,2,none⟩) (Nat.le_refl _) (.int .i64 0)).setCell (p:=⟨w7.heap.size,3,none⟩) (Nat.le_refl _) (.int .i64 0);have hn13:=af3 HN12.out (.int .i64 0) (.int .i64 0) (.int .i64 0) (.int .i64 0);generalize (((w12.setCell ⟨w7.heap.size,0,none⟩ (.int .i64 0)).setCell ⟨w7.heap.size,1,none⟩ (.int .i64 0)).setCell ⟨w7.heap.size,2,none⟩ (.int .i64 0)).setCell ⟨w7.heap.size,3,none⟩ (.int .i64 0)=w13 at *
  have hT13:=HT.out.below (HB17.out.trans (hc13.mono HB17.out.size));have K13:=hide (ak4 hT13 (HV7.out.below hc13) HDZ.out (n:=49) (d:=51) (.inr ⟨rfl,rfl⟩));rw[<-HU2.out]at K13;have HC13:=hide hc13;have HN13:=hide hn13;clear hc13 hn13 hT13 c0 c1' c2' c3' f0 f1 f2 f3 hfl12 HU2;go_wp2_with fail
  refine K13.out.mono ?_;rintro e w14 ⟨hb14,rfl⟩;have hc14:=HC13.out.trans (hb14.mono HC13.out.size);have hn14:=(hb14.block _ (aaa HN13.out)).trans HN13.out;have HC14:=hide hc14;have HN14:=hide hn14;clear hb14 hc14 hn14 K13 c2;go_upto_region 19 with fail
  have hbB:=hAl w14 (.cells #[.int .i64 0,.int .i64 0,.int .i64 0,.int .i64 0] 56);have hm15:=heap_alloc_new w14 (.cells #[.int .i64 0,.int .i64 0,.int .i64 0,.int .i64 0] 56);generalize w14.alloc (.cells #[.int .i64 0,.int .i64 0,.int .i64 0,.int .i64 0] 56)=w15 at *
  have hc15:=HC14.out.trans (hbB.mono HC14.out.size);have hn15:=(hbB.block _ (aaa HN14.out)).trans HN14.out;have hT15:=HT.out.below (HB17.out.trans (hc15.mono HB17.out.size));have K15:=hide (ard hT15 (HV7.out.below hc15) HDZ.out);rw[<-HU3.out]at K15;have HC15:=hide hc15;have HN15:=hide hn15;have HM15:=hide hm15;clear hbB hm15 hc15 hn15 hT15 HU3 HC14 HN14;go_wp2_with fail
  refine K15.out.mono ?_;rintro e w16 ⟨hb16,x16,rfl⟩;have hc16:=HC15.out.trans (hb16.mono HC15.out.size);have hn16:=(hb16.block _ (aaa HN15.out)).trans HN15.out;have hm16:=(hb16.block _ (aaa HM15.out)).trans HM15.out;have HC16:=hide hc16;have HN16:=hide hn16;have HM16:=hide hm16;clear hb16 hc16 hn16 hm16 K15 c3 HC15 HN15 HM15;go_upto_region 20 with fail
  have hbC:=hAl w16 (.cells #[.int .i64 0,.int .i64 0,.int .i64 0,.int .i64 0] 56);generalize w16.alloc (.cells #[.int .i64 0,.int .i64 0,.int .i64 0,.int .i64 0] 56)=w17 at *
  have hc17:=HC16.out.trans (hbC.mono HC16.out.size);have hn17:=(hbC.block _ (aaa HN16.out)).trans HN16.out;have hm17:=(hbC.block _ (aaa HM16.out)).trans HM16.out;obtain⟨_,c0,c1,c2,c3,_⟩:=abl hn17;obtain⟨_,d0,d1,d2,d3,_⟩:=abl hm17;have HF:=hide (HB17.out.trans (hc17.mono HB17.out.size));clear hbC hc17 hn17 hm17;go_wp2;refine bodyPost_ret (v:=_) (by simp[results,Tryz.results8,go_sem];try rfl) rfl ⟨rfl,HF.out⟩
end Lm
namespace affineBadLaw
open Go.ChangeShapes Go.WideShapes Go.ChangeAt Go.RowKit
open Go.ChangeMaps (open_string shut_string)
theorem own:ownKnob Tryz.prog.godebug=none:=by kernel_rfl
noncomputable def laidWorld(os:Os):World:=
 let w0:=World.holding Tryz.prog os ⟨#[],#[],[]⟩
 let put (h:Array Obj) (g:Nat) (cs:Array Value):Array Obj:=h.modify g fun
  |.cells _ t frozen=>.cells cs t frozen
  |o=>o
 let h1:=put w0.heap (Tryz.lays197_ren.g 3) (Lib.firstTab.map fun z=>Value.int .u8 z).toArray
 let h2:=put h1 (Tryz.lays197_ren.g 4) ((List.range 16).flatMap fun i=>[Value.int .u8 (Lib.accLo i),Value.int .u8 (Lib.accHi i)]).toArray
 {w0 with heap:=h2}
theorem laid_met(os:Os):laidMet Tryz.prog Rows.affineBadRow.laid ((laidWorld os).forCall (fun _ _=>0) ⟨#[],#[.int .i64 0,.int .i64 0,.int .i64 0],[]⟩).memory:=
 laidMet_of_run' 8 (by kernel_rfl) (by kernel_rfl)
theorem tabs{W:World}(h:laidMet Tryz.prog Rows.affineBadRow.laid W):Lm.Tabs W:=
 utf8Tabs_of_reads (ρ:=Tryz.lays197_ren) {Tryz.lays197 with} ⟨by kernel_rfl,by kernel_rfl,by kernel_rfl,by kernel_rfl,by kernel_rfl,by kernel_rfl,by kernel_rfl⟩
  (Lib.laidMet.reads h (show ("unicode/utf8.first", Lib.firstData) ∈ Rows.affineBadRow.laid from by
   rw[show Lib.firstData=Rows.laid_unicode_utf8_first from by kernel_rfl]
   exact .tail _ (.head _)))
  (Lib.laidMet.reads h (show ("unicode/utf8.acceptRanges", Lib.acceptData) ∈ Rows.affineBadRow.laid from by
   rw[show Lib.acceptData=Rows.laid_unicode_utf8_acceptRanges from by kernel_rfl]
   exact .head _))
theorem reads(os:Os){H:Type}(enc:TypeId×Value->H):∃places,DataW.whole enc Tryz.prog ((laidWorld os).forCall (fun _ _=>0) ⟨#[],#[.int .i64 0,.int .i64 0,.int .i64 0],[]⟩).memory Tryz.f8.params.toList Rows.affineBadSpec.vars false (#[.int .i64 0,.int .i64 0,.int .i64 0]:Array Value).toList 8=some ([.lit (.int .i64 0),.lit (.int .i64 0),.lit (.int .i64 0)],[],places):=
 ⟨[],by kernel_rfl⟩
set_option linter.unusedVariables false in
set_option maxRecDepth 100000 in
theorem lifted(os:Os)(started:os.Started)(H:Type)(enc:TypeId×Value->H)(F:Stop.Interp):
  ReturnsInHanded {} Tryz.checked os 8 .any ((OpenSpec.ofChange Rows.affineBadSpec).preRow enc Tryz.prog Tryz.f8 Rows.affineBadRow.domain false Rows.affineBadRow.laid) (((OpenSpec.ofChange Rows.affineBadSpec).at F).post enc Tryz.prog Tryz.f8 false true false false):=by
 obtain⟨places,hx⟩:=reads os enc;refine returnsInHanded_of_row (C:=Tryz.checked) (s:=(OpenSpec.ofChange Rows.affineBadSpec)) own started (by kernel_rfl) Tryz.func8
  (witness_row_at (enc:=enc) (C:=Tryz.checked) false (laidWorld os) #[.int .i64 0,.int .i64 0,.int .i64 0] rfl (by kernel_rfl) (by kernel_rfl) (by kernel_rfl)
   (OpenSpec.preRow_of_cond 8 hx (by kernel_rfl) (fun k hk=>by cases hk) (by kernel_rfl) (laid_met os))) ?_
 intro W base args ds gs before hval0 hW hcnd0 hcond hsz0 hL hj2 hj3;have hTabs:Lm.Tabs W:=tabs hL;have hval:∀(j:Nat) t v,Tryz.f8.params[j]? = some t->args[j]? = some v->Value.okWide Tryz.prog W .any base t v:=hval0;have hW':=hW;obtain⟨p,q,hA0,hV,rfl,hfz,hnd⟩:=hW;have hA:DataW.TrodAll enc Tryz.prog W 0 (fun _=>true) true Tryz.f8.params.toList args.toList ds p:=hA0;have hsz:(DataW.weightsEach Tryz.prog (Tryz.f8.params.toList++Rows.affineBadSpec.plain.varTypes Tryz.prog) (ds++gs)).all (·<=reachBytes)=true:=hsz0;rw[Tryz.params8]at hA hval hsz;obtain⟨v0,vs0,d0,ds0,p0,q0,hargs,rfl,rfl,h0,r0⟩:=trodAll_cons hA;obtain⟨v1,vs1,d1,ds1,p1,q1,rfl,rfl,rfl,h1,r1⟩:=trodAll_cons r0;obtain⟨v2,vs2,d2,ds2,p2,q2,rfl,rfl,rfl,h2,r2⟩:=trodAll_cons r1;obtain⟨rfl,rfl,rfl⟩:=trodAll_nil r2;obtain rfl:args = #[v0,v1,v2]:=by cases args;simp_all
 obtain⟨rfl,rfl⟩:=trodVars_none hV;obtain⟨a0,rfl,rfl,rfl,w0⟩:=open_int Tryz.underlying3 (hval 0 3 v0 rfl rfl) h0;obtain⟨a1,rfl,rfl,rfl,w1⟩:=open_int Tryz.underlying3 (hval 1 3 v1 rfl rfl) h1;obtain⟨a2,rfl,rfl,rfl,w2⟩:=open_int Tryz.underlying3 (hval 2 3 v2 rfl rfl) h2;clear hA0 hval0;refine(Lm.aom W hTabs a0 a1 a2).mono fun e W' ⟨he,bel⟩=>?_
 subst he;exact⟨_,rfl,_,_,_,[],_,[],hW',trodAll_mk1 (shut_bool Tryz.underlying4 _),(trodAll_cons_mk (shut_int Tryz.underlying3 w0) (trodAll_cons_mk (shut_int Tryz.underlying3 w1) (trodAll_cons_mk (shut_int Tryz.underlying3 w2) trodAll_mk0))),rfl,bel.frame _,fun h=>by cases h⟩
theorem said:Rows.AffineBadSaid:=
 OpenClaim.holds_of_cond 8 Tryz.f8 rfl rfl rfl rfl rfl rfl rfl ⟨rfl,rfl,rfl,rfl,rfl⟩ rfl rfl rfl rfl rfl (by kernel_rfl) Tryz.func8 (by kernel_rfl)
  (of_decide_eq_true (by kernel_rfl)) (by unfold Func.isWrapper;first|(rw[if_pos (by decide +kernel)];kernel_rfl)|(rw[if_neg (by decide +kernel)];exact⟨rfl,rfl⟩))
  (fun os started H enc _ F=>by rw[OpenClaim.pre_eq_preRow];exact lifted os started H enc F)
theorem plain (f : FuncId) (fn : Func) (hf : Tryz.pinned.checked.prog.funcNamed "rafter/rafterlaw05.AffineBad" = some f) (hfn : Tryz.pinned.checked.prog.funcs[f]? = some fn) :
  false=Tryz.pinned.checked.prog.looks []/\∀(j:Nat) t,fn.params[j]? = some t->Tryz.pinned.checked.prog.wantsStandIn t=false:=by
 obtain rfl : f = 8 := Option.some.inj ((show Tryz.prog.funcNamed "rafter/rafterlaw05.AffineBad" = some 8 by kernel_rfl).symm.trans hf) |>.symm
 obtain rfl:fn=Tryz.f8:=(Option.some.inj (Tryz.func8.symm.trans hfn)).symm;refine⟨by kernel_rfl,fun j t ht=>?_⟩;rw[Tryz.params8]at ht;have hm:=Array.mem_of_getElem? ht;simp at hm;obtain rfl:=hm;exact(show Tryz.prog.wantsStandIn 3=false by kernel_rfl)
theorem card:Rows.AffineBadCardSaid:=
 Claim7.holds_tied_plain_at .later [] _ _ _ _ said (fun _ h=>by cases h) (by kernel_rfl) (fun _ h=>by cases h) affineBad_row_tie rfl ⟨rfl,rfl⟩ (by kernel_rfl) rfl plain (by kernel_rfl)
end affineBadLaw
theorem affineBad_card:Rows.AffineBadCardSaid:=affineBadLaw.card
#print axioms affineBad_card
end Go.Proofs.YtooefpkhacecnaaGreatDoor
