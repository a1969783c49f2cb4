/-
  What the text behind the last one leans on, part 3.
-/
import Derived.Shelf.Lay
import Derived.Shelf.Strconv.Clone
import Derived.Laws.Concat
import Derived.Shelf.Unicode.DecodeAny
import Derived.Lib.LaidU8
import Derived.Test.YtooefpkhacecnaaGreatDoorProg
import Derived.Lib.OthersKept
import Derived.Laws.RangeAny
import Derived.Deep.RegionLaw
import Derived.Deep.AppendLies
import Derived.Deep.DeepCutAuto
import Derived.Shelf.Strings.BuilderK
import Derived.Shelf.Unicode.DecodeSlow
import Derived.SizedLaws
import Derived.Test.YtooefpkhacecnaaGreatDoorPDLawZ2
set_option maxRecDepth 20000
set_option maxHeartbeats 40000000
namespace Go.Proofs
open Go.Shelf
shelf_lay LaysM.n316 Nm 316 at Tryz as Tryz.lays316
namespace YtooefpkhacecnaaGreatDoor
namespace Lm
open Go Go.RowKit
theorem aqg(w:World)(s:ByteArray)(h:s.size<=281474976710656):
  Calls Tryz.prog 181 #[.string s] w fun e w'=>e=.returned (.string s)/\Below w.heap.size w w':=Any.stringslite_Clone Tryz.lays316 s w h
theorem aqh(w:World)(s:ByteArray)(h:s.size<=281474976710656):
  Calls Tryz.prog 166 #[.string s] w fun e w'=>e=.returned (.string s)/\Below w.heap.size w w':=by
 go_enter Tryz.func166,Tryz.ntmps166
 go_wp2_with fail
 refine(aqg _ _ h).mono ?_;rintro e w' ⟨rfl,hb⟩;go_wp2;go_ret;exact⟨rfl,hb⟩
end Lm
end YtooefpkhacecnaaGreatDoor
end Go.Proofs
namespace Go.Proofs.YtooefpkhacecnaaGreatDoor
namespace Lm
open Go Go.RowKit
theorem ah0(w:World)(zs:List Int)(hl:zs.length<=100)(e:TypeId):Nums (w.alloc (.cells (zs.map (Value.int .i64)).toArray e)) (.slice (some ⟨w.heap.size,0,none⟩) zs.length zs.length) zs:=by
 refine⟨_,_,rfl,Nat.le_refl _,by omega,by simp,.inr ⟨w.heap.size,0,rfl,by simp[World.size_alloc],fun j u hu=>?_⟩⟩;rw[cell_of_row _ w.heap.size _ _ _ _ (heap_alloc_new w _),Nat.zero_add];simpa using hu
def tok0:Value:=.agg #[.int .i64 0,.string ⟨#[]⟩,.int .i64 0,.int .i64 0,.int .i64 0,.int .i64 0]
def Tk0B(w:World)(f:Nat):Prop:=w.heap[f]? = some (.cells #[.int .i64 0,.string ⟨#[]⟩,.int .i64 0,.int .i64 0,.int .i64 0,.int .i64 0] 109 (0,0))
theorem Tk0B.tq{w w':World}{f q:Nat}(h:Tk0B w f)(ht:Tq w w' q)(hn:f≠q):Tk0B w' f:=(ht.other f (aaa h) hn).trans h
theorem Tk0B.below{w w':World}{f:Nat}(h:Tk0B w f)(hb:Below w.heap.size w w'):Tk0B w' f:=(hb.block f (aaa h)).trans h
structure Tk0C (w:World) (f:Nat):Prop where
 hf:f<w.heap.size
 t0:w.cell? ⟨f,0,none⟩=some (.int .i64 0)
 t1:w.cell? ⟨f,1,none⟩=some (.string ⟨#[]⟩)
 t2:w.cell? ⟨f,2,none⟩=some (.int .i64 0)
 t3:w.cell? ⟨f,3,none⟩=some (.int .i64 0)
 t4:w.cell? ⟨f,4,none⟩=some (.int .i64 0)
 t5:w.cell? ⟨f,5,none⟩=some (.int .i64 0)
 f0:w.frozen? ⟨f,0,none⟩=false
 f1:w.frozen? ⟨f,1,none⟩=false
 f2:w.frozen? ⟨f,2,none⟩=false
 f3:w.frozen? ⟨f,3,none⟩=false
 f4:w.frozen? ⟨f,4,none⟩=false
 f5:w.frozen? ⟨f,5,none⟩=false
theorem Tk0B.cells{w:World}{f:Nat}(h:Tk0B w f):Tk0C w f:=by
 exact⟨aaa h,by rw[cell_of_row w f 0 _ _ _ h];rfl,by rw[cell_of_row w f 1 _ _ _ h];rfl,by rw[cell_of_row w f 2 _ _ _ h];rfl,by rw[cell_of_row w f 3 _ _ _ h];rfl,by rw[cell_of_row w f 4 _ _ _ h];rfl,by rw[cell_of_row w f 5 _ _ _ h];rfl,frozen_of_row w f 0 _ _ h,frozen_of_row w f 1 _ _ h,frozen_of_row w f 2 _ _ h,frozen_of_row w f 3 _ _ h,frozen_of_row w f 4 _ _ h,frozen_of_row w f 5 _ _ h⟩
theorem av0(w:World)(q:Nat)(s:ByteArray)(v:Value)(gs:List Gl)(i:Nat)(e:Pl)(h:Scn w q s v gs i e)(hn:gs.length<=100000)(hQ:Snd s pl0 gs e)(hs:s.size<=100000):
  Calls Tryz.prog 132 #[.pointer (some ⟨q,0,none⟩)] w fun r w'=>∃j,i<=j/\gs.drop j=(gs.drop i).dropWhile (inC [2,3,4])/\Scn w' q s v gs j e/\Tq w w' q/\((16<j-i/\r=.returned (.tuple #[tok0,.int .i64 42]))\/(j-i<=16/\r=.returned (.tuple #[.agg #[.int .i64 1,.string (s.extract (plf (gs.drop i) e).b (plf (gs.drop j) e).b),.int .i64 0,.int .i64 0,.int .i64 0,.int .i64 0],.int .i64 0]))):=by
 have H:=hide h;have hq:=aaa h.blk;clear h;unfold tok0;have hb0:Below w.heap.size w ((w.alloc (.cells #[.int .i64 0,.string ⟨#[]⟩,.int .i64 0,.int .i64 0,.int .i64 0,.int .i64 0] 109)).alloc (.cells #[.int .i64 2,.int .i64 3,.int .i64 4] 3)):=ach _ _ _;have ht0:Tk0B ((w.alloc (.cells #[.int .i64 0,.string ⟨#[]⟩,.int .i64 0,.int .i64 0,.int .i64 0,.int .i64 0] 109)).alloc (.cells #[.int .i64 2,.int .i64 3,.int .i64 4] 3)) w.heap.size:=Tk0B.below (heap_alloc_new w _) ((Below.refl _ _).alloc (Nat.le_refl _) _);have hN:=ah0 (w.alloc (.cells #[.int .i64 0,.string ⟨#[]⟩,.int .i64 0,.int .i64 0,.int .i64 0,.int .i64 0] 109)) [2,3,4] (by simp) 3;simp only[World.size_alloc,List.map,List.length]at hN;go_enter Tryz.func132,Tryz.ntmps132
 go_wp2_with fail
 refine(an4 _ q s v gs i e (H.out.below hb0) hn _ _ _ [2,3,4] hN (by rintro b off n c hv;simp only[Value.slice.injEq,Option.some.injEq,Addr.mk.injEq]at hv;omega) hQ hs).mono ?_;rintro r w2 ⟨j,hij,hdj,rfl,hS,hT⟩;have HS:=hide hS;have HT:=hide ((Tq.of_below hb0).trans hT);have HT0:=hide (ht0.tq hT (by omega));clear hS hT hb0 ht0 hN;have HDJ:=hide hdj;clear hdj;generalize hf:w.heap.size=f at *
 replace hf:w.heap.size<=f:=by omega
 have hqf:q≠f:=by omega
 clear hq;by_cases hlong:16<j-i
 ·obtain⟨hfl,t0,t1,t2,t3,t4,t5,f0,f1,f2,f3,f4,f5⟩:=HT0.out.cells;have hl':(16:Int)<((j-i:Nat):Int):=by omega
  go_wp2;refine bodyPost_ret (v:=_) (by simp[results,Tryz.results132,go_sem,t0,t1,t2,t3,t4,t5];try rfl) rfl ⟨j,hij,HDJ.out,?_,?_,.inl ⟨hlong,rfl⟩⟩
  ·exact H.out.of_tq (HT.out.setNew hf 0 _ |>.setNew hf 1 _ |>.setNew hf 2 _ |>.setNew hf 3 _ |>.setNew hf 4 _ |>.setNew hf 5 _) ((aba _ _ _ hqf _ _ _ _ _ _).trans HS.out.blk) HS.out.le
  ·exact HT.out.setNew hf 0 _ |>.setNew hf 1 _ |>.setNew hf 2 _ |>.setNew hf 3 _ |>.setNew hf 4 _ |>.setNew hf 5 _
 ·have hl':decide ((16:Int)<((j-i:Nat):Int))=false:=by simp;omega
  go_wp2_with fail
  refine(aqh _ _ (by simp;omega)).mono ?_;rintro r w3 ⟨rfl,hb3⟩;replace HT0:=hide (HT0.out.below hb3);replace HT:=hide (HT.out.trans (.of_below hb3));replace HS:=hide (HS.out.below hb3);clear hb3;obtain⟨hfl,t0,t1,t2,t3,t4,t5,f0,f1,f2,f3,f4,f5⟩:=HT0.out.cells;go_wp2;refine bodyPost_ret (v:=_) (by simp[results,Tryz.results132,go_sem,t0,t1,t2,t3,t4,t5];try rfl) rfl ⟨j,hij,HDJ.out,?_,?_,.inr ⟨by omega,rfl⟩⟩
  ·exact H.out.of_tq (HT.out.setNew hf 0 _ |>.setNew hf 1 _ |>.setNew hf 2 _ |>.setNew hf 3 _ |>.setNew hf 4 _ |>.setNew hf 5 _) ((aba _ _ _ hqf _ _ _ _ _ _).trans HS.out.blk) HS.out.le
  ·exact HT.out.setNew hf 0 _ |>.setNew hf 1 _ |>.setNew hf 2 _ |>.setNew hf 3 _ |>.setNew hf 4 _ |>.setNew hf 5 _
end Lm
namespace Lm
open Go Go.RowKit
open Dm (Err Fine)
theorem aqi(w:World)(q:Nat)(s:ByteArray)(v:Value)(gs:List Gl)(i:Nat)(e:Pl)(h:Scn w q s v gs i e)(hn:gs.length<=100000)(hQ:Snd s pl0 gs e)(hs:s.size<=4096)(hne:(plf (gs.drop i) e).b<(plf ((gs.drop i).dropWhile (inC [3])) e).b):
  Calls Tryz.prog 133 #[.pointer (some ⟨q,0,none⟩)] w fun r w'=>∃j,i<=j/\gs.drop j=(gs.drop i).dropWhile (inC [3])/\Scn w' q s v gs j e/\Tq w w' q/\∃n ds,IsLen (dval (bytesOf (s.extract (plf (gs.drop i) e).b (plf (gs.drop j) e).b))) n/\IsDec ds (dval (bytesOf (s.extract (plf (gs.drop i) e).b (plf (gs.drop j) e).b)))/\((32<n/\r=.returned (.tuple #[tok0,.int .i64 2]))\/(n<=32/\r=.returned (.tuple #[.agg #[.int .i64 2,.string (strOfNums ds),.int .i64 0,.int .i64 0,.int .i64 0,.int .i64 0],.int .i64 0]))):=by
 have H:=hide h;have hq:=aaa h.blk;have hD:=hQ.drop ad5 (Nat.zero_le _) i h.le;have hG:=hD.1.digits hD.2.1 hD.2.2.2.1;have HF:Hid (Fine (s.extract (plf (gs.drop i) e).b (plf ((gs.drop i).dropWhile (inC [3])) e).b)):=by
  refine⟨?_,?_,hG.1⟩
  ·rw[ByteArray.size_extract];omega
  ·rw[ByteArray.size_extract];omega
 clear h hD hG hne;unfold tok0;have hb0:Below w.heap.size w ((w.alloc (.cells #[.int .i64 0,.string ⟨#[]⟩,.int .i64 0,.int .i64 0,.int .i64 0,.int .i64 0] 109)).alloc (.cells #[.int .i64 3] 3)):=ach _ _ _;have ht0:Tk0B ((w.alloc (.cells #[.int .i64 0,.string ⟨#[]⟩,.int .i64 0,.int .i64 0,.int .i64 0,.int .i64 0] 109)).alloc (.cells #[.int .i64 3] 3)) w.heap.size:=Tk0B.below (heap_alloc_new w _) ((Below.refl _ _).alloc (Nat.le_refl _) _);have hN:=ah0 (w.alloc (.cells #[.int .i64 0,.string ⟨#[]⟩,.int .i64 0,.int .i64 0,.int .i64 0,.int .i64 0] 109)) [3] (by simp) 3;simp only[World.size_alloc,List.map,List.length]at hN;go_enter Tryz.func133,Tryz.ntmps133
 go_wp2_with fail
 refine(an4 _ q s v gs i e (H.out.below hb0) hn _ _ _ [3] hN (by rintro b off n c hv;simp only[Value.slice.injEq,Option.some.injEq,Addr.mk.injEq]at hv;omega) hQ (by omega)).mono ?_;rintro r w2 ⟨j,hij,hdj,rfl,hS,hT⟩;have HS:=hide hS;have HT:=hide ((Tq.of_below hb0).trans hT);have HT0:=hide (ht0.tq hT (by omega));clear hS hT hb0 ht0 hN;rw[<-hdj]at HF;have HDJ:=hide hdj;clear hdj;generalize htx:s.extract (plf (gs.drop i) e).b (plf (gs.drop j) e).b=t at HF ⊢;have HTX:=hide htx;clear htx;generalize hf:w.heap.size=f at *
 replace hf:w.heap.size<=f:=by omega
 have hqf:q≠f:=by omega
 clear hq;go_wp2_with fail
 refine(an6 _ _).mono ?_;rintro r w3 ⟨hr,hb3⟩;replace HT0:=hide (HT0.out.below hb3);replace HT:=hide (HT.out.trans (.of_below hb3));replace HS:=hide (HS.out.below hb3);clear hb3;rcases hr with⟨k,hk,rfl⟩|⟨_,u,rfl,rs,hO,hC,hV⟩
 ·exfalso;obtain⟨x1,x2,x3⟩:=HF.out;rcases hk with hk|hk
  ·omega
  ·exact hk.2.2 ⟨x1,x3⟩
 obtain⟨ao,cap,rfl,c1,c2,c3,c4⟩:=hO.sl;have HO:=hide hO;have HC:=hide (And.intro hC hV);have hlen:rs.length<=1000000:=by
  have h1:=aa0 HF.out.2.2;rw[aah,<-hV]at h1;have h2:=abb (m:=t.size) (n:=5120) HF.out.2.1;have h3:=apy 5120;have h4:=aa1 hC (m:=5120) (by omega);omega
 clear hO hC hV c4;by_cases hbig:32<rs.length
 ·obtain⟨DS,hds⟩:=an5 HF.out.2.2;have HDS:=hide hds;clear hds;obtain⟨hfl,t0,t1,t2,t3,t4,t5,f0,f1,f2,f3,f4,f5⟩:=HT0.out.cells;have hl':(32:Int)<(rs.length:Int):=by omega
  go_wp2;refine bodyPost_ret (v:=_) (by simp[results,Tryz.results133,go_sem,t0,t1,t2,t3,t4,t5];try rfl) rfl ⟨j,hij,HDJ.out,?_,?_,_,DS,by rw[HTX.out];exact⟨_,HC.out.1,HC.out.2,rfl⟩,by rw[HTX.out];exact HDS.out,.inl ⟨hbig,rfl⟩⟩
  ·exact H.out.of_tq (HT.out.setNew hf 0 _ |>.setNew hf 1 _ |>.setNew hf 2 _ |>.setNew hf 3 _ |>.setNew hf 4 _ |>.setNew hf 5 _) ((aba _ _ _ hqf _ _ _ _ _ _).trans HS.out.blk) HS.out.le
  ·exact HT.out.setNew hf 0 _ |>.setNew hf 1 _ |>.setNew hf 2 _ |>.setNew hf 3 _ |>.setNew hf 4 _ |>.setNew hf 5 _
 ·have hl':decide ((32:Int)<(rs.length:Int))=false:=by simp;omega
  go_wp2_with fail
  refine(ahq _ _ _ _ _ HO.out.sl hlen).mono ?_;rintro r w4 ⟨DS,rfl,hds,hb4⟩;rw[HC.out.2]at hds;have HDS:=hide hds;replace HT0:=hide (HT0.out.below hb4);replace HT:=hide (HT.out.trans (.of_below hb4));replace HS:=hide (HS.out.below hb4);clear hb4 hds;obtain⟨hfl,t0,t1,t2,t3,t4,t5,f0,f1,f2,f3,f4,f5⟩:=HT0.out.cells;go_wp2;refine bodyPost_ret (v:=_) (by simp[results,Tryz.results133,go_sem,t0,t1,t2,t3,t4,t5];try rfl) rfl ⟨j,hij,HDJ.out,?_,?_,_,DS,by rw[HTX.out];exact⟨_,HC.out.1,HC.out.2,rfl⟩,by rw[HTX.out];exact HDS.out,.inr ⟨by omega,rfl⟩⟩
  ·exact H.out.of_tq (HT.out.setNew hf 0 _ |>.setNew hf 1 _ |>.setNew hf 2 _ |>.setNew hf 3 _ |>.setNew hf 4 _ |>.setNew hf 5 _) ((aba _ _ _ hqf _ _ _ _ _ _).trans HS.out.blk) HS.out.le
  ·exact HT.out.setNew hf 0 _ |>.setNew hf 1 _ |>.setNew hf 2 _ |>.setNew hf 3 _ |>.setNew hf 4 _ |>.setNew hf 5 _
end Lm
namespace Lm
open Go Go.RowKit
theorem acu{c:Int}(h:0<=c/\c<128):Utf8.encode c=strOfNums [c]:=by
 obtain⟨n,rfl⟩:∃n:Nat,c=n:=⟨c.toNat,by omega⟩;unfold Utf8.encode;have hv:Utf8.valid (n:Int)=true:=by simp[Utf8.valid];omega
 simp only[hv,if_true];rw[if_pos (by omega)];rfl
theorem Tq.six{w w':World}{q f:Nat}(h:Tq w w' q)(hf:w.heap.size<=f)(u0 u1 u2 u3 u4 u5:Value):Tq w ((((((w'.setCell ⟨f,0,none⟩ u0).setCell ⟨f,1,none⟩ u1).setCell ⟨f,2,none⟩ u2).setCell ⟨f,3,none⟩ u3).setCell ⟨f,4,none⟩ u4).setCell ⟨f,5,none⟩ u5) q:=
 h.setNew hf 0 _ |>.setNew hf 1 _ |>.setNew hf 2 _ |>.setNew hf 3 _ |>.setNew hf 4 _ |>.setNew hf 5 _
theorem av1(w:World)(q:Nat)(s:ByteArray)(v:Value)(gs:List Gl)(i:Nat)(e:Pl)(h:Scn w q s v gs i e)(hn:gs.length<=100000)(g:Gl)(hg:gs[i]? = some g)(c:Int)(hc:gfold g.code=c)(h0:0<=c/\c<128)(h1:c≠58)(h2:c≠33):
  Calls Tryz.prog 134 #[.pointer (some ⟨q,0,none⟩)] w fun r w'=>Scn w' q s v gs (i+1) e/\Tq w w' q/\r=.returned (.tuple #[.agg #[.int .i64 3,.string (strOfNums [c]),.int .i64 0,.int .i64 0,.int .i64 0,.int .i64 0],.int .i64 0]):=by
 have H:=hide h;have hi:i<gs.length:=(List.getElem?_eq_some_iff.1 hg).1;have hil:(i:Int)<100000:=by omega
 obtain⟨ao,cap,rfl⟩:=h.gls.isSlice;obtain⟨b,off,rfl,hG⟩:=h.gls.glyph hg;obtain⟨hq,k0,k1,k2,k3,k4,k5,k6⟩:=h.cells;obtain⟨hb,g0,g1,g2,g3,g4,g5⟩:=hG;have hfr:=h.free 2;have hi':(i:Int)<(gs.length:Int):=by omega
 have KF:∀w,Calls Tryz.prog 168 #[.int .i64 g.code] w fun e w'=>e=.returned (.int .i64 c)/\w'=w:=fun w=>by rw[<-hc];exact ab5 w _
 have n8788:(c==8788)=false:=beq_eq_false_iff_ne.2 (by omega);have n8800:(c==8800)=false:=beq_eq_false_iff_ne.2 (by omega);have n58:(c==58)=false:=beq_eq_false_iff_ne.2 (by omega);have n33:(c==33)=false:=beq_eq_false_iff_ne.2 (by omega);clear h hg hc k0 k3 k4 k5 k6 g1 g2 g3 g4 g5;go_enter Tryz.func134,Tryz.ntmps134
 go_wp2_with fail
 go_quiet ((go_at_call 168;exact Calls.quiet_of_same (KF _)))
 go_wp2;refine bodyPost_ret (v:=_) (by simp[results,Tryz.results134,go_sem];try rfl) rfl ⟨?_,?_,?_⟩
 ·refine H.out.of_tq (Tq.six ((Tq.of_below (by(repeat' first|with_reducible(first|exact Below.refl _ _|assumption|refine gdrewN ?_ _|refine Below.alloc ?_ ?_ _|refine Below.drew ?_|refine Below.setCell ?_ ?_ _)|go_size))).set 2 _) (Nat.le_refl _) _ _ _ _ _ _) ((aba _ _ _ (by omega) _ _ _ _ _ _).trans ?_) (by omega);rw[heap_setCell_same _ q 2 _ _ _ ((Below.block (B:=w.heap.size) (by(repeat' first|with_reducible(first|exact Below.refl _ _|assumption|refine gdrewN ?_ _|refine Below.alloc ?_ ?_ _|refine Below.drew ?_|refine Below.setCell ?_ ?_ _)|go_size)) q hq).trans H.out.blk)];simp
 ·exact Tq.six ((Tq.of_below (by(repeat' first|with_reducible(first|exact Below.refl _ _|assumption|refine gdrewN ?_ _|refine Below.alloc ?_ ?_ _|refine Below.drew ?_|refine Below.setCell ?_ ?_ _)|go_size))).set 2 _) (Nat.le_refl _) _ _ _ _ _ _
 ·simp[acu h0]
theorem alm(w:World)(q:Nat)(s:ByteArray)(v:Value)(gs:List Gl)(i:Nat)(e:Pl)(h:Scn w q s v gs i e)(hn:gs.length<=100000)(g:Gl)(hg:gs[i]? = some g)(c:Int)(hc:gfold g.code=c)(h0:c=8788):
  Calls Tryz.prog 134 #[.pointer (some ⟨q,0,none⟩)] w fun r w'=>Scn w' q s v gs (i+1) e/\Tq w w' q/\r=.returned (.tuple #[.agg #[.int .i64 3,.string (strOfNums [58,61]),.int .i64 0,.int .i64 0,.int .i64 0,.int .i64 0],.int .i64 0]):=by
 have H:=hide h;have hi:i<gs.length:=(List.getElem?_eq_some_iff.1 hg).1;have hil:(i:Int)<100000:=by omega
 obtain⟨ao,cap,rfl⟩:=h.gls.isSlice;obtain⟨b,off,rfl,hG⟩:=h.gls.glyph hg;obtain⟨hq,k0,k1,k2,k3,k4,k5,k6⟩:=h.cells;obtain⟨hb,g0,g1,g2,g3,g4,g5⟩:=hG;have hfr:=h.free 2;have hi':(i:Int)<(gs.length:Int):=by omega
 have KF:∀w,Calls Tryz.prog 168 #[.int .i64 g.code] w fun e w'=>e=.returned (.int .i64 c)/\w'=w:=fun w=>by rw[<-hc];exact ab5 w _
 subst h0;clear h hg hc k0 k3 k4 k5 k6 g1 g2 g3 g4 g5;go_enter Tryz.func134,Tryz.ntmps134
 go_wp2_with fail
 go_quiet ((go_at_call 168;exact Calls.quiet_of_same (KF _)))
 go_wp2;refine bodyPost_ret (v:=_) (by simp[results,Tryz.results134,go_sem];try rfl) rfl ⟨?_,?_,?_⟩
 ·refine H.out.of_tq (Tq.six ((Tq.of_below (by(repeat' first|with_reducible(first|exact Below.refl _ _|assumption|refine gdrewN ?_ _|refine Below.alloc ?_ ?_ _|refine Below.drew ?_|refine Below.setCell ?_ ?_ _)|go_size))).set 2 _) (Nat.le_refl _) _ _ _ _ _ _) ((aba _ _ _ (by omega) _ _ _ _ _ _).trans ?_) (by omega);rw[heap_setCell_same _ q 2 _ _ _ ((Below.block (B:=w.heap.size) (by(repeat' first|with_reducible(first|exact Below.refl _ _|assumption|refine gdrewN ?_ _|refine Below.alloc ?_ ?_ _|refine Below.drew ?_|refine Below.setCell ?_ ?_ _)|go_size)) q hq).trans H.out.blk)];simp
 ·exact Tq.six ((Tq.of_below (by(repeat' first|with_reducible(first|exact Below.refl _ _|assumption|refine gdrewN ?_ _|refine Below.alloc ?_ ?_ _|refine Below.drew ?_|refine Below.setCell ?_ ?_ _)|go_size))).set 2 _) (Nat.le_refl _) _ _ _ _ _ _
 ·rfl
theorem am2(w:World)(q:Nat)(s:ByteArray)(v:Value)(gs:List Gl)(i:Nat)(e:Pl)(h:Scn w q s v gs i e)(hn:gs.length<=100000)(g:Gl)(hg:gs[i]? = some g)(c:Int)(hc:gfold g.code=c)(h0:c=8800):
  Calls Tryz.prog 134 #[.pointer (some ⟨q,0,none⟩)] w fun r w'=>Scn w' q s v gs (i+1) e/\Tq w w' q/\r=.returned (.tuple #[.agg #[.int .i64 3,.string (strOfNums [33,61]),.int .i64 0,.int .i64 0,.int .i64 0,.int .i64 0],.int .i64 0]):=by
 have H:=hide h;have hi:i<gs.length:=(List.getElem?_eq_some_iff.1 hg).1;have hil:(i:Int)<100000:=by omega
 obtain⟨ao,cap,rfl⟩:=h.gls.isSlice;obtain⟨b,off,rfl,hG⟩:=h.gls.glyph hg;obtain⟨hq,k0,k1,k2,k3,k4,k5,k6⟩:=h.cells;obtain⟨hb,g0,g1,g2,g3,g4,g5⟩:=hG;have hfr:=h.free 2;have hi':(i:Int)<(gs.length:Int):=by omega
 have KF:∀w,Calls Tryz.prog 168 #[.int .i64 g.code] w fun e w'=>e=.returned (.int .i64 c)/\w'=w:=fun w=>by rw[<-hc];exact ab5 w _
 subst h0;clear h hg hc k0 k3 k4 k5 k6 g1 g2 g3 g4 g5;go_enter Tryz.func134,Tryz.ntmps134
 go_wp2_with fail
 go_quiet ((go_at_call 168;exact Calls.quiet_of_same (KF _)))
 go_wp2;refine bodyPost_ret (v:=_) (by simp[results,Tryz.results134,go_sem];try rfl) rfl ⟨?_,?_,?_⟩
 ·refine H.out.of_tq (Tq.six ((Tq.of_below (by(repeat' first|with_reducible(first|exact Below.refl _ _|assumption|refine gdrewN ?_ _|refine Below.alloc ?_ ?_ _|refine Below.drew ?_|refine Below.setCell ?_ ?_ _)|go_size))).set 2 _) (Nat.le_refl _) _ _ _ _ _ _) ((aba _ _ _ (by omega) _ _ _ _ _ _).trans ?_) (by omega);rw[heap_setCell_same _ q 2 _ _ _ ((Below.block (B:=w.heap.size) (by(repeat' first|with_reducible(first|exact Below.refl _ _|assumption|refine gdrewN ?_ _|refine Below.alloc ?_ ?_ _|refine Below.drew ?_|refine Below.setCell ?_ ?_ _)|go_size)) q hq).trans H.out.blk)];simp
 ·exact Tq.six ((Tq.of_below (by(repeat' first|with_reducible(first|exact Below.refl _ _|assumption|refine gdrewN ?_ _|refine Below.alloc ?_ ?_ _|refine Below.drew ?_|refine Below.setCell ?_ ?_ _)|go_size))).set 2 _) (Nat.le_refl _) _ _ _ _ _ _
 ·rfl
theorem aqj(w:World)(q:Nat)(s:ByteArray)(v:Value)(gs:List Gl)(i:Nat)(e:Pl)(h:Scn w q s v gs i e)(hn:gs.length<=100000)(g:Gl)(hg:gs[i]? = some g)(c:Int)(hc:gfold g.code=c)(h0:c=58)(gn:Gl)(hg2:gs[i+1]? = some gn)(he2:gn.code=61):
  Calls Tryz.prog 134 #[.pointer (some ⟨q,0,none⟩)] w fun r w'=>Scn w' q s v gs (i+2) e/\Tq w w' q/\r=.returned (.tuple #[.agg #[.int .i64 3,.string (strOfNums [58,61]),.int .i64 0,.int .i64 0,.int .i64 0,.int .i64 0],.int .i64 0]):=by
 have H:=hide h;have hi:i<gs.length:=(List.getElem?_eq_some_iff.1 hg).1;have hil:(i:Int)<100000:=by omega
 obtain⟨ao,cap,rfl⟩:=h.gls.isSlice;obtain⟨b,off,rfl,hG⟩:=h.gls.glyph hg;obtain⟨hq,k0,k1,k2,k3,k4,k5,k6⟩:=h.cells;obtain⟨hb,g0,g1,g2,g3,g4,g5⟩:=hG;have hfr:=h.free 2;have hi':(i:Int)<(gs.length:Int):=by omega
 have KF:∀w,Calls Tryz.prog 168 #[.int .i64 g.code] w fun e w'=>e=.returned (.int .i64 c)/\w'=w:=fun w=>by rw[<-hc];exact ab5 w _
 subst h0;clear h hg hc k0 k3 k4 k5 k6 g1 g2 g3 g4 g5;go_enter Tryz.func134,Tryz.ntmps134
 go_wp2_with fail
 go_quiet ((go_at_call 168;exact Calls.quiet_of_same (KF _)))
 go_wp2_with fail
 generalize hE:Utf8.encode 58=T;have HE:=hide ((acu (c:=58) (by omega)).symm.trans hE);have hTs:T.size<=10:=by rw[<-HE.out,strOfNums_size];simp
 have hadd:∀w,(Op.stringOp .add T ⟨#[61]⟩).run Tryz.prog w=.ok (.string (T++⟨#[61]⟩)) w:=fun w=>run_string_add_sum (P:=Tryz.prog) w T ⟨#[61]⟩ (by show T.size+1<=_;omega)
 generalize hU:T++(⟨#[61]⟩:ByteArray)=U at hadd;have HU:=hide hU;clear hU hTs;clear hE;have hbq:Below w.heap.size w ((w.alloc (.cells #[.int .i64 0,.string ⟨#[]⟩,.int .i64 0,.int .i64 0,.int .i64 0,.int .i64 0] 109)).drewN nq):=by(repeat' first|with_reducible(first|exact Below.refl _ _|assumption|refine gdrewN ?_ _|refine Below.alloc ?_ ?_ _|refine Below.drew ?_|refine Below.setCell ?_ ?_ _)|go_size)
 have HT1:=hide ((Tq.of_below (q:=q) hbq).set 2 (.int .i64 ((i:Int)+1)));have HS1:=hide ((H.out.below hbq).set (by omega));have HT0:Hid (Tk0B (((w.alloc (.cells #[.int .i64 0,.string ⟨#[]⟩,.int .i64 0,.int .i64 0,.int .i64 0,.int .i64 0] 109)).drewN nq).setCell ⟨q,2,none⟩ (.int .i64 ((i:Int)+1))) w.heap.size):=((heap_setCell_other _ ⟨q,2,none⟩ w.heap.size _ (by show w.heap.size≠q;omega)).trans (heap_alloc_new w _));clear hbq k1 k2 hfr g0 hb;generalize ((w.alloc (.cells #[.int .i64 0,.string ⟨#[]⟩,.int .i64 0,.int .i64 0,.int .i64 0,.int .i64 0] 109)).drewN nq).setCell ⟨q,2,none⟩ (.int .i64 ((i:Int)+1))=w1 at HT1 HS1 HT0 ⊢;obtain⟨m,hm⟩:∃m,m=i+1:=⟨_,rfl⟩;rw[<-hm]at HS1 hg2;obtain⟨b2,off2,e2,hG2⟩:=HS1.out.gls.glyph hg2;obtain⟨rfl,rfl⟩:b2=b/\off2=off:=by simpa[eq_comm]using e2
 obtain⟨hq1,k0,k1,k2,k3,k4,k5,k6⟩:=HS1.out.cells;obtain⟨hb,g0,g1,g2,g3,g4,g5⟩:=hG2;rw[he2]at g0;have hfr:=HS1.out.free 2;obtain⟨hfl,t0,t1,t2,t3,t4,t5,f0,f1,f2,f3,f4,f5⟩:=HT0.out.cells;have hi2:(m:Int)<(gs.length:Int):=by have:=(List.getElem?_eq_some_iff.1 hg2).1;omega
 have hne2:((m:Int)==(gs.length:Int))=false:=beq_eq_false_iff_ne.2 (by omega);have HM:=hide hm;clear e2 k0 k3 k4 k5 k6 g1 g2 g3 g4 g5 hm;go_wp2_with fail
 go_quiet (fail)
 clear k1 k2 g0 t0 t1 t2 t3 t4 t5 f0 f1 f2 f3 f4 f5 hfr hfl hb hq1;have hbq:Below w1.heap.size w1 (w1.drewN nq):=by(repeat' first|with_reducible(first|exact Below.refl _ _|assumption|refine gdrewN ?_ _|refine Below.alloc ?_ ?_ _|refine Below.drew ?_|refine Below.setCell ?_ ?_ _)|go_size)
 replace HT1:=hide (HT1.out.trans (.of_below hbq));replace HS1:=hide (HS1.out.below hbq);replace HT0:=hide (HT0.out.below hbq);clear hbq;generalize w1.drewN nq=w2 at HT1 HS1 HT0 ⊢;generalize hf:w.heap.size=f at *
 replace hf:w.heap.size<=f:=by omega
 have hqf:q≠f:=by omega
 obtain⟨hq1,k0,k1,k2,k3,k4,k5,k6⟩:=HS1.out.cells;have hfr:=HS1.out.free 2;clear k0 k1 k3 k4 k5 k6;have hml:(m:Int)<100000:=by omega
 obtain⟨hfl,t0,t1,t2,t3,t4,t5,f0,f1,f2,f3,f4,f5⟩:=HT0.out.cells;clear hne2 hg2 he2 hi hil KF;go_wp2;refine bodyPost_ret (v:=_) (by simp[results,Tryz.results134,go_sem,t0,t1,t2,t3,t4,t5];try rfl) rfl ⟨?_,?_,?_⟩
 ·refine H.out.of_tq (Tq.six (HT1.out.set 2 _) hf _ _ _ _ _ _) ((aba _ _ _ hqf _ _ _ _ _ _).trans ?_) (by have:=HM.out;omega);rw[heap_setCell_same w2 q 2 _ _ _ HS1.out.blk];have:=HM.out;simp;omega
 ·exact Tq.six (HT1.out.set 2 _) hf _ _ _ _ _ _
 ·rw[<-HU.out,<-HE.out];rfl
theorem ah1(w:World)(q:Nat)(s:ByteArray)(v:Value)(gs:List Gl)(i:Nat)(e:Pl)(h:Scn w q s v gs i e)(hn:gs.length<=100000)(g:Gl)(hg:gs[i]? = some g)(c:Int)(hc:gfold g.code=c)(h0:c=58)(gn:Gl)(hg2:gs[i+1]? = some gn)(he2:gn.code≠61):
  Calls Tryz.prog 134 #[.pointer (some ⟨q,0,none⟩)] w fun r w'=>Scn w' q s v gs (i+1) e/\Tq w w' q/\r=.returned (.tuple #[tok0,.int .i64 41]):=by
 have H:=hide h;have hi:i<gs.length:=(List.getElem?_eq_some_iff.1 hg).1;have hil:(i:Int)<100000:=by omega
 obtain⟨ao,cap,rfl⟩:=h.gls.isSlice;obtain⟨b,off,rfl,hG⟩:=h.gls.glyph hg;obtain⟨hq,k0,k1,k2,k3,k4,k5,k6⟩:=h.cells;obtain⟨hb,g0,g1,g2,g3,g4,g5⟩:=hG;have hfr:=h.free 2;have hi':(i:Int)<(gs.length:Int):=by omega
 have KF:∀w,Calls Tryz.prog 168 #[.int .i64 g.code] w fun e w'=>e=.returned (.int .i64 c)/\w'=w:=fun w=>by rw[<-hc];exact ab5 w _
 subst h0;clear h hg hc k0 k3 k4 k5 k6 g1 g2 g3 g4 g5;unfold tok0;go_enter Tryz.func134,Tryz.ntmps134
 go_wp2_with fail
 go_quiet ((go_at_call 168;exact Calls.quiet_of_same (KF _)))
 go_wp2_with fail
 generalize hE:Utf8.encode 58=T;have HE:=hide ((acu (c:=58) (by omega)).symm.trans hE);have hTs:T.size<=10:=by rw[<-HE.out,strOfNums_size];simp
 have hadd:∀w,(Op.stringOp .add T ⟨#[61]⟩).run Tryz.prog w=.ok (.string (T++⟨#[61]⟩)) w:=fun w=>run_string_add_sum (P:=Tryz.prog) w T ⟨#[61]⟩ (by show T.size+1<=_;omega)
 generalize hU:T++(⟨#[61]⟩:ByteArray)=U at hadd;have HU:=hide hU;clear hU hTs;clear hE;have hbq:Below w.heap.size w ((w.alloc (.cells #[.int .i64 0,.string ⟨#[]⟩,.int .i64 0,.int .i64 0,.int .i64 0,.int .i64 0] 109)).drewN nq):=by(repeat' first|with_reducible(first|exact Below.refl _ _|assumption|refine gdrewN ?_ _|refine Below.alloc ?_ ?_ _|refine Below.drew ?_|refine Below.setCell ?_ ?_ _)|go_size)
 have HT1:=hide ((Tq.of_below (q:=q) hbq).set 2 (.int .i64 ((i:Int)+1)));have HS1:=hide ((H.out.below hbq).set (by omega));have HT0:Hid (Tk0B (((w.alloc (.cells #[.int .i64 0,.string ⟨#[]⟩,.int .i64 0,.int .i64 0,.int .i64 0,.int .i64 0] 109)).drewN nq).setCell ⟨q,2,none⟩ (.int .i64 ((i:Int)+1))) w.heap.size):=((heap_setCell_other _ ⟨q,2,none⟩ w.heap.size _ (by show w.heap.size≠q;omega)).trans (heap_alloc_new w _));clear hbq k1 k2 hfr g0 hb;generalize ((w.alloc (.cells #[.int .i64 0,.string ⟨#[]⟩,.int .i64 0,.int .i64 0,.int .i64 0,.int .i64 0] 109)).drewN nq).setCell ⟨q,2,none⟩ (.int .i64 ((i:Int)+1))=w1 at HT1 HS1 HT0 ⊢;obtain⟨m,hm⟩:∃m,m=i+1:=⟨_,rfl⟩;rw[<-hm]at HS1 hg2;obtain⟨b2,off2,e2,hG2⟩:=HS1.out.gls.glyph hg2;obtain⟨rfl,rfl⟩:b2=b/\off2=off:=by simpa[eq_comm]using e2
 obtain⟨hq1,k0,k1,k2,k3,k4,k5,k6⟩:=HS1.out.cells;obtain⟨hb,g0,g1,g2,g3,g4,g5⟩:=hG2;have hne61:((gn.code:Int) != 61)=true:=by simp;omega
 have hfr:=HS1.out.free 2;obtain⟨hfl,t0,t1,t2,t3,t4,t5,f0,f1,f2,f3,f4,f5⟩:=HT0.out.cells;have hi2:(m:Int)<(gs.length:Int):=by have:=(List.getElem?_eq_some_iff.1 hg2).1;omega
 have hne2:((m:Int)==(gs.length:Int))=false:=beq_eq_false_iff_ne.2 (by omega);have HM:=hide hm;clear e2 k0 k3 k4 k5 k6 g1 g2 g3 g4 g5 hm;go_wp2_with fail
 go_quiet (fail)
 clear k1 k2 g0 t0 t1 t2 t3 t4 t5 f0 f1 f2 f3 f4 f5 hfr hfl hb hq1;have hbq:Below w1.heap.size w1 (w1.drewN nq):=by(repeat' first|with_reducible(first|exact Below.refl _ _|assumption|refine gdrewN ?_ _|refine Below.alloc ?_ ?_ _|refine Below.drew ?_|refine Below.setCell ?_ ?_ _)|go_size)
 replace HT1:=hide (HT1.out.trans (.of_below hbq));replace HS1:=hide (HS1.out.below hbq);replace HT0:=hide (HT0.out.below hbq);clear hbq;generalize w1.drewN nq=w2 at HT1 HS1 HT0 ⊢;generalize hf:w.heap.size=f at *
 replace hf:w.heap.size<=f:=by omega
 have hqf:q≠f:=by omega
 obtain⟨hq1,k0,k1,k2,k3,k4,k5,k6⟩:=HS1.out.cells;have hfr:=HS1.out.free 2;clear k0 k1 k3 k4 k5 k6;have hml:(m:Int)<100000:=by omega
 obtain⟨hfl,t0,t1,t2,t3,t4,t5,f0,f1,f2,f3,f4,f5⟩:=HT0.out.cells;clear hne2 hg2 he2 hne61 hi hil KF;go_wp2;refine bodyPost_ret (v:=_) (by simp[results,Tryz.results134,go_sem,t0,t1,t2,t3,t4,t5];try rfl) rfl ⟨?_,?_,?_⟩
 ·refine H.out.of_tq (Tq.six HT1.out hf _ _ _ _ _ _) ((aba _ _ _ hqf _ _ _ _ _ _).trans ?_) (by have:=HM.out;omega);rw[HS1.out.blk,HM.out]
 ·exact Tq.six HT1.out hf _ _ _ _ _ _
 ·rfl
theorem aio(w:World)(q:Nat)(s:ByteArray)(v:Value)(gs:List Gl)(i:Nat)(e:Pl)(h:Scn w q s v gs i e)(hn:gs.length<=100000)(g:Gl)(hg:gs[i]? = some g)(c:Int)(hc:gfold g.code=c)(h0:c=58)(hg2:gs.length<=i+1):
  Calls Tryz.prog 134 #[.pointer (some ⟨q,0,none⟩)] w fun r w'=>Scn w' q s v gs (i+1) e/\Tq w w' q/\r=.returned (.tuple #[tok0,.int .i64 41]):=by
 have H:=hide h;have hi:i<gs.length:=(List.getElem?_eq_some_iff.1 hg).1;have hil:(i:Int)<100000:=by omega
 obtain⟨ao,cap,rfl⟩:=h.gls.isSlice;obtain⟨b,off,rfl,hG⟩:=h.gls.glyph hg;obtain⟨hq,k0,k1,k2,k3,k4,k5,k6⟩:=h.cells;obtain⟨hb,g0,g1,g2,g3,g4,g5⟩:=hG;have hfr:=h.free 2;have hi':(i:Int)<(gs.length:Int):=by omega
 have KF:∀w,Calls Tryz.prog 168 #[.int .i64 g.code] w fun e w'=>e=.returned (.int .i64 c)/\w'=w:=fun w=>by rw[<-hc];exact ab5 w _
 subst h0;clear h hg hc k0 k3 k4 k5 k6 g1 g2 g3 g4 g5;unfold tok0;go_enter Tryz.func134,Tryz.ntmps134
 go_wp2_with fail
 go_quiet ((go_at_call 168;exact Calls.quiet_of_same (KF _)))
 go_wp2_with fail
 generalize hE:Utf8.encode 58=T;have HE:=hide ((acu (c:=58) (by omega)).symm.trans hE);have hTs:T.size<=10:=by rw[<-HE.out,strOfNums_size];simp
 have hadd:∀w,(Op.stringOp .add T ⟨#[61]⟩).run Tryz.prog w=.ok (.string (T++⟨#[61]⟩)) w:=fun w=>run_string_add_sum (P:=Tryz.prog) w T ⟨#[61]⟩ (by show T.size+1<=_;omega)
 generalize hU:T++(⟨#[61]⟩:ByteArray)=U at hadd;have HU:=hide hU;clear hU hTs;clear hE;have hbq:Below w.heap.size w ((w.alloc (.cells #[.int .i64 0,.string ⟨#[]⟩,.int .i64 0,.int .i64 0,.int .i64 0,.int .i64 0] 109)).drewN nq):=by(repeat' first|with_reducible(first|exact Below.refl _ _|assumption|refine gdrewN ?_ _|refine Below.alloc ?_ ?_ _|refine Below.drew ?_|refine Below.setCell ?_ ?_ _)|go_size)
 have HT1:=hide ((Tq.of_below (q:=q) hbq).set 2 (.int .i64 ((i:Int)+1)));have HS1:=hide ((H.out.below hbq).set (by omega));have HT0:Hid (Tk0B (((w.alloc (.cells #[.int .i64 0,.string ⟨#[]⟩,.int .i64 0,.int .i64 0,.int .i64 0,.int .i64 0] 109)).drewN nq).setCell ⟨q,2,none⟩ (.int .i64 ((i:Int)+1))) w.heap.size):=((heap_setCell_other _ ⟨q,2,none⟩ w.heap.size _ (by show w.heap.size≠q;omega)).trans (heap_alloc_new w _));clear hbq k1 k2 hfr g0 hb;generalize ((w.alloc (.cells #[.int .i64 0,.string ⟨#[]⟩,.int .i64 0,.int .i64 0,.int .i64 0,.int .i64 0] 109)).drewN nq).setCell ⟨q,2,none⟩ (.int .i64 ((i:Int)+1))=w1 at HT1 HS1 HT0 ⊢;obtain⟨m,hm⟩:∃m,m=i+1:=⟨_,rfl⟩;rw[<-hm]at HS1;obtain⟨hq1,k0,k1,k2,k3,k4,k5,k6⟩:=HS1.out.cells;obtain⟨hfl,t0,t1,t2,t3,t4,t5,f0,f1,f2,f3,f4,f5⟩:=HT0.out.cells;have hne2:((m:Int)==(gs.length:Int))=true:=by simp;omega
 have HM:=hide hm;clear k0 k3 k4 k5 k6 hm;go_wp2_with fail
 go_quiet (fail)
 clear k1 k2 t0 t1 t2 t3 t4 t5 f0 f1 f2 f3 f4 f5 hfl hq1;have hbq:Below w1.heap.size w1 (w1.drewN nq):=by(repeat' first|with_reducible(first|exact Below.refl _ _|assumption|refine gdrewN ?_ _|refine Below.alloc ?_ ?_ _|refine Below.drew ?_|refine Below.setCell ?_ ?_ _)|go_size)
 replace HT1:=hide (HT1.out.trans (.of_below hbq));replace HS1:=hide (HS1.out.below hbq);replace HT0:=hide (HT0.out.below hbq);clear hbq;generalize w1.drewN nq=w2 at HT1 HS1 HT0 ⊢;generalize hf:w.heap.size=f at *
 replace hf:w.heap.size<=f:=by omega
 have hqf:q≠f:=by omega
 obtain⟨hq1,k0,k1,k2,k3,k4,k5,k6⟩:=HS1.out.cells;have hfr:=HS1.out.free 2;clear k0 k1 k3 k4 k5 k6;have hml:(m:Int)<100001:=by have:=HM.out;omega
 obtain⟨hfl,t0,t1,t2,t3,t4,t5,f0,f1,f2,f3,f4,f5⟩:=HT0.out.cells;clear hne2 hi hil KF;go_wp2;refine bodyPost_ret (v:=_) (by simp[results,Tryz.results134,go_sem,t0,t1,t2,t3,t4,t5];try rfl) rfl ⟨?_,?_,?_⟩
 ·refine H.out.of_tq (Tq.six HT1.out hf _ _ _ _ _ _) ((aba _ _ _ hqf _ _ _ _ _ _).trans ?_) (by have:=HM.out;omega);rw[HS1.out.blk,HM.out]
 ·exact Tq.six HT1.out hf _ _ _ _ _ _
 ·rfl
theorem as5(w:World)(q:Nat)(s:ByteArray)(v:Value)(gs:List Gl)(i:Nat)(e:Pl)(h:Scn w q s v gs i e)(hn:gs.length<=100000)(g:Gl)(hg:gs[i]? = some g)(c:Int)(hc:gfold g.code=c)(h0:c=33)(gn:Gl)(hg2:gs[i+1]? = some gn)(he2:gn.code=61):
  Calls Tryz.prog 134 #[.pointer (some ⟨q,0,none⟩)] w fun r w'=>Scn w' q s v gs (i+2) e/\Tq w w' q/\r=.returned (.tuple #[.agg #[.int .i64 3,.string (strOfNums [33,61]),.int .i64 0,.int .i64 0,.int .i64 0,.int .i64 0],.int .i64 0]):=by
 have H:=hide h;have hi:i<gs.length:=(List.getElem?_eq_some_iff.1 hg).1;have hil:(i:Int)<100000:=by omega
 obtain⟨ao,cap,rfl⟩:=h.gls.isSlice;obtain⟨b,off,rfl,hG⟩:=h.gls.glyph hg;obtain⟨hq,k0,k1,k2,k3,k4,k5,k6⟩:=h.cells;obtain⟨hb,g0,g1,g2,g3,g4,g5⟩:=hG;have hfr:=h.free 2;have hi':(i:Int)<(gs.length:Int):=by omega
 have KF:∀w,Calls Tryz.prog 168 #[.int .i64 g.code] w fun e w'=>e=.returned (.int .i64 c)/\w'=w:=fun w=>by rw[<-hc];exact ab5 w _
 subst h0;clear h hg hc k0 k3 k4 k5 k6 g1 g2 g3 g4 g5;go_enter Tryz.func134,Tryz.ntmps134
 go_wp2_with fail
 go_quiet ((go_at_call 168;exact Calls.quiet_of_same (KF _)))
 go_wp2_with fail
 generalize hE:Utf8.encode 33=T;have HE:=hide ((acu (c:=33) (by omega)).symm.trans hE);have hTs:T.size<=10:=by rw[<-HE.out,strOfNums_size];simp
 have hadd:∀w,(Op.stringOp .add T ⟨#[61]⟩).run Tryz.prog w=.ok (.string (T++⟨#[61]⟩)) w:=fun w=>run_string_add_sum (P:=Tryz.prog) w T ⟨#[61]⟩ (by show T.size+1<=_;omega)
 generalize hU:T++(⟨#[61]⟩:ByteArray)=U at hadd;have HU:=hide hU;clear hU hTs;clear hE;have hbq:Below w.heap.size w ((w.alloc (.cells #[.int .i64 0,.string ⟨#[]⟩,.int .i64 0,.int .i64 0,.int .i64 0,.int .i64 0] 109)).drewN nq):=by(repeat' first|with_reducible(first|exact Below.refl _ _|assumption|refine gdrewN ?_ _|refine Below.alloc ?_ ?_ _|refine Below.drew ?_|refine Below.setCell ?_ ?_ _)|go_size)
 have HT1:=hide ((Tq.of_below (q:=q) hbq).set 2 (.int .i64 ((i:Int)+1)));have HS1:=hide ((H.out.below hbq).set (by omega));have HT0:Hid (Tk0B (((w.alloc (.cells #[.int .i64 0,.string ⟨#[]⟩,.int .i64 0,.int .i64 0,.int .i64 0,.int .i64 0] 109)).drewN nq).setCell ⟨q,2,none⟩ (.int .i64 ((i:Int)+1))) w.heap.size):=((heap_setCell_other _ ⟨q,2,none⟩ w.heap.size _ (by show w.heap.size≠q;omega)).trans (heap_alloc_new w _));clear hbq k1 k2 hfr g0 hb;generalize ((w.alloc (.cells #[.int .i64 0,.string ⟨#[]⟩,.int .i64 0,.int .i64 0,.int .i64 0,.int .i64 0] 109)).drewN nq).setCell ⟨q,2,none⟩ (.int .i64 ((i:Int)+1))=w1 at HT1 HS1 HT0 ⊢;obtain⟨m,hm⟩:∃m,m=i+1:=⟨_,rfl⟩;rw[<-hm]at HS1 hg2;obtain⟨b2,off2,e2,hG2⟩:=HS1.out.gls.glyph hg2;obtain⟨rfl,rfl⟩:b2=b/\off2=off:=by simpa[eq_comm]using e2
 obtain⟨hq1,k0,k1,k2,k3,k4,k5,k6⟩:=HS1.out.cells;obtain⟨hb,g0,g1,g2,g3,g4,g5⟩:=hG2;rw[he2]at g0;have hfr:=HS1.out.free 2;obtain⟨hfl,t0,t1,t2,t3,t4,t5,f0,f1,f2,f3,f4,f5⟩:=HT0.out.cells;have hi2:(m:Int)<(gs.length:Int):=by have:=(List.getElem?_eq_some_iff.1 hg2).1;omega
 have hne2:((m:Int)==(gs.length:Int))=false:=beq_eq_false_iff_ne.2 (by omega);have HM:=hide hm;clear e2 k0 k3 k4 k5 k6 g1 g2 g3 g4 g5 hm;go_wp2_with fail
 go_quiet (fail)
 clear k1 k2 g0 t0 t1 t2 t3 t4 t5 f0 f1 f2 f3 f4 f5 hfr hfl hb hq1;have hbq:Below w1.heap.size w1 (w1.drewN nq):=by(repeat' first|with_reducible(first|exact Below.refl _ _|assumption|refine gdrewN ?_ _|refine Below.alloc ?_ ?_ _|refine Below.drew ?_|refine Below.setCell ?_ ?_ _)|go_size)
 replace HT1:=hide (HT1.out.trans (.of_below hbq));replace HS1:=hide (HS1.out.below hbq);replace HT0:=hide (HT0.out.below hbq);clear hbq;generalize w1.drewN nq=w2 at HT1 HS1 HT0 ⊢;generalize hf:w.heap.size=f at *
 replace hf:w.heap.size<=f:=by omega
 have hqf:q≠f:=by omega
 obtain⟨hq1,k0,k1,k2,k3,k4,k5,k6⟩:=HS1.out.cells;have hfr:=HS1.out.free 2;clear k0 k1 k3 k4 k5 k6;have hml:(m:Int)<100000:=by omega
 obtain⟨hfl,t0,t1,t2,t3,t4,t5,f0,f1,f2,f3,f4,f5⟩:=HT0.out.cells;clear hne2 hg2 he2 hi hil KF;go_wp2;refine bodyPost_ret (v:=_) (by simp[results,Tryz.results134,go_sem,t0,t1,t2,t3,t4,t5];try rfl) rfl ⟨?_,?_,?_⟩
 ·refine H.out.of_tq (Tq.six (HT1.out.set 2 _) hf _ _ _ _ _ _) ((aba _ _ _ hqf _ _ _ _ _ _).trans ?_) (by have:=HM.out;omega);rw[heap_setCell_same w2 q 2 _ _ _ HS1.out.blk];have:=HM.out;simp;omega
 ·exact Tq.six (HT1.out.set 2 _) hf _ _ _ _ _ _
 ·rw[<-HU.out,<-HE.out];rfl
theorem aip(w:World)(q:Nat)(s:ByteArray)(v:Value)(gs:List Gl)(i:Nat)(e:Pl)(h:Scn w q s v gs i e)(hn:gs.length<=100000)(g:Gl)(hg:gs[i]? = some g)(c:Int)(hc:gfold g.code=c)(h0:c=33)(gn:Gl)(hg2:gs[i+1]? = some gn)(he2:gn.code≠61):
  Calls Tryz.prog 134 #[.pointer (some ⟨q,0,none⟩)] w fun r w'=>Scn w' q s v gs (i+1) e/\Tq w w' q/\r=.returned (.tuple #[tok0,.int .i64 41]):=by
 have H:=hide h;have hi:i<gs.length:=(List.getElem?_eq_some_iff.1 hg).1;have hil:(i:Int)<100000:=by omega
 obtain⟨ao,cap,rfl⟩:=h.gls.isSlice;obtain⟨b,off,rfl,hG⟩:=h.gls.glyph hg;obtain⟨hq,k0,k1,k2,k3,k4,k5,k6⟩:=h.cells;obtain⟨hb,g0,g1,g2,g3,g4,g5⟩:=hG;have hfr:=h.free 2;have hi':(i:Int)<(gs.length:Int):=by omega
 have KF:∀w,Calls Tryz.prog 168 #[.int .i64 g.code] w fun e w'=>e=.returned (.int .i64 c)/\w'=w:=fun w=>by rw[<-hc];exact ab5 w _
 subst h0;clear h hg hc k0 k3 k4 k5 k6 g1 g2 g3 g4 g5;unfold tok0;go_enter Tryz.func134,Tryz.ntmps134
 go_wp2_with fail
 go_quiet ((go_at_call 168;exact Calls.quiet_of_same (KF _)))
 go_wp2_with fail
 generalize hE:Utf8.encode 33=T;have HE:=hide ((acu (c:=33) (by omega)).symm.trans hE);have hTs:T.size<=10:=by rw[<-HE.out,strOfNums_size];simp
 have hadd:∀w,(Op.stringOp .add T ⟨#[61]⟩).run Tryz.prog w=.ok (.string (T++⟨#[61]⟩)) w:=fun w=>run_string_add_sum (P:=Tryz.prog) w T ⟨#[61]⟩ (by show T.size+1<=_;omega)
 generalize hU:T++(⟨#[61]⟩:ByteArray)=U at hadd;have HU:=hide hU;clear hU hTs;clear hE;have hbq:Below w.heap.size w ((w.alloc (.cells #[.int .i64 0,.string ⟨#[]⟩,.int .i64 0,.int .i64 0,.int .i64 0,.int .i64 0] 109)).drewN nq):=by(repeat' first|with_reducible(first|exact Below.refl _ _|assumption|refine gdrewN ?_ _|refine Below.alloc ?_ ?_ _|refine Below.drew ?_|refine Below.setCell ?_ ?_ _)|go_size)
 have HT1:=hide ((Tq.of_below (q:=q) hbq).set 2 (.int .i64 ((i:Int)+1)));have HS1:=hide ((H.out.below hbq).set (by omega));have HT0:Hid (Tk0B (((w.alloc (.cells #[.int .i64 0,.string ⟨#[]⟩,.int .i64 0,.int .i64 0,.int .i64 0,.int .i64 0] 109)).drewN nq).setCell ⟨q,2,none⟩ (.int .i64 ((i:Int)+1))) w.heap.size):=((heap_setCell_other _ ⟨q,2,none⟩ w.heap.size _ (by show w.heap.size≠q;omega)).trans (heap_alloc_new w _));clear hbq k1 k2 hfr g0 hb;generalize ((w.alloc (.cells #[.int .i64 0,.string ⟨#[]⟩,.int .i64 0,.int .i64 0,.int .i64 0,.int .i64 0] 109)).drewN nq).setCell ⟨q,2,none⟩ (.int .i64 ((i:Int)+1))=w1 at HT1 HS1 HT0 ⊢;obtain⟨m,hm⟩:∃m,m=i+1:=⟨_,rfl⟩;rw[<-hm]at HS1 hg2;obtain⟨b2,off2,e2,hG2⟩:=HS1.out.gls.glyph hg2;obtain⟨rfl,rfl⟩:b2=b/\off2=off:=by simpa[eq_comm]using e2
 obtain⟨hq1,k0,k1,k2,k3,k4,k5,k6⟩:=HS1.out.cells;obtain⟨hb,g0,g1,g2,g3,g4,g5⟩:=hG2;have hne61:((gn.code:Int) != 61)=true:=by simp;omega
 have hfr:=HS1.out.free 2;obtain⟨hfl,t0,t1,t2,t3,t4,t5,f0,f1,f2,f3,f4,f5⟩:=HT0.out.cells;have hi2:(m:Int)<(gs.length:Int):=by have:=(List.getElem?_eq_some_iff.1 hg2).1;omega
 have hne2:((m:Int)==(gs.length:Int))=false:=beq_eq_false_iff_ne.2 (by omega);have HM:=hide hm;clear e2 k0 k3 k4 k5 k6 g1 g2 g3 g4 g5 hm;go_wp2_with fail
 go_quiet (fail)
 clear k1 k2 g0 t0 t1 t2 t3 t4 t5 f0 f1 f2 f3 f4 f5 hfr hfl hb hq1;have hbq:Below w1.heap.size w1 (w1.drewN nq):=by(repeat' first|with_reducible(first|exact Below.refl _ _|assumption|refine gdrewN ?_ _|refine Below.alloc ?_ ?_ _|refine Below.drew ?_|refine Below.setCell ?_ ?_ _)|go_size)
 replace HT1:=hide (HT1.out.trans (.of_below hbq));replace HS1:=hide (HS1.out.below hbq);replace HT0:=hide (HT0.out.below hbq);clear hbq;generalize w1.drewN nq=w2 at HT1 HS1 HT0 ⊢;generalize hf:w.heap.size=f at *
 replace hf:w.heap.size<=f:=by omega
 have hqf:q≠f:=by omega
 obtain⟨hq1,k0,k1,k2,k3,k4,k5,k6⟩:=HS1.out.cells;have hfr:=HS1.out.free 2;clear k0 k1 k3 k4 k5 k6;have hml:(m:Int)<100000:=by omega
 obtain⟨hfl,t0,t1,t2,t3,t4,t5,f0,f1,f2,f3,f4,f5⟩:=HT0.out.cells;clear hne2 hg2 he2 hne61 hi hil KF;go_wp2;refine bodyPost_ret (v:=_) (by simp[results,Tryz.results134,go_sem,t0,t1,t2,t3,t4,t5];try rfl) rfl ⟨?_,?_,?_⟩
 ·refine H.out.of_tq (Tq.six HT1.out hf _ _ _ _ _ _) ((aba _ _ _ hqf _ _ _ _ _ _).trans ?_) (by have:=HM.out;omega);rw[HS1.out.blk,HM.out]
 ·exact Tq.six HT1.out hf _ _ _ _ _ _
 ·rfl
theorem ajg(w:World)(q:Nat)(s:ByteArray)(v:Value)(gs:List Gl)(i:Nat)(e:Pl)(h:Scn w q s v gs i e)(hn:gs.length<=100000)(g:Gl)(hg:gs[i]? = some g)(c:Int)(hc:gfold g.code=c)(h0:c=33)(hg2:gs.length<=i+1):
  Calls Tryz.prog 134 #[.pointer (some ⟨q,0,none⟩)] w fun r w'=>Scn w' q s v gs (i+1) e/\Tq w w' q/\r=.returned (.tuple #[tok0,.int .i64 41]):=by
 have H:=hide h;have hi:i<gs.length:=(List.getElem?_eq_some_iff.1 hg).1;have hil:(i:Int)<100000:=by omega
 obtain⟨ao,cap,rfl⟩:=h.gls.isSlice;obtain⟨b,off,rfl,hG⟩:=h.gls.glyph hg;obtain⟨hq,k0,k1,k2,k3,k4,k5,k6⟩:=h.cells;obtain⟨hb,g0,g1,g2,g3,g4,g5⟩:=hG;have hfr:=h.free 2;have hi':(i:Int)<(gs.length:Int):=by omega
 have KF:∀w,Calls Tryz.prog 168 #[.int .i64 g.code] w fun e w'=>e=.returned (.int .i64 c)/\w'=w:=fun w=>by rw[<-hc];exact ab5 w _
 subst h0;clear h hg hc k0 k3 k4 k5 k6 g1 g2 g3 g4 g5;unfold tok0;go_enter Tryz.func134,Tryz.ntmps134
 go_wp2_with fail
 go_quiet ((go_at_call 168;exact Calls.quiet_of_same (KF _)))
 go_wp2_with fail
 generalize hE:Utf8.encode 33=T;have HE:=hide ((acu (c:=33) (by omega)).symm.trans hE);have hTs:T.size<=10:=by rw[<-HE.out,strOfNums_size];simp
 have hadd:∀w,(Op.stringOp .add T ⟨#[61]⟩).run Tryz.prog w=.ok (.string (T++⟨#[61]⟩)) w:=fun w=>run_string_add_sum (P:=Tryz.prog) w T ⟨#[61]⟩ (by show T.size+1<=_;omega)
 generalize hU:T++(⟨#[61]⟩:ByteArray)=U at hadd;have HU:=hide hU;clear hU hTs;clear hE;have hbq:Below w.heap.size w ((w.alloc (.cells #[.int .i64 0,.string ⟨#[]⟩,.int .i64 0,.int .i64 0,.int .i64 0,.int .i64 0] 109)).drewN nq):=by(repeat' first|with_reducible(first|exact Below.refl _ _|assumption|refine gdrewN ?_ _|refine Below.alloc ?_ ?_ _|refine Below.drew ?_|refine Below.setCell ?_ ?_ _)|go_size)
 have HT1:=hide ((Tq.of_below (q:=q) hbq).set 2 (.int .i64 ((i:Int)+1)));have HS1:=hide ((H.out.below hbq).set (by omega));have HT0:Hid (Tk0B (((w.alloc (.cells #[.int .i64 0,.string ⟨#[]⟩,.int .i64 0,.int .i64 0,.int .i64 0,.int .i64 0] 109)).drewN nq).setCell ⟨q,2,none⟩ (.int .i64 ((i:Int)+1))) w.heap.size):=((heap_setCell_other _ ⟨q,2,none⟩ w.heap.size _ (by show w.heap.size≠q;omega)).trans (heap_alloc_new w _));clear hbq k1 k2 hfr g0 hb;generalize ((w.alloc (.cells #[.int .i64 0,.string ⟨#[]⟩,.int .i64 0,.int .i64 0,.int .i64 0,.int .i64 0] 109)).drewN nq).setCell ⟨q,2,none⟩ (.int .i64 ((i:Int)+1))=w1 at HT1 HS1 HT0 ⊢;obtain⟨m,hm⟩:∃m,m=i+1:=⟨_,rfl⟩;rw[<-hm]at HS1;obtain⟨hq1,k0,k1,k2,k3,k4,k5,k6⟩:=HS1.out.cells;obtain⟨hfl,t0,t1,t2,t3,t4,t5,f0,f1,f2,f3,f4,f5⟩:=HT0.out.cells;have hne2:((m:Int)==(gs.length:Int))=true:=by simp;omega
 have HM:=hide hm;clear k0 k3 k4 k5 k6 hm;go_wp2_with fail
 go_quiet (fail)
 clear k1 k2 t0 t1 t2 t3 t4 t5 f0 f1 f2 f3 f4 f5 hfl hq1;have hbq:Below w1.heap.size w1 (w1.drewN nq):=by(repeat' first|with_reducible(first|exact Below.refl _ _|assumption|refine gdrewN ?_ _|refine Below.alloc ?_ ?_ _|refine Below.drew ?_|refine Below.setCell ?_ ?_ _)|go_size)
 replace HT1:=hide (HT1.out.trans (.of_below hbq));replace HS1:=hide (HS1.out.below hbq);replace HT0:=hide (HT0.out.below hbq);clear hbq;generalize w1.drewN nq=w2 at HT1 HS1 HT0 ⊢;generalize hf:w.heap.size=f at *
 replace hf:w.heap.size<=f:=by omega
 have hqf:q≠f:=by omega
 obtain⟨hq1,k0,k1,k2,k3,k4,k5,k6⟩:=HS1.out.cells;have hfr:=HS1.out.free 2;clear k0 k1 k3 k4 k5 k6;have hml:(m:Int)<100001:=by have:=HM.out;omega
 obtain⟨hfl,t0,t1,t2,t3,t4,t5,f0,f1,f2,f3,f4,f5⟩:=HT0.out.cells;clear hne2 hi hil KF;go_wp2;refine bodyPost_ret (v:=_) (by simp[results,Tryz.results134,go_sem,t0,t1,t2,t3,t4,t5];try rfl) rfl ⟨?_,?_,?_⟩
 ·refine H.out.of_tq (Tq.six HT1.out hf _ _ _ _ _ _) ((aba _ _ _ hqf _ _ _ _ _ _).trans ?_) (by have:=HM.out;omega);rw[HS1.out.blk,HM.out]
 ·exact Tq.six HT1.out hf _ _ _ _ _ _
 ·rfl
inductive TO where
 |bad (k:Int):TO
 |ok (kind:Int) (text:ByteArray) (rest:List Gl):TO
def signS(c:Int)(r:List Gl):TO:=
 if c=8788 then .ok 3 (strOfNums [58,61]) r
 else if c=8800 then .ok 3 (strOfNums [33,61]) r
 else if c=58\/c=33 then(match r with | []=>.bad 41|h::t=>if h.code=61 then .ok 3 (strOfNums [c,61]) t else .bad 41)
 else .ok 3 (strOfNums [c]) r
def TokR(s:ByteArray)(e:Pl)(g:Gl)(r:List Gl)(o:TO):Prop:=
 if gcls g.code=2 then
  o=if 16<(g::r).length-((g::r).dropWhile (inC [2,3,4])).length then .bad 42 else .ok 1 (s.extract g.pl.b (plf ((g::r).dropWhile (inC [2,3,4])) e).b) ((g::r).dropWhile (inC [2,3,4]))
 else if gcls g.code=3 then
  ∃n ds,IsLen (dval (bytesOf (s.extract g.pl.b (plf ((g::r).dropWhile (inC [3])) e).b))) n/\IsDec ds (dval (bytesOf (s.extract g.pl.b (plf ((g::r).dropWhile (inC [3])) e).b)))/\o=if 32<n then .bad 2 else .ok 2 (strOfNums ds) ((g::r).dropWhile (inC [3]))
 else if gcls g.code=5 then o=signS (gfold g.code) r
 else o=.bad 41
theorem ae4{s:ByteArray}{e:Pl}{g:Gl}{r:List Gl}(h:gcls g.code=2):TokR s e g r (if 16<(g::r).length-((g::r).dropWhile (inC [2,3,4])).length then .bad 42 else .ok 1 (s.extract g.pl.b (plf ((g::r).dropWhile (inC [2,3,4])) e).b) ((g::r).dropWhile (inC [2,3,4]))):=by
 unfold TokR;rw[if_pos h]
theorem ac3{s:ByteArray}{e:Pl}{g:Gl}{r:List Gl}{n:Nat}{ds:List Int}(h:gcls g.code=3)(h1:IsLen (dval (bytesOf (s.extract g.pl.b (plf ((g::r).dropWhile (inC [3])) e).b))) n)(h2:IsDec ds (dval (bytesOf (s.extract g.pl.b (plf ((g::r).dropWhile (inC [3])) e).b)))):TokR s e g r (if 32<n then .bad 2 else .ok 2 (strOfNums ds) ((g::r).dropWhile (inC [3]))):=by
 unfold TokR;rw[if_neg (by omega),if_pos h];exact⟨n,ds,h1,h2,rfl⟩
theorem ae5{s:ByteArray}{e:Pl}{g:Gl}{r:List Gl}(h:gcls g.code=5):TokR s e g r (signS (gfold g.code) r):=by
 unfold TokR;rw[if_neg (by omega),if_neg (by omega),if_pos h]
theorem aiq{s:ByteArray}{e:Pl}{g:Gl}{r:List Gl}(h2:gcls g.code≠2)(h3:gcls g.code≠3)(h5:gcls g.code≠5):TokR s e g r (.bad 41):=by
 unfold TokR;rw[if_neg h2,if_neg h3,if_neg h5]
theorem TokR.one{s:ByteArray}{e:Pl}{g:Gl}{r:List Gl}{o o':TO}(h:TokR s e g r o)(h':TokR s e g r o'):o=o':=by
 unfold TokR at h h';by_cases c2:gcls g.code=2
 ·rw[if_pos c2]at h h';rw[h,h']
 ·rw[if_neg c2]at h h';by_cases c3:gcls g.code=3
  ·rw[if_pos c3]at h h';obtain⟨n,ds,h1,h2,h3⟩:=h;obtain⟨n',ds',h1',h2',h3'⟩:=h';rw[h3,h3',ajy h1 h1',ad1 h2 h2']
  ·rw[if_neg c3]at h h';by_cases c5:gcls g.code=5
   ·rw[if_pos c5]at h h';rw[h,h']
   ·rw[if_neg c5]at h h';rw[h,h']
structure Tk where
 kind:Int
 text:ByteArray
 pl:Pl
inductive SO where
 |bad (k:Int) (p:Pl):SO
 |ok (l:List Tk):SO
def SO.pre(t:Tk):SO->SO
 |.bad k p=>.bad k p
 |.ok l=>.ok (t::l)
def SO.pres(ts:List Tk):SO->SO
 |.bad k p=>.bad k p
 |.ok l=>.ok (ts++l)
inductive ScanR (s:ByteArray) (e:Pl):List Gl->SO->Prop
 |done (r:List Gl) (h:skp false r = []) (hb:s.size<=e.b):ScanR s e r (.ok [⟨0,⟨#[]⟩,e⟩])
 |rune (r:List Gl) (h:skp false r = []) (hb:e.b<s.size):ScanR s e r (.bad 40 e)
 |bad (r:List Gl) (g:Gl) (t:List Gl) (k:Int) (h:skp false r=g::t) (ht:TokR s e g t (.bad k)):ScanR s e r (.bad k g.pl)
 |tok (r:List Gl) (g:Gl) (t:List Gl) (kind:Int) (text:ByteArray) (rest:List Gl) (o:SO) (h:skp false r=g::t) (ht:TokR s e g t (.ok kind text rest)) (hr:ScanR s e rest o):ScanR s e r (o.pre ⟨kind,text,g.pl⟩)
theorem ScanR.one{s:ByteArray}{e:Pl}{r:List Gl}{o o':SO}(h:ScanR s e r o)(h':ScanR s e r o'):o=o':=by
 induction h generalizing o' with
 |done r h hb=>
  cases h' with
  |done _ _ _=>rfl
  |rune _ _ hb'=>omega
  |bad _ g t k h2 _=>rw[h]at h2;cases h2
  |tok _ g t _ _ _ _ h2 _ _=>rw[h]at h2;cases h2
 |rune r h hb=>
  cases h' with
  |done _ _ hb'=>omega
  |rune _ _ _=>rfl
  |bad _ g t k h2 _=>rw[h]at h2;cases h2
  |tok _ g t _ _ _ _ h2 _ _=>rw[h]at h2;cases h2
 |bad r g t k h ht=>
  cases h' with
  |done _ h2 _=>rw[h]at h2;cases h2
  |rune _ h2 _=>rw[h]at h2;cases h2
  |bad _ g' t' k' h2 ht'=>
   rw[h]at h2;obtain⟨rfl,rfl⟩:=List.cons.inj h2;have:=ht.one ht';injection this with e1;rw[e1]
  |tok _ g' t' _ _ _ _ h2 ht' _=>
   rw[h]at h2;obtain⟨rfl,rfl⟩:=List.cons.inj h2;have:=ht.one ht';cases this
 |tok r g t kind text rest o h ht hr ih=>
  cases h' with
  |done _ h2 _=>rw[h]at h2;cases h2
  |rune _ h2 _=>rw[h]at h2;cases h2
  |bad _ g' t' k' h2 ht'=>
   rw[h]at h2;obtain⟨rfl,rfl⟩:=List.cons.inj h2;have:=ht.one ht';cases this
  |tok _ g' t' _ _ _ _ h2 ht' hr'=>
   rw[h]at h2;obtain⟨rfl,rfl⟩:=List.cons.inj h2;have:=ht.one ht';injection this with e1 e2 e3;subst e1 e2 e3;rw[ih hr']
def TokO(w w':World)(q:Nat)(s:ByteArray)(v:Value)(gs:List Gl)(i:Nat)(e:Pl)(r:Ending):TO->Prop
 |.bad k=>k≠0/\r=.returned (.tuple #[tok0,.int .i64 k])/\Tq w w' q
 |.ok kind text rest=>r=.returned (.tuple #[.agg #[.int .i64 kind,.string text,.int .i64 0,.int .i64 0,.int .i64 0,.int .i64 0],.int .i64 0])/\Tq w w' q/\∃j,i<j/\gs.drop j=rest/\Scn w' q s v gs j e
structure TokV (w w':World) (q:Nat) (s:ByteArray) (v:Value) (gs:List Gl) (i:Nat) (e:Pl) (kd:Int) (tx:ByteArray) (k:Int) (o:TO):Prop where
 out:TokO w w' q s v gs i e (.returned (.tuple #[.agg #[.int .i64 kd,.string tx,.int .i64 0,.int .i64 0,.int .i64 0,.int .i64 0],.int .i64 k])) o
theorem TokO.v{w w':World}{q:Nat}{s:ByteArray}{v:Value}{gs:List Gl}{i:Nat}{e:Pl}{r:Ending}{o:TO}(h:TokO w w' q s v gs i e r o):∃(kd:Int) (tx:ByteArray) (k:Int),r=.returned (.tuple #[.agg #[.int .i64 kd,.string tx,.int .i64 0,.int .i64 0,.int .i64 0,.int .i64 0],.int .i64 k])/\TokV w w' q s v gs i e kd tx k o:=by
 cases o with
 |bad k=>exact⟨_,_,_,h.2.1,⟨h.1,rfl,h.2.2⟩⟩
 |ok kind text rest=>exact⟨_,_,_,h.1,⟨rfl,h.2⟩⟩
theorem TokV.six{w w1 w':World}{q f:Nat}{s:ByteArray}{v:Value}{gs:List Gl}{i:Nat}{e:Pl}{kd:Int}{tx:ByteArray}{k:Int}{o:TO}(h:TokV w1 w' q s v gs i e kd tx k o)(h0:Scn w q s v gs i e)(hb:Below w.heap.size w w1)(hf:w.heap.size<=f)(hqf:q≠f)(u0 u1 u2 u3 u4 u5:Value):
  TokO w ((((((w'.setCell ⟨f,0,none⟩ u0).setCell ⟨f,1,none⟩ u1).setCell ⟨f,2,none⟩ u2).setCell ⟨f,3,none⟩ u3).setCell ⟨f,4,none⟩ u4).setCell ⟨f,5,none⟩ u5) q s v gs i e (.returned (.tuple #[.agg #[.int .i64 kd,.string tx,.int .i64 0,.int .i64 0,.int .i64 0,.int .i64 0],.int .i64 k])) o:=by
 obtain⟨h⟩:=h;cases o with
 |bad c=>exact⟨h.1,h.2.1,((Tq.of_below hb).trans h.2.2).six hf _ _ _ _ _ _⟩
 |ok kind text rest=>
  obtain⟨h1,h2,j,h3,h4,h5⟩:=h;exact⟨h1,((Tq.of_below hb).trans h2).six hf _ _ _ _ _ _,j,h3,h4,h0.of_tq (((Tq.of_below hb).trans h2).six hf _ _ _ _ _ _) ((aba _ _ _ hqf _ _ _ _ _ _).trans h5.blk) h5.le⟩
theorem ad8{α:Type}(p:α->Bool)(l:List α):(l.dropWhile p).length<=l.length:=by
 induction l with
 |nil=>simp
 |cons a l ih=>
  by_cases h:p a=true
  ·rw[List.dropWhile_cons_of_pos h];simp;omega
  ·rw[List.dropWhile_cons_of_neg h];simp
theorem agk{α:Type}{p:α->Bool}{a:α}{l:List α}(h:p a=true):((a::l).dropWhile p).length<(a::l).length:=by
 rw[List.dropWhile_cons_of_pos h];have:=ad8 p l;simp;omega
theorem aoc{gs:List Gl}{i j:Nat}(hi:i<gs.length)(h:(gs.drop j).length<(gs.drop i).length):i<j:=by
 simp at h;omega
theorem az2(w:World)(q:Nat)(s:ByteArray)(v:Value)(gs:List Gl)(i:Nat)(e:Pl)(h:Scn w q s v gs i e)(hn:gs.length<=100000)(hQ:Snd s pl0 gs e)(hs:s.size<=4096)(g:Gl)(hd:gs.drop i=g::gs.drop (i+1))(hc:gcls g.code=2):
  Calls Tryz.prog 132 #[.pointer (some ⟨q,0,none⟩)] w fun r w'=>∃o,TokR s e g (gs.drop (i+1)) o/\TokO w w' q s v gs i e r o:=by
 refine(av0 w q s v gs i e h hn hQ (by omega)).mono ?_;rintro r w' ⟨j,hij,hdj,hS,hT,hr⟩;have hlt:i<gs.length:=by
  apply Classical.byContradiction;intro hh;rw[List.drop_eq_nil_of_le (by omega)]at hd;cases hd
 have hjl:=hS.le;have hl:(g::gs.drop (i+1)).length-((g::gs.drop (i+1)).dropWhile (inC [2,3,4])).length=j-i:=by
  rw[<-hd,<-hdj];simp;omega
 have hj:i<j:=by
  refine aoc hlt ?_;rw[hdj,hd];exact agk (by simp[inC,hc])
 refine⟨_,ae4 hc,?_⟩;rw[hl];rw[hd]at hdj;rcases hr with⟨h1,rfl⟩|⟨h1,rfl⟩
 ·rw[if_pos h1];exact⟨by omega,rfl,hT⟩
 ·rw[if_neg (by omega),hd,hdj];exact⟨rfl,hT,j,hj,hdj,hS⟩
theorem av2(w:World)(q:Nat)(s:ByteArray)(v:Value)(gs:List Gl)(i:Nat)(e:Pl)(h:Scn w q s v gs i e)(hn:gs.length<=100000)(hQ:Snd s pl0 gs e)(hs:s.size<=4096)(g:Gl)(hd:gs.drop i=g::gs.drop (i+1))(hc:gcls g.code=3):
  Calls Tryz.prog 133 #[.pointer (some ⟨q,0,none⟩)] w fun r w'=>∃o,TokR s e g (gs.drop (i+1)) o/\TokO w w' q s v gs i e r o:=by
 have hlt:i<gs.length:=by
  apply Classical.byContradiction;intro hh;rw[List.drop_eq_nil_of_le (by omega)]at hd;cases hd
 have hin:inC [3] g=true:=by simp[inC,hc]
 refine(aqi w q s v gs i e h hn hQ hs ?_).mono ?_
 ·have hD:=hQ.drop ad5 (Nat.zero_le _) i h.le;rw[hd,List.dropWhile_cons_of_pos hin];obtain⟨m,hm,hml⟩:∃m,(gs.drop (i+1)).dropWhile (inC [3])=(gs.drop i).drop m/\1<=m/\m<=(gs.drop i).length:=by
   refine⟨(gs.drop i).length-((gs.drop (i+1)).dropWhile (inC [3])).length,?_,?_,?_⟩
   ·have key:∀(l:List Gl),l.dropWhile (inC [3])=l.drop (l.length-(l.dropWhile (inC [3])).length):=by
     intro l;induction l with
     |nil=>rfl
     |cons a l ih=>
      by_cases ha:inC [3] a=true
      ·rw[List.dropWhile_cons_of_pos ha];have:=ad8 (inC [3]) l;rw[show(a::l).length-(l.dropWhile (inC [3])).length=(l.length-(l.dropWhile (inC [3])).length)+1 from by simp;omega,List.drop_succ_cons];exact ih
      ·rw[List.dropWhile_cons_of_neg ha];simp
    have:=key (gs.drop i);rw[hd,List.dropWhile_cons_of_pos hin]at this;rw[hd];exact this
   ·have:=ad8 (inC [3]) (gs.drop (i+1));simp at this ⊢;omega
   ·omega
  have h2:=hD.1.drop hD.2.1 hD.2.2.2.1 m hml.2;rw[hm];rw[hd]at h2 ⊢;have h3:=h2.2.2.1;omega
 rintro r w' ⟨j,hij,hdj,hS,hT,n,ds,hn1,hds,hr⟩;have hj:i<j:=by
  refine aoc hlt ?_;rw[hdj,hd];exact agk hin
 rw[hd]at hdj hn1 hds;rw[hdj]at hn1 hds;refine⟨_,ac3 hc hn1 hds,?_⟩;rcases hr with⟨h1,rfl⟩|⟨h1,rfl⟩
 ·rw[if_pos h1];exact⟨by omega,rfl,hT⟩
 ·rw[if_neg (by omega)];exact⟨rfl,hT,j,hj,hdj,hS⟩
theorem aya{g:Gl}(h:gcls g.code=5):gsign (gfold g.code):=by
 apply Classical.byContradiction;intro hn;unfold gcls at h
 repeat' split at h
 all_goals first|contradiction|omega
theorem az3(w:World)(q:Nat)(s:ByteArray)(v:Value)(gs:List Gl)(i:Nat)(e:Pl)(h:Scn w q s v gs i e)(hn:gs.length<=100000)(g:Gl)(hg:gs[i]? = some g)(hc:gcls g.code=5):
  Calls Tryz.prog 134 #[.pointer (some ⟨q,0,none⟩)] w fun r w'=>∃o,TokR s e g (gs.drop (i+1)) o/\TokO w w' q s v gs i e r o:=by
 have hs:=aya hc;suffices H:Calls Tryz.prog 134 #[.pointer (some ⟨q,0,none⟩)] w fun r w'=>TokO w w' q s v gs i e r (signS (gfold g.code) (gs.drop (i+1)))from H.mono (fun r w' h=>⟨_,ae5 hc,h⟩)
 generalize hcc:gfold g.code=c at hs ⊢;unfold signS;by_cases c1:c=8788
 ·rw[if_pos c1];refine(alm w q s v gs i e h hn g hg c hcc c1).mono ?_;rintro r w' ⟨hS,hT,rfl⟩;exact⟨rfl,hT,i+1,by omega,rfl,hS⟩
 ·rw[if_neg c1];by_cases c2:c=8800
  ·rw[if_pos c2];refine(am2 w q s v gs i e h hn g hg c hcc c2).mono ?_;rintro r w' ⟨hS,hT,rfl⟩;exact⟨rfl,hT,i+1,by omega,rfl,hS⟩
  ·rw[if_neg c2];by_cases c3:c=58\/c=33
   ·rw[if_pos c3];by_cases hl:i+1<gs.length
    ·rw[List.drop_eq_getElem_cons hl];simp only;have hg2:gs[i+1]? = some (gs[i+1]'hl):=List.getElem?_eq_getElem hl;by_cases h61:(gs[i+1]'hl).code=61
     ·rw[if_pos h61];rcases c3 with c3|c3
      ·rw[c3]at hcc ⊢;refine(aqj w q s v gs i e h hn g hg 58 hcc rfl _ hg2 h61).mono ?_;rintro r w' ⟨hS,hT,rfl⟩;exact⟨rfl,hT,i+2,by omega,rfl,hS⟩
      ·rw[c3]at hcc ⊢;refine(as5 w q s v gs i e h hn g hg 33 hcc rfl _ hg2 h61).mono ?_;rintro r w' ⟨hS,hT,rfl⟩;exact⟨rfl,hT,i+2,by omega,rfl,hS⟩
     ·rw[if_neg h61];rcases c3 with c3|c3
      ·refine(ah1 w q s v gs i e h hn g hg c hcc c3 _ hg2 h61).mono ?_;rintro r w' ⟨hS,hT,rfl⟩;exact⟨by omega,rfl,hT⟩
      ·refine(aip w q s v gs i e h hn g hg c hcc c3 _ hg2 h61).mono ?_;rintro r w' ⟨hS,hT,rfl⟩;exact⟨by omega,rfl,hT⟩
    ·rw[List.drop_eq_nil_of_le (by omega)];simp only;rcases c3 with c3|c3
     ·refine(aio w q s v gs i e h hn g hg c hcc c3 (by omega)).mono ?_;rintro r w' ⟨hS,hT,rfl⟩;exact⟨by omega,rfl,hT⟩
     ·refine(ajg w q s v gs i e h hn g hg c hcc c3 (by omega)).mono ?_;rintro r w' ⟨hS,hT,rfl⟩;exact⟨by omega,rfl,hT⟩
   ·rw[if_neg c3];refine(av1 w q s v gs i e h hn g hg c hcc ?_ (by omega) (by omega)).mono ?_
    ·unfold gsign at hs;omega
    rintro r w' ⟨hS,hT,rfl⟩;exact⟨rfl,hT,i+1,by omega,rfl,hS⟩
theorem TokV.tq{w w':World}{q:Nat}{s:ByteArray}{v:Value}{gs:List Gl}{i:Nat}{e:Pl}{kd:Int}{tx:ByteArray}{k:Int}{o:TO}(h:TokV w w' q s v gs i e kd tx k o):Tq w w' q:=by
 obtain⟨h⟩:=h;cases o with
 |bad c=>exact h.2.2
 |ok kind text rest=>exact h.2.1
theorem as6(w:World)(q:Nat)(s:ByteArray)(v:Value)(gs:List Gl)(i:Nat)(e:Pl)(h:Scn w q s v gs i e)(hn:gs.length<=100000)(hQ:Snd s pl0 gs e)(hs:s.size<=4096)(g:Gl)(hg:gs[i]? = some g):
  Calls Tryz.prog 102 #[.pointer (some ⟨q,0,none⟩)] w fun r w'=>∃o,TokR s e g (gs.drop (i+1)) o/\TokO w w' q s v gs i e r o:=by
 have H:=hide h;have hi:i<gs.length:=(List.getElem?_eq_some_iff.1 hg).1;have hd:gs.drop i=g::gs.drop (i+1):=by
  rw[List.drop_eq_getElem_cons hi];congr 1;rw[List.getElem?_eq_getElem hi]at hg;exact Option.some.inj hg
 have HD:=hide hd;obtain⟨ao,cap,rfl⟩:=h.gls.isSlice;obtain⟨b,off,rfl,hG⟩:=h.gls.glyph hg;obtain⟨hq,k0,k1,k2,k3,k4,k5,k6⟩:=h.cells;obtain⟨hb,g0,g1,g2,g3,g4,g5⟩:=hG;have hi':(i:Int)<(gs.length:Int):=by omega
 have HGI:=hide hg;clear h k0 k3 k4 k5 k6 g0 g2 g3 g4 g5 hd hg;go_enter Tryz.func102,Tryz.ntmps102
 go_wp2_with fail
 go_quiet (fail)
 have hbq:Below w.heap.size w ((w.alloc (.cells #[.int .i64 0,.string ⟨#[]⟩,.int .i64 0,.int .i64 0,.int .i64 0,.int .i64 0] 109)).drewN nq):=by(repeat' first|with_reducible(first|exact Below.refl _ _|assumption|refine gdrewN ?_ _|refine Below.alloc ?_ ?_ _|refine Below.drew ?_|refine Below.setCell ?_ ?_ _)|go_size)
 have HB:=hide hbq;have HS1:=hide (H.out.below hbq);have HT1:Hid (Tk0B ((w.alloc (.cells #[.int .i64 0,.string ⟨#[]⟩,.int .i64 0,.int .i64 0,.int .i64 0,.int .i64 0] 109)).drewN nq) w.heap.size):=heap_alloc_new w _;clear hbq k1 k2 g1 hb hi';generalize (w.alloc (.cells #[.int .i64 0,.string ⟨#[]⟩,.int .i64 0,.int .i64 0,.int .i64 0,.int .i64 0] 109)).drewN nq=w1 at HB HS1 HT1 ⊢;generalize hf:w.heap.size=f at *
 have hqf:q≠f:=by omega
 have hfq:f≠q:=by omega
 replace HB:Hid (Below w.heap.size w w1):=by rw[hf];exact HB
 replace hf:w.heap.size<=f:=by omega
 clear hq;by_cases hc2:gcls g.code=2
 ·have n2:(gcls g.code==2)=true:=by rw[hc2];rfl
  go_wp2_with fail
  refine(az2 _ q s _ gs i e HS1.out hn hQ hs g HD.out hc2).mono ?_;rintro r w2 ⟨o,ho,hO⟩;obtain⟨kd,tx,k,rfl,hV⟩:=hO.v;have HV:=hide hV;have HR:=hide ho;have HT0:=hide (HT1.out.tq (hV.tq) hfq);clear hO hV ho;obtain⟨hfl,t0,t1,t2,t3,t4,t5,f0,f1,f2,f3,f4,f5⟩:=HT0.out.cells;go_wp2;refine bodyPost_ret (v:=_) (by simp[results,Tryz.results102,go_sem,t0,t1,t2,t3,t4,t5];try rfl) rfl ⟨o,HR.out,?_⟩;exact HV.out.six H.out HB.out hf hqf _ _ _ _ _ _
 by_cases hc3:gcls g.code=3
 ·have n2:(gcls g.code==2)=false:=beq_eq_false_iff_ne.2 hc2;have n3:(gcls g.code==3)=true:=by rw[hc3];rfl
  go_wp2_with fail
  refine(av2 _ q s _ gs i e HS1.out hn hQ hs g HD.out hc3).mono ?_;rintro r w2 ⟨o,ho,hO⟩;obtain⟨kd,tx,k,rfl,hV⟩:=hO.v;have HV:=hide hV;have HR:=hide ho;have HT0:=hide (HT1.out.tq (hV.tq) hfq);clear hO hV ho;obtain⟨hfl,t0,t1,t2,t3,t4,t5,f0,f1,f2,f3,f4,f5⟩:=HT0.out.cells;go_wp2;refine bodyPost_ret (v:=_) (by simp[results,Tryz.results102,go_sem,t0,t1,t2,t3,t4,t5];try rfl) rfl ⟨o,HR.out,?_⟩;exact HV.out.six H.out HB.out hf hqf _ _ _ _ _ _
 by_cases hc5:gcls g.code=5
 ·have n2:(gcls g.code==2)=false:=beq_eq_false_iff_ne.2 hc2;have n3:(gcls g.code==3)=false:=beq_eq_false_iff_ne.2 hc3;have n5:(gcls g.code==5)=true:=by rw[hc5];rfl
  go_wp2_with fail
  refine(az3 _ q s _ gs i e HS1.out hn g HGI.out hc5).mono ?_;rintro r w2 ⟨o,ho,hO⟩;obtain⟨kd,tx,k,rfl,hV⟩:=hO.v;have HV:=hide hV;have HR:=hide ho;have HT0:=hide (HT1.out.tq (hV.tq) hfq);clear hO hV ho;obtain⟨hfl,t0,t1,t2,t3,t4,t5,f0,f1,f2,f3,f4,f5⟩:=HT0.out.cells;go_wp2;refine bodyPost_ret (v:=_) (by simp[results,Tryz.results102,go_sem,t0,t1,t2,t3,t4,t5];try rfl) rfl ⟨o,HR.out,?_⟩;exact HV.out.six H.out HB.out hf hqf _ _ _ _ _ _
 ·have n2:(gcls g.code==2)=false:=beq_eq_false_iff_ne.2 hc2;have n3:(gcls g.code==3)=false:=beq_eq_false_iff_ne.2 hc3;have n5:(gcls g.code==5)=false:=beq_eq_false_iff_ne.2 hc5;obtain⟨hfl,t0,t1,t2,t3,t4,t5,f0,f1,f2,f3,f4,f5⟩:=HT1.out.cells;go_wp2;refine bodyPost_ret (v:=_) (by simp[results,Tryz.results102,go_sem,t0,t1,t2,t3,t4,t5];try rfl) rfl ⟨_,aiq hc2 hc3 hc5,by omega,rfl,(Tq.of_below HB.out).six hf _ _ _ _ _ _⟩
end Lm
namespace Lm
open Go Go.RowKit
def msplit(s:ByteArray):Bool×ByteArray:=
 if 3<=s.size/\(s.get! 0).toNat=226/\(s.get! 1).toNat=136/\(s.get! 2).toNat=146 then(true,s.extract 3 s.size)
 else if 0<s.size/\(s.get! 0).toNat=45 then(true,s.extract 1 s.size)
 else(false,s)
theorem decN(s:ByteArray)(h:0<s.size):Lib.decodeGo s=Lib.decodeN s.size (s.get! 0).toNat (s.get! 1).toNat (s.get! 2).toNat (s.get! 3).toNat:=by
 rw[Lib.decodeGo,if_neg (by omega),Lib.decode_at];rfl
theorem ayb(n b0 b1 b2 b3:Nat):(Lib.decodeN n b0 b1 b2 b3).1=45↔b0=45:=by
 unfold Lib.decodeN
 repeat' split
 all_goals first|(simp only;done)|(simp only;omega)
theorem av3(n b1 b2 b3:Nat):Lib.decodeN n 45 b1 b2 b3=(45,1):=by simp[Lib.decodeN]
theorem as7(n b0 b1 b2 b3:Nat):(Lib.decodeN n b0 b1 b2 b3).1=8722↔3<=n/\b0=226/\b1=136/\b2=146:=by
 unfold Lib.decodeN
 repeat' split
 all_goals (simp only;omega)
theorem aqk{n b3:Nat}(h:3<=n):Lib.decodeN n 226 136 146 b3=(8722,3):=by
 unfold Lib.decodeN;rw[if_neg (by omega),if_neg (by omega),if_pos (by omega),if_pos (by omega)]
theorem az4(s:ByteArray):(Lib.decodeGo s).1=45↔0<s.size/\(s.get! 0).toNat=45:=by
 by_cases h:0<s.size
 ·rw[decN s h,ayb];simp[h]
 ·rw[Lib.decodeGo,if_pos (by omega)];simp[h]
theorem av4(s:ByteArray):(Lib.decodeGo s).1=8722↔3<=s.size/\(s.get! 0).toNat=226/\(s.get! 1).toNat=136/\(s.get! 2).toNat=146:=by
 by_cases h:0<s.size
 ·rw[decN s h,as7]
 ·rw[Lib.decodeGo,if_pos (by omega)];constructor
  ·intro h;simp at h
  ·intro h;omega
theorem am3(s:ByteArray):((Lib.decodeGo s=(8722,3)/\3<=s.size/\(s.get! 0).toNat=226/\(s.get! 1).toNat=136/\(s.get! 2).toNat=146)/\msplit s=(true,s.extract 3 s.size)) \/
  ((Lib.decodeGo s=(45,1)/\0<s.size/\(s.get! 0).toNat=45)/\msplit s=(true,s.extract 1 s.size)) \/
  (((Lib.decodeGo s).1≠45/\(Lib.decodeGo s).1≠8722/\¬(3<=s.size/\(s.get! 0).toNat=226/\(s.get! 1).toNat=136/\(s.get! 2).toNat=146)/\¬(0<s.size/\(s.get! 0).toNat=45))/\msplit s=(false,s)):=by
 by_cases h1:3<=s.size/\(s.get! 0).toNat=226/\(s.get! 1).toNat=136/\(s.get! 2).toNat=146
 ·refine .inl ⟨⟨?_,h1⟩,by rw[msplit,if_pos h1]⟩;rw[decN s (by omega),h1.2.1,h1.2.2.1,h1.2.2.2];exact aqk h1.1
 ·by_cases h2:0<s.size/\(s.get! 0).toNat=45
  ·refine .inr (.inl ⟨⟨?_,h2⟩,by rw[msplit,if_neg h1,if_pos h2]⟩);rw[decN s h2.1,h2.2];exact av3 _ _ _ _
  ·exact .inr (.inr ⟨⟨fun e=>h2 ((az4 s).1 e),fun e=>h1 ((av4 s).1 e),h1,h2⟩,by rw[msplit,if_neg h1,if_neg h2]⟩)
end Lm
end Go.Proofs.YtooefpkhacecnaaGreatDoor
namespace Go.Proofs
open Go.Shelf
shelf_lay Lays.n197 Nm 197 at Tryz as Tryz.lays197
namespace YtooefpkhacecnaaGreatDoor
namespace Lm
open Go Go.RowKit
def Tabs(w:World):Prop:=Lib.Utf8Tabs (Tryz.lays197_ren.g 3) (Tryz.lays197_ren.g 4) w
theorem Tabs.below{w w':World}(h:Tabs w)(hb:Below w.heap.size w w'):Tabs w':=Utf8Tabs_below h hb
theorem air(w:World)(s:ByteArray)(hT:Tabs w):
  Calls Tryz.prog 129 #[.string s] w fun e w'=>e=.returned (.tuple #[.int .i32 (Lib.decodeGo s).1,.int .i64 (Lib.decodeGo s).2])/\Below w.heap.size w w':=Any.utf8_DecodeRuneInString Tryz.lays197 s w hT
end Lm
end YtooefpkhacecnaaGreatDoor
end Go.Proofs
namespace Go.Proofs.YtooefpkhacecnaaGreatDoor
namespace Lm
open Go Go.RowKit
theorem get!_out(s:ByteArray)(k:Nat)(h:s.size<=k):(s.get! k).toNat=0:=by
 cases s with
 |mk d=>
  have:d[k]! = default:=getElem!_neg d k (by simpa[ByteArray.size]using h);show(d[k]!).toNat=0;rw[this];rfl
theorem am4(s:ByteArray)(i:Nat)(h:i<s.size):Lib.decodeGo (s.extract i s.size)=Utf8.decode s i:=by
 have hsz:(s.extract i s.size).size=s.size-i:=by rw[ByteArray.size_extract];omega
 rw[Lib.decodeGo,if_neg (by omega),Lib.decode_at,Lib.decode_at,hsz];have key:∀k,((s.extract i s.size).get! k).toNat=(s.get! (i+k)).toNat:=by
  intro k;by_cases hk:k<s.size-i
  ·have h1:=get!_getD (s.extract i s.size) k (by omega);have h2:=get!_getD s (i+k) (by omega);rw[acz,List.getD_eq_getElem?_getD,List.getElem?_take_of_lt (by omega),List.getElem?_drop,<-List.getD_eq_getElem?_getD]at h1;rw[h1]at h2;exact_mod_cast h2
  ·rw[get!_out _ _ (by omega),get!_out _ _ (by omega)]
 simp only[key,Nat.zero_add,Nat.add_zero,Nat.sub_zero]
theorem ade{w w':World}{B:Nat}{e:TypeId}{size n:Nat}{v:Value}{xs:List Value}(h:w.ownsRow B e size v n xs)(hk:∀k o,B<=k->w.heap[k]? = some o->w'.heap[k]? = some o):w'.ownsRow B e size v n xs:=by
 obtain⟨hl,h1|⟨g,cap,cur,rfl,hb,hh,h2⟩⟩:=h
 ·exact⟨hl,.inl h1⟩
 ·exact⟨hl,.inr ⟨g,cap,cur,rfl,hb,hk g _ hb hh,h2⟩⟩
theorem ab7{w w':World}{B:Nat}{e:TypeId}{size n:Nat}{v:Value}{xs:List Value}(h:w.ownsRow B e size v n xs)(hb:Below w.heap.size w w'):w'.ownsRow B e size v n xs:=
 ade h fun k _ _ hk=>(hb.block k (aaa hk)).trans hk
theorem aln{w:World}{B B':Nat}{e:TypeId}{size n:Nat}{v:Value}{xs:List Value}(h:w.ownsRow B e size v n xs)(hB:B'<=B):w.ownsRow B' e size v n xs:=by
 obtain⟨hl,h1|⟨g,cap,cur,rfl,hb,hh,h2⟩⟩:=h
 ·exact⟨hl,.inl h1⟩
 ·exact⟨hl,.inr ⟨g,cap,cur,rfl,Nat.le_trans hB hb,hh,h2⟩⟩
structure Sou (w wr:World) (s:ByteArray) (acc:List Gl) (p:Pl) (pos:Nat) (gv:Value):Prop where
 own:wr.ownsRow (w.heap.size+2) 184 6 gv acc.length (gflat acc)
 plc:PlB wr w.heap.size p
 itr:wr.heap[w.heap.size+1]? = some (.stringIter s pos)
 bel:Below w.heap.size w wr
 siz:w.heap.size+2<=wr.heap.size
theorem Sou.below{w wr w':World}{s:ByteArray}{acc:List Gl}{p:Pl}{pos:Nat}{v:Value}(h:Sou w wr s acc p pos v)(hb:Below wr.heap.size wr w'):Sou w w' s acc p pos v:=
 ⟨ab7 h.own hb,h.plc.below hb,(hb.block _ (by have:=h.siz;omega)).trans h.itr,h.bel.trans (hb.mono h.bel.size),Nat.le_trans h.siz hb.size⟩
theorem Sou.iterAt{w wr:World}{s:ByteArray}{acc:List Gl}{p:Pl}{pos:Nat}{v:Value}(h:Sou w wr s acc p pos v)(pos':Nat):Sou w (wr.iterAt (w.heap.size+1) s pos') s acc p pos' v:=
 ⟨ade h.own fun k _ hk he=>(Lib.iterAt_other wr _ k s pos' (by omega)).trans he,(Lib.iterAt_other wr _ _ s pos' (by omega)).trans h.plc,Lib.iterAt_heap wr _ s pos pos' h.itr,Lib.below_iterAt h.bel (by omega) s pos',by rw[Lib.iterAt_size];exact h.siz⟩
theorem Sou.more{w wr w1:World}{s:ByteArray}{acc:List Gl}{p:Pl}{pos:Nat}{v v':Value}{g:Gl}(h:Sou w wr s acc p pos v)(hg:wr.grownBy w1 v.ownBlock)(hown:w1.ownsRow (w.heap.size+2) 184 6 v' (acc ++ [g]).length (gflat (acc ++ [g]))):Sou w w1 s (acc ++ [g]) p pos v':=by
 have hrow:∀k,k<w.heap.size+2->some k≠v.ownBlock:=by
  intro k hk;obtain⟨hl,⟨rfl,_⟩|⟨b,cap,cur,rfl,hb,_⟩⟩:=h.own
  ·simp[Value.ownBlock]
  ·simp only[Value.ownBlock,ne_eq,Option.some.injEq];omega
 have hz:=h.siz;exact⟨hown,(hg.block _ (by omega) (hrow _ (by omega))).trans h.plc,(hg.block _ (by omega) (hrow _ (by omega))).trans h.itr,⟨hg.os.trans h.bel.os,hg.tape.trans h.bel.tape,hg.output.trans h.bel.output,Nat.le_trans h.bel.size hg.size,fun k hk=>(hg.block k (by omega) (hrow k (by omega))).trans (h.bel.block k hk)⟩,Nat.le_trans h.siz hg.size⟩
theorem Sou.place{w wr:World}{s:ByteArray}{acc:List Gl}{p p':Pl}{pos:Nat}{v:Value}(h:Sou w wr s acc p pos v):Sou w ((((wr.setCell ⟨w.heap.size,0,none⟩ (.int .i64 p'.b)).setCell ⟨w.heap.size,1,none⟩ (.int .i64 p'.g)).setCell ⟨w.heap.size,2,none⟩ (.int .i64 p'.l)).setCell ⟨w.heap.size,3,none⟩ (.int .i64 p'.c)) s acc p' pos v:=by
 have ho:∀k,k≠w.heap.size->((((wr.setCell ⟨w.heap.size,0,none⟩ (.int .i64 p'.b)).setCell ⟨w.heap.size,1,none⟩ (.int .i64 p'.g)).setCell ⟨w.heap.size,2,none⟩ (.int .i64 p'.l)).setCell ⟨w.heap.size,3,none⟩ (.int .i64 p'.c)).heap[k]? = wr.heap[k]? :=by
  intro k hk;rw[heap_setCell_other _ ⟨w.heap.size,3,none⟩ k _ hk,heap_setCell_other _ ⟨w.heap.size,2,none⟩ k _ hk,heap_setCell_other _ ⟨w.heap.size,1,none⟩ k _ hk,heap_setCell_other _ ⟨w.heap.size,0,none⟩ k _ hk]
 have hsz:((((wr.setCell ⟨w.heap.size,0,none⟩ (.int .i64 p'.b)).setCell ⟨w.heap.size,1,none⟩ (.int .i64 p'.g)).setCell ⟨w.heap.size,2,none⟩ (.int .i64 p'.l)).setCell ⟨w.heap.size,3,none⟩ (.int .i64 p'.c)).heap.size=wr.heap.size:=by simp[World.setCell]
 refine⟨ade h.own fun k _ hk he=>(ho k (by omega)).trans he,?_,(ho _ (by omega)).trans h.itr,⟨h.bel.os,h.bel.tape,h.bel.output,by rw[hsz];exact h.bel.size,fun k hk=>(ho k (by omega)).trans (h.bel.block k hk)⟩,by rw[hsz];exact h.siz⟩;unfold PlB;rw[heap_setCell_same _ _ 3 _ _ _ (heap_setCell_same _ _ 2 _ _ _ (heap_setCell_same _ _ 1 _ _ _ (heap_setCell_same _ _ 0 _ _ _ h.plc)))];simp
theorem as8{w:World}{B:Nat}{e:TypeId}{size n:Nat}{v:Value}{xs:List Value}(h:w.ownsRow B e size v n xs):∃ao cap,v=.slice ao n cap:=by
 obtain⟨hl,⟨rfl,rfl⟩|⟨g,cap,cur,rfl,_⟩⟩:=h
 ·exact⟨_,_,rfl⟩
 ·exact⟨_,_,rfl⟩
theorem infoG:(Tryz.prog.info? 184).map (fun i=>(i.zero,i.size,i.bytes))=some (some (.agg #[.int .i64 0,.int .i64 0,.int .i64 0,.int .i64 0,.int .i64 0,.int .i64 0]),6,48):=by kernel_rfl
theorem ag1{P:Program}{e:TypeId}{z:Value}{n b:Nat}(h:(P.info? e).map (fun i=>(i.zero,i.size,i.bytes))=some (some z,n,b)):∃i,P.info? e=some i/\i.zero=some z/\i.size=n/\i.bytes=b:=by
 cases hi:P.info? e with
 |none=>rw[hi]at h;cases h
 |some i=>
  rw[hi]at h;simp only[Option.map_some,Option.some.injEq,Prod.mk.injEq]at h;exact⟨i,rfl,h.1,h.2.1,h.2.2⟩
theorem alo(args:Array Value)(w:World):(callFunc 130 args).run Tryz.prog w=.ok (.enter 130 args) w:=by
 have h : (match Tryz.prog.funcs[130]? with | some fn => !(fn.name == "runtime.NumGoroutine") && fn.body.isSome | none => false) = true := by kernel_rfl
 cases hf:Tryz.prog.funcs[130]? with
 |none=>rw[hf]at h;simp at h
 |some fn=>
  rw[hf]at h;simp only[Bool.and_eq_true,Bool.not_eq_true',beq_eq_false_iff_ne]at h;obtain⟨h1,h2⟩:=h;have h3:fn.body≠none:=by intro hb;rw[hb]at h2;simp at h2
  simp[callFunc,hf,h1,h3]
theorem ais{ops:Array Oper}{o:Oper}{a:Act}{w:World}{K:Act->World->Prop}{Q:Exit->Act->World->Prop}{E:Prop}(hg:o.guard=none)(x:Operand)(ats:Array TypeId)
  (hop:o.op=.call {callee:=.value (.func 130),args:=#[x],argTypes:=ats}) (c:Int) (hx:a.eval x=.int .i64 c) (hK:K (a.put o.dst (.int .i64 (gcls c))) w) :
  if Region.wanted o (yielded ops a.tmps)=true then Oper.wp Tryz.prog o a w K Q else E:=by
 obtain⟨dst,op,ty,pos,after,guard⟩:=o;simp only at hop hg;subst hop hg;have hw:Region.wanted {dst,op:=.call {callee:=.value (.func 130),args:=#[x],argTypes:=ats},type:=ty,pos,after,guard:=none} (yielded ops a.tmps)=true:=by simp[Region.wanted]
 rw[if_pos hw];have e:execOp a.eval {dst,op:=.call {callee:=.value (.func 130),args:=#[x],argTypes:=ats},type:=ty,pos,after,guard:=none}=callFunc 130 (#[] ++ #[x].map a.eval ++ #[]):=rfl;unfold Oper.wp;rw[e,alo];simp only[Oper.upon];have e2:(#[] ++ #[x].map a.eval ++ #[]:Array Value) = #[.int .i64 c]:=by simp[hx]
 rw[e2];refine(ave w c).mono ?_;rintro r w' ⟨rfl,rfl⟩;exact hK
theorem as9(w:World)(s:ByteArray)(hT:Tabs w)(hs:s.size<=4096):
  Calls Tryz.prog 99 #[.string s] w fun r w'=>∃gs e v,Snd s pl0 gs e/\r=.returned (.tuple #[v,e.v])/\w'.ownsRow (w.heap.size+2) 184 6 v gs.length (gflat gs)/\Below w.heap.size w w':=by
 go_enter Tryz.func99,Tryz.ntmps99
 go_wp2;have hS0:Sou w ((w.alloc (.cells #[.int .i64 0,.int .i64 0,.int .i64 1,.int .i64 1] 56)).iter s 0) s [] pl0 0 (.slice none 0 0):=by
  refine⟨World.ownsRow_nil _ _ _ _,?_,?_,?_,?_⟩
  ·exact((Below.refl (w.alloc _).heap.size (w.alloc _)).alloc (Nat.le_refl _) (.stringIter s 0)).block w.heap.size (by simp[World.size_alloc]) |>.trans (heap_alloc_new w _)
  ·have:=World.iter_heap (w.alloc (.cells #[.int .i64 0,.int .i64 0,.int .i64 1,.int .i64 1] 56)) s 0;rw[World.size_alloc]at this;exact this
  ·exact((Below.refl _ _).alloc (Nat.le_refl _) _).alloc (by simp[World.size_alloc]) (.stringIter s 0)
  ·show w.heap.size+2<=((w.alloc _).alloc (.stringIter s 0)).heap.size;simp[World.size_alloc]
 generalize (w.alloc (.cells #[.int .i64 0,.int .i64 0,.int .i64 1,.int .i64 1] 56)).iter s 0=w0 at hS0 ⊢;have HS0:=hide hS0;have HT:=hide hT;clear hS0 hT;go_loopw [2] (fun gv wr=>∃(acc:List Gl) (p:Pl) (ao:Option Addr) (cap:Nat),gv=.slice ao acc.length cap/\Sou w wr s acc p p.b (.slice ao acc.length cap)/\p.ok/\p.b<=s.size/\acc.length<=p.b/\∀gs e,Snd s p gs e->Snd s pl0 (acc++gs) e) (fun _ wr=>s.size-wr.iterPos (w.heap.size+1))
 case atStart=>exact⟨[],pl0,none,0,rfl,HS0.out,ad5,Nat.zero_le _,Nat.zero_le _,fun gs e h=>h⟩
 case round=>
  obtain⟨acc,p,ao,cap,rfl,hS,hp,hpb,hal,hpre⟩:=hrel;have HS:=hide hS;have HP:=hide hp;have HE:=hide hpre;have IP:Hid (wr.iterPos (w.heap.size+1)=p.b):=by show _=_;unfold World.iterPos;rw[hS.itr]
  clear hS hp hpre;by_cases hlt:p.b<s.size
  ·have hnext:=fun ty=>Lib.run_next_any_at (P:=Tryz.prog) wr (w.heap.size+1) s p.b ty HS.out.itr hlt
   have hd:=abf s p.b hlt;have htop:=axx s p.b;have HDG:=hide (am4 s p.b hlt);have HS1:=hide (HS.out.iterAt (p.b+(Utf8.decode s p.b).2));have HSG:=hide (fun gs e=>Snd.go p gs e hlt);generalize hdc:Utf8.decode s p.b=dc at *
   have HDC:=hide hdc;clear hdc;obtain⟨c,z⟩:=dc;simp only at hd htop hnext;generalize wr.iterAt (w.heap.size+1) s (p.b+z)=w1 at HS1 hnext;have hlt':(p.b:Int)<(s.size:Int):=by omega
   go_wp2_with fail
   refine(air _ _ (HT.out.below HS1.out.bel)).mono ?_;rintro r w2 ⟨rfl,hb2⟩;rw[HDG.out];have HS2:=hide (HS1.out.below hb2);clear hb2 hnext HS1;by_cases hbad:(c,z)=(65533,1)
   ·obtain⟨rfl,rfl⟩:=Prod.mk.inj hbad;obtain⟨hf,p0,p1,p2,p3⟩:=HS2.out.plc.cells;have f0:=frozen_of_row w2 w.heap.size 0 _ _ HS2.out.plc;have f1:=frozen_of_row w2 w.heap.size 1 _ _ HS2.out.plc;have f2:=frozen_of_row w2 w.heap.size 2 _ _ HS2.out.plc;have f3:=frozen_of_row w2 w.heap.size 3 _ _ HS2.out.plc;go_wp2_with fail
    go_region
    go_wp2;refine bodyPost_ret (v:=_) (by simp[results,Tryz.results99,go_sem,p0,p1,p2,p3];try rfl) rfl ⟨acc,p,_,?_,rfl,((HS2.out.place (p':=p)).below (by(repeat' first|with_reducible(first|exact Below.refl _ _|assumption|refine gdrewN ?_ _|refine Below.alloc ?_ ?_ _|refine Below.drew ?_|refine Below.setCell ?_ ?_ _)|go_size))).own,((HS2.out.place (p':=p)).below (by(repeat' first|with_reducible(first|exact Below.refl _ _|assumption|refine gdrewN ?_ _|refine Below.alloc ?_ ?_ _|refine Below.drew ?_|refine Below.setCell ?_ ?_ _)|go_size))).bel⟩;have:=HE.out [] p (.stop p (.inr ⟨hlt,HDC.out⟩));rwa[List.append_nil]at this
   ·by_cases h1:c=65533
    ·subst h1;have e2:((z:Int)==1)=false:=beq_eq_false_iff_ne.2 (by intro hz;exact hbad (by rw[show z=1 from by omega]));obtain⟨i0,hi0,hz0,hz1,hz2⟩:=ag1 infoG;obtain⟨hf,p0,p1,p2,p3⟩:=HS2.out.plc.cells;have hown:=HS2.out.own;have hsz:=HS2.out.siz;have hone:∀u∈([.int .i64 65533,.int .i64 (gcls 65533),.int .i64 p.b,.int .i64 p.g,.int .i64 p.l,.int .i64 p.c]:List Value),u.oneCell'=true:=by
      intro u hu;simp only[List.mem_cons,List.not_mem_nil,or_false]at hu;rcases hu with rfl|rfl|rfl|rfl|rfl|rfl <;> rfl
     go_wp2_with fail
     go_region_law (first|(refine ais rfl (.tmp 35) #[3] rfl (65533:Int) (by simp[Act.eval,Act.put]) ?_)|(refine step_append_lies _ rfl (.tmp 33) (.tmp 39) 145 rfl (w.heap.size+2) 184 i0 _ 6 48 Tryz.underlying145 hi0 hz0 hz1 hz2 rfl (by decide) (.slice ao acc.length cap) acc.length (gflat acc) (by simp[Act.eval]) (ab7 hown ((Below.refl _ _).alloc (Nat.le_refl _) _).drew) ⟨w2.heap.size,0,none⟩ 1 1 [.int .i64 65533,.int .i64 (gcls 65533),.int .i64 p.b,.int .i64 p.g,.int .i64 p.l,.int .i64 p.c] (by simp[Act.eval]) rfl (World.news_of_block (w:=(w2.alloc (.cells #[.int .i64 65533,.int .i64 (gcls 65533),.int .i64 p.b,.int .i64 p.g,.int .i64 p.l,.int .i64 p.c] 184)).drew) (heap_alloc_new w2 _)) hone (by omega) (by unfold maxLen;omega) (by omega) (by simp;omega) _ rfl ?_;intro g1 cap1 w3 hown3 hgrow3 hat3 hlt3))
     all_goals
      have HS3:=hide ((HS2.out.below (((Below.refl _ _).alloc (Nat.le_refl _) _).drew)).more (g:=⟨65533,p⟩) hgrow3 (by simpa[age,gflat]using hown3));clear hown3 hgrow3 hat3 hlt3 p0 p1 p2 p3 hf hown hsz hone hi0 hz0 hz1 hz2;obtain⟨hf,p0,p1,p2,p3⟩:=HS3.out.plc.cells;go_wp2_with fail
      refine(aif w3 p 65533 z (by have:=HP.out.g;have:=HP.out.l;have:=HP.out.c;omega)).mono ?_;rintro r w4 ⟨rfl,hb4⟩;have HS4:=hide (HS3.out.below hb4);clear hb4 p0 p1 p2 p3 hf HS3 HS2;generalize hpp:p.past 65533 z=p' at HS4 ⊢;have HPP:=hide hpp;clear hpp;unfold Pl.v;obtain⟨hf,p0,p1,p2,p3⟩:=HS4.out.plc.cells;have f0:=frozen_of_row w4 w.heap.size 0 _ _ HS4.out.plc;have f1:=frozen_of_row w4 w.heap.size 1 _ _ HS4.out.plc;have f2:=frozen_of_row w4 w.heap.size 2 _ _ HS4.out.plc;have f3:=frozen_of_row w4 w.heap.size 3 _ _ HS4.out.plc;have IP4:=hide ((HS4.out.place (p':=p')).itr);go_wp2;go_roundw
      case rel=>
       have hb':p'.b=p.b+z:=by rw[<-HPP.out];rfl
       refine⟨acc ++ [⟨65533,p⟩],p',some ⟨g1,0,none⟩,cap1,by simp,?_,by rw[<-HPP.out];exact HP.out.past _ _ hd.1,by omega,by simp;omega,?_⟩
       ·have:=HS4.out.place (p':=p');rw[<-hb']at this;simpa using this
       ·intro gs e h;rw[List.append_assoc];refine HE.out _ _ ?_;exact HSG.out gs e hbad (by rw[<-HPP.out]at h;exact h)
      case measure=>
       rw[IP.out];unfold World.iterPos;rw[IP4.out];simp only;omega
    ·have e1:((c:Int)==65533)=false:=beq_eq_false_iff_ne.2 (by omega);obtain⟨i0,hi0,hz0,hz1,hz2⟩:=ag1 infoG;obtain⟨hf,p0,p1,p2,p3⟩:=HS2.out.plc.cells;have hown:=HS2.out.own;have hsz:=HS2.out.siz;have hone:∀u∈([.int .i64 c,.int .i64 (gcls c),.int .i64 p.b,.int .i64 p.g,.int .i64 p.l,.int .i64 p.c]:List Value),u.oneCell'=true:=by
      intro u hu;simp only[List.mem_cons,List.not_mem_nil,or_false]at hu;rcases hu with rfl|rfl|rfl|rfl|rfl|rfl <;> rfl
     go_wp2_with fail
     go_region_law (first|(refine ais rfl (.tmp 35) #[3] rfl (c:Int) (by simp[Act.eval,Act.put]) ?_)|(refine step_append_lies _ rfl (.tmp 33) (.tmp 39) 145 rfl (w.heap.size+2) 184 i0 _ 6 48 Tryz.underlying145 hi0 hz0 hz1 hz2 rfl (by decide) (.slice ao acc.length cap) acc.length (gflat acc) (by simp[Act.eval]) (ab7 hown ((Below.refl _ _).alloc (Nat.le_refl _) _).drew) ⟨w2.heap.size,0,none⟩ 1 1 [.int .i64 c,.int .i64 (gcls c),.int .i64 p.b,.int .i64 p.g,.int .i64 p.l,.int .i64 p.c] (by simp[Act.eval]) rfl (World.news_of_block (w:=(w2.alloc (.cells #[.int .i64 c,.int .i64 (gcls c),.int .i64 p.b,.int .i64 p.g,.int .i64 p.l,.int .i64 p.c] 184)).drew) (heap_alloc_new w2 _)) hone (by omega) (by unfold maxLen;omega) (by omega) (by simp;omega) _ rfl ?_;intro g1 cap1 w3 hown3 hgrow3 hat3 hlt3))
     all_goals
      have HS3:=hide ((HS2.out.below (((Below.refl _ _).alloc (Nat.le_refl _) _).drew)).more (g:=⟨c,p⟩) hgrow3 (by simpa[age,gflat]using hown3));clear hown3 hgrow3 hat3 hlt3 p0 p1 p2 p3 hf hown hsz hone hi0 hz0 hz1 hz2;obtain⟨hf,p0,p1,p2,p3⟩:=HS3.out.plc.cells;go_wp2_with fail
      refine(aif w3 p c z (by have:=HP.out.g;have:=HP.out.l;have:=HP.out.c;omega)).mono ?_;rintro r w4 ⟨rfl,hb4⟩;have HS4:=hide (HS3.out.below hb4);clear hb4 p0 p1 p2 p3 hf HS3 HS2;generalize hpp:p.past c z=p' at HS4 ⊢;have HPP:=hide hpp;clear hpp;unfold Pl.v;obtain⟨hf,p0,p1,p2,p3⟩:=HS4.out.plc.cells;have f0:=frozen_of_row w4 w.heap.size 0 _ _ HS4.out.plc;have f1:=frozen_of_row w4 w.heap.size 1 _ _ HS4.out.plc;have f2:=frozen_of_row w4 w.heap.size 2 _ _ HS4.out.plc;have f3:=frozen_of_row w4 w.heap.size 3 _ _ HS4.out.plc;have IP4:=hide ((HS4.out.place (p':=p')).itr);go_wp2;go_roundw
      case rel=>
       have hb':p'.b=p.b+z:=by rw[<-HPP.out];rfl
       refine⟨acc ++ [⟨c,p⟩],p',some ⟨g1,0,none⟩,cap1,by simp,?_,by rw[<-HPP.out];exact HP.out.past _ _ hd.1,by omega,by simp;omega,?_⟩
       ·have:=HS4.out.place (p':=p');rw[<-hb']at this;simpa using this
       ·intro gs e h;rw[List.append_assoc];refine HE.out _ _ ?_;exact HSG.out gs e hbad (by rw[<-HPP.out]at h;exact h)
      case measure=>
       rw[IP.out];unfold World.iterPos;rw[IP4.out];simp only;omega
  ·have hnext:=fun ty=>Lib.run_next_end_at (P:=Tryz.prog) wr (w.heap.size+1) s p.b ty HS.out.itr (by omega)
   obtain⟨hf,p0,p1,p2,p3⟩:=HS.out.plc.cells;have f0:=frozen_of_row wr w.heap.size 0 _ _ HS.out.plc;have f1:=frozen_of_row wr w.heap.size 1 _ _ HS.out.plc;have f2:=frozen_of_row wr w.heap.size 2 _ _ HS.out.plc;have f3:=frozen_of_row wr w.heap.size 3 _ _ HS.out.plc;have hlt':¬(p.b:Int)<(s.size:Int):=by omega
   go_wp2_with fail
   go_region
   go_wp2;refine bodyPost_ret (v:=_) (by simp[results,Tryz.results99,go_sem,p0,p1,p2,p3];try rfl) rfl ⟨acc,p,_,?_,rfl,((HS.out.place (p':=p)).below (by(repeat' first|with_reducible(first|exact Below.refl _ _|assumption|refine gdrewN ?_ _|refine Below.alloc ?_ ?_ _|refine Below.drew ?_|refine Below.setCell ?_ ?_ _)|go_size))).own,((HS.out.place (p':=p)).below (by(repeat' first|with_reducible(first|exact Below.refl _ _|assumption|refine gdrewN ?_ _|refine Below.alloc ?_ ?_ _|refine Below.drew ?_|refine Below.setCell ?_ ?_ _)|go_size))).bel⟩;have:=HE.out [] p (.stop p (.inl (by omega)));rwa[List.append_nil]at this
def tflat:List Tk->List Value
 | []=>[]
 |t::ts=>.int .i64 t.kind :: .string t.text :: .int .i64 t.pl.b :: .int .i64 t.pl.g :: .int .i64 t.pl.l :: .int .i64 t.pl.c::tflat ts
theorem adq(es fs:List Tk):tflat (es++fs)=tflat es++tflat fs:=by
 induction es with
 |nil=>rfl
 |cons e es ih=>simp[tflat,ih]
def plz:Pl:=⟨0,0,0,0⟩
theorem infoT:(Tryz.prog.info? 109).map (fun i=>(i.zero,i.size,i.bytes))=some (some (.agg #[.int .i64 0,.string ⟨#[]⟩,.int .i64 0,.int .i64 0,.int .i64 0,.int .i64 0]),6,56):=by kernel_rfl
structure ScS (w wr:World) (q f B:Nat) (s:ByteArray) (v:Value) (gs:List Gl) (i:Nat) (e:Pl) (ts:List Tk) (tv:Value):Prop where
 scn:Scn wr q s v gs i e
 own:wr.ownsRow B 109 6 tv ts.length (tflat ts)
 zer:PlB wr f plz
 bel:Below w.heap.size w wr
 siz:B<=wr.heap.size
 fw:w.heap.size<=f
 qw:w.heap.size<=q
 fq:f≠q
 fB:f<B
 qB:q<B
 vB:∀b off n c,v=.slice (some ⟨b,off,none⟩) n c->b<B
theorem ScS.below{w wr w':World}{q f B:Nat}{s:ByteArray}{v:Value}{gs:List Gl}{i:Nat}{e:Pl}{ts:List Tk}{tv:Value}(h:ScS w wr q f B s v gs i e ts tv)(hb:Below wr.heap.size wr w'):ScS w w' q f B s v gs i e ts tv:=
 ⟨h.scn.below hb,ab7 h.own hb,h.zer.below hb,h.bel.trans (hb.mono h.bel.size),Nat.le_trans h.siz hb.size,h.fw,h.qw,h.fq,h.fB,h.qB,h.vB⟩
theorem ScS.tq{w wr w':World}{q f B:Nat}{s:ByteArray}{v:Value}{gs:List Gl}{i j:Nat}{e:Pl}{ts:List Tk}{tv:Value}(h:ScS w wr q f B s v gs i e ts tv)(ht:Tq wr w' q)(hs:Scn w' q s v gs j e):ScS w w' q f B s v gs j e ts tv:=
 ⟨hs,ade h.own fun k _ hk he=>(ht.other k (aaa he) (by have:=h.qB;omega)).trans he,h.zer.tq ht h.fq,aes h.bel ht h.qw (Nat.le_refl _),Nat.le_trans h.siz ht.size,h.fw,h.qw,h.fq,h.fB,h.qB,h.vB⟩
theorem ScS.more{w wr w1:World}{q f B:Nat}{s:ByteArray}{v:Value}{gs:List Gl}{i:Nat}{e:Pl}{ts:List Tk}{tv tv':Value}{t:Tk}(h:ScS w wr q f B s v gs i e ts tv)(hg:wr.grownBy w1 tv.ownBlock)(hown:w1.ownsRow B 109 6 tv' (ts ++ [t]).length (tflat (ts ++ [t]))):ScS w w1 q f B s v gs i e (ts ++ [t]) tv':=by
 have hrow:∀k,k<B->some k≠tv.ownBlock:=by
  intro k hk;obtain⟨hl,⟨rfl,_⟩|⟨b,cap,cur,rfl,hb,_⟩⟩:=h.own
  ·simp[Value.ownBlock]
  ·simp only[Value.ownBlock,ne_eq,Option.some.injEq];omega
 have hz:=h.siz;have hB:∀k,k<B->w1.heap[k]? = wr.heap[k]? :=fun k hk=>hg.block k (by omega) (hrow k hk)
 have hGs:Gs w1 v gs:=by
  obtain⟨ao,cap,rfl,h1,h2,h3,h4⟩:=h.scn.gls;refine⟨ao,cap,rfl,h1,h2,h3,?_⟩;rcases h4 with h4|⟨b,off,rfl,hl,hc⟩
  ·exact .inl h4
  ·refine .inr ⟨b,off,rfl,Nat.lt_of_lt_of_le hl hg.size,fun j u hu=>?_⟩;rw[World.cell?_of_block (w:=wr) (hB b (h.vB _ _ _ _ rfl))];exact hc j u hu
 exact⟨⟨(hB q h.qB).trans h.scn.blk,hGs,h.scn.le,h.scn.apt⟩,hown,(hB f h.fB).trans h.zer,⟨hg.os.trans h.bel.os,hg.tape.trans h.bel.tape,hg.output.trans h.bel.output,Nat.le_trans h.bel.size hg.size,fun k hk=>(hB k (by have:=h.fw;have:=h.fB;omega)).trans (h.bel.block k hk)⟩,Nat.le_trans h.siz hg.size,h.fw,h.qw,h.fq,h.fB,h.qB,h.vB⟩
def ScanO(w w':World)(r:Ending):SO->Prop
 |.bad k p=>r=.returned (.tuple #[.slice none 0 0,.int .i64 k,p.v])
 |.ok l=>∃v,r=.returned (.tuple #[v,.int .i64 0,plz.v])/\w'.ownsRow w.heap.size 109 6 v l.length (tflat l)
theorem alp(o:SO):o.pres []=o:=by cases o <;> rfl
theorem alq(ts:List Tk)(t:Tk)(o:SO):(o.pre t).pres ts=o.pres (ts ++ [t]):=by
 cases o with
 |bad k p=>rfl
 |ok l=>simp[SO.pre,SO.pres]
theorem ata(w:World)(s:ByteArray)(hs:4096<s.size):
  Calls Tryz.prog 61 #[.string s] w fun r w'=>Below w.heap.size w w'/\r=.returned (.tuple #[.slice none 0 0,.int .i64 2,plz.v]):=by
 have hs':(4096:Int)<(s.size:Int):=by omega
 go_enter Tryz.func61,Tryz.ntmps61
 go_wp2;refine bodyPost_ret (v:=_) (by simp[results,Tryz.results61,go_sem];try rfl) rfl ⟨?_,rfl⟩
 (repeat' first|with_reducible(first|exact Below.refl _ _|assumption|refine gdrewN ?_ _|refine Below.alloc ?_ ?_ _|refine Below.drew ?_|refine Below.setCell ?_ ?_ _)|go_size)
theorem aet{w:World}{f:Nat}{p p':Pl}(h:PlB w f p):PlB ((((w.setCell ⟨f,0,none⟩ (.int .i64 p'.b)).setCell ⟨f,1,none⟩ (.int .i64 p'.g)).setCell ⟨f,2,none⟩ (.int .i64 p'.l)).setCell ⟨f,3,none⟩ (.int .i64 p'.c)) f p':=by
 unfold PlB;rw[heap_setCell_same _ _ 3 _ _ _ (heap_setCell_same _ _ 2 _ _ _ (heap_setCell_same _ _ 1 _ _ _ (heap_setCell_same _ _ 0 _ _ _ h)))];simp
theorem aef{B f:Nat}{w w':World}(h:Below B w w')(hf:B<=f)(u0 u1 u2 u3:Value):Below B w ((((w'.setCell ⟨f,0,none⟩ u0).setCell ⟨f,1,none⟩ u1).setCell ⟨f,2,none⟩ u2).setCell ⟨f,3,none⟩ u3):=
 (((h.setCell hf _).setCell hf _).setCell hf _).setCell hf _
theorem atb{w w1:World}{s:ByteArray}{ao:Option Addr}{cap:Nat}{gs:List Gl}{e:Pl}(HOWN:w1.ownsRow (w.heap.size+2+2) 184 6 (.slice ao gs.length cap) gs.length (gflat gs))(HQB:w1.heap[w.heap.size+1]? = some (.cells #[.string s,.slice none 0 0,.int .i64 0,.int .i64 0,.int .i64 0,.int .i64 0,.int .i64 0] 147 (0,0)))(HFB:PlB w1 w.heap.size plz)(HB1:Below w.heap.size w w1)(hs1:w.heap.size+2<=w1.heap.size):
  ScS w (((((w1.setCell ⟨w.heap.size+1,1,none⟩ (.slice ao gs.length cap)).setCell ⟨w.heap.size+1,3,none⟩ (.int .i64 e.b)).setCell ⟨w.heap.size+1,4,none⟩ (.int .i64 e.g)).setCell ⟨w.heap.size+1,5,none⟩ (.int .i64 e.l)).setCell ⟨w.heap.size+1,6,none⟩ (.int .i64 e.c)) (w.heap.size+1) w.heap.size w1.heap.size s (.slice ao gs.length cap) gs 0 e [] (.slice none 0 0):=by
 have ht:Tq w1 (((((w1.setCell ⟨w.heap.size+1,1,none⟩ (.slice ao gs.length cap)).setCell ⟨w.heap.size+1,3,none⟩ (.int .i64 e.b)).setCell ⟨w.heap.size+1,4,none⟩ (.int .i64 e.g)).setCell ⟨w.heap.size+1,5,none⟩ (.int .i64 e.l)).setCell ⟨w.heap.size+1,6,none⟩ (.int .i64 e.c)) (w.heap.size+1):=(Tq.refl _ _).set 1 _ |>.set 3 _ |>.set 4 _ |>.set 5 _ |>.set 6 _;have hap:∀b off n c,Value.slice ao gs.length cap=.slice (some ⟨b,off,none⟩) n c->b≠w.heap.size+1/\b<w1.heap.size:=by
  intro b off n c hv;obtain⟨hl,⟨h1,_⟩|⟨g,cap',cur,h1,hb,hh,_⟩⟩:=HOWN
  ·rw[h1]at hv;cases hv
  ·rw[h1]at hv;simp only[Value.slice.injEq,Option.some.injEq,Addr.mk.injEq]at hv;have:=aaa hh;omega
 refine⟨⟨?_,Gs.tq (Ce.own HOWN) ht (fun b off n c hv=>(hap b off n c hv).1),Nat.zero_le _,fun b off n c hv=>(hap b off n c hv).1⟩,World.ownsRow_nil _ _ _ _,HFB.tq ht (by omega),aes HB1 ht (by omega) (Nat.le_refl _),ht.size,Nat.le_refl _,by omega,by omega,by omega,by omega,fun b off n c hv=>(hap b off n c hv).2⟩;rw[heap_setCell_same _ _ 6 _ _ _ (heap_setCell_same _ _ 5 _ _ _ (heap_setCell_same _ _ 4 _ _ _ (heap_setCell_same _ _ 3 _ _ _ (heap_setCell_same _ _ 1 _ _ _ HQB))))];simp
theorem ait(w:World)(s:ByteArray)(hT:Tabs w)(hs:s.size<=4096):
  Calls Tryz.prog 61 #[.string s] w fun r w'=>Below w.heap.size w w'/\∃gs e o,Snd s pl0 gs e/\ScanR s e gs o/\ScanO w w' r o:=by
 have hs':decide ((4096:Int)<(s.size:Int))=false:=by simp;omega
 go_enter Tryz.func61,Tryz.ntmps61
 go_wp2_with fail
 refine(as9 _ _ (hT.below (by(repeat' first|with_reducible(first|exact Below.refl _ _|assumption|refine gdrewN ?_ _|refine Below.alloc ?_ ?_ _|refine Below.drew ?_|refine Below.setCell ?_ ?_ _)|go_size))) hs).mono ?_;rintro r w1 ⟨gs,e,v,hQ,rfl,hown,hb1⟩;obtain⟨ao,cap,rfl⟩:=as8 hown;have hsz0:((w.alloc (.cells #[.int .i64 0,.int .i64 0,.int .i64 0,.int .i64 0] 56)).alloc (.cells #[.string s,.slice none 0 0,.int .i64 0,.int .i64 0,.int .i64 0,.int .i64 0,.int .i64 0] 147)).heap.size=w.heap.size+2:=by simp[World.size_alloc]
 have hbq:=hb1;rw[hsz0]at hown hbq;have hqb:w1.heap[w.heap.size+1]? = some (.cells #[.string s,.slice none 0 0,.int .i64 0,.int .i64 0,.int .i64 0,.int .i64 0,.int .i64 0] 147 (0,0)):=by
  rw[hbq.block (w.heap.size+1) (by omega)];have:=heap_alloc_new (w.alloc (.cells #[.int .i64 0,.int .i64 0,.int .i64 0,.int .i64 0] 56)) (.cells #[.string s,.slice none 0 0,.int .i64 0,.int .i64 0,.int .i64 0,.int .i64 0,.int .i64 0] 147);rwa[World.size_alloc]at this
 have hfb:PlB w1 w.heap.size plz:=by
  unfold PlB;rw[hbq.block w.heap.size (by omega)];exact(((Below.refl _ _).alloc (Nat.le_refl _) (.cells #[.string s,.slice none 0 0,.int .i64 0,.int .i64 0,.int .i64 0,.int .i64 0,.int .i64 0] 147)).block w.heap.size (by simp[World.size_alloc])).trans (heap_alloc_new w (.cells #[.int .i64 0,.int .i64 0,.int .i64 0,.int .i64 0] 56))
 have hb1w:Below w.heap.size w w1:=(ach w _ _).trans (hbq.mono (by omega));have hs1:w.heap.size+2<=w1.heap.size:=by have:=hbq.size;rwa[hsz0]at this
 have HOWN:=hide hown;have HQB:=hide hqb;have HFB:=hide hfb;have HB1:=hide hb1w;have HQ:=hide hQ;have k1:w1.cell? ⟨w.heap.size+1,1,none⟩=some (.slice none 0 0):=by rw[cell_of_row w1 _ 1 _ _ _ hqb];rfl
 have k3:w1.cell? ⟨w.heap.size+1,3,none⟩=some (.int .i64 0):=by rw[cell_of_row w1 _ 3 _ _ _ hqb];rfl
 have k4:w1.cell? ⟨w.heap.size+1,4,none⟩=some (.int .i64 0):=by rw[cell_of_row w1 _ 4 _ _ _ hqb];rfl
 have k5:w1.cell? ⟨w.heap.size+1,5,none⟩=some (.int .i64 0):=by rw[cell_of_row w1 _ 5 _ _ _ hqb];rfl
 have k6:w1.cell? ⟨w.heap.size+1,6,none⟩=some (.int .i64 0):=by rw[cell_of_row w1 _ 6 _ _ _ hqb];rfl
 have f1:=frozen_of_row w1 (w.heap.size+1) 1 _ _ hqb;have f3:=frozen_of_row w1 (w.heap.size+1) 3 _ _ hqb;have f4:=frozen_of_row w1 (w.heap.size+1) 4 _ _ hqb;have f5:=frozen_of_row w1 (w.heap.size+1) 5 _ _ hqb;have f6:=frozen_of_row w1 (w.heap.size+1) 6 _ _ hqb;clear hown hbq hqb hfb hb1 hb1w hsz0 hQ hT;unfold Pl.v;go_wp2_with fail
 have hS0:=atb (e:=e) HOWN.out HQB.out HFB.out HB1.out hs1;clear k1 k3 k4 k5 k6 f1 f3 f4 f5 f6 HOWN HQB HFB HB1;generalize (((((w1.setCell ⟨w.heap.size+1,1,none⟩ (.slice ao gs.length cap)).setCell ⟨w.heap.size+1,3,none⟩ (.int .i64 e.b)).setCell ⟨w.heap.size+1,4,none⟩ (.int .i64 e.g)).setCell ⟨w.heap.size+1,5,none⟩ (.int .i64 e.l)).setCell ⟨w.heap.size+1,6,none⟩ (.int .i64 e.c))=w2 at hS0 ⊢;generalize w1.heap.size=B at hS0 hs1;have hends:=HQ.out.ends ad5 (Nat.zero_le _);have hgl:gs.length<=4096:=by simp only[pl0]at hends;omega
 have heb:e.b<=s.size:=hends.2.2.1;clear hends;refine(ali w2 _ s _ gs 0 e hS0.scn (by omega)).mono ?_;rintro r w3 ⟨rfl,ht3,j0,_,hdj0,hS3⟩;have HS:=hide (hS0.tq ht3 hS3);rw[List.drop_zero]at hdj0;have HD0:=hide hdj0;clear hS0 ht3 hS3 hdj0;generalize hq:w.heap.size+1=q at *
 generalize hf:w.heap.size=f at *
 replace hf:w.heap.size<=f:=by omega
 go_wp2;have hqf:q≠f:=by omega
 have hfq:f≠q:=by omega
 clear hq;obtain⟨i0,hi0,hz0,hz1,hz2⟩:=ag1 infoT;go_loopw [6] (fun tv wr=>∃(ts:List Tk) (i:Nat) (ta:Option Addr) (tc:Nat) (rest:List Gl),tv=.slice ta ts.length tc/\ScS w wr q f B s (.slice ao gs.length cap) gs i e ts (.slice ta ts.length tc)/\ts.length<=i/\gs.drop i=skp false rest/\∀o,ScanR s e rest o->ScanR s e gs (o.pres ts)) (fun _ wr=>gs.length-nxtS wr q)
 case atStart=>exact⟨[],j0,none,0,gs,rfl,HS.out,Nat.zero_le _,HD0.out,fun o h=>by rw[alp];exact h⟩
 case round=>
  clear HS HD0;obtain⟨ts,i,ta,tc,rest,rfl,hS,hti,hdi,hpre⟩:=hrel;have HS:=hide hS;have HE:=hide hpre;have HDI:=hide hdi;have IP:=hide hS.scn.nxt;have hil:=hS.scn.le;obtain⟨hq,k0,k1,k2,k3,k4,k5,k6⟩:=hS.scn.cells;clear hS hpre hdi;by_cases hj:i<gs.length
  ·have hj':(i:Int)<(gs.length:Int):=by omega
   have hgi:gs[i]? = some (gs[i]'hj):=List.getElem?_eq_getElem hj;have hdr:=List.drop_eq_getElem_cons hj;generalize gs[i]'hj=g at hgi hdr;have HG:=hide hgi;have HDR:=hide hdr;clear hgi hdr;go_wp2_with fail
   go_quiet (fail)
   have HS1:=hide (HS.out.below (gdrewN (Below.refl _ _) nq));clear HS k0 k1 k2 k3 k4 k5 k6 hq;generalize wr.drewN nq=w1 at HS1 ⊢;go_wp2_with fail
   refine(ae3 w1 q s _ gs i e HS1.out.scn).mono ?_;rintro r w2 ⟨rfl,hb2⟩;have HS2:=hide (HS1.out.below hb2);rw[HDR.out];simp only[plf];clear hb2 HS1;unfold Pl.v;go_wp2_with fail
   have HS3:=hide (HS2.out.below ((Below.refl _ _).alloc (Nat.le_refl _) (.cells #[.int .i64 g.pl.b,.int .i64 g.pl.g,.int .i64 g.pl.l,.int .i64 g.pl.c] 56)));have hp3:PlB (w2.alloc (.cells #[.int .i64 g.pl.b,.int .i64 g.pl.g,.int .i64 g.pl.l,.int .i64 g.pl.c] 56)) w2.heap.size g.pl:=heap_alloc_new w2 _;have ha3:w2.heap.size≠q/\w2.heap.size≠f:=by have:=HS2.out.siz;have:=HS2.out.qB;have:=HS2.out.fB;omega
   clear HS2;generalize w2.alloc (.cells #[.int .i64 g.pl.b,.int .i64 g.pl.g,.int .i64 g.pl.l,.int .i64 g.pl.c] 56)=w3 at HS3 hp3 ⊢;generalize w2.heap.size=a7 at ha3 hp3 ⊢;have HP3:=hide hp3;clear hp3;refine(as6 w3 q s _ gs i e HS3.out.scn (by omega) HQ.out hs g HG.out).mono ?_;rintro r w4 ⟨o,ho,hO⟩;obtain⟨kd,tx,kk,rfl,hV⟩:=hO.v;have HV:=hide hV;have HO:=hide ho;have HP4:=hide (HP3.out.tq hV.tq ha3.1);have HZ4:=hide (HS3.out.zer.tq hV.tq hfq);have HB4:=hide (aes HS3.out.bel hV.tq HS3.out.qw (Nat.le_refl _));clear hO hV ho HP3;obtain⟨hf7,p0,p1,p2,p3⟩:=HP4.out.cells;by_cases hk:kk=0
   ·subst hk;cases o with
    |bad k=>
     exfalso;obtain⟨h1,h2,_⟩:=HV.out.out;simp only[tok0,Ending.returned.injEq,Value.tuple.injEq,Array.mk.injEq,List.cons.injEq,Value.int.injEq,true_and,and_true]at h2;exact h1 h2.2.symm
    |ok kind text rest'=>
     obtain⟨h2,hT4,j,hij,hdj,hS4⟩:=HV.out.out;simp only[Ending.returned.injEq,Value.tuple.injEq,Array.mk.injEq,List.cons.injEq,Value.int.injEq,Value.agg.injEq,Value.string.injEq,true_and,and_true]at h2;obtain⟨rfl,rfl⟩:=h2;have HS4:=hide (HS3.out.tq hT4 hS4);have HDJ:=hide hdj;clear hT4 hS4 hdj HS3 HV HZ4 HB4;have hone:∀u∈([.int .i64 kd,.string tx,.int .i64 g.pl.b,.int .i64 g.pl.g,.int .i64 g.pl.l,.int .i64 g.pl.c]:List Value),u.oneCell'=true:=by
      intro u hu;simp only[List.mem_cons,List.not_mem_nil,or_false]at hu;rcases hu with rfl|rfl|rfl|rfl|rfl|rfl <;> rfl
     have hown:=ab7 (ab7 HS4.out.own ((Below.refl _ _).alloc (Nat.le_refl _) (.cells #[.int .i64 kd,.string tx,.int .i64 g.pl.b,.int .i64 g.pl.g,.int .i64 g.pl.l,.int .i64 g.pl.c] 109))) ((Below.refl _ _).alloc (Nat.le_refl _) (.cells #[.int .i64 kd,.string tx,.int .i64 g.pl.b,.int .i64 g.pl.g,.int .i64 g.pl.l,.int .i64 g.pl.c] 109));have hsz:=HS4.out.siz;go_wp2_with (at_builtin;refine wpList_append_lies _ rfl (.tmp 55) (.tmp 57) 99 rfl B 109 i0 _ 6 56 Tryz.underlying99 hi0 hz0 hz1 hz2 rfl (by decide) (.slice ta ts.length tc) ts.length (tflat ts) (by simp[Act.eval]) hown ⟨w4.heap.size+1,0,none⟩ 1 1 [.int .i64 kd,.string tx,.int .i64 g.pl.b,.int .i64 g.pl.g,.int .i64 g.pl.l,.int .i64 g.pl.c] (by simp[Act.eval]) rfl (by have:=World.news_of_block (heap_alloc_new (w4.alloc (.cells #[.int .i64 kd,.string tx,.int .i64 g.pl.b,.int .i64 g.pl.g,.int .i64 g.pl.l,.int .i64 g.pl.c] 109)) (.cells #[.int .i64 kd,.string tx,.int .i64 g.pl.b,.int .i64 g.pl.g,.int .i64 g.pl.l,.int .i64 g.pl.c] 109));rwa[World.size_alloc]at this) hone (by omega) (by unfold maxLen;omega) (by omega) (by simp[World.size_alloc];omega) _ rfl ?_;intro g1 cap1 w5 hown5 hgrow5 hat5 hlt5)
     have HS5:=hide ((HS4.out.below (ach _ _ _)).more (t:=⟨kd,tx,g.pl⟩) hgrow5 (by simpa[adq,tflat]using hown5));clear hown5 hgrow5 hat5 hlt5 hown hone hsz HS4;refine(ali w5 q s _ gs j e HS5.out.scn (by omega)).mono ?_;rintro r w6 ⟨rfl,ht6,j6,hj6,hdj6,hS6⟩;have HS6:=hide (HS5.out.tq ht6 hS6);have HD6:=hide hdj6;clear ht6 hS6 hdj6 HS5;go_wp2;go_roundw
     case rel=>
      refine⟨ts ++ [⟨kd,tx,g.pl⟩],j6,some ⟨g1,0,none⟩,cap1,rest',by simp,?_,by simp;omega,by rw[HD6.out,HDJ.out],?_⟩
      ·have:=HS6.out;simpa using this
      ·intro o ho;have h1:=HE.out _ (ScanR.tok rest g (gs.drop (i+1)) kd tx rest' o (by rw[<-HDI.out,HDR.out]) HO.out ho);rwa[alq]at h1
     case measure=>rw[IP.out,HS6.out.scn.nxt];have:=HS6.out.scn.le;omega
   ·have hk':(kk != 0)=true:=by simp[hk]
    cases o with
    |ok kind text rest'=>
     exfalso;obtain⟨h2,_⟩:=HV.out.out;simp only[Ending.returned.injEq,Value.tuple.injEq,Array.mk.injEq,List.cons.injEq,Value.int.injEq,Value.agg.injEq,Value.string.injEq,true_and,and_true]at h2;exact hk h2.2
    |bad k=>
     obtain⟨h1,h2,_⟩:=HV.out.out;simp only[tok0,Ending.returned.injEq,Value.tuple.injEq,Array.mk.injEq,List.cons.injEq,Value.int.injEq,Value.agg.injEq,Value.string.injEq,true_and,and_true]at h2;have hkk:kk=k:=h2.2;have HKK:=hide hkk;clear h2 hkk HV;obtain⟨hff,y0,y1,y2,y3⟩:=HZ4.out.cells;have f0:=frozen_of_row w4 f 0 _ _ HZ4.out;have f1:=frozen_of_row w4 f 1 _ _ HZ4.out;have f2:=frozen_of_row w4 f 2 _ _ HZ4.out;have f3:=frozen_of_row w4 f 3 _ _ HZ4.out;go_wp2_with fail
     go_region
     go_wp2;have hX:PlB ((((((w4.setCell ⟨f,0,none⟩ (.int .i64 g.pl.b)).setCell ⟨f,1,none⟩ (.int .i64 g.pl.g)).setCell ⟨f,2,none⟩ (.int .i64 g.pl.l)).setCell ⟨f,3,none⟩ (.int .i64 g.pl.c)).alloc (.cells #[.int .i64 kd,.string tx,.int .i64 0,.int .i64 0,.int .i64 0,.int .i64 0] 109)).drew) f g.pl:=(aet HZ4.out).below (((Below.refl _ _).alloc (Nat.le_refl _) _).drew);have hXB:Below w.heap.size w ((((((w4.setCell ⟨f,0,none⟩ (.int .i64 g.pl.b)).setCell ⟨f,1,none⟩ (.int .i64 g.pl.g)).setCell ⟨f,2,none⟩ (.int .i64 g.pl.l)).setCell ⟨f,3,none⟩ (.int .i64 g.pl.c)).alloc (.cells #[.int .i64 kd,.string tx,.int .i64 0,.int .i64 0,.int .i64 0,.int .i64 0] 109)).drew):=((aef HB4.out hf _ _ _ _).alloc (by have:=HB4.out.size;simpa[World.setCell]using this) _).drew;generalize ((((((w4.setCell ⟨f,0,none⟩ (.int .i64 g.pl.b)).setCell ⟨f,1,none⟩ (.int .i64 g.pl.g)).setCell ⟨f,2,none⟩ (.int .i64 g.pl.l)).setCell ⟨f,3,none⟩ (.int .i64 g.pl.c)).alloc (.cells #[.int .i64 kd,.string tx,.int .i64 0,.int .i64 0,.int .i64 0,.int .i64 0] 109)).drew)=wf at hX hXB ⊢;obtain⟨_,x0,x1,x2,x3⟩:=hX.cells;refine bodyPost_ret (v:=_) (by simp[results,Tryz.results61,go_sem,x0,x1,x2,x3];try rfl) rfl ⟨hXB,gs,e,.bad k g.pl,HQ.out,HE.out _ (ScanR.bad rest g (gs.drop (i+1)) k (by rw[<-HDI.out,HDR.out]) HO.out),?_⟩;show _=_;rw[HKK.out];rfl
  ·have hdr:gs.drop i = []:=List.drop_eq_nil_of_le (by omega);rw[hdr]at HDI;have hj':decide ((i:Int)<(gs.length:Int))=false:=by simp;omega
   clear hdr;by_cases hbe:e.b<s.size
   ·have hbe':(e.b:Int)<(s.size:Int):=by omega
    obtain⟨hff,y0,y1,y2,y3⟩:=HS.out.zer.cells;have f0:=frozen_of_row wr f 0 _ _ HS.out.zer;have f1:=frozen_of_row wr f 1 _ _ HS.out.zer;have f2:=frozen_of_row wr f 2 _ _ HS.out.zer;have f3:=frozen_of_row wr f 3 _ _ HS.out.zer;go_wp2_with fail
    go_quiet (fail)
    go_wp2_with fail
    go_region
    go_wp2;refine bodyPost_ret (v:=_) (by simp[results,Tryz.results61,go_sem,y0,y1,y2,y3];try rfl) rfl ⟨?_,gs,e,.bad 40 e,HQ.out,HE.out _ (ScanR.rune rest HDI.out.symm hbe),rfl⟩;have hB:=HS.out.bel
    (repeat' first|with_reducible(first|exact Below.refl _ _|assumption|refine gdrewN ?_ _|refine Below.alloc ?_ ?_ _|refine Below.drew ?_|refine Below.setCell ?_ ?_ _)|go_size)
   ·have hbe':decide ((e.b:Int)<(s.size:Int))=false:=by simp;omega
    have hone:∀u∈([.int .i64 0,.string ⟨#[]⟩,.int .i64 e.b,.int .i64 e.g,.int .i64 e.l,.int .i64 e.c]:List Value),u.oneCell'=true:=by
     intro u hu;simp only[List.mem_cons,List.not_mem_nil,or_false]at hu;rcases hu with rfl|rfl|rfl|rfl|rfl|rfl <;> rfl
    go_wp2_with fail
    go_quiet (fail)
    have HS1:=hide (HS.out.below (gdrewN (Below.refl _ _) nq));clear HS k0 k1 k2 k3 k4 k5 k6 hq;generalize wr.drewN nq=w1 at HS1 ⊢;obtain⟨hq,k0,k1,k2,k3,k4,k5,k6⟩:=HS1.out.scn.cells;have hown:=ab7 HS1.out.own ((Below.refl _ _).alloc (Nat.le_refl _) (.cells #[.int .i64 0,.string ⟨#[]⟩,.int .i64 e.b,.int .i64 e.g,.int .i64 e.l,.int .i64 e.c] 109));have hsz:=HS1.out.siz;go_wp2_with (at_builtin;refine wpList_append_lies _ rfl (.tmp 71) (.tmp 77) 99 rfl B 109 i0 _ 6 56 Tryz.underlying99 hi0 hz0 hz1 hz2 rfl (by decide) (.slice ta ts.length tc) ts.length (tflat ts) (by simp[Act.eval]) hown ⟨w1.heap.size,0,none⟩ 1 1 [.int .i64 0,.string ⟨#[]⟩,.int .i64 e.b,.int .i64 e.g,.int .i64 e.l,.int .i64 e.c] (by simp[Act.eval]) rfl (World.news_of_block (heap_alloc_new w1 (.cells #[.int .i64 0,.string ⟨#[]⟩,.int .i64 e.b,.int .i64 e.g,.int .i64 e.l,.int .i64 e.c] 109))) hone (by omega) (by unfold maxLen;omega) (by omega) (by simp[World.size_alloc];omega) _ rfl ?_;intro g1 cap1 w5 hown5 hgrow5 hat5 hlt5;have HS5:=hide ((HS1.out.below ((Below.refl _ _).alloc (Nat.le_refl _) _)).more (t:=⟨0,⟨#[]⟩,e⟩) hgrow5 (by simpa[adq,tflat]using hown5));obtain⟨hff,y0,y1,y2,y3⟩:=HS5.out.zer.cells;have f0:=frozen_of_row w5 f 0 _ _ HS5.out.zer;have f1:=frozen_of_row w5 f 1 _ _ HS5.out.zer;have f2:=frozen_of_row w5 f 2 _ _ HS5.out.zer;have f3:=frozen_of_row w5 f 3 _ _ HS5.out.zer;clear hown5 hgrow5 hat5 hlt5)
    refine bodyPost_ret (v:=.tuple #[.slice (some ⟨g1,0,none⟩) (ts.length+1) cap1,.int .i64 0,plz.v]) (by simp[results,Tryz.results61,go_sem,y0,y1,y2,y3,plz,Pl.v]) rfl ⟨?_,gs,e,.ok (ts ++ [(⟨0,⟨#[]⟩,e⟩:Tk)]),HQ.out,HE.out _ (ScanR.done rest HDI.out.symm (by omega)),_,rfl,?_⟩
    ·have hB:=HS5.out.bel
     (repeat' first|with_reducible(first|exact Below.refl _ _|assumption|refine gdrewN ?_ _|refine Below.alloc ?_ ?_ _|refine Below.drew ?_|refine Below.setCell ?_ ?_ _)|go_size)
    ·have e5:(ts ++ [(⟨0,⟨#[]⟩,e⟩:Tk)]).length=ts.length+1:=by simp
     have h5:=HS5.out.own;rw[e5]at h5 ⊢;refine aln (ade h5 ?_) (show w.heap.size<=B by omega);intro k o hk he;have hkf:k≠f:=by omega
     rw[heap_setCell_other _ ⟨f,3,none⟩ k _ hkf,heap_setCell_other _ ⟨f,2,none⟩ k _ hkf,heap_setCell_other _ ⟨f,1,none⟩ k _ hkf,heap_setCell_other _ ⟨f,0,none⟩ k _ hkf];exact he
theorem abw{s:ByteArray}{p e:Pl}{gs:List Gl}{c k:Nat}(h:p.b<s.size)(hd:Utf8.decode s p.b=(c,k))(hc:(c,k)≠(65533,1))(hr:Snd s (p.past c k) gs e):Snd s p (⟨c,p⟩::gs) e:=by
 have:=Snd.go p gs e h (by rw[hd];exact hc) (by rw[hd];exact hr);rwa[hd]at this
theorem af0{s:ByteArray}{e:Pl}{g:Gl}{r t:List Gl}{x:ByteArray}(h:gcls g.code=2)(ht:(g::r).dropWhile (inC [2,3,4])=t)(hl:¬16<(g::r).length-t.length)(hx:s.extract g.pl.b (plf t e).b=x):TokR s e g r (.ok 1 x t):=by
 have:=ae4 (s:=s) (e:=e) (r:=r) h;rwa[ht,if_neg hl,hx]at this
def Ts(w:World)(v:Value)(l:List Tk):Prop:=Ce w v 6 l.length (tflat l)
theorem Ts.below{w w':World}{v:Value}{l:List Tk}(h:Ts w v l)(hb:Below w.heap.size w w'):Ts w' v l:=Ce.below h hb
theorem av5{l:List Tk}{i:Nat}{t:Tk}(h:l[i]? = some t):(tflat l)[i*6]? = some (.int .i64 t.kind)/\(tflat l)[i*6+1]? = some (.string t.text)/\(tflat l)[i*6+2]? = some (.int .i64 t.pl.b)/\(tflat l)[i*6+3]? = some (.int .i64 t.pl.g)/\(tflat l)[i*6+4]? = some (.int .i64 t.pl.l)/\(tflat l)[i*6+5]? = some (.int .i64 t.pl.c):=by
 induction l generalizing i with
 |nil=>simp at h
 |cons u l ih=>
  cases i with
  |zero=>
   simp at h;subst h;simp[tflat]
  |succ i=>
   have:=ih (i:=i) (by simpa using h);simp only[tflat,show(i+1)*6=i*6+6 from by omega];simpa using this
structure TkC (w:World) (b o:Nat) (t:Tk):Prop where
 hb:b<w.heap.size
 g0:w.cell? ⟨b,o,none⟩=some (.int .i64 t.kind)
 g1:w.cell? ⟨b,o+1,none⟩=some (.string t.text)
 g2:w.cell? ⟨b,o+2,none⟩=some (.int .i64 t.pl.b)
 g3:w.cell? ⟨b,o+3,none⟩=some (.int .i64 t.pl.g)
 g4:w.cell? ⟨b,o+4,none⟩=some (.int .i64 t.pl.l)
 g5:w.cell? ⟨b,o+5,none⟩=some (.int .i64 t.pl.c)
theorem TkC.below{w w':World}{b o:Nat}{t:Tk}(h:TkC w b o t)(hb:Below w.heap.size w w'):TkC w' b o t:=
 ⟨Nat.lt_of_lt_of_le h.hb hb.size,(hb.cell (p:=⟨b,o,none⟩) h.hb).trans h.g0,(hb.cell (p:=⟨b,o+1,none⟩) h.hb).trans h.g1,(hb.cell (p:=⟨b,o+2,none⟩) h.hb).trans h.g2,(hb.cell (p:=⟨b,o+3,none⟩) h.hb).trans h.g3,(hb.cell (p:=⟨b,o+4,none⟩) h.hb).trans h.g4,(hb.cell (p:=⟨b,o+5,none⟩) h.hb).trans h.g5⟩
theorem Ts.tok{w:World}{ao:Option Addr}{n cap:Nat}{l:List Tk}{i:Nat}{t:Tk}(h:Ts w (.slice ao n cap) l)(hg:l[i]? = some t):∃b off,ao=some ⟨b,off,none⟩/\TkC w b (off+i*6) t:=by
 obtain⟨ao',cap',hv,c1,c2,c3,c4⟩:=h;obtain⟨rfl,rfl,rfl⟩:=(Value.slice.injEq .. ▸ hv);have hk:i<l.length:=(List.getElem?_eq_some_iff.1 hg).1;rcases c4 with c4|⟨b,off,rfl,hl,hc⟩
 ·omega
 ·obtain⟨f0,f1,f2,f3,f4,f5⟩:=av5 hg;exact⟨b,off,rfl,hl,hc _ _ f0,hc _ _ f1,hc _ _ f2,hc _ _ f3,hc _ _ f4,hc _ _ f5⟩
theorem Ts.parts{w:World}{v:Value}{l:List Tk}(h:Ts w v l):∃ao cap,v=.slice ao l.length cap/\l.length<=9223372036854775807:=by
 obtain⟨ao,cap,rfl,c1,c2,c3,c4⟩:=h;exact⟨ao,cap,rfl,by omega⟩
theorem Ts.own{w:World}{base:Nat}{v:Value}{l:List Tk}(h:w.ownsRow base 109 6 v l.length (tflat l)):Ts w v l:=Ce.own h
structure Rc (q b:Nat) (w w':World):Prop where
 os:w'.os=w.os
 tape:w'.tape=w.tape
 output:w'.output=w.output
 size:w.heap.size<=w'.heap.size
 other:∀k,k<w.heap.size->k≠q->k≠b->w'.heap[k]? = w.heap[k]?
 ru:Ru w w'
theorem Rc.refl(q b:Nat)(w:World):Rc q b w w:=⟨rfl,rfl,rfl,Nat.le_refl _,fun _ _ _ _=>rfl,Ru.refl w⟩
theorem Rc.of_below{q b:Nat}{w w':World}(h:Below w.heap.size w w'):Rc q b w w':=⟨h.os,h.tape,h.output,h.size,fun k hk _ _=>h.block k hk,Ru.of_below h⟩
theorem Rc.trans{q b:Nat}{w w' w'':World}(h:Rc q b w w')(h':Rc q b w' w''):Rc q b w w'':=⟨h'.os.trans h.os,h'.tape.trans h.tape,h'.output.trans h.output,Nat.le_trans h.size h'.size,fun k hk h1 h2=>(h'.other k (Nat.lt_of_lt_of_le hk h.size) h1 h2).trans (h.other k hk h1 h2),h.ru.trans h'.ru⟩
theorem Rc.wide{q b:Nat}{w w':World}(h:Rc q q w w'):Rc q b w w':=⟨h.os,h.tape,h.output,h.size,fun k hk h1 _=>h.other k hk h1 h1,h.ru⟩
theorem Rc.wideR{q b:Nat}{w w':World}(h:Rc b b w w'):Rc q b w w':=⟨h.os,h.tape,h.output,h.size,fun k hk _ h1=>h.other k hk h1 h1,h.ru⟩
theorem Rc.below{q b:Nat}{w w':World}{B:Nat}(h:Rc q b w w')(hB:B<=w.heap.size)(hq:B<=q)(hb:B<=b):Below B w w':=⟨h.os,h.tape,h.output,h.size,fun k hk=>h.other k (by omega) (by omega) (by omega)⟩
theorem Ce.rc{q b:Nat}{w w':World}{v:Value}{size n:Nat}{xs:List Value}(h:Ce w v size n xs)(hr:Rc q b w w')(ha:0<n->∀b' off n c,v=.slice (some ⟨b',off,none⟩) n c->b'≠q/\b'≠b):Ce w' v size n xs:=by
 obtain⟨ao,cap,rfl,h1,h2,h3,h4⟩:=h;refine⟨ao,cap,rfl,h1,h2,h3,?_⟩;by_cases hn0:n=0
 ·exact .inl hn0
 rcases h4 with h4|⟨b',off,rfl,hl,hc⟩
 ·exact .inl h4
 ·obtain⟨n1,n2⟩:=ha (by omega) _ _ _ _ rfl;refine .inr ⟨b',off,rfl,Nat.lt_of_lt_of_le hl hr.size,fun j u hu=>?_⟩;rw[World.cell?_of_block (w:=w) (hr.other b' hl n1 n2)];exact hc j u hu
structure Rea (w:World) (q b:Nat) (tv uv:Value) (l:List Tk) (vs:List ByteArray) (i:Nat):Prop where
 blk:w.heap[q]? = some (.cells #[tv,.int .i64 i,uv] 104 (0,0))
 tks:Ts w tv l
 vrs:Strs w uv vs
 lt:i<l.length
 tap:0<l.length->∀b' off n c,tv=.slice (some ⟨b',off,none⟩) n c->b'≠q/\b'≠b
 uap:0<vs.length->∀b' off n c,uv=.slice (some ⟨b',off,none⟩) n c->b'≠q/\b'≠b
theorem Rea.rc{w w':World}{q b:Nat}{tv uv:Value}{l:List Tk}{vs:List ByteArray}{i j:Nat}(h:Rea w q b tv uv l vs i)(hr:Rc q b w w')(hb:w'.heap[q]? = some (.cells #[tv,.int .i64 j,uv] 104 (0,0)))(hj:j<l.length):Rea w' q b tv uv l vs j:=
 ⟨hb,Ce.rc h.tks hr h.tap,Ce.rc h.vrs hr h.uap,hj,h.tap,h.uap⟩
theorem Rea.below{w w':World}{q b:Nat}{tv uv:Value}{l:List Tk}{vs:List ByteArray}{i:Nat}(h:Rea w q b tv uv l vs i)(hb:Below w.heap.size w w'):Rea w' q b tv uv l vs i:=
 h.rc (.of_below hb) ((hb.block q (aaa h.blk)).trans h.blk) h.lt
theorem Rea.rcR{w w':World}{q b:Nat}{tv uv:Value}{l:List Tk}{vs:List ByteArray}{i:Nat}(h:Rea w q b tv uv l vs i)(hr:Rc b b w w')(hq:q≠b):Rea w' q b tv uv l vs i:=
 h.rc hr.wideR ((hr.other q (aaa h.blk) hq hq).trans h.blk) h.lt
theorem Rea.cells{w:World}{q b:Nat}{tv uv:Value}{l:List Tk}{vs:List ByteArray}{i:Nat}{t:Tk}(h:Rea w q b tv uv l vs i)(ht:l[i]? = some t):∃bt ot ct,tv=.slice (some ⟨bt,ot,none⟩) l.length ct/\q<w.heap.size/\w.cell? ⟨q,0,none⟩=some (.slice (some ⟨bt,ot,none⟩) l.length ct)/\w.cell? ⟨q,1,none⟩=some (.int .i64 i)/\w.cell? ⟨q,2,none⟩=some uv/\w.frozen? ⟨q,1,none⟩=false/\TkC w bt (ot+i*6) t:=by
 obtain⟨ao,ct,rfl,_⟩:=h.tks.parts;obtain⟨bt,ot,rfl,hk⟩:=h.tks.tok ht;have hb:=h.blk;exact⟨bt,ot,ct,rfl,aaa hb,by rw[cell_of_row w q 0 _ _ _ hb];rfl,by rw[cell_of_row w q 1 _ _ _ hb];rfl,by rw[cell_of_row w q 2 _ _ _ hb];rfl,frozen_of_row w q 1 _ _ hb,hk⟩
def Tk.av(t:Tk):Value:=.agg #[.int .i64 t.kind,.string t.text,.int .i64 t.pl.b,.int .i64 t.pl.g,.int .i64 t.pl.l,.int .i64 t.pl.c]
theorem aa8(w:World)(q b:Nat)(tv uv:Value)(l:List Tk)(vs:List ByteArray)(i:Nat)(t:Tk)(h:Rea w q b tv uv l vs i)(ht:l[i]? = some t):
  Calls Tryz.prog 65 #[.pointer (some ⟨q,0,none⟩)] w fun r w'=>r=.returned t.av/\Below w.heap.size w w':=by
 obtain⟨bt,ot,ct,rfl,hq,k0,k1,k2,_,hb,g0,g1,g2,g3,g4,g5⟩:=h.cells ht;have hi':(i:Int)<(l.length:Int):=by have:=h.lt;omega
 generalize l.length=n at *
 clear h ht;unfold Tk.av;go_enter Tryz.func65,Tryz.ntmps65
 go_wp2_with fail
 go_region
 go_wp2;refine bodyPost_ret (v:=_) (by simp[results,Tryz.results65,go_sem];try rfl) rfl ⟨by simp,?_⟩
 (repeat' first|with_reducible(first|exact Below.refl _ _|assumption|refine gdrewN ?_ _|refine Below.alloc ?_ ?_ _|refine Below.drew ?_|refine Below.setCell ?_ ?_ _)|go_size)
theorem Rea.next{w w1:World}{q b:Nat}{tv uv:Value}{l:List Tk}{vs:List ByteArray}{i:Nat}(h:Rea w q b tv uv l vs i)(hr:Rc q q w w1)(hb:w1.heap[q]? = w.heap[q]?)(hj:i+1<l.length):Rea (w1.setCell ⟨q,1,none⟩ (.int .i64 ((i:Int)+1))) q b tv uv l vs (i+1)/\Rc q q w (w1.setCell ⟨q,1,none⟩ (.int .i64 ((i:Int)+1))):=by
 have hb1:=hb.trans h.blk;have hs:Rc q q w1 (w1.setCell ⟨q,1,none⟩ (.int .i64 ((i:Int)+1))):=by
  refine⟨rfl,rfl,rfl,by simp[World.setCell],fun k hk hn _=>heap_setCell_other w1 ⟨q,1,none⟩ k _ hn,?_⟩;refine Ru.of_one hb1 (by decide) ?_ (by simp[World.setCell]) (fun k hk hn=>heap_setCell_other w1 ⟨q,1,none⟩ k _ hn);obtain⟨ao,ct,rfl,_⟩:=h.tks.parts;obtain⟨ao',ct',rfl,_⟩:=h.vrs;intro k z
  match k with
  |0=>simp
  |1=>simp
  |2=>simp
  |k+3=>simp
 refine⟨h.rc (hr.trans hs).wide ?_ hj,hr.trans hs⟩;rw[heap_setCell_same w1 q 1 _ _ _ hb1];simp
theorem ady(k:Int)(x:ByteArray)(a b c d:Value)(W:World):(Instr.field 109 (.agg #[.int .i64 k,.string x,a,b,c,d]) 0).run Tryz.prog W=.ok (.int .i64 k) W:=by
 simp[go_sem,Instr.field,asAgg]
theorem aql(k:Int)(x:ByteArray)(a b c d:Value)(W:World):(Instr.field 109 (.agg #[.int .i64 k,.string x,a,b,c,d]) 1).run Tryz.prog W=.ok (.string x) W:=by
 simp[go_sem,Instr.field,asAgg]
theorem OutW.ru{z:Int}{L:Nat}{v:Value}{w w':World}(h:OutW z L v w)(hr:Ru w w'):OutW z L v w':=OutW.mono5 z L _ _ _ hr h
theorem OutQr.ru{r:Rat}{L:Nat}{v:Value}{w w':World}(h:OutQr r L v w)(hr:Ru w w'):OutQr r L v w':=OutR.mono5 _ _ L _ _ _ hr h
theorem OutW.fit{z:Int}{L L':Nat}{v:Value}{w:World}(h:OutW z L v w)(hf:(z.natAbs:Int)<pw L'):OutW z L' v w:=by
 obtain⟨ng,ao,cap,rs,e,h1,l1⟩:=h;exact⟨ng,ao,cap,rs,e,h1,aa1 h1.1.2.1 (by rw[h1.1.2.2];exact hf)⟩
theorem FrW.ru{K:Nat}{z:Int}{L:Nat}{v:Value}{w w':World}(h:FrW K z L v w)(hr:Ru w w'):FrW K z L v w':=FrW.mono5 K z L _ _ _ hr h
theorem FrW.of_li{w:World}{B T:Nat}{ng:Bool}{ao:Option Addr}{cap:Nat}{rs:List Int}{z:Int}{L:Nat}(hw:Wh w ng ao cap rs z)(hl:Li B T w ao cap rs)(hT:T<=w.heap.size)(hL:rs.length<=L):FrW B z L (.agg #[.bool ng,.slice ao rs.length cap]) w:=
 ⟨ng,ao,cap,rs,B,T,rfl,⟨⟨hl.ow,hw.1.2.1,hw.1.2.2,hl.lies⟩,hw.2⟩,Nat.le_refl _,hT,hL⟩
theorem FrW.low{K K':Nat}{z:Int}{L:Nat}{v:Value}{w:World}(h:FrW K z L v w)(hk:K'<=K):FrW K' z L v w:=by
 obtain⟨ng,ao,cap,rs,B,T,e,h1,h2,h3,h4⟩:=h;exact⟨ng,ao,cap,rs,B,T,e,h1,Nat.le_trans hk h2,h3,h4⟩
theorem FrW.fit{K:Nat}{z:Int}{L L':Nat}{v:Value}{w:World}(h:FrW K z L v w)(hf:(z.natAbs:Int)<pw L'):FrW K z L' v w:=by
 obtain⟨ng,ao,cap,rs,B,T,e,h1,h2,h3,h4⟩:=h;exact⟨ng,ao,cap,rs,B,T,e,h1,h2,h3,aa1 h1.fr.canon (by rw[h1.fr.val];exact hf)⟩
theorem FrW.is{K:Nat}{z:Int}{L:Nat}{v:Value}{w:World}(h:FrW K z L v w):IsW z L v w:=h.out.is
theorem FrW.agg{K:Nat}{z:Int}{L:Nat}{v:Value}{w:World}(h:FrW K z L v w):∃ng ao n cap,v=.agg #[.bool ng,.slice ao n cap]:=by
 obtain⟨ng,ao,cap,rs,B,T,e,_⟩:=h;exact⟨ng,ao,rs.length,cap,e⟩
theorem ah2(w:World){K L:Nat}(hK:K<=w.heap.size):FrW K 0 L (.agg #[.bool false,.slice none 0 0]) w:=⟨false,none,0,[],w.heap.size,w.heap.size,rfl,(azs _ _ _).wfr (azt _),hK,Nat.le_refl _,by simp⟩
theorem IsW.ru{z:Int}{L:Nat}{v:Value}{w w':World}(h:IsW z L v w)(hr:Ru w w'):IsW z L v w':=IsW.mono5 z L _ _ _ hr h
section
variable (w:World) (x y:Int) (vx vy:Value) (L M:Nat)
theorem mulF(hx:IsW x L vx w)(hy:IsW y M vy w)(hL:L<=400000)(hM:M<=400000):
  Calls Tryz.prog 34 #[vx,vy] w fun e w'=>∃v,e=.returned v/\FrW w.heap.size (x*y) (L+M) v w'/\Below w.heap.size w w':=by
 obtain⟨n1,a1,m1,c1,xs,rfl,A1,l1⟩:=hx;obtain⟨n2,a2,m2,c2,ys,rfl,A2,l2⟩:=hy;refine(azp w n1 a1 m1 c1 xs A1.sl n2 a2 m2 c2 ys A2.sl (by omega) (by omega)).mono ?_;rintro e w' ⟨ng,ao,cap,rs,rfl,hw,hl,hli,hb⟩;rw[A1.worth,A2.worth]at hw;exact⟨_,rfl,FrW.of_li hw hli (Nat.le_refl _) (by omega),hb⟩
theorem addF(hx:IsW x L vx w)(hy:IsW y M vy w)(hL:L<=400000)(hM:M<=400000):
  Calls Tryz.prog 107 #[vx,vy] w fun e w'=>∃v,e=.returned v/\FrW w.heap.size (x+y) (L+M+1) v w'/\Below w.heap.size w w':=by
 obtain⟨n1,a1,m1,c1,xs,rfl,A1,l1⟩:=hx;obtain⟨n2,a2,m2,c2,ys,rfl,A2,l2⟩:=hy;refine(azo w n1 a1 m1 c1 xs A1.sl n2 a2 m2 c2 ys A2.sl (by omega) (by omega)).mono ?_;rintro e w' ⟨ng,ao,cap,rs,rfl,hw,hl,hli,hb⟩;rw[A1.worth,A2.worth]at hw;exact⟨_,rfl,FrW.of_li hw hli (Nat.le_refl _) (by omega),hb⟩
theorem gcdF(hx:IsW x L vx w)(hy:IsW y M vy w)(hL:L<=400000)(hM:M<=400000):
  Calls Tryz.prog 75 #[vx,vy] w fun e w'=>∃v,e=.returned v/\FrW w.heap.size ((Int.gcd x y:Nat):Int) (L+M+1) v w'/\Below w.heap.size w w':=by
 obtain⟨n1,a1,m1,c1,xs,rfl,A1,l1⟩:=hx;obtain⟨n2,a2,m2,c2,ys,rfl,A2,l2⟩:=hy;refine(azr w n1 a1 m1 c1 xs A1.sl n2 a2 m2 c2 ys A2.sl (by omega) (by omega)).mono ?_;rintro e w' ⟨ng,ao,cap,rs,rfl,hw,hl,hli,hb⟩;rw[A1.worth,A2.worth]at hw;exact⟨_,rfl,FrW.of_li hw hli (Nat.le_refl _) (by omega),hb⟩
theorem negF(hx:IsW x L vx w)(hL:L<=400000):
  Calls Tryz.prog 76 #[vx] w fun e w'=>∃v,e=.returned v/\FrW w.heap.size (-x) L v w'/\Below w.heap.size w w':=by
 obtain⟨n1,a1,m1,c1,xs,rfl,A1,l1⟩:=hx;refine(azm w n1 a1 m1 c1 xs A1.sl (by omega)).mono ?_;rintro e w' ⟨ng,ao,cap,rs,rfl,hw,hl,hli,hb⟩;rw[A1.worth]at hw;exact⟨_,rfl,FrW.of_li hw hli (Nat.le_refl _) (by omega),hb⟩
theorem signF(hx:IsW x L vx w)(hL:L<=400000):
  Calls Tryz.prog 42 #[vx] w fun e w'=>e=.returned (.int .i64 (Int.sign x))/\Below w.heap.size w w':=by
 obtain⟨n1,a1,m1,c1,xs,rfl,A1,l1⟩:=hx;exact ah7 w n1 a1 m1 c1 xs x A1 (by omega) _ rfl
theorem cmpF(hx:IsW x L vx w)(hy:IsW y M vy w)(hL:L<=400000)(hM:M<=400000):
  Calls Tryz.prog 32 #[vx,vy] w fun e w'=>e=.returned (.int .i64 (cmpI x y))/\Below w.heap.size w w':=by
 obtain⟨n1,a1,m1,c1,xs,rfl,A1,l1⟩:=hx;obtain⟨n2,a2,m2,c2,ys,rfl,A2,l2⟩:=hy;exact a0q w n1 a1 m1 c1 xs x A1 n2 a2 m2 c2 ys y A2 (by omega) (by omega) _ rfl
theorem divF(hx:IsW x L vx w)(hy:IsW y M vy w)(hL:L<=400000)(hM:M<=400000):
  Calls Tryz.prog 125 #[vx,vy] w fun e w'=>∃v1 v2 b,e=.returned (.tuple #[v1,v2,.bool b])/\FrW w.heap.size (x/y) (L+4) v1 w'/\OutW (if y=0 then 0 else x%y) (M+1) v2 w'/\b=decide (y≠0)/\Below w.heap.size w w':=by
 obtain⟨n1,a1,m1,c1,xs,rfl,A1,l1⟩:=hx;obtain⟨n2,a2,m2,c2,ys,rfl,A2,l2⟩:=hy;have hw:=A2.worth;by_cases h0:val ys=0
 ·have hy0:y=0:=by rw[<-hw,h0];cases n2 <;> simp[sg]
  refine(alb w n1 a1 m1 c1 xs A1.sl n2 a2 m2 c2 ys A2.sl h0).mono ?_;rintro e w' ⟨rfl,hb⟩;refine⟨_,_,_,rfl,?_,?_,by rw[hy0];rfl,hb⟩
  ·rw[hy0,Int.ediv_zero];exact ah2 _ hb.size
  ·rw[if_pos hy0];exact(ah2 (K:=0) _ (Nat.zero_le _)).out
 ·have hy0:y≠0:=by rw[<-hw];cases n2 <;> simp[sg] <;> omega
  refine(asi w n1 a1 m1 c1 xs A1.sl n2 a2 m2 c2 ys A2.sl (by omega) (by omega) h0).mono ?_;rintro e w' ⟨nq,aq,cq,qs,nr,ar,cr,rs,B1,T1,B2,T2,rfl,hq,hr,lq,lr,li1,li2,⟨i1,i2,i3,i4,_⟩,hb⟩;rw[A1.worth,A2.worth]at hq hr;refine⟨_,_,_,rfl,(FrW.of_li hq li1 i2 (by omega)).low i1,?_,by simp[hy0],hb⟩;rw[if_neg hy0];exact⟨_,_,_,_,rfl,hr,by omega⟩
end
structure RE where
 ng:Bool
 a:Option Addr
 m:Nat
 c:Nat
 d:Option Addr
 k:Nat
 e:Nat
def RE.v(x:RE):Value:=.agg #[.bool x.ng,.slice x.a x.m x.c,.slice x.d x.k x.e]
def rf3:List RE->List Value
 | []=>[]
 |x::es=>.bool x.ng :: .slice x.a x.m x.c :: .slice x.d x.k x.e::rf3 es
theorem aiu(es:List RE):(rf3 es).length=es.length*3:=by
 induction es with
 |nil=>rfl
 |cons e es ih=>simp only[rf3,List.length_cons,ih];omega
theorem aiv{es:List RE}{i:Nat}{x:RE}(h:es[i]? = some x):(rf3 es)[i*3]? = some (.bool x.ng)/\(rf3 es)[i*3+1]? = some (.slice x.a x.m x.c)/\(rf3 es)[i*3+2]? = some (.slice x.d x.k x.e):=by
 induction es generalizing i with
 |nil=>simp at h
 |cons u es ih=>
  cases i with
  |zero=>
   simp at h;subst h;simp[rf3]
  |succ i=>
   have:=ih (i:=i) (by simpa using h);simp only[rf3,show(i+1)*3=i*3+3 from by omega];simpa using this
theorem aod(es:List RE)(i:Nat)(x:RE)(h:i<es.length):rf3 (es.set i x)=(((rf3 es).set (i*3) (.bool x.ng)).set (i*3+1) (.slice x.a x.m x.c)).set (i*3+2) (.slice x.d x.k x.e):=by
 induction es generalizing i with
 |nil=>simp at h
 |cons u es ih=>
  cases i with
  |zero=>simp[rf3]
  |succ i=>
   have:=ih i (by simpa using h);simp only[List.set_cons_succ,rf3,show(i+1)*3=i*3+3 from by omega,this,List.set_cons_succ]
theorem alr(es:List RE)(i:Nat)(z:Int):(rf3 es).toArray[i]?≠some (.int .u32 z):=by
 rw[List.getElem?_toArray];induction es generalizing i with
 |nil=>simp[rf3]
 |cons u es ih=>
  match i with
  |0=>simp[rf3]
  |1=>simp[rf3]
  |2=>simp[rf3]
  |i+3=>simpa[rf3]using ih i
structure RQ (w:World) (g b:Nat) (rs:List Rat) (L:Nat):Prop where
 slot:w.heap[g]? = some (.cells #[.slice (some ⟨b,0,none⟩) rs.length rs.length] 34 (0,0))
 row:∃es:List RE,es.length=rs.length/\w.heap[b]? = some (.cells (rf3 es).toArray 62 (0,0))/\∀(i:Nat) (e:RE) (r:Rat),es[i]? = some e->rs[i]? = some r->IsQ r L e.v w
 ne:g≠b
theorem IsQ.ru{r:Rat}{L:Nat}{v:Value}{w w':World}(h:IsQ r L v w)(hr:Ru w w'):IsQ r L v w':=by
 obtain⟨p,q,h1,h2⟩:=h;exact⟨p,q,IsR.mono5 p q L _ _ _ hr h1,h2⟩
theorem RQ.rc{w w':World}{q g b:Nat}{rs:List Rat}{L:Nat}(h:RQ w g b rs L)(hr:Rc q q w w')(h1:g≠q)(h2:b≠q):RQ w' g b rs L:=by
 obtain⟨es,e1,e2,e3⟩:=h.row;exact⟨(hr.other g (aaa h.slot) h1 h1).trans h.slot,⟨es,e1,(hr.other b (aaa e2) h2 h2).trans e2,fun i e r a1 a2=>(e3 i e r a1 a2).ru hr.ru⟩,h.ne⟩
theorem RQ.below{w w':World}{g b:Nat}{rs:List Rat}{L:Nat}(h:RQ w g b rs L)(hb:Below w.heap.size w w'):RQ w' g b rs L:=by
 obtain⟨es,e1,e2,e3⟩:=h.row;exact⟨(hb.block g (aaa h.slot)).trans h.slot,⟨es,e1,(hb.block b (aaa e2)).trans e2,fun i e r a1 a2=>(e3 i e r a1 a2).ru (Ru.of_below hb)⟩,h.ne⟩
theorem RQ.put{w w1:World}{g b:Nat}{rs:List Rat}{L i:Nat}{r:Rat}{x:RE}(h:RQ w g b rs L)(hb:Below w.heap.size w w1)(hi:i<rs.length)(hx:IsQ r L x.v w1):
  RQ (((w1.setCell ⟨b,i*3,none⟩ (.bool x.ng)).setCell ⟨b,i*3+1,none⟩ (.slice x.a x.m x.c)).setCell ⟨b,i*3+2,none⟩ (.slice x.d x.k x.e)) g b (rs.set i r) L/\Rc b b w (((w1.setCell ⟨b,i*3,none⟩ (.bool x.ng)).setCell ⟨b,i*3+1,none⟩ (.slice x.a x.m x.c)).setCell ⟨b,i*3+2,none⟩ (.slice x.d x.k x.e)):=by
 have h1:=h.below hb;obtain⟨es,e1,e2,e3⟩:=h1.row;generalize hW:(((w1.setCell ⟨b,i*3,none⟩ (.bool x.ng)).setCell ⟨b,i*3+1,none⟩ (.slice x.a x.m x.c)).setCell ⟨b,i*3+2,none⟩ (.slice x.d x.k x.e))=W;have hbW:W.heap[b]? = some (.cells (rf3 (es.set i x)).toArray 62 (0,0)):=by
  rw[<-hW,aod es i x (by omega)];have s1:=heap_setCell_same w1 b (i*3) _ _ (.bool x.ng) e2;have s2:=heap_setCell_same _ b (i*3+1) _ _ (.slice x.a x.m x.c) s1;have s3:=heap_setCell_same _ b (i*3+2) _ _ (.slice x.d x.k x.e) s2;rw[s3];simp
 have hot:∀k,k<w1.heap.size->k≠b->W.heap[k]? = w1.heap[k]? :=by
  intro k _ hn;rw[<-hW,heap_setCell_other _ ⟨b,i*3+2,none⟩ k _ hn,heap_setCell_other _ ⟨b,i*3+1,none⟩ k _ hn,heap_setCell_other _ ⟨b,i*3,none⟩ k _ hn]
 have hsz:w1.heap.size<=W.heap.size:=by rw[<-hW];simp[World.setCell]
 have hru:Ru w1 W:=Ru.of_one e2 (by decide) (alr es) hsz hot;have hrc:Rc b b w1 W:=⟨by rw[<-hW];rfl,by rw[<-hW];rfl,by rw[<-hW];rfl,hsz,fun k hk hn _=>hot k hk hn,hru⟩;refine⟨⟨?_,⟨es.set i x,by simp[e1],hbW,?_⟩,h.ne⟩,(Rc.of_below hb).trans hrc⟩
 ·rw[hot g (aaa h1.slot) h.ne,h1.slot];simp
 ·intro j e r' a1 a2;by_cases hj:j=i
  ·subst hj;rw[List.getElem?_set_self (by omega)]at a1 a2;obtain rfl:=Option.some.inj a1;obtain rfl:=Option.some.inj a2;exact hx.ru hru
  ·rw[List.getElem?_set_ne (fun h=>hj h.symm)]at a1 a2;exact(e3 j e r' a1 a2).ru hru
theorem av6(w:World)(g b:Nat)(rs:List Rat)(L:Nat)(i:Nat)(r s:Rat)(xv:Value)(h:RQ w g b rs L)(hi:rs[i]? = some r)(hx:IsQ s L xv w)(hf:Fit (r+s) L)(hL:L<=10000):
  Calls Tryz.prog 63 #[.int .i64 (i:Int),xv,.pointer (some ⟨g,0,none⟩)] w fun e w'=>e=.returned (.tuple #[])/\Rc b b w w'/\RQ w' g b (rs.set i (r+s)) L:=by
 obtain⟨es,e1,e2,e3⟩:=h.row;have hlt:i<rs.length:=(List.getElem?_eq_some_iff.1 hi).1;obtain⟨x,hex⟩:∃x,es[i]? = some x:=⟨_,List.getElem?_eq_getElem (by omega)⟩;have hq:=hide (e3 i x r hex hi);obtain⟨c0,c1,c2⟩:=aiv hex;have k0:w.cell? ⟨b,i*3,none⟩=some (.bool x.ng):=by rw[cell_of_row w b _ _ _ _ e2,List.getElem?_toArray];exact c0
 have k1:w.cell? ⟨b,i*3+1,none⟩=some (.slice x.a x.m x.c):=by rw[cell_of_row w b _ _ _ _ e2,List.getElem?_toArray];exact c1
 have k2:w.cell? ⟨b,i*3+2,none⟩=some (.slice x.d x.k x.e):=by rw[cell_of_row w b _ _ _ _ e2,List.getElem?_toArray];exact c2
 have kg:w.cell? ⟨g,0,none⟩=some (.slice (some ⟨b,0,none⟩) rs.length rs.length):=by rw[cell_of_row w g _ _ _ _ h.slot];rfl
 have hb:=aaa e2;have hg:=aaa h.slot;obtain⟨ng,ao,n,cap,xs,bo,m,dap,ys,p,q,rfl,_⟩:=hx.open;have HX:=hide hx;have H:=hide h;have E2:=hide e2;have hi':(i:Int)<(rs.length:Int):=by omega
 have HLT:=hide hlt;have HF:=hide hf;have HI:=hide hi;generalize hN:rs.length=N at *
 have hN':=hide hN;clear h e3 hx hf hex c0 c1 c2 e2 e1 hN hi hlt;go_enter Tryz.func63,Tryz.ntmps63
 go_wp2_with fail
 go_region_law (refine aa4 rfl 64 #[.tmp 10,.tmp 11] #[62,62] rfl au4 #[.agg #[.bool x.ng,.slice x.a x.m x.c,.slice x.d x.k x.e],.agg #[.bool ng,.slice ao n cap,.slice bo m dap]] (by simp[Act.eval]) (azv _ _ _ r s L L L (hq.out.ru (Ru.of_below (show Below w.heap.size w _ by(repeat' first|with_reducible(first|exact Below.refl _ _|assumption|refine gdrewN ?_ _|refine Below.alloc ?_ ?_ _|refine Below.drew ?_|refine Below.setCell ?_ ?_ _)|go_size)))) (HX.out.ru (Ru.of_below (show Below w.heap.size w _ by(repeat' first|with_reducible(first|exact Below.refl _ _|assumption|refine gdrewN ?_ _|refine Below.alloc ?_ ?_ _|refine Below.drew ?_|refine Below.setCell ?_ ?_ _)|go_size)))) (by omega) HF.out) ?_;rintro e w1 ⟨v,rfl,ho,hb1⟩;obtain⟨ng1,ao1,cap1,rs1,bo1,dap1,ss1,rfl,ho1⟩:=id ho;have HO:=hide ho;have hbw:Below w.heap.size w w1:=(show Below w.heap.size w _ by(repeat' first|with_reducible(first|exact Below.refl _ _|assumption|refine gdrewN ?_ _|refine Below.alloc ?_ ?_ _|refine Below.drew ?_|refine Below.setCell ?_ ?_ _)|go_size)).trans (hb1.mono (by simp));have HBW:=hide hbw;have kg1:=(hbw.cell (p:=⟨g,0,none⟩) hg).trans kg;have k01:=(hbw.cell (p:=⟨b,i*3,none⟩) hb).trans k0;have k11:=(hbw.cell (p:=⟨b,i*3+1,none⟩) hb).trans k1;have k21:=(hbw.cell (p:=⟨b,i*3+2,none⟩) hb).trans k2;have fr0:w1.frozen? ⟨b,i*3,none⟩=false:=frozen_of_row w1 b _ _ _ ((hbw.block b hb).trans E2.out);have fr1:w1.frozen? ⟨b,i*3+1,none⟩=false:=frozen_of_row w1 b _ _ _ ((hbw.block b hb).trans E2.out);have fr2:w1.frozen? ⟨b,i*3+2,none⟩=false:=frozen_of_row w1 b _ _ _ ((hbw.block b hb).trans E2.out);clear ho ho1 hb1 hbw;refine⟨_,rfl,?_⟩)
 all_goals
  refine bodyPost_end (results_none rfl _ _ _) rfl ?_;obtain⟨p1,p2⟩:=H.out.put (i:=i) (r:=r+s) (x:=⟨ng1,ao1,rs1.length,cap1,bo1,ss1.length,dap1⟩) HBW.out (by rw[hN'.out];exact HLT.out) HO.out.is;exact⟨rfl,p2,p1⟩
theorem av7:Has Tryz.prog 63:=by unfold Has;kernel_rfl
theorem am5:Has Tryz.prog 137:=by unfold Has;kernel_rfl
inductive AddV (q b g:Nat) (w:World):Value->Bool->Prop
 |base:AddV q b g w (.func (.func 63) #[] #[.pointer (some ⟨g,0,none⟩)]) false
 |turn (k:Nat) (v:Value) (s:Bool) (hk:w.heap[k]? = some (.cells #[v] 153 (0,0))) (h1:k≠q) (h2:k≠b) (h:AddV q b g w v s):AddV q b g w (.func (.func 137) #[] #[.pointer (some ⟨k,0,none⟩)]) (!s)
theorem AddV.rc{q b g:Nat}{w w':World}{v:Value}{s:Bool}(h:AddV q b g w v s)(hr:Rc q b w w'):AddV q b g w' v s:=by
 induction h with
 |base=>exact .base
 |turn k v s hk h1 h2 _ ih=>exact .turn k v s ((hr.other k (aaa hk) h1 h2).trans hk) h1 h2 ih
def sgq(s:Bool)(r:Rat):Rat:=if s then -r else r
theorem aoe{r:Rat}{L:Nat}(h:Fit r L):Fit (-r) L:=⟨by rw[Rat.neg_num,Int.natAbs_neg];exact h.1,by rw[Rat.neg_den];exact h.2⟩
def AddP(b g:Nat)(rs:List Rat)(L i:Nat)(r x:Rat)(w:World)(e:Ending)(w':World):Prop:=e=.returned (.tuple #[])/\Rc b b w w'/\RQ w' g b (rs.set i (r+x)) L
theorem ate(f:FuncId)(hf:Has Tryz.prog f)(cp:Value)(w:World)(k b g:Nat)(rs:List Rat)(L:Nat)(i:Nat)(r x y:Rat)(xv:Value)(hk:w.heap[k]? = some (.cells #[.func (.func f) #[] #[cp]] 153 (0,0)))(hx:IsQ x L xv w)(hfx:Fit x L)(hL:L<=10000)
  (h:∀w' v,Below w.heap.size w w'->IsQ (-x) L v w'->Calls Tryz.prog f #[.int .i64 (i:Int),v,cp] w' (AddP b g rs L i r y w')) :
  Calls Tryz.prog 137 #[.int .i64 (i:Int),xv,.pointer (some ⟨k,0,none⟩)] w (AddP b g rs L i r y w):=by
 obtain⟨ng,ao,n,cap,xs,bo,m,dap,ys,p,q,rfl,_⟩:=hx.open;have HX:=hide hx;have HFX:=hide hfx;have kk:w.cell? ⟨k,0,none⟩=some (.func (.func f) #[] #[cp]):=by rw[cell_of_row w k _ _ _ _ hk];rfl
 have hkl:=aaa hk;have HC:=hide h;clear hk hx hfx h;go_enter Tryz.func137,Tryz.ntmps137
 go_wp2_with fail
 go_region_law (first|(refine aa4 rfl 138 #[.tmp 7] #[62] rfl au3 #[.agg #[.bool ng,.slice ao n cap,.slice bo m dap]] (by simp[Act.eval]) (asw _ _ x L L (HX.out.ru (Ru.of_below (show Below w.heap.size w _ by(repeat' first|with_reducible(first|exact Below.refl _ _|assumption|refine gdrewN ?_ _|refine Below.alloc ?_ ?_ _|refine Below.drew ?_|refine Below.setCell ?_ ?_ _)|go_size)))) (by omega) HFX.out) ?_;rintro e w1 ⟨v,rfl,ho,hb1⟩;obtain⟨ng1,ao1,cap1,rs1,bo1,dap1,ss1,rfl,ho1⟩:=id ho;have HO:=hide ho;have hbw:Below w.heap.size w w1:=(show Below w.heap.size w _ by(repeat' first|with_reducible(first|exact Below.refl _ _|assumption|refine gdrewN ?_ _|refine Below.alloc ?_ ?_ _|refine Below.drew ?_|refine Below.setCell ?_ ?_ _)|go_size)).trans (hb1.mono (by simp));have HBW:=hide hbw;have kk1:=(hbw.cell (p:=⟨k,0,none⟩) hkl).trans kk;clear ho ho1 hb1 hbw;refine⟨_,rfl,?_⟩)|(refine aim rfl f (.tmp 5) #[.tmp 6,.tmp 8] #[3,62] rfl hf #[cp] (by simp[Act.eval]) #[.int .i64 (i:Int),.agg #[.bool ng1,.slice ao1 rs1.length cap1,.slice bo1 ss1.length dap1]] (by simp[Act.eval]) (HC.out _ _ HBW.out HO.out.is) ?_;rintro e w2 ⟨rfl,hr2,hq2⟩;have HR:=hide hr2;have HQ:=hide hq2;clear hr2 hq2;refine⟨_,rfl,?_⟩))
 all_goals
  refine bodyPost_end (results_none rfl _ _ _) rfl ?_;exact⟨rfl,(Rc.of_below HBW.out).trans HR.out,HQ.out⟩
theorem ah3{q b g:Nat}{w:World}{v:Value}{s:Bool}(h:AddV q b g w v s)(rs:List Rat)(L:Nat)(i:Nat)(r:Rat)(hi:rs[i]? = some r)(hL:L<=10000):
  ∃f cp,v=.func (.func f) #[] #[cp]/\Has Tryz.prog f/\∀w' x xv,Below w.heap.size w w'->RQ w' g b rs L->IsQ x L xv w'->Fit x L->Fit (r+sgq s x) L->Calls Tryz.prog f #[.int .i64 (i:Int),xv,cp] w' (AddP b g rs L i r (sgq s x) w'):=by
 induction h with
 |base=>exact⟨_,_,rfl,av7,fun w' x xv _ hR hx _ hf=>av6 w' g b rs L i r x xv hR hi hx hf hL⟩
 |turn k v s hk h1 h2 _ ih=>
  obtain⟨f,cp,rfl,hf,ih⟩:=ih;refine⟨_,_,rfl,am5,fun w' x xv hb hR hx hfx hfr=>?_⟩;have e:sgq (!s) x=sgq s (-x):=by
   cases s
   ·rfl
   ·simp[sgq]
  rw[e]at hfr ⊢;have hkk:=(hb.block k (aaa hk)).trans hk;have key:∀w'' v,Below w'.heap.size w' w''->IsQ (-x) L v w''->Calls Tryz.prog f #[.int .i64 (i:Int),v,cp] w'' (AddP b g rs L i r (sgq s (-x)) w''):=fun w'' v hb' hv=>ih w'' (-x) v (hb.trans (hb'.mono hb.size)) (hR.below hb') hv (aoe hfx) hfr
  exact ate f hf cp w' k b g rs L i r x (sgq s (-x)) xv hkk hx hfx hL key
theorem ac5(w:World)(v:Value)(q b g:Nat)(s:Bool)(h:AddV q b g w v s)(hq:q<w.heap.size)(hb:b<w.heap.size):
  Calls Tryz.prog 105 #[v] w fun e w'=>∃u,e=.returned u/\AddV q b g w' u (!s)/\Below w.heap.size w w':=by
 have H:=hide h;obtain⟨f,cp,rfl⟩:∃f cp,v=.func f #[] #[cp]:=by cases h <;> exact⟨_,_,rfl⟩
 have hmf:∀(fn:Fn) (first cap:Array Value) (w:World),(Instr.makeFunc fn first cap).run Tryz.prog w=.ok (.func fn first cap) w:=fun _ _ _ _=>rfl
 clear h;go_enter Tryz.func105,Tryz.ntmps105
 go_wp2;have hA:Below w.heap.size w (w.alloc (.cells #[.func f #[] #[cp]] 153)):=(Below.refl _ _).alloc (Nat.le_refl _) _;refine bodyPost_ret (v:=_) (by simp[results,Tryz.results105,go_sem];try rfl) rfl ⟨_,rfl,?_,hA⟩;exact .turn _ _ _ (heap_alloc_new w _) (by omega) (by omega) (H.out.rc (.of_below hA))
end Lm
namespace Lm
open Go Go.RowKit
open Dm (WFr)
theorem als(n:Nat):(madeCells #[.bool false,.slice none 0 0] (n*2)).toList=flat (List.replicate n ⟨false,none,0,0,[]⟩):=by
 apply List.ext_getElem?;intro i;rw[Array.getElem?_toList];by_cases hi:i<n*2
 ·have hk:i/2<n:=by omega
  have h1:(List.replicate n (⟨false,none,0,0,[]⟩:WE))[i/2]? = some ⟨false,none,0,0,[]⟩:=by rw[List.getElem?_replicate,if_pos hk]
  obtain⟨f1,f2⟩:=acv h1;have e0:(madeCells #[.bool false,.slice none 0 0] (n*2))[i]? = some ((#[.bool false,.slice none 0 0]:Array Value)[i%2]!):=by
   simp[madeCells,hi]
  rw[e0];rcases Nat.mod_two_eq_zero_or_one i with h|h
  ·rw[h,<-show i/2*2=i from by omega,f1];rfl
  ·rw[h,<-show i/2*2+1=i from by omega,f2];rfl
 ·rw[Array.getElem?_eq_none (by rw[size_madeCells];omega),List.getElem?_eq_none (by rw[ac7];simp;omega)]
theorem aiw(n:Nat):(madeCells #[.bool false,.slice none 0 0,.slice none 0 0] (n*3)).toList=rf3 (List.replicate n ⟨false,none,0,0,none,0,0⟩):=by
 apply List.ext_getElem?;intro i;rw[Array.getElem?_toList];by_cases hi:i<n*3
 ·have hk:i/3<n:=by omega
  have h1:(List.replicate n (⟨false,none,0,0,none,0,0⟩:RE))[i/3]? = some ⟨false,none,0,0,none,0,0⟩:=by rw[List.getElem?_replicate,if_pos hk]
  obtain⟨f1,f2,f3⟩:=aiv h1;have e0:(madeCells #[.bool false,.slice none 0 0,.slice none 0 0] (n*3))[i]? = some ((#[.bool false,.slice none 0 0,.slice none 0 0]:Array Value)[i%3]!):=by
   simp[madeCells,hi]
  rw[e0];have h3:i%3=0\/i%3=1\/i%3=2:=by omega
  rcases h3 with h|h|h
  ·rw[h,<-show i/3*3=i from by omega,f1];rfl
  ·rw[h,<-show i/3*3+1=i from by omega,f2];rfl
  ·rw[h,<-show i/3*3+2=i from by omega,f3];rfl
 ·rw[Array.getElem?_eq_none (by rw[size_madeCells];omega),List.getElem?_eq_none (by rw[aiu];simp;omega)]
theorem aeg{w:World}{B g n size:Nat}{T:TypeId}{xs:List Value}(h:w.ownsRow B T size (.slice (some ⟨g,0,none⟩) n n) n xs):B<=g/\w.heap[g]? = some (.cells xs.toArray T (0,0)):=by
 obtain⟨hl,⟨h',_⟩|⟨g',cap',cur,h',hb,hg,_,_,hs,htake⟩⟩:=h
 ·simp at h'
 ·simp only[Value.slice.injEq,Option.some.injEq,Addr.mk.injEq,and_true,true_and]at h';obtain⟨rfl,rfl⟩:=h';refine⟨hb,?_⟩;rw[hg,<-htake,List.take_of_length_le (by simp;omega)]
def IsRow(w:World)(v:Value)(zs:List Int)(L:Nat):Prop:=∃es:List WE,Rw w v es/\es.map WE.z=zs/\∀e∈es,e.zs.length<=L
theorem IsRow.below{w w':World}{v:Value}{zs:List Int}{L:Nat}(h:IsRow w v zs L)(hb:Below w.heap.size w w'):IsRow w' v zs L:=by
 obtain⟨es,h1,h2,h3⟩:=h;exact⟨es,h1.below hb,h2,h3⟩
theorem IsRow.parts{w:World}{v:Value}{zs:List Int}{L:Nat}(h:IsRow w v zs L):∃ao cap,v=.slice ao zs.length cap/\zs.length<=9223372036854775807:=by
 obtain⟨es,h1,h2,h3⟩:=h;obtain⟨ao,cap,rfl,c1,c2,_⟩:=h1.cl;have:zs.length=es.length:=by rw[<-h2];simp
 exact⟨ao,cap,by rw[this],by omega⟩
theorem IsRow.cell{w:World}{ao:Option Addr}{n cap:Nat}{zs:List Int}{L k:Nat}{z:Int}(h:IsRow w (.slice ao n cap) zs L)(hz:zs[k]? = some z):∃b off ng a m c,ao=some ⟨b,off,none⟩/\b<w.heap.size/\w.cell? ⟨b,off+k*2,none⟩=some (.bool ng)/\w.cell? ⟨b,off+k*2+1,none⟩=some (.slice a m c)/\IsW z L (.agg #[.bool ng,.slice a m c]) w:=by
 obtain⟨es,h1,rfl,h3⟩:=h;rw[List.getElem?_map]at hz;obtain⟨e,he,rfl⟩:=Option.map_eq_some_iff.1 hz;have hk:k<es.length:=(List.getElem?_eq_some_iff.1 he).1;obtain⟨b,off,rfl,hb,hc⟩:=h1.cells (by omega);obtain⟨f1,f2⟩:=acv he;have hm:=List.mem_of_getElem? he;exact⟨b,off,e.ng,e.a,e.m,e.c,rfl,hb,hc _ _ f1,hc _ _ f2,⟨_,_,_,_,_,rfl,h1.ag hm,h3 e hm⟩⟩
def PRow(K:Nat)(w:World)(bv n i:Nat)(zs:List Int)(L:Nat):Prop:=
 ∃(es:List WE) (B T:Nat->Nat),es.length=n/\w.heap[bv]? = some (.cells (flat es).toArray 60 (0,0))/\(∀(k:Nat) (e:WE),i<=k->es[k]? = some e->e=⟨false,none,0,0,[]⟩)/\(∀(k:Nat) (e:WE) (z:Int),k<i->es[k]? = some e->zs[k]? = some z->WFr (B k) (T k) w e.ng e.a e.c e.zs z/\e.m=e.zs.length/\e.zs.length<=L/\K<=B k/\T k<=w.heap.size)/\(∀k k':Nat,k<k'->k'<i->T k<=B k')
theorem PRow.start{K:Nat}{w:World}{bv n:Nat}{zs:List Int}{L:Nat}(h:w.heap[bv]? = some (.cells (flat (List.replicate n ⟨false,none,0,0,[]⟩)).toArray 60 (0,0))):PRow K w bv n 0 zs L:=by
 refine⟨_,fun _=>0,fun _=>0,List.length_replicate,h,fun k e _ he=>?_,fun k e z hk=>by omega,fun k k' _ hk=>by omega⟩;rw[List.getElem?_replicate]at he;split at he
 ·exact(Option.some.inj he).symm
 ·cases he
theorem PRow.ru{K:Nat}{w w':World}{bv n i:Nat}{zs:List Int}{L:Nat}(h:PRow K w bv n i zs L)(hr:Ru w w')(hb:w'.heap[bv]? = w.heap[bv]?):PRow K w' bv n i zs L:=by
 obtain⟨es,B,T,h1,h2,h3,h4,h5⟩:=h;refine⟨es,B,T,h1,hb.trans h2,h3,fun k e z hk he hz=>?_,h5⟩;obtain⟨g1,g2,g3,g4,g5⟩:=h4 k e z hk he hz;exact⟨g1.ru hr,g2,g3,g4,Nat.le_trans g5 hr.size⟩
theorem PRow.lt{K:Nat}{w:World}{bv n i:Nat}{zs:List Int}{L:Nat}(h:PRow K w bv n i zs L):bv<w.heap.size:=by
 obtain⟨es,B,T,h1,h2,_⟩:=h;exact aaa h2
theorem PRow.below{K:Nat}{w w':World}{bv n i:Nat}{zs:List Int}{L:Nat}(h:PRow K w bv n i zs L)(hb:Below w.heap.size w w'):PRow K w' bv n i zs L:=h.ru (Ru.of_below hb) (hb.block bv h.lt)
theorem av8(es:List WE)(i:Nat)(x:WE)(h:i<es.length):flat (es.set i x)=((flat es).set (i*2) (.bool x.ng)).set (i*2+1) (.slice x.a x.m x.c):=by
 induction es generalizing i with
 |nil=>simp at h
 |cons u es ih=>
  cases i with
  |zero=>simp[flat]
  |succ i=>
   have:=ih i (by simpa using h);simp only[List.set_cons_succ,flat,show(i+1)*2=i*2+2 from by omega,this]
theorem ayc(es:List WE)(i:Nat)(z:Int):(flat es).toArray[i]?≠some (.int .u32 z):=by
 rw[List.getElem?_toArray];induction es generalizing i with
 |nil=>simp[flat]
 |cons u es ih=>
  match i with
  |0=>simp[flat]
  |1=>simp[flat]
  |i+2=>simpa[flat]using ih i
theorem PRow.cells{K:Nat}{w:World}{bv n i:Nat}{zs:List Int}{L:Nat}(h:PRow K w bv n i zs L){k:Nat}(hk:k<n):(∃ng a m c,w.cell? ⟨bv,k*2,none⟩=some (.bool ng)/\w.cell? ⟨bv,k*2+1,none⟩=some (.slice a m c))/\w.frozen? ⟨bv,k*2,none⟩=false/\w.frozen? ⟨bv,k*2+1,none⟩=false:=by
 obtain⟨es,B,T,h1,h2,_⟩:=h;obtain⟨e,he⟩:∃e,es[k]? = some e:=⟨_,List.getElem?_eq_getElem (by omega)⟩;obtain⟨f1,f2⟩:=acv he;exact⟨⟨e.ng,e.a,e.m,e.c,by rw[cell_of_row _ _ _ _ _ (0,0) h2,List.getElem?_toArray];exact f1,by rw[cell_of_row _ _ _ _ _ (0,0) h2,List.getElem?_toArray];exact f2⟩,frozen_of_row _ _ _ _ _ h2,frozen_of_row _ _ _ _ _ h2⟩
theorem PRow.put{K S:Nat}{w1 w2:World}{bv n i:Nat}{zs:List Int}{L:Nat}{z:Int}{ng:Bool}{a:Option Addr}{m c:Nat}(h:PRow K w1 bv n i zs L)(hS:w1.heap.size<=S)(hb:Below w1.heap.size w1 w2)(hi:i<n)(hz:zs[i]? = some z)(hK:K<=S)(hv:FrW S z L (.agg #[.bool ng,.slice a m c]) w2):
  PRow K ((w2.setCell ⟨bv,i*2,none⟩ (.bool ng)).setCell ⟨bv,i*2+1,none⟩ (.slice a m c)) bv n (i+1) zs L/\Rc bv bv w1 ((w2.setCell ⟨bv,i*2,none⟩ (.bool ng)).setCell ⟨bv,i*2+1,none⟩ (.slice a m c)):=by
 have hlt:=h.lt;obtain⟨es,B,T,e1,e2,e3,e4,e5⟩:=h;replace e2:=(hb.block bv hlt).trans e2;obtain⟨ng',ao',cap',rs,B',T',hv1,hv2,hv3,hv4,hv5⟩:=hv;simp only[Value.agg.injEq,Array.mk.injEq,List.cons.injEq,Value.bool.injEq,Value.slice.injEq,and_true]at hv1;obtain⟨rfl,rfl,rfl,rfl⟩:=hv1;generalize hW:((w2.setCell ⟨bv,i*2,none⟩ (.bool ng)).setCell ⟨bv,i*2+1,none⟩ (.slice a rs.length c))=W;have hbW:W.heap[bv]? = some (.cells (flat (es.set i ⟨ng,a,rs.length,c,rs⟩)).toArray 60 (0,0)):=by
  rw[<-hW,av8 es i _ (by omega)];have s1:=heap_setCell_same w2 bv (i*2) _ _ (.bool ng) e2;have s2:=heap_setCell_same _ bv (i*2+1) _ _ (.slice a rs.length c) s1;rw[s2];simp
 have hot:∀k,k≠bv->W.heap[k]? = w2.heap[k]? :=fun k hn=>by rw[<-hW,heap_setCell_other _ ⟨bv,i*2+1,none⟩ k _ hn,heap_setCell_other _ ⟨bv,i*2,none⟩ k _ hn]
 have hsz:w2.heap.size<=W.heap.size:=by rw[<-hW];simp[World.setCell]
 have hru:Ru w2 W:=Ru.of_one e2 (by decide) (ayc es) hsz (fun k _ hn=>hot k hn);have hrc:Rc bv bv w2 W:=⟨by rw[<-hW];rfl,by rw[<-hW];rfl,by rw[<-hW];rfl,hsz,fun k _ hn _=>hot k hn,hru⟩;refine⟨⟨es.set i ⟨ng,a,rs.length,c,rs⟩,fun k=>if k=i then B' else B k,fun k=>if k=i then T' else T k,by simp[e1],hbW,?_,?_,?_⟩,(Rc.of_below hb).trans hrc⟩
 ·intro k e hk he;rw[List.getElem?_set_ne (by omega)]at he;exact e3 k e (by omega) he
 ·intro k e z' hk he hz';by_cases hki:k=i
  ·subst hki;rw[List.getElem?_set_self (by omega)]at he;obtain rfl:=Option.some.inj he;rw[hz]at hz';obtain rfl:=Option.some.inj hz';simp only[if_true];exact⟨hv2.ru hru,trivial,hv5,by omega,Nat.le_trans hv4 hsz⟩
  ·rw[List.getElem?_set_ne (fun h=>hki h.symm)]at he;simp only[if_neg hki];obtain⟨g1,g2,g3,g4,g5⟩:=e4 k e z' (by omega) he hz';exact⟨(g1.ru (Ru.of_below hb)).ru hru,g2,g3,g4,Nat.le_trans g5 (Nat.le_trans hb.size hsz)⟩
 ·intro k k' hkk hk';by_cases hki:k'=i
  ·subst hki;simp only[if_true,if_neg (show k≠k' by omega)];obtain⟨e,he⟩:∃e,es[k]? = some e:=⟨_,List.getElem?_eq_getElem (by omega)⟩;obtain⟨z',hz'⟩:∃z',zs[k]? = some z':=⟨_,List.getElem?_eq_getElem (by have:=(List.getElem?_eq_some_iff.1 hz).1;omega)⟩;have:=(e4 k e z' hkk he hz').2.2.2.2;omega
  ·simp only[if_neg hki,if_neg (show k≠i by omega)];exact e5 k k' hkk (by omega)
def ORow(K:Nat)(w:World)(v:Value)(zs:List Int)(L:Nat):Prop:=∃bv,v=.slice (some ⟨bv,0,none⟩) zs.length zs.length/\K<=bv/\PRow K w bv zs.length zs.length zs L/\zs.length<=1000000
theorem PRow.full{K:Nat}{w:World}{bv:Nat}{zs:List Int}{L:Nat}(h:PRow K w bv zs.length zs.length zs L)(hl:zs.length<=1000000):IsRow w (.slice (some ⟨bv,0,none⟩) zs.length zs.length) zs L:=by
 obtain⟨es,B,T,e1,e2,e3,e4,e5⟩:=h;have hz:∀(k:Nat) (e:WE),es[k]? = some e->∃z,zs[k]? = some z/\WFr (B k) (T k) w e.ng e.a e.c e.zs z/\e.m=e.zs.length/\e.zs.length<=L:=by
  intro k e he;have hk:=(List.getElem?_eq_some_iff.1 he).1;obtain⟨z,hz⟩:∃z,zs[k]? = some z:=⟨_,List.getElem?_eq_getElem (by omega)⟩;obtain⟨g1,g2,g3,_⟩:=e4 k e z (by omega) he hz;exact⟨z,hz,g1,g2,g3⟩
 refine⟨es,⟨⟨_,_,by rw[e1],by omega,by omega,ac7 es,?_⟩,?_⟩,?_,?_⟩
 ·refine .inr ⟨bv,0,rfl,aaa e2,fun j u hu=>?_⟩;rw[Nat.zero_add,cell_of_row _ _ _ _ _ (0,0) e2,List.getElem?_toArray];exact hu
 ·intro e he;obtain⟨k,hk⟩:=List.mem_iff_getElem?.1 he;obtain⟨z,_,g1,g2,_⟩:=hz k e hk;have:=g1.wh.sl;rwa[<-g2]at this
 ·apply List.ext_getElem?;intro k;rw[List.getElem?_map];cases hk:es[k]? with
  |none=>
   rw[List.getElem?_eq_none_iff]at hk;rw[Option.map_none,eq_comm,List.getElem?_eq_none_iff];omega
  |some e=>
   obtain⟨z,h1,g1,g2,_⟩:=hz k e hk;rw[h1,Option.map_some];congr 1;exact g1.wh.worth
 ·intro e he;obtain⟨k,hk⟩:=List.mem_iff_getElem?.1 he;obtain⟨z,_,_,_,g3⟩:=hz k e hk;exact g3
theorem ORow.is{K:Nat}{w:World}{v:Value}{zs:List Int}{L:Nat}(h:ORow K w v zs L):IsRow w v zs L:=by
 obtain⟨bv,rfl,_,h,hl⟩:=h;exact h.full hl
theorem ae8(w:World)(x y:Int)(vx vy:Value)(L M:Nat)(hx:IsW x L vx w)(hy:IsW y M vy w)(hL:L<=400000)(hM:M<=400000):
  Calls Tryz.prog 92 #[vx,vy] w fun e w'=>∃v,e=.returned v/\FrW w.heap.size (x/y) (L+4) v w'/\Below w.heap.size w w':=by
 obtain⟨n1,a1,m1,c1,xs,rfl,_⟩:=id hx;obtain⟨n2,a2,m2,c2,ys,rfl,_⟩:=id hy;have HX:=hide hx;have HY:=hide hy;have hb0:Below w.heap.size w (((w.alloc (.cells #[.bool n1,.slice a1 m1 c1] 60)).alloc (.cells #[.bool n2,.slice a2 m2 c2] 60)).alloc (.cells #[.bool false,.slice none 0 0] 60)):=by(repeat' first|with_reducible(first|exact Below.refl _ _|assumption|refine gdrewN ?_ _|refine Below.alloc ?_ ?_ _|refine Below.drew ?_|refine Below.setCell ?_ ?_ _)|go_size)
 clear hx hy;go_enter Tryz.func92,Tryz.ntmps92
 go_wp2_with fail
 refine(divF _ x y _ _ L M (HX.out.ru (Ru.of_below hb0)) (HY.out.ru (Ru.of_below hb0)) hL hM).mono ?_;rintro e w1 ⟨v1,v2,b,rfl,h1,h2,_,hb1⟩;have HB:=hide (hb0.trans (hb1.mono hb0.size));have hf:w1.heap[w.heap.size+1+1]? = some (.cells #[.bool false,.slice none 0 0] 60 (0,0)):=by
  refine(hb1.block _ (by simp)).trans ?_;have:=heap_alloc_new ((w.alloc (.cells #[.bool n1,.slice a1 m1 c1] 60)).alloc (.cells #[.bool n2,.slice a2 m2 c2] 60)) (.cells #[.bool false,.slice none 0 0] 60);simpa using this
 have H1:=hide (h1.low hb0.size);obtain⟨ng1,ao1,k1,cap1,rfl⟩:=h1.agg;obtain⟨ng2,ao2,cap2,rs2,rfl,_⟩:=h2;have HF:=hide hf;generalize hfz:w.heap.size+1+1=f at *
 obtain⟨hfl,c0,c1',fr0,fr1⟩:=aam hf;clear h1 hb1 hb0 hf;go_wp2;refine bodyPost_ret (v:=.agg #[.bool ng1,.slice ao1 k1 cap1]) (acx (g:=f) rfl rfl (lvw2 (aa2 (aa2 (acm HF.out _ _))))) rfl ⟨_,rfl,H1.out.ru ((acy HF.out _ _).trans ((Ru.of_below (hAl _ _)).trans (Ru.of_below (hAl _ _)))),?_⟩;have HBx:=HB.out;have hfw:w.heap.size<=f:=by omega
 (repeat' first|with_reducible(first|exact Below.refl _ _|assumption|refine gdrewN ?_ _|refine Below.alloc ?_ ?_ _|refine Below.drew ?_|refine Below.setCell ?_ ?_ _)|go_size)
end Lm
namespace Lm
open Go Go.RowKit
theorem af1{α β:Type}(f:β->α->β)(a:β){l:List α}{k:Nat}{x:α}(h:l[k]? = some x):(l.take (k+1)).foldl f a=f ((l.take k).foldl f a) x:=by
 rw[List.take_add_one,h,List.foldl_append];rfl
def gcdL(zs:List Int):Int:=zs.foldl (fun c z=>((Int.gcd c z:Nat):Int)) 0
def sgnL(zs:List Int):Int:=zs.foldl (fun s z=>if s=0 then Int.sign z else s) 0
def dvs(zs:List Int):Int:=if sgnL zs<0 then -(gcdL zs)else gcdL zs
def red(zs:List Int):List Int:=zs.map (· / dvs zs)
theorem aeu{z:Int}{L:Nat}{v:Value}{w:World}(h:IsW z L v w):(z.natAbs:Int)<pw L:=by
 obtain⟨ng,ao,n,cap,xs,_,hA,hl⟩:=h;obtain⟨_,_,_,_,_,hb,_⟩:=hA.sl;have h1:=aab hb;have h3:=aa9 hl;have h4:=hA.worth;rw[<-h4];cases ng
 ·simp only[sg];rw[if_neg (by decide)];omega
 ·simp only[sg];rw[if_pos trivial];omega
theorem az5{a b N:Int}(ha:(a.natAbs:Int)<N)(hb:(b.natAbs:Int)<N):(((Int.gcd a b:Nat):Int).natAbs:Int)<N:=by
 rw[Int.natAbs_natCast];by_cases h:a=0
 ·subst h;rw[Int.gcd_zero_left];exact hb
 ·have:=Nat.gcd_le_left b.natAbs (show 0<a.natAbs by omega);unfold Int.gcd;omega
theorem am6(w:World)(v:Value)(zs:List Int)(L:Nat)(h:IsRow w v zs L)(hL:L<=100000):
  Calls Tryz.prog 41 #[v] w fun e w'=>∃r,e=.returned r/\OutW (dvs zs) L r w'/\Below w.heap.size w w':=by
 obtain⟨ao,cap,rfl,hn⟩:=h.parts;have H:=hide h;clear h;obtain⟨n,hnn⟩:∃n,zs.length=n:=⟨_,rfl⟩;rw[hnn]at H hn ⊢;have HN:=hide hnn;clear hnn;have hb0:Below w.heap.size w ((w.alloc (.cells #[.bool false,.slice none 0 0] 60)).alloc (.cells #[.bool false,.slice none 0 0] 60)):=by(repeat' first|with_reducible(first|exact Below.refl _ _|assumption|refine gdrewN ?_ _|refine Below.alloc ?_ ?_ _|refine Below.drew ?_|refine Below.setCell ?_ ?_ _)|go_size)
 have hf2:((w.alloc (.cells #[.bool false,.slice none 0 0] 60)).alloc (.cells #[.bool false,.slice none 0 0] 60)).heap[w.heap.size]? = some (.cells #[.bool false,.slice none 0 0] 60 (0,0)):=aa2 (heap_alloc_new w _);have hf3:((w.alloc (.cells #[.bool false,.slice none 0 0] 60)).alloc (.cells #[.bool false,.slice none 0 0] 60)).heap[w.heap.size+1]? = some (.cells #[.bool false,.slice none 0 0] 60 (0,0)):=by
  have:=heap_alloc_new (w.alloc (.cells #[.bool false,.slice none 0 0] 60)) (.cells #[.bool false,.slice none 0 0] 60);simpa using this
 have HB0:=hide (And.intro hb0 (And.intro hf2 hf3));clear hb0 hf2 hf3;go_enter Tryz.func41,Tryz.ntmps41
 go_wp2;go_loopw [4,9] (fun sv iv wr=>∃(k:Nat),iv=.int .i64 k/\k<=n/\sv=.int .i64 (sgnL (zs.take k))/\Below w.heap.size w wr/\wr.heap[w.heap.size]? = some (.cells #[.bool false,.slice none 0 0] 60 (0,0))/\∃ng a m c,wr.heap[w.heap.size+1]? = some (.cells #[.bool ng,.slice a m c] 60 (0,0))/\OutW (gcdL (zs.take k)) L (.agg #[.bool ng,.slice a m c]) wr) (fun _ iv _=>n-(intOf iv).toNat)
 case atStart=>
  refine⟨0,rfl,Nat.zero_le _,rfl,HB0.out.1,HB0.out.2.1,false,none,0,0,HB0.out.2.2,?_⟩;exact(ah2 (K:=0) _ (Nat.zero_le _)).out
 case round=>
  obtain⟨k,rfl,hk,rfl,hbw,hf2,ng,a,m,c,hf3,ho⟩:=hrel;have HW:=hide hbw;have HF2:=hide hf2;have HF3:=hide hf3;have HO:=hide ho;by_cases hlt:k<n
  ·obtain⟨z,hz⟩:∃z,zs[k]? = some z:=⟨_,List.getElem?_eq_getElem (by have:=HN.out;omega)⟩;obtain⟨b,off,ngx,ax,mx,cx,rfl,hbl,x0,x1,hx⟩:=H.out.cell hz;replace x0:=(hbw.cell (p:=⟨b,off+k*2,none⟩) hbl).trans x0;replace x1:=(hbw.cell (p:=⟨b,off+k*2+1,none⟩) hbl).trans x1;have HX:=hide (hx.ru (Ru.of_below hbw));have HZ:=hide hz;have hlt':(k:Int)<(n:Int):=by omega
   obtain⟨h3l,y0,y1,yf0,yf1⟩:=aam hf3;have hba:Below wr.heap.size wr (wr.alloc (.cells #[.bool ngx,.slice ax mx cx] 60)):=hAl _ _;have hsz:=hbw.size;clear hbw hf2 hf3 ho hx hz;go_wp2_with fail
   refine(gcdF _ _ z _ _ L L (HO.out.is.ru (Ru.of_below hba)) (HX.out.ru (Ru.of_below hba)) (by omega) (by omega)).mono ?_;rintro e w1 ⟨v1,rfl,h1,hb1⟩;have HG:=hide (h1.out.fit (az5 (aeu HO.out.is) (aeu HX.out)));have hb1':=hba.trans (hb1.mono hba.size);have hx1:w1.heap[wr.heap.size]? = some (.cells #[.bool ngx,.slice ax mx cx] 60 (0,0)):=(hb1.block _ (by simp)).trans (heap_alloc_new wr _);have hg3:=(hb1'.block _ (aaa HF3.out)).trans HF3.out;have hg2:=(hb1'.block _ (aaa HF2.out)).trans HF2.out;have HG3:=hide hg3;have HG2:=hide hg2;have HB1:=hide (HW.out.trans (hb1'.mono HW.out.size));have HX1:=hide (HX.out.ru (Ru.of_below hb1'));obtain⟨ng1,ao1,k1,cap1,rfl⟩:=h1.agg;obtain⟨_,u0,u1,_,_⟩:=aam hx1;obtain⟨g3l,v0,v1,vf0,vf1⟩:=aam hg3;generalize wr.heap.size=fx at *
   clear h1 hb1 hb1' hba hx1 hg3 hg2 x0 x1 y0 y1 yf0 yf1;have HSK:Hid (sgnL (zs.take (k+1))=if sgnL (zs.take k)=0 then Int.sign z else sgnL (zs.take k)):=af1 _ _ HZ.out;have HGK:Hid (gcdL (zs.take (k+1))=((Int.gcd (gcdL (zs.take k)) z:Nat):Int)):=af1 _ _ HZ.out;generalize hsk:sgnL (zs.take k)=sk at *
   by_cases hs0:sk=0
   ·have HS0:=hide hs0;subst hs0;clear hsk;have hxf:fx≠w.heap.size+1:=by omega
    go_wp2_with fail
    refine(signF _ z _ L (HX1.out.ru (acy HG3.out _ _)) (by omega)).mono ?_;rintro e w2 ⟨rfl,hb2⟩;have hbs:Below w.heap.size w ((w1.setCell ⟨w.heap.size+1,0,none⟩ (.bool ng1)).setCell ⟨w.heap.size+1,1,none⟩ (.slice ao1 k1 cap1)):=(HB1.out.setCell (Nat.le_succ _) _).setCell (Nat.le_succ _) _;have hs2:((w1.setCell ⟨w.heap.size+1,0,none⟩ (.bool ng1)).setCell ⟨w.heap.size+1,1,none⟩ (.slice ao1 k1 cap1)).heap[w.heap.size]? = some (.cells #[.bool false,.slice none 0 0] 60 (0,0)):=by rw[heap_setCell_other _ ⟨w.heap.size+1,1,none⟩ _ _ (by show w.heap.size≠w.heap.size+1;omega),heap_setCell_other _ ⟨w.heap.size+1,0,none⟩ _ _ (by show w.heap.size≠w.heap.size+1;omega)];exact HG2.out
    have K1:=hide (hbs.trans (hb2.mono hbs.size));have K2:=hide ((hb2.block _ (aaa hs2)).trans hs2);have K3:=hide ((hb2.block _ (aaa (acm HG3.out (.bool ng1) (.slice ao1 k1 cap1)))).trans (acm HG3.out _ _));have K4:=hide ((HG.out.ru (acy HG3.out _ _)).ru (Ru.of_below hb2));clear hb2 hbs hs2;go_wp2;go_roundw
    case rel=>
     refine⟨k+1,by go_num,by omega,by rw[HSK.out,if_pos trivial],K1.out,K2.out,_,_,_,_,K3.out,?_⟩;rw[HGK.out];exact K4.out
    case measure=>simp[intOf];omega
   ·have HS0:=hide hs0;have hs0':(sk==0)=false:=beq_eq_false_iff_ne.2 hs0;clear hsk hs0;go_wp2;go_roundw
    case rel=>
     refine⟨k+1,by go_num,by omega,by rw[HSK.out,if_neg HS0.out],(HB1.out.setCell (Nat.le_succ _) _).setCell (Nat.le_succ _) _,?_,_,_,_,_,acm HG3.out _ _,?_⟩
     ·rw[heap_setCell_other _ ⟨w.heap.size+1,1,none⟩ _ _ (by show w.heap.size≠w.heap.size+1;omega),heap_setCell_other _ ⟨w.heap.size+1,0,none⟩ _ _ (by show w.heap.size≠w.heap.size+1;omega)];exact HG2.out
     ·rw[HGK.out];exact HG.out.ru (acy HG3.out _ _)
    case measure=>simp[intOf];omega
  ·have hlt':decide ((k:Int)<(n:Int))=false:=by simp;omega
   have hkn:zs.take k=zs:=List.take_of_length_le (by have:=HN.out;omega);rw[hkn]at HO ⊢;obtain⟨h3l,y0,y1,yf0,yf1⟩:=aam hf3;obtain⟨h2l,x0,x1,xf0,xf1⟩:=aam hf2;clear hbw hf2 hf3 ho hkn;by_cases hs:sgnL zs<0
   ·have HD:Hid (dvs zs = -(gcdL zs)):=if_pos hs;generalize sgnL zs=sk at *
    go_wp2_with fail
    refine(negF _ _ _ L HO.out.is (by omega)).mono ?_;rintro e w1 ⟨v1,rfl,h1,hb1⟩;have hg2:=(hb1.block _ (aaa HF2.out)).trans HF2.out;have HG2:=hide hg2;obtain⟨h2l',z0,z1,zf0,zf1⟩:=aam hg2;have HB1:=hide (HW.out.trans (hb1.mono HW.out.size));obtain⟨ng1,ao1,k1,cap1,rfl⟩:=h1.agg;have H1:=hide h1.out;clear h1 hb1 hg2 x0 x1 xf0 xf1 y0 y1 yf0 yf1;go_wp2;exact bodyPost_ret (v:=.agg #[.bool ng1,.slice ao1 k1 cap1]) (acx (g:=w.heap.size) rfl rfl (lvw2 (acm HG2.out _ _))) rfl ⟨_,rfl,by rw[HD.out];exact H1.out.ru (acy HG2.out _ _),(HB1.out.setCell (Nat.le_refl _) _).setCell (Nat.le_refl _) _⟩
   ·have HD:Hid (dvs zs=gcdL zs):=if_neg hs;have hs':decide (sgnL zs<0)=false:=decide_eq_false hs;generalize sgnL zs=sk at *
    clear hs;go_wp2;exact bodyPost_ret (v:=.agg #[.bool ng,.slice a m c]) (acx (g:=w.heap.size) rfl rfl (lvw2 (acm HF2.out _ _))) rfl ⟨_,rfl,by rw[HD.out];exact HO.out.ru (acy HF2.out _ _),(HW.out.setCell (Nat.le_refl _) _).setCell (Nat.le_refl _) _⟩
end Lm
end Go.Proofs.YtooefpkhacecnaaGreatDoor
namespace Go.Proofs
open Go.Shelf
shelf_lay Lays.n169 Nm 169 at Tryz as Tryz.lays169
namespace YtooefpkhacecnaaGreatDoor
namespace Lm
open Go Go.RowKit
theorem ajh:Builder.Extra Tryz.prog Tryz.lays169_ren where
 sizeBuilder:=by kernel_rfl
 liesBuilder:=by kernel_rfl
 t5:=Tryz.underlying5
 a5:=Tryz.isAgg5
 z5:=Tryz.sizeOf5
 v5:=Tryz.zeroValue5
 infoByte:=by kernel_rfl
 cellsByte:=by kernel_rfl
 sizeByte:=by kernel_rfl
 neB5:=by decide
def Bld(w:World)(B b:Nat)(l:List UInt8):Prop:=Lib.IsBuilderF 137 5 B b (Lib.byteCells l) w
theorem bsize:(Tryz.prog.info? 137).map (·.size)=some 2:=by kernel_rfl
theorem blies:liesAt Tryz.prog Tryz.prog.depth 137 (2/Tryz.prog.cellsOf 137) 0 137 1=true:=by kernel_rfl
set_option maxRecDepth 100000 in
theorem am7(b:Nat)(w:World)(h0:w.cell? ⟨b,0,none⟩=some (.pointer (some ⟨b,0,none⟩))):
  Calls Tryz.prog 128 #[.pointer (some ⟨b,0,none⟩)] w fun e w'=>e=.returned (.tuple #[])/\w'=w:=by
 obtain⟨j,hj,_⟩:=Option.map_eq_some_iff.1 bsize;go_enter Tryz.func128,Tryz.ntmps128
 go_wp2;rw[Lib.run_neq_ptr_same w _ Tryz.underlying134 hj];go_wp2;go_end0
 exact⟨rfl,rfl⟩
set_option maxRecDepth 100000 in
theorem alt(b:Nat)(w:World)(h0:w.cell? ⟨b,0,none⟩=some (.pointer none))(hsh:w.shape? b=some (137,2))(hfz:w.frozen? ⟨b,0,none⟩=false):
  Calls Tryz.prog 128 #[.pointer (some ⟨b,0,none⟩)] w fun e w'=>e=.returned (.tuple #[])/\w'=w.setCell ⟨b,0,none⟩ (.pointer (some ⟨b,0,none⟩)):=by
 obtain⟨j,hj,hjs⟩:=Option.map_eq_some_iff.1 bsize;go_enter Tryz.func128,Tryz.ntmps128
 go_wp2;rw[Lib.run_to_unsafe w ⟨b,0,none⟩ Tryz.underlying134 Tryz.underlying205 hj (by rw[hjs];decide) hsh (Nat.zero_lt_succ 1)];simp only[Result.andThen];rw[Oper.upon_value];go_wp2;rw[run_callFunc_extern Tryz.func159 (by kernel_rfl) (by kernel_rfl) (by kernel_rfl) (e:=Extern.AbiNoEscape.same) (by kernel_rfl)];rw[Lib.run_noEscape];simp only[Result.andThen];rw[Oper.upon_value];go_wp2;rw[Lib.run_from_unsafe w ⟨b,0,none⟩ Tryz.underlying205 Tryz.underlying134 hj hsh blies];simp only[Result.andThen];rw[Oper.upon_value];go_wp2;go_end0
 exact⟨rfl,rfl⟩
theorem bcheck(B b:Nat)(l:List UInt8)(w:World)(h:Bld w B b l):
  Calls Tryz.prog 128 #[.pointer (some ⟨b,0,none⟩)] w fun e w'=>e=.returned (.tuple #[])/\(Lib.BuilderAtF 137 5 B b (.pointer (some ⟨b,0,none⟩)) (Lib.byteCells l) w'/\Below B w w'/\Lib.OthersKept 5 (some b) w w'):=by
 rcases h with h|h
 ·refine(alt b w h.cell0 h.shape h.frozen0).mono ?_;rintro e w' ⟨rfl,rfl⟩;exact⟨rfl,h.used _,(Below.refl B w).setCell (p:=⟨b,0,none⟩) h.1 _,(Lib.OthersKept.refl _ _ w).setCell ⟨b,0,none⟩ rfl _⟩
 ·refine(am7 b w h.cell0).mono ?_;rintro e w' ⟨rfl,rfl⟩;exact⟨rfl,h,Below.refl B _,Lib.OthersKept.refl _ _ _⟩
theorem binfo:∃i0,Tryz.prog.info? 5=some i0/\i0.zero=some (.int .u8 0)/\i0.size=1/\i0.bytes=1:=by
 obtain⟨i0,h1,h2,h3,h4⟩:=info_parts ajh.infoByte;exact⟨i0,h1,h2,h3,h4⟩
set_option maxRecDepth 100000 in
theorem bwstr(B b:Nat)(l:List UInt8)(s:ByteArray)(w:World)(h:Bld w B b l)(hlen:l.length+s.size<=140737488355328)(hBw:B<=w.heap.size):
  Calls Tryz.prog 95 #[.pointer (some ⟨b,0,none⟩),.string s] w fun e w'=>e=.returned (.tuple #[.int .i64 s.size,.nilIface])/\Bld w' B b (l++s.data.toList)/\Below B w w'/\Lib.OthersKept 5 (some b) w w':=by
 obtain⟨i0,hi,hz0,hz1,hz2⟩:=binfo;have hbl:(Lib.byteCells l).length=l.length:=Lib.byteCells_length l;have HL:=hide hbl;have HH:=hide h;clear hbl h;go_enter Tryz.func95,Tryz.ntmps95
 go_wp2_with fail
 refine(bcheck B b l _ HH.out).mono ?_;rintro e w1 ⟨rfl,h1,hb1,hk1⟩;obtain⟨hB,v,hbk,hown,hne⟩:=h1;have c0:w1.cell? ⟨b,0,none⟩=some (.pointer (some ⟨b,0,none⟩)):=by rw[Lib.cell_of_heap hbk];rfl
 have c1:w1.cell? ⟨b,1,none⟩=some v:=by rw[Lib.cell_of_heap hbk];rfl
 go_wp2_with (at_builtin;refine Lib.wpList_append_own_stringF _ rfl _ _ 135 9 rfl B 5 i0 Tryz.underlying135 Tryz.underlying9 hi hz0 hz1 hz2 _ _ _ rfl hown s rfl ?c3 ?c4 ?c5 ?_)
 case c3=>have:=HL.out;unfold maxLen;omega
 case c4=>have:=HL.out;omega
 case c5=>have:=hb1.size;omega
 intro v' w2 hown' hgrow _;have hlt:b<w1.heap.size:=aaa hbk;have hb2:w2.heap[b]? = some (.cells #[.pointer (some ⟨b,0,none⟩),v] 137 (0,0)):=by
  rw[hgrow.block b hlt (fun e=>hne e.symm)];exact hbk
 have d0:w2.cell? ⟨b,0,none⟩=some (.pointer (some ⟨b,0,none⟩)):=by rw[Lib.cell_of_heap hb2];rfl
 have d1:w2.cell? ⟨b,1,none⟩=some v:=by rw[Lib.cell_of_heap hb2];rfl
 have f1:w2.frozen? ⟨b,1,none⟩=false:=Lib.frozen_of_heap hb2 1;obtain⟨ao,n',cap,rfl⟩:∃ao n' cap,v' = .slice ao n' cap:=by
  rcases hown'.2 with⟨hv,_⟩|⟨g,cap,cur,fz,hv,_⟩
  ·exact⟨_,_,_,hv⟩
  ·exact⟨_,_,_,hv⟩
 go_wp2;go_ret2
 refine⟨rfl,?_,?_,(hk1.grown hgrow (Lib.ownsRowF_kind hown)).setCell ⟨b,1,none⟩ rfl _⟩
 ·unfold Bld;rw[Lib.byteCells_append];have hcc:Lib.byteCells s.data.toList=Lib.strCells s:=by rfl
  rw[hcc];exact .inr (Lib.BuilderAtF.put (T:=137) (e:=5) hB hb2 (bs':=Lib.byteCells l++Lib.strCells s) (by simpa[Lib.strCells_length]using hown') ajh.neB5)
 ·exact(hb1.grown hgrow (by have:=hb1.size;omega) (fun k hk=>(hown.lt k hk).1)).setCell (p:=⟨b,1,none⟩) hB _
theorem bstring(B b:Nat)(l:List UInt8)(w:World)(h:Bld w B b l)(hBw:B<=w.heap.size):
  Calls Tryz.prog 96 #[.pointer (some ⟨b,0,none⟩)] w fun e w'=>e=.returned (.string ⟨l.toArray⟩)/\Below B w w':=by
 refine(Any.Builder_String_any_k Tryz.lays169 ajh B b l w h hBw).mono ?_;rintro e w' ⟨rfl,h1,h2,h3⟩;exact⟨rfl,h2⟩
end Lm
end YtooefpkhacecnaaGreatDoor
end Go.Proofs
namespace Go.Proofs.YtooefpkhacecnaaGreatDoor
namespace Lm
open Go Go.RowKit
section
variable {dst:Option Tmp} {ty:TypeId} {pos:String} {after:Array Edge} {guard:Option (Nat×Bool)} {a:Act} {w:World} {ats:Array TypeId} {i j:Nat}
theorem aj3{u v:Int}(h1:a.eval (.tmp i)=.int .i32 u):
  Does Tryz.prog {dst,op:=.binOp .eql 21 (.tmp i) (.const (.int .i32 v)) 21,type:=ty,pos,after,guard} a.eval w fun v' w'=>Below w.heap.size w w'/\Eqs (.bool (decide (u=v))) v' w':=by
 refine ac2 (v:=.bool (decide (u=v))) ?_ ?_ ⟨Below.refl _ _,rfl⟩
 ·rw[h1];simp[go_sem,Act.eval]
 ·rw[h1];simp[go_sem,Act.eval];rfl
theorem aj4{u v:Int}(h1:a.eval (.tmp i)=.int .i32 u)(h:u=v):
  Does Tryz.prog {dst,op:=.binOp .eql 21 (.tmp i) (.const (.int .i32 v)) 21,type:=ty,pos,after,guard} a.eval w fun v' w'=>Below w.heap.size w w'/\Eqs (.bool true) v' w':=
 (aj3 h1).mono fun _ _ ⟨hb,e⟩=>⟨hb,by rw[Eqs,show _=_ from e,decide_eq_true h]⟩
theorem agl{u v:Int}(h1:a.eval (.tmp i)=.int .i32 u)(h:u≠v):
  Does Tryz.prog {dst,op:=.binOp .eql 21 (.tmp i) (.const (.int .i32 v)) 21,type:=ty,pos,after,guard} a.eval w fun v' w'=>Below w.heap.size w w'/\Eqs (.bool false) v' w':=
 (aj3 h1).mono fun _ _ ⟨hb,e⟩=>⟨hb,by rw[Eqs,show _=_ from e,decide_eq_false h]⟩
theorem aof{s:ByteArray}{x:Operand}{k:Nat}(h:a.eval (.tmp i)=.string s)(hx:a.eval x=.int .i64 (k:Int))(hk:k<=s.size):Does Tryz.prog {dst,op:=.slice 9 (.tmp i) (some x) none none,type:=ty,pos,after,guard} a.eval w fun v' w'=>Below w.heap.size w w'/\Eqs (.string (s.extract k s.size)) v' w':=by
 have e:(execOp a.eval {dst,op:=.slice 9 (.tmp i) (some x) none none,type:=ty,pos,after,guard}).run Tryz.prog w=.ok (.value (.string (s.extract k s.size))) w:=by
  simp only[execOp,Option.map,h,hx];go_simp
 refine⟨?_⟩;unfold Turns;rw[e];exact⟨Below.refl _ _,rfl⟩
end
section
variable {dst:Option Tmp} {ty:TypeId} {pos:String} {after:Array Edge} {guard:Option (Nat×Bool)} {a:Act} {w:World} {ats:Array TypeId} {i j:Nat}
theorem aqm:Has Tryz.prog 129:=by unfold Has;kernel_rfl
theorem agm{s:ByteArray}{R:Int}{K:Nat}(h:a.eval (.tmp i)=.string s)(hT:Tabs w)(hd:(((Lib.decodeGo s).1:Nat):Int)=R/\(Lib.decodeGo s).2=K):
  Does Tryz.prog {dst,op:=.call {callee:=.value (.func 129),args:=#[.tmp i],argTypes:=ats},type:=ty,pos,after,guard} a.eval w fun v w'=>Below w.heap.size w w'/\Tup2 (Eqs (.int .i32 R)) (Eqs (.int .i64 (K:Int))) v w':=by
 refine abj aqm _ (by simp only[List.map_toArray,List.map_cons,List.map_nil,h]) ((air w s hT).mono ?_);rintro e w' ⟨rfl,hb⟩;obtain⟨rfl,rfl⟩:=hd;exact⟨_,rfl,hb,_,_,rfl,rfl,rfl⟩
end
theorem ayd(w:World)(s:ByteArray)(hT:Tabs w):
  Calls Tryz.prog 195 #[.string s] w fun e w'=>e=.returned (.tuple #[.bool (msplit s).1,.string (msplit s).2])/\Below w.heap.size w w':=by
 rcases am3 s with⟨⟨hd0,h3⟩,hm⟩|⟨⟨hd0,h3⟩,hm⟩|⟨⟨hn1',hn2',_,_⟩,hm⟩
 ·skip;go_enter Tryz.func195,Tryz.ntmps195
  generalize hA:(Act.mk _ _)=aa;have hn:aa.tmps.size=19:=by rw[<-hA];rfl
  have hd:aa.defers = []:=by rw[<-hA]
  have f0:aa.eval (.tmp 0)=.string s:=by rw[<-hA];rfl
  clear hA;have HB:Below w.heap.size w w:=Below.refl _ _;refine wp_seq ?_;refine aaq [some 2,some 3] [Eqs ((.bool false)),Eqs ((.string ⟨#[]⟩))] [] [] (by kernel_rfl) hn rfl (by kernel_rfl) (by kernel_rfl) (by kernel_rfl) (by kernel_rfl) (by kernel_rfl) (by kernel_rfl) ⟨Eqs.mono4 _,Eqs.mono4 _,trivial⟩ aas (IsOld.all (bx:=[]) trivial) (DisOld.all (bx:=[]) trivial) ?_ ?_
  ·exact⟨.norm 2 rfl rfl rfl (fun a_ w_ hn_ hBt hr hR hD hO hS=>aak rfl),
    .norm 3 rfl rfl rfl (fun a_ w_ hn_ hBt hr hR hD hO hS=>aak rfl),
    trivial⟩
  intro a1 w1 gs1 hn1 hd1 hBt hr hR hP hX hU;replace hn:=hn1;replace hd:=hd1.trans hd;replace f0:=(hR 0 rfl).trans f0;have e2:a1.eval (.tmp 2)=(.bool false):=hP 0 (by decide);have f2:=e2;have e3:a1.eval (.tmp 3)=(.string ⟨#[]⟩):=hP 1 (by decide);have f3:=e3;replace HB:=HB.trans (hBt.below HB.size (UpOld.all (bx:=[]) trivial));clear hBt hr hR hP hX hU;refine wp_seq ?_;refine aaq [some 7,some 8,some 6,some 9,some 10,some 4,some 5] [Eqs (.string s),Tup2 (Eqs (.int .i32 8722)) (Eqs (.int .i64 (3:Int))),Tup2 (Eqs (.int .i32 8722)) (Eqs (.int .i64 (3:Int))),Eqs (.int .i32 8722),Eqs (.int .i64 (3:Int)),Eqs (.int .i32 8722),Eqs (.int .i64 (3:Int))] [] [] (by kernel_rfl) hn rfl (by kernel_rfl) (by kernel_rfl) (by kernel_rfl) (by kernel_rfl) (by kernel_rfl) (by kernel_rfl) ⟨Eqs.mono4 _,Tup2.mono4 (Eqs.mono4 _) (Eqs.mono4 _),Tup2.mono4 (Eqs.mono4 _) (Eqs.mono4 _),Eqs.mono4 _,Eqs.mono4 _,Eqs.mono4 _,Eqs.mono4 _,trivial⟩ aas (IsOld.all (bx:=[]) trivial) (DisOld.all (bx:=[]) trivial) ?_ ?_
  ·exact⟨.norm 7 rfl rfl rfl (fun a_ w_ hn_ hBt hr hR hD hO hS=>abd ((hR 0 rfl).trans f0)),
    .norm 8 rfl rfl rfl (fun a_ w_ hn_ hBt hr hR hD hO hS=>agm (show a_.eval (.tmp 7)=.string s from hD 0 rfl) (hT.below (HB.trans (hBt.below HB.size (UpOld.all (bx:=[]) trivial)))) ⟨by rw[hd0];rfl,by rw[hd0]⟩),
    .norm 6 rfl rfl rfl (fun a_ w_ hn_ hBt hr hR hD hO hS=>agb (p:=Tup2 (Eqs (.int .i32 8722)) (Eqs (.int .i64 (3:Int)))) (show Tup2 (Eqs (.int .i32 8722)) (Eqs (.int .i64 (3:Int))) (a_.eval (.tmp 8)) w_ from hD 1 rfl)),
    .norm 9 rfl rfl rfl (fun a_ w_ hn_ hBt hr hR hD hO hS=>afd (show Tup2 (Eqs (.int .i32 8722)) (Eqs (.int .i64 (3:Int))) (a_.eval (.tmp 6)) w_ from hD 2 rfl)),
    .norm 10 rfl rfl rfl (fun a_ w_ hn_ hBt hr hR hD hO hS=>afe (show Tup2 (Eqs (.int .i32 8722)) (Eqs (.int .i64 (3:Int))) (a_.eval (.tmp 6)) w_ from hD 2 rfl)),
    .norm 4 rfl rfl rfl (fun a_ w_ hn_ hBt hr hR hD hO hS=>aak (show a_.eval (.tmp 9)=.int .i32 8722 from hD 3 rfl)),
    .norm 5 rfl rfl rfl (fun a_ w_ hn_ hBt hr hR hD hO hS=>aak (show a_.eval (.tmp 10)=.int .i64 (3:Int)from hD 4 rfl)),
    trivial⟩
  intro a2 w2 gs2 hn2 hd2 hBt hr hR hP hX hU;replace hn:=hn2;replace hd:=hd2.trans hd;replace f0:=(hR 0 rfl).trans f0;replace f2:=(hR 2 rfl).trans f2;replace f3:=(hR 3 rfl).trans f3;have e4:a2.eval (.tmp 4)=.int .i32 8722:=hP 5 (by decide);have f4:=e4;have e5:a2.eval (.tmp 5)=.int .i64 (3:Int):=hP 6 (by decide);have f5:=e5;replace HB:=HB.trans (hBt.below HB.size (UpOld.all (bx:=[]) trivial));clear hBt hr hR hP hX hU;refine wp_seq ?_;refine wp_seq ?_;refine aaq [some 11] [Eqs (.int .i32 8722)] [] [] (by kernel_rfl) hn rfl (by kernel_rfl) (by kernel_rfl) (by kernel_rfl) (by kernel_rfl) (by kernel_rfl) (by kernel_rfl) ⟨Eqs.mono4 _,trivial⟩ aas (IsOld.all (bx:=[]) trivial) (DisOld.all (bx:=[]) trivial) ?_ ?_
  ·exact⟨.norm 11 rfl rfl rfl (fun a_ w_ hn_ hBt hr hR hD hO hS=>abd ((hR 4 rfl).trans f4)),
    trivial⟩
  intro a3 w3 gs3 hn3 hd3 hBt hr hR hP hX hU;replace hn:=hn3;replace hd:=hd3.trans hd;replace f0:=(hR 0 rfl).trans f0;replace f2:=(hR 2 rfl).trans f2;replace f3:=(hR 3 rfl).trans f3;replace f5:=(hR 5 rfl).trans f5;have e11:a3.eval (.tmp 11)=.int .i32 8722:=hP 0 (by decide);have f11:=e11;replace HB:=HB.trans (hBt.below HB.size (UpOld.all (bx:=[]) trivial));clear hBt hr hR hP hX hU;refine wp_block ?_;refine wp_seq ?_;refine wp_seq ?_;refine aaq [some 13,some 12] [Eqs (.bool false),Eqs (.bool false)] [] [] (by kernel_rfl) hn rfl (by kernel_rfl) (by kernel_rfl) (by kernel_rfl) (by kernel_rfl) (by kernel_rfl) (by kernel_rfl) ⟨Eqs.mono4 _,Eqs.mono4 _,trivial⟩ aas (IsOld.all (bx:=[]) trivial) (DisOld.all (bx:=[]) trivial) ?_ ?_
  ·exact⟨.norm 13 rfl rfl rfl (fun a_ w_ hn_ hBt hr hR hD hO hS=>agl ((hR 11 rfl).trans f11) (by decide)),
    .norm 12 rfl rfl rfl (fun a_ w_ hn_ hBt hr hR hD hO hS=>aak (show a_.eval (.tmp 13)=.bool false from hD 0 rfl)),
    trivial⟩
  intro a4 w4 gs4 hn4 hd4 hBt hr hR hP hX hU;replace hn:=hn4;replace hd:=hd4.trans hd;replace f0:=(hR 0 rfl).trans f0;replace f2:=(hR 2 rfl).trans f2;replace f3:=(hR 3 rfl).trans f3;replace f5:=(hR 5 rfl).trans f5;replace f11:=(hR 11 rfl).trans f11;have e12:a4.eval (.tmp 12)=.bool false:=hP 1 (by decide);have f12:=e12;replace HB:=HB.trans (hBt.below HB.size (UpOld.all (bx:=[]) trivial));clear hBt hr hR hP hX hU;refine wp_cond_false f12 ?_;refine aaq [some 14,some 12] [Eqs (.bool true),Eqs (.bool true)] [] [] (by kernel_rfl) hn rfl (by kernel_rfl) (by kernel_rfl) (by kernel_rfl) (by kernel_rfl) (by kernel_rfl) (by kernel_rfl) ⟨Eqs.mono4 _,Eqs.mono4 _,trivial⟩ aas (IsOld.all (bx:=[]) trivial) (DisOld.all (bx:=[]) trivial) ?_ ?_
  ·exact⟨.norm 14 rfl rfl rfl (fun a_ w_ hn_ hBt hr hR hD hO hS=>aj4 ((hR 11 rfl).trans f11) rfl),
    .norm 12 rfl rfl rfl (fun a_ w_ hn_ hBt hr hR hD hO hS=>aak (show a_.eval (.tmp 14)=.bool true from hD 0 rfl)),
    trivial⟩
  intro a5 w5 gs5 hn5 hd5 hBt hr hR hP hX hU;replace hn:=hn5;replace hd:=hd5.trans hd;replace f0:=(hR 0 rfl).trans f0;replace f2:=(hR 2 rfl).trans f2;replace f3:=(hR 3 rfl).trans f3;replace f5:=(hR 5 rfl).trans f5;have e12:a5.eval (.tmp 12)=.bool true:=hP 1 (by decide);have f12:=e12;replace HB:=HB.trans (hBt.below HB.size (UpOld.all (bx:=[]) trivial));clear hBt hr hR hP hX hU;refine wp_cond_true f12 ?_;refine wp_seq ?_;refine aaq [some 15,some 16,some 17,some 2,some 3] [Eqs (.string s),Eqs (.int .i64 (3:Int)),Eqs (.string ((s).extract 3 (s).size)),Eqs ((.bool true)),Eqs (.string ((s).extract 3 (s).size))] [] [] (by kernel_rfl) hn rfl (by kernel_rfl) (by kernel_rfl) (by kernel_rfl) (by kernel_rfl) (by kernel_rfl) (by kernel_rfl) ⟨Eqs.mono4 _,Eqs.mono4 _,Eqs.mono4 _,Eqs.mono4 _,Eqs.mono4 _,trivial⟩ aas (IsOld.all (bx:=[]) trivial) (DisOld.all (bx:=[]) trivial) ?_ ?_
  ·exact⟨.norm 15 rfl rfl rfl (fun a_ w_ hn_ hBt hr hR hD hO hS=>abd ((hR 0 rfl).trans f0)),
    .norm 16 rfl rfl rfl (fun a_ w_ hn_ hBt hr hR hD hO hS=>abd ((hR 5 rfl).trans f5)),
    .norm 17 rfl rfl rfl (fun a_ w_ hn_ hBt hr hR hD hO hS=>aof (k:=3) (show a_.eval (.tmp 15)=.string s from hD 0 rfl) (show a_.eval (.tmp 16)=.int .i64 (3:Int)from hD 1 rfl) (by omega)),
    .norm 2 rfl rfl rfl (fun a_ w_ hn_ hBt hr hR hD hO hS=>aak rfl),
    .norm 3 rfl rfl rfl (fun a_ w_ hn_ hBt hr hR hD hO hS=>aak (show a_.eval (.tmp 17)=.string ((s).extract 3 (s).size)from hD 2 rfl)),
    trivial⟩
  intro a6 w6 gs6 hn6 hd6 hBt hr hR hP hX hU;replace hn:=hn6;replace hd:=hd6.trans hd;replace f0:=(hR 0 rfl).trans f0;have e2:a6.eval (.tmp 2)=(.bool true):=hP 3 (by decide);have f2:=e2;have e3:a6.eval (.tmp 3)=.string ((s).extract 3 (s).size):=hP 4 (by decide);have f3:=e3;replace HB:=HB.trans (hBt.below HB.size (UpOld.all (bx:=[]) trivial));clear hBt hr hR hP hX hU;refine wp_ret ?_;repeat(first|refine aca ?_|refine abn ?_|refine ab1 ?_)
  exact bodyPost_ret (v:=.tuple #[.bool true,.string ((s).extract 3 (s).size)]) (ajf rfl f2 f3) hd ⟨by rw[hm],HB⟩
 ·skip;go_enter Tryz.func195,Tryz.ntmps195
  generalize hA:(Act.mk _ _)=aa;have hn:aa.tmps.size=19:=by rw[<-hA];rfl
  have hd:aa.defers = []:=by rw[<-hA]
  have f0:aa.eval (.tmp 0)=.string s:=by rw[<-hA];rfl
  clear hA;have HB:Below w.heap.size w w:=Below.refl _ _;refine wp_seq ?_;refine aaq [some 2,some 3] [Eqs ((.bool false)),Eqs ((.string ⟨#[]⟩))] [] [] (by kernel_rfl) hn rfl (by kernel_rfl) (by kernel_rfl) (by kernel_rfl) (by kernel_rfl) (by kernel_rfl) (by kernel_rfl) ⟨Eqs.mono4 _,Eqs.mono4 _,trivial⟩ aas (IsOld.all (bx:=[]) trivial) (DisOld.all (bx:=[]) trivial) ?_ ?_
  ·exact⟨.norm 2 rfl rfl rfl (fun a_ w_ hn_ hBt hr hR hD hO hS=>aak rfl),
    .norm 3 rfl rfl rfl (fun a_ w_ hn_ hBt hr hR hD hO hS=>aak rfl),
    trivial⟩
  intro a1 w1 gs1 hn1 hd1 hBt hr hR hP hX hU;replace hn:=hn1;replace hd:=hd1.trans hd;replace f0:=(hR 0 rfl).trans f0;have e2:a1.eval (.tmp 2)=(.bool false):=hP 0 (by decide);have f2:=e2;have e3:a1.eval (.tmp 3)=(.string ⟨#[]⟩):=hP 1 (by decide);have f3:=e3;replace HB:=HB.trans (hBt.below HB.size (UpOld.all (bx:=[]) trivial));clear hBt hr hR hP hX hU;refine wp_seq ?_;refine aaq [some 7,some 8,some 6,some 9,some 10,some 4,some 5] [Eqs (.string s),Tup2 (Eqs (.int .i32 45)) (Eqs (.int .i64 (1:Int))),Tup2 (Eqs (.int .i32 45)) (Eqs (.int .i64 (1:Int))),Eqs (.int .i32 45),Eqs (.int .i64 (1:Int)),Eqs (.int .i32 45),Eqs (.int .i64 (1:Int))] [] [] (by kernel_rfl) hn rfl (by kernel_rfl) (by kernel_rfl) (by kernel_rfl) (by kernel_rfl) (by kernel_rfl) (by kernel_rfl) ⟨Eqs.mono4 _,Tup2.mono4 (Eqs.mono4 _) (Eqs.mono4 _),Tup2.mono4 (Eqs.mono4 _) (Eqs.mono4 _),Eqs.mono4 _,Eqs.mono4 _,Eqs.mono4 _,Eqs.mono4 _,trivial⟩ aas (IsOld.all (bx:=[]) trivial) (DisOld.all (bx:=[]) trivial) ?_ ?_
  ·exact⟨.norm 7 rfl rfl rfl (fun a_ w_ hn_ hBt hr hR hD hO hS=>abd ((hR 0 rfl).trans f0)),
    .norm 8 rfl rfl rfl (fun a_ w_ hn_ hBt hr hR hD hO hS=>agm (show a_.eval (.tmp 7)=.string s from hD 0 rfl) (hT.below (HB.trans (hBt.below HB.size (UpOld.all (bx:=[]) trivial)))) ⟨by rw[hd0];rfl,by rw[hd0]⟩),
    .norm 6 rfl rfl rfl (fun a_ w_ hn_ hBt hr hR hD hO hS=>agb (p:=Tup2 (Eqs (.int .i32 45)) (Eqs (.int .i64 (1:Int)))) (show Tup2 (Eqs (.int .i32 45)) (Eqs (.int .i64 (1:Int))) (a_.eval (.tmp 8)) w_ from hD 1 rfl)),
    .norm 9 rfl rfl rfl (fun a_ w_ hn_ hBt hr hR hD hO hS=>afd (show Tup2 (Eqs (.int .i32 45)) (Eqs (.int .i64 (1:Int))) (a_.eval (.tmp 6)) w_ from hD 2 rfl)),
    .norm 10 rfl rfl rfl (fun a_ w_ hn_ hBt hr hR hD hO hS=>afe (show Tup2 (Eqs (.int .i32 45)) (Eqs (.int .i64 (1:Int))) (a_.eval (.tmp 6)) w_ from hD 2 rfl)),
    .norm 4 rfl rfl rfl (fun a_ w_ hn_ hBt hr hR hD hO hS=>aak (show a_.eval (.tmp 9)=.int .i32 45 from hD 3 rfl)),
    .norm 5 rfl rfl rfl (fun a_ w_ hn_ hBt hr hR hD hO hS=>aak (show a_.eval (.tmp 10)=.int .i64 (1:Int)from hD 4 rfl)),
    trivial⟩
  intro a2 w2 gs2 hn2 hd2 hBt hr hR hP hX hU;replace hn:=hn2;replace hd:=hd2.trans hd;replace f0:=(hR 0 rfl).trans f0;replace f2:=(hR 2 rfl).trans f2;replace f3:=(hR 3 rfl).trans f3;have e4:a2.eval (.tmp 4)=.int .i32 45:=hP 5 (by decide);have f4:=e4;have e5:a2.eval (.tmp 5)=.int .i64 (1:Int):=hP 6 (by decide);have f5:=e5;replace HB:=HB.trans (hBt.below HB.size (UpOld.all (bx:=[]) trivial));clear hBt hr hR hP hX hU;refine wp_seq ?_;refine wp_seq ?_;refine aaq [some 11] [Eqs (.int .i32 45)] [] [] (by kernel_rfl) hn rfl (by kernel_rfl) (by kernel_rfl) (by kernel_rfl) (by kernel_rfl) (by kernel_rfl) (by kernel_rfl) ⟨Eqs.mono4 _,trivial⟩ aas (IsOld.all (bx:=[]) trivial) (DisOld.all (bx:=[]) trivial) ?_ ?_
  ·exact⟨.norm 11 rfl rfl rfl (fun a_ w_ hn_ hBt hr hR hD hO hS=>abd ((hR 4 rfl).trans f4)),
    trivial⟩
  intro a3 w3 gs3 hn3 hd3 hBt hr hR hP hX hU;replace hn:=hn3;replace hd:=hd3.trans hd;replace f0:=(hR 0 rfl).trans f0;replace f2:=(hR 2 rfl).trans f2;replace f3:=(hR 3 rfl).trans f3;replace f5:=(hR 5 rfl).trans f5;have e11:a3.eval (.tmp 11)=.int .i32 45:=hP 0 (by decide);have f11:=e11;replace HB:=HB.trans (hBt.below HB.size (UpOld.all (bx:=[]) trivial));clear hBt hr hR hP hX hU;refine wp_block ?_;refine wp_seq ?_;refine wp_seq ?_;refine aaq [some 13,some 12] [Eqs (.bool true),Eqs (.bool true)] [] [] (by kernel_rfl) hn rfl (by kernel_rfl) (by kernel_rfl) (by kernel_rfl) (by kernel_rfl) (by kernel_rfl) (by kernel_rfl) ⟨Eqs.mono4 _,Eqs.mono4 _,trivial⟩ aas (IsOld.all (bx:=[]) trivial) (DisOld.all (bx:=[]) trivial) ?_ ?_
  ·exact⟨.norm 13 rfl rfl rfl (fun a_ w_ hn_ hBt hr hR hD hO hS=>aj4 ((hR 11 rfl).trans f11) rfl),
    .norm 12 rfl rfl rfl (fun a_ w_ hn_ hBt hr hR hD hO hS=>aak (show a_.eval (.tmp 13)=.bool true from hD 0 rfl)),
    trivial⟩
  intro a4 w4 gs4 hn4 hd4 hBt hr hR hP hX hU;replace hn:=hn4;replace hd:=hd4.trans hd;replace f0:=(hR 0 rfl).trans f0;replace f2:=(hR 2 rfl).trans f2;replace f3:=(hR 3 rfl).trans f3;replace f5:=(hR 5 rfl).trans f5;replace f11:=(hR 11 rfl).trans f11;have e12:a4.eval (.tmp 12)=.bool true:=hP 1 (by decide);have f12:=e12;replace HB:=HB.trans (hBt.below HB.size (UpOld.all (bx:=[]) trivial));clear hBt hr hR hP hX hU;refine wp_cond_true f12 ?_;refine wp_skip ?_;refine wp_cond_true f12 ?_;refine wp_seq ?_;refine aaq [some 15,some 16,some 17,some 2,some 3] [Eqs (.string s),Eqs (.int .i64 (1:Int)),Eqs (.string ((s).extract 1 (s).size)),Eqs ((.bool true)),Eqs (.string ((s).extract 1 (s).size))] [] [] (by kernel_rfl) hn rfl (by kernel_rfl) (by kernel_rfl) (by kernel_rfl) (by kernel_rfl) (by kernel_rfl) (by kernel_rfl) ⟨Eqs.mono4 _,Eqs.mono4 _,Eqs.mono4 _,Eqs.mono4 _,Eqs.mono4 _,trivial⟩ aas (IsOld.all (bx:=[]) trivial) (DisOld.all (bx:=[]) trivial) ?_ ?_
  ·exact⟨.norm 15 rfl rfl rfl (fun a_ w_ hn_ hBt hr hR hD hO hS=>abd ((hR 0 rfl).trans f0)),
    .norm 16 rfl rfl rfl (fun a_ w_ hn_ hBt hr hR hD hO hS=>abd ((hR 5 rfl).trans f5)),
    .norm 17 rfl rfl rfl (fun a_ w_ hn_ hBt hr hR hD hO hS=>aof (k:=1) (show a_.eval (.tmp 15)=.string s from hD 0 rfl) (show a_.eval (.tmp 16)=.int .i64 (1:Int)from hD 1 rfl) (by omega)),
    .norm 2 rfl rfl rfl (fun a_ w_ hn_ hBt hr hR hD hO hS=>aak rfl),
    .norm 3 rfl rfl rfl (fun a_ w_ hn_ hBt hr hR hD hO hS=>aak (show a_.eval (.tmp 17)=.string ((s).extract 1 (s).size)from hD 2 rfl)),
    trivial⟩
  intro a5 w5 gs5 hn5 hd5 hBt hr hR hP hX hU;replace hn:=hn5;replace hd:=hd5.trans hd;replace f0:=(hR 0 rfl).trans f0;have e2:a5.eval (.tmp 2)=(.bool true):=hP 3 (by decide);have f2:=e2;have e3:a5.eval (.tmp 3)=.string ((s).extract 1 (s).size):=hP 4 (by decide);have f3:=e3;replace HB:=HB.trans (hBt.below HB.size (UpOld.all (bx:=[]) trivial));clear hBt hr hR hP hX hU;refine wp_ret ?_;repeat(first|refine aca ?_|refine abn ?_|refine ab1 ?_)
  exact bodyPost_ret (v:=.tuple #[.bool true,.string ((s).extract 1 (s).size)]) (ajf rfl f2 f3) hd ⟨by rw[hm],HB⟩
 ·have hne1:(((Lib.decodeGo s).1:Nat):Int)≠45:=by omega
  have hne2:(((Lib.decodeGo s).1:Nat):Int)≠8722:=by omega
  go_enter Tryz.func195,Tryz.ntmps195
  generalize hA:(Act.mk _ _)=aa;have hn:aa.tmps.size=19:=by rw[<-hA];rfl
  have hd:aa.defers = []:=by rw[<-hA]
  have f0:aa.eval (.tmp 0)=.string s:=by rw[<-hA];rfl
  clear hA;have HB:Below w.heap.size w w:=Below.refl _ _;refine wp_seq ?_;refine aaq [some 2,some 3] [Eqs ((.bool false)),Eqs ((.string ⟨#[]⟩))] [] [] (by kernel_rfl) hn rfl (by kernel_rfl) (by kernel_rfl) (by kernel_rfl) (by kernel_rfl) (by kernel_rfl) (by kernel_rfl) ⟨Eqs.mono4 _,Eqs.mono4 _,trivial⟩ aas (IsOld.all (bx:=[]) trivial) (DisOld.all (bx:=[]) trivial) ?_ ?_
  ·exact⟨.norm 2 rfl rfl rfl (fun a_ w_ hn_ hBt hr hR hD hO hS=>aak rfl),
    .norm 3 rfl rfl rfl (fun a_ w_ hn_ hBt hr hR hD hO hS=>aak rfl),
    trivial⟩
  intro a1 w1 gs1 hn1 hd1 hBt hr hR hP hX hU;replace hn:=hn1;replace hd:=hd1.trans hd;replace f0:=(hR 0 rfl).trans f0;have e2:a1.eval (.tmp 2)=(.bool false):=hP 0 (by decide);have f2:=e2;have e3:a1.eval (.tmp 3)=(.string ⟨#[]⟩):=hP 1 (by decide);have f3:=e3;replace HB:=HB.trans (hBt.below HB.size (UpOld.all (bx:=[]) trivial));clear hBt hr hR hP hX hU;refine wp_seq ?_;refine aaq [some 7,some 8,some 6,some 9,some 10,some 4,some 5] [Eqs (.string s),Tup2 (Eqs (.int .i32 (((Lib.decodeGo s).1:Nat):Int))) (Eqs (.int .i64 ((Lib.decodeGo s).2:Int))),Tup2 (Eqs (.int .i32 (((Lib.decodeGo s).1:Nat):Int))) (Eqs (.int .i64 ((Lib.decodeGo s).2:Int))),Eqs (.int .i32 (((Lib.decodeGo s).1:Nat):Int)),Eqs (.int .i64 ((Lib.decodeGo s).2:Int)),Eqs (.int .i32 (((Lib.decodeGo s).1:Nat):Int)),Eqs (.int .i64 ((Lib.decodeGo s).2:Int))] [] [] (by kernel_rfl) hn rfl (by kernel_rfl) (by kernel_rfl) (by kernel_rfl) (by kernel_rfl) (by kernel_rfl) (by kernel_rfl) ⟨Eqs.mono4 _,Tup2.mono4 (Eqs.mono4 _) (Eqs.mono4 _),Tup2.mono4 (Eqs.mono4 _) (Eqs.mono4 _),Eqs.mono4 _,Eqs.mono4 _,Eqs.mono4 _,Eqs.mono4 _,trivial⟩ aas (IsOld.all (bx:=[]) trivial) (DisOld.all (bx:=[]) trivial) ?_ ?_
  ·exact⟨.norm 7 rfl rfl rfl (fun a_ w_ hn_ hBt hr hR hD hO hS=>abd ((hR 0 rfl).trans f0)),
    .norm 8 rfl rfl rfl (fun a_ w_ hn_ hBt hr hR hD hO hS=>agm (show a_.eval (.tmp 7)=.string s from hD 0 rfl) (hT.below (HB.trans (hBt.below HB.size (UpOld.all (bx:=[]) trivial)))) ⟨rfl,rfl⟩),
    .norm 6 rfl rfl rfl (fun a_ w_ hn_ hBt hr hR hD hO hS=>agb (p:=Tup2 (Eqs (.int .i32 (((Lib.decodeGo s).1:Nat):Int))) (Eqs (.int .i64 ((Lib.decodeGo s).2:Int)))) (show Tup2 (Eqs (.int .i32 (((Lib.decodeGo s).1:Nat):Int))) (Eqs (.int .i64 ((Lib.decodeGo s).2:Int))) (a_.eval (.tmp 8)) w_ from hD 1 rfl)),
    .norm 9 rfl rfl rfl (fun a_ w_ hn_ hBt hr hR hD hO hS=>afd (show Tup2 (Eqs (.int .i32 (((Lib.decodeGo s).1:Nat):Int))) (Eqs (.int .i64 ((Lib.decodeGo s).2:Int))) (a_.eval (.tmp 6)) w_ from hD 2 rfl)),
    .norm 10 rfl rfl rfl (fun a_ w_ hn_ hBt hr hR hD hO hS=>afe (show Tup2 (Eqs (.int .i32 (((Lib.decodeGo s).1:Nat):Int))) (Eqs (.int .i64 ((Lib.decodeGo s).2:Int))) (a_.eval (.tmp 6)) w_ from hD 2 rfl)),
    .norm 4 rfl rfl rfl (fun a_ w_ hn_ hBt hr hR hD hO hS=>aak (show a_.eval (.tmp 9)=.int .i32 (((Lib.decodeGo s).1:Nat):Int)from hD 3 rfl)),
    .norm 5 rfl rfl rfl (fun a_ w_ hn_ hBt hr hR hD hO hS=>aak (show a_.eval (.tmp 10)=.int .i64 ((Lib.decodeGo s).2:Int)from hD 4 rfl)),
    trivial⟩
  intro a2 w2 gs2 hn2 hd2 hBt hr hR hP hX hU;replace hn:=hn2;replace hd:=hd2.trans hd;replace f0:=(hR 0 rfl).trans f0;replace f2:=(hR 2 rfl).trans f2;replace f3:=(hR 3 rfl).trans f3;have e4:a2.eval (.tmp 4)=.int .i32 (((Lib.decodeGo s).1:Nat):Int):=hP 5 (by decide);have f4:=e4;have e5:a2.eval (.tmp 5)=.int .i64 ((Lib.decodeGo s).2:Int):=hP 6 (by decide);have f5:=e5;replace HB:=HB.trans (hBt.below HB.size (UpOld.all (bx:=[]) trivial));clear hBt hr hR hP hX hU;refine wp_seq ?_;refine wp_seq ?_;refine aaq [some 11] [Eqs (.int .i32 (((Lib.decodeGo s).1:Nat):Int))] [] [] (by kernel_rfl) hn rfl (by kernel_rfl) (by kernel_rfl) (by kernel_rfl) (by kernel_rfl) (by kernel_rfl) (by kernel_rfl) ⟨Eqs.mono4 _,trivial⟩ aas (IsOld.all (bx:=[]) trivial) (DisOld.all (bx:=[]) trivial) ?_ ?_
  ·exact⟨.norm 11 rfl rfl rfl (fun a_ w_ hn_ hBt hr hR hD hO hS=>abd ((hR 4 rfl).trans f4)),
    trivial⟩
  intro a3 w3 gs3 hn3 hd3 hBt hr hR hP hX hU;replace hn:=hn3;replace hd:=hd3.trans hd;replace f0:=(hR 0 rfl).trans f0;replace f2:=(hR 2 rfl).trans f2;replace f3:=(hR 3 rfl).trans f3;replace f5:=(hR 5 rfl).trans f5;have e11:a3.eval (.tmp 11)=.int .i32 (((Lib.decodeGo s).1:Nat):Int):=hP 0 (by decide);have f11:=e11;replace HB:=HB.trans (hBt.below HB.size (UpOld.all (bx:=[]) trivial));clear hBt hr hR hP hX hU;refine wp_block ?_;refine wp_seq ?_;refine wp_seq ?_;refine aaq [some 13,some 12] [Eqs (.bool false),Eqs (.bool false)] [] [] (by kernel_rfl) hn rfl (by kernel_rfl) (by kernel_rfl) (by kernel_rfl) (by kernel_rfl) (by kernel_rfl) (by kernel_rfl) ⟨Eqs.mono4 _,Eqs.mono4 _,trivial⟩ aas (IsOld.all (bx:=[]) trivial) (DisOld.all (bx:=[]) trivial) ?_ ?_
  ·exact⟨.norm 13 rfl rfl rfl (fun a_ w_ hn_ hBt hr hR hD hO hS=>agl ((hR 11 rfl).trans f11) hne1),
    .norm 12 rfl rfl rfl (fun a_ w_ hn_ hBt hr hR hD hO hS=>aak (show a_.eval (.tmp 13)=.bool false from hD 0 rfl)),
    trivial⟩
  intro a4 w4 gs4 hn4 hd4 hBt hr hR hP hX hU;replace hn:=hn4;replace hd:=hd4.trans hd;replace f0:=(hR 0 rfl).trans f0;replace f2:=(hR 2 rfl).trans f2;replace f3:=(hR 3 rfl).trans f3;replace f5:=(hR 5 rfl).trans f5;replace f11:=(hR 11 rfl).trans f11;have e12:a4.eval (.tmp 12)=.bool false:=hP 1 (by decide);have f12:=e12;replace HB:=HB.trans (hBt.below HB.size (UpOld.all (bx:=[]) trivial));clear hBt hr hR hP hX hU;refine wp_cond_false f12 ?_;refine aaq [some 14,some 12] [Eqs (.bool false),Eqs (.bool false)] [] [] (by kernel_rfl) hn rfl (by kernel_rfl) (by kernel_rfl) (by kernel_rfl) (by kernel_rfl) (by kernel_rfl) (by kernel_rfl) ⟨Eqs.mono4 _,Eqs.mono4 _,trivial⟩ aas (IsOld.all (bx:=[]) trivial) (DisOld.all (bx:=[]) trivial) ?_ ?_
  ·exact⟨.norm 14 rfl rfl rfl (fun a_ w_ hn_ hBt hr hR hD hO hS=>agl ((hR 11 rfl).trans f11) hne2),
    .norm 12 rfl rfl rfl (fun a_ w_ hn_ hBt hr hR hD hO hS=>aak (show a_.eval (.tmp 14)=.bool false from hD 0 rfl)),
    trivial⟩
  intro a5 w5 gs5 hn5 hd5 hBt hr hR hP hX hU;replace hn:=hn5;replace hd:=hd5.trans hd;replace f0:=(hR 0 rfl).trans f0;replace f2:=(hR 2 rfl).trans f2;replace f3:=(hR 3 rfl).trans f3;replace f5:=(hR 5 rfl).trans f5;have e12:a5.eval (.tmp 12)=.bool false:=hP 1 (by decide);have f12:=e12;replace HB:=HB.trans (hBt.below HB.size (UpOld.all (bx:=[]) trivial));clear hBt hr hR hP hX hU;refine wp_cond_false f12 ?_;refine wp_skip ?_;refine agc ?_;refine wp_seq ?_;refine aaq [some 18,some 2,some 3] [Eqs (.string s),Eqs ((.bool false)),Eqs (.string s)] [] [] (by kernel_rfl) hn rfl (by kernel_rfl) (by kernel_rfl) (by kernel_rfl) (by kernel_rfl) (by kernel_rfl) (by kernel_rfl) ⟨Eqs.mono4 _,Eqs.mono4 _,Eqs.mono4 _,trivial⟩ aas (IsOld.all (bx:=[]) trivial) (DisOld.all (bx:=[]) trivial) ?_ ?_
  ·exact⟨.norm 18 rfl rfl rfl (fun a_ w_ hn_ hBt hr hR hD hO hS=>abd ((hR 0 rfl).trans f0)),
    .norm 2 rfl rfl rfl (fun a_ w_ hn_ hBt hr hR hD hO hS=>aak rfl),
    .norm 3 rfl rfl rfl (fun a_ w_ hn_ hBt hr hR hD hO hS=>aak (show a_.eval (.tmp 18)=.string s from hD 0 rfl)),
    trivial⟩
  intro a6 w6 gs6 hn6 hd6 hBt hr hR hP hX hU;replace hn:=hn6;replace hd:=hd6.trans hd;have e2:a6.eval (.tmp 2)=(.bool false):=hP 1 (by decide);have f2:=e2;have e3:a6.eval (.tmp 3)=.string s:=hP 2 (by decide);have f3:=e3;replace HB:=HB.trans (hBt.below HB.size (UpOld.all (bx:=[]) trivial));clear hBt hr hR hP hX hU;refine wp_ret ?_;repeat(first|refine aca ?_|refine abn ?_|refine ab1 ?_)
  exact bodyPost_ret (v:=.tuple #[.bool false,.string s]) (ajf rfl f2 f3) hd ⟨by rw[hm],HB⟩
end Lm
namespace Lm
open Go Go.RowKit
open Dm (Err Fine)
open Classical in
noncomputable def kOf(r:ByteArray):Int:=if 5120<r.size then 2 else if 1<=r.size/\Dig (bytesOf r)then 0 else 10
open Classical in
noncomputable def xOf(r:ByteArray):Int:=if Fine r then dval (bytesOf r)else 0
theorem az6{r:ByteArray}{k:Int}(h:Err r k):k=kOf r/\xOf r=0/\kOf r≠0:=by
 have hf:¬Fine r:=fun hf=>Dm.alk h hf
 have h1:k=kOf r:=by
  rcases h with⟨rfl,h2⟩|⟨rfl,h2,h3⟩
  ·rw[kOf,if_pos h2]
  ·rw[kOf,if_neg (by omega),if_neg h3]
 refine⟨h1,by rw[xOf,if_neg hf],?_⟩;rw[<-h1];rcases h with⟨h1,_⟩|⟨h1,_⟩ <;> omega
theorem afk{r:ByteArray}(h:Fine r):kOf r=0/\xOf r=dval (bytesOf r):=by
 refine⟨?_,by rw[xOf,if_pos h]⟩;rw[kOf,if_neg (by have:=h.2.1;omega),if_pos ⟨h.1,h.2.2⟩]
theorem atf(n:Nat):p10 n<=pw n:=by
 induction n with
 |zero=>simp[p10,pw]
 |succ n ih=>
  simp only[p10,pw];have:=aav n;omega
noncomputable def zOf(s:ByteArray):Int:=sg (msplit s).1 (xOf (msplit s).2)
noncomputable def eOf(s:ByteArray):Int:=kOf (msplit s).2
section
variable {dst:Option Tmp} {ty:TypeId} {pos:String} {after:Array Edge} {guard:Option (Nat×Bool)} {a:Act} {w:World} {ats:Array TypeId} {i j:Nat}
theorem atg:Has Tryz.prog 195:=by unfold Has;kernel_rfl
theorem av9{s:ByteArray}(h:a.eval (.tmp i)=.string s)(hT:Tabs w):
  Does Tryz.prog {dst,op:=.call {callee:=.value (.func 195),args:=#[.tmp i],argTypes:=ats},type:=ty,pos,after,guard} a.eval w fun v w'=>Below w.heap.size w w'/\Tup2 (Eqs (.bool (msplit s).1)) (Eqs (.string (msplit s).2)) v w':=by
 refine abj atg _ (by simp only[List.map_toArray,List.map_cons,List.map_nil,h]) ((ayd w s hT).mono ?_);rintro e w' ⟨rfl,hb⟩;exact⟨_,rfl,hb,_,_,rfl,rfl,rfl⟩
theorem aqn:Has Tryz.prog 167:=by unfold Has;kernel_rfl
theorem ath{s:ByteArray}(h:a.eval (.tmp i)=.string s):
  Does Tryz.prog {dst,op:=.call {callee:=.value (.func 167),args:=#[.tmp i],argTypes:=ats},type:=ty,pos,after,guard} a.eval w fun v w'=>Below w.heap.size w w'/\Tup2 (OutL (xOf s) 6000) (Eqs (.int .i64 (kOf s))) v w':=by
 refine abj aqn _ (by simp only[List.map_toArray,List.map_cons,List.map_nil,h]) ((an6 w s).mono ?_);rintro e w' ⟨⟨k,hk,rfl⟩|⟨hf,v,rfl,rs,ho,hc,hv⟩,hb⟩
 ·obtain⟨h1,h2,_⟩:=az6 hk;refine⟨_,rfl,hb,_,_,rfl,?_,by rw[h1];rfl⟩;rw[h2];exact⟨none,0,[],rfl,⟨ac6 w',abh,rfl⟩,by simp⟩
 ·obtain⟨h1,h2⟩:=afk hf;refine⟨_,rfl,hb,_,_,rfl,?_,by rw[h1];rfl⟩;rw[h2];obtain⟨ao,cap,rfl,_⟩:=id ho;refine⟨ao,cap,rs,rfl,⟨ho.sl,hc,hv⟩,?_⟩;have h3:=(aa0 hf.2.2).2;rw[aah]at h3;have h4:=aa1 hc (m:=s.size) (by rw[hv];have:=atf s.size;omega);have:=hf.2.1;omega
theorem aqo:Has Tryz.prog 70:=by unfold Has;kernel_rfl
theorem aqp{b:Bool}{x:Int}{L:Nat}(h1:a.eval (.tmp i)=.bool b)(h2:OutL x L (a.eval (.tmp j)) w)(hL:L<=1000000):
  Does Tryz.prog {dst,op:=.call {callee:=.value (.func 70),args:=#[.tmp i,.tmp j],argTypes:=ats},type:=ty,pos,after,guard} a.eval w fun v w'=>Below w.heap.size w w'/\OutW (sg b x) L v w':=by
 obtain⟨ao,cap,rs,e,G,l⟩:=h2;refine abj aqo _ (by simp only[List.map_toArray,List.map_cons,List.map_nil,h1,e]) ((aa3 w b ao cap rs x G (by omega)).mono ?_);rintro e w' ⟨ng,rfl,hW,hb⟩;exact⟨_,rfl,hb,ng,ao,cap,rs,rfl,hW,l⟩
theorem awa{u v:Int}(h1:a.eval (.tmp i)=.int .i64 u):
  Does Tryz.prog {dst,op:=.binOp .neq 27 (.tmp i) (.const (.int .i64 v)) 27,type:=ty,pos,after,guard} a.eval w fun v' w'=>Below w.heap.size w w'/\Eqs (.bool (!decide (u=v))) v' w':=by
 refine ac2 (v:=.bool (!decide (u=v))) ?_ ?_ ⟨Below.refl _ _,rfl⟩
 ·rw[h1];simp[go_sem,Act.eval]
 ·rw[h1];simp[go_sem,Act.eval];rfl
end
theorem awb{r:ByteArray}{b:Bool}(h:kOf r≠0):sg b (xOf r)=0:=by
 have hf:¬Fine r:=fun hf=>h (afk hf).1
 rw[xOf,if_neg hf];cases b <;> rfl
theorem ati(w:World){L:Nat}: OutW 0 L (.agg #[.bool false,.slice none 0 0]) w:=⟨false,none,0,[],rfl,⟨⟨ac6 w,abh,rfl⟩,rfl⟩,by simp⟩
theorem awc(w:World)(s:ByteArray)(hT:Tabs w):
  Calls Tryz.prog 194 #[.string s] w fun e w'=>∃v,e=.returned v/\Tup2 (OutW (zOf s) 6000) (Eqs (.int .i64 (eOf s))) v w'/\Below w.heap.size w w':=by
 go_enter Tryz.func194,Tryz.ntmps194
 generalize hA:(Act.mk _ _)=aa;have hn:aa.tmps.size=25:=by rw[<-hA];rfl
 have hd:aa.defers = []:=by rw[<-hA]
 have f0:aa.eval (.tmp 0)=.string s:=by rw[<-hA];rfl
 clear hA;have HB:Below w.heap.size w w:=Below.refl _ _;refine wp_seq ?_;refine aaq [some 2,some 3] [(fun _ _=>True),Eqs ((.int .i64 0))] [⟨W2,some 0,0,2,.agg #[.bool false,.slice none 0 0],none,[]⟩] [] (by kernel_rfl) hn rfl (by kernel_rfl) (by kernel_rfl) (by kernel_rfl) (by kernel_rfl) (by kernel_rfl) (by kernel_rfl) ⟨True.mono4,Eqs.mono4 _,trivial⟩ (acl W2ok aas) (IsOld.all (bx:=[⟨W2,some 0,0,2,.agg #[.bool false,.slice none 0 0],none,[]⟩]) ⟨someNe,trivial⟩) (DisOld.all (bx:=[⟨W2,some 0,0,2,.agg #[.bool false,.slice none 0 0],none,[]⟩]) ⟨someNe,trivial⟩) ?_ ?_
 ·exact⟨.alloc 0 _ rfl rfl (.inl ⟨rfl,rfl⟩) rfl rfl rfl rfl rfl,
   .norm 3 rfl rfl rfl (fun a_ w_ hn_ hBt hr hR hD hO hS=>aak rfl),
   trivial⟩
 intro a1 w1 gs1 hn1 hd1 hBt hr hR hP hX hU;replace hn:=hn1;replace hd:=hd1.trans hd;have b2:BoxV W2 w1 (gs1 0) (.agg #[.bool false,.slice none 0 0]):=(hX 0 _ rfl).2.2.2;have f2:=(hX 0 _ rfl).1;have u2:w.heap.size<=gs1 0:=Nat.le_trans HB.size ((hX 0 _ rfl).2.2.1 (by simp));replace f0:=(hR 0 rfl).trans f0;have e3:a1.eval (.tmp 3)=(.int .i64 0):=hP 1 (by decide);have f3:=e3;replace HB:=HB.trans (hBt.below HB.size (UpOld.all (bx:=[⟨W2,some 0,0,2,.agg #[.bool false,.slice none 0 0],none,[]⟩]) ⟨someNe,trivial⟩));clear hBt hr hR hP hX hU;refine wp_seq ?_;refine aaq [some 9,some 10,some 8,some 11,some 12,some 4,some 5] [Eqs (.string s),Tup2 (Eqs (.bool (msplit s).1)) (Eqs (.string (msplit s).2)),Tup2 (Eqs (.bool (msplit s).1)) (Eqs (.string (msplit s).2)),Eqs (.bool (msplit s).1),Eqs (.string (msplit s).2),Eqs (.bool (msplit s).1),Eqs (.string (msplit s).2)] [] [] (by kernel_rfl) hn rfl (by kernel_rfl) (by kernel_rfl) (by kernel_rfl) (by kernel_rfl) (by kernel_rfl) (by kernel_rfl) ⟨Eqs.mono4 _,Tup2.mono4 (Eqs.mono4 _) (Eqs.mono4 _),Tup2.mono4 (Eqs.mono4 _) (Eqs.mono4 _),Eqs.mono4 _,Eqs.mono4 _,Eqs.mono4 _,Eqs.mono4 _,trivial⟩ aas (IsOld.all (bx:=[]) trivial) (DisOld.all (bx:=[]) trivial) ?_ ?_
 ·exact⟨.norm 9 rfl rfl rfl (fun a_ w_ hn_ hBt hr hR hD hO hS=>abd ((hR 0 rfl).trans f0)),
   .norm 10 rfl rfl rfl (fun a_ w_ hn_ hBt hr hR hD hO hS=>av9 (show a_.eval (.tmp 9)=.string s from hD 0 rfl) (hT.below (HB.trans (hBt.below HB.size (UpOld.all (bx:=[]) trivial))))),
   .norm 8 rfl rfl rfl (fun a_ w_ hn_ hBt hr hR hD hO hS=>agb (p:=Tup2 (Eqs (.bool (msplit s).1)) (Eqs (.string (msplit s).2))) (show Tup2 (Eqs (.bool (msplit s).1)) (Eqs (.string (msplit s).2)) (a_.eval (.tmp 10)) w_ from hD 1 rfl)),
   .norm 11 rfl rfl rfl (fun a_ w_ hn_ hBt hr hR hD hO hS=>afd (show Tup2 (Eqs (.bool (msplit s).1)) (Eqs (.string (msplit s).2)) (a_.eval (.tmp 8)) w_ from hD 2 rfl)),
   .norm 12 rfl rfl rfl (fun a_ w_ hn_ hBt hr hR hD hO hS=>afe (show Tup2 (Eqs (.bool (msplit s).1)) (Eqs (.string (msplit s).2)) (a_.eval (.tmp 8)) w_ from hD 2 rfl)),
   .norm 4 rfl rfl rfl (fun a_ w_ hn_ hBt hr hR hD hO hS=>aak (show a_.eval (.tmp 11)=.bool (msplit s).1 from hD 3 rfl)),
   .norm 5 rfl rfl rfl (fun a_ w_ hn_ hBt hr hR hD hO hS=>aak (show a_.eval (.tmp 12)=.string (msplit s).2 from hD 4 rfl)),
   trivial⟩
 intro a2 w2 gs2 hn2 hd2 hBt hr hR hP hX hU;replace hn:=hn2;replace hd:=hd2.trans hd;replace b2:=b2.keep hBt trivial;replace f2:=(hR 2 rfl).trans f2;replace f3:=(hR 3 rfl).trans f3;have e4:a2.eval (.tmp 4)=.bool (msplit s).1:=hP 5 (by decide);have f4:=e4;have e5:a2.eval (.tmp 5)=.string (msplit s).2:=hP 6 (by decide);have f5:=e5;replace HB:=HB.trans (hBt.below HB.size (UpOld.all (bx:=[]) trivial));clear hBt hr hR hP hX hU;refine wp_seq ?_;refine aaq [some 14,some 15,some 13,some 16,some 17,some 6,some 7] [Eqs (.string (msplit s).2),Tup2 (OutL (xOf (msplit s).2) (6000)) (Eqs (.int .i64 (kOf (msplit s).2))),Tup2 (OutL (xOf (msplit s).2) (6000)) (Eqs (.int .i64 (kOf (msplit s).2))),OutL (xOf (msplit s).2) (6000),Eqs (.int .i64 (kOf (msplit s).2)),OutL (xOf (msplit s).2) (6000),Eqs (.int .i64 (kOf (msplit s).2))] [] [] (by kernel_rfl) hn rfl (by kernel_rfl) (by kernel_rfl) (by kernel_rfl) (by kernel_rfl) (by kernel_rfl) (by kernel_rfl) ⟨Eqs.mono4 _,Tup2.mono4 (OutL.mono4 _ _) (Eqs.mono4 _),Tup2.mono4 (OutL.mono4 _ _) (Eqs.mono4 _),OutL.mono4 _ _,Eqs.mono4 _,OutL.mono4 _ _,Eqs.mono4 _,trivial⟩ aas (IsOld.all (bx:=[]) trivial) (DisOld.all (bx:=[]) trivial) ?_ ?_
 ·exact⟨.norm 14 rfl rfl rfl (fun a_ w_ hn_ hBt hr hR hD hO hS=>abd ((hR 5 rfl).trans f5)),
   .norm 15 rfl rfl rfl (fun a_ w_ hn_ hBt hr hR hD hO hS=>ath (show a_.eval (.tmp 14)=.string (msplit s).2 from hD 0 rfl)),
   .norm 13 rfl rfl rfl (fun a_ w_ hn_ hBt hr hR hD hO hS=>agb (p:=Tup2 (OutL (xOf (msplit s).2) (6000)) (Eqs (.int .i64 (kOf (msplit s).2)))) (show Tup2 (OutL (xOf (msplit s).2) (6000)) (Eqs (.int .i64 (kOf (msplit s).2))) (a_.eval (.tmp 15)) w_ from hD 1 rfl)),
   .norm 16 rfl rfl rfl (fun a_ w_ hn_ hBt hr hR hD hO hS=>afd (show Tup2 (OutL (xOf (msplit s).2) (6000)) (Eqs (.int .i64 (kOf (msplit s).2))) (a_.eval (.tmp 13)) w_ from hD 2 rfl)),
   .norm 17 rfl rfl rfl (fun a_ w_ hn_ hBt hr hR hD hO hS=>afe (show Tup2 (OutL (xOf (msplit s).2) (6000)) (Eqs (.int .i64 (kOf (msplit s).2))) (a_.eval (.tmp 13)) w_ from hD 2 rfl)),
   .norm 6 rfl rfl rfl (fun a_ w_ hn_ hBt hr hR hD hO hS=>ak0 (p:=OutL (xOf (msplit s).2) (6000)) (show OutL (xOf (msplit s).2) (6000) (a_.eval (.tmp 16)) w_ from hD 3 rfl)),
   .norm 7 rfl rfl rfl (fun a_ w_ hn_ hBt hr hR hD hO hS=>aak (show a_.eval (.tmp 17)=.int .i64 (kOf (msplit s).2)from hD 4 rfl)),
   trivial⟩
 intro a3 w3 gs3 hn3 hd3 hBt hr hR hP hX hU;replace hn:=hn3;replace hd:=hd3.trans hd;replace b2:=b2.keep hBt trivial;replace f2:=(hR 2 rfl).trans f2;replace f3:=(hR 3 rfl).trans f3;replace f4:=(hR 4 rfl).trans f4;obtain⟨a_4,c_4,r_4,e6,K4,l4⟩:OutL (xOf (msplit s).2) (6000) (a3.eval (.tmp 6)) w3:=hP 5 (by decide);have S4:=K4.sl;have V4:=K4.val;have f6:=e6;have e7:a3.eval (.tmp 7)=.int .i64 (kOf (msplit s).2):=hP 6 (by decide);have f7:=e7;replace HB:=HB.trans (hBt.below HB.size (UpOld.all (bx:=[]) trivial));clear hBt hr hR hP hX hU;refine wp_seq ?_;refine wp_seq ?_;refine aaq [some 18,some 19] [Eqs (.int .i64 (kOf (msplit s).2)),Eqs (.bool (!decide ((kOf (msplit s).2)=0)))] [] [] (by kernel_rfl) hn rfl (by kernel_rfl) (by kernel_rfl) (by kernel_rfl) (by kernel_rfl) (by kernel_rfl) (by kernel_rfl) ⟨Eqs.mono4 _,Eqs.mono4 _,trivial⟩ aas (IsOld.all (bx:=[]) trivial) (DisOld.all (bx:=[]) trivial) ?_ ?_
 ·exact⟨.norm 18 rfl rfl rfl (fun a_ w_ hn_ hBt hr hR hD hO hS=>abd ((hR 7 rfl).trans f7)),
   .norm 19 rfl rfl rfl (fun a_ w_ hn_ hBt hr hR hD hO hS=>awa (show a_.eval (.tmp 18)=.int .i64 (kOf (msplit s).2)from hD 0 rfl)),
   trivial⟩
 intro a5 w5 gs5 hn5 hd5 hBt hr hR hP hX hU;replace hn:=hn5;replace hd:=hd5.trans hd;replace b2:=b2.keep hBt trivial;replace f2:=(hR 2 rfl).trans f2;replace f3:=(hR 3 rfl).trans f3;replace f4:=(hR 4 rfl).trans f4;replace f6:=(hR 6 rfl).trans f6;replace f7:=(hR 7 rfl).trans f7;have e19:a5.eval (.tmp 19)=.bool (!decide ((kOf (msplit s).2)=0)):=hP 1 (by decide);have f19:=e19;replace K4:=K4.rl hr;replace S4:=S4.rl hr;replace HB:=HB.trans (hBt.below HB.size (UpOld.all (bx:=[]) trivial));clear hBt hr hR hP hX hU;refine wp_cond_split f19 (fun hc19=>?_) (fun hc19=>?_)
 ·skip;have hk0:kOf (msplit s).2≠0:=by simpa using hc19
  refine wp_seq ?_;refine aaq [some 20,some 21,none,some 3] [Eqs (.agg #[.bool false,.slice none 0 0]),Eqs (.int .i64 (kOf (msplit s).2)),(fun _ _=>True),Eqs (.int .i64 (kOf (msplit s).2))] [⟨W2,none,(gs1 0),2,.agg #[.bool false,.slice none 0 0],some (2,20,0),[]⟩] [] (by kernel_rfl) hn rfl (by kernel_rfl) (by kernel_rfl) (by kernel_rfl) (by kernel_rfl) (by kernel_rfl) (by kernel_rfl) ⟨Eqs.mono4 _,Eqs.mono4 _,True.mono4,Eqs.mono4 _,trivial⟩ (acl W2ok aas) (IsOld.all (bx:=[⟨W2,none,(gs1 0),2,.agg #[.bool false,.slice none 0 0],some (2,20,0),[]⟩]) ⟨fun _=>⟨f2,b2⟩,trivial⟩) (DisOld.all (bx:=[⟨W2,none,(gs1 0),2,.agg #[.bool false,.slice none 0 0],some (2,20,0),[]⟩]) ⟨fun _=>trivial,trivial⟩) ?_ ?_
  ·exact⟨.norm 20 rfl rfl rfl (fun a_ w_ hn_ hBt hr hR hD hO hS=>azc),
    .norm 21 rfl rfl rfl (fun a_ w_ hn_ hBt hr hR hD hO hS=>abd ((hR 7 rfl).trans f7)),
    .store 0 _ _ _ rfl rfl rfl rfl rfl rfl rfl (fun ia h=>by cases h) rfl rfl rfl (ak1 agv),
    .norm 3 rfl rfl rfl (fun a_ w_ hn_ hBt hr hR hD hO hS=>aak (show a_.eval (.tmp 21)=.int .i64 (kOf (msplit s).2)from hD 1 rfl)),
    trivial⟩
  intro a6 w6 gs6 hn6 hd6 hBt hr hR hP hX hU;replace hn:=hn6;replace hd:=hd6.trans hd;have e20:a6.eval (.tmp 20)=.agg #[.bool false,.slice none 0 0]:=hP 0 (by decide);have b2:BoxV W2 w6 ((gs1 0)) (.agg #[.bool false,.slice none 0 0]):=aep ((hX 0 _ rfl).2.1 rfl) (hX 0 _ rfl).2.2.2 e20;replace f2:a6.eval (.tmp 2)=_:=(hR 2 rfl).trans f2;replace f4:=(hR 4 rfl).trans f4;replace f6:=(hR 6 rfl).trans f6;have e3:a6.eval (.tmp 3)=.int .i64 (kOf (msplit s).2):=hP 3 (by decide);have f3:=e3;replace K4:=K4.rl hr;replace S4:=S4.rl hr;replace HB:=HB.trans (hBt.below HB.size (UpOld.all (bx:=[⟨W2,none,(gs1 0),2,.agg #[.bool false,.slice none 0 0],some (2,20,0),[]⟩]) ⟨fun _=>u2,trivial⟩));clear hBt hr hR hP hX hU;refine wp_ret ?_;repeat(first|refine aca ?_|refine abn ?_|refine ab1 ?_)
  exact bodyPost_ret (v:=.tuple #[.agg #[.bool false,.slice none 0 0],.int .i64 (kOf (msplit s).2)]) (aeq rfl f2 (agw b2) f3) hd ⟨_,rfl,⟨_,_,rfl,by rw[zOf,awb hk0];exact ati _,rfl⟩,HB⟩
 ·skip;have hk0:kOf (msplit s).2=0:=by simpa using hc19
  refine wp_skip ?_;refine wp_seq ?_;refine aaq [some 22,some 23,some 24,none,some 3] [Eqs (.bool (msplit s).1),Eqs (.slice a_4 r_4.length c_4),OutW (sg ((msplit s).1) (xOf (msplit s).2)) (6000),(fun _ _=>True),Eqs ((.int .i64 0))] [⟨W2,none,(gs1 0),2,.agg #[.bool false,.slice none 0 0],some (3,24,2),[]⟩] [] (by kernel_rfl) hn rfl (by kernel_rfl) (by kernel_rfl) (by kernel_rfl) (by kernel_rfl) (by kernel_rfl) (by kernel_rfl) ⟨Eqs.mono4 _,Eqs.mono4 _,OutW.mono4 _ _,True.mono4,Eqs.mono4 _,trivial⟩ (acl W2ok aas) (IsOld.all (bx:=[⟨W2,none,(gs1 0),2,.agg #[.bool false,.slice none 0 0],some (3,24,2),[]⟩]) ⟨fun _=>⟨f2,b2⟩,trivial⟩) (DisOld.all (bx:=[⟨W2,none,(gs1 0),2,.agg #[.bool false,.slice none 0 0],some (3,24,2),[]⟩]) ⟨fun _=>trivial,trivial⟩) ?_ ?_
  ·exact⟨.norm 22 rfl rfl rfl (fun a_ w_ hn_ hBt hr hR hD hO hS=>abd ((hR 4 rfl).trans f4)),
    .norm 23 rfl rfl rfl (fun a_ w_ hn_ hBt hr hR hD hO hS=>abd ((hR 6 rfl).trans f6)),
    .norm 24 rfl rfl rfl (fun a_ w_ hn_ hBt hr hR hD hO hS=>aqp (show a_.eval (.tmp 22)=.bool (msplit s).1 from hD 0 rfl) (axh (show a_.eval (.tmp 23)=.slice a_4 r_4.length c_4 from hD 1 rfl) (K4.rl hr) l4) (by omega)),
    .store 0 _ _ _ rfl rfl rfl rfl rfl rfl rfl (fun ia h=>by cases h) rfl rfl rfl OutW.cs,
    .norm 3 rfl rfl rfl (fun a_ w_ hn_ hBt hr hR hD hO hS=>aak rfl),
    trivial⟩
  intro a7 w7 gs7 hn7 hd7 hBt hr hR hP hX hU;replace hn:=hn7;replace hd:=hd7.trans hd;obtain⟨n_8,a_8,c_8,r_8,e24,G8,l8⟩:OutW (sg ((msplit s).1) (xOf (msplit s).2)) (6000) (a7.eval (.tmp 24)) w7:=hP 2 (by decide);have A8:=G8.ag;have b2:BoxV W2 w7 ((gs1 0)) (.agg #[.bool n_8,.slice a_8 r_8.length c_8]):=aep ((hX 0 _ rfl).2.1 rfl) (hX 0 _ rfl).2.2.2 e24;replace f2:a7.eval (.tmp 2)=_:=(hR 2 rfl).trans f2;have e3:a7.eval (.tmp 3)=(.int .i64 0):=hP 4 (by decide);have f3:=e3;replace K4:=K4.rl hr;replace S4:=S4.rl hr;replace HB:=HB.trans (hBt.below HB.size (UpOld.all (bx:=[⟨W2,none,(gs1 0),2,.agg #[.bool false,.slice none 0 0],some (3,24,2),[]⟩]) ⟨fun _=>u2,trivial⟩));clear hBt hr hR hP hX hU;refine wp_ret ?_;repeat(first|refine aca ?_|refine abn ?_|refine ab1 ?_)
  exact bodyPost_ret (v:=.tuple #[.agg #[.bool n_8,.slice a_8 r_8.length c_8],(.int .i64 0)]) (aeq rfl f2 (agw b2) f3) hd ⟨_,rfl,⟨_,_,rfl,axg rfl G8 l8,by rw[eOf,hk0];rfl⟩,HB⟩
end Lm
namespace Lm
open Go Go.RowKit
noncomputable def dig(x:Int):List Int:=@Classical.epsilon (List Int) ⟨[]⟩ fun ds=>IsDec ds x
theorem adr{ds:List Int}{x:Int}(h:IsDec ds x):ds=dig x:=ad1 h (@Classical.epsilon_spec (List Int) (fun ds=>IsDec ds x) ⟨ds,h⟩)
noncomputable def txt(z:Int):ByteArray:=if z<0 then strOfNums (45::dig (z.natAbs:Int))else strOfNums (dig (z.natAbs:Int))
theorem atj{b:Bool}{x z:Int}(hx:0<=x)(h:sg b x=z):x=(z.natAbs:Int):=by
 subst h;cases b <;> simp[sg] <;> omega
section
end
section
end
end Lm
namespace Lm
open Go Go.RowKit
open Dm (Err Fine)
theorem agn{ds:List Int}(h:∀c∈ds,0<=c/\c<256):bytesOf (strOfNums ds)=ds:=by
 rw[bytesOf,strOfNums_data,List.map_map];conv=>rhs;rw[<-List.map_id ds]
 apply List.map_congr_left;intro c hc;have:=h c hc;simp only[Function.comp_apply,id];have e:(UInt8.ofNat c.toNat).toNat=c.toNat:=by
  simp;omega
 rw[e];omega
theorem az7(n:Nat):∃ds,IsDec ds (n:Int):=by
 induction n using Nat.strongRecOn with
 |_ n ih=>
  by_cases h:n<10
  ·refine⟨[48+(n:Int)],abg.2 ⟨by omega,abv⟩,by simp[dval,p10];omega,?_⟩;by_cases h0:n=0
   ·subst h0;exact .inl ⟨rfl,rfl⟩
   ·exact .inr ⟨_,_,rfl,by omega⟩
  ·obtain⟨ds,h1,h2,h3⟩:=ih (n/10) (by omega);refine⟨ds ++ [48+((n%10:Nat):Int)],afx h1 (by omega) (by omega),by rw[agi,h2];omega,.inr ?_⟩;rcases h3 with⟨h3,_⟩|⟨c,cs,rfl,hc⟩
   ·omega
   ·exact⟨c,cs ++ [48+((n%10:Nat):Int)],rfl,hc⟩
theorem ag2(n:Nat):IsDec (dig (n:Int)) (n:Int):=by
 obtain⟨ds,h⟩:=az7 n;rw[<-adr h];exact h
theorem atk{ds:List Int}{x:Int}{n:Nat}(h:IsDec ds x)(hx:x<p10 n)(hn:1<=n):ds.length<=n:=by
 rcases h.2.2 with⟨_,rfl⟩|⟨c,cs,rfl,hc⟩
 ·simpa using hn
 ·have h1:=h.1 c (by simp);have h2:=h.2.1;simp only[dval]at h2;have h3:=(aa0 (show Dig cs from fun y hy=>h.1 y (by simp[hy]))).1;apply Classical.byContradiction;intro hl;have h4:=abb (m:=n) (n:=cs.length) (by simp at hl;omega);have h5:1*p10 cs.length<=(c-48)*p10 cs.length:=Int.mul_le_mul_of_nonneg_right (by omega) (by have:=abu cs.length;omega);omega
theorem dig8{x:Int}{ds:List Int}(h:IsDec ds x):∀c∈ds,0<=c/\c<256:=fun c hc=>by have:=h.1 c hc;omega
theorem aog{z:Int}(h:¬z<0):bytesOf (txt z)=dig (z.natAbs:Int):=by
 rw[txt,if_neg h,agn (dig8 (ag2 _))]
theorem aye{z:Int}(h:z<0):bytesOf (txt z)=45::dig (z.natAbs:Int):=by
 rw[txt,if_pos h,agn];intro c hc;rcases List.mem_cons.1 hc with rfl|hc
 ·omega
 ·exact dig8 (ag2 _) c hc
end Lm
namespace Lm
open Go Go.RowKit
theorem ayf:Has Tryz.prog 35:=by unfold Has;kernel_rfl
theorem awd:Has Tryz.prog 32:=by unfold Has;kernel_rfl
theorem aix{B b:Nat}{p:Value}{bs:List Value}{W W':World}(h:Lib.BuilderAtF 137 5 B b p bs W)(hk:Below W.heap.size W W'):Lib.BuilderAtF 137 5 B b p bs W':=by
 have hlt:=h.lt;obtain⟨h1,v,h2,h3,h4⟩:=h;have hg:W.grownBy W' none:=⟨hk.os,hk.tape,hk.output,hk.size,fun k h _=>hk.block k h⟩;exact⟨h1,v,(hk.block b hlt).trans h2,h3.kept (row:=none) hg (Classical.em _),h4⟩
theorem Bld.keep{W W':World}{B b:Nat}{l:List UInt8}(h:Bld W B b l)(hk:Below W.heap.size W W'):Bld W' B b l:=by
 rcases h with h|h
 ·exact .inl (aix h hk)
 ·exact .inr (aix h hk)
def tpre(z:Int)(first:Bool):List UInt8:=if first then(if z<0 then [45]else []) else(if z<0 then [32,45,32]else [32,43,32])
noncomputable def tterm(z:Int)(first:Bool)(nm:List UInt8):List UInt8:=
 if z=0 then []else tpre z first++((if z.natAbs=1 then [] else(txt (z.natAbs:Int)).data.toList ++ [42])++nm)
theorem az8{z:Int}{L:Nat}{w:World}{ng:Bool}{a:Option Addr}{n c:Nat}(h:IsW z L (.agg #[.bool ng,.slice a n c]) w):IsW (z.natAbs:Int) L (.agg #[.bool false,.slice a n c]) w:=by
 obtain⟨ng',ao,n',cap,xs,hv,hA,hl⟩:=h;simp only[Value.agg.injEq,Array.mk.injEq,List.cons.injEq,Value.bool.injEq,Value.slice.injEq,and_true]at hv;obtain⟨rfl,rfl,rfl,rfl⟩:=hv;exact⟨_,_,_,_,_,rfl,⟨hA.sl,atj (aab hA.sl.parts.2.2.2).1 hA.worth⟩,hl⟩
theorem cmp0{a b:Int}(h:cmpI a b=0):a=b:=by
 unfold cmpI at h;split at h
 ·omega
 ·split at h
  ·omega
  ·omega
theorem ayg(k:Int):(k != 0)=(!decide (k=0)):=by
 by_cases h:k=0 <;> simp[h]
theorem wtextF(w:World)(z:Int)(v:Value)(L:Nat)(h:IsW z L v w)(hL:L<=1000000):
  Calls Tryz.prog 33 #[v] w fun e w'=>e=.returned (.string (txt z))/\Below w.heap.size w w':=by
 obtain⟨ng,ao,n,cap,zs,rfl,A,l⟩:=h;have hx:=atj (aab A.sl.parts.2.2.2).1 A.worth;by_cases hz:z<0
 ·refine(ar0 w ng ao n cap zs A.sl (by omega) (by rw[A.worth];exact hz)).mono ?_;rintro e w' ⟨ds,rfl,hd,hb⟩;rw[hx]at hd;exact⟨by rw[txt,if_pos hz,<-adr hd],hb⟩
 ·refine(ar1 w ng ao n cap zs A.sl (by omega) (by rw[A.worth];exact hz)).mono ?_;rintro e w' ⟨ds,rfl,hd,hb⟩;rw[hx]at hd;exact⟨by rw[txt,if_neg hz,<-adr hd],hb⟩
theorem aev{z:Int}{L:Nat}(h:(z.natAbs:Int)<pw L):(txt z).size<=10*L+2:=by
 have h3:=af7 L;have h4:=abb (m:=10*L) (n:=10*L+1) (by omega);have h1:=atk (ag2 z.natAbs) (n:=10*L+1) (by omega) (by omega);by_cases hz:z<0
 ·rw[<-aah,aye hz,List.length_cons];omega
 ·rw[<-aah,aog hz];omega
theorem awe(w:World)(z:Int)(L:Nat)(v:Value)(nm:ByteArray)(first:Bool)(hv:IsW z L v w)(hL:L<=100000)(hs:nm.size<=1000000):
    Calls Tryz.prog 59 #[v,.string nm,.bool first] w fun e w'=>e=.returned (.string ⟨(tterm z first nm.data.toList).toArray⟩)/\Below w.heap.size w w':=by
  obtain⟨ng,a,n,c,xs,rfl,_⟩:=id hv;have hb0:=hAl w (.cells #[.bool ng,.slice a n c] 60);have HV:=hide hv;have K:=hide (signF _ z _ L (hv.ru (Ru.of_below hb0)) (by omega));clear hv;by_cases hz0:z=0
  · have HE:Hid (tterm z first nm.data.toList = []):=if_pos hz0
    have K:=K.out;rw[hz0,Int.sign_zero]at K;have K:=hide K;clear hz0;go_enter Tryz.func59,Tryz.ntmps59
    go_wp2_with fail
    refine K.out.mono ?_;rintro e w1 ⟨rfl,hb1⟩;have HB01:=hide (hb0.trans (hb1.mono hb0.size));clear hb0 hb1 K;go_wp2;refine bodyPost_ret (v:=_) (acs rfl rfl) rfl ⟨by rw[HE.out];rfl,HB01.out⟩
  have HE:Hid (tterm z first nm.data.toList=tpre z first++((if z.natAbs=1 then [] else(txt (z.natAbs:Int)).data.toList ++ [42])++nm.data.toList)):=if_neg hz0;obtain⟨s,hs'⟩:∃s,Int.sign z=s:=⟨_,rfl⟩;have hs0:(s==0)=false:=beq_eq_false_iff_ne.2 (fun e=>hz0 (Int.sign_eq_zero_iff_zero.1 (by omega)));have HSZ:Hid (s<0↔z<0):=(show _↔_ by rw[<-hs'];exact Int.sign_neg_iff);have K:=K.out;rw[hs']at K;have K:=hide K;clear hz0 hs';go_enter Tryz.func59,Tryz.ntmps59
  go_wp2_with fail
  refine K.out.mono ?_;rintro e w1 ⟨rfl,hb1⟩;have hx:w1.heap[w.heap.size]? = some (.cells #[.bool ng,.slice a n c] 60 (0,0)):=(hb1.block _ (by simp)).trans (heap_alloc_new w _);obtain⟨hxl,x0,x1,_,_⟩:=aam hx;have hb01:=hb0.trans (hb1.mono hb0.size);have hB:Bld (w1.alloc (.cells #[.pointer none,.slice none 0 0] 137)) w1.heap.size w1.heap.size []:=Lib.IsBuilderF.of (Lib.fresh_isBuilder 137 5 w1);have hba0:=hAl w1 (.cells #[.pointer none,.slice none 0 0] 137);have HB:=hide hB;have HB01:=hide hb01;have HBA:=hide hba0;clear hb0 hb1 hB K hx hb01 hba0;obtain⟨pre,hpl,hpre⟩:∃pre,pre.length<=3/\tpre z first=pre:=⟨_,by unfold tpre;split <;> split <;> simp,rfl⟩;rw[hpre]at HE;have hcs:(first=true/\s<0/\pre = [45])\/(first=false/\s<0/\pre = [32,45,32])\/(first=false/\¬s<0/\pre = [32,43,32])\/(first=true/\¬s<0/\pre = []):=by
    rw[<-hpre,HSZ.out];unfold tpre;cases first <;> by_cases hz:z<0 <;> simp[hz]
  clear hpre;have HDT:Hid ((txt (z.natAbs:Int)).size<=10*L+2):=aev (by rw[Int.natAbs_natCast];exact aeu HV.out);rcases hcs with⟨rfl,hs1,rfl⟩|⟨rfl,hs1,rfl⟩|⟨rfl,hs1,rfl⟩|⟨rfl,hs1,rfl⟩;all_goals go_wp2_with fail
  all_goals first
    | (refine(bwstr w1.heap.size w1.heap.size [] _ _ HB.out (by simp;decide) (by simp)).mono ?_
       rintro e wa ⟨rfl,hBa,hba,_⟩;rw[List.nil_append]at hBa;have hb1a:Below w1.heap.size w1 wa:=HBA.out.trans hba;have y0:=(hb1a.cell (p:=⟨w.heap.size,0,none⟩) hxl).trans x0;have y1:=(hb1a.cell (p:=⟨w.heap.size,1,none⟩) hxl).trans x1;have hxla:w.heap.size<wa.heap.size:=Nat.lt_of_lt_of_le hxl hb1a.size;clear hba;go_wp2_with fail
       clear y0 y1 hxla
       generalize hf9:wa.heap.size=f9 at *)
    | (have hBa:=HB.out
       have hb1a:=HBA.out;have hf9:(w1.alloc (.cells #[.pointer none,.slice none 0 0] 137)).heap.size=w1.heap.size+1:=by simp
       generalize w1.alloc (.cells #[.pointer none,.slice none 0 0] 137)=wa at *
       generalize w1.heap.size+1=f9 at *)
  all_goals (
    have hal2:=hAl wa (.cells #[.bool false,.slice a n c] 60);have hnw:=heap_alloc_new wa (.cells #[.bool false,.slice a n c] 60);rw[hf9]at hnw;have hb12:=hb1a.trans (hal2.mono hb1a.size);have hB2:=Lib.IsBuilderF.alloc hBa (.cells #[.bool false,.slice a n c] 60);generalize (wa.alloc (.cells #[.bool false,.slice a n c] 60))=w2 at *
    have hb02:=HB01.out.trans (hb12.mono HB01.out.size);have hsz2:=hb12.size;have hs01:=HB01.out.size;have HM:=hide (az8 (HV.out.ru (Ru.of_below hb02)));have HB02:=hide hb02;obtain⟨hnl,u0,u1,_,_⟩:=aam hnw;have HNW:=hide hnw;have HB2:=hide hB2;clear hal2 hnw hb12 hB2 hb02 x0 x1 hBa hb1a hf9 HB HBA;go_cut [34] (fun bv wx=>bv=.bool (!decide (cmpI (z.natAbs:Int) 1=0))/\Below w2.heap.size w2 wx)
    case first=>
      go_region_law (first|(refine aa4 rfl 35 #[.const (.int .i64 1)] #[3] rfl ayf #[.int .i64 1] (by simp[Act.eval]) (aeb _ 1 (by decide) (by decide)) ?_;rintro e w3 ⟨ng3,ao3,cap3,rs3,rfl,hw3,hl3,hb3⟩;have ho3:OutW 1 2 (.agg #[.bool ng3,.slice ao3 rs3.length cap3]) w3:=⟨_,_,_,_,rfl,hw3,hl3⟩;have HO3:=hide ho3;have hb23:Below w2.heap.size w2 w3:=(show Below w2.heap.size w2 _ by(repeat' first|with_reducible(first|exact Below.refl _ _|assumption|refine gdrewN ?_ _|refine Below.alloc ?_ ?_ _|refine Below.drew ?_|refine Below.setCell ?_ ?_ _)|go_size)).trans (hb3.mono (by simp));have HB23:=hide hb23;have u03:=(hb23.cell (p:=⟨f9,0,none⟩) hnl).trans u0;have u13:=(hb23.cell (p:=⟨f9,1,none⟩) hnl).trans u1;clear ho3 hb3 hb23 hw3 hl3;refine⟨_,rfl,?_⟩)|(refine aa4 rfl 32 #[.tmp 31,.tmp 32] #[60,60] rfl awd #[.agg #[.bool false,.slice a n c],.agg #[.bool ng3,.slice ao3 rs3.length cap3]] (by simp[Act.eval]) (cmpF _ (z.natAbs:Int) 1 _ _ L 2 (HM.out.ru (Ru.of_below HB23.out)) HO3.out.is (by omega) (by omega)) ?_;rintro e w4 ⟨rfl,hb4⟩;have HB24:=hide (HB23.out.trans (hb4.mono HB23.out.size));clear hb4;refine⟨_,rfl,?_⟩))
      all_goals (
        go_wp2_with fail
        go_meet
        exact⟨by rw[ayg],HB24.out⟩)
    case rest=>
      obtain⟨rfl,hb5⟩:=hcut;have hB5:=Bld.keep HB2.out hb5;have hnw5:=(hb5.block _ (aaa HNW.out)).trans HNW.out;have HB05:=hide (HB02.out.trans (hb5.mono HB02.out.size));have hsz5:w1.heap.size<=wc.heap.size:=Nat.le_trans hsz2 hb5.size;have HM5:=hide (HM.out.ru (Ru.of_below hb5));have hnm8:nm.data.size<=1000000:=hs;have HBd5:=hide hB5;clear hb5 hB5 u0 u1;by_cases h1:z.natAbs=1
      · rw[show(!decide (cmpI (z.natAbs:Int) 1=0))=false by rw[h1];rfl]
        have HE':=HE.out;rw[if_pos h1,List.nil_append]at HE';have HE':=hide HE';have K5:=hide (bwstr w1.heap.size w1.heap.size _ nm wc HBd5.out (by simp;omega) hsz5);clear hnw5 h1;go_wp2_with fail
        refine K5.out.mono ?_;rintro e w6 ⟨rfl,hB6,hb6,_⟩;have HB06:=hide (HB05.out.trans (hb6.mono hs01));have K6:=hide (bstring w1.heap.size w1.heap.size _ w6 hB6 (Nat.le_trans hsz5 hb6.size));clear hB6 hb6 K5;go_wp2_with fail
        refine K6.out.mono ?_;rintro e w7 ⟨rfl,hb7⟩;have HB07:=hide (HB06.out.trans (hb7.mono hs01));clear hb7 K6;go_wp2;refine bodyPost_ret (v:=_) (acs rfl rfl) rfl ⟨by rw[HE'.out];rfl,HB07.out⟩
      · rw[show(!decide (cmpI (z.natAbs:Int) 1=0))=true by
          have hne:cmpI (z.natAbs:Int) 1≠0:=fun h=>h1 (by have:=cmp0 h;omega)
          simp[hne]]
        have HE':=HE.out;rw[if_neg h1]at HE';have HE':=hide HE';obtain⟨hnl5,v0,v1,_,_⟩:=aam hnw5;have KT:=hide (wtextF wc _ _ L HM5.out (by omega));obtain⟨sd,hsd⟩:∃sd,txt (z.natAbs:Int)=sd:=⟨_,rfl⟩;rw[hsd]at KT HE' HDT;clear hnw5 h1 hsd;go_wp2_with fail
        refine KT.out.mono ?_;rintro e w6 ⟨rfl,hb6⟩;have HB06:=hide (HB05.out.trans (hb6.mono HB05.out.size));have hds7:sd.data.size<=1000002:=by have:sd.size<=10*L+2:=HDT.out;show sd.size<=_;omega
        have hsz6:=Nat.le_trans hsz5 hb6.size;have K6:=hide (bwstr w1.heap.size w1.heap.size _ sd w6 (Bld.keep HBd5.out hb6) (by simp only[List.length_cons,List.length_nil];show _+sd.data.size<=_;omega) hsz6);clear hb6 v0 v1 KT;go_wp2_with fail
        refine K6.out.mono ?_;rintro e w7 ⟨rfl,hB7,hb7,_⟩;have HB07:=hide (HB06.out.trans (hb7.mono hs01));have hsz7:=Nat.le_trans hsz6 hb7.size;have K7:=hide (bwstr w1.heap.size w1.heap.size _ ⟨#[42]⟩ w7 hB7 (by simp only[List.length_append,List.length_cons,List.length_nil,Array.length_toList];show _+1<=_;omega) hsz7);clear hB7 hb7 K6;go_wp2_with fail
        refine K7.out.mono ?_;rintro e w8 ⟨rfl,hB8,hb8,_⟩;have HB08:=hide (HB07.out.trans (hb8.mono hs01));have hsz8:=Nat.le_trans hsz7 hb8.size;have K8:=hide (bwstr w1.heap.size w1.heap.size _ nm w8 hB8 (by simp only[List.length_append,List.length_cons,List.length_nil,Array.length_toList];show _+nm.data.size<=_;omega) hsz8);clear hB8 hb8 K7;go_wp2_with fail
        refine K8.out.mono ?_;rintro e w9 ⟨rfl,hB9,hb9,_⟩;have HB09:=hide (HB08.out.trans (hb9.mono hs01));have K9:=hide (bstring w1.heap.size w1.heap.size _ w9 hB9 (Nat.le_trans hsz8 hb9.size));clear hB9 hb9 K8;go_wp2_with fail
        refine K9.out.mono ?_;rintro e w10 ⟨rfl,hb10⟩;have HB10:=hide (HB09.out.trans (hb10.mono hs01));clear hb10 K9;go_wp2
        refine bodyPost_ret (v:=_) (acs rfl rfl) rfl ⟨by rw[HE'.out];simp only[List.append_assoc,List.cons_append,List.nil_append];rfl,HB10.out⟩)
def ptS(s:ByteArray)(i:Nat):Nat×Nat:=if Utf8.decode s i=(65533,1) then(0,0)else Utf8.decode s i
theorem abk{s:ByteArray}{i:Nat}(h:Utf8.decode s i=(65533,1)):ptS s i=(0,0):=by unfold ptS;rw[if_pos h]
theorem aiy{s:ByteArray}{i:Nat}{c k:Nat}(h:Utf8.decode s i=(c,k))(hn:(c,k)≠(65533,1)):ptS s i=(c,k):=by unfold ptS;rw[h,if_neg hn]
theorem akl(S:ByteArray)(i:Nat)(h:i<S.size):(S[i]'h).toNat=(S.get! i).toNat:=by rw[getS S i h]
theorem az9{n b0 b1 b2 b3:Nat}(h:b0<128):Lib.decodeN n b0 b1 b2 b3=(b0,1):=by
 unfold Lib.decodeN;rw[if_pos h]
theorem a0a{n b0 b1 b2 b3:Nat}(h0:(128<=b0/\b0<=191)\/248<=b0)(h1:b0<256):Lib.decodeN n b0 b1 b2 b3=(65533,1):=by
 unfold Lib.decodeN;rw[if_neg (by omega),if_neg (by omega),if_neg (by omega),if_neg (by omega)]
theorem atl{n b0 b1 b2 b3:Nat}(h0:192<=b0/\b0<=223)(h:¬(1<n/\128<=b1/\b1<=191)):Lib.decodeN n b0 b1 b2 b3=(65533,1):=by
 unfold Lib.decodeN;rw[if_neg (by omega),if_neg (by omega),if_neg (by omega),if_neg (by omega)]
theorem ayh{n b0 b1 b2 b3:Nat}(h0:192<=b0/\b0<=223)(h:1<n/\128<=b1/\b1<=191):Lib.decodeN n b0 b1 b2 b3=if (b0-192)*64+(b1-128)≥128 then((b0-192)*64+(b1-128),2) else(65533,1):=by
 unfold Lib.decodeN;rw[if_neg (by omega),if_pos (by omega),show b0%32=b0-192 from by omega,show b1%64=b1-128 from by omega]
theorem aiz{n b0 b1 b2 b3:Nat}(h0:224<=b0/\b0<=239)(h:¬((1<n/\128<=b1/\b1<=191)/\(2<n/\128<=b2/\b2<=191))):Lib.decodeN n b0 b1 b2 b3=(65533,1):=by
 unfold Lib.decodeN;rw[if_neg (by omega),if_neg (by omega),if_neg (by omega),if_neg (by omega)]
theorem ayi{n b0 b1 b2 b3:Nat}(h0:224<=b0/\b0<=239)(h1:1<n/\128<=b1/\b1<=191)(h2:2<n/\128<=b2/\b2<=191):Lib.decodeN n b0 b1 b2 b3=if (b0-224)*4096+(b1-128)*64+(b2-128)≥2048/\((b0-224)*4096+(b1-128)*64+(b2-128)<55296\/(57344<=(b0-224)*4096+(b1-128)*64+(b2-128)/\(b0-224)*4096+(b1-128)*64+(b2-128)<=1114111)) then((b0-224)*4096+(b1-128)*64+(b2-128),3) else(65533,1):=by
 unfold Lib.decodeN;rw[if_neg (by omega),if_neg (by omega),if_pos (by omega),show b0%16=b0-224 from by omega,show b1%64=b1-128 from by omega,show b2%64=b2-128 from by omega]
theorem afl{n b0 b1 b2 b3:Nat}(h0:240<=b0/\b0<=247)(h:¬((1<n/\128<=b1/\b1<=191)/\(2<n/\128<=b2/\b2<=191)/\(3<n/\128<=b3/\b3<=191))):Lib.decodeN n b0 b1 b2 b3=(65533,1):=by
 unfold Lib.decodeN;rw[if_neg (by omega),if_neg (by omega),if_neg (by omega),if_neg (by omega)]
theorem ayj{n b0 b1 b2 b3:Nat}(h0:240<=b0/\b0<=247)(h1:1<n/\128<=b1/\b1<=191)(h2:2<n/\128<=b2/\b2<=191)(h3:3<n/\128<=b3/\b3<=191):Lib.decodeN n b0 b1 b2 b3=if (b0-240)*262144+(b1-128)*4096+(b2-128)*64+(b3-128)≥65536/\((b0-240)*262144+(b1-128)*4096+(b2-128)*64+(b3-128)<55296\/(57344<=(b0-240)*262144+(b1-128)*4096+(b2-128)*64+(b3-128)/\(b0-240)*262144+(b1-128)*4096+(b2-128)*64+(b3-128)<=1114111)) then((b0-240)*262144+(b1-128)*4096+(b2-128)*64+(b3-128),4) else(65533,1):=by
 unfold Lib.decodeN;rw[if_neg (by omega),if_neg (by omega),if_neg (by omega),if_pos (by omega),show b0%8=b0-240 from by omega,show b1%64=b1-128 from by omega,show b2%64=b2-128 from by omega,show b3%64=b3-128 from by omega]
theorem aj5(w:World)(s:ByteArray)(i:Nat)(h:i<s.size)(hm:s.size<=100000):
  Calls Tryz.prog 172 #[.string s,.int .i64 i] w fun e w'=>e=.returned (.tuple #[.int .i64 (ptS s i).1,.int .i64 (ptS s i).2])/\w'=w:=by
 have hd:=Lib.decode_at s i;have e0:=akl s i h;have e1:=fun(k:i+1<s.size)=>akl s (i+1) k
 have e2:=fun(k:i+2<s.size)=>akl s (i+2) k
 have e3:=fun(k:i+3<s.size)=>akl s (i+3) k
 have u0:(s.get! i).toNat<256:=UInt8.toNat_lt _;generalize (s.get! i).toNat=b0 at hd e0 u0;generalize (s.get! (i+1)).toNat=b1 at hd e1;generalize (s.get! (i+2)).toNat=b2 at hd e2;generalize (s.get! (i+3)).toNat=b3 at hd e3;by_cases ha:b0<128
 ·rw[aiy (hd.trans (az9 ha)) (by intro he;injection he with q1 q2;omega)];exact pt_a w s i b0 h hm e0 ha
 by_cases hz:(128<=b0/\b0<=191)\/248<=b0
 ·rw[abk (hd.trans (a0a hz u0))];exact pt_z w s i b0 h hm e0 hz
 by_cases r2:b0<=223
 ·have g:192<=b0/\b0<=223:=by omega
  by_cases s1:i+1<s.size
  ·by_cases c1:128<=b1/\b1<=191
   ·have hv:=hd.trans (ayh g ⟨by omega,c1⟩);by_cases v1:(b0-192)*64+(b1-128)≥128
    ·rw[if_pos v1]at hv;rw[aiy hv (by intro he;injection he with q1 q2;omega)];exact azz w s i b0 h hm e0 g b1 s1 (e1 s1) c1 v1
    ·rw[if_neg v1]at hv;rw[abk hv];exact ax2 w s i b0 h hm e0 g b1 s1 (e1 s1) c1 (by omega)
   ·rw[abk (hd.trans (atl g (by omega)))];exact avr w s i b0 h hm e0 g b1 s1 (e1 s1) (by omega)
  ·rw[abk (hd.trans (atl g (by omega)))];exact ap9 w s i b0 h hm e0 g (by omega)
 by_cases r3:b0<=239
 ·have g:224<=b0/\b0<=239:=by omega
  by_cases s1:i+1<s.size
  ·by_cases c1:128<=b1/\b1<=191
   ·by_cases s2:i+2<s.size
    ·by_cases c2:128<=b2/\b2<=191
     ·have hv:=hd.trans (ayi g ⟨by omega,c1⟩ ⟨by omega,c2⟩);by_cases v1:(b0-224)*4096+(b1-128)*64+(b2-128)≥2048
      ·by_cases v2:55296<=(b0-224)*4096+(b1-128)*64+(b2-128)/\(b0-224)*4096+(b1-128)*64+(b2-128)<=57343
       ·rw[if_neg (by omega)]at hv;rw[abk hv];exact ax4 w s i b0 h hm e0 g b1 s1 (e1 s1) c1 b2 s2 (e2 s2) c2 v2
       ·rw[if_pos (by omega)]at hv;rw[aiy hv (by intro he;injection he with q1 q2;omega)];exact az0 w s i b0 h hm e0 g b1 s1 (e1 s1) c1 b2 s2 (e2 s2) c2 v1 (by omega)
      ·rw[if_neg (by omega)]at hv;rw[abk hv];exact ax3 w s i b0 h hm e0 g b1 s1 (e1 s1) c1 b2 s2 (e2 s2) c2 (by omega)
     ·rw[abk (hd.trans (aiz g (by omega)))];exact avt w s i b0 h hm e0 g b1 s1 (e1 s1) c1 b2 s2 (e2 s2) (by omega)
    ·rw[abk (hd.trans (aiz g (by omega)))];exact aqb w s i b0 h hm e0 g b1 s1 (e1 s1) c1 (by omega)
   ·rw[abk (hd.trans (aiz g (by omega)))];exact avs w s i b0 h hm e0 g b1 s1 (e1 s1) (by omega)
  ·rw[abk (hd.trans (aiz g (by omega)))];exact aqa w s i b0 h hm e0 g (by omega)
 ·have g:240<=b0/\b0<=247:=by omega
  by_cases s1:i+1<s.size
  ·by_cases c1:128<=b1/\b1<=191
   ·by_cases s2:i+2<s.size
    ·by_cases c2:128<=b2/\b2<=191
     ·by_cases s3:i+3<s.size
      ·by_cases c3:128<=b3/\b3<=191
       ·have hv:=hd.trans (ayj g ⟨by omega,c1⟩ ⟨by omega,c2⟩ ⟨by omega,c3⟩);by_cases v1:(b0-240)*262144+(b1-128)*4096+(b2-128)*64+(b3-128)≥65536
        ·by_cases v2:(b0-240)*262144+(b1-128)*4096+(b2-128)*64+(b3-128)<=1114111
         ·rw[if_pos (by omega)]at hv;rw[aiy hv (by intro he;injection he with q1 q2;omega)];exact az1 w s i b0 h hm e0 g b1 s1 (e1 s1) c1 b2 s2 (e2 s2) c2 b3 s3 (e3 s3) c3 ⟨v1,v2⟩
         ·rw[if_neg (by omega)]at hv;rw[abk hv];exact avx w s i b0 h hm e0 g b1 s1 (e1 s1) c1 b2 s2 (e2 s2) c2 b3 s3 (e3 s3) c3 (by omega)
        ·rw[if_neg (by omega)]at hv;rw[abk hv];exact ax5 w s i b0 h hm e0 g b1 s1 (e1 s1) c1 b2 s2 (e2 s2) c2 b3 s3 (e3 s3) c3 (by omega)
       ·rw[abk (hd.trans (afl g (by omega)))];exact avw w s i b0 h hm e0 g b1 s1 (e1 s1) c1 b2 s2 (e2 s2) c2 b3 s3 (e3 s3) (by omega)
      ·rw[abk (hd.trans (afl g (by omega)))];exact aqe w s i b0 h hm e0 g b1 s1 (e1 s1) c1 b2 s2 (e2 s2) c2 (by omega)
     ·rw[abk (hd.trans (afl g (by omega)))];exact avv w s i b0 h hm e0 g b1 s1 (e1 s1) c1 b2 s2 (e2 s2) (by omega)
    ·rw[abk (hd.trans (afl g (by omega)))];exact aqd w s i b0 h hm e0 g b1 s1 (e1 s1) c1 (by omega)
   ·rw[abk (hd.trans (afl g (by omega)))];exact avu w s i b0 h hm e0 g b1 s1 (e1 s1) (by omega)
  ·rw[abk (hd.trans (afl g (by omega)))];exact aqc w s i b0 h hm e0 g (by omega)
def Rdr(w:World)(q:Nat)(s:ByteArray)(p:Pl):Prop:=w.heap[q]? = some (.cells #[.string s,.int .i64 p.b,.int .i64 p.g,.int .i64 p.l,.int .i64 p.c] 165 (0,0))
theorem Rdr.below{w w':World}{q:Nat}{s:ByteArray}{p:Pl}(h:Rdr w q s p)(hb:Below w.heap.size w w'):Rdr w' q s p:=(hb.block q (aaa h)).trans h
structure RdrC (w:World) (q:Nat) (s:ByteArray) (p:Pl):Prop where
 hq:q<w.heap.size
 k0:w.cell? ⟨q,0,none⟩=some (.string s)
 k1:w.cell? ⟨q,1,none⟩=some (.int .i64 p.b)
 k2:w.cell? ⟨q,2,none⟩=some (.int .i64 p.g)
 k3:w.cell? ⟨q,3,none⟩=some (.int .i64 p.l)
 k4:w.cell? ⟨q,4,none⟩=some (.int .i64 p.c)
 f1:w.frozen? ⟨q,1,none⟩=false
 f2:w.frozen? ⟨q,2,none⟩=false
 f3:w.frozen? ⟨q,3,none⟩=false
 f4:w.frozen? ⟨q,4,none⟩=false
theorem Rdr.cells{w:World}{q:Nat}{s:ByteArray}{p:Pl}(h:Rdr w q s p):RdrC w q s p:=by
 exact⟨aaa h,by rw[cell_of_row w q 0 _ _ _ h];rfl,by rw[cell_of_row w q 1 _ _ _ h];rfl,by rw[cell_of_row w q 2 _ _ _ h];rfl,by rw[cell_of_row w q 3 _ _ _ h];rfl,by rw[cell_of_row w q 4 _ _ _ h];rfl,frozen_of_row w q 1 _ _ h,frozen_of_row w q 2 _ _ h,frozen_of_row w q 3 _ _ h,frozen_of_row w q 4 _ _ h⟩
def rpos(w:World)(q:Nat):Nat:=match w.cell? ⟨q,1,none⟩with|some (.int _ z)=>z.toNat|_=>0
theorem Rdr.pos{w:World}{q:Nat}{s:ByteArray}{p:Pl}(h:Rdr w q s p):rpos w q=p.b:=by
 unfold rpos;rw[h.cells.k1];simp
theorem atm(w:World)(s:ByteArray):
  Calls Tryz.prog 114 #[.string s] w fun r w'=>∃q,w.heap.size<=q/\r=.returned (.pointer (some ⟨q,0,none⟩))/\Rdr w' q s pl0/\Below w.heap.size w w':=by
 go_enter Tryz.func114,Tryz.ntmps114
 go_wp2;go_ret;exact⟨w.heap.size,Nat.le_refl _,rfl,heap_alloc_new w _,(Below.refl _ _).alloc (Nat.le_refl _) _⟩
theorem aji(w:World)(q:Nat)(s:ByteArray)(p:Pl)(h:Rdr w q s p):
  Calls Tryz.prog 171 #[.pointer (some ⟨q,0,none⟩)] w fun r w'=>r=.returned (.bool (decide (s.size<=p.b)))/\Below w.heap.size w w':=by
 obtain⟨hq,k0,k1,k2,k3,k4,f1,f2,f3,f4⟩:=h.cells;clear h;have hde:decide ((s.size:Int)<=(p.b:Int))=decide (s.size<=p.b):=by simp
 go_enter Tryz.func171,Tryz.ntmps171
 go_wp2_with fail
 go_quiet (fail)
 go_wp2;go_ret;refine⟨by simp,?_⟩
 (repeat' first|with_reducible(first|exact Below.refl _ _|assumption|refine gdrewN ?_ _|refine Below.alloc ?_ ?_ _|refine Below.drew ?_|refine Below.setCell ?_ ?_ _)|go_size)
def lookS(s:ByteArray)(p:Pl):Int:=if s.size<=p.b then -1 else if Utf8.decode s p.b=(65533,1)then -2 else((Utf8.decode s p.b).1:Int)
theorem aay(w:World)(q:Nat)(s:ByteArray)(p:Pl)(h:Rdr w q s p)(hm:s.size<=100000):
  Calls Tryz.prog 143 #[.pointer (some ⟨q,0,none⟩)] w fun r w'=>r=.returned (.int .i64 (lookS s p))/\Below w.heap.size w w':=by
 have H:=hide h;unfold lookS;by_cases he:s.size<=p.b
 ·rw[if_pos he];have he':decide (s.size<=p.b)=true:=by simp[he]
  clear h;go_enter Tryz.func143,Tryz.ntmps143
  go_wp2_with fail
  refine(aji w q s p H.out).mono ?_;rintro r w1 ⟨rfl,hb⟩;rw[he'];go_wp2;go_ret;exact⟨rfl,hb⟩
 ·rw[if_neg he];have he':decide (s.size<=p.b)=false:=by simp;omega
  have KP:=fun(w:World)=>aj5 w s p.b (by omega) hm
  unfold ptS at KP;clear h;by_cases hd:Utf8.decode s p.b=(65533,1)
  ·rw[if_pos hd];simp only[if_pos hd]at KP;go_enter Tryz.func143,Tryz.ntmps143
   go_wp2_with fail
   refine(aji w q s p H.out).mono ?_;rintro r w1 ⟨rfl,hb⟩;rw[he'];obtain⟨hq,k0,k1,k2,k3,k4,f1,f2,f3,f4⟩:=(H.out.below hb).cells;have HB:=hide hb;clear hb hd;go_wp2_with fail
   go_quiet ((go_at_call 172;exact Calls.quiet_of_same (KP _)))
   go_wp2;go_ret;refine⟨rfl,?_⟩;have hB:=HB.out;exact gdrewN hB _
  ·rw[if_neg hd];simp only[if_neg hd]at KP;have hk:=abf s p.b (by omega);have HD:=hide hd;clear hd;generalize Utf8.decode s p.b=dc at KP hk ⊢;obtain⟨c,k⟩:=dc;simp only at KP hk ⊢;have hk0:((k:Int)==0)=false:=beq_eq_false_iff_ne.2 (by omega);go_enter Tryz.func143,Tryz.ntmps143
   go_wp2_with fail
   refine(aji w q s p H.out).mono ?_;rintro r w1 ⟨rfl,hb⟩;rw[he'];obtain⟨hq,k0,k1,k2,k3,k4,f1,f2,f3,f4⟩:=(H.out.below hb).cells;have HB:=hide hb;clear hb;go_wp2_with fail
   go_quiet ((go_at_call 172;exact Calls.quiet_of_same (KP _)))
   go_wp2;go_ret;refine⟨rfl,?_⟩;have hB:=HB.out;exact gdrewN hB _
theorem ab3(w:World)(q:Nat)(s:ByteArray)(p:Pl)(h:Rdr w q s p)(hm:s.size<=100000)(hp:p.b<s.size)(hok:p.ok)(hv:Utf8.decode s p.b≠(65533,1)):
  Calls Tryz.prog 145 #[.pointer (some ⟨q,0,none⟩)] w fun r w'=>r=.returned (.tuple #[])/\Tq w w' q/\Rdr w' q s (p.past (Utf8.decode s p.b).1 (Utf8.decode s p.b).2):=by
 have H:=hide h;have KP:=fun(w:World)=>aj5 w s p.b hp hm
 unfold ptS at KP;simp only[if_neg hv]at KP;have hk:=abf s p.b hp;have hg:=hok.g;have hl:=hok.l;have hc:=hok.c;clear hv hok;generalize Utf8.decode s p.b=dc at KP hk ⊢;obtain⟨c,k⟩:=dc;simp only at KP hk ⊢;unfold Pl.past;obtain⟨hq,k0,k1,k2,k3,k4,f1,f2,f3,f4⟩:=h.cells;clear h;by_cases h10:c=10
 ·subst h10;rw[if_pos rfl,if_pos rfl];go_enter Tryz.func145,Tryz.ntmps145
  go_wp2_with fail
  go_quiet ((go_at_call 172;exact Calls.quiet_of_same (KP _)))
  go_wp2;go_returns
  refine⟨rfl,(Tq.of_below (gdrewN (Below.refl _ _) nq)).set 1 _ |>.set 2 _ |>.set 4 _ |>.set 3 _ |>.set 4 _,?_⟩;unfold Rdr;rw[heap_setCell_same _ _ 4 _ _ _ (heap_setCell_same _ _ 3 _ _ _ (heap_setCell_same _ _ 4 _ _ _ (heap_setCell_same _ _ 2 _ _ _ (heap_setCell_same _ _ 1 _ _ _ (show(w.drewN nq).heap[q]? = _ from H.out)))))];simp
 ·rw[if_neg h10,if_neg h10];have h10':((c:Int)==10)=false:=beq_eq_false_iff_ne.2 (by omega);go_enter Tryz.func145,Tryz.ntmps145
  go_wp2_with fail
  go_quiet ((go_at_call 172;exact Calls.quiet_of_same (KP _)))
  go_wp2;go_returns
  refine⟨rfl,(Tq.of_below (gdrewN (Below.refl _ _) nq)).set 1 _ |>.set 2 _ |>.set 4 _,?_⟩;unfold Rdr;rw[heap_setCell_same _ _ 4 _ _ _ (heap_setCell_same _ _ 2 _ _ _ (heap_setCell_same _ _ 1 _ _ _ (show(w.drewN nq).heap[q]? = _ from H.out)))];simp
theorem aa5{s:ByteArray}{p e:Pl}{g:Gl}{gs:List Gl}(h:Snd s p (g::gs) e):lookS s p=(g.code:Int):=by
 obtain⟨_,h1,h2,h3,_⟩:=h.tail;unfold lookS;rw[if_neg (by omega),if_neg h3,h2]
theorem adf{s:ByteArray}{p e:Pl}(h:Snd s p [] e):p=e/\(s.size<=e.b->lookS s p = -1)/\(e.b<s.size->lookS s p = -2):=by
 cases h with
 |stop _ h=>
  refine⟨rfl,fun hs=>by unfold lookS;rw[if_pos hs],fun hs=>?_⟩;rcases h with h|h
  ·omega
  ·unfold lookS;rw[if_neg (by omega),if_pos h.2]
theorem aqq(w:World)(q:Nat)(s:ByteArray)(p:Pl)(gs:List Gl)(e:Pl)(h:Rdr w q s p)(hm:s.size<=100000)(hQ:Snd s p gs e)(hok:p.ok)(hpb:p.b<=s.size):
  Calls Tryz.prog 115 #[.pointer (some ⟨q,0,none⟩)] w fun r w'=>Tq w w' q/\∃p',Snd s p' (skp false gs) e/\p'.ok/\p'.b<=s.size/\Rdr w' q s p'/\((skp false gs = []/\e.b<s.size/\r=.returned (.int .i64 40))\/((skp false gs≠[]\/s.size<=e.b)/\r=.returned (.int .i64 0))):=by
 have H:=hide h;have HQ:=hide hQ;have HO:=hide hok;clear h hQ hok;go_enter Tryz.func115,Tryz.ntmps115
 go_wp2_with fail
 go_loopw [3] (fun cv wr=>∃(c:Bool) (p':Pl) (gs':List Gl),cv=.bool c/\Snd s p' gs' e/\p'.ok/\p'.b<=s.size/\skp false gs=skp c gs'/\Rdr wr q s p'/\Tq w wr q) (fun _ wr=>s.size-rpos wr q)
 case atStart=>exact⟨false,p,gs,rfl,HQ.out,HO.out,hpb,rfl,H.out,Tq.refl _ _⟩
 case round=>
  obtain⟨c,p',gs',rfl,hS,hok,hb,hk,hR,hT⟩:=hrel;have HS:=hide hS;have HK:=hide hk;have HR:=hide hR;have HT:=hide hT;have HO':=hide hok;have IP:=hide hR.pos;clear hk hR hT hok;cases gs' with
  |nil=>
   obtain⟨rfl,hl1,hl2⟩:=adf hS;clear hS;have hsk:skp false gs = []:=by rw[HK.out];cases c <;> rfl
   have HSK:=hide hsk;clear hsk;by_cases hbe:s.size<=p'.b
   ·have hl:=hl1 hbe;clear hl1 hl2;go_wp2_with fail
    refine(aay wr q s p' HR.out hm).mono ?_;rintro r w2 ⟨rfl,hb2⟩;rw[hl];go_wp2;go_ret;refine⟨HT.out.trans (.of_below hb2),p',by rw[HSK.out];exact HS.out,HO'.out,hb,HR.out.below hb2,.inr ⟨.inr hbe,rfl⟩⟩
   ·have hl:=hl2 (by omega);clear hl1 hl2;go_wp2_with fail
    refine(aay wr q s p' HR.out hm).mono ?_;rintro r w2 ⟨rfl,hb2⟩;rw[hl];go_wp2;go_ret;refine⟨HT.out.trans (.of_below hb2),p',by rw[HSK.out];exact HS.out,HO'.out,hb,HR.out.below hb2,.inl ⟨HSK.out,by omega,rfl⟩⟩
  |cons g gs''=>
   have hl:=aa5 hS;obtain⟨t1,t2,t3,t4,t5,t6⟩:=hS.tail;clear hS;have HN:=hide (fun(W:World) (h:Rdr W q s p')=>ab3 W q s p' h hm t2 HO'.out t4);have hd:=abf s p'.b t2;have HO2:=hide (HO'.out.past (Utf8.decode s p'.b).1 (Utf8.decode s p'.b).2 hd.1);have HS2:=hide t5;have hpos:(p'.past (Utf8.decode s p'.b).1 (Utf8.decode s p'.b).2).b=p'.b+(Utf8.decode s p'.b).2:=rfl;generalize p'.past (Utf8.decode s p'.b).1 (Utf8.decode s p'.b).2=p2 at HN HO2 HS2 hpos;have hpos':p'.b<p2.b/\p2.b<=s.size:=by omega
   have hg0:0<=(g.code:Int):=by omega
   have n2:((g.code:Int) == -2)=false:=beq_eq_false_iff_ne.2 (by omega);have n1:((g.code:Int) == -1)=false:=beq_eq_false_iff_ne.2 (by omega);clear t1 t2 t3 t4 t5 t6 hd hpos;go_wp2_with fail
   refine(aay wr q s p' HR.out hm).mono ?_;rintro r w2 ⟨rfl,hb2⟩;rw[hl];replace HR:=hide (HR.out.below hb2);replace HT:=hide (HT.out.trans (.of_below hb2));clear hb2 hl;have HGC:Hid (g.code=10->gcls g.code=1):=by intro h;rw[h];rfl
   cases c with
   |true=>
    by_cases h10:g.code=10
    ·have q1:((g.code:Int)==10)=true:=by rw[h10];rfl
     have q2:gcls (g.code:Int)=1:=HGC.out h10;have q3:(gcls (g.code:Int)==6)=false:=by rw[q2];rfl
     have q4:(gcls (g.code:Int) != 1)=false:=by rw[q2];rfl
     have H10:=hide h10;clear h10 q2;go_wp2_with (go_at_call 144;refine(aa7 _ _).mono ?_;rintro r w' ⟨rfl,rfl⟩)
     refine(HN.out _ HR.out).mono ?_;rintro r w3 ⟨rfl,ht3,hR3⟩;have HR3:=hide hR3;have HT3:=hide (HT.out.trans ht3);clear ht3 hR3;go_wp2;go_roundw
     case rel=>exact⟨false,p2,gs'',rfl,HS2.out,HO2.out,hpos'.2,by rw[HK.out,skp];simp[H10.out],HR3.out,HT3.out⟩
     case measure=>rw[IP.out,HR3.out.pos];omega
    ·have q1:((g.code:Int)==10)=false:=beq_eq_false_iff_ne.2 (by omega);have H10:=hide h10;clear h10;by_cases h6:gcls (g.code:Int)=6
     ·have q3:(gcls (g.code:Int)==6)=true:=by rw[h6];rfl
      clear h6;go_wp2_with (go_at_call 144;refine(aa7 _ _).mono ?_;rintro r w' ⟨rfl,rfl⟩)
      refine(HN.out _ HR.out).mono ?_;rintro r w3 ⟨rfl,ht3,hR3⟩;have HR3:=hide hR3;have HT3:=hide (HT.out.trans ht3);clear ht3 hR3;go_wp2;go_roundw
      case rel=>exact⟨true,p2,gs'',rfl,HS2.out,HO2.out,hpos'.2,by rw[HK.out,skp];simp[H10.out],HR3.out,HT3.out⟩
      case measure=>rw[IP.out,HR3.out.pos];omega
     ·have q3:(gcls (g.code:Int)==6)=false:=beq_eq_false_iff_ne.2 h6;clear h6;go_wp2_with (go_at_call 144;refine(aa7 _ _).mono ?_;rintro r w' ⟨rfl,rfl⟩)
      refine(HN.out _ HR.out).mono ?_;rintro r w3 ⟨rfl,ht3,hR3⟩;have HR3:=hide hR3;have HT3:=hide (HT.out.trans ht3);clear ht3 hR3;go_wp2;go_roundw
      case rel=>exact⟨true,p2,gs'',rfl,HS2.out,HO2.out,hpos'.2,by rw[HK.out,skp];simp[H10.out],HR3.out,HT3.out⟩
      case measure=>rw[IP.out,HR3.out.pos];omega
   |false=>
    by_cases h10:g.code=10
    ·have q1:((g.code:Int)==10)=true:=by rw[h10];rfl
     have q2:gcls (g.code:Int)=1:=HGC.out h10;have q3:(gcls (g.code:Int)==6)=false:=by rw[q2];rfl
     have q4:(gcls (g.code:Int) != 1)=false:=by rw[q2];rfl
     have H2:=hide q2;clear h10 q2;go_wp2_with (go_at_call 144;refine(aa7 _ _).mono ?_;rintro r w' ⟨rfl,rfl⟩)
     refine(HN.out _ HR.out).mono ?_;rintro r w3 ⟨rfl,ht3,hR3⟩;have HR3:=hide hR3;have HT3:=hide (HT.out.trans ht3);clear ht3 hR3;go_wp2;go_roundw
     case rel=>exact⟨false,p2,gs'',rfl,HS2.out,HO2.out,hpos'.2,by rw[HK.out,skp];simp[H2.out],HR3.out,HT3.out⟩
     case measure=>rw[IP.out,HR3.out.pos];omega
    ·have q1:((g.code:Int)==10)=false:=beq_eq_false_iff_ne.2 (by omega);clear h10;by_cases h6:gcls (g.code:Int)=6
     ·have q3:(gcls (g.code:Int)==6)=true:=by rw[h6];rfl
      have H6:=hide h6;clear h6;go_wp2_with (go_at_call 144;refine(aa7 _ _).mono ?_;rintro r w' ⟨rfl,rfl⟩)
      refine(HN.out _ HR.out).mono ?_;rintro r w3 ⟨rfl,ht3,hR3⟩;have HR3:=hide hR3;have HT3:=hide (HT.out.trans ht3);clear ht3 hR3;go_wp2;go_roundw
      case rel=>exact⟨true,p2,gs'',rfl,HS2.out,HO2.out,hpos'.2,by rw[HK.out,skp];simp[H6.out],HR3.out,HT3.out⟩
      case measure=>rw[IP.out,HR3.out.pos];omega
     ·have q3:(gcls (g.code:Int)==6)=false:=beq_eq_false_iff_ne.2 h6;by_cases h1:gcls (g.code:Int)=1
      ·have q4:(gcls (g.code:Int) != 1)=false:=by rw[h1];rfl
       have H1:=hide h1;clear h1 h6;go_wp2_with (go_at_call 144;refine(aa7 _ _).mono ?_;rintro r w' ⟨rfl,rfl⟩)
       refine(HN.out _ HR.out).mono ?_;rintro r w3 ⟨rfl,ht3,hR3⟩;have HR3:=hide hR3;have HT3:=hide (HT.out.trans ht3);clear ht3 hR3;go_wp2;go_roundw
       case rel=>exact⟨false,p2,gs'',rfl,HS2.out,HO2.out,hpos'.2,by rw[HK.out,skp];simp[H1.out],HR3.out,HT3.out⟩
       case measure=>rw[IP.out,HR3.out.pos];omega
      ·have q4:(gcls (g.code:Int) != 1)=true:=by simp[h1]
       have hsk:skp false gs=g::gs'':=by rw[HK.out,skp];simp[h6,h1]
       have HSK:=hide hsk;clear h6 h1 hsk;go_wp2_with (go_at_call 144;refine(aa7 _ _).mono ?_;rintro r w' ⟨rfl,rfl⟩)
       go_ret;exact⟨HT.out,p',by rw[HSK.out];exact HS.out,HO'.out,hb,HR.out,.inr ⟨.inl (by rw[HSK.out];simp),rfl⟩⟩
theorem alu(w:World)(c:Int):
  Calls Tryz.prog 146 #[.int .i64 c] w fun e w'=>e=.returned (.bool (decide (0<=c/\(gcls c=2\/gcls c=3\/gcls c=4))))/\w'=w:=by
 go_enter Tryz.func146,Tryz.ntmps146
 go_wp2_with fail
 refine(aa7 _ _).mono ?_;rintro e w' ⟨rfl,rfl⟩;go_wp2;all_goals go_ret
 all_goals refine⟨congrArg Ending.returned (congrArg Value.bool ?_),rfl⟩
 all_goals try simp only[beq_iff_eq,beq_eq_false_iff_ne]at *
 all_goals first|(refine aer ?_;simp <;> omega)|(symm;simp;omega)
theorem awf(s:ByteArray)(h:0<s.size):bytesOf s=((s.get! 0).toNat:Int)::bytesOf (s.extract 1 s.size):=by
 have:=ado s 0 s.size h (Nat.le_refl _);rwa[show s.extract 0 s.size=s from by simp]at this
theorem awg(w:World)(s:ByteArray)(h0:0<s.size)(hd:Dig (bytesOf s)):
  Calls Tryz.prog 147 #[.string s] w fun e w'=>w'=w/\∃ds,IsDec ds (dval (bytesOf s))/\e=.returned (.string (strOfNums ds))/\ds.length<=s.size:=by
 have HD:=hide hd;clear hd;go_enter Tryz.func147,Tryz.ntmps147
 go_wp2;go_loopw [0] (fun sv wr=>∃(y:ByteArray),sv=.string y/\0<y.size/\y.size<=s.size/\Dig (bytesOf y)/\dval (bytesOf y)=dval (bytesOf s)/\wr=w) (fun sv _=>match sv with | .string y=>y.size|_=>0)
 case atStart=>exact⟨s,rfl,h0,Nat.le_refl _,HD.out,rfl,rfl⟩
 case round=>
  obtain⟨y,rfl,hy0,hys,hyd,hyv,rfl⟩:=hrel;have HYD:=hide hyd;have HYV:=hide hyv;clear hyd hyv;have hb:=awf y hy0;have hg:y[0]'hy0=y.get! 0:=getS y 0 hy0;by_cases h1:1<y.size
  ·have h1':(1:Int)<(y.size:Int):=by omega
   by_cases hz:(y.get! 0).toNat=48
   ·have hz':((y[0]'hy0).toNat:Int)=48:=by rw[hg];omega
    have HB:=hide hb;clear hb hg;go_wp2;have hv2:dval (bytesOf (y.extract 1 y.size))=dval (bytesOf s):=by
     rw[<-HYV.out,HB.out,dval,hz];simp
    have hd2:Dig (bytesOf (y.extract 1 y.size)):=by
     have:=HYD.out;rw[HB.out]at this;exact(abg.1 this).2
    have hs2:(y.extract 1 y.size).size=y.size-1:=by rw[ByteArray.size_extract];omega
    exact⟨⟨_,rfl,by omega,by omega,hd2,hv2,trivial⟩,by show(y.extract 1 y.size).size<y.size;omega⟩
   ·have hz':((y[0]'hy0).toNat:Int)≠48:=by rw[hg];omega
    have HB:=hide hb;clear hb hg;go_wp2;go_ret;exact⟨rfl,bytesOf y,⟨HYD.out,HYV.out,.inr ⟨_,_,HB.out,by omega⟩⟩,by rw[ab6];rfl,by rw[aah];omega⟩
  ·have h1':decide ((1:Int)<(y.size:Int))=false:=by simp;omega
   have HB:=hide hb;clear hb hg;go_wp2;go_ret;have hnil:bytesOf (y.extract 1 y.size) = []:=List.eq_nil_of_length_eq_zero (by rw[aah,ByteArray.size_extract];omega);have hB:=HB.out;rw[hnil]at hB;refine⟨rfl,bytesOf y,⟨HYD.out,HYV.out,?_⟩,by rw[ab6];rfl,by rw[aah];omega⟩;by_cases h48:(y.get! 0).toNat=48
   ·refine .inl ⟨?_,by rw[hB,h48];rfl⟩;rw[<-HYV.out,hB,h48];rfl
   ·exact .inr ⟨_,_,hB,by omega⟩
theorem a0b(n:Nat):Dm.pw n=p10 (4*n):=by
 induction n with
 |zero=>rfl
 |succ n ih=>
  rw[Dm.pw,ih,show 4*(n+1)=4*n+1+1+1+1 from by omega];simp only[p10];omega
theorem p308:p10 308<=pw 32:=by decide +kernel
theorem aoh(w:World)(ax:Option Addr)(cx:Nat)(xs:List Int)(x:Int)(hx:0<=x)(G:Dm.Got w ax cx xs x)(L:xs.length<=6000)(m:Nat)(hm:IsLen x m):
  Calls Tryz.prog 90 #[.agg #[.bool false,.slice ax xs.length cx]] w fun e w'=>e=.returned (.bool (decide (32<m)))/\Below w.heap.size w w':=by
 have hn:(x.natAbs:Int)=x:=by omega
 have HW:Hid (Dm.Wh w false ax cx xs x):=⟨by rw[hn];exact G,by simp;omega⟩;have HM:Hid (IsLen (x.natAbs:Int) m):=by rw[hn];exact hm
 have hsl:xs.length<=77->m<=32:=by
  intro h;obtain⟨rs,c,v,rfl⟩:=hm;refine aa1 c (m:=32) ?_;have h1:=(Dm.aab G.2.1.1).2;rw[G.2.2]at h1;have h2:=abb (m:=4*xs.length) (n:=308) (by omega);rw[a0b]at h1;have h3:=p308;omega
 have HS:=hide hsl;clear hn hm G hsl;by_cases h77:77<xs.length
 ·have h77':(77:Int)<(xs.length:Int):=by omega
  generalize hxl:xs.length=n at *
  go_enter Tryz.func90,Tryz.ntmps90
  go_wp2_with fail
  have hb1:Below w.heap.size w (w.alloc (.cells #[.bool false,.slice ax n cx] 85)):=(Below.refl _ _).alloc (Nat.le_refl _) _;have K:=ax9 (w.alloc (.cells #[.bool false,.slice ax n cx] 85)) 6000 false ax cx xs x (HW.out.below hb1) (by omega) (by omega) m HM.out;rw[hxl]at K;refine K.mono ?_;rintro e w2 ⟨v,rfl,hv,hb2⟩;obtain rfl:v=.int .i64 (m:Int):=hv;have hB:=hb1.trans (hb2.mono hb1.size);clear hb1 hb2 K;have hd:decide ((32:Int)<(m:Int))=decide (32<m):=by simp;omega
  go_wp2;all_goals go_ret
  all_goals (refine⟨?_,hB⟩;simp)
 ·have h77':decide ((77:Int)<(xs.length:Int))=false:=by simp;omega
  have hd:decide (32<m)=false:=by have:=HS.out (by omega);simp;omega
  rw[hd];generalize xs.length=n at *
  go_enter Tryz.func90,Tryz.ntmps90
  go_wp2;go_ret;exact⟨by rfl,by(repeat' first|with_reducible(first|exact Below.refl _ _|assumption|refine gdrewN ?_ _|refine Below.alloc ?_ ?_ _|refine Below.drew ?_|refine Below.setCell ?_ ?_ _)|go_size)⟩
def jpre:List ByteArray->List UInt8
 | []=>[]
 |x::r=>x.data.toList++r.flatMap fun y=>32::y.data.toList
def TkB(w:World)(f:Nat)(t:Tk):Prop:=w.heap[f]? = some (.cells #[.int .i64 t.kind,.string t.text,.int .i64 t.pl.b,.int .i64 t.pl.g,.int .i64 t.pl.l,.int .i64 t.pl.c] 109 (0,0))
end Lm
end Go.Proofs.YtooefpkhacecnaaGreatDoor
