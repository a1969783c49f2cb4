/-
  What the text behind the last one leans on, part 3.
-/
import Derived.Shelf.Lay
import Derived.Shelf.Strconv.Clone
import Derived.Laws.Concat
import Derived.Shelf.Unicode.DecodeAny
import Derived.Lib.LaidU8
import Derived.Test.YtdjgifcmhafppaaGreatDoorProg
import Derived.Lib.OthersKept
import Derived.Laws.RangeAny
import Derived.Deep.RegionLaw
import Derived.Deep.AppendLies
import Derived.Shelf.Strings.BuilderK
import Derived.SizedLaws
import Derived.Shelf.Unicode.DecodeSlow
import Derived.Test.YtdjgifcmhafppaaGreatDoorXLsLawZ2
namespace Go.Proofs
open Go.Shelf
shelf_lay LaysM.n316 Nm 316 at Tryz as Tryz.lays316
namespace YtdjgifcmhafppaaGreatDoor
namespace Lm
open Go Go.RowKit
theorem aoj (w:World) (s:ByteArray) (h:s.size≤281474976710656) :
  Calls Tryz.prog 106 #[.string s] w fun e w'=>e=.returned (.string s)∧Below w.heap.size w w' := Any.stringslite_Clone Tryz.lays316 s w h
theorem aok (w:World) (s:ByteArray) (h:s.size≤281474976710656) :
  Calls Tryz.prog 94 #[.string s] w fun e w'=>e=.returned (.string s)∧Below w.heap.size w w' := by
 go_enter Tryz.func94,Tryz.ntmps94
 go_wp2_with fail
 refine (aoj _ _ h).mono ?_
 rintro e w' ⟨rfl,hb⟩
 go_wp2
 go_ret
 exact ⟨rfl,hb⟩
end Lm
end YtdjgifcmhafppaaGreatDoor
end Go.Proofs
namespace Go.Proofs.YtdjgifcmhafppaaGreatDoor
namespace Lm
open Go Go.RowKit
theorem ahe (w:World) (zs:List Int) (hl:zs.length≤100) (e:TypeId):Nums (w.alloc (.cells (zs.map (Value.int .i64)).toArray e)) (.slice (some ⟨w.heap.size,0,none⟩) zs.length zs.length) zs:=by
 refine ⟨_,_,rfl,Nat.le_refl _,by omega,by simp,.inr ⟨w.heap.size,0,rfl,by simp [World.size_alloc],fun j u hu=>?_⟩⟩
 rw [cell_of_row _ w.heap.size _ _ _ _ (heap_alloc_new w _),Nat.zero_add]
 simpa using hu
def tok0:Value:=.agg #[.int .i64 0,.string ⟨#[]⟩,.int .i64 0,.int .i64 0,.int .i64 0,.int .i64 0]
def Tk0B (w:World) (f:Nat):Prop:=w.heap[f]? = some (.cells #[.int .i64 0,.string ⟨#[]⟩,.int .i64 0,.int .i64 0,.int .i64 0,.int .i64 0] 64 (0,0))
theorem Tk0B.tq {w w' : World} {f q:Nat} (h:Tk0B w f) (ht:Tq w w' q) (hn:f≠q):Tk0B w' f:=(ht.other f (aaa h) hn).trans h
theorem Tk0B.below {w w' : World} {f:Nat} (h:Tk0B w f) (hb:Below w.heap.size w w'):Tk0B w' f:=(hb.block f (aaa h)).trans h
structure Tk0C (w:World) (f:Nat):Prop where
 hf:f<w.heap.size
 t0:w.cell? ⟨f,0,none⟩ = some (.int .i64 0)
 t1:w.cell? ⟨f,1,none⟩ = some (.string ⟨#[]⟩)
 t2:w.cell? ⟨f,2,none⟩ = some (.int .i64 0)
 t3:w.cell? ⟨f,3,none⟩ = some (.int .i64 0)
 t4:w.cell? ⟨f,4,none⟩ = some (.int .i64 0)
 t5:w.cell? ⟨f,5,none⟩ = some (.int .i64 0)
 f0:w.frozen? ⟨f,0,none⟩ = false
 f1:w.frozen? ⟨f,1,none⟩ = false
 f2:w.frozen? ⟨f,2,none⟩ = false
 f3:w.frozen? ⟨f,3,none⟩ = false
 f4:w.frozen? ⟨f,4,none⟩ = false
 f5:w.frozen? ⟨f,5,none⟩ = false
theorem Tk0B.cells {w:World} {f:Nat} (h:Tk0B w f):Tk0C w f:=by
 exact ⟨aaa h,by rw [cell_of_row w f 0 _ _ _ h];rfl,by rw [cell_of_row w f 1 _ _ _ h];rfl,by rw [cell_of_row w f 2 _ _ _ h];rfl,by rw [cell_of_row w f 3 _ _ _ h];rfl,by rw [cell_of_row w f 4 _ _ _ h];rfl,by rw [cell_of_row w f 5 _ _ _ h];rfl,frozen_of_row w f 0 _ _ h,frozen_of_row w f 1 _ _ h,frozen_of_row w f 2 _ _ h,frozen_of_row w f 3 _ _ h,frozen_of_row w f 4 _ _ h,frozen_of_row w f 5 _ _ h⟩
set_option maxRecDepth 20000 in
set_option maxHeartbeats 1000000 in
theorem ato (w:World) (q:Nat) (s:ByteArray) (v:Value) (gs:List Gl) (i:Nat) (e:Pl) (h:Scn w q s v gs i e) (hn:gs.length≤100000) (hQ:Snd s pl0 gs e) (hs:s.size≤100000) :
  Calls Tryz.prog 72 #[.pointer (some ⟨q,0,none⟩)] w fun r w'=>∃ j,i≤j∧gs.drop j=(gs.drop i).dropWhile (inC [2,3,4])∧Scn w' q s v gs j e∧Tq w w' q∧((16<j - i∧r=.returned (.tuple #[tok0,.int .i64 42]))∨(j - i≤16∧r=.returned (.tuple #[.agg #[.int .i64 1,.string (s.extract (plf (gs.drop i) e).b (plf (gs.drop j) e).b),.int .i64 0,.int .i64 0,.int .i64 0,.int .i64 0],.int .i64 0]))):=by
 have H:=hide h
 have hq:=aaa h.blk
 clear h
 unfold tok0
 have hb0:Below w.heap.size w ((w.alloc (.cells #[.int .i64 0,.string ⟨#[]⟩,.int .i64 0,.int .i64 0,.int .i64 0,.int .i64 0] 64)).alloc (.cells #[.int .i64 2,.int .i64 3,.int .i64 4] 3)):=ac9 _ _ _
 have ht0:Tk0B ((w.alloc (.cells #[.int .i64 0,.string ⟨#[]⟩,.int .i64 0,.int .i64 0,.int .i64 0,.int .i64 0] 64)).alloc (.cells #[.int .i64 2,.int .i64 3,.int .i64 4] 3)) w.heap.size:=Tk0B.below (heap_alloc_new w _) ((Below.refl _ _).alloc (Nat.le_refl _) _)
 have hN:=ahe (w.alloc (.cells #[.int .i64 0,.string ⟨#[]⟩,.int .i64 0,.int .i64 0,.int .i64 0,.int .i64 0] 64)) [2,3,4] (by simp) 3
 simp only [World.size_alloc,List.map,List.length] at hN
 go_enter Tryz.func72,Tryz.ntmps72
 go_wp2_with fail
 refine (amv _ q s v gs i e (H.out.below hb0) hn _ _ _ [2,3,4] hN (by rintro b off n c hv;simp only [Value.slice.injEq,Option.some.injEq,Addr.mk.injEq] at hv;omega) hQ hs).mono ?_
 rintro r w2 ⟨j,hij,hdj,rfl,hS,hT⟩
 have HS:=hide hS
 have HT:=hide ((Tq.of_below hb0).trans hT)
 have HT0:=hide (ht0.tq hT (by omega))
 clear hS hT hb0 ht0 hN
 have HDJ:=hide hdj
 clear hdj
 generalize hf:w.heap.size=f at *
 replace hf:w.heap.size≤f:=by omega
 have hqf:q≠f:=by omega
 clear hq
 by_cases hlong:16<j - i
 ·obtain ⟨hfl,t0,t1,t2,t3,t4,t5,f0,f1,f2,f3,f4,f5⟩:=HT0.out.cells
  have hl' : (16:Int)<((j - i:Nat):Int):=by omega
  go_wp2
  refine bodyPost_ret (v:=_) (by simp [results,Tryz.results72,go_sem,t0,t1,t2,t3,t4,t5];try rfl) rfl ⟨j,hij,HDJ.out,?_,?_,.inl ⟨hlong,rfl⟩⟩
  ·exact H.out.of_tq (HT.out.setNew hf 0 _ |>.setNew hf 1 _ |>.setNew hf 2 _ |>.setNew hf 3 _ |>.setNew hf 4 _ |>.setNew hf 5 _) ((aba _ _ _ hqf _ _ _ _ _ _).trans HS.out.blk) HS.out.le
  ·exact HT.out.setNew hf 0 _ |>.setNew hf 1 _ |>.setNew hf 2 _ |>.setNew hf 3 _ |>.setNew hf 4 _ |>.setNew hf 5 _
 ·have hl' : decide ((16:Int)<((j - i:Nat):Int))=false:=by simp;omega
  go_wp2_with fail
  refine (aok _ _ (by simp;omega)).mono ?_
  rintro r w3 ⟨rfl,hb3⟩
  replace HT0:=hide (HT0.out.below hb3)
  replace HT:=hide (HT.out.trans (.of_below hb3))
  replace HS:=hide (HS.out.below hb3)
  clear hb3
  obtain ⟨hfl,t0,t1,t2,t3,t4,t5,f0,f1,f2,f3,f4,f5⟩:=HT0.out.cells
  go_wp2
  refine bodyPost_ret (v:=_) (by simp [results,Tryz.results72,go_sem,t0,t1,t2,t3,t4,t5];try rfl) rfl ⟨j,hij,HDJ.out,?_,?_,.inr ⟨by omega,rfl⟩⟩
  ·exact H.out.of_tq (HT.out.setNew hf 0 _ |>.setNew hf 1 _ |>.setNew hf 2 _ |>.setNew hf 3 _ |>.setNew hf 4 _ |>.setNew hf 5 _) ((aba _ _ _ hqf _ _ _ _ _ _).trans HS.out.blk) HS.out.le
  ·exact HT.out.setNew hf 0 _ |>.setNew hf 1 _ |>.setNew hf 2 _ |>.setNew hf 3 _ |>.setNew hf 4 _ |>.setNew hf 5 _
end Lm
end Go.Proofs.YtdjgifcmhafppaaGreatDoor
namespace Go.Proofs.YtdjgifcmhafppaaGreatDoor
namespace Lm
open Go Go.RowKit
open Dm (Err Fine)
set_option maxRecDepth 20000 in
set_option maxHeartbeats 1000000 in
theorem aol (w:World) (q:Nat) (s:ByteArray) (v:Value) (gs:List Gl) (i:Nat) (e:Pl) (h:Scn w q s v gs i e) (hn:gs.length≤100000) (hQ:Snd s pl0 gs e) (hs:s.size≤4096) (hne:(plf (gs.drop i) e).b<(plf ((gs.drop i).dropWhile (inC [3])) e).b) :
  Calls Tryz.prog 73 #[.pointer (some ⟨q,0,none⟩)] w fun r w'=>∃ j,i≤j∧gs.drop j=(gs.drop i).dropWhile (inC [3])∧Scn w' q s v gs j e∧Tq w w' q∧∃ n ds,IsLen (dval (bytesOf (s.extract (plf (gs.drop i) e).b (plf (gs.drop j) e).b))) n∧IsDec ds (dval (bytesOf (s.extract (plf (gs.drop i) e).b (plf (gs.drop j) e).b)))∧((32<n∧r=.returned (.tuple #[tok0,.int .i64 2]))∨(n≤32∧r=.returned (.tuple #[.agg #[.int .i64 2,.string (strOfNums ds),.int .i64 0,.int .i64 0,.int .i64 0,.int .i64 0],.int .i64 0]))):=by
 have H:=hide h
 have hq:=aaa h.blk
 have hD:=hQ.drop ad9 (Nat.zero_le _) i h.le
 have hG:=hD.1.digits hD.2.1 hD.2.2.2.1
 have HF:Hid (Fine (s.extract (plf (gs.drop i) e).b (plf ((gs.drop i).dropWhile (inC [3])) e).b)):=by
  refine ⟨?_,?_,hG.1⟩
  ·rw [ByteArray.size_extract];omega
  ·rw [ByteArray.size_extract];omega
 clear h hD hG hne
 unfold tok0
 have hb0:Below w.heap.size w ((w.alloc (.cells #[.int .i64 0,.string ⟨#[]⟩,.int .i64 0,.int .i64 0,.int .i64 0,.int .i64 0] 64)).alloc (.cells #[.int .i64 3] 3)):=ac9 _ _ _
 have ht0:Tk0B ((w.alloc (.cells #[.int .i64 0,.string ⟨#[]⟩,.int .i64 0,.int .i64 0,.int .i64 0,.int .i64 0] 64)).alloc (.cells #[.int .i64 3] 3)) w.heap.size:=Tk0B.below (heap_alloc_new w _) ((Below.refl _ _).alloc (Nat.le_refl _) _)
 have hN:=ahe (w.alloc (.cells #[.int .i64 0,.string ⟨#[]⟩,.int .i64 0,.int .i64 0,.int .i64 0,.int .i64 0] 64)) [3] (by simp) 3
 simp only [World.size_alloc,List.map,List.length] at hN
 go_enter Tryz.func73,Tryz.ntmps73
 go_wp2_with fail
 refine (amv _ q s v gs i e (H.out.below hb0) hn _ _ _ [3] hN (by rintro b off n c hv;simp only [Value.slice.injEq,Option.some.injEq,Addr.mk.injEq] at hv;omega) hQ (by omega)).mono ?_
 rintro r w2 ⟨j,hij,hdj,rfl,hS,hT⟩
 have HS:=hide hS
 have HT:=hide ((Tq.of_below hb0).trans hT)
 have HT0:=hide (ht0.tq hT (by omega))
 clear hS hT hb0 ht0 hN
 rw [←hdj] at HF
 have HDJ:=hide hdj
 clear hdj
 generalize htx:s.extract (plf (gs.drop i) e).b (plf (gs.drop j) e).b=t at HF ⊢
 have HTX:=hide htx
 clear htx
 generalize hf:w.heap.size=f at *
 replace hf:w.heap.size≤f:=by omega
 have hqf:q≠f:=by omega
 clear hq
 go_wp2_with fail
 refine (amw _ _).mono ?_
 rintro r w3 ⟨hr,hb3⟩
 replace HT0:=hide (HT0.out.below hb3)
 replace HT:=hide (HT.out.trans (.of_below hb3))
 replace HS:=hide (HS.out.below hb3)
 clear hb3
 rcases hr with ⟨k,hk,rfl⟩ | ⟨_,u,rfl,rs,hO,hC,hV⟩
 ·exfalso
  obtain ⟨x1,x2,x3⟩:=HF.out
  rcases hk with hk | hk
  ·omega
  ·exact hk.2.2 ⟨x1,x3⟩
 obtain ⟨ao,cap,rfl,c1,c2,c3,c4⟩:=hO.sl
 have HO:=hide hO
 have HC:=hide (And.intro hC hV)
 have hlen:rs.length≤1000000:=by
  have h1:=abb HF.out.2.2
  rw [abp,←hV] at h1
  have h2:=abt (m:=t.size) (n:=5120) HF.out.2.1
  have h3:=an9 5120
  have h4:=aa3 hC (m:=5120) (by omega)
  omega
 clear hO hC hV c4
 by_cases hbig:32<rs.length
 ·obtain ⟨DS,hds⟩:=avw HF.out.2.2
  have HDS:=hide hds
  clear hds
  obtain ⟨hfl,t0,t1,t2,t3,t4,t5,f0,f1,f2,f3,f4,f5⟩:=HT0.out.cells
  have hl' : (32:Int)<(rs.length:Int):=by omega
  go_wp2
  refine bodyPost_ret (v:=_) (by simp [results,Tryz.results73,go_sem,t0,t1,t2,t3,t4,t5];try rfl) rfl ⟨j,hij,HDJ.out,?_,?_,_,DS,by rw [HTX.out];exact ⟨_,HC.out.1,HC.out.2,rfl⟩,by rw [HTX.out];exact HDS.out,.inl ⟨hbig,rfl⟩⟩
  ·exact H.out.of_tq (HT.out.setNew hf 0 _ |>.setNew hf 1 _ |>.setNew hf 2 _ |>.setNew hf 3 _ |>.setNew hf 4 _ |>.setNew hf 5 _) ((aba _ _ _ hqf _ _ _ _ _ _).trans HS.out.blk) HS.out.le
  ·exact HT.out.setNew hf 0 _ |>.setNew hf 1 _ |>.setNew hf 2 _ |>.setNew hf 3 _ |>.setNew hf 4 _ |>.setNew hf 5 _
 ·have hl' : decide ((32:Int)<(rs.length:Int))=false:=by simp;omega
  go_wp2_with fail
  refine (ag7 _ _ _ _ _ HO.out.sl hlen).mono ?_
  rintro r w4 ⟨DS,rfl,hds,hb4⟩
  rw [HC.out.2] at hds
  have HDS:=hide hds
  replace HT0:=hide (HT0.out.below hb4)
  replace HT:=hide (HT.out.trans (.of_below hb4))
  replace HS:=hide (HS.out.below hb4)
  clear hb4 hds
  obtain ⟨hfl,t0,t1,t2,t3,t4,t5,f0,f1,f2,f3,f4,f5⟩:=HT0.out.cells
  go_wp2
  refine bodyPost_ret (v:=_) (by simp [results,Tryz.results73,go_sem,t0,t1,t2,t3,t4,t5];try rfl) rfl ⟨j,hij,HDJ.out,?_,?_,_,DS,by rw [HTX.out];exact ⟨_,HC.out.1,HC.out.2,rfl⟩,by rw [HTX.out];exact HDS.out,.inr ⟨by omega,rfl⟩⟩
  ·exact H.out.of_tq (HT.out.setNew hf 0 _ |>.setNew hf 1 _ |>.setNew hf 2 _ |>.setNew hf 3 _ |>.setNew hf 4 _ |>.setNew hf 5 _) ((aba _ _ _ hqf _ _ _ _ _ _).trans HS.out.blk) HS.out.le
  ·exact HT.out.setNew hf 0 _ |>.setNew hf 1 _ |>.setNew hf 2 _ |>.setNew hf 3 _ |>.setNew hf 4 _ |>.setNew hf 5 _
end Lm
end Go.Proofs.YtdjgifcmhafppaaGreatDoor
namespace Go.Proofs.YtdjgifcmhafppaaGreatDoor
namespace Lm
open Go Go.RowKit
theorem ace {c:Int} (h:0≤c∧c<128):Utf8.encode c=strOfNums [c]:=by
 obtain ⟨n,rfl⟩:∃ n:Nat,c=n:=⟨c.toNat,by omega⟩
 unfold Utf8.encode
 have hv:Utf8.valid (n:Int)=true:=by simp [Utf8.valid];omega
 simp only [hv,if_true]
 rw [if_pos (by omega)]
 rfl
theorem Tq.six {w w' : World} {q f:Nat} (h:Tq w w' q) (hf:w.heap.size≤f) (u0 u1 u2 u3 u4 u5:Value):Tq w ((((((w'.setCell ⟨f,0,none⟩ u0).setCell ⟨f,1,none⟩ u1).setCell ⟨f,2,none⟩ u2).setCell ⟨f,3,none⟩ u3).setCell ⟨f,4,none⟩ u4).setCell ⟨f,5,none⟩ u5) q :=
 h.setNew hf 0 _ |>.setNew hf 1 _ |>.setNew hf 2 _ |>.setNew hf 3 _ |>.setNew hf 4 _ |>.setNew hf 5 _
set_option maxRecDepth 20000 in
set_option maxHeartbeats 1000000 in
theorem atp (w:World) (q:Nat) (s:ByteArray) (v:Value) (gs:List Gl) (i:Nat) (e:Pl) (h:Scn w q s v gs i e) (hn:gs.length≤100000) (g:Gl) (hg:gs[i]? = some g) (c:Int) (hc:gfold g.code=c) (h0:0≤c∧c<128) (h1:c≠58) (h2:c≠33) :
  Calls Tryz.prog 74 #[.pointer (some ⟨q,0,none⟩)] w fun r w'=>Scn w' q s v gs (i+1) e∧Tq w w' q∧r=.returned (.tuple #[.agg #[.int .i64 3,.string (strOfNums [c]),.int .i64 0,.int .i64 0,.int .i64 0,.int .i64 0],.int .i64 0]):=by
 have H:=hide h
 have hi:i<gs.length:=(List.getElem?_eq_some_iff.1 hg).1
 have hil:(i:Int)<100000:=by omega
 obtain ⟨ao,cap,rfl⟩:=h.gls.isSlice
 obtain ⟨b,off,rfl,hG⟩:=h.gls.glyph hg
 obtain ⟨hq,k0,k1,k2,k3,k4,k5,k6⟩:=h.cells
 obtain ⟨hb,g0,g1,g2,g3,g4,g5⟩:=hG
 have hfr:=h.free 2
 have hi' : (i:Int)<(gs.length:Int):=by omega
 have KF:∀ w,Calls Tryz.prog 96 #[.int .i64 g.code] w fun e w'=>e=.returned (.int .i64 c)∧w' = w:=fun w=>by rw [←hc];exact abw w _
 have n8788:(c == 8788)=false:=beq_eq_false_iff_ne.2 (by omega)
 have n8800:(c == 8800)=false:=beq_eq_false_iff_ne.2 (by omega)
 have n58:(c == 58)=false:=beq_eq_false_iff_ne.2 (by omega)
 have n33:(c == 33)=false:=beq_eq_false_iff_ne.2 (by omega)
 clear h hg hc k0 k3 k4 k5 k6 g1 g2 g3 g4 g5
 go_enter Tryz.func74,Tryz.ntmps74
 go_wp2_with fail
 go_quiet ((go_at_call 96;exact Calls.quiet_of_same (KF _)))
 go_wp2
 refine bodyPost_ret (v:=_) (by simp [results,Tryz.results74,go_sem];try rfl) rfl ⟨?_,?_,?_⟩
 ·refine H.out.of_tq (Tq.six ((Tq.of_below (by (repeat' first|with_reducible(first|exact Below.refl _ _|assumption|refine gdrewN ?_ _|refine Below.alloc ?_ ?_ _|refine Below.drew ?_|refine Below.setCell ?_ ?_ _)|go_size))).set 2 _) (Nat.le_refl _) _ _ _ _ _ _) ((aba _ _ _ (by omega) _ _ _ _ _ _).trans ?_) (by omega)
  rw [heap_setCell_same _ q 2 _ _ _ ((Below.block (B:=w.heap.size) (by (repeat' first|with_reducible(first|exact Below.refl _ _|assumption|refine gdrewN ?_ _|refine Below.alloc ?_ ?_ _|refine Below.drew ?_|refine Below.setCell ?_ ?_ _)|go_size)) q hq).trans H.out.blk)]
  simp
 ·exact Tq.six ((Tq.of_below (by (repeat' first|with_reducible(first|exact Below.refl _ _|assumption|refine gdrewN ?_ _|refine Below.alloc ?_ ?_ _|refine Below.drew ?_|refine Below.setCell ?_ ?_ _)|go_size))).set 2 _) (Nat.le_refl _) _ _ _ _ _ _
 ·simp [ace h0]
set_option maxRecDepth 20000 in
set_option maxHeartbeats 1000000 in
theorem ak1 (w:World) (q:Nat) (s:ByteArray) (v:Value) (gs:List Gl) (i:Nat) (e:Pl) (h:Scn w q s v gs i e) (hn:gs.length≤100000) (g:Gl) (hg:gs[i]? = some g) (c:Int) (hc:gfold g.code=c) (h0:c=8788) :
  Calls Tryz.prog 74 #[.pointer (some ⟨q,0,none⟩)] w fun r w'=>Scn w' q s v gs (i+1) e∧Tq w w' q∧r=.returned (.tuple #[.agg #[.int .i64 3,.string (strOfNums [58,61]),.int .i64 0,.int .i64 0,.int .i64 0,.int .i64 0],.int .i64 0]):=by
 have H:=hide h
 have hi:i<gs.length:=(List.getElem?_eq_some_iff.1 hg).1
 have hil:(i:Int)<100000:=by omega
 obtain ⟨ao,cap,rfl⟩:=h.gls.isSlice
 obtain ⟨b,off,rfl,hG⟩:=h.gls.glyph hg
 obtain ⟨hq,k0,k1,k2,k3,k4,k5,k6⟩:=h.cells
 obtain ⟨hb,g0,g1,g2,g3,g4,g5⟩:=hG
 have hfr:=h.free 2
 have hi' : (i:Int)<(gs.length:Int):=by omega
 have KF:∀ w,Calls Tryz.prog 96 #[.int .i64 g.code] w fun e w'=>e=.returned (.int .i64 c)∧w' = w:=fun w=>by rw [←hc];exact abw w _
 subst h0
 clear h hg hc k0 k3 k4 k5 k6 g1 g2 g3 g4 g5
 go_enter Tryz.func74,Tryz.ntmps74
 go_wp2_with fail
 go_quiet ((go_at_call 96;exact Calls.quiet_of_same (KF _)))
 go_wp2
 refine bodyPost_ret (v:=_) (by simp [results,Tryz.results74,go_sem];try rfl) rfl ⟨?_,?_,?_⟩
 ·refine H.out.of_tq (Tq.six ((Tq.of_below (by (repeat' first|with_reducible(first|exact Below.refl _ _|assumption|refine gdrewN ?_ _|refine Below.alloc ?_ ?_ _|refine Below.drew ?_|refine Below.setCell ?_ ?_ _)|go_size))).set 2 _) (Nat.le_refl _) _ _ _ _ _ _) ((aba _ _ _ (by omega) _ _ _ _ _ _).trans ?_) (by omega)
  rw [heap_setCell_same _ q 2 _ _ _ ((Below.block (B:=w.heap.size) (by (repeat' first|with_reducible(first|exact Below.refl _ _|assumption|refine gdrewN ?_ _|refine Below.alloc ?_ ?_ _|refine Below.drew ?_|refine Below.setCell ?_ ?_ _)|go_size)) q hq).trans H.out.blk)]
  simp
 ·exact Tq.six ((Tq.of_below (by (repeat' first|with_reducible(first|exact Below.refl _ _|assumption|refine gdrewN ?_ _|refine Below.alloc ?_ ?_ _|refine Below.drew ?_|refine Below.setCell ?_ ?_ _)|go_size))).set 2 _) (Nat.le_refl _) _ _ _ _ _ _
 ·rfl
set_option maxRecDepth 20000 in
set_option maxHeartbeats 1000000 in
theorem al5 (w:World) (q:Nat) (s:ByteArray) (v:Value) (gs:List Gl) (i:Nat) (e:Pl) (h:Scn w q s v gs i e) (hn:gs.length≤100000) (g:Gl) (hg:gs[i]? = some g) (c:Int) (hc:gfold g.code=c) (h0:c=8800) :
  Calls Tryz.prog 74 #[.pointer (some ⟨q,0,none⟩)] w fun r w'=>Scn w' q s v gs (i+1) e∧Tq w w' q∧r=.returned (.tuple #[.agg #[.int .i64 3,.string (strOfNums [33,61]),.int .i64 0,.int .i64 0,.int .i64 0,.int .i64 0],.int .i64 0]):=by
 have H:=hide h
 have hi:i<gs.length:=(List.getElem?_eq_some_iff.1 hg).1
 have hil:(i:Int)<100000:=by omega
 obtain ⟨ao,cap,rfl⟩:=h.gls.isSlice
 obtain ⟨b,off,rfl,hG⟩:=h.gls.glyph hg
 obtain ⟨hq,k0,k1,k2,k3,k4,k5,k6⟩:=h.cells
 obtain ⟨hb,g0,g1,g2,g3,g4,g5⟩:=hG
 have hfr:=h.free 2
 have hi' : (i:Int)<(gs.length:Int):=by omega
 have KF:∀ w,Calls Tryz.prog 96 #[.int .i64 g.code] w fun e w'=>e=.returned (.int .i64 c)∧w' = w:=fun w=>by rw [←hc];exact abw w _
 subst h0
 clear h hg hc k0 k3 k4 k5 k6 g1 g2 g3 g4 g5
 go_enter Tryz.func74,Tryz.ntmps74
 go_wp2_with fail
 go_quiet ((go_at_call 96;exact Calls.quiet_of_same (KF _)))
 go_wp2
 refine bodyPost_ret (v:=_) (by simp [results,Tryz.results74,go_sem];try rfl) rfl ⟨?_,?_,?_⟩
 ·refine H.out.of_tq (Tq.six ((Tq.of_below (by (repeat' first|with_reducible(first|exact Below.refl _ _|assumption|refine gdrewN ?_ _|refine Below.alloc ?_ ?_ _|refine Below.drew ?_|refine Below.setCell ?_ ?_ _)|go_size))).set 2 _) (Nat.le_refl _) _ _ _ _ _ _) ((aba _ _ _ (by omega) _ _ _ _ _ _).trans ?_) (by omega)
  rw [heap_setCell_same _ q 2 _ _ _ ((Below.block (B:=w.heap.size) (by (repeat' first|with_reducible(first|exact Below.refl _ _|assumption|refine gdrewN ?_ _|refine Below.alloc ?_ ?_ _|refine Below.drew ?_|refine Below.setCell ?_ ?_ _)|go_size)) q hq).trans H.out.blk)]
  simp
 ·exact Tq.six ((Tq.of_below (by (repeat' first|with_reducible(first|exact Below.refl _ _|assumption|refine gdrewN ?_ _|refine Below.alloc ?_ ?_ _|refine Below.drew ?_|refine Below.setCell ?_ ?_ _)|go_size))).set 2 _) (Nat.le_refl _) _ _ _ _ _ _
 ·rfl
set_option maxRecDepth 20000 in
set_option maxHeartbeats 1000000 in
theorem aom (w:World) (q:Nat) (s:ByteArray) (v:Value) (gs:List Gl) (i:Nat) (e:Pl) (h:Scn w q s v gs i e) (hn:gs.length≤100000) (g:Gl) (hg:gs[i]? = some g) (c:Int) (hc:gfold g.code=c) (h0:c=58) (gn:Gl) (hg2:gs[i+1]? = some gn) (he2:gn.code=61) :
  Calls Tryz.prog 74 #[.pointer (some ⟨q,0,none⟩)] w fun r w'=>Scn w' q s v gs (i+2) e∧Tq w w' q∧r=.returned (.tuple #[.agg #[.int .i64 3,.string (strOfNums [58,61]),.int .i64 0,.int .i64 0,.int .i64 0,.int .i64 0],.int .i64 0]):=by
 have H:=hide h
 have hi:i<gs.length:=(List.getElem?_eq_some_iff.1 hg).1
 have hil:(i:Int)<100000:=by omega
 obtain ⟨ao,cap,rfl⟩:=h.gls.isSlice
 obtain ⟨b,off,rfl,hG⟩:=h.gls.glyph hg
 obtain ⟨hq,k0,k1,k2,k3,k4,k5,k6⟩:=h.cells
 obtain ⟨hb,g0,g1,g2,g3,g4,g5⟩:=hG
 have hfr:=h.free 2
 have hi' : (i:Int)<(gs.length:Int):=by omega
 have KF:∀ w,Calls Tryz.prog 96 #[.int .i64 g.code] w fun e w'=>e=.returned (.int .i64 c)∧w' = w:=fun w=>by rw [←hc];exact abw w _
 subst h0
 clear h hg hc k0 k3 k4 k5 k6 g1 g2 g3 g4 g5
 go_enter Tryz.func74,Tryz.ntmps74
 go_wp2_with fail
 go_quiet ((go_at_call 96;exact Calls.quiet_of_same (KF _)))
 go_wp2_with fail
 generalize hE:Utf8.encode 58=T
 have HE:=hide ((ace (c:=58) (by omega)).symm.trans hE)
 have hTs:T.size≤10:=by rw [←HE.out,strOfNums_size];simp
 have hadd:∀ w,(Op.stringOp .add T ⟨#[61]⟩).run Tryz.prog w=.ok (.string (T ++ ⟨#[61]⟩)) w:=fun w=>run_string_add_sum (P:=Tryz.prog) w T ⟨#[61]⟩ (by show T.size+1≤_;omega)
 generalize hU:T ++ (⟨#[61]⟩:ByteArray)=U at hadd
 have HU:=hide hU
 clear hU hTs
 clear hE
 have hbq:Below w.heap.size w ((w.alloc (.cells #[.int .i64 0,.string ⟨#[]⟩,.int .i64 0,.int .i64 0,.int .i64 0,.int .i64 0] 64)).drewN nq):=by (repeat' first|with_reducible(first|exact Below.refl _ _|assumption|refine gdrewN ?_ _|refine Below.alloc ?_ ?_ _|refine Below.drew ?_|refine Below.setCell ?_ ?_ _)|go_size)
 have HT1:=hide ((Tq.of_below (q:=q) hbq).set 2 (.int .i64 ((i:Int)+1)))
 have HS1:=hide ((H.out.below hbq).set (by omega))
 have HT0:Hid (Tk0B (((w.alloc (.cells #[.int .i64 0,.string ⟨#[]⟩,.int .i64 0,.int .i64 0,.int .i64 0,.int .i64 0] 64)).drewN nq).setCell ⟨q,2,none⟩ (.int .i64 ((i:Int)+1))) w.heap.size):=((heap_setCell_other _ ⟨q,2,none⟩ w.heap.size _ (by show w.heap.size≠q;omega)).trans (heap_alloc_new w _))
 clear hbq k1 k2 hfr g0 hb
 generalize ((w.alloc (.cells #[.int .i64 0,.string ⟨#[]⟩,.int .i64 0,.int .i64 0,.int .i64 0,.int .i64 0] 64)).drewN nq).setCell ⟨q,2,none⟩ (.int .i64 ((i:Int)+1))=w1 at HT1 HS1 HT0 ⊢
 obtain ⟨m,hm⟩:∃ m,m=i+1:=⟨_,rfl⟩
 rw [←hm] at HS1 hg2
 obtain ⟨b2,off2,e2,hG2⟩:=HS1.out.gls.glyph hg2
 obtain ⟨rfl,rfl⟩:b2=b∧off2=off:=by simpa [eq_comm] using e2
 obtain ⟨hq1,k0,k1,k2,k3,k4,k5,k6⟩:=HS1.out.cells
 obtain ⟨hb,g0,g1,g2,g3,g4,g5⟩:=hG2
 rw [he2] at g0
 have hfr:=HS1.out.free 2
 obtain ⟨hfl,t0,t1,t2,t3,t4,t5,f0,f1,f2,f3,f4,f5⟩:=HT0.out.cells
 have hi2:(m:Int)<(gs.length:Int):=by have:=(List.getElem?_eq_some_iff.1 hg2).1;omega
 have hne2:((m:Int) == (gs.length:Int))=false:=beq_eq_false_iff_ne.2 (by omega)
 have HM:=hide hm
 clear e2 k0 k3 k4 k5 k6 g1 g2 g3 g4 g5 hm
 go_wp2_with fail
 go_quiet (fail)
 clear k1 k2 g0 t0 t1 t2 t3 t4 t5 f0 f1 f2 f3 f4 f5 hfr hfl hb hq1
 have hbq:Below w1.heap.size w1 (w1.drewN nq):=by (repeat' first|with_reducible(first|exact Below.refl _ _|assumption|refine gdrewN ?_ _|refine Below.alloc ?_ ?_ _|refine Below.drew ?_|refine Below.setCell ?_ ?_ _)|go_size)
 replace HT1:=hide (HT1.out.trans (.of_below hbq))
 replace HS1:=hide (HS1.out.below hbq)
 replace HT0:=hide (HT0.out.below hbq)
 clear hbq
 generalize w1.drewN nq=w2 at HT1 HS1 HT0 ⊢
 generalize hf:w.heap.size=f at *
 replace hf:w.heap.size≤f:=by omega
 have hqf:q≠f:=by omega
 obtain ⟨hq1,k0,k1,k2,k3,k4,k5,k6⟩:=HS1.out.cells
 have hfr:=HS1.out.free 2
 clear k0 k1 k3 k4 k5 k6
 have hml:(m:Int)<100000:=by omega
 obtain ⟨hfl,t0,t1,t2,t3,t4,t5,f0,f1,f2,f3,f4,f5⟩:=HT0.out.cells
 clear hne2 hg2 he2 hi hil KF
 go_wp2
 refine bodyPost_ret (v:=_) (by simp [results,Tryz.results74,go_sem,t0,t1,t2,t3,t4,t5];try rfl) rfl ⟨?_,?_,?_⟩
 ·refine H.out.of_tq (Tq.six (HT1.out.set 2 _) hf _ _ _ _ _ _) ((aba _ _ _ hqf _ _ _ _ _ _).trans ?_) (by have:=HM.out;omega)
  rw [heap_setCell_same w2 q 2 _ _ _ HS1.out.blk]
  have:=HM.out
  simp
  omega
 ·exact Tq.six (HT1.out.set 2 _) hf _ _ _ _ _ _
 ·rw [←HU.out,←HE.out]
  rfl
set_option maxRecDepth 20000 in
set_option maxHeartbeats 1000000 in
theorem ahf (w:World) (q:Nat) (s:ByteArray) (v:Value) (gs:List Gl) (i:Nat) (e:Pl) (h:Scn w q s v gs i e) (hn:gs.length≤100000) (g:Gl) (hg:gs[i]? = some g) (c:Int) (hc:gfold g.code=c) (h0:c=58) (gn:Gl) (hg2:gs[i+1]? = some gn) (he2:gn.code≠61) :
  Calls Tryz.prog 74 #[.pointer (some ⟨q,0,none⟩)] w fun r w'=>Scn w' q s v gs (i+1) e∧Tq w w' q∧r=.returned (.tuple #[tok0,.int .i64 41]):=by
 have H:=hide h
 have hi:i<gs.length:=(List.getElem?_eq_some_iff.1 hg).1
 have hil:(i:Int)<100000:=by omega
 obtain ⟨ao,cap,rfl⟩:=h.gls.isSlice
 obtain ⟨b,off,rfl,hG⟩:=h.gls.glyph hg
 obtain ⟨hq,k0,k1,k2,k3,k4,k5,k6⟩:=h.cells
 obtain ⟨hb,g0,g1,g2,g3,g4,g5⟩:=hG
 have hfr:=h.free 2
 have hi' : (i:Int)<(gs.length:Int):=by omega
 have KF:∀ w,Calls Tryz.prog 96 #[.int .i64 g.code] w fun e w'=>e=.returned (.int .i64 c)∧w' = w:=fun w=>by rw [←hc];exact abw w _
 subst h0
 clear h hg hc k0 k3 k4 k5 k6 g1 g2 g3 g4 g5
 unfold tok0
 go_enter Tryz.func74,Tryz.ntmps74
 go_wp2_with fail
 go_quiet ((go_at_call 96;exact Calls.quiet_of_same (KF _)))
 go_wp2_with fail
 generalize hE:Utf8.encode 58=T
 have HE:=hide ((ace (c:=58) (by omega)).symm.trans hE)
 have hTs:T.size≤10:=by rw [←HE.out,strOfNums_size];simp
 have hadd:∀ w,(Op.stringOp .add T ⟨#[61]⟩).run Tryz.prog w=.ok (.string (T ++ ⟨#[61]⟩)) w:=fun w=>run_string_add_sum (P:=Tryz.prog) w T ⟨#[61]⟩ (by show T.size+1≤_;omega)
 generalize hU:T ++ (⟨#[61]⟩:ByteArray)=U at hadd
 have HU:=hide hU
 clear hU hTs
 clear hE
 have hbq:Below w.heap.size w ((w.alloc (.cells #[.int .i64 0,.string ⟨#[]⟩,.int .i64 0,.int .i64 0,.int .i64 0,.int .i64 0] 64)).drewN nq):=by (repeat' first|with_reducible(first|exact Below.refl _ _|assumption|refine gdrewN ?_ _|refine Below.alloc ?_ ?_ _|refine Below.drew ?_|refine Below.setCell ?_ ?_ _)|go_size)
 have HT1:=hide ((Tq.of_below (q:=q) hbq).set 2 (.int .i64 ((i:Int)+1)))
 have HS1:=hide ((H.out.below hbq).set (by omega))
 have HT0:Hid (Tk0B (((w.alloc (.cells #[.int .i64 0,.string ⟨#[]⟩,.int .i64 0,.int .i64 0,.int .i64 0,.int .i64 0] 64)).drewN nq).setCell ⟨q,2,none⟩ (.int .i64 ((i:Int)+1))) w.heap.size):=((heap_setCell_other _ ⟨q,2,none⟩ w.heap.size _ (by show w.heap.size≠q;omega)).trans (heap_alloc_new w _))
 clear hbq k1 k2 hfr g0 hb
 generalize ((w.alloc (.cells #[.int .i64 0,.string ⟨#[]⟩,.int .i64 0,.int .i64 0,.int .i64 0,.int .i64 0] 64)).drewN nq).setCell ⟨q,2,none⟩ (.int .i64 ((i:Int)+1))=w1 at HT1 HS1 HT0 ⊢
 obtain ⟨m,hm⟩:∃ m,m=i+1:=⟨_,rfl⟩
 rw [←hm] at HS1 hg2
 obtain ⟨b2,off2,e2,hG2⟩:=HS1.out.gls.glyph hg2
 obtain ⟨rfl,rfl⟩:b2=b∧off2=off:=by simpa [eq_comm] using e2
 obtain ⟨hq1,k0,k1,k2,k3,k4,k5,k6⟩:=HS1.out.cells
 obtain ⟨hb,g0,g1,g2,g3,g4,g5⟩:=hG2
 have hne61:((gn.code:Int) != 61)=true:=by simp;omega
 have hfr:=HS1.out.free 2
 obtain ⟨hfl,t0,t1,t2,t3,t4,t5,f0,f1,f2,f3,f4,f5⟩:=HT0.out.cells
 have hi2:(m:Int)<(gs.length:Int):=by have:=(List.getElem?_eq_some_iff.1 hg2).1;omega
 have hne2:((m:Int) == (gs.length:Int))=false:=beq_eq_false_iff_ne.2 (by omega)
 have HM:=hide hm
 clear e2 k0 k3 k4 k5 k6 g1 g2 g3 g4 g5 hm
 go_wp2_with fail
 go_quiet (fail)
 clear k1 k2 g0 t0 t1 t2 t3 t4 t5 f0 f1 f2 f3 f4 f5 hfr hfl hb hq1
 have hbq:Below w1.heap.size w1 (w1.drewN nq):=by (repeat' first|with_reducible(first|exact Below.refl _ _|assumption|refine gdrewN ?_ _|refine Below.alloc ?_ ?_ _|refine Below.drew ?_|refine Below.setCell ?_ ?_ _)|go_size)
 replace HT1:=hide (HT1.out.trans (.of_below hbq))
 replace HS1:=hide (HS1.out.below hbq)
 replace HT0:=hide (HT0.out.below hbq)
 clear hbq
 generalize w1.drewN nq=w2 at HT1 HS1 HT0 ⊢
 generalize hf:w.heap.size=f at *
 replace hf:w.heap.size≤f:=by omega
 have hqf:q≠f:=by omega
 obtain ⟨hq1,k0,k1,k2,k3,k4,k5,k6⟩:=HS1.out.cells
 have hfr:=HS1.out.free 2
 clear k0 k1 k3 k4 k5 k6
 have hml:(m:Int)<100000:=by omega
 obtain ⟨hfl,t0,t1,t2,t3,t4,t5,f0,f1,f2,f3,f4,f5⟩:=HT0.out.cells
 clear hne2 hg2 he2 hne61 hi hil KF
 go_wp2
 refine bodyPost_ret (v:=_) (by simp [results,Tryz.results74,go_sem,t0,t1,t2,t3,t4,t5];try rfl) rfl ⟨?_,?_,?_⟩
 ·refine H.out.of_tq (Tq.six HT1.out hf _ _ _ _ _ _) ((aba _ _ _ hqf _ _ _ _ _ _).trans ?_) (by have:=HM.out;omega)
  rw [HS1.out.blk,HM.out]
 ·exact Tq.six HT1.out hf _ _ _ _ _ _
 ·rfl
set_option maxRecDepth 20000 in
set_option maxHeartbeats 1000000 in
theorem ah5 (w:World) (q:Nat) (s:ByteArray) (v:Value) (gs:List Gl) (i:Nat) (e:Pl) (h:Scn w q s v gs i e) (hn:gs.length≤100000) (g:Gl) (hg:gs[i]? = some g) (c:Int) (hc:gfold g.code=c) (h0:c=58) (hg2:gs.length≤i+1) :
  Calls Tryz.prog 74 #[.pointer (some ⟨q,0,none⟩)] w fun r w'=>Scn w' q s v gs (i+1) e∧Tq w w' q∧r=.returned (.tuple #[tok0,.int .i64 41]):=by
 have H:=hide h
 have hi:i<gs.length:=(List.getElem?_eq_some_iff.1 hg).1
 have hil:(i:Int)<100000:=by omega
 obtain ⟨ao,cap,rfl⟩:=h.gls.isSlice
 obtain ⟨b,off,rfl,hG⟩:=h.gls.glyph hg
 obtain ⟨hq,k0,k1,k2,k3,k4,k5,k6⟩:=h.cells
 obtain ⟨hb,g0,g1,g2,g3,g4,g5⟩:=hG
 have hfr:=h.free 2
 have hi' : (i:Int)<(gs.length:Int):=by omega
 have KF:∀ w,Calls Tryz.prog 96 #[.int .i64 g.code] w fun e w'=>e=.returned (.int .i64 c)∧w' = w:=fun w=>by rw [←hc];exact abw w _
 subst h0
 clear h hg hc k0 k3 k4 k5 k6 g1 g2 g3 g4 g5
 unfold tok0
 go_enter Tryz.func74,Tryz.ntmps74
 go_wp2_with fail
 go_quiet ((go_at_call 96;exact Calls.quiet_of_same (KF _)))
 go_wp2_with fail
 generalize hE:Utf8.encode 58=T
 have HE:=hide ((ace (c:=58) (by omega)).symm.trans hE)
 have hTs:T.size≤10:=by rw [←HE.out,strOfNums_size];simp
 have hadd:∀ w,(Op.stringOp .add T ⟨#[61]⟩).run Tryz.prog w=.ok (.string (T ++ ⟨#[61]⟩)) w:=fun w=>run_string_add_sum (P:=Tryz.prog) w T ⟨#[61]⟩ (by show T.size+1≤_;omega)
 generalize hU:T ++ (⟨#[61]⟩:ByteArray)=U at hadd
 have HU:=hide hU
 clear hU hTs
 clear hE
 have hbq:Below w.heap.size w ((w.alloc (.cells #[.int .i64 0,.string ⟨#[]⟩,.int .i64 0,.int .i64 0,.int .i64 0,.int .i64 0] 64)).drewN nq):=by (repeat' first|with_reducible(first|exact Below.refl _ _|assumption|refine gdrewN ?_ _|refine Below.alloc ?_ ?_ _|refine Below.drew ?_|refine Below.setCell ?_ ?_ _)|go_size)
 have HT1:=hide ((Tq.of_below (q:=q) hbq).set 2 (.int .i64 ((i:Int)+1)))
 have HS1:=hide ((H.out.below hbq).set (by omega))
 have HT0:Hid (Tk0B (((w.alloc (.cells #[.int .i64 0,.string ⟨#[]⟩,.int .i64 0,.int .i64 0,.int .i64 0,.int .i64 0] 64)).drewN nq).setCell ⟨q,2,none⟩ (.int .i64 ((i:Int)+1))) w.heap.size):=((heap_setCell_other _ ⟨q,2,none⟩ w.heap.size _ (by show w.heap.size≠q;omega)).trans (heap_alloc_new w _))
 clear hbq k1 k2 hfr g0 hb
 generalize ((w.alloc (.cells #[.int .i64 0,.string ⟨#[]⟩,.int .i64 0,.int .i64 0,.int .i64 0,.int .i64 0] 64)).drewN nq).setCell ⟨q,2,none⟩ (.int .i64 ((i:Int)+1))=w1 at HT1 HS1 HT0 ⊢
 obtain ⟨m,hm⟩:∃ m,m=i+1:=⟨_,rfl⟩
 rw [←hm] at HS1
 obtain ⟨hq1,k0,k1,k2,k3,k4,k5,k6⟩:=HS1.out.cells
 obtain ⟨hfl,t0,t1,t2,t3,t4,t5,f0,f1,f2,f3,f4,f5⟩:=HT0.out.cells
 have hne2:((m:Int) == (gs.length:Int))=true:=by simp;omega
 have HM:=hide hm
 clear k0 k3 k4 k5 k6 hm
 go_wp2_with fail
 go_quiet (fail)
 clear k1 k2 t0 t1 t2 t3 t4 t5 f0 f1 f2 f3 f4 f5 hfl hq1
 have hbq:Below w1.heap.size w1 (w1.drewN nq):=by (repeat' first|with_reducible(first|exact Below.refl _ _|assumption|refine gdrewN ?_ _|refine Below.alloc ?_ ?_ _|refine Below.drew ?_|refine Below.setCell ?_ ?_ _)|go_size)
 replace HT1:=hide (HT1.out.trans (.of_below hbq))
 replace HS1:=hide (HS1.out.below hbq)
 replace HT0:=hide (HT0.out.below hbq)
 clear hbq
 generalize w1.drewN nq=w2 at HT1 HS1 HT0 ⊢
 generalize hf:w.heap.size=f at *
 replace hf:w.heap.size≤f:=by omega
 have hqf:q≠f:=by omega
 obtain ⟨hq1,k0,k1,k2,k3,k4,k5,k6⟩:=HS1.out.cells
 have hfr:=HS1.out.free 2
 clear k0 k1 k3 k4 k5 k6
 have hml:(m:Int)<100001:=by have:=HM.out;omega
 obtain ⟨hfl,t0,t1,t2,t3,t4,t5,f0,f1,f2,f3,f4,f5⟩:=HT0.out.cells
 clear hne2 hi hil KF
 go_wp2
 refine bodyPost_ret (v:=_) (by simp [results,Tryz.results74,go_sem,t0,t1,t2,t3,t4,t5];try rfl) rfl ⟨?_,?_,?_⟩
 ·refine H.out.of_tq (Tq.six HT1.out hf _ _ _ _ _ _) ((aba _ _ _ hqf _ _ _ _ _ _).trans ?_) (by have:=HM.out;omega)
  rw [HS1.out.blk,HM.out]
 ·exact Tq.six HT1.out hf _ _ _ _ _ _
 ·rfl
set_option maxRecDepth 20000 in
set_option maxHeartbeats 1000000 in
theorem aq4 (w:World) (q:Nat) (s:ByteArray) (v:Value) (gs:List Gl) (i:Nat) (e:Pl) (h:Scn w q s v gs i e) (hn:gs.length≤100000) (g:Gl) (hg:gs[i]? = some g) (c:Int) (hc:gfold g.code=c) (h0:c=33) (gn:Gl) (hg2:gs[i+1]? = some gn) (he2:gn.code=61) :
  Calls Tryz.prog 74 #[.pointer (some ⟨q,0,none⟩)] w fun r w'=>Scn w' q s v gs (i+2) e∧Tq w w' q∧r=.returned (.tuple #[.agg #[.int .i64 3,.string (strOfNums [33,61]),.int .i64 0,.int .i64 0,.int .i64 0,.int .i64 0],.int .i64 0]):=by
 have H:=hide h
 have hi:i<gs.length:=(List.getElem?_eq_some_iff.1 hg).1
 have hil:(i:Int)<100000:=by omega
 obtain ⟨ao,cap,rfl⟩:=h.gls.isSlice
 obtain ⟨b,off,rfl,hG⟩:=h.gls.glyph hg
 obtain ⟨hq,k0,k1,k2,k3,k4,k5,k6⟩:=h.cells
 obtain ⟨hb,g0,g1,g2,g3,g4,g5⟩:=hG
 have hfr:=h.free 2
 have hi' : (i:Int)<(gs.length:Int):=by omega
 have KF:∀ w,Calls Tryz.prog 96 #[.int .i64 g.code] w fun e w'=>e=.returned (.int .i64 c)∧w' = w:=fun w=>by rw [←hc];exact abw w _
 subst h0
 clear h hg hc k0 k3 k4 k5 k6 g1 g2 g3 g4 g5
 go_enter Tryz.func74,Tryz.ntmps74
 go_wp2_with fail
 go_quiet ((go_at_call 96;exact Calls.quiet_of_same (KF _)))
 go_wp2_with fail
 generalize hE:Utf8.encode 33=T
 have HE:=hide ((ace (c:=33) (by omega)).symm.trans hE)
 have hTs:T.size≤10:=by rw [←HE.out,strOfNums_size];simp
 have hadd:∀ w,(Op.stringOp .add T ⟨#[61]⟩).run Tryz.prog w=.ok (.string (T ++ ⟨#[61]⟩)) w:=fun w=>run_string_add_sum (P:=Tryz.prog) w T ⟨#[61]⟩ (by show T.size+1≤_;omega)
 generalize hU:T ++ (⟨#[61]⟩:ByteArray)=U at hadd
 have HU:=hide hU
 clear hU hTs
 clear hE
 have hbq:Below w.heap.size w ((w.alloc (.cells #[.int .i64 0,.string ⟨#[]⟩,.int .i64 0,.int .i64 0,.int .i64 0,.int .i64 0] 64)).drewN nq):=by (repeat' first|with_reducible(first|exact Below.refl _ _|assumption|refine gdrewN ?_ _|refine Below.alloc ?_ ?_ _|refine Below.drew ?_|refine Below.setCell ?_ ?_ _)|go_size)
 have HT1:=hide ((Tq.of_below (q:=q) hbq).set 2 (.int .i64 ((i:Int)+1)))
 have HS1:=hide ((H.out.below hbq).set (by omega))
 have HT0:Hid (Tk0B (((w.alloc (.cells #[.int .i64 0,.string ⟨#[]⟩,.int .i64 0,.int .i64 0,.int .i64 0,.int .i64 0] 64)).drewN nq).setCell ⟨q,2,none⟩ (.int .i64 ((i:Int)+1))) w.heap.size):=((heap_setCell_other _ ⟨q,2,none⟩ w.heap.size _ (by show w.heap.size≠q;omega)).trans (heap_alloc_new w _))
 clear hbq k1 k2 hfr g0 hb
 generalize ((w.alloc (.cells #[.int .i64 0,.string ⟨#[]⟩,.int .i64 0,.int .i64 0,.int .i64 0,.int .i64 0] 64)).drewN nq).setCell ⟨q,2,none⟩ (.int .i64 ((i:Int)+1))=w1 at HT1 HS1 HT0 ⊢
 obtain ⟨m,hm⟩:∃ m,m=i+1:=⟨_,rfl⟩
 rw [←hm] at HS1 hg2
 obtain ⟨b2,off2,e2,hG2⟩:=HS1.out.gls.glyph hg2
 obtain ⟨rfl,rfl⟩:b2=b∧off2=off:=by simpa [eq_comm] using e2
 obtain ⟨hq1,k0,k1,k2,k3,k4,k5,k6⟩:=HS1.out.cells
 obtain ⟨hb,g0,g1,g2,g3,g4,g5⟩:=hG2
 rw [he2] at g0
 have hfr:=HS1.out.free 2
 obtain ⟨hfl,t0,t1,t2,t3,t4,t5,f0,f1,f2,f3,f4,f5⟩:=HT0.out.cells
 have hi2:(m:Int)<(gs.length:Int):=by have:=(List.getElem?_eq_some_iff.1 hg2).1;omega
 have hne2:((m:Int) == (gs.length:Int))=false:=beq_eq_false_iff_ne.2 (by omega)
 have HM:=hide hm
 clear e2 k0 k3 k4 k5 k6 g1 g2 g3 g4 g5 hm
 go_wp2_with fail
 go_quiet (fail)
 clear k1 k2 g0 t0 t1 t2 t3 t4 t5 f0 f1 f2 f3 f4 f5 hfr hfl hb hq1
 have hbq:Below w1.heap.size w1 (w1.drewN nq):=by (repeat' first|with_reducible(first|exact Below.refl _ _|assumption|refine gdrewN ?_ _|refine Below.alloc ?_ ?_ _|refine Below.drew ?_|refine Below.setCell ?_ ?_ _)|go_size)
 replace HT1:=hide (HT1.out.trans (.of_below hbq))
 replace HS1:=hide (HS1.out.below hbq)
 replace HT0:=hide (HT0.out.below hbq)
 clear hbq
 generalize w1.drewN nq=w2 at HT1 HS1 HT0 ⊢
 generalize hf:w.heap.size=f at *
 replace hf:w.heap.size≤f:=by omega
 have hqf:q≠f:=by omega
 obtain ⟨hq1,k0,k1,k2,k3,k4,k5,k6⟩:=HS1.out.cells
 have hfr:=HS1.out.free 2
 clear k0 k1 k3 k4 k5 k6
 have hml:(m:Int)<100000:=by omega
 obtain ⟨hfl,t0,t1,t2,t3,t4,t5,f0,f1,f2,f3,f4,f5⟩:=HT0.out.cells
 clear hne2 hg2 he2 hi hil KF
 go_wp2
 refine bodyPost_ret (v:=_) (by simp [results,Tryz.results74,go_sem,t0,t1,t2,t3,t4,t5];try rfl) rfl ⟨?_,?_,?_⟩
 ·refine H.out.of_tq (Tq.six (HT1.out.set 2 _) hf _ _ _ _ _ _) ((aba _ _ _ hqf _ _ _ _ _ _).trans ?_) (by have:=HM.out;omega)
  rw [heap_setCell_same w2 q 2 _ _ _ HS1.out.blk]
  have:=HM.out
  simp
  omega
 ·exact Tq.six (HT1.out.set 2 _) hf _ _ _ _ _ _
 ·rw [←HU.out,←HE.out]
  rfl
set_option maxRecDepth 20000 in
set_option maxHeartbeats 1000000 in
theorem ah6 (w:World) (q:Nat) (s:ByteArray) (v:Value) (gs:List Gl) (i:Nat) (e:Pl) (h:Scn w q s v gs i e) (hn:gs.length≤100000) (g:Gl) (hg:gs[i]? = some g) (c:Int) (hc:gfold g.code=c) (h0:c=33) (gn:Gl) (hg2:gs[i+1]? = some gn) (he2:gn.code≠61) :
  Calls Tryz.prog 74 #[.pointer (some ⟨q,0,none⟩)] w fun r w'=>Scn w' q s v gs (i+1) e∧Tq w w' q∧r=.returned (.tuple #[tok0,.int .i64 41]):=by
 have H:=hide h
 have hi:i<gs.length:=(List.getElem?_eq_some_iff.1 hg).1
 have hil:(i:Int)<100000:=by omega
 obtain ⟨ao,cap,rfl⟩:=h.gls.isSlice
 obtain ⟨b,off,rfl,hG⟩:=h.gls.glyph hg
 obtain ⟨hq,k0,k1,k2,k3,k4,k5,k6⟩:=h.cells
 obtain ⟨hb,g0,g1,g2,g3,g4,g5⟩:=hG
 have hfr:=h.free 2
 have hi' : (i:Int)<(gs.length:Int):=by omega
 have KF:∀ w,Calls Tryz.prog 96 #[.int .i64 g.code] w fun e w'=>e=.returned (.int .i64 c)∧w' = w:=fun w=>by rw [←hc];exact abw w _
 subst h0
 clear h hg hc k0 k3 k4 k5 k6 g1 g2 g3 g4 g5
 unfold tok0
 go_enter Tryz.func74,Tryz.ntmps74
 go_wp2_with fail
 go_quiet ((go_at_call 96;exact Calls.quiet_of_same (KF _)))
 go_wp2_with fail
 generalize hE:Utf8.encode 33=T
 have HE:=hide ((ace (c:=33) (by omega)).symm.trans hE)
 have hTs:T.size≤10:=by rw [←HE.out,strOfNums_size];simp
 have hadd:∀ w,(Op.stringOp .add T ⟨#[61]⟩).run Tryz.prog w=.ok (.string (T ++ ⟨#[61]⟩)) w:=fun w=>run_string_add_sum (P:=Tryz.prog) w T ⟨#[61]⟩ (by show T.size+1≤_;omega)
 generalize hU:T ++ (⟨#[61]⟩:ByteArray)=U at hadd
 have HU:=hide hU
 clear hU hTs
 clear hE
 have hbq:Below w.heap.size w ((w.alloc (.cells #[.int .i64 0,.string ⟨#[]⟩,.int .i64 0,.int .i64 0,.int .i64 0,.int .i64 0] 64)).drewN nq):=by (repeat' first|with_reducible(first|exact Below.refl _ _|assumption|refine gdrewN ?_ _|refine Below.alloc ?_ ?_ _|refine Below.drew ?_|refine Below.setCell ?_ ?_ _)|go_size)
 have HT1:=hide ((Tq.of_below (q:=q) hbq).set 2 (.int .i64 ((i:Int)+1)))
 have HS1:=hide ((H.out.below hbq).set (by omega))
 have HT0:Hid (Tk0B (((w.alloc (.cells #[.int .i64 0,.string ⟨#[]⟩,.int .i64 0,.int .i64 0,.int .i64 0,.int .i64 0] 64)).drewN nq).setCell ⟨q,2,none⟩ (.int .i64 ((i:Int)+1))) w.heap.size):=((heap_setCell_other _ ⟨q,2,none⟩ w.heap.size _ (by show w.heap.size≠q;omega)).trans (heap_alloc_new w _))
 clear hbq k1 k2 hfr g0 hb
 generalize ((w.alloc (.cells #[.int .i64 0,.string ⟨#[]⟩,.int .i64 0,.int .i64 0,.int .i64 0,.int .i64 0] 64)).drewN nq).setCell ⟨q,2,none⟩ (.int .i64 ((i:Int)+1))=w1 at HT1 HS1 HT0 ⊢
 obtain ⟨m,hm⟩:∃ m,m=i+1:=⟨_,rfl⟩
 rw [←hm] at HS1 hg2
 obtain ⟨b2,off2,e2,hG2⟩:=HS1.out.gls.glyph hg2
 obtain ⟨rfl,rfl⟩:b2=b∧off2=off:=by simpa [eq_comm] using e2
 obtain ⟨hq1,k0,k1,k2,k3,k4,k5,k6⟩:=HS1.out.cells
 obtain ⟨hb,g0,g1,g2,g3,g4,g5⟩:=hG2
 have hne61:((gn.code:Int) != 61)=true:=by simp;omega
 have hfr:=HS1.out.free 2
 obtain ⟨hfl,t0,t1,t2,t3,t4,t5,f0,f1,f2,f3,f4,f5⟩:=HT0.out.cells
 have hi2:(m:Int)<(gs.length:Int):=by have:=(List.getElem?_eq_some_iff.1 hg2).1;omega
 have hne2:((m:Int) == (gs.length:Int))=false:=beq_eq_false_iff_ne.2 (by omega)
 have HM:=hide hm
 clear e2 k0 k3 k4 k5 k6 g1 g2 g3 g4 g5 hm
 go_wp2_with fail
 go_quiet (fail)
 clear k1 k2 g0 t0 t1 t2 t3 t4 t5 f0 f1 f2 f3 f4 f5 hfr hfl hb hq1
 have hbq:Below w1.heap.size w1 (w1.drewN nq):=by (repeat' first|with_reducible(first|exact Below.refl _ _|assumption|refine gdrewN ?_ _|refine Below.alloc ?_ ?_ _|refine Below.drew ?_|refine Below.setCell ?_ ?_ _)|go_size)
 replace HT1:=hide (HT1.out.trans (.of_below hbq))
 replace HS1:=hide (HS1.out.below hbq)
 replace HT0:=hide (HT0.out.below hbq)
 clear hbq
 generalize w1.drewN nq=w2 at HT1 HS1 HT0 ⊢
 generalize hf:w.heap.size=f at *
 replace hf:w.heap.size≤f:=by omega
 have hqf:q≠f:=by omega
 obtain ⟨hq1,k0,k1,k2,k3,k4,k5,k6⟩:=HS1.out.cells
 have hfr:=HS1.out.free 2
 clear k0 k1 k3 k4 k5 k6
 have hml:(m:Int)<100000:=by omega
 obtain ⟨hfl,t0,t1,t2,t3,t4,t5,f0,f1,f2,f3,f4,f5⟩:=HT0.out.cells
 clear hne2 hg2 he2 hne61 hi hil KF
 go_wp2
 refine bodyPost_ret (v:=_) (by simp [results,Tryz.results74,go_sem,t0,t1,t2,t3,t4,t5];try rfl) rfl ⟨?_,?_,?_⟩
 ·refine H.out.of_tq (Tq.six HT1.out hf _ _ _ _ _ _) ((aba _ _ _ hqf _ _ _ _ _ _).trans ?_) (by have:=HM.out;omega)
  rw [HS1.out.blk,HM.out]
 ·exact Tq.six HT1.out hf _ _ _ _ _ _
 ·rfl
set_option maxRecDepth 20000 in
set_option maxHeartbeats 1000000 in
theorem ait (w:World) (q:Nat) (s:ByteArray) (v:Value) (gs:List Gl) (i:Nat) (e:Pl) (h:Scn w q s v gs i e) (hn:gs.length≤100000) (g:Gl) (hg:gs[i]? = some g) (c:Int) (hc:gfold g.code=c) (h0:c=33) (hg2:gs.length≤i+1) :
  Calls Tryz.prog 74 #[.pointer (some ⟨q,0,none⟩)] w fun r w'=>Scn w' q s v gs (i+1) e∧Tq w w' q∧r=.returned (.tuple #[tok0,.int .i64 41]):=by
 have H:=hide h
 have hi:i<gs.length:=(List.getElem?_eq_some_iff.1 hg).1
 have hil:(i:Int)<100000:=by omega
 obtain ⟨ao,cap,rfl⟩:=h.gls.isSlice
 obtain ⟨b,off,rfl,hG⟩:=h.gls.glyph hg
 obtain ⟨hq,k0,k1,k2,k3,k4,k5,k6⟩:=h.cells
 obtain ⟨hb,g0,g1,g2,g3,g4,g5⟩:=hG
 have hfr:=h.free 2
 have hi' : (i:Int)<(gs.length:Int):=by omega
 have KF:∀ w,Calls Tryz.prog 96 #[.int .i64 g.code] w fun e w'=>e=.returned (.int .i64 c)∧w' = w:=fun w=>by rw [←hc];exact abw w _
 subst h0
 clear h hg hc k0 k3 k4 k5 k6 g1 g2 g3 g4 g5
 unfold tok0
 go_enter Tryz.func74,Tryz.ntmps74
 go_wp2_with fail
 go_quiet ((go_at_call 96;exact Calls.quiet_of_same (KF _)))
 go_wp2_with fail
 generalize hE:Utf8.encode 33=T
 have HE:=hide ((ace (c:=33) (by omega)).symm.trans hE)
 have hTs:T.size≤10:=by rw [←HE.out,strOfNums_size];simp
 have hadd:∀ w,(Op.stringOp .add T ⟨#[61]⟩).run Tryz.prog w=.ok (.string (T ++ ⟨#[61]⟩)) w:=fun w=>run_string_add_sum (P:=Tryz.prog) w T ⟨#[61]⟩ (by show T.size+1≤_;omega)
 generalize hU:T ++ (⟨#[61]⟩:ByteArray)=U at hadd
 have HU:=hide hU
 clear hU hTs
 clear hE
 have hbq:Below w.heap.size w ((w.alloc (.cells #[.int .i64 0,.string ⟨#[]⟩,.int .i64 0,.int .i64 0,.int .i64 0,.int .i64 0] 64)).drewN nq):=by (repeat' first|with_reducible(first|exact Below.refl _ _|assumption|refine gdrewN ?_ _|refine Below.alloc ?_ ?_ _|refine Below.drew ?_|refine Below.setCell ?_ ?_ _)|go_size)
 have HT1:=hide ((Tq.of_below (q:=q) hbq).set 2 (.int .i64 ((i:Int)+1)))
 have HS1:=hide ((H.out.below hbq).set (by omega))
 have HT0:Hid (Tk0B (((w.alloc (.cells #[.int .i64 0,.string ⟨#[]⟩,.int .i64 0,.int .i64 0,.int .i64 0,.int .i64 0] 64)).drewN nq).setCell ⟨q,2,none⟩ (.int .i64 ((i:Int)+1))) w.heap.size):=((heap_setCell_other _ ⟨q,2,none⟩ w.heap.size _ (by show w.heap.size≠q;omega)).trans (heap_alloc_new w _))
 clear hbq k1 k2 hfr g0 hb
 generalize ((w.alloc (.cells #[.int .i64 0,.string ⟨#[]⟩,.int .i64 0,.int .i64 0,.int .i64 0,.int .i64 0] 64)).drewN nq).setCell ⟨q,2,none⟩ (.int .i64 ((i:Int)+1))=w1 at HT1 HS1 HT0 ⊢
 obtain ⟨m,hm⟩:∃ m,m=i+1:=⟨_,rfl⟩
 rw [←hm] at HS1
 obtain ⟨hq1,k0,k1,k2,k3,k4,k5,k6⟩:=HS1.out.cells
 obtain ⟨hfl,t0,t1,t2,t3,t4,t5,f0,f1,f2,f3,f4,f5⟩:=HT0.out.cells
 have hne2:((m:Int) == (gs.length:Int))=true:=by simp;omega
 have HM:=hide hm
 clear k0 k3 k4 k5 k6 hm
 go_wp2_with fail
 go_quiet (fail)
 clear k1 k2 t0 t1 t2 t3 t4 t5 f0 f1 f2 f3 f4 f5 hfl hq1
 have hbq:Below w1.heap.size w1 (w1.drewN nq):=by (repeat' first|with_reducible(first|exact Below.refl _ _|assumption|refine gdrewN ?_ _|refine Below.alloc ?_ ?_ _|refine Below.drew ?_|refine Below.setCell ?_ ?_ _)|go_size)
 replace HT1:=hide (HT1.out.trans (.of_below hbq))
 replace HS1:=hide (HS1.out.below hbq)
 replace HT0:=hide (HT0.out.below hbq)
 clear hbq
 generalize w1.drewN nq=w2 at HT1 HS1 HT0 ⊢
 generalize hf:w.heap.size=f at *
 replace hf:w.heap.size≤f:=by omega
 have hqf:q≠f:=by omega
 obtain ⟨hq1,k0,k1,k2,k3,k4,k5,k6⟩:=HS1.out.cells
 have hfr:=HS1.out.free 2
 clear k0 k1 k3 k4 k5 k6
 have hml:(m:Int)<100001:=by have:=HM.out;omega
 obtain ⟨hfl,t0,t1,t2,t3,t4,t5,f0,f1,f2,f3,f4,f5⟩:=HT0.out.cells
 clear hne2 hi hil KF
 go_wp2
 refine bodyPost_ret (v:=_) (by simp [results,Tryz.results74,go_sem,t0,t1,t2,t3,t4,t5];try rfl) rfl ⟨?_,?_,?_⟩
 ·refine H.out.of_tq (Tq.six HT1.out hf _ _ _ _ _ _) ((aba _ _ _ hqf _ _ _ _ _ _).trans ?_) (by have:=HM.out;omega)
  rw [HS1.out.blk,HM.out]
 ·exact Tq.six HT1.out hf _ _ _ _ _ _
 ·rfl
inductive TO where
 | bad (k:Int):TO
 | ok (kind:Int) (text:ByteArray) (rest:List Gl):TO
def signS (c:Int) (r:List Gl):TO :=
 if c=8788 then .ok 3 (strOfNums [58,61]) r
 else if c=8800 then .ok 3 (strOfNums [33,61]) r
 else if c=58∨c=33 then (match r with | []=>.bad 41 | h :: t=>if h.code=61 then .ok 3 (strOfNums [c,61]) t else .bad 41)
 else .ok 3 (strOfNums [c]) r
def TokR (s:ByteArray) (e:Pl) (g:Gl) (r:List Gl) (o:TO):Prop :=
 if gcls g.code=2 then
  o=if 16<(g :: r).length - ((g :: r).dropWhile (inC [2,3,4])).length then .bad 42 else .ok 1 (s.extract g.pl.b (plf ((g :: r).dropWhile (inC [2,3,4])) e).b) ((g :: r).dropWhile (inC [2,3,4]))
 else if gcls g.code=3 then
  ∃ n ds,IsLen (dval (bytesOf (s.extract g.pl.b (plf ((g :: r).dropWhile (inC [3])) e).b))) n∧IsDec ds (dval (bytesOf (s.extract g.pl.b (plf ((g :: r).dropWhile (inC [3])) e).b)))∧o=if 32<n then .bad 2 else .ok 2 (strOfNums ds) ((g :: r).dropWhile (inC [3]))
 else if gcls g.code=5 then o=signS (gfold g.code) r
 else o=.bad 41
theorem af2 {s:ByteArray} {e:Pl} {g:Gl} {r:List Gl} (h:gcls g.code=2):TokR s e g r (if 16<(g :: r).length - ((g :: r).dropWhile (inC [2,3,4])).length then .bad 42 else .ok 1 (s.extract g.pl.b (plf ((g :: r).dropWhile (inC [2,3,4])) e).b) ((g :: r).dropWhile (inC [2,3,4]))):=by
 unfold TokR
 rw [if_pos h]
theorem aec {s:ByteArray} {e:Pl} {g:Gl} {r:List Gl} {n:Nat} {ds:List Int} (h:gcls g.code=3) (h1:IsLen (dval (bytesOf (s.extract g.pl.b (plf ((g :: r).dropWhile (inC [3])) e).b))) n) (h2:IsDec ds (dval (bytesOf (s.extract g.pl.b (plf ((g :: r).dropWhile (inC [3])) e).b)))):TokR s e g r (if 32<n then .bad 2 else .ok 2 (strOfNums ds) ((g :: r).dropWhile (inC [3]))):=by
 unfold TokR
 rw [if_neg (by omega),if_pos h]
 exact ⟨n,ds,h1,h2,rfl⟩
theorem aca {s:ByteArray} {e:Pl} {g:Gl} {r:List Gl} (h:gcls g.code=5):TokR s e g r (signS (gfold g.code) r):=by
 unfold TokR
 rw [if_neg (by omega),if_neg (by omega),if_pos h]
theorem aon {s:ByteArray} {e:Pl} {g:Gl} {r:List Gl} (h2:gcls g.code≠2) (h3:gcls g.code≠3) (h5:gcls g.code≠5):TokR s e g r (.bad 41):=by
 unfold TokR
 rw [if_neg h2,if_neg h3,if_neg h5]
theorem TokR.one {s:ByteArray} {e:Pl} {g:Gl} {r:List Gl} {o o' : TO} (h:TokR s e g r o) (h' : TokR s e g r o'):o=o' := by
 unfold TokR at h h'
 by_cases c2:gcls g.code=2
 ·rw [if_pos c2] at h h'
  rw [h,h']
 ·rw [if_neg c2] at h h'
  by_cases c3:gcls g.code=3
  ·rw [if_pos c3] at h h'
   obtain ⟨n,ds,h1,h2,h3⟩:=h
   obtain ⟨n',ds',h1',h2',h3'⟩:=h'
   rw [h3,h3',aqm h1 h1',ai0 h2 h2']
  ·rw [if_neg c3] at h h'
   by_cases c5:gcls g.code=5
   ·rw [if_pos c5] at h h'
    rw [h,h']
   ·rw [if_neg c5] at h h'
    rw [h,h']
structure Tk where
 kind:Int
 text:ByteArray
 pl:Pl
inductive SO where
 | bad (k:Int) (p:Pl):SO
 | ok (l:List Tk):SO
def SO.pre (t:Tk):SO→SO
 | .bad k p=>.bad k p
 | .ok l=>.ok (t :: l)
def SO.pres (ts:List Tk):SO→SO
 | .bad k p=>.bad k p
 | .ok l=>.ok (ts ++ l)
inductive ScanR (s:ByteArray) (e:Pl):List Gl→SO→Prop
 | done (r:List Gl) (h:skp false r = []) (hb:s.size≤e.b):ScanR s e r (.ok [⟨0,⟨#[]⟩,e⟩])
 | rune (r:List Gl) (h:skp false r = []) (hb:e.b<s.size):ScanR s e r (.bad 40 e)
 | bad (r:List Gl) (g:Gl) (t:List Gl) (k:Int) (h:skp false r=g :: t) (ht:TokR s e g t (.bad k)):ScanR s e r (.bad k g.pl)
 | tok (r:List Gl) (g:Gl) (t:List Gl) (kind:Int) (text:ByteArray) (rest:List Gl) (o:SO) (h:skp false r=g :: t) (ht:TokR s e g t (.ok kind text rest)) (hr:ScanR s e rest o):ScanR s e r (o.pre ⟨kind,text,g.pl⟩)
theorem ScanR.one {s:ByteArray} {e:Pl} {r:List Gl} {o o' : SO} (h:ScanR s e r o) (h' : ScanR s e r o'):o=o' := by
 induction h generalizing o' with
 | done r h hb =>
  cases h' with
  | done _ _ _=>rfl
  | rune _ _ hb'=>omega
  | bad _ g t k h2 _=>rw [h] at h2;cases h2
  | tok _ g t _ _ _ _ h2 _ _=>rw [h] at h2;cases h2
 | rune r h hb =>
  cases h' with
  | done _ _ hb'=>omega
  | rune _ _ _=>rfl
  | bad _ g t k h2 _=>rw [h] at h2;cases h2
  | tok _ g t _ _ _ _ h2 _ _=>rw [h] at h2;cases h2
 | bad r g t k h ht =>
  cases h' with
  | done _ h2 _=>rw [h] at h2;cases h2
  | rune _ h2 _=>rw [h] at h2;cases h2
  | bad _ g' t' k' h2 ht' =>
   rw [h] at h2
   obtain ⟨rfl,rfl⟩:=List.cons.inj h2
   have:=ht.one ht'
   injection this with e1
   rw [e1]
  | tok _ g' t' _ _ _ _ h2 ht' _ =>
   rw [h] at h2
   obtain ⟨rfl,rfl⟩:=List.cons.inj h2
   have:=ht.one ht'
   cases this
 | tok r g t kind text rest o h ht hr ih =>
  cases h' with
  | done _ h2 _=>rw [h] at h2;cases h2
  | rune _ h2 _=>rw [h] at h2;cases h2
  | bad _ g' t' k' h2 ht' =>
   rw [h] at h2
   obtain ⟨rfl,rfl⟩:=List.cons.inj h2
   have:=ht.one ht'
   cases this
  | tok _ g' t' _ _ _ _ h2 ht' hr' =>
   rw [h] at h2
   obtain ⟨rfl,rfl⟩:=List.cons.inj h2
   have:=ht.one ht'
   injection this with e1 e2 e3
   subst e1 e2 e3
   rw [ih hr']
def skc:Bool→List Nat→List Nat
 | _,[]=>[]
 | true,c :: cs=>skc (decide (c≠10)) cs
 | false,c :: cs=>if gcls c=6 then skc true cs else if gcls c=1 then skc false cs else c :: cs
def inK (ks:List Int) (c:Nat):Bool:=decide (gcls c ∈ ks)
def bts (l:List UInt8):ByteArray:=⟨l.toArray⟩
def Stop (ks:List Int) (r:List Nat):Prop:=∀ c t,r=c :: t→inK ks c=false
inductive TokC:List Nat→Int→ByteArray→List Nat→Prop
 | name (c:Nat) (u r:List Nat) (hc:gcls c=2) (hu:∀ d ∈ c :: u,inK [2,3,4] d=true) (hr:Stop [2,3,4] r) (hl:(c :: u).length≤16):TokC ((c :: u) ++ r) 1 (bts (encs (c :: u))) r
 | num (c:Nat) (u r:List Nat) (n:Nat) (ds:List Int) (hu:∀ d ∈ c :: u,inK [3] d=true) (hr:Stop [3] r) (hn:IsLen (dval (bytesOf (bts (encs (c :: u))))) n) (hl:n≤32) (hd:IsDec ds (dval (bytesOf (bts (encs (c :: u)))))):TokC ((c :: u) ++ r) 2 (strOfNums ds) r
 | two (c:Nat) (x:Int) (r:List Nat) (h:(c=8788∧x=58)∨(c=8800∧x=33)):TokC ([c] ++ r) 3 (strOfNums [x,61]) r
 | pair (c:Nat) (r:List Nat) (h:c=58∨c=33):TokC ([c,61] ++ r) 3 (strOfNums [(c:Int),61]) r
 | sign (c:Nat) (r:List Nat) (hc:gcls c=5) (h:c≠8788∧c≠8800∧c≠58∧c≠33):TokC ([c] ++ r) 3 (strOfNums [gfold c]) r
inductive ScanC:List Nat→List (Int × ByteArray)→Prop
 | done (r:List Nat) (h:skc false r = []):ScanC r [(0,⟨#[]⟩)]
 | tok (r:List Nat) (k:Int) (x:ByteArray) (rest:List Nat) (ts:List (Int × ByteArray)) (h:TokC (skc false r) k x rest) (hr:ScanC rest ts):ScanC r ((k,x) :: ts)
theorem ab1 (p:Pl) (a b:List Nat):adv p (a ++ b)=adv (adv p a) b:=by
 induction a generalizing p with
 | nil=>rfl
 | cons c a ih=>simp only [List.cons_append,adv,ih]
theorem aa1 (a b:List Nat):encs (a ++ b)=encs a ++ encs b:=by
 induction a with
 | nil=>rfl
 | cons c a ih=>simp only [List.cons_append,encs,ih,List.append_assoc]
theorem agl (p:Pl) (cs:List Nat):plf (glf p cs) (adv p cs)=p:=by
 cases cs <;> rfl
theorem ae0 (b:Bool) (p:Pl) (cs:List Nat):∃ a,cs=a ++ skc b cs∧skp b (glf p cs)=glf (adv p a) (skc b cs):=by
 induction cs generalizing b p with
 | nil=>exact ⟨[],by cases b <;> rfl,by cases b <;> rfl⟩
 | cons c cs ih =>
  cases b with
  | true =>
   obtain ⟨a,h1,h2⟩:=ih (decide (c≠10)) (p.past c (encL c).length)
   refine ⟨c :: a,?_,?_⟩
   ·rw [skc,List.cons_append,←h1]
   ·simp only [glf,skp,skc]
    rw [h2];rfl
  | false =>
   by_cases h6:gcls c=6
   ·obtain ⟨a,h1,h2⟩:=ih true (p.past c (encL c).length)
    refine ⟨c :: a,?_,?_⟩
    ·rw [skc,if_pos h6,List.cons_append,←h1]
    ·simp only [glf,skp,skc]
     rw [if_pos h6,if_pos h6,h2];rfl
   ·by_cases h1c:gcls c=1
    ·obtain ⟨a,h1,h2⟩:=ih false (p.past c (encL c).length)
     refine ⟨c :: a,?_,?_⟩
     ·rw [skc,if_neg h6,if_pos h1c,List.cons_append,←h1]
     ·simp only [glf,skp,skc]
      rw [if_neg h6,if_pos h1c,if_neg h6,if_pos h1c,h2];rfl
    ·refine ⟨[],?_,?_⟩
     ·rw [skc,if_neg h6,if_neg h1c];rfl
     ·simp only [glf,skp,skc]
      rw [if_neg h6,if_neg h1c,if_neg h6,if_neg h1c];rfl
theorem ac2 (ks:List Int) (p:Pl) (cs:List Nat):∃ u r,cs=u ++ r∧(glf p cs).dropWhile (inC ks)=glf (adv p u) r∧(∀ d ∈ u,inK ks d=true)∧Stop ks r:=by
 induction cs generalizing p with
 | nil=>exact ⟨[],[],rfl,rfl,by simp,by intro c t h;cases h⟩
 | cons c cs ih =>
  by_cases hc:inK ks c=true
  ·obtain ⟨u,r,h1,h2,h3,h4⟩:=ih (p.past c (encL c).length)
   refine ⟨c :: u,r,by rw [List.cons_append,←h1],?_,?_,h4⟩
   ·rw [glf,List.dropWhile_cons_of_pos (show inC ks ⟨c,p⟩ = true from hc),h2];rfl
   ·intro d hd
    rcases List.mem_cons.1 hd with rfl | hd
    ·exact hc
    ·exact h3 d hd
  ·refine ⟨[],c :: cs,rfl,?_,by simp,?_⟩
   ·rw [glf,List.dropWhile_cons_of_neg (show ¬ inC ks ⟨c,p⟩ = true from hc)];rfl
   ·intro d t h
    obtain ⟨rfl,rfl⟩:=List.cons.inj h
    simpa using hc
theorem ahg {ks:List Int} : ∀ {u r u' r' : List Nat},u ++ r=u' ++ r'→(∀ d ∈ u,inK ks d=true)→(∀ d ∈ u',inK ks d=true)→Stop ks r→Stop ks r'→u=u'∧r=r'
 | [],r,[],r',h,_,_,_,_=>⟨rfl,h⟩
 | [],r,c :: u',r',h,_,h2,h3,_=>by
  have:=h3 c (u' ++ r') h
  rw [h2 c (by simp)] at this
  cases this
 | c :: u,r,[],r',h,h1,_,_,h4=>by
  have:=h4 c (u ++ r) h.symm
  rw [h1 c (by simp)] at this
  cases this
 | c :: u,r,d :: u',r',h,h1,h2,h3,h4=>by
  obtain ⟨rfl,h'⟩:=List.cons.inj h
  obtain ⟨e1,e2⟩:=ahg h' (fun x hx=>h1 x (by simp [hx])) (fun x hx=>h2 x (by simp [hx])) h3 h4
  exact ⟨by rw [e1],e2⟩
theorem acs (s:ByteArray) (L:List UInt8) (u r:List Nat) (p:Pl) (hp:p.b=L.length) (h:s.data.toList=L ++ encs (u ++ r)):s.extract p.b (adv p u).b=bts (encs u):=by
 have hd:(s.extract p.b (adv p u).b).data.toList=encs u:=by
  rw [ByteArray.data_extract,Array.toList_extract,List.extract_eq_take_drop,h,aa1,agj,hp,List.drop_left,show L.length+(encs u).length - L.length=(encs u).length from by omega,List.take_left]
 cases hx:s.extract p.b (adv p u).b with
 | mk d =>
  rw [hx] at hd
  unfold bts
  rw [←hd]
theorem al6 {c:Nat} (h1:c≠8788) (h2:c≠8800):gfold c≠8788∧gfold c≠8800:=by
 unfold gfold
 repeat' split
 all_goals omega
theorem ak2 {c:Nat} : gfold c=58↔c=58:=by
 unfold gfold
 repeat' split
 all_goals omega
theorem ak3 {c:Nat} : gfold c=33↔c=33:=by
 unfold gfold
 repeat' split
 all_goals omega
theorem axq (s:ByteArray) (L:List UInt8) (c:Nat) (t:List Nat) (p:Pl) (hp:p.b=L.length) (h:s.data.toList=L ++ encs (c :: t)) (k:Int) (x:ByteArray) (rest:List Gl)
  (hT:TokR s (adv p (c :: t)) ⟨c,p⟩ (glf (p.past c (encL c).length) t) (.ok k x rest)):∃ v r,c :: t=v ++ r∧rest=glf (adv p v) r∧TokC (c :: t) k x r:=by
 unfold TokR at hT
 have hgl:(⟨c,p⟩:Gl) :: glf (p.past c (encL c).length) t=glf p (c :: t):=rfl
 rw [hgl] at hT
 simp only at hT
 by_cases c2:gcls c=2
 ·rw [if_pos c2] at hT
  obtain ⟨u,r,h1,h2,h3,h4⟩:=ac2 [2,3,4] p (c :: t)
  have hcu:∃ u',u=c :: u' := by
   cases u with
   | nil =>
    have:=h4 c t (by simpa using h1.symm)
    simp [inK,c2] at this
   | cons d u' =>
    obtain ⟨rfl,_⟩:=List.cons.inj h1
    exact ⟨u',rfl⟩
  obtain ⟨u',rfl⟩:=hcu
  rw [h2] at hT
  by_cases h16:16<(glf p (c :: t)).length - (glf (adv p (c :: u')) r).length
  ·rw [if_pos h16] at hT;cases hT
  ·rw [if_neg h16] at hT
   injection hT with e1 e2 e3
   subst e1 e3
   rw [agi,agi] at h16
   have hpe:plf (glf (adv p (c :: u')) r) (adv p (c :: t))=adv p (c :: u'):=by rw [h1,ab1,agl]
   rw [hpe,acs s L (c :: u') r p hp (by rw [h,h1])] at e2
   refine ⟨c :: u',r,h1,rfl,?_⟩
   rw [e2,h1]
   refine .name c u' r c2 h3 h4 ?_
   rw [h1,List.length_append] at h16
   omega
 ·rw [if_neg c2] at hT
  by_cases c3:gcls c=3
  ·rw [if_pos c3] at hT
   obtain ⟨n,ds,hn,hd,hT⟩:=hT
   obtain ⟨u,r,h1,h2,h3,h4⟩:=ac2 [3] p (c :: t)
   have hcu:∃ u',u=c :: u' := by
    cases u with
    | nil =>
     have:=h4 c t (by simpa using h1.symm)
     simp [inK,c3] at this
    | cons d u' =>
     obtain ⟨rfl,_⟩:=List.cons.inj h1
     exact ⟨u',rfl⟩
   obtain ⟨u',rfl⟩:=hcu
   have hpe:plf (glf (adv p (c :: u')) r) (adv p (c :: t))=adv p (c :: u'):=by rw [h1,ab1,agl]
   rw [h2,hpe,acs s L (c :: u') r p hp (by rw [h,h1])] at hn hd
   rw [h2] at hT
   by_cases h32:32<n
   ·rw [if_pos h32] at hT;cases hT
   ·rw [if_neg h32] at hT
    injection hT with e1 e2 e3
    subst e1 e3
    refine ⟨c :: u',r,h1,rfl,?_⟩
    rw [e2,h1]
    exact .num c u' r n ds h3 h4 hn (by omega) hd
  ·rw [if_neg c3] at hT
   by_cases c5:gcls c=5
   ·rw [if_pos c5] at hT
    unfold signS at hT
    by_cases a1:gfold c=8788
    ·rw [if_pos a1] at hT
     injection hT with e1 e2 e3
     subst e1 e2 e3
     have hc:c=8788:=by
      unfold gfold at a1
      repeat' split at a1
      all_goals omega
     exact ⟨[c],t,rfl,rfl,.two c 58 t (.inl ⟨hc,rfl⟩)⟩
    rw [if_neg a1] at hT
    by_cases a2:gfold c=8800
    ·rw [if_pos a2] at hT
     injection hT with e1 e2 e3
     subst e1 e2 e3
     have hc:c=8800:=by
      unfold gfold at a2
      repeat' split at a2
      all_goals omega
     exact ⟨[c],t,rfl,rfl,.two c 33 t (.inr ⟨hc,rfl⟩)⟩
    rw [if_neg a2] at hT
    by_cases a3:gfold c=58∨gfold c=33
    ·rw [if_pos a3] at hT
     cases t with
     | nil=>cases hT
     | cons d t =>
      simp only [glf] at hT
      by_cases hd:d=61
      ·rw [if_pos hd] at hT
       injection hT with e1 e2 e3
       subst e1 e2 e3 hd
       have hc:c=58∨c=33:=by
        rcases a3 with a | a
        ·exact .inl (ak2.1 a)
        ·exact .inr (ak3.1 a)
       have hg:gfold c=(c:Int):=by rcases hc with rfl | rfl <;> rfl
       rw [hg]
       exact ⟨[c,61],t,rfl,rfl,.pair c t hc⟩
      ·rw [if_neg hd] at hT;cases hT
    ·rw [if_neg a3] at hT
     injection hT with e1 e2 e3
     subst e1 e2 e3
     refine ⟨[c],t,rfl,rfl,.sign c t c5 ⟨?_,?_,?_,?_⟩⟩
     ·rintro rfl;exact a1 rfl
     ·rintro rfl;exact a2 rfl
     ·rintro rfl;exact a3 (.inl rfl)
     ·rintro rfl;exact a3 (.inr rfl)
   ·rw [if_neg c5] at hT;cases hT
theorem axr (s:ByteArray) (L:List UInt8) (cs:List Nat) (p:Pl) (hp:p.b=L.length) (h:s.data.toList=L ++ encs cs) (k:Int) (x:ByteArray) (r:List Nat) (hT:TokC cs k x r) :
  ∃ c t v,cs=c :: t∧cs=v ++ r∧TokR s (adv p cs) ⟨c,p⟩ (glf (p.past c (encL c).length) t) (.ok k x (glf (adv p v) r)):=by
 cases hT with
 | name c u _ hc hu hr hl =>
  refine ⟨c,u ++ r,c :: u,rfl,rfl,?_⟩
  obtain ⟨u2,r2,h1,h2,h3,h4⟩:=ac2 [2,3,4] p (c :: u ++ r)
  obtain ⟨e1,e2⟩:=ahg h1 hu h3 hr h4
  subst e1 e2
  have:=af2 (s:=s) (e:=adv p (c :: u ++ r)) (g:=⟨c,p⟩) (r:=glf (p.past c (encL c).length) (u ++ r)) hc
  have hgl:(⟨c,p⟩:Gl) :: glf (p.past c (encL c).length) (u ++ r)=glf p (c :: u ++ r):=rfl
  rw [hgl,h2,if_neg (by rw [agi,agi,List.length_append];omega)] at this
  have hpe:plf (glf (adv p (c :: u)) r) (adv p (c :: u ++ r))=adv p (c :: u):=by rw [ab1,agl]
  rw [hpe] at this
  rw [←acs s L (c :: u) r p hp h]
  exact this
 | num c u _ n ds hu hr hn hl hd =>
  refine ⟨c,u ++ r,c :: u,rfl,rfl,?_⟩
  obtain ⟨u2,r2,h1,h2,h3,h4⟩:=ac2 [3] p (c :: u ++ r)
  obtain ⟨e1,e2⟩:=ahg h1 hu h3 hr h4
  subst e1 e2
  have hpe:plf (glf (adv p (c :: u)) r) (adv p (c :: u ++ r))=adv p (c :: u):=by rw [ab1,agl]
  have hgl:(⟨c,p⟩:Gl) :: glf (p.past c (encL c).length) (u ++ r)=glf p (c :: u ++ r):=rfl
  have hc:gcls c=3:=by have:=hu c (by simp);simpa [inK] using this
  have:=aec (s:=s) (e:=adv p (c :: u ++ r)) (g:=⟨c,p⟩) (r:=glf (p.past c (encL c).length) (u ++ r)) (n:=n) (ds:=ds) hc (by rw [hgl,h2,hpe,acs s L (c :: u) r p hp h];exact hn) (by rw [hgl,h2,hpe,acs s L (c :: u) r p hp h];exact hd)
  rw [hgl,h2,if_neg (by omega)] at this
  exact this
 | two c x _ hh =>
  refine ⟨c,r,[c],rfl,rfl,?_⟩
  rcases hh with ⟨rfl,rfl⟩ | ⟨rfl,rfl⟩
  ·exact aca (show gcls 8788=5 by decide)
  ·exact aca (show gcls 8800=5 by decide)
 | pair c _ hh =>
  refine ⟨c,61 :: r,[c,61],rfl,rfl,?_⟩
  rcases hh with rfl | rfl
  ·exact aca (show gcls 58=5 by decide)
  ·exact aca (show gcls 33=5 by decide)
 | sign c _ hc hh =>
  refine ⟨c,r,[c],rfl,rfl,?_⟩
  have:=aca (s:=s) (e:=adv p ([c] ++ r)) (g:=⟨c,p⟩) (r:=glf (p.past c (encL c).length) r) hc
  have hf:=al6 hh.1 hh.2.1
  unfold signS at this
  simp only at this
  rw [if_neg hf.1,if_neg hf.2,if_neg (by rw [ak2,ak3];omega)] at this
  exact this
theorem av2 (s:ByteArray) (cs:List Nat) (L:List UInt8) (p:Pl) (hp:p.b=L.length) (h:s.data.toList=L ++ encs cs) (l:List Tk) (hR:ScanR s (adv p cs) (glf p cs) (.ok l)):ScanC cs (l.map fun t=>(t.kind,t.text)):=by
 generalize hg:glf p cs=gs at hR
 generalize he:adv p cs=e at hR
 generalize ho:SO.ok l=o at hR
 induction hR generalizing cs L p l with
 | done r h1 hb =>
  cases ho
  subst hg
  obtain ⟨a,h2,h3⟩:=ae0 false p cs
  rw [h1] at h3
  refine .done cs ?_
  cases hx:skc false cs with
  | nil=>rfl
  | cons c t=>rw [hx] at h3;cases h3
 | rune r h1 hb=>cases ho
 | bad r g t k h1 ht=>cases ho
 | tok r g t kind text rest o h1 ht hr ih =>
  subst hg he
  cases o with
  | bad k p=>cases ho
  | ok l' =>
   simp only [SO.pre,SO.ok.injEq] at ho
   subst ho
   obtain ⟨a,h2,h3⟩:=ae0 false p cs
   rw [h1] at h3
   cases hx:skc false cs with
   | nil=>rw [hx] at h3;cases h3
   | cons c t' =>
    rw [hx] at h3 h2
    simp only [glf] at h3
    obtain ⟨rfl,rfl⟩:=List.cons.inj h3
    have hpa:(adv p a).b=(L ++ encs a).length:=by rw [agj,hp,List.length_append]
    have hsa:s.data.toList=(L ++ encs a) ++ encs (c :: t'):=by rw [h,List.append_assoc,←aa1,←h2]
    have hea:adv p cs=adv (adv p a) (c :: t'):=by rw [←ab1,←h2]
    rw [hea] at ht
    obtain ⟨v,r,h4,rfl,h6⟩:=axq s _ c t' _ hpa hsa _ _ _ ht
    refine .tok cs _ _ r _ (by rw [hx];exact h6) ?_
    exact ih r ((L ++ encs a) ++ encs v) (adv (adv p a) v) (by rw [agj,hpa,←List.length_append]) (by rw [hsa,h4,aa1,List.append_assoc,List.append_assoc,List.append_assoc]) l' rfl (by rw [hea,h4,ab1]) rfl
theorem av3 (s:ByteArray) (cs:List Nat) (ts:List (Int × ByteArray)) (hC:ScanC cs ts) (L:List UInt8) (p:Pl) (hp:p.b=L.length) (h:s.data.toList=L ++ encs cs):∃ l,ScanR s (adv p cs) (glf p cs) (.ok l)∧(l.map fun t=>(t.kind,t.text))=ts:=by
 induction hC generalizing L p with
 | done r h1 =>
  obtain ⟨a,h2,h3⟩:=ae0 false p r
  rw [h1] at h3
  refine ⟨[⟨0,⟨#[]⟩,adv p r⟩],.done _ h3 ?_,rfl⟩
  have:s.data.toList.length=s.size:=rfl
  rw [agj,hp,←this,h,List.length_append]
  exact Nat.le_refl _
 | tok r k x rest ts h1 hr ih =>
  obtain ⟨a,h2,h3⟩:=ae0 false p r
  have hpa:(adv p a).b=(L ++ encs a).length:=by rw [agj,hp,List.length_append]
  have hsa:s.data.toList=(L ++ encs a) ++ encs (skc false r):=by rw [h,List.append_assoc,←aa1,←h2]
  have hea:adv p r=adv (adv p a) (skc false r):=by rw [←ab1,←h2]
  obtain ⟨c,t,v,h4,h5,h6⟩:=axr s _ (skc false r) _ hpa hsa _ _ _ h1
  obtain ⟨l,h7,h8⟩:=ih ((L ++ encs a) ++ encs v) (adv (adv p a) v) (by rw [agj,hpa,←List.length_append]) (by rw [hsa,h5,aa1,List.append_assoc,List.append_assoc,List.append_assoc])
  refine ⟨⟨k,x,adv p a⟩ :: l,?_,by simp [h8]⟩
  have h9:skp false (glf p r)=⟨c,adv p a⟩ :: glf ((adv p a).past c (encL c).length) t:=by rw [h3,h4];rfl
  rw [←hea] at h6
  have:=ScanR.tok (s:=s) (e:=adv p r) (glf p r) ⟨c,adv p a⟩ (glf ((adv p a).past c (encL c).length) t) k x (glf (adv (adv p a) v) rest) (.ok l) h9 h6 (by rw [hea,h5,ab1];exact h7)
  exact this
theorem ah7 (u:List Nat) (h:∀ c ∈ u,c<128):encs u=u.map Nat.toUInt8:=by
 induction u with
 | nil=>rfl
 | cons c u ih =>
  rw [encs,ih (fun d hd=>h d (by simp [hd]))]
  unfold encL
  rw [if_pos (h c (by simp))]
  rfl
theorem ak4 (ds:List Int) (h:∀ d ∈ ds,0≤d∧d<128):strOfNums ds=bts (encs (ds.map Int.toNat)):=by
 rw [ah7 _ (by intro c hc;obtain ⟨d,hd,rfl⟩:=List.mem_map.1 hc;have:=h d hd;omega)]
 unfold strOfNums bts
 congr 2
 rw [List.map_map]
 rfl
theorem al7 (ds:List Int) (h:∀ d ∈ ds,0≤d∧d<128):bytesOf (bts (encs (ds.map Int.toNat)))=ds:=by
 rw [ah7 _ (by intro c hc;obtain ⟨d,hd,rfl⟩:=List.mem_map.1 hc;have:=h d hd;omega)]
 unfold bytesOf bts
 rw [List.map_map]
 simp only [List.map_map]
 conv=>rhs;rw [←List.map_id ds]
 apply List.map_congr_left
 intro d hd
 have:=h d hd
 simp only [Function.comp_apply,id]
 rw [Nat.toUInt8,UInt8.toNat_ofNat']
 omega
theorem aq5 {c:Nat} (h:c<128):Cod c:=⟨by omega,.inl (by omega)⟩
theorem ajt {c:Nat} (h:48≤c∧c≤57):gcls (c:Int)=3:=by
 unfold gcls
 rw [if_neg (by omega),if_neg (by unfold glatin ggreek gcyr;omega),if_pos (by omega)]
theorem ac4 {c:Nat} {k:Int} (h:gcls (c:Int)=k) (h6:k≠6) (h1:k≠1) (t:List Nat):skc false (c :: t)=c :: t:=by
 rw [skc,if_neg (by omega),if_neg (by omega)]
theorem TokC.skc {cs:List Nat} {k:Int} {x:ByteArray} {r:List Nat} (h:TokC cs k x r):skc false cs=cs:=by
 cases h with
 | name c u _ h2 hu hr hl=>exact ac4 h2 (by decide) (by decide) _
 | num c u _ n ds hu hr hn hl hd =>
  have h3:gcls (c:Int)=3:=by have:=hu c (by simp);simpa [inK] using this
  exact ac4 h3 (by decide) (by decide) _
 | two c x _ hh =>
  rcases hh with ⟨rfl,rfl⟩ | ⟨rfl,rfl⟩
  ·exact ac4 (c:=8788) (k:=5) (by decide) (by decide) (by decide) _
  ·exact ac4 (c:=8800) (k:=5) (by decide) (by decide) (by decide) _
 | pair c _ hh =>
  rcases hh with rfl | rfl
  ·exact ac4 (c:=58) (k:=5) (by decide) (by decide) (by decide) _
  ·exact ac4 (c:=33) (k:=5) (by decide) (by decide) (by decide) _
 | sign c _ h5 hh=>exact ac4 h5 (by decide) (by decide) _
end Lm
end Go.Proofs.YtdjgifcmhafppaaGreatDoor
namespace Go.Proofs.YtdjgifcmhafppaaGreatDoor
namespace Lm
open Go Go.RowKit
def msplit (s:ByteArray):Bool × ByteArray :=
 if 3≤s.size∧(s.get! 0).toNat=226∧(s.get! 1).toNat=136∧(s.get! 2).toNat=146 then (true,s.extract 3 s.size)
 else if 0<s.size∧(s.get! 0).toNat=45 then (true,s.extract 1 s.size)
 else (false,s)
theorem decN (s:ByteArray) (h:0<s.size):Lib.decodeGo s=Lib.decodeN s.size (s.get! 0).toNat (s.get! 1).toNat (s.get! 2).toNat (s.get! 3).toNat:=by
 rw [Lib.decodeGo,if_neg (by omega),Lib.decode_at]
 rfl
theorem av4 (n b0 b1 b2 b3:Nat):(Lib.decodeN n b0 b1 b2 b3).1=45↔b0=45:=by
 unfold Lib.decodeN
 repeat' split
 all_goals first | (simp only;done) | (simp only;omega)
theorem atq (n b1 b2 b3:Nat):Lib.decodeN n 45 b1 b2 b3=(45,1):=by simp [Lib.decodeN]
theorem aq6 (n b0 b1 b2 b3:Nat):(Lib.decodeN n b0 b1 b2 b3).1=8722↔3≤n∧b0=226∧b1=136∧b2=146:=by
 unfold Lib.decodeN
 repeat' split
 all_goals (simp only;omega)
theorem aoo {n b3:Nat} (h:3≤n):Lib.decodeN n 226 136 146 b3=(8722,3):=by
 unfold Lib.decodeN
 rw [if_neg (by omega),if_neg (by omega),if_pos (by omega),if_pos (by omega)]
theorem axs (s:ByteArray):(Lib.decodeGo s).1=45↔0<s.size∧(s.get! 0).toNat=45:=by
 by_cases h:0<s.size
 ·rw [decN s h,av4];simp [h]
 ·rw [Lib.decodeGo,if_pos (by omega)];simp [h]
theorem atr (s:ByteArray):(Lib.decodeGo s).1=8722↔3≤s.size∧(s.get! 0).toNat=226∧(s.get! 1).toNat=136∧(s.get! 2).toNat=146:=by
 by_cases h:0<s.size
 ·rw [decN s h,aq6]
 ·rw [Lib.decodeGo,if_pos (by omega)]
  constructor
  ·intro h;simp at h
  ·intro h;omega
theorem al8 (s:ByteArray):((Lib.decodeGo s=(8722,3)∧3≤s.size∧(s.get! 0).toNat=226∧(s.get! 1).toNat=136∧(s.get! 2).toNat=146)∧msplit s=(true,s.extract 3 s.size)) ∨
  ((Lib.decodeGo s=(45,1)∧0<s.size∧(s.get! 0).toNat=45)∧msplit s=(true,s.extract 1 s.size)) ∨
  (((Lib.decodeGo s).1≠45∧(Lib.decodeGo s).1≠8722∧¬ (3≤s.size∧(s.get! 0).toNat=226∧(s.get! 1).toNat=136∧(s.get! 2).toNat=146)∧¬ (0<s.size∧(s.get! 0).toNat=45))∧msplit s=(false,s)):=by
 by_cases h1:3≤s.size∧(s.get! 0).toNat=226∧(s.get! 1).toNat=136∧(s.get! 2).toNat=146
 ·refine .inl ⟨⟨?_,h1⟩,by rw [msplit,if_pos h1]⟩
  rw [decN s (by omega),h1.2.1,h1.2.2.1,h1.2.2.2]
  exact aoo h1.1
 ·by_cases h2:0<s.size∧(s.get! 0).toNat=45
  ·refine .inr (.inl ⟨⟨?_,h2⟩,by rw [msplit,if_neg h1,if_pos h2]⟩)
   rw [decN s h2.1,h2.2]
   exact atq _ _ _ _
  ·exact .inr (.inr ⟨⟨fun e=>h2 ((axs s).1 e),fun e=>h1 ((atr s).1 e),h1,h2⟩,by rw [msplit,if_neg h1,if_neg h2]⟩)
end Lm
end Go.Proofs.YtdjgifcmhafppaaGreatDoor
namespace Go.Proofs
open Go.Shelf
shelf_lay Lays.n197 Nm 197 at Tryz as Tryz.lays197
namespace YtdjgifcmhafppaaGreatDoor
namespace Lm
open Go Go.RowKit
def Tabs (w:World):Prop:=Lib.Utf8Tabs (Tryz.lays197_ren.g 3) (Tryz.lays197_ren.g 4) w
theorem Tabs.below {w w' : World} (h:Tabs w) (hb:Below w.heap.size w w'):Tabs w' := Utf8Tabs_below h hb
theorem ah8 (w:World) (s:ByteArray) (hT:Tabs w) :
  Calls Tryz.prog 69 #[.string s] w fun e w'=>e=.returned (.tuple #[.int .i32 (Lib.decodeGo s).1,.int .i64 (Lib.decodeGo s).2])∧Below w.heap.size w w' := Any.utf8_DecodeRuneInString Tryz.lays197 s w hT
end Lm
end YtdjgifcmhafppaaGreatDoor
end Go.Proofs
namespace Go.Proofs.YtdjgifcmhafppaaGreatDoor
namespace Lm
open Go Go.RowKit
theorem get!_out (s:ByteArray) (k:Nat) (h:s.size≤k):(s.get! k).toNat=0:=by
 cases s with
 | mk d =>
  have:d[k]! = default:=getElem!_neg d k (by simpa [ByteArray.size] using h)
  show (d[k]!).toNat=0
  rw [this]
  rfl
theorem al9 (s:ByteArray) (i:Nat) (h:i<s.size):Lib.decodeGo (s.extract i s.size)=Utf8.decode s i:=by
 have hsz:(s.extract i s.size).size=s.size - i:=by rw [ByteArray.size_extract];omega
 rw [Lib.decodeGo,if_neg (by omega),Lib.decode_at,Lib.decode_at,hsz]
 have key:∀ k,((s.extract i s.size).get! k).toNat=(s.get! (i+k)).toNat:=by
  intro k
  by_cases hk:k<s.size - i
  ·have h1:=get!_getD (s.extract i s.size) k (by omega)
   have h2:=get!_getD s (i+k) (by omega)
   rw [acj,List.getD_eq_getElem?_getD,List.getElem?_take_of_lt (by omega),List.getElem?_drop,←List.getD_eq_getElem?_getD] at h1
   rw [h1] at h2
   exact_mod_cast h2
  ·rw [get!_out _ _ (by omega),get!_out _ _ (by omega)]
 simp only [key,Nat.zero_add,Nat.add_zero,Nat.sub_zero]
theorem aed {w w' : World} {B:Nat} {e:TypeId} {size n:Nat} {v:Value} {xs:List Value} (h:w.ownsRow B e size v n xs) (hk:∀ k o,B≤k→w.heap[k]? = some o→w'.heap[k]? = some o):w'.ownsRow B e size v n xs:=by
 obtain ⟨hl,h1 | ⟨g,cap,cur,rfl,hb,hh,h2⟩⟩:=h
 ·exact ⟨hl,.inl h1⟩
 ·exact ⟨hl,.inr ⟨g,cap,cur,rfl,hb,hk g _ hb hh,h2⟩⟩
theorem act {w w' : World} {B:Nat} {e:TypeId} {size n:Nat} {v:Value} {xs:List Value} (h:w.ownsRow B e size v n xs) (hb:Below w.heap.size w w'):w'.ownsRow B e size v n xs :=
 aed h fun k _ _ hk=>(hb.block k (aaa hk)).trans hk
theorem att {w:World} {B B' : Nat} {e:TypeId} {size n:Nat} {v:Value} {xs:List Value} (h:w.ownsRow B e size v n xs) (hB:B'≤B):w.ownsRow B' e size v n xs:=by
 obtain ⟨hl,h1 | ⟨g,cap,cur,rfl,hb,hh,h2⟩⟩:=h
 ·exact ⟨hl,.inl h1⟩
 ·exact ⟨hl,.inr ⟨g,cap,cur,rfl,Nat.le_trans hB hb,hh,h2⟩⟩
structure Sou (w wr:World) (s:ByteArray) (acc:List Gl) (p:Pl) (pos:Nat) (gv:Value):Prop where
 own:wr.ownsRow (w.heap.size+2) 118 6 gv acc.length (gflat acc)
 plc:PlB wr w.heap.size p
 itr:wr.heap[w.heap.size+1]? = some (.stringIter s pos)
 bel:Below w.heap.size w wr
 siz:w.heap.size+2≤wr.heap.size
theorem Sou.below {w wr w' : World} {s:ByteArray} {acc:List Gl} {p:Pl} {pos:Nat} {v:Value} (h:Sou w wr s acc p pos v) (hb:Below wr.heap.size wr w'):Sou w w' s acc p pos v :=
 ⟨act h.own hb,h.plc.below hb,(hb.block _ (by have:=h.siz;omega)).trans h.itr,h.bel.trans (hb.mono h.bel.size),Nat.le_trans h.siz hb.size⟩
theorem Sou.iterAt {w wr:World} {s:ByteArray} {acc:List Gl} {p:Pl} {pos:Nat} {v:Value} (h:Sou w wr s acc p pos v) (pos' : Nat):Sou w (wr.iterAt (w.heap.size+1) s pos') s acc p pos' v :=
 ⟨aed h.own fun k _ hk he=>(Lib.iterAt_other wr _ k s pos' (by omega)).trans he,(Lib.iterAt_other wr _ _ s pos' (by omega)).trans h.plc,Lib.iterAt_heap wr _ s pos pos' h.itr,Lib.below_iterAt h.bel (by omega) s pos',by rw [Lib.iterAt_size];exact h.siz⟩
theorem Sou.more {w wr w1:World} {s:ByteArray} {acc:List Gl} {p:Pl} {pos:Nat} {v v' : Value} {g:Gl} (h:Sou w wr s acc p pos v) (hg:wr.grownBy w1 v.ownBlock) (hown:w1.ownsRow (w.heap.size+2) 118 6 v' (acc ++ [g]).length (gflat (acc ++ [g]))):Sou w w1 s (acc ++ [g]) p pos v' := by
 have hrow:∀ k,k<w.heap.size+2→some k≠v.ownBlock:=by
  intro k hk
  obtain ⟨hl,⟨rfl,_⟩ | ⟨b,cap,cur,rfl,hb,_⟩⟩:=h.own
  ·simp [Value.ownBlock]
  ·simp only [Value.ownBlock,ne_eq,Option.some.injEq]
   omega
 have hz:=h.siz
 exact ⟨hown,(hg.block _ (by omega) (hrow _ (by omega))).trans h.plc,(hg.block _ (by omega) (hrow _ (by omega))).trans h.itr,⟨hg.os.trans h.bel.os,hg.tape.trans h.bel.tape,hg.output.trans h.bel.output,Nat.le_trans h.bel.size hg.size,fun k hk=>(hg.block k (by omega) (hrow k (by omega))).trans (h.bel.block k hk)⟩,Nat.le_trans h.siz hg.size⟩
theorem Sou.place {w wr:World} {s:ByteArray} {acc:List Gl} {p p' : Pl} {pos:Nat} {v:Value} (h:Sou w wr s acc p pos v):Sou w ((((wr.setCell ⟨w.heap.size,0,none⟩ (.int .i64 p'.b)).setCell ⟨w.heap.size,1,none⟩ (.int .i64 p'.g)).setCell ⟨w.heap.size,2,none⟩ (.int .i64 p'.l)).setCell ⟨w.heap.size,3,none⟩ (.int .i64 p'.c)) s acc p' pos v:=by
 have ho:∀ k,k≠w.heap.size→((((wr.setCell ⟨w.heap.size,0,none⟩ (.int .i64 p'.b)).setCell ⟨w.heap.size,1,none⟩ (.int .i64 p'.g)).setCell ⟨w.heap.size,2,none⟩ (.int .i64 p'.l)).setCell ⟨w.heap.size,3,none⟩ (.int .i64 p'.c)).heap[k]? = wr.heap[k]? := by
  intro k hk
  rw [heap_setCell_other _ ⟨w.heap.size,3,none⟩ k _ hk,heap_setCell_other _ ⟨w.heap.size,2,none⟩ k _ hk,heap_setCell_other _ ⟨w.heap.size,1,none⟩ k _ hk,heap_setCell_other _ ⟨w.heap.size,0,none⟩ k _ hk]
 have hsz:((((wr.setCell ⟨w.heap.size,0,none⟩ (.int .i64 p'.b)).setCell ⟨w.heap.size,1,none⟩ (.int .i64 p'.g)).setCell ⟨w.heap.size,2,none⟩ (.int .i64 p'.l)).setCell ⟨w.heap.size,3,none⟩ (.int .i64 p'.c)).heap.size=wr.heap.size:=by simp [World.setCell]
 refine ⟨aed h.own fun k _ hk he=>(ho k (by omega)).trans he,?_,(ho _ (by omega)).trans h.itr,⟨h.bel.os,h.bel.tape,h.bel.output,by rw [hsz];exact h.bel.size,fun k hk=>(ho k (by omega)).trans (h.bel.block k hk)⟩,by rw [hsz];exact h.siz⟩
 unfold PlB
 rw [heap_setCell_same _ _ 3 _ _ _ (heap_setCell_same _ _ 2 _ _ _ (heap_setCell_same _ _ 1 _ _ _ (heap_setCell_same _ _ 0 _ _ _ h.plc)))]
 simp
theorem aq7 {w:World} {B:Nat} {e:TypeId} {size n:Nat} {v:Value} {xs:List Value} (h:w.ownsRow B e size v n xs):∃ ao cap,v=.slice ao n cap:=by
 obtain ⟨hl,⟨rfl,rfl⟩ | ⟨g,cap,cur,rfl,_⟩⟩:=h
 ·exact ⟨_,_,rfl⟩
 ·exact ⟨_,_,rfl⟩
theorem infoG:(Tryz.prog.info? 118).map (fun i=>(i.zero,i.size,i.bytes))=some (some (.agg #[.int .i64 0,.int .i64 0,.int .i64 0,.int .i64 0,.int .i64 0,.int .i64 0]),6,48):=by kernel_rfl
theorem aiu {P:Program} {e:TypeId} {z:Value} {n b:Nat} (h:(P.info? e).map (fun i=>(i.zero,i.size,i.bytes))=some (some z,n,b)):∃ i,P.info? e=some i∧i.zero=some z∧i.size=n∧i.bytes=b:=by
 cases hi:P.info? e with
 | none=>rw [hi] at h;cases h
 | some i =>
  rw [hi] at h
  simp only [Option.map_some,Option.some.injEq,Prod.mk.injEq] at h
  exact ⟨i,rfl,h.1,h.2.1,h.2.2⟩
theorem ak5 (args:Array Value) (w:World):(callFunc 70 args).run Tryz.prog w=.ok (.enter 70 args) w:=by
 have h : (match Tryz.prog.funcs[70]? with | some fn => !(fn.name == "runtime.NumGoroutine") && fn.body.isSome | none => false) = true := by kernel_rfl
 cases hf:Tryz.prog.funcs[70]? with
 | none=>rw [hf] at h;simp at h
 | some fn =>
  rw [hf] at h
  simp only [Bool.and_eq_true,Bool.not_eq_true',beq_eq_false_iff_ne] at h
  obtain ⟨h1,h2⟩:=h
  have h3:fn.body≠none:=by intro hb;rw [hb] at h2;simp at h2
  simp [callFunc,hf,h1,h3]
theorem ah9 {ops:Array Oper} {o:Oper} {a:Act} {w:World} {K:Act→World→Prop} {Q:Exit→Act→World→Prop} {E:Prop} (hg:o.guard=none) (x:Operand) (ats:Array TypeId)
  (hop:o.op=.call { callee:=.value (.func 70),args:=#[x],argTypes:=ats }) (c:Int) (hx:a.eval x=.int .i64 c) (hK:K (a.put o.dst (.int .i64 (gcls c))) w) :
  if Region.wanted o (yielded ops a.tmps)=true then Oper.wp Tryz.prog o a w K Q else E:=by
 obtain ⟨dst,op,ty,pos,after,guard⟩:=o
 simp only at hop hg
 subst hop hg
 have hw:Region.wanted { dst,op:=.call { callee:=.value (.func 70),args:=#[x],argTypes:=ats },type:=ty,pos,after,guard:=none } (yielded ops a.tmps)=true:=by simp [Region.wanted]
 rw [if_pos hw]
 have e:execOp a.eval { dst,op:=.call { callee:=.value (.func 70),args:=#[x],argTypes:=ats },type:=ty,pos,after,guard:=none } = callFunc 70 (#[] ++ #[x].map a.eval ++ #[]):=rfl
 unfold Oper.wp
 rw [e,ak5]
 simp only [Oper.upon]
 have e2:(#[] ++ #[x].map a.eval ++ #[]:Array Value) = #[.int .i64 c]:=by simp [hx]
 rw [e2]
 refine (ata w c).mono ?_
 rintro r w' ⟨rfl,rfl⟩
 exact hK
set_option maxRecDepth 20000 in
set_option maxHeartbeats 2000000 in
theorem aq8 (w:World) (s:ByteArray) (hT:Tabs w) (hs:s.size≤4096) :
  Calls Tryz.prog 46 #[.string s] w fun r w'=>∃ gs e v,Snd s pl0 gs e∧r=.returned (.tuple #[v,e.v])∧w'.ownsRow (w.heap.size+2) 118 6 v gs.length (gflat gs)∧Below w.heap.size w w' := by
 go_enter Tryz.func46,Tryz.ntmps46
 go_wp2
 have hS0:Sou w ((w.alloc (.cells #[.int .i64 0,.int .i64 0,.int .i64 1,.int .i64 1] 32)).iter s 0) s [] pl0 0 (.slice none 0 0):=by
  refine ⟨World.ownsRow_nil _ _ _ _,?_,?_,?_,?_⟩
  ·exact ((Below.refl (w.alloc _).heap.size (w.alloc _)).alloc (Nat.le_refl _) (.stringIter s 0)).block w.heap.size (by simp [World.size_alloc]) |>.trans (heap_alloc_new w _)
  ·have:=World.iter_heap (w.alloc (.cells #[.int .i64 0,.int .i64 0,.int .i64 1,.int .i64 1] 32)) s 0
   rw [World.size_alloc] at this
   exact this
  ·exact ((Below.refl _ _).alloc (Nat.le_refl _) _).alloc (by simp [World.size_alloc]) (.stringIter s 0)
  ·show w.heap.size+2≤((w.alloc _).alloc (.stringIter s 0)).heap.size
   simp [World.size_alloc]
 generalize (w.alloc (.cells #[.int .i64 0,.int .i64 0,.int .i64 1,.int .i64 1] 32)).iter s 0=w0 at hS0 ⊢
 have HS0:=hide hS0
 have HT:=hide hT
 clear hS0 hT
 go_loopw [2] (fun gv wr=>∃ (acc:List Gl) (p:Pl) (ao:Option Addr) (cap:Nat),gv=.slice ao acc.length cap∧Sou w wr s acc p p.b (.slice ao acc.length cap)∧p.ok∧p.b≤s.size∧acc.length≤p.b∧∀ gs e,Snd s p gs e→Snd s pl0 (acc ++ gs) e) (fun _ wr=>s.size - wr.iterPos (w.heap.size+1))
 case atStart=>exact ⟨[],pl0,none,0,rfl,HS0.out,ad9,Nat.zero_le _,Nat.zero_le _,fun gs e h=>h⟩
 case round =>
  obtain ⟨acc,p,ao,cap,rfl,hS,hp,hpb,hal,hpre⟩:=hrel
  have HS:=hide hS
  have HP:=hide hp
  have HE:=hide hpre
  have IP:Hid (wr.iterPos (w.heap.size+1)=p.b):=by show _ = _;unfold World.iterPos;rw [hS.itr]
  clear hS hp hpre
  by_cases hlt:p.b<s.size
  ·have hnext:=fun ty=>Lib.run_next_any_at (P:=Tryz.prog) wr (w.heap.size+1) s p.b ty HS.out.itr hlt
   have hd:=ad8 s p.b hlt
   have htop:=avu s p.b
   have HDG:=hide (al9 s p.b hlt)
   have HS1:=hide (HS.out.iterAt (p.b+(Utf8.decode s p.b).2))
   have HSG:=hide (fun gs e=>Snd.go p gs e hlt)
   generalize hdc:Utf8.decode s p.b=dc at *
   have HDC:=hide hdc
   clear hdc
   obtain ⟨c,z⟩:=dc
   simp only at hd htop hnext
   generalize wr.iterAt (w.heap.size+1) s (p.b+z)=w1 at HS1 hnext
   have hlt' : (p.b:Int)<(s.size:Int):=by omega
   go_wp2_with fail
   refine (ah8 _ _ (HT.out.below HS1.out.bel)).mono ?_
   rintro r w2 ⟨rfl,hb2⟩
   rw [HDG.out]
   have HS2:=hide (HS1.out.below hb2)
   clear hb2 hnext HS1
   by_cases hbad:(c,z)=(65533,1)
   ·obtain ⟨rfl,rfl⟩:=Prod.mk.inj hbad
    obtain ⟨hf,p0,p1,p2,p3⟩:=HS2.out.plc.cells
    have f0:=frozen_of_row w2 w.heap.size 0 _ _ HS2.out.plc
    have f1:=frozen_of_row w2 w.heap.size 1 _ _ HS2.out.plc
    have f2:=frozen_of_row w2 w.heap.size 2 _ _ HS2.out.plc
    have f3:=frozen_of_row w2 w.heap.size 3 _ _ HS2.out.plc
    go_wp2_with fail
    go_region
    go_wp2
    refine bodyPost_ret (v:=_) (by simp [results,Tryz.results46,go_sem,p0,p1,p2,p3];try rfl) rfl ⟨acc,p,_,?_,rfl,((HS2.out.place (p' := p)).below (by (repeat' first|with_reducible(first|exact Below.refl _ _|assumption|refine gdrewN ?_ _|refine Below.alloc ?_ ?_ _|refine Below.drew ?_|refine Below.setCell ?_ ?_ _)|go_size))).own,((HS2.out.place (p' := p)).below (by (repeat' first|with_reducible(first|exact Below.refl _ _|assumption|refine gdrewN ?_ _|refine Below.alloc ?_ ?_ _|refine Below.drew ?_|refine Below.setCell ?_ ?_ _)|go_size))).bel⟩
    have:=HE.out [] p (.stop p (.inr ⟨hlt,HDC.out⟩))
    rwa [List.append_nil] at this
   ·by_cases h1:c=65533
    ·subst h1
     have e2:((z:Int) == 1)=false:=beq_eq_false_iff_ne.2 (by intro hz;exact hbad (by rw [show z=1 from by omega]))
     obtain ⟨i0,hi0,hz0,hz1,hz2⟩:=aiu infoG
     obtain ⟨hf,p0,p1,p2,p3⟩:=HS2.out.plc.cells
     have hown:=HS2.out.own
     have hsz:=HS2.out.siz
     have hone:∀ u ∈ ([.int .i64 65533,.int .i64 (gcls 65533),.int .i64 p.b,.int .i64 p.g,.int .i64 p.l,.int .i64 p.c]:List Value),u.oneCell' = true:=by
      intro u hu
      simp only [List.mem_cons,List.not_mem_nil,or_false] at hu
      rcases hu with rfl | rfl | rfl | rfl | rfl | rfl <;> rfl
     go_wp2_with fail
     go_region_law (first | (refine ah9 rfl (.tmp 35) #[3] rfl (65533:Int) (by simp [Act.eval,Act.put]) ?_) | (refine step_append_lies _ rfl (.tmp 33) (.tmp 39) 91 rfl (w.heap.size+2) 118 i0 _ 6 48 Tryz.underlying91 hi0 hz0 hz1 hz2 rfl (by decide) (.slice ao acc.length cap) acc.length (gflat acc) (by simp [Act.eval]) (act hown ((Below.refl _ _).alloc (Nat.le_refl _) _).drew) ⟨w2.heap.size,0,none⟩ 1 1 [.int .i64 65533,.int .i64 (gcls 65533),.int .i64 p.b,.int .i64 p.g,.int .i64 p.l,.int .i64 p.c] (by simp [Act.eval]) rfl (World.news_of_block (w:=(w2.alloc (.cells #[.int .i64 65533,.int .i64 (gcls 65533),.int .i64 p.b,.int .i64 p.g,.int .i64 p.l,.int .i64 p.c] 118)).drew) (heap_alloc_new w2 _)) hone (by omega) (by unfold maxLen;omega) (by omega) (by simp;omega) _ rfl ?_;intro g1 cap1 w3 hown3 hgrow3 hat3 hlt3))
     all_goals
      have HS3:=hide ((HS2.out.below (((Below.refl _ _).alloc (Nat.le_refl _) _).drew)).more (g:=⟨65533,p⟩) hgrow3 (by simpa [afy,gflat] using hown3))
      clear hown3 hgrow3 hat3 hlt3 p0 p1 p2 p3 hf hown hsz hone hi0 hz0 hz1 hz2
      obtain ⟨hf,p0,p1,p2,p3⟩:=HS3.out.plc.cells
      go_wp2_with fail
      refine (ah0 w3 p 65533 z (by have:=HP.out.g;have:=HP.out.l;have:=HP.out.c;omega)).mono ?_
      rintro r w4 ⟨rfl,hb4⟩
      have HS4:=hide (HS3.out.below hb4)
      clear hb4 p0 p1 p2 p3 hf HS3 HS2
      generalize hpp:p.past 65533 z=p' at HS4 ⊢
      have HPP:=hide hpp
      clear hpp
      unfold Pl.v
      obtain ⟨hf,p0,p1,p2,p3⟩:=HS4.out.plc.cells
      have f0:=frozen_of_row w4 w.heap.size 0 _ _ HS4.out.plc
      have f1:=frozen_of_row w4 w.heap.size 1 _ _ HS4.out.plc
      have f2:=frozen_of_row w4 w.heap.size 2 _ _ HS4.out.plc
      have f3:=frozen_of_row w4 w.heap.size 3 _ _ HS4.out.plc
      have IP4:=hide ((HS4.out.place (p' := p')).itr)
      go_wp2
      go_roundw
      case rel =>
       have hb' : p'.b=p.b+z:=by rw [←HPP.out];rfl
       refine ⟨acc ++ [⟨65533,p⟩],p',some ⟨g1,0,none⟩,cap1,by simp,?_,by rw [←HPP.out];exact HP.out.past _ _ hd.1,by omega,by simp;omega,?_⟩
       ·have:=HS4.out.place (p' := p')
        rw [←hb'] at this
        simpa using this
       ·intro gs e h
        rw [List.append_assoc]
        refine HE.out _ _ ?_
        exact HSG.out gs e hbad (by rw [←HPP.out] at h;exact h)
      case measure =>
       rw [IP.out]
       unfold World.iterPos
       rw [IP4.out]
       simp only
       omega
    ·have e1:((c:Int) == 65533)=false:=beq_eq_false_iff_ne.2 (by omega)
     obtain ⟨i0,hi0,hz0,hz1,hz2⟩:=aiu infoG
     obtain ⟨hf,p0,p1,p2,p3⟩:=HS2.out.plc.cells
     have hown:=HS2.out.own
     have hsz:=HS2.out.siz
     have hone:∀ u ∈ ([.int .i64 c,.int .i64 (gcls c),.int .i64 p.b,.int .i64 p.g,.int .i64 p.l,.int .i64 p.c]:List Value),u.oneCell' = true:=by
      intro u hu
      simp only [List.mem_cons,List.not_mem_nil,or_false] at hu
      rcases hu with rfl | rfl | rfl | rfl | rfl | rfl <;> rfl
     go_wp2_with fail
     go_region_law (first | (refine ah9 rfl (.tmp 35) #[3] rfl (c:Int) (by simp [Act.eval,Act.put]) ?_) | (refine step_append_lies _ rfl (.tmp 33) (.tmp 39) 91 rfl (w.heap.size+2) 118 i0 _ 6 48 Tryz.underlying91 hi0 hz0 hz1 hz2 rfl (by decide) (.slice ao acc.length cap) acc.length (gflat acc) (by simp [Act.eval]) (act hown ((Below.refl _ _).alloc (Nat.le_refl _) _).drew) ⟨w2.heap.size,0,none⟩ 1 1 [.int .i64 c,.int .i64 (gcls c),.int .i64 p.b,.int .i64 p.g,.int .i64 p.l,.int .i64 p.c] (by simp [Act.eval]) rfl (World.news_of_block (w:=(w2.alloc (.cells #[.int .i64 c,.int .i64 (gcls c),.int .i64 p.b,.int .i64 p.g,.int .i64 p.l,.int .i64 p.c] 118)).drew) (heap_alloc_new w2 _)) hone (by omega) (by unfold maxLen;omega) (by omega) (by simp;omega) _ rfl ?_;intro g1 cap1 w3 hown3 hgrow3 hat3 hlt3))
     all_goals
      have HS3:=hide ((HS2.out.below (((Below.refl _ _).alloc (Nat.le_refl _) _).drew)).more (g:=⟨c,p⟩) hgrow3 (by simpa [afy,gflat] using hown3))
      clear hown3 hgrow3 hat3 hlt3 p0 p1 p2 p3 hf hown hsz hone hi0 hz0 hz1 hz2
      obtain ⟨hf,p0,p1,p2,p3⟩:=HS3.out.plc.cells
      go_wp2_with fail
      refine (ah0 w3 p c z (by have:=HP.out.g;have:=HP.out.l;have:=HP.out.c;omega)).mono ?_
      rintro r w4 ⟨rfl,hb4⟩
      have HS4:=hide (HS3.out.below hb4)
      clear hb4 p0 p1 p2 p3 hf HS3 HS2
      generalize hpp:p.past c z=p' at HS4 ⊢
      have HPP:=hide hpp
      clear hpp
      unfold Pl.v
      obtain ⟨hf,p0,p1,p2,p3⟩:=HS4.out.plc.cells
      have f0:=frozen_of_row w4 w.heap.size 0 _ _ HS4.out.plc
      have f1:=frozen_of_row w4 w.heap.size 1 _ _ HS4.out.plc
      have f2:=frozen_of_row w4 w.heap.size 2 _ _ HS4.out.plc
      have f3:=frozen_of_row w4 w.heap.size 3 _ _ HS4.out.plc
      have IP4:=hide ((HS4.out.place (p' := p')).itr)
      go_wp2
      go_roundw
      case rel =>
       have hb' : p'.b=p.b+z:=by rw [←HPP.out];rfl
       refine ⟨acc ++ [⟨c,p⟩],p',some ⟨g1,0,none⟩,cap1,by simp,?_,by rw [←HPP.out];exact HP.out.past _ _ hd.1,by omega,by simp;omega,?_⟩
       ·have:=HS4.out.place (p' := p')
        rw [←hb'] at this
        simpa using this
       ·intro gs e h
        rw [List.append_assoc]
        refine HE.out _ _ ?_
        exact HSG.out gs e hbad (by rw [←HPP.out] at h;exact h)
      case measure =>
       rw [IP.out]
       unfold World.iterPos
       rw [IP4.out]
       simp only
       omega
  ·have hnext:=fun ty=>Lib.run_next_end_at (P:=Tryz.prog) wr (w.heap.size+1) s p.b ty HS.out.itr (by omega)
   obtain ⟨hf,p0,p1,p2,p3⟩:=HS.out.plc.cells
   have f0:=frozen_of_row wr w.heap.size 0 _ _ HS.out.plc
   have f1:=frozen_of_row wr w.heap.size 1 _ _ HS.out.plc
   have f2:=frozen_of_row wr w.heap.size 2 _ _ HS.out.plc
   have f3:=frozen_of_row wr w.heap.size 3 _ _ HS.out.plc
   have hlt' : ¬ (p.b:Int)<(s.size:Int):=by omega
   go_wp2_with fail
   go_region
   go_wp2
   refine bodyPost_ret (v:=_) (by simp [results,Tryz.results46,go_sem,p0,p1,p2,p3];try rfl) rfl ⟨acc,p,_,?_,rfl,((HS.out.place (p' := p)).below (by (repeat' first|with_reducible(first|exact Below.refl _ _|assumption|refine gdrewN ?_ _|refine Below.alloc ?_ ?_ _|refine Below.drew ?_|refine Below.setCell ?_ ?_ _)|go_size))).own,((HS.out.place (p' := p)).below (by (repeat' first|with_reducible(first|exact Below.refl _ _|assumption|refine gdrewN ?_ _|refine Below.alloc ?_ ?_ _|refine Below.drew ?_|refine Below.setCell ?_ ?_ _)|go_size))).bel⟩
   have:=HE.out [] p (.stop p (.inl (by omega)))
   rwa [List.append_nil] at this
def TokO (w w' : World) (q:Nat) (s:ByteArray) (v:Value) (gs:List Gl) (i:Nat) (e:Pl) (r:Ending):TO→Prop
 | .bad k=>k≠0∧r=.returned (.tuple #[tok0,.int .i64 k])∧Tq w w' q
 | .ok kind text rest=>r=.returned (.tuple #[.agg #[.int .i64 kind,.string text,.int .i64 0,.int .i64 0,.int .i64 0,.int .i64 0],.int .i64 0])∧Tq w w' q∧∃ j,i<j∧gs.drop j=rest∧Scn w' q s v gs j e
structure TokV (w w' : World) (q:Nat) (s:ByteArray) (v:Value) (gs:List Gl) (i:Nat) (e:Pl) (kd:Int) (tx:ByteArray) (k:Int) (o:TO):Prop where
 out:TokO w w' q s v gs i e (.returned (.tuple #[.agg #[.int .i64 kd,.string tx,.int .i64 0,.int .i64 0,.int .i64 0,.int .i64 0],.int .i64 k])) o
theorem TokO.v {w w' : World} {q:Nat} {s:ByteArray} {v:Value} {gs:List Gl} {i:Nat} {e:Pl} {r:Ending} {o:TO} (h:TokO w w' q s v gs i e r o):∃ (kd:Int) (tx:ByteArray) (k:Int),r=.returned (.tuple #[.agg #[.int .i64 kd,.string tx,.int .i64 0,.int .i64 0,.int .i64 0,.int .i64 0],.int .i64 k])∧TokV w w' q s v gs i e kd tx k o:=by
 cases o with
 | bad k=>exact ⟨_,_,_,h.2.1,⟨h.1,rfl,h.2.2⟩⟩
 | ok kind text rest=>exact ⟨_,_,_,h.1,⟨rfl,h.2⟩⟩
theorem TokV.six {w w1 w' : World} {q f:Nat} {s:ByteArray} {v:Value} {gs:List Gl} {i:Nat} {e:Pl} {kd:Int} {tx:ByteArray} {k:Int} {o:TO} (h:TokV w1 w' q s v gs i e kd tx k o) (h0:Scn w q s v gs i e) (hb:Below w.heap.size w w1) (hf:w.heap.size≤f) (hqf:q≠f) (u0 u1 u2 u3 u4 u5:Value) :
  TokO w ((((((w'.setCell ⟨f,0,none⟩ u0).setCell ⟨f,1,none⟩ u1).setCell ⟨f,2,none⟩ u2).setCell ⟨f,3,none⟩ u3).setCell ⟨f,4,none⟩ u4).setCell ⟨f,5,none⟩ u5) q s v gs i e (.returned (.tuple #[.agg #[.int .i64 kd,.string tx,.int .i64 0,.int .i64 0,.int .i64 0,.int .i64 0],.int .i64 k])) o:=by
 obtain ⟨h⟩:=h
 cases o with
 | bad c=>exact ⟨h.1,h.2.1,((Tq.of_below hb).trans h.2.2).six hf _ _ _ _ _ _⟩
 | ok kind text rest =>
  obtain ⟨h1,h2,j,h3,h4,h5⟩:=h
  exact ⟨h1,((Tq.of_below hb).trans h2).six hf _ _ _ _ _ _,j,h3,h4,h0.of_tq (((Tq.of_below hb).trans h2).six hf _ _ _ _ _ _) ((aba _ _ _ hqf _ _ _ _ _ _).trans h5.blk) h5.le⟩
theorem adu {α:Type} (p:α→Bool) (l:List α):(l.dropWhile p).length≤l.length:=by
 induction l with
 | nil=>simp
 | cons a l ih =>
  by_cases h:p a=true
  ·rw [List.dropWhile_cons_of_pos h];simp;omega
  ·rw [List.dropWhile_cons_of_neg h];simp
theorem af3 {α:Type} {p:α→Bool} {a:α} {l:List α} (h:p a=true):((a :: l).dropWhile p).length<(a :: l).length:=by
 rw [List.dropWhile_cons_of_pos h]
 have:=adu p l
 simp
 omega
theorem amz {gs:List Gl} {i j:Nat} (hi:i<gs.length) (h:(gs.drop j).length<(gs.drop i).length):i<j:=by
 simp at h
 omega
theorem axt (w:World) (q:Nat) (s:ByteArray) (v:Value) (gs:List Gl) (i:Nat) (e:Pl) (h:Scn w q s v gs i e) (hn:gs.length≤100000) (hQ:Snd s pl0 gs e) (hs:s.size≤4096) (g:Gl) (hd:gs.drop i=g :: gs.drop (i+1)) (hc:gcls g.code=2) :
  Calls Tryz.prog 72 #[.pointer (some ⟨q,0,none⟩)] w fun r w'=>∃ o,TokR s e g (gs.drop (i+1)) o∧TokO w w' q s v gs i e r o:=by
 refine (ato w q s v gs i e h hn hQ (by omega)).mono ?_
 rintro r w' ⟨j,hij,hdj,hS,hT,hr⟩
 have hlt:i<gs.length:=by
  apply Classical.byContradiction
  intro hh
  rw [List.drop_eq_nil_of_le (by omega)] at hd
  cases hd
 have hjl:=hS.le
 have hl:(g :: gs.drop (i+1)).length - ((g :: gs.drop (i+1)).dropWhile (inC [2,3,4])).length=j - i:=by
  rw [←hd,←hdj]
  simp
  omega
 have hj:i<j:=by
  refine amz hlt ?_
  rw [hdj,hd]
  exact af3 (by simp [inC,hc])
 refine ⟨_,af2 hc,?_⟩
 rw [hl]
 rw [hd] at hdj
 rcases hr with ⟨h1,rfl⟩ | ⟨h1,rfl⟩
 ·rw [if_pos h1];exact ⟨by omega,rfl,hT⟩
 ·rw [if_neg (by omega),hd,hdj]
  exact ⟨rfl,hT,j,hj,hdj,hS⟩
theorem atu (w:World) (q:Nat) (s:ByteArray) (v:Value) (gs:List Gl) (i:Nat) (e:Pl) (h:Scn w q s v gs i e) (hn:gs.length≤100000) (hQ:Snd s pl0 gs e) (hs:s.size≤4096) (g:Gl) (hd:gs.drop i=g :: gs.drop (i+1)) (hc:gcls g.code=3) :
  Calls Tryz.prog 73 #[.pointer (some ⟨q,0,none⟩)] w fun r w'=>∃ o,TokR s e g (gs.drop (i+1)) o∧TokO w w' q s v gs i e r o:=by
 have hlt:i<gs.length:=by
  apply Classical.byContradiction
  intro hh
  rw [List.drop_eq_nil_of_le (by omega)] at hd
  cases hd
 have hin:inC [3] g=true:=by simp [inC,hc]
 refine (aol w q s v gs i e h hn hQ hs ?_).mono ?_
 ·have hD:=hQ.drop ad9 (Nat.zero_le _) i h.le
  rw [hd,List.dropWhile_cons_of_pos hin]
  obtain ⟨m,hm,hml⟩:∃ m,(gs.drop (i+1)).dropWhile (inC [3])=(gs.drop i).drop m∧1≤m∧m≤(gs.drop i).length:=by
   refine ⟨(gs.drop i).length - ((gs.drop (i+1)).dropWhile (inC [3])).length,?_,?_,?_⟩
   ·have key:∀ (l:List Gl),l.dropWhile (inC [3])=l.drop (l.length - (l.dropWhile (inC [3])).length):=by
     intro l
     induction l with
     | nil=>rfl
     | cons a l ih =>
      by_cases ha:inC [3] a=true
      ·rw [List.dropWhile_cons_of_pos ha]
       have:=adu (inC [3]) l
       rw [show (a :: l).length - (l.dropWhile (inC [3])).length=(l.length - (l.dropWhile (inC [3])).length)+1 from by simp;omega,List.drop_succ_cons]
       exact ih
      ·rw [List.dropWhile_cons_of_neg ha];simp
    have:=key (gs.drop i)
    rw [hd,List.dropWhile_cons_of_pos hin] at this
    rw [hd]
    exact this
   ·have:=adu (inC [3]) (gs.drop (i+1));simp at this ⊢;omega
   ·omega
  have h2:=hD.1.drop hD.2.1 hD.2.2.2.1 m hml.2
  rw [hm]
  rw [hd] at h2 ⊢
  have h3:=h2.2.2.1
  omega
 rintro r w' ⟨j,hij,hdj,hS,hT,n,ds,hn1,hds,hr⟩
 have hj:i<j:=by
  refine amz hlt ?_
  rw [hdj,hd]
  exact af3 hin
 rw [hd] at hdj hn1 hds
 rw [hdj] at hn1 hds
 refine ⟨_,aec hc hn1 hds,?_⟩
 rcases hr with ⟨h1,rfl⟩ | ⟨h1,rfl⟩
 ·rw [if_pos h1];exact ⟨by omega,rfl,hT⟩
 ·rw [if_neg (by omega)]
  exact ⟨rfl,hT,j,hj,hdj,hS⟩
theorem av5 {g:Gl} (h:gcls g.code=5):gsign (gfold g.code):=by
 apply Classical.byContradiction
 intro hn
 unfold gcls at h
 repeat' split at h
 all_goals first | contradiction | omega
theorem axu (w:World) (q:Nat) (s:ByteArray) (v:Value) (gs:List Gl) (i:Nat) (e:Pl) (h:Scn w q s v gs i e) (hn:gs.length≤100000) (g:Gl) (hg:gs[i]? = some g) (hc:gcls g.code=5) :
  Calls Tryz.prog 74 #[.pointer (some ⟨q,0,none⟩)] w fun r w'=>∃ o,TokR s e g (gs.drop (i+1)) o∧TokO w w' q s v gs i e r o:=by
 have hs:=av5 hc
 suffices H:Calls Tryz.prog 74 #[.pointer (some ⟨q,0,none⟩)] w fun r w'=>TokO w w' q s v gs i e r (signS (gfold g.code) (gs.drop (i+1))) from H.mono (fun r w' h=>⟨_,aca hc,h⟩)
 generalize hcc:gfold g.code=c at hs ⊢
 unfold signS
 by_cases c1:c=8788
 ·rw [if_pos c1]
  refine (ak1 w q s v gs i e h hn g hg c hcc c1).mono ?_
  rintro r w' ⟨hS,hT,rfl⟩
  exact ⟨rfl,hT,i+1,by omega,rfl,hS⟩
 ·rw [if_neg c1]
  by_cases c2:c=8800
  ·rw [if_pos c2]
   refine (al5 w q s v gs i e h hn g hg c hcc c2).mono ?_
   rintro r w' ⟨hS,hT,rfl⟩
   exact ⟨rfl,hT,i+1,by omega,rfl,hS⟩
  ·rw [if_neg c2]
   by_cases c3:c=58∨c=33
   ·rw [if_pos c3]
    by_cases hl:i+1<gs.length
    ·rw [List.drop_eq_getElem_cons hl]
     simp only
     have hg2:gs[i+1]? = some (gs[i+1]'hl):=List.getElem?_eq_getElem hl
     by_cases h61:(gs[i+1]'hl).code=61
     ·rw [if_pos h61]
      rcases c3 with c3 | c3
      ·rw [c3] at hcc ⊢
       refine (aom w q s v gs i e h hn g hg 58 hcc rfl _ hg2 h61).mono ?_
       rintro r w' ⟨hS,hT,rfl⟩
       exact ⟨rfl,hT,i+2,by omega,rfl,hS⟩
      ·rw [c3] at hcc ⊢
       refine (aq4 w q s v gs i e h hn g hg 33 hcc rfl _ hg2 h61).mono ?_
       rintro r w' ⟨hS,hT,rfl⟩
       exact ⟨rfl,hT,i+2,by omega,rfl,hS⟩
     ·rw [if_neg h61]
      rcases c3 with c3 | c3
      ·refine (ahf w q s v gs i e h hn g hg c hcc c3 _ hg2 h61).mono ?_
       rintro r w' ⟨hS,hT,rfl⟩
       exact ⟨by omega,rfl,hT⟩
      ·refine (ah6 w q s v gs i e h hn g hg c hcc c3 _ hg2 h61).mono ?_
       rintro r w' ⟨hS,hT,rfl⟩
       exact ⟨by omega,rfl,hT⟩
    ·rw [List.drop_eq_nil_of_le (by omega)]
     simp only
     rcases c3 with c3 | c3
     ·refine (ah5 w q s v gs i e h hn g hg c hcc c3 (by omega)).mono ?_
      rintro r w' ⟨hS,hT,rfl⟩
      exact ⟨by omega,rfl,hT⟩
     ·refine (ait w q s v gs i e h hn g hg c hcc c3 (by omega)).mono ?_
      rintro r w' ⟨hS,hT,rfl⟩
      exact ⟨by omega,rfl,hT⟩
   ·rw [if_neg c3]
    refine (atp w q s v gs i e h hn g hg c hcc ?_ (by omega) (by omega)).mono ?_
    ·unfold gsign at hs;omega
    rintro r w' ⟨hS,hT,rfl⟩
    exact ⟨rfl,hT,i+1,by omega,rfl,hS⟩
theorem TokV.tq {w w' : World} {q:Nat} {s:ByteArray} {v:Value} {gs:List Gl} {i:Nat} {e:Pl} {kd:Int} {tx:ByteArray} {k:Int} {o:TO} (h:TokV w w' q s v gs i e kd tx k o):Tq w w' q:=by
 obtain ⟨h⟩:=h
 cases o with
 | bad c=>exact h.2.2
 | ok kind text rest=>exact h.2.1
set_option maxRecDepth 20000 in
set_option maxHeartbeats 1000000 in
theorem aq9 (w:World) (q:Nat) (s:ByteArray) (v:Value) (gs:List Gl) (i:Nat) (e:Pl) (h:Scn w q s v gs i e) (hn:gs.length≤100000) (hQ:Snd s pl0 gs e) (hs:s.size≤4096) (g:Gl) (hg:gs[i]? = some g) :
  Calls Tryz.prog 49 #[.pointer (some ⟨q,0,none⟩)] w fun r w'=>∃ o,TokR s e g (gs.drop (i+1)) o∧TokO w w' q s v gs i e r o:=by
 have H:=hide h
 have hi:i<gs.length:=(List.getElem?_eq_some_iff.1 hg).1
 have hd:gs.drop i=g :: gs.drop (i+1):=by
  rw [List.drop_eq_getElem_cons hi]
  congr 1
  rw [List.getElem?_eq_getElem hi] at hg
  exact Option.some.inj hg
 have HD:=hide hd
 obtain ⟨ao,cap,rfl⟩:=h.gls.isSlice
 obtain ⟨b,off,rfl,hG⟩:=h.gls.glyph hg
 obtain ⟨hq,k0,k1,k2,k3,k4,k5,k6⟩:=h.cells
 obtain ⟨hb,g0,g1,g2,g3,g4,g5⟩:=hG
 have hi' : (i:Int)<(gs.length:Int):=by omega
 have HGI:=hide hg
 clear h k0 k3 k4 k5 k6 g0 g2 g3 g4 g5 hd hg
 go_enter Tryz.func49,Tryz.ntmps49
 go_wp2_with fail
 go_quiet (fail)
 have hbq:Below w.heap.size w ((w.alloc (.cells #[.int .i64 0,.string ⟨#[]⟩,.int .i64 0,.int .i64 0,.int .i64 0,.int .i64 0] 64)).drewN nq):=by (repeat' first|with_reducible(first|exact Below.refl _ _|assumption|refine gdrewN ?_ _|refine Below.alloc ?_ ?_ _|refine Below.drew ?_|refine Below.setCell ?_ ?_ _)|go_size)
 have HB:=hide hbq
 have HS1:=hide (H.out.below hbq)
 have HT1:Hid (Tk0B ((w.alloc (.cells #[.int .i64 0,.string ⟨#[]⟩,.int .i64 0,.int .i64 0,.int .i64 0,.int .i64 0] 64)).drewN nq) w.heap.size):=heap_alloc_new w _
 clear hbq k1 k2 g1 hb hi'
 generalize (w.alloc (.cells #[.int .i64 0,.string ⟨#[]⟩,.int .i64 0,.int .i64 0,.int .i64 0,.int .i64 0] 64)).drewN nq=w1 at HB HS1 HT1 ⊢
 generalize hf:w.heap.size=f at *
 have hqf:q≠f:=by omega
 have hfq:f≠q:=by omega
 replace HB:Hid (Below w.heap.size w w1):=by rw [hf];exact HB
 replace hf:w.heap.size≤f:=by omega
 clear hq
 by_cases hc2:gcls g.code=2
 ·have n2:(gcls g.code == 2)=true:=by rw [hc2];rfl
  go_wp2_with fail
  refine (axt _ q s _ gs i e HS1.out hn hQ hs g HD.out hc2).mono ?_
  rintro r w2 ⟨o,ho,hO⟩
  obtain ⟨kd,tx,k,rfl,hV⟩:=hO.v
  have HV:=hide hV
  have HR:=hide ho
  have HT0:=hide (HT1.out.tq (hV.tq) hfq)
  clear hO hV ho
  obtain ⟨hfl,t0,t1,t2,t3,t4,t5,f0,f1,f2,f3,f4,f5⟩:=HT0.out.cells
  go_wp2
  refine bodyPost_ret (v:=_) (by simp [results,Tryz.results49,go_sem,t0,t1,t2,t3,t4,t5];try rfl) rfl ⟨o,HR.out,?_⟩
  exact HV.out.six H.out HB.out hf hqf _ _ _ _ _ _
 by_cases hc3:gcls g.code=3
 ·have n2:(gcls g.code == 2)=false:=beq_eq_false_iff_ne.2 hc2
  have n3:(gcls g.code == 3)=true:=by rw [hc3];rfl
  go_wp2_with fail
  refine (atu _ q s _ gs i e HS1.out hn hQ hs g HD.out hc3).mono ?_
  rintro r w2 ⟨o,ho,hO⟩
  obtain ⟨kd,tx,k,rfl,hV⟩:=hO.v
  have HV:=hide hV
  have HR:=hide ho
  have HT0:=hide (HT1.out.tq (hV.tq) hfq)
  clear hO hV ho
  obtain ⟨hfl,t0,t1,t2,t3,t4,t5,f0,f1,f2,f3,f4,f5⟩:=HT0.out.cells
  go_wp2
  refine bodyPost_ret (v:=_) (by simp [results,Tryz.results49,go_sem,t0,t1,t2,t3,t4,t5];try rfl) rfl ⟨o,HR.out,?_⟩
  exact HV.out.six H.out HB.out hf hqf _ _ _ _ _ _
 by_cases hc5:gcls g.code=5
 ·have n2:(gcls g.code == 2)=false:=beq_eq_false_iff_ne.2 hc2
  have n3:(gcls g.code == 3)=false:=beq_eq_false_iff_ne.2 hc3
  have n5:(gcls g.code == 5)=true:=by rw [hc5];rfl
  go_wp2_with fail
  refine (axu _ q s _ gs i e HS1.out hn g HGI.out hc5).mono ?_
  rintro r w2 ⟨o,ho,hO⟩
  obtain ⟨kd,tx,k,rfl,hV⟩:=hO.v
  have HV:=hide hV
  have HR:=hide ho
  have HT0:=hide (HT1.out.tq (hV.tq) hfq)
  clear hO hV ho
  obtain ⟨hfl,t0,t1,t2,t3,t4,t5,f0,f1,f2,f3,f4,f5⟩:=HT0.out.cells
  go_wp2
  refine bodyPost_ret (v:=_) (by simp [results,Tryz.results49,go_sem,t0,t1,t2,t3,t4,t5];try rfl) rfl ⟨o,HR.out,?_⟩
  exact HV.out.six H.out HB.out hf hqf _ _ _ _ _ _
 ·have n2:(gcls g.code == 2)=false:=beq_eq_false_iff_ne.2 hc2
  have n3:(gcls g.code == 3)=false:=beq_eq_false_iff_ne.2 hc3
  have n5:(gcls g.code == 5)=false:=beq_eq_false_iff_ne.2 hc5
  obtain ⟨hfl,t0,t1,t2,t3,t4,t5,f0,f1,f2,f3,f4,f5⟩:=HT1.out.cells
  go_wp2
  refine bodyPost_ret (v:=_) (by simp [results,Tryz.results49,go_sem,t0,t1,t2,t3,t4,t5];try rfl) rfl ⟨_,aon hc2 hc3 hc5,by omega,rfl,(Tq.of_below HB.out).six hf _ _ _ _ _ _⟩
def tflat:List Tk→List Value
 | []=>[]
 | t :: ts=>.int .i64 t.kind :: .string t.text :: .int .i64 t.pl.b :: .int .i64 t.pl.g :: .int .i64 t.pl.l :: .int .i64 t.pl.c :: tflat ts
theorem af4 (es fs:List Tk):tflat (es ++ fs)=tflat es ++ tflat fs:=by
 induction es with
 | nil=>rfl
 | cons e es ih=>simp [tflat,ih]
def plz:Pl:=⟨0,0,0,0⟩
theorem infoT:(Tryz.prog.info? 64).map (fun i=>(i.zero,i.size,i.bytes))=some (some (.agg #[.int .i64 0,.string ⟨#[]⟩,.int .i64 0,.int .i64 0,.int .i64 0,.int .i64 0]),6,56):=by kernel_rfl
structure ScS (w wr:World) (q f B:Nat) (s:ByteArray) (v:Value) (gs:List Gl) (i:Nat) (e:Pl) (ts:List Tk) (tv:Value):Prop where
 scn:Scn wr q s v gs i e
 own:wr.ownsRow B 64 6 tv ts.length (tflat ts)
 zer:PlB wr f plz
 bel:Below w.heap.size w wr
 siz:B≤wr.heap.size
 fw:w.heap.size≤f
 qw:w.heap.size≤q
 fq:f≠q
 fB:f<B
 qB:q<B
 vB:∀ b off n c,v=.slice (some ⟨b,off,none⟩) n c→b<B
theorem ScS.below {w wr w' : World} {q f B:Nat} {s:ByteArray} {v:Value} {gs:List Gl} {i:Nat} {e:Pl} {ts:List Tk} {tv:Value} (h:ScS w wr q f B s v gs i e ts tv) (hb:Below wr.heap.size wr w'):ScS w w' q f B s v gs i e ts tv :=
 ⟨h.scn.below hb,act h.own hb,h.zer.below hb,h.bel.trans (hb.mono h.bel.size),Nat.le_trans h.siz hb.size,h.fw,h.qw,h.fq,h.fB,h.qB,h.vB⟩
theorem ScS.tq {w wr w' : World} {q f B:Nat} {s:ByteArray} {v:Value} {gs:List Gl} {i j:Nat} {e:Pl} {ts:List Tk} {tv:Value} (h:ScS w wr q f B s v gs i e ts tv) (ht:Tq wr w' q) (hs:Scn w' q s v gs j e):ScS w w' q f B s v gs j e ts tv :=
 ⟨hs,aed h.own fun k _ hk he=>(ht.other k (aaa he) (by have:=h.qB;omega)).trans he,h.zer.tq ht h.fq,ahc h.bel ht h.qw (Nat.le_refl _),Nat.le_trans h.siz ht.size,h.fw,h.qw,h.fq,h.fB,h.qB,h.vB⟩
theorem ScS.more {w wr w1:World} {q f B:Nat} {s:ByteArray} {v:Value} {gs:List Gl} {i:Nat} {e:Pl} {ts:List Tk} {tv tv' : Value} {t:Tk} (h:ScS w wr q f B s v gs i e ts tv) (hg:wr.grownBy w1 tv.ownBlock) (hown:w1.ownsRow B 64 6 tv' (ts ++ [t]).length (tflat (ts ++ [t]))):ScS w w1 q f B s v gs i e (ts ++ [t]) tv' := by
 have hrow:∀ k,k<B→some k≠tv.ownBlock:=by
  intro k hk
  obtain ⟨hl,⟨rfl,_⟩ | ⟨b,cap,cur,rfl,hb,_⟩⟩:=h.own
  ·simp [Value.ownBlock]
  ·simp only [Value.ownBlock,ne_eq,Option.some.injEq]
   omega
 have hz:=h.siz
 have hB:∀ k,k<B→w1.heap[k]? = wr.heap[k]? := fun k hk=>hg.block k (by omega) (hrow k hk)
 have hGs:Gs w1 v gs:=by
  obtain ⟨ao,cap,rfl,h1,h2,h3,h4⟩:=h.scn.gls
  refine ⟨ao,cap,rfl,h1,h2,h3,?_⟩
  rcases h4 with h4 | ⟨b,off,rfl,hl,hc⟩
  ·exact .inl h4
  ·refine .inr ⟨b,off,rfl,Nat.lt_of_lt_of_le hl hg.size,fun j u hu=>?_⟩
   rw [World.cell?_of_block (w:=wr) (hB b (h.vB _ _ _ _ rfl))]
   exact hc j u hu
 exact ⟨⟨(hB q h.qB).trans h.scn.blk,hGs,h.scn.le,h.scn.apt⟩,hown,(hB f h.fB).trans h.zer,⟨hg.os.trans h.bel.os,hg.tape.trans h.bel.tape,hg.output.trans h.bel.output,Nat.le_trans h.bel.size hg.size,fun k hk=>(hB k (by have:=h.fw;have:=h.fB;omega)).trans (h.bel.block k hk)⟩,Nat.le_trans h.siz hg.size,h.fw,h.qw,h.fq,h.fB,h.qB,h.vB⟩
def ScanO (w w' : World) (r:Ending):SO→Prop
 | .bad k p=>r=.returned (.tuple #[.slice none 0 0,.int .i64 k,p.v])
 | .ok l=>∃ v,r=.returned (.tuple #[v,.int .i64 0,plz.v])∧w'.ownsRow w.heap.size 64 6 v l.length (tflat l)
theorem atv (o:SO):o.pres []=o:=by cases o <;> rfl
theorem atw (ts:List Tk) (t:Tk) (o:SO):(o.pre t).pres ts=o.pres (ts ++ [t]):=by
 cases o with
 | bad k p=>rfl
 | ok l=>simp [SO.pre,SO.pres]
set_option maxRecDepth 20000 in
set_option maxHeartbeats 1000000 in
theorem ara (w:World) (s:ByteArray) (hs:4096<s.size) :
  Calls Tryz.prog 24 #[.string s] w fun r w'=>Below w.heap.size w w'∧r=.returned (.tuple #[.slice none 0 0,.int .i64 2,plz.v]):=by
 have hs' : (4096:Int)<(s.size:Int):=by omega
 go_enter Tryz.func24,Tryz.ntmps24
 go_wp2
 refine bodyPost_ret (v:=_) (by simp [results,Tryz.results24,go_sem];try rfl) rfl ⟨?_,rfl⟩
 (repeat' first|with_reducible(first|exact Below.refl _ _|assumption|refine gdrewN ?_ _|refine Below.alloc ?_ ?_ _|refine Below.drew ?_|refine Below.setCell ?_ ?_ _)|go_size)
theorem atx {w:World} {f:Nat} {p p' : Pl} (h:PlB w f p):PlB ((((w.setCell ⟨f,0,none⟩ (.int .i64 p'.b)).setCell ⟨f,1,none⟩ (.int .i64 p'.g)).setCell ⟨f,2,none⟩ (.int .i64 p'.l)).setCell ⟨f,3,none⟩ (.int .i64 p'.c)) f p' := by
 unfold PlB
 rw [heap_setCell_same _ _ 3 _ _ _ (heap_setCell_same _ _ 2 _ _ _ (heap_setCell_same _ _ 1 _ _ _ (heap_setCell_same _ _ 0 _ _ _ h)))]
 simp
theorem aop {B f:Nat} {w w' : World} (h:Below B w w') (hf:B≤f) (u0 u1 u2 u3:Value):Below B w ((((w'.setCell ⟨f,0,none⟩ u0).setCell ⟨f,1,none⟩ u1).setCell ⟨f,2,none⟩ u2).setCell ⟨f,3,none⟩ u3) :=
 (((h.setCell hf _).setCell hf _).setCell hf _).setCell hf _
theorem arb {w w1:World} {s:ByteArray} {ao:Option Addr} {cap:Nat} {gs:List Gl} {e:Pl} (HOWN:w1.ownsRow (w.heap.size+2+2) 118 6 (.slice ao gs.length cap) gs.length (gflat gs)) (HQB:w1.heap[w.heap.size+1]? = some (.cells #[.string s,.slice none 0 0,.int .i64 0,.int .i64 0,.int .i64 0,.int .i64 0,.int .i64 0] 93 (0,0))) (HFB:PlB w1 w.heap.size plz) (HB1:Below w.heap.size w w1) (hs1:w.heap.size+2≤w1.heap.size) :
  ScS w (((((w1.setCell ⟨w.heap.size+1,1,none⟩ (.slice ao gs.length cap)).setCell ⟨w.heap.size+1,3,none⟩ (.int .i64 e.b)).setCell ⟨w.heap.size+1,4,none⟩ (.int .i64 e.g)).setCell ⟨w.heap.size+1,5,none⟩ (.int .i64 e.l)).setCell ⟨w.heap.size+1,6,none⟩ (.int .i64 e.c)) (w.heap.size+1) w.heap.size w1.heap.size s (.slice ao gs.length cap) gs 0 e [] (.slice none 0 0):=by
 have ht:Tq w1 (((((w1.setCell ⟨w.heap.size+1,1,none⟩ (.slice ao gs.length cap)).setCell ⟨w.heap.size+1,3,none⟩ (.int .i64 e.b)).setCell ⟨w.heap.size+1,4,none⟩ (.int .i64 e.g)).setCell ⟨w.heap.size+1,5,none⟩ (.int .i64 e.l)).setCell ⟨w.heap.size+1,6,none⟩ (.int .i64 e.c)) (w.heap.size+1):=(Tq.refl _ _).set 1 _ |>.set 3 _ |>.set 4 _ |>.set 5 _ |>.set 6 _
 have hap:∀ b off n c,Value.slice ao gs.length cap=.slice (some ⟨b,off,none⟩) n c→b≠w.heap.size+1∧b<w1.heap.size:=by
  intro b off n c hv
  obtain ⟨hl,⟨h1,_⟩ | ⟨g,cap',cur,h1,hb,hh,_⟩⟩:=HOWN
  ·rw [h1] at hv;cases hv
  ·rw [h1] at hv
   simp only [Value.slice.injEq,Option.some.injEq,Addr.mk.injEq] at hv
   have:=aaa hh
   omega
 refine ⟨⟨?_,Gs.tq (Ce.own HOWN) ht (fun b off n c hv=>(hap b off n c hv).1),Nat.zero_le _,fun b off n c hv=>(hap b off n c hv).1⟩,World.ownsRow_nil _ _ _ _,HFB.tq ht (by omega),ahc HB1 ht (by omega) (Nat.le_refl _),ht.size,Nat.le_refl _,by omega,by omega,by omega,by omega,fun b off n c hv=>(hap b off n c hv).2⟩
 rw [heap_setCell_same _ _ 6 _ _ _ (heap_setCell_same _ _ 5 _ _ _ (heap_setCell_same _ _ 4 _ _ _ (heap_setCell_same _ _ 3 _ _ _ (heap_setCell_same _ _ 1 _ _ _ HQB))))]
 simp
set_option maxRecDepth 20000 in
set_option maxHeartbeats 4000000 in
theorem aia (w:World) (s:ByteArray) (hT:Tabs w) (hs:s.size≤4096) :
  Calls Tryz.prog 24 #[.string s] w fun r w'=>Below w.heap.size w w'∧∃ gs e o,Snd s pl0 gs e∧ScanR s e gs o∧ScanO w w' r o:=by
 have hs' : decide ((4096:Int)<(s.size:Int))=false:=by simp;omega
 go_enter Tryz.func24,Tryz.ntmps24
 go_wp2_with fail
 refine (aq8 _ _ (hT.below (by (repeat' first|with_reducible(first|exact Below.refl _ _|assumption|refine gdrewN ?_ _|refine Below.alloc ?_ ?_ _|refine Below.drew ?_|refine Below.setCell ?_ ?_ _)|go_size))) hs).mono ?_
 rintro r w1 ⟨gs,e,v,hQ,rfl,hown,hb1⟩
 obtain ⟨ao,cap,rfl⟩:=aq7 hown
 have hsz0:((w.alloc (.cells #[.int .i64 0,.int .i64 0,.int .i64 0,.int .i64 0] 32)).alloc (.cells #[.string s,.slice none 0 0,.int .i64 0,.int .i64 0,.int .i64 0,.int .i64 0,.int .i64 0] 93)).heap.size=w.heap.size+2:=by simp [World.size_alloc]
 have hbq:=hb1
 rw [hsz0] at hown hbq
 have hqb:w1.heap[w.heap.size+1]? = some (.cells #[.string s,.slice none 0 0,.int .i64 0,.int .i64 0,.int .i64 0,.int .i64 0,.int .i64 0] 93 (0,0)):=by
  rw [hbq.block (w.heap.size+1) (by omega)]
  have:=heap_alloc_new (w.alloc (.cells #[.int .i64 0,.int .i64 0,.int .i64 0,.int .i64 0] 32)) (.cells #[.string s,.slice none 0 0,.int .i64 0,.int .i64 0,.int .i64 0,.int .i64 0,.int .i64 0] 93)
  rwa [World.size_alloc] at this
 have hfb:PlB w1 w.heap.size plz:=by
  unfold PlB
  rw [hbq.block w.heap.size (by omega)]
  exact (((Below.refl _ _).alloc (Nat.le_refl _) (.cells #[.string s,.slice none 0 0,.int .i64 0,.int .i64 0,.int .i64 0,.int .i64 0,.int .i64 0] 93)).block w.heap.size (by simp [World.size_alloc])).trans (heap_alloc_new w (.cells #[.int .i64 0,.int .i64 0,.int .i64 0,.int .i64 0] 32))
 have hb1w:Below w.heap.size w w1:=(ac9 w _ _).trans (hbq.mono (by omega))
 have hs1:w.heap.size+2≤w1.heap.size:=by have:=hbq.size;rwa [hsz0] at this
 have HOWN:=hide hown
 have HQB:=hide hqb
 have HFB:=hide hfb
 have HB1:=hide hb1w
 have HQ:=hide hQ
 have k1:w1.cell? ⟨w.heap.size+1,1,none⟩ = some (.slice none 0 0):=by rw [cell_of_row w1 _ 1 _ _ _ hqb];rfl
 have k3:w1.cell? ⟨w.heap.size+1,3,none⟩ = some (.int .i64 0):=by rw [cell_of_row w1 _ 3 _ _ _ hqb];rfl
 have k4:w1.cell? ⟨w.heap.size+1,4,none⟩ = some (.int .i64 0):=by rw [cell_of_row w1 _ 4 _ _ _ hqb];rfl
 have k5:w1.cell? ⟨w.heap.size+1,5,none⟩ = some (.int .i64 0):=by rw [cell_of_row w1 _ 5 _ _ _ hqb];rfl
 have k6:w1.cell? ⟨w.heap.size+1,6,none⟩ = some (.int .i64 0):=by rw [cell_of_row w1 _ 6 _ _ _ hqb];rfl
 have f1:=frozen_of_row w1 (w.heap.size+1) 1 _ _ hqb
 have f3:=frozen_of_row w1 (w.heap.size+1) 3 _ _ hqb
 have f4:=frozen_of_row w1 (w.heap.size+1) 4 _ _ hqb
 have f5:=frozen_of_row w1 (w.heap.size+1) 5 _ _ hqb
 have f6:=frozen_of_row w1 (w.heap.size+1) 6 _ _ hqb
 clear hown hbq hqb hfb hb1 hb1w hsz0 hQ hT
 unfold Pl.v
 go_wp2_with fail
 have hS0:=arb (e:=e) HOWN.out HQB.out HFB.out HB1.out hs1
 clear k1 k3 k4 k5 k6 f1 f3 f4 f5 f6 HOWN HQB HFB HB1
 generalize (((((w1.setCell ⟨w.heap.size+1,1,none⟩ (.slice ao gs.length cap)).setCell ⟨w.heap.size+1,3,none⟩ (.int .i64 e.b)).setCell ⟨w.heap.size+1,4,none⟩ (.int .i64 e.g)).setCell ⟨w.heap.size+1,5,none⟩ (.int .i64 e.l)).setCell ⟨w.heap.size+1,6,none⟩ (.int .i64 e.c))=w2 at hS0 ⊢
 generalize w1.heap.size=B at hS0 hs1
 have hends:=HQ.out.ends ad9 (Nat.zero_le _)
 have hgl:gs.length≤4096:=by simp only [pl0] at hends;omega
 have heb:e.b≤s.size:=hends.2.2.1
 clear hends
 refine (aku w2 _ s _ gs 0 e hS0.scn (by omega)).mono ?_
 rintro r w3 ⟨rfl,ht3,j0,_,hdj0,hS3⟩
 have HS:=hide (hS0.tq ht3 hS3)
 rw [List.drop_zero] at hdj0
 have HD0:=hide hdj0
 clear hS0 ht3 hS3 hdj0
 generalize hq:w.heap.size+1=q at *
 generalize hf:w.heap.size=f at *
 replace hf:w.heap.size≤f:=by omega
 go_wp2
 have hqf:q≠f:=by omega
 have hfq:f≠q:=by omega
 clear hq
 obtain ⟨i0,hi0,hz0,hz1,hz2⟩:=aiu infoT
 go_loopw [6] (fun tv wr=>∃ (ts:List Tk) (i:Nat) (ta:Option Addr) (tc:Nat) (rest:List Gl),tv=.slice ta ts.length tc∧ScS w wr q f B s (.slice ao gs.length cap) gs i e ts (.slice ta ts.length tc)∧ts.length≤i∧gs.drop i=skp false rest∧∀ o,ScanR s e rest o→ScanR s e gs (o.pres ts)) (fun _ wr=>gs.length - nxtS wr q)
 case atStart=>exact ⟨[],j0,none,0,gs,rfl,HS.out,Nat.zero_le _,HD0.out,fun o h=>by rw [atv];exact h⟩
 case round =>
  clear HS HD0
  obtain ⟨ts,i,ta,tc,rest,rfl,hS,hti,hdi,hpre⟩:=hrel
  have HS:=hide hS
  have HE:=hide hpre
  have HDI:=hide hdi
  have IP:=hide hS.scn.nxt
  have hil:=hS.scn.le
  obtain ⟨hq,k0,k1,k2,k3,k4,k5,k6⟩:=hS.scn.cells
  clear hS hpre hdi
  by_cases hj:i<gs.length
  ·have hj' : (i:Int)<(gs.length:Int):=by omega
   have hgi:gs[i]? = some (gs[i]'hj):=List.getElem?_eq_getElem hj
   have hdr:=List.drop_eq_getElem_cons hj
   generalize gs[i]'hj=g at hgi hdr
   have HG:=hide hgi
   have HDR:=hide hdr
   clear hgi hdr
   go_wp2_with fail
   go_quiet (fail)
   have HS1:=hide (HS.out.below (gdrewN (Below.refl _ _) nq))
   clear HS k0 k1 k2 k3 k4 k5 k6 hq
   generalize wr.drewN nq=w1 at HS1 ⊢
   go_wp2_with fail
   refine (aen w1 q s _ gs i e HS1.out.scn).mono ?_
   rintro r w2 ⟨rfl,hb2⟩
   have HS2:=hide (HS1.out.below hb2)
   rw [HDR.out]
   simp only [plf]
   clear hb2 HS1
   unfold Pl.v
   go_wp2_with fail
   have HS3:=hide (HS2.out.below ((Below.refl _ _).alloc (Nat.le_refl _) (.cells #[.int .i64 g.pl.b,.int .i64 g.pl.g,.int .i64 g.pl.l,.int .i64 g.pl.c] 32)))
   have hp3:PlB (w2.alloc (.cells #[.int .i64 g.pl.b,.int .i64 g.pl.g,.int .i64 g.pl.l,.int .i64 g.pl.c] 32)) w2.heap.size g.pl:=heap_alloc_new w2 _
   have ha3:w2.heap.size≠q∧w2.heap.size≠f:=by have:=HS2.out.siz;have:=HS2.out.qB;have:=HS2.out.fB;omega
   clear HS2
   generalize w2.alloc (.cells #[.int .i64 g.pl.b,.int .i64 g.pl.g,.int .i64 g.pl.l,.int .i64 g.pl.c] 32)=w3 at HS3 hp3 ⊢
   generalize w2.heap.size=a7 at ha3 hp3 ⊢
   have HP3:=hide hp3
   clear hp3
   refine (aq9 w3 q s _ gs i e HS3.out.scn (by omega) HQ.out hs g HG.out).mono ?_
   rintro r w4 ⟨o,ho,hO⟩
   obtain ⟨kd,tx,kk,rfl,hV⟩:=hO.v
   have HV:=hide hV
   have HO:=hide ho
   have HP4:=hide (HP3.out.tq hV.tq ha3.1)
   have HZ4:=hide (HS3.out.zer.tq hV.tq hfq)
   have HB4:=hide (ahc HS3.out.bel hV.tq HS3.out.qw (Nat.le_refl _))
   clear hO hV ho HP3
   obtain ⟨hf7,p0,p1,p2,p3⟩:=HP4.out.cells
   by_cases hk:kk=0
   ·subst hk
    cases o with
    | bad k =>
     exfalso
     obtain ⟨h1,h2,_⟩:=HV.out.out
     simp only [tok0,Ending.returned.injEq,Value.tuple.injEq,Array.mk.injEq,List.cons.injEq,Value.int.injEq,true_and,and_true] at h2
     exact h1 h2.2.symm
    | ok kind text rest' =>
     obtain ⟨h2,hT4,j,hij,hdj,hS4⟩:=HV.out.out
     simp only [Ending.returned.injEq,Value.tuple.injEq,Array.mk.injEq,List.cons.injEq,Value.int.injEq,Value.agg.injEq,Value.string.injEq,true_and,and_true] at h2
     obtain ⟨rfl,rfl⟩:=h2
     have HS4:=hide (HS3.out.tq hT4 hS4)
     have HDJ:=hide hdj
     clear hT4 hS4 hdj HS3 HV HZ4 HB4
     have hone:∀ u ∈ ([.int .i64 kd,.string tx,.int .i64 g.pl.b,.int .i64 g.pl.g,.int .i64 g.pl.l,.int .i64 g.pl.c]:List Value),u.oneCell' = true:=by
      intro u hu
      simp only [List.mem_cons,List.not_mem_nil,or_false] at hu
      rcases hu with rfl | rfl | rfl | rfl | rfl | rfl <;> rfl
     have hown:=act (act HS4.out.own ((Below.refl _ _).alloc (Nat.le_refl _) (.cells #[.int .i64 kd,.string tx,.int .i64 g.pl.b,.int .i64 g.pl.g,.int .i64 g.pl.l,.int .i64 g.pl.c] 64))) ((Below.refl _ _).alloc (Nat.le_refl _) (.cells #[.int .i64 kd,.string tx,.int .i64 g.pl.b,.int .i64 g.pl.g,.int .i64 g.pl.l,.int .i64 g.pl.c] 64))
     have hsz:=HS4.out.siz
     go_wp2_with (at_builtin;refine wpList_append_lies _ rfl (.tmp 55) (.tmp 57) 54 rfl B 64 i0 _ 6 56 Tryz.underlying54 hi0 hz0 hz1 hz2 rfl (by decide) (.slice ta ts.length tc) ts.length (tflat ts) (by simp [Act.eval]) hown ⟨w4.heap.size+1,0,none⟩ 1 1 [.int .i64 kd,.string tx,.int .i64 g.pl.b,.int .i64 g.pl.g,.int .i64 g.pl.l,.int .i64 g.pl.c] (by simp [Act.eval]) rfl (by have:=World.news_of_block (heap_alloc_new (w4.alloc (.cells #[.int .i64 kd,.string tx,.int .i64 g.pl.b,.int .i64 g.pl.g,.int .i64 g.pl.l,.int .i64 g.pl.c] 64)) (.cells #[.int .i64 kd,.string tx,.int .i64 g.pl.b,.int .i64 g.pl.g,.int .i64 g.pl.l,.int .i64 g.pl.c] 64));rwa [World.size_alloc] at this) hone (by omega) (by unfold maxLen;omega) (by omega) (by simp [World.size_alloc];omega) _ rfl ?_;intro g1 cap1 w5 hown5 hgrow5 hat5 hlt5)
     have HS5:=hide ((HS4.out.below (ac9 _ _ _)).more (t:=⟨kd,tx,g.pl⟩) hgrow5 (by simpa [af4,tflat] using hown5))
     clear hown5 hgrow5 hat5 hlt5 hown hone hsz HS4
     refine (aku w5 q s _ gs j e HS5.out.scn (by omega)).mono ?_
     rintro r w6 ⟨rfl,ht6,j6,hj6,hdj6,hS6⟩
     have HS6:=hide (HS5.out.tq ht6 hS6)
     have HD6:=hide hdj6
     clear ht6 hS6 hdj6 HS5
     go_wp2
     go_roundw
     case rel =>
      refine ⟨ts ++ [⟨kd,tx,g.pl⟩],j6,some ⟨g1,0,none⟩,cap1,rest',by simp,?_,by simp;omega,by rw [HD6.out,HDJ.out],?_⟩
      ·have:=HS6.out
       simpa using this
      ·intro o ho
       have h1:=HE.out _ (ScanR.tok rest g (gs.drop (i+1)) kd tx rest' o (by rw [←HDI.out,HDR.out]) HO.out ho)
       rwa [atw] at h1
     case measure=>rw [IP.out,HS6.out.scn.nxt];have:=HS6.out.scn.le;omega
   ·have hk' : (kk != 0)=true:=by simp [hk]
    cases o with
    | ok kind text rest' =>
     exfalso
     obtain ⟨h2,_⟩:=HV.out.out
     simp only [Ending.returned.injEq,Value.tuple.injEq,Array.mk.injEq,List.cons.injEq,Value.int.injEq,Value.agg.injEq,Value.string.injEq,true_and,and_true] at h2
     exact hk h2.2
    | bad k =>
     obtain ⟨h1,h2,_⟩:=HV.out.out
     simp only [tok0,Ending.returned.injEq,Value.tuple.injEq,Array.mk.injEq,List.cons.injEq,Value.int.injEq,Value.agg.injEq,Value.string.injEq,true_and,and_true] at h2
     have hkk:kk=k:=h2.2
     have HKK:=hide hkk
     clear h2 hkk HV
     obtain ⟨hff,y0,y1,y2,y3⟩:=HZ4.out.cells
     have f0:=frozen_of_row w4 f 0 _ _ HZ4.out
     have f1:=frozen_of_row w4 f 1 _ _ HZ4.out
     have f2:=frozen_of_row w4 f 2 _ _ HZ4.out
     have f3:=frozen_of_row w4 f 3 _ _ HZ4.out
     go_wp2_with fail
     go_region
     go_wp2
     have hX:PlB ((((((w4.setCell ⟨f,0,none⟩ (.int .i64 g.pl.b)).setCell ⟨f,1,none⟩ (.int .i64 g.pl.g)).setCell ⟨f,2,none⟩ (.int .i64 g.pl.l)).setCell ⟨f,3,none⟩ (.int .i64 g.pl.c)).alloc (.cells #[.int .i64 kd,.string tx,.int .i64 0,.int .i64 0,.int .i64 0,.int .i64 0] 64)).drew) f g.pl:=(atx HZ4.out).below (((Below.refl _ _).alloc (Nat.le_refl _) _).drew)
     have hXB:Below w.heap.size w ((((((w4.setCell ⟨f,0,none⟩ (.int .i64 g.pl.b)).setCell ⟨f,1,none⟩ (.int .i64 g.pl.g)).setCell ⟨f,2,none⟩ (.int .i64 g.pl.l)).setCell ⟨f,3,none⟩ (.int .i64 g.pl.c)).alloc (.cells #[.int .i64 kd,.string tx,.int .i64 0,.int .i64 0,.int .i64 0,.int .i64 0] 64)).drew):=((aop HB4.out hf _ _ _ _).alloc (by have:=HB4.out.size;simpa [World.setCell] using this) _).drew
     generalize ((((((w4.setCell ⟨f,0,none⟩ (.int .i64 g.pl.b)).setCell ⟨f,1,none⟩ (.int .i64 g.pl.g)).setCell ⟨f,2,none⟩ (.int .i64 g.pl.l)).setCell ⟨f,3,none⟩ (.int .i64 g.pl.c)).alloc (.cells #[.int .i64 kd,.string tx,.int .i64 0,.int .i64 0,.int .i64 0,.int .i64 0] 64)).drew)=wf at hX hXB ⊢
     obtain ⟨_,x0,x1,x2,x3⟩:=hX.cells
     refine bodyPost_ret (v:=_) (by simp [results,Tryz.results24,go_sem,x0,x1,x2,x3];try rfl) rfl ⟨hXB,gs,e,.bad k g.pl,HQ.out,HE.out _ (ScanR.bad rest g (gs.drop (i+1)) k (by rw [←HDI.out,HDR.out]) HO.out),?_⟩
     show _ = _
     rw [HKK.out]
     rfl
  ·have hdr:gs.drop i = []:=List.drop_eq_nil_of_le (by omega)
   rw [hdr] at HDI
   have hj' : decide ((i:Int)<(gs.length:Int))=false:=by simp;omega
   clear hdr
   by_cases hbe:e.b<s.size
   ·have hbe' : (e.b:Int)<(s.size:Int):=by omega
    obtain ⟨hff,y0,y1,y2,y3⟩:=HS.out.zer.cells
    have f0:=frozen_of_row wr f 0 _ _ HS.out.zer
    have f1:=frozen_of_row wr f 1 _ _ HS.out.zer
    have f2:=frozen_of_row wr f 2 _ _ HS.out.zer
    have f3:=frozen_of_row wr f 3 _ _ HS.out.zer
    go_wp2_with fail
    go_quiet (fail)
    go_wp2_with fail
    go_region
    go_wp2
    refine bodyPost_ret (v:=_) (by simp [results,Tryz.results24,go_sem,y0,y1,y2,y3];try rfl) rfl ⟨?_,gs,e,.bad 40 e,HQ.out,HE.out _ (ScanR.rune rest HDI.out.symm hbe),rfl⟩
    have hB:=HS.out.bel
    (repeat' first|with_reducible(first|exact Below.refl _ _|assumption|refine gdrewN ?_ _|refine Below.alloc ?_ ?_ _|refine Below.drew ?_|refine Below.setCell ?_ ?_ _)|go_size)
   ·have hbe' : decide ((e.b:Int)<(s.size:Int))=false:=by simp;omega
    have hone:∀ u ∈ ([.int .i64 0,.string ⟨#[]⟩,.int .i64 e.b,.int .i64 e.g,.int .i64 e.l,.int .i64 e.c]:List Value),u.oneCell' = true:=by
     intro u hu
     simp only [List.mem_cons,List.not_mem_nil,or_false] at hu
     rcases hu with rfl | rfl | rfl | rfl | rfl | rfl <;> rfl
    go_wp2_with fail
    go_quiet (fail)
    have HS1:=hide (HS.out.below (gdrewN (Below.refl _ _) nq))
    clear HS k0 k1 k2 k3 k4 k5 k6 hq
    generalize wr.drewN nq=w1 at HS1 ⊢
    obtain ⟨hq,k0,k1,k2,k3,k4,k5,k6⟩:=HS1.out.scn.cells
    have hown:=act HS1.out.own ((Below.refl _ _).alloc (Nat.le_refl _) (.cells #[.int .i64 0,.string ⟨#[]⟩,.int .i64 e.b,.int .i64 e.g,.int .i64 e.l,.int .i64 e.c] 64))
    have hsz:=HS1.out.siz
    go_wp2_with (at_builtin;refine wpList_append_lies _ rfl (.tmp 71) (.tmp 77) 54 rfl B 64 i0 _ 6 56 Tryz.underlying54 hi0 hz0 hz1 hz2 rfl (by decide) (.slice ta ts.length tc) ts.length (tflat ts) (by simp [Act.eval]) hown ⟨w1.heap.size,0,none⟩ 1 1 [.int .i64 0,.string ⟨#[]⟩,.int .i64 e.b,.int .i64 e.g,.int .i64 e.l,.int .i64 e.c] (by simp [Act.eval]) rfl (World.news_of_block (heap_alloc_new w1 (.cells #[.int .i64 0,.string ⟨#[]⟩,.int .i64 e.b,.int .i64 e.g,.int .i64 e.l,.int .i64 e.c] 64))) hone (by omega) (by unfold maxLen;omega) (by omega) (by simp [World.size_alloc];omega) _ rfl ?_;intro g1 cap1 w5 hown5 hgrow5 hat5 hlt5;have HS5:=hide ((HS1.out.below ((Below.refl _ _).alloc (Nat.le_refl _) _)).more (t:=⟨0,⟨#[]⟩,e⟩) hgrow5 (by simpa [af4,tflat] using hown5));obtain ⟨hff,y0,y1,y2,y3⟩:=HS5.out.zer.cells;have f0:=frozen_of_row w5 f 0 _ _ HS5.out.zer;have f1:=frozen_of_row w5 f 1 _ _ HS5.out.zer;have f2:=frozen_of_row w5 f 2 _ _ HS5.out.zer;have f3:=frozen_of_row w5 f 3 _ _ HS5.out.zer;clear hown5 hgrow5 hat5 hlt5)
    refine bodyPost_ret (v:=.tuple #[.slice (some ⟨g1,0,none⟩) (ts.length+1) cap1,.int .i64 0,plz.v]) (by simp [results,Tryz.results24,go_sem,y0,y1,y2,y3,plz,Pl.v]) rfl ⟨?_,gs,e,.ok (ts ++ [(⟨0,⟨#[]⟩,e⟩:Tk)]),HQ.out,HE.out _ (ScanR.done rest HDI.out.symm (by omega)),_,rfl,?_⟩
    ·have hB:=HS5.out.bel
     (repeat' first|with_reducible(first|exact Below.refl _ _|assumption|refine gdrewN ?_ _|refine Below.alloc ?_ ?_ _|refine Below.drew ?_|refine Below.setCell ?_ ?_ _)|go_size)
    ·have e5:(ts ++ [(⟨0,⟨#[]⟩,e⟩:Tk)]).length=ts.length+1:=by simp
     have h5:=HS5.out.own
     rw [e5] at h5 ⊢
     refine att (aed h5 ?_) (show w.heap.size≤B by omega)
     intro k o hk he
     have hkf:k≠f:=by omega
     rw [heap_setCell_other _ ⟨f,3,none⟩ k _ hkf,heap_setCell_other _ ⟨f,2,none⟩ k _ hkf,heap_setCell_other _ ⟨f,1,none⟩ k _ hkf,heap_setCell_other _ ⟨f,0,none⟩ k _ hkf]
     exact he
theorem arc {n b0 b1 b2 b3:Nat} (_h0:b0<256) (_h1:b1<256) (_h2:b2<256) (_h3:b3<256) {c k:Nat} (h:Lib.decodeN n b0 b1 b2 b3=(c,k)) (hv:(c,k)≠(65533,1)) :
  (k=1∧c=b0∧c<128)∨(k=2∧128≤c∧c<2048∧b0=192+c / 64∧b1=128+c % 64) ∨
  (k=3∧2048≤c∧c<65536∧b0=224+c / 4096∧b1=128+c / 64 % 64∧b2=128+c % 64) ∨
  (k=4∧65536≤c∧c≤1114111∧b0=240+c / 262144∧b1=128+c / 4096 % 64∧b2=128+c / 64 % 64∧b3=128+c % 64):=by
 unfold Lib.decodeN at h
 repeat' split at h
 all_goals try exact absurd h.symm hv
 all_goals (simp only [Prod.mk.injEq] at h;obtain ⟨rfl,rfl⟩:=h)
 ·exact .inl (by omega)
 ·exact .inr (.inl (by omega))
 ·exact .inr (.inr (.inl (by omega)))
 ·exact .inr (.inr (.inr (by omega)))
theorem ach (s:ByteArray) (i:Nat) (h:i<s.size) (k:Nat) (hk:i+(k+1)≤s.size):(s.extract i (i+(k+1))).data.toList=s.get! i :: (s.extract (i+1) (i+1+k)).data.toList:=by
 have hl:i<s.data.toList.length:=h
 rw [ByteArray.data_extract,ByteArray.data_extract,Array.toList_extract,Array.toList_extract,List.extract_eq_take_drop,List.extract_eq_take_drop,List.drop_eq_getElem_cons hl,show i+(k+1) - i=k+1 from by omega,show i+1+k - (i+1)=k from by omega,List.take_succ_cons]
 congr 1
 cases s with
 | mk d=>exact (getElem!_pos d i h).symm
theorem agm (s:ByteArray) (i:Nat):(s.extract i (i+0)).data.toList = []:=by
 rw [ByteArray.data_extract];simp
theorem axv {s:ByteArray} {l:List UInt8} (h:s.data.toList=l):s=⟨l.toArray⟩:=by
 cases s with
 | mk d=>subst h;simp
theorem abi {s:ByteArray} {p e:Pl} {gs:List Gl} {c k:Nat} (h:p.b<s.size) (hd:Utf8.decode s p.b=(c,k)) (hc:(c,k)≠(65533,1)) (hr:Snd s (p.past c k) gs e):Snd s p (⟨c,p⟩ :: gs) e:=by
 have:=Snd.go p gs e h (by rw [hd];exact hc) (by rw [hd];exact hr)
 rwa [hd] at this
theorem aee {s:ByteArray} {e:Pl} {g:Gl} {r t:List Gl} {x:ByteArray} (h:gcls g.code=2) (ht:(g :: r).dropWhile (inC [2,3,4])=t) (hl:¬ 16<(g :: r).length - t.length) (hx:s.extract g.pl.b (plf t e).b=x):TokR s e g r (.ok 1 x t):=by
 have:=af2 (s:=s) (e:=e) (r:=r) h
 rwa [ht,if_neg hl,hx] at this
def Ts (w:World) (v:Value) (l:List Tk):Prop:=Ce w v 6 l.length (tflat l)
theorem Ts.below {w w' : World} {v:Value} {l:List Tk} (h:Ts w v l) (hb:Below w.heap.size w w'):Ts w' v l:=Ce.below h hb
theorem aty {l:List Tk} {i:Nat} {t:Tk} (h:l[i]? = some t):(tflat l)[i*6]? = some (.int .i64 t.kind)∧(tflat l)[i*6+1]? = some (.string t.text)∧(tflat l)[i*6+2]? = some (.int .i64 t.pl.b)∧(tflat l)[i*6+3]? = some (.int .i64 t.pl.g)∧(tflat l)[i*6+4]? = some (.int .i64 t.pl.l)∧(tflat l)[i*6+5]? = some (.int .i64 t.pl.c):=by
 induction l generalizing i with
 | nil=>simp at h
 | cons u l ih =>
  cases i with
  | zero =>
   simp at h
   subst h
   simp [tflat]
  | succ i =>
   have:=ih (i:=i) (by simpa using h)
   simp only [tflat,show (i+1)*6=i*6+6 from by omega]
   simpa using this
structure TkC (w:World) (b o:Nat) (t:Tk):Prop where
 hb:b<w.heap.size
 g0:w.cell? ⟨b,o,none⟩ = some (.int .i64 t.kind)
 g1:w.cell? ⟨b,o+1,none⟩ = some (.string t.text)
 g2:w.cell? ⟨b,o+2,none⟩ = some (.int .i64 t.pl.b)
 g3:w.cell? ⟨b,o+3,none⟩ = some (.int .i64 t.pl.g)
 g4:w.cell? ⟨b,o+4,none⟩ = some (.int .i64 t.pl.l)
 g5:w.cell? ⟨b,o+5,none⟩ = some (.int .i64 t.pl.c)
theorem TkC.below {w w' : World} {b o:Nat} {t:Tk} (h:TkC w b o t) (hb:Below w.heap.size w w'):TkC w' b o t :=
 ⟨Nat.lt_of_lt_of_le h.hb hb.size,(hb.cell (p:=⟨b,o,none⟩) h.hb).trans h.g0,(hb.cell (p:=⟨b,o+1,none⟩) h.hb).trans h.g1,(hb.cell (p:=⟨b,o+2,none⟩) h.hb).trans h.g2,(hb.cell (p:=⟨b,o+3,none⟩) h.hb).trans h.g3,(hb.cell (p:=⟨b,o+4,none⟩) h.hb).trans h.g4,(hb.cell (p:=⟨b,o+5,none⟩) h.hb).trans h.g5⟩
theorem Ts.tok {w:World} {ao:Option Addr} {n cap:Nat} {l:List Tk} {i:Nat} {t:Tk} (h:Ts w (.slice ao n cap) l) (hg:l[i]? = some t):∃ b off,ao=some ⟨b,off,none⟩∧TkC w b (off+i*6) t:=by
 obtain ⟨ao',cap',hv,c1,c2,c3,c4⟩:=h
 obtain ⟨rfl,rfl,rfl⟩:=(Value.slice.injEq .. ▸ hv)
 have hk:i<l.length:=(List.getElem?_eq_some_iff.1 hg).1
 rcases c4 with c4 | ⟨b,off,rfl,hl,hc⟩
 ·omega
 ·obtain ⟨f0,f1,f2,f3,f4,f5⟩:=aty hg
  exact ⟨b,off,rfl,hl,hc _ _ f0,hc _ _ f1,hc _ _ f2,hc _ _ f3,hc _ _ f4,hc _ _ f5⟩
theorem Ts.parts {w:World} {v:Value} {l:List Tk} (h:Ts w v l):∃ ao cap,v=.slice ao l.length cap∧l.length≤9223372036854775807:=by
 obtain ⟨ao,cap,rfl,c1,c2,c3,c4⟩:=h
 exact ⟨ao,cap,rfl,by omega⟩
theorem Ts.own {w:World} {base:Nat} {v:Value} {l:List Tk} (h:w.ownsRow base 64 6 v l.length (tflat l)):Ts w v l:=Ce.own h
def kx (t:Tk):Int × ByteArray:=(t.kind,t.text)
theorem atz {n b0 b1 b2 b3:Nat} (h0:b0<256) {c k:Nat} (h:Lib.decodeN n b0 b1 b2 b3=(c,k)) (hv:(c,k)≠(65533,1)):Cod c:=by
 unfold Lib.decodeN at h
 repeat' split at h
 all_goals try exact absurd h.symm hv
 all_goals (simp only [Prod.mk.injEq] at h;obtain ⟨rfl,rfl⟩:=h)
 all_goals (unfold Cod;omega)
theorem adp {u:UInt8} {n:Nat} (h:u.toNat=n):u=n.toUInt8:=by
 subst h
 exact UInt8.toNat_inj.1 (by rw [Nat.toUInt8,UInt8.toNat_ofNat'];have:=UInt8.toNat_lt u;omega)
theorem ard (s:ByteArray) (i:Nat) (h:i<s.size) (hv:Utf8.decode s i≠(65533,1)):Cod (Utf8.decode s i).1∧(s.extract i (i+(Utf8.decode s i).2)).data.toList=encL (Utf8.decode s i).1∧(Utf8.decode s i).2=(encL (Utf8.decode s i).1).length:=by
 have hl:=ad8 s i h
 obtain ⟨c,k,e⟩:∃ c k,Utf8.decode s i=(c,k):=⟨_,_,rfl⟩
 rw [e] at hv hl ⊢
 rw [Lib.decode_at] at e
 simp only at hl ⊢
 refine ⟨atz (UInt8.toNat_lt _) e hv,?_⟩
 rcases arc (UInt8.toNat_lt _) (UInt8.toNat_lt _) (UInt8.toNat_lt _) (UInt8.toNat_lt _) e hv with ⟨rfl,h1,h2⟩ | ⟨rfl,h1,h2,h3,h4⟩ | ⟨rfl,h1,h2,h3,h4,h5⟩ | ⟨rfl,h1,h2,h3,h4,h5,h6⟩
 ·unfold encL
  rw [if_pos h2,ach s i h 0 (by omega),agm,adp h1.symm]
  exact ⟨rfl,rfl⟩
 ·unfold encL
  rw [if_neg (by omega),if_pos h2,ach s i h 1 (by omega),ach s (i+1) (by omega) 0 (by omega),agm,adp h3,adp h4]
  exact ⟨rfl,rfl⟩
 ·unfold encL
  rw [if_neg (by omega),if_neg (by omega),if_pos h2,ach s i h 2 (by omega),ach s (i+1) (by omega) 1 (by omega),ach s (i+1+1) (by omega) 0 (by omega),agm,adp h3,adp h4,adp h5]
  exact ⟨rfl,rfl⟩
 ·unfold encL
  rw [if_neg (by omega),if_neg (by omega),if_neg (by omega),ach s i h 3 (by omega),ach s (i+1) (by omega) 2 (by omega),ach s (i+1+1) (by omega) 1 (by omega),ach s (i+1+1+1) (by omega) 0 (by omega),agm,adp h3,adp h4,adp h5,adp h6]
  exact ⟨rfl,rfl⟩
theorem arf {s:ByteArray} {p e:Pl} {gs:List Gl} (h:Snd s p gs e) (he:s.size≤e.b) (hb:p.b≤s.size):∃ cs,gs=glf p cs∧e=adv p cs∧(∀ c ∈ cs,Cod c)∧(s.data.toList.drop p.b)=encs cs:=by
 induction h with
 | stop p h =>
  refine ⟨[],rfl,rfl,by simp,?_⟩
  rw [List.drop_eq_nil_of_le (by show s.data.toList.length≤p.b;exact he)]
  rfl
 | go p gs e h1 h2 hr ih =>
  have hd:=ad8 s p.b h1
  obtain ⟨k1,k2,k3⟩:=ard s p.b h1 h2
  obtain ⟨cs,i1,i2,i3,i4⟩:=ih he (by simp only [Pl.past];omega)
  rw [k3] at i1 i2
  refine ⟨(Utf8.decode s p.b).1 :: cs,by rw [i1];rfl,by rw [i2];rfl,?_,?_⟩
  ·intro c hc
   rcases List.mem_cons.1 hc with rfl | hc
   ·exact k1
   ·exact i3 c hc
  ·rw [encs,←i4,←k2,ByteArray.data_extract,Array.toList_extract,List.extract_eq_take_drop,show p.b+(Utf8.decode s p.b).2 - p.b=(Utf8.decode s p.b).2 from by omega]
   simp only [Pl.past]
   rw [←List.drop_drop,List.take_append_drop]
theorem arg {s:ByteArray} {e:Pl} {gs:List Gl} {l:List Tk} (h:ScanR s e gs (.ok l)):s.size≤e.b:=by
 generalize ho:SO.ok l=o at h
 induction h generalizing l with
 | done r h hb=>exact hb
 | rune r h hb=>cases ho
 | bad r g t k h ht=>cases ho
 | tok r g t kind text rest o h ht hr ih =>
  cases o with
  | bad k p=>cases ho
  | ok l'=>exact ih rfl
theorem at0 {s:ByteArray} {e:Pl} {g:Gl} {r:List Gl} {k:Int} (h:TokR s e g r (.bad k)):k=42∨k=2∨k=41:=by
 unfold TokR at h
 split at h
 ·split at h
  ·injection h with h;exact .inl h
  ·cases h
 ·split at h
  ·obtain ⟨n,ds,_,_,h⟩:=h
   split at h
   ·injection h with h;exact .inr (.inl h)
   ·cases h
  ·split at h
   ·unfold signS at h
    split at h
    ·cases h
    ·split at h
     ·cases h
     ·split at h
      ·split at h
       ·injection h with h;exact .inr (.inr h)
       ·split at h
        ·cases h
        ·injection h with h;exact .inr (.inr h)
      ·cases h
   ·injection h with h;exact .inr (.inr h)
theorem arh {s:ByteArray} {e:Pl} {gs:List Gl} {k:Int} {p:Pl} (h:ScanR s e gs (.bad k p)):k≠0:=by
 generalize ho:SO.bad k p=o at h
 induction h with
 | done r h hb=>cases ho
 | rune r h hb=>injection ho with e1 _;omega
 | bad r g t k' h ht =>
  injection ho with e1 _
  subst e1
  rcases at0 ht with h | h | h <;> omega
 | tok r g t kind text rest o h ht hr ih =>
  cases o with
  | bad k' p'=>exact ih ho
  | ok l'=>cases ho
end Lm
end Go.Proofs.YtdjgifcmhafppaaGreatDoor
namespace Go.Proofs.YtdjgifcmhafppaaGreatDoor
namespace Lm
open Go Go.RowKit
def Asc (cs:List Nat):Prop:=∀ c ∈ cs,32≤c∧c<127
theorem Asc.cod {cs:List Nat} (h:Asc cs):∀ c ∈ cs,Cod c:=fun c hc=>by
 have:=h c hc
 unfold Cod
 omega
end Lm
end Go.Proofs.YtdjgifcmhafppaaGreatDoor
namespace Go.Proofs
open Go.Shelf
shelf_lay Lays.n169 Nm 169 at Tryz as Tryz.lays169
namespace YtdjgifcmhafppaaGreatDoor
namespace Lm
open Go Go.RowKit
theorem aiv:Builder.Extra Tryz.prog Tryz.lays169_ren where
 sizeBuilder:=by kernel_rfl
 liesBuilder:=by kernel_rfl
 t5:=Tryz.underlying5
 a5:=Tryz.isAgg5
 z5:=Tryz.sizeOf5
 v5:=Tryz.zeroValue5
 infoByte:=by kernel_rfl
 cellsByte:=by kernel_rfl
 sizeByte:=by kernel_rfl
 neB5:=by decide
def Bld (w:World) (B b:Nat) (l:List UInt8):Prop:=Lib.IsBuilderF 84 5 B b (Lib.byteCells l) w
theorem bsize:(Tryz.prog.info? 84).map (·.size)=some 2:=by kernel_rfl
theorem blies:liesAt Tryz.prog Tryz.prog.depth 84 (2 / Tryz.prog.cellsOf 84) 0 84 1=true:=by kernel_rfl
set_option maxRecDepth 20000 in
set_option maxHeartbeats 1000000 in
set_option maxRecDepth 100000 in
theorem ama (b:Nat) (w:World) (h0:w.cell? ⟨b,0,none⟩ = some (.pointer (some ⟨b,0,none⟩))) :
  Calls Tryz.prog 68 #[.pointer (some ⟨b,0,none⟩)] w fun e w'=>e=.returned (.tuple #[])∧w' = w:=by
 obtain ⟨j,hj,_⟩:=Option.map_eq_some_iff.1 bsize
 go_enter Tryz.func68,Tryz.ntmps68
 go_wp2
 rw [Lib.run_neq_ptr_same w _ Tryz.underlying81 hj]
 go_wp2
 go_end0
 exact ⟨rfl,rfl⟩
set_option maxRecDepth 20000 in
set_option maxHeartbeats 1000000 in
set_option maxRecDepth 100000 in
theorem ak6 (b:Nat) (w:World) (h0:w.cell? ⟨b,0,none⟩ = some (.pointer none)) (hsh:w.shape? b=some (84,2)) (hfz:w.frozen? ⟨b,0,none⟩ = false) :
  Calls Tryz.prog 68 #[.pointer (some ⟨b,0,none⟩)] w fun e w'=>e=.returned (.tuple #[])∧w' = w.setCell ⟨b,0,none⟩ (.pointer (some ⟨b,0,none⟩)):=by
 obtain ⟨j,hj,hjs⟩:=Option.map_eq_some_iff.1 bsize
 go_enter Tryz.func68,Tryz.ntmps68
 go_wp2
 rw [Lib.run_to_unsafe w ⟨b,0,none⟩ Tryz.underlying81 Tryz.underlying130 hj (by rw [hjs];decide) hsh (Nat.zero_lt_succ 1)]
 simp only [Result.andThen]
 rw [Oper.upon_value]
 go_wp2
 rw [run_callFunc_extern Tryz.func87 (by kernel_rfl) (by kernel_rfl) (by kernel_rfl) (e:=Extern.AbiNoEscape.same) (by kernel_rfl)]
 rw [Lib.run_noEscape]
 simp only [Result.andThen]
 rw [Oper.upon_value]
 go_wp2
 rw [Lib.run_from_unsafe w ⟨b,0,none⟩ Tryz.underlying130 Tryz.underlying81 hj hsh blies]
 simp only [Result.andThen]
 rw [Oper.upon_value]
 go_wp2
 go_end0
 exact ⟨rfl,rfl⟩
theorem bcheck (B b:Nat) (l:List UInt8) (w:World) (h:Bld w B b l) :
  Calls Tryz.prog 68 #[.pointer (some ⟨b,0,none⟩)] w fun e w'=>e=.returned (.tuple #[])∧(Lib.BuilderAtF 84 5 B b (.pointer (some ⟨b,0,none⟩)) (Lib.byteCells l) w'∧Below B w w'∧Lib.OthersKept 5 (some b) w w'):=by
 rcases h with h | h
 ·refine (ak6 b w h.cell0 h.shape h.frozen0).mono ?_
  rintro e w' ⟨rfl,rfl⟩
  exact ⟨rfl,h.used _,(Below.refl B w).setCell (p:=⟨b,0,none⟩) h.1 _,(Lib.OthersKept.refl _ _ w).setCell ⟨b,0,none⟩ rfl _⟩
 ·refine (ama b w h.cell0).mono ?_
  rintro e w' ⟨rfl,rfl⟩
  exact ⟨rfl,h,Below.refl B _,Lib.OthersKept.refl _ _ _⟩
theorem binfo:∃ i0,Tryz.prog.info? 5=some i0∧i0.zero=some (.int .u8 0)∧i0.size=1∧i0.bytes=1:=by
 obtain ⟨i0,h1,h2,h3,h4⟩:=info_parts aiv.infoByte
 exact ⟨i0,h1,h2,h3,h4⟩
set_option maxRecDepth 20000 in
set_option maxHeartbeats 2000000 in
set_option maxRecDepth 100000 in
theorem bwstr (B b:Nat) (l:List UInt8) (s:ByteArray) (w:World) (h:Bld w B b l) (hlen:l.length+s.size≤140737488355328) (hBw:B≤w.heap.size) :
  Calls Tryz.prog 44 #[.pointer (some ⟨b,0,none⟩),.string s] w fun e w'=>e=.returned (.tuple #[.int .i64 s.size,.nilIface])∧Bld w' B b (l ++ s.data.toList)∧Below B w w'∧Lib.OthersKept 5 (some b) w w' := by
 obtain ⟨i0,hi,hz0,hz1,hz2⟩:=binfo
 have hbl:(Lib.byteCells l).length=l.length:=Lib.byteCells_length l
 have HL:=hide hbl
 have HH:=hide h
 clear hbl h
 go_enter Tryz.func44,Tryz.ntmps44
 go_wp2_with fail
 refine (bcheck B b l _ HH.out).mono ?_
 rintro e w1 ⟨rfl,h1,hb1,hk1⟩
 obtain ⟨hB,v,hbk,hown,hne⟩:=h1
 have c0:w1.cell? ⟨b,0,none⟩ = some (.pointer (some ⟨b,0,none⟩)):=by rw [Lib.cell_of_heap hbk];rfl
 have c1:w1.cell? ⟨b,1,none⟩ = some v:=by rw [Lib.cell_of_heap hbk];rfl
 go_wp2_with (at_builtin;refine Lib.wpList_append_own_stringF _ rfl _ _ 82 9 rfl B 5 i0 Tryz.underlying82 Tryz.underlying9 hi hz0 hz1 hz2 _ _ _ rfl hown s rfl ?c3 ?c4 ?c5 ?_)
 case c3=>have:=HL.out;unfold maxLen;omega
 case c4=>have:=HL.out;omega
 case c5=>have:=hb1.size;omega
 intro v' w2 hown' hgrow _
 have hlt:b<w1.heap.size:=aaa hbk
 have hb2:w2.heap[b]? = some (.cells #[.pointer (some ⟨b,0,none⟩),v] 84 (0,0)):=by
  rw [hgrow.block b hlt (fun e=>hne e.symm)]
  exact hbk
 have d0:w2.cell? ⟨b,0,none⟩ = some (.pointer (some ⟨b,0,none⟩)):=by rw [Lib.cell_of_heap hb2];rfl
 have d1:w2.cell? ⟨b,1,none⟩ = some v:=by rw [Lib.cell_of_heap hb2];rfl
 have f1:w2.frozen? ⟨b,1,none⟩ = false:=Lib.frozen_of_heap hb2 1
 obtain ⟨ao,n',cap,rfl⟩:∃ ao n' cap,v' = .slice ao n' cap:=by
  rcases hown'.2 with ⟨hv,_⟩ | ⟨g,cap,cur,fz,hv,_⟩
  ·exact ⟨_,_,_,hv⟩
  ·exact ⟨_,_,_,hv⟩
 go_wp2
 go_ret2
 refine ⟨rfl,?_,?_,(hk1.grown hgrow (Lib.ownsRowF_kind hown)).setCell ⟨b,1,none⟩ rfl _⟩
 ·unfold Bld
  rw [Lib.byteCells_append]
  have hcc:Lib.byteCells s.data.toList=Lib.strCells s:=by rfl
  rw [hcc]
  exact .inr (Lib.BuilderAtF.put (T:=84) (e:=5) hB hb2 (bs' := Lib.byteCells l ++ Lib.strCells s) (by simpa [Lib.strCells_length] using hown') aiv.neB5)
 ·exact (hb1.grown hgrow (by have:=hb1.size;omega) (fun k hk=>(hown.lt k hk).1)).setCell (p:=⟨b,1,none⟩) hB _
theorem bstring (B b:Nat) (l:List UInt8) (w:World) (h:Bld w B b l) (hBw:B≤w.heap.size) :
  Calls Tryz.prog 45 #[.pointer (some ⟨b,0,none⟩)] w fun e w'=>e=.returned (.string ⟨l.toArray⟩)∧Below B w w' := by
 refine (Any.Builder_String_any_k Tryz.lays169 aiv B b l w h hBw).mono ?_
 rintro e w' ⟨rfl,h1,h2,h3⟩
 exact ⟨rfl,h2⟩
end Lm
end YtdjgifcmhafppaaGreatDoor
end Go.Proofs
namespace Go.Proofs.YtdjgifcmhafppaaGreatDoor
namespace Lm
open Go Go.RowKit
theorem at1 (c:Bool) (l:List Gl):∃ j,j≤l.length∧skp c l=l.drop j:=by
 induction l generalizing c with
 | nil=>exact ⟨0,Nat.le_refl _,by cases c <;> rfl⟩
 | cons x l ih =>
  cases c with
  | true =>
   obtain ⟨j,h1,h2⟩:=ih (decide (x.code≠10))
   exact ⟨j+1,by simp;omega,by rw [skp,h2];rfl⟩
  | false =>
   by_cases h6:gcls x.code=6
   ·obtain ⟨j,h1,h2⟩:=ih true
    exact ⟨j+1,by simp;omega,by rw [skp,if_pos h6,h2];rfl⟩
   ·by_cases h1c:gcls x.code=1
    ·obtain ⟨j,h1,h2⟩:=ih false
     exact ⟨j+1,by simp;omega,by rw [skp,if_neg h6,if_pos h1c,h2];rfl⟩
    ·exact ⟨0,Nat.zero_le _,by rw [skp,if_neg h6,if_neg h1c];rfl⟩
def nmS (s:ByteArray):SO→Bool
 | .ok (t :: _)=>(t.kind == 1) && (t.text.toList == s.toList)
 | _=>false
theorem at2 {u:List Nat} (h:encs u = []):u = []:=by
 cases u with
 | nil=>rfl
 | cons c u =>
  have h1:=aky c
  have h2:=congrArg List.length h
  simp only [encs,List.length_append,List.length_nil] at h2
  omega
theorem at3 {s:ByteArray} {gs:List Gl} {e:Pl} {l:List Tk} (hQ:Snd s pl0 gs e) (hR:ScanR s e gs (.ok l)):∃ t r,l=t :: r∧(t.kind=1→t.text=s→l.length=2):=by
 obtain ⟨cs,rfl,rfl,hc,hb⟩:=arf hQ (arg hR) (Nat.zero_le _)
 have hsb:s.data.toList = [] ++ encs cs:=by simpa [pl0] using hb
 have hC:=av2 s cs [] pl0 rfl hsb l hR
 generalize hm:(l.map fun t=>(t.kind,t.text))=ts at hC
 cases hC with
 | done _ h1 =>
  cases l with
  | nil=>simp at hm
  | cons t r =>
   refine ⟨t,r,rfl,fun hk _=>?_⟩
   simp only [List.map_cons,List.cons.injEq,Prod.mk.injEq] at hm
   omega
 | tok _ k x rest ts' h1 h2 =>
  cases l with
  | nil=>simp at hm
  | cons t r =>
   refine ⟨t,r,rfl,fun hk hx=>?_⟩
   simp only [List.map_cons,List.cons.injEq,Prod.mk.injEq] at hm
   obtain ⟨⟨e1,e2⟩,e3⟩:=hm
   obtain ⟨a,hsp,_⟩:=ae0 false pl0 cs
   have hk1:k=1:=by omega
   have hxs:x=s:=by rw [←e2,hx]
   clear e1 e2 hk hx
   subst hk1
   generalize hq:skc false cs=q at h1 hsp
   cases h1 with
   | name c u _ hc2 hu hr hl =>
    have h3:=congrArg (fun b=>b.data.toList) hxs
    rw [hsb,hsp,aa1,aa1] at h3
    simp only [bts,List.nil_append] at h3
    have h4:=congrArg List.length h3
    simp only [List.length_append] at h4
    have h5:encs rest = []:=List.eq_nil_of_length_eq_zero (by omega)
    have h6:=at2 h5
    subst h6
    cases h2 with
    | done _ _ =>
     have:=congrArg List.length e3
     simpa using this
    | tok _ _ _ _ _ h7 _ =>
     exfalso
     generalize hz:skc false []=z at h7
     have:z = []:=by rw [←hz];rfl
     subst this
     generalize hy:([]:List Nat)=y at h7
     cases h7 <;> simp at hy
set_option maxRecDepth 20000 in
set_option maxHeartbeats 2000000 in
theorem ari (w:World) (hT:Tabs w) (s:ByteArray) (hs:s.size≤4096) (gs:List Gl) (e:Pl) (hQ:Snd s pl0 gs e) :
  Calls Tryz.prog 42 #[.string s] w fun r w'=>Below w.heap.size w w'∧∃ o,ScanR s e gs o∧r=.returned (.bool (nmS s o)):=by
 have HT:=hide hT
 have HQ:=hide hQ
 clear hT hQ
 go_enter Tryz.func42,Tryz.ntmps42
 go_wp2_with fail
 refine (aia w s HT.out hs).mono ?_
 rintro r w1 ⟨hb1,gs',e',o,h1,h2,h3⟩
 obtain ⟨rfl,rfl⟩:=h1.one HQ.out
 have HB:=hide (hb1.alloc hb1.size (.cells #[.int .i64 0,.int .i64 0,.int .i64 0,.int .i64 0] 32))
 have HBr:=hide hb1
 have HR:=hide h2
 clear hb1 h1
 cases o with
 | bad k p =>
  have hk:(k == 0)=false:=beq_eq_false_iff_ne.2 (arh h2)
  obtain rfl:=h3
  clear h2
  unfold Pl.v
  go_wp2
  go_ret
  exact ⟨HBr.out.alloc HBr.out.size _,_,HR.out,rfl⟩
 | ok l =>
  obtain ⟨v,rfl,hown⟩:=h3
  have hTs:Ts w1 v l:=Ts.own hown
  obtain ⟨t,rr,rfl,_⟩:=at3 HQ.out h2
  obtain ⟨ao,cap,rfl,hn⟩:=hTs.parts
  obtain ⟨b,off,rfl,g⟩:=hTs.tok (i:=0) (t:=t) rfl
  obtain ⟨_,a0,a1,_,_,_,_⟩:=g.below ((Below.refl _ _).alloc (Nat.le_refl _) (.cells #[.int .i64 0,.int .i64 0,.int .i64 0,.int .i64 0] 32))
  rw [Nat.zero_mul,Nat.add_zero] at a0 a1
  have hln:(0:Int)<((t :: rr).length:Int):=by simp
  clear g hown h2 hTs
  generalize (t :: rr).length=n at hn hln ⊢
  unfold Pl.v
  simp only [plz]
  by_cases hk:t.kind=1
  ·have hk' : (t.kind == 1)=true:=by rw [hk];rfl
   go_wp2
   go_ret
   exact ⟨HB.out,_,HR.out,by simp only [nmS,hk',Bool.true_and];rfl⟩
  ·have hk' : (t.kind == 1)=false:=beq_eq_false_iff_ne.2 hk
   go_wp2
   go_ret
   exact ⟨HB.out,_,HR.out,by simp only [nmS,hk',Bool.false_and];rfl⟩
set_option maxRecDepth 20000 in
set_option maxHeartbeats 1000000 in
theorem arj (w:World) (s:ByteArray) (hs:4096<s.size) :
  Calls Tryz.prog 42 #[.string s] w fun r w'=>Below w.heap.size w w'∧r=.returned (.bool false):=by
 go_enter Tryz.func42,Tryz.ntmps42
 go_wp2_with fail
 refine (ara w s hs).mono ?_
 rintro r w1 ⟨hb1,rfl⟩
 unfold Pl.v
 go_wp2
 go_ret
 exact ⟨hb1.alloc hb1.size _,rfl⟩
theorem acf (a b:List UInt8):bts a ++ bts b=bts (a ++ b):=by
 have h:(bts a ++ bts b).data.toList=a ++ b:=by simp [bts]
 exact axv h
theorem ark {ds:List Int} (h:Dig ds):(∀ c ∈ ds.map Int.toNat,inK [3] c=true)∧(∀ c ∈ ds.map Int.toNat,Cod c):=by
 constructor
 ·intro c hc
  obtain ⟨d,hd,rfl⟩:=List.mem_map.1 hc
  have:=h d hd
  simp only [inK,ajt (show 48≤d.toNat∧d.toNat≤57 by omega)]
  decide
 ·intro c hc
  obtain ⟨d,hd,rfl⟩:=List.mem_map.1 hc
  have:=h d hd
  exact aq5 (by omega)
theorem af5 {ds:List Int} (h:Dig ds):∀ d ∈ ds,0≤d∧d<128:=fun d hd=>by have:=h d hd;omega
structure Rea (w:World) (q b:Nat) (tv uv:Value) (l:List Tk) (vs:List ByteArray) (i:Nat):Prop where
 blk:w.heap[q]? = some (.cells #[tv,.int .i64 i,uv] 59 (0,0))
 tks:Ts w tv l
 vrs:Strs w uv vs
 lt:i<l.length
 tap:0<l.length→∀ b' off n c,tv=.slice (some ⟨b',off,none⟩) n c→b'≠q∧b'≠b
 uap:0<vs.length→∀ b' off n c,uv=.slice (some ⟨b',off,none⟩) n c→b'≠q∧b'≠b
theorem Rea.rc {w w' : World} {q b:Nat} {tv uv:Value} {l:List Tk} {vs:List ByteArray} {i j:Nat} (h:Rea w q b tv uv l vs i) (hr:Rc q b w w') (hb:w'.heap[q]? = some (.cells #[tv,.int .i64 j,uv] 59 (0,0))) (hj:j<l.length):Rea w' q b tv uv l vs j :=
 ⟨hb,Ce.rc h.tks hr h.tap,Ce.rc h.vrs hr h.uap,hj,h.tap,h.uap⟩
theorem Rea.below {w w' : World} {q b:Nat} {tv uv:Value} {l:List Tk} {vs:List ByteArray} {i:Nat} (h:Rea w q b tv uv l vs i) (hb:Below w.heap.size w w'):Rea w' q b tv uv l vs i :=
 h.rc (.of_below hb) ((hb.block q (aaa h.blk)).trans h.blk) h.lt
theorem Rea.rcR {w w' : World} {q b:Nat} {tv uv:Value} {l:List Tk} {vs:List ByteArray} {i:Nat} (h:Rea w q b tv uv l vs i) (hr:Rc b b w w') (hq:q≠b):Rea w' q b tv uv l vs i :=
 h.rc hr.wideR ((hr.other q (aaa h.blk) hq hq).trans h.blk) h.lt
theorem Rea.cells {w:World} {q b:Nat} {tv uv:Value} {l:List Tk} {vs:List ByteArray} {i:Nat} {t:Tk} (h:Rea w q b tv uv l vs i) (ht:l[i]? = some t):∃ bt ot ct,tv=.slice (some ⟨bt,ot,none⟩) l.length ct∧q<w.heap.size∧w.cell? ⟨q,0,none⟩ = some (.slice (some ⟨bt,ot,none⟩) l.length ct)∧w.cell? ⟨q,1,none⟩ = some (.int .i64 i)∧w.cell? ⟨q,2,none⟩ = some uv∧w.frozen? ⟨q,1,none⟩ = false∧TkC w bt (ot+i*6) t:=by
 obtain ⟨ao,ct,rfl,_⟩:=h.tks.parts
 obtain ⟨bt,ot,rfl,hk⟩:=h.tks.tok ht
 have hb:=h.blk
 exact ⟨bt,ot,ct,rfl,aaa hb,by rw [cell_of_row w q 0 _ _ _ hb];rfl,by rw [cell_of_row w q 1 _ _ _ hb];rfl,by rw [cell_of_row w q 2 _ _ _ hb];rfl,frozen_of_row w q 1 _ _ hb,hk⟩
def Tk.av (t:Tk):Value:=.agg #[.int .i64 t.kind,.string t.text,.int .i64 t.pl.b,.int .i64 t.pl.g,.int .i64 t.pl.l,.int .i64 t.pl.c]
set_option maxRecDepth 20000 in
set_option maxHeartbeats 400000 in
theorem aa5 (w:World) (q b:Nat) (tv uv:Value) (l:List Tk) (vs:List ByteArray) (i:Nat) (t:Tk) (h:Rea w q b tv uv l vs i) (ht:l[i]? = some t) :
  Calls Tryz.prog 28 #[.pointer (some ⟨q,0,none⟩)] w fun r w'=>r=.returned t.av∧Below w.heap.size w w' := by
 obtain ⟨bt,ot,ct,rfl,hq,k0,k1,k2,_,hb,g0,g1,g2,g3,g4,g5⟩:=h.cells ht
 have hi' : (i:Int)<(l.length:Int):=by have:=h.lt;omega
 generalize l.length=n at *
 clear h ht
 unfold Tk.av
 go_enter Tryz.func28,Tryz.ntmps28
 go_wp2_with fail
 go_region
 go_wp2
 refine bodyPost_ret (v:=_) (by simp [results,Tryz.results28,go_sem];try rfl) rfl ⟨by simp,?_⟩
 (repeat' first|with_reducible(first|exact Below.refl _ _|assumption|refine gdrewN ?_ _|refine Below.alloc ?_ ?_ _|refine Below.drew ?_|refine Below.setCell ?_ ?_ _)|go_size)
theorem Rea.next {w w1:World} {q b:Nat} {tv uv:Value} {l:List Tk} {vs:List ByteArray} {i:Nat} (h:Rea w q b tv uv l vs i) (hr:Rc q q w w1) (hb:w1.heap[q]? = w.heap[q]?) (hj:i+1<l.length):Rea (w1.setCell ⟨q,1,none⟩ (.int .i64 ((i:Int)+1))) q b tv uv l vs (i+1)∧Rc q q w (w1.setCell ⟨q,1,none⟩ (.int .i64 ((i:Int)+1))):=by
 have hb1:=hb.trans h.blk
 have hs:Rc q q w1 (w1.setCell ⟨q,1,none⟩ (.int .i64 ((i:Int)+1))):=by
  refine ⟨rfl,rfl,rfl,by simp [World.setCell],fun k hk hn _=>heap_setCell_other w1 ⟨q,1,none⟩ k _ hn,?_⟩
  refine Ru.of_one hb1 (by decide) ?_ (by simp [World.setCell]) (fun k hk hn=>heap_setCell_other w1 ⟨q,1,none⟩ k _ hn)
  obtain ⟨ao,ct,rfl,_⟩:=h.tks.parts
  obtain ⟨ao',ct',rfl,_⟩:=h.vrs
  intro k z
  match k with
  | 0=>simp
  | 1=>simp
  | 2=>simp
  | k+3=>simp
 refine ⟨h.rc (hr.trans hs).wide ?_ hj,hr.trans hs⟩
 rw [heap_setCell_same w1 q 1 _ _ _ hb1]
 simp
structure RE where
 ng:Bool
 a:Option Addr
 m:Nat
 c:Nat
 d:Option Addr
 k:Nat
 e:Nat
def RE.v (x:RE):Value:=.agg #[.bool x.ng,.slice x.a x.m x.c,.slice x.d x.k x.e]
def rf3:List RE→List Value
 | []=>[]
 | x :: es=>.bool x.ng :: .slice x.a x.m x.c :: .slice x.d x.k x.e :: rf3 es
theorem aib (es:List RE):(rf3 es).length=es.length*3:=by
 induction es with
 | nil=>rfl
 | cons e es ih=>simp only [rf3,List.length_cons,ih];omega
theorem aic {es:List RE} {i:Nat} {x:RE} (h:es[i]? = some x):(rf3 es)[i*3]? = some (.bool x.ng)∧(rf3 es)[i*3+1]? = some (.slice x.a x.m x.c)∧(rf3 es)[i*3+2]? = some (.slice x.d x.k x.e):=by
 induction es generalizing i with
 | nil=>simp at h
 | cons u es ih =>
  cases i with
  | zero =>
   simp at h
   subst h
   simp [rf3]
  | succ i =>
   have:=ih (i:=i) (by simpa using h)
   simp only [rf3,show (i+1)*3=i*3+3 from by omega]
   simpa using this
theorem am0 (es:List RE) (i:Nat) (x:RE) (h:i<es.length):rf3 (es.set i x)=(((rf3 es).set (i*3) (.bool x.ng)).set (i*3+1) (.slice x.a x.m x.c)).set (i*3+2) (.slice x.d x.k x.e):=by
 induction es generalizing i with
 | nil=>simp at h
 | cons u es ih =>
  cases i with
  | zero=>simp [rf3]
  | succ i =>
   have:=ih i (by simpa using h)
   simp only [List.set_cons_succ,rf3,show (i+1)*3=i*3+3 from by omega,this,List.set_cons_succ]
theorem ak7 (es:List RE) (i:Nat) (z:Int):(rf3 es).toArray[i]?≠some (.int .u32 z):=by
 rw [List.getElem?_toArray]
 induction es generalizing i with
 | nil=>simp [rf3]
 | cons u es ih =>
  match i with
  | 0=>simp [rf3]
  | 1=>simp [rf3]
  | 2=>simp [rf3]
  | i+3=>simpa [rf3] using ih i
structure RQ (w:World) (g b:Nat) (rs:List Rat) (L:Nat):Prop where
 slot:w.heap[g]? = some (.cells #[.slice (some ⟨b,0,none⟩) rs.length rs.length] 35 (0,0))
 row:∃ es:List RE,es.length=rs.length∧w.heap[b]? = some (.cells (rf3 es).toArray 40 (0,0))∧∀ (i:Nat) (e:RE) (r:Rat),es[i]? = some e→rs[i]? = some r→IsQ r L e.v w
 ne:g≠b
theorem IsQ.ru {r:Rat} {L:Nat} {v:Value} {w w' : World} (h:IsQ r L v w) (hr:Ru w w'):IsQ r L v w' := by
 obtain ⟨p,q,h1,h2⟩:=h
 exact ⟨p,q,IsR.mono5 p q L _ _ _ hr h1,h2⟩
theorem RQ.rc {w w' : World} {q g b:Nat} {rs:List Rat} {L:Nat} (h:RQ w g b rs L) (hr:Rc q q w w') (h1:g≠q) (h2:b≠q):RQ w' g b rs L:=by
 obtain ⟨es,e1,e2,e3⟩:=h.row
 exact ⟨(hr.other g (aaa h.slot) h1 h1).trans h.slot,⟨es,e1,(hr.other b (aaa e2) h2 h2).trans e2,fun i e r a1 a2=>(e3 i e r a1 a2).ru hr.ru⟩,h.ne⟩
theorem RQ.below {w w' : World} {g b:Nat} {rs:List Rat} {L:Nat} (h:RQ w g b rs L) (hb:Below w.heap.size w w'):RQ w' g b rs L:=by
 obtain ⟨es,e1,e2,e3⟩:=h.row
 exact ⟨(hb.block g (aaa h.slot)).trans h.slot,⟨es,e1,(hb.block b (aaa e2)).trans e2,fun i e r a1 a2=>(e3 i e r a1 a2).ru (Ru.of_below hb)⟩,h.ne⟩
theorem RQ.put {w w1:World} {g b:Nat} {rs:List Rat} {L i:Nat} {r:Rat} {x:RE} (h:RQ w g b rs L) (hb:Below w.heap.size w w1) (hi:i<rs.length) (hx:IsQ r L x.v w1) :
  RQ (((w1.setCell ⟨b,i*3,none⟩ (.bool x.ng)).setCell ⟨b,i*3+1,none⟩ (.slice x.a x.m x.c)).setCell ⟨b,i*3+2,none⟩ (.slice x.d x.k x.e)) g b (rs.set i r) L∧Rc b b w (((w1.setCell ⟨b,i*3,none⟩ (.bool x.ng)).setCell ⟨b,i*3+1,none⟩ (.slice x.a x.m x.c)).setCell ⟨b,i*3+2,none⟩ (.slice x.d x.k x.e)):=by
 have h1:=h.below hb
 obtain ⟨es,e1,e2,e3⟩:=h1.row
 generalize hW:(((w1.setCell ⟨b,i*3,none⟩ (.bool x.ng)).setCell ⟨b,i*3+1,none⟩ (.slice x.a x.m x.c)).setCell ⟨b,i*3+2,none⟩ (.slice x.d x.k x.e))=W
 have hbW:W.heap[b]? = some (.cells (rf3 (es.set i x)).toArray 40 (0,0)):=by
  rw [←hW,am0 es i x (by omega)]
  have s1:=heap_setCell_same w1 b (i*3) _ _ (.bool x.ng) e2
  have s2:=heap_setCell_same _ b (i*3+1) _ _ (.slice x.a x.m x.c) s1
  have s3:=heap_setCell_same _ b (i*3+2) _ _ (.slice x.d x.k x.e) s2
  rw [s3]
  simp
 have hot:∀ k,k<w1.heap.size→k≠b→W.heap[k]? = w1.heap[k]? := by
  intro k _ hn
  rw [←hW,heap_setCell_other _ ⟨b,i*3+2,none⟩ k _ hn,heap_setCell_other _ ⟨b,i*3+1,none⟩ k _ hn,heap_setCell_other _ ⟨b,i*3,none⟩ k _ hn]
 have hsz:w1.heap.size≤W.heap.size:=by rw [←hW];simp [World.setCell]
 have hru:Ru w1 W:=Ru.of_one e2 (by decide) (ak7 es) hsz hot
 have hrc:Rc b b w1 W:=⟨by rw [←hW];rfl,by rw [←hW];rfl,by rw [←hW];rfl,hsz,fun k hk hn _=>hot k hk hn,hru⟩
 refine ⟨⟨?_,⟨es.set i x,by simp [e1],hbW,?_⟩,h.ne⟩,(Rc.of_below hb).trans hrc⟩
 ·rw [hot g (aaa h1.slot) h.ne,h1.slot]
  simp
 ·intro j e r' a1 a2
  by_cases hj:j=i
  ·subst hj
   rw [List.getElem?_set_self (by omega)] at a1 a2
   obtain rfl:=Option.some.inj a1
   obtain rfl:=Option.some.inj a2
   exact hx.ru hru
  ·rw [List.getElem?_set_ne (fun h=>hj h.symm)] at a1 a2
   exact (e3 j e r' a1 a2).ru hru
set_option maxRecDepth 20000 in
set_option maxHeartbeats 4000000 in
theorem at4 (w:World) (g b:Nat) (rs:List Rat) (L:Nat) (i:Nat) (r s:Rat) (xv:Value) (h:RQ w g b rs L) (hi:rs[i]? = some r) (hx:IsQ s L xv w) (hf:Fit (r+s) L) (hL:L≤10000) :
  Calls Tryz.prog 26 #[.int .i64 (i:Int),xv,.pointer (some ⟨g,0,none⟩)] w fun e w'=>e=.returned (.tuple #[])∧Rc b b w w'∧RQ w' g b (rs.set i (r+s)) L:=by
 obtain ⟨es,e1,e2,e3⟩:=h.row
 have hlt:i<rs.length:=(List.getElem?_eq_some_iff.1 hi).1
 obtain ⟨x,hex⟩:∃ x,es[i]? = some x:=⟨_,List.getElem?_eq_getElem (by omega)⟩
 have hq:=hide (e3 i x r hex hi)
 obtain ⟨c0,c1,c2⟩:=aic hex
 have k0:w.cell? ⟨b,i*3,none⟩ = some (.bool x.ng):=by rw [cell_of_row w b _ _ _ _ e2,List.getElem?_toArray];exact c0
 have k1:w.cell? ⟨b,i*3+1,none⟩ = some (.slice x.a x.m x.c):=by rw [cell_of_row w b _ _ _ _ e2,List.getElem?_toArray];exact c1
 have k2:w.cell? ⟨b,i*3+2,none⟩ = some (.slice x.d x.k x.e):=by rw [cell_of_row w b _ _ _ _ e2,List.getElem?_toArray];exact c2
 have kg:w.cell? ⟨g,0,none⟩ = some (.slice (some ⟨b,0,none⟩) rs.length rs.length):=by rw [cell_of_row w g _ _ _ _ h.slot];rfl
 have hb:=aaa e2
 have hg:=aaa h.slot
 obtain ⟨ng,ao,n,cap,xs,bo,m,dap,ys,p,q,rfl,_⟩:=hx.open
 have HX:=hide hx
 have H:=hide h
 have E2:=hide e2
 have hi' : (i:Int)<(rs.length:Int):=by omega
 have HLT:=hide hlt
 have HF:=hide hf
 have HI:=hide hi
 generalize hN:rs.length=N at *
 have hN' := hide hN
 clear h e3 hx hf hex c0 c1 c2 e2 e1 hN hi hlt
 go_enter Tryz.func26,Tryz.ntmps26
 go_wp2_with fail
 go_region_law (refine aam rfl 27 #[.tmp 10,.tmp 11] #[40,40] rfl as2 #[.agg #[.bool x.ng,.slice x.a x.m x.c,.slice x.d x.k x.e],.agg #[.bool ng,.slice ao n cap,.slice bo m dap]] (by simp [Act.eval]) (axo _ _ _ r s L L L (hq.out.ru (Ru.of_below (show Below w.heap.size w _ by (repeat' first|with_reducible(first|exact Below.refl _ _|assumption|refine gdrewN ?_ _|refine Below.alloc ?_ ?_ _|refine Below.drew ?_|refine Below.setCell ?_ ?_ _)|go_size)))) (HX.out.ru (Ru.of_below (show Below w.heap.size w _ by (repeat' first|with_reducible(first|exact Below.refl _ _|assumption|refine gdrewN ?_ _|refine Below.alloc ?_ ?_ _|refine Below.drew ?_|refine Below.setCell ?_ ?_ _)|go_size)))) (by omega) HF.out) ?_;rintro e w1 ⟨v,rfl,ho,hb1⟩;obtain ⟨ng1,ao1,cap1,rs1,bo1,dap1,ss1,rfl,ho1⟩:=id ho;have HO:=hide ho;have hbw:Below w.heap.size w w1:=(show Below w.heap.size w _ by (repeat' first|with_reducible(first|exact Below.refl _ _|assumption|refine gdrewN ?_ _|refine Below.alloc ?_ ?_ _|refine Below.drew ?_|refine Below.setCell ?_ ?_ _)|go_size)).trans (hb1.mono (by simp));have HBW:=hide hbw;have kg1:=(hbw.cell (p:=⟨g,0,none⟩) hg).trans kg;have k01:=(hbw.cell (p:=⟨b,i*3,none⟩) hb).trans k0;have k11:=(hbw.cell (p:=⟨b,i*3+1,none⟩) hb).trans k1;have k21:=(hbw.cell (p:=⟨b,i*3+2,none⟩) hb).trans k2;have fr0:w1.frozen? ⟨b,i*3,none⟩ = false:=frozen_of_row w1 b _ _ _ ((hbw.block b hb).trans E2.out);have fr1:w1.frozen? ⟨b,i*3+1,none⟩ = false:=frozen_of_row w1 b _ _ _ ((hbw.block b hb).trans E2.out);have fr2:w1.frozen? ⟨b,i*3+2,none⟩ = false:=frozen_of_row w1 b _ _ _ ((hbw.block b hb).trans E2.out);clear ho ho1 hb1 hbw;refine ⟨_,rfl,?_⟩)
 all_goals
  refine bodyPost_end (results_none rfl _ _ _) rfl ?_
  obtain ⟨p1,p2⟩:=H.out.put (i:=i) (r:=r+s) (x:=⟨ng1,ao1,rs1.length,cap1,bo1,ss1.length,dap1⟩) HBW.out (by rw [hN'.out];exact HLT.out) HO.out.is
  exact ⟨rfl,p2,p1⟩
theorem at5:Has Tryz.prog 26:=by unfold Has;kernel_rfl
theorem amb:Has Tryz.prog 77:=by unfold Has;kernel_rfl
inductive AddV (q b g:Nat) (w:World):Value→Bool→Prop
 | base:AddV q b g w (.func (.func 26) #[] #[.pointer (some ⟨g,0,none⟩)]) false
 | turn (k:Nat) (v:Value) (s:Bool) (hk:w.heap[k]? = some (.cells #[v] 99 (0,0))) (h1:k≠q) (h2:k≠b) (h:AddV q b g w v s):AddV q b g w (.func (.func 77) #[] #[.pointer (some ⟨k,0,none⟩)]) (!s)
theorem AddV.rc {q b g:Nat} {w w' : World} {v:Value} {s:Bool} (h:AddV q b g w v s) (hr:Rc q b w w'):AddV q b g w' v s:=by
 induction h with
 | base=>exact .base
 | turn k v s hk h1 h2 _ ih=>exact .turn k v s ((hr.other k (aaa hk) h1 h2).trans hk) h1 h2 ih
def sgq (s:Bool) (r:Rat):Rat:=if s then -r else r
theorem ab7 {r:Rat} {L:Nat} (h:Fit r L):Fit (-r) L:=⟨by rw [Rat.neg_num,Int.natAbs_neg];exact h.1,by rw [Rat.neg_den];exact h.2⟩
theorem av6 {r:Rat} {L:Nat} (s:Bool) (h:Fit r L):Fit (sgq s r) L:=by
 unfold sgq
 split
 ·exact ab7 h
 ·exact h
def AddP (b g:Nat) (rs:List Rat) (L i:Nat) (r x:Rat) (w:World) (e:Ending) (w' : World):Prop:=e=.returned (.tuple #[])∧Rc b b w w'∧RQ w' g b (rs.set i (r+x)) L
set_option maxRecDepth 20000 in
set_option maxHeartbeats 4000000 in
theorem arl (f:FuncId) (hf:Has Tryz.prog f) (cp:Value) (w:World) (k b g:Nat) (rs:List Rat) (L:Nat) (i:Nat) (r x y:Rat) (xv:Value) (hk:w.heap[k]? = some (.cells #[.func (.func f) #[] #[cp]] 99 (0,0))) (hx:IsQ x L xv w) (hfx:Fit x L) (hL:L≤10000)
  (h:∀ w' v,Below w.heap.size w w'→IsQ (-x) L v w'→Calls Tryz.prog f #[.int .i64 (i:Int),v,cp] w' (AddP b g rs L i r y w')) :
  Calls Tryz.prog 77 #[.int .i64 (i:Int),xv,.pointer (some ⟨k,0,none⟩)] w (AddP b g rs L i r y w):=by
 obtain ⟨ng,ao,n,cap,xs,bo,m,dap,ys,p,q,rfl,_⟩:=hx.open
 have HX:=hide hx
 have HFX:=hide hfx
 have kk:w.cell? ⟨k,0,none⟩ = some (.func (.func f) #[] #[cp]):=by rw [cell_of_row w k _ _ _ _ hk];rfl
 have hkl:=aaa hk
 have HC:=hide h
 clear hk hx hfx h
 go_enter Tryz.func77,Tryz.ntmps77
 go_wp2_with fail
 go_region_law (first | (refine aam rfl 78 #[.tmp 7] #[40] rfl as1 #[.agg #[.bool ng,.slice ao n cap,.slice bo m dap]] (by simp [Act.eval]) (aq0 _ _ x L L (HX.out.ru (Ru.of_below (show Below w.heap.size w _ by (repeat' first|with_reducible(first|exact Below.refl _ _|assumption|refine gdrewN ?_ _|refine Below.alloc ?_ ?_ _|refine Below.drew ?_|refine Below.setCell ?_ ?_ _)|go_size)))) (by omega) HFX.out) ?_;rintro e w1 ⟨v,rfl,ho,hb1⟩;obtain ⟨ng1,ao1,cap1,rs1,bo1,dap1,ss1,rfl,ho1⟩:=id ho;have HO:=hide ho;have hbw:Below w.heap.size w w1:=(show Below w.heap.size w _ by (repeat' first|with_reducible(first|exact Below.refl _ _|assumption|refine gdrewN ?_ _|refine Below.alloc ?_ ?_ _|refine Below.drew ?_|refine Below.setCell ?_ ?_ _)|go_size)).trans (hb1.mono (by simp));have HBW:=hide hbw;have kk1:=(hbw.cell (p:=⟨k,0,none⟩) hkl).trans kk;clear ho ho1 hb1 hbw;refine ⟨_,rfl,?_⟩) | (refine ah2 rfl f (.tmp 5) #[.tmp 6,.tmp 8] #[3,40] rfl hf #[cp] (by simp [Act.eval]) #[.int .i64 (i:Int),.agg #[.bool ng1,.slice ao1 rs1.length cap1,.slice bo1 ss1.length dap1]] (by simp [Act.eval]) (HC.out _ _ HBW.out HO.out.is) ?_;rintro e w2 ⟨rfl,hr2,hq2⟩;have HR:=hide hr2;have HQ:=hide hq2;clear hr2 hq2;refine ⟨_,rfl,?_⟩))
 all_goals
  refine bodyPost_end (results_none rfl _ _ _) rfl ?_
  exact ⟨rfl,(Rc.of_below HBW.out).trans HR.out,HQ.out⟩
theorem ahh {q b g:Nat} {w:World} {v:Value} {s:Bool} (h:AddV q b g w v s) (rs:List Rat) (L:Nat) (i:Nat) (r:Rat) (hi:rs[i]? = some r) (hL:L≤10000) :
  ∃ f cp,v=.func (.func f) #[] #[cp]∧Has Tryz.prog f∧∀ w' x xv,Below w.heap.size w w'→RQ w' g b rs L→IsQ x L xv w'→Fit x L→Fit (r+sgq s x) L→Calls Tryz.prog f #[.int .i64 (i:Int),xv,cp] w' (AddP b g rs L i r (sgq s x) w'):=by
 induction h with
 | base=>exact ⟨_,_,rfl,at5,fun w' x xv _ hR hx _ hf=>at4 w' g b rs L i r x xv hR hi hx hf hL⟩
 | turn k v s hk h1 h2 _ ih =>
  obtain ⟨f,cp,rfl,hf,ih⟩:=ih
  refine ⟨_,_,rfl,amb,fun w' x xv hb hR hx hfx hfr=>?_⟩
  have e:sgq (!s) x=sgq s (-x):=by
   cases s
   ·rfl
   ·simp [sgq]
  rw [e] at hfr ⊢
  have hkk:=(hb.block k (aaa hk)).trans hk
  have key:∀ w'' v,Below w'.heap.size w' w''→IsQ (-x) L v w''→Calls Tryz.prog f #[.int .i64 (i:Int),v,cp] w'' (AddP b g rs L i r (sgq s (-x)) w''):=fun w'' v hb' hv=>ih w'' (-x) v (hb.trans (hb'.mono hb.size)) (hR.below hb') hv (ab7 hfx) hfr
  exact arl f hf cp w' k b g rs L i r x (sgq s (-x)) xv hkk hx hfx hL key
theorem acw (w:World) (v:Value) (q b g:Nat) (s:Bool) (h:AddV q b g w v s) (hq:q<w.heap.size) (hb:b<w.heap.size) :
  Calls Tryz.prog 52 #[v] w fun e w'=>∃ u,e=.returned u∧AddV q b g w' u (!s)∧Below w.heap.size w w' := by
 have H:=hide h
 obtain ⟨f,cp,rfl⟩:∃ f cp,v=.func f #[] #[cp]:=by cases h <;> exact ⟨_,_,rfl⟩
 have hmf:∀ (fn:Fn) (first cap:Array Value) (w:World),(Instr.makeFunc fn first cap).run Tryz.prog w=.ok (.func fn first cap) w:=fun _ _ _ _=>rfl
 clear h
 go_enter Tryz.func52,Tryz.ntmps52
 go_wp2
 have hA:Below w.heap.size w (w.alloc (.cells #[.func f #[] #[cp]] 99)):=(Below.refl _ _).alloc (Nat.le_refl _) _
 refine bodyPost_ret (v:=_) (by simp [results,Tryz.results52,go_sem];try rfl) rfl ⟨_,rfl,?_,hA⟩
 exact .turn _ _ _ (heap_alloc_new w _) (by omega) (by omega) (H.out.rc (.of_below hA))
theorem adq (k:Int) (x:ByteArray) (a b c d:Value) (W:World):(Instr.field 64 (.agg #[.int .i64 k,.string x,a,b,c,d]) 0).run Tryz.prog W=.ok (.int .i64 k) W:=by
 simp [go_sem,Instr.field,asAgg]
theorem aoq (k:Int) (x:ByteArray) (a b c d:Value) (W:World):(Instr.field 64 (.agg #[.int .i64 k,.string x,a,b,c,d]) 1).run Tryz.prog W=.ok (.string x) W:=by
 simp [go_sem,Instr.field,asAgg]
theorem OutQr.ru {r:Rat} {L:Nat} {v:Value} {w w' : World} (h:OutQr r L v w) (hr:Ru w w'):OutQr r L v w' := OutR.mono5 _ _ L _ _ _ hr h
theorem aid (n:Nat):(madeCells #[.bool false,.slice none 0 0,.slice none 0 0] (n*3)).toList=rf3 (List.replicate n ⟨false,none,0,0,none,0,0⟩):=by
 apply List.ext_getElem?
 intro i
 rw [Array.getElem?_toList]
 by_cases hi:i<n*3
 ·have hk:i / 3<n:=by omega
  have h1:(List.replicate n (⟨false,none,0,0,none,0,0⟩:RE))[i / 3]? = some ⟨false,none,0,0,none,0,0⟩:=by rw [List.getElem?_replicate,if_pos hk]
  obtain ⟨f1,f2,f3⟩:=aic h1
  have e0:(madeCells #[.bool false,.slice none 0 0,.slice none 0 0] (n*3))[i]? = some ((#[.bool false,.slice none 0 0,.slice none 0 0]:Array Value)[i % 3]!):=by
   simp [madeCells,hi]
  rw [e0]
  have h3:i % 3=0∨i % 3=1∨i % 3=2:=by omega
  rcases h3 with h | h | h
  ·rw [h,←show i / 3*3=i from by omega,f1];rfl
  ·rw [h,←show i / 3*3+1=i from by omega,f2];rfl
  ·rw [h,←show i / 3*3+2=i from by omega,f3];rfl
 ·rw [Array.getElem?_eq_none (by rw [size_madeCells];omega),List.getElem?_eq_none (by rw [aib];simp;omega)]
def IsQrow (w:World) (v:Value) (rs:List Rat) (L:Nat):Prop:=∃ es:List RE,Ce w v 3 es.length (rf3 es)∧es.length=rs.length∧∀ (k:Nat) (e:RE) (r:Rat),es[k]? = some e→rs[k]? = some r→IsQ r L e.v w
theorem IsQrow.parts {w:World} {v:Value} {rs:List Rat} {L:Nat} (h:IsQrow w v rs L):∃ ao cap,v=.slice ao rs.length cap∧rs.length≤9223372036854775807:=by
 obtain ⟨es,⟨ao,cap,rfl,c1,c2,_⟩,h2,h3⟩:=h
 exact ⟨ao,cap,by rw [h2],by omega⟩
theorem IsQrow.cell {w:World} {ao:Option Addr} {n cap:Nat} {rs:List Rat} {L k:Nat} {r:Rat} (h:IsQrow w (.slice ao n cap) rs L) (hr:rs[k]? = some r):∃ b off ng a m c d e f,ao=some ⟨b,off,none⟩∧b<w.heap.size∧w.cell? ⟨b,off+k*3,none⟩ = some (.bool ng)∧w.cell? ⟨b,off+k*3+1,none⟩ = some (.slice a m c)∧w.cell? ⟨b,off+k*3+2,none⟩ = some (.slice d e f)∧IsQ r L (.agg #[.bool ng,.slice a m c,.slice d e f]) w:=by
 obtain ⟨es,⟨ao',cap',hv,c1,c2,c3,c4⟩,h2,h3⟩:=h
 obtain ⟨rfl,rfl,rfl⟩:=(Value.slice.injEq .. ▸ hv)
 have hk:k<rs.length:=(List.getElem?_eq_some_iff.1 hr).1
 obtain ⟨x,hx⟩:∃ x,es[k]? = some x:=⟨_,List.getElem?_eq_getElem (by omega)⟩
 rcases c4 with c4 | ⟨b,off,rfl,hl,hc⟩
 ·omega
 ·obtain ⟨f0,f1,f2⟩:=aic hx
  exact ⟨b,off,_,_,_,_,_,_,_,rfl,hl,hc _ _ f0,hc _ _ f1,hc _ _ f2,h3 k x r hx hr⟩
theorem RQ.row_is {w:World} {g b:Nat} {rs:List Rat} {L:Nat} (h:RQ w g b rs L) (hl:rs.length≤1000000):IsQrow w (.slice (some ⟨b,0,none⟩) rs.length rs.length) rs L:=by
 obtain ⟨es,e1,e2,e3⟩:=h.row
 refine ⟨es,⟨_,_,by rw [e1],by omega,by omega,aib es,.inr ⟨b,0,rfl,aaa e2,fun j u hu=>?_⟩⟩,e1,e3⟩
 rw [Nat.zero_add,cell_of_row _ _ _ _ _ (0,0) e2,List.getElem?_toArray]
 exact hu
theorem aor {r:Rat} {L:Nat} {v:Value} {w:World} (h:IsQ r L v w) (hL:1≤L):Fit r L:=by
 obtain ⟨ng,ao,n,cap,xs,bo,m,dap,ys,p,q,rfl,h2,h3,h4,h5,h6,h7⟩:=h.open
 have hp:(p.natAbs:Int)<pw L:=aeb (v:=.agg #[.bool ng,.slice ao n cap]) (w:=w) ⟨_,_,_,_,_,rfl,h2,h5⟩
 have hq:(q.natAbs:Int)<pw L:=aeb (v:=.agg #[.bool false,.slice bo m dap]) (w:=w) ⟨_,_,_,_,_,rfl,⟨h3,h4⟩,h6⟩
 subst h7
 refine ⟨?_,?_⟩
 ·rw [Rat.num_divInt]
  have h1:=Int.natAbs_ediv_le_natAbs (q.sign*p) (Int.gcd q p:Int)
  have h2:(q.sign*p).natAbs≤p.natAbs:=by
   rw [Int.natAbs_mul]
   have:q.sign.natAbs≤1:=by
    rcases Int.lt_trichotomy q 0 with h | h | h
    ·rw [Int.sign_eq_neg_one_of_neg h];decide
    ·subst h;decide
    ·rw [Int.sign_eq_one_of_pos h];decide
   calc q.sign.natAbs*p.natAbs≤1*p.natAbs:=Nat.mul_le_mul_right _ this
    _=p.natAbs:=Nat.one_mul _
  omega
 ·rw [Rat.den_divInt]
  split
  ·have:=aa8 hL
   have h1:(1:Int)<pw 1:=by decide
   show (1:Int)<_
   omega
  ·have:=Nat.div_le_self q.natAbs (Int.gcd q p)
   omega
def PQ (w:World) (bv n i:Nat) (rs:List Rat) (L:Nat):Prop :=
 ∃ es:List RE,es.length=n∧w.heap[bv]? = some (.cells (rf3 es).toArray 40 (0,0))∧∀ (k:Nat) (e:RE) (r:Rat),k<i→es[k]? = some e→rs[k]? = some r→OutQr r L e.v w
theorem PQ.lt {w:World} {bv n i:Nat} {rs:List Rat} {L:Nat} (h:PQ w bv n i rs L):bv<w.heap.size:=by
 obtain ⟨es,h1,h2,_⟩:=h
 exact aaa h2
theorem PQ.ru {w w' : World} {bv n i:Nat} {rs:List Rat} {L:Nat} (h:PQ w bv n i rs L) (hr:Ru w w') (hb:w'.heap[bv]? = w.heap[bv]?):PQ w' bv n i rs L:=by
 obtain ⟨es,h1,h2,h3⟩:=h
 exact ⟨es,h1,hb.trans h2,fun k e r hk a1 a2=>(h3 k e r hk a1 a2).ru hr⟩
theorem PQ.below {w w' : World} {bv n i:Nat} {rs:List Rat} {L:Nat} (h:PQ w bv n i rs L) (hb:Below w.heap.size w w'):PQ w' bv n i rs L:=h.ru (Ru.of_below hb) (hb.block bv h.lt)
theorem PQ.cells {w:World} {bv n i:Nat} {rs:List Rat} {L:Nat} (h:PQ w bv n i rs L) {k:Nat} (hk:k<n):(∃ ng a m c d e f,w.cell? ⟨bv,k*3,none⟩ = some (.bool ng)∧w.cell? ⟨bv,k*3+1,none⟩ = some (.slice a m c)∧w.cell? ⟨bv,k*3+2,none⟩ = some (.slice d e f)∧∀ r,k<i→rs[k]? = some r→OutQr r L (.agg #[.bool ng,.slice a m c,.slice d e f]) w)∧w.frozen? ⟨bv,k*3,none⟩ = false∧w.frozen? ⟨bv,k*3+1,none⟩ = false∧w.frozen? ⟨bv,k*3+2,none⟩ = false:=by
 obtain ⟨es,h1,h2,h3⟩:=h
 obtain ⟨e,he⟩:∃ e,es[k]? = some e:=⟨_,List.getElem?_eq_getElem (by omega)⟩
 obtain ⟨f1,f2,f3⟩:=aic he
 exact ⟨⟨e.ng,e.a,e.m,e.c,e.d,e.k,e.e,by rw [cell_of_row _ _ _ _ _ (0,0) h2,List.getElem?_toArray];exact f1,by rw [cell_of_row _ _ _ _ _ (0,0) h2,List.getElem?_toArray];exact f2,by rw [cell_of_row _ _ _ _ _ (0,0) h2,List.getElem?_toArray];exact f3,fun r hk hr=>h3 k e r hk he hr⟩,frozen_of_row _ _ _ _ _ h2,frozen_of_row _ _ _ _ _ h2,frozen_of_row _ _ _ _ _ h2⟩
theorem PQ.put {w1 w2:World} {bv n i:Nat} {rs:List Rat} {L:Nat} {r:Rat} {ng:Bool} {a d:Option Addr} {m c e f:Nat} (h:PQ w1 bv n i rs L) (hb:Below w1.heap.size w1 w2) (hi:i<n) (hr:rs[i]? = some r) (hv:OutQr r L (.agg #[.bool ng,.slice a m c,.slice d e f]) w2) :
  PQ (((w2.setCell ⟨bv,i*3,none⟩ (.bool ng)).setCell ⟨bv,i*3+1,none⟩ (.slice a m c)).setCell ⟨bv,i*3+2,none⟩ (.slice d e f)) bv n (i+1) rs L∧Rc bv bv w1 (((w2.setCell ⟨bv,i*3,none⟩ (.bool ng)).setCell ⟨bv,i*3+1,none⟩ (.slice a m c)).setCell ⟨bv,i*3+2,none⟩ (.slice d e f)):=by
 have h1:=h.below hb
 obtain ⟨es,e1,e2,e3⟩:=h1
 generalize hW:(((w2.setCell ⟨bv,i*3,none⟩ (.bool ng)).setCell ⟨bv,i*3+1,none⟩ (.slice a m c)).setCell ⟨bv,i*3+2,none⟩ (.slice d e f))=W
 have hbW:W.heap[bv]? = some (.cells (rf3 (es.set i ⟨ng,a,m,c,d,e,f⟩)).toArray 40 (0,0)):=by
  rw [←hW,am0 es i _ (by omega)]
  have s1:=heap_setCell_same w2 bv (i*3) _ _ (.bool ng) e2
  have s2:=heap_setCell_same _ bv (i*3+1) _ _ (.slice a m c) s1
  have s3:=heap_setCell_same _ bv (i*3+2) _ _ (.slice d e f) s2
  rw [s3]
  simp
 have hot:∀ k,k≠bv→W.heap[k]? = w2.heap[k]? := fun k hn=>by rw [←hW,heap_setCell_other _ ⟨bv,i*3+2,none⟩ k _ hn,heap_setCell_other _ ⟨bv,i*3+1,none⟩ k _ hn,heap_setCell_other _ ⟨bv,i*3,none⟩ k _ hn]
 have hsz:w2.heap.size≤W.heap.size:=by rw [←hW];simp [World.setCell]
 have hru:Ru w2 W:=Ru.of_one e2 (by decide) (ak7 es) hsz (fun k _ hn=>hot k hn)
 have hrc:Rc bv bv w2 W:=⟨by rw [←hW];rfl,by rw [←hW];rfl,by rw [←hW];rfl,hsz,fun k _ hn _=>hot k hn,hru⟩
 refine ⟨⟨es.set i ⟨ng,a,m,c,d,e,f⟩,by simp [e1],hbW,?_⟩,(Rc.of_below hb).trans hrc⟩
 intro k x r' hk hx hr'
 by_cases hki:k=i
 ·subst hki
  rw [List.getElem?_set_self (by omega)] at hx
  obtain rfl:=Option.some.inj hx
  rw [hr] at hr'
  obtain rfl:=Option.some.inj hr'
  exact hv.ru hru
 ·rw [List.getElem?_set_ne (fun h=>hki h.symm)] at hx
  exact (e3 k x r' (by omega) hx hr').ru hru
def comR (rs:List Rat):Int:=rs.foldl (fun c r=>c*((r.den:Int) / ((Int.gcd c r.den:Nat):Int))) 1
def clr (rs:List Rat):List Int:=rs.map (fun r=>r.num*(comR rs / r.den))
theorem at6:Has Tryz.prog 59:=by unfold Has;kernel_rfl
theorem aef:Has Tryz.prog 17:=by unfold Has;kernel_rfl
theorem agz:Has Tryz.prog 57:=by unfold Has;kernel_rfl
theorem ahi {r:Rat} {L:Nat} {w:World} {ng:Bool} {a d:Option Addr} {m c e f:Nat} (h:OutQr r L (.agg #[.bool ng,.slice a m c,.slice d e f]) w):IsW r.num L (.agg #[.bool ng,.slice a m c]) w∧IsW (r.den:Int) L (.agg #[.bool false,.slice d e f]) w:=by
 obtain ⟨ng',ao,cap,rs,bo,dap,ss,hv,h1,h2,l1,l2⟩:=h
 simp only [Value.agg.injEq,Array.mk.injEq,List.cons.injEq,Value.bool.injEq,Value.slice.injEq,and_true] at hv
 obtain ⟨rfl,⟨rfl,rfl,rfl⟩,rfl,rfl,rfl⟩:=hv
 exact ⟨⟨_,_,_,_,_,rfl,h1.ag,l1⟩,⟨_,_,_,_,_,rfl,⟨h2.1,h2.2.2⟩,l2⟩⟩
theorem av7 {W:World} {bv n i:Nat} {rs:List Rat} {L:Nat} (h:PQ W bv n i rs L) (k:Nat) (u v x:Value):Ru W (((W.setCell ⟨bv,k*3,none⟩ u).setCell ⟨bv,k*3+1,none⟩ v).setCell ⟨bv,k*3+2,none⟩ x):=by
 obtain ⟨es,h1,h2,_⟩:=h
 exact Ru.of_one h2 (by decide) (ak7 es) (by simp [World.setCell]) (fun j _ hn=>by rw [heap_setCell_other _ ⟨bv,k*3+2,none⟩ j _ hn,heap_setCell_other _ ⟨bv,k*3+1,none⟩ j _ hn,heap_setCell_other _ ⟨bv,k*3,none⟩ j _ hn])
theorem arm {rs:List Rat} {k:Nat} {r:Rat} (h:rs[k]? = some r):comR (rs.take (k+1))=comR (rs.take k)*((r.den:Int) / ((Int.gcd (comR (rs.take k)) r.den:Nat):Int)):=afi _ _ h
set_option maxRecDepth 20000 in
set_option maxHeartbeats 16000000 in
theorem amc (w:World) (v:Value) (rs:List Rat) (L M:Nat) (h:IsQrow w v rs L) (hL:L≤10000) (hL1:1≤L) (hM:M≤200000) (hl:rs.length≤1000000) (hC:∀ k,k≤rs.length→((comR (rs.take k)).natAbs:Int)<pw M) (hD:∀ z ∈ clr rs,(z.natAbs:Int)<pw M) :
  Calls Tryz.prog 32 #[v] w fun e w'=>∃ r,e=.returned r∧ORow w.heap.size w' r (clr rs) M∧Below w.heap.size w w' := by
 obtain ⟨ao,cap,rfl,_⟩:=h.parts
 have H:=hide h
 have HC:=hide hC
 have HD:=hide hD
 clear h hC hD
 obtain ⟨n,hnn⟩:∃ n,rs.length=n:=⟨_,rfl⟩
 have HRL:Hid ((clr rs).length=n):=(show (clr rs).length=n by simp [clr,hnn])
 rw [hnn] at H hl HC ⊢
 have HN:=hide hnn
 clear hnn
 obtain ⟨iR,hi,hz0,hz1,hz2⟩:=info_parts infoRz
 obtain ⟨iW,hi',hz0',hz1',hz2'⟩:=info_parts infoWz
 go_enter Tryz.func32,Tryz.ntmps32
 go_wp2_with (refine wpList_make_full _ rfl (.tmp 12) (.tmp 12) 35 rfl w.heap.size 40 iR (.agg #[.bool false,.slice none 0 0,.slice none 0 0]) 3 Tryz.underlying35 hi hz0 hz1 .i64 .i64 _ _ n rfl rfl (by omega) (by omega) (by rw [hz2];omega) (by unfold maxLen;omega) (Nat.le_refl _) ?hK)
 case hK =>
  intro w1 hown hgrow
  have hb1:Below w.heap.size w w1:=(Below.refl _ _).grown hgrow (Nat.le_refl _) (by simp)
  obtain ⟨_,hmb⟩:=ad1 hown
  rw [aid] at hmb
  have hP0:PQ w1 w.heap.size n 0 rs L:=⟨_,List.length_replicate,hmb,fun k e r hk=>by omega⟩
  generalize hlb:w.heap.size=lb at *
  clear hown hgrow hmb
  go_wp2_with fail
  refine (acu w1 1 (by decide) (by decide)).mono ?_
  rintro e w2 ⟨ng0,ao0,cap0,rs0,rfl,hw2,hl2,hb2⟩
  have hbA:=hAl w2 (.cells #[.bool ng0,.slice ao0 rs0.length cap0] 38)
  have ho2:OutW 1 2 (.agg #[.bool ng0,.slice ao0 rs0.length cap0]) w2:=⟨_,_,_,_,rfl,hw2,hl2⟩
  have hb3:=hb2.trans (hbA.mono hb2.size)
  have HP0:=hide (hP0.below hb3)
  have HO0:=hide ((ho2.fit (L' := M) (HC.out 0 (Nat.zero_le _))).ru (Ru.of_below hbA))
  have HB0:=hide (hb1.trans (hb3.mono (hlb ▸ hb1.size)))
  have HX0:=hide (heap_alloc_new w2 (.cells #[.bool ng0,.slice ao0 rs0.length cap0] 38))
  have hfc:lb<w2.heap.size:=Nat.lt_of_lt_of_le hP0.lt hb2.size
  clear hw2 hl2 hb2 hbA ho2 hb3 hb1 hP0
  go_wp2_with fail
  generalize w2.heap.size=fc at *
  go_loopw [5,6,7,17] (fun _ _ _ iv wr=>∃ (k:Nat),iv=.int .i64 k∧k≤n∧Below lb w wr∧PQ wr lb n k rs L∧∃ ng a m c,wr.heap[fc]? = some (.cells #[.bool ng,.slice a m c] 38 (0,0))∧OutW (comR (rs.take k)) M (.agg #[.bool ng,.slice a m c]) wr) (fun _ _ _ iv _=>n - (intOf iv).toNat)
  case atStart=>exact ⟨0,rfl,Nat.zero_le _,HB0.out,HP0.out,_,_,_,_,HX0.out,HO0.out⟩
  case round =>
   obtain ⟨k,rfl,hk,hbw,hp,ng,a,m,c,hbx,ho⟩:=hrel
   have HW:=hide hbw
   have HP:=hide hp
   have HBX:=hide hbx
   have HO:=hide ho
   by_cases hlt:k<n
   ·obtain ⟨r,hr⟩:∃ r,rs[k]? = some r:=⟨_,List.getElem?_eq_getElem (by have:=HN.out;omega)⟩
    obtain ⟨b,off,ngx,ax,mx,cx,dx,ex,fx',rfl,hbl,x0,x1,x2,hx⟩:=H.out.cell hr
    have hblb:b<lb:=by omega
    replace x0:=(hbw.cell (p:=⟨b,off+k*3,none⟩) hblb).trans x0
    replace x1:=(hbw.cell (p:=⟨b,off+k*3+1,none⟩) hblb).trans x1
    replace x2:=(hbw.cell (p:=⟨b,off+k*3+2,none⟩) hblb).trans x2
    have hrw:Ru w wr:=Ru.of_below (hlb.symm ▸ hbw)
    have HX:=hide (hx.ru hrw)
    have HF:=hide (aor hx hL1)
    have HR:=hide hr
    have hlt' : (k:Int)<(n:Int):=by omega
    have hba:Below wr.heap.size wr (wr.alloc (.cells #[.bool ngx,.slice ax mx cx,.slice dx ex fx'] 40)):=hAl _ _
    clear hbw hp hbx ho hx hr hrw
    go_wp2_with fail
    refine (av0 _ _ r L L (HX.out.ru (Ru.of_below hba)) (by omega) HF.out).mono ?_
    rintro e w4 ⟨v1,rfl,h4,hb4⟩
    obtain ⟨ng1,ao1,cap1,rs1,bo1,dap1,ss1,rfl,_⟩:=id h4
    have hb4' := hba.trans (hb4.mono hba.size)
    have H4:=hide h4
    obtain ⟨⟨_,_,_,_,_,_,_,p0,p1,p2,_⟩,pf0,pf1,pf2⟩:=(HP.out.below hb4').cells hlt
    have hpl:=(HP.out.below hb4').lt
    have HB4:=hide hb4'
    clear h4 hb4 hb4' hba x0 x1 x2
    go_wp2_with fail
    obtain ⟨q1,q2⟩:=HP.out.put HB4.out hlt HR.out H4.out
    have hfw:Rc lb lb wr (((w4.setCell ⟨lb,k*3,none⟩ (.bool ng1)).setCell ⟨lb,k*3+1,none⟩ (.slice ao1 rs1.length cap1)).setCell ⟨lb,k*3+2,none⟩ (.slice bo1 ss1.length dap1)):=q2
    have hal:=hAl (((w4.setCell ⟨lb,k*3,none⟩ (.bool ng1)).setCell ⟨lb,k*3+1,none⟩ (.slice ao1 rs1.length cap1)).setCell ⟨lb,k*3+2,none⟩ (.slice bo1 ss1.length dap1)) (.cells #[.bool false,.slice bo1 ss1.length dap1] 38)
    have hnew:=heap_alloc_new (((w4.setCell ⟨lb,k*3,none⟩ (.bool ng1)).setCell ⟨lb,k*3+1,none⟩ (.slice ao1 rs1.length cap1)).setCell ⟨lb,k*3+2,none⟩ (.slice bo1 ss1.length dap1)) (.cells #[.bool false,.slice bo1 ss1.length dap1] 38)
    have hs4:(((w4.setCell ⟨lb,k*3,none⟩ (.bool ng1)).setCell ⟨lb,k*3+1,none⟩ (.slice ao1 rs1.length cap1)).setCell ⟨lb,k*3+2,none⟩ (.slice bo1 ss1.length dap1)).heap.size=w4.heap.size:=by simp [World.setCell]
    rw [hs4] at hnew
    have hu4:Ru w4 (((w4.setCell ⟨lb,k*3,none⟩ (.bool ng1)).setCell ⟨lb,k*3+1,none⟩ (.slice ao1 rs1.length cap1)).setCell ⟨lb,k*3+2,none⟩ (.slice bo1 ss1.length dap1)):=av7 (HP.out.below HB4.out) _ _ _ _
    have hrc:Rc lb lb wr _:=q2.trans (.of_below hal)
    have hpq:=q1.below hal
    have hden:=(ahi (H4.out.ru (hu4.trans (Ru.of_below hal)))).2
    have hcb:=(hrc.other fc (aaa HBX.out) (by omega) (by omega)).trans HBX.out
    have hco:=HO.out.ru hrc.ru
    generalize ((((w4.setCell ⟨lb,k*3,none⟩ (.bool ng1)).setCell ⟨lb,k*3+1,none⟩ (.slice ao1 rs1.length cap1)).setCell ⟨lb,k*3+2,none⟩ (.slice bo1 ss1.length dap1)).alloc (.cells #[.bool false,.slice bo1 ss1.length dap1] 38))=w5 at *
    have hbl5:Below lb w w5:=HW.out.trans (hrc.below (Nat.le_of_lt HP.out.lt) (Nat.le_refl _) (Nat.le_refl _))
    obtain ⟨hcl,y0,y1,yf0,yf1⟩:=aah hcb
    obtain ⟨hnl,u0,u1,_,_⟩:=aah hnew
    have HPQ:=hide hpq
    have HDN:=hide hden
    have HCB:=hide hcb
    have HNB:=hide hnew
    have HCO:=hide hco
    have HB5:=hide hbl5
    have HCK:=hide (arm HR.out)
    have HCM:=hide (HC.out (k+1) (by omega))
    generalize w4.heap.size=f7 at *
    clear hal hnew hs4 hu4 hrc hpq hden hcb hco hbl5 hfw q1 q2 p0 p1 p2 pf0 pf1 pf2
    go_region_law (first | (refine aam rfl 59 #[.tmp 35,.tmp 36] #[38,38] rfl at6 #[.agg #[.bool ng,.slice a m c],.agg #[.bool false,.slice bo1 ss1.length dap1]] (by simp [Act.eval]) (gcdF _ (comR (rs.take k)) r.den _ _ M L (HCO.out.is.ru (Ru.of_below (show Below w5.heap.size w5 _ by (repeat' first|with_reducible(first|exact Below.refl _ _|assumption|refine gdrewN ?_ _|refine Below.alloc ?_ ?_ _|refine Below.drew ?_|refine Below.setCell ?_ ?_ _)|go_size)))) (HDN.out.ru (Ru.of_below (show Below w5.heap.size w5 _ by (repeat' first|with_reducible(first|exact Below.refl _ _|assumption|refine gdrewN ?_ _|refine Below.alloc ?_ ?_ _|refine Below.drew ?_|refine Below.setCell ?_ ?_ _)|go_size)))) (by omega) (by omega)) ?_;rintro e w6 ⟨v6,rfl,h6,hb6⟩;obtain ⟨ng6,ao6,k6,cap6,rfl⟩:=h6.agg;have hb56:Below w5.heap.size w5 w6:=(show Below w5.heap.size w5 _ by (repeat' first|with_reducible(first|exact Below.refl _ _|assumption|refine gdrewN ?_ _|refine Below.alloc ?_ ?_ _|refine Below.drew ?_|refine Below.setCell ?_ ?_ _)|go_size)).trans (hb6.mono (by simp));have HB56:=hide hb56;have H6:=hide h6;have y06:=(hb56.cell (p:=⟨fc,0,none⟩) hcl).trans y0;have y16:=(hb56.cell (p:=⟨fc,1,none⟩) hcl).trans y1;have u06:=(hb56.cell (p:=⟨f7,0,none⟩) hnl).trans u0;have u16:=(hb56.cell (p:=⟨f7,1,none⟩) hnl).trans u1;clear h6 hb6 hb56;refine ⟨_,rfl,?_⟩) | (refine aam rfl 57 #[.tmp 34,.tmp 37] #[38,38] rfl agz #[.agg #[.bool false,.slice bo1 ss1.length dap1],.agg #[.bool ng6,.slice ao6 k6 cap6]] (by simp [Act.eval]) (aeq _ r.den ((Int.gcd (comR (rs.take k)) r.den:Nat):Int) _ _ L (M+L+1) (HDN.out.ru (Ru.of_below HB56.out)) H6.out.is (by omega) (by omega)) ?_;rintro e w7 ⟨v7,rfl,h7,hb7⟩;obtain ⟨ng7,ao7,k7,cap7,rfl⟩:=h7.agg;have hb57:Below w5.heap.size w5 w7:=HB56.out.trans (hb7.mono HB56.out.size);have HB57:=hide hb57;have H7:=hide h7;have y07:=(hb57.cell (p:=⟨fc,0,none⟩) hcl).trans y0;have y17:=(hb57.cell (p:=⟨fc,1,none⟩) hcl).trans y1;clear h7 hb7 hb57;refine ⟨_,rfl,?_⟩) | (refine aam rfl 17 #[.tmp 33,.tmp 38] #[38,38] rfl aef #[.agg #[.bool ng,.slice a m c],.agg #[.bool ng7,.slice ao7 k7 cap7]] (by simp [Act.eval]) (mulF _ (comR (rs.take k)) _ _ _ M (L+4) (HCO.out.is.ru (Ru.of_below HB57.out)) H7.out.is (by omega) (by omega)) ?_;rintro e w8 ⟨v8,rfl,h8,hb8⟩;obtain ⟨ng8,ao8,k8,cap8,rfl⟩:=h8.agg;have hb58:Below w5.heap.size w5 w8:=HB57.out.trans (hb8.mono HB57.out.size);have HB58:=hide hb58;have H8:=hide h8.out;have hc8:=(hb58.block fc hcl).trans HCB.out;have HC8:=hide hc8;have hc8' := aah hc8;obtain ⟨hcl8,y08,y18,yf08,yf18⟩:=hc8';clear h8 hb8 hb58 hc8;refine ⟨_,rfl,?_⟩))
    all_goals (
     go_wp2
     go_roundw
     case rel =>
      refine ⟨k+1,by go_num,by omega,?_,?_,_,_,_,_,ab6 HC8.out _ _,?_⟩
      ·have:=HB5.out.trans (HB58.out.mono (Nat.le_of_lt HPQ.out.lt))
       exact (this.setCell (Nat.le_of_lt hfc) _).setCell (Nat.le_of_lt hfc) _
      ·refine (HPQ.out.below HB58.out).ru (aci HC8.out _ _) ?_
       rw [heap_setCell_other _ ⟨fc,1,none⟩ lb _ (by show lb≠fc;omega),heap_setCell_other _ ⟨fc,0,none⟩ lb _ (by show lb≠fc;omega)]
      ·rw [HCK.out]
       exact (H8.out.fit (by rw [←HCK.out];exact HCM.out)).ru (aci HC8.out _ _)
     case measure=>simp [intOf];omega)
   ·have hlt' : decide ((k:Int)<(n:Int))=false:=by simp;omega
    have hkn:rs.take k=rs:=List.take_of_length_le (by have:=HN.out;omega)
    have hkk:k=n:=by omega
    subst hkk
    rw [hkn] at HO
    clear hbw hp hbx ho hkn
    have hszl:lb≤wr.heap.size:=Nat.le_of_lt HP.out.lt
    go_wp2_with (refine wpList_make_full _ rfl (.tmp 42) (.tmp 42) 22 rfl lb 38 iW (.agg #[.bool false,.slice none 0 0]) 2 Tryz.underlying22 hi' hz0' hz1' .i64 .i64 _ _ k rfl rfl (by omega) (by omega) (by rw [hz2'];omega) (by unfold maxLen;omega) hszl ?hK2)
    case hK2 =>
     intro w3 hown hgrow
     have hb3:Below wr.heap.size wr w3:=(Below.refl _ _).grown hgrow (Nat.le_refl _) (by simp)
     obtain ⟨_,hmb⟩:=ad1 hown
     rw [akz] at hmb
     have HQ0:=hide (PRow.start (K:=lb) (zs:=clr rs) (L:=M) hmb)
     have HP3:=hide (HP.out.below hb3)
     have HBX3:=hide ((hb3.block _ (aaa HBX.out)).trans HBX.out)
     have HO3:=hide (HO.out.ru (Ru.of_below hb3))
     have HB3:=hide (HW.out.trans (hb3.mono hszl))
     have hfob:fc<wr.heap.size:=aaa HBX.out
     have hlob:lb<wr.heap.size:=HP.out.lt
     clear hown hgrow hb3 hmb HP HBX HO
     go_wp2_with fail
     generalize wr.heap.size=ob at *
     go_loopw [9,10,46] (fun _ _ iv wx=>∃ (j:Nat),iv=.int .i64 j∧j≤k∧Below lb w wx∧PQ wx lb k k rs L∧PRow lb wx ob k j (clr rs) M∧wx.heap[fc]? = some (.cells #[.bool ng,.slice a m c] 38 (0,0))∧OutW (comR rs) M (.agg #[.bool ng,.slice a m c]) wx) (fun _ _ iv _=>k - (intOf iv).toNat)
     case atStart=>exact ⟨0,rfl,Nat.zero_le _,HB3.out,HP3.out,HQ0.out,HBX3.out,HO3.out⟩
     case round =>
      obtain ⟨j,rfl,hj,hbw,hp,hq,hbx,ho⟩:=hrel
      have HWx:=hide hbw
      have HPx:=hide hp
      have HQx:=hide hq
      have HBXx:=hide hbx
      have HOx:=hide ho
      by_cases hlt:j<k
      ·obtain ⟨r,hr⟩:∃ r,rs[j]? = some r:=⟨_,List.getElem?_eq_getElem (by have:=HN.out;omega)⟩
       obtain ⟨⟨ngx,ax,mx,cx,dx,ex,fx',x0,x1,x2,hout⟩,_,_,_⟩:=hp.cells hlt
       have hoq:=hout r hlt hr
       obtain ⟨y0c,y1c,y2c,_,_⟩:=aah hbx
       have hlt' : (j:Int)<(k:Int):=by omega
       have HR:=hide hr
       have hba:Below wr.heap.size wr (wr.alloc (.cells #[.bool ngx,.slice ax mx cx,.slice dx ex fx'] 40)):=hAl _ _
       have HNM:=hide ((ahi hoq).1.ru (Ru.of_below hba))
       have HDN:=hide ((ahi hoq).2.ru (Ru.of_below hba))
       have hnew:=heap_alloc_new wr (.cells #[.bool ngx,.slice ax mx cx,.slice dx ex fx'] 40)
       have hcb:=(hba.block _ (aaa hbx)).trans hbx
       have HCO:=hide (ho.ru (Ru.of_below hba))
       have hpl:=hp.lt
       clear hout hoq hbw hp hq hbx ho hr y0c y1c y2c
       go_wp2_with fail
       generalize (wr.alloc (.cells #[.bool ngx,.slice ax mx cx,.slice dx ex fx'] 40))=w5 at *
       obtain ⟨hcl,y0,y1,_,_⟩:=aah hcb
       obtain ⟨hnl,u0,u1,u2,_,_,_⟩:=aac hnew
       have HA5:=hide hba
       clear hba hnew hcb x0 x1 x2
       have hcj:(clr rs)[j]? = some (r.num*(comR rs / (r.den:Int))):=by rw [clr,List.getElem?_map,HR.out];rfl
       have HCJ:=hide hcj
       have HFD:=hide (HD.out _ (List.mem_of_getElem? hcj))
       have hlw:=HPx.out.lt
       clear hcj
       go_region_law (first | (refine aam rfl 57 #[.tmp 55,.tmp 58] #[38,38] rfl agz #[.agg #[.bool ng,.slice a m c],.agg #[.bool false,.slice dx ex fx']] (by simp [Act.eval,Act.put]) (aeq _ (comR rs) r.den _ _ M L (HCO.out.is.ru (Ru.of_below (show Below w5.heap.size w5 _ by (repeat' first|with_reducible(first|exact Below.refl _ _|assumption|refine gdrewN ?_ _|refine Below.alloc ?_ ?_ _|refine Below.drew ?_|refine Below.setCell ?_ ?_ _)|go_size)))) (HDN.out.ru (Ru.of_below (show Below w5.heap.size w5 _ by (repeat' first|with_reducible(first|exact Below.refl _ _|assumption|refine gdrewN ?_ _|refine Below.alloc ?_ ?_ _|refine Below.drew ?_|refine Below.setCell ?_ ?_ _)|go_size)))) (by omega) (by omega)) ?_;rintro e w7 ⟨v7,rfl,h7,hb7⟩;obtain ⟨ng7,ao7,k7,cap7,rfl⟩:=h7.agg;have hb57:Below w5.heap.size w5 w7:=(show Below w5.heap.size w5 _ by (repeat' first|with_reducible(first|exact Below.refl _ _|assumption|refine gdrewN ?_ _|refine Below.alloc ?_ ?_ _|refine Below.drew ?_|refine Below.setCell ?_ ?_ _)|go_size)).trans (hb7.mono (by simp));have HB57:=hide hb57;have H7:=hide h7;have u07:=(hb57.cell (p:=⟨wr.heap.size,0,none⟩) hnl).trans u0;have u17:=(hb57.cell (p:=⟨wr.heap.size,1,none⟩) hnl).trans u1;clear h7 hb7 hb57;refine ⟨_,rfl,?_⟩) | (refine aam rfl 17 #[.tmp 54,.tmp 59] #[38,38] rfl aef #[.agg #[.bool ngx,.slice ax mx cx],.agg #[.bool ng7,.slice ao7 k7 cap7]] (by simp [Act.eval]) (mulF _ r.num _ _ _ L (M+4) (HNM.out.ru (Ru.of_below HB57.out)) H7.out.is (by omega) (by omega)) ?_;rintro e w8 ⟨v8,rfl,h8,hb8⟩;obtain ⟨ng8,ao8,k8,cap8,rfl⟩:=h8.agg;have hb58:Below w5.heap.size w5 w8:=HB57.out.trans (hb8.mono HB57.out.size);have HB58:=hide hb58;have hbx8:Below wr.heap.size wr w8:=HA5.out.trans (hb58.mono HA5.out.size);have HX8:=hide hbx8;have H8:=hide (h8.low (Nat.le_trans HA5.out.size HB57.out.size));have hq8:=PRow.cells (HQx.out.below hbx8) hlt;obtain ⟨⟨_,_,_,_,o0,o1⟩,of0,of1⟩:=hq8;have hol8:=PRow.lt (HQx.out.below hbx8);clear h8 hb8 hb58 hbx8;refine ⟨_,rfl,?_⟩))
       all_goals (
        obtain ⟨q1,q2⟩:=HQx.out.put (Nat.le_refl _) HX8.out hlt HCJ.out (Nat.le_of_lt hlw) (H8.out.fit HFD.out)
        go_wp2
        go_roundw
        case rel =>
         exact ⟨j+1,by go_num,by omega,HWx.out.trans (q2.below (Nat.le_of_lt hlw) (Nat.le_of_lt hlob) (Nat.le_of_lt hlob)),HPx.out.ru q2.ru (q2.other lb hlw (by omega) (by omega)),q1,(q2.other fc (aaa HBXx.out) (by omega) (by omega)).trans HBXx.out,HOx.out.ru q2.ru⟩
        case measure=>simp [intOf];omega)
      ·have hlt' : decide ((j:Int)<(k:Int))=false:=by simp;omega
       have hjk:j=k:=by omega
       subst hjk
       clear hbw hp hq hbx ho
       go_wp2
       refine bodyPost_ret (v:=.slice (some ⟨ob,0,none⟩) j j) (adx rfl rfl) rfl ⟨_,rfl,⟨ob,by rw [HRL.out],by omega,by rw [HRL.out,hlb];exact HQx.out,by rw [HRL.out];exact hl⟩,by rw [hlb];exact HWx.out⟩
end Lm
end Go.Proofs.YtdjgifcmhafppaaGreatDoor
namespace Go.Proofs.YtdjgifcmhafppaaGreatDoor
namespace Lm
open Go Go.RowKit
open Dm (WFr)
theorem PRow.low {K K' : Nat} {w:World} {bv n i:Nat} {zs:List Int} {L:Nat} (h:PRow K w bv n i zs L) (hk:K'≤K):PRow K' w bv n i zs L:=by
 obtain ⟨es,B,T,h1,h2,h3,h4,h5⟩:=h
 refine ⟨es,B,T,h1,h2,h3,fun k e z hk' he hz=>?_,h5⟩
 obtain ⟨g1,g2,g3,g4,g5⟩:=h4 k e z hk' he hz
 exact ⟨g1,g2,g3,Nat.le_trans hk g4,g5⟩
def canonZ (rs:List Rat):List Int:=red (clr rs)
set_option maxRecDepth 20000 in
set_option maxHeartbeats 4000000 in
theorem arn (w:World) (v:Value) (rs:List Rat) (L M:Nat) (h:IsQrow w v rs L) (hL:L≤10000) (hL1:1≤L) (hM:M≤100000) (hl:rs.length≤1000000) (hC:∀ k,k≤rs.length→((comR (rs.take k)).natAbs:Int)<pw M) (hD:∀ z ∈ clr rs,(z.natAbs:Int)<pw M) (hne:rs≠[]) :
  Calls Tryz.prog 12 #[v] w fun e w'=>Below w.heap.size w w'∧(((∀ z ∈ canonZ rs,(z.natAbs:Int)<pw 32)∧∃ r,e=.returned (.tuple #[r,.int .i64 0])∧ORow w.heap.size w' r (canonZ rs) M)∨((∃ z ∈ canonZ rs,¬ (z.natAbs:Int)<pw 32)∧e=.returned (.tuple #[.slice none 0 0,.int .i64 2]))):=by
 obtain ⟨ao,cap,rfl,_⟩:=h.parts
 have K:=hide (amc w _ rs L M h hL hL1 (by omega) hl hC hD)
 have hn0:(((rs.length:Nat):Int) == 0)=false:=by
  rw [beq_eq_false_iff_ne]
  intro e
  exact hne (List.length_eq_zero_iff.1 (by omega))
 have HCL:Hid ((clr rs).length=rs.length):=(show (clr rs).length=rs.length by simp [clr])
 have HZL:Hid ((canonZ rs).length=rs.length):=(show (canonZ rs).length=rs.length by simp [canonZ,red,clr])
 clear h hC hD hne
 generalize hn:rs.length=n at *
 go_enter Tryz.func12,Tryz.ntmps12
 go_wp2_with fail
 refine K.out.mono ?_
 rintro e w1 ⟨r1,rfl,h1,hb1⟩
 have K2:=al1 w1 r1 (clr rs) M h1.is (by omega) (by rw [HCL.out];omega)
 go_wp2_with fail
 refine K2.mono ?_
 rintro e w2 ⟨r2,rfl,h2,hb2⟩
 obtain ⟨bv,rfl,hbv,hP,hPl⟩:=h2
 change PRow w1.heap.size w2 bv (canonZ rs).length (canonZ rs).length (canonZ rs) M at hP
 have hrl:(red (clr rs)).length=n:=HZL.out
 rw [HZL.out] at hP
 rw [hrl]
 have HP:=hide hP
 have HB:=hide (hb1.trans (hb2.mono hb1.size))
 have hbs:=hb1.size
 have hw2:w.heap.size≤w2.heap.size:=HB.out.size
 have hIs:IsRow w2 (.slice (some ⟨bv,0,none⟩) n n) (canonZ rs) M:=by
  have:=PRow.full (zs:=canonZ rs) (L:=M) (w:=w2) (bv:=bv) (K:=w1.heap.size) (by rw [HZL.out];exact hP) (by rw [HZL.out];exact hl)
  rwa [HZL.out] at this
 have HI:=hide hIs
 have HBV:Hid (w.heap.size≤bv):=(show w.heap.size≤bv by omega)
 clear h1 hb1 hb2 K K2 hP hPl hrl hIs
 go_wp2_with fail
 go_loopw [6,15] (fun _ iv wr=>∃ (k:Nat),iv=.int .i64 k∧k≤n∧Below w2.heap.size w2 wr∧∀ (j:Nat) (z:Int),j<k→(canonZ rs)[j]? = some z→(z.natAbs:Int)<pw 32) (fun _ iv _=>n - (intOf iv).toNat)
 case atStart=>exact ⟨0,rfl,Nat.zero_le _,Below.refl _ _,fun j z hj=>by omega⟩
 case round =>
  obtain ⟨k,rfl,hk,hbw,hall⟩:=hrel
  have HW:=hide hbw
  have HALL:=hide hall
  by_cases hlt:k<n
  ·obtain ⟨z,hz⟩:∃ z,(canonZ rs)[k]? = some z:=⟨_,List.getElem?_eq_getElem (by have:=HZL.out;omega)⟩
   obtain ⟨b,off,ngx,ax,mx,cx,hao,hbl,x0,x1,hx⟩:=(HI.out.below hbw).cell hz
   obtain ⟨rfl,rfl⟩:bv=b∧0=off:=by simpa using hao
   rw [Nat.zero_add] at x0 x1
   have HX:=hide hx
   have HZ:=hide hz
   have hlt' : (k:Int)<(n:Int):=by omega
   have hba:Below wr.heap.size wr (wr.alloc (.cells #[.bool ngx,.slice ax mx cx] 38)):=hAl _ _
   clear hbw hall hx hz hao
   go_wp2_with fail
   refine (limbsF _ z M _ (HX.out.ru (Ru.of_below hba)) (by omega)).mono ?_
   rintro e w3 ⟨m,rfl,hm,hb3⟩
   have HM:=hide hm
   have HB3:=hide (HW.out.trans ((hba.trans (hb3.mono hba.size)).mono HW.out.size))
   by_cases hbig:m≤32
   ·have hb' : decide ((32:Int)<(m:Int))=false:=by simp;omega
    clear hm hb3 hba x0 x1
    go_wp2
    go_roundw
    case rel =>
     refine ⟨k+1,by go_num,by omega,HB3.out,fun j y hj hy=>?_⟩
     by_cases hjk:j=k
     ·subst hjk
      rw [HZ.out] at hy
      obtain rfl:=Option.some.inj hy
      exact HM.out.1 hbig
     ·exact HALL.out j y (by omega) hy
    case measure=>simp [intOf];omega
   ·have hb' : (32:Int)<(m:Int):=by omega
    have HBG:Hid (¬ (z.natAbs:Int)<pw 32):=(show ¬ (z.natAbs:Int)<pw 32 from fun h=>hbig (hm.2 h))
    clear hm hb3 hba x0 x1
    go_wp2
    refine bodyPost_ret (v:=_) (by simp [results,Tryz.results12,go_sem];try rfl) rfl ⟨HB.out.trans (HB3.out.mono hw2),.inr ⟨⟨z,List.mem_of_getElem? HZ.out,HBG.out⟩,rfl⟩⟩
  ·have hlt' : decide ((k:Int)<(n:Int))=false:=by simp;omega
   clear hbw hall
   go_wp2
   refine bodyPost_ret (v:=_) (by simp [results,Tryz.results12,go_sem];try rfl) rfl ⟨HB.out.trans (HW.out.mono hw2),.inl ⟨?_,_,rfl,?_⟩⟩
   ·intro z hz
    obtain ⟨j,hj⟩:=List.mem_iff_getElem?.1 hz
    exact HALL.out j z (by have:=(List.getElem?_eq_some_iff.1 hj).1;have:=HZL.out;omega) hj
   ·refine ⟨bv,by rw [HZL.out],HBV.out,?_,by rw [HZL.out];exact hl⟩
    rw [HZL.out]
    exact (PRow.low HP.out hbs).below HW.out
end Lm
end Go.Proofs.YtdjgifcmhafppaaGreatDoor
namespace Go.Proofs.YtdjgifcmhafppaaGreatDoor
namespace Lm
open Go Go.RowKit
def tsg (t:Tk) (s:ByteArray):Bool:=decide (t.kind=3) && decide (t.text=s)
set_option maxRecDepth 20000 in
set_option maxHeartbeats 1000000 in
theorem aro (w:World) (q b:Nat) (tv uv:Value) (l:List Tk) (vs:List ByteArray) (i:Nat) (t:Tk) (h:Rea w q b tv uv l vs i) (ht:l[i]? = some t) (s:ByteArray) (hk:t.kind=3) (hx:t.text=s) (hj:i+1<l.length) (hl:l.length≤100000) :
  Calls Tryz.prog 51 #[.pointer (some ⟨q,0,none⟩),.string s] w fun r w'=>r=.returned (.bool true)∧Rea w' q b tv uv l vs (i+1)∧Rc q q w w' := by
 have H:=hide h
 have hq:=aaa h.blk
 have K:=hide (aa5 w q b tv uv l vs i t h ht)
 have hi:i≤100000:=by omega
 clear hl
 have HJ:=hide hj
 obtain ⟨_,_,_,_,_,_,K1,_,KF,_⟩:=h.cells ht
 have HK1:=hide (And.intro K1 KF)
 clear h ht hj K1 KF
 unfold Tk.av at K
 rw [hk,hx] at K
 clear hk hx
 go_enter Tryz.func51,Tryz.ntmps51
 go_wp2_with fail
 refine K.out.mono ?_
 rintro r w1 ⟨rfl,hb⟩
 have HB:=hide hb
 have k1:=(hb.cell (p:=⟨q,1,none⟩) hq).trans HK1.out.1
 have kf:w1.frozen? ⟨q,1,none⟩ = false:=frozen_of_row w1 q 1 _ _ ((hb.block q hq).trans H.out.blk)
 have hq1:q<w1.heap.size:=Nat.lt_of_lt_of_le hq hb.size
 clear hb K HK1
 generalize hf:w1.heap.size=f at *
 have hqf:q≠f:=by omega
 go_wp2
 refine bodyPost_ret (v:=_) (by simp [results,Tryz.results51,go_sem];try rfl) rfl ⟨rfl,?_⟩
 obtain ⟨n1,n2⟩:=H.out.next (.of_below HB.out) (HB.out.block q hq) HJ.out
 have hA:∀ (W:World) (o:Obj),Below W.heap.size W (W.alloc o):=fun W o=>(Below.refl _ _).alloc (Nat.le_refl _) o
 exact ⟨n1.below (hA _ _),n2.trans (.of_below (hA _ _))⟩
set_option maxRecDepth 20000 in
set_option maxHeartbeats 1000000 in
theorem at7 (w:World) (q b:Nat) (tv uv:Value) (l:List Tk) (vs:List ByteArray) (i:Nat) (t:Tk) (h:Rea w q b tv uv l vs i) (ht:l[i]? = some t) (s:ByteArray) (hk:t.kind=3→t.text≠s) :
  Calls Tryz.prog 51 #[.pointer (some ⟨q,0,none⟩),.string s] w fun r w'=>r=.returned (.bool false)∧Rea w' q b tv uv l vs i∧Rc q q w w' := by
 have H:=hide h
 have K:=hide (aa5 w q b tv uv l vs i t h ht)
 clear h ht
 unfold Tk.av at K
 have hA:∀ (W:World) (o:Obj),Below W.heap.size W (W.alloc o):=fun W o=>(Below.refl _ _).alloc (Nat.le_refl _) o
 by_cases h3:t.kind=3
 ·have hx:(t.text.toList == s.toList)=false:=aur (hk h3)
  rw [h3] at K
  clear hk h3
  generalize t.text=x at K hx
  go_enter Tryz.func51,Tryz.ntmps51
  go_wp2_with fail
  refine K.out.mono ?_
  rintro r w1 ⟨rfl,hb⟩
  have HB:=hide hb
  clear hb K
  go_wp2
  refine bodyPost_ret (v:=_) (by simp [results,Tryz.results51,go_sem];try rfl) rfl ⟨rfl,?_⟩
  exact ⟨(H.out.below HB.out).below (hA _ _),(Rc.of_below HB.out).trans (.of_below (hA _ _))⟩
 ·have hx:(t.kind != 3)=true:=bne_iff_ne.2 h3
  clear hk h3
  generalize t.kind=x at K hx
  go_enter Tryz.func51,Tryz.ntmps51
  go_wp2_with fail
  refine K.out.mono ?_
  rintro r w1 ⟨rfl,hb⟩
  have HB:=hide hb
  clear hb K
  go_wp2
  refine bodyPost_ret (v:=_) (by simp [results,Tryz.results51,go_sem];try rfl) rfl ⟨rfl,?_⟩
  exact ⟨(H.out.below HB.out).below (hA _ _),(Rc.of_below HB.out).trans (.of_below (hA _ _))⟩
theorem abn (w:World) (q b:Nat) (tv uv:Value) (l:List Tk) (vs:List ByteArray) (i:Nat) (t:Tk) (h:Rea w q b tv uv l vs i) (ht:l[i]? = some t) (s:ByteArray) (hj:t.kind=3→i+1<l.length) (hl:l.length≤100000) :
  Calls Tryz.prog 51 #[.pointer (some ⟨q,0,none⟩),.string s] w fun r w'=>r=.returned (.bool (tsg t s))∧Rea w' q b tv uv l vs (if tsg t s then i+1 else i)∧Rc q q w w' := by
 by_cases hc:t.kind=3∧t.text=s
 ·have e:tsg t s=true:=by simp [tsg,hc.1,hc.2]
  rw [e]
  exact aro w q b tv uv l vs i t h ht s hc.1 hc.2 (hj hc.1) hl
 ·have e:tsg t s=false:=by
   simp only [tsg,Bool.and_eq_false_imp,decide_eq_true_eq,decide_eq_false_iff_not]
   exact fun h1 h2=>hc ⟨h1,h2⟩
  rw [e]
  exact at7 w q b tv uv l vs i t h ht s (fun h1 h2=>hc ⟨h1,h2⟩)
def ixS (x:ByteArray):List ByteArray→Option Nat
 | []=>none
 | y :: r=>if y=x then some 0 else (ixS x r).map (·+1)
theorem ak8 {x:ByteArray} {ss:List ByteArray} (h:x ∉ ss):ixS x ss=none:=by
 induction ss with
 | nil=>rfl
 | cons y r ih =>
  rw [ixS,if_neg (fun e=>h (by simp [e])),ih (fun e=>h (by simp [e]))]
  rfl
theorem at8 {x:ByteArray} {ss:List ByteArray} {k:Nat} (h:x ∉ ss.take k) (hk:ss[k]? = some x):ixS x ss=some k:=by
 induction ss generalizing k with
 | nil=>simp at hk
 | cons y r ih =>
  cases k with
  | zero =>
   simp at hk
   rw [ixS,if_pos hk]
  | succ k =>
   simp only [List.take_succ_cons,List.mem_cons,not_or] at h
   rw [ixS,if_neg (fun e=>h.1 e.symm),ih h.2 (by simpa using hk)]
   rfl
theorem axw {x:ByteArray} {ss:List ByteArray} {k:Nat} (h:ixS x ss=some k):ss[k]? = some x:=by
 induction ss generalizing k with
 | nil=>simp [ixS] at h
 | cons y r ih =>
  rw [ixS] at h
  split at h
  ·next e=>obtain rfl:=Option.some.inj h;simp [e]
  ·cases hr:ixS x r with
   | none=>rw [hr] at h;simp at h
   | some m =>
    rw [hr] at h
    simp at h
    subst h
    simpa using ih hr
theorem av8 {x:ByteArray} {ss:List ByteArray} (h:ixS x ss=none):x ∉ ss:=by
 induction ss with
 | nil=>simp
 | cons y r ih =>
  rw [ixS] at h
  split at h
  ·simp at h
  ·next e =>
   have:ixS x r=none:=by cases hr:ixS x r <;> simp [hr] at h ⊢
   simp only [List.mem_cons,not_or]
   exact ⟨fun e'=>e e'.symm,ih this⟩
def ixV (o:Option Nat):Value:=match o with | some k=>.int .i64 (k:Int) | none=>.int .i64 (-1)
theorem Strs.parts {w:World} {ao:Option Addr} {n cap:Nat} {ss:List ByteArray} (h:Strs w (.slice ao n cap) ss):n=ss.length∧n≤9223372036854775807∧n≤cap∧cap≤9223372036854775807:=by
 obtain ⟨ao',cap',hv,c1,c2,c3,c4⟩:=h
 obtain ⟨rfl,rfl,rfl⟩:=(Value.slice.injEq .. ▸ hv)
 exact ⟨rfl,by omega,c1,c2⟩
theorem Strs.take {w:World} {ao:Option Addr} {n cap:Nat} {ss:List ByteArray} (h:Strs w (.slice ao n cap) ss) (k:Nat) (hk:k≤ss.length):Strs w (.slice ao k cap) (ss.take k):=by
 obtain ⟨ao',cap',hv,c1,c2,c3,c4⟩:=h
 obtain ⟨rfl,rfl,rfl⟩:=(Value.slice.injEq .. ▸ hv)
 refine ⟨ao,cap,by rw [List.length_take,Nat.min_eq_left hk],by rw [List.length_take];omega,c2,by simp,?_⟩
 rcases c4 with c4 | ⟨b,off,rfl,hl,hc⟩
 ·exact .inl (by rw [List.length_take];omega)
 ·refine .inr ⟨b,off,rfl,hl,fun j u hu=>hc j u ?_⟩
  rw [List.map_take,List.getElem?_take] at hu
  split at hu
  ·exact hu
  ·cases hu
set_option maxRecDepth 20000 in
set_option maxHeartbeats 1000000 in
theorem afj (w:World) (ao:Option Addr) (n cap:Nat) (ss:List ByteArray) (x:ByteArray) (h:Strs w (.slice ao n cap) ss) :
  Calls Tryz.prog 67 #[.slice ao n cap,.string x] w fun e w'=>e=.returned (ixV (ixS x ss))∧w' = w:=by
 obtain ⟨hn,hb,_,_⟩:=h.parts
 have H:=hide h
 clear h
 go_enter Tryz.func67,Tryz.ntmps67
 go_wp2
 go_loopw [5,8] (fun _ iv wr=>∃ (i:Nat),iv=.int .i64 i∧i≤n∧x ∉ ss.take i∧wr=w) (fun _ iv _=>n - (intOf iv).toNat)
 case atStart=>exact ⟨0,rfl,Nat.zero_le _,by simp,rfl⟩
 case round =>
  obtain ⟨i,rfl,hi,hz,rfl⟩:=hrel
  have HZ:=hide hz
  clear hz
  by_cases hlt:i<n
  ·have hget:ss[i]? = some (ss[i]'(by omega)):=List.getElem?_eq_getElem _
   obtain ⟨b,off,rfl,hbl,hc⟩:=H.out.cell hget
   have hlt' : (i:Int)<(n:Int):=by omega
   generalize ss[i]'(by omega)=y at hc hget
   have HG:=hide hget
   clear hget
   by_cases he:x=y
   ·subst he
    go_wp2
    go_ret
    exact ⟨by rw [at8 HZ.out HG.out];rfl,rfl⟩
   ·have hne:(x.toList == y.toList)=false:=aur he
    go_wp2
    go_roundw
    case rel=>exact ⟨i+1,by go_num,by omega,by rw [List.take_add_one,HG.out];simp [HZ.out,he],trivial⟩
    case measure=>simp [intOf];omega
  ·have hlt' : decide ((i:Int)<(n:Int))=false:=by simp;omega
   go_wp2
   go_ret
   exact ⟨by have:=HZ.out;rw [List.take_of_length_le (by omega)] at this;rw [ak8 this];rfl,rfl⟩
set_option maxRecDepth 20000 in
set_option maxHeartbeats 1000000 in
theorem aju (w:World) (ao:Option Addr) (n cap:Nat) (ss:List ByteArray) (x:ByteArray) (h:Strs w (.slice ao n cap) ss) :
  Calls Tryz.prog 43 #[.slice ao n cap,.string x] w fun e w'=>e=.returned (.bool (ixS x ss).isSome)∧w' = w:=by
 have K:=hide (afj w ao n cap ss x h)
 clear h
 generalize hg:ixS x ss=o at K
 have HG:=hide hg
 clear hg
 cases o with
 | none =>
  unfold ixV at K
  go_enter Tryz.func43,Tryz.ntmps43
  go_wp2_with fail
  refine K.out.mono ?_
  rintro e w' ⟨rfl,rfl⟩
  go_wp2
  go_ret
  exact ⟨rfl,rfl⟩
 | some k =>
  unfold ixV at K
  have hk:(0:Int)≤(k:Int):=by omega
  go_enter Tryz.func43,Tryz.ntmps43
  go_wp2_with fail
  refine K.out.mono ?_
  rintro e w' ⟨rfl,rfl⟩
  go_wp2
  go_ret
  exact ⟨rfl,rfl⟩
open Classical in
noncomputable def isNm (s:ByteArray):Bool:=decide (s.size≤4096∧∃ gs e o,Snd s pl0 gs e∧ScanR s e gs o∧nmS s o=true)
open Classical in
theorem am1 {s:ByteArray} {gs:List Gl} {e:Pl} {o:SO} (hs:s.size≤4096) (hQ:Snd s pl0 gs e) (hR:ScanR s e gs o):nmS s o=isNm s:=by
 unfold isNm
 by_cases h:nmS s o=true
 ·rw [h,decide_eq_true ⟨hs,gs,e,o,hQ,hR,h⟩]
 ·rw [Bool.not_eq_true] at h
  rw [h,eq_comm,decide_eq_false_iff_not]
  rintro ⟨_,gs',e',o',h1,h2,h3⟩
  obtain ⟨rfl,rfl⟩:=h1.one hQ
  obtain rfl:=h2.one hR
  rw [h] at h3
  cases h3
open Classical in
theorem ajc {s:ByteArray} (hs:4096<s.size):isNm s=false:=by
 unfold isNm
 rw [decide_eq_false_iff_not]
 rintro ⟨h,_⟩
 omega
theorem av9 (w:World) (hT:Tabs w) (s:ByteArray):Calls Tryz.prog 42 #[.string s] w fun r w'=>Below w.heap.size w w'∧r=.returned (.bool (isNm s)):=by
 by_cases hs:4096<s.size
 ·rw [ajc hs]
  exact arj w s hs
 ·obtain ⟨gs,e,hQ⟩:=axk s s.size pl0 (by simp [pl0])
  refine (ari w hT s (by omega) gs e hQ).mono ?_
  rintro r w' ⟨hb,o,hR,rfl⟩
  exact ⟨hb,by rw [am1 (by omega) hQ hR]⟩
def NmsOk (vs:List ByteArray):Prop:=vs.length≤16∧∀ (i:Nat) (x:ByteArray),vs[i]? = some x→isNm x=true∧x ∉ vs.take i
open Classical in
noncomputable def nmsE (vs:List ByteArray):Int:=if NmsOk vs then 0 else 1
set_option maxRecDepth 20000 in
set_option maxHeartbeats 2000000 in
theorem ajd (w:World) (hT:Tabs w) (v:Value) (vs:List ByteArray) (h:Strs w v vs) :
  Calls Tryz.prog 22 #[v] w fun e w'=>e=.returned (.int .i64 (nmsE vs))∧Below w.heap.size w w' := by
 obtain ⟨ao,cap,rfl,_⟩:=id h
 obtain ⟨_,hb,hb2,hb3⟩:=h.parts
 have H:=hide h
 have HT:=hide hT
 clear h hT
 obtain ⟨n,hn⟩:∃ n,vs.length=n:=⟨_,rfl⟩
 rw [hn] at H hb hb2 ⊢
 have HN:=hide hn
 clear hn
 by_cases hbig:16<n
 ·have hbig' : (16:Int)<(n:Int):=by omega
  have he:nmsE vs=1:=if_neg (fun h=>by have:=h.1;rw [HN.out] at this;omega)
  rw [he]
  clear he
  go_enter Tryz.func22,Tryz.ntmps22
  go_wp2
  go_ret
  exact ⟨rfl,Below.refl _ _⟩
 have hbig' : decide ((16:Int)<(n:Int))=false:=by simp;omega
 go_enter Tryz.func22,Tryz.ntmps22
 go_wp2
 go_loopw [3,4,10] (fun _ _ iv wr=>∃ (i:Nat),iv=.int .i64 i∧i≤n∧(∀ (j:Nat) (x:ByteArray),j<i→vs[j]? = some x→isNm x=true∧x ∉ vs.take j)∧Below w.heap.size w wr) (fun _ _ iv _=>n - (intOf iv).toNat)
 case atStart=>exact ⟨0,rfl,Nat.zero_le _,by intro j x hj;omega,Below.refl _ _⟩
 case round =>
  obtain ⟨i,rfl,hi,hz,hbw⟩:=hrel
  have HZ:=hide hz
  have HW:=hide hbw
  clear hz hbw
  by_cases hlt:i<n
  ·have hget:vs[i]? = some (vs[i]'(by have:=HN.out;omega)):=List.getElem?_eq_getElem _
   generalize vs[i]'(by have:=HN.out;omega)=x at hget
   obtain ⟨b,off,rfl,hbl,hc⟩:=(H.out.below HW.out).cell hget
   have HG:=hide hget
   have HS:=hide (H.out.below HW.out)
   have hlt' : (i:Int)<(n:Int):=by omega
   clear hget
   have K:=hide (av9 wr (HT.out.below HW.out) x)
   cases hnm:isNm x with
   | false =>
    have HNM:=hide hnm
    rw [hnm] at K
    clear hnm
    have HE:Hid (nmsE vs=1):=if_neg (fun h=>by have:=(h.2 i x HG.out).1;rw [HNM.out] at this;cases this)
    go_wp2_with fail
    refine K.out.mono ?_
    rintro r w1 ⟨hb1,rfl⟩
    have HB1:=hide (HW.out.trans (hb1.mono HW.out.size))
    clear hb1
    go_wp2
    go_ret
    exact ⟨by rw [HE.out];rfl,HB1.out⟩
   | true =>
    have HNM:=hide hnm
    rw [hnm] at K
    clear hnm
    go_wp2_with fail
    refine K.out.mono ?_
    rintro r w1 ⟨hb1,rfl⟩
    have HB1:=hide (HW.out.trans (hb1.mono HW.out.size))
    have HS1:=hide ((HS.out.below hb1).take i (by have:=HN.out;omega))
    clear hb1
    have K2:=hide (aju w1 _ _ _ _ x HS1.out)
    by_cases hm:x ∈ vs.take i
    ·have e1:(ixS x (vs.take i)).isSome=true:=by
      cases hq:ixS x (vs.take i) with
      | none=>exact absurd hm (av8 hq)
      | some k=>rfl
     rw [e1] at K2
     have HE:Hid (nmsE vs=1):=if_neg (fun h=>(h.2 i x HG.out).2 hm)
     clear e1
     go_wp2_with fail
     refine K2.out.mono ?_
     rintro r w2 ⟨rfl,rfl⟩
     go_wp2
     go_ret
     exact ⟨by rw [HE.out];rfl,HB1.out⟩
    ·have e1:(ixS x (vs.take i)).isSome=false:=by rw [ak8 hm];rfl
     rw [e1] at K2
     have HM:=hide hm
     clear e1 hm
     go_wp2_with fail
     refine K2.out.mono ?_
     rintro r w2 ⟨rfl,rfl⟩
     go_wp2
     go_roundw
     case rel =>
      refine ⟨i+1,by go_num,by omega,?_,HB1.out⟩
      intro j y hj hy
      by_cases hji:j=i
      ·subst hji
       rw [HG.out] at hy
       obtain rfl:=Option.some.inj hy
       exact ⟨HNM.out,HM.out⟩
      ·exact HZ.out j y (by omega) hy
     case measure=>simp [intOf];omega
  ·have hlt' : decide ((i:Int)<(n:Int))=false:=by simp;omega
   have HE:Hid (nmsE vs=0):=if_pos ⟨by rw [HN.out];omega,fun j x hj=>HZ.out j x (by have:=(List.getElem?_eq_some_iff.1 hj).1;rw [HN.out] at this;omega) hj⟩
   go_wp2
   go_ret
   exact ⟨by rw [HE.out];rfl,HW.out⟩
section
variable {dst:Option Tmp} {ty:TypeId} {pos:String} {after:Array Edge} {guard:Option (Nat × Bool)} {a:Act} {w:World} {ats:Array TypeId} {i j:Nat}
theorem aje {u v:Int} (h1:a.eval (.tmp i)=.int .i32 u) :
  Does Tryz.prog { dst,op:=.binOp .eql 21 (.tmp i) (.const (.int .i32 v)) 21,type:=ty,pos,after,guard } a.eval w fun v' w'=>Below w.heap.size w w'∧Eqs (.bool (decide (u=v))) v' w' := by
 refine adh (v:=.bool (decide (u=v))) ?_ ?_ ⟨Below.refl _ _,rfl⟩
 ·rw [h1];simp [go_sem,Act.eval]
 ·rw [h1];simp [go_sem,Act.eval];rfl
theorem ajf {u v:Int} (h1:a.eval (.tmp i)=.int .i32 u) (h:u=v) :
  Does Tryz.prog { dst,op:=.binOp .eql 21 (.tmp i) (.const (.int .i32 v)) 21,type:=ty,pos,after,guard } a.eval w fun v' w'=>Below w.heap.size w w'∧Eqs (.bool true) v' w' :=
 (aje h1).mono fun _ _ ⟨hb,e⟩=>⟨hb,by rw [Eqs,show _ = _ from e,decide_eq_true h]⟩
theorem af6 {u v:Int} (h1:a.eval (.tmp i)=.int .i32 u) (h:u≠v) :
  Does Tryz.prog { dst,op:=.binOp .eql 21 (.tmp i) (.const (.int .i32 v)) 21,type:=ty,pos,after,guard } a.eval w fun v' w'=>Below w.heap.size w w'∧Eqs (.bool false) v' w' :=
 (aje h1).mono fun _ _ ⟨hb,e⟩=>⟨hb,by rw [Eqs,show _ = _ from e,decide_eq_false h]⟩
theorem am2 {s:ByteArray} {x:Operand} {k:Nat} (h:a.eval (.tmp i)=.string s) (hx:a.eval x=.int .i64 (k:Int)) (hk:k≤s.size):Does Tryz.prog { dst,op:=.slice 9 (.tmp i) (some x) none none,type:=ty,pos,after,guard } a.eval w fun v' w'=>Below w.heap.size w w'∧Eqs (.string (s.extract k s.size)) v' w' := by
 have e:(execOp a.eval { dst,op:=.slice 9 (.tmp i) (some x) none none,type:=ty,pos,after,guard }).run Tryz.prog w=.ok (.value (.string (s.extract k s.size))) w:=by
  simp only [execOp,Option.map,h,hx]
  go_simp
 refine ⟨?_⟩
 unfold Turns
 rw [e]
 exact ⟨Below.refl _ _,rfl⟩
end
section
variable {dst:Option Tmp} {ty:TypeId} {pos:String} {after:Array Edge} {guard:Option (Nat × Bool)} {a:Act} {w:World} {ats:Array TypeId} {i j:Nat}
theorem aos:Has Tryz.prog 69:=by unfold Has;kernel_rfl
theorem af7 {s:ByteArray} {R:Int} {K:Nat} (h:a.eval (.tmp i)=.string s) (hT:Tabs w) (hd:(((Lib.decodeGo s).1:Nat):Int)=R∧(Lib.decodeGo s).2=K) :
  Does Tryz.prog { dst,op:=.call { callee:=.value (.func 69),args:=#[.tmp i],argTypes:=ats },type:=ty,pos,after,guard } a.eval w fun v w'=>Below w.heap.size w w'∧Tup2 (Eqs (.int .i32 R)) (Eqs (.int .i64 (K:Int))) v w' := by
 refine abm aos _ (by simp only [List.map_toArray,List.map_cons,List.map_nil,h]) ((ah8 w s hT).mono ?_)
 rintro e w' ⟨rfl,hb⟩
 obtain ⟨rfl,rfl⟩:=hd
 exact ⟨_,rfl,hb,_,_,rfl,rfl,rfl⟩
end
set_option maxRecDepth 20000 in
set_option maxHeartbeats 1000000 in
theorem awa (w:World) (s:ByteArray) (hT:Tabs w) :
  Calls Tryz.prog 123 #[.string s] w fun e w'=>e=.returned (.tuple #[.bool (msplit s).1,.string (msplit s).2])∧Below w.heap.size w w' := by
 rcases al8 s with ⟨⟨hd0,h3⟩,hm⟩ | ⟨⟨hd0,h3⟩,hm⟩ | ⟨⟨hn1',hn2',_,_⟩,hm⟩
 ·skip
  go_enter Tryz.func123,Tryz.ntmps123
  generalize hA:(Act.mk _ _)=aa
  have hn:aa.tmps.size=19:=by rw [←hA];rfl
  have hd:aa.defers = []:=by rw [←hA]
  have f0:aa.eval (.tmp 0)=.string s:=by rw [←hA];rfl
  clear hA
  have HB:Below w.heap.size w w:=Below.refl _ _
  refine wp_seq ?_
  refine aao [some 2,some 3] [Eqs ((.bool false)),Eqs ((.string ⟨#[]⟩))] [] [] (by kernel_rfl) hn rfl (by kernel_rfl) (by kernel_rfl) (by kernel_rfl) (by kernel_rfl) (by kernel_rfl) (by kernel_rfl) ⟨Eqs.mono4 _,Eqs.mono4 _,trivial⟩ aau (IsOld.all (bx:=[]) trivial) (DisOld.all (bx:=[]) trivial) ?_ ?_
  ·exact ⟨.norm 2 rfl rfl rfl (fun a_ w_ hn_ hBt hr hR hD hO hS=>aae rfl),
    .norm 3 rfl rfl rfl (fun a_ w_ hn_ hBt hr hR hD hO hS=>aae rfl),
    trivial⟩
  intro a1 w1 gs1 hn1 hd1 hBt hr hR hP hX hU
  replace hn:=hn1;replace hd:=hd1.trans hd
  replace f0:=(hR 0 rfl).trans f0
  have e2:a1.eval (.tmp 2)=(.bool false):=hP 0 (by decide)
  have f2:=e2
  have e3:a1.eval (.tmp 3)=(.string ⟨#[]⟩):=hP 1 (by decide)
  have f3:=e3
  replace HB:=HB.trans (hBt.below HB.size (UpOld.all (bx:=[]) trivial))
  clear hBt hr hR hP hX hU
  refine wp_seq ?_
  refine aao [some 7,some 8,some 6,some 9,some 10,some 4,some 5] [Eqs (.string s),Tup2 (Eqs (.int .i32 8722)) (Eqs (.int .i64 (3:Int))),Tup2 (Eqs (.int .i32 8722)) (Eqs (.int .i64 (3:Int))),Eqs (.int .i32 8722),Eqs (.int .i64 (3:Int)),Eqs (.int .i32 8722),Eqs (.int .i64 (3:Int))] [] [] (by kernel_rfl) hn rfl (by kernel_rfl) (by kernel_rfl) (by kernel_rfl) (by kernel_rfl) (by kernel_rfl) (by kernel_rfl) ⟨Eqs.mono4 _,Tup2.mono4 (Eqs.mono4 _) (Eqs.mono4 _),Tup2.mono4 (Eqs.mono4 _) (Eqs.mono4 _),Eqs.mono4 _,Eqs.mono4 _,Eqs.mono4 _,Eqs.mono4 _,trivial⟩ aau (IsOld.all (bx:=[]) trivial) (DisOld.all (bx:=[]) trivial) ?_ ?_
  ·exact ⟨.norm 7 rfl rfl rfl (fun a_ w_ hn_ hBt hr hR hD hO hS=>aa7 ((hR 0 rfl).trans f0)),
    .norm 8 rfl rfl rfl (fun a_ w_ hn_ hBt hr hR hD hO hS=>af7 (show a_.eval (.tmp 7)=.string s from hD 0 rfl) (hT.below (HB.trans (hBt.below HB.size (UpOld.all (bx:=[]) trivial)))) ⟨by rw [hd0];rfl,by rw [hd0]⟩),
    .norm 6 rfl rfl rfl (fun a_ w_ hn_ hBt hr hR hD hO hS=>afv (p:=Tup2 (Eqs (.int .i32 8722)) (Eqs (.int .i64 (3:Int)))) (show Tup2 (Eqs (.int .i32 8722)) (Eqs (.int .i64 (3:Int))) (a_.eval (.tmp 8)) w_ from hD 1 rfl)),
    .norm 9 rfl rfl rfl (fun a_ w_ hn_ hBt hr hR hD hO hS=>aev (show Tup2 (Eqs (.int .i32 8722)) (Eqs (.int .i64 (3:Int))) (a_.eval (.tmp 6)) w_ from hD 2 rfl)),
    .norm 10 rfl rfl rfl (fun a_ w_ hn_ hBt hr hR hD hO hS=>aew (show Tup2 (Eqs (.int .i32 8722)) (Eqs (.int .i64 (3:Int))) (a_.eval (.tmp 6)) w_ from hD 2 rfl)),
    .norm 4 rfl rfl rfl (fun a_ w_ hn_ hBt hr hR hD hO hS=>aae (show a_.eval (.tmp 9)=.int .i32 8722 from hD 3 rfl)),
    .norm 5 rfl rfl rfl (fun a_ w_ hn_ hBt hr hR hD hO hS=>aae (show a_.eval (.tmp 10)=.int .i64 (3:Int) from hD 4 rfl)),
    trivial⟩
  intro a2 w2 gs2 hn2 hd2 hBt hr hR hP hX hU
  replace hn:=hn2;replace hd:=hd2.trans hd
  replace f0:=(hR 0 rfl).trans f0
  replace f2:=(hR 2 rfl).trans f2
  replace f3:=(hR 3 rfl).trans f3
  have e4:a2.eval (.tmp 4)=.int .i32 8722:=hP 5 (by decide)
  have f4:=e4
  have e5:a2.eval (.tmp 5)=.int .i64 (3:Int):=hP 6 (by decide)
  have f5:=e5
  replace HB:=HB.trans (hBt.below HB.size (UpOld.all (bx:=[]) trivial))
  clear hBt hr hR hP hX hU
  refine wp_seq ?_
  refine wp_seq ?_
  refine aao [some 11] [Eqs (.int .i32 8722)] [] [] (by kernel_rfl) hn rfl (by kernel_rfl) (by kernel_rfl) (by kernel_rfl) (by kernel_rfl) (by kernel_rfl) (by kernel_rfl) ⟨Eqs.mono4 _,trivial⟩ aau (IsOld.all (bx:=[]) trivial) (DisOld.all (bx:=[]) trivial) ?_ ?_
  ·exact ⟨.norm 11 rfl rfl rfl (fun a_ w_ hn_ hBt hr hR hD hO hS=>aa7 ((hR 4 rfl).trans f4)),
    trivial⟩
  intro a3 w3 gs3 hn3 hd3 hBt hr hR hP hX hU
  replace hn:=hn3;replace hd:=hd3.trans hd
  replace f0:=(hR 0 rfl).trans f0
  replace f2:=(hR 2 rfl).trans f2
  replace f3:=(hR 3 rfl).trans f3
  replace f5:=(hR 5 rfl).trans f5
  have e11:a3.eval (.tmp 11)=.int .i32 8722:=hP 0 (by decide)
  have f11:=e11
  replace HB:=HB.trans (hBt.below HB.size (UpOld.all (bx:=[]) trivial))
  clear hBt hr hR hP hX hU
  refine wp_block ?_
  refine wp_seq ?_
  refine wp_seq ?_
  refine aao [some 13,some 12] [Eqs (.bool false),Eqs (.bool false)] [] [] (by kernel_rfl) hn rfl (by kernel_rfl) (by kernel_rfl) (by kernel_rfl) (by kernel_rfl) (by kernel_rfl) (by kernel_rfl) ⟨Eqs.mono4 _,Eqs.mono4 _,trivial⟩ aau (IsOld.all (bx:=[]) trivial) (DisOld.all (bx:=[]) trivial) ?_ ?_
  ·exact ⟨.norm 13 rfl rfl rfl (fun a_ w_ hn_ hBt hr hR hD hO hS=>af6 ((hR 11 rfl).trans f11) (by decide)),
    .norm 12 rfl rfl rfl (fun a_ w_ hn_ hBt hr hR hD hO hS=>aae (show a_.eval (.tmp 13)=.bool false from hD 0 rfl)),
    trivial⟩
  intro a4 w4 gs4 hn4 hd4 hBt hr hR hP hX hU
  replace hn:=hn4;replace hd:=hd4.trans hd
  replace f0:=(hR 0 rfl).trans f0
  replace f2:=(hR 2 rfl).trans f2
  replace f3:=(hR 3 rfl).trans f3
  replace f5:=(hR 5 rfl).trans f5
  replace f11:=(hR 11 rfl).trans f11
  have e12:a4.eval (.tmp 12)=.bool false:=hP 1 (by decide)
  have f12:=e12
  replace HB:=HB.trans (hBt.below HB.size (UpOld.all (bx:=[]) trivial))
  clear hBt hr hR hP hX hU
  refine wp_cond_false f12 ?_
  refine aao [some 14,some 12] [Eqs (.bool true),Eqs (.bool true)] [] [] (by kernel_rfl) hn rfl (by kernel_rfl) (by kernel_rfl) (by kernel_rfl) (by kernel_rfl) (by kernel_rfl) (by kernel_rfl) ⟨Eqs.mono4 _,Eqs.mono4 _,trivial⟩ aau (IsOld.all (bx:=[]) trivial) (DisOld.all (bx:=[]) trivial) ?_ ?_
  ·exact ⟨.norm 14 rfl rfl rfl (fun a_ w_ hn_ hBt hr hR hD hO hS=>ajf ((hR 11 rfl).trans f11) rfl),
    .norm 12 rfl rfl rfl (fun a_ w_ hn_ hBt hr hR hD hO hS=>aae (show a_.eval (.tmp 14)=.bool true from hD 0 rfl)),
    trivial⟩
  intro a5 w5 gs5 hn5 hd5 hBt hr hR hP hX hU
  replace hn:=hn5;replace hd:=hd5.trans hd
  replace f0:=(hR 0 rfl).trans f0
  replace f2:=(hR 2 rfl).trans f2
  replace f3:=(hR 3 rfl).trans f3
  replace f5:=(hR 5 rfl).trans f5
  have e12:a5.eval (.tmp 12)=.bool true:=hP 1 (by decide)
  have f12:=e12
  replace HB:=HB.trans (hBt.below HB.size (UpOld.all (bx:=[]) trivial))
  clear hBt hr hR hP hX hU
  refine wp_cond_true f12 ?_
  refine wp_seq ?_
  refine aao [some 15,some 16,some 17,some 2,some 3] [Eqs (.string s),Eqs (.int .i64 (3:Int)),Eqs (.string ((s).extract 3 (s).size)),Eqs ((.bool true)),Eqs (.string ((s).extract 3 (s).size))] [] [] (by kernel_rfl) hn rfl (by kernel_rfl) (by kernel_rfl) (by kernel_rfl) (by kernel_rfl) (by kernel_rfl) (by kernel_rfl) ⟨Eqs.mono4 _,Eqs.mono4 _,Eqs.mono4 _,Eqs.mono4 _,Eqs.mono4 _,trivial⟩ aau (IsOld.all (bx:=[]) trivial) (DisOld.all (bx:=[]) trivial) ?_ ?_
  ·exact ⟨.norm 15 rfl rfl rfl (fun a_ w_ hn_ hBt hr hR hD hO hS=>aa7 ((hR 0 rfl).trans f0)),
    .norm 16 rfl rfl rfl (fun a_ w_ hn_ hBt hr hR hD hO hS=>aa7 ((hR 5 rfl).trans f5)),
    .norm 17 rfl rfl rfl (fun a_ w_ hn_ hBt hr hR hD hO hS=>am2 (k:=3) (show a_.eval (.tmp 15)=.string s from hD 0 rfl) (show a_.eval (.tmp 16)=.int .i64 (3:Int) from hD 1 rfl) (by omega)),
    .norm 2 rfl rfl rfl (fun a_ w_ hn_ hBt hr hR hD hO hS=>aae rfl),
    .norm 3 rfl rfl rfl (fun a_ w_ hn_ hBt hr hR hD hO hS=>aae (show a_.eval (.tmp 17)=.string ((s).extract 3 (s).size) from hD 2 rfl)),
    trivial⟩
  intro a6 w6 gs6 hn6 hd6 hBt hr hR hP hX hU
  replace hn:=hn6;replace hd:=hd6.trans hd
  replace f0:=(hR 0 rfl).trans f0
  have e2:a6.eval (.tmp 2)=(.bool true):=hP 3 (by decide)
  have f2:=e2
  have e3:a6.eval (.tmp 3)=.string ((s).extract 3 (s).size):=hP 4 (by decide)
  have f3:=e3
  replace HB:=HB.trans (hBt.below HB.size (UpOld.all (bx:=[]) trivial))
  clear hBt hr hR hP hX hU
  refine wp_ret ?_
  repeat (first | refine acr ?_ | refine abv ?_ | refine ab9 ?_)
  exact bodyPost_ret (v:=.tuple #[.bool true,.string ((s).extract 3 (s).size)]) (ais rfl f2 f3) hd ⟨by rw [hm],HB⟩
 ·skip
  go_enter Tryz.func123,Tryz.ntmps123
  generalize hA:(Act.mk _ _)=aa
  have hn:aa.tmps.size=19:=by rw [←hA];rfl
  have hd:aa.defers = []:=by rw [←hA]
  have f0:aa.eval (.tmp 0)=.string s:=by rw [←hA];rfl
  clear hA
  have HB:Below w.heap.size w w:=Below.refl _ _
  refine wp_seq ?_
  refine aao [some 2,some 3] [Eqs ((.bool false)),Eqs ((.string ⟨#[]⟩))] [] [] (by kernel_rfl) hn rfl (by kernel_rfl) (by kernel_rfl) (by kernel_rfl) (by kernel_rfl) (by kernel_rfl) (by kernel_rfl) ⟨Eqs.mono4 _,Eqs.mono4 _,trivial⟩ aau (IsOld.all (bx:=[]) trivial) (DisOld.all (bx:=[]) trivial) ?_ ?_
  ·exact ⟨.norm 2 rfl rfl rfl (fun a_ w_ hn_ hBt hr hR hD hO hS=>aae rfl),
    .norm 3 rfl rfl rfl (fun a_ w_ hn_ hBt hr hR hD hO hS=>aae rfl),
    trivial⟩
  intro a1 w1 gs1 hn1 hd1 hBt hr hR hP hX hU
  replace hn:=hn1;replace hd:=hd1.trans hd
  replace f0:=(hR 0 rfl).trans f0
  have e2:a1.eval (.tmp 2)=(.bool false):=hP 0 (by decide)
  have f2:=e2
  have e3:a1.eval (.tmp 3)=(.string ⟨#[]⟩):=hP 1 (by decide)
  have f3:=e3
  replace HB:=HB.trans (hBt.below HB.size (UpOld.all (bx:=[]) trivial))
  clear hBt hr hR hP hX hU
  refine wp_seq ?_
  refine aao [some 7,some 8,some 6,some 9,some 10,some 4,some 5] [Eqs (.string s),Tup2 (Eqs (.int .i32 45)) (Eqs (.int .i64 (1:Int))),Tup2 (Eqs (.int .i32 45)) (Eqs (.int .i64 (1:Int))),Eqs (.int .i32 45),Eqs (.int .i64 (1:Int)),Eqs (.int .i32 45),Eqs (.int .i64 (1:Int))] [] [] (by kernel_rfl) hn rfl (by kernel_rfl) (by kernel_rfl) (by kernel_rfl) (by kernel_rfl) (by kernel_rfl) (by kernel_rfl) ⟨Eqs.mono4 _,Tup2.mono4 (Eqs.mono4 _) (Eqs.mono4 _),Tup2.mono4 (Eqs.mono4 _) (Eqs.mono4 _),Eqs.mono4 _,Eqs.mono4 _,Eqs.mono4 _,Eqs.mono4 _,trivial⟩ aau (IsOld.all (bx:=[]) trivial) (DisOld.all (bx:=[]) trivial) ?_ ?_
  ·exact ⟨.norm 7 rfl rfl rfl (fun a_ w_ hn_ hBt hr hR hD hO hS=>aa7 ((hR 0 rfl).trans f0)),
    .norm 8 rfl rfl rfl (fun a_ w_ hn_ hBt hr hR hD hO hS=>af7 (show a_.eval (.tmp 7)=.string s from hD 0 rfl) (hT.below (HB.trans (hBt.below HB.size (UpOld.all (bx:=[]) trivial)))) ⟨by rw [hd0];rfl,by rw [hd0]⟩),
    .norm 6 rfl rfl rfl (fun a_ w_ hn_ hBt hr hR hD hO hS=>afv (p:=Tup2 (Eqs (.int .i32 45)) (Eqs (.int .i64 (1:Int)))) (show Tup2 (Eqs (.int .i32 45)) (Eqs (.int .i64 (1:Int))) (a_.eval (.tmp 8)) w_ from hD 1 rfl)),
    .norm 9 rfl rfl rfl (fun a_ w_ hn_ hBt hr hR hD hO hS=>aev (show Tup2 (Eqs (.int .i32 45)) (Eqs (.int .i64 (1:Int))) (a_.eval (.tmp 6)) w_ from hD 2 rfl)),
    .norm 10 rfl rfl rfl (fun a_ w_ hn_ hBt hr hR hD hO hS=>aew (show Tup2 (Eqs (.int .i32 45)) (Eqs (.int .i64 (1:Int))) (a_.eval (.tmp 6)) w_ from hD 2 rfl)),
    .norm 4 rfl rfl rfl (fun a_ w_ hn_ hBt hr hR hD hO hS=>aae (show a_.eval (.tmp 9)=.int .i32 45 from hD 3 rfl)),
    .norm 5 rfl rfl rfl (fun a_ w_ hn_ hBt hr hR hD hO hS=>aae (show a_.eval (.tmp 10)=.int .i64 (1:Int) from hD 4 rfl)),
    trivial⟩
  intro a2 w2 gs2 hn2 hd2 hBt hr hR hP hX hU
  replace hn:=hn2;replace hd:=hd2.trans hd
  replace f0:=(hR 0 rfl).trans f0
  replace f2:=(hR 2 rfl).trans f2
  replace f3:=(hR 3 rfl).trans f3
  have e4:a2.eval (.tmp 4)=.int .i32 45:=hP 5 (by decide)
  have f4:=e4
  have e5:a2.eval (.tmp 5)=.int .i64 (1:Int):=hP 6 (by decide)
  have f5:=e5
  replace HB:=HB.trans (hBt.below HB.size (UpOld.all (bx:=[]) trivial))
  clear hBt hr hR hP hX hU
  refine wp_seq ?_
  refine wp_seq ?_
  refine aao [some 11] [Eqs (.int .i32 45)] [] [] (by kernel_rfl) hn rfl (by kernel_rfl) (by kernel_rfl) (by kernel_rfl) (by kernel_rfl) (by kernel_rfl) (by kernel_rfl) ⟨Eqs.mono4 _,trivial⟩ aau (IsOld.all (bx:=[]) trivial) (DisOld.all (bx:=[]) trivial) ?_ ?_
  ·exact ⟨.norm 11 rfl rfl rfl (fun a_ w_ hn_ hBt hr hR hD hO hS=>aa7 ((hR 4 rfl).trans f4)),
    trivial⟩
  intro a3 w3 gs3 hn3 hd3 hBt hr hR hP hX hU
  replace hn:=hn3;replace hd:=hd3.trans hd
  replace f0:=(hR 0 rfl).trans f0
  replace f2:=(hR 2 rfl).trans f2
  replace f3:=(hR 3 rfl).trans f3
  replace f5:=(hR 5 rfl).trans f5
  have e11:a3.eval (.tmp 11)=.int .i32 45:=hP 0 (by decide)
  have f11:=e11
  replace HB:=HB.trans (hBt.below HB.size (UpOld.all (bx:=[]) trivial))
  clear hBt hr hR hP hX hU
  refine wp_block ?_
  refine wp_seq ?_
  refine wp_seq ?_
  refine aao [some 13,some 12] [Eqs (.bool true),Eqs (.bool true)] [] [] (by kernel_rfl) hn rfl (by kernel_rfl) (by kernel_rfl) (by kernel_rfl) (by kernel_rfl) (by kernel_rfl) (by kernel_rfl) ⟨Eqs.mono4 _,Eqs.mono4 _,trivial⟩ aau (IsOld.all (bx:=[]) trivial) (DisOld.all (bx:=[]) trivial) ?_ ?_
  ·exact ⟨.norm 13 rfl rfl rfl (fun a_ w_ hn_ hBt hr hR hD hO hS=>ajf ((hR 11 rfl).trans f11) rfl),
    .norm 12 rfl rfl rfl (fun a_ w_ hn_ hBt hr hR hD hO hS=>aae (show a_.eval (.tmp 13)=.bool true from hD 0 rfl)),
    trivial⟩
  intro a4 w4 gs4 hn4 hd4 hBt hr hR hP hX hU
  replace hn:=hn4;replace hd:=hd4.trans hd
  replace f0:=(hR 0 rfl).trans f0
  replace f2:=(hR 2 rfl).trans f2
  replace f3:=(hR 3 rfl).trans f3
  replace f5:=(hR 5 rfl).trans f5
  replace f11:=(hR 11 rfl).trans f11
  have e12:a4.eval (.tmp 12)=.bool true:=hP 1 (by decide)
  have f12:=e12
  replace HB:=HB.trans (hBt.below HB.size (UpOld.all (bx:=[]) trivial))
  clear hBt hr hR hP hX hU
  refine wp_cond_true f12 ?_
  refine wp_skip ?_
  refine wp_cond_true f12 ?_
  refine wp_seq ?_
  refine aao [some 15,some 16,some 17,some 2,some 3] [Eqs (.string s),Eqs (.int .i64 (1:Int)),Eqs (.string ((s).extract 1 (s).size)),Eqs ((.bool true)),Eqs (.string ((s).extract 1 (s).size))] [] [] (by kernel_rfl) hn rfl (by kernel_rfl) (by kernel_rfl) (by kernel_rfl) (by kernel_rfl) (by kernel_rfl) (by kernel_rfl) ⟨Eqs.mono4 _,Eqs.mono4 _,Eqs.mono4 _,Eqs.mono4 _,Eqs.mono4 _,trivial⟩ aau (IsOld.all (bx:=[]) trivial) (DisOld.all (bx:=[]) trivial) ?_ ?_
  ·exact ⟨.norm 15 rfl rfl rfl (fun a_ w_ hn_ hBt hr hR hD hO hS=>aa7 ((hR 0 rfl).trans f0)),
    .norm 16 rfl rfl rfl (fun a_ w_ hn_ hBt hr hR hD hO hS=>aa7 ((hR 5 rfl).trans f5)),
    .norm 17 rfl rfl rfl (fun a_ w_ hn_ hBt hr hR hD hO hS=>am2 (k:=1) (show a_.eval (.tmp 15)=.string s from hD 0 rfl) (show a_.eval (.tmp 16)=.int .i64 (1:Int) from hD 1 rfl) (by omega)),
    .norm 2 rfl rfl rfl (fun a_ w_ hn_ hBt hr hR hD hO hS=>aae rfl),
    .norm 3 rfl rfl rfl (fun a_ w_ hn_ hBt hr hR hD hO hS=>aae (show a_.eval (.tmp 17)=.string ((s).extract 1 (s).size) from hD 2 rfl)),
    trivial⟩
  intro a5 w5 gs5 hn5 hd5 hBt hr hR hP hX hU
  replace hn:=hn5;replace hd:=hd5.trans hd
  replace f0:=(hR 0 rfl).trans f0
  have e2:a5.eval (.tmp 2)=(.bool true):=hP 3 (by decide)
  have f2:=e2
  have e3:a5.eval (.tmp 3)=.string ((s).extract 1 (s).size):=hP 4 (by decide)
  have f3:=e3
  replace HB:=HB.trans (hBt.below HB.size (UpOld.all (bx:=[]) trivial))
  clear hBt hr hR hP hX hU
  refine wp_ret ?_
  repeat (first | refine acr ?_ | refine abv ?_ | refine ab9 ?_)
  exact bodyPost_ret (v:=.tuple #[.bool true,.string ((s).extract 1 (s).size)]) (ais rfl f2 f3) hd ⟨by rw [hm],HB⟩
 ·have hne1:(((Lib.decodeGo s).1:Nat):Int)≠45:=by omega
  have hne2:(((Lib.decodeGo s).1:Nat):Int)≠8722:=by omega
  go_enter Tryz.func123,Tryz.ntmps123
  generalize hA:(Act.mk _ _)=aa
  have hn:aa.tmps.size=19:=by rw [←hA];rfl
  have hd:aa.defers = []:=by rw [←hA]
  have f0:aa.eval (.tmp 0)=.string s:=by rw [←hA];rfl
  clear hA
  have HB:Below w.heap.size w w:=Below.refl _ _
  refine wp_seq ?_
  refine aao [some 2,some 3] [Eqs ((.bool false)),Eqs ((.string ⟨#[]⟩))] [] [] (by kernel_rfl) hn rfl (by kernel_rfl) (by kernel_rfl) (by kernel_rfl) (by kernel_rfl) (by kernel_rfl) (by kernel_rfl) ⟨Eqs.mono4 _,Eqs.mono4 _,trivial⟩ aau (IsOld.all (bx:=[]) trivial) (DisOld.all (bx:=[]) trivial) ?_ ?_
  ·exact ⟨.norm 2 rfl rfl rfl (fun a_ w_ hn_ hBt hr hR hD hO hS=>aae rfl),
    .norm 3 rfl rfl rfl (fun a_ w_ hn_ hBt hr hR hD hO hS=>aae rfl),
    trivial⟩
  intro a1 w1 gs1 hn1 hd1 hBt hr hR hP hX hU
  replace hn:=hn1;replace hd:=hd1.trans hd
  replace f0:=(hR 0 rfl).trans f0
  have e2:a1.eval (.tmp 2)=(.bool false):=hP 0 (by decide)
  have f2:=e2
  have e3:a1.eval (.tmp 3)=(.string ⟨#[]⟩):=hP 1 (by decide)
  have f3:=e3
  replace HB:=HB.trans (hBt.below HB.size (UpOld.all (bx:=[]) trivial))
  clear hBt hr hR hP hX hU
  refine wp_seq ?_
  refine aao [some 7,some 8,some 6,some 9,some 10,some 4,some 5] [Eqs (.string s),Tup2 (Eqs (.int .i32 (((Lib.decodeGo s).1:Nat):Int))) (Eqs (.int .i64 ((Lib.decodeGo s).2:Int))),Tup2 (Eqs (.int .i32 (((Lib.decodeGo s).1:Nat):Int))) (Eqs (.int .i64 ((Lib.decodeGo s).2:Int))),Eqs (.int .i32 (((Lib.decodeGo s).1:Nat):Int)),Eqs (.int .i64 ((Lib.decodeGo s).2:Int)),Eqs (.int .i32 (((Lib.decodeGo s).1:Nat):Int)),Eqs (.int .i64 ((Lib.decodeGo s).2:Int))] [] [] (by kernel_rfl) hn rfl (by kernel_rfl) (by kernel_rfl) (by kernel_rfl) (by kernel_rfl) (by kernel_rfl) (by kernel_rfl) ⟨Eqs.mono4 _,Tup2.mono4 (Eqs.mono4 _) (Eqs.mono4 _),Tup2.mono4 (Eqs.mono4 _) (Eqs.mono4 _),Eqs.mono4 _,Eqs.mono4 _,Eqs.mono4 _,Eqs.mono4 _,trivial⟩ aau (IsOld.all (bx:=[]) trivial) (DisOld.all (bx:=[]) trivial) ?_ ?_
  ·exact ⟨.norm 7 rfl rfl rfl (fun a_ w_ hn_ hBt hr hR hD hO hS=>aa7 ((hR 0 rfl).trans f0)),
    .norm 8 rfl rfl rfl (fun a_ w_ hn_ hBt hr hR hD hO hS=>af7 (show a_.eval (.tmp 7)=.string s from hD 0 rfl) (hT.below (HB.trans (hBt.below HB.size (UpOld.all (bx:=[]) trivial)))) ⟨rfl,rfl⟩),
    .norm 6 rfl rfl rfl (fun a_ w_ hn_ hBt hr hR hD hO hS=>afv (p:=Tup2 (Eqs (.int .i32 (((Lib.decodeGo s).1:Nat):Int))) (Eqs (.int .i64 ((Lib.decodeGo s).2:Int)))) (show Tup2 (Eqs (.int .i32 (((Lib.decodeGo s).1:Nat):Int))) (Eqs (.int .i64 ((Lib.decodeGo s).2:Int))) (a_.eval (.tmp 8)) w_ from hD 1 rfl)),
    .norm 9 rfl rfl rfl (fun a_ w_ hn_ hBt hr hR hD hO hS=>aev (show Tup2 (Eqs (.int .i32 (((Lib.decodeGo s).1:Nat):Int))) (Eqs (.int .i64 ((Lib.decodeGo s).2:Int))) (a_.eval (.tmp 6)) w_ from hD 2 rfl)),
    .norm 10 rfl rfl rfl (fun a_ w_ hn_ hBt hr hR hD hO hS=>aew (show Tup2 (Eqs (.int .i32 (((Lib.decodeGo s).1:Nat):Int))) (Eqs (.int .i64 ((Lib.decodeGo s).2:Int))) (a_.eval (.tmp 6)) w_ from hD 2 rfl)),
    .norm 4 rfl rfl rfl (fun a_ w_ hn_ hBt hr hR hD hO hS=>aae (show a_.eval (.tmp 9)=.int .i32 (((Lib.decodeGo s).1:Nat):Int) from hD 3 rfl)),
    .norm 5 rfl rfl rfl (fun a_ w_ hn_ hBt hr hR hD hO hS=>aae (show a_.eval (.tmp 10)=.int .i64 ((Lib.decodeGo s).2:Int) from hD 4 rfl)),
    trivial⟩
  intro a2 w2 gs2 hn2 hd2 hBt hr hR hP hX hU
  replace hn:=hn2;replace hd:=hd2.trans hd
  replace f0:=(hR 0 rfl).trans f0
  replace f2:=(hR 2 rfl).trans f2
  replace f3:=(hR 3 rfl).trans f3
  have e4:a2.eval (.tmp 4)=.int .i32 (((Lib.decodeGo s).1:Nat):Int):=hP 5 (by decide)
  have f4:=e4
  have e5:a2.eval (.tmp 5)=.int .i64 ((Lib.decodeGo s).2:Int):=hP 6 (by decide)
  have f5:=e5
  replace HB:=HB.trans (hBt.below HB.size (UpOld.all (bx:=[]) trivial))
  clear hBt hr hR hP hX hU
  refine wp_seq ?_
  refine wp_seq ?_
  refine aao [some 11] [Eqs (.int .i32 (((Lib.decodeGo s).1:Nat):Int))] [] [] (by kernel_rfl) hn rfl (by kernel_rfl) (by kernel_rfl) (by kernel_rfl) (by kernel_rfl) (by kernel_rfl) (by kernel_rfl) ⟨Eqs.mono4 _,trivial⟩ aau (IsOld.all (bx:=[]) trivial) (DisOld.all (bx:=[]) trivial) ?_ ?_
  ·exact ⟨.norm 11 rfl rfl rfl (fun a_ w_ hn_ hBt hr hR hD hO hS=>aa7 ((hR 4 rfl).trans f4)),
    trivial⟩
  intro a3 w3 gs3 hn3 hd3 hBt hr hR hP hX hU
  replace hn:=hn3;replace hd:=hd3.trans hd
  replace f0:=(hR 0 rfl).trans f0
  replace f2:=(hR 2 rfl).trans f2
  replace f3:=(hR 3 rfl).trans f3
  replace f5:=(hR 5 rfl).trans f5
  have e11:a3.eval (.tmp 11)=.int .i32 (((Lib.decodeGo s).1:Nat):Int):=hP 0 (by decide)
  have f11:=e11
  replace HB:=HB.trans (hBt.below HB.size (UpOld.all (bx:=[]) trivial))
  clear hBt hr hR hP hX hU
  refine wp_block ?_
  refine wp_seq ?_
  refine wp_seq ?_
  refine aao [some 13,some 12] [Eqs (.bool false),Eqs (.bool false)] [] [] (by kernel_rfl) hn rfl (by kernel_rfl) (by kernel_rfl) (by kernel_rfl) (by kernel_rfl) (by kernel_rfl) (by kernel_rfl) ⟨Eqs.mono4 _,Eqs.mono4 _,trivial⟩ aau (IsOld.all (bx:=[]) trivial) (DisOld.all (bx:=[]) trivial) ?_ ?_
  ·exact ⟨.norm 13 rfl rfl rfl (fun a_ w_ hn_ hBt hr hR hD hO hS=>af6 ((hR 11 rfl).trans f11) hne1),
    .norm 12 rfl rfl rfl (fun a_ w_ hn_ hBt hr hR hD hO hS=>aae (show a_.eval (.tmp 13)=.bool false from hD 0 rfl)),
    trivial⟩
  intro a4 w4 gs4 hn4 hd4 hBt hr hR hP hX hU
  replace hn:=hn4;replace hd:=hd4.trans hd
  replace f0:=(hR 0 rfl).trans f0
  replace f2:=(hR 2 rfl).trans f2
  replace f3:=(hR 3 rfl).trans f3
  replace f5:=(hR 5 rfl).trans f5
  replace f11:=(hR 11 rfl).trans f11
  have e12:a4.eval (.tmp 12)=.bool false:=hP 1 (by decide)
  have f12:=e12
  replace HB:=HB.trans (hBt.below HB.size (UpOld.all (bx:=[]) trivial))
  clear hBt hr hR hP hX hU
  refine wp_cond_false f12 ?_
  refine aao [some 14,some 12] [Eqs (.bool false),Eqs (.bool false)] [] [] (by kernel_rfl) hn rfl (by kernel_rfl) (by kernel_rfl) (by kernel_rfl) (by kernel_rfl) (by kernel_rfl) (by kernel_rfl) ⟨Eqs.mono4 _,Eqs.mono4 _,trivial⟩ aau (IsOld.all (bx:=[]) trivial) (DisOld.all (bx:=[]) trivial) ?_ ?_
  ·exact ⟨.norm 14 rfl rfl rfl (fun a_ w_ hn_ hBt hr hR hD hO hS=>af6 ((hR 11 rfl).trans f11) hne2),
    .norm 12 rfl rfl rfl (fun a_ w_ hn_ hBt hr hR hD hO hS=>aae (show a_.eval (.tmp 14)=.bool false from hD 0 rfl)),
    trivial⟩
  intro a5 w5 gs5 hn5 hd5 hBt hr hR hP hX hU
  replace hn:=hn5;replace hd:=hd5.trans hd
  replace f0:=(hR 0 rfl).trans f0
  replace f2:=(hR 2 rfl).trans f2
  replace f3:=(hR 3 rfl).trans f3
  replace f5:=(hR 5 rfl).trans f5
  have e12:a5.eval (.tmp 12)=.bool false:=hP 1 (by decide)
  have f12:=e12
  replace HB:=HB.trans (hBt.below HB.size (UpOld.all (bx:=[]) trivial))
  clear hBt hr hR hP hX hU
  refine wp_cond_false f12 ?_
  refine wp_skip ?_
  refine afw ?_
  refine wp_seq ?_
  refine aao [some 18,some 2,some 3] [Eqs (.string s),Eqs ((.bool false)),Eqs (.string s)] [] [] (by kernel_rfl) hn rfl (by kernel_rfl) (by kernel_rfl) (by kernel_rfl) (by kernel_rfl) (by kernel_rfl) (by kernel_rfl) ⟨Eqs.mono4 _,Eqs.mono4 _,Eqs.mono4 _,trivial⟩ aau (IsOld.all (bx:=[]) trivial) (DisOld.all (bx:=[]) trivial) ?_ ?_
  ·exact ⟨.norm 18 rfl rfl rfl (fun a_ w_ hn_ hBt hr hR hD hO hS=>aa7 ((hR 0 rfl).trans f0)),
    .norm 2 rfl rfl rfl (fun a_ w_ hn_ hBt hr hR hD hO hS=>aae rfl),
    .norm 3 rfl rfl rfl (fun a_ w_ hn_ hBt hr hR hD hO hS=>aae (show a_.eval (.tmp 18)=.string s from hD 0 rfl)),
    trivial⟩
  intro a6 w6 gs6 hn6 hd6 hBt hr hR hP hX hU
  replace hn:=hn6;replace hd:=hd6.trans hd
  have e2:a6.eval (.tmp 2)=(.bool false):=hP 1 (by decide)
  have f2:=e2
  have e3:a6.eval (.tmp 3)=.string s:=hP 2 (by decide)
  have f3:=e3
  replace HB:=HB.trans (hBt.below HB.size (UpOld.all (bx:=[]) trivial))
  clear hBt hr hR hP hX hU
  refine wp_ret ?_
  repeat (first | refine acr ?_ | refine abv ?_ | refine ab9 ?_)
  exact bodyPost_ret (v:=.tuple #[.bool false,.string s]) (ais rfl f2 f3) hd ⟨by rw [hm],HB⟩
end Lm
end Go.Proofs.YtdjgifcmhafppaaGreatDoor
namespace Go.Proofs.YtdjgifcmhafppaaGreatDoor
namespace Lm
open Go Go.RowKit
open Dm (Err Fine)
open Classical in
noncomputable def kOf (r:ByteArray):Int:=if 5120<r.size then 2 else if 1≤r.size∧Dig (bytesOf r) then 0 else 10
open Classical in
noncomputable def xOf (r:ByteArray):Int:=if Fine r then dval (bytesOf r) else 0
theorem axx {r:ByteArray} {k:Int} (h:Err r k):k=kOf r∧xOf r=0∧kOf r≠0:=by
 have hf:¬ Fine r:=fun hf=>Dm.akw h hf
 have h1:k=kOf r:=by
  rcases h with ⟨rfl,h2⟩ | ⟨rfl,h2,h3⟩
  ·rw [kOf,if_pos h2]
  ·rw [kOf,if_neg (by omega),if_neg h3]
 refine ⟨h1,by rw [xOf,if_neg hf],?_⟩
 rw [←h1]
 rcases h with ⟨h1,_⟩ | ⟨h1,_⟩ <;> omega
theorem ad3 {r:ByteArray} (h:Fine r):kOf r=0∧xOf r=dval (bytesOf r):=by
 refine ⟨?_,by rw [xOf,if_pos h]⟩
 rw [kOf,if_neg (by have:=h.2.1;omega),if_pos ⟨h.1,h.2.2⟩]
theorem arp (n:Nat):p10 n≤pw n:=by
 induction n with
 | zero=>simp [p10,pw]
 | succ n ih =>
  simp only [p10,pw]
  have:=aa2 n
  omega
noncomputable def zOf (s:ByteArray):Int:=sg (msplit s).1 (xOf (msplit s).2)
noncomputable def eOf (s:ByteArray):Int:=kOf (msplit s).2
section
variable {dst:Option Tmp} {ty:TypeId} {pos:String} {after:Array Edge} {guard:Option (Nat × Bool)} {a:Act} {w:World} {ats:Array TypeId} {i j:Nat}
theorem arq:Has Tryz.prog 123:=by unfold Has;kernel_rfl
theorem at9 {s:ByteArray} (h:a.eval (.tmp i)=.string s) (hT:Tabs w) :
  Does Tryz.prog { dst,op:=.call { callee:=.value (.func 123),args:=#[.tmp i],argTypes:=ats },type:=ty,pos,after,guard } a.eval w fun v w'=>Below w.heap.size w w'∧Tup2 (Eqs (.bool (msplit s).1)) (Eqs (.string (msplit s).2)) v w' := by
 refine abm arq _ (by simp only [List.map_toArray,List.map_cons,List.map_nil,h]) ((awa w s hT).mono ?_)
 rintro e w' ⟨rfl,hb⟩
 exact ⟨_,rfl,hb,_,_,rfl,rfl,rfl⟩
theorem aot:Has Tryz.prog 95:=by unfold Has;kernel_rfl
theorem arr {s:ByteArray} (h:a.eval (.tmp i)=.string s) :
  Does Tryz.prog { dst,op:=.call { callee:=.value (.func 95),args:=#[.tmp i],argTypes:=ats },type:=ty,pos,after,guard } a.eval w fun v w'=>Below w.heap.size w w'∧Tup2 (OutL (xOf s) 6000) (Eqs (.int .i64 (kOf s))) v w' := by
 refine abm aot _ (by simp only [List.map_toArray,List.map_cons,List.map_nil,h]) ((amw w s).mono ?_)
 rintro e w' ⟨⟨k,hk,rfl⟩ | ⟨hf,v,rfl,rs,ho,hc,hv⟩,hb⟩
 ·obtain ⟨h1,h2,_⟩:=axx hk
  refine ⟨_,rfl,hb,_,_,rfl,?_,by rw [h1];rfl⟩
  rw [h2]
  exact ⟨none,0,[],rfl,⟨aft w',ab8,rfl⟩,by simp⟩
 ·obtain ⟨h1,h2⟩:=ad3 hf
  refine ⟨_,rfl,hb,_,_,rfl,?_,by rw [h1];rfl⟩
  rw [h2]
  obtain ⟨ao,cap,rfl,_⟩:=id ho
  refine ⟨ao,cap,rs,rfl,⟨ho.sl,hc,hv⟩,?_⟩
  have h3:=(abb hf.2.2).2
  rw [abp] at h3
  have h4:=aa3 hc (m:=s.size) (by rw [hv];have:=arp s.size;omega)
  have:=hf.2.1
  omega
theorem aou:Has Tryz.prog 38:=by unfold Has;kernel_rfl
theorem aow {b:Bool} {x:Int} {L:Nat} (h1:a.eval (.tmp i)=.bool b) (h2:OutL x L (a.eval (.tmp j)) w) (hL:L≤1000000) :
  Does Tryz.prog { dst,op:=.call { callee:=.value (.func 38),args:=#[.tmp i,.tmp j],argTypes:=ats },type:=ty,pos,after,guard } a.eval w fun v w'=>Below w.heap.size w w'∧OutW (sg b x) L v w' := by
 obtain ⟨ao,cap,rs,e,G,l⟩:=h2
 refine abm aou _ (by simp only [List.map_toArray,List.map_cons,List.map_nil,h1,e]) ((aax w b ao cap rs x G (by omega)).mono ?_)
 rintro e w' ⟨ng,rfl,hW,hb⟩
 exact ⟨_,rfl,hb,ng,ao,cap,rs,rfl,hW,l⟩
theorem aua {u v:Int} (h1:a.eval (.tmp i)=.int .i64 u) :
  Does Tryz.prog { dst,op:=.binOp .neq 28 (.tmp i) (.const (.int .i64 v)) 28,type:=ty,pos,after,guard } a.eval w fun v' w'=>Below w.heap.size w w'∧Eqs (.bool (!decide (u=v))) v' w' := by
 refine adh (v:=.bool (!decide (u=v))) ?_ ?_ ⟨Below.refl _ _,rfl⟩
 ·rw [h1];simp [go_sem,Act.eval]
 ·rw [h1];simp [go_sem,Act.eval];rfl
end
theorem aub {r:ByteArray} {b:Bool} (h:kOf r≠0):sg b (xOf r)=0:=by
 have hf:¬ Fine r:=fun hf=>h (ad3 hf).1
 rw [xOf,if_neg hf]
 cases b <;> rfl
theorem ars (w:World) {L:Nat} : OutW 0 L (.agg #[.bool false,.slice none 0 0]) w:=⟨false,none,0,[],rfl,⟨⟨aft w,ab8,rfl⟩,rfl⟩,by simp⟩
set_option maxRecDepth 20000 in
set_option maxHeartbeats 1000000 in
theorem auc (w:World) (s:ByteArray) (hT:Tabs w) :
  Calls Tryz.prog 116 #[.string s] w fun e w'=>∃ v,e=.returned v∧Tup2 (OutW (zOf s) 6000) (Eqs (.int .i64 (eOf s))) v w'∧Below w.heap.size w w' := by
 go_enter Tryz.func116,Tryz.ntmps116
 generalize hA:(Act.mk _ _)=aa
 have hn:aa.tmps.size=25:=by rw [←hA];rfl
 have hd:aa.defers = []:=by rw [←hA]
 have f0:aa.eval (.tmp 0)=.string s:=by rw [←hA];rfl
 clear hA
 have HB:Below w.heap.size w w:=Below.refl _ _
 refine wp_seq ?_
 refine aao [some 2,some 3] [(fun _ _=>True),Eqs ((.int .i64 0))] [⟨W2,some 0,0,2,.agg #[.bool false,.slice none 0 0],none,[]⟩] [] (by kernel_rfl) hn rfl (by kernel_rfl) (by kernel_rfl) (by kernel_rfl) (by kernel_rfl) (by kernel_rfl) (by kernel_rfl) ⟨True.mono4,Eqs.mono4 _,trivial⟩ (adi W2ok aau) (IsOld.all (bx:=[⟨W2,some 0,0,2,.agg #[.bool false,.slice none 0 0],none,[]⟩]) ⟨someNe,trivial⟩) (DisOld.all (bx:=[⟨W2,some 0,0,2,.agg #[.bool false,.slice none 0 0],none,[]⟩]) ⟨someNe,trivial⟩) ?_ ?_
 ·exact ⟨.alloc 0 _ rfl rfl (.inl ⟨rfl,rfl⟩) rfl rfl rfl rfl rfl,
   .norm 3 rfl rfl rfl (fun a_ w_ hn_ hBt hr hR hD hO hS=>aae rfl),
   trivial⟩
 intro a1 w1 gs1 hn1 hd1 hBt hr hR hP hX hU
 replace hn:=hn1;replace hd:=hd1.trans hd
 have b2:BoxV W2 w1 (gs1 0) (.agg #[.bool false,.slice none 0 0]):=(hX 0 _ rfl).2.2.2
 have f2:=(hX 0 _ rfl).1
 have u2:w.heap.size≤gs1 0:=Nat.le_trans HB.size ((hX 0 _ rfl).2.2.1 (by simp))
 replace f0:=(hR 0 rfl).trans f0
 have e3:a1.eval (.tmp 3)=(.int .i64 0):=hP 1 (by decide)
 have f3:=e3
 replace HB:=HB.trans (hBt.below HB.size (UpOld.all (bx:=[⟨W2,some 0,0,2,.agg #[.bool false,.slice none 0 0],none,[]⟩]) ⟨someNe,trivial⟩))
 clear hBt hr hR hP hX hU
 refine wp_seq ?_
 refine aao [some 9,some 10,some 8,some 11,some 12,some 4,some 5] [Eqs (.string s),Tup2 (Eqs (.bool (msplit s).1)) (Eqs (.string (msplit s).2)),Tup2 (Eqs (.bool (msplit s).1)) (Eqs (.string (msplit s).2)),Eqs (.bool (msplit s).1),Eqs (.string (msplit s).2),Eqs (.bool (msplit s).1),Eqs (.string (msplit s).2)] [] [] (by kernel_rfl) hn rfl (by kernel_rfl) (by kernel_rfl) (by kernel_rfl) (by kernel_rfl) (by kernel_rfl) (by kernel_rfl) ⟨Eqs.mono4 _,Tup2.mono4 (Eqs.mono4 _) (Eqs.mono4 _),Tup2.mono4 (Eqs.mono4 _) (Eqs.mono4 _),Eqs.mono4 _,Eqs.mono4 _,Eqs.mono4 _,Eqs.mono4 _,trivial⟩ aau (IsOld.all (bx:=[]) trivial) (DisOld.all (bx:=[]) trivial) ?_ ?_
 ·exact ⟨.norm 9 rfl rfl rfl (fun a_ w_ hn_ hBt hr hR hD hO hS=>aa7 ((hR 0 rfl).trans f0)),
   .norm 10 rfl rfl rfl (fun a_ w_ hn_ hBt hr hR hD hO hS=>at9 (show a_.eval (.tmp 9)=.string s from hD 0 rfl) (hT.below (HB.trans (hBt.below HB.size (UpOld.all (bx:=[]) trivial))))),
   .norm 8 rfl rfl rfl (fun a_ w_ hn_ hBt hr hR hD hO hS=>afv (p:=Tup2 (Eqs (.bool (msplit s).1)) (Eqs (.string (msplit s).2))) (show Tup2 (Eqs (.bool (msplit s).1)) (Eqs (.string (msplit s).2)) (a_.eval (.tmp 10)) w_ from hD 1 rfl)),
   .norm 11 rfl rfl rfl (fun a_ w_ hn_ hBt hr hR hD hO hS=>aev (show Tup2 (Eqs (.bool (msplit s).1)) (Eqs (.string (msplit s).2)) (a_.eval (.tmp 8)) w_ from hD 2 rfl)),
   .norm 12 rfl rfl rfl (fun a_ w_ hn_ hBt hr hR hD hO hS=>aew (show Tup2 (Eqs (.bool (msplit s).1)) (Eqs (.string (msplit s).2)) (a_.eval (.tmp 8)) w_ from hD 2 rfl)),
   .norm 4 rfl rfl rfl (fun a_ w_ hn_ hBt hr hR hD hO hS=>aae (show a_.eval (.tmp 11)=.bool (msplit s).1 from hD 3 rfl)),
   .norm 5 rfl rfl rfl (fun a_ w_ hn_ hBt hr hR hD hO hS=>aae (show a_.eval (.tmp 12)=.string (msplit s).2 from hD 4 rfl)),
   trivial⟩
 intro a2 w2 gs2 hn2 hd2 hBt hr hR hP hX hU
 replace hn:=hn2;replace hd:=hd2.trans hd
 replace b2:=b2.keep hBt trivial
 replace f2:=(hR 2 rfl).trans f2
 replace f3:=(hR 3 rfl).trans f3
 have e4:a2.eval (.tmp 4)=.bool (msplit s).1:=hP 5 (by decide)
 have f4:=e4
 have e5:a2.eval (.tmp 5)=.string (msplit s).2:=hP 6 (by decide)
 have f5:=e5
 replace HB:=HB.trans (hBt.below HB.size (UpOld.all (bx:=[]) trivial))
 clear hBt hr hR hP hX hU
 refine wp_seq ?_
 refine aao [some 14,some 15,some 13,some 16,some 17,some 6,some 7] [Eqs (.string (msplit s).2),Tup2 (OutL (xOf (msplit s).2) (6000)) (Eqs (.int .i64 (kOf (msplit s).2))),Tup2 (OutL (xOf (msplit s).2) (6000)) (Eqs (.int .i64 (kOf (msplit s).2))),OutL (xOf (msplit s).2) (6000),Eqs (.int .i64 (kOf (msplit s).2)),OutL (xOf (msplit s).2) (6000),Eqs (.int .i64 (kOf (msplit s).2))] [] [] (by kernel_rfl) hn rfl (by kernel_rfl) (by kernel_rfl) (by kernel_rfl) (by kernel_rfl) (by kernel_rfl) (by kernel_rfl) ⟨Eqs.mono4 _,Tup2.mono4 (OutL.mono4 _ _) (Eqs.mono4 _),Tup2.mono4 (OutL.mono4 _ _) (Eqs.mono4 _),OutL.mono4 _ _,Eqs.mono4 _,OutL.mono4 _ _,Eqs.mono4 _,trivial⟩ aau (IsOld.all (bx:=[]) trivial) (DisOld.all (bx:=[]) trivial) ?_ ?_
 ·exact ⟨.norm 14 rfl rfl rfl (fun a_ w_ hn_ hBt hr hR hD hO hS=>aa7 ((hR 5 rfl).trans f5)),
   .norm 15 rfl rfl rfl (fun a_ w_ hn_ hBt hr hR hD hO hS=>arr (show a_.eval (.tmp 14)=.string (msplit s).2 from hD 0 rfl)),
   .norm 13 rfl rfl rfl (fun a_ w_ hn_ hBt hr hR hD hO hS=>afv (p:=Tup2 (OutL (xOf (msplit s).2) (6000)) (Eqs (.int .i64 (kOf (msplit s).2)))) (show Tup2 (OutL (xOf (msplit s).2) (6000)) (Eqs (.int .i64 (kOf (msplit s).2))) (a_.eval (.tmp 15)) w_ from hD 1 rfl)),
   .norm 16 rfl rfl rfl (fun a_ w_ hn_ hBt hr hR hD hO hS=>aev (show Tup2 (OutL (xOf (msplit s).2) (6000)) (Eqs (.int .i64 (kOf (msplit s).2))) (a_.eval (.tmp 13)) w_ from hD 2 rfl)),
   .norm 17 rfl rfl rfl (fun a_ w_ hn_ hBt hr hR hD hO hS=>aew (show Tup2 (OutL (xOf (msplit s).2) (6000)) (Eqs (.int .i64 (kOf (msplit s).2))) (a_.eval (.tmp 13)) w_ from hD 2 rfl)),
   .norm 6 rfl rfl rfl (fun a_ w_ hn_ hBt hr hR hD hO hS=>akd (p:=OutL (xOf (msplit s).2) (6000)) (show OutL (xOf (msplit s).2) (6000) (a_.eval (.tmp 16)) w_ from hD 3 rfl)),
   .norm 7 rfl rfl rfl (fun a_ w_ hn_ hBt hr hR hD hO hS=>aae (show a_.eval (.tmp 17)=.int .i64 (kOf (msplit s).2) from hD 4 rfl)),
   trivial⟩
 intro a3 w3 gs3 hn3 hd3 hBt hr hR hP hX hU
 replace hn:=hn3;replace hd:=hd3.trans hd
 replace b2:=b2.keep hBt trivial
 replace f2:=(hR 2 rfl).trans f2
 replace f3:=(hR 3 rfl).trans f3
 replace f4:=(hR 4 rfl).trans f4
 obtain ⟨a_4,c_4,r_4,e6,K4,l4⟩:OutL (xOf (msplit s).2) (6000) (a3.eval (.tmp 6)) w3:=hP 5 (by decide)
 have S4:=K4.sl;have V4:=K4.val
 have f6:=e6
 have e7:a3.eval (.tmp 7)=.int .i64 (kOf (msplit s).2):=hP 6 (by decide)
 have f7:=e7
 replace HB:=HB.trans (hBt.below HB.size (UpOld.all (bx:=[]) trivial))
 clear hBt hr hR hP hX hU
 refine wp_seq ?_
 refine wp_seq ?_
 refine aao [some 18,some 19] [Eqs (.int .i64 (kOf (msplit s).2)),Eqs (.bool (!decide ((kOf (msplit s).2)=0)))] [] [] (by kernel_rfl) hn rfl (by kernel_rfl) (by kernel_rfl) (by kernel_rfl) (by kernel_rfl) (by kernel_rfl) (by kernel_rfl) ⟨Eqs.mono4 _,Eqs.mono4 _,trivial⟩ aau (IsOld.all (bx:=[]) trivial) (DisOld.all (bx:=[]) trivial) ?_ ?_
 ·exact ⟨.norm 18 rfl rfl rfl (fun a_ w_ hn_ hBt hr hR hD hO hS=>aa7 ((hR 7 rfl).trans f7)),
   .norm 19 rfl rfl rfl (fun a_ w_ hn_ hBt hr hR hD hO hS=>aua (show a_.eval (.tmp 18)=.int .i64 (kOf (msplit s).2) from hD 0 rfl)),
   trivial⟩
 intro a5 w5 gs5 hn5 hd5 hBt hr hR hP hX hU
 replace hn:=hn5;replace hd:=hd5.trans hd
 replace b2:=b2.keep hBt trivial
 replace f2:=(hR 2 rfl).trans f2
 replace f3:=(hR 3 rfl).trans f3
 replace f4:=(hR 4 rfl).trans f4
 replace f6:=(hR 6 rfl).trans f6
 replace f7:=(hR 7 rfl).trans f7
 have e19:a5.eval (.tmp 19)=.bool (!decide ((kOf (msplit s).2)=0)):=hP 1 (by decide)
 have f19:=e19
 replace K4:=K4.rl hr
 replace S4:=S4.rl hr
 replace HB:=HB.trans (hBt.below HB.size (UpOld.all (bx:=[]) trivial))
 clear hBt hr hR hP hX hU
 refine wp_cond_split f19 (fun hc19=>?_) (fun hc19=>?_)
 ·skip
  have hk0:kOf (msplit s).2≠0:=by simpa using hc19
  refine wp_seq ?_
  refine aao [some 20,some 21,none,some 3] [Eqs (.agg #[.bool false,.slice none 0 0]),Eqs (.int .i64 (kOf (msplit s).2)),(fun _ _=>True),Eqs (.int .i64 (kOf (msplit s).2))] [⟨W2,none,(gs1 0),2,.agg #[.bool false,.slice none 0 0],some (2,20,0),[]⟩] [] (by kernel_rfl) hn rfl (by kernel_rfl) (by kernel_rfl) (by kernel_rfl) (by kernel_rfl) (by kernel_rfl) (by kernel_rfl) ⟨Eqs.mono4 _,Eqs.mono4 _,True.mono4,Eqs.mono4 _,trivial⟩ (adi W2ok aau) (IsOld.all (bx:=[⟨W2,none,(gs1 0),2,.agg #[.bool false,.slice none 0 0],some (2,20,0),[]⟩]) ⟨fun _=>⟨f2,b2⟩,trivial⟩) (DisOld.all (bx:=[⟨W2,none,(gs1 0),2,.agg #[.bool false,.slice none 0 0],some (2,20,0),[]⟩]) ⟨fun _=>trivial,trivial⟩) ?_ ?_
  ·exact ⟨.norm 20 rfl rfl rfl (fun a_ w_ hn_ hBt hr hR hD hO hS=>aw3),
    .norm 21 rfl rfl rfl (fun a_ w_ hn_ hBt hr hR hD hO hS=>aa7 ((hR 7 rfl).trans f7)),
    .store 0 _ _ _ rfl rfl rfl rfl rfl rfl rfl (fun ia h=>by cases h) rfl rfl rfl (ake aht),
    .norm 3 rfl rfl rfl (fun a_ w_ hn_ hBt hr hR hD hO hS=>aae (show a_.eval (.tmp 21)=.int .i64 (kOf (msplit s).2) from hD 1 rfl)),
    trivial⟩
  intro a6 w6 gs6 hn6 hd6 hBt hr hR hP hX hU
  replace hn:=hn6;replace hd:=hd6.trans hd
  have e20:a6.eval (.tmp 20)=.agg #[.bool false,.slice none 0 0]:=hP 0 (by decide)
  have b2:BoxV W2 w6 ((gs1 0)) (.agg #[.bool false,.slice none 0 0]):=ae9 ((hX 0 _ rfl).2.1 rfl) (hX 0 _ rfl).2.2.2 e20
  replace f2:a6.eval (.tmp 2) = _:=(hR 2 rfl).trans f2
  replace f4:=(hR 4 rfl).trans f4
  replace f6:=(hR 6 rfl).trans f6
  have e3:a6.eval (.tmp 3)=.int .i64 (kOf (msplit s).2):=hP 3 (by decide)
  have f3:=e3
  replace K4:=K4.rl hr
  replace S4:=S4.rl hr
  replace HB:=HB.trans (hBt.below HB.size (UpOld.all (bx:=[⟨W2,none,(gs1 0),2,.agg #[.bool false,.slice none 0 0],some (2,20,0),[]⟩]) ⟨fun _=>u2,trivial⟩))
  clear hBt hr hR hP hX hU
  refine wp_ret ?_
  repeat (first | refine acr ?_ | refine abv ?_ | refine ab9 ?_)
  exact bodyPost_ret (v:=.tuple #[.agg #[.bool false,.slice none 0 0],.int .i64 (kOf (msplit s).2)]) (ad7 rfl f2 (ahu b2) f3) hd ⟨_,rfl,⟨_,_,rfl,by rw [zOf,aub hk0];exact ars _,rfl⟩,HB⟩
 ·skip
  have hk0:kOf (msplit s).2=0:=by simpa using hc19
  refine wp_skip ?_
  refine wp_seq ?_
  refine aao [some 22,some 23,some 24,none,some 3] [Eqs (.bool (msplit s).1),Eqs (.slice a_4 r_4.length c_4),OutW (sg ((msplit s).1) (xOf (msplit s).2)) (6000),(fun _ _=>True),Eqs ((.int .i64 0))] [⟨W2,none,(gs1 0),2,.agg #[.bool false,.slice none 0 0],some (3,24,2),[]⟩] [] (by kernel_rfl) hn rfl (by kernel_rfl) (by kernel_rfl) (by kernel_rfl) (by kernel_rfl) (by kernel_rfl) (by kernel_rfl) ⟨Eqs.mono4 _,Eqs.mono4 _,OutW.mono4 _ _,True.mono4,Eqs.mono4 _,trivial⟩ (adi W2ok aau) (IsOld.all (bx:=[⟨W2,none,(gs1 0),2,.agg #[.bool false,.slice none 0 0],some (3,24,2),[]⟩]) ⟨fun _=>⟨f2,b2⟩,trivial⟩) (DisOld.all (bx:=[⟨W2,none,(gs1 0),2,.agg #[.bool false,.slice none 0 0],some (3,24,2),[]⟩]) ⟨fun _=>trivial,trivial⟩) ?_ ?_
  ·exact ⟨.norm 22 rfl rfl rfl (fun a_ w_ hn_ hBt hr hR hD hO hS=>aa7 ((hR 4 rfl).trans f4)),
    .norm 23 rfl rfl rfl (fun a_ w_ hn_ hBt hr hR hD hO hS=>aa7 ((hR 6 rfl).trans f6)),
    .norm 24 rfl rfl rfl (fun a_ w_ hn_ hBt hr hR hD hO hS=>aow (show a_.eval (.tmp 22)=.bool (msplit s).1 from hD 0 rfl) (ave (show a_.eval (.tmp 23)=.slice a_4 r_4.length c_4 from hD 1 rfl) (K4.rl hr) l4) (by omega)),
    .store 0 _ _ _ rfl rfl rfl rfl rfl rfl rfl (fun ia h=>by cases h) rfl rfl rfl OutW.cs,
    .norm 3 rfl rfl rfl (fun a_ w_ hn_ hBt hr hR hD hO hS=>aae rfl),
    trivial⟩
  intro a7 w7 gs7 hn7 hd7 hBt hr hR hP hX hU
  replace hn:=hn7;replace hd:=hd7.trans hd
  obtain ⟨n_8,a_8,c_8,r_8,e24,G8,l8⟩:OutW (sg ((msplit s).1) (xOf (msplit s).2)) (6000) (a7.eval (.tmp 24)) w7:=hP 2 (by decide)
  have A8:=G8.ag
  have b2:BoxV W2 w7 ((gs1 0)) (.agg #[.bool n_8,.slice a_8 r_8.length c_8]):=ae9 ((hX 0 _ rfl).2.1 rfl) (hX 0 _ rfl).2.2.2 e24
  replace f2:a7.eval (.tmp 2) = _:=(hR 2 rfl).trans f2
  have e3:a7.eval (.tmp 3)=(.int .i64 0):=hP 4 (by decide)
  have f3:=e3
  replace K4:=K4.rl hr
  replace S4:=S4.rl hr
  replace HB:=HB.trans (hBt.below HB.size (UpOld.all (bx:=[⟨W2,none,(gs1 0),2,.agg #[.bool false,.slice none 0 0],some (3,24,2),[]⟩]) ⟨fun _=>u2,trivial⟩))
  clear hBt hr hR hP hX hU
  refine wp_ret ?_
  repeat (first | refine acr ?_ | refine abv ?_ | refine ab9 ?_)
  exact bodyPost_ret (v:=.tuple #[.agg #[.bool n_8,.slice a_8 r_8.length c_8],(.int .i64 0)]) (ad7 rfl f2 (ahu b2) f3) hd ⟨_,rfl,⟨_,_,rfl,avd rfl G8 l8,by rw [eOf,hk0];rfl⟩,HB⟩
end Lm
end Go.Proofs.YtdjgifcmhafppaaGreatDoor
