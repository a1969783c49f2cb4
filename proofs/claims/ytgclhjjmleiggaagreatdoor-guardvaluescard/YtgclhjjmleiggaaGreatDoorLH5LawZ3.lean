/-
  What the text behind the last one leans on, part 3.
-/
import Derived.Shelf.Lay
import Derived.Shelf.Strconv.Clone
import Derived.Laws.Concat
import Derived.Shelf.Unicode.DecodeAny
import Derived.Lib.LaidU8
import Derived.Test.YtgclhjjmleiggaaGreatDoorProg
import Derived.Lib.OthersKept
import Derived.Laws.RangeAny
import Derived.Deep.RegionLaw
import Derived.Deep.AppendLies
import Derived.Shelf.Unicode.DecodeSlow
import Derived.Test.YtgclhjjmleiggaaGreatDoorLH5LawZ2
namespace Go.Proofs
open Go.Shelf
shelf_lay LaysM.n316 Nm 316 at Tryz as Tryz.lays316
namespace YtgclhjjmleiggaaGreatDoor
namespace Lm
open Go Go.RowKit
theorem am6 (w:World) (s:ByteArray) (h:s.size≤281474976710656) :
  Calls Tryz.prog 95 #[.string s] w fun e w'=>e=.returned (.string s)∧Below w.heap.size w w' := Any.stringslite_Clone Tryz.lays316 s w h
theorem am7 (w:World) (s:ByteArray) (h:s.size≤281474976710656) :
  Calls Tryz.prog 86 #[.string s] w fun e w'=>e=.returned (.string s)∧Below w.heap.size w w' := by
 go_enter Tryz.func86,Tryz.ntmps86
 go_wp2_with fail
 refine (am6 _ _ h).mono ?_
 rintro e w' ⟨rfl,hb⟩
 go_wp2
 go_ret
 exact ⟨rfl,hb⟩
end Lm
end YtgclhjjmleiggaaGreatDoor
end Go.Proofs
namespace Go.Proofs.YtgclhjjmleiggaaGreatDoor
namespace Lm
open Go Go.RowKit
theorem afw (w:World) (zs:List Int) (hl:zs.length≤100) (e:TypeId):Nums (w.alloc (.cells (zs.map (Value.int .i64)).toArray e)) (.slice (some ⟨w.heap.size,0,none⟩) zs.length zs.length) zs:=by
 refine ⟨_,_,rfl,Nat.le_refl _,by omega,by simp,.inr ⟨w.heap.size,0,rfl,by simp [World.size_alloc],fun j u hu=>?_⟩⟩
 rw [cell_of_row _ w.heap.size _ _ _ _ (heap_alloc_new w _),Nat.zero_add]
 simpa using hu
def tok0:Value:=.agg #[.int .i64 0,.string ⟨#[]⟩,.int .i64 0,.int .i64 0,.int .i64 0,.int .i64 0]
def Tk0B (w:World) (f:Nat):Prop:=w.heap[f]? = some (.cells #[.int .i64 0,.string ⟨#[]⟩,.int .i64 0,.int .i64 0,.int .i64 0,.int .i64 0] 90 (0,0))
theorem Tk0B.tq {w w' : World} {f q:Nat} (h:Tk0B w f) (ht:Tq w w' q) (hn:f≠q):Tk0B w' f:=(ht.other f (aaa h) hn).trans h
theorem Tk0B.below {w w' : World} {f:Nat} (h:Tk0B w f) (hb:Below w.heap.size w w'):Tk0B w' f:=(hb.block f (aaa h)).trans h
structure Tk0C (w:World) (f:Nat):Prop where
 hf:f<w.heap.size
 t0:w.cell? ⟨f,0,none⟩ = some (.int .i64 0)
 t1:w.cell? ⟨f,1,none⟩ = some (.string ⟨#[]⟩)
 t2:w.cell? ⟨f,2,none⟩ = some (.int .i64 0)
 t3:w.cell? ⟨f,3,none⟩ = some (.int .i64 0)
 t4:w.cell? ⟨f,4,none⟩ = some (.int .i64 0)
 t5:w.cell? ⟨f,5,none⟩ = some (.int .i64 0)
 f0:w.frozen? ⟨f,0,none⟩ = false
 f1:w.frozen? ⟨f,1,none⟩ = false
 f2:w.frozen? ⟨f,2,none⟩ = false
 f3:w.frozen? ⟨f,3,none⟩ = false
 f4:w.frozen? ⟨f,4,none⟩ = false
 f5:w.frozen? ⟨f,5,none⟩ = false
theorem Tk0B.cells {w:World} {f:Nat} (h:Tk0B w f):Tk0C w f:=by
 exact ⟨aaa h,by rw [cell_of_row w f 0 _ _ _ h];rfl,by rw [cell_of_row w f 1 _ _ _ h];rfl,by rw [cell_of_row w f 2 _ _ _ h];rfl,by rw [cell_of_row w f 3 _ _ _ h];rfl,by rw [cell_of_row w f 4 _ _ _ h];rfl,by rw [cell_of_row w f 5 _ _ _ h];rfl,frozen_of_row w f 0 _ _ h,frozen_of_row w f 1 _ _ h,frozen_of_row w f 2 _ _ h,frozen_of_row w f 3 _ _ h,frozen_of_row w f 4 _ _ h,frozen_of_row w f 5 _ _ h⟩
set_option maxRecDepth 20000 in
set_option maxHeartbeats 1000000 in
theorem ar9 (w:World) (q:Nat) (s:ByteArray) (v:Value) (gs:List Gl) (i:Nat) (e:Pl) (h:Scn w q s v gs i e) (hn:gs.length≤100000000) (hQ:Snd s pl0 gs e) (hs:s.size≤100000000) :
  Calls Tryz.prog 69 #[.pointer (some ⟨q,0,none⟩)] w fun r w'=>∃ j,i≤j∧gs.drop j=(gs.drop i).dropWhile (inC [2,3,4])∧Scn w' q s v gs j e∧Tq w w' q∧((16<j - i∧r=.returned (.tuple #[tok0,.int .i64 42]))∨(j - i≤16∧r=.returned (.tuple #[.agg #[.int .i64 1,.string (s.extract (plf (gs.drop i) e).b (plf (gs.drop j) e).b),.int .i64 0,.int .i64 0,.int .i64 0,.int .i64 0],.int .i64 0]))):=by
 have H:=hide h
 have hq:=aaa h.blk
 clear h
 unfold tok0
 have hb0:Below w.heap.size w ((w.alloc (.cells #[.int .i64 0,.string ⟨#[]⟩,.int .i64 0,.int .i64 0,.int .i64 0,.int .i64 0] 90)).alloc (.cells #[.int .i64 2,.int .i64 3,.int .i64 4] 3)):=abg _ _ _
 have ht0:Tk0B ((w.alloc (.cells #[.int .i64 0,.string ⟨#[]⟩,.int .i64 0,.int .i64 0,.int .i64 0,.int .i64 0] 90)).alloc (.cells #[.int .i64 2,.int .i64 3,.int .i64 4] 3)) w.heap.size:=Tk0B.below (heap_alloc_new w _) ((Below.refl _ _).alloc (Nat.le_refl _) _)
 have hN:=afw (w.alloc (.cells #[.int .i64 0,.string ⟨#[]⟩,.int .i64 0,.int .i64 0,.int .i64 0,.int .i64 0] 90)) [2,3,4] (by simp) 3
 simp only [World.size_alloc,List.map,List.length] at hN
 go_enter Tryz.func69,Tryz.ntmps69
 go_wp2_with fail
 refine (als _ q s v gs i e (H.out.below hb0) hn _ _ _ [2,3,4] hN (by rintro b off n c hv;simp only [Value.slice.injEq,Option.some.injEq,Addr.mk.injEq] at hv;omega) hQ hs).mono ?_
 rintro r w2 ⟨j,hij,hdj,rfl,hS,hT⟩
 have HS:=hide hS
 have HT:=hide ((Tq.of_below hb0).trans hT)
 have HT0:=hide (ht0.tq hT (by omega))
 clear hS hT hb0 ht0 hN
 have HDJ:=hide hdj
 clear hdj
 generalize hf:w.heap.size=f at *
 replace hf:w.heap.size≤f:=by omega
 have hqf:q≠f:=by omega
 clear hq
 by_cases hlong:16<j - i
 ·obtain ⟨hfl,t0,t1,t2,t3,t4,t5,f0,f1,f2,f3,f4,f5⟩:=HT0.out.cells
  have hl' : (16:Int)<((j - i:Nat):Int):=by omega
  go_wp2
  refine bodyPost_ret (v:=_) (by simp [results,Tryz.results69,go_sem,t0,t1,t2,t3,t4,t5];try rfl) rfl ⟨j,hij,HDJ.out,?_,?_,.inl ⟨hlong,rfl⟩⟩
  ·exact H.out.of_tq (HT.out.setNew hf 0 _ |>.setNew hf 1 _ |>.setNew hf 2 _ |>.setNew hf 3 _ |>.setNew hf 4 _ |>.setNew hf 5 _) ((aaz _ _ _ hqf _ _ _ _ _ _).trans HS.out.blk) HS.out.le
  ·exact HT.out.setNew hf 0 _ |>.setNew hf 1 _ |>.setNew hf 2 _ |>.setNew hf 3 _ |>.setNew hf 4 _ |>.setNew hf 5 _
 ·have hl' : decide ((16:Int)<((j - i:Nat):Int))=false:=by simp;omega
  go_wp2_with fail
  refine (am7 _ _ (by simp;omega)).mono ?_
  rintro r w3 ⟨rfl,hb3⟩
  replace HT0:=hide (HT0.out.below hb3)
  replace HT:=hide (HT.out.trans (.of_below hb3))
  replace HS:=hide (HS.out.below hb3)
  clear hb3
  obtain ⟨hfl,t0,t1,t2,t3,t4,t5,f0,f1,f2,f3,f4,f5⟩:=HT0.out.cells
  go_wp2
  refine bodyPost_ret (v:=_) (by simp [results,Tryz.results69,go_sem,t0,t1,t2,t3,t4,t5];try rfl) rfl ⟨j,hij,HDJ.out,?_,?_,.inr ⟨by omega,rfl⟩⟩
  ·exact H.out.of_tq (HT.out.setNew hf 0 _ |>.setNew hf 1 _ |>.setNew hf 2 _ |>.setNew hf 3 _ |>.setNew hf 4 _ |>.setNew hf 5 _) ((aaz _ _ _ hqf _ _ _ _ _ _).trans HS.out.blk) HS.out.le
  ·exact HT.out.setNew hf 0 _ |>.setNew hf 1 _ |>.setNew hf 2 _ |>.setNew hf 3 _ |>.setNew hf 4 _ |>.setNew hf 5 _
end Lm
end Go.Proofs.YtgclhjjmleiggaaGreatDoor
namespace Go.Proofs.YtgclhjjmleiggaaGreatDoor
namespace Lm
open Go Go.RowKit
open Dm (Err Fine)
set_option maxRecDepth 20000 in
set_option maxHeartbeats 1000000 in
theorem am8 (w:World) (q:Nat) (s:ByteArray) (v:Value) (gs:List Gl) (i:Nat) (e:Pl) (h:Scn w q s v gs i e) (hn:gs.length≤100000000) (hQ:Snd s pl0 gs e) (hs:s.size≤4096) (hne:(plf (gs.drop i) e).b<(plf ((gs.drop i).dropWhile (inC [3])) e).b) :
  Calls Tryz.prog 70 #[.pointer (some ⟨q,0,none⟩)] w fun r w'=>∃ j,i≤j∧gs.drop j=(gs.drop i).dropWhile (inC [3])∧Scn w' q s v gs j e∧Tq w w' q∧∃ n ds,IsLen (dval (bytesOf (s.extract (plf (gs.drop i) e).b (plf (gs.drop j) e).b))) n∧IsDec ds (dval (bytesOf (s.extract (plf (gs.drop i) e).b (plf (gs.drop j) e).b)))∧((32<n∧r=.returned (.tuple #[tok0,.int .i64 2]))∨(n≤32∧r=.returned (.tuple #[.agg #[.int .i64 2,.string (strOfNums ds),.int .i64 0,.int .i64 0,.int .i64 0,.int .i64 0],.int .i64 0]))):=by
 have H:=hide h
 have hq:=aaa h.blk
 have hD:=hQ.drop acx (Nat.zero_le _) i h.le
 have hG:=hD.1.digits hD.2.1 hD.2.2.2.1
 have HF:Hid (Fine (s.extract (plf (gs.drop i) e).b (plf ((gs.drop i).dropWhile (inC [3])) e).b)):=by
  refine ⟨?_,?_,hG.1⟩
  ·rw [ByteArray.size_extract];omega
  ·rw [ByteArray.size_extract];omega
 clear h hD hG hne
 unfold tok0
 have hb0:Below w.heap.size w ((w.alloc (.cells #[.int .i64 0,.string ⟨#[]⟩,.int .i64 0,.int .i64 0,.int .i64 0,.int .i64 0] 90)).alloc (.cells #[.int .i64 3] 3)):=abg _ _ _
 have ht0:Tk0B ((w.alloc (.cells #[.int .i64 0,.string ⟨#[]⟩,.int .i64 0,.int .i64 0,.int .i64 0,.int .i64 0] 90)).alloc (.cells #[.int .i64 3] 3)) w.heap.size:=Tk0B.below (heap_alloc_new w _) ((Below.refl _ _).alloc (Nat.le_refl _) _)
 have hN:=afw (w.alloc (.cells #[.int .i64 0,.string ⟨#[]⟩,.int .i64 0,.int .i64 0,.int .i64 0,.int .i64 0] 90)) [3] (by simp) 3
 simp only [World.size_alloc,List.map,List.length] at hN
 go_enter Tryz.func70,Tryz.ntmps70
 go_wp2_with fail
 refine (als _ q s v gs i e (H.out.below hb0) hn _ _ _ [3] hN (by rintro b off n c hv;simp only [Value.slice.injEq,Option.some.injEq,Addr.mk.injEq] at hv;omega) hQ (by omega)).mono ?_
 rintro r w2 ⟨j,hij,hdj,rfl,hS,hT⟩
 have HS:=hide hS
 have HT:=hide ((Tq.of_below hb0).trans hT)
 have HT0:=hide (ht0.tq hT (by omega))
 clear hS hT hb0 ht0 hN
 rw [←hdj] at HF
 have HDJ:=hide hdj
 clear hdj
 generalize htx:s.extract (plf (gs.drop i) e).b (plf (gs.drop j) e).b=t at HF ⊢
 have HTX:=hide htx
 clear htx
 generalize hf:w.heap.size=f at *
 replace hf:w.heap.size≤f:=by omega
 have hqf:q≠f:=by omega
 clear hq
 go_wp2_with fail
 refine (alt _ _).mono ?_
 rintro r w3 ⟨hr,hb3⟩
 replace HT0:=hide (HT0.out.below hb3)
 replace HT:=hide (HT.out.trans (.of_below hb3))
 replace HS:=hide (HS.out.below hb3)
 clear hb3
 rcases hr with ⟨k,hk,rfl⟩ | ⟨_,u,rfl,rs,hO,hC,hV⟩
 ·exfalso
  obtain ⟨x1,x2,x3⟩:=HF.out
  rcases hk with hk | hk
  ·omega
  ·exact hk.2.2 ⟨x1,x3⟩
 obtain ⟨ao,cap,rfl,c1,c2,c3,c4⟩:=hO.sl
 have HO:=hide hO
 have HC:=hide (And.intro hC hV)
 have hlen:rs.length≤1000000000:=by
  have h1:=aa6 HF.out.2.2
  rw [abk,←hV] at h1
  have h2:=ab7 (m:=t.size) (n:=5120) HF.out.2.1
  have h3:=amw 5120
  have h4:=aa9 hC (m:=5120) (by omega)
  omega
 clear hO hC hV c4
 by_cases hbig:32<rs.length
 ·obtain ⟨DS,hds⟩:=aul HF.out.2.2
  have HDS:=hide hds
  clear hds
  obtain ⟨hfl,t0,t1,t2,t3,t4,t5,f0,f1,f2,f3,f4,f5⟩:=HT0.out.cells
  have hl' : (32:Int)<(rs.length:Int):=by omega
  go_wp2
  refine bodyPost_ret (v:=_) (by simp [results,Tryz.results70,go_sem,t0,t1,t2,t3,t4,t5];try rfl) rfl ⟨j,hij,HDJ.out,?_,?_,_,DS,by rw [HTX.out];exact ⟨_,HC.out.1,HC.out.2,rfl⟩,by rw [HTX.out];exact HDS.out,.inl ⟨hbig,rfl⟩⟩
  ·exact H.out.of_tq (HT.out.setNew hf 0 _ |>.setNew hf 1 _ |>.setNew hf 2 _ |>.setNew hf 3 _ |>.setNew hf 4 _ |>.setNew hf 5 _) ((aaz _ _ _ hqf _ _ _ _ _ _).trans HS.out.blk) HS.out.le
  ·exact HT.out.setNew hf 0 _ |>.setNew hf 1 _ |>.setNew hf 2 _ |>.setNew hf 3 _ |>.setNew hf 4 _ |>.setNew hf 5 _
 ·have hl' : decide ((32:Int)<(rs.length:Int))=false:=by simp;omega
  go_wp2_with fail
  refine (ara _ _ _ _ _ HO.out.sl hlen).mono ?_
  rintro r w4 ⟨DS,rfl,hds,hb4⟩
  rw [HC.out.2] at hds
  have HDS:=hide hds
  replace HT0:=hide (HT0.out.below hb4)
  replace HT:=hide (HT.out.trans (.of_below hb4))
  replace HS:=hide (HS.out.below hb4)
  clear hb4 hds
  obtain ⟨hfl,t0,t1,t2,t3,t4,t5,f0,f1,f2,f3,f4,f5⟩:=HT0.out.cells
  go_wp2
  refine bodyPost_ret (v:=_) (by simp [results,Tryz.results70,go_sem,t0,t1,t2,t3,t4,t5];try rfl) rfl ⟨j,hij,HDJ.out,?_,?_,_,DS,by rw [HTX.out];exact ⟨_,HC.out.1,HC.out.2,rfl⟩,by rw [HTX.out];exact HDS.out,.inr ⟨by omega,rfl⟩⟩
  ·exact H.out.of_tq (HT.out.setNew hf 0 _ |>.setNew hf 1 _ |>.setNew hf 2 _ |>.setNew hf 3 _ |>.setNew hf 4 _ |>.setNew hf 5 _) ((aaz _ _ _ hqf _ _ _ _ _ _).trans HS.out.blk) HS.out.le
  ·exact HT.out.setNew hf 0 _ |>.setNew hf 1 _ |>.setNew hf 2 _ |>.setNew hf 3 _ |>.setNew hf 4 _ |>.setNew hf 5 _
end Lm
end Go.Proofs.YtgclhjjmleiggaaGreatDoor
namespace Go.Proofs.YtgclhjjmleiggaaGreatDoor
namespace Lm
open Go Go.RowKit
theorem abm {c:Int} (h:0≤c∧c<128):Utf8.encode c=strOfNums [c]:=by
 obtain ⟨n,rfl⟩:∃ n:Nat,c=n:=⟨c.toNat,by omega⟩
 unfold Utf8.encode
 have hv:Utf8.valid (n:Int)=true:=by simp [Utf8.valid];omega
 simp only [hv,if_true]
 rw [if_pos (by omega)]
 rfl
theorem Tq.six {w w' : World} {q f:Nat} (h:Tq w w' q) (hf:w.heap.size≤f) (u0 u1 u2 u3 u4 u5:Value):Tq w ((((((w'.setCell ⟨f,0,none⟩ u0).setCell ⟨f,1,none⟩ u1).setCell ⟨f,2,none⟩ u2).setCell ⟨f,3,none⟩ u3).setCell ⟨f,4,none⟩ u4).setCell ⟨f,5,none⟩ u5) q :=
 h.setNew hf 0 _ |>.setNew hf 1 _ |>.setNew hf 2 _ |>.setNew hf 3 _ |>.setNew hf 4 _ |>.setNew hf 5 _
set_option maxRecDepth 20000 in
set_option maxHeartbeats 1000000 in
theorem asa (w:World) (q:Nat) (s:ByteArray) (v:Value) (gs:List Gl) (i:Nat) (e:Pl) (h:Scn w q s v gs i e) (hn:gs.length≤100000000) (g:Gl) (hg:gs[i]? = some g) (c:Int) (hc:gfold g.code=c) (h0:0≤c∧c<128) (h1:c≠58) (h2:c≠33) :
  Calls Tryz.prog 71 #[.pointer (some ⟨q,0,none⟩)] w fun r w'=>Scn w' q s v gs (i+1) e∧Tq w w' q∧r=.returned (.tuple #[.agg #[.int .i64 3,.string (strOfNums [c]),.int .i64 0,.int .i64 0,.int .i64 0,.int .i64 0],.int .i64 0]):=by
 have H:=hide h
 have hi:i<gs.length:=(List.getElem?_eq_some_iff.1 hg).1
 have hil:(i:Int)<100000000:=by omega
 obtain ⟨ao,cap,rfl⟩:=h.gls.isSlice
 obtain ⟨b,off,rfl,hG⟩:=h.gls.glyph hg
 obtain ⟨hq,k0,k1,k2,k3,k4,k5,k6⟩:=h.cells
 obtain ⟨hb,g0,g1,g2,g3,g4,g5⟩:=hG
 have hfr:=h.free 2
 have hi' : (i:Int)<(gs.length:Int):=by omega
 have KF:∀ w,Calls Tryz.prog 89 #[.int .i64 g.code] w fun e w'=>e=.returned (.int .i64 c)∧w' = w:=fun w=>by rw [←hc];exact abe w _
 have n8788:(c == 8788)=false:=beq_eq_false_iff_ne.2 (by omega)
 have n8800:(c == 8800)=false:=beq_eq_false_iff_ne.2 (by omega)
 have n58:(c == 58)=false:=beq_eq_false_iff_ne.2 (by omega)
 have n33:(c == 33)=false:=beq_eq_false_iff_ne.2 (by omega)
 clear h hg hc k0 k3 k4 k5 k6 g1 g2 g3 g4 g5
 go_enter Tryz.func71,Tryz.ntmps71
 go_wp2_with fail
 go_quiet ((go_at_call 89;exact Calls.quiet_of_same (KF _)))
 go_wp2
 refine bodyPost_ret (v:=_) (by simp [results,Tryz.results71,go_sem];try rfl) rfl ⟨?_,?_,?_⟩
 ·refine H.out.of_tq (Tq.six ((Tq.of_below (by (repeat' first|with_reducible(first|exact Below.refl _ _|assumption|refine gdrewN ?_ _|refine Below.alloc ?_ ?_ _|refine Below.drew ?_|refine Below.setCell ?_ ?_ _)|go_size))).set 2 _) (Nat.le_refl _) _ _ _ _ _ _) ((aaz _ _ _ (by omega) _ _ _ _ _ _).trans ?_) (by omega)
  rw [heap_setCell_same _ q 2 _ _ _ ((Below.block (B:=w.heap.size) (by (repeat' first|with_reducible(first|exact Below.refl _ _|assumption|refine gdrewN ?_ _|refine Below.alloc ?_ ?_ _|refine Below.drew ?_|refine Below.setCell ?_ ?_ _)|go_size)) q hq).trans H.out.blk)]
  simp
 ·exact Tq.six ((Tq.of_below (by (repeat' first|with_reducible(first|exact Below.refl _ _|assumption|refine gdrewN ?_ _|refine Below.alloc ?_ ?_ _|refine Below.drew ?_|refine Below.setCell ?_ ?_ _)|go_size))).set 2 _) (Nat.le_refl _) _ _ _ _ _ _
 ·simp [abm h0]
set_option maxRecDepth 20000 in
set_option maxHeartbeats 1000000 in
theorem aja (w:World) (q:Nat) (s:ByteArray) (v:Value) (gs:List Gl) (i:Nat) (e:Pl) (h:Scn w q s v gs i e) (hn:gs.length≤100000000) (g:Gl) (hg:gs[i]? = some g) (c:Int) (hc:gfold g.code=c) (h0:c=8788) :
  Calls Tryz.prog 71 #[.pointer (some ⟨q,0,none⟩)] w fun r w'=>Scn w' q s v gs (i+1) e∧Tq w w' q∧r=.returned (.tuple #[.agg #[.int .i64 3,.string (strOfNums [58,61]),.int .i64 0,.int .i64 0,.int .i64 0,.int .i64 0],.int .i64 0]):=by
 have H:=hide h
 have hi:i<gs.length:=(List.getElem?_eq_some_iff.1 hg).1
 have hil:(i:Int)<100000000:=by omega
 obtain ⟨ao,cap,rfl⟩:=h.gls.isSlice
 obtain ⟨b,off,rfl,hG⟩:=h.gls.glyph hg
 obtain ⟨hq,k0,k1,k2,k3,k4,k5,k6⟩:=h.cells
 obtain ⟨hb,g0,g1,g2,g3,g4,g5⟩:=hG
 have hfr:=h.free 2
 have hi' : (i:Int)<(gs.length:Int):=by omega
 have KF:∀ w,Calls Tryz.prog 89 #[.int .i64 g.code] w fun e w'=>e=.returned (.int .i64 c)∧w' = w:=fun w=>by rw [←hc];exact abe w _
 subst h0
 clear h hg hc k0 k3 k4 k5 k6 g1 g2 g3 g4 g5
 go_enter Tryz.func71,Tryz.ntmps71
 go_wp2_with fail
 go_quiet ((go_at_call 89;exact Calls.quiet_of_same (KF _)))
 go_wp2
 refine bodyPost_ret (v:=_) (by simp [results,Tryz.results71,go_sem];try rfl) rfl ⟨?_,?_,?_⟩
 ·refine H.out.of_tq (Tq.six ((Tq.of_below (by (repeat' first|with_reducible(first|exact Below.refl _ _|assumption|refine gdrewN ?_ _|refine Below.alloc ?_ ?_ _|refine Below.drew ?_|refine Below.setCell ?_ ?_ _)|go_size))).set 2 _) (Nat.le_refl _) _ _ _ _ _ _) ((aaz _ _ _ (by omega) _ _ _ _ _ _).trans ?_) (by omega)
  rw [heap_setCell_same _ q 2 _ _ _ ((Below.block (B:=w.heap.size) (by (repeat' first|with_reducible(first|exact Below.refl _ _|assumption|refine gdrewN ?_ _|refine Below.alloc ?_ ?_ _|refine Below.drew ?_|refine Below.setCell ?_ ?_ _)|go_size)) q hq).trans H.out.blk)]
  simp
 ·exact Tq.six ((Tq.of_below (by (repeat' first|with_reducible(first|exact Below.refl _ _|assumption|refine gdrewN ?_ _|refine Below.alloc ?_ ?_ _|refine Below.drew ?_|refine Below.setCell ?_ ?_ _)|go_size))).set 2 _) (Nat.le_refl _) _ _ _ _ _ _
 ·rfl
set_option maxRecDepth 20000 in
set_option maxHeartbeats 1000000 in
theorem akv (w:World) (q:Nat) (s:ByteArray) (v:Value) (gs:List Gl) (i:Nat) (e:Pl) (h:Scn w q s v gs i e) (hn:gs.length≤100000000) (g:Gl) (hg:gs[i]? = some g) (c:Int) (hc:gfold g.code=c) (h0:c=8800) :
  Calls Tryz.prog 71 #[.pointer (some ⟨q,0,none⟩)] w fun r w'=>Scn w' q s v gs (i+1) e∧Tq w w' q∧r=.returned (.tuple #[.agg #[.int .i64 3,.string (strOfNums [33,61]),.int .i64 0,.int .i64 0,.int .i64 0,.int .i64 0],.int .i64 0]):=by
 have H:=hide h
 have hi:i<gs.length:=(List.getElem?_eq_some_iff.1 hg).1
 have hil:(i:Int)<100000000:=by omega
 obtain ⟨ao,cap,rfl⟩:=h.gls.isSlice
 obtain ⟨b,off,rfl,hG⟩:=h.gls.glyph hg
 obtain ⟨hq,k0,k1,k2,k3,k4,k5,k6⟩:=h.cells
 obtain ⟨hb,g0,g1,g2,g3,g4,g5⟩:=hG
 have hfr:=h.free 2
 have hi' : (i:Int)<(gs.length:Int):=by omega
 have KF:∀ w,Calls Tryz.prog 89 #[.int .i64 g.code] w fun e w'=>e=.returned (.int .i64 c)∧w' = w:=fun w=>by rw [←hc];exact abe w _
 subst h0
 clear h hg hc k0 k3 k4 k5 k6 g1 g2 g3 g4 g5
 go_enter Tryz.func71,Tryz.ntmps71
 go_wp2_with fail
 go_quiet ((go_at_call 89;exact Calls.quiet_of_same (KF _)))
 go_wp2
 refine bodyPost_ret (v:=_) (by simp [results,Tryz.results71,go_sem];try rfl) rfl ⟨?_,?_,?_⟩
 ·refine H.out.of_tq (Tq.six ((Tq.of_below (by (repeat' first|with_reducible(first|exact Below.refl _ _|assumption|refine gdrewN ?_ _|refine Below.alloc ?_ ?_ _|refine Below.drew ?_|refine Below.setCell ?_ ?_ _)|go_size))).set 2 _) (Nat.le_refl _) _ _ _ _ _ _) ((aaz _ _ _ (by omega) _ _ _ _ _ _).trans ?_) (by omega)
  rw [heap_setCell_same _ q 2 _ _ _ ((Below.block (B:=w.heap.size) (by (repeat' first|with_reducible(first|exact Below.refl _ _|assumption|refine gdrewN ?_ _|refine Below.alloc ?_ ?_ _|refine Below.drew ?_|refine Below.setCell ?_ ?_ _)|go_size)) q hq).trans H.out.blk)]
  simp
 ·exact Tq.six ((Tq.of_below (by (repeat' first|with_reducible(first|exact Below.refl _ _|assumption|refine gdrewN ?_ _|refine Below.alloc ?_ ?_ _|refine Below.drew ?_|refine Below.setCell ?_ ?_ _)|go_size))).set 2 _) (Nat.le_refl _) _ _ _ _ _ _
 ·rfl
set_option maxRecDepth 20000 in
set_option maxHeartbeats 1000000 in
theorem am9 (w:World) (q:Nat) (s:ByteArray) (v:Value) (gs:List Gl) (i:Nat) (e:Pl) (h:Scn w q s v gs i e) (hn:gs.length≤100000000) (g:Gl) (hg:gs[i]? = some g) (c:Int) (hc:gfold g.code=c) (h0:c=58) (gn:Gl) (hg2:gs[i+1]? = some gn) (he2:gn.code=61) :
  Calls Tryz.prog 71 #[.pointer (some ⟨q,0,none⟩)] w fun r w'=>Scn w' q s v gs (i+2) e∧Tq w w' q∧r=.returned (.tuple #[.agg #[.int .i64 3,.string (strOfNums [58,61]),.int .i64 0,.int .i64 0,.int .i64 0,.int .i64 0],.int .i64 0]):=by
 have H:=hide h
 have hi:i<gs.length:=(List.getElem?_eq_some_iff.1 hg).1
 have hil:(i:Int)<100000000:=by omega
 obtain ⟨ao,cap,rfl⟩:=h.gls.isSlice
 obtain ⟨b,off,rfl,hG⟩:=h.gls.glyph hg
 obtain ⟨hq,k0,k1,k2,k3,k4,k5,k6⟩:=h.cells
 obtain ⟨hb,g0,g1,g2,g3,g4,g5⟩:=hG
 have hfr:=h.free 2
 have hi' : (i:Int)<(gs.length:Int):=by omega
 have KF:∀ w,Calls Tryz.prog 89 #[.int .i64 g.code] w fun e w'=>e=.returned (.int .i64 c)∧w' = w:=fun w=>by rw [←hc];exact abe w _
 subst h0
 clear h hg hc k0 k3 k4 k5 k6 g1 g2 g3 g4 g5
 go_enter Tryz.func71,Tryz.ntmps71
 go_wp2_with fail
 go_quiet ((go_at_call 89;exact Calls.quiet_of_same (KF _)))
 go_wp2_with fail
 generalize hE:Utf8.encode 58=T
 have HE:=hide ((abm (c:=58) (by omega)).symm.trans hE)
 have hTs:T.size≤10:=by rw [←HE.out,strOfNums_size];simp
 have hadd:∀ w,(Op.stringOp .add T ⟨#[61]⟩).run Tryz.prog w=.ok (.string (T ++ ⟨#[61]⟩)) w:=fun w=>run_string_add_sum (P:=Tryz.prog) w T ⟨#[61]⟩ (by show T.size+1≤_;omega)
 generalize hU:T ++ (⟨#[61]⟩:ByteArray)=U at hadd
 have HU:=hide hU
 clear hU hTs
 clear hE
 have hbq:Below w.heap.size w ((w.alloc (.cells #[.int .i64 0,.string ⟨#[]⟩,.int .i64 0,.int .i64 0,.int .i64 0,.int .i64 0] 90)).drewN nq):=by (repeat' first|with_reducible(first|exact Below.refl _ _|assumption|refine gdrewN ?_ _|refine Below.alloc ?_ ?_ _|refine Below.drew ?_|refine Below.setCell ?_ ?_ _)|go_size)
 have HT1:=hide ((Tq.of_below (q:=q) hbq).set 2 (.int .i64 ((i:Int)+1)))
 have HS1:=hide ((H.out.below hbq).set (by omega))
 have HT0:Hid (Tk0B (((w.alloc (.cells #[.int .i64 0,.string ⟨#[]⟩,.int .i64 0,.int .i64 0,.int .i64 0,.int .i64 0] 90)).drewN nq).setCell ⟨q,2,none⟩ (.int .i64 ((i:Int)+1))) w.heap.size):=((heap_setCell_other _ ⟨q,2,none⟩ w.heap.size _ (by show w.heap.size≠q;omega)).trans (heap_alloc_new w _))
 clear hbq k1 k2 hfr g0 hb
 generalize ((w.alloc (.cells #[.int .i64 0,.string ⟨#[]⟩,.int .i64 0,.int .i64 0,.int .i64 0,.int .i64 0] 90)).drewN nq).setCell ⟨q,2,none⟩ (.int .i64 ((i:Int)+1))=w1 at HT1 HS1 HT0 ⊢
 obtain ⟨m,hm⟩:∃ m,m=i+1:=⟨_,rfl⟩
 rw [←hm] at HS1 hg2
 obtain ⟨b2,off2,e2,hG2⟩:=HS1.out.gls.glyph hg2
 obtain ⟨rfl,rfl⟩:b2=b∧off2=off:=by simpa [eq_comm] using e2
 obtain ⟨hq1,k0,k1,k2,k3,k4,k5,k6⟩:=HS1.out.cells
 obtain ⟨hb,g0,g1,g2,g3,g4,g5⟩:=hG2
 rw [he2] at g0
 have hfr:=HS1.out.free 2
 obtain ⟨hfl,t0,t1,t2,t3,t4,t5,f0,f1,f2,f3,f4,f5⟩:=HT0.out.cells
 have hi2:(m:Int)<(gs.length:Int):=by have:=(List.getElem?_eq_some_iff.1 hg2).1;omega
 have hne2:((m:Int) == (gs.length:Int))=false:=beq_eq_false_iff_ne.2 (by omega)
 have HM:=hide hm
 clear e2 k0 k3 k4 k5 k6 g1 g2 g3 g4 g5 hm
 go_wp2_with fail
 go_quiet (fail)
 clear k1 k2 g0 t0 t1 t2 t3 t4 t5 f0 f1 f2 f3 f4 f5 hfr hfl hb hq1
 have hbq:Below w1.heap.size w1 (w1.drewN nq):=by (repeat' first|with_reducible(first|exact Below.refl _ _|assumption|refine gdrewN ?_ _|refine Below.alloc ?_ ?_ _|refine Below.drew ?_|refine Below.setCell ?_ ?_ _)|go_size)
 replace HT1:=hide (HT1.out.trans (.of_below hbq))
 replace HS1:=hide (HS1.out.below hbq)
 replace HT0:=hide (HT0.out.below hbq)
 clear hbq
 generalize w1.drewN nq=w2 at HT1 HS1 HT0 ⊢
 generalize hf:w.heap.size=f at *
 replace hf:w.heap.size≤f:=by omega
 have hqf:q≠f:=by omega
 obtain ⟨hq1,k0,k1,k2,k3,k4,k5,k6⟩:=HS1.out.cells
 have hfr:=HS1.out.free 2
 clear k0 k1 k3 k4 k5 k6
 have hml:(m:Int)<100000000:=by omega
 obtain ⟨hfl,t0,t1,t2,t3,t4,t5,f0,f1,f2,f3,f4,f5⟩:=HT0.out.cells
 clear hne2 hg2 he2 hi hil KF
 go_wp2
 refine bodyPost_ret (v:=_) (by simp [results,Tryz.results71,go_sem,t0,t1,t2,t3,t4,t5];try rfl) rfl ⟨?_,?_,?_⟩
 ·refine H.out.of_tq (Tq.six (HT1.out.set 2 _) hf _ _ _ _ _ _) ((aaz _ _ _ hqf _ _ _ _ _ _).trans ?_) (by have:=HM.out;omega)
  rw [heap_setCell_same w2 q 2 _ _ _ HS1.out.blk]
  have:=HM.out
  simp
  omega
 ·exact Tq.six (HT1.out.set 2 _) hf _ _ _ _ _ _
 ·rw [←HU.out,←HE.out]
  rfl
set_option maxRecDepth 20000 in
set_option maxHeartbeats 1000000 in
theorem afx (w:World) (q:Nat) (s:ByteArray) (v:Value) (gs:List Gl) (i:Nat) (e:Pl) (h:Scn w q s v gs i e) (hn:gs.length≤100000000) (g:Gl) (hg:gs[i]? = some g) (c:Int) (hc:gfold g.code=c) (h0:c=58) (gn:Gl) (hg2:gs[i+1]? = some gn) (he2:gn.code≠61) :
  Calls Tryz.prog 71 #[.pointer (some ⟨q,0,none⟩)] w fun r w'=>Scn w' q s v gs (i+1) e∧Tq w w' q∧r=.returned (.tuple #[tok0,.int .i64 41]):=by
 have H:=hide h
 have hi:i<gs.length:=(List.getElem?_eq_some_iff.1 hg).1
 have hil:(i:Int)<100000000:=by omega
 obtain ⟨ao,cap,rfl⟩:=h.gls.isSlice
 obtain ⟨b,off,rfl,hG⟩:=h.gls.glyph hg
 obtain ⟨hq,k0,k1,k2,k3,k4,k5,k6⟩:=h.cells
 obtain ⟨hb,g0,g1,g2,g3,g4,g5⟩:=hG
 have hfr:=h.free 2
 have hi' : (i:Int)<(gs.length:Int):=by omega
 have KF:∀ w,Calls Tryz.prog 89 #[.int .i64 g.code] w fun e w'=>e=.returned (.int .i64 c)∧w' = w:=fun w=>by rw [←hc];exact abe w _
 subst h0
 clear h hg hc k0 k3 k4 k5 k6 g1 g2 g3 g4 g5
 unfold tok0
 go_enter Tryz.func71,Tryz.ntmps71
 go_wp2_with fail
 go_quiet ((go_at_call 89;exact Calls.quiet_of_same (KF _)))
 go_wp2_with fail
 generalize hE:Utf8.encode 58=T
 have HE:=hide ((abm (c:=58) (by omega)).symm.trans hE)
 have hTs:T.size≤10:=by rw [←HE.out,strOfNums_size];simp
 have hadd:∀ w,(Op.stringOp .add T ⟨#[61]⟩).run Tryz.prog w=.ok (.string (T ++ ⟨#[61]⟩)) w:=fun w=>run_string_add_sum (P:=Tryz.prog) w T ⟨#[61]⟩ (by show T.size+1≤_;omega)
 generalize hU:T ++ (⟨#[61]⟩:ByteArray)=U at hadd
 have HU:=hide hU
 clear hU hTs
 clear hE
 have hbq:Below w.heap.size w ((w.alloc (.cells #[.int .i64 0,.string ⟨#[]⟩,.int .i64 0,.int .i64 0,.int .i64 0,.int .i64 0] 90)).drewN nq):=by (repeat' first|with_reducible(first|exact Below.refl _ _|assumption|refine gdrewN ?_ _|refine Below.alloc ?_ ?_ _|refine Below.drew ?_|refine Below.setCell ?_ ?_ _)|go_size)
 have HT1:=hide ((Tq.of_below (q:=q) hbq).set 2 (.int .i64 ((i:Int)+1)))
 have HS1:=hide ((H.out.below hbq).set (by omega))
 have HT0:Hid (Tk0B (((w.alloc (.cells #[.int .i64 0,.string ⟨#[]⟩,.int .i64 0,.int .i64 0,.int .i64 0,.int .i64 0] 90)).drewN nq).setCell ⟨q,2,none⟩ (.int .i64 ((i:Int)+1))) w.heap.size):=((heap_setCell_other _ ⟨q,2,none⟩ w.heap.size _ (by show w.heap.size≠q;omega)).trans (heap_alloc_new w _))
 clear hbq k1 k2 hfr g0 hb
 generalize ((w.alloc (.cells #[.int .i64 0,.string ⟨#[]⟩,.int .i64 0,.int .i64 0,.int .i64 0,.int .i64 0] 90)).drewN nq).setCell ⟨q,2,none⟩ (.int .i64 ((i:Int)+1))=w1 at HT1 HS1 HT0 ⊢
 obtain ⟨m,hm⟩:∃ m,m=i+1:=⟨_,rfl⟩
 rw [←hm] at HS1 hg2
 obtain ⟨b2,off2,e2,hG2⟩:=HS1.out.gls.glyph hg2
 obtain ⟨rfl,rfl⟩:b2=b∧off2=off:=by simpa [eq_comm] using e2
 obtain ⟨hq1,k0,k1,k2,k3,k4,k5,k6⟩:=HS1.out.cells
 obtain ⟨hb,g0,g1,g2,g3,g4,g5⟩:=hG2
 have hne61:((gn.code:Int) != 61)=true:=by simp;omega
 have hfr:=HS1.out.free 2
 obtain ⟨hfl,t0,t1,t2,t3,t4,t5,f0,f1,f2,f3,f4,f5⟩:=HT0.out.cells
 have hi2:(m:Int)<(gs.length:Int):=by have:=(List.getElem?_eq_some_iff.1 hg2).1;omega
 have hne2:((m:Int) == (gs.length:Int))=false:=beq_eq_false_iff_ne.2 (by omega)
 have HM:=hide hm
 clear e2 k0 k3 k4 k5 k6 g1 g2 g3 g4 g5 hm
 go_wp2_with fail
 go_quiet (fail)
 clear k1 k2 g0 t0 t1 t2 t3 t4 t5 f0 f1 f2 f3 f4 f5 hfr hfl hb hq1
 have hbq:Below w1.heap.size w1 (w1.drewN nq):=by (repeat' first|with_reducible(first|exact Below.refl _ _|assumption|refine gdrewN ?_ _|refine Below.alloc ?_ ?_ _|refine Below.drew ?_|refine Below.setCell ?_ ?_ _)|go_size)
 replace HT1:=hide (HT1.out.trans (.of_below hbq))
 replace HS1:=hide (HS1.out.below hbq)
 replace HT0:=hide (HT0.out.below hbq)
 clear hbq
 generalize w1.drewN nq=w2 at HT1 HS1 HT0 ⊢
 generalize hf:w.heap.size=f at *
 replace hf:w.heap.size≤f:=by omega
 have hqf:q≠f:=by omega
 obtain ⟨hq1,k0,k1,k2,k3,k4,k5,k6⟩:=HS1.out.cells
 have hfr:=HS1.out.free 2
 clear k0 k1 k3 k4 k5 k6
 have hml:(m:Int)<100000000:=by omega
 obtain ⟨hfl,t0,t1,t2,t3,t4,t5,f0,f1,f2,f3,f4,f5⟩:=HT0.out.cells
 clear hne2 hg2 he2 hne61 hi hil KF
 go_wp2
 refine bodyPost_ret (v:=_) (by simp [results,Tryz.results71,go_sem,t0,t1,t2,t3,t4,t5];try rfl) rfl ⟨?_,?_,?_⟩
 ·refine H.out.of_tq (Tq.six HT1.out hf _ _ _ _ _ _) ((aaz _ _ _ hqf _ _ _ _ _ _).trans ?_) (by have:=HM.out;omega)
  rw [HS1.out.blk,HM.out]
 ·exact Tq.six HT1.out hf _ _ _ _ _ _
 ·rfl
set_option maxRecDepth 20000 in
set_option maxHeartbeats 1000000 in
theorem agf (w:World) (q:Nat) (s:ByteArray) (v:Value) (gs:List Gl) (i:Nat) (e:Pl) (h:Scn w q s v gs i e) (hn:gs.length≤100000000) (g:Gl) (hg:gs[i]? = some g) (c:Int) (hc:gfold g.code=c) (h0:c=58) (hg2:gs.length≤i+1) :
  Calls Tryz.prog 71 #[.pointer (some ⟨q,0,none⟩)] w fun r w'=>Scn w' q s v gs (i+1) e∧Tq w w' q∧r=.returned (.tuple #[tok0,.int .i64 41]):=by
 have H:=hide h
 have hi:i<gs.length:=(List.getElem?_eq_some_iff.1 hg).1
 have hil:(i:Int)<100000000:=by omega
 obtain ⟨ao,cap,rfl⟩:=h.gls.isSlice
 obtain ⟨b,off,rfl,hG⟩:=h.gls.glyph hg
 obtain ⟨hq,k0,k1,k2,k3,k4,k5,k6⟩:=h.cells
 obtain ⟨hb,g0,g1,g2,g3,g4,g5⟩:=hG
 have hfr:=h.free 2
 have hi' : (i:Int)<(gs.length:Int):=by omega
 have KF:∀ w,Calls Tryz.prog 89 #[.int .i64 g.code] w fun e w'=>e=.returned (.int .i64 c)∧w' = w:=fun w=>by rw [←hc];exact abe w _
 subst h0
 clear h hg hc k0 k3 k4 k5 k6 g1 g2 g3 g4 g5
 unfold tok0
 go_enter Tryz.func71,Tryz.ntmps71
 go_wp2_with fail
 go_quiet ((go_at_call 89;exact Calls.quiet_of_same (KF _)))
 go_wp2_with fail
 generalize hE:Utf8.encode 58=T
 have HE:=hide ((abm (c:=58) (by omega)).symm.trans hE)
 have hTs:T.size≤10:=by rw [←HE.out,strOfNums_size];simp
 have hadd:∀ w,(Op.stringOp .add T ⟨#[61]⟩).run Tryz.prog w=.ok (.string (T ++ ⟨#[61]⟩)) w:=fun w=>run_string_add_sum (P:=Tryz.prog) w T ⟨#[61]⟩ (by show T.size+1≤_;omega)
 generalize hU:T ++ (⟨#[61]⟩:ByteArray)=U at hadd
 have HU:=hide hU
 clear hU hTs
 clear hE
 have hbq:Below w.heap.size w ((w.alloc (.cells #[.int .i64 0,.string ⟨#[]⟩,.int .i64 0,.int .i64 0,.int .i64 0,.int .i64 0] 90)).drewN nq):=by (repeat' first|with_reducible(first|exact Below.refl _ _|assumption|refine gdrewN ?_ _|refine Below.alloc ?_ ?_ _|refine Below.drew ?_|refine Below.setCell ?_ ?_ _)|go_size)
 have HT1:=hide ((Tq.of_below (q:=q) hbq).set 2 (.int .i64 ((i:Int)+1)))
 have HS1:=hide ((H.out.below hbq).set (by omega))
 have HT0:Hid (Tk0B (((w.alloc (.cells #[.int .i64 0,.string ⟨#[]⟩,.int .i64 0,.int .i64 0,.int .i64 0,.int .i64 0] 90)).drewN nq).setCell ⟨q,2,none⟩ (.int .i64 ((i:Int)+1))) w.heap.size):=((heap_setCell_other _ ⟨q,2,none⟩ w.heap.size _ (by show w.heap.size≠q;omega)).trans (heap_alloc_new w _))
 clear hbq k1 k2 hfr g0 hb
 generalize ((w.alloc (.cells #[.int .i64 0,.string ⟨#[]⟩,.int .i64 0,.int .i64 0,.int .i64 0,.int .i64 0] 90)).drewN nq).setCell ⟨q,2,none⟩ (.int .i64 ((i:Int)+1))=w1 at HT1 HS1 HT0 ⊢
 obtain ⟨m,hm⟩:∃ m,m=i+1:=⟨_,rfl⟩
 rw [←hm] at HS1
 obtain ⟨hq1,k0,k1,k2,k3,k4,k5,k6⟩:=HS1.out.cells
 obtain ⟨hfl,t0,t1,t2,t3,t4,t5,f0,f1,f2,f3,f4,f5⟩:=HT0.out.cells
 have hne2:((m:Int) == (gs.length:Int))=true:=by simp;omega
 have HM:=hide hm
 clear k0 k3 k4 k5 k6 hm
 go_wp2_with fail
 go_quiet (fail)
 clear k1 k2 t0 t1 t2 t3 t4 t5 f0 f1 f2 f3 f4 f5 hfl hq1
 have hbq:Below w1.heap.size w1 (w1.drewN nq):=by (repeat' first|with_reducible(first|exact Below.refl _ _|assumption|refine gdrewN ?_ _|refine Below.alloc ?_ ?_ _|refine Below.drew ?_|refine Below.setCell ?_ ?_ _)|go_size)
 replace HT1:=hide (HT1.out.trans (.of_below hbq))
 replace HS1:=hide (HS1.out.below hbq)
 replace HT0:=hide (HT0.out.below hbq)
 clear hbq
 generalize w1.drewN nq=w2 at HT1 HS1 HT0 ⊢
 generalize hf:w.heap.size=f at *
 replace hf:w.heap.size≤f:=by omega
 have hqf:q≠f:=by omega
 obtain ⟨hq1,k0,k1,k2,k3,k4,k5,k6⟩:=HS1.out.cells
 have hfr:=HS1.out.free 2
 clear k0 k1 k3 k4 k5 k6
 have hml:(m:Int)<100000001:=by have:=HM.out;omega
 obtain ⟨hfl,t0,t1,t2,t3,t4,t5,f0,f1,f2,f3,f4,f5⟩:=HT0.out.cells
 clear hne2 hi hil KF
 go_wp2
 refine bodyPost_ret (v:=_) (by simp [results,Tryz.results71,go_sem,t0,t1,t2,t3,t4,t5];try rfl) rfl ⟨?_,?_,?_⟩
 ·refine H.out.of_tq (Tq.six HT1.out hf _ _ _ _ _ _) ((aaz _ _ _ hqf _ _ _ _ _ _).trans ?_) (by have:=HM.out;omega)
  rw [HS1.out.blk,HM.out]
 ·exact Tq.six HT1.out hf _ _ _ _ _ _
 ·rfl
set_option maxRecDepth 20000 in
set_option maxHeartbeats 1000000 in
theorem aps (w:World) (q:Nat) (s:ByteArray) (v:Value) (gs:List Gl) (i:Nat) (e:Pl) (h:Scn w q s v gs i e) (hn:gs.length≤100000000) (g:Gl) (hg:gs[i]? = some g) (c:Int) (hc:gfold g.code=c) (h0:c=33) (gn:Gl) (hg2:gs[i+1]? = some gn) (he2:gn.code=61) :
  Calls Tryz.prog 71 #[.pointer (some ⟨q,0,none⟩)] w fun r w'=>Scn w' q s v gs (i+2) e∧Tq w w' q∧r=.returned (.tuple #[.agg #[.int .i64 3,.string (strOfNums [33,61]),.int .i64 0,.int .i64 0,.int .i64 0,.int .i64 0],.int .i64 0]):=by
 have H:=hide h
 have hi:i<gs.length:=(List.getElem?_eq_some_iff.1 hg).1
 have hil:(i:Int)<100000000:=by omega
 obtain ⟨ao,cap,rfl⟩:=h.gls.isSlice
 obtain ⟨b,off,rfl,hG⟩:=h.gls.glyph hg
 obtain ⟨hq,k0,k1,k2,k3,k4,k5,k6⟩:=h.cells
 obtain ⟨hb,g0,g1,g2,g3,g4,g5⟩:=hG
 have hfr:=h.free 2
 have hi' : (i:Int)<(gs.length:Int):=by omega
 have KF:∀ w,Calls Tryz.prog 89 #[.int .i64 g.code] w fun e w'=>e=.returned (.int .i64 c)∧w' = w:=fun w=>by rw [←hc];exact abe w _
 subst h0
 clear h hg hc k0 k3 k4 k5 k6 g1 g2 g3 g4 g5
 go_enter Tryz.func71,Tryz.ntmps71
 go_wp2_with fail
 go_quiet ((go_at_call 89;exact Calls.quiet_of_same (KF _)))
 go_wp2_with fail
 generalize hE:Utf8.encode 33=T
 have HE:=hide ((abm (c:=33) (by omega)).symm.trans hE)
 have hTs:T.size≤10:=by rw [←HE.out,strOfNums_size];simp
 have hadd:∀ w,(Op.stringOp .add T ⟨#[61]⟩).run Tryz.prog w=.ok (.string (T ++ ⟨#[61]⟩)) w:=fun w=>run_string_add_sum (P:=Tryz.prog) w T ⟨#[61]⟩ (by show T.size+1≤_;omega)
 generalize hU:T ++ (⟨#[61]⟩:ByteArray)=U at hadd
 have HU:=hide hU
 clear hU hTs
 clear hE
 have hbq:Below w.heap.size w ((w.alloc (.cells #[.int .i64 0,.string ⟨#[]⟩,.int .i64 0,.int .i64 0,.int .i64 0,.int .i64 0] 90)).drewN nq):=by (repeat' first|with_reducible(first|exact Below.refl _ _|assumption|refine gdrewN ?_ _|refine Below.alloc ?_ ?_ _|refine Below.drew ?_|refine Below.setCell ?_ ?_ _)|go_size)
 have HT1:=hide ((Tq.of_below (q:=q) hbq).set 2 (.int .i64 ((i:Int)+1)))
 have HS1:=hide ((H.out.below hbq).set (by omega))
 have HT0:Hid (Tk0B (((w.alloc (.cells #[.int .i64 0,.string ⟨#[]⟩,.int .i64 0,.int .i64 0,.int .i64 0,.int .i64 0] 90)).drewN nq).setCell ⟨q,2,none⟩ (.int .i64 ((i:Int)+1))) w.heap.size):=((heap_setCell_other _ ⟨q,2,none⟩ w.heap.size _ (by show w.heap.size≠q;omega)).trans (heap_alloc_new w _))
 clear hbq k1 k2 hfr g0 hb
 generalize ((w.alloc (.cells #[.int .i64 0,.string ⟨#[]⟩,.int .i64 0,.int .i64 0,.int .i64 0,.int .i64 0] 90)).drewN nq).setCell ⟨q,2,none⟩ (.int .i64 ((i:Int)+1))=w1 at HT1 HS1 HT0 ⊢
 obtain ⟨m,hm⟩:∃ m,m=i+1:=⟨_,rfl⟩
 rw [←hm] at HS1 hg2
 obtain ⟨b2,off2,e2,hG2⟩:=HS1.out.gls.glyph hg2
 obtain ⟨rfl,rfl⟩:b2=b∧off2=off:=by simpa [eq_comm] using e2
 obtain ⟨hq1,k0,k1,k2,k3,k4,k5,k6⟩:=HS1.out.cells
 obtain ⟨hb,g0,g1,g2,g3,g4,g5⟩:=hG2
 rw [he2] at g0
 have hfr:=HS1.out.free 2
 obtain ⟨hfl,t0,t1,t2,t3,t4,t5,f0,f1,f2,f3,f4,f5⟩:=HT0.out.cells
 have hi2:(m:Int)<(gs.length:Int):=by have:=(List.getElem?_eq_some_iff.1 hg2).1;omega
 have hne2:((m:Int) == (gs.length:Int))=false:=beq_eq_false_iff_ne.2 (by omega)
 have HM:=hide hm
 clear e2 k0 k3 k4 k5 k6 g1 g2 g3 g4 g5 hm
 go_wp2_with fail
 go_quiet (fail)
 clear k1 k2 g0 t0 t1 t2 t3 t4 t5 f0 f1 f2 f3 f4 f5 hfr hfl hb hq1
 have hbq:Below w1.heap.size w1 (w1.drewN nq):=by (repeat' first|with_reducible(first|exact Below.refl _ _|assumption|refine gdrewN ?_ _|refine Below.alloc ?_ ?_ _|refine Below.drew ?_|refine Below.setCell ?_ ?_ _)|go_size)
 replace HT1:=hide (HT1.out.trans (.of_below hbq))
 replace HS1:=hide (HS1.out.below hbq)
 replace HT0:=hide (HT0.out.below hbq)
 clear hbq
 generalize w1.drewN nq=w2 at HT1 HS1 HT0 ⊢
 generalize hf:w.heap.size=f at *
 replace hf:w.heap.size≤f:=by omega
 have hqf:q≠f:=by omega
 obtain ⟨hq1,k0,k1,k2,k3,k4,k5,k6⟩:=HS1.out.cells
 have hfr:=HS1.out.free 2
 clear k0 k1 k3 k4 k5 k6
 have hml:(m:Int)<100000000:=by omega
 obtain ⟨hfl,t0,t1,t2,t3,t4,t5,f0,f1,f2,f3,f4,f5⟩:=HT0.out.cells
 clear hne2 hg2 he2 hi hil KF
 go_wp2
 refine bodyPost_ret (v:=_) (by simp [results,Tryz.results71,go_sem,t0,t1,t2,t3,t4,t5];try rfl) rfl ⟨?_,?_,?_⟩
 ·refine H.out.of_tq (Tq.six (HT1.out.set 2 _) hf _ _ _ _ _ _) ((aaz _ _ _ hqf _ _ _ _ _ _).trans ?_) (by have:=HM.out;omega)
  rw [heap_setCell_same w2 q 2 _ _ _ HS1.out.blk]
  have:=HM.out
  simp
  omega
 ·exact Tq.six (HT1.out.set 2 _) hf _ _ _ _ _ _
 ·rw [←HU.out,←HE.out]
  rfl
set_option maxRecDepth 20000 in
set_option maxHeartbeats 1000000 in
theorem agh (w:World) (q:Nat) (s:ByteArray) (v:Value) (gs:List Gl) (i:Nat) (e:Pl) (h:Scn w q s v gs i e) (hn:gs.length≤100000000) (g:Gl) (hg:gs[i]? = some g) (c:Int) (hc:gfold g.code=c) (h0:c=33) (gn:Gl) (hg2:gs[i+1]? = some gn) (he2:gn.code≠61) :
  Calls Tryz.prog 71 #[.pointer (some ⟨q,0,none⟩)] w fun r w'=>Scn w' q s v gs (i+1) e∧Tq w w' q∧r=.returned (.tuple #[tok0,.int .i64 41]):=by
 have H:=hide h
 have hi:i<gs.length:=(List.getElem?_eq_some_iff.1 hg).1
 have hil:(i:Int)<100000000:=by omega
 obtain ⟨ao,cap,rfl⟩:=h.gls.isSlice
 obtain ⟨b,off,rfl,hG⟩:=h.gls.glyph hg
 obtain ⟨hq,k0,k1,k2,k3,k4,k5,k6⟩:=h.cells
 obtain ⟨hb,g0,g1,g2,g3,g4,g5⟩:=hG
 have hfr:=h.free 2
 have hi' : (i:Int)<(gs.length:Int):=by omega
 have KF:∀ w,Calls Tryz.prog 89 #[.int .i64 g.code] w fun e w'=>e=.returned (.int .i64 c)∧w' = w:=fun w=>by rw [←hc];exact abe w _
 subst h0
 clear h hg hc k0 k3 k4 k5 k6 g1 g2 g3 g4 g5
 unfold tok0
 go_enter Tryz.func71,Tryz.ntmps71
 go_wp2_with fail
 go_quiet ((go_at_call 89;exact Calls.quiet_of_same (KF _)))
 go_wp2_with fail
 generalize hE:Utf8.encode 33=T
 have HE:=hide ((abm (c:=33) (by omega)).symm.trans hE)
 have hTs:T.size≤10:=by rw [←HE.out,strOfNums_size];simp
 have hadd:∀ w,(Op.stringOp .add T ⟨#[61]⟩).run Tryz.prog w=.ok (.string (T ++ ⟨#[61]⟩)) w:=fun w=>run_string_add_sum (P:=Tryz.prog) w T ⟨#[61]⟩ (by show T.size+1≤_;omega)
 generalize hU:T ++ (⟨#[61]⟩:ByteArray)=U at hadd
 have HU:=hide hU
 clear hU hTs
 clear hE
 have hbq:Below w.heap.size w ((w.alloc (.cells #[.int .i64 0,.string ⟨#[]⟩,.int .i64 0,.int .i64 0,.int .i64 0,.int .i64 0] 90)).drewN nq):=by (repeat' first|with_reducible(first|exact Below.refl _ _|assumption|refine gdrewN ?_ _|refine Below.alloc ?_ ?_ _|refine Below.drew ?_|refine Below.setCell ?_ ?_ _)|go_size)
 have HT1:=hide ((Tq.of_below (q:=q) hbq).set 2 (.int .i64 ((i:Int)+1)))
 have HS1:=hide ((H.out.below hbq).set (by omega))
 have HT0:Hid (Tk0B (((w.alloc (.cells #[.int .i64 0,.string ⟨#[]⟩,.int .i64 0,.int .i64 0,.int .i64 0,.int .i64 0] 90)).drewN nq).setCell ⟨q,2,none⟩ (.int .i64 ((i:Int)+1))) w.heap.size):=((heap_setCell_other _ ⟨q,2,none⟩ w.heap.size _ (by show w.heap.size≠q;omega)).trans (heap_alloc_new w _))
 clear hbq k1 k2 hfr g0 hb
 generalize ((w.alloc (.cells #[.int .i64 0,.string ⟨#[]⟩,.int .i64 0,.int .i64 0,.int .i64 0,.int .i64 0] 90)).drewN nq).setCell ⟨q,2,none⟩ (.int .i64 ((i:Int)+1))=w1 at HT1 HS1 HT0 ⊢
 obtain ⟨m,hm⟩:∃ m,m=i+1:=⟨_,rfl⟩
 rw [←hm] at HS1 hg2
 obtain ⟨b2,off2,e2,hG2⟩:=HS1.out.gls.glyph hg2
 obtain ⟨rfl,rfl⟩:b2=b∧off2=off:=by simpa [eq_comm] using e2
 obtain ⟨hq1,k0,k1,k2,k3,k4,k5,k6⟩:=HS1.out.cells
 obtain ⟨hb,g0,g1,g2,g3,g4,g5⟩:=hG2
 have hne61:((gn.code:Int) != 61)=true:=by simp;omega
 have hfr:=HS1.out.free 2
 obtain ⟨hfl,t0,t1,t2,t3,t4,t5,f0,f1,f2,f3,f4,f5⟩:=HT0.out.cells
 have hi2:(m:Int)<(gs.length:Int):=by have:=(List.getElem?_eq_some_iff.1 hg2).1;omega
 have hne2:((m:Int) == (gs.length:Int))=false:=beq_eq_false_iff_ne.2 (by omega)
 have HM:=hide hm
 clear e2 k0 k3 k4 k5 k6 g1 g2 g3 g4 g5 hm
 go_wp2_with fail
 go_quiet (fail)
 clear k1 k2 g0 t0 t1 t2 t3 t4 t5 f0 f1 f2 f3 f4 f5 hfr hfl hb hq1
 have hbq:Below w1.heap.size w1 (w1.drewN nq):=by (repeat' first|with_reducible(first|exact Below.refl _ _|assumption|refine gdrewN ?_ _|refine Below.alloc ?_ ?_ _|refine Below.drew ?_|refine Below.setCell ?_ ?_ _)|go_size)
 replace HT1:=hide (HT1.out.trans (.of_below hbq))
 replace HS1:=hide (HS1.out.below hbq)
 replace HT0:=hide (HT0.out.below hbq)
 clear hbq
 generalize w1.drewN nq=w2 at HT1 HS1 HT0 ⊢
 generalize hf:w.heap.size=f at *
 replace hf:w.heap.size≤f:=by omega
 have hqf:q≠f:=by omega
 obtain ⟨hq1,k0,k1,k2,k3,k4,k5,k6⟩:=HS1.out.cells
 have hfr:=HS1.out.free 2
 clear k0 k1 k3 k4 k5 k6
 have hml:(m:Int)<100000000:=by omega
 obtain ⟨hfl,t0,t1,t2,t3,t4,t5,f0,f1,f2,f3,f4,f5⟩:=HT0.out.cells
 clear hne2 hg2 he2 hne61 hi hil KF
 go_wp2
 refine bodyPost_ret (v:=_) (by simp [results,Tryz.results71,go_sem,t0,t1,t2,t3,t4,t5];try rfl) rfl ⟨?_,?_,?_⟩
 ·refine H.out.of_tq (Tq.six HT1.out hf _ _ _ _ _ _) ((aaz _ _ _ hqf _ _ _ _ _ _).trans ?_) (by have:=HM.out;omega)
  rw [HS1.out.blk,HM.out]
 ·exact Tq.six HT1.out hf _ _ _ _ _ _
 ·rfl
set_option maxRecDepth 20000 in
set_option maxHeartbeats 1000000 in
theorem ag2 (w:World) (q:Nat) (s:ByteArray) (v:Value) (gs:List Gl) (i:Nat) (e:Pl) (h:Scn w q s v gs i e) (hn:gs.length≤100000000) (g:Gl) (hg:gs[i]? = some g) (c:Int) (hc:gfold g.code=c) (h0:c=33) (hg2:gs.length≤i+1) :
  Calls Tryz.prog 71 #[.pointer (some ⟨q,0,none⟩)] w fun r w'=>Scn w' q s v gs (i+1) e∧Tq w w' q∧r=.returned (.tuple #[tok0,.int .i64 41]):=by
 have H:=hide h
 have hi:i<gs.length:=(List.getElem?_eq_some_iff.1 hg).1
 have hil:(i:Int)<100000000:=by omega
 obtain ⟨ao,cap,rfl⟩:=h.gls.isSlice
 obtain ⟨b,off,rfl,hG⟩:=h.gls.glyph hg
 obtain ⟨hq,k0,k1,k2,k3,k4,k5,k6⟩:=h.cells
 obtain ⟨hb,g0,g1,g2,g3,g4,g5⟩:=hG
 have hfr:=h.free 2
 have hi' : (i:Int)<(gs.length:Int):=by omega
 have KF:∀ w,Calls Tryz.prog 89 #[.int .i64 g.code] w fun e w'=>e=.returned (.int .i64 c)∧w' = w:=fun w=>by rw [←hc];exact abe w _
 subst h0
 clear h hg hc k0 k3 k4 k5 k6 g1 g2 g3 g4 g5
 unfold tok0
 go_enter Tryz.func71,Tryz.ntmps71
 go_wp2_with fail
 go_quiet ((go_at_call 89;exact Calls.quiet_of_same (KF _)))
 go_wp2_with fail
 generalize hE:Utf8.encode 33=T
 have HE:=hide ((abm (c:=33) (by omega)).symm.trans hE)
 have hTs:T.size≤10:=by rw [←HE.out,strOfNums_size];simp
 have hadd:∀ w,(Op.stringOp .add T ⟨#[61]⟩).run Tryz.prog w=.ok (.string (T ++ ⟨#[61]⟩)) w:=fun w=>run_string_add_sum (P:=Tryz.prog) w T ⟨#[61]⟩ (by show T.size+1≤_;omega)
 generalize hU:T ++ (⟨#[61]⟩:ByteArray)=U at hadd
 have HU:=hide hU
 clear hU hTs
 clear hE
 have hbq:Below w.heap.size w ((w.alloc (.cells #[.int .i64 0,.string ⟨#[]⟩,.int .i64 0,.int .i64 0,.int .i64 0,.int .i64 0] 90)).drewN nq):=by (repeat' first|with_reducible(first|exact Below.refl _ _|assumption|refine gdrewN ?_ _|refine Below.alloc ?_ ?_ _|refine Below.drew ?_|refine Below.setCell ?_ ?_ _)|go_size)
 have HT1:=hide ((Tq.of_below (q:=q) hbq).set 2 (.int .i64 ((i:Int)+1)))
 have HS1:=hide ((H.out.below hbq).set (by omega))
 have HT0:Hid (Tk0B (((w.alloc (.cells #[.int .i64 0,.string ⟨#[]⟩,.int .i64 0,.int .i64 0,.int .i64 0,.int .i64 0] 90)).drewN nq).setCell ⟨q,2,none⟩ (.int .i64 ((i:Int)+1))) w.heap.size):=((heap_setCell_other _ ⟨q,2,none⟩ w.heap.size _ (by show w.heap.size≠q;omega)).trans (heap_alloc_new w _))
 clear hbq k1 k2 hfr g0 hb
 generalize ((w.alloc (.cells #[.int .i64 0,.string ⟨#[]⟩,.int .i64 0,.int .i64 0,.int .i64 0,.int .i64 0] 90)).drewN nq).setCell ⟨q,2,none⟩ (.int .i64 ((i:Int)+1))=w1 at HT1 HS1 HT0 ⊢
 obtain ⟨m,hm⟩:∃ m,m=i+1:=⟨_,rfl⟩
 rw [←hm] at HS1
 obtain ⟨hq1,k0,k1,k2,k3,k4,k5,k6⟩:=HS1.out.cells
 obtain ⟨hfl,t0,t1,t2,t3,t4,t5,f0,f1,f2,f3,f4,f5⟩:=HT0.out.cells
 have hne2:((m:Int) == (gs.length:Int))=true:=by simp;omega
 have HM:=hide hm
 clear k0 k3 k4 k5 k6 hm
 go_wp2_with fail
 go_quiet (fail)
 clear k1 k2 t0 t1 t2 t3 t4 t5 f0 f1 f2 f3 f4 f5 hfl hq1
 have hbq:Below w1.heap.size w1 (w1.drewN nq):=by (repeat' first|with_reducible(first|exact Below.refl _ _|assumption|refine gdrewN ?_ _|refine Below.alloc ?_ ?_ _|refine Below.drew ?_|refine Below.setCell ?_ ?_ _)|go_size)
 replace HT1:=hide (HT1.out.trans (.of_below hbq))
 replace HS1:=hide (HS1.out.below hbq)
 replace HT0:=hide (HT0.out.below hbq)
 clear hbq
 generalize w1.drewN nq=w2 at HT1 HS1 HT0 ⊢
 generalize hf:w.heap.size=f at *
 replace hf:w.heap.size≤f:=by omega
 have hqf:q≠f:=by omega
 obtain ⟨hq1,k0,k1,k2,k3,k4,k5,k6⟩:=HS1.out.cells
 have hfr:=HS1.out.free 2
 clear k0 k1 k3 k4 k5 k6
 have hml:(m:Int)<100000001:=by have:=HM.out;omega
 obtain ⟨hfl,t0,t1,t2,t3,t4,t5,f0,f1,f2,f3,f4,f5⟩:=HT0.out.cells
 clear hne2 hi hil KF
 go_wp2
 refine bodyPost_ret (v:=_) (by simp [results,Tryz.results71,go_sem,t0,t1,t2,t3,t4,t5];try rfl) rfl ⟨?_,?_,?_⟩
 ·refine H.out.of_tq (Tq.six HT1.out hf _ _ _ _ _ _) ((aaz _ _ _ hqf _ _ _ _ _ _).trans ?_) (by have:=HM.out;omega)
  rw [HS1.out.blk,HM.out]
 ·exact Tq.six HT1.out hf _ _ _ _ _ _
 ·rfl
inductive TO where
 | bad (k:Int):TO
 | ok (kind:Int) (text:ByteArray) (rest:List Gl):TO
def signS (c:Int) (r:List Gl):TO :=
 if c=8788 then .ok 3 (strOfNums [58,61]) r
 else if c=8800 then .ok 3 (strOfNums [33,61]) r
 else if c=58∨c=33 then (match r with | []=>.bad 41 | h :: t=>if h.code=61 then .ok 3 (strOfNums [c,61]) t else .bad 41)
 else .ok 3 (strOfNums [c]) r
def TokR (s:ByteArray) (e:Pl) (g:Gl) (r:List Gl) (o:TO):Prop :=
 if gcls g.code=2 then
  o=if 16<(g :: r).length - ((g :: r).dropWhile (inC [2,3,4])).length then .bad 42 else .ok 1 (s.extract g.pl.b (plf ((g :: r).dropWhile (inC [2,3,4])) e).b) ((g :: r).dropWhile (inC [2,3,4]))
 else if gcls g.code=3 then
  ∃ n ds,IsLen (dval (bytesOf (s.extract g.pl.b (plf ((g :: r).dropWhile (inC [3])) e).b))) n∧IsDec ds (dval (bytesOf (s.extract g.pl.b (plf ((g :: r).dropWhile (inC [3])) e).b)))∧o=if 32<n then .bad 2 else .ok 2 (strOfNums ds) ((g :: r).dropWhile (inC [3]))
 else if gcls g.code=5 then o=signS (gfold g.code) r
 else o=.bad 41
theorem aev {s:ByteArray} {e:Pl} {g:Gl} {r:List Gl} (h:gcls g.code=2):TokR s e g r (if 16<(g :: r).length - ((g :: r).dropWhile (inC [2,3,4])).length then .bad 42 else .ok 1 (s.extract g.pl.b (plf ((g :: r).dropWhile (inC [2,3,4])) e).b) ((g :: r).dropWhile (inC [2,3,4]))):=by
 unfold TokR
 rw [if_pos h]
theorem ajb {s:ByteArray} {e:Pl} {g:Gl} {r:List Gl} {n:Nat} {ds:List Int} (h:gcls g.code=3) (h1:IsLen (dval (bytesOf (s.extract g.pl.b (plf ((g :: r).dropWhile (inC [3])) e).b))) n) (h2:IsDec ds (dval (bytesOf (s.extract g.pl.b (plf ((g :: r).dropWhile (inC [3])) e).b)))):TokR s e g r (if 32<n then .bad 2 else .ok 2 (strOfNums ds) ((g :: r).dropWhile (inC [3]))):=by
 unfold TokR
 rw [if_neg (by omega),if_pos h]
 exact ⟨n,ds,h1,h2,rfl⟩
theorem acg {s:ByteArray} {e:Pl} {g:Gl} {r:List Gl} (h:gcls g.code=5):TokR s e g r (signS (gfold g.code) r):=by
 unfold TokR
 rw [if_neg (by omega),if_neg (by omega),if_pos h]
theorem ana {s:ByteArray} {e:Pl} {g:Gl} {r:List Gl} (h2:gcls g.code≠2) (h3:gcls g.code≠3) (h5:gcls g.code≠5):TokR s e g r (.bad 41):=by
 unfold TokR
 rw [if_neg h2,if_neg h3,if_neg h5]
theorem TokR.one {s:ByteArray} {e:Pl} {g:Gl} {r:List Gl} {o o' : TO} (h:TokR s e g r o) (h' : TokR s e g r o'):o=o' := by
 unfold TokR at h h'
 by_cases c2:gcls g.code=2
 ·rw [if_pos c2] at h h'
  rw [h,h']
 ·rw [if_neg c2] at h h'
  by_cases c3:gcls g.code=3
  ·rw [if_pos c3] at h h'
   obtain ⟨n,ds,h1,h2,h3⟩:=h
   obtain ⟨n',ds',h1',h2',h3'⟩:=h'
   rw [h3,h3',apc h1 h1',aoe h2 h2']
  ·rw [if_neg c3] at h h'
   by_cases c5:gcls g.code=5
   ·rw [if_pos c5] at h h'
    rw [h,h']
   ·rw [if_neg c5] at h h'
    rw [h,h']
structure Tk where
 kind:Int
 text:ByteArray
 pl:Pl
inductive SO where
 | bad (k:Int) (p:Pl):SO
 | ok (l:List Tk):SO
def SO.pre (t:Tk):SO→SO
 | .bad k p=>.bad k p
 | .ok l=>.ok (t :: l)
def SO.pres (ts:List Tk):SO→SO
 | .bad k p=>.bad k p
 | .ok l=>.ok (ts ++ l)
inductive ScanR (s:ByteArray) (e:Pl):List Gl→SO→Prop
 | done (r:List Gl) (h:skp false r = []) (hb:s.size≤e.b):ScanR s e r (.ok [⟨0,⟨#[]⟩,e⟩])
 | rune (r:List Gl) (h:skp false r = []) (hb:e.b<s.size):ScanR s e r (.bad 40 e)
 | bad (r:List Gl) (g:Gl) (t:List Gl) (k:Int) (h:skp false r=g :: t) (ht:TokR s e g t (.bad k)):ScanR s e r (.bad k g.pl)
 | tok (r:List Gl) (g:Gl) (t:List Gl) (kind:Int) (text:ByteArray) (rest:List Gl) (o:SO) (h:skp false r=g :: t) (ht:TokR s e g t (.ok kind text rest)) (hr:ScanR s e rest o):ScanR s e r (o.pre ⟨kind,text,g.pl⟩)
theorem ScanR.one {s:ByteArray} {e:Pl} {r:List Gl} {o o' : SO} (h:ScanR s e r o) (h' : ScanR s e r o'):o=o' := by
 induction h generalizing o' with
 | done r h hb =>
  cases h' with
  | done _ _ _=>rfl
  | rune _ _ hb'=>omega
  | bad _ g t k h2 _=>rw [h] at h2;cases h2
  | tok _ g t _ _ _ _ h2 _ _=>rw [h] at h2;cases h2
 | rune r h hb =>
  cases h' with
  | done _ _ hb'=>omega
  | rune _ _ _=>rfl
  | bad _ g t k h2 _=>rw [h] at h2;cases h2
  | tok _ g t _ _ _ _ h2 _ _=>rw [h] at h2;cases h2
 | bad r g t k h ht =>
  cases h' with
  | done _ h2 _=>rw [h] at h2;cases h2
  | rune _ h2 _=>rw [h] at h2;cases h2
  | bad _ g' t' k' h2 ht' =>
   rw [h] at h2
   obtain ⟨rfl,rfl⟩:=List.cons.inj h2
   have:=ht.one ht'
   injection this with e1
   rw [e1]
  | tok _ g' t' _ _ _ _ h2 ht' _ =>
   rw [h] at h2
   obtain ⟨rfl,rfl⟩:=List.cons.inj h2
   have:=ht.one ht'
   cases this
 | tok r g t kind text rest o h ht hr ih =>
  cases h' with
  | done _ h2 _=>rw [h] at h2;cases h2
  | rune _ h2 _=>rw [h] at h2;cases h2
  | bad _ g' t' k' h2 ht' =>
   rw [h] at h2
   obtain ⟨rfl,rfl⟩:=List.cons.inj h2
   have:=ht.one ht'
   cases this
  | tok _ g' t' _ _ _ _ h2 ht' hr' =>
   rw [h] at h2
   obtain ⟨rfl,rfl⟩:=List.cons.inj h2
   have:=ht.one ht'
   injection this with e1 e2 e3
   subst e1 e2 e3
   rw [ih hr']
def TokO (w w' : World) (q:Nat) (s:ByteArray) (v:Value) (gs:List Gl) (i:Nat) (e:Pl) (r:Ending):TO→Prop
 | .bad k=>k≠0∧r=.returned (.tuple #[tok0,.int .i64 k])∧Tq w w' q
 | .ok kind text rest=>r=.returned (.tuple #[.agg #[.int .i64 kind,.string text,.int .i64 0,.int .i64 0,.int .i64 0,.int .i64 0],.int .i64 0])∧Tq w w' q∧∃ j,i<j∧gs.drop j=rest∧Scn w' q s v gs j e
structure TokV (w w' : World) (q:Nat) (s:ByteArray) (v:Value) (gs:List Gl) (i:Nat) (e:Pl) (kd:Int) (tx:ByteArray) (k:Int) (o:TO):Prop where
 out:TokO w w' q s v gs i e (.returned (.tuple #[.agg #[.int .i64 kd,.string tx,.int .i64 0,.int .i64 0,.int .i64 0,.int .i64 0],.int .i64 k])) o
theorem TokO.v {w w' : World} {q:Nat} {s:ByteArray} {v:Value} {gs:List Gl} {i:Nat} {e:Pl} {r:Ending} {o:TO} (h:TokO w w' q s v gs i e r o):∃ (kd:Int) (tx:ByteArray) (k:Int),r=.returned (.tuple #[.agg #[.int .i64 kd,.string tx,.int .i64 0,.int .i64 0,.int .i64 0,.int .i64 0],.int .i64 k])∧TokV w w' q s v gs i e kd tx k o:=by
 cases o with
 | bad k=>exact ⟨_,_,_,h.2.1,⟨h.1,rfl,h.2.2⟩⟩
 | ok kind text rest=>exact ⟨_,_,_,h.1,⟨rfl,h.2⟩⟩
theorem TokV.six {w w1 w' : World} {q f:Nat} {s:ByteArray} {v:Value} {gs:List Gl} {i:Nat} {e:Pl} {kd:Int} {tx:ByteArray} {k:Int} {o:TO} (h:TokV w1 w' q s v gs i e kd tx k o) (h0:Scn w q s v gs i e) (hb:Below w.heap.size w w1) (hf:w.heap.size≤f) (hqf:q≠f) (u0 u1 u2 u3 u4 u5:Value) :
  TokO w ((((((w'.setCell ⟨f,0,none⟩ u0).setCell ⟨f,1,none⟩ u1).setCell ⟨f,2,none⟩ u2).setCell ⟨f,3,none⟩ u3).setCell ⟨f,4,none⟩ u4).setCell ⟨f,5,none⟩ u5) q s v gs i e (.returned (.tuple #[.agg #[.int .i64 kd,.string tx,.int .i64 0,.int .i64 0,.int .i64 0,.int .i64 0],.int .i64 k])) o:=by
 obtain ⟨h⟩:=h
 cases o with
 | bad c=>exact ⟨h.1,h.2.1,((Tq.of_below hb).trans h.2.2).six hf _ _ _ _ _ _⟩
 | ok kind text rest =>
  obtain ⟨h1,h2,j,h3,h4,h5⟩:=h
  exact ⟨h1,((Tq.of_below hb).trans h2).six hf _ _ _ _ _ _,j,h3,h4,h0.of_tq (((Tq.of_below hb).trans h2).six hf _ _ _ _ _ _) ((aaz _ _ _ hqf _ _ _ _ _ _).trans h5.blk) h5.le⟩
theorem ac3 {α:Type} (p:α→Bool) (l:List α):(l.dropWhile p).length≤l.length:=by
 induction l with
 | nil=>simp
 | cons a l ih =>
  by_cases h:p a=true
  ·rw [List.dropWhile_cons_of_pos h];simp;omega
  ·rw [List.dropWhile_cons_of_neg h];simp
theorem aew {α:Type} {p:α→Bool} {a:α} {l:List α} (h:p a=true):((a :: l).dropWhile p).length<(a :: l).length:=by
 rw [List.dropWhile_cons_of_pos h]
 have:=ac3 p l
 simp
 omega
theorem alu {gs:List Gl} {i j:Nat} (hi:i<gs.length) (h:(gs.drop j).length<(gs.drop i).length):i<j:=by
 simp at h
 omega
theorem awa (w:World) (q:Nat) (s:ByteArray) (v:Value) (gs:List Gl) (i:Nat) (e:Pl) (h:Scn w q s v gs i e) (hn:gs.length≤100000000) (hQ:Snd s pl0 gs e) (hs:s.size≤4096) (g:Gl) (hd:gs.drop i=g :: gs.drop (i+1)) (hc:gcls g.code=2) :
  Calls Tryz.prog 69 #[.pointer (some ⟨q,0,none⟩)] w fun r w'=>∃ o,TokR s e g (gs.drop (i+1)) o∧TokO w w' q s v gs i e r o:=by
 refine (ar9 w q s v gs i e h hn hQ (by omega)).mono ?_
 rintro r w' ⟨j,hij,hdj,hS,hT,hr⟩
 have hlt:i<gs.length:=by
  apply Classical.byContradiction
  intro hh
  rw [List.drop_eq_nil_of_le (by omega)] at hd
  cases hd
 have hjl:=hS.le
 have hl:(g :: gs.drop (i+1)).length - ((g :: gs.drop (i+1)).dropWhile (inC [2,3,4])).length=j - i:=by
  rw [←hd,←hdj]
  simp
  omega
 have hj:i<j:=by
  refine alu hlt ?_
  rw [hdj,hd]
  exact aew (by simp [inC,hc])
 refine ⟨_,aev hc,?_⟩
 rw [hl]
 rw [hd] at hdj
 rcases hr with ⟨h1,rfl⟩ | ⟨h1,rfl⟩
 ·rw [if_pos h1];exact ⟨by omega,rfl,hT⟩
 ·rw [if_neg (by omega),hd,hdj]
  exact ⟨rfl,hT,j,hj,hdj,hS⟩
theorem asb (w:World) (q:Nat) (s:ByteArray) (v:Value) (gs:List Gl) (i:Nat) (e:Pl) (h:Scn w q s v gs i e) (hn:gs.length≤100000000) (hQ:Snd s pl0 gs e) (hs:s.size≤4096) (g:Gl) (hd:gs.drop i=g :: gs.drop (i+1)) (hc:gcls g.code=3) :
  Calls Tryz.prog 70 #[.pointer (some ⟨q,0,none⟩)] w fun r w'=>∃ o,TokR s e g (gs.drop (i+1)) o∧TokO w w' q s v gs i e r o:=by
 have hlt:i<gs.length:=by
  apply Classical.byContradiction
  intro hh
  rw [List.drop_eq_nil_of_le (by omega)] at hd
  cases hd
 have hin:inC [3] g=true:=by simp [inC,hc]
 refine (am8 w q s v gs i e h hn hQ hs ?_).mono ?_
 ·have hD:=hQ.drop acx (Nat.zero_le _) i h.le
  rw [hd,List.dropWhile_cons_of_pos hin]
  obtain ⟨m,hm,hml⟩:∃ m,(gs.drop (i+1)).dropWhile (inC [3])=(gs.drop i).drop m∧1≤m∧m≤(gs.drop i).length:=by
   refine ⟨(gs.drop i).length - ((gs.drop (i+1)).dropWhile (inC [3])).length,?_,?_,?_⟩
   ·have key:∀ (l:List Gl),l.dropWhile (inC [3])=l.drop (l.length - (l.dropWhile (inC [3])).length):=by
     intro l
     induction l with
     | nil=>rfl
     | cons a l ih =>
      by_cases ha:inC [3] a=true
      ·rw [List.dropWhile_cons_of_pos ha]
       have:=ac3 (inC [3]) l
       rw [show (a :: l).length - (l.dropWhile (inC [3])).length=(l.length - (l.dropWhile (inC [3])).length)+1 from by simp;omega,List.drop_succ_cons]
       exact ih
      ·rw [List.dropWhile_cons_of_neg ha];simp
    have:=key (gs.drop i)
    rw [hd,List.dropWhile_cons_of_pos hin] at this
    rw [hd]
    exact this
   ·have:=ac3 (inC [3]) (gs.drop (i+1));simp at this ⊢;omega
   ·omega
  have h2:=hD.1.drop hD.2.1 hD.2.2.2.1 m hml.2
  rw [hm]
  rw [hd] at h2 ⊢
  have h3:=h2.2.2.1
  omega
 rintro r w' ⟨j,hij,hdj,hS,hT,n,ds,hn1,hds,hr⟩
 have hj:i<j:=by
  refine alu hlt ?_
  rw [hdj,hd]
  exact aew hin
 rw [hd] at hdj hn1 hds
 rw [hdj] at hn1 hds
 refine ⟨_,ajb hc hn1 hds,?_⟩
 rcases hr with ⟨h1,rfl⟩ | ⟨h1,rfl⟩
 ·rw [if_pos h1];exact ⟨by omega,rfl,hT⟩
 ·rw [if_neg (by omega)]
  exact ⟨rfl,hT,j,hj,hdj,hS⟩
theorem aur {g:Gl} (h:gcls g.code=5):gsign (gfold g.code):=by
 apply Classical.byContradiction
 intro hn
 unfold gcls at h
 repeat' split at h
 all_goals first | contradiction | omega
theorem awb (w:World) (q:Nat) (s:ByteArray) (v:Value) (gs:List Gl) (i:Nat) (e:Pl) (h:Scn w q s v gs i e) (hn:gs.length≤100000000) (g:Gl) (hg:gs[i]? = some g) (hc:gcls g.code=5) :
  Calls Tryz.prog 71 #[.pointer (some ⟨q,0,none⟩)] w fun r w'=>∃ o,TokR s e g (gs.drop (i+1)) o∧TokO w w' q s v gs i e r o:=by
 have hs:=aur hc
 suffices H:Calls Tryz.prog 71 #[.pointer (some ⟨q,0,none⟩)] w fun r w'=>TokO w w' q s v gs i e r (signS (gfold g.code) (gs.drop (i+1))) from H.mono (fun r w' h=>⟨_,acg hc,h⟩)
 generalize hcc:gfold g.code=c at hs ⊢
 unfold signS
 by_cases c1:c=8788
 ·rw [if_pos c1]
  refine (aja w q s v gs i e h hn g hg c hcc c1).mono ?_
  rintro r w' ⟨hS,hT,rfl⟩
  exact ⟨rfl,hT,i+1,by omega,rfl,hS⟩
 ·rw [if_neg c1]
  by_cases c2:c=8800
  ·rw [if_pos c2]
   refine (akv w q s v gs i e h hn g hg c hcc c2).mono ?_
   rintro r w' ⟨hS,hT,rfl⟩
   exact ⟨rfl,hT,i+1,by omega,rfl,hS⟩
  ·rw [if_neg c2]
   by_cases c3:c=58∨c=33
   ·rw [if_pos c3]
    by_cases hl:i+1<gs.length
    ·rw [List.drop_eq_getElem_cons hl]
     simp only
     have hg2:gs[i+1]? = some (gs[i+1]'hl):=List.getElem?_eq_getElem hl
     by_cases h61:(gs[i+1]'hl).code=61
     ·rw [if_pos h61]
      rcases c3 with c3 | c3
      ·rw [c3] at hcc ⊢
       refine (am9 w q s v gs i e h hn g hg 58 hcc rfl _ hg2 h61).mono ?_
       rintro r w' ⟨hS,hT,rfl⟩
       exact ⟨rfl,hT,i+2,by omega,rfl,hS⟩
      ·rw [c3] at hcc ⊢
       refine (aps w q s v gs i e h hn g hg 33 hcc rfl _ hg2 h61).mono ?_
       rintro r w' ⟨hS,hT,rfl⟩
       exact ⟨rfl,hT,i+2,by omega,rfl,hS⟩
     ·rw [if_neg h61]
      rcases c3 with c3 | c3
      ·refine (afx w q s v gs i e h hn g hg c hcc c3 _ hg2 h61).mono ?_
       rintro r w' ⟨hS,hT,rfl⟩
       exact ⟨by omega,rfl,hT⟩
      ·refine (agh w q s v gs i e h hn g hg c hcc c3 _ hg2 h61).mono ?_
       rintro r w' ⟨hS,hT,rfl⟩
       exact ⟨by omega,rfl,hT⟩
    ·rw [List.drop_eq_nil_of_le (by omega)]
     simp only
     rcases c3 with c3 | c3
     ·refine (agf w q s v gs i e h hn g hg c hcc c3 (by omega)).mono ?_
      rintro r w' ⟨hS,hT,rfl⟩
      exact ⟨by omega,rfl,hT⟩
     ·refine (ag2 w q s v gs i e h hn g hg c hcc c3 (by omega)).mono ?_
      rintro r w' ⟨hS,hT,rfl⟩
      exact ⟨by omega,rfl,hT⟩
   ·rw [if_neg c3]
    refine (asa w q s v gs i e h hn g hg c hcc ?_ (by omega) (by omega)).mono ?_
    ·unfold gsign at hs;omega
    rintro r w' ⟨hS,hT,rfl⟩
    exact ⟨rfl,hT,i+1,by omega,rfl,hS⟩
theorem TokV.tq {w w' : World} {q:Nat} {s:ByteArray} {v:Value} {gs:List Gl} {i:Nat} {e:Pl} {kd:Int} {tx:ByteArray} {k:Int} {o:TO} (h:TokV w w' q s v gs i e kd tx k o):Tq w w' q:=by
 obtain ⟨h⟩:=h
 cases o with
 | bad c=>exact h.2.2
 | ok kind text rest=>exact h.2.1
set_option maxRecDepth 20000 in
set_option maxHeartbeats 1000000 in
theorem apu (w:World) (q:Nat) (s:ByteArray) (v:Value) (gs:List Gl) (i:Nat) (e:Pl) (h:Scn w q s v gs i e) (hn:gs.length≤100000000) (hQ:Snd s pl0 gs e) (hs:s.size≤4096) (g:Gl) (hg:gs[i]? = some g) :
  Calls Tryz.prog 58 #[.pointer (some ⟨q,0,none⟩)] w fun r w'=>∃ o,TokR s e g (gs.drop (i+1)) o∧TokO w w' q s v gs i e r o:=by
 have H:=hide h
 have hi:i<gs.length:=(List.getElem?_eq_some_iff.1 hg).1
 have hd:gs.drop i=g :: gs.drop (i+1):=by
  rw [List.drop_eq_getElem_cons hi]
  congr 1
  rw [List.getElem?_eq_getElem hi] at hg
  exact Option.some.inj hg
 have HD:=hide hd
 obtain ⟨ao,cap,rfl⟩:=h.gls.isSlice
 obtain ⟨b,off,rfl,hG⟩:=h.gls.glyph hg
 obtain ⟨hq,k0,k1,k2,k3,k4,k5,k6⟩:=h.cells
 obtain ⟨hb,g0,g1,g2,g3,g4,g5⟩:=hG
 have hi' : (i:Int)<(gs.length:Int):=by omega
 have HGI:=hide hg
 clear h k0 k3 k4 k5 k6 g0 g2 g3 g4 g5 hd hg
 go_enter Tryz.func58,Tryz.ntmps58
 go_wp2_with fail
 go_quiet (fail)
 have hbq:Below w.heap.size w ((w.alloc (.cells #[.int .i64 0,.string ⟨#[]⟩,.int .i64 0,.int .i64 0,.int .i64 0,.int .i64 0] 90)).drewN nq):=by (repeat' first|with_reducible(first|exact Below.refl _ _|assumption|refine gdrewN ?_ _|refine Below.alloc ?_ ?_ _|refine Below.drew ?_|refine Below.setCell ?_ ?_ _)|go_size)
 have HB:=hide hbq
 have HS1:=hide (H.out.below hbq)
 have HT1:Hid (Tk0B ((w.alloc (.cells #[.int .i64 0,.string ⟨#[]⟩,.int .i64 0,.int .i64 0,.int .i64 0,.int .i64 0] 90)).drewN nq) w.heap.size):=heap_alloc_new w _
 clear hbq k1 k2 g1 hb hi'
 generalize (w.alloc (.cells #[.int .i64 0,.string ⟨#[]⟩,.int .i64 0,.int .i64 0,.int .i64 0,.int .i64 0] 90)).drewN nq=w1 at HB HS1 HT1 ⊢
 generalize hf:w.heap.size=f at *
 have hqf:q≠f:=by omega
 have hfq:f≠q:=by omega
 replace HB:Hid (Below w.heap.size w w1):=by rw [hf];exact HB
 replace hf:w.heap.size≤f:=by omega
 clear hq
 by_cases hc2:gcls g.code=2
 ·have n2:(gcls g.code == 2)=true:=by rw [hc2];rfl
  go_wp2_with fail
  refine (awa _ q s _ gs i e HS1.out hn hQ hs g HD.out hc2).mono ?_
  rintro r w2 ⟨o,ho,hO⟩
  obtain ⟨kd,tx,k,rfl,hV⟩:=hO.v
  have HV:=hide hV
  have HR:=hide ho
  have HT0:=hide (HT1.out.tq (hV.tq) hfq)
  clear hO hV ho
  obtain ⟨hfl,t0,t1,t2,t3,t4,t5,f0,f1,f2,f3,f4,f5⟩:=HT0.out.cells
  go_wp2
  refine bodyPost_ret (v:=_) (by simp [results,Tryz.results58,go_sem,t0,t1,t2,t3,t4,t5];try rfl) rfl ⟨o,HR.out,?_⟩
  exact HV.out.six H.out HB.out hf hqf _ _ _ _ _ _
 by_cases hc3:gcls g.code=3
 ·have n2:(gcls g.code == 2)=false:=beq_eq_false_iff_ne.2 hc2
  have n3:(gcls g.code == 3)=true:=by rw [hc3];rfl
  go_wp2_with fail
  refine (asb _ q s _ gs i e HS1.out hn hQ hs g HD.out hc3).mono ?_
  rintro r w2 ⟨o,ho,hO⟩
  obtain ⟨kd,tx,k,rfl,hV⟩:=hO.v
  have HV:=hide hV
  have HR:=hide ho
  have HT0:=hide (HT1.out.tq (hV.tq) hfq)
  clear hO hV ho
  obtain ⟨hfl,t0,t1,t2,t3,t4,t5,f0,f1,f2,f3,f4,f5⟩:=HT0.out.cells
  go_wp2
  refine bodyPost_ret (v:=_) (by simp [results,Tryz.results58,go_sem,t0,t1,t2,t3,t4,t5];try rfl) rfl ⟨o,HR.out,?_⟩
  exact HV.out.six H.out HB.out hf hqf _ _ _ _ _ _
 by_cases hc5:gcls g.code=5
 ·have n2:(gcls g.code == 2)=false:=beq_eq_false_iff_ne.2 hc2
  have n3:(gcls g.code == 3)=false:=beq_eq_false_iff_ne.2 hc3
  have n5:(gcls g.code == 5)=true:=by rw [hc5];rfl
  go_wp2_with fail
  refine (awb _ q s _ gs i e HS1.out hn g HGI.out hc5).mono ?_
  rintro r w2 ⟨o,ho,hO⟩
  obtain ⟨kd,tx,k,rfl,hV⟩:=hO.v
  have HV:=hide hV
  have HR:=hide ho
  have HT0:=hide (HT1.out.tq (hV.tq) hfq)
  clear hO hV ho
  obtain ⟨hfl,t0,t1,t2,t3,t4,t5,f0,f1,f2,f3,f4,f5⟩:=HT0.out.cells
  go_wp2
  refine bodyPost_ret (v:=_) (by simp [results,Tryz.results58,go_sem,t0,t1,t2,t3,t4,t5];try rfl) rfl ⟨o,HR.out,?_⟩
  exact HV.out.six H.out HB.out hf hqf _ _ _ _ _ _
 ·have n2:(gcls g.code == 2)=false:=beq_eq_false_iff_ne.2 hc2
  have n3:(gcls g.code == 3)=false:=beq_eq_false_iff_ne.2 hc3
  have n5:(gcls g.code == 5)=false:=beq_eq_false_iff_ne.2 hc5
  obtain ⟨hfl,t0,t1,t2,t3,t4,t5,f0,f1,f2,f3,f4,f5⟩:=HT1.out.cells
  go_wp2
  refine bodyPost_ret (v:=_) (by simp [results,Tryz.results58,go_sem,t0,t1,t2,t3,t4,t5];try rfl) rfl ⟨_,ana hc2 hc3 hc5,by omega,rfl,(Tq.of_below HB.out).six hf _ _ _ _ _ _⟩
end Lm
end Go.Proofs.YtgclhjjmleiggaaGreatDoor
namespace Go.Proofs.YtgclhjjmleiggaaGreatDoor
namespace Lm
open Go Go.RowKit
def msplit (s:ByteArray):Bool × ByteArray :=
 if 3≤s.size∧(s.get! 0).toNat=226∧(s.get! 1).toNat=136∧(s.get! 2).toNat=146 then (true,s.extract 3 s.size)
 else if 0<s.size∧(s.get! 0).toNat=45 then (true,s.extract 1 s.size)
 else (false,s)
theorem decN (s:ByteArray) (h:0<s.size):Lib.decodeGo s=Lib.decodeN s.size (s.get! 0).toNat (s.get! 1).toNat (s.get! 2).toNat (s.get! 3).toNat:=by
 rw [Lib.decodeGo,if_neg (by omega),Lib.decode_at]
 rfl
theorem aus (n b0 b1 b2 b3:Nat):(Lib.decodeN n b0 b1 b2 b3).1=45↔b0=45:=by
 unfold Lib.decodeN
 repeat' split
 all_goals first | (simp only;done) | (simp only;omega)
theorem asc (n b1 b2 b3:Nat):Lib.decodeN n 45 b1 b2 b3=(45,1):=by simp [Lib.decodeN]
theorem apv (n b0 b1 b2 b3:Nat):(Lib.decodeN n b0 b1 b2 b3).1=8722↔3≤n∧b0=226∧b1=136∧b2=146:=by
 unfold Lib.decodeN
 repeat' split
 all_goals (simp only;omega)
theorem anb {n b3:Nat} (h:3≤n):Lib.decodeN n 226 136 146 b3=(8722,3):=by
 unfold Lib.decodeN
 rw [if_neg (by omega),if_neg (by omega),if_pos (by omega),if_pos (by omega)]
theorem awc (s:ByteArray):(Lib.decodeGo s).1=45↔0<s.size∧(s.get! 0).toNat=45:=by
 by_cases h:0<s.size
 ·rw [decN s h,aus];simp [h]
 ·rw [Lib.decodeGo,if_pos (by omega)];simp [h]
theorem asd (s:ByteArray):(Lib.decodeGo s).1=8722↔3≤s.size∧(s.get! 0).toNat=226∧(s.get! 1).toNat=136∧(s.get! 2).toNat=146:=by
 by_cases h:0<s.size
 ·rw [decN s h,apv]
 ·rw [Lib.decodeGo,if_pos (by omega)]
  constructor
  ·intro h;simp at h
  ·intro h;omega
theorem akw (s:ByteArray):((Lib.decodeGo s=(8722,3)∧3≤s.size∧(s.get! 0).toNat=226∧(s.get! 1).toNat=136∧(s.get! 2).toNat=146)∧msplit s=(true,s.extract 3 s.size)) ∨
  ((Lib.decodeGo s=(45,1)∧0<s.size∧(s.get! 0).toNat=45)∧msplit s=(true,s.extract 1 s.size)) ∨
  (((Lib.decodeGo s).1≠45∧(Lib.decodeGo s).1≠8722∧¬ (3≤s.size∧(s.get! 0).toNat=226∧(s.get! 1).toNat=136∧(s.get! 2).toNat=146)∧¬ (0<s.size∧(s.get! 0).toNat=45))∧msplit s=(false,s)):=by
 by_cases h1:3≤s.size∧(s.get! 0).toNat=226∧(s.get! 1).toNat=136∧(s.get! 2).toNat=146
 ·refine .inl ⟨⟨?_,h1⟩,by rw [msplit,if_pos h1]⟩
  rw [decN s (by omega),h1.2.1,h1.2.2.1,h1.2.2.2]
  exact anb h1.1
 ·by_cases h2:0<s.size∧(s.get! 0).toNat=45
  ·refine .inr (.inl ⟨⟨?_,h2⟩,by rw [msplit,if_neg h1,if_pos h2]⟩)
   rw [decN s h2.1,h2.2]
   exact asc _ _ _ _
  ·exact .inr (.inr ⟨⟨fun e=>h2 ((awc s).1 e),fun e=>h1 ((asd s).1 e),h1,h2⟩,by rw [msplit,if_neg h1,if_neg h2]⟩)
end Lm
end Go.Proofs.YtgclhjjmleiggaaGreatDoor
namespace Go.Proofs
open Go.Shelf
shelf_lay Lays.n197 Nm 197 at Tryz as Tryz.lays197
namespace YtgclhjjmleiggaaGreatDoor
namespace Lm
open Go Go.RowKit
def Tabs (w:World):Prop:=Lib.Utf8Tabs (Tryz.lays197_ren.g 3) (Tryz.lays197_ren.g 4) w
theorem Tabs.below {w w' : World} (h:Tabs w) (hb:Below w.heap.size w w'):Tabs w' := Utf8Tabs_below h hb
theorem agi (w:World) (s:ByteArray) (hT:Tabs w) :
  Calls Tryz.prog 66 #[.string s] w fun e w'=>e=.returned (.tuple #[.int .i32 (Lib.decodeGo s).1,.int .i64 (Lib.decodeGo s).2])∧Below w.heap.size w w' := Any.utf8_DecodeRuneInString Tryz.lays197 s w hT
end Lm
end YtgclhjjmleiggaaGreatDoor
end Go.Proofs
namespace Go.Proofs.YtgclhjjmleiggaaGreatDoor
namespace Lm
open Go Go.RowKit
theorem get!_out (s:ByteArray) (k:Nat) (h:s.size≤k):(s.get! k).toNat=0:=by
 cases s with
 | mk d =>
  have:d[k]! = default:=getElem!_neg d k (by simpa [ByteArray.size] using h)
  show (d[k]!).toNat=0
  rw [this]
  rfl
theorem akx (s:ByteArray) (i:Nat) (h:i<s.size):Lib.decodeGo (s.extract i s.size)=Utf8.decode s i:=by
 have hsz:(s.extract i s.size).size=s.size - i:=by rw [ByteArray.size_extract];omega
 rw [Lib.decodeGo,if_neg (by omega),Lib.decode_at,Lib.decode_at,hsz]
 have key:∀ k,((s.extract i s.size).get! k).toNat=(s.get! (i+k)).toNat:=by
  intro k
  by_cases hk:k<s.size - i
  ·have h1:=get!_getD (s.extract i s.size) k (by omega)
   have h2:=get!_getD s (i+k) (by omega)
   rw [abr,List.getD_eq_getElem?_getD,List.getElem?_take_of_lt (by omega),List.getElem?_drop,←List.getD_eq_getElem?_getD] at h1
   rw [h1] at h2
   exact_mod_cast h2
  ·rw [get!_out _ _ (by omega),get!_out _ _ (by omega)]
 simp only [key,Nat.zero_add,Nat.add_zero,Nat.sub_zero]
theorem ade {w w' : World} {B:Nat} {e:TypeId} {size n:Nat} {v:Value} {xs:List Value} (h:w.ownsRow B e size v n xs) (hk:∀ k o,B≤k→w.heap[k]? = some o→w'.heap[k]? = some o):w'.ownsRow B e size v n xs:=by
 obtain ⟨hl,h1 | ⟨g,cap,cur,rfl,hb,hh,h2⟩⟩:=h
 ·exact ⟨hl,.inl h1⟩
 ·exact ⟨hl,.inr ⟨g,cap,cur,rfl,hb,hk g _ hb hh,h2⟩⟩
theorem abz {w w' : World} {B:Nat} {e:TypeId} {size n:Nat} {v:Value} {xs:List Value} (h:w.ownsRow B e size v n xs) (hb:Below w.heap.size w w'):w'.ownsRow B e size v n xs :=
 ade h fun k _ _ hk=>(hb.block k (aaa hk)).trans hk
theorem ase {w:World} {B B' : Nat} {e:TypeId} {size n:Nat} {v:Value} {xs:List Value} (h:w.ownsRow B e size v n xs) (hB:B'≤B):w.ownsRow B' e size v n xs:=by
 obtain ⟨hl,h1 | ⟨g,cap,cur,rfl,hb,hh,h2⟩⟩:=h
 ·exact ⟨hl,.inl h1⟩
 ·exact ⟨hl,.inr ⟨g,cap,cur,rfl,Nat.le_trans hB hb,hh,h2⟩⟩
structure Sou (w wr:World) (s:ByteArray) (acc:List Gl) (p:Pl) (pos:Nat) (gv:Value):Prop where
 own:wr.ownsRow (w.heap.size+2) 128 6 gv acc.length (gflat acc)
 plc:PlB wr w.heap.size p
 itr:wr.heap[w.heap.size+1]? = some (.stringIter s pos)
 bel:Below w.heap.size w wr
 siz:w.heap.size+2≤wr.heap.size
theorem Sou.below {w wr w' : World} {s:ByteArray} {acc:List Gl} {p:Pl} {pos:Nat} {v:Value} (h:Sou w wr s acc p pos v) (hb:Below wr.heap.size wr w'):Sou w w' s acc p pos v :=
 ⟨abz h.own hb,h.plc.below hb,(hb.block _ (by have:=h.siz;omega)).trans h.itr,h.bel.trans (hb.mono h.bel.size),Nat.le_trans h.siz hb.size⟩
theorem Sou.iterAt {w wr:World} {s:ByteArray} {acc:List Gl} {p:Pl} {pos:Nat} {v:Value} (h:Sou w wr s acc p pos v) (pos' : Nat):Sou w (wr.iterAt (w.heap.size+1) s pos') s acc p pos' v :=
 ⟨ade h.own fun k _ hk he=>(Lib.iterAt_other wr _ k s pos' (by omega)).trans he,(Lib.iterAt_other wr _ _ s pos' (by omega)).trans h.plc,Lib.iterAt_heap wr _ s pos pos' h.itr,Lib.below_iterAt h.bel (by omega) s pos',by rw [Lib.iterAt_size];exact h.siz⟩
theorem Sou.more {w wr w1:World} {s:ByteArray} {acc:List Gl} {p:Pl} {pos:Nat} {v v' : Value} {g:Gl} (h:Sou w wr s acc p pos v) (hg:wr.grownBy w1 v.ownBlock) (hown:w1.ownsRow (w.heap.size+2) 128 6 v' (acc ++ [g]).length (gflat (acc ++ [g]))):Sou w w1 s (acc ++ [g]) p pos v' := by
 have hrow:∀ k,k<w.heap.size+2→some k≠v.ownBlock:=by
  intro k hk
  obtain ⟨hl,⟨rfl,_⟩ | ⟨b,cap,cur,rfl,hb,_⟩⟩:=h.own
  ·simp [Value.ownBlock]
  ·simp only [Value.ownBlock,ne_eq,Option.some.injEq]
   omega
 have hz:=h.siz
 exact ⟨hown,(hg.block _ (by omega) (hrow _ (by omega))).trans h.plc,(hg.block _ (by omega) (hrow _ (by omega))).trans h.itr,⟨hg.os.trans h.bel.os,hg.tape.trans h.bel.tape,hg.output.trans h.bel.output,Nat.le_trans h.bel.size hg.size,fun k hk=>(hg.block k (by omega) (hrow k (by omega))).trans (h.bel.block k hk)⟩,Nat.le_trans h.siz hg.size⟩
theorem Sou.place {w wr:World} {s:ByteArray} {acc:List Gl} {p p' : Pl} {pos:Nat} {v:Value} (h:Sou w wr s acc p pos v):Sou w ((((wr.setCell ⟨w.heap.size,0,none⟩ (.int .i64 p'.b)).setCell ⟨w.heap.size,1,none⟩ (.int .i64 p'.g)).setCell ⟨w.heap.size,2,none⟩ (.int .i64 p'.l)).setCell ⟨w.heap.size,3,none⟩ (.int .i64 p'.c)) s acc p' pos v:=by
 have ho:∀ k,k≠w.heap.size→((((wr.setCell ⟨w.heap.size,0,none⟩ (.int .i64 p'.b)).setCell ⟨w.heap.size,1,none⟩ (.int .i64 p'.g)).setCell ⟨w.heap.size,2,none⟩ (.int .i64 p'.l)).setCell ⟨w.heap.size,3,none⟩ (.int .i64 p'.c)).heap[k]? = wr.heap[k]? := by
  intro k hk
  rw [heap_setCell_other _ ⟨w.heap.size,3,none⟩ k _ hk,heap_setCell_other _ ⟨w.heap.size,2,none⟩ k _ hk,heap_setCell_other _ ⟨w.heap.size,1,none⟩ k _ hk,heap_setCell_other _ ⟨w.heap.size,0,none⟩ k _ hk]
 have hsz:((((wr.setCell ⟨w.heap.size,0,none⟩ (.int .i64 p'.b)).setCell ⟨w.heap.size,1,none⟩ (.int .i64 p'.g)).setCell ⟨w.heap.size,2,none⟩ (.int .i64 p'.l)).setCell ⟨w.heap.size,3,none⟩ (.int .i64 p'.c)).heap.size=wr.heap.size:=by simp [World.setCell]
 refine ⟨ade h.own fun k _ hk he=>(ho k (by omega)).trans he,?_,(ho _ (by omega)).trans h.itr,⟨h.bel.os,h.bel.tape,h.bel.output,by rw [hsz];exact h.bel.size,fun k hk=>(ho k (by omega)).trans (h.bel.block k hk)⟩,by rw [hsz];exact h.siz⟩
 unfold PlB
 rw [heap_setCell_same _ _ 3 _ _ _ (heap_setCell_same _ _ 2 _ _ _ (heap_setCell_same _ _ 1 _ _ _ (heap_setCell_same _ _ 0 _ _ _ h.plc)))]
 simp
theorem apw {w:World} {B:Nat} {e:TypeId} {size n:Nat} {v:Value} {xs:List Value} (h:w.ownsRow B e size v n xs):∃ ao cap,v=.slice ao n cap:=by
 obtain ⟨hl,⟨rfl,rfl⟩ | ⟨g,cap,cur,rfl,_⟩⟩:=h
 ·exact ⟨_,_,rfl⟩
 ·exact ⟨_,_,rfl⟩
theorem infoG:(Tryz.prog.info? 128).map (fun i=>(i.zero,i.size,i.bytes))=some (some (.agg #[.int .i64 0,.int .i64 0,.int .i64 0,.int .i64 0,.int .i64 0,.int .i64 0]),6,48):=by kernel_rfl
theorem ag3 {P:Program} {e:TypeId} {z:Value} {n b:Nat} (h:(P.info? e).map (fun i=>(i.zero,i.size,i.bytes))=some (some z,n,b)):∃ i,P.info? e=some i∧i.zero=some z∧i.size=n∧i.bytes=b:=by
 cases hi:P.info? e with
 | none=>rw [hi] at h;cases h
 | some i =>
  rw [hi] at h
  simp only [Option.map_some,Option.some.injEq,Prod.mk.injEq] at h
  exact ⟨i,rfl,h.1,h.2.1,h.2.2⟩
theorem ajc (args:Array Value) (w:World):(callFunc 67 args).run Tryz.prog w=.ok (.enter 67 args) w:=by
 have h : (match Tryz.prog.funcs[67]? with | some fn => !(fn.name == "runtime.NumGoroutine") && fn.body.isSome | none => false) = true := by kernel_rfl
 cases hf:Tryz.prog.funcs[67]? with
 | none=>rw [hf] at h;simp at h
 | some fn =>
  rw [hf] at h
  simp only [Bool.and_eq_true,Bool.not_eq_true',beq_eq_false_iff_ne] at h
  obtain ⟨h1,h2⟩:=h
  have h3:fn.body≠none:=by intro hb;rw [hb] at h2;simp at h2
  simp [callFunc,hf,h1,h3]
theorem agj {ops:Array Oper} {o:Oper} {a:Act} {w:World} {K:Act→World→Prop} {Q:Exit→Act→World→Prop} {E:Prop} (hg:o.guard=none) (x:Operand) (ats:Array TypeId)
  (hop:o.op=.call { callee:=.value (.func 67),args:=#[x],argTypes:=ats }) (c:Int) (hx:a.eval x=.int .i64 c) (hK:K (a.put o.dst (.int .i64 (gcls c))) w) :
  if Region.wanted o (yielded ops a.tmps)=true then Oper.wp Tryz.prog o a w K Q else E:=by
 obtain ⟨dst,op,ty,pos,after,guard⟩:=o
 simp only at hop hg
 subst hop hg
 have hw:Region.wanted { dst,op:=.call { callee:=.value (.func 67),args:=#[x],argTypes:=ats },type:=ty,pos,after,guard:=none } (yielded ops a.tmps)=true:=by simp [Region.wanted]
 rw [if_pos hw]
 have e:execOp a.eval { dst,op:=.call { callee:=.value (.func 67),args:=#[x],argTypes:=ats },type:=ty,pos,after,guard:=none } = callFunc 67 (#[] ++ #[x].map a.eval ++ #[]):=rfl
 unfold Oper.wp
 rw [e,ajc]
 simp only [Oper.upon]
 have e2:(#[] ++ #[x].map a.eval ++ #[]:Array Value) = #[.int .i64 c]:=by simp [hx]
 rw [e2]
 refine (arw w c).mono ?_
 rintro r w' ⟨rfl,rfl⟩
 exact hK
set_option maxRecDepth 20000 in
set_option maxHeartbeats 2000000 in
theorem apx (w:World) (s:ByteArray) (hT:Tabs w) (hs:s.size≤4096) :
  Calls Tryz.prog 55 #[.string s] w fun r w'=>∃ gs e v,Snd s pl0 gs e∧r=.returned (.tuple #[v,e.v])∧w'.ownsRow (w.heap.size+2) 128 6 v gs.length (gflat gs)∧Below w.heap.size w w' := by
 go_enter Tryz.func55,Tryz.ntmps55
 go_wp2
 have hS0:Sou w ((w.alloc (.cells #[.int .i64 0,.int .i64 0,.int .i64 1,.int .i64 1] 28)).iter s 0) s [] pl0 0 (.slice none 0 0):=by
  refine ⟨World.ownsRow_nil _ _ _ _,?_,?_,?_,?_⟩
  ·exact ((Below.refl (w.alloc _).heap.size (w.alloc _)).alloc (Nat.le_refl _) (.stringIter s 0)).block w.heap.size (by simp [World.size_alloc]) |>.trans (heap_alloc_new w _)
  ·have:=World.iter_heap (w.alloc (.cells #[.int .i64 0,.int .i64 0,.int .i64 1,.int .i64 1] 28)) s 0
   rw [World.size_alloc] at this
   exact this
  ·exact ((Below.refl _ _).alloc (Nat.le_refl _) _).alloc (by simp [World.size_alloc]) (.stringIter s 0)
  ·show w.heap.size+2≤((w.alloc _).alloc (.stringIter s 0)).heap.size
   simp [World.size_alloc]
 generalize (w.alloc (.cells #[.int .i64 0,.int .i64 0,.int .i64 1,.int .i64 1] 28)).iter s 0=w0 at hS0 ⊢
 have HS0:=hide hS0
 have HT:=hide hT
 clear hS0 hT
 go_loopw [2] (fun gv wr=>∃ (acc:List Gl) (p:Pl) (ao:Option Addr) (cap:Nat),gv=.slice ao acc.length cap∧Sou w wr s acc p p.b (.slice ao acc.length cap)∧p.ok∧p.b≤s.size∧acc.length≤p.b∧∀ gs e,Snd s p gs e→Snd s pl0 (acc ++ gs) e) (fun _ wr=>s.size - wr.iterPos (w.heap.size+1))
 case atStart=>exact ⟨[],pl0,none,0,rfl,HS0.out,acx,Nat.zero_le _,Nat.zero_le _,fun gs e h=>h⟩
 case round =>
  obtain ⟨acc,p,ao,cap,rfl,hS,hp,hpb,hal,hpre⟩:=hrel
  have HS:=hide hS
  have HP:=hide hp
  have HE:=hide hpre
  have IP:Hid (wr.iterPos (w.heap.size+1)=p.b):=by show _ = _;unfold World.iterPos;rw [hS.itr]
  clear hS hp hpre
  by_cases hlt:p.b<s.size
  ·have hnext:=fun ty=>Lib.run_next_any_at (P:=Tryz.prog) wr (w.heap.size+1) s p.b ty HS.out.itr hlt
   have hd:=adb s p.b hlt
   have htop:=auj s p.b
   have HDG:=hide (akx s p.b hlt)
   have HS1:=hide (HS.out.iterAt (p.b+(Utf8.decode s p.b).2))
   have HSG:=hide (fun gs e=>Snd.go p gs e hlt)
   generalize hdc:Utf8.decode s p.b=dc at *
   have HDC:=hide hdc
   clear hdc
   obtain ⟨c,z⟩:=dc
   simp only at hd htop hnext
   generalize wr.iterAt (w.heap.size+1) s (p.b+z)=w1 at HS1 hnext
   have hlt' : (p.b:Int)<(s.size:Int):=by omega
   go_wp2_with fail
   refine (agi _ _ (HT.out.below HS1.out.bel)).mono ?_
   rintro r w2 ⟨rfl,hb2⟩
   rw [HDG.out]
   have HS2:=hide (HS1.out.below hb2)
   clear hb2 hnext HS1
   by_cases hbad:(c,z)=(65533,1)
   ·obtain ⟨rfl,rfl⟩:=Prod.mk.inj hbad
    obtain ⟨hf,p0,p1,p2,p3⟩:=HS2.out.plc.cells
    have f0:=frozen_of_row w2 w.heap.size 0 _ _ HS2.out.plc
    have f1:=frozen_of_row w2 w.heap.size 1 _ _ HS2.out.plc
    have f2:=frozen_of_row w2 w.heap.size 2 _ _ HS2.out.plc
    have f3:=frozen_of_row w2 w.heap.size 3 _ _ HS2.out.plc
    go_wp2_with fail
    go_region
    go_wp2
    refine bodyPost_ret (v:=_) (by simp [results,Tryz.results55,go_sem,p0,p1,p2,p3];try rfl) rfl ⟨acc,p,_,?_,rfl,((HS2.out.place (p' := p)).below (by (repeat' first|with_reducible(first|exact Below.refl _ _|assumption|refine gdrewN ?_ _|refine Below.alloc ?_ ?_ _|refine Below.drew ?_|refine Below.setCell ?_ ?_ _)|go_size))).own,((HS2.out.place (p' := p)).below (by (repeat' first|with_reducible(first|exact Below.refl _ _|assumption|refine gdrewN ?_ _|refine Below.alloc ?_ ?_ _|refine Below.drew ?_|refine Below.setCell ?_ ?_ _)|go_size))).bel⟩
    have:=HE.out [] p (.stop p (.inr ⟨hlt,HDC.out⟩))
    rwa [List.append_nil] at this
   ·by_cases h1:c=65533
    ·subst h1
     have e2:((z:Int) == 1)=false:=beq_eq_false_iff_ne.2 (by intro hz;exact hbad (by rw [show z=1 from by omega]))
     obtain ⟨i0,hi0,hz0,hz1,hz2⟩:=ag3 infoG
     obtain ⟨hf,p0,p1,p2,p3⟩:=HS2.out.plc.cells
     have hown:=HS2.out.own
     have hsz:=HS2.out.siz
     have hone:∀ u ∈ ([.int .i64 65533,.int .i64 (gcls 65533),.int .i64 p.b,.int .i64 p.g,.int .i64 p.l,.int .i64 p.c]:List Value),u.oneCell' = true:=by
      intro u hu
      simp only [List.mem_cons,List.not_mem_nil,or_false] at hu
      rcases hu with rfl | rfl | rfl | rfl | rfl | rfl <;> rfl
     go_wp2_with fail
     go_region_law (first | (refine agj rfl (.tmp 35) #[3] rfl (65533:Int) (by simp [Act.eval,Act.put]) ?_) | (refine step_append_lies _ rfl (.tmp 33) (.tmp 39) 112 rfl (w.heap.size+2) 128 i0 _ 6 48 Tryz.underlying112 hi0 hz0 hz1 hz2 rfl (by decide) (.slice ao acc.length cap) acc.length (gflat acc) (by simp [Act.eval]) (abz hown ((Below.refl _ _).alloc (Nat.le_refl _) _).drew) ⟨w2.heap.size,0,none⟩ 1 1 [.int .i64 65533,.int .i64 (gcls 65533),.int .i64 p.b,.int .i64 p.g,.int .i64 p.l,.int .i64 p.c] (by simp [Act.eval]) rfl (World.news_of_block (w:=(w2.alloc (.cells #[.int .i64 65533,.int .i64 (gcls 65533),.int .i64 p.b,.int .i64 p.g,.int .i64 p.l,.int .i64 p.c] 128)).drew) (heap_alloc_new w2 _)) hone (by omega) (by unfold maxLen;omega) (by omega) (by simp;omega) _ rfl ?_;intro g1 cap1 w3 hown3 hgrow3 hat3 hlt3))
     all_goals
      have HS3:=hide ((HS2.out.below (((Below.refl _ _).alloc (Nat.le_refl _) _).drew)).more (g:=⟨65533,p⟩) hgrow3 (by simpa [aer,gflat] using hown3))
      clear hown3 hgrow3 hat3 hlt3 p0 p1 p2 p3 hf hown hsz hone hi0 hz0 hz1 hz2
      obtain ⟨hf,p0,p1,p2,p3⟩:=HS3.out.plc.cells
      go_wp2_with fail
      refine (agc w3 p 65533 z (by have:=HP.out.g;have:=HP.out.l;have:=HP.out.c;omega)).mono ?_
      rintro r w4 ⟨rfl,hb4⟩
      have HS4:=hide (HS3.out.below hb4)
      clear hb4 p0 p1 p2 p3 hf HS3 HS2
      generalize hpp:p.past 65533 z=p' at HS4 ⊢
      have HPP:=hide hpp
      clear hpp
      unfold Pl.v
      obtain ⟨hf,p0,p1,p2,p3⟩:=HS4.out.plc.cells
      have f0:=frozen_of_row w4 w.heap.size 0 _ _ HS4.out.plc
      have f1:=frozen_of_row w4 w.heap.size 1 _ _ HS4.out.plc
      have f2:=frozen_of_row w4 w.heap.size 2 _ _ HS4.out.plc
      have f3:=frozen_of_row w4 w.heap.size 3 _ _ HS4.out.plc
      have IP4:=hide ((HS4.out.place (p' := p')).itr)
      go_wp2
      go_roundw
      case rel =>
       have hb' : p'.b=p.b+z:=by rw [←HPP.out];rfl
       refine ⟨acc ++ [⟨65533,p⟩],p',some ⟨g1,0,none⟩,cap1,by simp,?_,by rw [←HPP.out];exact HP.out.past _ _ hd.1,by omega,by simp;omega,?_⟩
       ·have:=HS4.out.place (p' := p')
        rw [←hb'] at this
        simpa using this
       ·intro gs e h
        rw [List.append_assoc]
        refine HE.out _ _ ?_
        exact HSG.out gs e hbad (by rw [←HPP.out] at h;exact h)
      case measure =>
       rw [IP.out]
       unfold World.iterPos
       rw [IP4.out]
       simp only
       omega
    ·have e1:((c:Int) == 65533)=false:=beq_eq_false_iff_ne.2 (by omega)
     obtain ⟨i0,hi0,hz0,hz1,hz2⟩:=ag3 infoG
     obtain ⟨hf,p0,p1,p2,p3⟩:=HS2.out.plc.cells
     have hown:=HS2.out.own
     have hsz:=HS2.out.siz
     have hone:∀ u ∈ ([.int .i64 c,.int .i64 (gcls c),.int .i64 p.b,.int .i64 p.g,.int .i64 p.l,.int .i64 p.c]:List Value),u.oneCell' = true:=by
      intro u hu
      simp only [List.mem_cons,List.not_mem_nil,or_false] at hu
      rcases hu with rfl | rfl | rfl | rfl | rfl | rfl <;> rfl
     go_wp2_with fail
     go_region_law (first | (refine agj rfl (.tmp 35) #[3] rfl (c:Int) (by simp [Act.eval,Act.put]) ?_) | (refine step_append_lies _ rfl (.tmp 33) (.tmp 39) 112 rfl (w.heap.size+2) 128 i0 _ 6 48 Tryz.underlying112 hi0 hz0 hz1 hz2 rfl (by decide) (.slice ao acc.length cap) acc.length (gflat acc) (by simp [Act.eval]) (abz hown ((Below.refl _ _).alloc (Nat.le_refl _) _).drew) ⟨w2.heap.size,0,none⟩ 1 1 [.int .i64 c,.int .i64 (gcls c),.int .i64 p.b,.int .i64 p.g,.int .i64 p.l,.int .i64 p.c] (by simp [Act.eval]) rfl (World.news_of_block (w:=(w2.alloc (.cells #[.int .i64 c,.int .i64 (gcls c),.int .i64 p.b,.int .i64 p.g,.int .i64 p.l,.int .i64 p.c] 128)).drew) (heap_alloc_new w2 _)) hone (by omega) (by unfold maxLen;omega) (by omega) (by simp;omega) _ rfl ?_;intro g1 cap1 w3 hown3 hgrow3 hat3 hlt3))
     all_goals
      have HS3:=hide ((HS2.out.below (((Below.refl _ _).alloc (Nat.le_refl _) _).drew)).more (g:=⟨c,p⟩) hgrow3 (by simpa [aer,gflat] using hown3))
      clear hown3 hgrow3 hat3 hlt3 p0 p1 p2 p3 hf hown hsz hone hi0 hz0 hz1 hz2
      obtain ⟨hf,p0,p1,p2,p3⟩:=HS3.out.plc.cells
      go_wp2_with fail
      refine (agc w3 p c z (by have:=HP.out.g;have:=HP.out.l;have:=HP.out.c;omega)).mono ?_
      rintro r w4 ⟨rfl,hb4⟩
      have HS4:=hide (HS3.out.below hb4)
      clear hb4 p0 p1 p2 p3 hf HS3 HS2
      generalize hpp:p.past c z=p' at HS4 ⊢
      have HPP:=hide hpp
      clear hpp
      unfold Pl.v
      obtain ⟨hf,p0,p1,p2,p3⟩:=HS4.out.plc.cells
      have f0:=frozen_of_row w4 w.heap.size 0 _ _ HS4.out.plc
      have f1:=frozen_of_row w4 w.heap.size 1 _ _ HS4.out.plc
      have f2:=frozen_of_row w4 w.heap.size 2 _ _ HS4.out.plc
      have f3:=frozen_of_row w4 w.heap.size 3 _ _ HS4.out.plc
      have IP4:=hide ((HS4.out.place (p' := p')).itr)
      go_wp2
      go_roundw
      case rel =>
       have hb' : p'.b=p.b+z:=by rw [←HPP.out];rfl
       refine ⟨acc ++ [⟨c,p⟩],p',some ⟨g1,0,none⟩,cap1,by simp,?_,by rw [←HPP.out];exact HP.out.past _ _ hd.1,by omega,by simp;omega,?_⟩
       ·have:=HS4.out.place (p' := p')
        rw [←hb'] at this
        simpa using this
       ·intro gs e h
        rw [List.append_assoc]
        refine HE.out _ _ ?_
        exact HSG.out gs e hbad (by rw [←HPP.out] at h;exact h)
      case measure =>
       rw [IP.out]
       unfold World.iterPos
       rw [IP4.out]
       simp only
       omega
  ·have hnext:=fun ty=>Lib.run_next_end_at (P:=Tryz.prog) wr (w.heap.size+1) s p.b ty HS.out.itr (by omega)
   obtain ⟨hf,p0,p1,p2,p3⟩:=HS.out.plc.cells
   have f0:=frozen_of_row wr w.heap.size 0 _ _ HS.out.plc
   have f1:=frozen_of_row wr w.heap.size 1 _ _ HS.out.plc
   have f2:=frozen_of_row wr w.heap.size 2 _ _ HS.out.plc
   have f3:=frozen_of_row wr w.heap.size 3 _ _ HS.out.plc
   have hlt' : ¬ (p.b:Int)<(s.size:Int):=by omega
   go_wp2_with fail
   go_region
   go_wp2
   refine bodyPost_ret (v:=_) (by simp [results,Tryz.results55,go_sem,p0,p1,p2,p3];try rfl) rfl ⟨acc,p,_,?_,rfl,((HS.out.place (p' := p)).below (by (repeat' first|with_reducible(first|exact Below.refl _ _|assumption|refine gdrewN ?_ _|refine Below.alloc ?_ ?_ _|refine Below.drew ?_|refine Below.setCell ?_ ?_ _)|go_size))).own,((HS.out.place (p' := p)).below (by (repeat' first|with_reducible(first|exact Below.refl _ _|assumption|refine gdrewN ?_ _|refine Below.alloc ?_ ?_ _|refine Below.drew ?_|refine Below.setCell ?_ ?_ _)|go_size))).bel⟩
   have:=HE.out [] p (.stop p (.inl (by omega)))
   rwa [List.append_nil] at this
def tflat:List Tk→List Value
 | []=>[]
 | t :: ts=>.int .i64 t.kind :: .string t.text :: .int .i64 t.pl.b :: .int .i64 t.pl.g :: .int .i64 t.pl.l :: .int .i64 t.pl.c :: tflat ts
theorem aex (es fs:List Tk):tflat (es ++ fs)=tflat es ++ tflat fs:=by
 induction es with
 | nil=>rfl
 | cons e es ih=>simp [tflat,ih]
def plz:Pl:=⟨0,0,0,0⟩
theorem infoT:(Tryz.prog.info? 90).map (fun i=>(i.zero,i.size,i.bytes))=some (some (.agg #[.int .i64 0,.string ⟨#[]⟩,.int .i64 0,.int .i64 0,.int .i64 0,.int .i64 0]),6,56):=by kernel_rfl
structure ScS (w wr:World) (q f B:Nat) (s:ByteArray) (v:Value) (gs:List Gl) (i:Nat) (e:Pl) (ts:List Tk) (tv:Value):Prop where
 scn:Scn wr q s v gs i e
 own:wr.ownsRow B 90 6 tv ts.length (tflat ts)
 zer:PlB wr f plz
 bel:Below w.heap.size w wr
 siz:B≤wr.heap.size
 fw:w.heap.size≤f
 qw:w.heap.size≤q
 fq:f≠q
 fB:f<B
 qB:q<B
 vB:∀ b off n c,v=.slice (some ⟨b,off,none⟩) n c→b<B
theorem ScS.below {w wr w' : World} {q f B:Nat} {s:ByteArray} {v:Value} {gs:List Gl} {i:Nat} {e:Pl} {ts:List Tk} {tv:Value} (h:ScS w wr q f B s v gs i e ts tv) (hb:Below wr.heap.size wr w'):ScS w w' q f B s v gs i e ts tv :=
 ⟨h.scn.below hb,abz h.own hb,h.zer.below hb,h.bel.trans (hb.mono h.bel.size),Nat.le_trans h.siz hb.size,h.fw,h.qw,h.fq,h.fB,h.qB,h.vB⟩
theorem ScS.tq {w wr w' : World} {q f B:Nat} {s:ByteArray} {v:Value} {gs:List Gl} {i j:Nat} {e:Pl} {ts:List Tk} {tv:Value} (h:ScS w wr q f B s v gs i e ts tv) (ht:Tq wr w' q) (hs:Scn w' q s v gs j e):ScS w w' q f B s v gs j e ts tv :=
 ⟨hs,ade h.own fun k _ hk he=>(ht.other k (aaa he) (by have:=h.qB;omega)).trans he,h.zer.tq ht h.fq,aft h.bel ht h.qw (Nat.le_refl _),Nat.le_trans h.siz ht.size,h.fw,h.qw,h.fq,h.fB,h.qB,h.vB⟩
theorem ScS.more {w wr w1:World} {q f B:Nat} {s:ByteArray} {v:Value} {gs:List Gl} {i:Nat} {e:Pl} {ts:List Tk} {tv tv' : Value} {t:Tk} (h:ScS w wr q f B s v gs i e ts tv) (hg:wr.grownBy w1 tv.ownBlock) (hown:w1.ownsRow B 90 6 tv' (ts ++ [t]).length (tflat (ts ++ [t]))):ScS w w1 q f B s v gs i e (ts ++ [t]) tv' := by
 have hrow:∀ k,k<B→some k≠tv.ownBlock:=by
  intro k hk
  obtain ⟨hl,⟨rfl,_⟩ | ⟨b,cap,cur,rfl,hb,_⟩⟩:=h.own
  ·simp [Value.ownBlock]
  ·simp only [Value.ownBlock,ne_eq,Option.some.injEq]
   omega
 have hz:=h.siz
 have hB:∀ k,k<B→w1.heap[k]? = wr.heap[k]? := fun k hk=>hg.block k (by omega) (hrow k hk)
 have hGs:Gs w1 v gs:=by
  obtain ⟨ao,cap,rfl,h1,h2,h3,h4⟩:=h.scn.gls
  refine ⟨ao,cap,rfl,h1,h2,h3,?_⟩
  rcases h4 with h4 | ⟨b,off,rfl,hl,hc⟩
  ·exact .inl h4
  ·refine .inr ⟨b,off,rfl,Nat.lt_of_lt_of_le hl hg.size,fun j u hu=>?_⟩
   rw [World.cell?_of_block (w:=wr) (hB b (h.vB _ _ _ _ rfl))]
   exact hc j u hu
 exact ⟨⟨(hB q h.qB).trans h.scn.blk,hGs,h.scn.le,h.scn.apt⟩,hown,(hB f h.fB).trans h.zer,⟨hg.os.trans h.bel.os,hg.tape.trans h.bel.tape,hg.output.trans h.bel.output,Nat.le_trans h.bel.size hg.size,fun k hk=>(hB k (by have:=h.fw;have:=h.fB;omega)).trans (h.bel.block k hk)⟩,Nat.le_trans h.siz hg.size,h.fw,h.qw,h.fq,h.fB,h.qB,h.vB⟩
def ScanO (w w' : World) (r:Ending):SO→Prop
 | .bad k p=>r=.returned (.tuple #[.slice none 0 0,.int .i64 k,p.v])
 | .ok l=>∃ v,r=.returned (.tuple #[v,.int .i64 0,plz.v])∧w'.ownsRow w.heap.size 90 6 v l.length (tflat l)
theorem asf (o:SO):o.pres []=o:=by cases o <;> rfl
theorem asg (ts:List Tk) (t:Tk) (o:SO):(o.pre t).pres ts=o.pres (ts ++ [t]):=by
 cases o with
 | bad k p=>rfl
 | ok l=>simp [SO.pre,SO.pres]
set_option maxRecDepth 20000 in
set_option maxHeartbeats 1000000 in
theorem ahj (w:World) (s:ByteArray) (hs:4096<s.size) :
  Calls Tryz.prog 41 #[.string s] w fun r w'=>Below w.heap.size w w'∧r=.returned (.tuple #[.slice none 0 0,.int .i64 2,plz.v]):=by
 have hs' : (4096:Int)<(s.size:Int):=by omega
 go_enter Tryz.func41,Tryz.ntmps41
 go_wp2
 refine bodyPost_ret (v:=_) (by simp [results,Tryz.results41,go_sem];try rfl) rfl ⟨?_,rfl⟩
 (repeat' first|with_reducible(first|exact Below.refl _ _|assumption|refine gdrewN ?_ _|refine Below.alloc ?_ ?_ _|refine Below.drew ?_|refine Below.setCell ?_ ?_ _)|go_size)
theorem ash {w:World} {f:Nat} {p p' : Pl} (h:PlB w f p):PlB ((((w.setCell ⟨f,0,none⟩ (.int .i64 p'.b)).setCell ⟨f,1,none⟩ (.int .i64 p'.g)).setCell ⟨f,2,none⟩ (.int .i64 p'.l)).setCell ⟨f,3,none⟩ (.int .i64 p'.c)) f p' := by
 unfold PlB
 rw [heap_setCell_same _ _ 3 _ _ _ (heap_setCell_same _ _ 2 _ _ _ (heap_setCell_same _ _ 1 _ _ _ (heap_setCell_same _ _ 0 _ _ _ h)))]
 simp
theorem anc {B f:Nat} {w w' : World} (h:Below B w w') (hf:B≤f) (u0 u1 u2 u3:Value):Below B w ((((w'.setCell ⟨f,0,none⟩ u0).setCell ⟨f,1,none⟩ u1).setCell ⟨f,2,none⟩ u2).setCell ⟨f,3,none⟩ u3) :=
 (((h.setCell hf _).setCell hf _).setCell hf _).setCell hf _
theorem apy {w w1:World} {s:ByteArray} {ao:Option Addr} {cap:Nat} {gs:List Gl} {e:Pl} (HOWN:w1.ownsRow (w.heap.size+2+2) 128 6 (.slice ao gs.length cap) gs.length (gflat gs)) (HQB:w1.heap[w.heap.size+1]? = some (.cells #[.string s,.slice none 0 0,.int .i64 0,.int .i64 0,.int .i64 0,.int .i64 0,.int .i64 0] 114 (0,0))) (HFB:PlB w1 w.heap.size plz) (HB1:Below w.heap.size w w1) (hs1:w.heap.size+2≤w1.heap.size) :
  ScS w (((((w1.setCell ⟨w.heap.size+1,1,none⟩ (.slice ao gs.length cap)).setCell ⟨w.heap.size+1,3,none⟩ (.int .i64 e.b)).setCell ⟨w.heap.size+1,4,none⟩ (.int .i64 e.g)).setCell ⟨w.heap.size+1,5,none⟩ (.int .i64 e.l)).setCell ⟨w.heap.size+1,6,none⟩ (.int .i64 e.c)) (w.heap.size+1) w.heap.size w1.heap.size s (.slice ao gs.length cap) gs 0 e [] (.slice none 0 0):=by
 have ht:Tq w1 (((((w1.setCell ⟨w.heap.size+1,1,none⟩ (.slice ao gs.length cap)).setCell ⟨w.heap.size+1,3,none⟩ (.int .i64 e.b)).setCell ⟨w.heap.size+1,4,none⟩ (.int .i64 e.g)).setCell ⟨w.heap.size+1,5,none⟩ (.int .i64 e.l)).setCell ⟨w.heap.size+1,6,none⟩ (.int .i64 e.c)) (w.heap.size+1):=(Tq.refl _ _).set 1 _ |>.set 3 _ |>.set 4 _ |>.set 5 _ |>.set 6 _
 have hap:∀ b off n c,Value.slice ao gs.length cap=.slice (some ⟨b,off,none⟩) n c→b≠w.heap.size+1∧b<w1.heap.size:=by
  intro b off n c hv
  obtain ⟨hl,⟨h1,_⟩ | ⟨g,cap',cur,h1,hb,hh,_⟩⟩:=HOWN
  ·rw [h1] at hv;cases hv
  ·rw [h1] at hv
   simp only [Value.slice.injEq,Option.some.injEq,Addr.mk.injEq] at hv
   have:=aaa hh
   omega
 refine ⟨⟨?_,Gs.tq (Ce.own HOWN) ht (fun b off n c hv=>(hap b off n c hv).1),Nat.zero_le _,fun b off n c hv=>(hap b off n c hv).1⟩,World.ownsRow_nil _ _ _ _,HFB.tq ht (by omega),aft HB1 ht (by omega) (Nat.le_refl _),ht.size,Nat.le_refl _,by omega,by omega,by omega,by omega,fun b off n c hv=>(hap b off n c hv).2⟩
 rw [heap_setCell_same _ _ 6 _ _ _ (heap_setCell_same _ _ 5 _ _ _ (heap_setCell_same _ _ 4 _ _ _ (heap_setCell_same _ _ 3 _ _ _ (heap_setCell_same _ _ 1 _ _ _ HQB))))]
 simp
set_option maxRecDepth 20000 in
set_option maxHeartbeats 4000000 in
theorem agk (w:World) (s:ByteArray) (hT:Tabs w) (hs:s.size≤4096) :
  Calls Tryz.prog 41 #[.string s] w fun r w'=>Below w.heap.size w w'∧∃ gs e o,Snd s pl0 gs e∧ScanR s e gs o∧ScanO w w' r o:=by
 have hs' : decide ((4096:Int)<(s.size:Int))=false:=by simp;omega
 go_enter Tryz.func41,Tryz.ntmps41
 go_wp2_with fail
 refine (apx _ _ (hT.below (by (repeat' first|with_reducible(first|exact Below.refl _ _|assumption|refine gdrewN ?_ _|refine Below.alloc ?_ ?_ _|refine Below.drew ?_|refine Below.setCell ?_ ?_ _)|go_size))) hs).mono ?_
 rintro r w1 ⟨gs,e,v,hQ,rfl,hown,hb1⟩
 obtain ⟨ao,cap,rfl⟩:=apw hown
 have hsz0:((w.alloc (.cells #[.int .i64 0,.int .i64 0,.int .i64 0,.int .i64 0] 28)).alloc (.cells #[.string s,.slice none 0 0,.int .i64 0,.int .i64 0,.int .i64 0,.int .i64 0,.int .i64 0] 114)).heap.size=w.heap.size+2:=by simp [World.size_alloc]
 have hbq:=hb1
 rw [hsz0] at hown hbq
 have hqb:w1.heap[w.heap.size+1]? = some (.cells #[.string s,.slice none 0 0,.int .i64 0,.int .i64 0,.int .i64 0,.int .i64 0,.int .i64 0] 114 (0,0)):=by
  rw [hbq.block (w.heap.size+1) (by omega)]
  have:=heap_alloc_new (w.alloc (.cells #[.int .i64 0,.int .i64 0,.int .i64 0,.int .i64 0] 28)) (.cells #[.string s,.slice none 0 0,.int .i64 0,.int .i64 0,.int .i64 0,.int .i64 0,.int .i64 0] 114)
  rwa [World.size_alloc] at this
 have hfb:PlB w1 w.heap.size plz:=by
  unfold PlB
  rw [hbq.block w.heap.size (by omega)]
  exact (((Below.refl _ _).alloc (Nat.le_refl _) (.cells #[.string s,.slice none 0 0,.int .i64 0,.int .i64 0,.int .i64 0,.int .i64 0,.int .i64 0] 114)).block w.heap.size (by simp [World.size_alloc])).trans (heap_alloc_new w (.cells #[.int .i64 0,.int .i64 0,.int .i64 0,.int .i64 0] 28))
 have hb1w:Below w.heap.size w w1:=(abg w _ _).trans (hbq.mono (by omega))
 have hs1:w.heap.size+2≤w1.heap.size:=by have:=hbq.size;rwa [hsz0] at this
 have HOWN:=hide hown
 have HQB:=hide hqb
 have HFB:=hide hfb
 have HB1:=hide hb1w
 have HQ:=hide hQ
 have k1:w1.cell? ⟨w.heap.size+1,1,none⟩ = some (.slice none 0 0):=by rw [cell_of_row w1 _ 1 _ _ _ hqb];rfl
 have k3:w1.cell? ⟨w.heap.size+1,3,none⟩ = some (.int .i64 0):=by rw [cell_of_row w1 _ 3 _ _ _ hqb];rfl
 have k4:w1.cell? ⟨w.heap.size+1,4,none⟩ = some (.int .i64 0):=by rw [cell_of_row w1 _ 4 _ _ _ hqb];rfl
 have k5:w1.cell? ⟨w.heap.size+1,5,none⟩ = some (.int .i64 0):=by rw [cell_of_row w1 _ 5 _ _ _ hqb];rfl
 have k6:w1.cell? ⟨w.heap.size+1,6,none⟩ = some (.int .i64 0):=by rw [cell_of_row w1 _ 6 _ _ _ hqb];rfl
 have f1:=frozen_of_row w1 (w.heap.size+1) 1 _ _ hqb
 have f3:=frozen_of_row w1 (w.heap.size+1) 3 _ _ hqb
 have f4:=frozen_of_row w1 (w.heap.size+1) 4 _ _ hqb
 have f5:=frozen_of_row w1 (w.heap.size+1) 5 _ _ hqb
 have f6:=frozen_of_row w1 (w.heap.size+1) 6 _ _ hqb
 clear hown hbq hqb hfb hb1 hb1w hsz0 hQ hT
 unfold Pl.v
 go_wp2_with fail
 have hS0:=apy (e:=e) HOWN.out HQB.out HFB.out HB1.out hs1
 clear k1 k3 k4 k5 k6 f1 f3 f4 f5 f6 HOWN HQB HFB HB1
 generalize (((((w1.setCell ⟨w.heap.size+1,1,none⟩ (.slice ao gs.length cap)).setCell ⟨w.heap.size+1,3,none⟩ (.int .i64 e.b)).setCell ⟨w.heap.size+1,4,none⟩ (.int .i64 e.g)).setCell ⟨w.heap.size+1,5,none⟩ (.int .i64 e.l)).setCell ⟨w.heap.size+1,6,none⟩ (.int .i64 e.c))=w2 at hS0 ⊢
 generalize w1.heap.size=B at hS0 hs1
 have hends:=HQ.out.ends acx (Nat.zero_le _)
 have hgl:gs.length≤4096:=by simp only [pl0] at hends;omega
 have heb:e.b≤s.size:=hends.2.2.1
 clear hends
 refine (ai2 w2 _ s _ gs 0 e hS0.scn (by omega)).mono ?_
 rintro r w3 ⟨rfl,ht3,j0,_,hdj0,hS3⟩
 have HS:=hide (hS0.tq ht3 hS3)
 rw [List.drop_zero] at hdj0
 have HD0:=hide hdj0
 clear hS0 ht3 hS3 hdj0
 generalize hq:w.heap.size+1=q at *
 generalize hf:w.heap.size=f at *
 replace hf:w.heap.size≤f:=by omega
 go_wp2
 have hqf:q≠f:=by omega
 have hfq:f≠q:=by omega
 clear hq
 obtain ⟨i0,hi0,hz0,hz1,hz2⟩:=ag3 infoT
 go_loopw [6] (fun tv wr=>∃ (ts:List Tk) (i:Nat) (ta:Option Addr) (tc:Nat) (rest:List Gl),tv=.slice ta ts.length tc∧ScS w wr q f B s (.slice ao gs.length cap) gs i e ts (.slice ta ts.length tc)∧ts.length≤i∧gs.drop i=skp false rest∧∀ o,ScanR s e rest o→ScanR s e gs (o.pres ts)) (fun _ wr=>gs.length - nxtS wr q)
 case atStart=>exact ⟨[],j0,none,0,gs,rfl,HS.out,Nat.zero_le _,HD0.out,fun o h=>by rw [asf];exact h⟩
 case round =>
  clear HS HD0
  obtain ⟨ts,i,ta,tc,rest,rfl,hS,hti,hdi,hpre⟩:=hrel
  have HS:=hide hS
  have HE:=hide hpre
  have HDI:=hide hdi
  have IP:=hide hS.scn.nxt
  have hil:=hS.scn.le
  obtain ⟨hq,k0,k1,k2,k3,k4,k5,k6⟩:=hS.scn.cells
  clear hS hpre hdi
  by_cases hj:i<gs.length
  ·have hj' : (i:Int)<(gs.length:Int):=by omega
   have hgi:gs[i]? = some (gs[i]'hj):=List.getElem?_eq_getElem hj
   have hdr:=List.drop_eq_getElem_cons hj
   generalize gs[i]'hj=g at hgi hdr
   have HG:=hide hgi
   have HDR:=hide hdr
   clear hgi hdr
   go_wp2_with fail
   go_quiet (fail)
   have HS1:=hide (HS.out.below (gdrewN (Below.refl _ _) nq))
   clear HS k0 k1 k2 k3 k4 k5 k6 hq
   generalize wr.drewN nq=w1 at HS1 ⊢
   go_wp2_with fail
   refine (adj w1 q s _ gs i e HS1.out.scn).mono ?_
   rintro r w2 ⟨rfl,hb2⟩
   have HS2:=hide (HS1.out.below hb2)
   rw [HDR.out]
   simp only [plf]
   clear hb2 HS1
   unfold Pl.v
   go_wp2_with fail
   have HS3:=hide (HS2.out.below ((Below.refl _ _).alloc (Nat.le_refl _) (.cells #[.int .i64 g.pl.b,.int .i64 g.pl.g,.int .i64 g.pl.l,.int .i64 g.pl.c] 28)))
   have hp3:PlB (w2.alloc (.cells #[.int .i64 g.pl.b,.int .i64 g.pl.g,.int .i64 g.pl.l,.int .i64 g.pl.c] 28)) w2.heap.size g.pl:=heap_alloc_new w2 _
   have ha3:w2.heap.size≠q∧w2.heap.size≠f:=by have:=HS2.out.siz;have:=HS2.out.qB;have:=HS2.out.fB;omega
   clear HS2
   generalize w2.alloc (.cells #[.int .i64 g.pl.b,.int .i64 g.pl.g,.int .i64 g.pl.l,.int .i64 g.pl.c] 28)=w3 at HS3 hp3 ⊢
   generalize w2.heap.size=a7 at ha3 hp3 ⊢
   have HP3:=hide hp3
   clear hp3
   refine (apu w3 q s _ gs i e HS3.out.scn (by omega) HQ.out hs g HG.out).mono ?_
   rintro r w4 ⟨o,ho,hO⟩
   obtain ⟨kd,tx,kk,rfl,hV⟩:=hO.v
   have HV:=hide hV
   have HO:=hide ho
   have HP4:=hide (HP3.out.tq hV.tq ha3.1)
   have HZ4:=hide (HS3.out.zer.tq hV.tq hfq)
   have HB4:=hide (aft HS3.out.bel hV.tq HS3.out.qw (Nat.le_refl _))
   clear hO hV ho HP3
   obtain ⟨hf7,p0,p1,p2,p3⟩:=HP4.out.cells
   by_cases hk:kk=0
   ·subst hk
    cases o with
    | bad k =>
     exfalso
     obtain ⟨h1,h2,_⟩:=HV.out.out
     simp only [tok0,Ending.returned.injEq,Value.tuple.injEq,Array.mk.injEq,List.cons.injEq,Value.int.injEq,true_and,and_true] at h2
     exact h1 h2.2.symm
    | ok kind text rest' =>
     obtain ⟨h2,hT4,j,hij,hdj,hS4⟩:=HV.out.out
     simp only [Ending.returned.injEq,Value.tuple.injEq,Array.mk.injEq,List.cons.injEq,Value.int.injEq,Value.agg.injEq,Value.string.injEq,true_and,and_true] at h2
     obtain ⟨rfl,rfl⟩:=h2
     have HS4:=hide (HS3.out.tq hT4 hS4)
     have HDJ:=hide hdj
     clear hT4 hS4 hdj HS3 HV HZ4 HB4
     have hone:∀ u ∈ ([.int .i64 kd,.string tx,.int .i64 g.pl.b,.int .i64 g.pl.g,.int .i64 g.pl.l,.int .i64 g.pl.c]:List Value),u.oneCell' = true:=by
      intro u hu
      simp only [List.mem_cons,List.not_mem_nil,or_false] at hu
      rcases hu with rfl | rfl | rfl | rfl | rfl | rfl <;> rfl
     have hown:=abz (abz HS4.out.own ((Below.refl _ _).alloc (Nat.le_refl _) (.cells #[.int .i64 kd,.string tx,.int .i64 g.pl.b,.int .i64 g.pl.g,.int .i64 g.pl.l,.int .i64 g.pl.c] 90))) ((Below.refl _ _).alloc (Nat.le_refl _) (.cells #[.int .i64 kd,.string tx,.int .i64 g.pl.b,.int .i64 g.pl.g,.int .i64 g.pl.l,.int .i64 g.pl.c] 90))
     have hsz:=HS4.out.siz
     go_wp2_with (at_builtin;refine wpList_append_lies _ rfl (.tmp 55) (.tmp 57) 82 rfl B 90 i0 _ 6 56 Tryz.underlying82 hi0 hz0 hz1 hz2 rfl (by decide) (.slice ta ts.length tc) ts.length (tflat ts) (by simp [Act.eval]) hown ⟨w4.heap.size+1,0,none⟩ 1 1 [.int .i64 kd,.string tx,.int .i64 g.pl.b,.int .i64 g.pl.g,.int .i64 g.pl.l,.int .i64 g.pl.c] (by simp [Act.eval]) rfl (by have:=World.news_of_block (heap_alloc_new (w4.alloc (.cells #[.int .i64 kd,.string tx,.int .i64 g.pl.b,.int .i64 g.pl.g,.int .i64 g.pl.l,.int .i64 g.pl.c] 90)) (.cells #[.int .i64 kd,.string tx,.int .i64 g.pl.b,.int .i64 g.pl.g,.int .i64 g.pl.l,.int .i64 g.pl.c] 90));rwa [World.size_alloc] at this) hone (by omega) (by unfold maxLen;omega) (by omega) (by simp [World.size_alloc];omega) _ rfl ?_;intro g1 cap1 w5 hown5 hgrow5 hat5 hlt5)
     have HS5:=hide ((HS4.out.below (abg _ _ _)).more (t:=⟨kd,tx,g.pl⟩) hgrow5 (by simpa [aex,tflat] using hown5))
     clear hown5 hgrow5 hat5 hlt5 hown hone hsz HS4
     refine (ai2 w5 q s _ gs j e HS5.out.scn (by omega)).mono ?_
     rintro r w6 ⟨rfl,ht6,j6,hj6,hdj6,hS6⟩
     have HS6:=hide (HS5.out.tq ht6 hS6)
     have HD6:=hide hdj6
     clear ht6 hS6 hdj6 HS5
     go_wp2
     go_roundw
     case rel =>
      refine ⟨ts ++ [⟨kd,tx,g.pl⟩],j6,some ⟨g1,0,none⟩,cap1,rest',by simp,?_,by simp;omega,by rw [HD6.out,HDJ.out],?_⟩
      ·have:=HS6.out
       simpa using this
      ·intro o ho
       have h1:=HE.out _ (ScanR.tok rest g (gs.drop (i+1)) kd tx rest' o (by rw [←HDI.out,HDR.out]) HO.out ho)
       rwa [asg] at h1
     case measure=>rw [IP.out,HS6.out.scn.nxt];have:=HS6.out.scn.le;omega
   ·have hk' : (kk != 0)=true:=by simp [hk]
    cases o with
    | ok kind text rest' =>
     exfalso
     obtain ⟨h2,_⟩:=HV.out.out
     simp only [Ending.returned.injEq,Value.tuple.injEq,Array.mk.injEq,List.cons.injEq,Value.int.injEq,Value.agg.injEq,Value.string.injEq,true_and,and_true] at h2
     exact hk h2.2
    | bad k =>
     obtain ⟨h1,h2,_⟩:=HV.out.out
     simp only [tok0,Ending.returned.injEq,Value.tuple.injEq,Array.mk.injEq,List.cons.injEq,Value.int.injEq,Value.agg.injEq,Value.string.injEq,true_and,and_true] at h2
     have hkk:kk=k:=h2.2
     have HKK:=hide hkk
     clear h2 hkk HV
     obtain ⟨hff,y0,y1,y2,y3⟩:=HZ4.out.cells
     have f0:=frozen_of_row w4 f 0 _ _ HZ4.out
     have f1:=frozen_of_row w4 f 1 _ _ HZ4.out
     have f2:=frozen_of_row w4 f 2 _ _ HZ4.out
     have f3:=frozen_of_row w4 f 3 _ _ HZ4.out
     go_wp2_with fail
     go_region
     go_wp2
     have hX:PlB ((((((w4.setCell ⟨f,0,none⟩ (.int .i64 g.pl.b)).setCell ⟨f,1,none⟩ (.int .i64 g.pl.g)).setCell ⟨f,2,none⟩ (.int .i64 g.pl.l)).setCell ⟨f,3,none⟩ (.int .i64 g.pl.c)).alloc (.cells #[.int .i64 kd,.string tx,.int .i64 0,.int .i64 0,.int .i64 0,.int .i64 0] 90)).drew) f g.pl:=(ash HZ4.out).below (((Below.refl _ _).alloc (Nat.le_refl _) _).drew)
     have hXB:Below w.heap.size w ((((((w4.setCell ⟨f,0,none⟩ (.int .i64 g.pl.b)).setCell ⟨f,1,none⟩ (.int .i64 g.pl.g)).setCell ⟨f,2,none⟩ (.int .i64 g.pl.l)).setCell ⟨f,3,none⟩ (.int .i64 g.pl.c)).alloc (.cells #[.int .i64 kd,.string tx,.int .i64 0,.int .i64 0,.int .i64 0,.int .i64 0] 90)).drew):=((anc HB4.out hf _ _ _ _).alloc (by have:=HB4.out.size;simpa [World.setCell] using this) _).drew
     generalize ((((((w4.setCell ⟨f,0,none⟩ (.int .i64 g.pl.b)).setCell ⟨f,1,none⟩ (.int .i64 g.pl.g)).setCell ⟨f,2,none⟩ (.int .i64 g.pl.l)).setCell ⟨f,3,none⟩ (.int .i64 g.pl.c)).alloc (.cells #[.int .i64 kd,.string tx,.int .i64 0,.int .i64 0,.int .i64 0,.int .i64 0] 90)).drew)=wf at hX hXB ⊢
     obtain ⟨_,x0,x1,x2,x3⟩:=hX.cells
     refine bodyPost_ret (v:=_) (by simp [results,Tryz.results41,go_sem,x0,x1,x2,x3];try rfl) rfl ⟨hXB,gs,e,.bad k g.pl,HQ.out,HE.out _ (ScanR.bad rest g (gs.drop (i+1)) k (by rw [←HDI.out,HDR.out]) HO.out),?_⟩
     show _ = _
     rw [HKK.out]
     rfl
  ·have hdr:gs.drop i = []:=List.drop_eq_nil_of_le (by omega)
   rw [hdr] at HDI
   have hj' : decide ((i:Int)<(gs.length:Int))=false:=by simp;omega
   clear hdr
   by_cases hbe:e.b<s.size
   ·have hbe' : (e.b:Int)<(s.size:Int):=by omega
    obtain ⟨hff,y0,y1,y2,y3⟩:=HS.out.zer.cells
    have f0:=frozen_of_row wr f 0 _ _ HS.out.zer
    have f1:=frozen_of_row wr f 1 _ _ HS.out.zer
    have f2:=frozen_of_row wr f 2 _ _ HS.out.zer
    have f3:=frozen_of_row wr f 3 _ _ HS.out.zer
    go_wp2_with fail
    go_quiet (fail)
    go_wp2_with fail
    go_region
    go_wp2
    refine bodyPost_ret (v:=_) (by simp [results,Tryz.results41,go_sem,y0,y1,y2,y3];try rfl) rfl ⟨?_,gs,e,.bad 40 e,HQ.out,HE.out _ (ScanR.rune rest HDI.out.symm hbe),rfl⟩
    have hB:=HS.out.bel
    (repeat' first|with_reducible(first|exact Below.refl _ _|assumption|refine gdrewN ?_ _|refine Below.alloc ?_ ?_ _|refine Below.drew ?_|refine Below.setCell ?_ ?_ _)|go_size)
   ·have hbe' : decide ((e.b:Int)<(s.size:Int))=false:=by simp;omega
    have hone:∀ u ∈ ([.int .i64 0,.string ⟨#[]⟩,.int .i64 e.b,.int .i64 e.g,.int .i64 e.l,.int .i64 e.c]:List Value),u.oneCell' = true:=by
     intro u hu
     simp only [List.mem_cons,List.not_mem_nil,or_false] at hu
     rcases hu with rfl | rfl | rfl | rfl | rfl | rfl <;> rfl
    go_wp2_with fail
    go_quiet (fail)
    have HS1:=hide (HS.out.below (gdrewN (Below.refl _ _) nq))
    clear HS k0 k1 k2 k3 k4 k5 k6 hq
    generalize wr.drewN nq=w1 at HS1 ⊢
    obtain ⟨hq,k0,k1,k2,k3,k4,k5,k6⟩:=HS1.out.scn.cells
    have hown:=abz HS1.out.own ((Below.refl _ _).alloc (Nat.le_refl _) (.cells #[.int .i64 0,.string ⟨#[]⟩,.int .i64 e.b,.int .i64 e.g,.int .i64 e.l,.int .i64 e.c] 90))
    have hsz:=HS1.out.siz
    go_wp2_with (at_builtin;refine wpList_append_lies _ rfl (.tmp 71) (.tmp 77) 82 rfl B 90 i0 _ 6 56 Tryz.underlying82 hi0 hz0 hz1 hz2 rfl (by decide) (.slice ta ts.length tc) ts.length (tflat ts) (by simp [Act.eval]) hown ⟨w1.heap.size,0,none⟩ 1 1 [.int .i64 0,.string ⟨#[]⟩,.int .i64 e.b,.int .i64 e.g,.int .i64 e.l,.int .i64 e.c] (by simp [Act.eval]) rfl (World.news_of_block (heap_alloc_new w1 (.cells #[.int .i64 0,.string ⟨#[]⟩,.int .i64 e.b,.int .i64 e.g,.int .i64 e.l,.int .i64 e.c] 90))) hone (by omega) (by unfold maxLen;omega) (by omega) (by simp [World.size_alloc];omega) _ rfl ?_;intro g1 cap1 w5 hown5 hgrow5 hat5 hlt5;have HS5:=hide ((HS1.out.below ((Below.refl _ _).alloc (Nat.le_refl _) _)).more (t:=⟨0,⟨#[]⟩,e⟩) hgrow5 (by simpa [aex,tflat] using hown5));obtain ⟨hff,y0,y1,y2,y3⟩:=HS5.out.zer.cells;have f0:=frozen_of_row w5 f 0 _ _ HS5.out.zer;have f1:=frozen_of_row w5 f 1 _ _ HS5.out.zer;have f2:=frozen_of_row w5 f 2 _ _ HS5.out.zer;have f3:=frozen_of_row w5 f 3 _ _ HS5.out.zer;clear hown5 hgrow5 hat5 hlt5)
    refine bodyPost_ret (v:=.tuple #[.slice (some ⟨g1,0,none⟩) (ts.length+1) cap1,.int .i64 0,plz.v]) (by simp [results,Tryz.results41,go_sem,y0,y1,y2,y3,plz,Pl.v]) rfl ⟨?_,gs,e,.ok (ts ++ [(⟨0,⟨#[]⟩,e⟩:Tk)]),HQ.out,HE.out _ (ScanR.done rest HDI.out.symm (by omega)),_,rfl,?_⟩
    ·have hB:=HS5.out.bel
     (repeat' first|with_reducible(first|exact Below.refl _ _|assumption|refine gdrewN ?_ _|refine Below.alloc ?_ ?_ _|refine Below.drew ?_|refine Below.setCell ?_ ?_ _)|go_size)
    ·have e5:(ts ++ [(⟨0,⟨#[]⟩,e⟩:Tk)]).length=ts.length+1:=by simp
     have h5:=HS5.out.own
     rw [e5] at h5 ⊢
     refine ase (ade h5 ?_) (show w.heap.size≤B by omega)
     intro k o hk he
     have hkf:k≠f:=by omega
     rw [heap_setCell_other _ ⟨f,3,none⟩ k _ hkf,heap_setCell_other _ ⟨f,2,none⟩ k _ hkf,heap_setCell_other _ ⟨f,1,none⟩ k _ hkf,heap_setCell_other _ ⟨f,0,none⟩ k _ hkf]
     exact he
theorem asi (w:World) (s:ByteArray) (hT:Tabs w) :
  Calls Tryz.prog 41 #[.string s] w fun r w'=>Below w.heap.size w w'∧((4096<s.size∧r=.returned (.tuple #[.slice none 0 0,.int .i64 2,plz.v]))∨(s.size≤4096∧∃ gs e o,Snd s pl0 gs e∧ScanR s e gs o∧ScanO w w' r o)):=by
 by_cases hs:4096<s.size
 ·exact (ahj w s hs).mono fun r w' h=>⟨h.1,.inl ⟨hs,h.2⟩⟩
 ·exact (agk w s hT (by omega)).mono fun r w' h=>⟨h.1,.inr ⟨by omega,h.2⟩⟩
theorem ajd {s:ByteArray} {p e:Pl} {gs:List Gl} {c k:Nat} (h:p.b<s.size) (hd:Utf8.decode s p.b=(c,k)) (hc:(c,k)≠(65533,1)) (hr:Snd s (p.past c k) gs e):Snd s p (⟨c,p⟩ :: gs) e:=by
 have:=Snd.go p gs e h (by rw [hd];exact hc) (by rw [hd];exact hr)
 rwa [hd] at this
theorem aje {s:ByteArray} {e:Pl} {g:Gl} {r t:List Gl} {x:ByteArray} (h:gcls g.code=2) (ht:(g :: r).dropWhile (inC [2,3,4])=t) (hl:¬ 16<(g :: r).length - t.length) (hx:s.extract g.pl.b (plf t e).b=x):TokR s e g r (.ok 1 x t):=by
 have:=aev (s:=s) (e:=e) (r:=r) h
 rwa [ht,if_neg hl,hx] at this
def Ts (w:World) (v:Value) (l:List Tk):Prop:=Ce w v 6 l.length (tflat l)
theorem Ts.below {w w' : World} {v:Value} {l:List Tk} (h:Ts w v l) (hb:Below w.heap.size w w'):Ts w' v l:=Ce.below h hb
theorem asj {l:List Tk} {i:Nat} {t:Tk} (h:l[i]? = some t):(tflat l)[i*6]? = some (.int .i64 t.kind)∧(tflat l)[i*6+1]? = some (.string t.text)∧(tflat l)[i*6+2]? = some (.int .i64 t.pl.b)∧(tflat l)[i*6+3]? = some (.int .i64 t.pl.g)∧(tflat l)[i*6+4]? = some (.int .i64 t.pl.l)∧(tflat l)[i*6+5]? = some (.int .i64 t.pl.c):=by
 induction l generalizing i with
 | nil=>simp at h
 | cons u l ih =>
  cases i with
  | zero =>
   simp at h
   subst h
   simp [tflat]
  | succ i =>
   have:=ih (i:=i) (by simpa using h)
   simp only [tflat,show (i+1)*6=i*6+6 from by omega]
   simpa using this
structure TkC (w:World) (b o:Nat) (t:Tk):Prop where
 hb:b<w.heap.size
 g0:w.cell? ⟨b,o,none⟩ = some (.int .i64 t.kind)
 g1:w.cell? ⟨b,o+1,none⟩ = some (.string t.text)
 g2:w.cell? ⟨b,o+2,none⟩ = some (.int .i64 t.pl.b)
 g3:w.cell? ⟨b,o+3,none⟩ = some (.int .i64 t.pl.g)
 g4:w.cell? ⟨b,o+4,none⟩ = some (.int .i64 t.pl.l)
 g5:w.cell? ⟨b,o+5,none⟩ = some (.int .i64 t.pl.c)
theorem TkC.below {w w' : World} {b o:Nat} {t:Tk} (h:TkC w b o t) (hb:Below w.heap.size w w'):TkC w' b o t :=
 ⟨Nat.lt_of_lt_of_le h.hb hb.size,(hb.cell (p:=⟨b,o,none⟩) h.hb).trans h.g0,(hb.cell (p:=⟨b,o+1,none⟩) h.hb).trans h.g1,(hb.cell (p:=⟨b,o+2,none⟩) h.hb).trans h.g2,(hb.cell (p:=⟨b,o+3,none⟩) h.hb).trans h.g3,(hb.cell (p:=⟨b,o+4,none⟩) h.hb).trans h.g4,(hb.cell (p:=⟨b,o+5,none⟩) h.hb).trans h.g5⟩
theorem Ts.tok {w:World} {ao:Option Addr} {n cap:Nat} {l:List Tk} {i:Nat} {t:Tk} (h:Ts w (.slice ao n cap) l) (hg:l[i]? = some t):∃ b off,ao=some ⟨b,off,none⟩∧TkC w b (off+i*6) t:=by
 obtain ⟨ao',cap',hv,c1,c2,c3,c4⟩:=h
 obtain ⟨rfl,rfl,rfl⟩:=(Value.slice.injEq .. ▸ hv)
 have hk:i<l.length:=(List.getElem?_eq_some_iff.1 hg).1
 rcases c4 with c4 | ⟨b,off,rfl,hl,hc⟩
 ·omega
 ·obtain ⟨f0,f1,f2,f3,f4,f5⟩:=asj hg
  exact ⟨b,off,rfl,hl,hc _ _ f0,hc _ _ f1,hc _ _ f2,hc _ _ f3,hc _ _ f4,hc _ _ f5⟩
theorem Ts.parts {w:World} {v:Value} {l:List Tk} (h:Ts w v l):∃ ao cap,v=.slice ao l.length cap∧l.length≤9223372036854775807:=by
 obtain ⟨ao,cap,rfl,c1,c2,c3,c4⟩:=h
 exact ⟨ao,cap,rfl,by omega⟩
theorem Ts.own {w:World} {base:Nat} {v:Value} {l:List Tk} (h:w.ownsRow base 90 6 v l.length (tflat l)):Ts w v l:=Ce.own h
def skc:Bool→List Nat→List Nat
 | _,[]=>[]
 | true,c :: cs=>skc (decide (c≠10)) cs
 | false,c :: cs=>if gcls c=6 then skc true cs else if gcls c=1 then skc false cs else c :: cs
def inK (ks:List Int) (c:Nat):Bool:=decide (gcls c ∈ ks)
def bts (l:List UInt8):ByteArray:=⟨l.toArray⟩
def Stop (ks:List Int) (r:List Nat):Prop:=∀ c t,r=c :: t→inK ks c=false
inductive TokC:List Nat→Int→ByteArray→List Nat→Prop
 | name (c:Nat) (u r:List Nat) (hc:gcls c=2) (hu:∀ d ∈ c :: u,inK [2,3,4] d=true) (hr:Stop [2,3,4] r) (hl:(c :: u).length≤16):TokC ((c :: u) ++ r) 1 (bts (encs (c :: u))) r
 | num (c:Nat) (u r:List Nat) (n:Nat) (ds:List Int) (hu:∀ d ∈ c :: u,inK [3] d=true) (hr:Stop [3] r) (hn:IsLen (dval (bytesOf (bts (encs (c :: u))))) n) (hl:n≤32) (hd:IsDec ds (dval (bytesOf (bts (encs (c :: u)))))):TokC ((c :: u) ++ r) 2 (strOfNums ds) r
 | two (c:Nat) (x:Int) (r:List Nat) (h:(c=8788∧x=58)∨(c=8800∧x=33)):TokC ([c] ++ r) 3 (strOfNums [x,61]) r
 | pair (c:Nat) (r:List Nat) (h:c=58∨c=33):TokC ([c,61] ++ r) 3 (strOfNums [(c:Int),61]) r
 | sign (c:Nat) (r:List Nat) (hc:gcls c=5) (h:c≠8788∧c≠8800∧c≠58∧c≠33):TokC ([c] ++ r) 3 (strOfNums [gfold c]) r
inductive ScanC:List Nat→List (Int × ByteArray)→Prop
 | done (r:List Nat) (h:skc false r = []):ScanC r [(0,⟨#[]⟩)]
 | tok (r:List Nat) (k:Int) (x:ByteArray) (rest:List Nat) (ts:List (Int × ByteArray)) (h:TokC (skc false r) k x rest) (hr:ScanC rest ts):ScanC r ((k,x) :: ts)
theorem aa7 (p:Pl) (a b:List Nat):adv p (a ++ b)=adv (adv p a) b:=by
 induction a generalizing p with
 | nil=>rfl
 | cons c a ih=>simp only [List.cons_append,adv,ih]
theorem abi (a b:List Nat):encs (a ++ b)=encs a ++ encs b:=by
 induction a with
 | nil=>rfl
 | cons c a ih=>simp only [List.cons_append,encs,ih,List.append_assoc]
theorem afb (p:Pl) (cs:List Nat):plf (glf p cs) (adv p cs)=p:=by
 cases cs <;> rfl
theorem ac8 (b:Bool) (p:Pl) (cs:List Nat):∃ a,cs=a ++ skc b cs∧skp b (glf p cs)=glf (adv p a) (skc b cs):=by
 induction cs generalizing b p with
 | nil=>exact ⟨[],by cases b <;> rfl,by cases b <;> rfl⟩
 | cons c cs ih =>
  cases b with
  | true =>
   obtain ⟨a,h1,h2⟩:=ih (decide (c≠10)) (p.past c (encL c).length)
   refine ⟨c :: a,?_,?_⟩
   ·rw [skc,List.cons_append,←h1]
   ·simp only [glf,skp,skc]
    rw [h2];rfl
  | false =>
   by_cases h6:gcls c=6
   ·obtain ⟨a,h1,h2⟩:=ih true (p.past c (encL c).length)
    refine ⟨c :: a,?_,?_⟩
    ·rw [skc,if_pos h6,List.cons_append,←h1]
    ·simp only [glf,skp,skc]
     rw [if_pos h6,if_pos h6,h2];rfl
   ·by_cases h1c:gcls c=1
    ·obtain ⟨a,h1,h2⟩:=ih false (p.past c (encL c).length)
     refine ⟨c :: a,?_,?_⟩
     ·rw [skc,if_neg h6,if_pos h1c,List.cons_append,←h1]
     ·simp only [glf,skp,skc]
      rw [if_neg h6,if_pos h1c,if_neg h6,if_pos h1c,h2];rfl
    ·refine ⟨[],?_,?_⟩
     ·rw [skc,if_neg h6,if_neg h1c];rfl
     ·simp only [glf,skp,skc]
      rw [if_neg h6,if_neg h1c,if_neg h6,if_neg h1c];rfl
theorem ab5 (ks:List Int) (p:Pl) (cs:List Nat):∃ u r,cs=u ++ r∧(glf p cs).dropWhile (inC ks)=glf (adv p u) r∧(∀ d ∈ u,inK ks d=true)∧Stop ks r:=by
 induction cs generalizing p with
 | nil=>exact ⟨[],[],rfl,rfl,by simp,by intro c t h;cases h⟩
 | cons c cs ih =>
  by_cases hc:inK ks c=true
  ·obtain ⟨u,r,h1,h2,h3,h4⟩:=ih (p.past c (encL c).length)
   refine ⟨c :: u,r,by rw [List.cons_append,←h1],?_,?_,h4⟩
   ·rw [glf,List.dropWhile_cons_of_pos (show inC ks ⟨c,p⟩ = true from hc),h2];rfl
   ·intro d hd
    rcases List.mem_cons.1 hd with rfl | hd
    ·exact hc
    ·exact h3 d hd
  ·refine ⟨[],c :: cs,rfl,?_,by simp,?_⟩
   ·rw [glf,List.dropWhile_cons_of_neg (show ¬ inC ks ⟨c,p⟩ = true from hc)];rfl
   ·intro d t h
    obtain ⟨rfl,rfl⟩:=List.cons.inj h
    simpa using hc
theorem afy {ks:List Int} : ∀ {u r u' r' : List Nat},u ++ r=u' ++ r'→(∀ d ∈ u,inK ks d=true)→(∀ d ∈ u',inK ks d=true)→Stop ks r→Stop ks r'→u=u'∧r=r'
 | [],r,[],r',h,_,_,_,_=>⟨rfl,h⟩
 | [],r,c :: u',r',h,_,h2,h3,_=>by
  have:=h3 c (u' ++ r') h
  rw [h2 c (by simp)] at this
  cases this
 | c :: u,r,[],r',h,h1,_,_,h4=>by
  have:=h4 c (u ++ r) h.symm
  rw [h1 c (by simp)] at this
  cases this
 | c :: u,r,d :: u',r',h,h1,h2,h3,h4=>by
  obtain ⟨rfl,h'⟩:=List.cons.inj h
  obtain ⟨e1,e2⟩:=afy h' (fun x hx=>h1 x (by simp [hx])) (fun x hx=>h2 x (by simp [hx])) h3 h4
  exact ⟨by rw [e1],e2⟩
theorem ab0 (s:ByteArray) (L:List UInt8) (u r:List Nat) (p:Pl) (hp:p.b=L.length) (h:s.data.toList=L ++ encs (u ++ r)):s.extract p.b (adv p u).b=bts (encs u):=by
 have hd:(s.extract p.b (adv p u).b).data.toList=encs u:=by
  rw [ByteArray.data_extract,Array.toList_extract,List.extract_eq_take_drop,h,abi,ae9,hp,List.drop_left,show L.length+(encs u).length - L.length=(encs u).length from by omega,List.take_left]
 cases hx:s.extract p.b (adv p u).b with
 | mk d =>
  rw [hx] at hd
  unfold bts
  rw [←hd]
theorem aky {c:Nat} (h1:c≠8788) (h2:c≠8800):gfold c≠8788∧gfold c≠8800:=by
 unfold gfold
 repeat' split
 all_goals omega
theorem ajf {c:Nat} : gfold c=58↔c=58:=by
 unfold gfold
 repeat' split
 all_goals omega
theorem ajg {c:Nat} : gfold c=33↔c=33:=by
 unfold gfold
 repeat' split
 all_goals omega
theorem awd (s:ByteArray) (L:List UInt8) (c:Nat) (t:List Nat) (p:Pl) (hp:p.b=L.length) (h:s.data.toList=L ++ encs (c :: t)) (k:Int) (x:ByteArray) (rest:List Gl)
  (hT:TokR s (adv p (c :: t)) ⟨c,p⟩ (glf (p.past c (encL c).length) t) (.ok k x rest)):∃ v r,c :: t=v ++ r∧rest=glf (adv p v) r∧TokC (c :: t) k x r:=by
 unfold TokR at hT
 have hgl:(⟨c,p⟩:Gl) :: glf (p.past c (encL c).length) t=glf p (c :: t):=rfl
 rw [hgl] at hT
 simp only at hT
 by_cases c2:gcls c=2
 ·rw [if_pos c2] at hT
  obtain ⟨u,r,h1,h2,h3,h4⟩:=ab5 [2,3,4] p (c :: t)
  have hcu:∃ u',u=c :: u' := by
   cases u with
   | nil =>
    have:=h4 c t (by simpa using h1.symm)
    simp [inK,c2] at this
   | cons d u' =>
    obtain ⟨rfl,_⟩:=List.cons.inj h1
    exact ⟨u',rfl⟩
  obtain ⟨u',rfl⟩:=hcu
  rw [h2] at hT
  by_cases h16:16<(glf p (c :: t)).length - (glf (adv p (c :: u')) r).length
  ·rw [if_pos h16] at hT;cases hT
  ·rw [if_neg h16] at hT
   injection hT with e1 e2 e3
   subst e1 e3
   rw [ae8,ae8] at h16
   have hpe:plf (glf (adv p (c :: u')) r) (adv p (c :: t))=adv p (c :: u'):=by rw [h1,aa7,afb]
   rw [hpe,ab0 s L (c :: u') r p hp (by rw [h,h1])] at e2
   refine ⟨c :: u',r,h1,rfl,?_⟩
   rw [e2,h1]
   refine .name c u' r c2 h3 h4 ?_
   rw [h1,List.length_append] at h16
   omega
 ·rw [if_neg c2] at hT
  by_cases c3:gcls c=3
  ·rw [if_pos c3] at hT
   obtain ⟨n,ds,hn,hd,hT⟩:=hT
   obtain ⟨u,r,h1,h2,h3,h4⟩:=ab5 [3] p (c :: t)
   have hcu:∃ u',u=c :: u' := by
    cases u with
    | nil =>
     have:=h4 c t (by simpa using h1.symm)
     simp [inK,c3] at this
    | cons d u' =>
     obtain ⟨rfl,_⟩:=List.cons.inj h1
     exact ⟨u',rfl⟩
   obtain ⟨u',rfl⟩:=hcu
   have hpe:plf (glf (adv p (c :: u')) r) (adv p (c :: t))=adv p (c :: u'):=by rw [h1,aa7,afb]
   rw [h2,hpe,ab0 s L (c :: u') r p hp (by rw [h,h1])] at hn hd
   rw [h2] at hT
   by_cases h32:32<n
   ·rw [if_pos h32] at hT;cases hT
   ·rw [if_neg h32] at hT
    injection hT with e1 e2 e3
    subst e1 e3
    refine ⟨c :: u',r,h1,rfl,?_⟩
    rw [e2,h1]
    exact .num c u' r n ds h3 h4 hn (by omega) hd
  ·rw [if_neg c3] at hT
   by_cases c5:gcls c=5
   ·rw [if_pos c5] at hT
    unfold signS at hT
    by_cases a1:gfold c=8788
    ·rw [if_pos a1] at hT
     injection hT with e1 e2 e3
     subst e1 e2 e3
     have hc:c=8788:=by
      unfold gfold at a1
      repeat' split at a1
      all_goals omega
     exact ⟨[c],t,rfl,rfl,.two c 58 t (.inl ⟨hc,rfl⟩)⟩
    rw [if_neg a1] at hT
    by_cases a2:gfold c=8800
    ·rw [if_pos a2] at hT
     injection hT with e1 e2 e3
     subst e1 e2 e3
     have hc:c=8800:=by
      unfold gfold at a2
      repeat' split at a2
      all_goals omega
     exact ⟨[c],t,rfl,rfl,.two c 33 t (.inr ⟨hc,rfl⟩)⟩
    rw [if_neg a2] at hT
    by_cases a3:gfold c=58∨gfold c=33
    ·rw [if_pos a3] at hT
     cases t with
     | nil=>cases hT
     | cons d t =>
      simp only [glf] at hT
      by_cases hd:d=61
      ·rw [if_pos hd] at hT
       injection hT with e1 e2 e3
       subst e1 e2 e3 hd
       have hc:c=58∨c=33:=by
        rcases a3 with a | a
        ·exact .inl (ajf.1 a)
        ·exact .inr (ajg.1 a)
       have hg:gfold c=(c:Int):=by rcases hc with rfl | rfl <;> rfl
       rw [hg]
       exact ⟨[c,61],t,rfl,rfl,.pair c t hc⟩
      ·rw [if_neg hd] at hT;cases hT
    ·rw [if_neg a3] at hT
     injection hT with e1 e2 e3
     subst e1 e2 e3
     refine ⟨[c],t,rfl,rfl,.sign c t c5 ⟨?_,?_,?_,?_⟩⟩
     ·rintro rfl;exact a1 rfl
     ·rintro rfl;exact a2 rfl
     ·rintro rfl;exact a3 (.inl rfl)
     ·rintro rfl;exact a3 (.inr rfl)
   ·rw [if_neg c5] at hT;cases hT
theorem awe (s:ByteArray) (L:List UInt8) (cs:List Nat) (p:Pl) (hp:p.b=L.length) (h:s.data.toList=L ++ encs cs) (k:Int) (x:ByteArray) (r:List Nat) (hT:TokC cs k x r) :
  ∃ c t v,cs=c :: t∧cs=v ++ r∧TokR s (adv p cs) ⟨c,p⟩ (glf (p.past c (encL c).length) t) (.ok k x (glf (adv p v) r)):=by
 cases hT with
 | name c u _ hc hu hr hl =>
  refine ⟨c,u ++ r,c :: u,rfl,rfl,?_⟩
  obtain ⟨u2,r2,h1,h2,h3,h4⟩:=ab5 [2,3,4] p (c :: u ++ r)
  obtain ⟨e1,e2⟩:=afy h1 hu h3 hr h4
  subst e1 e2
  have:=aev (s:=s) (e:=adv p (c :: u ++ r)) (g:=⟨c,p⟩) (r:=glf (p.past c (encL c).length) (u ++ r)) hc
  have hgl:(⟨c,p⟩:Gl) :: glf (p.past c (encL c).length) (u ++ r)=glf p (c :: u ++ r):=rfl
  rw [hgl,h2,if_neg (by rw [ae8,ae8,List.length_append];omega)] at this
  have hpe:plf (glf (adv p (c :: u)) r) (adv p (c :: u ++ r))=adv p (c :: u):=by rw [aa7,afb]
  rw [hpe] at this
  rw [←ab0 s L (c :: u) r p hp h]
  exact this
 | num c u _ n ds hu hr hn hl hd =>
  refine ⟨c,u ++ r,c :: u,rfl,rfl,?_⟩
  obtain ⟨u2,r2,h1,h2,h3,h4⟩:=ab5 [3] p (c :: u ++ r)
  obtain ⟨e1,e2⟩:=afy h1 hu h3 hr h4
  subst e1 e2
  have hpe:plf (glf (adv p (c :: u)) r) (adv p (c :: u ++ r))=adv p (c :: u):=by rw [aa7,afb]
  have hgl:(⟨c,p⟩:Gl) :: glf (p.past c (encL c).length) (u ++ r)=glf p (c :: u ++ r):=rfl
  have hc:gcls c=3:=by have:=hu c (by simp);simpa [inK] using this
  have:=ajb (s:=s) (e:=adv p (c :: u ++ r)) (g:=⟨c,p⟩) (r:=glf (p.past c (encL c).length) (u ++ r)) (n:=n) (ds:=ds) hc (by rw [hgl,h2,hpe,ab0 s L (c :: u) r p hp h];exact hn) (by rw [hgl,h2,hpe,ab0 s L (c :: u) r p hp h];exact hd)
  rw [hgl,h2,if_neg (by omega)] at this
  exact this
 | two c x _ hh =>
  refine ⟨c,r,[c],rfl,rfl,?_⟩
  rcases hh with ⟨rfl,rfl⟩ | ⟨rfl,rfl⟩
  ·exact acg (show gcls 8788=5 by decide)
  ·exact acg (show gcls 8800=5 by decide)
 | pair c _ hh =>
  refine ⟨c,61 :: r,[c,61],rfl,rfl,?_⟩
  rcases hh with rfl | rfl
  ·exact acg (show gcls 58=5 by decide)
  ·exact acg (show gcls 33=5 by decide)
 | sign c _ hc hh =>
  refine ⟨c,r,[c],rfl,rfl,?_⟩
  have:=acg (s:=s) (e:=adv p ([c] ++ r)) (g:=⟨c,p⟩) (r:=glf (p.past c (encL c).length) r) hc
  have hf:=aky hh.1 hh.2.1
  unfold signS at this
  simp only at this
  rw [if_neg hf.1,if_neg hf.2,if_neg (by rw [ajf,ajg];omega)] at this
  exact this
theorem aut (s:ByteArray) (cs:List Nat) (L:List UInt8) (p:Pl) (hp:p.b=L.length) (h:s.data.toList=L ++ encs cs) (l:List Tk) (hR:ScanR s (adv p cs) (glf p cs) (.ok l)):ScanC cs (l.map fun t=>(t.kind,t.text)):=by
 generalize hg:glf p cs=gs at hR
 generalize he:adv p cs=e at hR
 generalize ho:SO.ok l=o at hR
 induction hR generalizing cs L p l with
 | done r h1 hb =>
  cases ho
  subst hg
  obtain ⟨a,h2,h3⟩:=ac8 false p cs
  rw [h1] at h3
  refine .done cs ?_
  cases hx:skc false cs with
  | nil=>rfl
  | cons c t=>rw [hx] at h3;cases h3
 | rune r h1 hb=>cases ho
 | bad r g t k h1 ht=>cases ho
 | tok r g t kind text rest o h1 ht hr ih =>
  subst hg he
  cases o with
  | bad k p=>cases ho
  | ok l' =>
   simp only [SO.pre,SO.ok.injEq] at ho
   subst ho
   obtain ⟨a,h2,h3⟩:=ac8 false p cs
   rw [h1] at h3
   cases hx:skc false cs with
   | nil=>rw [hx] at h3;cases h3
   | cons c t' =>
    rw [hx] at h3 h2
    simp only [glf] at h3
    obtain ⟨rfl,rfl⟩:=List.cons.inj h3
    have hpa:(adv p a).b=(L ++ encs a).length:=by rw [ae9,hp,List.length_append]
    have hsa:s.data.toList=(L ++ encs a) ++ encs (c :: t'):=by rw [h,List.append_assoc,←abi,←h2]
    have hea:adv p cs=adv (adv p a) (c :: t'):=by rw [←aa7,←h2]
    rw [hea] at ht
    obtain ⟨v,r,h4,rfl,h6⟩:=awd s _ c t' _ hpa hsa _ _ _ ht
    refine .tok cs _ _ r _ (by rw [hx];exact h6) ?_
    exact ih r ((L ++ encs a) ++ encs v) (adv (adv p a) v) (by rw [ae9,hpa,←List.length_append]) (by rw [hsa,h4,abi,List.append_assoc,List.append_assoc,List.append_assoc]) l' rfl (by rw [hea,h4,aa7]) rfl
theorem agl (u:List Nat) (h:∀ c ∈ u,c<128):encs u=u.map Nat.toUInt8:=by
 induction u with
 | nil=>rfl
 | cons c u ih =>
  rw [encs,ih (fun d hd=>h d (by simp [hd]))]
  unfold encL
  rw [if_pos (h c (by simp))]
  rfl
theorem aw7 (ds:List Int) (h:∀ d ∈ ds,0≤d∧d<128):strOfNums ds=bts (encs (ds.map Int.toNat)):=by
 rw [agl _ (by intro c hc;obtain ⟨d,hd,rfl⟩:=List.mem_map.1 hc;have:=h d hd;omega)]
 unfold strOfNums bts
 congr 2
 rw [List.map_map]
 rfl
theorem akz (ds:List Int) (h:∀ d ∈ ds,0≤d∧d<128):bytesOf (bts (encs (ds.map Int.toNat)))=ds:=by
 rw [agl _ (by intro c hc;obtain ⟨d,hd,rfl⟩:=List.mem_map.1 hc;have:=h d hd;omega)]
 unfold bytesOf bts
 rw [List.map_map]
 simp only [List.map_map]
 conv=>rhs;rw [←List.map_id ds]
 apply List.map_congr_left
 intro d hd
 have:=h d hd
 simp only [Function.comp_apply,id]
 rw [Nat.toUInt8,UInt8.toNat_ofNat']
 omega
theorem apz {c:Nat} (h:c<128):Cod c:=⟨by omega,.inl (by omega)⟩
theorem ahy {c:Nat} (h:48≤c∧c≤57):gcls (c:Int)=3:=by
 unfold gcls
 rw [if_neg (by omega),if_neg (by unfold glatin ggreek gcyr;omega),if_pos (by omega)]
theorem aca {c:Nat} {k:Int} (h:gcls (c:Int)=k) (h6:k≠6) (h1:k≠1) (t:List Nat):skc false (c :: t)=c :: t:=by
 rw [skc,if_neg (by omega),if_neg (by omega)]
theorem TokC.skc {cs:List Nat} {k:Int} {x:ByteArray} {r:List Nat} (h:TokC cs k x r):skc false cs=cs:=by
 cases h with
 | name c u _ h2 hu hr hl=>exact aca h2 (by decide) (by decide) _
 | num c u _ n ds hu hr hn hl hd =>
  have h3:gcls (c:Int)=3:=by have:=hu c (by simp);simpa [inK] using this
  exact aca h3 (by decide) (by decide) _
 | two c x _ hh =>
  rcases hh with ⟨rfl,rfl⟩ | ⟨rfl,rfl⟩
  ·exact aca (c:=8788) (k:=5) (by decide) (by decide) (by decide) _
  ·exact aca (c:=8800) (k:=5) (by decide) (by decide) (by decide) _
 | pair c _ hh =>
  rcases hh with rfl | rfl
  ·exact aca (c:=58) (k:=5) (by decide) (by decide) (by decide) _
  ·exact aca (c:=33) (k:=5) (by decide) (by decide) (by decide) _
 | sign c _ h5 hh=>exact aca h5 (by decide) (by decide) _
theorem ap0 {n b0 b1 b2 b3:Nat} (_h0:b0<256) (_h1:b1<256) (_h2:b2<256) (_h3:b3<256) {c k:Nat} (h:Lib.decodeN n b0 b1 b2 b3=(c,k)) (hv:(c,k)≠(65533,1)) :
  (k=1∧c=b0∧c<128)∨(k=2∧128≤c∧c<2048∧b0=192+c / 64∧b1=128+c % 64) ∨
  (k=3∧2048≤c∧c<65536∧b0=224+c / 4096∧b1=128+c / 64 % 64∧b2=128+c % 64) ∨
  (k=4∧65536≤c∧c≤1114111∧b0=240+c / 262144∧b1=128+c / 4096 % 64∧b2=128+c / 64 % 64∧b3=128+c % 64):=by
 unfold Lib.decodeN at h
 repeat' split at h
 all_goals try exact absurd h.symm hv
 all_goals (simp only [Prod.mk.injEq] at h;obtain ⟨rfl,rfl⟩:=h)
 ·exact .inl (by omega)
 ·exact .inr (.inl (by omega))
 ·exact .inr (.inr (.inl (by omega)))
 ·exact .inr (.inr (.inr (by omega)))
theorem abp (s:ByteArray) (i:Nat) (h:i<s.size) (k:Nat) (hk:i+(k+1)≤s.size):(s.extract i (i+(k+1))).data.toList=s.get! i :: (s.extract (i+1) (i+1+k)).data.toList:=by
 have hl:i<s.data.toList.length:=h
 rw [ByteArray.data_extract,ByteArray.data_extract,Array.toList_extract,Array.toList_extract,List.extract_eq_take_drop,List.extract_eq_take_drop,List.drop_eq_getElem_cons hl,show i+(k+1) - i=k+1 from by omega,show i+1+k - (i+1)=k from by omega,List.take_succ_cons]
 congr 1
 cases s with
 | mk d=>exact (getElem!_pos d i h).symm
theorem afc (s:ByteArray) (i:Nat):(s.extract i (i+0)).data.toList = []:=by
 rw [ByteArray.data_extract];simp
theorem ask {n b0 b1 b2 b3:Nat} (h0:b0<256) {c k:Nat} (h:Lib.decodeN n b0 b1 b2 b3=(c,k)) (hv:(c,k)≠(65533,1)):Cod c:=by
 unfold Lib.decodeN at h
 repeat' split at h
 all_goals try exact absurd h.symm hv
 all_goals (simp only [Prod.mk.injEq] at h;obtain ⟨rfl,rfl⟩:=h)
 all_goals (unfold Cod;omega)
theorem acu {u:UInt8} {n:Nat} (h:u.toNat=n):u=n.toUInt8:=by
 subst h
 exact UInt8.toNat_inj.1 (by rw [Nat.toUInt8,UInt8.toNat_ofNat'];have:=UInt8.toNat_lt u;omega)
theorem ap1 (s:ByteArray) (i:Nat) (h:i<s.size) (hv:Utf8.decode s i≠(65533,1)):Cod (Utf8.decode s i).1∧(s.extract i (i+(Utf8.decode s i).2)).data.toList=encL (Utf8.decode s i).1∧(Utf8.decode s i).2=(encL (Utf8.decode s i).1).length:=by
 have hl:=adb s i h
 obtain ⟨c,k,e⟩:∃ c k,Utf8.decode s i=(c,k):=⟨_,_,rfl⟩
 rw [e] at hv hl ⊢
 rw [Lib.decode_at] at e
 simp only at hl ⊢
 refine ⟨ask (UInt8.toNat_lt _) e hv,?_⟩
 rcases ap0 (UInt8.toNat_lt _) (UInt8.toNat_lt _) (UInt8.toNat_lt _) (UInt8.toNat_lt _) e hv with ⟨rfl,h1,h2⟩ | ⟨rfl,h1,h2,h3,h4⟩ | ⟨rfl,h1,h2,h3,h4,h5⟩ | ⟨rfl,h1,h2,h3,h4,h5,h6⟩
 ·unfold encL
  rw [if_pos h2,abp s i h 0 (by omega),afc,acu h1.symm]
  exact ⟨rfl,rfl⟩
 ·unfold encL
  rw [if_neg (by omega),if_pos h2,abp s i h 1 (by omega),abp s (i+1) (by omega) 0 (by omega),afc,acu h3,acu h4]
  exact ⟨rfl,rfl⟩
 ·unfold encL
  rw [if_neg (by omega),if_neg (by omega),if_pos h2,abp s i h 2 (by omega),abp s (i+1) (by omega) 1 (by omega),abp s (i+1+1) (by omega) 0 (by omega),afc,acu h3,acu h4,acu h5]
  exact ⟨rfl,rfl⟩
 ·unfold encL
  rw [if_neg (by omega),if_neg (by omega),if_neg (by omega),abp s i h 3 (by omega),abp s (i+1) (by omega) 2 (by omega),abp s (i+1+1) (by omega) 1 (by omega),abp s (i+1+1+1) (by omega) 0 (by omega),afc,acu h3,acu h4,acu h5,acu h6]
  exact ⟨rfl,rfl⟩
theorem ap2 {s:ByteArray} {p e:Pl} {gs:List Gl} (h:Snd s p gs e) (he:s.size≤e.b) (hb:p.b≤s.size):∃ cs,gs=glf p cs∧e=adv p cs∧(∀ c ∈ cs,Cod c)∧(s.data.toList.drop p.b)=encs cs:=by
 induction h with
 | stop p h =>
  refine ⟨[],rfl,rfl,by simp,?_⟩
  rw [List.drop_eq_nil_of_le (by show s.data.toList.length≤p.b;exact he)]
  rfl
 | go p gs e h1 h2 hr ih =>
  have hd:=adb s p.b h1
  obtain ⟨k1,k2,k3⟩:=ap1 s p.b h1 h2
  obtain ⟨cs,i1,i2,i3,i4⟩:=ih he (by simp only [Pl.past];omega)
  rw [k3] at i1 i2
  refine ⟨(Utf8.decode s p.b).1 :: cs,by rw [i1];rfl,by rw [i2];rfl,?_,?_⟩
  ·intro c hc
   rcases List.mem_cons.1 hc with rfl | hc
   ·exact k1
   ·exact i3 c hc
  ·rw [encs,←i4,←k2,ByteArray.data_extract,Array.toList_extract,List.extract_eq_take_drop,show p.b+(Utf8.decode s p.b).2 - p.b=(Utf8.decode s p.b).2 from by omega]
   simp only [Pl.past]
   rw [←List.drop_drop,List.take_append_drop]
theorem ap3 {s:ByteArray} {e:Pl} {gs:List Gl} {l:List Tk} (h:ScanR s e gs (.ok l)):s.size≤e.b:=by
 generalize ho:SO.ok l=o at h
 induction h generalizing l with
 | done r h hb=>exact hb
 | rune r h hb=>cases ho
 | bad r g t k h ht=>cases ho
 | tok r g t kind text rest o h ht hr ih =>
  cases o with
  | bad k p=>cases ho
  | ok l'=>exact ih rfl
theorem asl {s:ByteArray} {e:Pl} {g:Gl} {r:List Gl} {k:Int} (h:TokR s e g r (.bad k)):k=42∨k=2∨k=41:=by
 unfold TokR at h
 split at h
 ·split at h
  ·injection h with h;exact .inl h
  ·cases h
 ·split at h
  ·obtain ⟨n,ds,_,_,h⟩:=h
   split at h
   ·injection h with h;exact .inr (.inl h)
   ·cases h
  ·split at h
   ·unfold signS at h
    split at h
    ·cases h
    ·split at h
     ·cases h
     ·split at h
      ·split at h
       ·injection h with h;exact .inr (.inr h)
       ·split at h
        ·cases h
        ·injection h with h;exact .inr (.inr h)
      ·cases h
   ·injection h with h;exact .inr (.inr h)
theorem ahk {s:ByteArray} {e:Pl} {gs:List Gl} {k:Int} {p:Pl} (h:ScanR s e gs (.bad k p)):k≠0:=by
 generalize ho:SO.bad k p=o at h
 induction h with
 | done r h hb=>cases ho
 | rune r h hb=>injection ho with e1 _;omega
 | bad r g t k' h ht =>
  injection ho with e1 _
  subst e1
  rcases asl ht with h | h | h <;> omega
 | tok r g t kind text rest o h ht hr ih =>
  cases o with
  | bad k' p'=>exact ih ho
  | ok l'=>cases ho
theorem asm (c:Bool) (l:List Gl):∃ j,j≤l.length∧skp c l=l.drop j:=by
 induction l generalizing c with
 | nil=>exact ⟨0,Nat.le_refl _,by cases c <;> rfl⟩
 | cons x l ih =>
  cases c with
  | true =>
   obtain ⟨j,h1,h2⟩:=ih (decide (x.code≠10))
   exact ⟨j+1,by simp;omega,by rw [skp,h2];rfl⟩
  | false =>
   by_cases h6:gcls x.code=6
   ·obtain ⟨j,h1,h2⟩:=ih true
    exact ⟨j+1,by simp;omega,by rw [skp,if_pos h6,h2];rfl⟩
   ·by_cases h1c:gcls x.code=1
    ·obtain ⟨j,h1,h2⟩:=ih false
     exact ⟨j+1,by simp;omega,by rw [skp,if_neg h6,if_pos h1c,h2];rfl⟩
    ·exact ⟨0,Nat.zero_le _,by rw [skp,if_neg h6,if_neg h1c];rfl⟩
def nmS (s:ByteArray):SO→Bool
 | .ok (t :: _)=>(t.kind == 1) && (t.text.toList == s.toList)
 | _=>false
theorem asn {u:List Nat} (h:encs u = []):u = []:=by
 cases u with
 | nil=>rfl
 | cons c u =>
  have h1:=ai6 c
  have h2:=congrArg List.length h
  simp only [encs,List.length_append,List.length_nil] at h2
  omega
theorem aso {s:ByteArray} {gs:List Gl} {e:Pl} {l:List Tk} (hQ:Snd s pl0 gs e) (hR:ScanR s e gs (.ok l)):∃ t r,l=t :: r∧(t.kind=1→t.text=s→l.length=2):=by
 obtain ⟨cs,rfl,rfl,hc,hb⟩:=ap2 hQ (ap3 hR) (Nat.zero_le _)
 have hsb:s.data.toList = [] ++ encs cs:=by simpa [pl0] using hb
 have hC:=aut s cs [] pl0 rfl hsb l hR
 generalize hm:(l.map fun t=>(t.kind,t.text))=ts at hC
 cases hC with
 | done _ h1 =>
  cases l with
  | nil=>simp at hm
  | cons t r =>
   refine ⟨t,r,rfl,fun hk _=>?_⟩
   simp only [List.map_cons,List.cons.injEq,Prod.mk.injEq] at hm
   omega
 | tok _ k x rest ts' h1 h2 =>
  cases l with
  | nil=>simp at hm
  | cons t r =>
   refine ⟨t,r,rfl,fun hk hx=>?_⟩
   simp only [List.map_cons,List.cons.injEq,Prod.mk.injEq] at hm
   obtain ⟨⟨e1,e2⟩,e3⟩:=hm
   obtain ⟨a,hsp,_⟩:=ac8 false pl0 cs
   have hk1:k=1:=by omega
   have hxs:x=s:=by rw [←e2,hx]
   clear e1 e2 hk hx
   subst hk1
   generalize hq:skc false cs=q at h1 hsp
   cases h1 with
   | name c u _ hc2 hu hr hl =>
    have h3:=congrArg (fun b=>b.data.toList) hxs
    rw [hsb,hsp,abi,abi] at h3
    simp only [bts,List.nil_append] at h3
    have h4:=congrArg List.length h3
    simp only [List.length_append] at h4
    have h5:encs rest = []:=List.eq_nil_of_length_eq_zero (by omega)
    have h6:=asn h5
    subst h6
    cases h2 with
    | done _ _ =>
     have:=congrArg List.length e3
     simpa using this
    | tok _ _ _ _ _ h7 _ =>
     exfalso
     generalize hz:skc false []=z at h7
     have:z = []:=by rw [←hz];rfl
     subst this
     generalize hy:([]:List Nat)=y at h7
     cases h7 <;> simp at hy
set_option maxRecDepth 20000 in
set_option maxHeartbeats 2000000 in
theorem ap4 (w:World) (hT:Tabs w) (s:ByteArray) (hs:s.size≤4096) (gs:List Gl) (e:Pl) (hQ:Snd s pl0 gs e) :
  Calls Tryz.prog 39 #[.string s] w fun r w'=>Below w.heap.size w w'∧∃ o,ScanR s e gs o∧r=.returned (.bool (nmS s o)):=by
 have HT:=hide hT
 have HQ:=hide hQ
 clear hT hQ
 go_enter Tryz.func39,Tryz.ntmps39
 go_wp2_with fail
 refine (agk w s HT.out hs).mono ?_
 rintro r w1 ⟨hb1,gs',e',o,h1,h2,h3⟩
 obtain ⟨rfl,rfl⟩:=h1.one HQ.out
 have HB:=hide (hb1.alloc hb1.size (.cells #[.int .i64 0,.int .i64 0,.int .i64 0,.int .i64 0] 28))
 have HBr:=hide hb1
 have HR:=hide h2
 clear hb1 h1
 cases o with
 | bad k p =>
  have hk:(k == 0)=false:=beq_eq_false_iff_ne.2 (ahk h2)
  obtain rfl:=h3
  clear h2
  unfold Pl.v
  go_wp2
  go_ret
  exact ⟨HBr.out.alloc HBr.out.size _,_,HR.out,rfl⟩
 | ok l =>
  obtain ⟨v,rfl,hown⟩:=h3
  have hTs:Ts w1 v l:=Ts.own hown
  obtain ⟨t,rr,rfl,_⟩:=aso HQ.out h2
  obtain ⟨ao,cap,rfl,hn⟩:=hTs.parts
  obtain ⟨b,off,rfl,g⟩:=hTs.tok (i:=0) (t:=t) rfl
  obtain ⟨_,a0,a1,_,_,_,_⟩:=g.below ((Below.refl _ _).alloc (Nat.le_refl _) (.cells #[.int .i64 0,.int .i64 0,.int .i64 0,.int .i64 0] 28))
  rw [Nat.zero_mul,Nat.add_zero] at a0 a1
  have hln:(0:Int)<((t :: rr).length:Int):=by simp
  clear g hown h2 hTs
  generalize (t :: rr).length=n at hn hln ⊢
  unfold Pl.v
  simp only [plz]
  by_cases hk:t.kind=1
  ·have hk' : (t.kind == 1)=true:=by rw [hk];rfl
   go_wp2
   go_ret
   exact ⟨HB.out,_,HR.out,by simp only [nmS,hk',Bool.true_and];rfl⟩
  ·have hk' : (t.kind == 1)=false:=beq_eq_false_iff_ne.2 hk
   go_wp2
   go_ret
   exact ⟨HB.out,_,HR.out,by simp only [nmS,hk',Bool.false_and];rfl⟩
set_option maxRecDepth 20000 in
set_option maxHeartbeats 1000000 in
theorem ap5 (w:World) (s:ByteArray) (hs:4096<s.size) :
  Calls Tryz.prog 39 #[.string s] w fun r w'=>Below w.heap.size w w'∧r=.returned (.bool false):=by
 go_enter Tryz.func39,Tryz.ntmps39
 go_wp2_with fail
 refine (ahj w s hs).mono ?_
 rintro r w1 ⟨hb1,rfl⟩
 unfold Pl.v
 go_wp2
 go_ret
 exact ⟨hb1.alloc hb1.size _,rfl⟩
def ixS (x:ByteArray):List ByteArray→Option Nat
 | []=>none
 | y :: r=>if y=x then some 0 else (ixS x r).map (·+1)
theorem ajh {x:ByteArray} {ss:List ByteArray} (h:x ∉ ss):ixS x ss=none:=by
 induction ss with
 | nil=>rfl
 | cons y r ih =>
  rw [ixS,if_neg (fun e=>h (by simp [e])),ih (fun e=>h (by simp [e]))]
  rfl
theorem asp {x:ByteArray} {ss:List ByteArray} {k:Nat} (h:x ∉ ss.take k) (hk:ss[k]? = some x):ixS x ss=some k:=by
 induction ss generalizing k with
 | nil=>simp at hk
 | cons y r ih =>
  cases k with
  | zero =>
   simp at hk
   rw [ixS,if_pos hk]
  | succ k =>
   simp only [List.take_succ_cons,List.mem_cons,not_or] at h
   rw [ixS,if_neg (fun e=>h.1 e.symm),ih h.2 (by simpa using hk)]
   rfl
theorem ap6 {x:ByteArray} {ss:List ByteArray} {k:Nat} (h:ixS x ss=some k):ss[k]? = some x:=by
 induction ss generalizing k with
 | nil=>simp [ixS] at h
 | cons y r ih =>
  rw [ixS] at h
  split at h
  ·next e=>obtain rfl:=Option.some.inj h;simp [e]
  ·cases hr:ixS x r with
   | none=>rw [hr] at h;simp at h
   | some m =>
    rw [hr] at h
    simp at h
    subst h
    simpa using ih hr
theorem alv {x:ByteArray} {ss:List ByteArray} (h:ixS x ss=none):x ∉ ss:=by
 induction ss with
 | nil=>simp
 | cons y r ih =>
  rw [ixS] at h
  split at h
  ·simp at h
  ·next e =>
   have:ixS x r=none:=by cases hr:ixS x r <;> simp [hr] at h ⊢
   simp only [List.mem_cons,not_or]
   exact ⟨fun e'=>e e'.symm,ih this⟩
def ixV (o:Option Nat):Value:=match o with | some k=>.int .i64 (k:Int) | none=>.int .i64 (-1)
theorem Strs.parts {w:World} {ao:Option Addr} {n cap:Nat} {ss:List ByteArray} (h:Strs w (.slice ao n cap) ss):n=ss.length∧n≤9223372036854775807∧n≤cap∧cap≤9223372036854775807:=by
 obtain ⟨ao',cap',hv,c1,c2,c3,c4⟩:=h
 obtain ⟨rfl,rfl,rfl⟩:=(Value.slice.injEq .. ▸ hv)
 exact ⟨rfl,by omega,c1,c2⟩
theorem Strs.take {w:World} {ao:Option Addr} {n cap:Nat} {ss:List ByteArray} (h:Strs w (.slice ao n cap) ss) (k:Nat) (hk:k≤ss.length):Strs w (.slice ao k cap) (ss.take k):=by
 obtain ⟨ao',cap',hv,c1,c2,c3,c4⟩:=h
 obtain ⟨rfl,rfl,rfl⟩:=(Value.slice.injEq .. ▸ hv)
 refine ⟨ao,cap,by rw [List.length_take,Nat.min_eq_left hk],by rw [List.length_take];omega,c2,by simp,?_⟩
 rcases c4 with c4 | ⟨b,off,rfl,hl,hc⟩
 ·exact .inl (by rw [List.length_take];omega)
 ·refine .inr ⟨b,off,rfl,hl,fun j u hu=>hc j u ?_⟩
  rw [List.map_take,List.getElem?_take] at hu
  split at hu
  ·exact hu
  ·cases hu
set_option maxRecDepth 20000 in
set_option maxHeartbeats 1000000 in
theorem agm (w:World) (ao:Option Addr) (n cap:Nat) (ss:List ByteArray) (x:ByteArray) (h:Strs w (.slice ao n cap) ss) :
  Calls Tryz.prog 54 #[.slice ao n cap,.string x] w fun e w'=>e=.returned (ixV (ixS x ss))∧w' = w:=by
 obtain ⟨hn,hb,_,_⟩:=h.parts
 have H:=hide h
 clear h
 go_enter Tryz.func54,Tryz.ntmps54
 go_wp2
 go_loopw [5,8] (fun _ iv wr=>∃ (i:Nat),iv=.int .i64 i∧i≤n∧x ∉ ss.take i∧wr=w) (fun _ iv _=>n - (intOf iv).toNat)
 case atStart=>exact ⟨0,rfl,Nat.zero_le _,by simp,rfl⟩
 case round =>
  obtain ⟨i,rfl,hi,hz,rfl⟩:=hrel
  have HZ:=hide hz
  clear hz
  by_cases hlt:i<n
  ·have hget:ss[i]? = some (ss[i]'(by omega)):=List.getElem?_eq_getElem _
   obtain ⟨b,off,rfl,hbl,hc⟩:=H.out.cell hget
   have hlt' : (i:Int)<(n:Int):=by omega
   generalize ss[i]'(by omega)=y at hc hget
   have HG:=hide hget
   clear hget
   by_cases he:x=y
   ·subst he
    go_wp2
    go_ret
    exact ⟨by rw [asp HZ.out HG.out];rfl,rfl⟩
   ·have hne:(x.toList == y.toList)=false:=afa he
    go_wp2
    go_roundw
    case rel=>exact ⟨i+1,by go_num,by omega,by rw [List.take_add_one,HG.out];simp [HZ.out,he],trivial⟩
    case measure=>simp [intOf];omega
  ·have hlt' : decide ((i:Int)<(n:Int))=false:=by simp;omega
   go_wp2
   go_ret
   exact ⟨by have:=HZ.out;rw [List.take_of_length_le (by omega)] at this;rw [ajh this];rfl,rfl⟩
set_option maxRecDepth 20000 in
set_option maxHeartbeats 1000000 in
theorem ael (w:World) (ao:Option Addr) (n cap:Nat) (ss:List ByteArray) (x:ByteArray) (h:Strs w (.slice ao n cap) ss) :
  Calls Tryz.prog 40 #[.slice ao n cap,.string x] w fun e w'=>e=.returned (.bool (ixS x ss).isSome)∧w' = w:=by
 have K:=hide (agm w ao n cap ss x h)
 clear h
 generalize hg:ixS x ss=o at K
 have HG:=hide hg
 clear hg
 cases o with
 | none =>
  unfold ixV at K
  go_enter Tryz.func40,Tryz.ntmps40
  go_wp2_with fail
  refine K.out.mono ?_
  rintro e w' ⟨rfl,rfl⟩
  go_wp2
  go_ret
  exact ⟨rfl,rfl⟩
 | some k =>
  unfold ixV at K
  have hk:(0:Int)≤(k:Int):=by omega
  go_enter Tryz.func40,Tryz.ntmps40
  go_wp2_with fail
  refine K.out.mono ?_
  rintro e w' ⟨rfl,rfl⟩
  go_wp2
  go_ret
  exact ⟨rfl,rfl⟩
open Classical in
noncomputable def isNm (s:ByteArray):Bool:=decide (s.size≤4096∧∃ gs e o,Snd s pl0 gs e∧ScanR s e gs o∧nmS s o=true)
open Classical in
theorem alw {s:ByteArray} {gs:List Gl} {e:Pl} {o:SO} (hs:s.size≤4096) (hQ:Snd s pl0 gs e) (hR:ScanR s e gs o):nmS s o=isNm s:=by
 unfold isNm
 by_cases h:nmS s o=true
 ·rw [h,decide_eq_true ⟨hs,gs,e,o,hQ,hR,h⟩]
 ·rw [Bool.not_eq_true] at h
  rw [h,eq_comm,decide_eq_false_iff_not]
  rintro ⟨_,gs',e',o',h1,h2,h3⟩
  obtain ⟨rfl,rfl⟩:=h1.one hQ
  obtain rfl:=h2.one hR
  rw [h] at h3
  cases h3
open Classical in
theorem ap7 {s:ByteArray} (hs:4096<s.size):isNm s=false:=by
 unfold isNm
 rw [decide_eq_false_iff_not]
 rintro ⟨h,_⟩
 omega
theorem auu (w:World) (hT:Tabs w) (s:ByteArray):Calls Tryz.prog 39 #[.string s] w fun r w'=>Below w.heap.size w w'∧r=.returned (.bool (isNm s)):=by
 by_cases hs:4096<s.size
 ·rw [ap7 hs]
  exact ap5 w s hs
 ·obtain ⟨gs,e,hQ⟩:=av5 s s.size pl0 (by simp [pl0])
  refine (ap4 w hT s (by omega) gs e hQ).mono ?_
  rintro r w' ⟨hb,o,hR,rfl⟩
  exact ⟨hb,by rw [alw (by omega) hQ hR]⟩
def NmsOk (vs:List ByteArray):Prop:=vs.length≤16∧∀ (i:Nat) (x:ByteArray),vs[i]? = some x→isNm x=true∧x ∉ vs.take i
open Classical in
noncomputable def nmsE (vs:List ByteArray):Int:=if NmsOk vs then 0 else 1
set_option maxRecDepth 20000 in
set_option maxHeartbeats 2000000 in
theorem ap8 (w:World) (hT:Tabs w) (v:Value) (vs:List ByteArray) (h:Strs w v vs) :
  Calls Tryz.prog 27 #[v] w fun e w'=>e=.returned (.int .i64 (nmsE vs))∧Below w.heap.size w w' := by
 obtain ⟨ao,cap,rfl,_⟩:=id h
 obtain ⟨_,hb,hb2,hb3⟩:=h.parts
 have H:=hide h
 have HT:=hide hT
 clear h hT
 obtain ⟨n,hn⟩:∃ n,vs.length=n:=⟨_,rfl⟩
 rw [hn] at H hb hb2 ⊢
 have HN:=hide hn
 clear hn
 by_cases hbig:16<n
 ·have hbig' : (16:Int)<(n:Int):=by omega
  have he:nmsE vs=1:=if_neg (fun h=>by have:=h.1;rw [HN.out] at this;omega)
  rw [he]
  clear he
  go_enter Tryz.func27,Tryz.ntmps27
  go_wp2
  go_ret
  exact ⟨rfl,Below.refl _ _⟩
 have hbig' : decide ((16:Int)<(n:Int))=false:=by simp;omega
 go_enter Tryz.func27,Tryz.ntmps27
 go_wp2
 go_loopw [3,4,10] (fun _ _ iv wr=>∃ (i:Nat),iv=.int .i64 i∧i≤n∧(∀ (j:Nat) (x:ByteArray),j<i→vs[j]? = some x→isNm x=true∧x ∉ vs.take j)∧Below w.heap.size w wr) (fun _ _ iv _=>n - (intOf iv).toNat)
 case atStart=>exact ⟨0,rfl,Nat.zero_le _,by intro j x hj;omega,Below.refl _ _⟩
 case round =>
  obtain ⟨i,rfl,hi,hz,hbw⟩:=hrel
  have HZ:=hide hz
  have HW:=hide hbw
  clear hz hbw
  by_cases hlt:i<n
  ·have hget:vs[i]? = some (vs[i]'(by have:=HN.out;omega)):=List.getElem?_eq_getElem _
   generalize vs[i]'(by have:=HN.out;omega)=x at hget
   obtain ⟨b,off,rfl,hbl,hc⟩:=(H.out.below HW.out).cell hget
   have HG:=hide hget
   have HS:=hide (H.out.below HW.out)
   have hlt' : (i:Int)<(n:Int):=by omega
   clear hget
   have K:=hide (auu wr (HT.out.below HW.out) x)
   cases hnm:isNm x with
   | false =>
    have HNM:=hide hnm
    rw [hnm] at K
    clear hnm
    have HE:Hid (nmsE vs=1):=if_neg (fun h=>by have:=(h.2 i x HG.out).1;rw [HNM.out] at this;cases this)
    go_wp2_with fail
    refine K.out.mono ?_
    rintro r w1 ⟨hb1,rfl⟩
    have HB1:=hide (HW.out.trans (hb1.mono HW.out.size))
    clear hb1
    go_wp2
    go_ret
    exact ⟨by rw [HE.out];rfl,HB1.out⟩
   | true =>
    have HNM:=hide hnm
    rw [hnm] at K
    clear hnm
    go_wp2_with fail
    refine K.out.mono ?_
    rintro r w1 ⟨hb1,rfl⟩
    have HB1:=hide (HW.out.trans (hb1.mono HW.out.size))
    have HS1:=hide ((HS.out.below hb1).take i (by have:=HN.out;omega))
    clear hb1
    have K2:=hide (ael w1 _ _ _ _ x HS1.out)
    by_cases hm:x ∈ vs.take i
    ·have e1:(ixS x (vs.take i)).isSome=true:=by
      cases hq:ixS x (vs.take i) with
      | none=>exact absurd hm (alv hq)
      | some k=>rfl
     rw [e1] at K2
     have HE:Hid (nmsE vs=1):=if_neg (fun h=>(h.2 i x HG.out).2 hm)
     clear e1
     go_wp2_with fail
     refine K2.out.mono ?_
     rintro r w2 ⟨rfl,rfl⟩
     go_wp2
     go_ret
     exact ⟨by rw [HE.out];rfl,HB1.out⟩
    ·have e1:(ixS x (vs.take i)).isSome=false:=by rw [ajh hm];rfl
     rw [e1] at K2
     have HM:=hide hm
     clear e1 hm
     go_wp2_with fail
     refine K2.out.mono ?_
     rintro r w2 ⟨rfl,rfl⟩
     go_wp2
     go_roundw
     case rel =>
      refine ⟨i+1,by go_num,by omega,?_,HB1.out⟩
      intro j y hj hy
      by_cases hji:j=i
      ·subst hji
       rw [HG.out] at hy
       obtain rfl:=Option.some.inj hy
       exact ⟨HNM.out,HM.out⟩
      ·exact HZ.out j y (by omega) hy
     case measure=>simp [intOf];omega
  ·have hlt' : decide ((i:Int)<(n:Int))=false:=by simp;omega
   have HE:Hid (nmsE vs=0):=if_pos ⟨by rw [HN.out];omega,fun j x hj=>HZ.out j x (by have:=(List.getElem?_eq_some_iff.1 hj).1;rw [HN.out] at this;omega) hj⟩
   go_wp2
   go_ret
   exact ⟨by rw [HE.out];rfl,HW.out⟩
inductive Ex where
 | num (z:Int):Ex
 | var (name:ByteArray) (i:Nat):Ex
 | neg (x:Ex):Ex
 | op (s:ByteArray) (l r:Ex):Ex
inductive PO (α:Type) where
 | ok (a:α) (k:Nat):PO α
 | bad (e:Int) (k:Nat):PO α
def PO.map {α β:Type} (f:α→β):PO α→PO β
 | .ok a k=>.ok (f a) k
 | .bad e k=>.bad e k
def txtL (l:List Tk) (k:Nat):ByteArray:=((l[k]?).map Tk.text).getD ⟨#[]⟩
def knd (l:List Tk) (k:Nat):Int:=((l[k]?).map Tk.kind).getD 0
def words:List ByteArray:=[⟨#[118,97,114,115]⟩,⟨#[97,110,121]⟩,⟨#[115,107,105,112]⟩,⟨#[115,116,111,112]⟩,⟨#[109,97,114,107]⟩,⟨#[99,104,111,111,115,101]⟩,⟨#[111,114]⟩,⟨#[108,111,111,112]⟩,⟨#[105,102]⟩,⟨#[101,108,115,101]⟩,⟨#[119,104,105,108,101]⟩]
def sgs:Bool→List ByteArray
 | true=>[⟨#[43]⟩,⟨#[45]⟩]
 | false=>[⟨#[42]⟩,⟨#[47]⟩,⟨#[37]⟩]
def NameAt (l:List Tk) (k:Nat):Prop:=knd l k=1∧txtL l k ∉ words
inductive VarE (l:List Tk) (vs:List ByteArray):Nat→PO Ex→Prop
 | syn {k} (h:¬ NameAt l k):VarE l vs k (.bad 80 k)
 | unk {k} (h:NameAt l k) (h' : ixS (txtL l k) vs=none):VarE l vs k (.bad 81 k)
 | ok {k i} (h:NameAt l k) (hi:ixS (txtL l k) vs=some i):VarE l vs k (.ok (.var (txtL l k) i) (k+1))
theorem VarE.one {l:List Tk} {vs:List ByteArray} {k:Nat} {r r' : PO Ex} (h:VarE l vs k r) (h' : VarE l vs k r'):r=r' := by
 cases h with
 | syn h =>
  cases h' with
  | syn _=>rfl
  | unk g _=>exact absurd g h
  | ok g _=>exact absurd g h
 | unk h h1 =>
  cases h' with
  | syn g=>exact absurd h g
  | unk _ _=>rfl
  | ok _ g=>rw [h1] at g;cases g
 | ok h hi =>
  cases h' with
  | syn g=>exact absurd h g
  | unk _ g=>rw [hi] at g;cases g
  | ok _ gi =>
   rw [hi] at gi
   cases gi
   rfl
inductive Lv where
 | sum:Lv
 | prod:Lv
 | un:Lv
 | at_:Lv
 | tl (s:Bool) (t:Ex):Lv
def lowL:Bool→Lv
 | true=>.prod
 | false=>.un
inductive EvE (l:List Tk) (vs:List ByteArray) (num:ByteArray→Int):Lv→Nat→Nat→PO Ex→Prop
 | sumB {k o e j} (h:EvE l vs num .prod k o (.bad e j)):EvE l vs num .sum k o (.bad e j)
 | sumO {k o t j r} (h:EvE l vs num .prod k o (.ok t j)) (h' : EvE l vs num (.tl true t) j o r):EvE l vs num .sum k o r
 | prodB {k o e j} (h:EvE l vs num .un k o (.bad e j)):EvE l vs num .prod k o (.bad e j)
 | prodO {k o t j r} (h:EvE l vs num .un k o (.ok t j)) (h' : EvE l vs num (.tl false t) j o r):EvE l vs num .prod k o r
 | tlE {k o s t} (h:txtL l k ∉ sgs s):EvE l vs num (.tl s t) k o (.ok t k)
 | tlB {k o s t e j} (h:txtL l k ∈ sgs s) (h' : EvE l vs num (lowL s) (k+1) o (.bad e j)):EvE l vs num (.tl s t) k o (.bad e j)
 | tlO {k o s t u j r} (h:txtL l k ∈ sgs s) (h' : EvE l vs num (lowL s) (k+1) o (.ok u j)) (h'' : EvE l vs num (.tl s (.op (txtL l k) t u)) j o r):EvE l vs num (.tl s t) k o r
 | unN {k o r} (h:txtL l k=⟨#[45]⟩) (h' : EvE l vs num .un (k+1) o r):EvE l vs num .un k o (r.map .neg)
 | unA {k o r} (h:txtL l k≠⟨#[45]⟩) (h' : EvE l vs num .at_ k o r):EvE l vs num .un k o r
 | num {k o} (h:knd l k=2):EvE l vs num .at_ k o (.ok (.num (num (txtL l k))) (k+1))
 | deep {k} (h:knd l k≠2) (h' : txtL l k=⟨#[40]⟩):EvE l vs num .at_ k 16 (.bad 83 k)
 | brB {k o e j} (h:knd l k≠2) (h' : txtL l k=⟨#[40]⟩) (ho:o≠16) (hs:EvE l vs num .sum (k+1) (o+1) (.bad e j)):EvE l vs num .at_ k o (.bad e j)
 | brO {k o t j} (h:knd l k≠2) (h' : txtL l k=⟨#[40]⟩) (ho:o≠16) (hs:EvE l vs num .sum (k+1) (o+1) (.ok t j)) (he:txtL l j=⟨#[41]⟩):EvE l vs num .at_ k o (.ok t (j+1))
 | brX {k o t j} (h:knd l k≠2) (h' : txtL l k=⟨#[40]⟩) (ho:o≠16) (hs:EvE l vs num .sum (k+1) (o+1) (.ok t j)) (he:txtL l j≠⟨#[41]⟩):EvE l vs num .at_ k o (.bad 80 j)
 | var {k o r} (h:knd l k≠2) (h' : txtL l k≠⟨#[40]⟩) (hv:VarE l vs k r):EvE l vs num .at_ k o r
theorem EvE.one {l:List Tk} {vs:List ByteArray} {num:ByteArray→Int} {v:Lv} {k o:Nat} {r:PO Ex} (h:EvE l vs num v k o r):∀ {r' : PO Ex},EvE l vs num v k o r'→r=r' := by
 induction h with
 | sumB h ih =>
  intro r' h'
  cases h' with
  | sumB g=>exact ih g
  | sumO g _=>have:=ih g;cases this
 | sumO h h1 ih ih1 =>
  intro r' h'
  cases h' with
  | sumB g=>have:=ih g;cases this
  | sumO g g1 =>
   have:=ih g
   cases this
   exact ih1 g1
 | prodB h ih =>
  intro r' h'
  cases h' with
  | prodB g=>exact ih g
  | prodO g _=>have:=ih g;cases this
 | prodO h h1 ih ih1 =>
  intro r' h'
  cases h' with
  | prodB g=>have:=ih g;cases this
  | prodO g g1 =>
   have:=ih g
   cases this
   exact ih1 g1
 | tlE h =>
  intro r' h'
  cases h' with
  | tlE _=>rfl
  | tlB g _=>exact absurd g h
  | tlO g _ _=>exact absurd g h
 | tlB h h1 ih =>
  intro r' h'
  cases h' with
  | tlE g=>exact absurd h g
  | tlB _ g=>exact ih g
  | tlO _ g _=>have:=ih g;cases this
 | tlO h h1 h2 ih ih1 =>
  intro r' h'
  cases h' with
  | tlE g=>exact absurd h g
  | tlB _ g=>have:=ih g;cases this
  | tlO _ g g1 =>
   have:=ih g
   cases this
   exact ih1 g1
 | unN h h1 ih =>
  intro r' h'
  cases h' with
  | unN _ g=>rw [ih g]
  | unA g _=>exact absurd h g
 | unA h h1 ih =>
  intro r' h'
  cases h' with
  | unN g _=>exact absurd g h
  | unA _ g=>exact ih g
 | num h =>
  intro r' h'
  cases h' with
  | num _=>rfl
  | deep g _=>exact absurd h g
  | brB g _ _ _=>exact absurd h g
  | brO g _ _ _ _=>exact absurd h g
  | brX g _ _ _ _=>exact absurd h g
  | var g _ _=>exact absurd h g
 | deep h h1 =>
  intro r' h'
  cases h' with
  | num g=>exact absurd g h
  | deep _ _=>rfl
  | brB _ _ g _=>exact absurd rfl g
  | brO _ _ g _ _=>exact absurd rfl g
  | brX _ _ g _ _=>exact absurd rfl g
  | var _ g _=>exact absurd h1 g
 | brB h h1 ho hs ih =>
  intro r' h'
  cases h' with
  | num g=>exact absurd g h
  | deep _ _=>exact absurd rfl ho
  | brB _ _ _ g=>exact ih g
  | brO _ _ _ g _=>have:=ih g;cases this
  | brX _ _ _ g _=>have:=ih g;cases this
  | var _ g _=>exact absurd h1 g
 | brO h h1 ho hs he ih =>
  intro r' h'
  cases h' with
  | num g=>exact absurd g h
  | deep _ _=>exact absurd rfl ho
  | brB _ _ _ g=>have:=ih g;cases this
  | brO _ _ _ g _=>have:=ih g;cases this;rfl
  | brX _ _ _ g ge=>have:=ih g;cases this;exact absurd he ge
  | var _ g _=>exact absurd h1 g
 | brX h h1 ho hs he ih =>
  intro r' h'
  cases h' with
  | num g=>exact absurd g h
  | deep _ _=>exact absurd rfl ho
  | brB _ _ _ g=>have:=ih g;cases this
  | brO _ _ _ g ge=>have:=ih g;cases this;exact absurd ge he
  | brX _ _ _ g _=>have:=ih g;cases this;rfl
  | var _ g _=>exact absurd h1 g
 | var h h1 hv =>
  intro r' h'
  cases h' with
  | num g=>exact absurd g h
  | deep _ g=>exact absurd g h1
  | brB _ g _ _=>exact absurd g h1
  | brO _ g _ _ _=>exact absurd g h1
  | brX _ g _ _ _=>exact absurd g h1
  | var _ _ g=>exact hv.one g
def gPlus:ByteArray:=⟨#[43]⟩
def gMinus:ByteArray:=⟨#[45]⟩
def gTimes:ByteArray:=⟨#[42]⟩
def gOver:ByteArray:=⟨#[47]⟩
def uf (i:Nat) (z:Int):Nat→Int:=fun k=>if k=i then z else 0
def cstB (n:Nat) (f:Nat→Int):Bool:=(List.range n).all fun k=>decide (f k=0)
theorem acs {n:Nat} {f:Nat→Int} : cstB n f=true↔∀ k,k<n→f k=0:=by
 unfold cstB
 rw [List.all_eq_true]
 exact ⟨fun h k hk=>of_decide_eq_true (h k (List.mem_range.2 hk)),fun h k hk=>decide_eq_true (h k (List.mem_range.1 hk))⟩
def joinF (n:Nat) (s:ByteArray) (f g:Nat→Int):Option (Nat→Int) :=
 if s=gPlus then some (fun k=>f k+g k)
 else if s=gMinus then some (fun k=>f k - g k)
 else if s=gTimes then (if cstB n f=true then some (fun k=>g k*f n) else if cstB n g=true then some (fun k=>f k*g n) else none)
 else if cstB n f=true∧cstB n g=true∧g n≠0 then some (uf n (if s=gOver then f n / g n else f n % g n)) else none
def formZ (n:Nat):Ex→Option (Nat→Int)
 | .num z=>some (uf n z)
 | .var _ i=>some (uf i 1)
 | .neg x=>(formZ n x).map fun f k=>f k*(-1)
 | .op s l r=>(formZ n l).bind fun f=>(formZ n r).bind fun g=>joinF n s f g
def reckZ (s:ByteArray) (a b:Int):Option Int :=
 if s=gPlus then some (a+b)
 else if s=gMinus then some (a - b)
 else if s=gTimes then some (a*b)
 else if b=0 then none else some (if s=gOver then a / b else a % b)
def valX (st:Nat→Int):Ex→Option Int
 | .num z=>some z
 | .var _ i=>some (st i)
 | .neg x=>(valX st x).map fun a=>-a
 | .op s l r=>(valX st l).bind fun a=>(valX st r).bind fun b=>reckZ s a b
def WfX (n:Nat):Ex→Prop
 | .num _=>True
 | .var _ i=>i<n
 | .neg x=>WfX n x
 | .op _ l r=>WfX n l∧WfX n r
def dotZ (f g:Nat→Int):Nat→Int
 | 0=>0
 | n+1=>dotZ f g n+f n*g n
theorem ane {f g f' : Nat→Int} : ∀ {n:Nat},(∀ k,k<n→f k=f' k)→dotZ f g n=dotZ f' g n
 | 0,_=>rfl
 | n+1,h=>by rw [dotZ,dotZ,ane (fun k hk=>h k (by omega)),h n (by omega)]
theorem acy {f g:Nat→Int} : ∀ {n:Nat},(∀ k,k<n→f k=0)→dotZ f g n=0
 | 0,_=>rfl
 | n+1,h=>by rw [dotZ,acy (fun k hk=>h k (by omega)),h n (by omega)];omega
theorem afd {g:Nat→Int} {i:Nat} {z:Int} : ∀ {n:Nat},dotZ (uf i z) g n=if i<n then z*g i else 0
 | 0=>by rw [dotZ,if_neg (by omega)]
 | n+1=>by
  rw [dotZ,afd,uf]
  by_cases h:n=i
  ·subst h
   rw [if_neg (by omega),if_pos rfl,if_pos (by omega)]
   omega
  ·rw [if_neg h,Int.zero_mul,Int.add_zero]
   by_cases h2:i<n
   ·rw [if_pos h2,if_pos (by omega)]
   ·rw [if_neg h2,if_neg (by omega)]
theorem aji {f f' g:Nat→Int} : ∀ n:Nat,dotZ (fun k=>f k+f' k) g n=dotZ f g n+dotZ f' g n
 | 0=>rfl
 | n+1=>by
  rw [dotZ,dotZ,dotZ,aji n]
  grind
theorem ajj {f f' g:Nat→Int} : ∀ n:Nat,dotZ (fun k=>f k - f' k) g n=dotZ f g n - dotZ f' g n
 | 0=>rfl
 | n+1=>by
  rw [dotZ,dotZ,dotZ,ajj n]
  grind
theorem aee {f g:Nat→Int} (c:Int):∀ n:Nat,dotZ (fun k=>f k*c) g n=dotZ f g n*c
 | 0=>by simp [dotZ]
 | n+1=>by
  rw [dotZ,dotZ,aee c n]
  grind
theorem aef {n:Nat} {st:Nat→Int} : ∀ {x:Ex} {f:Nat→Int},WfX n x→formZ n x=some f→valX st x=some (dotZ f st n+f n)
 | .num z,f,_,h=>by
  obtain rfl:=Option.some.inj h
  rw [afd,if_neg (by omega),valX,uf,if_pos rfl,Int.zero_add]
 | .var s i,f,hw,h=>by
  obtain rfl:=Option.some.inj h
  have hi:i<n:=hw
  rw [afd,if_pos hi,valX,uf,if_neg (by omega),Int.one_mul,Int.add_zero]
 | .neg x,f,hw,h=>by
  rw [formZ,Option.map_eq_some_iff] at h
  obtain ⟨g,hg,rfl⟩:=h
  rw [valX,aef (x:=x) hw hg,aee]
  simp only [Option.map_some,Option.some.injEq]
  omega
 | .op s l r,f,hw,h=>by
  rw [formZ,Option.bind_eq_some_iff] at h
  obtain ⟨a,ha,h⟩:=h
  rw [Option.bind_eq_some_iff] at h
  obtain ⟨b,hb,h⟩:=h
  rw [valX,aef hw.1 ha,aef hw.2 hb]
  simp only [Option.bind_some]
  unfold joinF at h
  unfold reckZ
  by_cases h1:s=gPlus
  ·rw [if_pos h1] at h ⊢
   obtain rfl:=Option.some.inj h
   rw [aji]
   congr 1
   dsimp only
   omega
  rw [if_neg h1] at h ⊢
  by_cases h2:s=gMinus
  ·rw [if_pos h2] at h ⊢
   obtain rfl:=Option.some.inj h
   rw [ajj]
   congr 1
   dsimp only
   omega
  rw [if_neg h2] at h ⊢
  by_cases h3:s=gTimes
  ·rw [if_pos h3] at h ⊢
   by_cases c1:cstB n a=true
   ·rw [if_pos c1] at h
    obtain rfl:=Option.some.inj h
    rw [aee,acy (acs.1 c1)]
    congr 1
    grind
   rw [if_neg c1] at h
   by_cases c2:cstB n b=true
   ·rw [if_pos c2] at h
    obtain rfl:=Option.some.inj h
    rw [aee,acy (f:=b) (acs.1 c2)]
    congr 1
    grind
   rw [if_neg c2] at h
   cases h
  rw [if_neg h3] at h ⊢
  by_cases c:cstB n a=true∧cstB n b=true∧b n≠0
  ·rw [if_pos c] at h
   obtain rfl:=Option.some.inj h
   have hz:¬ (0+b n=0):=by
    have:=c.2.2
    omega
   rw [acy (acs.1 c.1),acy (acs.1 c.2.1),if_neg hz,afd,if_neg (Nat.lt_irrefl n),uf,if_pos rfl]
   simp only [Int.zero_add]
  ·rw [if_neg c] at h
   cases h
theorem EvE.wf {l:List Tk} {vs:List ByteArray} {num:ByteArray→Int} {v:Lv} {k o:Nat} {r:PO Ex} (h:EvE l vs num v k o r):(∀ s t,v=.tl s t→WfX vs.length t)→∀ t j,r=.ok t j→WfX vs.length t:=by
 induction h with
 | sumB _ _=>intro _ t j e;cases e
 | sumO _ _ ih ih1=>exact fun _ t j e=>ih1 (fun s t' e'=>by cases e';exact ih (fun _ _ e2=>by cases e2) _ _ rfl) t j e
 | prodB _ _=>intro _ t j e;cases e
 | prodO _ _ ih ih1=>exact fun _ t j e=>ih1 (fun s t' e'=>by cases e';exact ih (fun _ _ e2=>by cases e2) _ _ rfl) t j e
 | tlE _=>intro hv t j e;cases e;exact hv _ _ rfl
 | tlB _ _ _=>intro _ t j e;cases e
 | @tlO k o s t u j r _ _ _ ih ih1 =>
  exact fun hv t j e=>ih1 (fun s' t' e'=>by cases e';exact ⟨hv _ _ rfl,ih (fun _ _ e2=>by cases s <;> cases e2) _ _ rfl⟩) t j e
 | @unN k o r _ _ ih =>
  intro _ t j e
  cases r with
  | bad _ _=>cases e
  | ok x i =>
   cases e
   show WfX vs.length x
   exact ih (fun _ _ e2=>by cases e2) x _ rfl
 | unA _ _ ih=>exact fun _ t j e=>ih (fun _ _ e2=>by cases e2) t j e
 | num _=>intro _ t j e;cases e;trivial
 | deep _ _=>intro _ t j e;cases e
 | brB _ _ _ _ _=>intro _ t j e;cases e
 | brO _ _ _ _ _ ih=>intro _ t j e;cases e;exact ih (fun _ _ e2=>by cases e2) _ _ rfl
 | brX _ _ _ _ _ _=>intro _ t j e;cases e
 | var _ _ hv =>
  intro _ t j e
  subst e
  cases hv with
  | ok _ hi=>exact (List.getElem?_eq_some_iff.1 (ap6 hi)).1
def wtX:Ex→Nat
 | .num _=>6000
 | .var _ _=>1
 | .neg x=>wtX x+1
 | .op _ l r=>wtX l+wtX r+1
def NumX:Ex→Prop
 | .num z=>(z.natAbs:Int)<pw 6000
 | .var _ _=>True
 | .neg x=>NumX x
 | .op _ l r=>NumX l∧NumX r
theorem ag4 {a b:Int} {A B:Nat} (ha:(a.natAbs:Int)<pw A) (hb:(b.natAbs:Int)<pw B):(a.natAbs:Int)+(b.natAbs:Int)<pw (A+B+1):=by
 have h1:pw A≤pw (A+B):=abf (by omega)
 have h2:pw B≤pw (A+B):=abf (by omega)
 have h3:pw (A+B+1)=4294967296*pw (A+B):=rfl
 have h4:=aaw (A+B)
 omega
theorem alx {a b:Int} {A B:Nat} (ha:(a.natAbs:Int)<pw A) (hb:(b.natAbs:Int)<pw B):((a*b).natAbs:Int)<pw (A+B+1):=by
 have h1:((a*b).natAbs:Int)≤pw A*pw B:=by
  rw [Int.natAbs_mul,Int.natCast_mul]
  exact Int.mul_le_mul (by omega) (by omega) (by omega) (by have:=aaw A;omega)
 have h2:pw (A+B+1)=4294967296*pw (A+B):=rfl
 rw [←ada] at h1
 have h3:=aaw (A+B)
 omega
theorem anf {i:Nat} {z:Int} {A:Nat} (h:(z.natAbs:Int)<pw A) (k:Nat):((uf i z k).natAbs:Int)<pw A:=by
 unfold uf
 have:=aaw A
 split
 ·exact h
 ·simpa using by omega
theorem ad0 {n:Nat} : ∀ {x:Ex} {f:Nat→Int},NumX x→formZ n x=some f→∀ k,((f k).natAbs:Int)<pw (wtX x)
 | .num z,f,hx,h,k=>by
  obtain rfl:=Option.some.inj h
  exact anf hx k
 | .var s i,f,_,h,k=>by
  obtain rfl:=Option.some.inj h
  exact anf (A:=1) (by decide) k
 | .neg x,f,hx,h,k=>by
  rw [formZ,Option.map_eq_some_iff] at h
  obtain ⟨g,hg,rfl⟩:=h
  have h1:=ad0 (x:=x) hx hg k
  have h2:pw (wtX x)≤pw (wtX x+1):=abf (by omega)
  show ((g k*-1).natAbs:Int)<pw (wtX x+1)
  rw [Int.mul_neg,Int.mul_one,Int.natAbs_neg]
  omega
 | .op s l r,f,hx,h,k=>by
  rw [formZ,Option.bind_eq_some_iff] at h
  obtain ⟨a,ha,h⟩:=h
  rw [Option.bind_eq_some_iff] at h
  obtain ⟨b,hb,h⟩:=h
  have h1:=ad0 (x:=l) hx.1 ha
  have h2:=ad0 (x:=r) hx.2 hb
  show ((f k).natAbs:Int)<pw (wtX l+wtX r+1)
  unfold joinF at h
  split at h
  ·obtain rfl:=Option.some.inj h
   have:=ag4 (h1 k) (h2 k)
   dsimp only
   omega
  split at h
  ·obtain rfl:=Option.some.inj h
   have:=ag4 (h1 k) (h2 k)
   dsimp only
   omega
  split at h
  ·split at h
   ·obtain rfl:=Option.some.inj h
    have h3:=alx (h1 n) (h2 k)
    rwa [Int.mul_comm] at h3
   ·split at h
    ·obtain rfl:=Option.some.inj h
     exact alx (h1 k) (h2 n)
    ·cases h
  ·split at h
   ·next hc =>
    obtain rfl:=Option.some.inj h
    have h3:=ag4 (h1 n) (h2 n)
    refine anf ?_ k
    split
    ·have h4:((a n / b n).natAbs:Int)≤(a n).natAbs:=by
      have:=Int.natAbs_ediv_le_natAbs (a n) (b n)
      omega
     omega
    ·have h4:=Int.emod_nonneg (a n) hc.2.2
     have h5:=Int.emod_lt (a n) hc.2.2
     omega
   ·cases h
def bwL:Lv→Nat
 | .tl _ t=>wtX t
 | _=>0
theorem auv (s:Bool):bwL (lowL s)=0:=by cases s <;> rfl
def FmP (w:World) (b n i:Nat) (f:Nat→Int) (L:Nat):Prop :=
 ∃ es:List WE,es.length=n+1∧w.heap[b]? = some (.cells (flat es).toArray 33 (0,0))∧(∀ (k:Nat) (e:WE),i≤k→es[k]? = some e→e=⟨false,none,0,0,[]⟩)∧∀ (k:Nat) (e:WE),k<i→es[k]? = some e→OutW (f k) L (.agg #[.bool e.ng,.slice e.a e.m e.c]) w
def FmS (w:World) (v:Value) (n:Nat) (f:Nat→Int) (L:Nat):Prop:=∃ b,v=.slice (some ⟨b,0,none⟩) (n+1) (n+1)∧FmP w b n (n+1) f L
theorem FmP.lt {w:World} {b n i:Nat} {f:Nat→Int} {L:Nat} (h:FmP w b n i f L):b<w.heap.size:=by
 obtain ⟨es,_,h2,_⟩:=h
 exact aaa h2
theorem FmP.ru {w w' : World} {b n i:Nat} {f:Nat→Int} {L:Nat} (h:FmP w b n i f L) (hr:Ru w w') (hb:w'.heap[b]? = w.heap[b]?):FmP w' b n i f L:=by
 obtain ⟨es,h1,h2,h3,h4⟩:=h
 exact ⟨es,h1,hb.trans h2,h3,fun k e hk he=>(h4 k e hk he).ru hr⟩
theorem FmP.below {w w' : World} {b n i:Nat} {f:Nat→Int} {L:Nat} (h:FmP w b n i f L) (hb:Below w.heap.size w w'):FmP w' b n i f L:=h.ru (Ru.of_below hb) (hb.block b h.lt)
theorem FmS.below {w w' : World} {v:Value} {n:Nat} {f:Nat→Int} {L:Nat} (h:FmS w v n f L) (hb:Below w.heap.size w w'):FmS w' v n f L:=by
 obtain ⟨b,rfl,h⟩:=h
 exact ⟨b,rfl,h.below hb⟩
theorem FmP.start (w:World) (n:Nat) (f:Nat→Int) (L:Nat):FmP (w.alloc (.cells (madeCells #[.bool false,.slice none 0 0] ((n+1)*2)) 33)) w.heap.size n 0 f L:=by
 have hnb:=heap_alloc_new w (.cells (madeCells #[.bool false,.slice none 0 0] ((n+1)*2)) 33)
 have hflat:madeCells #[.bool false,.slice none 0 0] ((n+1)*2)=(flat (List.replicate (n+1) ⟨false,none,0,0,[]⟩)).toArray:=by
  apply Array.toList_inj.1
  exact ai7 (n+1)
 rw [hflat] at hnb ⊢
 refine ⟨_,List.length_replicate,hnb,fun k e _ he=>?_,fun k e hk=>by omega⟩
 rw [List.getElem?_replicate] at he
 split at he
 ·exact (Option.some.inj he).symm
 ·cases he
theorem ap9 (w:World) (L:Nat):OutW 0 L (.agg #[.bool false,.slice none 0 0]) w :=
 ⟨false,none,0,[],rfl,⟨⟨aih w,abl,rfl⟩,rfl⟩,Nat.zero_le _⟩
theorem FmP.pad {w:World} {b n i j:Nat} {f:Nat→Int} {L:Nat} (h:FmP w b n i f L) (hij:i≤j) (hf:∀ k,i≤k→k<j→f k=0):FmP w b n j f L:=by
 obtain ⟨es,h1,h2,h3,h4⟩:=h
 refine ⟨es,h1,h2,fun k e hk he=>h3 k e (by omega) he,fun k e hk he=>?_⟩
 by_cases hki:k<i
 ·exact h4 k e hki he
 ·rw [h3 k e (by omega) he,hf k (by omega) hk]
  exact ap9 w L
theorem FmP.cells {w:World} {b n i:Nat} {f:Nat→Int} {L:Nat} (h:FmP w b n i f L) {k:Nat} (hk:k<n+1):∃ ng a m c,w.cell? ⟨b,k*2,none⟩ = some (.bool ng)∧w.cell? ⟨b,k*2+1,none⟩ = some (.slice a m c)∧w.frozen? ⟨b,k*2,none⟩ = false∧w.frozen? ⟨b,k*2+1,none⟩ = false∧(k<i→OutW (f k) L (.agg #[.bool ng,.slice a m c]) w):=by
 obtain ⟨es,h1,h2,h3,h4⟩:=h
 obtain ⟨e,he⟩:∃ e,es[k]? = some e:=⟨_,List.getElem?_eq_getElem (by omega)⟩
 obtain ⟨f1,f2⟩:=acf he
 exact ⟨e.ng,e.a,e.m,e.c,by rw [cell_of_row _ _ _ _ _ (0,0) h2,List.getElem?_toArray];exact f1,by rw [cell_of_row _ _ _ _ _ (0,0) h2,List.getElem?_toArray];exact f2,frozen_of_row _ _ _ _ _ h2,frozen_of_row _ _ _ _ _ h2,fun hk=>h4 k e hk he⟩
theorem FmP.put {w1 w2:World} {b n i:Nat} {f:Nat→Int} {L:Nat} {ng:Bool} {a:Option Addr} {m c:Nat} (h:FmP w1 b n i f L) (hb:Below w1.heap.size w1 w2) (hi:i<n+1) (hv:OutW (f i) L (.agg #[.bool ng,.slice a m c]) w2) :
  FmP ((w2.setCell ⟨b,i*2,none⟩ (.bool ng)).setCell ⟨b,i*2+1,none⟩ (.slice a m c)) b n (i+1) f L∧Rc b b w1 ((w2.setCell ⟨b,i*2,none⟩ (.bool ng)).setCell ⟨b,i*2+1,none⟩ (.slice a m c)):=by
 have hlt:=h.lt
 obtain ⟨es,e1,e2,e3,e4⟩:=h
 replace e2:=(hb.block b hlt).trans e2
 generalize hW:((w2.setCell ⟨b,i*2,none⟩ (.bool ng)).setCell ⟨b,i*2+1,none⟩ (.slice a m c))=W
 have hbW:W.heap[b]? = some (.cells (flat (es.set i ⟨ng,a,m,c,[]⟩)).toArray 33 (0,0)):=by
  rw [←hW,ar4 es i _ (by omega)]
  have s1:=heap_setCell_same w2 b (i*2) _ _ (.bool ng) e2
  have s2:=heap_setCell_same _ b (i*2+1) _ _ (.slice a m c) s1
  rw [s2]
  simp
 have hot:∀ k,k≠b→W.heap[k]? = w2.heap[k]? := fun k hn=>by rw [←hW,heap_setCell_other _ ⟨b,i*2+1,none⟩ k _ hn,heap_setCell_other _ ⟨b,i*2,none⟩ k _ hn]
 have hsz:w2.heap.size≤W.heap.size:=by rw [←hW];simp [World.setCell]
 have hru:Ru w2 W:=Ru.of_one e2 (by decide) (auo es) hsz (fun k _ hn=>hot k hn)
 have hrc:Rc b b w2 W:=⟨by rw [←hW];rfl,by rw [←hW];rfl,by rw [←hW];rfl,hsz,fun k _ hn _=>hot k hn,hru⟩
 refine ⟨⟨es.set i ⟨ng,a,m,c,[]⟩,by simp [e1],hbW,?_,?_⟩,(Rc.of_below hb).trans hrc⟩
 ·intro k e hk he
  rw [List.getElem?_set_ne (by omega)] at he
  exact e3 k e (by omega) he
 ·intro k e hk he
  by_cases hki:k=i
  ·subst hki
   rw [List.getElem?_set_self (by omega)] at he
   obtain rfl:=Option.some.inj he
   exact hv.ru hru
  ·rw [List.getElem?_set_ne (fun h=>hki h.symm)] at he
   exact ((e4 k e (by omega) he).ru (Ru.of_below hb)).ru hru
theorem afz (w:World) (n:Nat) (hn:n≤1000):(Instr.makeSlice 58 (.int .i64 ((n:Int)+1)) (.int .i64 ((n:Int)+1))).run Tryz.prog w=.ok (.slice (some ⟨w.heap.size,0,none⟩) (n+1) (n+1)) (w.alloc (.cells (madeCells #[.bool false,.slice none 0 0] ((n+1)*2)) 33)):=by
 obtain ⟨iW,hi,hz0,hz1,hz2⟩:=info_parts infoWz
 have h:=run_make (P:=Tryz.prog) w 58 33 iW (.agg #[.bool false,.slice none 0 0]) Tryz.underlying58 hi hz0 .i64 .i64 ((n:Int)+1) ((n:Int)+1) (by omega) (by omega) (by rw [hz2];omega) (by omega)
 rw [hz1,show ((n:Int)+1).toNat=n+1 by omega] at h
 exact h
theorem auw {n k:Nat} (hk:k<n):(madeCells #[.bool false,.slice none 0 0] (n*2))[k*2]? = some (.bool false)∧(madeCells #[.bool false,.slice none 0 0] (n*2))[k*2+1]? = some (.slice none 0 0):=by
 have h:=acf (es:=List.replicate n ⟨false,none,0,0,[]⟩) (k:=k) (e:=⟨false,none,0,0,[]⟩) (by rw [List.getElem?_replicate,if_pos hk])
 rw [←ai7 n] at h
 simpa using h
set_option maxRecDepth 20000 in
set_option maxHeartbeats 4000000 in
theorem agn (w:World) (v:Value) (z:Int) (L:Nat) (hv:OutW z L v w) (i n:Nat) (hi:i≤n) (hn:n≤16) :
  Calls Tryz.prog 47 #[v,.int .i64 (i:Int),.int .i64 (n:Int)] w fun e w'=>∃ fv,e=.returned fv∧FmS w' fv n (uf i z) L∧Below w.heap.size w w' := by
 have hba0:=fun o=>hAl w o
 obtain ⟨ng,ao,cap,rs,rfl,hwh,hL⟩:=id hv
 have hA:=hAl w (.cells #[.bool ng,.slice ao rs.length cap] 33)
 have hn0:=heap_alloc_new w (.cells #[.bool ng,.slice ao rs.length cap] 33)
 have HV:=hide (hv.ru (Ru.of_below hA))
 have HA:=hide hA
 have HN0:=hide hn0
 clear hba0 hv hwh hL hA hn0
 generalize rs.length=m at *
 have hmk:=fun w=>afz w n (by omega)
 go_enter Tryz.func47,Tryz.ntmps47
 obtain ⟨m0,m1⟩:=auw (n:=n+1) (k:=i) (by omega)
 have hwz:(w.alloc (.cells #[.bool ng,.slice ao m cap] 33)).heap.size=w.heap.size+1:=by simp [World.size_alloc]
 have hP0:=(FmP.start (w.alloc (.cells #[.bool ng,.slice ao m cap] 33)) n (uf i z) L).pad (j:=i) (Nat.zero_le _) (fun k _ hk=>by unfold uf;rw [if_neg (by omega)])
 have hA1:=hAl (w.alloc (.cells #[.bool ng,.slice ao m cap] 33)) (.cells (madeCells #[.bool false,.slice none 0 0] ((n+1)*2)) 33)
 obtain ⟨p1,p2⟩:=hP0.put (Below.refl _ _) (by omega) (by rw [show uf i z i=z by simp [uf]];exact HV.out.ru (Ru.of_below hA1))
 have hp3:=p1.pad (j:=n+1) (by omega) (fun k hk _=>by unfold uf;rw [if_neg (by omega)])
 rw [World.setCell_alloc_new,World.setCell_alloc_new] at p2 hp3
 rw [hwz] at p2 hp3 hA1
 have hB1:=HA.out.trans (hA1.mono (by omega:w.heap.size≤w.heap.size+1))
 have hB2:=hB1.trans (p2.below (B:=w.heap.size) hB1.size (by omega) (by omega))
 have HP:=hide hp3
 have HB:=hide hB2
 clear p1 p2 hp3 hP0 hA1 hB1 hB2 HV HA HN0 hwz
 go_wp2
 refine bodyPost_ret (v:=.slice (some ⟨w.heap.size+1,0,none⟩) (n+1) (n+1)) (by simp [results,Tryz.results47,go_sem];try rfl) rfl ⟨_,rfl,⟨_,rfl,HP.out⟩,HB.out⟩
theorem aar {w w1:World} {g:Nat} {n1:Bool} {a1:Option Addr} {m1 c1:Nat} (h:w1.heap[g]? = some (.cells #[.bool n1,.slice a1 m1 c1] 33 (0,0))) (hB:Below w.heap.size w w1) (hg:w.heap.size≤g) (ng:Bool) (a:Option Addr) (m c:Nat) :
  let W:=(w1.setCell ⟨g,0,none⟩ (.bool ng)).setCell ⟨g,1,none⟩ (.slice a m c)
  W.heap[g]? = some (.cells #[.bool ng,.slice a m c] 33 (0,0))∧Ru w1 W∧Below w.heap.size w W:=by
 intro W
 have s1:=heap_setCell_same w1 g 0 _ _ (.bool ng) h
 have s2:=heap_setCell_same _ g 1 _ _ (.slice a m c) s1
 refine ⟨by simpa using s2,?_,(hB.setCell hg _).setCell hg _⟩
 refine Ru.of_one h (by decide) (fun i z=>?_) (by simp [W,World.setCell]) (fun k _ hn=>?_)
 ·match i with
  | 0=>simp
  | 1=>simp
  | i+2=>simp
 ·show ((w1.setCell ⟨g,0,none⟩ (.bool ng)).setCell ⟨g,1,none⟩ (.slice a m c)).heap[k]? = w1.heap[k]?
  rw [heap_setCell_other _ ⟨g,1,none⟩ k _ hn,heap_setCell_other _ ⟨g,0,none⟩ k _ hn]
theorem aey (w:World) (ao:Option Addr) (n c:Nat) (hn:n≤1000) :
  Calls Tryz.prog 125 #[.slice ao (n+1) c] w fun e w'=>e=.returned (.int .i64 (n:Int))∧w' = w:=by
 have hc:(((n+1:Nat):Int)) - 1=(n:Int):=by omega
 go_enter Tryz.func125,Tryz.ntmps125
 go_wp2
 refine bodyPost_ret (v:=_) (by simp [results,Tryz.results125,go_sem];try rfl) rfl ⟨by simp;try omega,rfl⟩
set_option maxRecDepth 20000 in
set_option maxHeartbeats 4000000 in
theorem ac4 (w:World) (v:Value) (n:Nat) (f:Nat→Int) (L:Nat) (h:FmS w v n f L) (hn:n≤16) :
  Calls Tryz.prog 124 #[v] w fun e w'=>∃ x,e=.returned x∧OutW (f n) L x w'∧Below w.heap.size w w' := by
 obtain ⟨b,rfl,h⟩:=h
 have hA:=hAl w (.cells #[.bool false,.slice none 0 0] 33)
 have hn0:=heap_alloc_new w (.cells #[.bool false,.slice none 0 0] 33)
 have H:=hide (h.below hA)
 have HA:=hide hA
 have HN0:=hide hn0
 have K:=hide (aey (w.alloc (.cells #[.bool false,.slice none 0 0] 33)) (some ⟨b,0,none⟩) n (n+1) (by omega))
 clear h hA hn0
 go_enter Tryz.func124,Tryz.ntmps124
 go_wp2_with fail
 refine K.out.mono ?_
 generalize w.alloc (.cells #[.bool false,.slice none 0 0] 33)=wa at *
 rintro e w1 ⟨rfl,rfl⟩
 obtain ⟨ng,a,m,c,c0,c1,-,-,ho⟩:=H.out.cells (k:=n) (by omega)
 have hO:=ho (by omega)
 have g0:w1.cell? ⟨w.heap.size,0,none⟩ = some (.bool false):=by rw [cell_of_row _ _ _ _ _ (0,0) HN0.out];rfl
 have g1:w1.cell? ⟨w.heap.size,1,none⟩ = some (.slice none 0 0):=by rw [cell_of_row _ _ _ _ _ (0,0) HN0.out];rfl
 have gf:=fun k=>frozen_of_row w1 w.heap.size k _ _ HN0.out
 have HO:=hide hO
 clear hO ho K
 go_wp2
 obtain ⟨hX,hRu,hBl⟩:=aar HN0.out HA.out (Nat.le_refl _) ng a m c
 generalize hV:World.setCell _ _ _=V
 rw [hV] at hX hRu hBl
 clear hV
 have x0:V.cell? ⟨w.heap.size,0,none⟩ = some (.bool ng):=by rw [cell_of_row _ _ _ _ _ (0,0) hX];rfl
 have x1:V.cell? ⟨w.heap.size,1,none⟩ = some (.slice a m c):=by rw [cell_of_row _ _ _ _ _ (0,0) hX];rfl
 refine bodyPost_ret (v:=.agg #[.bool ng,.slice a m c]) (by simp [results,Tryz.results124,go_sem,x0,x1];try rfl) rfl ⟨_,rfl,HO.out.ru hRu,hBl⟩
set_option maxRecDepth 20000 in
set_option maxHeartbeats 4000000 in
theorem acn (w:World) (v:Value) (n:Nat) (f:Nat→Int) (L:Nat) (h:FmS w v n f L) (hn:n≤16) (hL:L≤400000000) :
  Calls Tryz.prog 116 #[v] w fun e w'=>e=.returned (.bool (cstB n f))∧Below w.heap.size w w' := by
 obtain ⟨b,rfl,h⟩:=h
 have H:=hide h
 have K:=hide (aey w (some ⟨b,0,none⟩) n (n+1) (by omega))
 clear h
 go_enter Tryz.func116,Tryz.ntmps116
 go_wp2_with fail
 refine K.out.mono ?_
 rintro e w1 ⟨rfl,rfl⟩
 clear K
 go_wp2
 go_loopw [4,10] (fun _ iv wr=>∃ (k:Nat),iv=.int .i64 k∧k≤n∧(∀ j,j<k→f j=0)∧Below w1.heap.size w1 wr) (fun _ iv _=>n - (intOf iv).toNat)
 case atStart=>exact ⟨0,rfl,Nat.zero_le _,fun j hj=>absurd hj (by omega),Below.refl _ _⟩
 case round =>
  obtain ⟨k,rfl,hk,hz,hbw⟩:=hrel
  have HZ:=hide hz
  have HW:=hide hbw
  clear hz
  by_cases hlt:k<n
  ·obtain ⟨ng,a,m,c,c0,c1,-,-,ho⟩:=(H.out.below hbw).cells (k:=k) (by omega)
   have hA:=hAl wr (.cells #[.bool ng,.slice a m c] 33)
   have K:=hide (signF _ _ _ _ ((ho (by omega)).ru (Ru.of_below hA)).is hL)
   have HA:=hide hA
   have hlt' : (k:Int)<(n:Int):=by omega
   clear ho hA hbw
   go_wp2_with fail
   refine K.out.mono ?_
   rintro e w2 ⟨rfl,hb2⟩
   have HB2:=hide (HW.out.trans ((HA.out.trans (hb2.mono HA.out.size)).mono HW.out.size))
   clear hb2 K
   by_cases hf:f k=0
   ·have hs:(Int.sign (f k) != 0)=false:=by rw [hf];rfl
    have hs2:decide (Int.sign (f k)≠0)=false:=by rw [hf];rfl
    go_wp2
    go_roundw
    case rel =>
     refine ⟨k+1,by go_num,by omega,fun j hj=>?_,HB2.out⟩
     by_cases hjk:j=k
     ·rw [hjk];exact hf
     ·exact HZ.out j (by omega)
    case measure=>simp [intOf];omega
   ·have hs:(Int.sign (f k) != 0)=true:=by simpa using hf
    have hE:cstB n f=false:=by
     cases hc:cstB n f with
     | false=>rfl
     | true=>exact absurd (acs.1 hc k hlt) hf
    go_wp2
    refine bodyPost_ret (v:=_) (by simp [results,Tryz.results116,go_sem];try rfl) rfl ⟨by rw [hE],HB2.out⟩
  ·have hlt' : decide ((k:Int)<(n:Int))=false:=by simp;omega
   have hE:cstB n f=true:=acs.2 fun j hj=>HZ.out j (by omega)
   go_wp2
   refine bodyPost_ret (v:=_) (by simp [results,Tryz.results116,go_sem];try rfl) rfl ⟨by rw [hE],HW.out⟩
section
variable {dst:Option Tmp} {ty:TypeId} {pos:String} {after:Array Edge} {guard:Option (Nat × Bool)} {a:Act} {w:World} {ats:Array TypeId} {i j:Nat}
theorem ad1 {b n c k:Nat} (h:a.eval (.tmp i)=.slice (some ⟨b,0,none⟩) n c) (hk:a.eval (.tmp j)=.int .i64 (k:Int)) (hl:k<n):Does Tryz.prog { dst,op:=.indexAddr 58 (.tmp i) (.tmp j),type:=ty,pos,after,guard } a.eval w fun v' w'=>Below w.heap.size w w'∧Eqs (.pointer (some ⟨b,k*2,none⟩)) v' w' := by
 have e:(execOp a.eval { dst,op:=.indexAddr 58 (.tmp i) (.tmp j),type:=ty,pos,after,guard }).run Tryz.prog w=.ok (.value (.pointer (some ⟨b,k*2,none⟩))) w:=by
  simp only [execOp,h,hk]
  go_simp
 refine ⟨?_⟩
 unfold Turns
 rw [e]
 exact ⟨Below.refl _ _,rfl⟩
end
set_option maxRecDepth 20000 in
set_option maxHeartbeats 8000000 in
theorem aeg (w:World) (v vz:Value) (n:Nat) (f:Nat→Int) (z:Int) (L M:Nat) (h:FmS w v n f L) (hz:OutW z M vz w) (hn:n≤16) (hL:L≤200000000) (hM:M≤200000000) :
  Calls Tryz.prog 123 #[v,vz] w fun e w'=>∃ fv,e=.returned fv∧FmS w' fv n (fun k=>f k*z) (L+M)∧Below w.heap.size w w' := by
 obtain ⟨b,rfl,h⟩:=h
 obtain ⟨ngz,az,cz,rs,rfl,hwh,hlr⟩:=id hz
 generalize rs.length=mz at *
 have hA:=hAl w (.cells #[.bool ngz,.slice az mz cz] 33)
 have hn0:=heap_alloc_new w (.cells #[.bool ngz,.slice az mz cz] 33)
 have hwz:(w.alloc (.cells #[.bool ngz,.slice az mz cz] 33)).heap.size=w.heap.size+1:=by simp [World.size_alloc]
 have hA1:=hAl (w.alloc (.cells #[.bool ngz,.slice az mz cz] 33)) (.cells (madeCells #[.bool false,.slice none 0 0] ((n+1)*2)) 33)
 have hP0:=FmP.start (w.alloc (.cells #[.bool ngz,.slice az mz cz] 33)) n (fun k=>f k*z) (L+M)
 have HN0:=hide ((hA1.block _ (aaa hn0)).trans hn0)
 rw [hwz] at hA1 hP0
 have hB0:=hA.trans (hA1.mono (by omega:w.heap.size≤w.heap.size+1))
 have H:=hide (h.below hB0)
 have HZ:=hide ((hz.ru (Ru.of_below hB0)).is)
 have HB0:=hide hB0
 have HP0:=hide hP0
 have hbl:=h.lt
 have hcast:(((n+1:Nat):Int))=(n:Int)+1:=by omega
 have hmk:=fun w=>afz w n (by omega)
 clear h hz hA hn0 hwz hA1 hP0 hB0 hwh hlr
 go_enter Tryz.func123,Tryz.ntmps123
 go_wp2
 generalize ((w.alloc (.cells #[.bool ngz,.slice az mz cz] 33)).alloc (.cells (madeCells #[.bool false,.slice none 0 0] ((n+1)*2)) 33))=w0 at *
 go_loopw [6,12] (fun _ iv wr=>∃ (k:Nat),iv=.int .i64 k∧k≤n+1∧Below w.heap.size w wr∧FmP wr (w.heap.size+1) n k (fun k=>f k*z) (L+M)∧Rc (w.heap.size+1) (w.heap.size+1) w0 wr) (fun _ iv _=>n+1 - (intOf iv).toNat)
 case atStart=>exact ⟨0,rfl,Nat.zero_le _,HB0.out,HP0.out,Rc.refl _ _ _⟩
 case round =>
  obtain ⟨k,rfl,hk,hbw,hp,hrc⟩:=hrel
  have HW:=hide hbw
  have HP:=hide hp
  have HRC:=hide hrc
  by_cases hlt:k<n+1
  ·have hlt' : (k:Int)<(n:Int)+1:=by omega
   obtain ⟨ng,a,m,c,c0,c1,-,-,ho⟩:=H.out.cells (k:=k) hlt
   have hb0:b<w0.heap.size:=H.out.lt
   have hbne:b≠w.heap.size+1:=by omega
   have y0:=(World.cell?_of_block (hrc.other b hb0 hbne hbne)).trans c0
   have y1:=(World.cell?_of_block (hrc.other b hb0 hbne hbne)).trans c1
   have hblr:=Nat.lt_of_lt_of_le hb0 hrc.size
   have HFK:=hide (((ho (by omega)).ru hrc.ru).is)
   have HZK:=hide (HZ.out.ru hrc.ru)
   have HNK:=hide ((hrc.other w.heap.size (aaa HN0.out) (by omega) (by omega)).trans HN0.out)
   clear ho hbw hp hrc
   go_upto_region 5 with fail
   refine abo 9 [15,16,17,18,19,20,21,22,23] [Eqs (.slice (some ⟨w.heap.size+1,0,none⟩) (n+1) (n+1)),Eqs (.int .i64 (k:Int)),Eqs (.slice (some ⟨b,0,none⟩) (n+1) (n+1)),Eqs (.int .i64 (k:Int)),Eqs (.pointer (some ⟨b,k*2,none⟩)),(IsW (f k) L),(IsW z M),(OutW (f k*z) (L+M)),Eqs (.pointer (some ⟨w.heap.size+1,k*2,none⟩))] rfl rfl (by decide) (by kernel_rfl) (by kernel_rfl) (by decide) (by kernel_rfl) ⟨Eqs.mono _,Eqs.mono _,Eqs.mono _,Eqs.mono _,Eqs.mono _,(Mono.of4 (IsW.mono4 _ _)),(Mono.of4 (IsW.mono4 _ _)),(Mono.of4 (OutW.mono4 _ _)),Eqs.mono _,trivial⟩ ?_ ?_
   ·exact ⟨⟨rfl,fun a_ w_ _ hB hR hD=>aaj ((hR 5 rfl).trans (aae rfl))⟩,
      ⟨rfl,fun a_ w_ _ hB hR hD=>aaj ((hR 6 rfl).trans (aae rfl))⟩,
      ⟨rfl,fun a_ w_ _ hB hR hD=>aaj ((hR 0 rfl).trans (aae rfl))⟩,
      ⟨rfl,fun a_ w_ _ hB hR hD=>aaj ((hR 6 rfl).trans (aae rfl))⟩,
      ⟨rfl,fun a_ w_ _ hB hR hD=>ad1 (show a_.eval (.tmp 17)=.slice (some ⟨b,0,none⟩) (n+1) (n+1) from hD 2 rfl) (show a_.eval (.tmp 18)=.int .i64 (k:Int) from hD 3 rfl) hlt⟩,
      ⟨rfl,fun a_ w_ _ hB hR hD=>aix (show a_.eval (.tmp 19)=.pointer (some ⟨b,k*2,none⟩) from hD 4 rfl) ((hB.cell (p:=⟨b,k*2,none⟩) hblr).trans y0) ((hB.cell (p:=⟨b,k*2+1,none⟩) hblr).trans y1) (Mono.of4 (IsW.mono4 _ _) _ _ _ hB HFK.out)⟩,
      ⟨rfl,fun a_ w_ _ hB hR hD=>agb ((hR 3 rfl).trans (aae rfl)) ((hB.block _ (aaa HNK.out)).trans HNK.out) (Mono.of4 (IsW.mono4 _ _) _ _ _ hB HZK.out)⟩,
      ⟨rfl,fun a_ w_ _ hB hR hD=>avr (show (IsW (f k) L) (a_.eval (.tmp 20)) w_ from hD 5 rfl) (show (IsW z M) (a_.eval (.tmp 21)) w_ from hD 6 rfl) (by omega) (by omega)⟩,
      ⟨rfl,fun a_ w_ _ hB hR hD=>ad1 (show a_.eval (.tmp 15)=.slice (some ⟨w.heap.size+1,0,none⟩) (n+1) (n+1) from hD 0 rfl) (show a_.eval (.tmp 16)=.int .i64 (k:Int) from hD 1 rfl) hlt⟩,
      trivial⟩
   ·intro a' w' hn' hd' hB' hR' hP'
    have e15:a'.eval (.tmp 15)=.slice (some ⟨w.heap.size+1,0,none⟩) (n+1) (n+1):=hP' 0 (by decide)
    have e16:a'.eval (.tmp 16)=.int .i64 (k:Int):=hP' 1 (by decide)
    have e17:a'.eval (.tmp 17)=.slice (some ⟨b,0,none⟩) (n+1) (n+1):=hP' 2 (by decide)
    have e18:a'.eval (.tmp 18)=.int .i64 (k:Int):=hP' 3 (by decide)
    have e19:a'.eval (.tmp 19)=.pointer (some ⟨b,k*2,none⟩):=hP' 4 (by decide)
    obtain ⟨u20,e20⟩:∃ u,a'.eval (.tmp 20)=u:=⟨_,rfl⟩
    obtain ⟨u21,e21⟩:∃ u,a'.eval (.tmp 21)=u:=⟨_,rfl⟩
    obtain ⟨u22,e22⟩:∃ u,a'.eval (.tmp 22)=u:=⟨_,rfl⟩
    have hT:(OutW (f k*z) (L+M)) (a'.eval (.tmp 22)) w' := hP' 7 (by decide)
    rw [e22] at hT
    have e23:a'.eval (.tmp 23)=.pointer (some ⟨w.heap.size+1,k*2,none⟩):=hP' 8 (by decide)
    refine aby hn' hd' hR' (.s4 rfl <| .s4 rfl <| .s4 rfl <| .same rfl <| .same rfl <| .same rfl <| .new e15 <| .new e16 <| .new e17 <| .new e18 <| .new e19 <| .new e20 <| .new e21 <| .new e22 <| .new e23 <| .same rfl <| .same rfl <| .nil) ?_
    clear e15 e16 e17 e18 e19 e20 e21 e22 e23
    obtain ⟨ng1,a1,c1',rs1,rfl,hwh1,hl1⟩:=id hT
    generalize rs1.length=m1 at *
    obtain ⟨ngp,ap,mp,cp,p0,p1,pf0,pf1,-⟩:=(HP.out.below hB').cells (k:=k) hlt
    obtain ⟨q1,q2⟩:=HP.out.put hB' hlt hT
    have HB3:=hide hB'
    clear hT hwh1 hl1 y0 y1 c0 c1
    go_wp2_with fail
    go_roundw
    case rel =>
     refine ⟨k+1,by go_num,by omega,?_,q1,HRC.out.trans q2⟩
     exact HW.out.trans (q2.below HW.out.size (by omega) (by omega))
    case measure=>simp [intOf];omega
  ·have hlt' : decide ((k:Int)<(n:Int)+1)=false:=by simp;omega
   have hkn:k=n+1:=by omega
   subst hkn
   clear hbw hp hrc
   go_wp2
   refine bodyPost_ret (v:=.slice (some ⟨w.heap.size+1,0,none⟩) (n+1) (n+1)) (by simp [results,Tryz.results123,go_sem];try rfl) rfl ⟨_,rfl,⟨_,rfl,HP.out⟩,HW.out⟩
def DoF (F:FuncId) (g:Int→Int→Int):Prop:=∀ (w:World) (vx vy:Value) (x y:Int) (L M:Nat),IsW x L vx w→IsW y M vy w→L≤400000000→M≤400000000→Calls Tryz.prog F #[vx,vy] w fun e w'=>∃ v,e=.returned v∧OutW (g x y) (L+M+1) v w'∧Below w.heap.size w w'
theorem aux:DoF 16 (fun x y=>x+y):=by
 intro w vx vy x y L M hx hy hL hM
 refine (addF _ _ _ _ _ _ _ hx hy hL hM).mono ?_
 rintro e w' ⟨v,he,h,hb⟩
 exact ⟨v,he,h.out,hb⟩
theorem auy:DoF 120 (fun x y=>x - y):=by
 intro w vx vy x y L M hx hy hL hM
 refine (subF _ _ _ _ _ _ _ hx hy hL hM).mono ?_
 rintro e w' ⟨v,he,h,hb⟩
 exact ⟨v,he,h.out,hb⟩
section
variable {dst:Option Tmp} {ty:TypeId} {pos:String} {after:Array Edge} {guard:Option (Nat × Bool)} {a:Act} {w:World} {ats:Array TypeId} {i j k:Nat} {x y:Int} {L1 L2:Nat}
theorem awf {F:FuncId} {g:Int→Int→Int} (hc:a.eval (.tmp k)=.func (.func F) #[] #[]) (hF:Has Tryz.prog F) (hD:DoF F g) (hx:IsW x L1 (a.eval (.tmp i)) w) (hy:IsW y L2 (a.eval (.tmp j)) w) (h1:L1≤400000000) (h2:L2≤400000000) :
  Does Tryz.prog { dst,op:=.call { callee:=.value (.tmp k),args:=#[.tmp i,.tmp j],argTypes:=ats },type:=ty,pos,after,guard } a.eval w fun v w'=>Below w.heap.size w w'∧OutW (g x y) (L1+L2+1) v w' := by
 obtain ⟨vx,e1⟩:∃ vx,a.eval (.tmp i)=vx:=⟨_,rfl⟩
 obtain ⟨vy,e2⟩:∃ vy,a.eval (.tmp j)=vy:=⟨_,rfl⟩
 rw [e1] at hx
 rw [e2] at hy
 refine am1 hF #[] hc _ (by simp only [List.map_toArray,List.map_cons,List.map_nil,e1,e2]) ((hD w vx vy x y L1 L2 hx hy h1 h2).mono ?_)
 rintro e w' ⟨v,rfl,h,hb⟩
 exact ⟨_,rfl,hb,h⟩
end
set_option maxRecDepth 20000 in
set_option maxHeartbeats 8000000 in
theorem ahl (w:World) (v vg:Value) (n:Nat) (f g:Nat→Int) (L M:Nat) (F:FuncId) (op:Int→Int→Int) (hF:Has Tryz.prog F) (hD:DoF F op) (h:FmS w v n f L) (hg:FmS w vg n g M) (hn:n≤16) (hL:L≤200000000) (hM:M≤200000000) :
  Calls Tryz.prog 119 #[v,vg,.func (.func F) #[] #[]] w fun e w'=>∃ fv,e=.returned fv∧FmS w' fv n (fun k=>op (f k) (g k)) (L+M+1)∧Below w.heap.size w w' := by
 obtain ⟨b,rfl,h⟩:=h
 obtain ⟨bg,rfl,hg⟩:=hg
 have hA1:=hAl w (.cells (madeCells #[.bool false,.slice none 0 0] ((n+1)*2)) 33)
 have hP0:=FmP.start w n (fun k=>op (f k) (g k)) (L+M+1)
 have H:=hide (h.below hA1)
 have HG:=hide (hg.below hA1)
 have HB0:=hide hA1
 have HP0:=hide hP0
 have HDF:=hide hD
 have hbl:=h.lt
 have hbg:=hg.lt
 have hcast:(((n+1:Nat):Int))=(n:Int)+1:=by omega
 have hmk:=fun w=>afz w n (by omega)
 clear h hg hA1 hP0 hD
 go_enter Tryz.func119,Tryz.ntmps119
 go_wp2
 generalize (w.alloc (.cells (madeCells #[.bool false,.slice none 0 0] ((n+1)*2)) 33))=w0 at *
 go_loopw [8,14] (fun _ iv wr=>∃ (k:Nat),iv=.int .i64 k∧k≤n+1∧Below w.heap.size w wr∧FmP wr w.heap.size n k (fun k=>op (f k) (g k)) (L+M+1)∧Rc w.heap.size w.heap.size w0 wr) (fun _ iv _=>n+1 - (intOf iv).toNat)
 case atStart=>exact ⟨0,rfl,Nat.zero_le _,HB0.out,HP0.out,Rc.refl _ _ _⟩
 case round =>
  obtain ⟨k,rfl,hk,hbw,hp,hrc⟩:=hrel
  have HW:=hide hbw
  have HP:=hide hp
  have HRC:=hide hrc
  by_cases hlt:k<n+1
  ·have hlt' : (k:Int)<(n:Int)+1:=by omega
   obtain ⟨ng,a,m,c,c0,c1,-,-,ho⟩:=H.out.cells (k:=k) hlt
   obtain ⟨ngg,ag,mg,cg,d0,d1,-,-,hog⟩:=HG.out.cells (k:=k) hlt
   have hb0:b<w0.heap.size:=H.out.lt
   have hg0:bg<w0.heap.size:=HG.out.lt
   have hbne:b≠w.heap.size:=by omega
   have hgne:bg≠w.heap.size:=by omega
   have y0:=(World.cell?_of_block (hrc.other b hb0 hbne hbne)).trans c0
   have y1:=(World.cell?_of_block (hrc.other b hb0 hbne hbne)).trans c1
   have z0:=(World.cell?_of_block (hrc.other bg hg0 hgne hgne)).trans d0
   have z1:=(World.cell?_of_block (hrc.other bg hg0 hgne hgne)).trans d1
   have hblr:=Nat.lt_of_lt_of_le hb0 hrc.size
   have hbgr:=Nat.lt_of_lt_of_le hg0 hrc.size
   have HFK:=hide (((ho (by omega)).ru hrc.ru).is)
   have HGK:=hide (((hog (by omega)).ru hrc.ru).is)
   clear ho hog hbw hp hrc
   go_upto_region 5 with fail
   refine abo 13 [17,18,19,20,21,22,23,24,25,26,27,28,29] [Eqs (.slice (some ⟨w.heap.size,0,none⟩) (n+1) (n+1)),Eqs (.int .i64 (k:Int)),Eqs (.func (.func F) #[] #[]),Eqs (.slice (some ⟨b,0,none⟩) (n+1) (n+1)),Eqs (.int .i64 (k:Int)),Eqs (.pointer (some ⟨b,k*2,none⟩)),(IsW (f k) L),Eqs (.slice (some ⟨bg,0,none⟩) (n+1) (n+1)),Eqs (.int .i64 (k:Int)),Eqs (.pointer (some ⟨bg,k*2,none⟩)),(IsW (g k) M),(OutW (op (f k) (g k)) (L+M+1)),Eqs (.pointer (some ⟨w.heap.size,k*2,none⟩))] rfl rfl (by decide) (by kernel_rfl) (by kernel_rfl) (by decide) (by kernel_rfl) ⟨Eqs.mono _,Eqs.mono _,Eqs.mono _,Eqs.mono _,Eqs.mono _,Eqs.mono _,(Mono.of4 (IsW.mono4 _ _)),Eqs.mono _,Eqs.mono _,Eqs.mono _,(Mono.of4 (IsW.mono4 _ _)),(Mono.of4 (OutW.mono4 _ _)),Eqs.mono _,trivial⟩ ?_ ?_
   ·exact ⟨⟨rfl,fun a_ w_ _ hB hR hD=>aaj ((hR 7 rfl).trans (aae rfl))⟩,
      ⟨rfl,fun a_ w_ _ hB hR hD=>aaj ((hR 8 rfl).trans (aae rfl))⟩,
      ⟨rfl,fun a_ w_ _ hB hR hD=>aaj ((hR 2 rfl).trans (aae rfl))⟩,
      ⟨rfl,fun a_ w_ _ hB hR hD=>aaj ((hR 0 rfl).trans (aae rfl))⟩,
      ⟨rfl,fun a_ w_ _ hB hR hD=>aaj ((hR 8 rfl).trans (aae rfl))⟩,
      ⟨rfl,fun a_ w_ _ hB hR hD=>ad1 (show a_.eval (.tmp 20)=.slice (some ⟨b,0,none⟩) (n+1) (n+1) from hD 3 rfl) (show a_.eval (.tmp 21)=.int .i64 (k:Int) from hD 4 rfl) hlt⟩,
      ⟨rfl,fun a_ w_ _ hB hR hD=>aix (show a_.eval (.tmp 22)=.pointer (some ⟨b,k*2,none⟩) from hD 5 rfl) ((hB.cell (p:=⟨b,k*2,none⟩) hblr).trans y0) ((hB.cell (p:=⟨b,k*2+1,none⟩) hblr).trans y1) (Mono.of4 (IsW.mono4 _ _) _ _ _ hB HFK.out)⟩,
      ⟨rfl,fun a_ w_ _ hB hR hD=>aaj ((hR 1 rfl).trans (aae rfl))⟩,
      ⟨rfl,fun a_ w_ _ hB hR hD=>aaj ((hR 8 rfl).trans (aae rfl))⟩,
      ⟨rfl,fun a_ w_ _ hB hR hD=>ad1 (show a_.eval (.tmp 24)=.slice (some ⟨bg,0,none⟩) (n+1) (n+1) from hD 7 rfl) (show a_.eval (.tmp 25)=.int .i64 (k:Int) from hD 8 rfl) hlt⟩,
      ⟨rfl,fun a_ w_ _ hB hR hD=>aix (show a_.eval (.tmp 26)=.pointer (some ⟨bg,k*2,none⟩) from hD 9 rfl) ((hB.cell (p:=⟨bg,k*2,none⟩) hbgr).trans z0) ((hB.cell (p:=⟨bg,k*2+1,none⟩) hbgr).trans z1) (Mono.of4 (IsW.mono4 _ _) _ _ _ hB HGK.out)⟩,
      ⟨rfl,fun a_ w_ _ hB hR hD=>awf (show a_.eval (.tmp 19)=.func (.func F) #[] #[] from hD 2 rfl) hF HDF.out (show (IsW (f k) L) (a_.eval (.tmp 23)) w_ from hD 6 rfl) (show (IsW (g k) M) (a_.eval (.tmp 27)) w_ from hD 10 rfl) (by omega) (by omega)⟩,
      ⟨rfl,fun a_ w_ _ hB hR hD=>ad1 (show a_.eval (.tmp 17)=.slice (some ⟨w.heap.size,0,none⟩) (n+1) (n+1) from hD 0 rfl) (show a_.eval (.tmp 18)=.int .i64 (k:Int) from hD 1 rfl) hlt⟩,
      trivial⟩
   ·intro a' w' hn' hd' hB' hR' hP'
    have e17:a'.eval (.tmp 17)=.slice (some ⟨w.heap.size,0,none⟩) (n+1) (n+1):=hP' 0 (by decide)
    have e18:a'.eval (.tmp 18)=.int .i64 (k:Int):=hP' 1 (by decide)
    have e19:a'.eval (.tmp 19)=.func (.func F) #[] #[]:=hP' 2 (by decide)
    have e20:a'.eval (.tmp 20)=.slice (some ⟨b,0,none⟩) (n+1) (n+1):=hP' 3 (by decide)
    have e21:a'.eval (.tmp 21)=.int .i64 (k:Int):=hP' 4 (by decide)
    have e22:a'.eval (.tmp 22)=.pointer (some ⟨b,k*2,none⟩):=hP' 5 (by decide)
    obtain ⟨u23,e23⟩:∃ u,a'.eval (.tmp 23)=u:=⟨_,rfl⟩
    have e24:a'.eval (.tmp 24)=.slice (some ⟨bg,0,none⟩) (n+1) (n+1):=hP' 7 (by decide)
    have e25:a'.eval (.tmp 25)=.int .i64 (k:Int):=hP' 8 (by decide)
    have e26:a'.eval (.tmp 26)=.pointer (some ⟨bg,k*2,none⟩):=hP' 9 (by decide)
    obtain ⟨u27,e27⟩:∃ u,a'.eval (.tmp 27)=u:=⟨_,rfl⟩
    obtain ⟨u28,e28⟩:∃ u,a'.eval (.tmp 28)=u:=⟨_,rfl⟩
    have hT:(OutW (op (f k) (g k)) (L+M+1)) (a'.eval (.tmp 28)) w' := hP' 11 (by decide)
    rw [e28] at hT
    have e29:a'.eval (.tmp 29)=.pointer (some ⟨w.heap.size,k*2,none⟩):=hP' 12 (by decide)
    refine aby hn' hd' hR' (.s16 rfl <| .same rfl <| .new e17 <| .new e18 <| .new e19 <| .new e20 <| .new e21 <| .new e22 <| .new e23 <| .new e24 <| .new e25 <| .new e26 <| .new e27 <| .new e28 <| .new e29 <| .same rfl <| .same rfl <| .nil) ?_
    clear e17 e18 e19 e20 e21 e22 e23 e24 e25 e26 e27 e28 e29
    obtain ⟨ng1,a1,c1',rs1,rfl,hwh1,hl1⟩:=id hT
    generalize rs1.length=m1 at *
    obtain ⟨ngp,ap,mp,cp,p0,p1,pf0,pf1,-⟩:=(HP.out.below hB').cells (k:=k) hlt
    obtain ⟨q1,q2⟩:=HP.out.put hB' hlt hT
    have HB3:=hide hB'
    clear hT hwh1 hl1 y0 y1 c0 c1 z0 z1 d0 d1
    go_wp2_with fail
    go_roundw
    case rel =>
     refine ⟨k+1,by go_num,by omega,?_,q1,HRC.out.trans q2⟩
     exact HW.out.trans (q2.below HW.out.size (by omega) (by omega))
    case measure=>simp [intOf];omega
  ·have hlt' : decide ((k:Int)<(n:Int)+1)=false:=by simp;omega
   have hkn:k=n+1:=by omega
   subst hkn
   clear hbw hp hrc
   go_wp2
   refine bodyPost_ret (v:=.slice (some ⟨w.heap.size,0,none⟩) (n+1) (n+1)) (by simp [results,Tryz.results119,go_sem];try rfl) rfl ⟨_,rfl,⟨_,rfl,HP.out⟩,HW.out⟩
def ShS (w:World) (v:Value) (n:Nat) (L:Nat):Option (Nat→Int)→Prop
 | some f=>∃ u,v=.iface 58 u∧FmS w u n f L
 | none=>v=.iface 105 (.agg #[])
theorem ShS.below {w w' : World} {v:Value} {n L:Nat} {o:Option (Nat→Int)} (h:ShS w v n L o) (hb:Below w.heap.size w w'):ShS w' v n L o:=by
 cases o with
 | none=>exact h
 | some f=>obtain ⟨u,e,hu⟩:=h;exact ⟨u,e,hu.below hb⟩
def prodF (n:Nat) (f g:Nat→Int):Option (Nat→Int):=if cstB n f=true then some (fun k=>g k*f n) else if cstB n g=true then some (fun k=>f k*g n) else none
theorem gslice {w:World} {v:Value} {n L:Nat} {f:Nat→Int} (h:FmS w v n f L):∃ b,v=.slice (some ⟨b,0,none⟩) (n+1) (n+1):=by
 obtain ⟨b,e,_⟩:=h
 exact ⟨b,e⟩
set_option maxRecDepth 20000 in
set_option maxHeartbeats 4000000 in
theorem ajk (w:World) (v vg:Value) (n:Nat) (f g:Nat→Int) (L M:Nat) (h:FmS w v n f L) (hg:FmS w vg n g M) (hn:n≤16) (hL:L≤200000000) (hM:M≤200000000) :
  Calls Tryz.prog 121 #[v,vg] w fun e w'=>∃ r,e=.returned r∧ShS w' r n (L+M) (prodF n f g)∧Below w.heap.size w w' := by
 have K1:=hide (acn w v n f L h hn (by omega))
 have H:=hide h
 have HG:=hide hg
 obtain ⟨b,rfl⟩:=gslice h
 obtain ⟨bg,rfl⟩:=gslice hg
 clear h hg
 cases hc:cstB n f with
 | true =>
  have HC:=hide hc
  rw [hc] at K1
  clear hc
  go_enter Tryz.func121,Tryz.ntmps121
  go_wp2_with fail
  refine K1.out.mono ?_
  rintro e w1 ⟨rfl,hb1⟩
  have K2:=hide (ac4 w1 _ n f L (H.out.below hb1) hn)
  have HB1:=hide hb1
  clear hb1 K1
  go_wp2_with fail
  refine K2.out.mono ?_
  rintro e w2 ⟨x,rfl,hx,hb2⟩
  have K3:=hide (aeg w2 _ x n g (f n) M L ((HG.out.below HB1.out).below hb2) hx hn hM hL)
  have HB2:=hide (HB1.out.trans (hb2.mono HB1.out.size))
  clear hx hb2 K2
  go_wp2_with fail
  refine K3.out.mono ?_
  rintro e w3 ⟨r,rfl,hr,hb3⟩
  have HR:=hide hr
  have HB3:=hide (HB2.out.trans (hb3.mono HB2.out.size))
  clear hr hb3 K3
  go_wp2
  have hS:ShS w3 (.iface 58 r) n (L+M) (prodF n f g):=by
   rw [prodF,if_pos HC.out]
   exact ⟨r,rfl,by rw [Nat.add_comm];exact HR.out⟩
  refine bodyPost_ret (v:=_) (by simp [results,Tryz.results121,go_sem];try rfl) rfl ⟨_,rfl,hS,HB3.out⟩
 | false =>
  have HC:=hide hc
  rw [hc] at K1
  clear hc
  go_enter Tryz.func121,Tryz.ntmps121
  go_wp2_with fail
  refine K1.out.mono ?_
  rintro e w1 ⟨rfl,hb1⟩
  have K2:=hide (acn w1 _ n g M (HG.out.below hb1) hn (by omega))
  have HB1:=hide hb1
  clear hb1 K1
  cases hc:cstB n g with
  | true =>
   have HC2:=hide hc
   rw [hc] at K2
   clear hc
   go_wp2_with fail
   refine K2.out.mono ?_
   rintro e w2 ⟨rfl,hb2⟩
   have HB2:=hide (HB1.out.trans (hb2.mono HB1.out.size))
   have K3:=hide (ac4 w2 _ n g M (HG.out.below HB2.out) hn)
   clear hb2 K2
   go_wp2_with fail
   refine K3.out.mono ?_
   rintro e w3 ⟨x,rfl,hx,hb3⟩
   have K4:=hide (aeg w3 _ x n f (g n) L M ((H.out.below HB2.out).below hb3) hx hn hL hM)
   have HB3:=hide (HB2.out.trans (hb3.mono HB2.out.size))
   clear hx hb3 K3
   go_wp2_with fail
   refine K4.out.mono ?_
   rintro e w4 ⟨r,rfl,hr,hb4⟩
   have HR:=hide hr
   have HB4:=hide (HB3.out.trans (hb4.mono HB3.out.size))
   clear hr hb4 K4
   go_wp2
   have hS:ShS w4 (.iface 58 r) n (L+M) (prodF n f g):=by
    rw [prodF,if_neg (by rw [HC.out];decide),if_pos HC2.out]
    exact ⟨r,rfl,HR.out⟩
   refine bodyPost_ret (v:=_) (by simp [results,Tryz.results121,go_sem];try rfl) rfl ⟨_,rfl,hS,HB4.out⟩
  | false =>
   have HC2:=hide hc
   rw [hc] at K2
   clear hc
   go_wp2_with fail
   refine K2.out.mono ?_
   rintro e w2 ⟨rfl,hb2⟩
   have HB2:=hide (HB1.out.trans (hb2.mono HB1.out.size))
   clear hb2 K2
   go_wp2
   have hS:ShS w2 (.iface 105 (.agg #[])) n (L+M) (prodF n f g):=by
    rw [prodF,if_neg (by rw [HC.out];decide),if_neg (by rw [HC2.out];decide)]
    exact rfl
   refine bodyPost_ret (v:=_) (by simp [results,Tryz.results121,go_sem];try rfl) rfl ⟨_,rfl,hS,HB2.out⟩
set_option maxRecDepth 20000 in
set_option maxHeartbeats 4000000 in
theorem ajl (w:World) (v:Value) (n:Nat) (f:Nat→Int) (L:Nat) (h:FmS w v n f L) (hn:n≤16) (hL:L≤200000000) :
  Calls Tryz.prog 118 #[v] w fun e w'=>∃ r,e=.returned r∧ShS w' r n (L+1) (some fun k=>f k*(-1))∧Below w.heap.size w w' := by
 have K1:=hide (wofF w (-1) (by decide) (by decide))
 have H:=hide h
 obtain ⟨b,rfl⟩:=gslice h
 clear h
 go_enter Tryz.func118,Tryz.ntmps118
 go_wp2_with fail
 refine K1.out.mono ?_
 rintro e w1 ⟨x,rfl,hx,hb1⟩
 have K2:=hide (aeg w1 _ x n f (-1) L 1 (H.out.below hb1) (hx.out.fit (L' := 1) (by decide)) hn hL (by omega))
 have HB1:=hide hb1
 clear hx hb1 K1
 go_wp2_with fail
 refine K2.out.mono ?_
 rintro e w2 ⟨r,rfl,hr,hb2⟩
 have HR:=hide hr
 have HB2:=hide (HB1.out.trans (hb2.mono HB1.out.size))
 clear hr hb2 K2
 go_wp2
 have hS:ShS w2 (.iface 58 r) n (L+1) (some fun k=>f k*(-1)):=⟨r,rfl,HR.out⟩
 refine bodyPost_ret (v:=_) (by simp [results,Tryz.results118,go_sem];try rfl) rfl ⟨_,rfl,hS,HB2.out⟩
theorem ahz (w:World) (n L:Nat) :
  Calls Tryz.prog 147 #[.agg #[]] w fun e w'=>∃ r,e=.returned r∧ShS w' r n L none∧Below w.heap.size w w' := by
 go_enter Tryz.func147,Tryz.ntmps147
 go_wp2
 have hS:ShS w (.iface 105 (.agg #[])) n L none:=rfl
 refine bodyPost_ret (v:=_) (by simp [results,Tryz.results147,go_sem];try rfl) rfl ⟨_,rfl,hS,hAl w _⟩
theorem ajm (w:World) (n L:Nat) (s:ByteArray) (v:Value) :
  Calls Tryz.prog 146 #[.agg #[],.string s,v] w fun e w'=>∃ r,e=.returned r∧ShS w' r n L none∧Below w.heap.size w w' := by
 go_enter Tryz.func146,Tryz.ntmps146
 go_wp2
 have hS:ShS w (.iface 105 (.agg #[])) n L none:=rfl
 refine bodyPost_ret (v:=_) (by simp [results,Tryz.results146,go_sem];try rfl) rfl ⟨_,rfl,hS,hAl w _⟩
def divZ (n:Nat) (s:ByteArray) (f g:Nat→Int):Option (Nat→Int) :=
 if cstB n f=true∧cstB n g=true∧g n≠0 then some (uf n (if s=gOver then f n / g n else f n % g n)) else none
theorem ajn (c:UInt8):(⟨#[c]⟩:ByteArray).toList = [c]:=by rw [ByteArray.toList_eq]
theorem ach {s:ByteArray} {c:UInt8} (h:s=⟨#[c]⟩):(s.toList == [c])=true:=by rw [h,ajn];simp
theorem acz {s:ByteArray} {c:UInt8} (h:s≠⟨#[c]⟩):(s.toList == [c])=false:=by
 have:=afa h
 rwa [ajn] at this
theorem FmP.fit {w:World} {b n i:Nat} {f:Nat→Int} {L L' : Nat} (h:FmP w b n i f L) (hf:∀ k,((f k).natAbs:Int)<pw L'):FmP w b n i f L' := by
 obtain ⟨es,h1,h2,h3,h4⟩:=h
 exact ⟨es,h1,h2,h3,fun k e hk he=>(h4 k e hk he).fit (hf k)⟩
theorem FmS.fit {w:World} {v:Value} {n:Nat} {f:Nat→Int} {L L' : Nat} (h:FmS w v n f L) (hf:∀ k,((f k).natAbs:Int)<pw L'):FmS w v n f L' := by
 obtain ⟨b,e,h⟩:=h
 exact ⟨b,e,h.fit hf⟩
theorem FmS.le {w:World} {v:Value} {n:Nat} {f:Nat→Int} {L L' : Nat} (h:FmS w v n f L) (hl:L≤L'):FmS w v n f L' := by
 obtain ⟨b,e,es,h1,h2,h3,h4⟩:=h
 exact ⟨b,e,es,h1,h2,h3,fun k e hk he=>(h4 k e hk he).to rfl hl⟩
theorem FmS.mono4 (n:Nat) (f:Nat→Int) (L:Nat):Mono fun v w=>FmS w v n f L:=fun _ _ _ hb h=>h.below hb
theorem ShS.mono4 (n L:Nat) (o:Option (Nat→Int)):Mono fun v w=>ShS w v n L o:=fun _ _ _ hb h=>h.below hb
theorem ShS.le {w:World} {v:Value} {n L L' : Nat} {o:Option (Nat→Int)} (h:ShS w v n L o) (hl:L≤L'):ShS w v n L' o:=by
 cases o with
 | none=>exact h
 | some f=>obtain ⟨u,e,hu⟩:=h;exact ⟨u,e,hu.le hl⟩
theorem ShS.fit {w:World} {v:Value} {n L L' : Nat} {o:Option (Nat→Int)} (h:ShS w v n L o) (hf:∀ f,o=some f→∀ k,((f k).natAbs:Int)<pw L'):ShS w v n L' o:=by
 cases o with
 | none=>exact h
 | some f=>obtain ⟨u,e,hu⟩:=h;exact ⟨u,e,hu.fit (hf f rfl)⟩
theorem aqa:Has Tryz.prog 125:=by unfold Has;kernel_rfl
theorem ang:Has Tryz.prog 47:=by unfold Has;kernel_rfl
section
variable {dst:Option Tmp} {ty:TypeId} {pos:String} {after:Array Edge} {guard:Option (Nat × Bool)} {a:Act} {w:World} {ats:Array TypeId} {i j k:Nat}
theorem aeh {ao:Option Addr} {n c:Nat} (h:a.eval (.tmp i)=.slice ao (n+1) c) (hn:n≤1000) :
  Does Tryz.prog { dst,op:=.call { callee:=.value (.func 125),args:=#[.tmp i],argTypes:=ats },type:=ty,pos,after,guard } a.eval w fun v w'=>Below w.heap.size w w'∧Eqs (.int .i64 (n:Int)) v w' := by
 refine aa0 aqa _ (by simp only [List.map_toArray,List.map_cons,List.map_nil,h]) ((aey w ao n c hn).mono ?_)
 rintro e w' ⟨rfl,rfl⟩
 exact ⟨_,rfl,Below.refl _ _,rfl⟩
theorem aez {z:Int} {L m n:Nat} (hv:OutW z L (a.eval (.tmp i)) w) (h1:a.eval (.tmp j)=.int .i64 (m:Int)) (h2:a.eval (.tmp k)=.int .i64 (n:Int)) (hm:m≤n) (hn:n≤16) :
  Does Tryz.prog { dst,op:=.call { callee:=.value (.func 47),args:=#[.tmp i,.tmp j,.tmp k],argTypes:=ats },type:=ty,pos,after,guard } a.eval w fun v w'=>Below w.heap.size w w'∧FmS w' v n (uf m z) L:=by
 obtain ⟨vx,e1⟩:∃ vx,a.eval (.tmp i)=vx:=⟨_,rfl⟩
 rw [e1] at hv
 refine aa0 ang _ (by simp only [List.map_toArray,List.map_cons,List.map_nil,e1,h1,h2]) ((agn w vx z L hv m n hm hn).mono ?_)
 rintro e w' ⟨fv,rfl,h,hb⟩
 exact ⟨_,rfl,hb,h⟩
theorem af0 {n L:Nat} {f:Nat→Int} (h:FmS w (a.eval (.tmp i)) n f L) :
  Does Tryz.prog { dst,op:=.makeInterface 58 (.tmp i),type:=ty,pos,after,guard } a.eval w fun v w'=>Below w.heap.size w w'∧ShS w' v n L (some f):=by
 have e:(execOp a.eval { dst,op:=.makeInterface 58 (.tmp i),type:=ty,pos,after,guard }).run Tryz.prog w=.ok (.value (.iface 58 (a.eval (.tmp i)))) w:=by
  simp only [execOp]
  go_simp
 refine ⟨?_⟩
 unfold Turns
 rw [e]
 exact ⟨Below.refl _ _,_,rfl,h⟩
end
theorem ae0 {w w4:World} (hB:Below w.heap.size w w4) {q r:Int} {L M:Nat} {nq nr:Bool} {aq ar:Option Addr} {mq mr cq cr:Nat} (hq:OutW q L (.agg #[.bool nq,.slice aq mq cq]) w4) (hr:OutW r M (.agg #[.bool nr,.slice ar mr cr]) w4) :
  let W:=((w4.alloc (.cells #[.bool nq,.slice aq mq cq] 33)).alloc (.cells #[.bool nr,.slice ar mr cr] 33))
  W.heap[w4.heap.size]? = some (.cells #[.bool nq,.slice aq mq cq] 33 (0,0))∧W.heap[w4.heap.size+1]? = some (.cells #[.bool nr,.slice ar mr cr] 33 (0,0))∧OutW q L (.agg #[.bool nq,.slice aq mq cq]) W∧OutW r M (.agg #[.bool nr,.slice ar mr cr]) W∧Below w.heap.size w W:=by
 intro W
 have a1:=hAl w4 (.cells #[.bool nq,.slice aq mq cq] 33)
 have a2:=hAl (w4.alloc (.cells #[.bool nq,.slice aq mq cq] 33)) (.cells #[.bool nr,.slice ar mr cr] 33)
 have n1:=heap_alloc_new w4 (.cells #[.bool nq,.slice aq mq cq] 33)
 have n2:=heap_alloc_new (w4.alloc (.cells #[.bool nq,.slice aq mq cq] 33)) (.cells #[.bool nr,.slice ar mr cr] 33)
 have n1' := (a2.block _ (aaa n1)).trans n1
 rw [World.size_alloc] at n2
 have hb4:Below w4.heap.size w4 W:=a1.trans (a2.mono a1.size)
 exact ⟨n1',n2,hq.ru (Ru.of_below hb4),hr.ru (Ru.of_below hb4),hB.trans (hb4.mono hB.size)⟩
set_option maxRecDepth 20000 in
set_option maxHeartbeats 8000000 in
theorem ajo (w:World) (v vg:Value) (s:ByteArray) (n:Nat) (f g:Nat→Int) (L M:Nat) (h:FmS w v n f L) (hg:FmS w vg n g M) (hn:n≤16) (hL:L≤200000000) (hM:M≤200000000) :
  Calls Tryz.prog 122 #[v,.string s,vg] w fun e w'=>∃ r,e=.returned r∧ShS w' r n (L+M+4) (divZ n s f g)∧Below w.heap.size w w' := by
 have K1:=hide (acn w v n f L h hn (by omega))
 have H:=hide h
 have HG:=hide hg
 obtain ⟨b,rfl⟩:=gslice h
 obtain ⟨bg,rfl⟩:=gslice hg
 clear h hg
 cases hc:cstB n f with
 | false =>
  have HC:=hide hc
  rw [hc] at K1
  clear hc
  go_enter Tryz.func122,Tryz.ntmps122
  go_wp2_with fail
  refine K1.out.mono ?_
  rintro e w1 ⟨rfl,hb1⟩
  have HB1:=hide hb1
  clear hb1 K1
  go_wp2
  have hS:ShS w1 (.iface 105 (.agg #[])) n (L+M+4) (divZ n s f g):=by
   rw [divZ,if_neg (by rw [HC.out];simp)]
   exact rfl
  refine bodyPost_ret (v:=_) (by simp [results,Tryz.results122,go_sem];try rfl) rfl ⟨_,rfl,hS,HB1.out⟩
 | true =>
  have HC:=hide hc
  rw [hc] at K1
  clear hc
  cases hc2:cstB n g with
  | false =>
   have HC2:=hide hc2
   go_enter Tryz.func122,Tryz.ntmps122
   go_wp2_with fail
   refine K1.out.mono ?_
   rintro e w1 ⟨rfl,hb1⟩
   have HB1:=hide hb1
   have K2:=hide (acn w1 _ n g M (HG.out.below hb1) hn (by omega))
   rw [hc2] at K2
   clear hb1 K1 hc2
   go_wp2_with fail
   refine K2.out.mono ?_
   rintro e w2 ⟨rfl,hb2⟩
   have HB2:=hide (HB1.out.trans (hb2.mono HB1.out.size))
   clear hb2 K2
   go_wp2
   have hS:ShS w2 (.iface 105 (.agg #[])) n (L+M+4) (divZ n s f g):=by
    rw [divZ,if_neg (by rw [HC2.out];simp)]
    exact rfl
   refine bodyPost_ret (v:=_) (by simp [results,Tryz.results122,go_sem];try rfl) rfl ⟨_,rfl,hS,HB2.out⟩
  | true =>
   have HC2:=hide hc2
   go_enter Tryz.func122,Tryz.ntmps122
   go_wp2_with fail
   refine K1.out.mono ?_
   rintro e w1 ⟨rfl,hb1⟩
   have HB1:=hide hb1
   have K2:=hide (acn w1 _ n g M (HG.out.below hb1) hn (by omega))
   rw [hc2] at K2
   clear hb1 K1 hc2
   go_wp2_with fail
   refine K2.out.mono ?_
   rintro e w2 ⟨rfl,hb2⟩
   have HB2:=hide (HB1.out.trans (hb2.mono HB1.out.size))
   have K3:=hide (ac4 w2 _ n f L (H.out.below HB2.out) hn)
   clear hb2 K2
   go_wp2_with fail
   refine K3.out.mono ?_
   rintro e w3 ⟨x,rfl,hx,hb3⟩
   have HB3:=hide (HB2.out.trans (hb3.mono HB2.out.size))
   have K4:=hide (ac4 w3 _ n g M (HG.out.below HB3.out) hn)
   have HX:=hide hx
   clear hx hb3 K3
   go_wp2_with fail
   refine K4.out.mono ?_
   rintro e w4 ⟨y,rfl,hy,hb4⟩
   have HB4:=hide (HB3.out.trans (hb4.mono HB3.out.size))
   have K5:=hide (divF _ _ _ _ _ _ _ (HX.out.ru (Ru.of_below hb4)).is hy.is (by omega:L≤400000000) (by omega:M≤400000000))
   clear hy hb4 K4 HX
   go_wp2_with fail
   refine K5.out.mono ?_
   rintro e w5 ⟨q,r,ok,rfl,hq,hr,hok,hb5⟩
   have HB5:=hide (HB4.out.trans (hb5.mono HB4.out.size))
   obtain ⟨nq,aq,cq,rq,rfl,hq1⟩:=hq.out
   obtain ⟨nr,ar,cr,rr,rfl,hr1⟩:=hr
   clear hb5 K5
   by_cases hz:g n=0
   ·have HZ:=hide hz
    rw [hz] at hok
    have hok' : ok=false:=by rw [hok];rfl
    subst hok'
    clear hok
    have hW:=ae0 HB5.out ⟨nq,aq,cq,rq,rfl,hq1⟩ ⟨nr,ar,cr,rr,rfl,hr1⟩
    go_wp2
    have hS:ShS ((w5.alloc (.cells #[.bool nq,.slice aq rq.length cq] 33)).alloc (.cells #[.bool nr,.slice ar rr.length cr] 33)) (.iface 105 (.agg #[])) n (L+M+4) (divZ n s f g):=by
     rw [divZ,if_neg (fun h=>h.2.2 HZ.out)]
     exact rfl
    refine bodyPost_ret (v:=_) (by simp [results,Tryz.results122,go_sem];try rfl) rfl ⟨_,rfl,hS,hW.2.2.2.2⟩
   ·have hok' : ok=true:=by rw [hok];simpa using hz
    subst hok'
    have HZ:=hide hz
    rw [if_neg hz] at hr1
    obtain ⟨h7,h8,o7,o8,hbW⟩:=ae0 HB5.out ⟨nq,aq,cq,rq,rfl,hq1⟩ ⟨nr,ar,cr,rr,rfl,hr1⟩
    have H7:=hide h7
    have H8:=hide h8
    have O7:=hide o7
    have O8:=hide o8
    have HBW:=hide hbW
    clear hok hz hq hq1 hr1 h7 h8 o7 o8 hbW
    by_cases hs:s=gOver
    ·have hs' := ach hs
     have HS:=hide hs
     clear hs
     go_upto_region 7 with fail
     generalize ((w5.alloc (.cells #[.bool nq,.slice aq rq.length cq] 33)).alloc (.cells #[.bool nr,.slice ar rr.length cr] 33))=W at *
     refine abo 7 [37,38,39,40,41,42,43] [(OutW (f n / g n) (L+4)),Eqs (.slice (some ⟨b,0,none⟩) (n+1) (n+1)),Eqs (.int .i64 (n:Int)),Eqs (.slice (some ⟨b,0,none⟩) (n+1) (n+1)),Eqs (.int .i64 (n:Int)),(fun v_ w_=>FmS w_ v_ n (uf n (f n / g n)) (L+4)),(fun v_ w_=>ShS w_ v_ n (L+4) (some (uf n (f n / g n))))] rfl rfl (by decide) (by kernel_rfl) (by kernel_rfl) (by decide) (by kernel_rfl) ⟨(Mono.of4 (OutW.mono4 _ _)),Eqs.mono _,Eqs.mono _,Eqs.mono _,Eqs.mono _,(FmS.mono4 _ _ _),(ShS.mono4 _ _ _),trivial⟩ ?_ ?_
     ·exact ⟨⟨rfl,fun a_ w_ _ hB hR hD=>agb ((hR 7 rfl).trans (aae rfl)) ((hB.block _ (aaa H7.out)).trans H7.out) (Mono.of4 (OutW.mono4 _ _) _ _ _ hB O7.out)⟩,
        ⟨rfl,fun a_ w_ _ hB hR hD=>aaj ((hR 0 rfl).trans (aae rfl))⟩,
        ⟨rfl,fun a_ w_ _ hB hR hD=>aeh (show a_.eval (.tmp 38)=.slice (some ⟨b,0,none⟩) (n+1) (n+1) from hD 1 rfl) (by omega)⟩,
        ⟨rfl,fun a_ w_ _ hB hR hD=>aaj ((hR 0 rfl).trans (aae rfl))⟩,
        ⟨rfl,fun a_ w_ _ hB hR hD=>aeh (show a_.eval (.tmp 40)=.slice (some ⟨b,0,none⟩) (n+1) (n+1) from hD 3 rfl) (by omega)⟩,
        ⟨rfl,fun a_ w_ _ hB hR hD=>aez (show (OutW (f n / g n) (L+4)) (a_.eval (.tmp 37)) w_ from hD 0 rfl) (show a_.eval (.tmp 39)=.int .i64 (n:Int) from hD 2 rfl) (show a_.eval (.tmp 41)=.int .i64 (n:Int) from hD 4 rfl) (Nat.le_refl _) hn⟩,
        ⟨rfl,fun a_ w_ _ hB hR hD=>af0 (show (fun v_ w_=>FmS w_ v_ n (uf n (f n / g n)) (L+4)) (a_.eval (.tmp 42)) w_ from hD 5 rfl)⟩,
        trivial⟩
     ·intro a' w' hn' hd' hB' hR' hP'
      obtain ⟨u37,e37⟩:∃ u,a'.eval (.tmp 37)=u:=⟨_,rfl⟩
      have e38:a'.eval (.tmp 38)=.slice (some ⟨b,0,none⟩) (n+1) (n+1):=hP' 1 (by decide)
      have e39:a'.eval (.tmp 39)=.int .i64 (n:Int):=hP' 2 (by decide)
      have e40:a'.eval (.tmp 40)=.slice (some ⟨b,0,none⟩) (n+1) (n+1):=hP' 3 (by decide)
      have e41:a'.eval (.tmp 41)=.int .i64 (n:Int):=hP' 4 (by decide)
      obtain ⟨u42,e42⟩:∃ u,a'.eval (.tmp 42)=u:=⟨_,rfl⟩
      obtain ⟨u43,e43⟩:∃ u,a'.eval (.tmp 43)=u:=⟨_,rfl⟩
      have hT:(fun v_ w_=>ShS w_ v_ n (L+4) (some (uf n (f n / g n)))) (a'.eval (.tmp 43)) w' := hP' 6 (by decide)
      rw [e43] at hT
      refine aby hn' hd' hR' (.s16 rfl <| .s16 rfl <| .s4 rfl <| .same rfl <| .new e37 <| .new e38 <| .new e39 <| .new e40 <| .new e41 <| .new e42 <| .new e43 <| .s4 rfl <| .same rfl <| .same rfl <| .same rfl <| .nil) ?_
      clear e37 e38 e39 e40 e41 e42 e43
      have HT:=hide hT
      have HB' := hide (HBW.out.trans (hB'.mono HBW.out.size))
      clear hT hB' hn' hd' hR' hP'
      go_wp2
      have hS:ShS w' u43 n (L+M+4) (divZ n s f g):=by
       rw [divZ,if_pos ⟨HC.out,HC2.out,HZ.out⟩,if_pos HS.out]
       exact HT.out.le (by omega)
      refine bodyPost_ret (v:=_) (by simp [results,Tryz.results122,go_sem];try rfl) rfl ⟨_,rfl,hS,HB'.out⟩
    ·have hs' := acz hs
     have HS:=hide hs
     clear hs
     go_upto_region 8 with fail
     generalize ((w5.alloc (.cells #[.bool nq,.slice aq rq.length cq] 33)).alloc (.cells #[.bool nr,.slice ar rr.length cr] 33))=W at *
     refine abo 7 [44,45,46,47,48,49,50] [(OutW (f n % g n) (M+1)),Eqs (.slice (some ⟨b,0,none⟩) (n+1) (n+1)),Eqs (.int .i64 (n:Int)),Eqs (.slice (some ⟨b,0,none⟩) (n+1) (n+1)),Eqs (.int .i64 (n:Int)),(fun v_ w_=>FmS w_ v_ n (uf n (f n % g n)) (M+1)),(fun v_ w_=>ShS w_ v_ n (M+1) (some (uf n (f n % g n))))] rfl rfl (by decide) (by kernel_rfl) (by kernel_rfl) (by decide) (by kernel_rfl) ⟨(Mono.of4 (OutW.mono4 _ _)),Eqs.mono _,Eqs.mono _,Eqs.mono _,Eqs.mono _,(FmS.mono4 _ _ _),(ShS.mono4 _ _ _),trivial⟩ ?_ ?_
     ·exact ⟨⟨rfl,fun a_ w_ _ hB hR hD=>agb ((hR 8 rfl).trans (aae rfl)) ((hB.block _ (aaa H8.out)).trans H8.out) (Mono.of4 (OutW.mono4 _ _) _ _ _ hB O8.out)⟩,
        ⟨rfl,fun a_ w_ _ hB hR hD=>aaj ((hR 0 rfl).trans (aae rfl))⟩,
        ⟨rfl,fun a_ w_ _ hB hR hD=>aeh (show a_.eval (.tmp 45)=.slice (some ⟨b,0,none⟩) (n+1) (n+1) from hD 1 rfl) (by omega)⟩,
        ⟨rfl,fun a_ w_ _ hB hR hD=>aaj ((hR 0 rfl).trans (aae rfl))⟩,
        ⟨rfl,fun a_ w_ _ hB hR hD=>aeh (show a_.eval (.tmp 47)=.slice (some ⟨b,0,none⟩) (n+1) (n+1) from hD 3 rfl) (by omega)⟩,
        ⟨rfl,fun a_ w_ _ hB hR hD=>aez (show (OutW (f n % g n) (M+1)) (a_.eval (.tmp 44)) w_ from hD 0 rfl) (show a_.eval (.tmp 46)=.int .i64 (n:Int) from hD 2 rfl) (show a_.eval (.tmp 48)=.int .i64 (n:Int) from hD 4 rfl) (Nat.le_refl _) hn⟩,
        ⟨rfl,fun a_ w_ _ hB hR hD=>af0 (show (fun v_ w_=>FmS w_ v_ n (uf n (f n % g n)) (M+1)) (a_.eval (.tmp 49)) w_ from hD 5 rfl)⟩,
        trivial⟩
     ·intro a' w' hn' hd' hB' hR' hP'
      obtain ⟨u44,e44⟩:∃ u,a'.eval (.tmp 44)=u:=⟨_,rfl⟩
      have e45:a'.eval (.tmp 45)=.slice (some ⟨b,0,none⟩) (n+1) (n+1):=hP' 1 (by decide)
      have e46:a'.eval (.tmp 46)=.int .i64 (n:Int):=hP' 2 (by decide)
      have e47:a'.eval (.tmp 47)=.slice (some ⟨b,0,none⟩) (n+1) (n+1):=hP' 3 (by decide)
      have e48:a'.eval (.tmp 48)=.int .i64 (n:Int):=hP' 4 (by decide)
      obtain ⟨u49,e49⟩:∃ u,a'.eval (.tmp 49)=u:=⟨_,rfl⟩
      obtain ⟨u50,e50⟩:∃ u,a'.eval (.tmp 50)=u:=⟨_,rfl⟩
      have hT:(fun v_ w_=>ShS w_ v_ n (M+1) (some (uf n (f n % g n)))) (a'.eval (.tmp 50)) w' := hP' 6 (by decide)
      rw [e50] at hT
      refine aby hn' hd' hR' (.s16 rfl <| .s16 rfl <| .s4 rfl <| .s4 rfl <| .s4 rfl <| .new e44 <| .new e45 <| .new e46 <| .new e47 <| .new e48 <| .new e49 <| .new e50 <| .nil) ?_
      clear e44 e45 e46 e47 e48 e49 e50
      have HT:=hide hT
      have HB' := hide (HBW.out.trans (hB'.mono HBW.out.size))
      clear hT hB' hn' hd' hR' hP'
      go_wp2
      have hS:ShS w' u50 n (L+M+4) (divZ n s f g):=by
       rw [divZ,if_pos ⟨HC.out,HC2.out,HZ.out⟩,if_neg HS.out]
       exact HT.out.le (by omega)
      refine bodyPost_ret (v:=_) (by simp [results,Tryz.results122,go_sem];try rfl) rfl ⟨_,rfl,hS,HB'.out⟩
theorem ago {n:Nat} {s:ByteArray} {f g:Nat→Int} (h:s=gPlus):joinF n s f g=some (fun k=>f k+g k):=by unfold joinF;rw [if_pos h]
theorem afl {n:Nat} {s:ByteArray} {f g:Nat→Int} (h1:s≠gPlus) (h:s=gMinus):joinF n s f g=some (fun k=>f k - g k):=by unfold joinF;rw [if_neg h1,if_pos h]
theorem afm {n:Nat} {s:ByteArray} {f g:Nat→Int} (h1:s≠gPlus) (h2:s≠gMinus) (h:s=gTimes):joinF n s f g=prodF n f g:=by unfold joinF prodF;rw [if_neg h1,if_neg h2,if_pos h]
theorem aqb {n:Nat} {s:ByteArray} {f g:Nat→Int} (h1:s≠gPlus) (h2:s≠gMinus) (h3:s≠gTimes):joinF n s f g=divZ n s f g:=by unfold joinF divZ;rw [if_neg h1,if_neg h2,if_neg h3]
theorem aqc:Has Tryz.prog 16:=by unfold Has;kernel_rfl
theorem aqd:Has Tryz.prog 120:=by unfold Has;kernel_rfl
set_option maxRecDepth 20000 in
set_option maxHeartbeats 4000000 in
theorem ak0 (w:World) (v vr:Value) (s:ByteArray) (n:Nat) (f:Nat→Int) (o:Option (Nat→Int)) (L M:Nat) (h:FmS w v n f L) (hr:ShS w vr n M o) (hn:n≤16) (hL:L≤200000000) (hM:M≤200000000) :
  Calls Tryz.prog 117 #[v,.string s,vr] w fun e w'=>∃ r,e=.returned r∧ShS w' r n (L+M+4) (o.bind fun g=>joinF n s f g)∧Below w.heap.size w w' := by
 have H:=hide h
 obtain ⟨b,rfl⟩:=gslice h
 clear h
 cases o with
 | none =>
  obtain rfl:=hr
  have ht:∀ xt w,(Instr.typeAssert (.iface 105 (.agg #[])) xt 58 true).run Tryz.prog w=.ok (.tuple #[.slice none 0 0,.bool false]) w:=fun _ _=>by kernel_rfl
  go_enter Tryz.func117,Tryz.ntmps117
  go_wp2
  have hS:ShS w (.iface 105 (.agg #[])) n (L+M+4) ((none:Option (Nat→Int)).bind fun g=>joinF n s f g):=rfl
  refine bodyPost_ret (v:=_) (by simp [results,Tryz.results117,go_sem];try rfl) rfl ⟨_,rfl,hS,Below.refl _ _⟩
 | some g =>
  obtain ⟨u,rfl,hg⟩:=hr
  have HG:=hide hg
  obtain ⟨bg,rfl⟩:=gslice hg
  clear hg
  have ht:∀ xt w,(Instr.typeAssert (.iface 58 (.slice (some ⟨bg,0,none⟩) (n+1) (n+1))) xt 58 true).run Tryz.prog w=.ok (.tuple #[.slice (some ⟨bg,0,none⟩) (n+1) (n+1),.bool true]) w:=fun _ _=>by kernel_rfl
  by_cases h1:s=gPlus
  ·have hs1:=ach h1
   have HJ:=hide (ago (n:=n) (f:=f) (g:=g) h1)
   have K:=hide (ahl w _ _ n f g L M 16 (fun x y=>x+y) aqc aux H.out HG.out hn hL hM)
   clear h1
   go_enter Tryz.func117,Tryz.ntmps117
   go_wp2_with fail
   refine K.out.mono ?_
   rintro e w1 ⟨r,rfl,hR,hb1⟩
   have hS:ShS w1 (.iface 58 r) n (L+M+4) ((some g).bind fun g=>joinF n s f g):=by
    rw [Option.bind_some,HJ.out]
    exact ⟨_,rfl,hR.le (by omega)⟩
   have HB1:=hide hb1
   clear hR hb1 K
   go_wp2
   refine bodyPost_ret (v:=_) (by simp [results,Tryz.results117,go_sem];try rfl) rfl ⟨_,rfl,hS,HB1.out⟩
  have hs1:=acz h1
  by_cases h2:s=gMinus
  ·have hs2:=ach h2
   have HJ:=hide (afl (n:=n) (f:=f) (g:=g) h1 h2)
   have K:=hide (ahl w _ _ n f g L M 120 (fun x y=>x - y) aqd auy H.out HG.out hn hL hM)
   clear h1 h2
   go_enter Tryz.func117,Tryz.ntmps117
   go_wp2_with fail
   refine K.out.mono ?_
   rintro e w1 ⟨r,rfl,hR,hb1⟩
   have hS:ShS w1 (.iface 58 r) n (L+M+4) ((some g).bind fun g=>joinF n s f g):=by
    rw [Option.bind_some,HJ.out]
    exact ⟨_,rfl,hR.le (by omega)⟩
   have HB1:=hide hb1
   clear hR hb1 K
   go_wp2
   refine bodyPost_ret (v:=_) (by simp [results,Tryz.results117,go_sem];try rfl) rfl ⟨_,rfl,hS,HB1.out⟩
  have hs2:=acz h2
  by_cases h3:s=gTimes
  ·have hs3:=ach h3
   have HJ:=hide (afm (n:=n) (f:=f) (g:=g) h1 h2 h3)
   have K:=hide (ajk w _ _ n f g L M H.out HG.out hn hL hM)
   clear h1 h2 h3
   go_enter Tryz.func117,Tryz.ntmps117
   go_wp2_with fail
   refine K.out.mono ?_
   rintro e w1 ⟨r,rfl,hR,hb1⟩
   have hS:ShS w1 r n (L+M+4) ((some g).bind fun g=>joinF n s f g):=by
    rw [Option.bind_some,HJ.out]
    exact hR.le (by omega)
   have HB1:=hide hb1
   clear hR hb1 K
   go_wp2
   refine bodyPost_ret (v:=_) (by simp [results,Tryz.results117,go_sem];try rfl) rfl ⟨_,rfl,hS,HB1.out⟩
  have hs3:=acz h3
  have HJ:=hide (aqb (n:=n) (f:=f) (g:=g) h1 h2 h3)
  have K:=hide (ajo w _ _ s n f g L M H.out HG.out hn hL hM)
  clear h1 h2 h3
  go_enter Tryz.func117,Tryz.ntmps117
  go_wp2_with fail
  refine K.out.mono ?_
  rintro e w1 ⟨r,rfl,hR,hb1⟩
  have hS:ShS w1 r n (L+M+4) ((some g).bind fun g=>joinF n s f g):=by
   rw [Option.bind_some,HJ.out]
   exact hR
  have HB1:=hide hb1
  clear hR hb1 K
  go_wp2
  refine bodyPost_ret (v:=_) (by simp [results,Tryz.results117,go_sem];try rfl) rfl ⟨_,rfl,hS,HB1.out⟩
theorem ak1:Has Tryz.prog 117:=by unfold Has;kernel_rfl
theorem ajp:Has Tryz.prog 146:=by unfold Has;kernel_rfl
theorem anh:Has Tryz.prog 33:=by unfold Has;kernel_rfl
theorem asq:Has Tryz.prog 49:=by unfold Has;kernel_rfl
theorem ak2 (u : Value) (w : World) : (method ((Tryz.prog).types.size + Made.depth) 58 u "rafter/guard.joined").run Tryz.prog w = .ok (117, u) w := by kernel_rfl
theorem ajq (w : World) : (method ((Tryz.prog).types.size + Made.depth) 105 (.agg #[]) "rafter/guard.joined").run Tryz.prog w = .ok (146, .agg #[]) w := by kernel_rfl
section
variable {dst:Option Tmp} {ty:TypeId} {pos:String} {after:Array Edge} {guard:Option (Nat × Bool)} {a:Act} {w:World} {ats:Array TypeId} {i j k g:Nat}
theorem afe {f off:Nat} (hf:∀ w:World,(Instr.fieldAt 94 (.pointer (some ⟨g,0,none⟩)) f).run Tryz.prog w=.ok (.pointer (some ⟨g,off,none⟩)) w) (hp:a.eval (.tmp k)=.pointer (some ⟨g,0,none⟩)) :
  Does Tryz.prog { dst,op:=.fieldAddr 94 (.tmp k) f,type:=ty,pos,after,guard } a.eval w fun v' w'=>Below w.heap.size w w'∧Eqs (.pointer (some ⟨g,off,none⟩)) v' w' := by
 refine ⟨?_⟩
 unfold Turns
 simp only [execOp,hp]
 simp [hf]
 exact ⟨Below.refl _ _,rfl⟩
theorem aww (w:World):(Instr.fieldAt 94 (.pointer (some ⟨g,0,none⟩)) 0).run Tryz.prog w=.ok (.pointer (some ⟨g,0,none⟩)) w:=by go_simp
theorem awx (w:World):(Instr.fieldAt 94 (.pointer (some ⟨g,0,none⟩)) 1).run Tryz.prog w=.ok (.pointer (some ⟨g,1,none⟩)) w:=by go_simp
theorem atl (w:World):(Instr.fieldAt 94 (.pointer (some ⟨g,0,none⟩)) 2).run Tryz.prog w=.ok (.pointer (some ⟨g,2,none⟩)) w:=by go_simp
theorem asr (hp:a.eval (.tmp k)=.pointer (some ⟨g,0,none⟩)) :
  Does Tryz.prog { dst,op:=.fieldAddr 99 (.tmp k) 1,type:=ty,pos,after,guard } a.eval w fun v' w'=>Below w.heap.size w w'∧Eqs (.pointer (some ⟨g,1,none⟩)) v' w' := by
 have hf:∀ w:World,(Instr.fieldAt 99 (.pointer (some ⟨g,0,none⟩)) 1).run Tryz.prog w=.ok (.pointer (some ⟨g,1,none⟩)) w:=fun w=>by go_simp
 refine ⟨?_⟩
 unfold Turns
 simp only [execOp,hp]
 simp [hf]
 exact ⟨Below.refl _ _,rfl⟩
theorem ag5 {p:Addr} {v:Value} {q:Says} (hp:a.eval (.tmp k)=.pointer (some p)) (hc:w.cell? p=some v) (hq:q v w) :
  Does Tryz.prog { dst,op:=.load 43 (.tmp k),type:=ty,pos,after,guard } a.eval w fun v' w'=>Below w.heap.size w w'∧q v' w' := by
 refine abd (v:=v) ?_ ⟨Below.refl _ _,hq⟩
 rw [hp]
 go_simp
theorem auz {p:Addr} {s:ByteArray} (hp:a.eval (.tmp k)=.pointer (some p)) (hc:w.cell? p=some (.string s)) :
  Does Tryz.prog { dst,op:=.load 9 (.tmp k),type:=ty,pos,after,guard } a.eval w fun v' w'=>Below w.heap.size w w'∧Eqs (.string s) v' w' := by
 refine abd (v:=.string s) ?_ ⟨Below.refl _ _,rfl⟩
 rw [hp]
 go_simp
theorem ass {p:Addr} {x:Int} (hp:a.eval (.tmp k)=.pointer (some p)) (hc:w.cell? p=some (.int .i64 x)) :
  Does Tryz.prog { dst,op:=.load 3 (.tmp k),type:=ty,pos,after,guard } a.eval w fun v' w'=>Below w.heap.size w w'∧Eqs (.int .i64 x) v' w' := by
 refine abd (v:=.int .i64 x) ?_ ⟨Below.refl _ _,rfl⟩
 rw [hp]
 go_simp
theorem au0 {x:Int} (h1 : -9223372036854775808≤x) (h2:x≤9223372036854775807) :
  Does Tryz.prog { dst,op:=.call { callee:=.value (.func 49),args:=#[.const (.int .i64 x)],argTypes:=ats },type:=ty,pos,after,guard } a.eval w fun v w'=>Below w.heap.size w w'∧OutW x 2 v w' := by
 refine aa0 asq _ (by simp only [List.map_toArray,List.map_cons,List.map_nil];rfl) ((wofF w x h1 h2).mono ?_)
 rintro e w' ⟨v,rfl,h,hb⟩
 exact ⟨_,rfl,hb,h.out.to rfl (by omega)⟩
def MtS (w : World) (v : Value) (n L : Nat) (o : Option (Nat → Int)) : Prop := ∃ u, v = .func (.method "rafter/guard.joined") #[u] #[] ∧ ShS w u n L o
theorem MtS.mono4 (n L:Nat) (o:Option (Nat→Int)):Mono fun v w=>MtS w v n L o:=fun _ _ _ hb ⟨u,e,h⟩=>⟨u,e,h.below hb⟩
theorem awg {n L:Nat} {o:Option (Nat→Int)} (h:ShS w (a.eval (.tmp i)) n L o) :
  Does Tryz.prog { dst, op := .makeFunc (.method "rafter/guard.joined") #[.tmp i] #[], type := ty, pos, after, guard } a.eval w fun v w' => Below w.heap.size w w' ∧ MtS w' v n L o := by
 have e : (execOp a.eval { dst, op := .makeFunc (.method "rafter/guard.joined") #[.tmp i] #[], type := ty, pos, after, guard }).run Tryz.prog w = .ok (.value (.func (.method "rafter/guard.joined") #[a.eval (.tmp i)] #[])) w := by
  simp only [execOp,List.map_toArray,List.map_cons,List.map_nil,Sem.run_bind]
  rfl
 refine ⟨?_⟩
 unfold Turns
 rw [e]
 exact ⟨Below.refl _ _,_,rfl,h⟩
theorem au1 {n L:Nat} {o:Option (Nat→Int)} (h:MtS w (a.eval (.tmp i)) n L o) :
  Does Tryz.prog { dst,op:=.nilCheck (.tmp i),type:=ty,pos,after,guard } a.eval w fun v w'=>Below w.heap.size w w'∧MtS w' v n L o:=by
 obtain ⟨u,hu,h⟩:=h
 have e : (execOp a.eval { dst, op := .nilCheck (.tmp i), type := ty, pos, after, guard }).run Tryz.prog w = .ok (.value (.func (.method "rafter/guard.joined") #[u] #[])) w := by
  cases o with
  | none =>
   obtain rfl:=h
   simp only [execOp,hu]
   kernel_rfl
  | some f =>
   obtain ⟨x,rfl,_⟩:=h
   simp only [execOp,hu]
   kernel_rfl
 refine ⟨?_⟩
 unfold Turns
 rw [e]
 exact ⟨Below.refl _ _,u,rfl,h⟩
theorem ak3 (x y : Value) (w : World) : (callMethod (.iface 105 (.agg #[])) "rafter/guard.joined" #[x, y]).run Tryz.prog w = (callFunc 146 #[.agg #[], x, y]).run Tryz.prog w := by
 have hp:Sem.run Tryz.prog program w=.ok Tryz.prog w:=rfl
 simp only [callMethod,Sem.run_bind]
 rw [hp,Result.andThen_ok,ajq,Result.andThen_ok]
 rfl
theorem ani (u x y : Value) (w : World) : (callMethod (.iface 58 u) "rafter/guard.joined" #[x, y]).run Tryz.prog w = (callFunc 117 #[u, x, y]).run Tryz.prog w := by
 have hp:Sem.run Tryz.prog program w=.ok Tryz.prog w:=rfl
 simp only [callMethod,Sem.run_bind]
 rw [hp,Result.andThen_ok,ak2,Result.andThen_ok]
 rfl
set_option maxRecDepth 20000 in
theorem ast {n L M:Nat} {o o' : Option (Nat→Int)} {s:ByteArray} (h:ShS w (a.eval (.tmp i)) n L o) (hs:a.eval (.tmp j)=.string s) (h' : ShS w (a.eval (.tmp k)) n M o') (hn:n≤16) (hL:L≤200000000) (hM:M≤200000000) :
  Does Tryz.prog { dst, op := .call { callee := .invoke (.tmp i) "rafter/guard.joined", args := #[.tmp j, .tmp k], argTypes := ats }, type := ty, pos, after, guard } a.eval w fun v w' => Below w.heap.size w w' ∧ ShS w' v n (L + M + 4) (o.bind fun f => o'.bind fun g => joinF n s f g) := by
 have e : execOp a.eval { dst, op := .call { callee := .invoke (.tmp i) "rafter/guard.joined", args := #[.tmp j, .tmp k], argTypes := ats }, type := ty, pos, after, guard } = callMethod (a.eval (.tmp i)) "rafter/guard.joined" #[a.eval (.tmp j), a.eval (.tmp k)] := by
  show invoke (.fn (.method "rafter/guard.joined") #[]) (#[a.eval (.tmp i)] ++ #[Operand.tmp j, .tmp k].map a.eval) = _
  rw [List.map_toArray]
  rfl
 refine ⟨?_⟩
 unfold Turns
 rw [e,hs]
 cases o with
 | none =>
  have hi:a.eval (.tmp i)=.iface 105 (.agg #[]):=h
  have K:=ajm w n (L+M+4) s (a.eval (.tmp k))
  rw [hi,ak3,ajp.enter]
  refine K.mono ?_
  rintro e w' ⟨r,rfl,hr,hb⟩
  exact ⟨_,rfl,hb,hr⟩
 | some f =>
  obtain ⟨u,hi,hu⟩:=h
  have K:=ak0 w u (a.eval (.tmp k)) s n f o' L M hu h' hn hL hM
  rw [hi,ani,ak1.enter]
  refine K.mono ?_
  rintro e w' ⟨r,rfl,hr,hb⟩
  exact ⟨_,rfl,hb,hr⟩
end
structure Lrd (w:World) (q:Nat) (tv vv mv:Value) (l:List Tk) (vs ms:List ByteArray) (i o:Nat):Prop where
 blk:w.heap[q]? = some (.cells #[tv,.int .i64 i,vv,mv,.int .i64 o] 86 (0,0))
 tks:Ts w tv l
 vrs:Strs w vv vs
 mks:Strs w mv ms
 lt:i<l.length
 tap:0<l.length→∀ b' off n c,tv=.slice (some ⟨b',off,none⟩) n c→b'≠q∧b'≠q
 vap:0<vs.length→∀ b' off n c,vv=.slice (some ⟨b',off,none⟩) n c→b'≠q∧b'≠q
 map:0<ms.length→∀ b' off n c,mv=.slice (some ⟨b',off,none⟩) n c→b'≠q∧b'≠q
theorem Lrd.rc {w w' : World} {q:Nat} {tv vv mv:Value} {l:List Tk} {vs ms:List ByteArray} {i o j p:Nat} (h:Lrd w q tv vv mv l vs ms i o) (hr:Rc q q w w') (hb:w'.heap[q]? = some (.cells #[tv,.int .i64 j,vv,mv,.int .i64 p] 86 (0,0))) (hj:j<l.length):Lrd w' q tv vv mv l vs ms j p :=
 ⟨hb,Ce.rc h.tks hr h.tap,Ce.rc h.vrs hr h.vap,Ce.rc h.mks hr h.map,hj,h.tap,h.vap,h.map⟩
theorem Lrd.below {w w' : World} {q:Nat} {tv vv mv:Value} {l:List Tk} {vs ms:List ByteArray} {i o:Nat} (h:Lrd w q tv vv mv l vs ms i o) (hb:Below w.heap.size w w'):Lrd w' q tv vv mv l vs ms i o :=
 h.rc (.of_below hb) ((hb.block q (aaa h.blk)).trans h.blk) h.lt
theorem Lrd.cells {w:World} {q:Nat} {tv vv mv:Value} {l:List Tk} {vs ms:List ByteArray} {i o:Nat} {t:Tk} (h:Lrd w q tv vv mv l vs ms i o) (ht:l[i]? = some t):∃ bt ot ct,tv=.slice (some ⟨bt,ot,none⟩) l.length ct∧TkC w bt (ot+i*6) t:=by
 obtain ⟨ao,ct,rfl,_⟩:=h.tks.parts
 obtain ⟨bt,ot,rfl,hk⟩:=h.tks.tok ht
 exact ⟨bt,ot,ct,rfl,hk⟩
theorem Lrd.own {w:World} {q:Nat} {tv vv mv:Value} {l:List Tk} {vs ms:List ByteArray} {i o:Nat} (h:Lrd w q tv vv mv l vs ms i o):q<w.heap.size∧w.cell? ⟨q,0,none⟩ = some tv∧w.cell? ⟨q,1,none⟩ = some (.int .i64 i)∧w.cell? ⟨q,2,none⟩ = some vv∧w.cell? ⟨q,3,none⟩ = some mv∧w.cell? ⟨q,4,none⟩ = some (.int .i64 o)∧∀ k,w.frozen? ⟨q,k,none⟩ = false:=by
 have hb:=h.blk
 exact ⟨aaa hb,by rw [cell_of_row w q 0 _ _ _ hb];rfl,by rw [cell_of_row w q 1 _ _ _ hb];rfl,by rw [cell_of_row w q 2 _ _ _ hb];rfl,by rw [cell_of_row w q 3 _ _ _ hb];rfl,by rw [cell_of_row w q 4 _ _ _ hb];rfl,fun k=>frozen_of_row w q k _ _ hb⟩
def Tk.lv (t:Tk):Value:=.agg #[.int .i64 t.kind,.string t.text,.int .i64 t.pl.b,.int .i64 t.pl.g,.int .i64 t.pl.l,.int .i64 t.pl.c]
set_option maxRecDepth 20000 in
set_option maxHeartbeats 400000 in
theorem abc (w:World) (q:Nat) (tv vv mv:Value) (l:List Tk) (vs ms:List ByteArray) (i o:Nat) (t:Tk) (h:Lrd w q tv vv mv l vs ms i o) (ht:l[i]? = some t) :
  Calls Tryz.prog 44 #[.pointer (some ⟨q,0,none⟩)] w fun r w'=>r=.returned t.lv∧Below w.heap.size w w' := by
 obtain ⟨bt,ot,ct,rfl,hb,g0,g1,g2,g3,g4,g5⟩:=h.cells ht
 obtain ⟨hq,k0,k1,-,-,-,-⟩:=h.own
 have hi' : (i:Int)<(l.length:Int):=by have:=h.lt;omega
 generalize l.length=n at *
 clear h ht
 unfold Tk.lv
 go_enter Tryz.func44,Tryz.ntmps44
 go_wp2_with fail
 go_region
 go_wp2
 refine bodyPost_ret (v:=_) (by simp [results,Tryz.results44,go_sem];try rfl) rfl ⟨by simp,?_⟩
 (repeat' first|with_reducible(first|exact Below.refl _ _|assumption|refine gdrewN ?_ _|refine Below.alloc ?_ ?_ _|refine Below.drew ?_|refine Below.setCell ?_ ?_ _)|go_size)
theorem aqe (k:Int) (x:ByteArray) (a b c d:Value) (W:World):(Instr.field 90 (.agg #[.int .i64 k,.string x,a,b,c,d]) 0).run Tryz.prog W=.ok (.int .i64 k) W:=by simp [go_sem,Instr.field,asAgg]
theorem ajr (k:Int) (x:ByteArray) (a b c d:Value) (W:World):(Instr.field 90 (.agg #[.int .i64 k,.string x,a,b,c,d]) 1).run Tryz.prog W=.ok (.string x) W:=by simp [go_sem,Instr.field,asAgg]
theorem awh (k:Int) (x:ByteArray) (a b c d:Value) (W:World):(Instr.field 90 (.agg #[.int .i64 k,.string x,a,b,c,d]) 2).run Tryz.prog W=.ok (.agg #[a,b,c,d]) W:=by simp [go_sem,Instr.field,asAgg]
def faultL (e:Int) (p:Pl):List PanicEntry:=[{ v:=.iface 62 (.agg #[.int .i64 e,.int .i64 p.b,.int .i64 p.g,.int .i64 p.l,.int .i64 p.c]),recovered:=false }]
structure EndsL (l:List Tk):Prop where
 more:∀ k t,l[k]? = some t→(t.kind≠0∨t.text≠⟨#[]⟩)→k+1<l.length
section
variable {w:World} {q:Nat} {tv vv mv:Value} {l:List Tk} {vs ms:List ByteArray} {i o:Nat} {t:Tk}
theorem aci (e:Int) (h:Lrd w q tv vv mv l vs ms i o) (ht:l[i]? = some t) :
  Calls Tryz.prog 45 #[.pointer (some ⟨q,0,none⟩),.int .i64 e] w fun r w'=>r=.panicked (faultL e t.pl)∧Below w.heap.size w w' := by
 have K:=hide (abc w q tv vv mv l vs ms i o t h ht)
 clear h ht
 unfold Tk.lv at K
 go_enter Tryz.func45,Tryz.ntmps45
 go_wp2_with fail
 refine K.out.mono ?_
 rintro e1 w1 ⟨rfl,hb⟩
 have HB:=hide hb
 have hf:=awh t.kind t.text (.int .i64 t.pl.b) (.int .i64 t.pl.g) (.int .i64 t.pl.l) (.int .i64 t.pl.c)
 clear hb K
 go_wp2
 exact ⟨rfl,rfl,HB.out⟩
theorem abq (s:ByteArray) (b:Bool) (h:Lrd w q tv vv mv l vs ms i o) (ht:l[i]? = some t) (hs:(t.text.toList == s.toList)=b) :
  Calls Tryz.prog 72 #[.pointer (some ⟨q,0,none⟩),.string s] w fun r w'=>r=.returned (.bool b)∧Below w.heap.size w w' := by
 have K:=hide (abc w q tv vv mv l vs ms i o t h ht)
 clear h ht
 unfold Tk.lv at K
 go_enter Tryz.func72,Tryz.ntmps72
 go_wp2_with fail
 refine K.out.mono ?_
 rintro e1 w1 ⟨rfl,hb⟩
 have HB:=hide hb
 have hf:=ajr t.kind t.text (.int .i64 t.pl.b) (.int .i64 t.pl.g) (.int .i64 t.pl.l) (.int .i64 t.pl.c)
 clear hb K
 go_wp2
 refine bodyPost_ret (v:=_) (by simp [results,Tryz.results72,go_sem];try rfl) rfl ⟨rfl,HB.out⟩
theorem Lrd.set1 {w1:World} (h:Lrd w q tv vv mv l vs ms i o) (hr:Rc q q w w1) (hb:w1.heap[q]? = w.heap[q]?) (hj:i+1<l.length):Lrd (w1.setCell ⟨q,1,none⟩ (.int .i64 ((i:Int)+1))) q tv vv mv l vs ms (i+1) o∧Rc q q w (w1.setCell ⟨q,1,none⟩ (.int .i64 ((i:Int)+1))):=by
 have hb1:=hb.trans h.blk
 have hs:Rc q q w1 (w1.setCell ⟨q,1,none⟩ (.int .i64 ((i:Int)+1))):=by
  refine ⟨rfl,rfl,rfl,by simp [World.setCell],fun k hk hn _=>heap_setCell_other w1 ⟨q,1,none⟩ k _ hn,?_⟩
  refine Ru.of_one hb1 (by decide) ?_ (by simp [World.setCell]) (fun k hk hn=>heap_setCell_other w1 ⟨q,1,none⟩ k _ hn)
  obtain ⟨ao,ct,rfl,_⟩:=h.tks.parts
  obtain ⟨ao',ct',rfl,_⟩:=h.vrs
  obtain ⟨ao2,ct2,rfl,_⟩:=h.mks
  intro k z
  match k with
  | 0=>simp
  | 1=>simp
  | 2=>simp
  | 3=>simp
  | 4=>simp
  | k+5=>simp
 refine ⟨h.rc (hr.trans hs) ?_ hj,hr.trans hs⟩
 rw [heap_setCell_same w1 q 1 _ _ _ hb1]
 simp
theorem Lrd.set4 {w1:World} (h:Lrd w q tv vv mv l vs ms i o) (hr:Rc q q w w1) (hb:w1.heap[q]? = w.heap[q]?) (p:Nat):Lrd (w1.setCell ⟨q,4,none⟩ (.int .i64 (p:Int))) q tv vv mv l vs ms i p∧Rc q q w (w1.setCell ⟨q,4,none⟩ (.int .i64 (p:Int))):=by
 have hb1:=hb.trans h.blk
 have hs:Rc q q w1 (w1.setCell ⟨q,4,none⟩ (.int .i64 (p:Int))):=by
  refine ⟨rfl,rfl,rfl,by simp [World.setCell],fun k hk hn _=>heap_setCell_other w1 ⟨q,4,none⟩ k _ hn,?_⟩
  refine Ru.of_one hb1 (by decide) ?_ (by simp [World.setCell]) (fun k hk hn=>heap_setCell_other w1 ⟨q,4,none⟩ k _ hn)
  obtain ⟨ao,ct,rfl,_⟩:=h.tks.parts
  obtain ⟨ao',ct',rfl,_⟩:=h.vrs
  obtain ⟨ao2,ct2,rfl,_⟩:=h.mks
  intro k z
  match k with
  | 0=>simp
  | 1=>simp
  | 2=>simp
  | 3=>simp
  | 4=>simp
  | k+5=>simp
 refine ⟨h.rc (hr.trans hs) ?_ h.lt,hr.trans hs⟩
 rw [heap_setCell_same w1 q 4 _ _ _ hb1]
 simp
theorem ajs (s:ByteArray) (h:Lrd w q tv vv mv l vs ms i o) (ht:l[i]? = some t) (hs:(t.text.toList == s.toList)=false) :
  Calls Tryz.prog 60 #[.pointer (some ⟨q,0,none⟩),.string s] w fun r w'=>r=.returned (.bool false)∧Below w.heap.size w w' := by
 have K:=hide (abq s false h ht hs)
 clear h ht
 go_enter Tryz.func60,Tryz.ntmps60
 go_wp2_with fail
 refine K.out.mono ?_
 rintro e1 w1 ⟨rfl,hb⟩
 have HB:=hide hb
 clear hb K
 go_wp2
 refine bodyPost_ret (v:=_) (by simp [results,Tryz.results60,go_sem];try rfl) rfl ⟨rfl,HB.out⟩
theorem ahm (s:ByteArray) (h:Lrd w q tv vv mv l vs ms i o) (ht:l[i]? = some t) (hs:(t.text.toList == s.toList)=true) (hi:i+1<l.length) (hl:l.length≤100000) :
  Calls Tryz.prog 60 #[.pointer (some ⟨q,0,none⟩),.string s] w fun r w'=>r=.returned (.bool true)∧Lrd w' q tv vv mv l vs ms (i+1) o∧Rc q q w w' := by
 have K:=hide (abq s true h ht hs)
 have H:=hide h
 clear h ht
 go_enter Tryz.func60,Tryz.ntmps60
 go_wp2_with fail
 refine K.out.mono ?_
 rintro e1 w1 ⟨rfl,hb⟩
 obtain ⟨hq,k0,k1,k2,k3,k4,hf⟩:=(H.out.below hb).own
 have f1:=hf 1
 have HS:=hide (H.out.set1 (.of_below hb) (hb.block q (aaa H.out.blk)) hi)
 clear hb K hf
 go_wp2
 refine bodyPost_ret (v:=_) (by simp [results,Tryz.results60,go_sem];try rfl) rfl ⟨rfl,HS.out.1,HS.out.2⟩
theorem asu (s:ByteArray) (h:Lrd w q tv vv mv l vs ms i o) (ht:l[i]? = some t) (hs:(t.text.toList == s.toList)=false) :
  Calls Tryz.prog 91 #[.pointer (some ⟨q,0,none⟩),.string s] w fun r w'=>r=.panicked (faultL 80 t.pl)∧Below w.heap.size w w' := by
 have K:=hide (ajs s h ht hs)
 have H:=hide h
 have HT:=hide ht
 clear h ht
 go_enter Tryz.func91,Tryz.ntmps91
 go_wp2_with fail
 refine K.out.mono ?_
 rintro e1 w1 ⟨rfl,hb⟩
 have K2:=hide (aci 80 (H.out.below hb) HT.out)
 have HB:=hide hb
 clear hb K
 go_wp2_with fail
 refine K2.out.mono ?_
 rintro e1 w2 ⟨rfl,hb⟩
 go_wp2
 exact ⟨rfl,rfl,HB.out.trans (hb.mono HB.out.size)⟩
theorem aqf (s:ByteArray) (h:Lrd w q tv vv mv l vs ms i o) (ht:l[i]? = some t) (hs:(t.text.toList == s.toList)=true) (hi:i+1<l.length) (hl:l.length≤100000) :
  Calls Tryz.prog 91 #[.pointer (some ⟨q,0,none⟩),.string s] w fun r w'=>r=.returned (.tuple #[])∧Lrd w' q tv vv mv l vs ms (i+1) o∧Rc q q w w' := by
 have K:=hide (ahm s h ht hs hi hl)
 clear h ht
 go_enter Tryz.func91,Tryz.ntmps91
 go_wp2_with fail
 refine K.out.mono ?_
 rintro e1 w1 ⟨rfl,h1,h2⟩
 have H1:=hide h1
 have H2:=hide h2
 clear h1 h2 K
 go_wp2
 refine bodyPost_end (results_none rfl _ _ _) rfl ⟨rfl,H1.out,H2.out⟩
theorem ak4 (w:World) (s:ByteArray) (h:s ∈ words) :
  Calls Tryz.prog 98 #[.string s] w fun r w'=>r=.returned (.bool true)∧Below w.heap.size w w' := by
 simp only [words,List.mem_cons,List.not_mem_nil,or_false] at h
 rcases h with rfl | rfl | rfl | rfl | rfl | rfl | rfl | rfl | rfl | rfl | rfl <;>
 ·go_enter Tryz.func98,Tryz.ntmps98
  go_wp2
  refine bodyPost_ret (v:=_) (by simp [results,Tryz.results98,go_sem];try rfl) rfl ⟨rfl,Below.refl _ _⟩
theorem anj (w:World) (s:ByteArray) (h:s ∉ words) :
  Calls Tryz.prog 98 #[.string s] w fun r w'=>r=.returned (.bool false)∧Below w.heap.size w w' := by
 have hne:∀ x ∈ words,(s.toList == x.toList)=false:=fun x hx=>afa (fun e=>h (e ▸ hx))
 have n0:(s.toList == [118,97,114,115])=false:=by
  have h1:=hne ⟨#[118,97,114,115]⟩ (by simp [words])
  rwa [show (⟨#[118,97,114,115]⟩:ByteArray).toList = [118,97,114,115] by kernel_rfl] at h1
 have n1:(s.toList == [97,110,121])=false:=by
  have h1:=hne ⟨#[97,110,121]⟩ (by simp [words])
  rwa [show (⟨#[97,110,121]⟩:ByteArray).toList = [97,110,121] by kernel_rfl] at h1
 have n2:(s.toList == [115,107,105,112])=false:=by
  have h1:=hne ⟨#[115,107,105,112]⟩ (by simp [words])
  rwa [show (⟨#[115,107,105,112]⟩:ByteArray).toList = [115,107,105,112] by kernel_rfl] at h1
 have n3:(s.toList == [115,116,111,112])=false:=by
  have h1:=hne ⟨#[115,116,111,112]⟩ (by simp [words])
  rwa [show (⟨#[115,116,111,112]⟩:ByteArray).toList = [115,116,111,112] by kernel_rfl] at h1
 have n4:(s.toList == [109,97,114,107])=false:=by
  have h1:=hne ⟨#[109,97,114,107]⟩ (by simp [words])
  rwa [show (⟨#[109,97,114,107]⟩:ByteArray).toList = [109,97,114,107] by kernel_rfl] at h1
 have n5:(s.toList == [99,104,111,111,115,101])=false:=by
  have h1:=hne ⟨#[99,104,111,111,115,101]⟩ (by simp [words])
  rwa [show (⟨#[99,104,111,111,115,101]⟩:ByteArray).toList = [99,104,111,111,115,101] by kernel_rfl] at h1
 have n6:(s.toList == [111,114])=false:=by
  have h1:=hne ⟨#[111,114]⟩ (by simp [words])
  rwa [show (⟨#[111,114]⟩:ByteArray).toList = [111,114] by kernel_rfl] at h1
 have n7:(s.toList == [108,111,111,112])=false:=by
  have h1:=hne ⟨#[108,111,111,112]⟩ (by simp [words])
  rwa [show (⟨#[108,111,111,112]⟩:ByteArray).toList = [108,111,111,112] by kernel_rfl] at h1
 have n8:(s.toList == [105,102])=false:=by
  have h1:=hne ⟨#[105,102]⟩ (by simp [words])
  rwa [show (⟨#[105,102]⟩:ByteArray).toList = [105,102] by kernel_rfl] at h1
 have n9:(s.toList == [101,108,115,101])=false:=by
  have h1:=hne ⟨#[101,108,115,101]⟩ (by simp [words])
  rwa [show (⟨#[101,108,115,101]⟩:ByteArray).toList = [101,108,115,101] by kernel_rfl] at h1
 have n10:(s.toList == [119,104,105,108,101])=false:=by
  have h1:=hne ⟨#[119,104,105,108,101]⟩ (by simp [words])
  rwa [show (⟨#[119,104,105,108,101]⟩:ByteArray).toList = [119,104,105,108,101] by kernel_rfl] at h1
 clear h hne
 go_enter Tryz.func98,Tryz.ntmps98
 go_wp2
 refine bodyPost_ret (v:=_) (by simp [results,Tryz.results98,go_sem];try rfl) rfl ⟨rfl,Below.refl _ _⟩
theorem ak5 (s:ByteArray) (h:Lrd w q tv vv mv l vs ms i 16) (ht:l[i]? = some t) (hs:(t.text.toList == s.toList)=true) :
  Calls Tryz.prog 74 #[.pointer (some ⟨q,0,none⟩),.string s] w fun r w'=>r=.panicked (faultL 83 t.pl)∧Below w.heap.size w w' := by
 have K:=hide (abq s true h ht hs)
 have H:=hide h
 have HT:=hide ht
 clear h ht
 go_enter Tryz.func74,Tryz.ntmps74
 go_wp2_with fail
 refine K.out.mono ?_
 rintro e1 w1 ⟨rfl,hb⟩
 obtain ⟨hq,k0,k1,k2,k3,k4,-⟩:=(H.out.below hb).own
 have K2:=hide (aci 83 (H.out.below hb) HT.out)
 have HB:=hide hb
 clear hb K
 go_wp2_with fail
 refine K2.out.mono ?_
 rintro e1 w2 ⟨rfl,hb⟩
 go_wp2
 exact ⟨rfl,rfl,HB.out.trans (hb.mono HB.out.size)⟩
theorem ank (s:ByteArray) (h:Lrd w q tv vv mv l vs ms i o) (ht:l[i]? = some t) (hs:(t.text.toList == s.toList)=true) (hi:i+1<l.length) (hl:l.length≤100000) (ho:o<16) :
  Calls Tryz.prog 74 #[.pointer (some ⟨q,0,none⟩),.string s] w fun r w'=>r=.returned (.tuple #[])∧Lrd w' q tv vv mv l vs ms (i+1) (o+1)∧Rc q q w w' := by
 have K:=hide (abq s true h ht hs)
 have H:=hide h
 have hne:((o:Int) == 16)=false:=by simp;omega
 have hne2:¬ (o:Int)=16:=by omega
 clear h ht
 go_enter Tryz.func74,Tryz.ntmps74
 go_wp2_with fail
 refine K.out.mono ?_
 rintro e1 w1 ⟨rfl,hb⟩
 obtain ⟨hq,k0,k1,k2,k3,k4,hf⟩:=(H.out.below hb).own
 have f1:=hf 1
 have f4:=hf 4
 have h4:=H.out.set4 (.of_below hb) (hb.block q (aaa H.out.blk)) (o+1)
 have h5:=h4.1.set1 (Rc.refl q q _) rfl hi
 have HS:=hide (And.intro h5.1 (h4.2.trans h5.2))
 have e4:((o+1:Nat):Int)=(o:Int)+1:=by omega
 rw [e4] at HS
 clear hb K hf h4 h5
 go_wp2
 refine bodyPost_end (results_none rfl _ _ _) rfl ⟨rfl,HS.out.1,HS.out.2⟩
theorem anl (s:ByteArray) (h:Lrd w q tv vv mv l vs ms i o) (ht:l[i]? = some t) (hs:(t.text.toList == s.toList)=false) :
  Calls Tryz.prog 75 #[.pointer (some ⟨q,0,none⟩),.string s] w fun r w'=>r=.panicked (faultL 80 t.pl)∧Below w.heap.size w w' := by
 have K:=hide (asu s h ht hs)
 clear h ht
 go_enter Tryz.func75,Tryz.ntmps75
 go_wp2_with fail
 refine K.out.mono ?_
 rintro e1 w1 ⟨rfl,hb⟩
 go_wp2
 exact ⟨rfl,rfl,hb⟩
theorem ak6 (s:ByteArray) (h:Lrd w q tv vv mv l vs ms i (o+1)) (ht:l[i]? = some t) (hs:(t.text.toList == s.toList)=true) (hi:i+1<l.length) (hl:l.length≤100000) (ho:o<16) :
  Calls Tryz.prog 75 #[.pointer (some ⟨q,0,none⟩),.string s] w fun r w'=>r=.returned (.tuple #[])∧Lrd w' q tv vv mv l vs ms (i+1) o∧Rc q q w w' := by
 have K:=hide (aqf s h ht hs hi hl)
 clear h ht
 go_enter Tryz.func75,Tryz.ntmps75
 go_wp2_with fail
 refine K.out.mono ?_
 rintro e1 w1 ⟨rfl,h1,h2⟩
 obtain ⟨hq,k0,k1,k2,k3,k4,hf⟩:=h1.own
 have f4:=hf 4
 have h4:=h1.set4 (Rc.refl q q _) rfl o
 have HS:=hide (And.intro h4.1 (h2.trans h4.2))
 have hsub:IntKind.i64.wrap (((o+1:Nat):Int) - 1)=(o:Int):=by rw [IntKind.wrap_i64];omega
 have hsub2:(((o+1:Nat):Int) - 1)=(o:Int):=by omega
 clear h1 h2 K hf h4
 go_wp2
 refine bodyPost_end (results_none rfl _ _ _) rfl ⟨rfl,HS.out.1,HS.out.2⟩
theorem aqg (h:Lrd w q tv vv mv l vs ms i o) (ht:l[i]? = some t) (hk:t.kind=1) (hw:t.text ∉ words) :
  Calls Tryz.prog 92 #[.pointer (some ⟨q,0,none⟩)] w fun r w'=>r=.returned (.string t.text)∧Below w.heap.size w w' := by
 have K:=hide (abc w q tv vv mv l vs ms i o t h ht)
 have HW:=hide hw
 clear h ht hw
 unfold Tk.lv at K
 rw [hk] at K
 go_enter Tryz.func92,Tryz.ntmps92
 go_wp2_with fail
 refine K.out.mono ?_
 rintro e1 w1 ⟨rfl,hb⟩
 have HB:=hide hb
 have hA:=hAl w1 (.cells #[.int .i64 1,.string t.text,.int .i64 t.pl.b,.int .i64 t.pl.g,.int .i64 t.pl.l,.int .i64 t.pl.c] 90)
 have hn:=heap_alloc_new w1 (.cells #[.int .i64 1,.string t.text,.int .i64 t.pl.b,.int .i64 t.pl.g,.int .i64 t.pl.l,.int .i64 t.pl.c] 90)
 have HN:=hide hn
 have HB1:=hide (hb.trans (hA.mono hb.size))
 have K2:=hide (anj (w1.alloc (.cells #[.int .i64 1,.string t.text,.int .i64 t.pl.b,.int .i64 t.pl.g,.int .i64 t.pl.l,.int .i64 t.pl.c] 90)) t.text HW.out)
 clear hb K hA hn
 go_wp2_with fail
 refine K2.out.mono ?_
 rintro e1 w2 ⟨rfl,hb⟩
 have hx:=(hb.block _ (aaa HN.out)).trans HN.out
 have c0:w2.cell? ⟨w1.heap.size,0,none⟩ = some (.int .i64 1):=by rw [cell_of_row _ _ _ _ _ (0,0) hx];rfl
 have c1:w2.cell? ⟨w1.heap.size,1,none⟩ = some (.string t.text):=by rw [cell_of_row _ _ _ _ _ (0,0) hx];rfl
 have HB2:=hide (HB1.out.trans (hb.mono HB1.out.size))
 clear hb K2 hx
 go_wp2
 refine bodyPost_ret (v:=_) (by simp [results,Tryz.results92,go_sem];try rfl) rfl ⟨rfl,HB2.out⟩
theorem asv (h:Lrd w q tv vv mv l vs ms i o) (ht:l[i]? = some t) (hk:¬ (t.kind=1∧t.text ∉ words)) :
  Calls Tryz.prog 92 #[.pointer (some ⟨q,0,none⟩)] w fun r w'=>r=.panicked (faultL 80 t.pl)∧Below w.heap.size w w' := by
 have K:=hide (abc w q tv vv mv l vs ms i o t h ht)
 have H:=hide h
 have HT:=hide ht
 clear h ht
 unfold Tk.lv at K
 by_cases h1:t.kind=1
 ·have HW:Hid (t.text ∈ words):=(show t.text ∈ words from Classical.byContradiction fun hn=>hk ⟨h1,hn⟩)
  rw [h1] at K
  clear hk h1
  go_enter Tryz.func92,Tryz.ntmps92
  go_wp2_with fail
  refine K.out.mono ?_
  rintro e1 w1 ⟨rfl,hb⟩
  have hA:=hAl w1 (.cells #[.int .i64 1,.string t.text,.int .i64 t.pl.b,.int .i64 t.pl.g,.int .i64 t.pl.l,.int .i64 t.pl.c] 90)
  have hn:=heap_alloc_new w1 (.cells #[.int .i64 1,.string t.text,.int .i64 t.pl.b,.int .i64 t.pl.g,.int .i64 t.pl.l,.int .i64 t.pl.c] 90)
  have HN:=hide hn
  have HB1:=hide (hb.trans (hA.mono hb.size))
  have K2:=hide (ak4 (w1.alloc (.cells #[.int .i64 1,.string t.text,.int .i64 t.pl.b,.int .i64 t.pl.g,.int .i64 t.pl.l,.int .i64 t.pl.c] 90)) t.text HW.out)
  clear hb K hA hn
  go_wp2_with fail
  refine K2.out.mono ?_
  rintro e1 w2 ⟨rfl,hb⟩
  have HB2:=hide (HB1.out.trans (hb.mono HB1.out.size))
  have K3:=hide (aci 80 (H.out.below HB2.out) HT.out)
  clear hb K2
  go_wp2_with fail
  refine K3.out.mono ?_
  rintro e1 w3 ⟨rfl,hb⟩
  have HB3:=hide (HB2.out.trans (hb.mono HB2.out.size))
  clear hb K3
  go_wp2
  exact ⟨rfl,rfl,HB3.out⟩
 ·have hne:(t.kind != 1)=true:=by simpa using h1
  clear hk
  go_enter Tryz.func92,Tryz.ntmps92
  go_wp2_with fail
  refine K.out.mono ?_
  rintro e1 w1 ⟨rfl,hb⟩
  have hA:=hAl w1 (.cells #[.int .i64 t.kind,.string t.text,.int .i64 t.pl.b,.int .i64 t.pl.g,.int .i64 t.pl.l,.int .i64 t.pl.c] 90)
  have hn:=heap_alloc_new w1 (.cells #[.int .i64 t.kind,.string t.text,.int .i64 t.pl.b,.int .i64 t.pl.g,.int .i64 t.pl.l,.int .i64 t.pl.c] 90)
  have c0:(w1.alloc (.cells #[.int .i64 t.kind,.string t.text,.int .i64 t.pl.b,.int .i64 t.pl.g,.int .i64 t.pl.l,.int .i64 t.pl.c] 90)).cell? ⟨w1.heap.size,0,none⟩ = some (.int .i64 t.kind):=by rw [cell_of_row _ _ _ _ _ (0,0) hn];rfl
  have HB1:=hide (hb.trans (hA.mono hb.size))
  have K3:=hide (aci 80 (H.out.below HB1.out) HT.out)
  clear hb K hA hn
  go_wp2_with fail
  refine K3.out.mono ?_
  rintro e1 w3 ⟨rfl,hb⟩
  have HB3:=hide (HB1.out.trans (hb.mono HB1.out.size))
  clear hb K3
  go_wp2
  exact ⟨rfl,rfl,HB3.out⟩
end
section
variable {dst:Option Tmp} {ty:TypeId} {pos:String} {after:Array Edge} {guard:Option (Nat × Bool)} {a:Act} {w:World} {ats:Array TypeId} {i j:Nat}
theorem ahn {u v:Int} (h1:a.eval (.tmp i)=.int .i32 u) :
  Does Tryz.prog { dst,op:=.binOp .eql 21 (.tmp i) (.const (.int .i32 v)) 21,type:=ty,pos,after,guard } a.eval w fun v' w'=>Below w.heap.size w w'∧Eqs (.bool (decide (u=v))) v' w' := by
 refine acq (v:=.bool (decide (u=v))) ?_ ?_ ⟨Below.refl _ _,rfl⟩
 ·rw [h1];simp [go_sem,Act.eval]
 ·rw [h1];simp [go_sem,Act.eval];rfl
theorem aho {u v:Int} (h1:a.eval (.tmp i)=.int .i32 u) (h:u=v) :
  Does Tryz.prog { dst,op:=.binOp .eql 21 (.tmp i) (.const (.int .i32 v)) 21,type:=ty,pos,after,guard } a.eval w fun v' w'=>Below w.heap.size w w'∧Eqs (.bool true) v' w' :=
 (ahn h1).mono fun _ _ ⟨hb,e⟩=>⟨hb,by rw [Eqs,show _ = _ from e,decide_eq_true h]⟩
theorem ae1 {u v:Int} (h1:a.eval (.tmp i)=.int .i32 u) (h:u≠v) :
  Does Tryz.prog { dst,op:=.binOp .eql 21 (.tmp i) (.const (.int .i32 v)) 21,type:=ty,pos,after,guard } a.eval w fun v' w'=>Below w.heap.size w w'∧Eqs (.bool false) v' w' :=
 (ahn h1).mono fun _ _ ⟨hb,e⟩=>⟨hb,by rw [Eqs,show _ = _ from e,decide_eq_false h]⟩
theorem aly {s:ByteArray} {x:Operand} {k:Nat} (h:a.eval (.tmp i)=.string s) (hx:a.eval x=.int .i64 (k:Int)) (hk:k≤s.size):Does Tryz.prog { dst,op:=.slice 9 (.tmp i) (some x) none none,type:=ty,pos,after,guard } a.eval w fun v' w'=>Below w.heap.size w w'∧Eqs (.string (s.extract k s.size)) v' w' := by
 have e:(execOp a.eval { dst,op:=.slice 9 (.tmp i) (some x) none none,type:=ty,pos,after,guard }).run Tryz.prog w=.ok (.value (.string (s.extract k s.size))) w:=by
  simp only [execOp,Option.map,h,hx]
  go_simp
 refine ⟨?_⟩
 unfold Turns
 rw [e]
 exact ⟨Below.refl _ _,rfl⟩
end
end Lm
end Go.Proofs.YtgclhjjmleiggaaGreatDoor
