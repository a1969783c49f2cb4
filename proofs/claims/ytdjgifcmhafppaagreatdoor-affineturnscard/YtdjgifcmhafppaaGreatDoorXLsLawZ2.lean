/-
  What the text behind the last one leans on, part 2.
-/
import Derived.Deep.QuietTactic
import Derived.BigQuiet
import Derived.Handy
import Derived.Lib.OthersKept
import Derived.Laws.RangeAny
import Derived.Lib.Strings
import Derived.Deep.DeepCutAuto
import Derived.Test.YtdjgifcmhafppaaGreatDoorXLsLawZ1
namespace Go.Proofs.YtdjgifcmhafppaaGreatDoor
namespace Lm
open Go Go.RowKit
def gflat:List Gl→List Value
 | []=>[]
 | g :: gs=>.int .i64 g.code :: .int .i64 (gcls g.code) :: .int .i64 g.pl.b :: .int .i64 g.pl.g :: .int .i64 g.pl.l :: .int .i64 g.pl.c :: gflat gs
theorem afy (es fs:List Gl):gflat (es ++ fs)=gflat es ++ gflat fs:=by
 induction es with
 | nil=>rfl
 | cons e es ih=>simp [gflat,ih]
theorem ate {gs:List Gl} {k:Nat} {g:Gl} (h:gs[k]? = some g):(gflat gs)[k*6]? = some (.int .i64 g.code)∧(gflat gs)[k*6+1]? = some (.int .i64 (gcls g.code))∧(gflat gs)[k*6+2]? = some (.int .i64 g.pl.b)∧(gflat gs)[k*6+3]? = some (.int .i64 g.pl.g)∧(gflat gs)[k*6+4]? = some (.int .i64 g.pl.l)∧(gflat gs)[k*6+5]? = some (.int .i64 g.pl.c):=by
 induction gs generalizing k with
 | nil=>simp at h
 | cons x es ih =>
  cases k with
  | zero =>
   simp only [List.getElem?_cons_zero,Option.some.injEq] at h
   subst h
   simp [gflat]
  | succ k =>
   have:=ih (k:=k) (by simpa using h)
   have e1:(k+1)*6=k*6+1+1+1+1+1+1:=by omega
   rw [e1]
   simpa [gflat] using this
def Gs (w:World) (v:Value) (gs:List Gl):Prop:=Ce w v 6 gs.length (gflat gs)
theorem Gs.isSlice {w:World} {v:Value} {gs:List Gl} (h:Gs w v gs):∃ ao cap,v=.slice ao gs.length cap:=by
 obtain ⟨ao',cap',hv,_⟩:=h
 exact ⟨ao',cap',hv⟩
structure Tq (w w' : World) (q:Nat):Prop where
 os:w'.os=w.os
 tape:w'.tape=w.tape
 output:w'.output=w.output
 size:w.heap.size≤w'.heap.size
 other:∀ k,k<w.heap.size→k≠q→w'.heap[k]? = w.heap[k]?
theorem Tq.refl (w:World) (q:Nat):Tq w w q:=⟨rfl,rfl,rfl,Nat.le_refl _,fun _ _ _=>rfl⟩
theorem Tq.of_below {w w' : World} {q:Nat} (h:Below w.heap.size w w'):Tq w w' q:=⟨h.os,h.tape,h.output,h.size,fun k hk _=>h.block k hk⟩
theorem Tq.trans {w w' w'' : World} {q:Nat} (h:Tq w w' q) (h' : Tq w' w'' q):Tq w w'' q:=⟨h'.os.trans h.os,h'.tape.trans h.tape,h'.output.trans h.output,Nat.le_trans h.size h'.size,fun k hk hn=>(h'.other k (Nat.lt_of_lt_of_le hk h.size) hn).trans (h.other k hk hn)⟩
theorem Tq.set {w w' : World} {q:Nat} (h:Tq w w' q) (i:Nat) (u:Value):Tq w (w'.setCell ⟨q,i,none⟩ u) q:=⟨h.os,h.tape,h.output,by simpa [World.setCell] using h.size,fun k hk hn=>(heap_setCell_other w' ⟨q,i,none⟩ k u hn).trans (h.other k hk hn)⟩
theorem Tq.below {w w' : World} {q:Nat} (h:Tq w w' q) (hq:w.heap.size≤q):Below w.heap.size w w' := ⟨h.os,h.tape,h.output,h.size,fun k hk=>h.other k hk (by omega)⟩
theorem ahc {B q:Nat} {w w' w'' : World} (h:Below B w w') (h' : Tq w' w'' q) (hq:B≤q) (hB:B≤w.heap.size):Below B w w'' := ⟨h'.os.trans h.os,h'.tape.trans h.tape,h'.output.trans h.output,Nat.le_trans h.size h'.size,fun k hk=>(h'.other k (Nat.lt_of_lt_of_le hk (Nat.le_trans hB h.size)) (by omega)).trans (h.block k hk)⟩
structure Scn (w:World) (q:Nat) (s:ByteArray) (v:Value) (gs:List Gl) (i:Nat) (e:Pl):Prop where
 blk:w.heap[q]? = some (.cells #[.string s,v,.int .i64 i,.int .i64 e.b,.int .i64 e.g,.int .i64 e.l,.int .i64 e.c] 93 (0,0))
 gls:Gs w v gs
 le:i≤gs.length
 apt:∀ b off n c,v=.slice (some ⟨b,off,none⟩) n c→b≠q
theorem Scn.below {w w' : World} {q:Nat} {s:ByteArray} {v:Value} {gs:List Gl} {i:Nat} {e:Pl} (h:Scn w q s v gs i e) (hb:Below w.heap.size w w'):Scn w' q s v gs i e :=
 ⟨(hb.block q (aaa h.blk)).trans h.blk,Ce.below h.gls hb,h.le,h.apt⟩
theorem Gs.tq {w w' : World} {q:Nat} {v:Value} {gs:List Gl} (h:Gs w v gs) (ht:Tq w w' q) (ha:∀ b off n c,v=.slice (some ⟨b,off,none⟩) n c→b≠q):Gs w' v gs:=by
 obtain ⟨ao,cap,rfl,h1,h2,h3,h4⟩:=h
 refine ⟨ao,cap,rfl,h1,h2,h3,?_⟩
 rcases h4 with h4 | ⟨b,off,rfl,hl,hc⟩
 ·exact .inl h4
 ·refine .inr ⟨b,off,rfl,Nat.lt_of_lt_of_le hl ht.size,fun j u hu=>?_⟩
  rw [World.cell?_of_block (w:=w) (ht.other b hl (ha _ _ _ _ rfl))]
  exact hc j u hu
theorem Scn.set {w:World} {q:Nat} {s:ByteArray} {v:Value} {gs:List Gl} {i:Nat} {e:Pl} (h:Scn w q s v gs i e) (hi:i+1≤gs.length):Scn (w.setCell ⟨q,2,none⟩ (.int .i64 ((i:Int)+1))) q s v gs (i+1) e:=by
 refine ⟨?_,h.gls.tq ((Tq.refl _ _).set 2 _) h.apt,hi,h.apt⟩
 rw [heap_setCell_same w q 2 _ _ _ h.blk]
 simp
theorem Scn.of_tq {w w' : World} {q:Nat} {s:ByteArray} {v:Value} {gs:List Gl} {i j:Nat} {e:Pl} (h:Scn w q s v gs i e) (ht:Tq w w' q) (hb:w'.heap[q]? = some (.cells #[.string s,v,.int .i64 j,.int .i64 e.b,.int .i64 e.g,.int .i64 e.l,.int .i64 e.c] 93 (0,0))) (hj:j≤gs.length):Scn w' q s v gs j e :=
 ⟨hb,h.gls.tq ht h.apt,hj,h.apt⟩
theorem Tq.setNew {w w' : World} {q f:Nat} (h:Tq w w' q) (hf:w.heap.size≤f) (i:Nat) (u:Value):Tq w (w'.setCell ⟨f,i,none⟩ u) q:=⟨h.os,h.tape,h.output,by simpa [World.setCell] using h.size,fun k hk hn=>(heap_setCell_other w' ⟨f,i,none⟩ k u (by show k≠f;omega)).trans (h.other k hk hn)⟩
theorem aba (w:World) (f q:Nat) (h:q≠f) (u0 u1 u2 u3 u4 u5:Value):((((((w.setCell ⟨f,0,none⟩ u0).setCell ⟨f,1,none⟩ u1).setCell ⟨f,2,none⟩ u2).setCell ⟨f,3,none⟩ u3).setCell ⟨f,4,none⟩ u4).setCell ⟨f,5,none⟩ u5).heap[q]? = w.heap[q]? := by
 rw [heap_setCell_other _ ⟨f,5,none⟩ q _ h,heap_setCell_other _ ⟨f,4,none⟩ q _ h,heap_setCell_other _ ⟨f,3,none⟩ q _ h,heap_setCell_other _ ⟨f,2,none⟩ q _ h,heap_setCell_other _ ⟨f,1,none⟩ q _ h,heap_setCell_other _ ⟨f,0,none⟩ q _ h]
theorem Scn.free {w:World} {q:Nat} {s:ByteArray} {v:Value} {gs:List Gl} {i:Nat} {e:Pl} (h:Scn w q s v gs i e) (k:Nat):w.frozen? ⟨q,k,none⟩ = false:=frozen_of_row w q k _ _ h.blk
structure ScnC (w:World) (q:Nat) (s:ByteArray) (ao:Option Addr) (n cap:Nat) (i:Nat) (e:Pl):Prop where
 hq:q<w.heap.size
 k0:w.cell? ⟨q,0,none⟩ = some (.string s)
 k1:w.cell? ⟨q,1,none⟩ = some (.slice ao n cap)
 k2:w.cell? ⟨q,2,none⟩ = some (.int .i64 i)
 k3:w.cell? ⟨q,3,none⟩ = some (.int .i64 e.b)
 k4:w.cell? ⟨q,4,none⟩ = some (.int .i64 e.g)
 k5:w.cell? ⟨q,5,none⟩ = some (.int .i64 e.l)
 k6:w.cell? ⟨q,6,none⟩ = some (.int .i64 e.c)
theorem Scn.cells {w:World} {q:Nat} {s:ByteArray} {gs:List Gl} {i:Nat} {e:Pl} {ao:Option Addr} {n cap:Nat} (h:Scn w q s (.slice ao n cap) gs i e):ScnC w q s ao n cap i e:=by
 have hb:=h.blk
 exact ⟨aaa hb,by rw [cell_of_row w q 0 _ _ _ hb];rfl,by rw [cell_of_row w q 1 _ _ _ hb];rfl,by rw [cell_of_row w q 2 _ _ _ hb];rfl,by rw [cell_of_row w q 3 _ _ _ hb];rfl,by rw [cell_of_row w q 4 _ _ _ hb];rfl,by rw [cell_of_row w q 5 _ _ _ hb];rfl,by rw [cell_of_row w q 6 _ _ _ hb];rfl⟩
structure GlC (w:World) (b o:Nat) (g:Gl):Prop where
 hb:b<w.heap.size
 g0:w.cell? ⟨b,o,none⟩ = some (.int .i64 g.code)
 g1:w.cell? ⟨b,o+1,none⟩ = some (.int .i64 (gcls g.code))
 g2:w.cell? ⟨b,o+2,none⟩ = some (.int .i64 g.pl.b)
 g3:w.cell? ⟨b,o+3,none⟩ = some (.int .i64 g.pl.g)
 g4:w.cell? ⟨b,o+4,none⟩ = some (.int .i64 g.pl.l)
 g5:w.cell? ⟨b,o+5,none⟩ = some (.int .i64 g.pl.c)
theorem GlC.below {w w' : World} {b o:Nat} {g:Gl} (h:GlC w b o g) (hb:Below w.heap.size w w'):GlC w' b o g :=
 ⟨Nat.lt_of_lt_of_le h.hb hb.size,(hb.cell (p:=⟨b,o,none⟩) h.hb).trans h.g0,(hb.cell (p:=⟨b,o+1,none⟩) h.hb).trans h.g1,(hb.cell (p:=⟨b,o+2,none⟩) h.hb).trans h.g2,(hb.cell (p:=⟨b,o+3,none⟩) h.hb).trans h.g3,(hb.cell (p:=⟨b,o+4,none⟩) h.hb).trans h.g4,(hb.cell (p:=⟨b,o+5,none⟩) h.hb).trans h.g5⟩
theorem Gs.glyph {w:World} {ao:Option Addr} {n cap:Nat} {gs:List Gl} {i:Nat} {g:Gl} (h:Gs w (.slice ao n cap) gs) (hg:gs[i]? = some g):∃ b off,ao=some ⟨b,off,none⟩∧GlC w b (off+i*6) g:=by
 obtain ⟨ao',cap',hv,c1,c2,c3,c4⟩:=h
 obtain ⟨rfl,rfl,rfl⟩:=(Value.slice.injEq .. ▸ hv)
 have hk:i<gs.length:=(List.getElem?_eq_some_iff.1 hg).1
 rcases c4 with c4 | ⟨b,off,rfl,hl,hc⟩
 ·omega
 ·obtain ⟨f0,f1,f2,f3,f4,f5⟩:=ate hg
  exact ⟨b,off,rfl,hl,hc _ _ f0,hc _ _ f1,hc _ _ f2,hc _ _ f3,hc _ _ f4,hc _ _ f5⟩
set_option maxRecDepth 20000 in
set_option maxHeartbeats 400000 in
theorem atf (w:World) (q:Nat) (s:ByteArray) (n cap i b off:Nat) (e:Pl) (g:Gl) (h:ScnC w q s (some ⟨b,off,none⟩) n cap i e) (hg:GlC w b (off+i*6) g) (hi:i<n) :
  Calls Tryz.prog 48 #[.pointer (some ⟨q,0,none⟩)] w fun r w'=>r=.returned g.pl.v∧Below w.heap.size w w' := by
 obtain ⟨hq,k0,k1,k2,k3,k4,k5,k6⟩:=h
 obtain ⟨hb,g0,g1,g2,g3,g4,g5⟩:=hg
 have hi' : (i:Int)<(n:Int):=by omega
 unfold Pl.v
 go_enter Tryz.func48,Tryz.ntmps48
 go_wp2_with fail
 go_quiet (fail)
 go_wp2_with fail
 go_region
 go_wp2
 refine bodyPost_ret (v:=_) (by simp [results,Tryz.results48,go_sem];try rfl) rfl ⟨by simp,?_⟩
 (repeat' first|with_reducible(first|exact Below.refl _ _|assumption|refine gdrewN ?_ _|refine Below.alloc ?_ ?_ _|refine Below.drew ?_|refine Below.setCell ?_ ?_ _)|go_size)
set_option maxRecDepth 20000 in
set_option maxHeartbeats 400000 in
theorem aqr (w:World) (q:Nat) (s:ByteArray) (ao:Option Addr) (n cap i:Nat) (e:Pl) (h:ScnC w q s ao n cap i e) (hi:n≤i) :
  Calls Tryz.prog 48 #[.pointer (some ⟨q,0,none⟩)] w fun r w'=>r=.returned e.v∧Below w.heap.size w w' := by
 obtain ⟨hq,k0,k1,k2,k3,k4,k5,k6⟩:=h
 have hi' : decide ((i:Int)<(n:Int))=false:=by simp;omega
 unfold Pl.v
 go_enter Tryz.func48,Tryz.ntmps48
 go_wp2_with fail
 go_quiet (fail)
 go_wp2
 refine bodyPost_ret (v:=_) (by simp [results,Tryz.results48,go_sem];try rfl) rfl ⟨by simp,?_⟩
 (repeat' first|with_reducible(first|exact Below.refl _ _|assumption|refine gdrewN ?_ _|refine Below.alloc ?_ ?_ _|refine Below.drew ?_|refine Below.setCell ?_ ?_ _)|go_size)
theorem aen (w:World) (q:Nat) (s:ByteArray) (v:Value) (gs:List Gl) (i:Nat) (e:Pl) (h:Scn w q s v gs i e) :
  Calls Tryz.prog 48 #[.pointer (some ⟨q,0,none⟩)] w fun r w'=>r=.returned (plf (gs.drop i) e).v∧Below w.heap.size w w' := by
 obtain ⟨ao,cap,rfl⟩:=h.gls.isSlice
 by_cases hi:i<gs.length
 ·obtain ⟨b,off,rfl,hg⟩:=h.gls.glyph (List.getElem?_eq_getElem hi)
  have:=atf w q s gs.length cap i b off e _ h.cells hg hi
  rw [List.drop_eq_getElem_cons hi]
  exact this
 ·have:=aqr w q s ao gs.length cap i e h.cells (by omega)
  rw [List.drop_eq_nil_of_le (by omega)]
  exact this
def skp:Bool→List Gl→List Gl
 | _,[]=>[]
 | true,g :: gs=>skp (decide (g.code≠10)) gs
 | false,g :: gs=>if gcls g.code=6 then skp true gs else if gcls g.code=1 then skp false gs else g :: gs
def nxtS (w:World) (q:Nat):Nat:=match w.cell? ⟨q,2,none⟩ with | some (.int _ z)=>z.toNat | _=>0
theorem Scn.nxt {w:World} {q:Nat} {s:ByteArray} {v:Value} {gs:List Gl} {i:Nat} {e:Pl} (h:Scn w q s v gs i e):Lm.nxtS w q=i:=by
 obtain ⟨ao,cap,rfl⟩:=h.gls.isSlice
 unfold Lm.nxtS
 rw [h.cells.k2]
 simp
set_option maxRecDepth 20000 in
set_option maxHeartbeats 1000000 in
theorem aku (w:World) (q:Nat) (s:ByteArray) (v:Value) (gs:List Gl) (i:Nat) (e:Pl) (h:Scn w q s v gs i e) (hn:gs.length≤100000) :
  Calls Tryz.prog 47 #[.pointer (some ⟨q,0,none⟩)] w fun r w'=>r=.returned (.tuple #[])∧Tq w w' q∧∃ j,i≤j∧gs.drop j=skp false (gs.drop i)∧Scn w' q s v gs j e:=by
 have H:=hide h
 clear h
 go_enter Tryz.func47,Tryz.ntmps47
 go_wp2_with fail
 go_loopw [2] (fun cv wr=>∃ (j:Nat) (c:Bool),cv=.bool c∧i≤j∧skp false (gs.drop i)=skp c (gs.drop j)∧Scn wr q s v gs j e∧Tq w wr q) (fun _ wr=>gs.length - nxtS wr q)
 case atStart=>exact ⟨i,false,rfl,Nat.le_refl _,rfl,H.out,Tq.refl _ _⟩
 case round =>
  obtain ⟨j,c,rfl,hij,hsk,hS,hT⟩:=hrel
  have HS:=hide hS
  have HT:=hide hT
  have HK:=hide hsk
  have hfr:=hS.free 2
  obtain ⟨ao,cap,rfl⟩:=hS.gls.isSlice
  have IP:=hide hS.nxt
  by_cases hj:j<gs.length
  ·obtain ⟨b,off,rfl,hg⟩:=hS.gls.glyph (List.getElem?_eq_getElem hj)
   have hdr:=List.drop_eq_getElem_cons hj
   generalize gs[j]=g at hg hdr
   have HD:=hide hdr
   obtain ⟨hq,k0,k1,k2,k3,k4,k5,k6⟩:=hS.cells
   have hj' : (j:Int)<(gs.length:Int):=by omega
   have HG:=hide hg
   clear hS hT hsk hdr hg
   go_wp2_with fail
   go_quiet (fail)
   clear k0 k1 k2 k3 k4 k5 k6 hq
   have hbq:Below wr.heap.size wr (wr.drewN nq):=gdrewN (Below.refl _ _) nq
   have HS1:=hide (HS.out.below hbq)
   have HT1:=hide (HT.out.trans (.of_below hbq))
   have HG1:=hide (HG.out.below hbq)
   clear HS HT HG hbq hfr
   generalize wr.drewN nq=w1 at HS1 HT1 HG1 ⊢
   obtain ⟨hq,k0,k1,k2,k3,k4,k5,k6⟩:=HS1.out.cells
   obtain ⟨hb,g0,g1,g2,g3,g4,g5⟩:=HG1.out
   have hfr:=HS1.out.free 2
   go_wp2_with fail
   go_region
   clear k0 k1 k3 k4 k5 k6 g0 g1 g2 g3 g4 g5
   have HS2:=hide (HS1.out.set (by omega))
   have HT2:=hide (HT1.out.set 2 (.int .i64 ((j:Int)+1)))
   cases c with
   | true =>
    by_cases h10:g.code=10
    ·have hne:((g.code:Int) != 10)=false:=by rw [h10];rfl
     go_wp2
     go_roundw
     case rel=>exact ⟨j+1,false,rfl,by omega,by rw [HK.out,HD.out,skp];simp [h10],HS2.out.below (by (repeat' first|with_reducible(first|exact Below.refl _ _|assumption|refine gdrewN ?_ _|refine Below.alloc ?_ ?_ _|refine Below.drew ?_|refine Below.setCell ?_ ?_ _)|go_size)),HT2.out.trans (.of_below (by (repeat' first|with_reducible(first|exact Below.refl _ _|assumption|refine gdrewN ?_ _|refine Below.alloc ?_ ?_ _|refine Below.drew ?_|refine Below.setCell ?_ ?_ _)|go_size)))⟩
     case measure=>rw [IP.out,(HS2.out.below (by (repeat' first|with_reducible(first|exact Below.refl _ _|assumption|refine gdrewN ?_ _|refine Below.alloc ?_ ?_ _|refine Below.drew ?_|refine Below.setCell ?_ ?_ _)|go_size))).nxt];omega
    ·have hne:((g.code:Int) != 10)=true:=by simp;omega
     go_wp2
     go_roundw
     case rel=>exact ⟨j+1,true,rfl,by omega,by rw [HK.out,HD.out,skp];simp [h10],HS2.out.below (by (repeat' first|with_reducible(first|exact Below.refl _ _|assumption|refine gdrewN ?_ _|refine Below.alloc ?_ ?_ _|refine Below.drew ?_|refine Below.setCell ?_ ?_ _)|go_size)),HT2.out.trans (.of_below (by (repeat' first|with_reducible(first|exact Below.refl _ _|assumption|refine gdrewN ?_ _|refine Below.alloc ?_ ?_ _|refine Below.drew ?_|refine Below.setCell ?_ ?_ _)|go_size)))⟩
     case measure=>rw [IP.out,(HS2.out.below (by (repeat' first|with_reducible(first|exact Below.refl _ _|assumption|refine gdrewN ?_ _|refine Below.alloc ?_ ?_ _|refine Below.drew ?_|refine Below.setCell ?_ ?_ _)|go_size))).nxt];omega
   | false =>
    by_cases h6:gcls g.code=6
    ·have hne:(gcls g.code == 6)=true:=by rw [h6];rfl
     go_wp2
     go_roundw
     case rel=>exact ⟨j+1,true,rfl,by omega,by rw [HK.out,HD.out,skp];simp [h6],HS2.out.below (by (repeat' first|with_reducible(first|exact Below.refl _ _|assumption|refine gdrewN ?_ _|refine Below.alloc ?_ ?_ _|refine Below.drew ?_|refine Below.setCell ?_ ?_ _)|go_size)),HT2.out.trans (.of_below (by (repeat' first|with_reducible(first|exact Below.refl _ _|assumption|refine gdrewN ?_ _|refine Below.alloc ?_ ?_ _|refine Below.drew ?_|refine Below.setCell ?_ ?_ _)|go_size)))⟩
     case measure=>rw [IP.out,(HS2.out.below (by (repeat' first|with_reducible(first|exact Below.refl _ _|assumption|refine gdrewN ?_ _|refine Below.alloc ?_ ?_ _|refine Below.drew ?_|refine Below.setCell ?_ ?_ _)|go_size))).nxt];omega
    ·have hne:(gcls g.code == 6)=false:=by simp [h6]
     by_cases h1:gcls g.code=1
     ·have hne1:(gcls g.code != 1)=false:=by simp [h1]
      go_wp2
      go_roundw
      case rel=>exact ⟨j+1,false,rfl,by omega,by rw [HK.out,HD.out,skp];simp [h1],HS2.out.below (by (repeat' first|with_reducible(first|exact Below.refl _ _|assumption|refine gdrewN ?_ _|refine Below.alloc ?_ ?_ _|refine Below.drew ?_|refine Below.setCell ?_ ?_ _)|go_size)),HT2.out.trans (.of_below (by (repeat' first|with_reducible(first|exact Below.refl _ _|assumption|refine gdrewN ?_ _|refine Below.alloc ?_ ?_ _|refine Below.drew ?_|refine Below.setCell ?_ ?_ _)|go_size)))⟩
      case measure=>rw [IP.out,(HS2.out.below (by (repeat' first|with_reducible(first|exact Below.refl _ _|assumption|refine gdrewN ?_ _|refine Below.alloc ?_ ?_ _|refine Below.drew ?_|refine Below.setCell ?_ ?_ _)|go_size))).nxt];omega
     ·have hne1:(gcls g.code != 1)=true:=by simp [h1]
      go_wp2
      go_returns
      exact ⟨rfl,HT1.out.trans (.of_below (by (repeat' first|with_reducible(first|exact Below.refl _ _|assumption|refine gdrewN ?_ _|refine Below.alloc ?_ ?_ _|refine Below.drew ?_|refine Below.setCell ?_ ?_ _)|go_size))),j,hij,by rw [HK.out,HD.out,skp];simp [h6,h1],HS1.out.below (by (repeat' first|with_reducible(first|exact Below.refl _ _|assumption|refine gdrewN ?_ _|refine Below.alloc ?_ ?_ _|refine Below.drew ?_|refine Below.setCell ?_ ?_ _)|go_size))⟩
  ·have hdr:gs.drop j = []:=List.drop_eq_nil_of_le (by omega)
   have HD:=hide hdr
   obtain ⟨hq,k0,k1,k2,k3,k4,k5,k6⟩:=hS.cells
   have hj' : decide ((j:Int)<(gs.length:Int))=false:=by simp;omega
   clear hS hT hsk hdr
   go_wp2_with fail
   go_quiet (fail)
   go_wp2
   go_end0
   exact ⟨rfl,HT.out.trans (.of_below (by (repeat' first|with_reducible(first|exact Below.refl _ _|assumption|refine gdrewN ?_ _|refine Below.alloc ?_ ?_ _|refine Below.drew ?_|refine Below.setCell ?_ ?_ _)|go_size))),j,hij,by rw [HK.out,HD.out];cases c <;> rfl,HS.out.below (by (repeat' first|with_reducible(first|exact Below.refl _ _|assumption|refine gdrewN ?_ _|refine Below.alloc ?_ ?_ _|refine Below.drew ?_|refine Below.setCell ?_ ?_ _)|go_size))⟩
def Nums (w:World) (v:Value) (zs:List Int):Prop:=Ce w v 1 zs.length (zs.map (Value.int .i64))
theorem Nums.cell {w:World} {ao:Option Addr} {n cap:Nat} {zs:List Int} {i:Nat} (h:Nums w (.slice ao n cap) zs) (hi:i<zs.length):∃ b off,ao=some ⟨b,off,none⟩∧w.cell? ⟨b,off+i,none⟩ = some (.int .i64 zs[i]):=by
 obtain ⟨ao',cap',hv,c1,c2,c3,c4⟩:=h
 obtain ⟨rfl,rfl,rfl⟩:=(Value.slice.injEq .. ▸ hv)
 rcases c4 with c4 | ⟨b,off,rfl,hl,hc⟩
 ·omega
 ·exact ⟨b,off,rfl,hc _ _ (by simp [hi])⟩
theorem Nums.parts {w:World} {ao:Option Addr} {n cap:Nat} {zs:List Int} (h:Nums w (.slice ao n cap) zs):n=zs.length∧n≤9223372036854775807:=by
 obtain ⟨ao',cap',hv,c1,c2,c3,c4⟩:=h
 obtain ⟨rfl,rfl,rfl⟩:=(Value.slice.injEq .. ▸ hv)
 exact ⟨rfl,by omega⟩
set_option maxRecDepth 20000 in
set_option maxHeartbeats 400000 in
theorem aqs (w:World) (ao:Option Addr) (n cap:Nat) (zs:List Int) (z:Int) (h:Nums w (.slice ao n cap) zs) :
  Calls Tryz.prog 115 #[.slice ao n cap,.int .i64 z] w fun e w'=>(∃ r:Int,e=.returned (.int .i64 r)∧decide (0≤r)=decide (z ∈ zs))∧w' = w:=by
 obtain ⟨hn,hb⟩:=h.parts
 have H:=hide h
 clear h
 go_enter Tryz.func115,Tryz.ntmps115
 go_wp2
 go_loopw [5,8] (fun _ iv wr=>∃ (i:Nat),iv=.int .i64 i∧i≤n∧z ∉ zs.take i∧wr=w) (fun _ iv _=>n - (intOf iv).toNat)
 case atStart=>exact ⟨0,rfl,Nat.zero_le _,by simp,rfl⟩
 case round =>
  obtain ⟨i,rfl,hi,hz,rfl⟩:=hrel
  have HZ:=hide hz
  clear hz
  by_cases hlt:i<n
  ·obtain ⟨b,off,rfl,hc⟩:=H.out.cell (i:=i) (by omega)
   have hlt' : (i:Int)<(n:Int):=by omega
   have hget:zs[i]? = some (zs[i]'(by omega)):=List.getElem?_eq_getElem _
   generalize zs[i]'(by omega)=y at hc hget
   have HG:=hide hget
   clear hget
   by_cases he:z=y
   ·subst he
    go_wp2
    go_ret
    exact ⟨⟨i,rfl,by simp [List.mem_of_getElem? HG.out]⟩,rfl⟩
   ·have hne:(z == y)=false:=beq_eq_false_iff_ne.2 he
    go_wp2
    go_roundw
    case rel=>exact ⟨i+1,by go_num,by omega,by rw [List.take_add_one,HG.out];simp [HZ.out,he],trivial⟩
    case measure=>simp [intOf];omega
  ·have hlt' : decide ((i:Int)<(n:Int))=false:=by simp;omega
   go_wp2
   go_ret
   exact ⟨⟨-1,rfl,by have:=HZ.out;rw [List.take_of_length_le (by omega)] at this;simp [this]⟩,rfl⟩
theorem afz (w:World) (ao:Option Addr) (n cap:Nat) (zs:List Int) (z:Int) (h:Nums w (.slice ao n cap) zs) :
  Calls Tryz.prog 105 #[.slice ao n cap,.int .i64 z] w fun e w'=>e=.returned (.bool (decide (z ∈ zs)))∧w' = w:=by
 have H:=hide h
 clear h
 go_enter Tryz.func105,Tryz.ntmps105
 go_wp2_with fail
 refine (aqs _ _ _ _ zs _ H.out).mono ?_
 rintro e w' ⟨⟨r,rfl,hr⟩,rfl⟩
 go_wp2
 go_ret
 exact ⟨rfl,rfl⟩
theorem Ce.tq {w w' : World} {q:Nat} {v:Value} {size n:Nat} {xs:List Value} (h:Ce w v size n xs) (ht:Tq w w' q) (ha:∀ b off n c,v=.slice (some ⟨b,off,none⟩) n c→b≠q):Ce w' v size n xs:=by
 obtain ⟨ao,cap,rfl,h1,h2,h3,h4⟩:=h
 refine ⟨ao,cap,rfl,h1,h2,h3,?_⟩
 rcases h4 with h4 | ⟨b,off,rfl,hl,hc⟩
 ·exact .inl h4
 ·refine .inr ⟨b,off,rfl,Nat.lt_of_lt_of_le hl ht.size,fun j u hu=>?_⟩
  rw [World.cell?_of_block (w:=w) (ht.other b hl (ha _ _ _ _ rfl))]
  exact hc j u hu
def PlB (w:World) (f:Nat) (p:Pl):Prop:=w.heap[f]? = some (.cells #[.int .i64 p.b,.int .i64 p.g,.int .i64 p.l,.int .i64 p.c] 32 (0,0))
theorem PlB.below {w w' : World} {f:Nat} {p:Pl} (h:PlB w f p) (hb:Below w.heap.size w w'):PlB w' f p:=(hb.block f (aaa h)).trans h
theorem PlB.tq {w w' : World} {f q:Nat} {p:Pl} (h:PlB w f p) (ht:Tq w w' q) (hn:f≠q):PlB w' f p:=(ht.other f (aaa h) hn).trans h
theorem PlB.cells {w:World} {f:Nat} {p:Pl} (h:PlB w f p):f<w.heap.size∧w.cell? ⟨f,0,none⟩ = some (.int .i64 p.b)∧w.cell? ⟨f,1,none⟩ = some (.int .i64 p.g)∧w.cell? ⟨f,2,none⟩ = some (.int .i64 p.l)∧w.cell? ⟨f,3,none⟩ = some (.int .i64 p.c):=by
 exact ⟨aaa h,by rw [cell_of_row w f 0 _ _ _ h];rfl,by rw [cell_of_row w f 1 _ _ _ h];rfl,by rw [cell_of_row w f 2 _ _ _ h];rfl,by rw [cell_of_row w f 3 _ _ _ h];rfl⟩
def inC (cs:List Int) (g:Gl):Bool:=decide (gcls g.code ∈ cs)
set_option maxRecDepth 20000 in
set_option maxHeartbeats 1000000 in
theorem amv (w:World) (q:Nat) (s:ByteArray) (v:Value) (gs:List Gl) (i:Nat) (e:Pl) (h:Scn w q s v gs i e) (hn:gs.length≤100000) (ca:Option Addr) (cn cc:Nat) (cs:List Int) (hc:Nums w (.slice ca cn cc) cs) (hca:∀ b off n c,Value.slice ca cn cc=.slice (some ⟨b,off,none⟩) n c→b≠q) (hQ:Snd s pl0 gs e) (_hs:s.size≤100000) :
  Calls Tryz.prog 93 #[.pointer (some ⟨q,0,none⟩),.slice ca cn cc] w fun r w'=>∃ j,i≤j∧gs.drop j=(gs.drop i).dropWhile (inC cs)∧r=.returned (.tuple #[.string (s.extract (plf (gs.drop i) e).b (plf (gs.drop j) e).b),.int .i64 ((j - i:Nat):Int)])∧Scn w' q s v gs j e∧Tq w w' q:=by
 have H:=hide h
 have HC:=hide hc
 have HA:=hide hca
 have hF:=(hQ.drop ad9 (Nat.zero_le _) i h.le)
 have hF' := hide hF
 clear h hc hca hF
 generalize hFp:plf (gs.drop i) e=F at hF'
 have HFp:=hide hFp
 clear hFp
 go_enter Tryz.func93,Tryz.ntmps93
 go_wp2_with fail
 refine (aen _ _ _ _ _ _ _ H.out).mono ?_
 rintro r w1 ⟨rfl,hb1⟩
 rw [HFp.out]
 unfold Pl.v
 go_wp2
 have hqs:q<w.heap.size:=aaa H.out.blk
 have hb2:Below w1.heap.size w1 (w1.alloc (.cells #[.int .i64 F.b,.int .i64 F.g,.int .i64 F.l,.int .i64 F.c] 32)):=(Below.refl _ _).alloc (Nat.le_refl _) _
 have hp2:PlB (w1.alloc (.cells #[.int .i64 F.b,.int .i64 F.g,.int .i64 F.l,.int .i64 F.c] 32)) w1.heap.size F:=heap_alloc_new w1 _
 have hf1:=hb1.size
 generalize w1.alloc (.cells #[.int .i64 F.b,.int .i64 F.g,.int .i64 F.l,.int .i64 F.c] 32)=w2 at hb2 hp2 ⊢
 have hb:Below w.heap.size w w2:=hb1.trans (hb2.mono hf1)
 clear hb1 hb2
 have hfq:w1.heap.size≠q:=by omega
 generalize w1.heap.size=f at hp2 hfq ⊢
 clear hf1
 have HP:=hide hp2
 have HB:=hide hb
 have HS0:=hide (H.out.below hb)
 have HN0:=hide (Ce.below HC.out hb)
 clear hb hp2
 go_loopw [] (fun wr=>∃ (j:Nat),i≤j∧(gs.drop i).dropWhile (inC cs)=(gs.drop j).dropWhile (inC cs)∧Scn wr q s v gs j e∧Tq w2 wr q) (fun wr=>gs.length - nxtS wr q)
 case atStart=>exact ⟨i,Nat.le_refl _,rfl,HS0.out,Tq.refl _ _⟩
 case round =>
  obtain ⟨j,hij,hsk,hS,hT⟩:=hrel
  have HS:=hide hS
  have HT:=hide hT
  have HK:=hide hsk
  have IP:=hide hS.nxt
  have HN:=hide (Ce.tq HN0.out hT HA.out)
  have HP' := hide (HP.out.tq hT hfq)
  have hTd:=hQ.drop ad9 (Nat.zero_le _) j hS.le
  have hTe:=hF'.out.1.drop hF'.out.2.1 hF'.out.2.2.2.1 (j - i) (by rw [List.length_drop];have:=hS.le;omega)
  rw [List.drop_drop,show i+(j - i)=j from by omega] at hTe
  generalize hTp:plf (gs.drop j) e=T at hTd hTe
  have HTp:=hide hTp
  have HZ:=hide (show (F.b:Int)≤(T.b:Int)∧(T.b:Int)≤(s.size:Int)∧(T.g:Int)=(j:Int)∧(F.g:Int)=(i:Int) by have:=hF'.out.2.2.2.2;simp only [pl0] at this hTd;omega)
  clear hTp hTd hTe
  have hjl:(j:Int)≤100000:=by have:=hS.le;omega
  have hil:(i:Int)≤(j:Int):=by omega
  obtain ⟨ao,cap,rfl⟩:=hS.gls.isSlice
  by_cases hj:j<gs.length
  ·obtain ⟨b,off,rfl,hg⟩:=hS.gls.glyph (List.getElem?_eq_getElem hj)
   have hdr:=List.drop_eq_getElem_cons hj
   generalize gs[j]=g at hg hdr
   have HD:=hide hdr
   obtain ⟨hq,k0,k1,k2,k3,k4,k5,k6⟩:=hS.cells
   obtain ⟨hb,g0,g1,g2,g3,g4,g5⟩:=hg
   have hfr:=hS.free 2
   have hj' : (j:Int)<(gs.length:Int):=by omega
   clear hS hT hsk hdr
   by_cases hin:gcls g.code ∈ cs
   ·have KC:∀ nq,Calls Tryz.prog 105 #[.slice ca cn cc,.int .i64 (gcls g.code)] (wr.drewN nq) fun e w'=>e=.returned (.bool true)∧w' = wr.drewN nq:=by
     intro nq
     have:=afz (wr.drewN nq) ca cn cc cs (gcls g.code) (Ce.below HN.out (gdrewN (Below.refl _ _) nq))
     rwa [decide_eq_true hin] at this
    go_wp2_with fail
    go_quiet (first | (go_at_call 105;exact Calls.quiet_of_same (KC _)))
    go_wp2
    go_roundw
    case rel=>exact ⟨j+1,by omega,by rw [HK.out,HD.out,List.dropWhile_cons_of_pos (by simpa [inC] using hin)],(HS.out.below (by (repeat' first|with_reducible(first|exact Below.refl _ _|assumption|refine gdrewN ?_ _|refine Below.alloc ?_ ?_ _|refine Below.drew ?_|refine Below.setCell ?_ ?_ _)|go_size))).set (by omega),(HT.out.trans (.of_below (by (repeat' first|with_reducible(first|exact Below.refl _ _|assumption|refine gdrewN ?_ _|refine Below.alloc ?_ ?_ _|refine Below.drew ?_|refine Below.setCell ?_ ?_ _)|go_size)))).set 2 _⟩
    case measure=>rw [IP.out,((HS.out.below (by (repeat' first|with_reducible(first|exact Below.refl _ _|assumption|refine gdrewN ?_ _|refine Below.alloc ?_ ?_ _|refine Below.drew ?_|refine Below.setCell ?_ ?_ _)|go_size))).set (by omega)).nxt];omega
   ·have KC:∀ nq,Calls Tryz.prog 105 #[.slice ca cn cc,.int .i64 (gcls g.code)] (wr.drewN nq) fun e w'=>e=.returned (.bool false)∧w' = wr.drewN nq:=by
     intro nq
     have:=afz (wr.drewN nq) ca cn cc cs (gcls g.code) (Ce.below HN.out (gdrewN (Below.refl _ _) nq))
     rwa [decide_eq_false hin] at this
    go_wp2_with fail
    go_quiet (first | (go_at_call 105;exact Calls.quiet_of_same (KC _)))
    clear k0 k1 k2 k3 k4 k5 k6 hq g0 g1 g2 g3 g4 g5 hb KC
    have hbq:Below wr.heap.size wr (wr.drewN nq):=gdrewN (Below.refl _ _) nq
    have HS2:=hide (HS.out.below hbq)
    have HT2:=hide (HT.out.trans (.of_below hbq))
    have HP2:=hide (HP'.out.below hbq)
    clear HS HT HP' hbq hfr HN
    generalize wr.drewN nq=w3 at HS2 HT2 HP2 ⊢
    go_wp2_with fail
    refine (aen _ _ _ _ _ _ _ HS2.out).mono ?_
    rintro r w4 ⟨rfl,hb4⟩
    rw [HTp.out]
    unfold Pl.v
    have HS4:=hide (HS2.out.below hb4)
    have HT4:=hide (HT2.out.trans (.of_below hb4))
    have HP4:=hide (HP2.out.below hb4)
    clear hb4 HS2 HT2 HP2
    obtain ⟨hq,k0,k1,k2,k3,k4,k5,k6⟩:=HS4.out.cells
    obtain ⟨hf,p0,p1,p2,p3⟩:=HP4.out.cells
    clear k1 k2 k3 k4 k5 k6 p2 p3
    obtain ⟨z1,z2,z3,z4⟩:=HZ.out
    go_wp2_with fail
    go_quiet (fail)
    go_wp2
    go_ret2
    exact ⟨j,hij,by rw [HK.out];exact (by rw [HD.out,List.dropWhile_cons_of_neg (by simpa [inC] using hin)]),by rw [HTp.out];simp;omega,HS4.out.below (by (repeat' first|with_reducible(first|exact Below.refl _ _|assumption|refine gdrewN ?_ _|refine Below.alloc ?_ ?_ _|refine Below.drew ?_|refine Below.setCell ?_ ?_ _)|go_size)),(Tq.of_below HB.out).trans (HT4.out.trans (.of_below (by (repeat' first|with_reducible(first|exact Below.refl _ _|assumption|refine gdrewN ?_ _|refine Below.alloc ?_ ?_ _|refine Below.drew ?_|refine Below.setCell ?_ ?_ _)|go_size))))⟩
  ·have hdr:gs.drop j = []:=List.drop_eq_nil_of_le (by omega)
   have HD:=hide hdr
   obtain ⟨hq,k0,k1,k2,k3,k4,k5,k6⟩:=hS.cells
   have hfr:=hS.free 2
   have hj' : decide ((j:Int)<(gs.length:Int))=false:=by simp;omega
   clear hS hT hsk hdr
   go_wp2_with fail
   go_quiet (fail)
   clear k0 k1 k2 k3 k4 k5 k6 hq
   have hbq:Below wr.heap.size wr (wr.drewN nq):=gdrewN (Below.refl _ _) nq
   have HS2:=hide (HS.out.below hbq)
   have HT2:=hide (HT.out.trans (.of_below hbq))
   have HP2:=hide (HP'.out.below hbq)
   clear HS HT HP' hbq hfr HN
   generalize wr.drewN nq=w3 at HS2 HT2 HP2 ⊢
   go_wp2_with fail
   refine (aen _ _ _ _ _ _ _ HS2.out).mono ?_
   rintro r w4 ⟨rfl,hb4⟩
   rw [HTp.out]
   unfold Pl.v
   have HS4:=hide (HS2.out.below hb4)
   have HT4:=hide (HT2.out.trans (.of_below hb4))
   have HP4:=hide (HP2.out.below hb4)
   clear hb4 HS2 HT2 HP2
   obtain ⟨hq,k0,k1,k2,k3,k4,k5,k6⟩:=HS4.out.cells
   obtain ⟨hf,p0,p1,p2,p3⟩:=HP4.out.cells
   clear k1 k2 k3 k4 k5 k6 p2 p3
   obtain ⟨z1,z2,z3,z4⟩:=HZ.out
   go_wp2_with fail
   go_quiet (fail)
   go_wp2
   go_ret2
   exact ⟨j,hij,by rw [HK.out];exact (by rw [HD.out];rfl),by rw [HTp.out];simp;omega,HS4.out.below (by (repeat' first|with_reducible(first|exact Below.refl _ _|assumption|refine gdrewN ?_ _|refine Below.alloc ?_ ?_ _|refine Below.drew ?_|refine Below.setCell ?_ ?_ _)|go_size)),(Tq.of_below HB.out).trans (HT4.out.trans (.of_below (by (repeat' first|with_reducible(first|exact Below.refl _ _|assumption|refine gdrewN ?_ _|refine Below.alloc ?_ ?_ _|refine Below.drew ?_|refine Below.setCell ?_ ?_ _)|go_size))))⟩
end Lm
end Go.Proofs.YtdjgifcmhafppaaGreatDoor
namespace Go.Proofs.YtdjgifcmhafppaaGreatDoor
namespace Lm
open Go.RowKit
theorem aqt {zs qs:List Int} {k:Nat} {z c m more s:Int} (hk:qs.length=k) (hz:zs.getD k 0=z) (hs:s=z*m+c) (h:val qs+pw k*c=vf zs k*m+more) :
  val (qs ++ [s % 4294967296])+pw (k+1)*(s / 4294967296)=vf zs (k+1)*m+more:=by
 rw [abo,vf,hz,hk,pw,Int.add_mul]
 have e:s=s % 4294967296+4294967296*(s / 4294967296):=by omega
 have e2:pw k*(s % 4294967296)+4294967296*pw k*(s / 4294967296)=pw k*s:=by
  rw [Int.mul_comm 4294967296 (pw k),Int.mul_assoc,←Int.mul_add,←e]
 have e3:pw k*z*m=pw k*(z*m):=by rw [Int.mul_assoc]
 rw [Int.add_assoc,e2,hs,Int.mul_add,e3]
 omega
theorem akv {zs:List Int} (h:Limb zs) (hv:zs≠[]→pw (zs.length - 1)≤val zs):Canon zs:=by
 refine ⟨h,?_⟩
 have h1:=aaw zs
 apply Classical.byContradiction
 intro hn
 have hne:zs≠[]:=by intro e;subst e;exact hn rfl
 have h2:=hv hne
 have h3:=(aab (aal h (tl zs))).2
 rw [aad,List.length_take,Nat.min_eq_left h1] at h3
 have h4:=aa8 (m:=tl zs) (n:=zs.length - 1) (by omega)
 omega
theorem alx {zs qs:List Int} {m more:Int} (hz:Canon zs) (hq:Limb qs) (hl:qs.length=zs.length) (hm:1≤m) (hmo:0≤more) (hv:val qs=val zs*m+more):Canon qs:=by
 apply akv hq
 intro hne
 have h1:=abz hz (by intro e;subst e;exact hne (List.eq_nil_of_length_eq_zero (by simpa using hl)))
 have h2:=(aab hz.1).1
 have h3:val zs*1≤val zs*m:=Int.mul_le_mul_of_nonneg_left hm h2
 rw [hl,hv]
 omega
theorem ah1 {qs:List Int} {c:Int} (hq:Limb qs) (h0:0<c) (h1:c<4294967296):Canon (qs ++ [c]):=by
 refine ⟨aap.2 ⟨hq,aai.2 ⟨by omega,aaf⟩⟩,?_⟩
 have h2:=anc (zs:=qs ++ [c]) (n:=qs.length) (by simp;omega)
 have h3:=aaw (qs ++ [c])
 simp at h3 ⊢
 omega
def HasN (B:Nat) (w:World) (v:Value) (x:Int) (n:Nat):Prop:=∃ zs,w.ownsRow B 103 1 v zs.length (zs.map (Value.int .u32))∧Canon zs∧val zs=x∧zs.length=n
theorem atg {B g cap:Nat} {w:World} {cur:Array Value} {zs:List Int} (hB:B≤g) (hh:w.heap[g]? = some (.cells cur 103 (0,0))) (h1:zs.length≤cap) (h2:cap≤maxLen) (hs:cur.size=cap) (ha:At cur .u32 0 zs):w.ownsRow B 103 1 (.slice (some ⟨g,0,none⟩) zs.length cap) zs.length (zs.map (Value.int .u32)):=by
 refine ⟨by simp,.inr ⟨g,cap,cur,rfl,hB,hh,h1,h2,by omega,?_⟩⟩
 apply List.ext_getElem?
 intro i
 rw [List.getElem?_take,List.getElem?_map]
 by_cases hi:i<zs.length
 ·have e:=ha i hi
  rw [Nat.zero_add] at e
  rw [if_pos (by omega),Array.getElem?_toList,e,List.getElem?_eq_getElem hi,List.getD_eq_getElem?_getD,List.getElem?_eq_getElem hi]
  rfl
 ·rw [if_neg (by omega),List.getElem?_eq_none (by omega)]
  rfl
theorem ath {B n:Nat} {w:World} {v:Value} {zs:List Int} (h:w.ownsRow B 103 1 v n (zs.map (Value.int .u32))) (h0:0<n):∃ g cap cur,v=.slice (some ⟨g,0,none⟩) n cap∧B≤g∧w.heap[g]? = some (.cells cur 103 (0,0))∧n≤cap∧cap≤maxLen∧cur.size=cap∧At cur .u32 0 zs:=by
 have hn:zs.length=n:=by simpa using h.1
 rcases h.2 with ⟨_,h2⟩ | ⟨g,cap,cur,rfl,hg,hh,hc1,hc2,hs,ht⟩
 ·omega
 ·refine ⟨g,cap,cur,rfl,hg,hh,hc1,hc2,by omega,fun i hi=>?_⟩
  have e:(cur.toList.take (n*1))[i]? = (zs.map (Value.int .u32))[i]? := by rw [ht]
  rw [List.getElem?_take,if_pos (by omega)] at e
  rw [Nat.zero_add,←Array.getElem?_toList,e,List.getElem?_map,List.getElem?_eq_getElem hi,List.getD_eq_getElem?_getD,List.getElem?_eq_getElem hi]
  rfl
theorem af0 {B n:Nat} {w wr w1:World} {v v' : Value} {qs:List Int} {c x:Int} {o:Obj} (h:w1.ownsRow B 103 1 v' (n+1) (qs.map (Value.int .u32) ++ [.int .u32 c])) (hg:(wr.alloc o).grownBy w1 v.ownBlock) (hb:Below B w wr) (hB:B≤wr.heap.size) (hl:∀ j,v.ownBlock=some j→B≤j∧j<wr.heap.size)
  (hq:qs.length=n) (hc:Canon (qs ++ [c])) (hv:val (qs ++ [c])=x):HasN B w1 v' x (n+1)∧Below B w w1:=by
 subst hq
 refine ⟨⟨qs ++ [c],by simpa using h,hc,hv,by simp⟩,(hb.alloc hB o).grown hg (by simp;omega) (fun j hj=>(hl j hj).1)⟩
set_option maxRecDepth 20000 in
set_option maxHeartbeats 1000000 in
theorem aja (B:Nat) (w:World) (v:Value) (n:Nat) (x m more:Int) (h:HasN B w v x n) (hB:B≤w.heap.size) (hm:1≤m∧m≤1000000000) (hmo:0≤more∧more<4294967296) (hn:n≤100000) :
  Calls Tryz.prog 107 #[v,.int .u32 m,.int .u32 more] w fun e w'=>∃ v' n',e=.returned v'∧HasN B w' v' (x*m+more) n'∧n'≤n+1∧Below B w w' := by
 obtain ⟨zs,hown,hc,hv,hl⟩:=h
 obtain ⟨i0,hi,hz0,hz1,hz2⟩:=info_parts acg
 by_cases h0:0<n
 ·subst hl
  obtain ⟨g,cap,cur,rfl,hg,hh,hc1,hc2,hcs,hat⟩:=ath hown h0
  unfold maxLen at hc2
  have HC:=hide hc
  have HX:=hide hv
  have HH:=hide hh
  have HS:=hide hcs
  have HA:=hide hat
  clear hc hv hown hh hcs hat
  go_enter Tryz.func107,Tryz.ntmps107
  go_wp2
  go_loopw [7,15] (fun cv i wr=>∃ (k:Nat) (c:Int) (qs:List Int) (cur' : Array Value),k≤zs.length∧cv=.int .u64 c∧i=.int .i64 k∧(0≤c∧c<4294967296)∧qs.length=k∧Limb qs∧val qs+pw k*c=vf zs k*m+more∧Wr w wr g cur' 103∧cur'.size=cap∧At cur' .u32 0 (qs ++ zs.drop k)) (fun _ i _=>zs.length - (intOf i).toNat)
  case atStart=>exact ⟨0,more,[],cur,Nat.zero_le _,rfl,rfl,hmo,rfl,aaf,by simp [val,vf,pw],Wr.refl HH.out,HS.out,by simpa using HA.out⟩
  case round =>
   obtain ⟨k,c,qs,cur',hk,rfl,rfl,hcb,hql,hq,hval,hwr,hcs,hat⟩:=hrel
   have HQL:=hide hql
   have HQ:=hide hq
   have HV:=hide hval
   have HW:=hide hwr
   have HCS:=hide hcs
   have HT:=hide hat
   clear hql hq hval hwr hcs hat
   by_cases hlt:k<zs.length
   ·have hlen:(qs ++ zs.drop k).length=zs.length:=by have:=HQL.out;simp;omega
    have co:=HT.out.cell HW.out.here k (by rw [hlen];omega)
    have e1:(qs ++ zs.drop k).getD k 0=zs.getD k 0:=by
     rw [List.getD_eq_getElem?_getD,List.getElem?_append_right (by have:=HQL.out;omega),List.getElem?_drop,List.getD_eq_getElem?_getD,HQL.out]
     congr 2
     omega
    rw [e1,Nat.zero_add] at co
    have hfree:=HW.out.free k
    have bz:=aag HC.out.1 k
    obtain ⟨z,hz⟩:∃ z,zs.getD k 0=z:=⟨_,rfl⟩
    rw [hz] at co bz
    have hzm:0≤z*m∧z*m≤4294967295*1000000000:=by
     refine ⟨Int.mul_nonneg bz.1 (by omega),?_⟩
     have h1:z*m≤4294967295*m:=Int.mul_le_mul_of_nonneg_right (by omega) (by omega)
     omega
    have HV' := hide (aqt (m:=m) HQL.out hz rfl HV.out)
    have HT' := hide (HT.out.set k ((z*m+c) % 4294967296))
    have HW' := hide (HW.out.set k (.int .u32 ((z*m+c) % 4294967296)))
    have d1:(k:Int)<(zs.length:Int):=by omega
    clear hlen e1 hz
    go_wp2
    go_roundw
    case rel=>exact ⟨k+1,(z*m+c) / 4294967296,qs ++ [(z*m+c) % 4294967296],_,by omega,rfl,by go_num,by omega,by have:=HQL.out;simp;omega,aap.2 ⟨HQ.out,aai.2 ⟨by omega,aaf⟩⟩,HV'.out,HW'.out,by simpa using HCS.out,by rw [←abh qs zs k _ HQL.out (by omega)];simpa using HT'.out⟩
    case measure=>simp [intOf];omega
   ·have hkn:k=zs.length:=by omega
    subst hkn
    have hat2:=HT.out
    rw [List.drop_of_length_le (Nat.le_refl _),List.append_nil] at hat2
    have hown2:=atg (cap:=cap) hg HW.out.here (by have:=HQL.out;omega) (by unfold maxLen;omega) HCS.out hat2
    rw [HQL.out] at hown2
    have hbw:Below B w wr:=HW.out.below hg
    have hvv:=HV.out
    rw [abg zs _ (Nat.le_refl _),HX.out] at hvv
    have hBr:B≤wr.heap.size:=by rw [HW.out.size];exact hB
    have HVV:=hide hvv
    clear hat2 hvv
    by_cases hc0:c=0
    ·have HF:Hid (HasN B wr (.slice (some ⟨g,0,none⟩) zs.length cap) (x*m+more) zs.length):=by
      have h9:=HVV.out
      rw [hc0,Int.mul_zero,Int.add_zero] at h9
      exact ⟨qs,by rw [HQL.out];exact hown2,alx HC.out HQ.out HQL.out hm.1 hmo.1 (by rw [HX.out];exact h9),h9,HQL.out⟩
     subst hc0
     clear hown2
     go_wp2
     go_ret
     exact ⟨_,zs.length,rfl,HF.out,by omega,hbw⟩
    ·have hne:(c != 0)=true:=by rw [bne_iff_ne];exact hc0
     have hcn:=hide (ah1 HQ.out (c:=c) (by omega) hcb.2)
     go_wp2_with (at_builtin;refine wpList_append_own _ rfl (.tmp 37) (.tmp 40) 36 rfl B 103 i0 (.int .u32 0) 1 4 Tryz.underlying36 hi hz0 hz1 hz2 rfl (by decide) _ _ _ rfl (hown2.alloc _) ⟨wr.heap.size,0,none⟩ 1 1 [.int .u32 c] rfl rfl (cell_one_new _ _ _) ?d2 ?d3 ?d4 ?d5 ?_)
     case d2=>first | rfl | (intro u hu;simp at hu;subst hu;rfl)
     case d3=>unfold maxLen;omega
     case d4=>omega
     case d5=>first | omega | (simp;omega)
     intro v' w1 hown' hgrow _
     have R:=af0 (x:=x*m+more) hown' hgrow hbw hBr hown2.lt HQL.out hcn.out (by rw [abo,HQL.out];exact HVV.out)
     clear hown' hgrow hown2
     go_wp2
     go_ret
     exact ⟨_,zs.length+1,rfl,R.1,by omega,R.2⟩
 ·have e0:zs = []:=List.eq_nil_of_length_eq_zero (by omega)
  subst e0
  have hx0:x=0:=by rw [←hv];rfl
  have hn0:n=0:=by omega
  have hv0:v=.slice none 0 0∨∃ g cap,v=.slice (some ⟨g,0,none⟩) 0 cap∧cap≤maxLen:=by
   rcases hown.2 with ⟨e,_⟩ | ⟨g,cap,cur,e,_,_,_,h2,_⟩
   ·exact .inl e
   ·exact .inr ⟨g,cap,e,h2⟩
  subst hx0 hn0
  by_cases hm0:more=0
  ·subst hm0
   have HH:Hid (HasN B w v 0 0):=⟨[],hown,ab8,rfl,rfl⟩
   rcases hv0 with rfl | ⟨g,cap,rfl,hcap⟩
   ·go_enter Tryz.func107,Tryz.ntmps107
    go_wp2
    refine wp_loop_rounds 1 ?_
    rw [rounds_succ]
    go_wp2
    go_ret
    exact ⟨_,0,rfl,by simpa using HH.out,by omega,Below.refl _ _⟩
   ·unfold maxLen at hcap
    clear hown
    go_enter Tryz.func107,Tryz.ntmps107
    go_wp2
    refine wp_loop_rounds 1 ?_
    rw [rounds_succ]
    go_wp2
    go_ret
    exact ⟨_,0,rfl,by simpa using HH.out,by omega,Below.refl _ _⟩
  ·have hne:(more != 0)=true:=by rw [bne_iff_ne];exact hm0
   have hcn:=hide (ah1 (qs:=[]) aaf (c:=more) (by omega) hmo.2)
   have HO:=hide hown
   rcases hv0 with rfl | ⟨g,cap,rfl,hcap⟩
   ·try unfold maxLen at hcap
    go_enter Tryz.func107,Tryz.ntmps107
    go_wp2
    refine wp_loop_rounds 1 ?_
    rw [rounds_succ]
    go_wp2_with (at_builtin;refine wpList_append_own _ rfl (.tmp 37) (.tmp 40) 36 rfl B 103 i0 (.int .u32 0) 1 4 Tryz.underlying36 hi hz0 hz1 hz2 rfl (by decide) _ _ _ rfl (hown.alloc _) ⟨w.heap.size,0,none⟩ 1 1 [.int .u32 more] rfl rfl (cell_one_new _ _ _) ?e2none ?e3none ?e4none ?e5none ?_)
    case e2none=>first | rfl | (intro u hu;simp at hu;subst hu;rfl)
    case e3none=>unfold maxLen;simp
    case e4none=>simp
    case e5none=>first | omega | (simp;omega)
    intro v' w1 hown' hgrow _
    have R:=af0 (w:=w) (qs:=[]) (x:=0*m+more) hown' hgrow (Below.refl _ _) hB HO.out.lt rfl hcn.out (by simp [val])
    clear hown' hgrow
    go_wp2
    go_ret
    exact ⟨_,1,rfl,R.1,by omega,R.2⟩
   ·try unfold maxLen at hcap
    go_enter Tryz.func107,Tryz.ntmps107
    go_wp2
    refine wp_loop_rounds 1 ?_
    rw [rounds_succ]
    go_wp2_with (at_builtin;refine wpList_append_own _ rfl (.tmp 37) (.tmp 40) 36 rfl B 103 i0 (.int .u32 0) 1 4 Tryz.underlying36 hi hz0 hz1 hz2 rfl (by decide) _ _ _ rfl (hown.alloc _) ⟨w.heap.size,0,none⟩ 1 1 [.int .u32 more] rfl rfl (cell_one_new _ _ _) ?e2some ?e3some ?e4some ?e5some ?_)
    case e2some=>first | rfl | (intro u hu;simp at hu;subst hu;rfl)
    case e3some=>unfold maxLen;simp
    case e4some=>simp
    case e5some=>first | omega | (simp;omega)
    intro v' w1 hown' hgrow _
    have R:=af0 (w:=w) (qs:=[]) (x:=0*m+more) hown' hgrow (Below.refl _ _) hB HO.out.lt rfl hcn.out (by simp [val])
    clear hown' hgrow
    go_wp2
    go_ret
    exact ⟨_,1,rfl,R.1,by omega,R.2⟩
end Lm
end Go.Proofs.YtdjgifcmhafppaaGreatDoor
namespace Go.Proofs.YtdjgifcmhafppaaGreatDoor
namespace Lm
open Go.RowKit
def bytesOf (s:ByteArray):List Int:=s.data.toList.map fun c=>(c.toNat:Int)
theorem abp (s:ByteArray):(bytesOf s).length=s.size:=by simp [bytesOf]
theorem aea (s:ByteArray) (i:Nat) (h:i<s.size):(bytesOf s).getD i 0=((s[i]'h).toNat:Int):=by
 rw [List.getD_eq_getElem?_getD,bytesOf,List.getElem?_map]
 have e:s.data.toList[i]? = some (s[i]'h):=by
  rw [Array.getElem?_toList,Array.getElem?_eq_getElem (by simpa using h)]
  rfl
 rw [e]
 rfl
theorem af1 (ds:List Int) (c:Int):dval (ds ++ [c])=dval ds*10+(c - 48):=by
 induction ds with
 | nil=>simp [dval,p10]
 | cons d ds ih =>
  simp only [List.cons_append,dval,ih,List.length_append,List.length_singleton,p10]
  rw [Int.add_mul,Int.mul_comm 10,←Int.mul_assoc]
  omega
theorem afg {ds:List Int} {c:Int} (h:Dig ds) (h1:48≤c) (h2:c≤57):Dig (ds ++ [c]):=by
 intro y hy
 simp at hy
 rcases hy with hy | rfl
 ·exact h y hy
 ·exact ⟨h1,h2⟩
theorem an7 {ds:List Int} {pos j:Nat} {x gr c:Int} (hp:pos<ds.length) (hc:ds.getD pos 0=c) (h:dval (ds.take pos)=x*p10 j+gr):dval (ds.take (pos+1))=x*p10 (j+1)+(10*gr+(c - 48)):=by
 rw [aa9 ds pos hp,af1,h,hc,p10,Int.add_mul,←Int.mul_assoc,Int.mul_comm x 10,Int.mul_assoc 10,Int.mul_comm 10]
 omega
def Reads (w w' : World) (ds:List Int) (e:Ending):Prop :=
 (Dig ds∧∃ v,e=.returned (.tuple #[v,.int .i64 0])∧Is w.heap.size w' v (dval ds))∨(¬ Dig ds∧e=.returned (.tuple #[.slice none 0 0,.int .i64 10]))
theorem axl {B B' : Nat} {w:World} {v:Value} {x:Int} {n:Nat} (h:HasN B w v x n) (hB:B'≤B):Is B' w v x:=by
 obtain ⟨zs,h1,h2,h3,_⟩:=h
 exact ⟨zs,(aeh h1 h2.1).mono hB,h2,h3⟩
theorem ati {B k:Nat} {w:World} {v:Value} {x:Int} {n:Nat} (h:HasN B w v x n) (hk:k<B) (s:ByteArray) (p:Nat):HasN B (w.iterAt k s p) v x n:=by
 obtain ⟨zs,h1,r⟩:=h
 exact ⟨zs,ownsRow_iterAt h1 hk s p,r⟩
set_option maxRecDepth 20000 in
set_option maxHeartbeats 2000000 in
theorem an8 (w:World) (s:ByteArray) (h0:0<s.size) (h1:s.size≤5120) :
  Calls Tryz.prog 95 #[.string s] w fun e w'=>Reads w w' (bytesOf s) e∧Below w.heap.size w w' := by
 have hemp:s.toList.isEmpty=false:=by
  rw [ByteArray.toList_eq]
  have:s.data.toList.length=s.size:=by simp
  cases hl:s.data.toList with
  | nil=>rw [hl] at this;simp at this;omega
  | cons _ _=>rfl
 have hsz:¬ (5120:Int)<(s.size:Int):=by omega
 have hK:(w.iter s 0).heap[w.heap.size]? = some (.stringIter s 0):=World.iter_heap w s 0
 have hb0:Below w.heap.size w (w.iter s 0):=(Below.refl w.heap.size w).alloc (Nat.le_refl _) (.stringIter s 0)
 have hz0:(w.iter s 0).heap.size=w.heap.size+1:=World.size_alloc w (.stringIter s 0)
 have K:=hide (And.intro hK (And.intro hb0 hz0))
 have HBL:=hide (abp s)
 clear hK hb0 hz0
 go_enter Tryz.func95,Tryz.ntmps95
 go_wp2
 generalize w.iter s 0=w0 at K ⊢
 go_loopw [4,5,6] (fun ov gv sv wr=>∃ (pos j n:Nat) (x gr sc:Int),pos≤s.size∧j≤8∧n≤pos∧gv=.int .u32 gr∧sv=.int .u32 sc∧sc=p10 j∧(0≤gr∧gr<p10 j)∧HasN (w.heap.size+1) wr ov x n∧Dig ((bytesOf s).take pos)∧dval ((bytesOf s).take pos)=x*p10 j+gr∧wr.heap[w.heap.size]? = some (.stringIter s pos)∧Below w.heap.size w wr) (fun _ _ _ wr=>s.size - wr.iterPos w.heap.size)
 case atStart=>exact ⟨0,0,0,0,0,1,by omega,by omega,by omega,rfl,rfl,rfl,by simp [p10],⟨[],World.ownsRow_nil _ _ _ _,ab8,rfl,rfl⟩,by simp;exact ac7,by simp [dval],K.out.1,K.out.2.1⟩
 case round =>
  obtain ⟨pos,j,n,x,gr,sc,hpos,hj,hn,rfl,rfl,hsc,hgr,hhas,hdig,hval,hit,hbel⟩:=hrel
  have HSC:=hide hsc
  have HGR:=hide hgr
  have HH:=hide hhas
  have HD:=hide hdig
  have HV:=hide hval
  have HI:=hide hit
  have hp8:=abt (m:=j) (n:=8) hj
  rw [show p10 8=100000000 from by decide] at hp8
  have hp1:=ab4 j
  rw [←hsc] at hp8 hp1
  have hg0:=hgr.1
  have hg1:=hgr.2
  rw [←hsc] at hg1
  have hsz1:w.heap.size<wr.heap.size:=aaa hit
  clear hsc hgr hhas hdig hval hit
  have IP:Hid (wr.iterPos w.heap.size=pos):=by show _ = _;unfold World.iterPos;rw [HI.out]
  by_cases hlt:pos<s.size
  ·have hbd:=aea s pos hlt
   by_cases hd:48≤(bytesOf s).getD pos 0∧(bytesOf s).getD pos 0≤57
   ·have hascii:(s[pos]'hlt).toNat<128:=by omega
    have hnext:=fun ty=>Lib.run_next_ascii_at (P:=Tryz.prog) wr w.heap.size s pos ty HI.out hlt hascii
    rw [←hbd] at hnext
    have HD' := hide (show Dig ((bytesOf s).take (pos+1)) by rw [aa9 _ _ (by rw [HBL.out];exact hlt)];exact afg HD.out hd.1 hd.2)
    have HV' := hide (an7 (j:=j) (by rw [HBL.out];exact hlt) rfl HV.out)
    generalize (bytesOf s).getD pos 0=c at hnext hd HV'
    have q1:=Lib.iterAt_heap wr w.heap.size s pos (pos+1) HI.out
    have q2:=Lib.below_iterAt hbel (Nat.le_refl _) s (pos+1)
    have q3:=ati HH.out (Nat.lt_succ_self _) s (pos+1)
    have q4:=Lib.iterAt_size wr w.heap.size s (pos+1)
    have hc1:=hd.1
    have hc2:=hd.2
    have Q:=hide (And.intro q1 (And.intro q2 (And.intro q3 (show w.heap.size+1≤(wr.iterAt w.heap.size s (pos+1)).heap.size by rw [q4];omega))))
    clear q1 q2 q3 q4 hbd hascii hd
    generalize wr.iterAt w.heap.size s (pos+1)=wi at Q hnext
    have d1:decide (c<48)=false:=by simp;omega
    have d2:decide (57<c)=false:=by simp;omega
    by_cases hj8:j=8
    ·have hsc:sc=100000000:=by rw [HSC.out,hj8];decide
     have HV9:Hid (dval ((bytesOf s).take (pos+1))=(x*1000000000+(10*gr+(c - 48)))*p10 0+0):=by
      show _ = _
      rw [HV'.out,hj8,show p10 (8+1)=1000000000 from by decide,show p10 0=1 from rfl]
      omega
     subst hsc
     go_wp2_with fail
     refine (aja (w.heap.size+1) wi _ n x 1000000000 (10*gr+(c - 48)) Q.out.2.2.1 Q.out.2.2.2 (by omega) (by omega) (by omega)).mono ?_
     rintro e w2 ⟨v2,n2,rfl,h2,hn2,hb2⟩
     have H2:=hide h2
     have hit2:w2.heap[w.heap.size]? = some (.stringIter s (pos+1)):=by rw [hb2.block w.heap.size (by omega)];exact Q.out.1
     have IP2:Hid (w2.iterPos w.heap.size=pos+1):=by show _ = _;unfold World.iterPos;rw [hit2]
     have R2:=hide (And.intro hit2 (Q.out.2.1.trans (hb2.mono (by omega))))
     clear h2 hb2 hit2
     go_wp2
     go_roundw
     case rel=>exact ⟨pos+1,0,n2,x*1000000000+(10*gr+(c - 48)),0,1,by omega,by omega,by omega,rfl,rfl,rfl,by simp [p10],H2.out,HD'.out,HV9.out,R2.out.1,R2.out.2⟩
     case measure=>rw [IP.out,IP2.out];omega
    ·have hp7:=abt (m:=j) (n:=7) (by omega)
     rw [←HSC.out,show p10 7=10000000 from by decide] at hp7
     have hne:(sc*10 == 1000000000)=false:=beq_eq_false_iff_ne.2 (by omega)
     have HSC' : Hid (sc*10=p10 (j+1)):=by show _ = _;rw [p10,←HSC.out];omega
     have IP2:Hid (wi.iterPos w.heap.size=pos+1):=by show _ = _;unfold World.iterPos;rw [Q.out.1]
     go_wp2
     go_roundw
     case rel=>exact ⟨pos+1,j+1,n,x,10*gr+(c - 48),sc*10,by omega,by omega,by omega,rfl,rfl,HSC'.out,by rw [←HSC'.out];omega,Q.out.2.2.1,HD'.out,HV'.out,Q.out.1,Q.out.2.1⟩
     case measure=>rw [IP.out,IP2.out];omega
   ·have hnd:Hid (¬ Dig (bytesOf s)):=by
     intro h9
     exact hd (ag6 h9 (by rw [HBL.out];exact hlt))
    have hnext:=fun ty=>Lib.run_next_any_at (P:=Tryz.prog) wr w.heap.size s pos ty HI.out hlt
    have hru:(Utf8.decode s pos).1<48∨57<(Utf8.decode s pos).1:=by
     by_cases ha:(s[pos]'hlt).toNat<128
     ·rw [decode_ascii s pos hlt ha]
      simp only
      omega
     ·have:=(decode_high s pos hlt (by omega)).1
      omega
    have q2:=Lib.below_iterAt hbel (Nat.le_refl _) s (pos+(Utf8.decode s pos).2)
    generalize wr.iterAt w.heap.size s (pos+(Utf8.decode s pos).2)=wi at q2 hnext
    generalize (Utf8.decode s pos).1=c at hnext hru
    clear hbd hd
    by_cases hlow:(c:Int)<48
    ·have d1:decide ((c:Int)<48)=true:=by simp;omega
     go_wp2
     go_ret2
     exact ⟨.inr ⟨hnd.out,rfl⟩,q2⟩
    ·have d1:decide ((c:Int)<48)=false:=by simp;omega
     have d2:decide (57<(c:Int))=true:=by simp;omega
     have d3:(57:Int)<(c:Int):=by omega
     go_wp2
     go_ret2
     exact ⟨.inr ⟨hnd.out,rfl⟩,q2⟩
  ·have hpe:pos=s.size:=by omega
   have hnext:=fun ty=>Lib.run_next_end_at (P:=Tryz.prog) wr w.heap.size s pos ty HI.out hlt
   have HDf:Hid (Dig (bytesOf s)):=by have:=HD.out;rwa [List.take_of_length_le (by rw [HBL.out];omega)] at this
   have HVf:Hid (dval (bytesOf s)=x*sc+gr):=by have:=HV.out;rw [List.take_of_length_le (by rw [HBL.out];omega),←HSC.out] at this;exact this
   go_wp2_with fail
   refine (aja (w.heap.size+1) wr _ n x sc gr HH.out (by omega) (by omega) (by omega) (by omega)).mono ?_
   rintro e w2 ⟨v2,n2,rfl,h2,hn2,hb2⟩
   have R:Hid (Is w.heap.size w2 v2 (dval (bytesOf s))∧Below w.heap.size w w2):=⟨by rw [HVf.out];exact axl h2 (by omega),hbel.trans (hb2.mono (by omega))⟩
   clear h2 hb2
   go_wp2
   go_ret2
   exact ⟨.inl ⟨HDf.out,_,rfl,R.out.1⟩,R.out.2⟩
end Lm
end Go.Proofs.YtdjgifcmhafppaaGreatDoor
namespace Go.Proofs.YtdjgifcmhafppaaGreatDoor
namespace Lm
open Go Go.RowKit
theorem acj (s:ByteArray) (a b:Nat):bytesOf (s.extract a b)=((bytesOf s).drop a).take (b - a):=by
 unfold bytesOf
 rw [ByteArray.data_extract]
 simp [List.map_drop,List.map_take]
theorem adf (s:ByteArray) (a:Nat):bytesOf (s.extract a a) = []:=by
 rw [acj];simp
theorem get!_getD (s:ByteArray) (i:Nat) (h:i<s.size):(bytesOf s).getD i 0=((s.get! i).toNat:Int):=by
 rw [aea s i h]
 congr 2
 cases s with
 | mk d=>exact (getElem!_pos d i h).symm
theorem afh (s:ByteArray) (a b:Nat) (h:a<b) (hb:b≤s.size):bytesOf (s.extract a b)=((s.get! a).toNat:Int) :: bytesOf (s.extract (a+1) b):=by
 have hl:a<(bytesOf s).length:=by rw [abp];omega
 rw [acj,acj,List.drop_eq_getElem_cons hl,show b - a=(b - (a+1))+1 from by omega,List.take_succ_cons]
 congr 1
 rw [←get!_getD s a (by omega),List.getD_eq_getElem?_getD,List.getElem?_eq_getElem hl]
 rfl
theorem an9 (n:Nat):p10 n≤pw n:=by
 induction n with
 | zero=>simp [p10,pw]
 | succ n ih=>simp only [p10,pw];have:=aa2 n;omega
theorem avv (n:Nat):∃ ds,IsDec ds (n:Int):=by
 induction n using Nat.strongRecOn with
 | _ n ih =>
  by_cases h:n<10
  ·refine ⟨[48+(n:Int)],acp.2 ⟨by omega,ac7⟩,by simp [dval,p10];omega,?_⟩
   by_cases h0:n=0
   ·subst h0;exact .inl ⟨rfl,rfl⟩
   ·exact .inr ⟨_,_,rfl,by omega⟩
  ·obtain ⟨ds,h1,h2,h3⟩:=ih (n / 10) (by omega)
   refine ⟨ds ++ [48+((n % 10:Nat):Int)],afg h1 (by omega) (by omega),by rw [af1,h2];omega,.inr ?_⟩
   rcases h3 with ⟨h3,_⟩ | ⟨c,cs,rfl,hc⟩
   ·omega
   ·exact ⟨c,cs ++ [48+((n % 10:Nat):Int)],rfl,hc⟩
theorem avw {ds:List Int} (h:Dig ds):∃ es,IsDec es (dval ds):=by
 have:=avv (dval ds).toNat
 rwa [Int.toNat_of_nonneg (abb h).1] at this
theorem aoa {c:Nat} (h:gcls c=3):48≤c∧c≤57:=by
 unfold gcls at h
 repeat' split at h
 all_goals first | omega | (exfalso;omega)
theorem Snd.digits {s:ByteArray} {p e:Pl} {gs:List Gl} (h:Snd s p gs e) (hp:p.ok) (hb:p.b≤s.size):Dig (bytesOf (s.extract p.b (Lm.plf (gs.dropWhile (inC [3])) e).b))∧p.b≤(Lm.plf (gs.dropWhile (inC [3])) e).b∧(Lm.plf (gs.dropWhile (inC [3])) e).b≤s.size:=by
 induction h with
 | stop p h =>
  rw [List.dropWhile_nil]
  show Dig (bytesOf (s.extract p.b p.b))∧p.b≤p.b∧p.b≤s.size
  rw [adf]
  exact ⟨ac7,Nat.le_refl _,hb⟩
 | go p gs e h1 h2 hr ih =>
  by_cases hc:inC [3] ⟨(Utf8.decode s p.b).1,p⟩ = true
  ·rw [List.dropWhile_cons_of_pos hc]
   have hd:=ad8 s p.b h1
   obtain ⟨i1,i2,i3⟩:=ih (hp.past _ _ hd.1) (by simp only [Pl.past];omega)
   have hcc:gcls (Utf8.decode s p.b).1=3:=by simpa [inC] using hc
   have hdg:=aoa hcc
   obtain ⟨a1,a2⟩:=aqq s p.b (by omega)
   generalize (Lm.plf (gs.dropWhile (inC [3])) e).b=t at *
   rw [a2] at i1 i2 hdg
   simp only [Pl.past] at i1 i2
   simp only at hdg
   rw [afh s p.b t (by omega) i3]
   exact ⟨fun y hy=>by
    rcases List.mem_cons.1 hy with rfl | hy
    ·omega
    ·exact i1 y hy,by omega,i3⟩
  ·rw [List.dropWhile_cons_of_neg hc]
   show Dig (bytesOf (s.extract p.b p.b))∧p.b≤p.b∧p.b≤s.size
   rw [adf]
   exact ⟨ac7,Nat.le_refl _,hb⟩
end Lm
end Go.Proofs.YtdjgifcmhafppaaGreatDoor
namespace Go.Proofs.YtdjgifcmhafppaaGreatDoor
namespace Lm
open Go.RowKit
theorem aly {ds:List Int} (h:Dig ds):bytesOf (strOfNums ds)=ds:=by
 rw [bytesOf,strOfNums_data,List.map_map]
 conv=>rhs;rw [←List.map_id ds]
 apply List.map_congr_left
 intro c hc
 have:=h c hc
 simp only [Function.comp_apply,id]
 have e:(UInt8.ofNat c.toNat).toNat=c.toNat:=by
  simp
  omega
 rw [e]
 omega
theorem adg (ds:List Int):(strOfNums ds).size=ds.length:=strOfNums_size ds
set_option maxRecDepth 20000 in
set_option maxHeartbeats 400000 in
theorem aob (w:World) (s:ByteArray) (h:(5120:Int)<(s.size:Int)) :
  Calls Tryz.prog 95 #[.string s] w fun e w'=>e=.returned (.tuple #[.slice none 0 0,.int .i64 2])∧Below w.heap.size w w' := by
 go_enter Tryz.func95,Tryz.ntmps95
 go_wp2
 go_ret2
 exact ⟨rfl,Below.refl _ _⟩
set_option maxRecDepth 20000 in
set_option maxHeartbeats 400000 in
theorem aoc (w:World) (s:ByteArray) (h:s.size=0) :
  Calls Tryz.prog 95 #[.string s] w fun e w'=>e=.returned (.tuple #[.slice none 0 0,.int .i64 10])∧Below w.heap.size w w' := by
 have he:s=ByteArray.empty:=by
  apply ByteArray.ext
  apply Array.eq_empty_of_size_eq_zero
  simpa using h
 subst he
 go_enter Tryz.func95,Tryz.ntmps95
 go_wp2
 go_ret2
 exact ⟨rfl,Below.refl _ _⟩
end Lm
end Go.Proofs.YtdjgifcmhafppaaGreatDoor
namespace Go.Proofs.YtdjgifcmhafppaaGreatDoor
namespace Dm
open Go.RowKit
open Lm (bytesOf abp aea hide abd aaa IsDec Dig dval p10 ab4 ag6 aj2 afg ac7)
def Err (s:ByteArray) (k:Int):Prop:=(k=2∧5120<s.size)∨(k=10∧s.size≤5120∧¬ (1≤s.size∧Dig (bytesOf s)))
def Fine (s:ByteArray):Prop:=1≤s.size∧s.size≤5120∧Dig (bytesOf s)
theorem akw {s:ByteArray} {k:Int} (h:Err s k) (h' : Fine s):False:=by
 rcases h with ⟨h1,h2⟩ | ⟨h1,h2,h3⟩
 ·have:=h'.2.1;omega
 ·exact h3 ⟨h'.1,h'.2.2⟩
end Dm
end Go.Proofs.YtdjgifcmhafppaaGreatDoor
namespace Go.Proofs.YtdjgifcmhafppaaGreatDoor
namespace Lm
open Go.RowKit
open Dm (Err Fine akw)
theorem amw (w:World) (s:ByteArray) :
  Calls Tryz.prog 95 #[.string s] w fun e w'=>((∃ k:Int,Err s k∧e=.returned (.tuple #[.slice none 0 0,.int .i64 k]))∨(Fine s∧∃ v,e=.returned (.tuple #[v,.int .i64 0])∧Is w.heap.size w' v (dval (bytesOf s))))∧Below w.heap.size w w' := by
 by_cases h1:(5120:Int)<(s.size:Int)
 ·refine (aob w s h1).mono ?_
  rintro e w' ⟨rfl,hb⟩
  exact ⟨.inl ⟨2,.inl ⟨rfl,by omega⟩,rfl⟩,hb⟩
 ·by_cases h2:s.size=0
  ·refine (aoc w s h2).mono ?_
   rintro e w' ⟨rfl,hb⟩
   exact ⟨.inl ⟨10,.inr ⟨rfl,by omega,fun hx=>by omega⟩,rfl⟩,hb⟩
  ·refine (an8 w s (by omega) (by omega)).mono ?_
   rintro e w' ⟨hr,hb⟩
   rcases hr with ⟨hd,v,rfl,hi⟩ | ⟨hn,rfl⟩
   ·exact ⟨.inr ⟨⟨by omega,by omega,hd⟩,v,rfl,hi⟩,hb⟩
   ·exact ⟨.inl ⟨10,.inr ⟨rfl,by omega,fun hx=>hn hx.2⟩,rfl⟩,hb⟩
end Lm
end Go.Proofs.YtdjgifcmhafppaaGreatDoor
namespace Go.Proofs.YtdjgifcmhafppaaGreatDoor
namespace Lm
open Go Go.RowKit
theorem aqu {n c b1 b2 b3:Nat} (h:c<128):Lib.decodeN n c b1 b2 b3=(c,1):=by
 unfold Lib.decodeN;rw [if_pos h]
theorem aqv {n c b2 b3:Nat} (h1:128≤c) (h2:c<2048) (hn:1<n):Lib.decodeN n (192+c / 64) (128+c % 64) b2 b3=(c,2):=by
 unfold Lib.decodeN
 rw [if_neg (by omega),if_pos (by omega),if_pos (by omega)]
 exact Prod.ext (by simp only;omega) rfl
theorem aqw {n c b3:Nat} (h1:2048≤c) (h2:c<65536) (hs:c<55296∨57343<c) (hn:2<n):Lib.decodeN n (224+c / 4096) (128+c / 64 % 64) (128+c % 64) b3=(c,3):=by
 unfold Lib.decodeN
 have e:(224+c / 4096) % 16*4096+(128+c / 64 % 64) % 64*64+(128+c % 64) % 64=c:=by omega
 rw [if_neg (by omega),if_neg (by omega),if_pos (by omega),e,if_pos (by omega)]
theorem aqx {n c:Nat} (h1:65536≤c) (h2:c≤1114111) (hn:3<n):Lib.decodeN n (240+c / 262144) (128+c / 4096 % 64) (128+c / 64 % 64) (128+c % 64)=(c,4):=by
 unfold Lib.decodeN
 have e:(240+c / 262144) % 8*262144+(128+c / 4096 % 64) % 64*4096+(128+c / 64 % 64) % 64*64+(128+c % 64) % 64=c:=by omega
 rw [if_neg (by omega),if_neg (by omega),if_neg (by omega),if_pos (by omega),e,if_pos (by omega)]
def encL (c:Nat):List UInt8 :=
 if c<128 then [c.toUInt8] else if c<2048 then [(192+c / 64).toUInt8,(128+c % 64).toUInt8]
 else if c<65536 then [(224+c / 4096).toUInt8,(128+c / 64 % 64).toUInt8,(128+c % 64).toUInt8]
 else [(240+c / 262144).toUInt8,(128+c / 4096 % 64).toUInt8,(128+c / 64 % 64).toUInt8,(128+c % 64).toUInt8]
theorem get!_list (s:ByteArray) (l m r:List UInt8) (h:s.data.toList=l ++ m ++ r) (j:Nat) (u:UInt8) (hj:m[j]? = some u):s.get! (l.length+j)=u:=by
 have e:s.data.toList[l.length+j]? = some u:=by
  obtain ⟨hm,he⟩:=List.getElem?_eq_some_iff.1 hj
  rw [h,List.append_assoc,List.getElem?_append_right (by omega),Nat.add_sub_cancel_left,List.getElem?_append_left hm,hj]
 cases s with
 | mk d =>
  simp only [Array.getElem?_toList] at e
  show d[l.length+j]! = u
  rw [getElem!_def,e]
theorem akx (c:Nat):(encL c).length=if c<128 then 1 else if c<2048 then 2 else if c<65536 then 3 else 4:=by
 unfold encL;repeat' split
 all_goals simp
theorem aod (s:ByteArray) (l r:List UInt8) (c:Nat) (hc:c≤1114111) (hs:c<55296∨57343<c) (h:s.data.toList=l ++ encL c ++ r):Utf8.decode s l.length=(c,(encL c).length):=by
 have hz:s.size=l.length+(encL c).length+r.length:=by
  have:s.data.toList.length=s.size:=rfl
  rw [←this,h];simp;omega
 have hg:=fun j u=>get!_list s l (encL c) r h j u
 rw [Lib.decode_at]
 by_cases h1:c<128
 ·have e:encL c = [c.toUInt8]:=by unfold encL;rw [if_pos h1]
  rw [e] at hg hz ⊢
  have g0:=hg 0 _ rfl
  rw [Nat.add_zero] at g0
  rw [g0,show c.toUInt8.toNat=c from by simp;omega]
  exact aqu h1
 by_cases h2:c<2048
 ·have e:encL c = [(192+c / 64).toUInt8,(128+c % 64).toUInt8]:=by unfold encL;rw [if_neg h1,if_pos h2]
  rw [e] at hg hz ⊢
  have g0:=hg 0 _ rfl
  have g1:=hg 1 _ rfl
  rw [Nat.add_zero] at g0
  rw [g0,g1,show (192+c / 64).toUInt8.toNat=192+c / 64 from by rw [Nat.toUInt8,UInt8.toNat_ofNat'];omega,show (128+c % 64).toUInt8.toNat=128+c % 64 from by rw [Nat.toUInt8,UInt8.toNat_ofNat'];omega]
  exact aqv (by omega) h2 (by simp at hz;omega)
 by_cases h3:c<65536
 ·have e:encL c = [(224+c / 4096).toUInt8,(128+c / 64 % 64).toUInt8,(128+c % 64).toUInt8]:=by unfold encL;rw [if_neg h1,if_neg h2,if_pos h3]
  rw [e] at hg hz ⊢
  have g0:=hg 0 _ rfl
  have g1:=hg 1 _ rfl
  have g2:=hg 2 _ rfl
  rw [Nat.add_zero] at g0
  rw [g0,g1,g2,show (224+c / 4096).toUInt8.toNat=224+c / 4096 from by rw [Nat.toUInt8,UInt8.toNat_ofNat'];omega,show (128+c / 64 % 64).toUInt8.toNat=128+c / 64 % 64 from by rw [Nat.toUInt8,UInt8.toNat_ofNat'];omega,show (128+c % 64).toUInt8.toNat=128+c % 64 from by rw [Nat.toUInt8,UInt8.toNat_ofNat'];omega]
  exact aqw (by omega) h3 hs (by simp at hz;omega)
 ·have e:encL c = [(240+c / 262144).toUInt8,(128+c / 4096 % 64).toUInt8,(128+c / 64 % 64).toUInt8,(128+c % 64).toUInt8]:=by unfold encL;rw [if_neg h1,if_neg h2,if_neg h3]
  rw [e] at hg hz ⊢
  have g0:=hg 0 _ rfl
  have g1:=hg 1 _ rfl
  have g2:=hg 2 _ rfl
  have g3:=hg 3 _ rfl
  rw [Nat.add_zero] at g0
  rw [g0,g1,g2,g3,show (240+c / 262144).toUInt8.toNat=240+c / 262144 from by rw [Nat.toUInt8,UInt8.toNat_ofNat'];omega,show (128+c / 4096 % 64).toUInt8.toNat=128+c / 4096 % 64 from by rw [Nat.toUInt8,UInt8.toNat_ofNat'];omega,show (128+c / 64 % 64).toUInt8.toNat=128+c / 64 % 64 from by rw [Nat.toUInt8,UInt8.toNat_ofNat'];omega,show (128+c % 64).toUInt8.toNat=128+c % 64 from by rw [Nat.toUInt8,UInt8.toNat_ofNat'];omega]
  exact aqx (by omega) hc (by simp at hz;omega)
def encs:List Nat→List UInt8
 | []=>[]
 | c :: cs=>encL c ++ encs cs
def Cod (c:Nat):Prop:=c≤1114111∧(c<55296∨57343<c)
theorem aky (c:Nat):1≤(encL c).length∧(encL c).length≤4:=by
 rw [akx];repeat' split
 all_goals omega
def adv (p:Pl):List Nat→Pl
 | []=>p
 | c :: cs=>adv (p.past c (encL c).length) cs
def glf (p:Pl):List Nat→List Gl
 | []=>[]
 | c :: cs=>⟨c,p⟩ :: glf (p.past c (encL c).length) cs
theorem agi (p:Pl) (cs:List Nat):(glf p cs).length=cs.length:=by
 induction cs generalizing p with
 | nil=>rfl
 | cons c cs ih=>simp [glf,ih]
theorem agj (p:Pl) (cs:List Nat):(adv p cs).b=p.b+(encs cs).length:=by
 induction cs generalizing p with
 | nil=>simp [adv,encs]
 | cons c cs ih=>simp only [adv,encs,ih,List.length_append,Pl.past];omega
theorem atj (s:ByteArray) (cs:List Nat) (hc:∀ c ∈ cs,Cod c) (l r:List UInt8) (p:Pl) (hp:p.b=l.length) (h:s.data.toList=l ++ encs cs ++ r)
  (hr:r = []∨(p.b+(encs cs).length<s.size∧Utf8.decode s (p.b+(encs cs).length)=(65533,1))):Snd s p (glf p cs) (adv p cs):=by
 have hz:s.size=l.length+(encs cs).length+r.length:=by
  have:s.data.toList.length=s.size:=rfl
  rw [←this,h];simp;omega
 induction cs generalizing l p with
 | nil =>
  simp only [encs,List.length_nil,Nat.add_zero] at hz hr
  refine .stop p ?_
  rcases hr with hr | hr
  ·subst hr;simp at hz;exact .inl (by omega)
  ·exact .inr hr
 | cons c cs ih =>
  have hcc:=hc c (by simp)
  have hd:=aod s l (encs cs ++ r) c hcc.1 hcc.2 (by rw [h,encs];simp only [List.append_assoc])
  have hl:=aky c
  rw [←hp] at hd
  simp only [encs,List.length_append] at hz hr
  have h1:=ih (fun d hd=>hc d (by simp [hd])) (l ++ encL c) (p.past c (encL c).length) (by simp [Pl.past,hp]) (by rw [h,encs];simp only [List.append_assoc]) (by simp only [Pl.past,Nat.add_assoc];exact hr) (by rw [List.length_append];omega)
  have hgo:=Snd.go (s:=s) p (glf (p.past c (encL c).length) cs) (adv (p.past c (encL c).length) cs) (by omega) (by rw [hd];intro hx;simp only [Prod.mk.injEq] at hx;obtain ⟨hx1,hx2⟩:=hx;rw [hx1] at hx2;rw [akx] at hx2;simp at hx2) (by rw [hd];exact h1)
  rw [hd] at hgo
  exact hgo
theorem OutW.ru {z:Int} {L:Nat} {v:Value} {w w' : World} (h:OutW z L v w) (hr:Ru w w'):OutW z L v w' := OutW.mono5 z L _ _ _ hr h
theorem OutW.fit {z:Int} {L L' : Nat} {v:Value} {w:World} (h:OutW z L v w) (hf:(z.natAbs:Int)<pw L'):OutW z L' v w:=by
 obtain ⟨ng,ao,cap,rs,e,h1,l1⟩:=h
 exact ⟨ng,ao,cap,rs,e,h1,aa3 h1.1.2.1 (by rw [h1.1.2.2];exact hf)⟩
structure Rc (q b:Nat) (w w' : World):Prop where
 os:w'.os=w.os
 tape:w'.tape=w.tape
 output:w'.output=w.output
 size:w.heap.size≤w'.heap.size
 other:∀ k,k<w.heap.size→k≠q→k≠b→w'.heap[k]? = w.heap[k]?
 ru:Ru w w'
theorem Rc.refl (q b:Nat) (w:World):Rc q b w w:=⟨rfl,rfl,rfl,Nat.le_refl _,fun _ _ _ _=>rfl,Ru.refl w⟩
theorem Rc.of_below {q b:Nat} {w w' : World} (h:Below w.heap.size w w'):Rc q b w w' := ⟨h.os,h.tape,h.output,h.size,fun k hk _ _=>h.block k hk,Ru.of_below h⟩
theorem Rc.trans {q b:Nat} {w w' w'' : World} (h:Rc q b w w') (h' : Rc q b w' w''):Rc q b w w'' := ⟨h'.os.trans h.os,h'.tape.trans h.tape,h'.output.trans h.output,Nat.le_trans h.size h'.size,fun k hk h1 h2=>(h'.other k (Nat.lt_of_lt_of_le hk h.size) h1 h2).trans (h.other k hk h1 h2),h.ru.trans h'.ru⟩
theorem Rc.wide {q b:Nat} {w w' : World} (h:Rc q q w w'):Rc q b w w' := ⟨h.os,h.tape,h.output,h.size,fun k hk h1 _=>h.other k hk h1 h1,h.ru⟩
theorem Rc.wideR {q b:Nat} {w w' : World} (h:Rc b b w w'):Rc q b w w' := ⟨h.os,h.tape,h.output,h.size,fun k hk _ h1=>h.other k hk h1 h1,h.ru⟩
theorem Rc.below {q b:Nat} {w w' : World} {B:Nat} (h:Rc q b w w') (hB:B≤w.heap.size) (hq:B≤q) (hb:B≤b):Below B w w' := ⟨h.os,h.tape,h.output,h.size,fun k hk=>h.other k (by omega) (by omega) (by omega)⟩
theorem Ce.rc {q b:Nat} {w w' : World} {v:Value} {size n:Nat} {xs:List Value} (h:Ce w v size n xs) (hr:Rc q b w w') (ha:0<n→∀ b' off n c,v=.slice (some ⟨b',off,none⟩) n c→b'≠q∧b'≠b):Ce w' v size n xs:=by
 obtain ⟨ao,cap,rfl,h1,h2,h3,h4⟩:=h
 refine ⟨ao,cap,rfl,h1,h2,h3,?_⟩
 by_cases hn0:n=0
 ·exact .inl hn0
 rcases h4 with h4 | ⟨b',off,rfl,hl,hc⟩
 ·exact .inl h4
 ·obtain ⟨n1,n2⟩:=ha (by omega) _ _ _ _ rfl
  refine .inr ⟨b',off,rfl,Nat.lt_of_lt_of_le hl hr.size,fun j u hu=>?_⟩
  rw [World.cell?_of_block (w:=w) (hr.other b' hl n1 n2)]
  exact hc j u hu
theorem FrW.ru {K:Nat} {z:Int} {L:Nat} {v:Value} {w w' : World} (h:FrW K z L v w) (hr:Ru w w'):FrW K z L v w' := FrW.mono5 K z L _ _ _ hr h
theorem FrW.of_li {w:World} {B T:Nat} {ng:Bool} {ao:Option Addr} {cap:Nat} {rs:List Int} {z:Int} {L:Nat} (hw:Wh w ng ao cap rs z) (hl:Li B T w ao cap rs) (hT:T≤w.heap.size) (hL:rs.length≤L):FrW B z L (.agg #[.bool ng,.slice ao rs.length cap]) w :=
 ⟨ng,ao,cap,rs,B,T,rfl,⟨⟨hl.ow,hw.1.2.1,hw.1.2.2,hl.lies⟩,hw.2⟩,Nat.le_refl _,hT,hL⟩
theorem FrW.low {K K' : Nat} {z:Int} {L:Nat} {v:Value} {w:World} (h:FrW K z L v w) (hk:K'≤K):FrW K' z L v w:=by
 obtain ⟨ng,ao,cap,rs,B,T,e,h1,h2,h3,h4⟩:=h
 exact ⟨ng,ao,cap,rs,B,T,e,h1,Nat.le_trans hk h2,h3,h4⟩
theorem FrW.fit {K:Nat} {z:Int} {L L' : Nat} {v:Value} {w:World} (h:FrW K z L v w) (hf:(z.natAbs:Int)<pw L'):FrW K z L' v w:=by
 obtain ⟨ng,ao,cap,rs,B,T,e,h1,h2,h3,h4⟩:=h
 exact ⟨ng,ao,cap,rs,B,T,e,h1,h2,h3,aa3 h1.fr.canon (by rw [h1.fr.val];exact hf)⟩
theorem FrW.is {K:Nat} {z:Int} {L:Nat} {v:Value} {w:World} (h:FrW K z L v w):IsW z L v w:=h.out.is
theorem FrW.agg {K:Nat} {z:Int} {L:Nat} {v:Value} {w:World} (h:FrW K z L v w):∃ ng ao n cap,v=.agg #[.bool ng,.slice ao n cap]:=by
 obtain ⟨ng,ao,cap,rs,B,T,e,_⟩:=h
 exact ⟨ng,ao,rs.length,cap,e⟩
theorem ahd (w:World) {K L:Nat} (hK:K≤w.heap.size):FrW K 0 L (.agg #[.bool false,.slice none 0 0]) w:=⟨false,none,0,[],w.heap.size,w.heap.size,rfl,(axi _ _ _).wfr (axj _),hK,Nat.le_refl _,by simp⟩
theorem IsW.ru {z:Int} {L:Nat} {v:Value} {w w' : World} (h:IsW z L v w) (hr:Ru w w'):IsW z L v w' := IsW.mono5 z L _ _ _ hr h
section
variable (w:World) (x y:Int) (vx vy:Value) (L M:Nat)
theorem mulF (hx:IsW x L vx w) (hy:IsW y M vy w) (hL:L≤400000) (hM:M≤400000) :
  Calls Tryz.prog 17 #[vx,vy] w fun e w'=>∃ v,e=.returned v∧FrW w.heap.size (x*y) (L+M) v w'∧Below w.heap.size w w' := by
 obtain ⟨n1,a1,m1,c1,xs,rfl,A1,l1⟩:=hx
 obtain ⟨n2,a2,m2,c2,ys,rfl,A2,l2⟩:=hy
 refine (axg w n1 a1 m1 c1 xs A1.sl n2 a2 m2 c2 ys A2.sl (by omega) (by omega)).mono ?_
 rintro e w' ⟨ng,ao,cap,rs,rfl,hw,hl,hli,hb⟩
 rw [A1.worth,A2.worth] at hw
 exact ⟨_,rfl,FrW.of_li hw hli (Nat.le_refl _) (by omega),hb⟩
theorem addF (hx:IsW x L vx w) (hy:IsW y M vy w) (hL:L≤400000) (hM:M≤400000) :
  Calls Tryz.prog 54 #[vx,vy] w fun e w'=>∃ v,e=.returned v∧FrW w.heap.size (x+y) (L+M+1) v w'∧Below w.heap.size w w' := by
 obtain ⟨n1,a1,m1,c1,xs,rfl,A1,l1⟩:=hx
 obtain ⟨n2,a2,m2,c2,ys,rfl,A2,l2⟩:=hy
 refine (axf w n1 a1 m1 c1 xs A1.sl n2 a2 m2 c2 ys A2.sl (by omega) (by omega)).mono ?_
 rintro e w' ⟨ng,ao,cap,rs,rfl,hw,hl,hli,hb⟩
 rw [A1.worth,A2.worth] at hw
 exact ⟨_,rfl,FrW.of_li hw hli (Nat.le_refl _) (by omega),hb⟩
theorem gcdF (hx:IsW x L vx w) (hy:IsW y M vy w) (hL:L≤400000) (hM:M≤400000) :
  Calls Tryz.prog 59 #[vx,vy] w fun e w'=>∃ v,e=.returned v∧FrW w.heap.size ((Int.gcd x y:Nat):Int) (L+M+1) v w'∧Below w.heap.size w w' := by
 obtain ⟨n1,a1,m1,c1,xs,rfl,A1,l1⟩:=hx
 obtain ⟨n2,a2,m2,c2,ys,rfl,A2,l2⟩:=hy
 refine (axh w n1 a1 m1 c1 xs A1.sl n2 a2 m2 c2 ys A2.sl (by omega) (by omega)).mono ?_
 rintro e w' ⟨ng,ao,cap,rs,rfl,hw,hl,hli,hb⟩
 rw [A1.worth,A2.worth] at hw
 exact ⟨_,rfl,FrW.of_li hw hli (Nat.le_refl _) (by omega),hb⟩
theorem negF (hx:IsW x L vx w) (hL:L≤400000) :
  Calls Tryz.prog 60 #[vx] w fun e w'=>∃ v,e=.returned v∧FrW w.heap.size (-x) L v w'∧Below w.heap.size w w' := by
 obtain ⟨n1,a1,m1,c1,xs,rfl,A1,l1⟩:=hx
 refine (axd w n1 a1 m1 c1 xs A1.sl (by omega)).mono ?_
 rintro e w' ⟨ng,ao,cap,rs,rfl,hw,hl,hli,hb⟩
 rw [A1.worth] at hw
 exact ⟨_,rfl,FrW.of_li hw hli (Nat.le_refl _) (by omega),hb⟩
theorem signF (hx:IsW x L vx w) (hL:L≤400000) :
  Calls Tryz.prog 34 #[vx] w fun e w'=>e=.returned (.int .i64 (Int.sign x))∧Below w.heap.size w w' := by
 obtain ⟨n1,a1,m1,c1,xs,rfl,A1,l1⟩:=hx
 exact ahp w n1 a1 m1 c1 xs x A1 (by omega) _ rfl
theorem cmpF (hx:IsW x L vx w) (hy:IsW y M vy w) (hL:L≤400000) (hM:M≤400000) :
  Calls Tryz.prog 15 #[vx,vy] w fun e w'=>e=.returned (.int .i64 (cmpI x y))∧Below w.heap.size w w' := by
 obtain ⟨n1,a1,m1,c1,xs,rfl,A1,l1⟩:=hx
 obtain ⟨n2,a2,m2,c2,ys,rfl,A2,l2⟩:=hy
 exact ayc w n1 a1 m1 c1 xs x A1 n2 a2 m2 c2 ys y A2 (by omega) (by omega) _ rfl
theorem divF (hx:IsW x L vx w) (hy:IsW y M vy w) (hL:L≤400000) (hM:M≤400000) :
  Calls Tryz.prog 83 #[vx,vy] w fun e w'=>∃ v1 v2 b,e=.returned (.tuple #[v1,v2,.bool b])∧FrW w.heap.size (x / y) (L+4) v1 w'∧OutW (if y=0 then 0 else x % y) (M+1) v2 w'∧b=decide (y≠0)∧Below w.heap.size w w' := by
 obtain ⟨n1,a1,m1,c1,xs,rfl,A1,l1⟩:=hx
 obtain ⟨n2,a2,m2,c2,ys,rfl,A2,l2⟩:=hy
 have hw:=A2.worth
 by_cases h0:val ys=0
 ·have hy0:y=0:=by rw [←hw,h0];cases n2 <;> simp [sg]
  refine (ako w n1 a1 m1 c1 xs A1.sl n2 a2 m2 c2 ys A2.sl h0).mono ?_
  rintro e w' ⟨rfl,hb⟩
  refine ⟨_,_,_,rfl,?_,?_,by rw [hy0];rfl,hb⟩
  ·rw [hy0,Int.ediv_zero]
   exact ahd _ hb.size
  ·rw [if_pos hy0]
   exact (ahd (K:=0) _ (Nat.zero_le _)).out
 ·have hy0:y≠0:=by rw [←hw];cases n2 <;> simp [sg] <;> omega
  refine (aqn w n1 a1 m1 c1 xs A1.sl n2 a2 m2 c2 ys A2.sl (by omega) (by omega) h0).mono ?_
  rintro e w' ⟨nq,aq,cq,qs,nr,ar,cr,rs,B1,T1,B2,T2,rfl,hq,hr,lq,lr,li1,li2,⟨i1,i2,i3,i4,_⟩,hb⟩
  rw [A1.worth,A2.worth] at hq hr
  refine ⟨_,_,_,rfl,(FrW.of_li hq li1 i2 (by omega)).low i1,?_,by simp [hy0],hb⟩
  rw [if_neg hy0]
  exact ⟨_,_,_,_,rfl,hr,by omega⟩
end
set_option maxRecDepth 20000 in
theorem aam {ops:Array Oper} {o:Oper} {a:Act} {w:World} {K:Act→World→Prop} {Q:Exit→Act→World→Prop} {E:Prop} (hg:o.guard=none) (f:FuncId) (xs:Array Operand) (ats:Array TypeId)
  (hop:o.op=.call { callee:=.value (.func f),args:=xs,argTypes:=ats }) (hf:Has Tryz.prog f) (vs:Array Value) (hx:xs.map a.eval=vs) {Post:Ending→World→Prop} (hc:Calls Tryz.prog f vs w Post) (hK:∀ e w',Post e w'→∃ r,e=.returned r∧K (a.put o.dst r) w') :
  if Region.wanted o (yielded ops a.tmps)=true then Oper.wp Tryz.prog o a w K Q else E:=by
 obtain ⟨dst,op,ty,pos,after,guard⟩:=o
 simp only at hop hg
 subst hop hg
 have hw:Region.wanted { dst,op:=.call { callee:=.value (.func f),args:=xs,argTypes:=ats },type:=ty,pos,after,guard:=none } (yielded ops a.tmps)=true:=by simp [Region.wanted]
 rw [if_pos hw]
 clear hw
 have hd:Does Tryz.prog { dst,op:=.call { callee:=.value (.func f),args:=xs,argTypes:=ats },type:=ty,pos,after,guard:=none } a.eval w (fun r w'=>K (a.put dst r) w'):=abm hf vs hx (hc.mono hK)
 have hz:=Does.wp (K:=K) (Q:=Q) hd (fun v w' h=>h)
 exact hz
theorem aoe {P:Program} {dst:Option Tmp} {f:FuncId} {x:Operand} {xs:Array Operand} {ats:Array TypeId} {ty:TypeId} {pos:String} {after:Array Edge} {guard:Option (Nat × Bool)} {a:Act} {w:World} {R:Value→World→Prop} (hf:Has P f) (cap:Array Value) (hx0:a.eval x=.func (.func f) #[] cap) (args:Array Value) (hx:xs.map a.eval=args) (h:Calls P f (args ++ cap) w fun e w'=>∃ v,e=.returned v∧R v w') :
  Does P { dst,op:=.call { callee:=.value x,args:=xs,argTypes:=ats },type:=ty,pos,after,guard } a.eval w R:=by
 have e:execOp a.eval { dst,op:=.call { callee:=.value x,args:=xs,argTypes:=ats },type:=ty,pos,after,guard } = callFunc f (#[] ++ xs.map a.eval ++ cap):=by
  show (do let d ←Deferred.ofValue (a.eval x) (xs.map a.eval);invoke d.target d.args) = _
  rw [hx0]
  rfl
 refine ⟨?_⟩
 unfold Turns
 rw [e,hf.enter]
 simpa [hx] using h
theorem ah2 {ops:Array Oper} {o:Oper} {a:Act} {w:World} {K:Act→World→Prop} {Q:Exit→Act→World→Prop} {E:Prop} (hg:o.guard=none) (f:FuncId) (x:Operand) (xs:Array Operand) (ats:Array TypeId)
  (hop:o.op=.call { callee:=.value x,args:=xs,argTypes:=ats }) (hf:Has Tryz.prog f) (cap:Array Value) (hx0:a.eval x=.func (.func f) #[] cap) (vs:Array Value) (hx:xs.map a.eval=vs) {Post:Ending→World→Prop} (hc:Calls Tryz.prog f (vs ++ cap) w Post) (hK:∀ e w',Post e w'→∃ r,e=.returned r∧K (a.put o.dst r) w') :
  if Region.wanted o (yielded ops a.tmps)=true then Oper.wp Tryz.prog o a w K Q else E:=by
 obtain ⟨dst,op,ty,pos,after,guard⟩:=o
 simp only at hop hg
 subst hop hg
 have hw:Region.wanted { dst,op:=.call { callee:=.value x,args:=xs,argTypes:=ats },type:=ty,pos,after,guard:=none } (yielded ops a.tmps)=true:=by simp [Region.wanted]
 rw [if_pos hw]
 clear hw
 have hd:Does Tryz.prog { dst,op:=.call { callee:=.value x,args:=xs,argTypes:=ats },type:=ty,pos,after,guard:=none } a.eval w (fun r w'=>K (a.put dst r) w'):=aoe hf cap hx0 vs hx (hc.mono hK)
 have hz:=Does.wp (K:=K) (Q:=Q) hd (fun v w' h=>h)
 exact hz
section
variable {dst:Option Tmp} {ty:TypeId} {pos:String} {after:Array Edge} {guard:Option (Nat × Bool)} {a:Act} {w:World} {ats:Array TypeId} {i j:Nat}
theorem aof:Has Tryz.prog 61:=by unfold Has;kernel_rfl
theorem alz {ax ay:Option Addr} {mx cx my cy:Nat} {zs:List Int} (h1:a.eval (.tmp i)=.slice ax mx cx) (h2:a.eval (.tmp j)=.slice ay my cy) (S1:Sl w (.slice ax mx cx) zs) (S2:Sl w (.slice ay my cy) zs) :
  Does Tryz.prog { dst,op:=.call { callee:=.value (.func 61),args:=#[.tmp i,.tmp j],argTypes:=ats },type:=ty,pos,after,guard } a.eval w fun v w'=>Below w.heap.size w w'∧Eqs (.bool true) v w' := by
 refine abm aof _ (by simp only [List.map_toArray,List.map_cons,List.map_nil,h1,h2]) ((ajz w _ _ _ _ _ _ zs zs S1 S2).mono ?_)
 rintro e w' ⟨rfl,hb⟩
 exact ⟨_,rfl,hb,by rw [ane];rfl⟩
end
set_option maxRecDepth 20000 in
set_option maxHeartbeats 1000000 in
theorem aqy (w:World) (nx:Bool) (ax ay:Option Addr) (mx cx my cy:Nat) (zs:List Int) (Tx:Sl w (.slice ax mx cx) zs) (Ty:Sl w (.slice ay my cy) zs) :
  Calls Tryz.prog 35 #[.agg #[.bool nx,.slice ax mx cx],.agg #[.bool nx,.slice ay my cy]] w fun e w'=>e=.returned (.bool true)∧Below w.heap.size w w' := by
 go_enter Tryz.func35,Tryz.ntmps35
 generalize hA:(Act.mk _ _)=aa
 have hn:aa.tmps.size=17:=by rw [←hA];rfl
 have hd:aa.defers = []:=by rw [←hA]
 have f0:aa.eval (.tmp 0)=.agg #[.bool nx,.slice ax mx cx]:=by rw [←hA];rfl
 have f1:aa.eval (.tmp 1)=.agg #[.bool nx,.slice ay my cy]:=by rw [←hA];rfl
 clear hA
 have HB:Below w.heap.size w w:=Below.refl _ _
 refine wp_seq ?_
 refine aao [some 2,some 3,some 4] [(fun _ _=>True),(fun _ _=>True),Eqs ((.bool false))] [⟨W2,some 0,0,2,.agg #[.bool nx,.slice ax mx cx],none,[]⟩,⟨W2,some 1,0,3,.agg #[.bool nx,.slice ay my cy],none,[]⟩] [] (by kernel_rfl) hn rfl (by kernel_rfl) (by kernel_rfl) (by kernel_rfl) (by kernel_rfl) (by kernel_rfl) (by kernel_rfl) ⟨True.mono4,True.mono4,Eqs.mono4 _,trivial⟩ (adi W2ok (adi W2ok aau)) (IsOld.all (bx:=[⟨W2,some 0,0,2,.agg #[.bool nx,.slice ax mx cx],none,[]⟩,⟨W2,some 1,0,3,.agg #[.bool nx,.slice ay my cy],none,[]⟩]) ⟨someNe,someNe,trivial⟩) (DisOld.all (bx:=[⟨W2,some 0,0,2,.agg #[.bool nx,.slice ax mx cx],none,[]⟩,⟨W2,some 1,0,3,.agg #[.bool nx,.slice ay my cy],none,[]⟩]) ⟨someNe,someNe,trivial⟩) ?_ ?_
 ·exact ⟨.alloc 0 _ rfl rfl (.inr ⟨_,rfl,aht,fun a_ hR=>(hR 0 rfl).trans f0⟩) rfl rfl rfl rfl rfl,
   .alloc 1 _ rfl rfl (.inr ⟨_,rfl,aht,fun a_ hR=>(hR 1 rfl).trans f1⟩) rfl rfl rfl rfl rfl,
   .norm 4 rfl rfl rfl (fun a_ w_ hn_ hBt hr hR hD hO hS=>aae rfl),
   trivial⟩
 intro a1 w1 gs1 hn1 hd1 hBt hr hR hP hX hU
 replace hn:=hn1;replace hd:=hd1.trans hd
 have b2:BoxV W2 w1 (gs1 0) (.agg #[.bool nx,.slice ax mx cx]):=(hX 0 _ rfl).2.2.2
 have f2:=(hX 0 _ rfl).1
 have u2:w.heap.size≤gs1 0:=Nat.le_trans HB.size ((hX 0 _ rfl).2.2.1 (by simp))
 have b3:BoxV W2 w1 (gs1 1) (.agg #[.bool nx,.slice ay my cy]):=(hX 1 _ rfl).2.2.2
 have f3:=(hX 1 _ rfl).1
 have u3:w.heap.size≤gs1 1:=Nat.le_trans HB.size ((hX 1 _ rfl).2.2.1 (by simp))
 have e4:a1.eval (.tmp 4)=(.bool false):=hP 2 (by decide)
 have f4:=e4
 replace Tx:=Tx.rl hr
 replace Ty:=Ty.rl hr
 replace HB:=HB.trans (hBt.below HB.size (UpOld.all (bx:=[⟨W2,some 0,0,2,.agg #[.bool nx,.slice ax mx cx],none,[]⟩,⟨W2,some 1,0,3,.agg #[.bool nx,.slice ay my cy],none,[]⟩]) ⟨someNe,someNe,trivial⟩))
 clear hBt hr hR hP hX hU
 refine wp_seq ?_
 refine aao [some 5,some 6,some 7,some 8,some 9,some 10,some 11,some 12,some 13,some 14,some 15,some 16,some 4] [Eqs (.pointer (some ⟨gs1 0,0,none⟩)),Eqs (.bool nx),Eqs (.pointer (some ⟨gs1 1,0,none⟩)),Eqs (.bool nx),Eqs (.bool true),Eqs (.bool true),Eqs (.pointer (some ⟨gs1 0,1,none⟩)),Eqs (.slice ax mx cx),Eqs (.pointer (some ⟨gs1 1,1,none⟩)),Eqs (.slice ay my cy),Eqs (.bool true),Eqs (.bool true),Eqs (.bool true)] [] [] (by kernel_rfl) hn rfl (by kernel_rfl) (by kernel_rfl) (by kernel_rfl) (by kernel_rfl) (by kernel_rfl) (by kernel_rfl) ⟨Eqs.mono4 _,Eqs.mono4 _,Eqs.mono4 _,Eqs.mono4 _,Eqs.mono4 _,Eqs.mono4 _,Eqs.mono4 _,Eqs.mono4 _,Eqs.mono4 _,Eqs.mono4 _,Eqs.mono4 _,Eqs.mono4 _,Eqs.mono4 _,trivial⟩ aau (IsOld.all (bx:=[]) trivial) (DisOld.all (bx:=[]) trivial) ?_ ?_
 ·exact ⟨.norm 5 rfl rfl rfl (fun a_ w_ hn_ hBt hr hR hD hO hS=>agd ap1 ((hR 2 rfl).trans f2)),
   .norm 6 rfl rfl rfl (fun a_ w_ hn_ hBt hr hR hD hO hS=>akb (show a_.eval (.tmp 5)=.pointer (some ⟨gs1 0,0,none⟩) from hD 0 rfl) (b2.keep hBt trivial)),
   .norm 7 rfl rfl rfl (fun a_ w_ hn_ hBt hr hR hD hO hS=>agd ap1 ((hR 3 rfl).trans f3)),
   .norm 8 rfl rfl rfl (fun a_ w_ hn_ hBt hr hR hD hO hS=>akb (show a_.eval (.tmp 7)=.pointer (some ⟨gs1 1,0,none⟩) from hD 2 rfl) (b3.keep hBt trivial)),
   .norm 9 rfl rfl rfl (fun a_ w_ hn_ hBt hr hR hD hO hS=>as5 (show a_.eval (.tmp 6)=.bool nx from hD 1 rfl) (show a_.eval (.tmp 8)=.bool nx from hD 3 rfl)),
   .norm 10 rfl rfl rfl (fun a_ w_ hn_ hBt hr hR hD hO hS=>aa7 (show a_.eval (.tmp 9)=.bool true from hD 4 rfl)),
   .norm 11 rfl rfl rfl (fun a_ w_ hn_ hBt hr hR hD hO hS=>⟨⟨_,rfl⟩,fun _=>agd ahs ((hR 2 rfl).trans f2),fun hne=>absurd (hD 5 rfl) hne⟩),
   .norm 12 rfl rfl rfl (fun a_ w_ hn_ hBt hr hR hD hO hS=>⟨⟨_,rfl⟩,fun _=>akc (show a_.eval (.tmp 11)=.pointer (some ⟨gs1 0,1,none⟩) from hD 6 rfl) (b2.keep hBt trivial),fun hne=>absurd (hD 5 rfl) hne⟩),
   .norm 13 rfl rfl rfl (fun a_ w_ hn_ hBt hr hR hD hO hS=>⟨⟨_,rfl⟩,fun _=>agd ahs ((hR 3 rfl).trans f3),fun hne=>absurd (hD 5 rfl) hne⟩),
   .norm 14 rfl rfl rfl (fun a_ w_ hn_ hBt hr hR hD hO hS=>⟨⟨_,rfl⟩,fun _=>akc (show a_.eval (.tmp 13)=.pointer (some ⟨gs1 1,1,none⟩) from hD 8 rfl) (b3.keep hBt trivial),fun hne=>absurd (hD 5 rfl) hne⟩),
   .norm 15 rfl rfl rfl (fun a_ w_ hn_ hBt hr hR hD hO hS=>⟨⟨_,rfl⟩,fun _=>alz (show a_.eval (.tmp 12)=.slice ax mx cx from hD 7 rfl) (show a_.eval (.tmp 14)=.slice ay my cy from hD 9 rfl) (Tx.rl hr) (Ty.rl hr),fun hne=>absurd (hD 5 rfl) hne⟩),
   .norm 16 rfl rfl rfl (fun a_ w_ hn_ hBt hr hR hD hO hS=>asj (show a_.eval (.tmp 10)=.bool true from hD 5 rfl) (show a_.eval (.tmp 15)=.bool true from hD 10 rfl)),
   .norm 4 rfl rfl rfl (fun a_ w_ hn_ hBt hr hR hD hO hS=>aae (show a_.eval (.tmp 16)=.bool true from hD 11 rfl)),
   trivial⟩
 intro a2 w2 gs2 hn2 hd2 hBt hr hR hP hX hU
 replace hn:=hn2;replace hd:=hd2.trans hd
 have e4:a2.eval (.tmp 4)=.bool true:=hP 12 (by decide)
 have f4:=e4
 replace Tx:=Tx.rl hr
 replace Ty:=Ty.rl hr
 replace HB:=HB.trans (hBt.below HB.size (UpOld.all (bx:=[]) trivial))
 clear hBt hr hR hP hX hU
 refine wp_ret ?_
 repeat (first | refine acr ?_ | refine abv ?_ | refine ab9 ?_)
 exact bodyPost_ret (v:=.bool true) (adx rfl f4) hd ⟨rfl,HB⟩
section
variable {dst:Option Tmp} {ty:TypeId} {pos:String} {after:Array Edge} {guard:Option (Nat × Bool)} {a:Act} {w:World} {ats:Array TypeId} {i j:Nat}
theorem aog {nx ny:Bool} {ax ay:Option Addr} {mx cx my cy:Nat} {xs ys:List Int} (h1:a.eval (.tmp i)=.agg #[.bool nx,.slice ax mx cx]) (h2:a.eval (.tmp j)=.agg #[.bool ny,.slice ay my cy]) (S1:Sl w (.slice ax mx cx) xs) (S2:Sl w (.slice ay my cy) ys) (hn:nx=ny) (hz:xs=ys) :
  Does Tryz.prog { dst,op:=.call { callee:=.value (.func 35),args:=#[.tmp i,.tmp j],argTypes:=ats },type:=ty,pos,after,guard } a.eval w fun v w'=>Below w.heap.size w w'∧Eqs (.bool true) v w' := by
 subst hn hz
 refine abm ash _ (by simp only [List.map_toArray,List.map_cons,List.map_nil,h1,h2]) ((aqy w nx _ _ _ _ _ _ xs S1 S2).mono ?_)
 rintro e w' ⟨rfl,hb⟩
 exact ⟨_,rfl,hb,rfl⟩
end
def WE.raw (e:WE):Bool × List Int:=(e.ng,e.zs)
def SameR (es fs:List WE):Prop:=es.map WE.raw=fs.map WE.raw
theorem SameR.len {es fs:List WE} (h:SameR es fs):es.length=fs.length:=by simpa using congrArg List.length h
theorem SameR.at {es fs:List WE} (h:SameR es fs) {k:Nat} {e f:WE} (he:es[k]? = some e) (hf:fs[k]? = some f):e.ng=f.ng∧e.zs=f.zs:=by
 have h1:=congrArg (fun l=>l[k]?) h
 simp only [List.getElem?_map,he,hf,Option.map_some,Option.some.injEq,WE.raw,Prod.mk.injEq] at h1
 exact h1
set_option maxRecDepth 20000 in
set_option maxHeartbeats 1000000 in
theorem aqz (w:World) (ax:Option Addr) (mx cx:Nat) (xs:List WE) (Rx0:Rw w (.slice ax mx cx) xs) (ay:Option Addr) (my cy:Nat) (ys:List WE) (Ry0:Rw w (.slice ay my cy) ys) (hS:SameR xs ys) :
  Calls Tryz.prog 14 #[.slice ax mx cx,.slice ay my cy] w fun e w'=>e=.returned (.bool true)∧Below w.heap.size w w' := by
 go_enter Tryz.func14,Tryz.ntmps14
 generalize hA:(Act.mk _ _)=aa
 have hn:aa.tmps.size=27:=by rw [←hA];rfl
 have hd:aa.defers = []:=by rw [←hA]
 have f0:aa.eval (.tmp 0)=.slice ax mx cx:=by rw [←hA];rfl
 have f1:aa.eval (.tmp 1)=.slice ay my cy:=by rw [←hA];rfl
 clear hA
 have HB:Below w.heap.size w w:=Below.refl _ _
 have px:=Rx0.parts;have py:=Ry0.parts;have hSl:=hS.len
 refine wp_seq ?_
 refine aao [some 4] [Eqs ((.bool false))] [] [] (by kernel_rfl) hn rfl (by kernel_rfl) (by kernel_rfl) (by kernel_rfl) (by kernel_rfl) (by kernel_rfl) (by kernel_rfl) ⟨Eqs.mono4 _,trivial⟩ aau (IsOld.all (bx:=[]) trivial) (DisOld.all (bx:=[]) trivial) ?_ ?_
 ·exact ⟨.norm 4 rfl rfl rfl (fun a_ w_ hn_ hBt hr hR hD hO hS=>aae rfl),
   trivial⟩
 intro a1 w1 gs1 hn1 hd1 hBt hr hR hP hX hU
 replace hn:=hn1;replace hd:=hd1.trans hd
 replace f0:=(hR 0 rfl).trans f0
 replace f1:=(hR 1 rfl).trans f1
 have e4:a1.eval (.tmp 4)=(.bool false):=hP 0 (by decide)
 have f4:=e4
 replace HB:=HB.trans (hBt.below HB.size (UpOld.all (bx:=[]) trivial))
 clear hBt hr hR hP hX hU
 refine wp_seq ?_
 refine wp_seq ?_
 refine aao [some 6,some 7,some 8,some 9,some 10] [Eqs (.slice ax mx cx),Eqs (.int .i64 (mx:Int)),Eqs (.slice ay my cy),Eqs (.int .i64 (my:Int)),Eqs (.bool false)] [] [] (by kernel_rfl) hn rfl (by kernel_rfl) (by kernel_rfl) (by kernel_rfl) (by kernel_rfl) (by kernel_rfl) (by kernel_rfl) ⟨Eqs.mono4 _,Eqs.mono4 _,Eqs.mono4 _,Eqs.mono4 _,Eqs.mono4 _,trivial⟩ aau (IsOld.all (bx:=[]) trivial) (DisOld.all (bx:=[]) trivial) ?_ ?_
 ·exact ⟨.norm 6 rfl rfl rfl (fun a_ w_ hn_ hBt hr hR hD hO hS=>aa7 ((hR 0 rfl).trans f0)),
   .norm 7 rfl rfl rfl (fun a_ w_ hn_ hBt hr hR hD hO hS=>aiq (show a_.eval (.tmp 6)=.slice ax mx cx from hD 0 rfl)),
   .norm 8 rfl rfl rfl (fun a_ w_ hn_ hBt hr hR hD hO hS=>aa7 ((hR 1 rfl).trans f1)),
   .norm 9 rfl rfl rfl (fun a_ w_ hn_ hBt hr hR hD hO hS=>aiq (show a_.eval (.tmp 8)=.slice ay my cy from hD 2 rfl)),
   .norm 10 rfl rfl rfl (fun a_ w_ hn_ hBt hr hR hD hO hS=>avq (show a_.eval (.tmp 7)=.int .i64 (mx:Int) from hD 1 rfl) (show a_.eval (.tmp 9)=.int .i64 (my:Int) from hD 3 rfl) (by omega)),
   trivial⟩
 intro a2 w2 gs2 hn2 hd2 hBt hr hR hP hX hU
 replace hn:=hn2;replace hd:=hd2.trans hd
 replace f0:=(hR 0 rfl).trans f0
 replace f1:=(hR 1 rfl).trans f1
 replace f4:=(hR 4 rfl).trans f4
 have e10:a2.eval (.tmp 10)=.bool false:=hP 4 (by decide)
 have f10:=e10
 replace HB:=HB.trans (hBt.below HB.size (UpOld.all (bx:=[]) trivial))
 clear hBt hr hR hP hX hU
 refine wp_cond_false f10 ?_
 refine wp_skip ?_
 refine wp_seq ?_
 refine wp_seq ?_
 refine aao [some 5] [Eqs ((.int .i64 0))] [] [] (by kernel_rfl) hn rfl (by kernel_rfl) (by kernel_rfl) (by kernel_rfl) (by kernel_rfl) (by kernel_rfl) (by kernel_rfl) ⟨Eqs.mono4 _,trivial⟩ aau (IsOld.all (bx:=[]) trivial) (DisOld.all (bx:=[]) trivial) ?_ ?_
 ·exact ⟨.norm 5 rfl rfl rfl (fun a_ w_ hn_ hBt hr hR hD hO hS=>aae rfl),
   trivial⟩
 intro a3 w3 gs3 hn3 hd3 hBt hr hR hP hX hU
 replace hn:=hn3;replace hd:=hd3.trans hd
 replace f0:=(hR 0 rfl).trans f0
 replace f1:=(hR 1 rfl).trans f1
 replace f4:=(hR 4 rfl).trans f4
 have e5:a3.eval (.tmp 5)=(.int .i64 0):=hP 0 (by decide)
 have f5:=e5
 replace HB:=HB.trans (hBt.below HB.size (UpOld.all (bx:=[]) trivial))
 clear hBt hr hR hP hX hU
 refine wp_block ?_
 refine wp_loop_ghost (fun n a w'=>a.tmps.size=27∧a.defers = []∧a.eval (.tmp 0)=.slice ax mx cx∧a.eval (.tmp 1)=.slice ay my cy∧Below w.heap.size w w'∧∃ k:Nat,k+n=xs.length∧a.eval (.tmp 5)=.int .i64 (k:Int)) xs.length ⟨hn,hd,f0,f1,HB,0,by omega,f5⟩ ?_
 clear hn hd HB f0 f1 f4 f5
 rintro nL aL wL ⟨hn,hd,f0,f1,HB,kL,hk,f5⟩
 refine wp_seq ?_
 refine wp_seq ?_
 refine aao [some 11,some 12,some 13,some 14] [Eqs (.int .i64 (kL:Int)),Eqs (.slice ax mx cx),Eqs (.int .i64 (mx:Int)),Eqs (.bool (decide ((kL:Int)<(mx:Int))))] [] [] (by kernel_rfl) hn rfl (by kernel_rfl) (by kernel_rfl) (by kernel_rfl) (by kernel_rfl) (by kernel_rfl) (by kernel_rfl) ⟨Eqs.mono4 _,Eqs.mono4 _,Eqs.mono4 _,Eqs.mono4 _,trivial⟩ aau (IsOld.all (bx:=[]) trivial) (DisOld.all (bx:=[]) trivial) ?_ ?_
 ·exact ⟨.norm 11 rfl rfl rfl (fun a_ w_ hn_ hBt hr hR hD hO hS=>aa7 ((hR 5 rfl).trans f5)),
   .norm 12 rfl rfl rfl (fun a_ w_ hn_ hBt hr hR hD hO hS=>aa7 ((hR 0 rfl).trans f0)),
   .norm 13 rfl rfl rfl (fun a_ w_ hn_ hBt hr hR hD hO hS=>aiq (show a_.eval (.tmp 12)=.slice ax mx cx from hD 1 rfl)),
   .norm 14 rfl rfl rfl (fun a_ w_ hn_ hBt hr hR hD hO hS=>avp (show a_.eval (.tmp 11)=.int .i64 (kL:Int) from hD 0 rfl) (show a_.eval (.tmp 13)=.int .i64 (mx:Int) from hD 2 rfl)),
   trivial⟩
 intro a4 w4 gs4 hn4 hd4 hBt hr hR hP hX hU
 replace hn:=hn4;replace hd:=hd4.trans hd
 replace f0:=(hR 0 rfl).trans f0
 replace f1:=(hR 1 rfl).trans f1
 replace f5:=(hR 5 rfl).trans f5
 have e14:a4.eval (.tmp 14)=.bool (decide ((kL:Int)<(mx:Int))):=hP 3 (by decide)
 have f14:=e14
 replace HB:=HB.trans (hBt.below HB.size (UpOld.all (bx:=[]) trivial))
 clear hBt hr hR hP hX hU
 refine wp_cond_split f14 (fun hc14=>?_) (fun hc14=>?_)
 ·skip
  have hlt:=of_decide_eq_true hc14
  obtain ⟨bx_,ox_,hax,_,_⟩:=Rx0.cells (by omega)
  obtain ⟨ex,hex⟩:∃ e,xs[kL]? = some e:=⟨_,List.getElem?_eq_getElem (by omega)⟩
  have Ax0:=Rx0.ag (List.mem_of_getElem? hex)
  have Ax:=Ax0.below HB
  have lx:=Ax.sl.parts.1
  obtain ⟨by_,oy_,hay,_,_⟩:=Ry0.cells (by omega)
  obtain ⟨ey,hey⟩:∃ e,ys[kL]? = some e:=⟨_,List.getElem?_eq_getElem (by omega)⟩
  have Ay0:=Ry0.ag (List.mem_of_getElem? hey)
  have Ay:=Ay0.below HB
  have ly:=Ay.sl.parts.1
  have hsm:=hS.at hex hey
  refine wp_skip ?_
  refine wp_seq ?_
  refine wp_block ?_
  refine wp_seq ?_
  refine aao [some 17,some 18,some 19,some 20,some 21,some 22,some 23,some 24,some 25,some 26] [Eqs (.slice ax mx cx),Eqs (.int .i64 (kL:Int)),Eqs (.pointer (some ⟨bx_,ox_+kL*2,none⟩)),Eqs (.agg #[.bool ex.ng,.slice ex.a ex.m ex.c]),Eqs (.slice ay my cy),Eqs (.int .i64 (kL:Int)),Eqs (.pointer (some ⟨by_,oy_+kL*2,none⟩)),Eqs (.agg #[.bool ey.ng,.slice ey.a ey.m ey.c]),Eqs (.bool true),Eqs (.bool false)] [] [] (by kernel_rfl) hn rfl (by kernel_rfl) (by kernel_rfl) (by kernel_rfl) (by kernel_rfl) (by kernel_rfl) (by kernel_rfl) ⟨Eqs.mono4 _,Eqs.mono4 _,Eqs.mono4 _,Eqs.mono4 _,Eqs.mono4 _,Eqs.mono4 _,Eqs.mono4 _,Eqs.mono4 _,Eqs.mono4 _,Eqs.mono4 _,trivial⟩ aau (IsOld.all (bx:=[]) trivial) (DisOld.all (bx:=[]) trivial) ?_ ?_
  ·exact ⟨.norm 17 rfl rfl rfl (fun a_ w_ hn_ hBt hr hR hD hO hS=>aa7 ((hR 0 rfl).trans f0)),
    .norm 18 rfl rfl rfl (fun a_ w_ hn_ hBt hr hR hD hO hS=>aa7 ((hR 5 rfl).trans f5)),
    .norm 19 rfl rfl rfl (fun a_ w_ hn_ hBt hr hR hD hO hS=>amu (show a_.eval (.tmp 17)=.slice ax mx cx from hD 0 rfl) hax (show a_.eval (.tmp 18)=.int .i64 (kL:Int) from hD 1 rfl) (by omega)),
    .norm 20 rfl rfl rfl (fun a_ w_ hn_ hBt hr hR hD hO hS=>aqo (show a_.eval (.tmp 19)=.pointer (some ⟨bx_,ox_+kL*2,none⟩) from hD 2 rfl) hax (Rx0.below (HB.trans (hBt.below HB.size (UpOld.all (bx:=[]) trivial)))) hex),
    .norm 21 rfl rfl rfl (fun a_ w_ hn_ hBt hr hR hD hO hS=>aa7 ((hR 1 rfl).trans f1)),
    .norm 22 rfl rfl rfl (fun a_ w_ hn_ hBt hr hR hD hO hS=>aa7 ((hR 5 rfl).trans f5)),
    .norm 23 rfl rfl rfl (fun a_ w_ hn_ hBt hr hR hD hO hS=>amu (show a_.eval (.tmp 21)=.slice ay my cy from hD 4 rfl) hay (show a_.eval (.tmp 22)=.int .i64 (kL:Int) from hD 5 rfl) (by omega)),
    .norm 24 rfl rfl rfl (fun a_ w_ hn_ hBt hr hR hD hO hS=>aqo (show a_.eval (.tmp 23)=.pointer (some ⟨by_,oy_+kL*2,none⟩) from hD 6 rfl) hay (Ry0.below (HB.trans (hBt.below HB.size (UpOld.all (bx:=[]) trivial)))) hey),
    .norm 25 rfl rfl rfl (fun a_ w_ hn_ hBt hr hR hD hO hS=>aog (show a_.eval (.tmp 20)=.agg #[.bool ex.ng,.slice ex.a ex.m ex.c] from hD 3 rfl) (show a_.eval (.tmp 24)=.agg #[.bool ey.ng,.slice ey.a ey.m ey.c] from hD 7 rfl) (Ax.rl hr).sl (Ay.rl hr).sl hsm.1 hsm.2),
    .norm 26 rfl rfl rfl (fun a_ w_ hn_ hBt hr hR hD hO hS=>awz (show a_.eval (.tmp 25)=.bool true from hD 8 rfl)),
    trivial⟩
  intro a5 w5 gs5 hn5 hd5 hBt hr hR hP hX hU
  replace hn:=hn5;replace hd:=hd5.trans hd
  replace f0:=(hR 0 rfl).trans f0
  replace f1:=(hR 1 rfl).trans f1
  replace f5:=(hR 5 rfl).trans f5
  have e26:a5.eval (.tmp 26)=.bool false:=hP 9 (by decide)
  have f26:=e26
  replace Ax:=Ax.rl hr
  replace Ay:=Ay.rl hr
  replace HB:=HB.trans (hBt.below HB.size (UpOld.all (bx:=[]) trivial))
  clear hBt hr hR hP hX hU
  refine wp_cond_false f26 ?_
  refine wp_skip ?_
  refine afw ?_
  refine aao [some 15,some 16,some 5] [Eqs (.int .i64 (kL:Int)),Eqs (.int .i64 ((kL+1:Nat):Int)),Eqs (.int .i64 ((kL+1:Nat):Int))] [] [(2,0)] (by kernel_rfl) hn rfl (by kernel_rfl) (by kernel_rfl) (by kernel_rfl) (by kernel_rfl) (by kernel_rfl) (by kernel_rfl) ⟨Eqs.mono4 _,Eqs.mono4 _,Eqs.mono4 _,trivial⟩ aau (IsOld.all (bx:=[]) trivial) (DisOld.all (bx:=[]) trivial) ?_ ?_
  ·exact ⟨.norm 15 rfl rfl rfl (fun a_ w_ hn_ hBt hr hR hD hO hS=>aa7 ((hS 2 5 rfl rfl).trans f5)),
    .norm 16 rfl rfl rfl (fun a_ w_ hn_ hBt hr hR hD hO hS=>avo (show a_.eval (.tmp 15)=.int .i64 (kL:Int) from hD 0 rfl) (by omega)),
    .norm 5 rfl rfl rfl (fun a_ w_ hn_ hBt hr hR hD hO hS=>aae (show a_.eval (.tmp 16)=.int .i64 ((kL+1:Nat):Int) from hD 1 rfl)),
    trivial⟩
  intro a6 w6 gs6 hn6 hd6 hBt hr hR hP hX hU
  replace hn:=hn6;replace hd:=hd6.trans hd
  replace f0:=(hR 0 rfl).trans f0
  replace f1:=(hR 1 rfl).trans f1
  have e5:a6.eval (.tmp 5)=.int .i64 ((kL+1:Nat):Int):=hP 2 (by decide)
  have f5:=e5
  replace Ax:=Ax.rl hr
  replace Ay:=Ay.rl hr
  replace HB:=HB.trans (hBt.below HB.size (UpOld.all (bx:=[]) trivial))
  clear hBt hr hR hP hX hU
  exact ⟨nL - 1,by omega,hn,hd,f0,f1,HB,kL+1,by omega,f5⟩
 ·skip
  have hlt:=of_decide_eq_false hc14
  refine wp_exit ?_
  repeat (first | refine ap3 ?_ | refine anm ?_ | refine ano (by decide) ?_)
  refine ann ?_
  refine wp_seq ?_
  refine aao [some 4] [Eqs ((.bool true))] [] [] (by kernel_rfl) hn rfl (by kernel_rfl) (by kernel_rfl) (by kernel_rfl) (by kernel_rfl) (by kernel_rfl) (by kernel_rfl) ⟨Eqs.mono4 _,trivial⟩ aau (IsOld.all (bx:=[]) trivial) (DisOld.all (bx:=[]) trivial) ?_ ?_
  ·exact ⟨.norm 4 rfl rfl rfl (fun a_ w_ hn_ hBt hr hR hD hO hS=>aae rfl),
    trivial⟩
  intro a7 w7 gs7 hn7 hd7 hBt hr hR hP hX hU
  replace hn:=hn7;replace hd:=hd7.trans hd
  have e4:a7.eval (.tmp 4)=(.bool true):=hP 0 (by decide)
  have f4:=e4
  replace HB:=HB.trans (hBt.below HB.size (UpOld.all (bx:=[]) trivial))
  clear hBt hr hR hP hX hU
  refine wp_ret ?_
  repeat (first | refine acr ?_ | refine abv ?_ | refine ab9 ?_)
  exact bodyPost_ret (v:=.bool true) (adx rfl f4) hd ⟨rfl,HB⟩
theorem Ow.grown {B:Nat} {w w' : World} {v:Value} {zs:List Int} {row:Option Nat} {cur:Nat→Array Value} (h:Ow B w v zs) (hg:w.grownBy w' row) (hr:∀ k,row=some k→w.heap[k]? = some (.cells (cur k) 38 (0,0))):Ow B w' v zs:=by
 obtain ⟨ao,cap,rfl,h1,h2,h3,h4⟩:=h
 refine ⟨ao,cap,rfl,h1,h2,h3,?_⟩
 rcases h4 with h4 | ⟨g,off,c,rfl,hB,hh,h5,h6⟩
 ·exact .inl h4
 ·refine .inr ⟨g,off,c,rfl,hB,(hg.block g (aaa hh) (fun e=>?_)).trans hh,h5,h6⟩
  have:=hr g e.symm
  rw [hh] at this
  injection this with this
  injection this with _ this
  exact absurd this (by decide)
structure RwO (B:Nat) (w:World) (v:Value) (es:List WE):Prop where
 own:w.ownsRow B 38 2 v es.length (flat es)
 ow:∀ e ∈ es,Ow B w (.slice e.a e.m e.c) e.zs
theorem RwO.below {B:Nat} {w w' : World} {v:Value} {es:List WE} (h:RwO B w v es) (hb:Below w.heap.size w w'):RwO B w' v es :=
 ⟨h.own.kept (row:=none) ⟨hb.os,hb.tape,hb.output,hb.size,fun k hk _=>hb.block k hk⟩ (by cases hv:v.ownBlock <;> simp),fun e he=>(h.ow e he).below hb⟩
theorem RwO.rw {B:Nat} {w:World} {v:Value} {es:List WE} (h:RwO B w v es):Rw w v es:=⟨Cl.own h.own,fun e he=>(h.ow e he).sl⟩
theorem avx (B:Nat) (w:World):RwO B w (.slice none 0 0) []:=⟨World.ownsRow_nil w B _ 2,fun e he=>by cases he⟩
def One (w:World) (g:Nat) (ng:Bool) (ao:Option Addr) (n c:Nat):Prop:=w.heap[g]? = some (.cells #[.bool ng,.slice ao n c] 38 (0,0))
section
variable {dst:Option Tmp} {ty:TypeId} {pos:String} {after:Array Edge} {guard:Option (Nat × Bool)} {a:Act} {w:World} {ats:Array TypeId} {i j:Nat}
theorem infoW:(Tryz.prog.info? 38).map (fun i=>(i.zero,i.size,i.bytes))=some (some (.agg #[.bool false,.slice none 0 0]),2,32):=by kernel_rfl
theorem avy {B g:Nat} {v:Value} {es:List WE} {ng:Bool} {ao:Option Addr} {n c:Nat} {zs:List Int} (h1:a.eval (.tmp i)=v) (h2:a.eval (.tmp j)=.slice (some ⟨g,0,none⟩) 1 1) (R:RwO B w v es) (O:One w g ng ao n c) (S:Ow B w (.slice ao n c) zs) (hn:es.length≤1000000) (hB:B≤w.heap.size) :
  Does Tryz.prog { dst,op:=.call { callee:=.builtin .append,args:=#[.tmp i,.tmp j],argTypes:=#[22,22] },type:=ty,pos,after,guard } a.eval w fun v' w'=>RwO B w' v' (es ++ [⟨ng,ao,n,c,zs⟩])∧Below B w w' := by
 obtain ⟨i0,hi,hz0,hz1,hz2⟩:=info_parts infoW
 have hfl:flat (es ++ [⟨ng,ao,n,c,zs⟩])=flat es ++ [.bool ng,.slice ao n c]:=by rw [alu];rfl
 obtain ⟨v',w',hr,ho,hgr,_⟩:=run_append_own (P:=Tryz.prog) w B 22 ty 38 i0 _ 2 32 Tryz.underlying22 hi hz0 hz1 hz2 rfl (by decide) v es.length (flat es) R.own ⟨g,0,none⟩ 1 1 [.bool ng,.slice ao n c] rfl (fun k u hu=>by
  have hc:∀ k,w.cell? ⟨g,k,none⟩ = #[Value.bool ng,.slice ao n c][k]? := fun k=>cell_of_row w g k _ _ (0,0) O
  have ha:(⟨g,0,none⟩:Addr).add k=⟨g,k,none⟩:=by unfold Addr.add;split <;> simp_all
  rw [ha,hc]
  simpa using hu) (by simp [Value.oneCell']) (by simp [maxLen];omega) (by omega) hB
 have e:(execOp a.eval { dst,op:=.call { callee:=.builtin .append,args:=#[.tmp i,.tmp j],argTypes:=#[22,22] },type:=ty,pos,after,guard }).run Tryz.prog w=.ok (.value v') w' := by
  simp only [execOp,resolve,invoke,builtin,Sem.run_bind,Sem.run_pure,Result.andThen_ok,List.map_toArray,List.map_cons,List.map_nil,h1,h2,hr]
 refine ⟨?_⟩
 unfold Turns
 rw [e]
 have hrow:∃ cur:Nat→Array Value,∀ k,v.ownBlock=some k→w.heap[k]? = some (.cells (cur k) 38 (0,0)):=by
  rcases R.own.2 with ⟨rfl,_⟩ | ⟨g',cap,cur,rfl,_,hh,_⟩
  ·exact ⟨fun _=>#[],fun k hk=>by simp [Value.ownBlock] at hk⟩
  ·refine ⟨fun _=>cur,fun k hk=>?_⟩
   simp only [Value.ownBlock,Option.some.injEq] at hk
   subst hk
   exact hh
 obtain ⟨cur,hcur⟩:=hrow
 refine ⟨⟨by rw [hfl,List.length_append];exact ho,fun e he=>?_⟩,⟨hgr.os,hgr.tape,hgr.output,hgr.size,fun k hk=>hgr.block k (by omega) (fun e=>?_)⟩⟩
 ·rcases List.mem_append.1 he with he | he
  ·exact (R.ow e he).grown hgr hcur
  ·obtain rfl:=List.mem_singleton.1 he
   exact S.grown hgr hcur
 ·have:=R.own.lt k e.symm
  omega
end
end Lm
end Go.Proofs.YtdjgifcmhafppaaGreatDoor
namespace Go.Proofs.YtdjgifcmhafppaaGreatDoor
namespace Lm
open Go Go.RowKit
open Dm (WFr)
theorem akz (n:Nat):(madeCells #[.bool false,.slice none 0 0] (n*2)).toList=flat (List.replicate n ⟨false,none,0,0,[]⟩):=by
 apply List.ext_getElem?
 intro i
 rw [Array.getElem?_toList]
 by_cases hi:i<n*2
 ·have hk:i / 2<n:=by omega
  have h1:(List.replicate n (⟨false,none,0,0,[]⟩:WE))[i / 2]? = some ⟨false,none,0,0,[]⟩:=by rw [List.getElem?_replicate,if_pos hk]
  obtain ⟨f1,f2⟩:=adk h1
  have e0:(madeCells #[.bool false,.slice none 0 0] (n*2))[i]? = some ((#[.bool false,.slice none 0 0]:Array Value)[i % 2]!):=by
   simp [madeCells,hi]
  rw [e0]
  rcases Nat.mod_two_eq_zero_or_one i with h | h
  ·rw [h,←show i / 2*2=i from by omega,f1];rfl
  ·rw [h,←show i / 2*2+1=i from by omega,f2];rfl
 ·rw [Array.getElem?_eq_none (by rw [size_madeCells];omega),List.getElem?_eq_none (by rw [acy];simp;omega)]
theorem ad1 {w:World} {B g n size:Nat} {T:TypeId} {xs:List Value} (h:w.ownsRow B T size (.slice (some ⟨g,0,none⟩) n n) n xs):B≤g∧w.heap[g]? = some (.cells xs.toArray T (0,0)):=by
 obtain ⟨hl,⟨h',_⟩ | ⟨g',cap',cur,h',hb,hg,_,_,hs,htake⟩⟩:=h
 ·simp at h'
 ·simp only [Value.slice.injEq,Option.some.injEq,Addr.mk.injEq,and_true,true_and] at h'
  obtain ⟨rfl,rfl⟩:=h'
  refine ⟨hb,?_⟩
  rw [hg,←htake,List.take_of_length_le (by simp;omega)]
def IsRow (w:World) (v:Value) (zs:List Int) (L:Nat):Prop:=∃ es:List WE,Rw w v es∧es.map WE.z=zs∧∀ e ∈ es,e.zs.length≤L
theorem IsRow.below {w w' : World} {v:Value} {zs:List Int} {L:Nat} (h:IsRow w v zs L) (hb:Below w.heap.size w w'):IsRow w' v zs L:=by
 obtain ⟨es,h1,h2,h3⟩:=h
 exact ⟨es,h1.below hb,h2,h3⟩
theorem IsRow.parts {w:World} {v:Value} {zs:List Int} {L:Nat} (h:IsRow w v zs L):∃ ao cap,v=.slice ao zs.length cap∧zs.length≤9223372036854775807:=by
 obtain ⟨es,h1,h2,h3⟩:=h
 obtain ⟨ao,cap,rfl,c1,c2,_⟩:=h1.cl
 have:zs.length=es.length:=by rw [←h2];simp
 exact ⟨ao,cap,by rw [this],by omega⟩
theorem IsRow.cell {w:World} {ao:Option Addr} {n cap:Nat} {zs:List Int} {L k:Nat} {z:Int} (h:IsRow w (.slice ao n cap) zs L) (hz:zs[k]? = some z):∃ b off ng a m c,ao=some ⟨b,off,none⟩∧b<w.heap.size∧w.cell? ⟨b,off+k*2,none⟩ = some (.bool ng)∧w.cell? ⟨b,off+k*2+1,none⟩ = some (.slice a m c)∧IsW z L (.agg #[.bool ng,.slice a m c]) w:=by
 obtain ⟨es,h1,rfl,h3⟩:=h
 rw [List.getElem?_map] at hz
 obtain ⟨e,he,rfl⟩:=Option.map_eq_some_iff.1 hz
 have hk:k<es.length:=(List.getElem?_eq_some_iff.1 he).1
 obtain ⟨b,off,rfl,hb,hc⟩:=h1.cells (by omega)
 obtain ⟨f1,f2⟩:=adk he
 have hm:=List.mem_of_getElem? he
 exact ⟨b,off,e.ng,e.a,e.m,e.c,rfl,hb,hc _ _ f1,hc _ _ f2,⟨_,_,_,_,_,rfl,h1.ag hm,h3 e hm⟩⟩
def PRow (K:Nat) (w:World) (bv n i:Nat) (zs:List Int) (L:Nat):Prop :=
 ∃ (es:List WE) (B T:Nat→Nat),es.length=n∧w.heap[bv]? = some (.cells (flat es).toArray 38 (0,0))∧(∀ (k:Nat) (e:WE),i≤k→es[k]? = some e→e=⟨false,none,0,0,[]⟩)∧(∀ (k:Nat) (e:WE) (z:Int),k<i→es[k]? = some e→zs[k]? = some z→WFr (B k) (T k) w e.ng e.a e.c e.zs z∧e.m=e.zs.length∧e.zs.length≤L∧K≤B k∧T k≤w.heap.size)∧(∀ k k' : Nat,k<k'→k'<i→T k≤B k')
theorem PRow.start {K:Nat} {w:World} {bv n:Nat} {zs:List Int} {L:Nat} (h:w.heap[bv]? = some (.cells (flat (List.replicate n ⟨false,none,0,0,[]⟩)).toArray 38 (0,0))):PRow K w bv n 0 zs L:=by
 refine ⟨_,fun _=>0,fun _=>0,List.length_replicate,h,fun k e _ he=>?_,fun k e z hk=>by omega,fun k k' _ hk=>by omega⟩
 rw [List.getElem?_replicate] at he
 split at he
 ·exact (Option.some.inj he).symm
 ·cases he
theorem PRow.ru {K:Nat} {w w' : World} {bv n i:Nat} {zs:List Int} {L:Nat} (h:PRow K w bv n i zs L) (hr:Ru w w') (hb:w'.heap[bv]? = w.heap[bv]?):PRow K w' bv n i zs L:=by
 obtain ⟨es,B,T,h1,h2,h3,h4,h5⟩:=h
 refine ⟨es,B,T,h1,hb.trans h2,h3,fun k e z hk he hz=>?_,h5⟩
 obtain ⟨g1,g2,g3,g4,g5⟩:=h4 k e z hk he hz
 exact ⟨g1.ru hr,g2,g3,g4,Nat.le_trans g5 hr.size⟩
theorem PRow.lt {K:Nat} {w:World} {bv n i:Nat} {zs:List Int} {L:Nat} (h:PRow K w bv n i zs L):bv<w.heap.size:=by
 obtain ⟨es,B,T,h1,h2,_⟩:=h
 exact aaa h2
theorem PRow.below {K:Nat} {w w' : World} {bv n i:Nat} {zs:List Int} {L:Nat} (h:PRow K w bv n i zs L) (hb:Below w.heap.size w w'):PRow K w' bv n i zs L:=h.ru (Ru.of_below hb) (hb.block bv h.lt)
theorem atk (es:List WE) (i:Nat) (x:WE) (h:i<es.length):flat (es.set i x)=((flat es).set (i*2) (.bool x.ng)).set (i*2+1) (.slice x.a x.m x.c):=by
 induction es generalizing i with
 | nil=>simp at h
 | cons u es ih =>
  cases i with
  | zero=>simp [flat]
  | succ i =>
   have:=ih i (by simpa using h)
   simp only [List.set_cons_succ,flat,show (i+1)*2=i*2+2 from by omega,this]
theorem avz (es:List WE) (i:Nat) (z:Int):(flat es).toArray[i]?≠some (.int .u32 z):=by
 rw [List.getElem?_toArray]
 induction es generalizing i with
 | nil=>simp [flat]
 | cons u es ih =>
  match i with
  | 0=>simp [flat]
  | 1=>simp [flat]
  | i+2=>simpa [flat] using ih i
theorem PRow.cells {K:Nat} {w:World} {bv n i:Nat} {zs:List Int} {L:Nat} (h:PRow K w bv n i zs L) {k:Nat} (hk:k<n):(∃ ng a m c,w.cell? ⟨bv,k*2,none⟩ = some (.bool ng)∧w.cell? ⟨bv,k*2+1,none⟩ = some (.slice a m c))∧w.frozen? ⟨bv,k*2,none⟩ = false∧w.frozen? ⟨bv,k*2+1,none⟩ = false:=by
 obtain ⟨es,B,T,h1,h2,_⟩:=h
 obtain ⟨e,he⟩:∃ e,es[k]? = some e:=⟨_,List.getElem?_eq_getElem (by omega)⟩
 obtain ⟨f1,f2⟩:=adk he
 exact ⟨⟨e.ng,e.a,e.m,e.c,by rw [cell_of_row _ _ _ _ _ (0,0) h2,List.getElem?_toArray];exact f1,by rw [cell_of_row _ _ _ _ _ (0,0) h2,List.getElem?_toArray];exact f2⟩,frozen_of_row _ _ _ _ _ h2,frozen_of_row _ _ _ _ _ h2⟩
theorem PRow.put {K S:Nat} {w1 w2:World} {bv n i:Nat} {zs:List Int} {L:Nat} {z:Int} {ng:Bool} {a:Option Addr} {m c:Nat} (h:PRow K w1 bv n i zs L) (hS:w1.heap.size≤S) (hb:Below w1.heap.size w1 w2) (hi:i<n) (hz:zs[i]? = some z) (hK:K≤S) (hv:FrW S z L (.agg #[.bool ng,.slice a m c]) w2) :
  PRow K ((w2.setCell ⟨bv,i*2,none⟩ (.bool ng)).setCell ⟨bv,i*2+1,none⟩ (.slice a m c)) bv n (i+1) zs L∧Rc bv bv w1 ((w2.setCell ⟨bv,i*2,none⟩ (.bool ng)).setCell ⟨bv,i*2+1,none⟩ (.slice a m c)):=by
 have hlt:=h.lt
 obtain ⟨es,B,T,e1,e2,e3,e4,e5⟩:=h
 replace e2:=(hb.block bv hlt).trans e2
 obtain ⟨ng',ao',cap',rs,B',T',hv1,hv2,hv3,hv4,hv5⟩:=hv
 simp only [Value.agg.injEq,Array.mk.injEq,List.cons.injEq,Value.bool.injEq,Value.slice.injEq,and_true] at hv1
 obtain ⟨rfl,rfl,rfl,rfl⟩:=hv1
 generalize hW:((w2.setCell ⟨bv,i*2,none⟩ (.bool ng)).setCell ⟨bv,i*2+1,none⟩ (.slice a rs.length c))=W
 have hbW:W.heap[bv]? = some (.cells (flat (es.set i ⟨ng,a,rs.length,c,rs⟩)).toArray 38 (0,0)):=by
  rw [←hW,atk es i _ (by omega)]
  have s1:=heap_setCell_same w2 bv (i*2) _ _ (.bool ng) e2
  have s2:=heap_setCell_same _ bv (i*2+1) _ _ (.slice a rs.length c) s1
  rw [s2]
  simp
 have hot:∀ k,k≠bv→W.heap[k]? = w2.heap[k]? := fun k hn=>by rw [←hW,heap_setCell_other _ ⟨bv,i*2+1,none⟩ k _ hn,heap_setCell_other _ ⟨bv,i*2,none⟩ k _ hn]
 have hsz:w2.heap.size≤W.heap.size:=by rw [←hW];simp [World.setCell]
 have hru:Ru w2 W:=Ru.of_one e2 (by decide) (avz es) hsz (fun k _ hn=>hot k hn)
 have hrc:Rc bv bv w2 W:=⟨by rw [←hW];rfl,by rw [←hW];rfl,by rw [←hW];rfl,hsz,fun k _ hn _=>hot k hn,hru⟩
 refine ⟨⟨es.set i ⟨ng,a,rs.length,c,rs⟩,fun k=>if k=i then B' else B k,fun k=>if k=i then T' else T k,by simp [e1],hbW,?_,?_,?_⟩,(Rc.of_below hb).trans hrc⟩
 ·intro k e hk he
  rw [List.getElem?_set_ne (by omega)] at he
  exact e3 k e (by omega) he
 ·intro k e z' hk he hz'
  by_cases hki:k=i
  ·subst hki
   rw [List.getElem?_set_self (by omega)] at he
   obtain rfl:=Option.some.inj he
   rw [hz] at hz'
   obtain rfl:=Option.some.inj hz'
   simp only [if_true]
   exact ⟨hv2.ru hru,trivial,hv5,by omega,Nat.le_trans hv4 hsz⟩
  ·rw [List.getElem?_set_ne (fun h=>hki h.symm)] at he
   simp only [if_neg hki]
   obtain ⟨g1,g2,g3,g4,g5⟩:=e4 k e z' (by omega) he hz'
   exact ⟨(g1.ru (Ru.of_below hb)).ru hru,g2,g3,g4,Nat.le_trans g5 (Nat.le_trans hb.size hsz)⟩
 ·intro k k' hkk hk'
  by_cases hki:k' = i
  ·subst hki
   simp only [if_true,if_neg (show k≠k' by omega)]
   obtain ⟨e,he⟩:∃ e,es[k]? = some e:=⟨_,List.getElem?_eq_getElem (by omega)⟩
   obtain ⟨z',hz'⟩:∃ z',zs[k]? = some z' := ⟨_,List.getElem?_eq_getElem (by have:=(List.getElem?_eq_some_iff.1 hz).1;omega)⟩
   have:=(e4 k e z' hkk he hz').2.2.2.2
   omega
  ·simp only [if_neg hki,if_neg (show k≠i by omega)]
   exact e5 k k' hkk (by omega)
def ORow (K:Nat) (w:World) (v:Value) (zs:List Int) (L:Nat):Prop:=∃ bv,v=.slice (some ⟨bv,0,none⟩) zs.length zs.length∧K≤bv∧PRow K w bv zs.length zs.length zs L∧zs.length≤1000000
theorem PRow.full {K:Nat} {w:World} {bv:Nat} {zs:List Int} {L:Nat} (h:PRow K w bv zs.length zs.length zs L) (hl:zs.length≤1000000):IsRow w (.slice (some ⟨bv,0,none⟩) zs.length zs.length) zs L:=by
 obtain ⟨es,B,T,e1,e2,e3,e4,e5⟩:=h
 have hz:∀ (k:Nat) (e:WE),es[k]? = some e→∃ z,zs[k]? = some z∧WFr (B k) (T k) w e.ng e.a e.c e.zs z∧e.m=e.zs.length∧e.zs.length≤L:=by
  intro k e he
  have hk:=(List.getElem?_eq_some_iff.1 he).1
  obtain ⟨z,hz⟩:∃ z,zs[k]? = some z:=⟨_,List.getElem?_eq_getElem (by omega)⟩
  obtain ⟨g1,g2,g3,_⟩:=e4 k e z (by omega) he hz
  exact ⟨z,hz,g1,g2,g3⟩
 refine ⟨es,⟨⟨_,_,by rw [e1],by omega,by omega,acy es,?_⟩,?_⟩,?_,?_⟩
 ·refine .inr ⟨bv,0,rfl,aaa e2,fun j u hu=>?_⟩
  rw [Nat.zero_add,cell_of_row _ _ _ _ _ (0,0) e2,List.getElem?_toArray]
  exact hu
 ·intro e he
  obtain ⟨k,hk⟩:=List.mem_iff_getElem?.1 he
  obtain ⟨z,_,g1,g2,_⟩:=hz k e hk
  have:=g1.wh.sl
  rwa [←g2] at this
 ·apply List.ext_getElem?
  intro k
  rw [List.getElem?_map]
  cases hk:es[k]? with
  | none =>
   rw [List.getElem?_eq_none_iff] at hk
   rw [Option.map_none,eq_comm,List.getElem?_eq_none_iff]
   omega
  | some e =>
   obtain ⟨z,h1,g1,g2,_⟩:=hz k e hk
   rw [h1,Option.map_some]
   congr 1
   exact g1.wh.worth
 ·intro e he
  obtain ⟨k,hk⟩:=List.mem_iff_getElem?.1 he
  obtain ⟨z,_,_,_,g3⟩:=hz k e hk
  exact g3
theorem ORow.is {K:Nat} {w:World} {v:Value} {zs:List Int} {L:Nat} (h:ORow K w v zs L):IsRow w v zs L:=by
 obtain ⟨bv,rfl,_,h,hl⟩:=h
 exact h.full hl
set_option maxRecDepth 20000 in
set_option maxHeartbeats 2000000 in
theorem aeq (w:World) (x y:Int) (vx vy:Value) (L M:Nat) (hx:IsW x L vx w) (hy:IsW y M vy w) (hL:L≤400000) (hM:M≤400000) :
  Calls Tryz.prog 57 #[vx,vy] w fun e w'=>∃ v,e=.returned v∧FrW w.heap.size (x / y) (L+4) v w'∧Below w.heap.size w w' := by
 obtain ⟨n1,a1,m1,c1,xs,rfl,_⟩:=id hx
 obtain ⟨n2,a2,m2,c2,ys,rfl,_⟩:=id hy
 have HX:=hide hx
 have HY:=hide hy
 have hb0:Below w.heap.size w (((w.alloc (.cells #[.bool n1,.slice a1 m1 c1] 38)).alloc (.cells #[.bool n2,.slice a2 m2 c2] 38)).alloc (.cells #[.bool false,.slice none 0 0] 38)):=by (repeat' first|with_reducible(first|exact Below.refl _ _|assumption|refine gdrewN ?_ _|refine Below.alloc ?_ ?_ _|refine Below.drew ?_|refine Below.setCell ?_ ?_ _)|go_size)
 clear hx hy
 go_enter Tryz.func57,Tryz.ntmps57
 go_wp2_with fail
 refine (divF _ x y _ _ L M (HX.out.ru (Ru.of_below hb0)) (HY.out.ru (Ru.of_below hb0)) hL hM).mono ?_
 rintro e w1 ⟨v1,v2,b,rfl,h1,h2,_,hb1⟩
 have HB:=hide (hb0.trans (hb1.mono hb0.size))
 have hf:w1.heap[w.heap.size+1+1]? = some (.cells #[.bool false,.slice none 0 0] 38 (0,0)):=by
  refine (hb1.block _ (by simp)).trans ?_
  have:=heap_alloc_new ((w.alloc (.cells #[.bool n1,.slice a1 m1 c1] 38)).alloc (.cells #[.bool n2,.slice a2 m2 c2] 38)) (.cells #[.bool false,.slice none 0 0] 38)
  simpa using this
 have H1:=hide (h1.low hb0.size)
 obtain ⟨ng1,ao1,k1,cap1,rfl⟩:=h1.agg
 obtain ⟨ng2,ao2,cap2,rs2,rfl,_⟩:=h2
 have HF:=hide hf
 generalize hfz:w.heap.size+1+1=f at *
 obtain ⟨hfl,c0,c1',fr0,fr1⟩:=aah hf
 clear h1 hb1 hb0 hf
 go_wp2
 refine bodyPost_ret (v:=.agg #[.bool ng1,.slice ao1 k1 cap1]) (acv (g:=f) rfl rfl (lvw2 (aav (aav (ab6 HF.out _ _))))) rfl ⟨_,rfl,H1.out.ru ((aci HF.out _ _).trans ((Ru.of_below (hAl _ _)).trans (Ru.of_below (hAl _ _)))),?_⟩
 have HBx:=HB.out
 have hfw:w.heap.size≤f:=by omega
 (repeat' first|with_reducible(first|exact Below.refl _ _|assumption|refine gdrewN ?_ _|refine Below.alloc ?_ ?_ _|refine Below.drew ?_|refine Below.setCell ?_ ?_ _)|go_size)
end Lm
end Go.Proofs.YtdjgifcmhafppaaGreatDoor
namespace Go.Proofs.YtdjgifcmhafppaaGreatDoor
namespace Lm
open Go Go.RowKit
theorem afi {α β:Type} (f:β→α→β) (a:β) {l:List α} {k:Nat} {x:α} (h:l[k]? = some x):(l.take (k+1)).foldl f a=f ((l.take k).foldl f a) x:=by
 rw [List.take_add_one,h,List.foldl_append]
 rfl
def gcdL (zs:List Int):Int:=zs.foldl (fun c z=>((Int.gcd c z:Nat):Int)) 0
def sgnL (zs:List Int):Int:=zs.foldl (fun s z=>if s=0 then Int.sign z else s) 0
def dvs (zs:List Int):Int:=if sgnL zs<0 then -(gcdL zs) else gcdL zs
def red (zs:List Int):List Int:=zs.map (· / dvs zs)
theorem aeb {z:Int} {L:Nat} {v:Value} {w:World} (h:IsW z L v w):(z.natAbs:Int)<pw L:=by
 obtain ⟨ng,ao,n,cap,xs,_,hA,hl⟩:=h
 obtain ⟨_,_,_,_,_,hb,_⟩:=hA.sl
 have h1:=aab hb
 have h3:=aa8 hl
 have h4:=hA.worth
 rw [←h4]
 cases ng
 ·simp only [sg]
  rw [if_neg (by decide)]
  omega
 ·simp only [sg]
  rw [if_pos trivial]
  omega
theorem axm {a b N:Int} (ha:(a.natAbs:Int)<N) (hb:(b.natAbs:Int)<N):(((Int.gcd a b:Nat):Int).natAbs:Int)<N:=by
 rw [Int.natAbs_natCast]
 by_cases h:a=0
 ·subst h
  rw [Int.gcd_zero_left]
  exact hb
 ·have:=Nat.gcd_le_left b.natAbs (show 0<a.natAbs by omega)
  unfold Int.gcd
  omega
set_option maxRecDepth 20000 in
set_option maxHeartbeats 4000000 in
theorem al0 (w:World) (v:Value) (zs:List Int) (L:Nat) (h:IsRow w v zs L) (hL:L≤100000) :
  Calls Tryz.prog 33 #[v] w fun e w'=>∃ r,e=.returned r∧OutW (dvs zs) L r w'∧Below w.heap.size w w' := by
 obtain ⟨ao,cap,rfl,hn⟩:=h.parts
 have H:=hide h
 clear h
 obtain ⟨n,hnn⟩:∃ n,zs.length=n:=⟨_,rfl⟩
 rw [hnn] at H hn ⊢
 have HN:=hide hnn
 clear hnn
 have hb0:Below w.heap.size w ((w.alloc (.cells #[.bool false,.slice none 0 0] 38)).alloc (.cells #[.bool false,.slice none 0 0] 38)):=by (repeat' first|with_reducible(first|exact Below.refl _ _|assumption|refine gdrewN ?_ _|refine Below.alloc ?_ ?_ _|refine Below.drew ?_|refine Below.setCell ?_ ?_ _)|go_size)
 have hf2:((w.alloc (.cells #[.bool false,.slice none 0 0] 38)).alloc (.cells #[.bool false,.slice none 0 0] 38)).heap[w.heap.size]? = some (.cells #[.bool false,.slice none 0 0] 38 (0,0)):=aav (heap_alloc_new w _)
 have hf3:((w.alloc (.cells #[.bool false,.slice none 0 0] 38)).alloc (.cells #[.bool false,.slice none 0 0] 38)).heap[w.heap.size+1]? = some (.cells #[.bool false,.slice none 0 0] 38 (0,0)):=by
  have:=heap_alloc_new (w.alloc (.cells #[.bool false,.slice none 0 0] 38)) (.cells #[.bool false,.slice none 0 0] 38)
  simpa using this
 have HB0:=hide (And.intro hb0 (And.intro hf2 hf3))
 clear hb0 hf2 hf3
 go_enter Tryz.func33,Tryz.ntmps33
 go_wp2
 go_loopw [4,9] (fun sv iv wr=>∃ (k:Nat),iv=.int .i64 k∧k≤n∧sv=.int .i64 (sgnL (zs.take k))∧Below w.heap.size w wr∧wr.heap[w.heap.size]? = some (.cells #[.bool false,.slice none 0 0] 38 (0,0))∧∃ ng a m c,wr.heap[w.heap.size+1]? = some (.cells #[.bool ng,.slice a m c] 38 (0,0))∧OutW (gcdL (zs.take k)) L (.agg #[.bool ng,.slice a m c]) wr) (fun _ iv _=>n - (intOf iv).toNat)
 case atStart =>
  refine ⟨0,rfl,Nat.zero_le _,rfl,HB0.out.1,HB0.out.2.1,false,none,0,0,HB0.out.2.2,?_⟩
  exact (ahd (K:=0) _ (Nat.zero_le _)).out
 case round =>
  obtain ⟨k,rfl,hk,rfl,hbw,hf2,ng,a,m,c,hf3,ho⟩:=hrel
  have HW:=hide hbw
  have HF2:=hide hf2
  have HF3:=hide hf3
  have HO:=hide ho
  by_cases hlt:k<n
  ·obtain ⟨z,hz⟩:∃ z,zs[k]? = some z:=⟨_,List.getElem?_eq_getElem (by have:=HN.out;omega)⟩
   obtain ⟨b,off,ngx,ax,mx,cx,rfl,hbl,x0,x1,hx⟩:=H.out.cell hz
   replace x0:=(hbw.cell (p:=⟨b,off+k*2,none⟩) hbl).trans x0
   replace x1:=(hbw.cell (p:=⟨b,off+k*2+1,none⟩) hbl).trans x1
   have HX:=hide (hx.ru (Ru.of_below hbw))
   have HZ:=hide hz
   have hlt' : (k:Int)<(n:Int):=by omega
   obtain ⟨h3l,y0,y1,yf0,yf1⟩:=aah hf3
   have hba:Below wr.heap.size wr (wr.alloc (.cells #[.bool ngx,.slice ax mx cx] 38)):=hAl _ _
   have hsz:=hbw.size
   clear hbw hf2 hf3 ho hx hz
   go_wp2_with fail
   refine (gcdF _ _ z _ _ L L (HO.out.is.ru (Ru.of_below hba)) (HX.out.ru (Ru.of_below hba)) (by omega) (by omega)).mono ?_
   rintro e w1 ⟨v1,rfl,h1,hb1⟩
   have HG:=hide (h1.out.fit (axm (aeb HO.out.is) (aeb HX.out)))
   have hb1' := hba.trans (hb1.mono hba.size)
   have hx1:w1.heap[wr.heap.size]? = some (.cells #[.bool ngx,.slice ax mx cx] 38 (0,0)):=(hb1.block _ (by simp)).trans (heap_alloc_new wr _)
   have hg3:=(hb1'.block _ (aaa HF3.out)).trans HF3.out
   have hg2:=(hb1'.block _ (aaa HF2.out)).trans HF2.out
   have HG3:=hide hg3
   have HG2:=hide hg2
   have HB1:=hide (HW.out.trans (hb1'.mono HW.out.size))
   have HX1:=hide (HX.out.ru (Ru.of_below hb1'))
   obtain ⟨ng1,ao1,k1,cap1,rfl⟩:=h1.agg
   obtain ⟨_,u0,u1,_,_⟩:=aah hx1
   obtain ⟨g3l,v0,v1,vf0,vf1⟩:=aah hg3
   generalize wr.heap.size=fx at *
   clear h1 hb1 hb1' hba hx1 hg3 hg2 x0 x1 y0 y1 yf0 yf1
   have HSK:Hid (sgnL (zs.take (k+1))=if sgnL (zs.take k)=0 then Int.sign z else sgnL (zs.take k)):=afi _ _ HZ.out
   have HGK:Hid (gcdL (zs.take (k+1))=((Int.gcd (gcdL (zs.take k)) z:Nat):Int)):=afi _ _ HZ.out
   generalize hsk:sgnL (zs.take k)=sk at *
   by_cases hs0:sk=0
   ·have HS0:=hide hs0
    subst hs0
    clear hsk
    have hxf:fx≠w.heap.size+1:=by omega
    go_wp2_with fail
    refine (signF _ z _ L (HX1.out.ru (aci HG3.out _ _)) (by omega)).mono ?_
    rintro e w2 ⟨rfl,hb2⟩
    have hbs:Below w.heap.size w ((w1.setCell ⟨w.heap.size+1,0,none⟩ (.bool ng1)).setCell ⟨w.heap.size+1,1,none⟩ (.slice ao1 k1 cap1)):=(HB1.out.setCell (Nat.le_succ _) _).setCell (Nat.le_succ _) _
    have hs2:((w1.setCell ⟨w.heap.size+1,0,none⟩ (.bool ng1)).setCell ⟨w.heap.size+1,1,none⟩ (.slice ao1 k1 cap1)).heap[w.heap.size]? = some (.cells #[.bool false,.slice none 0 0] 38 (0,0)):=by rw [heap_setCell_other _ ⟨w.heap.size+1,1,none⟩ _ _ (by show w.heap.size≠w.heap.size+1;omega),heap_setCell_other _ ⟨w.heap.size+1,0,none⟩ _ _ (by show w.heap.size≠w.heap.size+1;omega)];exact HG2.out
    have K1:=hide (hbs.trans (hb2.mono hbs.size))
    have K2:=hide ((hb2.block _ (aaa hs2)).trans hs2)
    have K3:=hide ((hb2.block _ (aaa (ab6 HG3.out (.bool ng1) (.slice ao1 k1 cap1)))).trans (ab6 HG3.out _ _))
    have K4:=hide ((HG.out.ru (aci HG3.out _ _)).ru (Ru.of_below hb2))
    clear hb2 hbs hs2
    go_wp2
    go_roundw
    case rel =>
     refine ⟨k+1,by go_num,by omega,by rw [HSK.out,if_pos trivial],K1.out,K2.out,_,_,_,_,K3.out,?_⟩
     rw [HGK.out]
     exact K4.out
    case measure=>simp [intOf];omega
   ·have HS0:=hide hs0
    have hs0' : (sk == 0)=false:=beq_eq_false_iff_ne.2 hs0
    clear hsk hs0
    go_wp2
    go_roundw
    case rel =>
     refine ⟨k+1,by go_num,by omega,by rw [HSK.out,if_neg HS0.out],(HB1.out.setCell (Nat.le_succ _) _).setCell (Nat.le_succ _) _,?_,_,_,_,_,ab6 HG3.out _ _,?_⟩
     ·rw [heap_setCell_other _ ⟨w.heap.size+1,1,none⟩ _ _ (by show w.heap.size≠w.heap.size+1;omega),heap_setCell_other _ ⟨w.heap.size+1,0,none⟩ _ _ (by show w.heap.size≠w.heap.size+1;omega)]
      exact HG2.out
     ·rw [HGK.out]
      exact HG.out.ru (aci HG3.out _ _)
    case measure=>simp [intOf];omega
  ·have hlt' : decide ((k:Int)<(n:Int))=false:=by simp;omega
   have hkn:zs.take k=zs:=List.take_of_length_le (by have:=HN.out;omega)
   rw [hkn] at HO ⊢
   obtain ⟨h3l,y0,y1,yf0,yf1⟩:=aah hf3
   obtain ⟨h2l,x0,x1,xf0,xf1⟩:=aah hf2
   clear hbw hf2 hf3 ho hkn
   by_cases hs:sgnL zs<0
   ·have HD:Hid (dvs zs = -(gcdL zs)):=if_pos hs
    generalize sgnL zs=sk at *
    go_wp2_with fail
    refine (negF _ _ _ L HO.out.is (by omega)).mono ?_
    rintro e w1 ⟨v1,rfl,h1,hb1⟩
    have hg2:=(hb1.block _ (aaa HF2.out)).trans HF2.out
    have HG2:=hide hg2
    obtain ⟨h2l',z0,z1,zf0,zf1⟩:=aah hg2
    have HB1:=hide (HW.out.trans (hb1.mono HW.out.size))
    obtain ⟨ng1,ao1,k1,cap1,rfl⟩:=h1.agg
    have H1:=hide h1.out
    clear h1 hb1 hg2 x0 x1 xf0 xf1 y0 y1 yf0 yf1
    go_wp2
    exact bodyPost_ret (v:=.agg #[.bool ng1,.slice ao1 k1 cap1]) (acv (g:=w.heap.size) rfl rfl (lvw2 (ab6 HG2.out _ _))) rfl ⟨_,rfl,by rw [HD.out];exact H1.out.ru (aci HG2.out _ _),(HB1.out.setCell (Nat.le_refl _) _).setCell (Nat.le_refl _) _⟩
   ·have HD:Hid (dvs zs=gcdL zs):=if_neg hs
    have hs' : decide (sgnL zs<0)=false:=decide_eq_false hs
    generalize sgnL zs=sk at *
    clear hs
    go_wp2
    exact bodyPost_ret (v:=.agg #[.bool ng,.slice a m c]) (acv (g:=w.heap.size) rfl rfl (lvw2 (ab6 HF2.out _ _))) rfl ⟨_,rfl,by rw [HD.out];exact HO.out.ru (aci HF2.out _ _),(HW.out.setCell (Nat.le_refl _) _).setCell (Nat.le_refl _) _⟩
theorem infoWz:(Tryz.prog.info? 38).map (fun i=>(i.zero,i.size,i.bytes))=some (some (.agg #[.bool false,.slice none 0 0]),2,32):=by kernel_rfl
theorem infoRz:(Tryz.prog.info? 40).map (fun i=>(i.zero,i.size,i.bytes))=some (some (.agg #[.bool false,.slice none 0 0,.slice none 0 0]),3,56):=by kernel_rfl
theorem info_parts {P:Program} {T:TypeId} {z:Value} {size bytes:Nat} (h:(P.info? T).map (fun i=>(i.zero,i.size,i.bytes))=some (some z,size,bytes)):∃ i,P.info? T=some i∧i.zero=some z∧i.size=size∧i.bytes=bytes:=by
 obtain ⟨i,hi,hz⟩:=Option.map_eq_some_iff.1 h
 simp only [Prod.mk.injEq] at hz
 exact ⟨i,hi,hz.1,hz.2.1,hz.2.2⟩
theorem axn {z d N:Int} (h:(z.natAbs:Int)<N):((z / d).natAbs:Int)<N:=by
 have:=Int.natAbs_ediv_le_natAbs z d
 omega
set_option maxRecDepth 20000 in
set_option maxHeartbeats 4000000 in
theorem al1 (w:World) (v:Value) (zs:List Int) (L:Nat) (h:IsRow w v zs L) (hL:L≤100000) (hl:zs.length≤1000000) :
  Calls Tryz.prog 31 #[v] w fun e w'=>∃ r,e=.returned r∧ORow w.heap.size w' r (red zs) L∧Below w.heap.size w w' := by
 obtain ⟨ao,cap,rfl,_⟩:=h.parts
 have H:=hide h
 have K:=hide (al0 w _ zs L h hL)
 clear h
 obtain ⟨n,hnn⟩:∃ n,zs.length=n:=⟨_,rfl⟩
 have HRL:Hid ((red zs).length=n):=(show (red zs).length=n by simp [red,hnn])
 rw [hnn] at H K hl ⊢
 have HN:=hide hnn
 clear hnn
 obtain ⟨iW,hi,hz0,hz1,hz2⟩:=info_parts infoWz
 go_enter Tryz.func31,Tryz.ntmps31
 go_wp2_with fail
 refine K.out.mono ?_
 rintro e w1 ⟨r,rfl,ho,hb1⟩
 obtain ⟨ngd,ad,capd,rsd,rfl,_⟩:=id ho
 have hbA:=hAl w1 (.cells #[.bool ngd,.slice ad rsd.length capd] 38)
 go_wp2_with (refine wpList_make_full _ rfl (.tmp 10) (.tmp 10) 22 rfl w.heap.size 38 iW (.agg #[.bool false,.slice none 0 0]) 2 Tryz.underlying22 hi hz0 hz1 .i64 .i64 _ _ n rfl rfl (by omega) (by omega) (by rw [hz2];omega) (by unfold maxLen;omega) (by have:=hb1.size;simp;omega) ?hK)
 case hK =>
  intro w2 hown hgrow
  have hb2:Below (w1.alloc (.cells #[.bool ngd,.slice ad rsd.length capd] 38)).heap.size (w1.alloc (.cells #[.bool ngd,.slice ad rsd.length capd] 38)) w2:=(Below.refl _ _).grown hgrow (Nat.le_refl _) (by simp)
  obtain ⟨_,hmb⟩:=ad1 hown
  rw [akz] at hmb
  have hP0:PRow w.heap.size w2 (w1.heap.size+1) n 0 (red zs) L:=PRow.start hmb
  have hbox:w2.heap[w1.heap.size]? = some (.cells #[.bool ngd,.slice ad rsd.length capd] 38 (0,0)):=(hb2.block _ (by simp)).trans (heap_alloc_new w1 _)
  have HP0:=hide hP0
  have HBX:=hide hbox
  have HO:=hide (ho.ru ((Ru.of_below hbA).trans (Ru.of_below hb2)))
  have hb12:Below w.heap.size w w2:=(hb1.trans (hbA.mono hb1.size)).trans (hb2.mono (Nat.le_trans hb1.size hbA.size))
  have HB:=hide hb12
  have hw1:=hb1.size
  generalize w1.heap.size=fb at *
  clear hown hgrow hb2 hmb hP0 hbox ho hbA hb12 hb1
  go_wp2
  go_loopw [5,6,14] (fun _ _ iv wr=>∃ (k:Nat),iv=.int .i64 k∧k≤n∧Below w.heap.size w wr∧PRow w.heap.size wr (fb+1) n k (red zs) L∧wr.heap[fb]? = some (.cells #[.bool ngd,.slice ad rsd.length capd] 38 (0,0))∧OutW (dvs zs) L (.agg #[.bool ngd,.slice ad rsd.length capd]) wr) (fun _ _ iv _=>n - (intOf iv).toNat)
  case atStart=>exact ⟨0,rfl,Nat.zero_le _,HB.out,HP0.out,HBX.out,HO.out⟩
  case round =>
   obtain ⟨k,rfl,hk,hbw,hp,hbx,ho⟩:=hrel
   have HW:=hide hbw
   have HP:=hide hp
   have HBXr:=hide hbx
   have HOr:=hide ho
   by_cases hlt:k<n
   ·obtain ⟨z,hz⟩:∃ z,zs[k]? = some z:=⟨_,List.getElem?_eq_getElem (by have:=HN.out;omega)⟩
    obtain ⟨b,off,ngx,ax,mx,cx,rfl,hbl,x0,x1,hx⟩:=H.out.cell hz
    replace x0:=(hbw.cell (p:=⟨b,off+k*2,none⟩) hbl).trans x0
    replace x1:=(hbw.cell (p:=⟨b,off+k*2+1,none⟩) hbl).trans x1
    have HX:=hide (hx.ru (Ru.of_below hbw))
    have HZ:=hide hz
    have hlt' : (k:Int)<(n:Int):=by omega
    obtain ⟨h3l,y0,y1,_,_⟩:=aah hbx
    have hba:Below wr.heap.size wr (wr.alloc (.cells #[.bool ngx,.slice ax mx cx] 38)):=hAl _ _
    clear hbw hp hbx ho hx hz
    go_wp2_with fail
    refine (aeq _ z (dvs zs) _ _ L L (HX.out.ru (Ru.of_below hba)) (HOr.out.is.ru (Ru.of_below hba)) (by omega) (by omega)).mono ?_
    rintro e w3 ⟨v1,rfl,h1,hb3⟩
    have hb3' := hba.trans (hb3.mono hba.size)
    have hF:=h1.fit (axn (d:=dvs zs) (aeb HX.out))
    obtain ⟨ng1,ao1,k1,cap1,rfl⟩:=h1.agg
    have HF:=hide (hF.low hba.size)
    obtain ⟨⟨ngp,ap,mp,cp,p0,p1⟩,pf0,pf1⟩:=(HP.out.below hb3').cells hlt
    have hpl:=(HP.out.below hb3').lt
    have HB3:=hide hb3'
    clear h1 hF hb3 hb3' hba x0 x1 y0 y1
    go_wp2
    obtain ⟨q1,q2⟩:=HP.out.put (Nat.le_refl _) HB3.out hlt (show (red zs)[k]? = some (z / dvs zs) by rw [red,List.getElem?_map,HZ.out];rfl) HW.out.size HF.out
    go_roundw
    case rel =>
     refine ⟨k+1,by go_num,by omega,?_,q1,?_,HOr.out.ru q2.ru⟩
     ·have:=q2.below HW.out.size (Nat.le_succ_of_le hw1) (Nat.le_succ_of_le hw1)
      exact HW.out.trans this
     ·exact (q2.other fb (aaa HBXr.out) (by omega) (by omega)).trans HBXr.out
    case measure=>simp [intOf];omega
   ·have hlt' : decide ((k:Int)<(n:Int))=false:=by simp;omega
    have hkn:k=n:=by omega
    subst hkn
    clear hbw hp hbx ho
    go_wp2
    refine bodyPost_ret (v:=.slice (some ⟨fb+1,0,none⟩) k k) (adx rfl rfl) rfl ⟨_,rfl,⟨fb+1,by rw [HRL.out],by omega,by rw [HRL.out];exact HP.out,by rw [HRL.out];exact hl⟩,HW.out⟩
def Strs (w:World) (v:Value) (ss:List ByteArray):Prop:=Ce w v 1 ss.length (ss.map Value.string)
theorem Strs.below {w w' : World} {v:Value} {ss:List ByteArray} (h:Strs w v ss) (hb:Below w.heap.size w w'):Strs w' v ss:=Ce.below h hb
theorem Strs.cell {w:World} {ao:Option Addr} {n cap:Nat} {ss:List ByteArray} {i:Nat} {x:ByteArray} (h:Strs w (.slice ao n cap) ss) (hg:ss[i]? = some x):∃ b off,ao=some ⟨b,off,none⟩∧b<w.heap.size∧w.cell? ⟨b,off+i,none⟩ = some (.string x):=by
 obtain ⟨ao',cap',hv,c1,c2,c3,c4⟩:=h
 obtain ⟨rfl,rfl,rfl⟩:=(Value.slice.injEq .. ▸ hv)
 have hk:i<ss.length:=(List.getElem?_eq_some_iff.1 hg).1
 rcases c4 with c4 | ⟨b,off,rfl,hl,hc⟩
 ·omega
 ·exact ⟨b,off,rfl,hl,hc _ _ (by simp [hg])⟩
theorem ajs {x s:ByteArray} (h:x.toList=s.toList):x=s:=by
 rw [ByteArray.toList_eq,ByteArray.toList_eq] at h
 exact ByteArray.ext (Array.toList_inj.1 h)
theorem aur {x s:ByteArray} (h:x≠s):(x.toList == s.toList)=false:=by
 simp only [beq_eq_false_iff_ne]
 exact fun e=>h (ajs e)
theorem ah3 (p:Int) {q:Int} (_h:q≠0):nm p q=(Rat.divInt p q).num:=by
 rw [Rat.num_divInt,nm,Int.gcd_comm]
 rw [Int.mul_ediv_assoc _ (Int.gcd_dvd_right ..)]
theorem ah4 (p:Int) {q:Int} (h:q≠0):dn p q=((Rat.divInt p q).den:Int):=by
 rw [Rat.den_divInt,if_neg h,dn,Int.gcd_comm,Int.natCast_ediv]
 rcases Int.lt_or_gt_of_ne h with h1 | h1
 ·rw [Int.sign_eq_neg_one_of_neg h1,show ((q.natAbs:Nat):Int) = -q from by omega,Int.neg_ediv_of_dvd (Int.gcd_dvd_left ..)]
  omega
 ·rw [Int.sign_eq_one_of_pos h1,show ((q.natAbs:Nat):Int)=q from by omega]
  omega
theorem agk (p q:Int):Rat.divInt (tp p q) (tq q)=Rat.divInt p q:=by
 unfold tp tq
 split
 ·next h=>rw [h,Rat.divInt_zero,Rat.zero_divInt]
 ·rfl
def IsQ (r:Rat) (L:Nat):Says:=fun v w=>∃ p q,IsR p q L v w∧Rat.divInt p q=r
def OutQr (r:Rat) (L:Nat):Says:=OutR r.num (r.den:Int) L
theorem OutQr.is {r:Rat} {L:Nat} {v:Value} {w:World} (h:OutQr r L v w):IsQ r L v w:=⟨_,_,OutR.is h,Rat.num_divInt_den r⟩
def Fit (r:Rat) (L:Nat):Prop:=(r.num.natAbs:Int)<pw L∧(r.den:Int)<pw L
theorem OutQr.fit {r:Rat} {L L' : Nat} {v:Value} {w:World} (h:OutQr r L v w) (hf:Fit r L'):OutQr r L' v w:=by
 obtain ⟨ng,ao,cap,rs,bo,dap,ss,e,h1,h2,l1,l2⟩:=h
 exact ⟨ng,ao,cap,rs,bo,dap,ss,e,h1,h2,aa3 h1.1.2.1 (by rw [h1.1.2.2];exact hf.1),aa3 h2.2.1 (by rw [h2.2.2];exact hf.2)⟩
theorem IsQ.open {r:Rat} {L:Nat} {v:Value} {w:World} (h:IsQ r L v w):∃ ng ao n cap xs bo m dap ys p q,v=.agg #[.bool ng,.slice ao n cap,.slice bo m dap]∧Ag w ng ao n cap xs p∧Sl w (.slice bo m dap) ys∧val ys=q∧xs.length≤L∧ys.length≤L∧Rat.divInt p q=r:=by
 obtain ⟨p,q,⟨ng,ao,n,cap,xs,bo,m,dap,ys,h1,h2,h3,h4,h5,h6⟩,h7⟩:=h
 exact ⟨ng,ao,n,cap,xs,bo,m,dap,ys,p,q,h1,h2,h3,h4,h5,h6,h7⟩
theorem axo (w:World) (x y:Value) (r s:Rat) (L M N:Nat) (hx:IsQ r L x w) (hy:IsQ s M y w) (hL:3*(L+M+4)+1≤100000) (hf:Fit (r+s) N) :
  Calls Tryz.prog 27 #[x,y] w fun e w'=>∃ v,e=.returned v∧OutQr (r+s) N v w'∧Below w.heap.size w w' := by
 obtain ⟨ng,ao,n,cap,xs,bo,m,dap,ys,p,q,rfl,h2,h3,h4,h5,h6,h7⟩:=hx.open
 obtain ⟨ng',ao',n',cap',xs',bo',m',dap',ys',p',q',rfl,g2,g3,g4,g5,g6,g7⟩:=hy.open
 refine (axb w L ng ao n cap xs p h2 h5 bo m dap ys q h3 h4 h6 M ng' ao' n' cap' xs' p' g2 g5 bo' m' dap' ys' q' g3 g4 g6 hL).mono ?_
 rintro e w' ⟨v,rfl,ho,hb⟩
 refine ⟨v,rfl,?_,hb⟩
 have hne:tq q*tq q'≠0:=Int.mul_ne_zero (ac1 q) (ac1 q')
 have hs:Rat.divInt (tp p q*tq q'+tp p' q'*tq q) (tq q*tq q')=r+s:=by
  rw [←Rat.divInt_add_divInt _ _ (ac1 q) (ac1 q'),agk,agk,h7,g7]
 rw [ah3 _ hne,ah4 _ hne,hs] at ho
 exact OutQr.fit ho hf
theorem aq0 (w:World) (x:Value) (r:Rat) (L N:Nat) (hx:IsQ r L x w) (hL:2*(L+2)≤100000) (hf:Fit r N) :
  Calls Tryz.prog 78 #[x] w fun e w'=>∃ v,e=.returned v∧OutQr (-r) N v w'∧Below w.heap.size w w' := by
 obtain ⟨ng,ao,n,cap,xs,bo,m,dap,ys,p,q,rfl,h2,h3,h4,h5,h6,h7⟩:=hx.open
 refine (axa w L ng ao n cap xs p h2 h5 bo m dap ys q h3 h4 h6 hL).mono ?_
 rintro e w' ⟨v,rfl,ho,hb⟩
 refine ⟨v,rfl,?_,hb⟩
 have hs:Rat.divInt (-(tp p q)) (tq q) = -r:=by rw [←Rat.neg_divInt,agk,h7]
 rw [ah3 _ (ac1 q),ah4 _ (ac1 q),hs] at ho
 exact OutQr.fit ho ⟨by rw [Rat.neg_num,Int.natAbs_neg];exact hf.1,by rw [Rat.neg_den];exact hf.2⟩
theorem av0 (w:World) (x:Value) (r:Rat) (L N:Nat) (hx:IsQ r L x w) (hL:2*(L+2)≤100000) (hf:Fit r N) :
  Calls Tryz.prog 58 #[x] w fun e w'=>∃ v,e=.returned v∧OutQr r N v w'∧Below w.heap.size w w' := by
 obtain ⟨ng,ao,n,cap,xs,bo,m,dap,ys,p,q,rfl,h2,h3,h4,h5,h6,h7⟩:=hx.open
 refine (avm w L ng ao n cap xs p h2 h5 bo m dap ys q h3 h4 h6 hL).mono ?_
 rintro e w' ⟨v,rfl,ho,hb⟩
 refine ⟨v,rfl,?_,hb⟩
 have hs:Rat.divInt (tp p q) (tq q)=r:=by rw [agk,h7]
 rw [ah3 _ (ac1 q),ah4 _ (ac1 q),hs] at ho
 exact OutQr.fit ho hf
theorem adl (w:World) (x:Value) (z:Int) (L:Nat) (hx:IsW z L x w) (hL:L≤100000) :
  Calls Tryz.prog 11 #[x] w fun e w'=>∃ v,e=.returned v∧OutQr (z:Rat) (L+2) v w'∧Below w.heap.size w w' := by
 obtain ⟨ng,ao,n,cap,xs,rfl,h2,h5⟩:=hx
 refine (aw9 w L ng ao n cap xs z h2 h5 hL).mono ?_
 rintro e w' ⟨v,rfl,ho,hb⟩
 exact ⟨v,rfl,ho,hb⟩
theorem aus (w:World) (x y:Value) (z u:Int) (L M:Nat) (hx:IsW z L x w) (hy:IsW u M y w) (hL:L+M≤100000) :
  Calls Tryz.prog 109 #[x,y] w fun e w'=>Below w.heap.size w w'∧((u≠0∧∃ v,e=.returned (.tuple #[v,.int .i64 0])∧OutQr (Rat.divInt z u) (L+M) v w')∨(u=0∧e=.returned (.tuple #[.agg #[.bool false,.slice none 0 0,.slice none 0 0],.int .i64 20]))):=by
 obtain ⟨ng,ao,n,cap,xs,rfl,h2,h5⟩:=hx
 obtain ⟨ng',ao',n',cap',xs',rfl,g2,g5⟩:=hy
 by_cases hu:u=0
 ·refine (axc w L ng ao n cap xs z h2 h5 M ng' ao' n' cap' xs' u g2 g5 hL hu).mono ?_
  rintro e w' ⟨v,rfl,⟨a,b,rfl,h1,h2⟩,hb⟩
  exact ⟨hb,.inr ⟨hu,by rw [h1,h2]⟩⟩
 ·refine (ayl w L ng ao n cap xs z h2 h5 M ng' ao' n' cap' xs' u g2 g5 hL hu).mono ?_
  rintro e w' ⟨v,rfl,⟨a,b,rfl,h1,h2⟩,hb⟩
  rw [ah3 _ hu,ah4 _ hu] at h1
  exact ⟨hb,.inl ⟨hu,a,by rw [h2],h1⟩⟩
theorem ak0 {zs:List Int} : ∀ z ∈ zs,gcdL zs ∣ z:=by
 have key:∀ (l:List Int) (c:Int),l.foldl (fun c z=>((Int.gcd c z:Nat):Int)) c ∣ c∧∀ z ∈ l,l.foldl (fun c z=>((Int.gcd c z:Nat):Int)) c ∣ z:=by
  intro l
  induction l with
  | nil=>intro c;exact ⟨Int.dvd_refl _,fun z hz=>by cases hz⟩
  | cons x l ih =>
   intro c
   obtain ⟨h1,h2⟩:=ih ((Int.gcd c x:Nat):Int)
   refine ⟨Int.dvd_trans h1 (Int.gcd_dvd_left ..),fun z hz=>?_⟩
   rcases List.mem_cons.1 hz with rfl | hz
   ·exact Int.dvd_trans h1 (Int.gcd_dvd_right ..)
   ·exact h2 z hz
 exact fun z hz=>(key zs 0).2 z hz
theorem air {zs:List Int} : ∀ z ∈ zs,dvs zs ∣ z:=by
 intro z hz
 unfold dvs
 split
 ·exact Int.neg_dvd.2 (ak0 z hz)
 ·exact ak0 z hz
theorem aq1 {zs:List Int} (h:∀ z ∈ zs,z=0):gcdL zs=0:=by
 have key:∀ l:List Int,(∀ z ∈ l,z=0)→l.foldl (fun c z=>((Int.gcd c z:Nat):Int)) 0=0:=by
  intro l
  induction l with
  | nil=>intro _;rfl
  | cons x l ih =>
   intro hl
   rw [List.foldl_cons,hl x (by simp)]
   exact ih (fun z hz=>hl z (by simp [hz]))
 exact key zs h
theorem aoh (k:Int) (zs:List Int):gcdL (zs.map (k*·))=(k.natAbs:Int)*gcdL zs:=by
 have key:∀ (l:List Int) (c:Int),(l.map (k*·)).foldl (fun c z=>((Int.gcd c z:Nat):Int)) ((k.natAbs:Int)*c)=(k.natAbs:Int)*l.foldl (fun c z=>((Int.gcd c z:Nat):Int)) c:=by
  intro l
  induction l with
  | nil=>intro c;rfl
  | cons z l ih =>
   intro c
   rw [List.map_cons,List.foldl_cons,List.foldl_cons,←ih]
   congr 1
   rw [Int.gcd,Int.natAbs_mul,Int.natAbs_mul,Int.natAbs_natCast,Nat.gcd_mul_left,Int.gcd,Int.natCast_mul]
 have:=key zs 0
 rwa [Int.mul_zero] at this
theorem aoi (k:Int) (hk:k≠0) (zs:List Int):sgnL (zs.map (k*·))=Int.sign k*sgnL zs:=by
 have hs:Int.sign k≠0:=fun h=>hk (Int.sign_eq_zero_iff_zero.1 h)
 have key:∀ (l:List Int) (s:Int),(l.map (k*·)).foldl (fun s z=>if s=0 then Int.sign z else s) (Int.sign k*s)=Int.sign k*l.foldl (fun s z=>if s=0 then Int.sign z else s) s:=by
  intro l
  induction l with
  | nil=>intro s;rfl
  | cons z l ih =>
   intro s
   rw [List.map_cons,List.foldl_cons,List.foldl_cons,←ih]
   congr 1
   by_cases h:s=0
   ·rw [if_pos h,if_pos (by rw [h,Int.mul_zero]),Int.sign_mul]
   ·rw [if_neg h,if_neg (fun e=>(Int.mul_eq_zero.1 e).elim hs h)]
 have:=key zs 0
 rwa [Int.mul_zero] at this
theorem aq2 {zs:List Int} (h:sgnL zs=0):∀ z ∈ zs,z=0:=by
 have stay:∀ (l:List Int) (s:Int),s≠0→l.foldl (fun s z=>if s=0 then Int.sign z else s) s=s:=by
  intro l
  induction l with
  | nil=>intro s _;rfl
  | cons z l ih=>intro s hs;rw [List.foldl_cons,if_neg hs];exact ih s hs
 induction zs with
 | nil=>simp
 | cons z l ih =>
  unfold sgnL at h
  rw [List.foldl_cons,if_pos rfl] at h
  by_cases hz:Int.sign z=0
  ·rw [hz] at h
   intro y hy
   rcases List.mem_cons.1 hy with rfl | hy
   ·exact Int.sign_eq_zero_iff_zero.1 hz
   ·exact ih h y hy
  ·rw [stay l _ hz] at h
   exact absurd h hz
theorem aq3 (k:Int) (hk:k≠0) (zs:List Int):dvs (zs.map (k*·))=k*dvs zs:=by
 unfold dvs
 rw [aoh,aoi k hk]
 by_cases h0:sgnL zs=0
 ·rw [h0,aq1 (aq2 h0)]
  simp
 ·rcases Int.lt_or_gt_of_ne hk with hk' | hk'
  ·rw [Int.sign_eq_neg_one_of_neg hk',show (k.natAbs:Int) = -k by omega]
   by_cases h1:sgnL zs<0
   ·rw [if_neg (by omega),if_pos h1,Int.neg_mul,Int.mul_neg]
   ·rw [if_pos (by omega),if_neg h1,Int.neg_mul,Int.neg_neg]
  ·rw [Int.sign_eq_one_of_pos hk',show (k.natAbs:Int)=k by omega,Int.one_mul]
   split
   ·rw [Int.mul_neg]
   ·rfl
theorem ajb (k:Int) (hk:k≠0) (zs:List Int):red (zs.map (k*·))=red zs:=by
 unfold red
 rw [aq3 k hk,List.map_map]
 refine List.map_congr_left fun z hz=>?_
 show k*z / (k*dvs zs)=z / dvs zs
 obtain ⟨q,hq⟩:=air z hz
 by_cases hd:dvs zs=0
 ·rw [hd,Int.mul_zero,Int.ediv_zero,Int.ediv_zero]
 ·have h1:z / dvs zs=q:=by rw [hq];exact Int.mul_ediv_cancel_left q hd
  have h2:k*z=k*dvs zs*q:=by rw [Int.mul_assoc,←hq]
  rw [h1,h2]
  exact Int.mul_ediv_cancel_left q (fun e=>(Int.mul_eq_zero.1 e).elim hk hd)
theorem limbsF (w:World) (z:Int) (L:Nat) (v:Value) (h:IsW z L v w) (hL:L≤400000) :
  Calls Tryz.prog 21 #[v] w fun e w'=>∃ m:Nat,e=.returned (.int .i64 (m:Int))∧(m≤32↔(z.natAbs:Int)<pw 32)∧Below w.heap.size w w' := by
 obtain ⟨ng,ao,n,cap,xs,rfl,hA,hl⟩:=h
 obtain ⟨m,hm⟩:=as6 hA
 have hv:val xs=(z.natAbs:Int):=by
  obtain ⟨_,_,_,_,_,hb,_⟩:=hA.sl
  have h1:=aab hb
  have h4:=hA.worth
  rw [←h4]
  cases ng
  ·simp only [sg]
   rw [if_neg (by decide)]
   omega
  ·simp only [sg]
   rw [if_pos trivial]
   omega
 refine (an1 w ng ao n cap xs hA.sl (by omega) m (by rw [hv];exact hm)).mono ?_
 rintro e w' ⟨rfl,hb⟩
 refine ⟨m,rfl,?_,hb⟩
 obtain ⟨rs,hc,hv',rfl⟩:=hm
 constructor
 ·intro h
  have h1:=(aab hc.1).2
  have h2:=aa8 h
  omega
 ·intro h
  exact aa3 hc (by rw [hv'];exact h)
theorem ais {P:Program} {fn:Func} {a:Act} {w:World} {k k' : Nat} {v v' : Value} (hr:fn.results = #[.tmp k,.tmp k']) (hp:a.eval (.tmp k)=v) (hp' : a.eval (.tmp k')=v'):(results fn a.tmps).run P w=.ok (.tuple #[v,v']) w:=by
 rw [←hp,←hp']
 simp [results,hr,go_sem,Act.eval]
end Lm
end Go.Proofs.YtdjgifcmhafppaaGreatDoor
namespace Go.Proofs.YtdjgifcmhafppaaGreatDoor
namespace Lm
open Go Go.RowKit
open Dm (WFr)
def CanRow (w:World) (v:Value) (zs:List Int) (L:Nat):Prop:=∃ es:List WE,Rw w v es∧es.length=zs.length∧∀ (k:Nat) (e:WE) (z:Int),es[k]? = some e→zs[k]? = some z→Canon e.zs∧val e.zs=(z.natAbs:Int)∧e.ng=decide (z<0)∧e.zs.length≤L
theorem CanRow.below {w w' : World} {v:Value} {zs:List Int} {L:Nat} (h:CanRow w v zs L) (hb:Below w.heap.size w w'):CanRow w' v zs L:=by
 obtain ⟨es,h1,h2,h3⟩:=h
 exact ⟨es,h1.below hb,h2,h3⟩
theorem CanRow.is {w:World} {v:Value} {zs:List Int} {L:Nat} (h:CanRow w v zs L):IsRow w v zs L:=by
 obtain ⟨es,h1,h2,h3⟩:=h
 refine ⟨es,h1,?_,?_⟩
 ·apply List.ext_getElem?
  intro k
  rw [List.getElem?_map]
  cases hk:es[k]? with
  | none =>
   rw [List.getElem?_eq_none_iff] at hk
   rw [Option.map_none,eq_comm,List.getElem?_eq_none_iff]
   omega
  | some e =>
   have hkl:=(List.getElem?_eq_some_iff.1 hk).1
   obtain ⟨z,hz⟩:∃ z,zs[k]? = some z:=⟨_,List.getElem?_eq_getElem (by omega)⟩
   obtain ⟨c1,c2,c3,_⟩:=h3 k e z hk hz
   rw [hz,Option.map_some]
   congr 1
   unfold WE.z sg
   rw [c2,c3]
   by_cases hn:z<0
   ·rw [if_pos (decide_eq_true hn)];omega
   ·rw [if_neg (by simpa using hn)];omega
 ·intro e he
  obtain ⟨k,hk⟩:=List.mem_iff_getElem?.1 he
  have hkl:=(List.getElem?_eq_some_iff.1 hk).1
  obtain ⟨z,hz⟩:∃ z,zs[k]? = some z:=⟨_,List.getElem?_eq_getElem (by omega)⟩
  exact (h3 k e z hk hz).2.2.2
theorem ORow.can {K:Nat} {w:World} {v:Value} {zs:List Int} {L:Nat} (h:ORow K w v zs L):CanRow w v zs L:=by
 obtain ⟨bv,rfl,_,h,hl⟩:=h
 obtain ⟨es,B,T,e1,e2,e3,e4,e5⟩:=h
 refine ⟨es,⟨⟨_,_,by rw [e1],by omega,by omega,acy es,.inr ⟨bv,0,rfl,aaa e2,fun j u hu=>?_⟩⟩,?_⟩,e1,?_⟩
 ·rw [Nat.zero_add,cell_of_row _ _ _ _ _ (0,0) e2,List.getElem?_toArray]
  exact hu
 ·intro e he
  obtain ⟨k,hk⟩:=List.mem_iff_getElem?.1 he
  have hkl:=(List.getElem?_eq_some_iff.1 hk).1
  obtain ⟨z,hz⟩:∃ z,zs[k]? = some z:=⟨_,List.getElem?_eq_getElem (by omega)⟩
  obtain ⟨g1,g2,_⟩:=e4 k e z (by omega) hk hz
  have:=g1.wh.sl
  rwa [←g2] at this
 ·intro k e z hk hz
  have hkl:=(List.getElem?_eq_some_iff.1 hk).1
  obtain ⟨g1,g2,g3,_⟩:=e4 k e z (by omega) hk hz
  exact ⟨g1.fr.canon,g1.fr.val,g1.sgn,g3⟩
theorem agy (w:World) (v v' : Value) (zs:List Int) (L M:Nat) (h:CanRow w v zs L) (h' : CanRow w v' zs M) :
  Calls Tryz.prog 14 #[v,v'] w fun e w'=>e=.returned (.bool true)∧Below w.heap.size w w' := by
 obtain ⟨es,h1,h2,h3⟩:=h
 obtain ⟨fs,g1,g2,g3⟩:=h'
 obtain ⟨a,c,rfl,_⟩:=id h1.cl
 obtain ⟨a',c',rfl,_⟩:=id g1.cl
 refine aqz w a _ c es h1 a' _ c' fs g1 ?_
 unfold SameR
 apply List.ext_getElem?
 intro k
 rw [List.getElem?_map,List.getElem?_map]
 cases hk:es[k]? with
 | none =>
  rw [List.getElem?_eq_none_iff] at hk
  rw [(List.getElem?_eq_none_iff (l:=fs)).2 (by omega)]
 | some e =>
  have hkl:=(List.getElem?_eq_some_iff.1 hk).1
  obtain ⟨z,hz⟩:∃ z,zs[k]? = some z:=⟨_,List.getElem?_eq_getElem (by omega)⟩
  obtain ⟨f,hf⟩:∃ f,fs[k]? = some f:=⟨_,List.getElem?_eq_getElem (by omega)⟩
  obtain ⟨c1,c2,c3,_⟩:=h3 k e z hk hz
  obtain ⟨d1,d2,d3,_⟩:=g3 k f z hf hz
  rw [hf,Option.map_some,Option.map_some,WE.raw,WE.raw,c3,d3,aeg c1 d1 (c2.trans d2.symm)]
theorem al2 {ops:Array Oper} {rest:List Oper} {o:Oper} {a:Act} {w:World} {Q:Exit→Act→World→Prop} {R:Value→World→Prop} (hg:o.guard=none) (h:Does Tryz.prog o a.eval w R) (hK:∀ v w',R v w'→wpList Tryz.prog ops Q rest (a.put o.dst v) w'):wpList Tryz.prog ops Q (o :: rest) a w:=by
 refine wpList_plain hg fun K hK'=>?_
 exact Does.wp h (fun v w' hr=>hK' _ _ (hK v w' hr))
set_option maxRecDepth 20000 in
set_option maxHeartbeats 1000000 in
theorem al3 (w:World) (v:Int) (h1 : -9223372036854775808≤v) (h2:v≤9223372036854775807) (h0:v<0) :
  Calls Tryz.prog 40 #[.int .i64 v] w fun e w'=>∃ r,e=.returned r∧FrW w.heap.size v 2 r w'∧Below w.heap.size w w' := by
 obtain ⟨i0,hi,hz0,hz1,hz2⟩:=info_parts acg
 have hf0:=heap_alloc_new w (.cells #[.bool false,.slice none 0 0] 38)
 have hb0:=hAl w (.cells #[.bool false,.slice none 0 0] 38)
 generalize hE:w.alloc (.cells #[.bool false,.slice none 0 0] 38)=w0 at *
 have E0:=hide hE
 have HF0:=hide hf0
 have HB0:=hide hb0
 clear hE hf0 hb0
 have hw:IntKind.u64.wrap (-IntKind.u64.wrap v) = -v:=by rw [IntKind.wrap_u64,IntKind.wrap_u64];omega
 go_enter Tryz.func40,Tryz.ntmps40
 go_wp2
 rw [E0.out]
 clear hw
 go_loopw [3,4] (fun uv mv wr=>∃ (u:Int) (ls:List Int),uv=.int .u64 u∧0≤u∧u<18446744073709551616∧Limb ls∧val ls+pw ls.length*u = -v∧(u=0→tl ls=ls.length)∧wr.ownsRow w0.heap.size 103 1 mv ls.length (ls.map (Value.int .u32))∧Below w0.heap.size w0 wr) (fun uv _ _=>(intOf uv).toNat)
 case atStart=>exact ⟨-v,[],rfl,by omega,by omega,aaf,by simp [val,pw],fun _=>rfl,World.ownsRow_nil _ _ _ _,Below.refl _ _⟩
 case round =>
  obtain ⟨u,ls,rfl,hu0,hu1,hls,hv,htop,hown,hbel⟩:=hrel
  have HL:=hide hls
  have HV:=hide hv
  have HT:=hide htop
  clear hls hv htop
  by_cases hu:0<u
  ·have hroom:=apz HL.out hu (by rw [HV.out];omega)
   have HV' := hide (apy HV.out)
   have HT' : Hid (u / 4294967296=0→tl (ls ++ [u % 4294967296])=(ls ++ [u % 4294967296]).length):=fun h=>aup hu h
   go_wp2_with (at_builtin;refine wpList_append_own _ rfl (.tmp 13) (.tmp 16) 36 rfl w0.heap.size 103 i0 (.int .u32 0) 1 4 Tryz.underlying36 hi hz0 hz1 hz2 rfl (by decide) _ _ _ rfl (hown.alloc _) ⟨wr.heap.size,0,none⟩ 1 1 [.int .u32 (u % 4294967296)] rfl rfl (cell_one_new _ _ _) ?c2 ?c3 ?c4 ?c5 ?_)
   case c2=>first | rfl | (intro x hx;simp at hx;subst hx;rfl)
   case c3=>unfold maxLen;omega
   case c4=>omega
   case c5=>have:=hbel.size;first | omega | (simp;omega)
   intro v4 w4 hown4 hgrow4 _
   have R:=aj8 hown4 hgrow4 hbel hbel.size hown.lt
   clear hown4 hgrow4 hown
   go_wp2
   go_roundw
   case rel=>exact ⟨u / 4294967296,ls ++ [u % 4294967296],rfl,by omega,by omega,aap.2 ⟨HL.out,aai.2 ⟨by omega,aaf⟩⟩,HV'.out,HT'.out,by simpa using R.1,R.2⟩
   case measure=>simp [intOf];omega
  ·have hu' : u=0:=by omega
   subst hu'
   have hval:val ls = -v:=by have:=HV.out;rwa [Int.mul_zero,Int.add_zero] at this
   have hcan:Canon ls:=⟨HL.out,HT.out rfl⟩
   have hlen:ls.length≤2:=aa3 hcan (m:=2) (by rw [hval,show pw 2=18446744073709551616 from by decide];omega)
   have how:=aeh hown HL.out
   obtain ⟨ao,cap,hmv,_⟩:=id how
   subst hmv
   have hfr:FrW w0.heap.size v 2 (.agg #[.bool true,.slice ao ls.length cap]) wr:=by
    refine ⟨_,_,_,_,w0.heap.size,wr.heap.size,rfl,⟨⟨how,hcan,by rw [hval];omega,fun hc g off hg=>?_⟩,by simp;omega⟩,Nat.le_refl _,Nat.le_refl _,hlen⟩
    subst hg
    obtain ⟨ao',cap',e1,_,_,_,e4⟩:=how
    simp only [Value.slice.injEq] at e1
    obtain ⟨rfl,_,rfl⟩:=e1
    rcases e4 with e4 | ⟨g',off',cur,e5,hB',hh,_⟩
    ·omega
    ·simp only [Option.some.injEq,Addr.mk.injEq] at e5
     obtain ⟨rfl,_,_⟩:=e5
     exact ⟨hB',aaa hh⟩
   have HFR:=hide (hfr.low HB0.out.size)
   have HFx:=hide ((hbel.block _ (aaa HF0.out)).trans HF0.out)
   have HBx:=hide (HB0.out.trans (hbel.mono HB0.out.size))
   obtain ⟨hfl,c0,c1,fr0,fr1⟩:=aah HFx.out
   have hd:decide (v<0)=true:=by simp;omega
   clear hval hown how hfr hbel hcan
   go_wp2
   exact bodyPost_ret (v:=.agg #[.bool true,.slice ao ls.length cap]) (acv (g:=w.heap.size) rfl rfl (lvw2 (ab6 HFx.out _ _))) rfl ⟨_,rfl,HFR.out.ru (aci HFx.out _ _),(HBx.out.setCell (Nat.le_refl _) _).setCell (Nat.le_refl _) _⟩
set_option maxRecDepth 20000 in
set_option maxHeartbeats 1000000 in
theorem al4 (w:World) (v:Int) (h1 : -9223372036854775808≤v) (h2:v≤9223372036854775807) (h0:¬ v<0) :
  Calls Tryz.prog 40 #[.int .i64 v] w fun e w'=>∃ r,e=.returned r∧FrW w.heap.size v 2 r w'∧Below w.heap.size w w' := by
 obtain ⟨i0,hi,hz0,hz1,hz2⟩:=info_parts acg
 have hf0:=heap_alloc_new w (.cells #[.bool false,.slice none 0 0] 38)
 have hb0:=hAl w (.cells #[.bool false,.slice none 0 0] 38)
 generalize hE:w.alloc (.cells #[.bool false,.slice none 0 0] 38)=w0 at *
 have E0:=hide hE
 have HF0:=hide hf0
 have HB0:=hide hb0
 clear hE hf0 hb0
 have hw:True:=trivial
 go_enter Tryz.func40,Tryz.ntmps40
 go_wp2
 rw [E0.out]
 clear hw
 go_loopw [3,4] (fun uv mv wr=>∃ (u:Int) (ls:List Int),uv=.int .u64 u∧0≤u∧u<18446744073709551616∧Limb ls∧val ls+pw ls.length*u=v∧(u=0→tl ls=ls.length)∧wr.ownsRow w0.heap.size 103 1 mv ls.length (ls.map (Value.int .u32))∧Below w0.heap.size w0 wr) (fun uv _ _=>(intOf uv).toNat)
 case atStart=>exact ⟨v,[],rfl,by omega,by omega,aaf,by simp [val,pw],fun _=>rfl,World.ownsRow_nil _ _ _ _,Below.refl _ _⟩
 case round =>
  obtain ⟨u,ls,rfl,hu0,hu1,hls,hv,htop,hown,hbel⟩:=hrel
  have HL:=hide hls
  have HV:=hide hv
  have HT:=hide htop
  clear hls hv htop
  by_cases hu:0<u
  ·have hroom:=apz HL.out hu (by rw [HV.out];omega)
   have HV' := hide (apy HV.out)
   have HT' : Hid (u / 4294967296=0→tl (ls ++ [u % 4294967296])=(ls ++ [u % 4294967296]).length):=fun h=>aup hu h
   go_wp2_with (at_builtin;refine wpList_append_own _ rfl (.tmp 13) (.tmp 16) 36 rfl w0.heap.size 103 i0 (.int .u32 0) 1 4 Tryz.underlying36 hi hz0 hz1 hz2 rfl (by decide) _ _ _ rfl (hown.alloc _) ⟨wr.heap.size,0,none⟩ 1 1 [.int .u32 (u % 4294967296)] rfl rfl (cell_one_new _ _ _) ?c2 ?c3 ?c4 ?c5 ?_)
   case c2=>first | rfl | (intro x hx;simp at hx;subst hx;rfl)
   case c3=>unfold maxLen;omega
   case c4=>omega
   case c5=>have:=hbel.size;first | omega | (simp;omega)
   intro v4 w4 hown4 hgrow4 _
   have R:=aj8 hown4 hgrow4 hbel hbel.size hown.lt
   clear hown4 hgrow4 hown
   go_wp2
   go_roundw
   case rel=>exact ⟨u / 4294967296,ls ++ [u % 4294967296],rfl,by omega,by omega,aap.2 ⟨HL.out,aai.2 ⟨by omega,aaf⟩⟩,HV'.out,HT'.out,by simpa using R.1,R.2⟩
   case measure=>simp [intOf];omega
  ·have hu' : u=0:=by omega
   subst hu'
   have hval:val ls=v:=by have:=HV.out;rwa [Int.mul_zero,Int.add_zero] at this
   have hcan:Canon ls:=⟨HL.out,HT.out rfl⟩
   have hlen:ls.length≤2:=aa3 hcan (m:=2) (by rw [hval,show pw 2=18446744073709551616 from by decide];omega)
   have how:=aeh hown HL.out
   obtain ⟨ao,cap,hmv,_⟩:=id how
   subst hmv
   have hfr:FrW w0.heap.size v 2 (.agg #[.bool false,.slice ao ls.length cap]) wr:=by
    refine ⟨_,_,_,_,w0.heap.size,wr.heap.size,rfl,⟨⟨how,hcan,by rw [hval];omega,fun hc g off hg=>?_⟩,by simp;omega⟩,Nat.le_refl _,Nat.le_refl _,hlen⟩
    subst hg
    obtain ⟨ao',cap',e1,_,_,_,e4⟩:=how
    simp only [Value.slice.injEq] at e1
    obtain ⟨rfl,_,rfl⟩:=e1
    rcases e4 with e4 | ⟨g',off',cur,e5,hB',hh,_⟩
    ·omega
    ·simp only [Option.some.injEq,Addr.mk.injEq] at e5
     obtain ⟨rfl,_,_⟩:=e5
     exact ⟨hB',aaa hh⟩
   have HFR:=hide (hfr.low HB0.out.size)
   have HFx:=hide ((hbel.block _ (aaa HF0.out)).trans HF0.out)
   have HBx:=hide (HB0.out.trans (hbel.mono HB0.out.size))
   obtain ⟨hfl,c0,c1,fr0,fr1⟩:=aah HFx.out
   have hd:decide (v<0)=false:=by simp;omega
   clear hval hown how hfr hbel hcan
   go_wp2
   exact bodyPost_ret (v:=.agg #[.bool false,.slice ao ls.length cap]) (acv (g:=w.heap.size) rfl rfl (lvw2 (ab6 HFx.out _ _))) rfl ⟨_,rfl,HFR.out.ru (aci HFx.out _ _),(HBx.out.setCell (Nat.le_refl _) _).setCell (Nat.le_refl _) _⟩
theorem atl (w:World) (v:Int) (h1 : -9223372036854775808≤v) (h2:v≤9223372036854775807) :
  Calls Tryz.prog 40 #[.int .i64 v] w fun e w'=>∃ r,e=.returned r∧FrW w.heap.size v 2 r w'∧Below w.heap.size w w' := by
 by_cases h0:v<0
 ·exact al3 w v h1 h2 h0
 ·exact al4 w v h1 h2 h0
set_option maxRecDepth 20000 in
set_option maxHeartbeats 4000000 in
theorem amx (w:World) (v:Value) (zs:List Int) (h:Nums w v zs) (hz:∀ z ∈ zs,-9223372036854775808≤z∧z≤9223372036854775807) (hl:zs.length≤1000) :
  Calls Tryz.prog 19 #[v] w fun e w'=>∃ r,e=.returned r∧CanRow w' r zs 2∧Below w.heap.size w w' := by
 obtain ⟨ao,cap,rfl,_⟩:=id h
 have H:=hide h
 have HZ:=hide hz
 clear h hz
 obtain ⟨n,hn⟩:∃ n,zs.length=n:=⟨_,rfl⟩
 rw [hn] at H hl ⊢
 have HN:=hide hn
 clear hn
 go_enter Tryz.func19,Tryz.ntmps19
 go_wp2_with fail
 go_loopw [3,4] (fun ov iv wr=>∃ (k:Nat) (es:List WE),iv=.int .i64 k∧k≤n∧Below w.heap.size w wr∧es.length=k∧RwO w.heap.size wr ov es∧∀ (j:Nat) (e:WE) (z:Int),es[j]? = some e→zs[j]? = some z→Canon e.zs∧val e.zs=(z.natAbs:Int)∧e.ng=decide (z<0)∧e.zs.length≤2) (fun _ iv _=>n - (intOf iv).toNat)
 case atStart=>exact ⟨0,[],rfl,Nat.zero_le _,Below.refl _ _,rfl,avx _ _,fun j e z he=>(by simp at he)⟩
 case round =>
  obtain ⟨k,es,rfl,hk,hbw,hes,hown,hall⟩:=hrel
  have HW:=hide hbw
  have HES:=hide hes
  have HOWN:=hide hown
  have HALL:=hide hall
  by_cases hlt:k<n
  ·obtain ⟨b,off,rfl,hc⟩:=(show Nums wr (.slice ao n cap) zs from Ce.below H.out hbw).cell (i:=k) (by have:=HN.out;omega)
   have hget:zs[k]? = some (zs[k]'(by have:=HN.out;omega)):=List.getElem?_eq_getElem _
   generalize zs[k]'(by have:=HN.out;omega)=z at hc hget
   have HG:=hide hget
   have hzb:=HZ.out z (List.mem_of_getElem? hget)
   have hlt' : (k:Int)<(n:Int):=by omega
   obtain ⟨aov,capv,hov,_⟩:=Cl.own hown.own
   subst hov
   clear hbw hes hown hall hget
   go_wp2_with fail
   refine (atl wr z hzb.1 hzb.2).mono ?_
   rintro e w2 ⟨r2,rfl,hf2,hb2⟩
   obtain ⟨ng2,ao2,cap2,rs2,B2,T2,rfl,hwf,hB2,hT2,hl2⟩:=hf2
   have hA:=hAl w2 (.cells #[.bool ng2,.slice ao2 rs2.length cap2] 38)
   have hb2' := hb2.trans (hA.mono hb2.size)
   have hR2:=HOWN.out.below hb2'
   have hO2:One _ w2.heap.size ng2 ao2 rs2.length cap2:=heap_alloc_new w2 (.cells #[.bool ng2,.slice ao2 rs2.length cap2] 38)
   have hS2:Ow w.heap.size _ (.slice ao2 rs2.length cap2) rs2:=(hwf.fr.ow.mono (Nat.le_trans HW.out.size hB2)).below hA
   have hsz:w.heap.size≤(w2.alloc (.cells #[.bool ng2,.slice ao2 rs2.length cap2] 38)).heap.size:=Nat.le_trans HW.out.size hb2'.size
   go_wp2_with (at_builtin;refine al2 rfl (avy (i:=11) (j:=17) rfl rfl hR2 hO2 hS2 (by rw [HES.out];omega) hsz) ?_)
   intro v3 w3 hR3 hb3
   obtain ⟨aov3,capv3,hov3,_⟩:=Cl.own hR3.own
   subst hov3
   have HR3:=hide hR3
   have HB3:=hide ((HW.out.trans (hb2'.mono HW.out.size)).trans hb3)
   have HWF:=hide hwf
   clear hR3 hb3 hR2 hO2 hS2 hsz hA hb2 hb2' hwf hB2 hT2
   go_wp2
   go_roundw
   case rel =>
    refine ⟨k+1,es ++ [⟨ng2,ao2,rs2.length,cap2,rs2⟩],by go_num,by omega,HB3.out,by simp [HES.out],HR3.out,fun j e y he hy=>?_⟩
    by_cases hj:j<es.length
    ·rw [List.getElem?_append_left hj] at he
     exact HALL.out j e y he hy
    ·have hjl:=(List.getElem?_eq_some_iff.1 he).1
     simp at hjl
     obtain rfl:j=es.length:=by omega
     rw [List.getElem?_append_right (Nat.le_refl _)] at he
     simp at he
     subst he
     rw [HES.out,HG.out] at hy
     obtain rfl:=Option.some.inj hy
     exact ⟨HWF.out.fr.canon,HWF.out.fr.val,HWF.out.sgn,hl2⟩
   case measure=>simp [intOf];omega
  ·have hlt' : decide ((k:Int)<(n:Int))=false:=by simp;omega
   have hkn:k=n:=by omega
   subst hkn
   clear hbw hes hown hall
   go_wp2
   refine bodyPost_ret (v:=_) (adx rfl rfl) rfl ⟨_,rfl,⟨es,HOWN.out.rw,by rw [HES.out,HN.out],HALL.out⟩,HW.out⟩
end Lm
end Go.Proofs.YtdjgifcmhafppaaGreatDoor
namespace Go.Proofs.YtdjgifcmhafppaaGreatDoor
namespace Lm
open Go Go.RowKit
def ov (x y:Int):Int:=sg (decide (x<0) != decide (y<0)) ((x.natAbs:Int) / (y.natAbs:Int))
section
end
theorem ayo (n:Int):bits .and .i64 n 4611686018427387903=n % 4611686018427387904:=by
 have h63:(BitVec.ofInt 64 4611686018427387903).toNat=2 ^ 62 - 1:=by decide
 have key:(BitVec.ofInt 64 n &&& BitVec.ofInt 64 4611686018427387903).toNat=(n % ((2 ^ 64:Nat):Int)).toNat % 2 ^ 62:=by
  rw [BitVec.toNat_and,BitVec.toNat_ofInt,h63,Nat.and_two_pow_sub_one_eq_mod]
 show IntKind.i64.wrap ((BitVec.ofInt 64 n &&& BitVec.ofInt 64 4611686018427387903).toNat:Nat)=n % 4611686018427387904
 rw [key,IntKind.wrap_i64]
 omega
theorem axp (v:Int) (m:Nat) (hm:m≠0):∃ V:Nat,(bits .and .i64 v 4611686018427387903).tmod (m:Int)=(V:Int)∧V<m:=by
 rw [ayo]
 obtain ⟨u,hu⟩:∃ u:Nat,v % 4611686018427387904=(u:Int):=⟨(v % 4611686018427387904).toNat,by omega⟩
 rw [hu]
 exact ⟨u % m,by rw [Int.ofNat_tmod],Nat.mod_lt _ (by omega)⟩
theorem atm (a b:Int):IntKind.i64.wrap (IntKind.i64.wrap a+b)=IntKind.i64.wrap (a+b):=by
 rw [IntKind.wrap_i64,IntKind.wrap_i64,IntKind.wrap_i64]
 omega
theorem av1 {a:Int} (h:0≤a) (h' : a≤9223372036854775807):IntKind.i64.wrap a=a:=by
 rw [IntKind.wrap_i64]
 omega
set_option maxRecDepth 20000 in
set_option maxHeartbeats 4000000 in
theorem atn (w:World) (ax:Option Addr) (mx cx:Nat) (xs:List WE) (R:Rw w (.slice ax mx cx) xs) (hm:∀ e ∈ xs,e.m≤35184372088832) :
  Calls Tryz.prog 6 #[.slice ax mx cx] w fun e w'=>e=.returned (.int .i64 (IntKind.i64.wrap (lenW xs:Int)))∧Below w.heap.size w w' := by
 have HX:=hide R
 have HNx:Hid (mx=xs.length):=R.parts.1
 have hml:mx≤9223372036854775807:=by have:=R.parts;omega
 have HMM:=hide hm
 clear R hm
 go_enter Tryz.func6,Tryz.ntmps6
 go_wp2_with fail
 go_loopw [3,4] (fun sv iv wr=>∃ (k:Nat) (s:Int),iv=.int .i64 k∧k≤mx∧sv=.int .i64 s∧s=IntKind.i64.wrap (lenW (xs.take k):Int)∧Below w.heap.size w wr) (fun _ iv _=>mx - (intOf iv).toNat)
 case atStart=>exact ⟨0,0,rfl,Nat.zero_le _,rfl,rfl,Below.refl _ _⟩
 case round =>
  obtain ⟨k,s,rfl,hk,rfl,hsw,hbw⟩:=hrel
  have HSW:=hide hsw
  by_cases hlt:k<mx
  ·have hlt' : (k:Int)<(mx:Int):=by omega
   have HLT:=hide hlt
   obtain ⟨ex,hex⟩:∃ e,xs[k]? = some e:=⟨_,List.getElem?_eq_getElem (by have:=HNx.out;omega)⟩
   obtain ⟨bx,ox,hAx,hlx0,hcx⟩:=HX.out.cells (by have:=HNx.out;omega)
   subst hAx
   have hlx:bx<wr.heap.size:=Nat.lt_of_lt_of_le hlx0 hbw.size
   have x0:=(hbw.cell (p:=⟨bx,ox+k*2,none⟩) hlx0).trans (hcx _ _ (adk hex).1)
   have x1:wr.cell? ⟨bx,ox+k*2+1,none⟩ = some (.slice ex.a ex.m ex.c):=(hbw.cell (p:=⟨bx,ox+k*2+1,none⟩) hlx0).trans (hcx _ _ (adk hex).2)
   have hs:=aqp hex
   have hem:=HMM.out ex (List.mem_of_getElem? hex)
   have HW:=hide hbw
   have K1:=hide (asg wr ex.ng ex.a ex.m ex.c (by omega))
   obtain ⟨t,hadd⟩:∃ t,IntKind.i64.wrap (s+(1+(ex.m:Int)))=t:=⟨_,rfl⟩
   have HT:Hid (t=IntKind.i64.wrap (lenW (xs.take (k+1)):Int)):=(show t = _ by
    rw [←hadd,HSW.out,atm,hs]
    first | done | rfl | (congr 1;omega) | simp)
   clear hbw hs hsw hex hcx hlx
   go_wp2_with fail
   refine K1.out.mono ?_
   rintro e w2 ⟨rfl,hb2⟩
   have HB2:=hide (HW.out.trans (hb2.mono HW.out.size))
   clear hb2 x0 x1 hlx0
   go_wp2
   go_roundw
   case rel=>exact ⟨k+1,t,by go_num,HLT.out,rfl,HT.out,HB2.out⟩
   case measure=>have:=HLT.out;simp [intOf];omega
  ·have hlt' : decide ((k:Int)<(mx:Int))=false:=by simp;omega
   have hkn:k=mx:=by omega
   subst hkn
   have HW:=hide hbw
   clear hbw hsw
   go_wp2
   refine bodyPost_ret (v:=_) (adx rfl rfl) rfl ⟨?_,HW.out⟩
   have:=HSW.out
   rw [List.take_of_length_le (by have:=HNx.out;omega)] at this
   rw [←this]
   rfl
theorem amy {M:Nat} : ∀ {es:List WE},(∀ e ∈ es,e.m≤M)→lenW es≤es.length*(1+M)
 | [],_=>Nat.zero_le _
 | e :: es,h=>by
  have h1:=amy (es:=es) (fun x hx=>h x (by simp [hx]))
  have h2:=h e (by simp)
  have e1:lenW (e :: es)=1+e.m+lenW es:=by simp [lenW]
  rw [e1,List.length_cons,Nat.add_mul]
  omega
end Lm
end Go.Proofs.YtdjgifcmhafppaaGreatDoor
