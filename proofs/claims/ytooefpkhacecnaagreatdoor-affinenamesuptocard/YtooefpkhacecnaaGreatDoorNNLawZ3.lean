/-
  What the text behind the last one leans on, part 3.
-/
import Derived.Lib.OthersKept
import Derived.Laws.RangeAny
import Derived.Lib.Strings
import Derived.Laws.BytesArg
import Derived.Handy
import Derived.Test.YtooefpkhacecnaaGreatDoorNNLawZ2
set_option maxRecDepth 20000
set_option maxHeartbeats 40000000
namespace Go.Proofs.YtooefpkhacecnaaGreatDoor
namespace Lm
open Go Go.RowKit
def skp:Bool->List Gl->List Gl
 |_,[]=>[]
 |true,g::gs=>skp (decide (g.code≠10)) gs
 |false,g::gs=>if gcls g.code=6 then skp true gs else if gcls g.code=1 then skp false gs else g::gs
def nxtS(w:World)(q:Nat):Nat:=match w.cell? ⟨q,2,none⟩with|some (.int _ z)=>z.toNat|_=>0
theorem Scn.nxt{w:World}{q:Nat}{s:ByteArray}{v:Value}{gs:List Gl}{i:Nat}{e:Pl}(h:Scn w q s v gs i e):Lm.nxtS w q=i:=by
 obtain⟨ao,cap,rfl⟩:=h.gls.isSlice;unfold Lm.nxtS;rw[h.cells.k2];simp
theorem amc(w:World)(q:Nat)(s:ByteArray)(v:Value)(gs:List Gl)(i:Nat)(e:Pl)(h:Scn w q s v gs i e)(hn:gs.length<=100000):
  Calls Tryz.prog 100 #[.pointer (some ⟨q,0,none⟩)] w fun r w'=>r=.returned (.tuple #[])/\Tq w w' q/\∃j,i<=j/\gs.drop j=skp false (gs.drop i)/\Scn w' q s v gs j e:=by
 have H:=hide h;clear h;go_enter Tryz.func100,Tryz.ntmps100
 go_wp2_with fail
 go_loopw [2] (fun cv wr=>∃(j:Nat) (c:Bool),cv=.bool c/\i<=j/\skp false (gs.drop i)=skp c (gs.drop j)/\Scn wr q s v gs j e/\Tq w wr q) (fun _ wr=>gs.length-nxtS wr q)
 case atStart=>exact⟨i,false,rfl,Nat.le_refl _,rfl,H.out,Tq.refl _ _⟩
 case round=>
  obtain⟨j,c,rfl,hij,hsk,hS,hT⟩:=hrel;have HS:=hide hS;have HT:=hide hT;have HK:=hide hsk;have hfr:=hS.free 2;obtain⟨ao,cap,rfl⟩:=hS.gls.isSlice;have IP:=hide hS.nxt;by_cases hj:j<gs.length
  ·obtain⟨b,off,rfl,hg⟩:=hS.gls.glyph (List.getElem?_eq_getElem hj);have hdr:=List.drop_eq_getElem_cons hj;generalize gs[j]=g at hg hdr;have HD:=hide hdr;obtain⟨hq,k0,k1,k2,k3,k4,k5,k6⟩:=hS.cells;have hj':(j:Int)<(gs.length:Int):=by omega
   have HG:=hide hg;clear hS hT hsk hdr hg;go_wp2_with fail
   go_quiet (fail)
   clear k0 k1 k2 k3 k4 k5 k6 hq;have hbq:Below wr.heap.size wr (wr.drewN nq):=gdrewN (Below.refl _ _) nq;have HS1:=hide (HS.out.below hbq);have HT1:=hide (HT.out.trans (.of_below hbq));have HG1:=hide (HG.out.below hbq);clear HS HT HG hbq hfr;generalize wr.drewN nq=w1 at HS1 HT1 HG1 ⊢;obtain⟨hq,k0,k1,k2,k3,k4,k5,k6⟩:=HS1.out.cells;obtain⟨hb,g0,g1,g2,g3,g4,g5⟩:=HG1.out;have hfr:=HS1.out.free 2;go_wp2_with fail
   go_region
   clear k0 k1 k3 k4 k5 k6 g0 g1 g2 g3 g4 g5;have HS2:=hide (HS1.out.set (by omega));have HT2:=hide (HT1.out.set 2 (.int .i64 ((j:Int)+1)));cases c with
   |true=>
    by_cases h10:g.code=10
    ·have hne:((g.code:Int) != 10)=false:=by rw[h10];rfl
     go_wp2;go_roundw
     case rel=>exact⟨j+1,false,rfl,by omega,by rw[HK.out,HD.out,skp];simp[h10],HS2.out.below (by(repeat' first|with_reducible(first|exact Below.refl _ _|assumption|refine gdrewN ?_ _|refine Below.alloc ?_ ?_ _|refine Below.drew ?_|refine Below.setCell ?_ ?_ _)|go_size)),HT2.out.trans (.of_below (by(repeat' first|with_reducible(first|exact Below.refl _ _|assumption|refine gdrewN ?_ _|refine Below.alloc ?_ ?_ _|refine Below.drew ?_|refine Below.setCell ?_ ?_ _)|go_size)))⟩
     case measure=>rw[IP.out,(HS2.out.below (by(repeat' first|with_reducible(first|exact Below.refl _ _|assumption|refine gdrewN ?_ _|refine Below.alloc ?_ ?_ _|refine Below.drew ?_|refine Below.setCell ?_ ?_ _)|go_size))).nxt];omega
    ·have hne:((g.code:Int) != 10)=true:=by simp;omega
     go_wp2;go_roundw
     case rel=>exact⟨j+1,true,rfl,by omega,by rw[HK.out,HD.out,skp];simp[h10],HS2.out.below (by(repeat' first|with_reducible(first|exact Below.refl _ _|assumption|refine gdrewN ?_ _|refine Below.alloc ?_ ?_ _|refine Below.drew ?_|refine Below.setCell ?_ ?_ _)|go_size)),HT2.out.trans (.of_below (by(repeat' first|with_reducible(first|exact Below.refl _ _|assumption|refine gdrewN ?_ _|refine Below.alloc ?_ ?_ _|refine Below.drew ?_|refine Below.setCell ?_ ?_ _)|go_size)))⟩
     case measure=>rw[IP.out,(HS2.out.below (by(repeat' first|with_reducible(first|exact Below.refl _ _|assumption|refine gdrewN ?_ _|refine Below.alloc ?_ ?_ _|refine Below.drew ?_|refine Below.setCell ?_ ?_ _)|go_size))).nxt];omega
   |false=>
    by_cases h6:gcls g.code=6
    ·have hne:(gcls g.code==6)=true:=by rw[h6];rfl
     go_wp2;go_roundw
     case rel=>exact⟨j+1,true,rfl,by omega,by rw[HK.out,HD.out,skp];simp[h6],HS2.out.below (by(repeat' first|with_reducible(first|exact Below.refl _ _|assumption|refine gdrewN ?_ _|refine Below.alloc ?_ ?_ _|refine Below.drew ?_|refine Below.setCell ?_ ?_ _)|go_size)),HT2.out.trans (.of_below (by(repeat' first|with_reducible(first|exact Below.refl _ _|assumption|refine gdrewN ?_ _|refine Below.alloc ?_ ?_ _|refine Below.drew ?_|refine Below.setCell ?_ ?_ _)|go_size)))⟩
     case measure=>rw[IP.out,(HS2.out.below (by(repeat' first|with_reducible(first|exact Below.refl _ _|assumption|refine gdrewN ?_ _|refine Below.alloc ?_ ?_ _|refine Below.drew ?_|refine Below.setCell ?_ ?_ _)|go_size))).nxt];omega
    ·have hne:(gcls g.code==6)=false:=by simp[h6]
     by_cases h1:gcls g.code=1
     ·have hne1:(gcls g.code != 1)=false:=by simp[h1]
      go_wp2;go_roundw
      case rel=>exact⟨j+1,false,rfl,by omega,by rw[HK.out,HD.out,skp];simp[h1],HS2.out.below (by(repeat' first|with_reducible(first|exact Below.refl _ _|assumption|refine gdrewN ?_ _|refine Below.alloc ?_ ?_ _|refine Below.drew ?_|refine Below.setCell ?_ ?_ _)|go_size)),HT2.out.trans (.of_below (by(repeat' first|with_reducible(first|exact Below.refl _ _|assumption|refine gdrewN ?_ _|refine Below.alloc ?_ ?_ _|refine Below.drew ?_|refine Below.setCell ?_ ?_ _)|go_size)))⟩
      case measure=>rw[IP.out,(HS2.out.below (by(repeat' first|with_reducible(first|exact Below.refl _ _|assumption|refine gdrewN ?_ _|refine Below.alloc ?_ ?_ _|refine Below.drew ?_|refine Below.setCell ?_ ?_ _)|go_size))).nxt];omega
     ·have hne1:(gcls g.code != 1)=true:=by simp[h1]
      go_wp2;go_returns
      exact⟨rfl,HT1.out.trans (.of_below (by(repeat' first|with_reducible(first|exact Below.refl _ _|assumption|refine gdrewN ?_ _|refine Below.alloc ?_ ?_ _|refine Below.drew ?_|refine Below.setCell ?_ ?_ _)|go_size))),j,hij,by rw[HK.out,HD.out,skp];simp[h6,h1],HS1.out.below (by(repeat' first|with_reducible(first|exact Below.refl _ _|assumption|refine gdrewN ?_ _|refine Below.alloc ?_ ?_ _|refine Below.drew ?_|refine Below.setCell ?_ ?_ _)|go_size))⟩
  ·have hdr:gs.drop j = []:=List.drop_eq_nil_of_le (by omega);have HD:=hide hdr;obtain⟨hq,k0,k1,k2,k3,k4,k5,k6⟩:=hS.cells;have hj':decide ((j:Int)<(gs.length:Int))=false:=by simp;omega
   clear hS hT hsk hdr;go_wp2_with fail
   go_quiet (fail)
   go_wp2;go_end0
   exact⟨rfl,HT.out.trans (.of_below (by(repeat' first|with_reducible(first|exact Below.refl _ _|assumption|refine gdrewN ?_ _|refine Below.alloc ?_ ?_ _|refine Below.drew ?_|refine Below.setCell ?_ ?_ _)|go_size))),j,hij,by rw[HK.out,HD.out];cases c <;> rfl,HS.out.below (by(repeat' first|with_reducible(first|exact Below.refl _ _|assumption|refine gdrewN ?_ _|refine Below.alloc ?_ ?_ _|refine Below.drew ?_|refine Below.setCell ?_ ?_ _)|go_size))⟩
def Nums(w:World)(v:Value)(zs:List Int):Prop:=Ce w v 1 zs.length (zs.map (Value.int .i64))
theorem Nums.cell{w:World}{ao:Option Addr}{n cap:Nat}{zs:List Int}{i:Nat}(h:Nums w (.slice ao n cap) zs)(hi:i<zs.length):∃b off,ao=some ⟨b,off,none⟩/\w.cell? ⟨b,off+i,none⟩=some (.int .i64 zs[i]):=by
 obtain⟨ao',cap',hv,c1,c2,c3,c4⟩:=h;obtain⟨rfl,rfl,rfl⟩:=(Value.slice.injEq .. ▸ hv);rcases c4 with c4|⟨b,off,rfl,hl,hc⟩
 ·omega
 ·exact⟨b,off,rfl,hc _ _ (by simp[hi])⟩
theorem Nums.parts{w:World}{ao:Option Addr}{n cap:Nat}{zs:List Int}(h:Nums w (.slice ao n cap) zs):n=zs.length/\n<=9223372036854775807:=by
 obtain⟨ao',cap',hv,c1,c2,c3,c4⟩:=h;obtain⟨rfl,rfl,rfl⟩:=(Value.slice.injEq .. ▸ hv);exact⟨rfl,by omega⟩
theorem at2(w:World)(ao:Option Addr)(n cap:Nat)(zs:List Int)(z:Int)(h:Nums w (.slice ao n cap) zs):
  Calls Tryz.prog 193 #[.slice ao n cap,.int .i64 z] w fun e w'=>(∃r:Int,e=.returned (.int .i64 r)/\decide (0<=r)=decide (z∈zs))/\w'=w:=by
 obtain⟨hn,hb⟩:=h.parts;have H:=hide h;clear h;go_enter Tryz.func193,Tryz.ntmps193
 go_wp2;go_loopw [5,8] (fun _ iv wr=>∃(i:Nat),iv=.int .i64 i/\i<=n/\z∉zs.take i/\wr=w) (fun _ iv _=>n-(intOf iv).toNat)
 case atStart=>exact⟨0,rfl,Nat.zero_le _,by simp,rfl⟩
 case round=>
  obtain⟨i,rfl,hi,hz,rfl⟩:=hrel;have HZ:=hide hz;clear hz;by_cases hlt:i<n
  ·obtain⟨b,off,rfl,hc⟩:=H.out.cell (i:=i) (by omega);have hlt':(i:Int)<(n:Int):=by omega
   have hget:zs[i]? = some (zs[i]'(by omega)):=List.getElem?_eq_getElem _;generalize zs[i]'(by omega)=y at hc hget;have HG:=hide hget;clear hget;by_cases he:z=y
   ·subst he;go_wp2;go_ret;exact⟨⟨i,rfl,by simp[List.mem_of_getElem? HG.out]⟩,rfl⟩
   ·have hne:(z==y)=false:=beq_eq_false_iff_ne.2 he;go_wp2;go_roundw
    case rel=>exact⟨i+1,by go_num,by omega,by rw[List.take_add_one,HG.out];simp[HZ.out,he],trivial⟩
    case measure=>simp[intOf];omega
  ·have hlt':decide ((i:Int)<(n:Int))=false:=by simp;omega
   go_wp2;go_ret;exact⟨⟨-1,rfl,by have:=HZ.out;rw[List.take_of_length_le (by omega)]at this;simp[this]⟩,rfl⟩
theorem agx(w:World)(ao:Option Addr)(n cap:Nat)(zs:List Int)(z:Int)(h:Nums w (.slice ao n cap) zs):
  Calls Tryz.prog 180 #[.slice ao n cap,.int .i64 z] w fun e w'=>e=.returned (.bool (decide (z∈zs)))/\w'=w:=by
 have H:=hide h;clear h;go_enter Tryz.func180,Tryz.ntmps180
 go_wp2_with fail
 refine(at2 _ _ _ _ zs _ H.out).mono ?_;rintro e w' ⟨⟨r,rfl,hr⟩,rfl⟩;go_wp2;go_ret;exact⟨rfl,rfl⟩
theorem Ce.tq{w w':World}{q:Nat}{v:Value}{size n:Nat}{xs:List Value}(h:Ce w v size n xs)(ht:Tq w w' q)(ha:∀b off n c,v=.slice (some ⟨b,off,none⟩) n c->b≠q):Ce w' v size n xs:=by
 obtain⟨ao,cap,rfl,h1,h2,h3,h4⟩:=h;refine⟨ao,cap,rfl,h1,h2,h3,?_⟩;rcases h4 with h4|⟨b,off,rfl,hl,hc⟩
 ·exact .inl h4
 ·refine .inr ⟨b,off,rfl,Nat.lt_of_lt_of_le hl ht.size,fun j u hu=>?_⟩;rw[World.cell?_of_block (w:=w) (ht.other b hl (ha _ _ _ _ rfl))];exact hc j u hu
def PlB(w:World)(f:Nat)(p:Pl):Prop:=w.heap[f]? = some (.cells #[.int .i64 p.b,.int .i64 p.g,.int .i64 p.l,.int .i64 p.c] 56 (0,0))
theorem PlB.below{w w':World}{f:Nat}{p:Pl}(h:PlB w f p)(hb:Below w.heap.size w w'):PlB w' f p:=(hb.block f (aaa h)).trans h
theorem PlB.tq{w w':World}{f q:Nat}{p:Pl}(h:PlB w f p)(ht:Tq w w' q)(hn:f≠q):PlB w' f p:=(ht.other f (aaa h) hn).trans h
theorem PlB.cells{w:World}{f:Nat}{p:Pl}(h:PlB w f p):f<w.heap.size/\w.cell? ⟨f,0,none⟩=some (.int .i64 p.b)/\w.cell? ⟨f,1,none⟩=some (.int .i64 p.g)/\w.cell? ⟨f,2,none⟩=some (.int .i64 p.l)/\w.cell? ⟨f,3,none⟩=some (.int .i64 p.c):=by
 exact⟨aaa h,by rw[cell_of_row w f 0 _ _ _ h];rfl,by rw[cell_of_row w f 1 _ _ _ h];rfl,by rw[cell_of_row w f 2 _ _ _ h];rfl,by rw[cell_of_row w f 3 _ _ _ h];rfl⟩
def inC(cs:List Int)(g:Gl):Bool:=decide (gcls g.code∈cs)
theorem apc(w:World)(q:Nat)(s:ByteArray)(v:Value)(gs:List Gl)(i:Nat)(e:Pl)(h:Scn w q s v gs i e)(hn:gs.length<=100000)(ca:Option Addr)(cn cc:Nat)(cs:List Int)(hc:Nums w (.slice ca cn cc) cs)(hca:∀b off n c,Value.slice ca cn cc=.slice (some ⟨b,off,none⟩) n c->b≠q)(hQ:Snd s pl0 gs e)(_hs:s.size<=100000):
  Calls Tryz.prog 165 #[.pointer (some ⟨q,0,none⟩),.slice ca cn cc] w fun r w'=>∃j,i<=j/\gs.drop j=(gs.drop i).dropWhile (inC cs)/\r=.returned (.tuple #[.string (s.extract (plf (gs.drop i) e).b (plf (gs.drop j) e).b),.int .i64 ((j-i:Nat):Int)])/\Scn w' q s v gs j e/\Tq w w' q:=by
 have H:=hide h;have HC:=hide hc;have HA:=hide hca;have hF:=(hQ.drop aec (Nat.zero_le _) i h.le);have hF':=hide hF;clear h hc hca hF;generalize hFp:plf (gs.drop i) e=F at hF';have HFp:=hide hFp;clear hFp;go_enter Tryz.func165,Tryz.ntmps165
 go_wp2_with fail
 refine(afd _ _ _ _ _ _ _ H.out).mono ?_;rintro r w1 ⟨rfl,hb1⟩;rw[HFp.out];unfold Pl.v;go_wp2;have hqs:q<w.heap.size:=aaa H.out.blk;have hb2:Below w1.heap.size w1 (w1.alloc (.cells #[.int .i64 F.b,.int .i64 F.g,.int .i64 F.l,.int .i64 F.c] 56)):=(Below.refl _ _).alloc (Nat.le_refl _) _;have hp2:PlB (w1.alloc (.cells #[.int .i64 F.b,.int .i64 F.g,.int .i64 F.l,.int .i64 F.c] 56)) w1.heap.size F:=heap_alloc_new w1 _;have hf1:=hb1.size;generalize w1.alloc (.cells #[.int .i64 F.b,.int .i64 F.g,.int .i64 F.l,.int .i64 F.c] 56)=w2 at hb2 hp2 ⊢;have hb:Below w.heap.size w w2:=hb1.trans (hb2.mono hf1);clear hb1 hb2;have hfq:w1.heap.size≠q:=by omega
 generalize w1.heap.size=f at hp2 hfq ⊢;clear hf1;have HP:=hide hp2;have HB:=hide hb;have HS0:=hide (H.out.below hb);have HN0:=hide (Ce.below HC.out hb);clear hb hp2;go_loopw [] (fun wr=>∃(j:Nat),i<=j/\(gs.drop i).dropWhile (inC cs)=(gs.drop j).dropWhile (inC cs)/\Scn wr q s v gs j e/\Tq w2 wr q) (fun wr=>gs.length-nxtS wr q)
 case atStart=>exact⟨i,Nat.le_refl _,rfl,HS0.out,Tq.refl _ _⟩
 case round=>
  obtain⟨j,hij,hsk,hS,hT⟩:=hrel;have HS:=hide hS;have HT:=hide hT;have HK:=hide hsk;have IP:=hide hS.nxt;have HN:=hide (Ce.tq HN0.out hT HA.out);have HP':=hide (HP.out.tq hT hfq);have hTd:=hQ.drop aec (Nat.zero_le _) j hS.le;have hTe:=hF'.out.1.drop hF'.out.2.1 hF'.out.2.2.2.1 (j-i) (by rw[List.length_drop];have:=hS.le;omega);rw[List.drop_drop,show i+(j-i)=j from by omega]at hTe;generalize hTp:plf (gs.drop j) e=T at hTd hTe;have HTp:=hide hTp;have HZ:=hide (show(F.b:Int)<=(T.b:Int)/\(T.b:Int)<=(s.size:Int)/\(T.g:Int)=(j:Int)/\(F.g:Int)=(i:Int) by have:=hF'.out.2.2.2.2;simp only[pl0]at this hTd;omega);clear hTp hTd hTe;have hjl:(j:Int)<=100000:=by have:=hS.le;omega
  have hil:(i:Int)<=(j:Int):=by omega
  obtain⟨ao,cap,rfl⟩:=hS.gls.isSlice;by_cases hj:j<gs.length
  ·obtain⟨b,off,rfl,hg⟩:=hS.gls.glyph (List.getElem?_eq_getElem hj);have hdr:=List.drop_eq_getElem_cons hj;generalize gs[j]=g at hg hdr;have HD:=hide hdr;obtain⟨hq,k0,k1,k2,k3,k4,k5,k6⟩:=hS.cells;obtain⟨hb,g0,g1,g2,g3,g4,g5⟩:=hg;have hfr:=hS.free 2;have hj':(j:Int)<(gs.length:Int):=by omega
   clear hS hT hsk hdr;by_cases hin:gcls g.code∈cs
   ·have KC:∀nq,Calls Tryz.prog 180 #[.slice ca cn cc,.int .i64 (gcls g.code)] (wr.drewN nq) fun e w'=>e=.returned (.bool true)/\w'=wr.drewN nq:=by
     intro nq;have:=agx (wr.drewN nq) ca cn cc cs (gcls g.code) (Ce.below HN.out (gdrewN (Below.refl _ _) nq));rwa[decide_eq_true hin]at this
    go_wp2_with fail
    go_quiet (first|(go_at_call 180;exact Calls.quiet_of_same (KC _)))
    go_wp2;go_roundw
    case rel=>exact⟨j+1,by omega,by rw[HK.out,HD.out,List.dropWhile_cons_of_pos (by simpa[inC]using hin)],(HS.out.below (by(repeat' first|with_reducible(first|exact Below.refl _ _|assumption|refine gdrewN ?_ _|refine Below.alloc ?_ ?_ _|refine Below.drew ?_|refine Below.setCell ?_ ?_ _)|go_size))).set (by omega),(HT.out.trans (.of_below (by(repeat' first|with_reducible(first|exact Below.refl _ _|assumption|refine gdrewN ?_ _|refine Below.alloc ?_ ?_ _|refine Below.drew ?_|refine Below.setCell ?_ ?_ _)|go_size)))).set 2 _⟩
    case measure=>rw[IP.out,((HS.out.below (by(repeat' first|with_reducible(first|exact Below.refl _ _|assumption|refine gdrewN ?_ _|refine Below.alloc ?_ ?_ _|refine Below.drew ?_|refine Below.setCell ?_ ?_ _)|go_size))).set (by omega)).nxt];omega
   ·have KC:∀nq,Calls Tryz.prog 180 #[.slice ca cn cc,.int .i64 (gcls g.code)] (wr.drewN nq) fun e w'=>e=.returned (.bool false)/\w'=wr.drewN nq:=by
     intro nq;have:=agx (wr.drewN nq) ca cn cc cs (gcls g.code) (Ce.below HN.out (gdrewN (Below.refl _ _) nq));rwa[decide_eq_false hin]at this
    go_wp2_with fail
    go_quiet (first|(go_at_call 180;exact Calls.quiet_of_same (KC _)))
    clear k0 k1 k2 k3 k4 k5 k6 hq g0 g1 g2 g3 g4 g5 hb KC;have hbq:Below wr.heap.size wr (wr.drewN nq):=gdrewN (Below.refl _ _) nq;have HS2:=hide (HS.out.below hbq);have HT2:=hide (HT.out.trans (.of_below hbq));have HP2:=hide (HP'.out.below hbq);clear HS HT HP' hbq hfr HN;generalize wr.drewN nq=w3 at HS2 HT2 HP2 ⊢;go_wp2_with fail
    refine(afd _ _ _ _ _ _ _ HS2.out).mono ?_;rintro r w4 ⟨rfl,hb4⟩;rw[HTp.out];unfold Pl.v;have HS4:=hide (HS2.out.below hb4);have HT4:=hide (HT2.out.trans (.of_below hb4));have HP4:=hide (HP2.out.below hb4);clear hb4 HS2 HT2 HP2;obtain⟨hq,k0,k1,k2,k3,k4,k5,k6⟩:=HS4.out.cells;obtain⟨hf,p0,p1,p2,p3⟩:=HP4.out.cells;clear k1 k2 k3 k4 k5 k6 p2 p3;obtain⟨z1,z2,z3,z4⟩:=HZ.out;go_wp2_with fail
    go_quiet (fail)
    go_wp2;go_ret2
    exact⟨j,hij,by rw[HK.out];exact(by rw[HD.out,List.dropWhile_cons_of_neg (by simpa[inC]using hin)]),by rw[HTp.out];simp;omega,HS4.out.below (by(repeat' first|with_reducible(first|exact Below.refl _ _|assumption|refine gdrewN ?_ _|refine Below.alloc ?_ ?_ _|refine Below.drew ?_|refine Below.setCell ?_ ?_ _)|go_size)),(Tq.of_below HB.out).trans (HT4.out.trans (.of_below (by(repeat' first|with_reducible(first|exact Below.refl _ _|assumption|refine gdrewN ?_ _|refine Below.alloc ?_ ?_ _|refine Below.drew ?_|refine Below.setCell ?_ ?_ _)|go_size))))⟩
  ·have hdr:gs.drop j = []:=List.drop_eq_nil_of_le (by omega);have HD:=hide hdr;obtain⟨hq,k0,k1,k2,k3,k4,k5,k6⟩:=hS.cells;have hfr:=hS.free 2;have hj':decide ((j:Int)<(gs.length:Int))=false:=by simp;omega
   clear hS hT hsk hdr;go_wp2_with fail
   go_quiet (fail)
   clear k0 k1 k2 k3 k4 k5 k6 hq;have hbq:Below wr.heap.size wr (wr.drewN nq):=gdrewN (Below.refl _ _) nq;have HS2:=hide (HS.out.below hbq);have HT2:=hide (HT.out.trans (.of_below hbq));have HP2:=hide (HP'.out.below hbq);clear HS HT HP' hbq hfr HN;generalize wr.drewN nq=w3 at HS2 HT2 HP2 ⊢;go_wp2_with fail
   refine(afd _ _ _ _ _ _ _ HS2.out).mono ?_;rintro r w4 ⟨rfl,hb4⟩;rw[HTp.out];unfold Pl.v;have HS4:=hide (HS2.out.below hb4);have HT4:=hide (HT2.out.trans (.of_below hb4));have HP4:=hide (HP2.out.below hb4);clear hb4 HS2 HT2 HP2;obtain⟨hq,k0,k1,k2,k3,k4,k5,k6⟩:=HS4.out.cells;obtain⟨hf,p0,p1,p2,p3⟩:=HP4.out.cells;clear k1 k2 k3 k4 k5 k6 p2 p3;obtain⟨z1,z2,z3,z4⟩:=HZ.out;go_wp2_with fail
   go_quiet (fail)
   go_wp2;go_ret2
   exact⟨j,hij,by rw[HK.out];exact(by rw[HD.out];rfl),by rw[HTp.out];simp;omega,HS4.out.below (by(repeat' first|with_reducible(first|exact Below.refl _ _|assumption|refine gdrewN ?_ _|refine Below.alloc ?_ ?_ _|refine Below.drew ?_|refine Below.setCell ?_ ?_ _)|go_size)),(Tq.of_below HB.out).trans (HT4.out.trans (.of_below (by(repeat' first|with_reducible(first|exact Below.refl _ _|assumption|refine gdrewN ?_ _|refine Below.alloc ?_ ?_ _|refine Below.drew ?_|refine Below.setCell ?_ ?_ _)|go_size))))⟩
end Lm
namespace Lm
open Go.RowKit
theorem at3{zs qs:List Int}{k:Nat}{z c m more s:Int}(hk:qs.length=k)(hz:zs.getD k 0=z)(hs:s=z*m+c)(h:val qs+pw k*c=vf zs k*m+more):
  val (qs ++ [s%4294967296])+pw (k+1)*(s/4294967296)=vf zs (k+1)*m+more:=by
 rw[aa9,vf,hz,hk,pw,Int.add_mul];have e:s=s%4294967296+4294967296*(s/4294967296):=by omega
 have e2:pw k*(s%4294967296)+4294967296*pw k*(s/4294967296)=pw k*s:=by
  rw[Int.mul_comm 4294967296 (pw k),Int.mul_assoc,<-Int.mul_add,<-e]
 have e3:pw k*z*m=pw k*(z*m):=by rw[Int.mul_assoc]
 rw[Int.add_assoc,e2,hs,Int.mul_add,e3];omega
theorem amd{zs:List Int}(h:Limb zs)(hv:zs≠[]->pw (zs.length-1)<=val zs):Canon zs:=by
 refine⟨h,?_⟩;have h1:=aau zs;apply Classical.byContradiction;intro hn;have hne:zs≠[]:=by intro e;subst e;exact hn rfl
 have h2:=hv hne;have h3:=(aab (aaq h (tl zs))).2;rw[aai,List.length_take,Nat.min_eq_left h1]at h3;have h4:=aba (m:=tl zs) (n:=zs.length-1) (by omega);omega
theorem anu{zs qs:List Int}{m more:Int}(hz:Canon zs)(hq:Limb qs)(hl:qs.length=zs.length)(hm:1<=m)(hmo:0<=more)(hv:val qs=val zs*m+more):Canon qs:=by
 apply amd hq;intro hne;have h1:=abh hz (by intro e;subst e;exact hne (List.eq_nil_of_length_eq_zero (by simpa using hl)));have h2:=(aab hz.1).1;have h3:val zs*1<=val zs*m:=Int.mul_le_mul_of_nonneg_left hm h2;rw[hl,hv];omega
theorem ai1{qs:List Int}{c:Int}(hq:Limb qs)(h0:0<c)(h1:c<4294967296):Canon (qs ++ [c]):=by
 refine⟨aal.2 ⟨hq,aag.2 ⟨by omega,aac⟩⟩,?_⟩;have h2:=aha (zs:=qs ++ [c]) (n:=qs.length) (by simp;omega);have h3:=aau (qs ++ [c]);simp at h3 ⊢;omega
def HasN(B:Nat)(w:World)(v:Value)(x:Int)(n:Nat):Prop:=∃zs,w.ownsRow B 70 1 v zs.length (zs.map (Value.int .u32))/\Canon zs/\val zs=x/\zs.length=n
theorem awy{B g cap:Nat}{w:World}{cur:Array Value}{zs:List Int}(hB:B<=g)(hh:w.heap[g]? = some (.cells cur 70 (0,0)))(h1:zs.length<=cap)(h2:cap<=maxLen)(hs:cur.size=cap)(ha:At cur .u32 0 zs):w.ownsRow B 70 1 (.slice (some ⟨g,0,none⟩) zs.length cap) zs.length (zs.map (Value.int .u32)):=by
 refine⟨by simp,.inr ⟨g,cap,cur,rfl,hB,hh,h1,h2,by omega,?_⟩⟩;apply List.ext_getElem?;intro i;rw[List.getElem?_take,List.getElem?_map];by_cases hi:i<zs.length
 ·have e:=ha i hi;rw[Nat.zero_add]at e;rw[if_pos (by omega),Array.getElem?_toList,e,List.getElem?_eq_getElem hi,List.getD_eq_getElem?_getD,List.getElem?_eq_getElem hi];rfl
 ·rw[if_neg (by omega),List.getElem?_eq_none (by omega)];rfl
theorem awz{B n:Nat}{w:World}{v:Value}{zs:List Int}(h:w.ownsRow B 70 1 v n (zs.map (Value.int .u32)))(h0:0<n):∃g cap cur,v=.slice (some ⟨g,0,none⟩) n cap/\B<=g/\w.heap[g]? = some (.cells cur 70 (0,0))/\n<=cap/\cap<=maxLen/\cur.size=cap/\At cur .u32 0 zs:=by
 have hn:zs.length=n:=by simpa using h.1
 rcases h.2 with⟨_,h2⟩|⟨g,cap,cur,rfl,hg,hh,hc1,hc2,hs,ht⟩
 ·omega
 ·refine⟨g,cap,cur,rfl,hg,hh,hc1,hc2,by omega,fun i hi=>?_⟩;have e:(cur.toList.take (n*1))[i]? = (zs.map (Value.int .u32))[i]? :=by rw[ht]
  rw[List.getElem?_take,if_pos (by omega)]at e;rw[Nat.zero_add,<-Array.getElem?_toList,e,List.getElem?_map,List.getElem?_eq_getElem hi,List.getD_eq_getElem?_getD,List.getElem?_eq_getElem hi];rfl
theorem agy{B n:Nat}{w wr w1:World}{v v':Value}{qs:List Int}{c x:Int}{o:Obj}(h:w1.ownsRow B 70 1 v' (n+1) (qs.map (Value.int .u32) ++ [.int .u32 c]))(hg:(wr.alloc o).grownBy w1 v.ownBlock)(hb:Below B w wr)(hB:B<=wr.heap.size)(hl:∀j,v.ownBlock=some j->B<=j/\j<wr.heap.size)
  (hq:qs.length=n) (hc:Canon (qs ++ [c])) (hv:val (qs ++ [c])=x):HasN B w1 v' x (n+1)/\Below B w w1:=by
 subst hq;refine⟨⟨qs ++ [c],by simpa using h,hc,hv,by simp⟩,(hb.alloc hB o).grown hg (by simp;omega) (fun j hj=>(hl j hj).1)⟩
theorem ako(B:Nat)(w:World)(v:Value)(n:Nat)(x m more:Int)(h:HasN B w v x n)(hB:B<=w.heap.size)(hm:1<=m/\m<=1000000000)(hmo:0<=more/\more<4294967296)(hn:n<=100000):
  Calls Tryz.prog 182 #[v,.int .u32 m,.int .u32 more] w fun e w'=>∃v' n',e=.returned v'/\HasN B w' v' (x*m+more) n'/\n'<=n+1/\Below B w w':=by
 obtain⟨zs,hown,hc,hv,hl⟩:=h;obtain⟨i0,hi,hz0,hz1,hz2⟩:=info_parts acf;by_cases h0:0<n
 ·subst hl;obtain⟨g,cap,cur,rfl,hg,hh,hc1,hc2,hcs,hat⟩:=awz hown h0;unfold maxLen at hc2;have HC:=hide hc;have HX:=hide hv;have HH:=hide hh;have HS:=hide hcs;have HA:=hide hat;clear hc hv hown hh hcs hat;go_enter Tryz.func182,Tryz.ntmps182
  go_wp2;go_loopw [7,15] (fun cv i wr=>∃(k:Nat) (c:Int) (qs:List Int) (cur':Array Value),k<=zs.length/\cv=.int .u64 c/\i=.int .i64 k/\(0<=c/\c<4294967296)/\qs.length=k/\Limb qs/\val qs+pw k*c=vf zs k*m+more/\Wr w wr g cur' 70/\cur'.size=cap/\At cur' .u32 0 (qs++zs.drop k)) (fun _ i _=>zs.length-(intOf i).toNat)
  case atStart=>exact⟨0,more,[],cur,Nat.zero_le _,rfl,rfl,hmo,rfl,aac,by simp[val,vf,pw],Wr.refl HH.out,HS.out,by simpa using HA.out⟩
  case round=>
   obtain⟨k,c,qs,cur',hk,rfl,rfl,hcb,hql,hq,hval,hwr,hcs,hat⟩:=hrel;have HQL:=hide hql;have HQ:=hide hq;have HV:=hide hval;have HW:=hide hwr;have HCS:=hide hcs;have HT:=hide hat;clear hql hq hval hwr hcs hat;by_cases hlt:k<zs.length
   ·have hlen:(qs++zs.drop k).length=zs.length:=by have:=HQL.out;simp;omega
    have co:=HT.out.cell HW.out.here k (by rw[hlen];omega);have e1:(qs++zs.drop k).getD k 0=zs.getD k 0:=by
     rw[List.getD_eq_getElem?_getD,List.getElem?_append_right (by have:=HQL.out;omega),List.getElem?_drop,List.getD_eq_getElem?_getD,HQL.out];congr 2;omega
    rw[e1,Nat.zero_add]at co;have hfree:=HW.out.free k;have bz:=aah HC.out.1 k;obtain⟨z,hz⟩:∃z,zs.getD k 0=z:=⟨_,rfl⟩;rw[hz]at co bz;have hzm:0<=z*m/\z*m<=4294967295*1000000000:=by
     refine⟨Int.mul_nonneg bz.1 (by omega),?_⟩;have h1:z*m<=4294967295*m:=Int.mul_le_mul_of_nonneg_right (by omega) (by omega);omega
    have HV':=hide (at3 (m:=m) HQL.out hz rfl HV.out);have HT':=hide (HT.out.set k ((z*m+c)%4294967296));have HW':=hide (HW.out.set k (.int .u32 ((z*m+c)%4294967296)));have d1:(k:Int)<(zs.length:Int):=by omega
    clear hlen e1 hz;go_wp2;go_roundw
    case rel=>exact⟨k+1,(z*m+c)/4294967296,qs ++ [(z*m+c)%4294967296],_,by omega,rfl,by go_num,by omega,by have:=HQL.out;simp;omega,aal.2 ⟨HQ.out,aag.2 ⟨by omega,aac⟩⟩,HV'.out,HW'.out,by simpa using HCS.out,by rw[<-abw qs zs k _ HQL.out (by omega)];simpa using HT'.out⟩
    case measure=>simp[intOf];omega
   ·have hkn:k=zs.length:=by omega
    subst hkn;have hat2:=HT.out;rw[List.drop_of_length_le (Nat.le_refl _),List.append_nil]at hat2;have hown2:=awy (cap:=cap) hg HW.out.here (by have:=HQL.out;omega) (by unfold maxLen;omega) HCS.out hat2;rw[HQL.out]at hown2;have hbw:Below B w wr:=HW.out.below hg;have hvv:=HV.out;rw[abe zs _ (Nat.le_refl _),HX.out]at hvv;have hBr:B<=wr.heap.size:=by rw[HW.out.size];exact hB
    have HVV:=hide hvv;clear hat2 hvv;by_cases hc0:c=0
    ·have HF:Hid (HasN B wr (.slice (some ⟨g,0,none⟩) zs.length cap) (x*m+more) zs.length):=by
      have h9:=HVV.out;rw[hc0,Int.mul_zero,Int.add_zero]at h9;exact⟨qs,by rw[HQL.out];exact hown2,anu HC.out HQ.out HQL.out hm.1 hmo.1 (by rw[HX.out];exact h9),h9,HQL.out⟩
     subst hc0;clear hown2;go_wp2;go_ret;exact⟨_,zs.length,rfl,HF.out,by omega,hbw⟩
    ·have hne:(c != 0)=true:=by rw[bne_iff_ne];exact hc0
     have hcn:=hide (ai1 HQ.out (c:=c) (by omega) hcb.2);go_wp2_with (at_builtin;refine wpList_append_own _ rfl (.tmp 37) (.tmp 40) 38 rfl B 70 i0 (.int .u32 0) 1 4 Tryz.underlying38 hi hz0 hz1 hz2 rfl (by decide) _ _ _ rfl (hown2.alloc _) ⟨wr.heap.size,0,none⟩ 1 1 [.int .u32 c] rfl rfl (cell_one_new _ _ _) ?d2 ?d3 ?d4 ?d5 ?_)
     case d2=>first|rfl|(intro u hu;simp at hu;subst hu;rfl)
     case d3=>unfold maxLen;omega
     case d4=>omega
     case d5=>first|omega|(simp;omega)
     intro v' w1 hown' hgrow _;have R:=agy (x:=x*m+more) hown' hgrow hbw hBr hown2.lt HQL.out hcn.out (by rw[aa9,HQL.out];exact HVV.out);clear hown' hgrow hown2;go_wp2;go_ret;exact⟨_,zs.length+1,rfl,R.1,by omega,R.2⟩
 ·have e0:zs = []:=List.eq_nil_of_length_eq_zero (by omega);subst e0;have hx0:x=0:=by rw[<-hv];rfl
  have hn0:n=0:=by omega
  have hv0:v=.slice none 0 0\/∃g cap,v=.slice (some ⟨g,0,none⟩) 0 cap/\cap<=maxLen:=by
   rcases hown.2 with⟨e,_⟩|⟨g,cap,cur,e,_,_,_,h2,_⟩
   ·exact .inl e
   ·exact .inr ⟨g,cap,e,h2⟩
  subst hx0 hn0;by_cases hm0:more=0
  ·subst hm0;have HH:Hid (HasN B w v 0 0):=⟨[],hown,abo,rfl,rfl⟩;rcases hv0 with rfl|⟨g,cap,rfl,hcap⟩
   ·go_enter Tryz.func182,Tryz.ntmps182
    go_wp2;refine wp_loop_rounds 1 ?_;rw[rounds_succ];go_wp2;go_ret;exact⟨_,0,rfl,by simpa using HH.out,by omega,Below.refl _ _⟩
   ·unfold maxLen at hcap;clear hown;go_enter Tryz.func182,Tryz.ntmps182
    go_wp2;refine wp_loop_rounds 1 ?_;rw[rounds_succ];go_wp2;go_ret;exact⟨_,0,rfl,by simpa using HH.out,by omega,Below.refl _ _⟩
  ·have hne:(more != 0)=true:=by rw[bne_iff_ne];exact hm0
   have hcn:=hide (ai1 (qs:=[]) aac (c:=more) (by omega) hmo.2);have HO:=hide hown;rcases hv0 with rfl|⟨g,cap,rfl,hcap⟩
   ·try unfold maxLen at hcap
    go_enter Tryz.func182,Tryz.ntmps182
    go_wp2;refine wp_loop_rounds 1 ?_;rw[rounds_succ];go_wp2_with (at_builtin;refine wpList_append_own _ rfl (.tmp 37) (.tmp 40) 38 rfl B 70 i0 (.int .u32 0) 1 4 Tryz.underlying38 hi hz0 hz1 hz2 rfl (by decide) _ _ _ rfl (hown.alloc _) ⟨w.heap.size,0,none⟩ 1 1 [.int .u32 more] rfl rfl (cell_one_new _ _ _) ?e2none ?e3none ?e4none ?e5none ?_)
    case e2none=>first|rfl|(intro u hu;simp at hu;subst hu;rfl)
    case e3none=>unfold maxLen;simp
    case e4none=>simp
    case e5none=>first|omega|(simp;omega)
    intro v' w1 hown' hgrow _;have R:=agy (w:=w) (qs:=[]) (x:=0*m+more) hown' hgrow (Below.refl _ _) hB HO.out.lt rfl hcn.out (by simp[val]);clear hown' hgrow;go_wp2;go_ret;exact⟨_,1,rfl,R.1,by omega,R.2⟩
   ·try unfold maxLen at hcap
    go_enter Tryz.func182,Tryz.ntmps182
    go_wp2;refine wp_loop_rounds 1 ?_;rw[rounds_succ];go_wp2_with (at_builtin;refine wpList_append_own _ rfl (.tmp 37) (.tmp 40) 38 rfl B 70 i0 (.int .u32 0) 1 4 Tryz.underlying38 hi hz0 hz1 hz2 rfl (by decide) _ _ _ rfl (hown.alloc _) ⟨w.heap.size,0,none⟩ 1 1 [.int .u32 more] rfl rfl (cell_one_new _ _ _) ?e2some ?e3some ?e4some ?e5some ?_)
    case e2some=>first|rfl|(intro u hu;simp at hu;subst hu;rfl)
    case e3some=>unfold maxLen;simp
    case e4some=>simp
    case e5some=>first|omega|(simp;omega)
    intro v' w1 hown' hgrow _;have R:=agy (w:=w) (qs:=[]) (x:=0*m+more) hown' hgrow (Below.refl _ _) hB HO.out.lt rfl hcn.out (by simp[val]);clear hown' hgrow;go_wp2;go_ret;exact⟨_,1,rfl,R.1,by omega,R.2⟩
end Lm
namespace Lm
open Go.RowKit
def bytesOf(s:ByteArray):List Int:=s.data.toList.map fun c=>(c.toNat:Int)
theorem aat(s:ByteArray):(bytesOf s).length=s.size:=by simp[bytesOf]
theorem acx(s:ByteArray)(i:Nat)(h:i<s.size):(bytesOf s).getD i 0=((s[i]'h).toNat:Int):=by
 rw[List.getD_eq_getElem?_getD,bytesOf,List.getElem?_map];have e:s.data.toList[i]? = some (s[i]'h):=by
  rw[Array.getElem?_toList,Array.getElem?_eq_getElem (by simpa using h)];rfl
 rw[e];rfl
theorem agz(ds:List Int)(c:Int):dval (ds ++ [c])=dval ds*10+(c-48):=by
 induction ds with
 |nil=>simp[dval,p10]
 |cons d ds ih=>
  simp only[List.cons_append,dval,ih,List.length_append,List.length_singleton,p10];rw[Int.add_mul,Int.mul_comm 10,<-Int.mul_assoc];omega
theorem agc{ds:List Int}{c:Int}(h:Dig ds)(h1:48<=c)(h2:c<=57):Dig (ds ++ [c]):=by
 intro y hy;simp at hy;rcases hy with hy|rfl
 ·exact h y hy
 ·exact⟨h1,h2⟩
theorem aq2{ds:List Int}{pos j:Nat}{x gr c:Int}(hp:pos<ds.length)(hc:ds.getD pos 0=c)(h:dval (ds.take pos)=x*p10 j+gr):dval (ds.take (pos+1))=x*p10 (j+1)+(10*gr+(c-48)):=by
 rw[aa7 ds pos hp,agz,h,hc,p10,Int.add_mul,<-Int.mul_assoc,Int.mul_comm x 10,Int.mul_assoc 10,Int.mul_comm 10];omega
def Reads(w w':World)(ds:List Int)(e:Ending):Prop:=
 (Dig ds/\∃v,e=.returned (.tuple #[v,.int .i64 0])/\Is w.heap.size w' v (dval ds))\/(¬Dig ds/\e=.returned (.tuple #[.slice none 0 0,.int .i64 10]))
theorem a13{B B':Nat}{w:World}{v:Value}{x:Int}{n:Nat}(h:HasN B w v x n)(hB:B'<=B):Is B' w v x:=by
 obtain⟨zs,h1,h2,h3,_⟩:=h;exact⟨zs,(aby h1 h2.1).mono hB,h2,h3⟩
theorem aw0{B k:Nat}{w:World}{v:Value}{x:Int}{n:Nat}(h:HasN B w v x n)(hk:k<B)(s:ByteArray)(p:Nat):HasN B (w.iterAt k s p) v x n:=by
 obtain⟨zs,h1,r⟩:=h;exact⟨zs,ownsRow_iterAt h1 hk s p,r⟩
theorem aq3(w:World)(s:ByteArray)(h0:0<s.size)(h1:s.size<=5120):
  Calls Tryz.prog 167 #[.string s] w fun e w'=>Reads w w' (bytesOf s) e/\Below w.heap.size w w':=by
 have hemp:s.toList.isEmpty=false:=by
  rw[ByteArray.toList_eq];have:s.data.toList.length=s.size:=by simp
  cases hl:s.data.toList with
  |nil=>rw[hl]at this;simp at this;omega
  |cons _ _=>rfl
 have hsz:¬(5120:Int)<(s.size:Int):=by omega
 have hK:(w.iter s 0).heap[w.heap.size]? = some (.stringIter s 0):=World.iter_heap w s 0;have hb0:Below w.heap.size w (w.iter s 0):=(Below.refl w.heap.size w).alloc (Nat.le_refl _) (.stringIter s 0);have hz0:(w.iter s 0).heap.size=w.heap.size+1:=World.size_alloc w (.stringIter s 0);have K:=hide (And.intro hK (And.intro hb0 hz0));have HBL:=hide (aat s);clear hK hb0 hz0;go_enter Tryz.func167,Tryz.ntmps167
 go_wp2;generalize w.iter s 0=w0 at K ⊢;go_loopw [4,5,6] (fun ov gv sv wr=>∃(pos j n:Nat) (x gr sc:Int),pos<=s.size/\j<=8/\n<=pos/\gv=.int .u32 gr/\sv=.int .u32 sc/\sc=p10 j/\(0<=gr/\gr<p10 j)/\HasN (w.heap.size+1) wr ov x n/\Dig ((bytesOf s).take pos)/\dval ((bytesOf s).take pos)=x*p10 j+gr/\wr.heap[w.heap.size]? = some (.stringIter s pos)/\Below w.heap.size w wr) (fun _ _ _ wr=>s.size-wr.iterPos w.heap.size)
 case atStart=>exact⟨0,0,0,0,0,1,by omega,by omega,by omega,rfl,rfl,rfl,by simp[p10],⟨[],World.ownsRow_nil _ _ _ _,abo,rfl,rfl⟩,by simp;exact ade,by simp[dval],K.out.1,K.out.2.1⟩
 case round=>
  obtain⟨pos,j,n,x,gr,sc,hpos,hj,hn,rfl,rfl,hsc,hgr,hhas,hdig,hval,hit,hbel⟩:=hrel;have HSC:=hide hsc;have HGR:=hide hgr;have HH:=hide hhas;have HD:=hide hdig;have HV:=hide hval;have HI:=hide hit;have hp8:=abr (m:=j) (n:=8) hj;rw[show p10 8=100000000 from by decide]at hp8;have hp1:=acb j;rw[<-hsc]at hp8 hp1;have hg0:=hgr.1;have hg1:=hgr.2;rw[<-hsc]at hg1;have hsz1:w.heap.size<wr.heap.size:=aaa hit;clear hsc hgr hhas hdig hval hit;have IP:Hid (wr.iterPos w.heap.size=pos):=by show _=_;unfold World.iterPos;rw[HI.out]
  by_cases hlt:pos<s.size
  ·have hbd:=acx s pos hlt;by_cases hd:48<=(bytesOf s).getD pos 0/\(bytesOf s).getD pos 0<=57
   ·have hascii:(s[pos]'hlt).toNat<128:=by omega
    have hnext:=fun ty=>Lib.run_next_ascii_at (P:=Tryz.prog) wr w.heap.size s pos ty HI.out hlt hascii
    rw[<-hbd]at hnext;have HD':=hide (show Dig ((bytesOf s).take (pos+1)) by rw[aa7 _ _ (by rw[HBL.out];exact hlt)];exact agc HD.out hd.1 hd.2);have HV':=hide (aq2 (j:=j) (by rw[HBL.out];exact hlt) rfl HV.out);generalize (bytesOf s).getD pos 0=c at hnext hd HV';have q1:=Lib.iterAt_heap wr w.heap.size s pos (pos+1) HI.out;have q2:=Lib.below_iterAt hbel (Nat.le_refl _) s (pos+1);have q3:=aw0 HH.out (Nat.lt_succ_self _) s (pos+1);have q4:=Lib.iterAt_size wr w.heap.size s (pos+1);have hc1:=hd.1;have hc2:=hd.2;have Q:=hide (And.intro q1 (And.intro q2 (And.intro q3 (show w.heap.size+1<=(wr.iterAt w.heap.size s (pos+1)).heap.size by rw[q4];omega))));clear q1 q2 q3 q4 hbd hascii hd;generalize wr.iterAt w.heap.size s (pos+1)=wi at Q hnext;have d1:decide (c<48)=false:=by simp;omega
    have d2:decide (57<c)=false:=by simp;omega
    by_cases hj8:j=8
    ·have hsc:sc=100000000:=by rw[HSC.out,hj8];decide
     have HV9:Hid (dval ((bytesOf s).take (pos+1))=(x*1000000000+(10*gr+(c-48)))*p10 0+0):=by
      show _=_;rw[HV'.out,hj8,show p10 (8+1)=1000000000 from by decide,show p10 0=1 from rfl];omega
     subst hsc;go_wp2_with fail
     refine(ako (w.heap.size+1) wi _ n x 1000000000 (10*gr+(c-48)) Q.out.2.2.1 Q.out.2.2.2 (by omega) (by omega) (by omega)).mono ?_;rintro e w2 ⟨v2,n2,rfl,h2,hn2,hb2⟩;have H2:=hide h2;have hit2:w2.heap[w.heap.size]? = some (.stringIter s (pos+1)):=by rw[hb2.block w.heap.size (by omega)];exact Q.out.1
     have IP2:Hid (w2.iterPos w.heap.size=pos+1):=by show _=_;unfold World.iterPos;rw[hit2]
     have R2:=hide (And.intro hit2 (Q.out.2.1.trans (hb2.mono (by omega))));clear h2 hb2 hit2;go_wp2;go_roundw
     case rel=>exact⟨pos+1,0,n2,x*1000000000+(10*gr+(c-48)),0,1,by omega,by omega,by omega,rfl,rfl,rfl,by simp[p10],H2.out,HD'.out,HV9.out,R2.out.1,R2.out.2⟩
     case measure=>rw[IP.out,IP2.out];omega
    ·have hp7:=abr (m:=j) (n:=7) (by omega);rw[<-HSC.out,show p10 7=10000000 from by decide]at hp7;have hne:(sc*10==1000000000)=false:=beq_eq_false_iff_ne.2 (by omega);have HSC':Hid (sc*10=p10 (j+1)):=by show _=_;rw[p10,<-HSC.out];omega
     have IP2:Hid (wi.iterPos w.heap.size=pos+1):=by show _=_;unfold World.iterPos;rw[Q.out.1]
     go_wp2;go_roundw
     case rel=>exact⟨pos+1,j+1,n,x,10*gr+(c-48),sc*10,by omega,by omega,by omega,rfl,rfl,HSC'.out,by rw[<-HSC'.out];omega,Q.out.2.2.1,HD'.out,HV'.out,Q.out.1,Q.out.2.1⟩
     case measure=>rw[IP.out,IP2.out];omega
   ·have hnd:Hid (¬Dig (bytesOf s)):=by
     intro h9;exact hd (aeu h9 (by rw[HBL.out];exact hlt))
    have hnext:=fun ty=>Lib.run_next_any_at (P:=Tryz.prog) wr w.heap.size s pos ty HI.out hlt
    have hru:(Utf8.decode s pos).1<48\/57<(Utf8.decode s pos).1:=by
     by_cases ha:(s[pos]'hlt).toNat<128
     ·rw[decode_ascii s pos hlt ha];simp only;omega
     ·have:=(decode_high s pos hlt (by omega)).1;omega
    have q2:=Lib.below_iterAt hbel (Nat.le_refl _) s (pos+(Utf8.decode s pos).2);generalize wr.iterAt w.heap.size s (pos+(Utf8.decode s pos).2)=wi at q2 hnext;generalize (Utf8.decode s pos).1=c at hnext hru;clear hbd hd;by_cases hlow:(c:Int)<48
    ·have d1:decide ((c:Int)<48)=true:=by simp;omega
     go_wp2;go_ret2
     exact⟨.inr ⟨hnd.out,rfl⟩,q2⟩
    ·have d1:decide ((c:Int)<48)=false:=by simp;omega
     have d2:decide (57<(c:Int))=true:=by simp;omega
     have d3:(57:Int)<(c:Int):=by omega
     go_wp2;go_ret2
     exact⟨.inr ⟨hnd.out,rfl⟩,q2⟩
  ·have hpe:pos=s.size:=by omega
   have hnext:=fun ty=>Lib.run_next_end_at (P:=Tryz.prog) wr w.heap.size s pos ty HI.out hlt
   have HDf:Hid (Dig (bytesOf s)):=by have:=HD.out;rwa[List.take_of_length_le (by rw[HBL.out];omega)]at this
   have HVf:Hid (dval (bytesOf s)=x*sc+gr):=by have:=HV.out;rw[List.take_of_length_le (by rw[HBL.out];omega),<-HSC.out]at this;exact this
   go_wp2_with fail
   refine(ako (w.heap.size+1) wr _ n x sc gr HH.out (by omega) (by omega) (by omega) (by omega)).mono ?_;rintro e w2 ⟨v2,n2,rfl,h2,hn2,hb2⟩;have R:Hid (Is w.heap.size w2 v2 (dval (bytesOf s))/\Below w.heap.size w w2):=⟨by rw[HVf.out];exact a13 h2 (by omega),hbel.trans (hb2.mono (by omega))⟩;clear h2 hb2;go_wp2;go_ret2
   exact⟨.inl ⟨HDf.out,_,rfl,R.out.1⟩,R.out.2⟩
end Lm
namespace Lm
open Go Go.RowKit
theorem ac6(s:ByteArray)(a b:Nat):bytesOf (s.extract a b)=((bytesOf s).drop a).take (b-a):=by
 unfold bytesOf;rw[ByteArray.data_extract];simp[List.map_drop,List.map_take]
theorem adx(s:ByteArray)(a:Nat):bytesOf (s.extract a a) = []:=by
 rw[ac6];simp
theorem get!_getD(s:ByteArray)(i:Nat)(h:i<s.size):(bytesOf s).getD i 0=((s.get! i).toNat:Int):=by
 rw[acx s i h];congr 2;cases s with
 |mk d=>exact(getElem!_pos d i h).symm
theorem ady(s:ByteArray)(a b:Nat)(h:a<b)(hb:b<=s.size):bytesOf (s.extract a b)=((s.get! a).toNat:Int)::bytesOf (s.extract (a+1) b):=by
 have hl:a<(bytesOf s).length:=by rw[aat];omega
 rw[ac6,ac6,List.drop_eq_getElem_cons hl,show b-a=(b-(a+1))+1 from by omega,List.take_succ_cons];congr 1;rw[<-get!_getD s a (by omega),List.getD_eq_getElem?_getD,List.getElem?_eq_getElem hl];rfl
theorem aq4(n:Nat):p10 n<=pw n:=by
 induction n with
 |zero=>simp[p10,pw]
 |succ n ih=>simp only[p10,pw];have:=aav n;omega
theorem azu(n:Nat):∃ds,IsDec ds (n:Int):=by
 induction n using Nat.strongRecOn with
 |_ n ih=>
  by_cases h:n<10
  ·refine⟨[48+(n:Int)],acd.2 ⟨by omega,ade⟩,by simp[dval,p10];omega,?_⟩;by_cases h0:n=0
   ·subst h0;exact .inl ⟨rfl,rfl⟩
   ·exact .inr ⟨_,_,rfl,by omega⟩
  ·obtain⟨ds,h1,h2,h3⟩:=ih (n/10) (by omega);refine⟨ds ++ [48+((n%10:Nat):Int)],agc h1 (by omega) (by omega),by rw[agz,h2];omega,.inr ?_⟩;rcases h3 with⟨h3,_⟩|⟨c,cs,rfl,hc⟩
   ·omega
   ·exact⟨c,cs ++ [48+((n%10:Nat):Int)],rfl,hc⟩
theorem apd{ds:List Int}(h:Dig ds):∃es,IsDec es (dval ds):=by
 have:=azu (dval ds).toNat;rwa[Int.toNat_of_nonneg (aa5 h).1]at this
theorem aq5{c:Nat}(h:gcls c=3):48<=c/\c<=57:=by
 unfold gcls at h
 repeat' split at h
 all_goals first|omega|(exfalso;omega)
theorem Snd.digits{s:ByteArray}{p e:Pl}{gs:List Gl}(h:Snd s p gs e)(hp:p.ok)(hb:p.b<=s.size):Dig (bytesOf (s.extract p.b (Lm.plf (gs.dropWhile (inC [3])) e).b))/\p.b<=(Lm.plf (gs.dropWhile (inC [3])) e).b/\(Lm.plf (gs.dropWhile (inC [3])) e).b<=s.size:=by
 induction h with
 |stop p h=>
  rw[List.dropWhile_nil];show Dig (bytesOf (s.extract p.b p.b))/\p.b<=p.b/\p.b<=s.size;rw[adx];exact⟨ade,Nat.le_refl _,hb⟩
 |go p gs e h1 h2 hr ih=>
  by_cases hc:inC [3] ⟨(Utf8.decode s p.b).1,p⟩=true
  ·rw[List.dropWhile_cons_of_pos hc];have hd:=abq s p.b h1;obtain⟨i1,i2,i3⟩:=ih (hp.past _ _ hd.1) (by simp only[Pl.past];omega);have hcc:gcls (Utf8.decode s p.b).1=3:=by simpa[inC]using hc
   have hdg:=aq5 hcc;obtain⟨a1,a2⟩:=atz s p.b (by omega);generalize (Lm.plf (gs.dropWhile (inC [3])) e).b=t at *
   rw[a2]at i1 i2 hdg;simp only[Pl.past]at i1 i2;simp only at hdg;rw[ady s p.b t (by omega) i3];exact⟨fun y hy=>by
    rcases List.mem_cons.1 hy with rfl|hy
    ·omega
    ·exact i1 y hy,by omega,i3⟩
  ·rw[List.dropWhile_cons_of_neg hc];show Dig (bytesOf (s.extract p.b p.b))/\p.b<=p.b/\p.b<=s.size;rw[adx];exact⟨ade,Nat.le_refl _,hb⟩
end Lm
namespace Lm
open Go.RowKit
theorem afj(t:ByteArray):strOfNums (bytesOf t)=t:=by
 apply ByteArray.ext;apply Array.toList_inj.1;rw[strOfNums_data,bytesOf,List.map_map];conv=>rhs;rw[<-List.map_id t.data.toList]
 apply List.map_congr_left;intro c _;simp
theorem adj{ds:List Int}(h:Dig ds):bytesOf (strOfNums ds)=ds:=by
 rw[bytesOf,strOfNums_data,List.map_map];conv=>rhs;rw[<-List.map_id ds]
 apply List.map_congr_left;intro c hc;have:=h c hc;simp only[Function.comp_apply,id];have e:(UInt8.ofNat c.toNat).toNat=c.toNat:=by
  simp;omega
 rw[e];omega
theorem aq6(w:World)(s:ByteArray)(h:(5120:Int)<(s.size:Int)):
  Calls Tryz.prog 167 #[.string s] w fun e w'=>e=.returned (.tuple #[.slice none 0 0,.int .i64 2])/\Below w.heap.size w w':=by
 go_enter Tryz.func167,Tryz.ntmps167
 go_wp2;go_ret2
 exact⟨rfl,Below.refl _ _⟩
theorem aq7(w:World)(s:ByteArray)(h:s.size=0):
  Calls Tryz.prog 167 #[.string s] w fun e w'=>e=.returned (.tuple #[.slice none 0 0,.int .i64 10])/\Below w.heap.size w w':=by
 have he:s=ByteArray.empty:=by
  apply ByteArray.ext;apply Array.eq_empty_of_size_eq_zero;simpa using h
 subst he;go_enter Tryz.func167,Tryz.ntmps167
 go_wp2;go_ret2
 exact⟨rfl,Below.refl _ _⟩
end Lm
namespace Dm
open Go.RowKit
open Lm (bytesOf aat acx afj adj hide aao aaa IsDec Dig dval p10 acb acd ade afz ahm alf aj9 aa5 ae6)
theorem a14(n:Nat):pw n=p10 (4*n):=by
 induction n with
 |zero=>rfl
 |succ n ih=>
  rw[show 4*(n+1)=4*n+4 by omega];simp only[pw,p10,ih];omega
end Dm
namespace Dm
open Go.RowKit
open Lm (bytesOf aat acx hide aao aaa IsDec Dig dval p10 acb aeu afz)
theorem anv{ds Dd:List Int}{k j:Nat}{c v:Int}(hk:k<ds.length)(hc:ds.getD k 0=c)(hl:(ds.drop (k+1)).length=4*Dd.length+j)(h:dval (ds.drop (k+1))=val Dd+pw Dd.length*v):dval (ds.drop k)=val Dd+pw Dd.length*(v+p10 j*(c-48))/\(ds.drop k).length=4*Dd.length+(j+1):=by
 rw[Lm.aa3 ds k hk,hc];simp only[dval,List.length_cons];rw[h,hl,Lm.aom,<-a14];refine⟨?_,by omega⟩;rw[Int.mul_add,<-Int.mul_assoc (pw Dd.length),Int.mul_comm (c-48)];omega
theorem anw{Dd:List Int}{v x:Int}(h:x=val Dd+pw Dd.length*v):x=val (Dd ++ [v])+pw (Dd ++ [v]).length*0:=by
 rw[aa9,Int.mul_zero,Int.add_zero,h]
theorem ai2{B:Nat}{w wr w1:World}{v v':Value}{k:Nat}{ds:List Int}{z:Int}{o:Obj}(h:w1.ownsRow B 3 1 v' (k+1) (ds.map (Value.int .i64) ++ [.int .i64 z]))(hg:(wr.alloc o).grownBy w1 v.ownBlock)(hb:Below B w wr)(hB:B<=wr.heap.size)(hl:∀j,v.ownBlock=some j->B<=j/\j<wr.heap.size)(hk:ds.length=k):
  w1.ownsRow B 3 1 v' (ds ++ [z]).length ((ds ++ [z]).map (Value.int .i64))/\Below B w w1:=by
 subst hk;refine⟨by simpa using h,((hb.alloc hB o).grown hg ?_ (fun j hj=>(hl j hj).1))⟩;simp;omega
theorem at4{ten d:Int}(h:1<=ten)(h0:0<=d)(h1:d<=9):0<=ten*d/\ten*d<=9*ten:=by
 refine⟨Int.mul_nonneg (by omega) h0,?_⟩;have:ten*d<=ten*9:=Int.mul_le_mul_of_nonneg_left h1 (by omega);omega
theorem ai3(w:World)(s:ByteArray)(hd:Dig (bytesOf s))(h1:s.size<=5120):
  Calls Tryz.prog 148 #[.string s] w fun e w'=>∃ao' cap' D,e=.returned (.agg #[.bool false,.slice ao' D.length cap'])/\Got w' ao' cap' D (dval (bytesOf s))/\D.length<=6000/\Below w.heap.size w w':=by
 have c0:(w.alloc (.cells #[.bool false,.slice none 0 0] 85)).cell? ⟨w.heap.size,0,none⟩=some (.bool false):=by
  rw[cell_of_row _ _ _ _ _ (0,0) (heap_alloc_new w _)];rfl
 have c1:(w.alloc (.cells #[.bool false,.slice none 0 0] 85)).cell? ⟨w.heap.size,1,none⟩=some (.slice none 0 0):=by
  rw[cell_of_row _ _ _ _ _ (0,0) (heap_alloc_new w _)];rfl
 have f0:(w.alloc (.cells #[.bool false,.slice none 0 0] 85)).frozen? ⟨w.heap.size,0,none⟩=false:=frozen_of_row _ _ _ _ _ (heap_alloc_new w _);have f1:(w.alloc (.cells #[.bool false,.slice none 0 0] 85)).frozen? ⟨w.heap.size,1,none⟩=false:=frozen_of_row _ _ _ _ _ (heap_alloc_new w _);have hb0:Below w.heap.size w (w.alloc (.cells #[.bool false,.slice none 0 0] 85)):=(Below.refl _ _).alloc (Nat.le_refl _) _;have hs0:(w.alloc (.cells #[.bool false,.slice none 0 0] 85)).heap.size=w.heap.size+1:=by simp
 have C:=hide (And.intro c0 (And.intro c1 (And.intro f0 (And.intro f1 (And.intro hb0 hs0)))));obtain⟨i0,hi,hz0,hz1,hz2⟩:=info_parts adi;have HD:=hide hd;have HBL:=hide (aat s);clear c0 c1 f0 f1 hb0 hs0 hd;go_enter Tryz.func148,Tryz.ntmps148
 go_wp2;generalize w.alloc (.cells #[.bool false,.slice none 0 0] 85)=w0 at C ⊢;go_loopw [3,4,5,6] (fun dv vv tv iv wr=>∃(k j:Nat) (v ten:Int) (Dd:List Int),k<=s.size/\j<=3/\iv=.int .i64 ((k:Int)-1)/\vv=.int .i64 v/\tv=.int .i64 ten/\ten=p10 j/\(0<=v/\v<p10 j)/\Limb Dd/\((bytesOf s).drop k).length=4*Dd.length+j/\dval ((bytesOf s).drop k)=val Dd+pw Dd.length*v/\wr.ownsRow (w.heap.size+1) 3 1 dv Dd.length (Dd.map (Value.int .i64))/\Below (w.heap.size+1) w0 wr) (fun _ _ _ iv _=>(intOf iv+1).toNat)
 case atStart=>exact⟨s.size,0,0,1,[],Nat.le_refl _,by omega,rfl,rfl,rfl,rfl,by simp[p10],aac,by rw[List.drop_of_length_le (by rw[HBL.out];exact Nat.le_refl _)];rfl,by rw[List.drop_of_length_le (by rw[HBL.out];exact Nat.le_refl _)];simp[dval,val],World.ownsRow_nil _ _ _ _,Below.refl _ _⟩
 case round=>
  obtain⟨k,j,v,ten,Dd,hk,hj,rfl,rfl,rfl,hten,hv,hDd,hlen,hval,hown,hbel⟩:=hrel;have HTEN:=hide hten;have HVB:=hide hv;have HDd:=hide hDd;have HLEN:=hide hlen;have HVAL:=hide hval;have hp3:=Lm.abr (m:=j) (n:=3) hj;rw[<-hten,show p10 3=1000 from by decide]at hp3;have hp1:=acb j;rw[<-hten]at hp1;have hv0:=hv.1;have hv1:=hv.2;rw[<-hten]at hv1;have hDl:Dd.length<=5120:=by have:=hlen;rw[List.length_drop,HBL.out]at this;omega
  have hsz:=hbel.size;have hsz0:=C.out.2.2.2.2.2;rw[hsz0]at hsz;clear hten hv hDd hlen hval;cases k with
  |zero=>
   have hv2:v<10000:=by omega
   go_wp2_with (at_builtin;refine wpList_append_own _ rfl (.tmp 31) (.tmp 33) 69 rfl (w.heap.size+1) 3 i0 (.int .i64 0) 1 8 Tryz.underlying69 hi hz0 hz1 hz2 rfl (by decide) _ _ _ rfl (hown.alloc _) ⟨wr.heap.size,0,none⟩ 1 1 [.int .i64 v] rfl rfl (cell_one_new _ _ _) ?d2 ?d3 ?d4 ?d5 ?_)
   case d2=>first|rfl|(intro u hu;simp at hu;subst hu;rfl)
   case d3=>unfold maxLen;omega
   case d4=>omega
   case d5=>first|omega|(simp;omega)
   intro v' w1 hown' hgrow _;have R:=ai2 hown' hgrow hbel hsz hown.lt rfl;have HL9:Limb (Dd ++ [v]):=aal.2 ⟨HDd.out,aag.2 ⟨by omega,aac⟩⟩;have how:=aby R.1 HL9;obtain⟨aq,cq,rfl,sq,_,_⟩:=how.open;have hval9:val (Dd ++ [v])=dval (bytesOf s):=by
    have:=HVAL.out;rw[List.drop_zero]at this;rw[aa9,this]
   have hB:=R.2;have hAl:Hid ((Dd ++ [v]).length<=5121):=by rw[List.length_append,List.length_singleton];show _<=_;omega
   generalize Dd ++ [v]=A at sq hval9 HL9 hAl;have HA:=hide (And.intro hval9 HL9);clear hown' hgrow hown R how hval9 HL9;go_wp2_with fail
   refine(aib w1 false aq A.length cq A sq).mono ?_;rintro e w2 ⟨rfl,hb2⟩;replace hB:=hB.trans (hb2.mono (by have:=hB.size;omega));have hlt:w.heap.size<w.heap.size+1:=Nat.lt_succ_self _;have d0:=(hB.cell (p:=⟨w.heap.size,0,none⟩) hlt).trans C.out.1;have d1:=(hB.cell (p:=⟨w.heap.size,1,none⟩) hlt).trans C.out.2.1;have g0:=(hB.frozen (p:=⟨w.heap.size,0,none⟩) hlt).trans C.out.2.2.1;have g1:=(hB.frozen (p:=⟨w.heap.size,1,none⟩) hlt).trans C.out.2.2.2.1;have hBw:Below w.heap.size w w2:=C.out.2.2.2.2.1.trans (hB.mono (by omega));have sD:=(sq.below hb2).cut;have hD9:Hid (Canon (A.take (tl A))/\val (A.take (tl A))=dval (bytesOf s)):=⟨aa2 HA.out.2,by rw[aai,HA.out.1]⟩;have hDl9:Hid ((A.take (tl A)).length=tl A):=by show _=_;rw[List.length_take];have:=aau A;omega
   have hDb:Hid ((A.take (tl A)).length<=6000):=by show _<=_;rw[List.length_take];have:=hAl.out;omega
   replace sD:Sl w2 (.slice aq (A.take (tl A)).length cq) (A.take (tl A)):=by rw[hDl9.out];exact sD
   rw[<-hDl9.out];generalize A.take (tl A)=D at sD hD9 hDb ⊢;have e0:Below w.heap.size w ((w2.setCell ⟨w.heap.size,0,none⟩ (.bool false)).setCell ⟨w.heap.size,1,none⟩ (.slice aq D.length cq)):=(hBw.setCell (Nat.le_refl _) _).setCell (Nat.le_refl _) _;have e1:(w2.setCell ⟨w.heap.size,0,none⟩ (.bool false)).cell? ⟨w.heap.size,1,none⟩=some (.slice none 0 0):=by
    rw[World.cell?_setCell_other _ _ _ _ (by simp)];exact d1
   have e2:=hide ((sD.setCell d0 (fun z=>by simp) (.bool false)).setCell e1 (fun z=>by simp) (.slice aq D.length cq));have y0:=World.cell?_setCell_same _ _ (.bool false) d0;have x1:=World.cell?_setCell_same _ _ (.slice aq D.length cq) e1;have X:=hide (And.intro y0 x1);clear e1 y0 x1 sD;go_wp2;refine bodyPost_ret (v:=.agg #[.bool false,.slice aq D.length cq]) ?_ rfl ⟨aq,cq,D,rfl,⟨e2.out,hD9.out⟩,hDb.out,e0⟩;simp[results,Tryz.results148,go_sem,X.out.1,X.out.2]
  |succ k=>
   have hks:k<s.size:=by omega
   have hbd:=acx s k hks;have hdg:=aeu HD.out (i:=k) (by rw[HBL.out];exact hks);have ST:=hide (anv (by rw[HBL.out];exact hks) rfl HLEN.out HVAL.out);rw[hbd]at hdg ST;have hki:(k:Int)<(s.size:Int):=by omega
   have hmul:0<=ten*((s[k]'hks).toNat-48:Int)/\ten*((s[k]'hks).toNat-48:Int)<=9000:=by
    refine⟨Int.mul_nonneg (by omega) (by omega),?_⟩;have h8:ten*((s[k]'hks).toNat-48:Int)<=1000*((s[k]'hks).toNat-48:Int):=Int.mul_le_mul_of_nonneg_right hp3 (by omega);omega
   by_cases hj3:j=3
   ·have ht3:ten=1000:=by rw[HTEN.out,hj3];decide
    subst ht3;go_wp2_with (at_builtin;refine wpList_append_own _ rfl (.tmp 27) (.tmp 29) 69 rfl (w.heap.size+1) 3 i0 (.int .i64 0) 1 8 Tryz.underlying69 hi hz0 hz1 hz2 rfl (by decide) _ _ _ rfl (hown.alloc _) ⟨wr.heap.size,0,none⟩ 1 1 [.int .i64 (v+1000*((s[k]'hks).toNat-48:Int))] rfl rfl (cell_one_new _ _ _) ?c2 ?c3 ?c4 ?c5 ?_)
    case c2=>first|rfl|(intro u hu;simp at hu;subst hu;rfl)
    case c3=>unfold maxLen;omega
    case c4=>omega
    case c5=>first|omega|(simp;omega)
    intro v' w1 hown' hgrow _;have R:=ai2 hown' hgrow hbel hsz hown.lt rfl;have HL9:Hid (Limb (Dd ++ [v+1000*((s[k]'hks).toNat-48:Int)])):=aal.2 ⟨HDd.out,aag.2 ⟨by omega,aac⟩⟩;subst hj3;have S2:=ST.out;rw[show p10 3=1000 from by decide]at S2;have HV9:=hide (anw S2.1);have HN9:Hid (((bytesOf s).drop k).length=4*(Dd ++ [v+1000*((s[k]'hks).toNat-48:Int)]).length+0):=by
     show _=_;rw[S2.2,List.length_append,List.length_singleton];omega
    clear hown' hgrow hown S2;go_wp2;go_roundw
    case rel=>exact⟨k,0,0,1,Dd ++ [v+1000*((s[k]'hks).toNat-48:Int)],by omega,by omega,rfl,rfl,rfl,rfl,by simp[p10],HL9.out,HN9.out,HV9.out,R.1,R.2⟩
    case measure=>simp[intOf]
   ·have hp2:=Lm.abr (m:=j) (n:=2) (by omega);rw[<-HTEN.out,show p10 2=100 from by decide]at hp2;have hne:(10*ten==10000)=false:=beq_eq_false_iff_ne.2 (by omega);have htd:=at4 hp1 (show 0<=((s[k]'hks).toNat-48:Int) by omega) (by omega);have HT10:Hid (10*ten=p10 (j+1)):=by show _=_;rw[p10,<-HTEN.out]
    have S2:=ST.out;rw[<-HTEN.out]at S2;have HS2:=hide S2;clear S2;go_wp2;go_roundw
    case rel=>exact⟨k,j+1,v+ten*((s[k]'hks).toNat-48:Int),10*ten,Dd,by omega,by omega,rfl,rfl,rfl,HT10.out,by rw[<-HT10.out];omega,HDd.out,HS2.out.2,HS2.out.1,hown,hbel⟩
    case measure=>simp[intOf]
end Dm
namespace Dm
open Go.RowKit
open Lm (bytesOf aat acx hide aao aaa IsDec Dig dval p10 acb aeu afz agc ade)
def Err(s:ByteArray)(k:Int):Prop:=(k=2/\5120<s.size)\/(k=10/\s.size<=5120/\¬(1<=s.size/\Dig (bytesOf s)))
def Fine(s:ByteArray):Prop:=1<=s.size/\s.size<=5120/\Dig (bytesOf s)
theorem ame{s:ByteArray}{k:Int}(h:Err s k)(h':Fine s):False:=by
 rcases h with⟨h1,h2⟩|⟨h1,h2,h3⟩
 ·have:=h'.2.1;omega
 ·exact h3 ⟨h'.1,h'.2.2⟩
end Dm
namespace Lm
open Go.RowKit
open Dm (Err Fine ame)
theorem ape(w:World)(s:ByteArray):
  Calls Tryz.prog 167 #[.string s] w fun e w'=>((∃k:Int,Err s k/\e=.returned (.tuple #[.slice none 0 0,.int .i64 k]))\/(Fine s/\∃v,e=.returned (.tuple #[v,.int .i64 0])/\Is w.heap.size w' v (dval (bytesOf s))))/\Below w.heap.size w w':=by
 by_cases h1:(5120:Int)<(s.size:Int)
 ·refine(aq6 w s h1).mono ?_;rintro e w' ⟨rfl,hb⟩;exact⟨.inl ⟨2,.inl ⟨rfl,by omega⟩,rfl⟩,hb⟩
 ·by_cases h2:s.size=0
  ·refine(aq7 w s h2).mono ?_;rintro e w' ⟨rfl,hb⟩;exact⟨.inl ⟨10,.inr ⟨rfl,by omega,fun hx=>by omega⟩,rfl⟩,hb⟩
  ·refine(aq3 w s (by omega) (by omega)).mono ?_;rintro e w' ⟨hr,hb⟩;rcases hr with⟨hd,v,rfl,hi⟩|⟨hn,rfl⟩
   ·exact⟨.inr ⟨⟨by omega,by omega,hd⟩,v,rfl,hi⟩,hb⟩
   ·exact⟨.inl ⟨10,.inr ⟨rfl,by omega,fun hx=>hn hx.2⟩,rfl⟩,hb⟩
theorem azv(w:World)(k:Int):Calls Tryz.prog 11 #[.int .i64 k] w fun e w'=>e=.returned (.int .i64 k)/\w'=w:=by
 go_enter Tryz.func11,Tryz.ntmps11
 go_wp2;go_ret;exact⟨rfl,rfl⟩
end Lm
namespace Lm
open Go Go.RowKit
def Strs(w:World)(v:Value)(ss:List ByteArray):Prop:=Ce w v 1 ss.length (ss.map Value.string)
theorem Strs.below{w w':World}{v:Value}{ss:List ByteArray}(h:Strs w v ss)(hb:Below w.heap.size w w'):Strs w' v ss:=Ce.below h hb
theorem Strs.cell{w:World}{ao:Option Addr}{n cap:Nat}{ss:List ByteArray}{i:Nat}{x:ByteArray}(h:Strs w (.slice ao n cap) ss)(hg:ss[i]? = some x):∃b off,ao=some ⟨b,off,none⟩/\b<w.heap.size/\w.cell? ⟨b,off+i,none⟩=some (.string x):=by
 obtain⟨ao',cap',hv,c1,c2,c3,c4⟩:=h;obtain⟨rfl,rfl,rfl⟩:=(Value.slice.injEq .. ▸ hv);have hk:i<ss.length:=(List.getElem?_eq_some_iff.1 hg).1;rcases c4 with c4|⟨b,off,rfl,hl,hc⟩
 ·omega
 ·exact⟨b,off,rfl,hl,hc _ _ (by simp[hg])⟩
theorem ak3{x s:ByteArray}(h:x.toList=s.toList):x=s:=by
 rw[ByteArray.toList_eq,ByteArray.toList_eq]at h;exact ByteArray.ext (Array.toList_inj.1 h)
theorem aq8{x s:ByteArray}(h:x≠s):(x.toList==s.toList)=false:=by
 simp only[beq_eq_false_iff_ne];exact fun e=>h (ak3 e)
theorem ai4(p:Int){q:Int}(_h:q≠0):nm p q=(Rat.divInt p q).num:=by
 rw[Rat.num_divInt,nm,Int.gcd_comm];rw[Int.mul_ediv_assoc _ (Int.gcd_dvd_right ..)]
theorem ai5(p:Int){q:Int}(h:q≠0):dn p q=((Rat.divInt p q).den:Int):=by
 rw[Rat.den_divInt,if_neg h,dn,Int.gcd_comm,Int.natCast_ediv];rcases Int.lt_or_gt_of_ne h with h1|h1
 ·rw[Int.sign_eq_neg_one_of_neg h1,show((q.natAbs:Nat):Int) = -q from by omega,Int.neg_ediv_of_dvd (Int.gcd_dvd_left ..)];omega
 ·rw[Int.sign_eq_one_of_pos h1,show((q.natAbs:Nat):Int)=q from by omega];omega
theorem ahg(p q:Int):Rat.divInt (tp p q) (tq q)=Rat.divInt p q:=by
 unfold tp tq;split
 ·next h=>rw[h,Rat.divInt_zero,Rat.zero_divInt]
 ·rfl
def IsQ(r:Rat)(L:Nat):Says:=fun v w=>∃p q,IsR p q L v w/\Rat.divInt p q=r
def OutQr(r:Rat)(L:Nat):Says:=OutR r.num (r.den:Int) L
theorem OutQr.is{r:Rat}{L:Nat}{v:Value}{w:World}(h:OutQr r L v w):IsQ r L v w:=⟨_,_,OutR.is h,Rat.num_divInt_den r⟩
def Fit(r:Rat)(L:Nat):Prop:=(r.num.natAbs:Int)<pw L/\(r.den:Int)<pw L
theorem OutQr.fit{r:Rat}{L L':Nat}{v:Value}{w:World}(h:OutQr r L v w)(hf:Fit r L'):OutQr r L' v w:=by
 obtain⟨ng,ao,cap,rs,bo,dap,ss,e,h1,h2,l1,l2⟩:=h;exact⟨ng,ao,cap,rs,bo,dap,ss,e,h1,h2,aaz h1.1.2.1 (by rw[h1.1.2.2];exact hf.1),aaz h2.2.1 (by rw[h2.2.2];exact hf.2)⟩
theorem IsQ.open{r:Rat}{L:Nat}{v:Value}{w:World}(h:IsQ r L v w):∃ng ao n cap xs bo m dap ys p q,v=.agg #[.bool ng,.slice ao n cap,.slice bo m dap]/\Ag w ng ao n cap xs p/\Sl w (.slice bo m dap) ys/\val ys=q/\xs.length<=L/\ys.length<=L/\Rat.divInt p q=r:=by
 obtain⟨p,q,⟨ng,ao,n,cap,xs,bo,m,dap,ys,h1,h2,h3,h4,h5,h6⟩,h7⟩:=h;exact⟨ng,ao,n,cap,xs,bo,m,dap,ys,p,q,h1,h2,h3,h4,h5,h6,h7⟩
theorem a15(w:World)(x y:Value)(r s:Rat)(L M N:Nat)(hx:IsQ r L x w)(hy:IsQ s M y w)(hL:3*(L+M+4)+1<=100000)(hf:Fit (r+s) N):
  Calls Tryz.prog 64 #[x,y] w fun e w'=>∃v,e=.returned v/\OutQr (r+s) N v w'/\Below w.heap.size w w':=by
 obtain⟨ng,ao,n,cap,xs,bo,m,dap,ys,p,q,rfl,h2,h3,h4,h5,h6,h7⟩:=hx.open;obtain⟨ng',ao',n',cap',xs',bo',m',dap',ys',p',q',rfl,g2,g3,g4,g5,g6,g7⟩:=hy.open;refine(a1n w L ng ao n cap xs p h2 h5 bo m dap ys q h3 h4 h6 M ng' ao' n' cap' xs' p' g2 g5 bo' m' dap' ys' q' g3 g4 g6 hL).mono ?_;rintro e w' ⟨v,rfl,ho,hb⟩;refine⟨v,rfl,?_,hb⟩;have hne:tq q*tq q'≠0:=Int.mul_ne_zero (adm q) (adm q');have hs:Rat.divInt (tp p q*tq q'+tp p' q'*tq q) (tq q*tq q')=r+s:=by
  rw[<-Rat.divInt_add_divInt _ _ (adm q) (adm q'),ahg,ahg,h7,g7]
 rw[ai4 _ hne,ai5 _ hne,hs]at ho;exact OutQr.fit ho hf
theorem at5(w:World)(x:Value)(r:Rat)(L N:Nat)(hx:IsQ r L x w)(hL:2*(L+2)<=100000)(hf:Fit r N):
  Calls Tryz.prog 138 #[x] w fun e w'=>∃v,e=.returned v/\OutQr (-r) N v w'/\Below w.heap.size w w':=by
 obtain⟨ng,ao,n,cap,xs,bo,m,dap,ys,p,q,rfl,h2,h3,h4,h5,h6,h7⟩:=hx.open;refine(a1m w L ng ao n cap xs p h2 h5 bo m dap ys q h3 h4 h6 hL).mono ?_;rintro e w' ⟨v,rfl,ho,hb⟩;refine⟨v,rfl,?_,hb⟩;have hs:Rat.divInt (-(tp p q)) (tq q) = -r:=by rw[<-Rat.neg_divInt,ahg,h7]
 rw[ai4 _ (adm q),ai5 _ (adm q),hs]at ho;exact OutQr.fit ho ⟨by rw[Rat.neg_num,Int.natAbs_neg];exact hf.1,by rw[Rat.neg_den];exact hf.2⟩
theorem azw(w:World)(x:Value)(r:Rat)(L N:Nat)(hx:IsQ r L x w)(hL:2*(L+2)<=100000)(hf:Fit r N):
  Calls Tryz.prog 93 #[x] w fun e w'=>∃v,e=.returned v/\OutQr r N v w'/\Below w.heap.size w w':=by
 obtain⟨ng,ao,n,cap,xs,bo,m,dap,ys,p,q,rfl,h2,h3,h4,h5,h6,h7⟩:=hx.open;refine(aza w L ng ao n cap xs p h2 h5 bo m dap ys q h3 h4 h6 hL).mono ?_;rintro e w' ⟨v,rfl,ho,hb⟩;refine⟨v,rfl,?_,hb⟩;have hs:Rat.divInt (tp p q) (tq q)=r:=by rw[ahg,h7]
 rw[ai4 _ (adm q),ai5 _ (adm q),hs]at ho;exact OutQr.fit ho hf
theorem ad5(w:World)(x:Value)(z:Int)(L:Nat)(hx:IsW z L x w)(hL:L<=100000):
  Calls Tryz.prog 31 #[x] w fun e w'=>∃v,e=.returned v/\OutQr (z:Rat) (L+2) v w'/\Below w.heap.size w w':=by
 obtain⟨ng,ao,n,cap,xs,rfl,h2,h5⟩:=hx;refine(a1l w L ng ao n cap xs z h2 h5 hL).mono ?_;rintro e w' ⟨v,rfl,ho,hb⟩;exact⟨v,rfl,ho,hb⟩
theorem ayf(w:World)(x y:Value)(z u:Int)(L M:Nat)(hx:IsW z L x w)(hy:IsW u M y w)(hL:L+M<=100000):
  Calls Tryz.prog 184 #[x,y] w fun e w'=>Below w.heap.size w w'/\((u≠0/\∃v,e=.returned (.tuple #[v,.int .i64 0])/\OutQr (Rat.divInt z u) (L+M) v w')\/(u=0/\e=.returned (.tuple #[.agg #[.bool false,.slice none 0 0,.slice none 0 0],.int .i64 20]))):=by
 obtain⟨ng,ao,n,cap,xs,rfl,h2,h5⟩:=hx;obtain⟨ng',ao',n',cap',xs',rfl,g2,g5⟩:=hy;by_cases hu:u=0
 ·refine(a1o w L ng ao n cap xs z h2 h5 M ng' ao' n' cap' xs' u g2 g5 hL hu).mono ?_;rintro e w' ⟨v,rfl,⟨a,b,rfl,h1,h2⟩,hb⟩;exact⟨hb,.inr ⟨hu,by rw[h1,h2]⟩⟩
 ·refine(a25 w L ng ao n cap xs z h2 h5 M ng' ao' n' cap' xs' u g2 g5 hL hu).mono ?_;rintro e w' ⟨v,rfl,⟨a,b,rfl,h1,h2⟩,hb⟩;rw[ai4 _ hu,ai5 _ hu]at h1;exact⟨hb,.inl ⟨hu,a,by rw[h2],h1⟩⟩
theorem abc{ops:Array Oper}{o:Oper}{a:Act}{w:World}{K:Act->World->Prop}{Q:Exit->Act->World->Prop}{E:Prop}(hg:o.guard=none)(f:FuncId)(xs:Array Operand)(ats:Array TypeId)
  (hop:o.op=.call {callee:=.value (.func f),args:=xs,argTypes:=ats}) (hf:Has Tryz.prog f) (vs:Array Value) (hx:xs.map a.eval=vs) {Post:Ending->World->Prop} (hc:Calls Tryz.prog f vs w Post) (hK:∀e w',Post e w'->∃r,e=.returned r/\K (a.put o.dst r) w') :
  if Region.wanted o (yielded ops a.tmps)=true then Oper.wp Tryz.prog o a w K Q else E:=by
 obtain⟨dst,op,ty,pos,after,guard⟩:=o;simp only at hop hg;subst hop hg;have hw:Region.wanted {dst,op:=.call {callee:=.value (.func f),args:=xs,argTypes:=ats},type:=ty,pos,after,guard:=none} (yielded ops a.tmps)=true:=by simp[Region.wanted]
 rw[if_pos hw];clear hw;have hd:Does Tryz.prog {dst,op:=.call {callee:=.value (.func f),args:=xs,argTypes:=ats},type:=ty,pos,after,guard:=none} a.eval w (fun r w'=>K (a.put dst r) w'):=aax hf vs hx (hc.mono hK);have hz:=Does.wp (K:=K) (Q:=Q) hd (fun v w' h=>h);exact hz
theorem aq9{P:Program}{dst:Option Tmp}{f:FuncId}{x:Operand}{xs:Array Operand}{ats:Array TypeId}{ty:TypeId}{pos:String}{after:Array Edge}{guard:Option (Nat×Bool)}{a:Act}{w:World}{R:Value->World->Prop}(hf:Has P f)(cap:Array Value)(hx0:a.eval x=.func (.func f) #[] cap)(args:Array Value)(hx:xs.map a.eval=args)(h:Calls P f (args++cap) w fun e w'=>∃v,e=.returned v/\R v w'):
  Does P {dst,op:=.call {callee:=.value x,args:=xs,argTypes:=ats},type:=ty,pos,after,guard} a.eval w R:=by
 have e:execOp a.eval {dst,op:=.call {callee:=.value x,args:=xs,argTypes:=ats},type:=ty,pos,after,guard}=callFunc f (#[]++xs.map a.eval++cap):=by
  show(do let d <-Deferred.ofValue (a.eval x) (xs.map a.eval);invoke d.target d.args)=_;rw[hx0];rfl
 refine⟨?_⟩;unfold Turns;rw[e,hf.enter];simpa[hx]using h
theorem ai6{ops:Array Oper}{o:Oper}{a:Act}{w:World}{K:Act->World->Prop}{Q:Exit->Act->World->Prop}{E:Prop}(hg:o.guard=none)(f:FuncId)(x:Operand)(xs:Array Operand)(ats:Array TypeId)
  (hop:o.op=.call {callee:=.value x,args:=xs,argTypes:=ats}) (hf:Has Tryz.prog f) (cap:Array Value) (hx0:a.eval x=.func (.func f) #[] cap) (vs:Array Value) (hx:xs.map a.eval=vs) {Post:Ending->World->Prop} (hc:Calls Tryz.prog f (vs++cap) w Post) (hK:∀e w',Post e w'->∃r,e=.returned r/\K (a.put o.dst r) w') :
  if Region.wanted o (yielded ops a.tmps)=true then Oper.wp Tryz.prog o a w K Q else E:=by
 obtain⟨dst,op,ty,pos,after,guard⟩:=o;simp only at hop hg;subst hop hg;have hw:Region.wanted {dst,op:=.call {callee:=.value x,args:=xs,argTypes:=ats},type:=ty,pos,after,guard:=none} (yielded ops a.tmps)=true:=by simp[Region.wanted]
 rw[if_pos hw];clear hw;have hd:Does Tryz.prog {dst,op:=.call {callee:=.value x,args:=xs,argTypes:=ats},type:=ty,pos,after,guard:=none} a.eval w (fun r w'=>K (a.put dst r) w'):=aq9 hf cap hx0 vs hx (hc.mono hK);have hz:=Does.wp (K:=K) (Q:=Q) hd (fun v w' h=>h);exact hz
def ov(x y:Int):Int:=sg (decide (x<0) != decide (y<0)) ((x.natAbs:Int)/(y.natAbs:Int))
theorem aw1{x g:Int}(hg:0<g)(hd:g ∣ x):ov x g=x/g:=by
 obtain⟨k,rfl⟩:=hd;have h1:decide (g<0)=false:=decide_eq_false (by omega);have h2:((g.natAbs:Nat):Int)=g:=by omega
 rw[Int.mul_ediv_cancel_left _ (by omega)];unfold ov;rw[h1,h2,Int.natAbs_mul];have h3:((g.natAbs*k.natAbs:Nat):Int)=g*(k.natAbs:Int):=by
  rw[Int.natCast_mul,h2]
 rw[h3,Int.mul_ediv_cancel_left _ (by omega)];by_cases hk:k<0
 ·have:g*k<0:=Int.mul_neg_of_pos_of_neg hg hk;simp[sg,this];omega
 ·have:¬g*k<0:=by
   have:=Int.mul_nonneg (show 0<=g by omega) (show 0<=k by omega);omega
  simp[sg,this];omega
section
end
theorem azx(w:World)(Bx:Nat)(nx:Bool)(ax:Option Addr)(cx:Nat)(xs:List Int)(zx:Int)(Gx:Dm.Wh w nx ax cx xs zx)(Lx:xs.length<=Bx)(By:Nat)(ny:Bool)(ay:Option Addr)(cy:Nat)(ys:List Int)(zy:Int)(Gy:Dm.Wh w ny ay cy ys zy)(Ly:ys.length<=By)(hL:Bx<=300000)(hL2:By<=300000)(hy:zy≠0):
  Calls Tryz.prog 82 #[.agg #[.bool nx,.slice ax xs.length cx],.agg #[.bool ny,.slice ay ys.length cy]] w fun e w'=>∃v,e=.returned v/\(OutN (ov zx zy) Bx) v w'/\Below w.heap.size w w':=by
 go_enter Tryz.func82,Tryz.ntmps82
 generalize hA:(Act.mk _ _)=aa;have hn:aa.tmps.size=21:=by rw[<-hA];rfl
 have hd:aa.defers = []:=by rw[<-hA]
 have f0:aa.eval (.tmp 0)=.agg #[.bool nx,.slice ax xs.length cx]:=by rw[<-hA];rfl
 have f1:aa.eval (.tmp 1)=.agg #[.bool ny,.slice ay ys.length cy]:=by rw[<-hA];rfl
 clear hA;have HB:Below w.heap.size w w:=Below.refl _ _;refine wp_seq ?_;refine aam [some 2,some 3,some 4] [Tt,Tt,Tt] [⟨N2,some 0,0,2,.agg #[.bool nx,.slice ax xs.length cx],none,[]⟩,⟨N2,some 1,0,3,.agg #[.bool ny,.slice ay ys.length cy],none,[]⟩,⟨N2,some 2,0,4,.agg #[.bool false,.slice none 0 0],none,[]⟩] [] (by kernel_rfl) hn rfl (by kernel_rfl) (by kernel_rfl) (by kernel_rfl) (by kernel_rfl) (by kernel_rfl) (by kernel_rfl) ⟨True.mono4,True.mono4,True.mono4,trivial⟩ (abl N2ok (abl N2ok (abl N2ok aap))) (IsOld.all (bx:=[⟨N2,some 0,0,2,.agg #[.bool nx,.slice ax xs.length cx],none,[]⟩,⟨N2,some 1,0,3,.agg #[.bool ny,.slice ay ys.length cy],none,[]⟩,⟨N2,some 2,0,4,.agg #[.bool false,.slice none 0 0],none,[]⟩]) ⟨someNe,someNe,someNe,trivial⟩) (DisOld.all (bx:=[⟨N2,some 0,0,2,.agg #[.bool nx,.slice ax xs.length cx],none,[]⟩,⟨N2,some 1,0,3,.agg #[.bool ny,.slice ay ys.length cy],none,[]⟩,⟨N2,some 2,0,4,.agg #[.bool false,.slice none 0 0],none,[]⟩]) ⟨someNe,someNe,someNe,trivial⟩) ?_ ?_
 ·exact⟨.alloc 0 _ rfl rfl (.inr ⟨_,rfl,aga,fun a_ hR=>(hR 0 rfl).trans f0⟩) rfl rfl rfl rfl rfl,.alloc 1 _ rfl rfl (.inr ⟨_,rfl,aga,fun a_ hR=>(hR 1 rfl).trans f1⟩) rfl rfl rfl rfl rfl,.alloc 2 _ rfl rfl (.inl ⟨rfl,rfl⟩) rfl rfl rfl rfl rfl,trivial⟩
 ·intro a1 w1 gs1 hn1 hd1 hBt hr hR hP hX hU;replace hn:=hn1;replace hd:=hd1.trans hd;have ne2_4:gs1 0≠gs1 2:=hU 0 2 (by simp) (by simp) (by decide);have ne3_4:gs1 1≠gs1 2:=hU 1 2 (by simp) (by simp) (by decide);have b2:BoxV N2 w1 (gs1 0) (.agg #[.bool nx,.slice ax xs.length cx]):=(hX 0 _ rfl).2.2.2;have f2:=(hX 0 _ rfl).1;have u2:w.heap.size<=gs1 0:=Nat.le_trans HB.size ((hX 0 _ rfl).2.2.1 (by simp));have b3:BoxV N2 w1 (gs1 1) (.agg #[.bool ny,.slice ay ys.length cy]):=(hX 1 _ rfl).2.2.2;have f3:=(hX 1 _ rfl).1;have u3:w.heap.size<=gs1 1:=Nat.le_trans HB.size ((hX 1 _ rfl).2.2.1 (by simp));have b4:BoxV N2 w1 (gs1 2) (.agg #[.bool false,.slice none 0 0]):=(hX 2 _ rfl).2.2.2;have f4:=(hX 2 _ rfl).1;have u4:w.heap.size<=gs1 2:=Nat.le_trans HB.size ((hX 2 _ rfl).2.2.1 (by simp));replace Gx:=Gx.rl hr;replace Gy:=Gy.rl hr;replace HB:=HB.trans (hBt.below HB.size (UpOld.all (bx:=[⟨N2,some 0,0,2,.agg #[.bool nx,.slice ax xs.length cx],none,[]⟩,⟨N2,some 1,0,3,.agg #[.bool ny,.slice ay ys.length cy],none,[]⟩,⟨N2,some 2,0,4,.agg #[.bool false,.slice none 0 0],none,[]⟩]) ⟨someNe,someNe,someNe,trivial⟩));clear hBt hr hR hP hX hU;refine wp_seq ?_;refine aam [some 8,some 9,some 10,some 7,some 11,some 12,some 5,some 6,none,none] [Eqs (.agg #[.bool nx,.slice ax xs.length cx]),Eqs (.agg #[.bool ny,.slice ay ys.length cy]),Tup2 (OutN ((((zx).natAbs:Int)/((zy).natAbs:Int))) (Bx)) (OutN ((((zx).natAbs:Int)%((zy).natAbs:Int))) (By)),Tup2 (OutN ((((zx).natAbs:Int)/((zy).natAbs:Int))) (Bx)) (OutN ((((zx).natAbs:Int)%((zy).natAbs:Int))) (By)),OutN ((((zx).natAbs:Int)/((zy).natAbs:Int))) (Bx),OutN ((((zx).natAbs:Int)%((zy).natAbs:Int))) (By),Tt,Tt,Tt,Tt] [⟨N2,some 6,0,5,.agg #[.bool false,.slice none 0 0],some (8,11,4),[]⟩,⟨N2,some 7,0,6,.agg #[.bool false,.slice none 0 0],some (9,12,5),[]⟩] [] (by kernel_rfl) hn rfl (by kernel_rfl) (by kernel_rfl) (by kernel_rfl) (by kernel_rfl) (by kernel_rfl) (by kernel_rfl) ⟨Eqs.mono4 _,Eqs.mono4 _,Tup2.mono4 (OutN.mono4 _ _) (OutN.mono4 _ _),Tup2.mono4 (OutN.mono4 _ _) (OutN.mono4 _ _),OutN.mono4 _ _,OutN.mono4 _ _,True.mono4,True.mono4,True.mono4,True.mono4,trivial⟩ (abl N2ok (abl N2ok aap)) (IsOld.all (bx:=[⟨N2,some 6,0,5,.agg #[.bool false,.slice none 0 0],some (8,11,4),[]⟩,⟨N2,some 7,0,6,.agg #[.bool false,.slice none 0 0],some (9,12,5),[]⟩]) ⟨someNe,someNe,trivial⟩) (DisOld.all (bx:=[⟨N2,some 6,0,5,.agg #[.bool false,.slice none 0 0],some (8,11,4),[]⟩,⟨N2,some 7,0,6,.agg #[.bool false,.slice none 0 0],some (9,12,5),[]⟩]) ⟨someNe,someNe,trivial⟩) ?_ ?_
  ·exact⟨.norm 8 rfl rfl rfl (fun a_ w_ _ t r R D _ _=>abt N2ok ((R 2 rfl).trans f2) (b2.keep t ⟨someNe,someNe,trivial⟩)),.norm 9 rfl rfl rfl (fun a_ w_ _ t r R D _ _=>abt N2ok ((R 3 rfl).trans f3) (b3.keep t ⟨someNe,someNe,trivial⟩)),.norm 10 rfl rfl rfl (fun a_ w_ _ t r R D _ _=>anr (ab3 (show a_.eval (.tmp 8)=.agg #[.bool nx,.slice ax xs.length cx]from D 0 rfl) (Gx.rl r) Lx) (ab3 (show a_.eval (.tmp 9)=.agg #[.bool ny,.slice ay ys.length cy]from D 1 rfl) (Gy.rl r) Ly) (by omega) (by omega) hy),.norm 7 rfl rfl rfl (fun a_ w_ _ t r R D _ _=>afp (p:=Tup2 (OutN ((((zx).natAbs:Int)/((zy).natAbs:Int))) (Bx)) (OutN ((((zx).natAbs:Int)%((zy).natAbs:Int))) (By))) (show Tup2 (OutN ((((zx).natAbs:Int)/((zy).natAbs:Int))) (Bx)) (OutN ((((zx).natAbs:Int)%((zy).natAbs:Int))) (By)) (a_.eval (.tmp 10)) w_ from D 2 rfl)),.norm 11 rfl rfl rfl (fun a_ w_ _ t r R D _ _=>aeq (show Tup2 (OutN ((((zx).natAbs:Int)/((zy).natAbs:Int))) (Bx)) (OutN ((((zx).natAbs:Int)%((zy).natAbs:Int))) (By)) (a_.eval (.tmp 7)) w_ from D 3 rfl)),.norm 12 rfl rfl rfl (fun a_ w_ _ t r R D _ _=>aer (show Tup2 (OutN ((((zx).natAbs:Int)/((zy).natAbs:Int))) (Bx)) (OutN ((((zx).natAbs:Int)%((zy).natAbs:Int))) (By)) (a_.eval (.tmp 7)) w_ from D 3 rfl)),.alloc 0 _ rfl rfl (.inl ⟨rfl,rfl⟩) rfl rfl rfl rfl rfl,.alloc 1 _ rfl rfl (.inl ⟨rfl,rfl⟩) rfl rfl rfl rfl rfl,.store 0 _ _ _ rfl rfl rfl rfl rfl rfl rfl (fun ia h=>by cases h;rfl) rfl rfl rfl OutN.cs,.store 1 _ _ _ rfl rfl rfl rfl rfl rfl rfl (fun ia h=>by cases h;rfl) rfl rfl rfl OutN.cs,trivial⟩
  ·intro a2 w2 gs2 hn2 hd2 hBt hr hR hP hX hU;replace hn:=hn2;replace hd:=hd2.trans hd;have ne2_5:(gs1 0)≠gs2 0:=by have h1:=b2.lt;have h2:=(hX 0 _ rfl).2.2.1 (by simp);omega
   have ne3_5:(gs1 1)≠gs2 0:=by have h1:=b3.lt;have h2:=(hX 0 _ rfl).2.2.1 (by simp);omega
   have ne4_5:(gs1 2)≠gs2 0:=by have h1:=b4.lt;have h2:=(hX 0 _ rfl).2.2.1 (by simp);omega
   replace b2:=b2.keep hBt ⟨someNe,someNe,trivial⟩;replace b3:=b3.keep hBt ⟨someNe,someNe,trivial⟩;replace b4:=b4.keep hBt ⟨someNe,someNe,trivial⟩;obtain⟨n_3,a_3,c_3,r_3,e11,G3,l3⟩:OutN ((((zx).natAbs:Int)/((zy).natAbs:Int))) (Bx) (a2.eval (.tmp 11)) w2:=hP 4 (by decide);have b5:BoxV N2 w2 (gs2 0) (.agg #[.bool n_3,.slice a_3 r_3.length c_3]):=ayz (hX 0 _ rfl).2.2.2 e11;have f5:=(hX 0 _ rfl).1;have u5:w.heap.size<=gs2 0:=Nat.le_trans HB.size ((hX 0 _ rfl).2.2.1 (by simp));replace f2:=(hR 2 rfl).trans f2;replace f3:=(hR 3 rfl).trans f3;replace f4:=(hR 4 rfl).trans f4;replace Gx:=Gx.rl hr;replace Gy:=Gy.rl hr;replace HB:=HB.trans (hBt.below HB.size (UpOld.all (bx:=[⟨N2,some 6,0,5,.agg #[.bool false,.slice none 0 0],some (8,11,4),[]⟩,⟨N2,some 7,0,6,.agg #[.bool false,.slice none 0 0],some (9,12,5),[]⟩]) ⟨someNe,someNe,trivial⟩));clear hBt hr hR hP hX hU;refine wp_seq ?_;refine wp_seq ?_;refine aam [some 13,some 14,some 15,some 16,some 17] [Eqs (.pointer (some ⟨gs1 0,0,none⟩)),Eqs (.bool nx),Eqs (.pointer (some ⟨gs1 1,0,none⟩)),Eqs (.bool ny),Eqs (.bool (nx != ny))] [] [] (by kernel_rfl) hn rfl (by kernel_rfl) (by kernel_rfl) (by kernel_rfl) (by kernel_rfl) (by kernel_rfl) (by kernel_rfl) ⟨Eqs.mono4 _,Eqs.mono4 _,Eqs.mono4 _,Eqs.mono4 _,Eqs.mono4 _,trivial⟩ aap (IsOld.all (bx:=[]) trivial) (DisOld.all (bx:=[]) trivial) ?_ ?_
   ·exact⟨.norm 13 rfl rfl rfl (fun a_ w_ _ t r R D _ _=>aiz ajy ((R 2 rfl).trans f2)),.norm 14 rfl rfl rfl (fun a_ w_ _ t r R D _ _=>agv (show a_.eval (.tmp 13)=.pointer (some ⟨gs1 0,0,none⟩)from D 0 rfl) (b2.keep t trivial)),.norm 15 rfl rfl rfl (fun a_ w_ _ t r R D _ _=>aiz ajy ((R 3 rfl).trans f3)),.norm 16 rfl rfl rfl (fun a_ w_ _ t r R D _ _=>agv (show a_.eval (.tmp 15)=.pointer (some ⟨gs1 1,0,none⟩)from D 2 rfl) (b3.keep t trivial)),.norm 17 rfl rfl rfl (fun a_ w_ _ t r R D _ _=>ay0 (show a_.eval (.tmp 14)=.bool nx from D 1 rfl) (show a_.eval (.tmp 16)=.bool ny from D 3 rfl)),trivial⟩
   ·intro a4 w4 gs4 hn4 hd4 hBt hr hR hP hX hU;replace hn:=hn4;replace hd:=hd4.trans hd;replace b4:=b4.keep hBt trivial;replace b5:=b5.keep hBt trivial;replace f4:=(hR 4 rfl).trans f4;replace f5:=(hR 5 rfl).trans f5;have e17:a4.eval (.tmp 17)=.bool (nx != ny):=hP 4 (by decide);have f17:=e17;replace Gx:=Gx.rl hr;replace Gy:=Gy.rl hr;replace G3:=G3.rl hr;replace HB:=HB.trans (hBt.below HB.size (UpOld.all (bx:=[]) trivial));clear hBt hr hR hP hX hU;refine wp_cond_split f17 (fun hc17=>?_) (fun hc17=>?_)
    ·skip;refine aam [some 18,some 19,none] [Eqs (.agg #[.bool n_3,.slice a_3 r_3.length c_3]),OutN ((-(((zx).natAbs:Int)/((zy).natAbs:Int)))) (Bx),Tt] [⟨N2,none,(gs2 0),5,.agg #[.bool n_3,.slice a_3 r_3.length c_3],some (2,19,1),[0]⟩] [] (by kernel_rfl) hn rfl (by kernel_rfl) (by kernel_rfl) (by kernel_rfl) (by kernel_rfl) (by kernel_rfl) (by kernel_rfl) ⟨Eqs.mono4 _,OutN.mono4 _ _,True.mono4,trivial⟩ (abl N2ok aap) (IsOld.all (bx:=[⟨N2,none,(gs2 0),5,.agg #[.bool n_3,.slice a_3 r_3.length c_3],some (2,19,1),[0]⟩]) ⟨fun _=>⟨f5,b5⟩,trivial⟩) (DisOld.all (bx:=[⟨N2,none,(gs2 0),5,.agg #[.bool n_3,.slice a_3 r_3.length c_3],some (2,19,1),[0]⟩]) ⟨fun _=>trivial,trivial⟩) ?_ ?_
     ·exact⟨.norm 18 rfl rfl rfl (fun a_ w_ _ t r R D hO _=>abt N2ok ((R 5 rfl).trans f5) (hO 0 _ rfl rfl rfl)),.norm 19 rfl rfl rfl (fun a_ w_ _ t r R D _ _=>att (ab3 (show a_.eval (.tmp 18)=.agg #[.bool n_3,.slice a_3 r_3.length c_3]from D 0 rfl) (G3.rl r) l3) (by omega)),.store 0 _ _ _ rfl rfl rfl rfl rfl rfl rfl (fun ia h=>by cases h) rfl rfl rfl OutN.cs,trivial⟩
     ·intro a5 w5 gs5 hn5 hd5 hBt hr hR hP hX hU;replace hn:=hn5;replace hd:=hd5.trans hd;replace b4:=b4.keep hBt ⟨fun _=>ne4_5.symm,trivial⟩;obtain⟨n_6,a_6,c_6,r_6,e19,G6,l6⟩:OutN ((-(((zx).natAbs:Int)/((zy).natAbs:Int)))) (Bx) (a5.eval (.tmp 19)) w5:=hP 1 (by decide);have b5:BoxV N2 w5 ((gs2 0)) (.agg #[.bool n_6,.slice a_6 r_6.length c_6]):=ac9 ((hX 0 _ rfl).2.1 rfl) (hX 0 _ rfl).2.2.2 e19;replace f5:a5.eval (.tmp 5)=_:=(hR 5 rfl).trans f5;replace f4:=(hR 4 rfl).trans f4;replace Gx:=Gx.rl hr;replace Gy:=Gy.rl hr;replace G3:=G3.rl hr;replace HB:=HB.trans (hBt.below HB.size (UpOld.all (bx:=[⟨N2,none,(gs2 0),5,.agg #[.bool n_3,.slice a_3 r_3.length c_3],some (2,19,1),[0]⟩]) ⟨fun _=>u5,trivial⟩));clear hBt hr hR hP hX hU;refine wp_seq ?_;refine aam [some 20,none] [Eqs (.agg #[.bool n_6,.slice a_6 r_6.length c_6]),Tt] [⟨N2,none,(gs1 2),4,.agg #[.bool false,.slice none 0 0],some (1,20,0),[]⟩] [] (by kernel_rfl) hn rfl (by kernel_rfl) (by kernel_rfl) (by kernel_rfl) (by kernel_rfl) (by kernel_rfl) (by kernel_rfl) ⟨Eqs.mono4 _,True.mono4,trivial⟩ (abl N2ok aap) (IsOld.all (bx:=[⟨N2,none,(gs1 2),4,.agg #[.bool false,.slice none 0 0],some (1,20,0),[]⟩]) ⟨fun _=>⟨f4,b4⟩,trivial⟩) (DisOld.all (bx:=[⟨N2,none,(gs1 2),4,.agg #[.bool false,.slice none 0 0],some (1,20,0),[]⟩]) ⟨fun _=>trivial,trivial⟩) ?_ ?_
      ·exact⟨.norm 20 rfl rfl rfl (fun a_ w_ _ t r R D _ _=>abt N2ok ((R 5 rfl).trans f5) (b5.keep t ⟨fun _=>ne4_5,trivial⟩)),.store 0 _ _ _ rfl rfl rfl rfl rfl rfl rfl (fun ia h=>by cases h) rfl rfl rfl (agt aga),trivial⟩
      ·intro a7 w7 gs7 hn7 hd7 hBt hr hR hP hX hU;replace hn:=hn7;replace hd:=hd7.trans hd;have e20:a7.eval (.tmp 20)=.agg #[.bool n_6,.slice a_6 r_6.length c_6]:=hP 0 (by decide);have b4:BoxV N2 w7 ((gs1 2)) (.agg #[.bool n_6,.slice a_6 r_6.length c_6]):=ac9 ((hX 0 _ rfl).2.1 rfl) (hX 0 _ rfl).2.2.2 e20;replace f4:a7.eval (.tmp 4)=_:=(hR 4 rfl).trans f4;replace Gx:=Gx.rl hr;replace Gy:=Gy.rl hr;replace G3:=G3.rl hr;replace G6:=G6.rl hr;replace HB:=HB.trans (hBt.below HB.size (UpOld.all (bx:=[⟨N2,none,(gs1 2),4,.agg #[.bool false,.slice none 0 0],some (1,20,0),[]⟩]) ⟨fun _=>u4,trivial⟩));clear hBt hr hR hP hX hU;refine wp_ret ?_;repeat(first|refine abp ?_|refine aa8 ?_|refine abi ?_)
       exact bodyPost_ret (v:=.agg #[.bool n_6,.slice a_6 r_6.length c_6]) (acs rfl f4 (aye b4)) hd ⟨_,rfl,OutN.to (ab3 rfl G6 l6) (by rw[ov,<-Gx.2,<-Gy.2,hc17];rfl) (by omega),HB⟩
    ·skip;refine wp_skip ?_;refine wp_seq ?_;refine aam [some 20,none] [Eqs (.agg #[.bool n_3,.slice a_3 r_3.length c_3]),Tt] [⟨N2,none,(gs1 2),4,.agg #[.bool false,.slice none 0 0],some (1,20,0),[]⟩] [] (by kernel_rfl) hn rfl (by kernel_rfl) (by kernel_rfl) (by kernel_rfl) (by kernel_rfl) (by kernel_rfl) (by kernel_rfl) ⟨Eqs.mono4 _,True.mono4,trivial⟩ (abl N2ok aap) (IsOld.all (bx:=[⟨N2,none,(gs1 2),4,.agg #[.bool false,.slice none 0 0],some (1,20,0),[]⟩]) ⟨fun _=>⟨f4,b4⟩,trivial⟩) (DisOld.all (bx:=[⟨N2,none,(gs1 2),4,.agg #[.bool false,.slice none 0 0],some (1,20,0),[]⟩]) ⟨fun _=>trivial,trivial⟩) ?_ ?_
     ·exact⟨.norm 20 rfl rfl rfl (fun a_ w_ _ t r R D _ _=>abt N2ok ((R 5 rfl).trans f5) (b5.keep t ⟨fun _=>ne4_5,trivial⟩)),.store 0 _ _ _ rfl rfl rfl rfl rfl rfl rfl (fun ia h=>by cases h) rfl rfl rfl (agt aga),trivial⟩
     ·intro a8 w8 gs8 hn8 hd8 hBt hr hR hP hX hU;replace hn:=hn8;replace hd:=hd8.trans hd;have e20:a8.eval (.tmp 20)=.agg #[.bool n_3,.slice a_3 r_3.length c_3]:=hP 0 (by decide);have b4:BoxV N2 w8 ((gs1 2)) (.agg #[.bool n_3,.slice a_3 r_3.length c_3]):=ac9 ((hX 0 _ rfl).2.1 rfl) (hX 0 _ rfl).2.2.2 e20;replace f4:a8.eval (.tmp 4)=_:=(hR 4 rfl).trans f4;replace Gx:=Gx.rl hr;replace Gy:=Gy.rl hr;replace G3:=G3.rl hr;replace HB:=HB.trans (hBt.below HB.size (UpOld.all (bx:=[⟨N2,none,(gs1 2),4,.agg #[.bool false,.slice none 0 0],some (1,20,0),[]⟩]) ⟨fun _=>u4,trivial⟩));clear hBt hr hR hP hX hU;refine wp_ret ?_;repeat(first|refine abp ?_|refine aa8 ?_|refine abi ?_)
      exact bodyPost_ret (v:=.agg #[.bool n_3,.slice a_3 r_3.length c_3]) (acs rfl f4 (aye b4)) hd ⟨_,rfl,OutN.to (ab3 rfl G3 l3) (by rw[ov,<-Gx.2,<-Gy.2,hc17];rfl) (by omega),HB⟩
theorem at6:Has Tryz.prog 82:=by unfold Has;kernel_rfl
theorem aw2{dst:Option Tmp}{ty:TypeId}{pos:String}{after:Array Edge}{guard:Option (Nat×Bool)}{a:Act}{w:World}{ats:Array TypeId}{i j:Nat}{Bx:Nat}{zx:Int}(Hx:OutN zx Bx (a.eval (.tmp i)) w){By:Nat}{zy:Int}(Hy:OutN zy By (a.eval (.tmp j)) w)(hL:Bx<=300000)(hL2:By<=300000)(hy:zy≠0):
  Does Tryz.prog {dst,op:=.call {callee:=.value (.func 82),args:=#[.tmp i,.tmp j],argTypes:=ats},type:=ty,pos,after,guard} a.eval w fun v w'=>Below w.heap.size w w'/\(OutN (ov zx zy) Bx) v w':=by
 obtain⟨nx,ax,cx,xs,ex,Gx,Lx⟩:=Hx;obtain⟨ny,ay,cy,ys,ey,Gy,Ly⟩:=Hy;refine aax at6 _ (by simp only[List.map_toArray,List.map_cons,List.map_nil,ex,ey]) ((azx w Bx _ _ _ _ _ Gx Lx By _ _ _ _ _ Gy Ly hL hL2 hy).mono ?_);rintro e w' ⟨v,rfl,h1,hb⟩;exact⟨_,rfl,hb,h1⟩
theorem ag0(w:World)(c lo hi:Int):
  Calls Tryz.prog 173 #[.int .i64 c,.int .i64 lo,.int .i64 hi] w fun e w'=>e=.returned (.bool (decide (lo<=c/\c<=hi)))/\w'=w:=by
 go_enter Tryz.func173,Tryz.ntmps173
 go_wp2;all_goals go_ret
 all_goals refine⟨congrArg Ending.returned (congrArg Value.bool ?_),rfl⟩
 all_goals (refine Bool.eq_iff_iff.2 ?_;simp <;> omega)
theorem at7(w:World)(c:Int):
  Calls Tryz.prog 149 #[.int .i64 c] w fun e w'=>e=.returned (.int .i64 (gfold c))/\w'=w:=by
 go_enter Tryz.func149,Tryz.ntmps149
 go_wp2;all_goals go_ret
 all_goals refine⟨congrArg Ending.returned (congrArg (Value.int .i64) ?_),rfl⟩
 all_goals simp only[beq_iff_eq,beq_eq_false_iff_ne]at *
 all_goals (unfold gfold;(repeat' split) <;> omega)
def gLet(c:Int):Prop:=(65<=c/\c<=90)\/(97<=c/\c<=122)\/(913<=c/\c<=929)\/(931<=c/\c<=937)\/(945<=c/\c<=969)\/(1040<=c/\c<=1103)
theorem aw3{c:Int}(h:gLet c):gcls c=2:=by
 unfold gLet at h;unfold gcls glatin ggreek gcyr;rw[if_neg (by omega),if_pos (by omega)]
theorem aw4{c:Int}(h:48<=c/\c<=57):gcls c=3:=by
 unfold gcls glatin ggreek gcyr;rw[if_neg (by omega),if_neg (by omega),if_pos h]
theorem aw5{c:Int}(h:8320<=c/\c<=8329):gcls c=4:=by
 unfold gcls glatin ggreek gcyr;rw[if_neg (by omega),if_neg (by omega),if_neg (by omega),if_pos (by omega)]
theorem at8{c:Int}(h1:¬(c=9\/c=10\/c=13\/c=32\/c=160\/c=12288))(h2:¬gLet c)(h3:¬(48<=c/\c<=57))(h4:¬(c=95\/c=176\/c=8242\/(8320<=c/\c<=8329)))(h6:c≠35)(h5:¬gsign (gfold c)):gcls c=0:=by
 unfold gLet at h2;unfold gcls glatin ggreek gcyr;rw[if_neg h1,if_neg (by omega),if_neg h3,if_neg h4,if_neg h6,if_neg h5]
theorem at9{c:Int}(h1:c≠183)(h2:c≠215)(h3:c≠247)(h4:c≠8722)(h5:¬gsign c):¬gsign (gfold c):=by
 have:gfold c=c:=by unfold gfold;rw[if_neg (by omega),if_neg h3,if_neg h4]
 rwa[this]
theorem getS(S:ByteArray)(i:Nat)(h:i<S.size):S[i]'h=S.get! i:=by
 cases S with
 |mk d=>exact(getElem!_pos d i h).symm
theorem abg(w:World)(c:Int):
  Calls Tryz.prog 144 #[.int .i64 c] w fun e w'=>e=.returned (.int .i64 (gcls c))/\w'=w:=by
 by_cases b1:c=9\/c=10\/c=13\/c=32\/c=160\/c=12288
 ·have hg:gcls c=1:=by unfold gcls;rw[if_pos b1]
  rw[hg];go_enter Tryz.func144,Tryz.ntmps144
  rcases b1 with rfl|rfl|rfl|rfl|rfl|rfl;all_goals go_wp2
  all_goals go_ret
  all_goals exact⟨rfl,rfl⟩
 ·have e1:(c==9)=false:=beq_eq_false_iff_ne.2 (by omega);have e2:(c==10)=false:=beq_eq_false_iff_ne.2 (by omega);have e3:(c==13)=false:=beq_eq_false_iff_ne.2 (by omega);have e4:(c==32)=false:=beq_eq_false_iff_ne.2 (by omega);have e5:(c==160)=false:=beq_eq_false_iff_ne.2 (by omega);have e6:(c==12288)=false:=beq_eq_false_iff_ne.2 (by omega);have B1:=hide b1;clear b1;go_enter Tryz.func144,Tryz.ntmps144
  go_wp2_with (go_at_call 173;refine(ag0 _ _ _ _).mono ?_;rintro e w' ⟨rfl,rfl⟩)
  all_goals try go_ret
  all_goals try refine⟨congrArg Ending.returned (congrArg (Value.int .i64) ?_),rfl⟩
  all_goals try simp only[beq_iff_eq,beq_eq_false_iff_ne]at *
  all_goals try(subst_vars;exact(by kernel_rfl))
  all_goals try exact(aw3 (by unfold gLet;omega)).symm
  all_goals try exact(aw4 (by omega)).symm
  all_goals try exact(aw5 (by omega)).symm
  ·have h8:c=8800:=by omega
   rw[h8];rfl
  ·have N:Hid ((¬gLet c)/\(¬(48<=c/\c<=57))/\(¬(c=95\/c=176\/c=8242\/(8320<=c/\c<=8329)))/\c≠35/\c≠183/\c≠215/\c≠247/\c≠8722/\c≠8788/\c≠8800):=by
    refine⟨by unfold gLet;omega,by omega,by omega,by omega,by omega,by omega,by omega,by omega,by omega,by omega⟩
   clear e1 e2 e3 e4 e5 e6;generalize hSs:(⟨#[43,45,42,47,37,40,41,123,125,44,59,58,61,33,63,64]⟩:ByteArray)=S;have hS16:S.size=16:=by rw[<-hSs];rfl
   have HSs:=hide hSs;clear hSs;go_loopw [4] (fun iv wr=>∃i:Nat,iv=.int .i64 i/\i<=16/\(∀j,j<i->c≠((S.get! j).toNat:Int))/\wr=w') (fun iv _=>16-(intOf iv).toNat)
   case atStart=>exact⟨0,rfl,Nat.zero_le _,fun j hj=>absurd hj (Nat.not_lt_zero j),rfl⟩
   case round=>
    obtain⟨i,rfl,hi,hne,rfl⟩:=hrel;have HN:=hide hne;clear hne;by_cases hlt:i<16
    ·have hlt':(i:Int)<16:=by omega
     have hlt'':(i:Int)<(S.size:Int):=by omega
     have hg:=getS S i (by omega);have hy:(S.get! i).toNat<256:=UInt8.toNat_lt _;obtain⟨y,hyy⟩:∃y:Nat,(S.get! i).toNat=y:=⟨_,rfl⟩;have HY:=hide hyy;rw[hyy]at hy;have hg':(S[i]'(by omega)).toNat=y:=by rw[hg];exact hyy
     clear hg hyy;by_cases hc:c=(y:Int)
     ·have hcc:(c==(y:Int))=true:=by rw[hc];simp
      have HC:=hide hc;clear hc;go_wp2;all_goals try(exfalso;simp_all;done)
      go_ret;refine⟨congrArg Ending.returned (congrArg (Value.int .i64) ?_),rfl⟩;have h1:=HY.out;have h2:=HC.out;rw[<-HSs.out]at h1;clear HN
      match i,hlt,h1 with
      |0,_,h1=>rw[h2,<-h1];rfl
      |1,_,h1=>rw[h2,<-h1];rfl
      |2,_,h1=>rw[h2,<-h1];rfl
      |3,_,h1=>rw[h2,<-h1];rfl
      |4,_,h1=>rw[h2,<-h1];rfl
      |5,_,h1=>rw[h2,<-h1];rfl
      |6,_,h1=>rw[h2,<-h1];rfl
      |7,_,h1=>rw[h2,<-h1];rfl
      |8,_,h1=>rw[h2,<-h1];rfl
      |9,_,h1=>rw[h2,<-h1];rfl
      |10,_,h1=>rw[h2,<-h1];rfl
      |11,_,h1=>rw[h2,<-h1];rfl
      |12,_,h1=>rw[h2,<-h1];rfl
      |13,_,h1=>rw[h2,<-h1];rfl
      |14,_,h1=>rw[h2,<-h1];rfl
      |15,_,h1=>rw[h2,<-h1];rfl
      |k+16,hk,_=>exact absurd hk (by omega)
     ·have hcc:(c==(y:Int))=false:=beq_eq_false_iff_ne.2 hc;have HC:=hide hc;clear hc;go_wp2;all_goals try(exfalso;simp_all;done)
      go_roundw
      case rel=>
       refine⟨i+1,by go_num,by omega,fun j hj=>?_,trivial⟩;by_cases hji:j=i
       ·rw[hji,HY.out];exact HC.out
       ·exact HN.out j (by omega)
      case measure=>simp[intOf];omega
    ·have hlt':decide ((i:Int)<16)=false:=by simp;omega
     have hlt'':decide ((i:Int)<(S.size:Int))=false:=by simp;omega
     go_wp2;go_ret;refine⟨congrArg Ending.returned (congrArg (Value.int .i64) ?_),rfl⟩;obtain⟨n1,n2,n3,n4,n5,n6,n7,n8,n9,n10⟩:=N.out;have hall:∀j,j<16->c≠((S.get! j).toNat:Int):=fun j hj=>HN.out j (by omega)
     rw[<-HSs.out]at hall;refine(at8 B1.out n1 n2 n3 n4 (at9 n5 n6 n7 n8 ?_)).symm;unfold gsign;rintro (h|h|h|h|h|h|h|h|h|h|h|h|h|h|h|h|h|h)
     ·exact hall 0 (by omega) (by rw[h];rfl)
     ·exact hall 1 (by omega) (by rw[h];rfl)
     ·exact hall 2 (by omega) (by rw[h];rfl)
     ·exact hall 3 (by omega) (by rw[h];rfl)
     ·exact hall 4 (by omega) (by rw[h];rfl)
     ·exact hall 5 (by omega) (by rw[h];rfl)
     ·exact hall 6 (by omega) (by rw[h];rfl)
     ·exact hall 7 (by omega) (by rw[h];rfl)
     ·exact hall 8 (by omega) (by rw[h];rfl)
     ·exact hall 9 (by omega) (by rw[h];rfl)
     ·exact hall 10 (by omega) (by rw[h];rfl)
     ·exact hall 11 (by omega) (by rw[h];rfl)
     ·exact hall 12 (by omega) (by rw[h];rfl)
     ·exact hall 13 (by omega) (by rw[h];rfl)
     ·exact hall 14 (by omega) (by rw[h];rfl)
     ·exact hall 15 (by omega) (by rw[h];rfl)
     ·exact n9 h
     ·exact n10 h
theorem aae(w:World){c lo hi:Int}(h:lo<=c/\c<=hi):Calls Tryz.prog 173 #[.int .i64 c,.int .i64 lo,.int .i64 hi] w fun e w'=>e=.returned (.bool true)/\w'=w:=by
 have:=ag0 w c lo hi;rwa[decide_eq_true h]at this
theorem aaf(w:World){c lo hi:Int}(h:c<lo\/hi<c):Calls Tryz.prog 173 #[.int .i64 c,.int .i64 lo,.int .i64 hi] w fun e w'=>e=.returned (.bool false)/\w'=w:=by
 have:=ag0 w c lo hi;rwa[decide_eq_false (by omega)]at this
theorem pt_a(w:World)(s:ByteArray)(i:Nat)(b0:Nat)(h:i<s.size)(_hm:s.size<=100000)(_hb:(s[i]'h).toNat=b0)(_h0:b0<128):
  Calls Tryz.prog 172 #[.string s,.int .i64 i] w fun e w'=>e=.returned (.tuple #[.int .i64 b0,.int .i64 1])/\w'=w:=by
 have _h':(i:Int)<(s.size:Int):=by omega
 have _hb0:b0<256:=by rw[<-_hb];exact UInt8.toNat_lt _
 go_enter Tryz.func172,Tryz.ntmps172
 go_wp2_with (go_at_call 173;first|(refine(aae _ (by omega)).mono ?_;rintro e w' ⟨rfl,rfl⟩)|(refine(aaf _ (by omega)).mono ?_;rintro e w' ⟨rfl,rfl⟩))
 go_ret2
 exact⟨by rfl,rfl⟩
theorem pt_z(w:World)(s:ByteArray)(i:Nat)(b0:Nat)(h:i<s.size)(_hm:s.size<=100000)(_hb:(s[i]'h).toNat=b0)(_h0:(128<=b0/\b0<=191)\/248<=b0):
  Calls Tryz.prog 172 #[.string s,.int .i64 i] w fun e w'=>e=.returned (.tuple #[.int .i64 0,.int .i64 0])/\w'=w:=by
 have _h':(i:Int)<(s.size:Int):=by omega
 have _hb0:b0<256:=by rw[<-_hb];exact UInt8.toNat_lt _
 go_enter Tryz.func172,Tryz.ntmps172
 go_wp2_with (go_at_call 173;first|(refine(aae _ (by omega)).mono ?_;rintro e w' ⟨rfl,rfl⟩)|(refine(aaf _ (by omega)).mono ?_;rintro e w' ⟨rfl,rfl⟩))
 go_ret2
 exact⟨by rfl,rfl⟩
theorem ara(w:World)(s:ByteArray)(i:Nat)(b0:Nat)(h:i<s.size)(_hm:s.size<=100000)(_hb:(s[i]'h).toNat=b0)(_h0:192<=b0/\b0<=223)(_hs:s.size<=i+1):
  Calls Tryz.prog 172 #[.string s,.int .i64 i] w fun e w'=>e=.returned (.tuple #[.int .i64 0,.int .i64 0])/\w'=w:=by
 have _h':(i:Int)<(s.size:Int):=by omega
 have _hb0:b0<256:=by rw[<-_hb];exact UInt8.toNat_lt _
 have _hs':(s.size:Int)<=(i:Int)+1:=by omega
 go_enter Tryz.func172,Tryz.ntmps172
 go_wp2_with (go_at_call 173;first|(refine(aae _ (by omega)).mono ?_;rintro e w' ⟨rfl,rfl⟩)|(refine(aaf _ (by omega)).mono ?_;rintro e w' ⟨rfl,rfl⟩))
 refine wp_loop_rounds 1 ?_;rw[rounds_succ];go_wp2_with (go_at_call 173;first|(refine(aae _ (by omega)).mono ?_;rintro e w' ⟨rfl,rfl⟩)|(refine(aaf _ (by omega)).mono ?_;rintro e w' ⟨rfl,rfl⟩))
 go_ret2
 exact⟨by rfl,rfl⟩
theorem aw6(w:World)(s:ByteArray)(i:Nat)(b0:Nat)(h:i<s.size)(_hm:s.size<=100000)(_hb:(s[i]'h).toNat=b0)(_h0:192<=b0/\b0<=223)(b1:Nat)(h1:i+1<s.size)(_hb1:(s[i+1]'h1).toNat=b1)(_hs:b1<128\/191<b1):
  Calls Tryz.prog 172 #[.string s,.int .i64 i] w fun e w'=>e=.returned (.tuple #[.int .i64 0,.int .i64 0])/\w'=w:=by
 have _h':(i:Int)<(s.size:Int):=by omega
 have _hb0:b0<256:=by rw[<-_hb];exact UInt8.toNat_lt _
 have _h1':(i:Int)+1<(s.size:Int):=by omega
 have _hb1':b1<256:=by rw[<-_hb1];exact UInt8.toNat_lt _
 go_enter Tryz.func172,Tryz.ntmps172
 go_wp2_with (go_at_call 173;first|(refine(aae _ (by omega)).mono ?_;rintro e w' ⟨rfl,rfl⟩)|(refine(aaf _ (by omega)).mono ?_;rintro e w' ⟨rfl,rfl⟩))
 refine wp_loop_rounds 1 ?_;rw[rounds_succ];go_wp2_with (go_at_call 173;first|(refine(aae _ (by omega)).mono ?_;rintro e w' ⟨rfl,rfl⟩)|(refine(aaf _ (by omega)).mono ?_;rintro e w' ⟨rfl,rfl⟩))
 go_ret2
 exact⟨by rfl,rfl⟩
theorem azy(w:World)(s:ByteArray)(i:Nat)(b0:Nat)(h:i<s.size)(_hm:s.size<=100000)(_hb:(s[i]'h).toNat=b0)(_h0:192<=b0/\b0<=223)(b1:Nat)(h1:i+1<s.size)(_hb1:(s[i+1]'h1).toNat=b1)(_c1:128<=b1/\b1<=191)(_hv:(b0-192)*64+(b1-128)<128):
  Calls Tryz.prog 172 #[.string s,.int .i64 i] w fun e w'=>e=.returned (.tuple #[.int .i64 0,.int .i64 0])/\w'=w:=by
 have _h':(i:Int)<(s.size:Int):=by omega
 have _hb0:b0<256:=by rw[<-_hb];exact UInt8.toNat_lt _
 have _h1':(i:Int)+1<(s.size:Int):=by omega
 have _hb1':b1<256:=by rw[<-_hb1];exact UInt8.toNat_lt _
 go_enter Tryz.func172,Tryz.ntmps172
 go_wp2_with (go_at_call 173;first|(refine(aae _ (by omega)).mono ?_;rintro e w' ⟨rfl,rfl⟩)|(refine(aaf _ (by omega)).mono ?_;rintro e w' ⟨rfl,rfl⟩))
 refine wp_loop_rounds 2 ?_;rw[rounds_succ];go_wp2_with (go_at_call 173;first|(refine(aae _ (by omega)).mono ?_;rintro e w' ⟨rfl,rfl⟩)|(refine(aaf _ (by omega)).mono ?_;rintro e w' ⟨rfl,rfl⟩))
 rw[rounds_succ];go_wp2_with (go_at_call 173;first|(refine(aae _ (by omega)).mono ?_;rintro e w' ⟨rfl,rfl⟩)|(refine(aaf _ (by omega)).mono ?_;rintro e w' ⟨rfl,rfl⟩))
 go_ret2
 exact⟨by rfl,rfl⟩
theorem a16(w:World)(s:ByteArray)(i:Nat)(b0:Nat)(h:i<s.size)(_hm:s.size<=100000)(_hb:(s[i]'h).toNat=b0)(_h0:192<=b0/\b0<=223)(b1:Nat)(h1:i+1<s.size)(_hb1:(s[i+1]'h1).toNat=b1)(_c1:128<=b1/\b1<=191)(_hv:128<=(b0-192)*64+(b1-128)):
  Calls Tryz.prog 172 #[.string s,.int .i64 i] w fun e w'=>e=.returned (.tuple #[.int .i64 (((b0-192)*64+(b1-128):Nat):Int),.int .i64 2])/\w'=w:=by
 have _h':(i:Int)<(s.size:Int):=by omega
 have _hb0:b0<256:=by rw[<-_hb];exact UInt8.toNat_lt _
 have _h1':(i:Int)+1<(s.size:Int):=by omega
 have _hb1':b1<256:=by rw[<-_hb1];exact UInt8.toNat_lt _
 go_enter Tryz.func172,Tryz.ntmps172
 go_wp2_with (go_at_call 173;first|(refine(aae _ (by omega)).mono ?_;rintro e w' ⟨rfl,rfl⟩)|(refine(aaf _ (by omega)).mono ?_;rintro e w' ⟨rfl,rfl⟩))
 refine wp_loop_rounds 2 ?_;rw[rounds_succ];go_wp2_with (go_at_call 173;first|(refine(aae _ (by omega)).mono ?_;rintro e w' ⟨rfl,rfl⟩)|(refine(aaf _ (by omega)).mono ?_;rintro e w' ⟨rfl,rfl⟩))
 rw[rounds_succ];go_wp2_with (go_at_call 173;first|(refine(aae _ (by omega)).mono ?_;rintro e w' ⟨rfl,rfl⟩)|(refine(aaf _ (by omega)).mono ?_;rintro e w' ⟨rfl,rfl⟩))
 go_ret2
 exact⟨by simp <;> omega,rfl⟩
theorem arb(w:World)(s:ByteArray)(i:Nat)(b0:Nat)(h:i<s.size)(_hm:s.size<=100000)(_hb:(s[i]'h).toNat=b0)(_h0:224<=b0/\b0<=239)(_hs:s.size<=i+1):
  Calls Tryz.prog 172 #[.string s,.int .i64 i] w fun e w'=>e=.returned (.tuple #[.int .i64 0,.int .i64 0])/\w'=w:=by
 have _h':(i:Int)<(s.size:Int):=by omega
 have _hb0:b0<256:=by rw[<-_hb];exact UInt8.toNat_lt _
 have _hs':(s.size:Int)<=(i:Int)+1:=by omega
 go_enter Tryz.func172,Tryz.ntmps172
 go_wp2_with (go_at_call 173;first|(refine(aae _ (by omega)).mono ?_;rintro e w' ⟨rfl,rfl⟩)|(refine(aaf _ (by omega)).mono ?_;rintro e w' ⟨rfl,rfl⟩))
 refine wp_loop_rounds 1 ?_;rw[rounds_succ];go_wp2_with (go_at_call 173;first|(refine(aae _ (by omega)).mono ?_;rintro e w' ⟨rfl,rfl⟩)|(refine(aaf _ (by omega)).mono ?_;rintro e w' ⟨rfl,rfl⟩))
 go_ret2
 exact⟨by rfl,rfl⟩
theorem aw7(w:World)(s:ByteArray)(i:Nat)(b0:Nat)(h:i<s.size)(_hm:s.size<=100000)(_hb:(s[i]'h).toNat=b0)(_h0:224<=b0/\b0<=239)(b1:Nat)(h1:i+1<s.size)(_hb1:(s[i+1]'h1).toNat=b1)(_hs:b1<128\/191<b1):
  Calls Tryz.prog 172 #[.string s,.int .i64 i] w fun e w'=>e=.returned (.tuple #[.int .i64 0,.int .i64 0])/\w'=w:=by
 have _h':(i:Int)<(s.size:Int):=by omega
 have _hb0:b0<256:=by rw[<-_hb];exact UInt8.toNat_lt _
 have _h1':(i:Int)+1<(s.size:Int):=by omega
 have _hb1':b1<256:=by rw[<-_hb1];exact UInt8.toNat_lt _
 go_enter Tryz.func172,Tryz.ntmps172
 go_wp2_with (go_at_call 173;first|(refine(aae _ (by omega)).mono ?_;rintro e w' ⟨rfl,rfl⟩)|(refine(aaf _ (by omega)).mono ?_;rintro e w' ⟨rfl,rfl⟩))
 refine wp_loop_rounds 1 ?_;rw[rounds_succ];go_wp2_with (go_at_call 173;first|(refine(aae _ (by omega)).mono ?_;rintro e w' ⟨rfl,rfl⟩)|(refine(aaf _ (by omega)).mono ?_;rintro e w' ⟨rfl,rfl⟩))
 go_ret2
 exact⟨by rfl,rfl⟩
theorem arc(w:World)(s:ByteArray)(i:Nat)(b0:Nat)(h:i<s.size)(_hm:s.size<=100000)(_hb:(s[i]'h).toNat=b0)(_h0:224<=b0/\b0<=239)(b1:Nat)(h1:i+1<s.size)(_hb1:(s[i+1]'h1).toNat=b1)(_c1:128<=b1/\b1<=191)(_hs:s.size<=i+2):
  Calls Tryz.prog 172 #[.string s,.int .i64 i] w fun e w'=>e=.returned (.tuple #[.int .i64 0,.int .i64 0])/\w'=w:=by
 have _h':(i:Int)<(s.size:Int):=by omega
 have _hb0:b0<256:=by rw[<-_hb];exact UInt8.toNat_lt _
 have _h1':(i:Int)+1<(s.size:Int):=by omega
 have _hb1':b1<256:=by rw[<-_hb1];exact UInt8.toNat_lt _
 have _hs':(s.size:Int)<=(i:Int)+2:=by omega
 go_enter Tryz.func172,Tryz.ntmps172
 go_wp2_with (go_at_call 173;first|(refine(aae _ (by omega)).mono ?_;rintro e w' ⟨rfl,rfl⟩)|(refine(aaf _ (by omega)).mono ?_;rintro e w' ⟨rfl,rfl⟩))
 refine wp_loop_rounds 2 ?_;rw[rounds_succ];go_wp2_with (go_at_call 173;first|(refine(aae _ (by omega)).mono ?_;rintro e w' ⟨rfl,rfl⟩)|(refine(aaf _ (by omega)).mono ?_;rintro e w' ⟨rfl,rfl⟩))
 rw[rounds_succ];go_wp2_with (go_at_call 173;first|(refine(aae _ (by omega)).mono ?_;rintro e w' ⟨rfl,rfl⟩)|(refine(aaf _ (by omega)).mono ?_;rintro e w' ⟨rfl,rfl⟩))
 go_ret2
 exact⟨by rfl,rfl⟩
theorem aw8(w:World)(s:ByteArray)(i:Nat)(b0:Nat)(h:i<s.size)(_hm:s.size<=100000)(_hb:(s[i]'h).toNat=b0)(_h0:224<=b0/\b0<=239)(b1:Nat)(h1:i+1<s.size)(_hb1:(s[i+1]'h1).toNat=b1)(_c1:128<=b1/\b1<=191)(b2:Nat)(h2:i+2<s.size)(_hb2:(s[i+2]'h2).toNat=b2)(_hs:b2<128\/191<b2):
  Calls Tryz.prog 172 #[.string s,.int .i64 i] w fun e w'=>e=.returned (.tuple #[.int .i64 0,.int .i64 0])/\w'=w:=by
 have _h':(i:Int)<(s.size:Int):=by omega
 have _hb0:b0<256:=by rw[<-_hb];exact UInt8.toNat_lt _
 have _h1':(i:Int)+1<(s.size:Int):=by omega
 have _hb1':b1<256:=by rw[<-_hb1];exact UInt8.toNat_lt _
 have _h2':(i:Int)+2<(s.size:Int):=by omega
 have _hb2':b2<256:=by rw[<-_hb2];exact UInt8.toNat_lt _
 go_enter Tryz.func172,Tryz.ntmps172
 go_wp2_with (go_at_call 173;first|(refine(aae _ (by omega)).mono ?_;rintro e w' ⟨rfl,rfl⟩)|(refine(aaf _ (by omega)).mono ?_;rintro e w' ⟨rfl,rfl⟩))
 refine wp_loop_rounds 2 ?_;rw[rounds_succ];go_wp2_with (go_at_call 173;first|(refine(aae _ (by omega)).mono ?_;rintro e w' ⟨rfl,rfl⟩)|(refine(aaf _ (by omega)).mono ?_;rintro e w' ⟨rfl,rfl⟩))
 rw[rounds_succ];go_wp2_with (go_at_call 173;first|(refine(aae _ (by omega)).mono ?_;rintro e w' ⟨rfl,rfl⟩)|(refine(aaf _ (by omega)).mono ?_;rintro e w' ⟨rfl,rfl⟩))
 go_ret2
 exact⟨by rfl,rfl⟩
theorem azz(w:World)(s:ByteArray)(i:Nat)(b0:Nat)(h:i<s.size)(_hm:s.size<=100000)(_hb:(s[i]'h).toNat=b0)(_h0:224<=b0/\b0<=239)(b1:Nat)(h1:i+1<s.size)(_hb1:(s[i+1]'h1).toNat=b1)(_c1:128<=b1/\b1<=191)(b2:Nat)(h2:i+2<s.size)(_hb2:(s[i+2]'h2).toNat=b2)(_c2:128<=b2/\b2<=191)(_hv:(b0-224)*4096+(b1-128)*64+(b2-128)<2048):
  Calls Tryz.prog 172 #[.string s,.int .i64 i] w fun e w'=>e=.returned (.tuple #[.int .i64 0,.int .i64 0])/\w'=w:=by
 have _h':(i:Int)<(s.size:Int):=by omega
 have _hb0:b0<256:=by rw[<-_hb];exact UInt8.toNat_lt _
 have _h1':(i:Int)+1<(s.size:Int):=by omega
 have _hb1':b1<256:=by rw[<-_hb1];exact UInt8.toNat_lt _
 have _h2':(i:Int)+2<(s.size:Int):=by omega
 have _hb2':b2<256:=by rw[<-_hb2];exact UInt8.toNat_lt _
 go_enter Tryz.func172,Tryz.ntmps172
 go_wp2_with (go_at_call 173;first|(refine(aae _ (by omega)).mono ?_;rintro e w' ⟨rfl,rfl⟩)|(refine(aaf _ (by omega)).mono ?_;rintro e w' ⟨rfl,rfl⟩))
 refine wp_loop_rounds 3 ?_;rw[rounds_succ];go_wp2_with (go_at_call 173;first|(refine(aae _ (by omega)).mono ?_;rintro e w' ⟨rfl,rfl⟩)|(refine(aaf _ (by omega)).mono ?_;rintro e w' ⟨rfl,rfl⟩))
 rw[rounds_succ];go_wp2_with (go_at_call 173;first|(refine(aae _ (by omega)).mono ?_;rintro e w' ⟨rfl,rfl⟩)|(refine(aaf _ (by omega)).mono ?_;rintro e w' ⟨rfl,rfl⟩))
 rw[rounds_succ];go_wp2_with (go_at_call 173;first|(refine(aae _ (by omega)).mono ?_;rintro e w' ⟨rfl,rfl⟩)|(refine(aaf _ (by omega)).mono ?_;rintro e w' ⟨rfl,rfl⟩))
 go_ret2
 exact⟨by rfl,rfl⟩
theorem az0(w:World)(s:ByteArray)(i:Nat)(b0:Nat)(h:i<s.size)(_hm:s.size<=100000)(_hb:(s[i]'h).toNat=b0)(_h0:224<=b0/\b0<=239)(b1:Nat)(h1:i+1<s.size)(_hb1:(s[i+1]'h1).toNat=b1)(_c1:128<=b1/\b1<=191)(b2:Nat)(h2:i+2<s.size)(_hb2:(s[i+2]'h2).toNat=b2)(_c2:128<=b2/\b2<=191)(_hv:55296<=(b0-224)*4096+(b1-128)*64+(b2-128)/\(b0-224)*4096+(b1-128)*64+(b2-128)<=57343):
  Calls Tryz.prog 172 #[.string s,.int .i64 i] w fun e w'=>e=.returned (.tuple #[.int .i64 0,.int .i64 0])/\w'=w:=by
 have _h':(i:Int)<(s.size:Int):=by omega
 have _hb0:b0<256:=by rw[<-_hb];exact UInt8.toNat_lt _
 have _h1':(i:Int)+1<(s.size:Int):=by omega
 have _hb1':b1<256:=by rw[<-_hb1];exact UInt8.toNat_lt _
 have _h2':(i:Int)+2<(s.size:Int):=by omega
 have _hb2':b2<256:=by rw[<-_hb2];exact UInt8.toNat_lt _
 go_enter Tryz.func172,Tryz.ntmps172
 go_wp2_with (go_at_call 173;first|(refine(aae _ (by omega)).mono ?_;rintro e w' ⟨rfl,rfl⟩)|(refine(aaf _ (by omega)).mono ?_;rintro e w' ⟨rfl,rfl⟩))
 refine wp_loop_rounds 3 ?_;rw[rounds_succ];go_wp2_with (go_at_call 173;first|(refine(aae _ (by omega)).mono ?_;rintro e w' ⟨rfl,rfl⟩)|(refine(aaf _ (by omega)).mono ?_;rintro e w' ⟨rfl,rfl⟩))
 rw[rounds_succ];go_wp2_with (go_at_call 173;first|(refine(aae _ (by omega)).mono ?_;rintro e w' ⟨rfl,rfl⟩)|(refine(aaf _ (by omega)).mono ?_;rintro e w' ⟨rfl,rfl⟩))
 rw[rounds_succ];go_wp2_with (go_at_call 173;first|(refine(aae _ (by omega)).mono ?_;rintro e w' ⟨rfl,rfl⟩)|(refine(aaf _ (by omega)).mono ?_;rintro e w' ⟨rfl,rfl⟩))
 go_ret2
 exact⟨by rfl,rfl⟩
theorem a17(w:World)(s:ByteArray)(i:Nat)(b0:Nat)(h:i<s.size)(_hm:s.size<=100000)(_hb:(s[i]'h).toNat=b0)(_h0:224<=b0/\b0<=239)(b1:Nat)(h1:i+1<s.size)(_hb1:(s[i+1]'h1).toNat=b1)(_c1:128<=b1/\b1<=191)(b2:Nat)(h2:i+2<s.size)(_hb2:(s[i+2]'h2).toNat=b2)(_c2:128<=b2/\b2<=191)(_hv:2048<=(b0-224)*4096+(b1-128)*64+(b2-128))(_hw:(b0-224)*4096+(b1-128)*64+(b2-128)<55296\/57343<(b0-224)*4096+(b1-128)*64+(b2-128)):
  Calls Tryz.prog 172 #[.string s,.int .i64 i] w fun e w'=>e=.returned (.tuple #[.int .i64 (((b0-224)*4096+(b1-128)*64+(b2-128):Nat):Int),.int .i64 3])/\w'=w:=by
 have _h':(i:Int)<(s.size:Int):=by omega
 have _hb0:b0<256:=by rw[<-_hb];exact UInt8.toNat_lt _
 have _h1':(i:Int)+1<(s.size:Int):=by omega
 have _hb1':b1<256:=by rw[<-_hb1];exact UInt8.toNat_lt _
 have _h2':(i:Int)+2<(s.size:Int):=by omega
 have _hb2':b2<256:=by rw[<-_hb2];exact UInt8.toNat_lt _
 go_enter Tryz.func172,Tryz.ntmps172
 go_wp2_with (go_at_call 173;first|(refine(aae _ (by omega)).mono ?_;rintro e w' ⟨rfl,rfl⟩)|(refine(aaf _ (by omega)).mono ?_;rintro e w' ⟨rfl,rfl⟩))
 refine wp_loop_rounds 3 ?_;rw[rounds_succ];go_wp2_with (go_at_call 173;first|(refine(aae _ (by omega)).mono ?_;rintro e w' ⟨rfl,rfl⟩)|(refine(aaf _ (by omega)).mono ?_;rintro e w' ⟨rfl,rfl⟩))
 rw[rounds_succ];go_wp2_with (go_at_call 173;first|(refine(aae _ (by omega)).mono ?_;rintro e w' ⟨rfl,rfl⟩)|(refine(aaf _ (by omega)).mono ?_;rintro e w' ⟨rfl,rfl⟩))
 rw[rounds_succ];go_wp2_with (go_at_call 173;first|(refine(aae _ (by omega)).mono ?_;rintro e w' ⟨rfl,rfl⟩)|(refine(aaf _ (by omega)).mono ?_;rintro e w' ⟨rfl,rfl⟩))
 go_ret2
 exact⟨by simp <;> omega,rfl⟩
theorem ard(w:World)(s:ByteArray)(i:Nat)(b0:Nat)(h:i<s.size)(_hm:s.size<=100000)(_hb:(s[i]'h).toNat=b0)(_h0:240<=b0/\b0<=247)(_hs:s.size<=i+1):
  Calls Tryz.prog 172 #[.string s,.int .i64 i] w fun e w'=>e=.returned (.tuple #[.int .i64 0,.int .i64 0])/\w'=w:=by
 have _h':(i:Int)<(s.size:Int):=by omega
 have _hb0:b0<256:=by rw[<-_hb];exact UInt8.toNat_lt _
 have _hs':(s.size:Int)<=(i:Int)+1:=by omega
 go_enter Tryz.func172,Tryz.ntmps172
 go_wp2_with (go_at_call 173;first|(refine(aae _ (by omega)).mono ?_;rintro e w' ⟨rfl,rfl⟩)|(refine(aaf _ (by omega)).mono ?_;rintro e w' ⟨rfl,rfl⟩))
 refine wp_loop_rounds 1 ?_;rw[rounds_succ];go_wp2_with (go_at_call 173;first|(refine(aae _ (by omega)).mono ?_;rintro e w' ⟨rfl,rfl⟩)|(refine(aaf _ (by omega)).mono ?_;rintro e w' ⟨rfl,rfl⟩))
 go_ret2
 exact⟨by rfl,rfl⟩
theorem aw9(w:World)(s:ByteArray)(i:Nat)(b0:Nat)(h:i<s.size)(_hm:s.size<=100000)(_hb:(s[i]'h).toNat=b0)(_h0:240<=b0/\b0<=247)(b1:Nat)(h1:i+1<s.size)(_hb1:(s[i+1]'h1).toNat=b1)(_hs:b1<128\/191<b1):
  Calls Tryz.prog 172 #[.string s,.int .i64 i] w fun e w'=>e=.returned (.tuple #[.int .i64 0,.int .i64 0])/\w'=w:=by
 have _h':(i:Int)<(s.size:Int):=by omega
 have _hb0:b0<256:=by rw[<-_hb];exact UInt8.toNat_lt _
 have _h1':(i:Int)+1<(s.size:Int):=by omega
 have _hb1':b1<256:=by rw[<-_hb1];exact UInt8.toNat_lt _
 go_enter Tryz.func172,Tryz.ntmps172
 go_wp2_with (go_at_call 173;first|(refine(aae _ (by omega)).mono ?_;rintro e w' ⟨rfl,rfl⟩)|(refine(aaf _ (by omega)).mono ?_;rintro e w' ⟨rfl,rfl⟩))
 refine wp_loop_rounds 1 ?_;rw[rounds_succ];go_wp2_with (go_at_call 173;first|(refine(aae _ (by omega)).mono ?_;rintro e w' ⟨rfl,rfl⟩)|(refine(aaf _ (by omega)).mono ?_;rintro e w' ⟨rfl,rfl⟩))
 go_ret2
 exact⟨by rfl,rfl⟩
theorem arf(w:World)(s:ByteArray)(i:Nat)(b0:Nat)(h:i<s.size)(_hm:s.size<=100000)(_hb:(s[i]'h).toNat=b0)(_h0:240<=b0/\b0<=247)(b1:Nat)(h1:i+1<s.size)(_hb1:(s[i+1]'h1).toNat=b1)(_c1:128<=b1/\b1<=191)(_hs:s.size<=i+2):
  Calls Tryz.prog 172 #[.string s,.int .i64 i] w fun e w'=>e=.returned (.tuple #[.int .i64 0,.int .i64 0])/\w'=w:=by
 have _h':(i:Int)<(s.size:Int):=by omega
 have _hb0:b0<256:=by rw[<-_hb];exact UInt8.toNat_lt _
 have _h1':(i:Int)+1<(s.size:Int):=by omega
 have _hb1':b1<256:=by rw[<-_hb1];exact UInt8.toNat_lt _
 have _hs':(s.size:Int)<=(i:Int)+2:=by omega
 go_enter Tryz.func172,Tryz.ntmps172
 go_wp2_with (go_at_call 173;first|(refine(aae _ (by omega)).mono ?_;rintro e w' ⟨rfl,rfl⟩)|(refine(aaf _ (by omega)).mono ?_;rintro e w' ⟨rfl,rfl⟩))
 refine wp_loop_rounds 2 ?_;rw[rounds_succ];go_wp2_with (go_at_call 173;first|(refine(aae _ (by omega)).mono ?_;rintro e w' ⟨rfl,rfl⟩)|(refine(aaf _ (by omega)).mono ?_;rintro e w' ⟨rfl,rfl⟩))
 rw[rounds_succ];go_wp2_with (go_at_call 173;first|(refine(aae _ (by omega)).mono ?_;rintro e w' ⟨rfl,rfl⟩)|(refine(aaf _ (by omega)).mono ?_;rintro e w' ⟨rfl,rfl⟩))
 go_ret2
 exact⟨by rfl,rfl⟩
theorem axa(w:World)(s:ByteArray)(i:Nat)(b0:Nat)(h:i<s.size)(_hm:s.size<=100000)(_hb:(s[i]'h).toNat=b0)(_h0:240<=b0/\b0<=247)(b1:Nat)(h1:i+1<s.size)(_hb1:(s[i+1]'h1).toNat=b1)(_c1:128<=b1/\b1<=191)(b2:Nat)(h2:i+2<s.size)(_hb2:(s[i+2]'h2).toNat=b2)(_hs:b2<128\/191<b2):
  Calls Tryz.prog 172 #[.string s,.int .i64 i] w fun e w'=>e=.returned (.tuple #[.int .i64 0,.int .i64 0])/\w'=w:=by
 have _h':(i:Int)<(s.size:Int):=by omega
 have _hb0:b0<256:=by rw[<-_hb];exact UInt8.toNat_lt _
 have _h1':(i:Int)+1<(s.size:Int):=by omega
 have _hb1':b1<256:=by rw[<-_hb1];exact UInt8.toNat_lt _
 have _h2':(i:Int)+2<(s.size:Int):=by omega
 have _hb2':b2<256:=by rw[<-_hb2];exact UInt8.toNat_lt _
 go_enter Tryz.func172,Tryz.ntmps172
 go_wp2_with (go_at_call 173;first|(refine(aae _ (by omega)).mono ?_;rintro e w' ⟨rfl,rfl⟩)|(refine(aaf _ (by omega)).mono ?_;rintro e w' ⟨rfl,rfl⟩))
 refine wp_loop_rounds 2 ?_;rw[rounds_succ];go_wp2_with (go_at_call 173;first|(refine(aae _ (by omega)).mono ?_;rintro e w' ⟨rfl,rfl⟩)|(refine(aaf _ (by omega)).mono ?_;rintro e w' ⟨rfl,rfl⟩))
 rw[rounds_succ];go_wp2_with (go_at_call 173;first|(refine(aae _ (by omega)).mono ?_;rintro e w' ⟨rfl,rfl⟩)|(refine(aaf _ (by omega)).mono ?_;rintro e w' ⟨rfl,rfl⟩))
 go_ret2
 exact⟨by rfl,rfl⟩
theorem arg(w:World)(s:ByteArray)(i:Nat)(b0:Nat)(h:i<s.size)(_hm:s.size<=100000)(_hb:(s[i]'h).toNat=b0)(_h0:240<=b0/\b0<=247)(b1:Nat)(h1:i+1<s.size)(_hb1:(s[i+1]'h1).toNat=b1)(_c1:128<=b1/\b1<=191)(b2:Nat)(h2:i+2<s.size)(_hb2:(s[i+2]'h2).toNat=b2)(_c2:128<=b2/\b2<=191)(_hs:s.size<=i+3):
  Calls Tryz.prog 172 #[.string s,.int .i64 i] w fun e w'=>e=.returned (.tuple #[.int .i64 0,.int .i64 0])/\w'=w:=by
 have _h':(i:Int)<(s.size:Int):=by omega
 have _hb0:b0<256:=by rw[<-_hb];exact UInt8.toNat_lt _
 have _h1':(i:Int)+1<(s.size:Int):=by omega
 have _hb1':b1<256:=by rw[<-_hb1];exact UInt8.toNat_lt _
 have _h2':(i:Int)+2<(s.size:Int):=by omega
 have _hb2':b2<256:=by rw[<-_hb2];exact UInt8.toNat_lt _
 have _hs':(s.size:Int)<=(i:Int)+3:=by omega
 go_enter Tryz.func172,Tryz.ntmps172
 go_wp2_with (go_at_call 173;first|(refine(aae _ (by omega)).mono ?_;rintro e w' ⟨rfl,rfl⟩)|(refine(aaf _ (by omega)).mono ?_;rintro e w' ⟨rfl,rfl⟩))
 refine wp_loop_rounds 3 ?_;rw[rounds_succ];go_wp2_with (go_at_call 173;first|(refine(aae _ (by omega)).mono ?_;rintro e w' ⟨rfl,rfl⟩)|(refine(aaf _ (by omega)).mono ?_;rintro e w' ⟨rfl,rfl⟩))
 rw[rounds_succ];go_wp2_with (go_at_call 173;first|(refine(aae _ (by omega)).mono ?_;rintro e w' ⟨rfl,rfl⟩)|(refine(aaf _ (by omega)).mono ?_;rintro e w' ⟨rfl,rfl⟩))
 rw[rounds_succ];go_wp2_with (go_at_call 173;first|(refine(aae _ (by omega)).mono ?_;rintro e w' ⟨rfl,rfl⟩)|(refine(aaf _ (by omega)).mono ?_;rintro e w' ⟨rfl,rfl⟩))
 go_ret2
 exact⟨by rfl,rfl⟩
theorem axb(w:World)(s:ByteArray)(i:Nat)(b0:Nat)(h:i<s.size)(_hm:s.size<=100000)(_hb:(s[i]'h).toNat=b0)(_h0:240<=b0/\b0<=247)(b1:Nat)(h1:i+1<s.size)(_hb1:(s[i+1]'h1).toNat=b1)(_c1:128<=b1/\b1<=191)(b2:Nat)(h2:i+2<s.size)(_hb2:(s[i+2]'h2).toNat=b2)(_c2:128<=b2/\b2<=191)(b3:Nat)(h3:i+3<s.size)(_hb3:(s[i+3]'h3).toNat=b3)(_hs:b3<128\/191<b3):
  Calls Tryz.prog 172 #[.string s,.int .i64 i] w fun e w'=>e=.returned (.tuple #[.int .i64 0,.int .i64 0])/\w'=w:=by
 have _h':(i:Int)<(s.size:Int):=by omega
 have _hb0:b0<256:=by rw[<-_hb];exact UInt8.toNat_lt _
 have _h1':(i:Int)+1<(s.size:Int):=by omega
 have _hb1':b1<256:=by rw[<-_hb1];exact UInt8.toNat_lt _
 have _h2':(i:Int)+2<(s.size:Int):=by omega
 have _hb2':b2<256:=by rw[<-_hb2];exact UInt8.toNat_lt _
 have _h3':(i:Int)+3<(s.size:Int):=by omega
 have _hb3':b3<256:=by rw[<-_hb3];exact UInt8.toNat_lt _
 go_enter Tryz.func172,Tryz.ntmps172
 go_wp2_with (go_at_call 173;first|(refine(aae _ (by omega)).mono ?_;rintro e w' ⟨rfl,rfl⟩)|(refine(aaf _ (by omega)).mono ?_;rintro e w' ⟨rfl,rfl⟩))
 refine wp_loop_rounds 3 ?_;rw[rounds_succ];go_wp2_with (go_at_call 173;first|(refine(aae _ (by omega)).mono ?_;rintro e w' ⟨rfl,rfl⟩)|(refine(aaf _ (by omega)).mono ?_;rintro e w' ⟨rfl,rfl⟩))
 rw[rounds_succ];go_wp2_with (go_at_call 173;first|(refine(aae _ (by omega)).mono ?_;rintro e w' ⟨rfl,rfl⟩)|(refine(aaf _ (by omega)).mono ?_;rintro e w' ⟨rfl,rfl⟩))
 rw[rounds_succ];go_wp2_with (go_at_call 173;first|(refine(aae _ (by omega)).mono ?_;rintro e w' ⟨rfl,rfl⟩)|(refine(aaf _ (by omega)).mono ?_;rintro e w' ⟨rfl,rfl⟩))
 go_ret2
 exact⟨by rfl,rfl⟩
theorem az1(w:World)(s:ByteArray)(i:Nat)(b0:Nat)(h:i<s.size)(_hm:s.size<=100000)(_hb:(s[i]'h).toNat=b0)(_h0:240<=b0/\b0<=247)(b1:Nat)(h1:i+1<s.size)(_hb1:(s[i+1]'h1).toNat=b1)(_c1:128<=b1/\b1<=191)(b2:Nat)(h2:i+2<s.size)(_hb2:(s[i+2]'h2).toNat=b2)(_c2:128<=b2/\b2<=191)(b3:Nat)(h3:i+3<s.size)(_hb3:(s[i+3]'h3).toNat=b3)(_c3:128<=b3/\b3<=191)(_hv:(b0-240)*262144+(b1-128)*4096+(b2-128)*64+(b3-128)<65536):
  Calls Tryz.prog 172 #[.string s,.int .i64 i] w fun e w'=>e=.returned (.tuple #[.int .i64 0,.int .i64 0])/\w'=w:=by
 have _h':(i:Int)<(s.size:Int):=by omega
 have _hb0:b0<256:=by rw[<-_hb];exact UInt8.toNat_lt _
 have _h1':(i:Int)+1<(s.size:Int):=by omega
 have _hb1':b1<256:=by rw[<-_hb1];exact UInt8.toNat_lt _
 have _h2':(i:Int)+2<(s.size:Int):=by omega
 have _hb2':b2<256:=by rw[<-_hb2];exact UInt8.toNat_lt _
 have _h3':(i:Int)+3<(s.size:Int):=by omega
 have _hb3':b3<256:=by rw[<-_hb3];exact UInt8.toNat_lt _
 go_enter Tryz.func172,Tryz.ntmps172
 go_wp2_with (go_at_call 173;first|(refine(aae _ (by omega)).mono ?_;rintro e w' ⟨rfl,rfl⟩)|(refine(aaf _ (by omega)).mono ?_;rintro e w' ⟨rfl,rfl⟩))
 refine wp_loop_rounds 4 ?_;rw[rounds_succ];go_wp2_with (go_at_call 173;first|(refine(aae _ (by omega)).mono ?_;rintro e w' ⟨rfl,rfl⟩)|(refine(aaf _ (by omega)).mono ?_;rintro e w' ⟨rfl,rfl⟩))
 rw[rounds_succ];go_wp2_with (go_at_call 173;first|(refine(aae _ (by omega)).mono ?_;rintro e w' ⟨rfl,rfl⟩)|(refine(aaf _ (by omega)).mono ?_;rintro e w' ⟨rfl,rfl⟩))
 rw[rounds_succ];go_wp2_with (go_at_call 173;first|(refine(aae _ (by omega)).mono ?_;rintro e w' ⟨rfl,rfl⟩)|(refine(aaf _ (by omega)).mono ?_;rintro e w' ⟨rfl,rfl⟩))
 rw[rounds_succ];go_wp2_with (go_at_call 173;first|(refine(aae _ (by omega)).mono ?_;rintro e w' ⟨rfl,rfl⟩)|(refine(aaf _ (by omega)).mono ?_;rintro e w' ⟨rfl,rfl⟩))
 go_ret2
 exact⟨by rfl,rfl⟩
theorem axc(w:World)(s:ByteArray)(i:Nat)(b0:Nat)(h:i<s.size)(_hm:s.size<=100000)(_hb:(s[i]'h).toNat=b0)(_h0:240<=b0/\b0<=247)(b1:Nat)(h1:i+1<s.size)(_hb1:(s[i+1]'h1).toNat=b1)(_c1:128<=b1/\b1<=191)(b2:Nat)(h2:i+2<s.size)(_hb2:(s[i+2]'h2).toNat=b2)(_c2:128<=b2/\b2<=191)(b3:Nat)(h3:i+3<s.size)(_hb3:(s[i+3]'h3).toNat=b3)(_c3:128<=b3/\b3<=191)(_hv:1114111<(b0-240)*262144+(b1-128)*4096+(b2-128)*64+(b3-128)):
  Calls Tryz.prog 172 #[.string s,.int .i64 i] w fun e w'=>e=.returned (.tuple #[.int .i64 0,.int .i64 0])/\w'=w:=by
 have _h':(i:Int)<(s.size:Int):=by omega
 have _hb0:b0<256:=by rw[<-_hb];exact UInt8.toNat_lt _
 have _h1':(i:Int)+1<(s.size:Int):=by omega
 have _hb1':b1<256:=by rw[<-_hb1];exact UInt8.toNat_lt _
 have _h2':(i:Int)+2<(s.size:Int):=by omega
 have _hb2':b2<256:=by rw[<-_hb2];exact UInt8.toNat_lt _
 have _h3':(i:Int)+3<(s.size:Int):=by omega
 have _hb3':b3<256:=by rw[<-_hb3];exact UInt8.toNat_lt _
 go_enter Tryz.func172,Tryz.ntmps172
 go_wp2_with (go_at_call 173;first|(refine(aae _ (by omega)).mono ?_;rintro e w' ⟨rfl,rfl⟩)|(refine(aaf _ (by omega)).mono ?_;rintro e w' ⟨rfl,rfl⟩))
 refine wp_loop_rounds 4 ?_;rw[rounds_succ];go_wp2_with (go_at_call 173;first|(refine(aae _ (by omega)).mono ?_;rintro e w' ⟨rfl,rfl⟩)|(refine(aaf _ (by omega)).mono ?_;rintro e w' ⟨rfl,rfl⟩))
 rw[rounds_succ];go_wp2_with (go_at_call 173;first|(refine(aae _ (by omega)).mono ?_;rintro e w' ⟨rfl,rfl⟩)|(refine(aaf _ (by omega)).mono ?_;rintro e w' ⟨rfl,rfl⟩))
 rw[rounds_succ];go_wp2_with (go_at_call 173;first|(refine(aae _ (by omega)).mono ?_;rintro e w' ⟨rfl,rfl⟩)|(refine(aaf _ (by omega)).mono ?_;rintro e w' ⟨rfl,rfl⟩))
 rw[rounds_succ];go_wp2_with (go_at_call 173;first|(refine(aae _ (by omega)).mono ?_;rintro e w' ⟨rfl,rfl⟩)|(refine(aaf _ (by omega)).mono ?_;rintro e w' ⟨rfl,rfl⟩))
 go_ret2
 exact⟨by rfl,rfl⟩
theorem a18(w:World)(s:ByteArray)(i:Nat)(b0:Nat)(h:i<s.size)(_hm:s.size<=100000)(_hb:(s[i]'h).toNat=b0)(_h0:240<=b0/\b0<=247)(b1:Nat)(h1:i+1<s.size)(_hb1:(s[i+1]'h1).toNat=b1)(_c1:128<=b1/\b1<=191)(b2:Nat)(h2:i+2<s.size)(_hb2:(s[i+2]'h2).toNat=b2)(_c2:128<=b2/\b2<=191)(b3:Nat)(h3:i+3<s.size)(_hb3:(s[i+3]'h3).toNat=b3)(_c3:128<=b3/\b3<=191)(_hv:65536<=(b0-240)*262144+(b1-128)*4096+(b2-128)*64+(b3-128)/\(b0-240)*262144+(b1-128)*4096+(b2-128)*64+(b3-128)<=1114111):
  Calls Tryz.prog 172 #[.string s,.int .i64 i] w fun e w'=>e=.returned (.tuple #[.int .i64 (((b0-240)*262144+(b1-128)*4096+(b2-128)*64+(b3-128):Nat):Int),.int .i64 4])/\w'=w:=by
 have _h':(i:Int)<(s.size:Int):=by omega
 have _hb0:b0<256:=by rw[<-_hb];exact UInt8.toNat_lt _
 have _h1':(i:Int)+1<(s.size:Int):=by omega
 have _hb1':b1<256:=by rw[<-_hb1];exact UInt8.toNat_lt _
 have _h2':(i:Int)+2<(s.size:Int):=by omega
 have _hb2':b2<256:=by rw[<-_hb2];exact UInt8.toNat_lt _
 have _h3':(i:Int)+3<(s.size:Int):=by omega
 have _hb3':b3<256:=by rw[<-_hb3];exact UInt8.toNat_lt _
 go_enter Tryz.func172,Tryz.ntmps172
 go_wp2_with (go_at_call 173;first|(refine(aae _ (by omega)).mono ?_;rintro e w' ⟨rfl,rfl⟩)|(refine(aaf _ (by omega)).mono ?_;rintro e w' ⟨rfl,rfl⟩))
 refine wp_loop_rounds 4 ?_;rw[rounds_succ];go_wp2_with (go_at_call 173;first|(refine(aae _ (by omega)).mono ?_;rintro e w' ⟨rfl,rfl⟩)|(refine(aaf _ (by omega)).mono ?_;rintro e w' ⟨rfl,rfl⟩))
 rw[rounds_succ];go_wp2_with (go_at_call 173;first|(refine(aae _ (by omega)).mono ?_;rintro e w' ⟨rfl,rfl⟩)|(refine(aaf _ (by omega)).mono ?_;rintro e w' ⟨rfl,rfl⟩))
 rw[rounds_succ];go_wp2_with (go_at_call 173;first|(refine(aae _ (by omega)).mono ?_;rintro e w' ⟨rfl,rfl⟩)|(refine(aaf _ (by omega)).mono ?_;rintro e w' ⟨rfl,rfl⟩))
 rw[rounds_succ];go_wp2_with (go_at_call 173;first|(refine(aae _ (by omega)).mono ?_;rintro e w' ⟨rfl,rfl⟩)|(refine(aaf _ (by omega)).mono ?_;rintro e w' ⟨rfl,rfl⟩))
 go_ret2
 exact⟨by simp <;> omega,rfl⟩
section
variable {dst:Option Tmp} {ty:TypeId} {pos:String} {after:Array Edge} {guard:Option (Nat×Bool)} {a:Act} {w:World} {ats:Array TypeId} {i k g:Nat} {x z u v:Int} {L:Nat}
theorem ai7(h:OutN z L (a.eval (.tmp i)) w)(hL:L<=1000000):
  Does Tryz.prog {dst,op:=.call {callee:=.value (.func 124),args:=#[.tmp i],argTypes:=ats},type:=ty,pos,after,guard} a.eval w fun v w'=>Below w.heap.size w w'/\OutL (z.natAbs:Int) L v w':=by
 obtain⟨ng,ao,cap,rs,e1,W,l⟩:=h;have hb:=W.bound l;refine aax aqu _ (by simp only[List.map_toArray,List.map_cons,List.map_nil,e1]) ((Dm.atb w ng ao cap rs _ W.1 L hb hL (by omega)).mono ?_);rintro e w' ⟨v,rfl,I,hb'⟩;obtain⟨ao,cap,rs,rfl,G⟩:=I.got;exact⟨_,rfl,hb',_,_,_,rfl,G,aaz G.canon (by rw[G.val];exact hb)⟩
theorem az2(w:World):(Instr.fieldAt 85 (.pointer (some ⟨g,0,none⟩)) 1).run Tryz.prog w=.ok (.pointer (some ⟨g,1,none⟩)) w:=by go_simp
theorem aua{ng:Bool}{ao:Option Addr}{n c:Nat}(hp:a.eval (.tmp k)=.pointer (some ⟨g,1,none⟩))(hb:BoxV N2 w g (.agg #[.bool ng,.slice ao n c])):
  Does Tryz.prog {dst,op:=.load 69 (.tmp k),type:=ty,pos,after,guard} a.eval w fun v' w'=>Below w.heap.size w w'/\Eqs (.slice ao n c) v' w':=by
 obtain⟨b1,b2,b3,b4⟩:=(atq hb).facts;refine ab7 (v:=.slice ao n c) ?_ ⟨Below.refl _ _,rfl⟩;rw[hp];go_simp
theorem az3{ao:Option Addr}{n c:Nat}(h:a.eval (.tmp i)=.slice ao n c):Does Tryz.prog {dst,op:=.call {callee:=.builtin .len,args:=#[.tmp i],argTypes:=#[69]},type:=ty,pos,after,guard} a.eval w fun v' w'=>Below w.heap.size w w'/\Eqs (.int .i64 n) v' w':=by
 have e:(execOp a.eval {dst,op:=.call {callee:=.builtin .len,args:=#[.tmp i],argTypes:=#[69]},type:=ty,pos,after,guard}).run Tryz.prog w=.ok (.value (.int .i64 n)) w:=by
  have h':a.tmps[i]?.getD undef=.slice ao n c:=by simpa[Act.eval]using h
  simp[go_sem,h']
 refine⟨?_⟩;unfold Turns;rw[e];exact⟨Below.refl _ _,rfl⟩
theorem apf{m:Nat}(h:OutL x L (a.eval (.tmp i)) w)(hm:IsLen x m):Does Tryz.prog {dst,op:=.call {callee:=.builtin .len,args:=#[.tmp i],argTypes:=#[38]},type:=ty,pos,after,guard} a.eval w fun v' w'=>Below w.heap.size w w'/\Eqs (.int .i64 m) v' w':=by
 obtain⟨ao,cap,rs,e,G,l⟩:=h;have hl:rs.length=m:=akl ⟨rs,G.canon,G.val,rfl⟩ hm;exact(a09 e).mono (fun v' w' ⟨hb,e⟩=>⟨hb,by rw[Eqs,show v'=_ from e,hl]⟩)
theorem az4(h1:a.eval (.tmp i)=.int .i64 u):
  Does Tryz.prog {dst,op:=.binOp .lss 3 (.tmp i) (.const (.int .i64 v)) 3,type:=ty,pos,after,guard} a.eval w fun v' w'=>Below w.heap.size w w'/\Eqs (.bool (decide (u<v))) v' w':=by
 refine abx (v:=.bool (decide (u<v))) ?_ ?_ ⟨Below.refl _ _,rfl⟩
 ·rw[h1];simp[go_sem,Act.eval]
 ·rw[h1];simp[go_sem,Act.eval]
end
theorem az5(w:World)(Bx:Nat)(nx:Bool)(ax:Option Addr)(cx:Nat)(xs:List Int)(zx:Int)(Gx:Dm.Wh w nx ax cx xs zx)(Lx:xs.length<=Bx)(hL:Bx<=1000000)(m:Nat)(hm:IsLen (zx.natAbs:Int) m):
  Calls Tryz.prog 123 #[.agg #[.bool nx,.slice ax xs.length cx]] w fun e w'=>∃v,e=.returned v/\(Eqs (.int .i64 (m:Int))) v w'/\Below w.heap.size w w':=by
 go_enter Tryz.func123,Tryz.ntmps123
 generalize hA:(Act.mk _ _)=aa;have hn:aa.tmps.size=13:=by rw[<-hA];rfl
 have hd:aa.defers = []:=by rw[<-hA]
 have f0:aa.eval (.tmp 0)=.agg #[.bool nx,.slice ax xs.length cx]:=by rw[<-hA];rfl
 clear hA;have HB:Below w.heap.size w w:=Below.refl _ _;refine wp_seq ?_;refine aam [some 1,some 2] [(fun _ _=>True),Eqs ((.int .i64 0))] [⟨N2,some 0,0,1,.agg #[.bool nx,.slice ax xs.length cx],none,[]⟩] [] (by kernel_rfl) hn rfl (by kernel_rfl) (by kernel_rfl) (by kernel_rfl) (by kernel_rfl) (by kernel_rfl) (by kernel_rfl) ⟨True.mono4,Eqs.mono4 _,trivial⟩ (abl N2ok aap) (IsOld.all (bx:=[⟨N2,some 0,0,1,.agg #[.bool nx,.slice ax xs.length cx],none,[]⟩]) ⟨someNe,trivial⟩) (DisOld.all (bx:=[⟨N2,some 0,0,1,.agg #[.bool nx,.slice ax xs.length cx],none,[]⟩]) ⟨someNe,trivial⟩) ?_ ?_
 ·exact⟨.alloc 0 _ rfl rfl (.inr ⟨_,rfl,aga,fun a_ hR=>(hR 0 rfl).trans f0⟩) rfl rfl rfl rfl rfl,
   .norm 2 rfl rfl rfl (fun a_ w_ hn_ hBt hr hR hD hO hS=>aaj rfl),
   trivial⟩
 ·intro a1 w1 gs1 hn1 hd1 hBt hr hR hP hX hU;replace hn:=hn1;replace hd:=hd1.trans hd;have b1:BoxV N2 w1 (gs1 0) (.agg #[.bool nx,.slice ax xs.length cx]):=(hX 0 _ rfl).2.2.2;have f1:=(hX 0 _ rfl).1;have u1:w.heap.size<=gs1 0:=Nat.le_trans HB.size ((hX 0 _ rfl).2.2.1 (by simp));have e2:a1.eval (.tmp 2)=(.int .i64 0):=hP 1 (by decide);have f2:=e2;replace Gx:=Gx.rl hr;replace HB:=HB.trans (hBt.below HB.size (UpOld.all (bx:=[⟨N2,some 0,0,1,.agg #[.bool nx,.slice ax xs.length cx],none,[]⟩]) ⟨someNe,trivial⟩));clear hBt hr hR hP hX hU;refine wp_seq ?_;refine wp_seq ?_;refine aam [some 3,some 4,some 5,some 6] [Eqs (.pointer (some ⟨gs1 0,1,none⟩)),Eqs (.slice ax xs.length cx),Eqs (.int .i64 (xs.length:Int)),Eqs (.bool (decide ((xs.length:Int)<3)))] [] [] (by kernel_rfl) hn rfl (by kernel_rfl) (by kernel_rfl) (by kernel_rfl) (by kernel_rfl) (by kernel_rfl) (by kernel_rfl) ⟨Eqs.mono4 _,Eqs.mono4 _,Eqs.mono4 _,Eqs.mono4 _,trivial⟩ aap (IsOld.all (bx:=[]) trivial) (DisOld.all (bx:=[]) trivial) ?_ ?_
  ·exact⟨.norm 3 rfl rfl rfl (fun a_ w_ hn_ hBt hr hR hD hO hS=>aiz az2 ((hR 1 rfl).trans f1)),
    .norm 4 rfl rfl rfl (fun a_ w_ hn_ hBt hr hR hD hO hS=>aua (show a_.eval (.tmp 3)=.pointer (some ⟨gs1 0,1,none⟩)from hD 0 rfl) (b1.keep hBt trivial)),
    .norm 5 rfl rfl rfl (fun a_ w_ hn_ hBt hr hR hD hO hS=>az3 (show a_.eval (.tmp 4)=.slice ax xs.length cx from hD 1 rfl)),
    .norm 6 rfl rfl rfl (fun a_ w_ hn_ hBt hr hR hD hO hS=>az4 (show a_.eval (.tmp 5)=.int .i64 (xs.length:Int)from hD 2 rfl)),
    trivial⟩
  ·intro a2 w2 gs2 hn2 hd2 hBt hr hR hP hX hU;replace hn:=hn2;replace hd:=hd2.trans hd;replace b1:=b1.keep hBt trivial;replace f1:=(hR 1 rfl).trans f1;replace f2:=(hR 2 rfl).trans f2;have e6:a2.eval (.tmp 6)=.bool (decide ((xs.length:Int)<3)):=hP 3 (by decide);have f6:=e6;replace Gx:=Gx.rl hr;replace HB:=HB.trans (hBt.below HB.size (UpOld.all (bx:=[]) trivial));clear hBt hr hR hP hX hU;refine wp_cond_split f6 (fun hc6=>?_) (fun hc6=>?_)
   ·skip;refine wp_seq ?_;refine aam [some 7,some 8,some 9,some 2] [Eqs (.agg #[.bool nx,.slice ax xs.length cx]),OutL (((zx).natAbs:Int)) (Bx),Eqs (.int .i64 (m:Int)),Eqs (.int .i64 (m:Int))] [] [] (by kernel_rfl) hn rfl (by kernel_rfl) (by kernel_rfl) (by kernel_rfl) (by kernel_rfl) (by kernel_rfl) (by kernel_rfl) ⟨Eqs.mono4 _,OutL.mono4 _ _,Eqs.mono4 _,Eqs.mono4 _,trivial⟩ aap (IsOld.all (bx:=[]) trivial) (DisOld.all (bx:=[]) trivial) ?_ ?_
    ·exact⟨.norm 7 rfl rfl rfl (fun a_ w_ hn_ hBt hr hR hD hO hS=>abt N2ok ((hR 1 rfl).trans f1) (b1.keep hBt trivial)),
      .norm 8 rfl rfl rfl (fun a_ w_ hn_ hBt hr hR hD hO hS=>ai7 (ab3 (show a_.eval (.tmp 7)=.agg #[.bool nx,.slice ax xs.length cx]from hD 0 rfl) (Gx.rl hr) Lx) (by omega)),
      .norm 9 rfl rfl rfl (fun a_ w_ hn_ hBt hr hR hD hO hS=>apf (show OutL (((zx).natAbs:Int)) (Bx) (a_.eval (.tmp 8)) w_ from hD 1 rfl) hm),
      .norm 2 rfl rfl rfl (fun a_ w_ hn_ hBt hr hR hD hO hS=>aaj (show a_.eval (.tmp 9)=.int .i64 (m:Int)from hD 2 rfl)),
      trivial⟩
    ·intro a3 w3 gs3 hn3 hd3 hBt hr hR hP hX hU;replace hn:=hn3;replace hd:=hd3.trans hd;replace b1:=b1.keep hBt trivial;replace f1:=(hR 1 rfl).trans f1;have e2:a3.eval (.tmp 2)=.int .i64 (m:Int):=hP 3 (by decide);have f2:=e2;replace Gx:=Gx.rl hr;replace HB:=HB.trans (hBt.below HB.size (UpOld.all (bx:=[]) trivial));clear hBt hr hR hP hX hU;refine wp_ret ?_;repeat(first|refine abp ?_|refine aa8 ?_|refine abi ?_)
     exact bodyPost_ret (v:=.int .i64 (m:Int)) (abv rfl f2) hd ⟨_,rfl,rfl,HB⟩
   ·skip;refine wp_skip ?_;refine wp_seq ?_;refine aam [some 10,some 11,some 12,some 2] [Eqs (.agg #[.bool nx,.slice ax xs.length cx]),OutL (((zx).natAbs:Int)) (Bx),Eqs (.int .i64 (m:Int)),Eqs (.int .i64 (m:Int))] [] [] (by kernel_rfl) hn rfl (by kernel_rfl) (by kernel_rfl) (by kernel_rfl) (by kernel_rfl) (by kernel_rfl) (by kernel_rfl) ⟨Eqs.mono4 _,OutL.mono4 _ _,Eqs.mono4 _,Eqs.mono4 _,trivial⟩ aap (IsOld.all (bx:=[]) trivial) (DisOld.all (bx:=[]) trivial) ?_ ?_
    ·exact⟨.norm 10 rfl rfl rfl (fun a_ w_ hn_ hBt hr hR hD hO hS=>abt N2ok ((hR 1 rfl).trans f1) (b1.keep hBt trivial)),
      .norm 11 rfl rfl rfl (fun a_ w_ hn_ hBt hr hR hD hO hS=>ai7 (ab3 (show a_.eval (.tmp 10)=.agg #[.bool nx,.slice ax xs.length cx]from hD 0 rfl) (Gx.rl hr) Lx) (by omega)),
      .norm 12 rfl rfl rfl (fun a_ w_ hn_ hBt hr hR hD hO hS=>apf (show OutL (((zx).natAbs:Int)) (Bx) (a_.eval (.tmp 11)) w_ from hD 1 rfl) hm),
      .norm 2 rfl rfl rfl (fun a_ w_ hn_ hBt hr hR hD hO hS=>aaj (show a_.eval (.tmp 12)=.int .i64 (m:Int)from hD 2 rfl)),
      trivial⟩
    ·intro a4 w4 gs4 hn4 hd4 hBt hr hR hP hX hU;replace hn:=hn4;replace hd:=hd4.trans hd;have e2:a4.eval (.tmp 2)=.int .i64 (m:Int):=hP 3 (by decide);have f2:=e2;replace Gx:=Gx.rl hr;replace HB:=HB.trans (hBt.below HB.size (UpOld.all (bx:=[]) trivial));clear hBt hr hR hP hX hU;refine wp_ret ?_;repeat(first|refine abp ?_|refine aa8 ?_|refine abi ?_)
     exact bodyPost_ret (v:=.int .i64 (m:Int)) (abv rfl f2) hd ⟨_,rfl,rfl,HB⟩
def encL(c:Nat):List UInt8:=
 if c<128 then [c.toUInt8]else if c<2048 then [(192+c/64).toUInt8,(128+c%64).toUInt8]
 else if c<65536 then [(224+c/4096).toUInt8,(128+c/64%64).toUInt8,(128+c%64).toUInt8]
 else [(240+c/262144).toUInt8,(128+c/4096%64).toUInt8,(128+c/64%64).toUInt8,(128+c%64).toUInt8]
theorem axd(c:Nat):(encL c).length=if c<128 then 1 else if c<2048 then 2 else if c<65536 then 3 else 4:=by
 unfold encL;repeat' split
 all_goals simp
def encs:List Nat->List UInt8
 | []=>[]
 |c::cs=>encL c++encs cs
def Cod(c:Nat):Prop:=c<=1114111/\(c<55296\/57343<c)
theorem axe(c:Nat):1<=(encL c).length/\(encL c).length<=4:=by
 rw[axd];repeat' split
 all_goals omega
def adv(p:Pl):List Nat->Pl
 | []=>p
 |c::cs=>adv (p.past c (encL c).length) cs
def glf(p:Pl):List Nat->List Gl
 | []=>[]
 |c::cs=>⟨c,p⟩::glf (p.past c (encL c).length) cs
theorem apg(p:Pl)(cs:List Nat):(glf p cs).length=cs.length:=by
 induction cs generalizing p with
 |nil=>rfl
 |cons c cs ih=>simp[glf,ih]
theorem arh(p:Pl)(cs:List Nat):(adv p cs).b=p.b+(encs cs).length:=by
 induction cs generalizing p with
 |nil=>simp[adv,encs]
 |cons c cs ih=>simp only[adv,encs,ih,List.length_append,Pl.past];omega
section
variable {dst:Option Tmp} {ty:TypeId} {pos:String} {after:Array Edge} {guard:Option (Nat×Bool)} {a:Act} {w:World} {i j:Nat} {u v:Int}
theorem aph(h1:a.eval (.tmp i)=.int .i64 u)(h:v<u):
  Does Tryz.prog {dst,op:=.binOp .gtr 3 (.tmp i) (.const (.int .i64 v)) 3,type:=ty,pos,after,guard} a.eval w fun v' w'=>Below w.heap.size w w'/\Eqs (.bool true) v' w':=
 (ayw h1).mono (fun v' w' ⟨hb,e⟩=>⟨hb,by rw[Eqs,show v'=_ from e,decide_eq_true h]⟩)
end
theorem ajz{P:Program}{fn:Func}{a:Act}{w:World}{k k':Nat}{v v':Value}(hr:fn.results = #[.tmp k,.tmp k'])(hp:a.eval (.tmp k)=v)(hp':a.eval (.tmp k')=v'):(results fn a.tmps).run P w=.ok (.tuple #[v,v']) w:=by
 rw[<-hp,<-hp'];simp[results,hr,go_sem,Act.eval]
end Lm
end Go.Proofs.YtooefpkhacecnaaGreatDoor
