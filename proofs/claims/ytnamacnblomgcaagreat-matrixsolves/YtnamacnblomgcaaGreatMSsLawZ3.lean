/-
  What the text behind the last one leans on, part 3.
-/
import Derived.Test.YtnamacnblomgcaaGreatMSsLawZ2
set_option maxRecDepth 20000
set_option maxHeartbeats 40000000
namespace Go.Proofs.YtnamacnblomgcaaGreat
namespace Lm
open Go Go.RowKit
theorem ayl(B:Nat)(w:World):Ow B w (.slice none 0 0) []:=⟨none,0,rfl,Nat.le_refl _,Nat.zero_le _,fun z hz=>(by cases hz),.inl rfl⟩
theorem ad2{w:World}{v:Value}{zs:List Int}{L:Nat}(h:IsRow w v zs L):∀z∈zs,(z.natAbs:Int)<pw L:=by
 intro z hz;obtain⟨k,hk⟩:=List.mem_iff_getElem?.1 hz;obtain⟨ao,cap,rfl,_⟩:=h.parts;obtain⟨b,off,ng,a,m,c,_,_,_,_,hw⟩:=h.cell hk;exact aet hw
def lstep(zs:List Int)(c:Nat)(s:Int)(e:Nat×List Int):Int:=s-zs.getD e.1 0*e.2.getD c 0
def lft(lead:Int)(zs:List Int)(P:List Nat)(rows:List (List Int))(c:Nat)(x:Int):Int:=if c∈P then 0 else(P.zip rows).foldl (lstep zs c) (lead*x)
theorem al0{L:Nat}{lead x:Int}{zs:List Int}{c:Nat}(hl:(lead.natAbs:Int)<pw L)(hx:(x.natAbs:Int)<pw L)(hz:∀z∈zs,(z.natAbs:Int)<pw L):∀(es:List (Nat×List Int)),(∀e∈es,∀y∈e.2,(y.natAbs:Int)<pw L)->es.length<=4000000->((es.foldl (lstep zs c) (lead*x)).natAbs:Int)<pw (L+L+1):=by
 intro es he hn;have hp:pw (L+L)=pw L*pw L:=acq L L;have h0:=an0 L;have hG:∀(l:List Int) (k:Nat),(∀y∈l,(y.natAbs:Int)<pw L)->((l.getD k 0).natAbs:Int)<pw L:=by
  intro l k hl;rw[List.getD_eq_getElem?_getD];cases h:l[k]? with
  |none=>simpa using h0
  |some y=>exact hl y (List.mem_of_getElem? h)
 have hM:∀u v:Int,(u.natAbs:Int)<pw L->(v.natAbs:Int)<pw L->((u*v).natAbs:Int)<=pw L*pw L:=by
  intro u v hu hv;rw[Int.natAbs_mul,Int.natCast_mul];exact Int.mul_le_mul (by omega) (by omega) (by omega) (by omega)
 have key:∀(es:List (Nat×List Int)) (s:Int) (m:Nat),(∀e∈es,∀y∈e.2,(y.natAbs:Int)<pw L)->(s.natAbs:Int)<=m*(pw L*pw L)->((es.foldl (lstep zs c) s).natAbs:Int)<=((m+es.length:Nat):Int)*(pw L*pw L):=by
  intro es;induction es with
  |nil=>intro s m _ h;simpa using h
  |cons e es ih=>
   intro s m he h;rw[List.foldl_cons,List.length_cons];have h1:=ih (lstep zs c s e) (m+1) (fun e' h'=>he e' (by simp[h'])) (by
    have h2:=hM _ _ (hG zs e.1 hz) (hG e.2 c (he e (by simp)));have h3:((lstep zs c s e).natAbs:Int)<=(s.natAbs:Int)+((zs.getD e.1 0*e.2.getD c 0).natAbs:Int):=by unfold lstep;omega
    rw[Int.natCast_add,Int.add_mul]
    omega)
   rw[show m+(es.length+1)=m+1+es.length by omega];exact h1
 have h1:=key es (lead*x) 1 he (by have:=hM lead x hl hx;omega);rw[show pw (L+L+1)=4294967296*pw (L+L)from rfl,hp];have h2:((1+es.length:Nat):Int)*(pw L*pw L)<=4000001*(pw L*pw L):=Int.mul_le_mul_of_nonneg_right (by omega) (Int.mul_nonneg (by omega) (by omega));have h3:0<pw L*pw L:=Int.mul_pos h0 h0;omega
theorem avy(c:Nat)(P:List Nat):((c:Int)∈P.map (fun p:Nat=>(p:Int)))↔c∈P:=by
 simp only[List.mem_map];constructor
 ·rintro ⟨u,h,e⟩;obtain rfl:u=c:=by omega
  exact h
 ·exact fun h=>⟨c,h,rfl⟩
theorem ad3{n f K M:Nat}{w V:World}{z:Int}{ng ng':Bool}{a a':Option Addr}{m m' c c':Nat}(hf:n<=f)(h:V.heap[f]? = some (.cells #[.bool ng',.slice a' m' c'] 42 (0,0)))(hb:Below n w V)(ho:FrW K z M (.agg #[.bool ng,.slice a m c]) V):FrW K z M (.agg #[.bool ng,.slice a m c]) ((V.setCell ⟨f,0,none⟩ (.bool ng)).setCell ⟨f,1,none⟩ (.slice a m c))/\Below n w ((V.setCell ⟨f,0,none⟩ (.bool ng)).setCell ⟨f,1,none⟩ (.slice a m c))/\(loadVar 42 ⟨f,0,none⟩).run Tryz.prog ((V.setCell ⟨f,0,none⟩ (.bool ng)).setCell ⟨f,1,none⟩ (.slice a m c))=.ok (.agg #[.bool ng,.slice a m c]) ((V.setCell ⟨f,0,none⟩ (.bool ng)).setCell ⟨f,1,none⟩ (.slice a m c)):=
 ⟨ho.ru (ade h _ _),(hb.setCell hf _).setCell hf _,lvw2 (acd h _ _)⟩
theorem apw(W:World)(g0:Nat)(hg0:W.heap.size=g0)(c:Nat)(x lead:Int)(xv vr:Value)(g1 g2 q n L M:Nat)(zs:List Int)(P:List Nat)(rows:List (List Int))(h1:W.heap[g1]? = some (.cells #[.pointer (some ⟨q,0,none⟩)] 131 (0,0)))(h2:W.heap[g2]? = some (.cells #[vr] 23 (0,0)))(hr:IsRow W vr zs L)(hB:Bas W q P rows lead L)(hx:IsW x L xv W)(hzn:zs.length=n)(hcn:c<n)(hrn:∀r∈rows,r.length=n)(hP:∀p∈P,p<n)(hPl:P.length=rows.length)(hPm:P.length<=100000)(hL:L<=100000)(hM:((lft lead zs P rows c x).natAbs:Int)<pw M):
  Calls Tryz.prog 88 #[.int .i64 (c:Int),xv,.pointer (some ⟨g1,0,none⟩),.pointer (some ⟨g2,0,none⟩)] W fun e W'=>∃v,e=.returned v/\FrW g0 (lft lead zs P rows c x) M v W'/\Below g0 W W':=by
 obtain⟨nx,ax,mx,cx,xs,rfl,_⟩:=id hx;obtain⟨rv,pv,lng,la,lm,lc,hbq,hMr,hPr,hLd⟩:=hB;obtain⟨pa,pc,rfl,hPz⟩:=hPr.parts;obtain⟨ma,mc,rfl,hMz⟩:=hMr.parts;obtain⟨ra,rc,rfl,_⟩:=hr.parts;have hb5:Below W.heap.size W ((W.alloc (.cells #[.bool nx,.slice ax mx cx] 42)).alloc (.cells #[.bool false,.slice none 0 0] 42)):=by(repeat' first|with_reducible(first|exact Below.refl _ _|assumption|refine gdrewN ?_ _|refine Below.alloc ?_ ?_ _|refine Below.drew ?_|refine Below.setCell ?_ ?_ _)|go_size)
 have hx5:((W.alloc (.cells #[.bool nx,.slice ax mx cx] 42)).alloc (.cells #[.bool false,.slice none 0 0] 42)).heap[W.heap.size]? = some (.cells #[.bool nx,.slice ax mx cx] 42 (0,0)):=abj (heap_alloc_new W _);have hz5:((W.alloc (.cells #[.bool nx,.slice ax mx cx] 42)).alloc (.cells #[.bool false,.slice none 0 0] 42)).heap[W.heap.size+1]? = some (.cells #[.bool false,.slice none 0 0] 42 (0,0)):=by
  have:=heap_alloc_new (W.alloc (.cells #[.bool nx,.slice ax mx cx] 42)) (.cells #[.bool false,.slice none 0 0] 42);simpa using this
 have hs5:((W.alloc (.cells #[.bool nx,.slice ax mx cx] 42)).alloc (.cells #[.bool false,.slice none 0 0] 42)).heap.size=W.heap.size+2:=by simp
 have HLDb:Hid ((lead.natAbs:Int)<pw L):=aet hLd;have HXb:Hid ((x.natAbs:Int)<pw L):=aet hx;have HZb:Hid (∀z∈zs,(z.natAbs:Int)<pw L):=ad2 hr;have HRb:Hid (∀r∈rows,∀y∈r,(y.natAbs:Int)<pw L):=(fun r hr'=>by
  obtain⟨i,hi⟩:=List.mem_iff_getElem?.1 hr';obtain⟨_,_,u,_,_,_,hu⟩:=hMr.cell hi
  exact ad2 hu)
 have HXW:=hide (hx.ru (Ru.of_below hb5));have HLD:=hide (hLd.ru (Ru.of_below hb5));have HRW:=hide (hr.below hb5);have HMR:=hide (hMr.below hb5);have HPR:=hide (hPr.below hb5);have HBQ:=hide ((hb5.block _ (aaa hbq)).trans hbq);have HG1:=hide ((hb5.block _ (aaa h1)).trans h1);have HG2:=hide ((hb5.block _ (aaa h2)).trans h2);have HPl:=hide (And.intro hPl (And.intro hP (And.intro hrn hzn)));have HM:=hide hM;clear h1 h2 hr hx hbq hMr hPr hLd hPl hP hrn hM;go_enter Tryz.func88,Tryz.ntmps88
 go_upto_region 1 with fail
 generalize (W.alloc (.cells #[.bool nx,.slice ax mx cx] 42)).alloc (.cells #[.bool false,.slice none 0 0] 42)=w5 at *
 rw[hg0]at hx5 hz5 hb5 hs5;have HX5:=hide hx5;have HZ5:=hide hz5;have HB5:=hide hb5;have c1:w5.cell? ⟨g1,0,none⟩=some (.pointer (some ⟨q,0,none⟩)):=by rw[cell_of_row _ _ _ _ _ (0,0) HG1.out];rfl
 have c2:w5.cell? ⟨g2,0,none⟩=some (.slice ra zs.length rc):=by rw[cell_of_row _ _ _ _ _ (0,0) HG2.out];rfl
 have b0:w5.cell? ⟨q,0,none⟩=some (.slice ma rows.length mc):=by rw[cell_of_row _ _ _ _ _ (0,0) HBQ.out];rfl
 have b1:w5.cell? ⟨q,1,none⟩=some (.slice pa P.length pc):=by rw[cell_of_row _ _ _ _ _ (0,0) HBQ.out];rfl
 have b2:w5.cell? ⟨q,2,none⟩=some (.bool lng):=by rw[cell_of_row _ _ _ _ _ (0,0) HBQ.out];rfl
 have b3:w5.cell? ⟨q,2+1,none⟩=some (.slice la lm lc):=by rw[cell_of_row _ _ _ _ _ (0,0) HBQ.out];rfl
 have hg1:=aaa HG1.out;have hg2:=aaa HG2.out;have hq:=aaa HBQ.out;have KC:=alz w5 pa P.length pc _ (c:Int) HPR.out.nums;rw[show decide ((c:Int)∈P.map (fun p:Nat=>(p:Int)))=decide (c∈P) by rw[decide_eq_decide];exact avy c P]at KC;have KC:=hide KC;clear hx5 hz5 hb5;go_wp2_with fail
 refine KC.out.mono ?_;rintro e w6 ⟨rfl,h6⟩;obtain rfl:w5=w6:=h6.symm;clear h6;by_cases hcP:c∈P
 ·rw[decide_eq_true hcP];obtain⟨_,z0,z1,f0,f1⟩:=aam HZ5.out;have HE:=hide (ad3 (K:=g0) (M:=M) (z:=0) (n:=g0) (Nat.le_succ g0) HZ5.out HB5.out (afz _ (by have:=HB5.out.size;omega)));clear KC;go_wp2;exact bodyPost_ret (v:=.agg #[.bool false,.slice none 0 0]) (aby (g:=g0+1) rfl rfl HE.out.2.2) rfl ⟨_,rfl,by rw[lft,if_pos hcP];exact HE.out.1,HE.out.2.1⟩
 ·rw[decide_eq_false hcP];clear KC;go_upto_region 3 with fail
  refine ab4 7 [17,18,19,20,21,22,7] [Eqs (.pointer (some ⟨q,0,none⟩)),Eqs (.pointer (some ⟨q,0,none⟩)),Eqs (.pointer (some ⟨q,2,none⟩)),(IsW lead L),(IsW x L),(FrW g0 (lead*x) (L+L)),(NewW w5.heap.size)] rfl rfl (by decide) (by kernel_rfl) (by kernel_rfl) (by decide) (by kernel_rfl) ⟨Eqs.mono _,Eqs.mono _,Eqs.mono _,(Mono.of4 (IsW.mono4 _ _)),(Mono.of4 (IsW.mono4 _ _)),(Mono.of4 (FrW.mono4 _ _ _)),(NewW.mono _),trivial⟩ ?_ ?_
  ·exact⟨⟨rfl,fun a_ w_ _ hB hR hD=>ac6 ((hR 2 rfl).trans (aab rfl)) ((hB.cell (p:=⟨g1,0,none⟩) hg1).trans c1)⟩,
     ⟨rfl,fun a_ w_ _ hB hR hD=>aei (show a_.eval (.tmp 17)=.pointer (some ⟨q,0,none⟩)from hD 0 rfl)⟩,
     ⟨rfl,fun a_ w_ _ hB hR hD=>afg fab2 (show a_.eval (.tmp 18)=.pointer (some ⟨q,0,none⟩)from hD 1 rfl)⟩,
     ⟨rfl,fun a_ w_ _ hB hR hD=>adc (show a_.eval (.tmp 19)=.pointer (some ⟨q,2,none⟩)from hD 2 rfl) ((hB.cell (p:=⟨q,2,none⟩) hq).trans b2) ((hB.cell (p:=⟨q,2+1,none⟩) hq).trans b3) (Mono.of4 (IsW.mono4 _ _) _ _ _ hB HLD.out)⟩,
     ⟨rfl,fun a_ w_ _ hB hR hD=>aip ((hR 5 rfl).trans (aab rfl)) ((hB.block _ (aaa HX5.out)).trans HX5.out) (Mono.of4 (IsW.mono4 _ _) _ _ _ hB HXW.out)⟩,
     ⟨rfl,fun a_ w_ _ hB hR hD=>agz (show(IsW lead L) (a_.eval (.tmp 20)) w_ from hD 3 rfl) (show(IsW x L) (a_.eval (.tmp 21)) w_ from hD 4 rfl) (by omega) (by omega) (by have:=HB5.out.size;have:=hB.size;omega)⟩,
     ⟨rfl,fun a_ w_ _ hB hR hD=>anu hB.size⟩,
     trivial⟩
  ·intro a' w' hn' hd' hB' hR' hP';have e17:a'.eval (.tmp 17)=.pointer (some ⟨q,0,none⟩):=hP' 0 (by decide);have e18:a'.eval (.tmp 18)=.pointer (some ⟨q,0,none⟩):=hP' 1 (by decide);have e19:a'.eval (.tmp 19)=.pointer (some ⟨q,2,none⟩):=hP' 2 (by decide);obtain⟨u20,e20⟩:∃u,a'.eval (.tmp 20)=u:=⟨_,rfl⟩;obtain⟨u21,e21⟩:∃u,a'.eval (.tmp 21)=u:=⟨_,rfl⟩;obtain⟨u22,e22⟩:∃u,a'.eval (.tmp 22)=u:=⟨_,rfl⟩;have hT:(FrW g0 (lead*x) (L+L)) (a'.eval (.tmp 22)) w':=hP' 5 (by decide);rw[e22]at hT;obtain⟨u7,e7⟩:∃u,a'.eval (.tmp 7)=u:=⟨_,rfl⟩;have hN:(NewW w5.heap.size) (a'.eval (.tmp 7)) w':=hP' 6 (by decide);rw[e7]at hN;refine abl hn' hd' hR' (.s4 rfl <| .same rfl <| .same rfl <| .same rfl <| .new e7 <| .s4 rfl <| .s4 rfl <| .same rfl <| .new e17 <| .new e18 <| .new e19 <| .new e20 <| .new e21 <| .new e22 <| .s16 rfl <| .s4 rfl <| .s4 rfl <| .s4 rfl <| .same rfl <| .nil) ?_;clear e17 e18 e19 e20 e21 e22 e7;obtain⟨ng7,a7,m7,c7,rfl⟩:=hT.agg;obtain⟨g7,hg7,rfl,hh7⟩:=hN;obtain⟨_,s0,s1,sf0,sf1⟩:=aam hh7;have hE7:=ad3 (n:=w5.heap.size) hg7 hh7 hB' hT;have hS7:=acd hh7 (.bool ng7) (.slice a7 m7 c7);have HHM:=hide (And.intro hcP (And.intro hPm hMz));clear hn' hd' hR' hP';go_upto_region 4 with fail
   generalize (w'.setCell ⟨g7,0,none⟩ (.bool ng7)).setCell ⟨g7,1,none⟩ (.slice a7 m7 c7)=w7 at *
   obtain⟨hF7,hB7,_⟩:=hE7;have c1':=(hB7.cell (p:=⟨g1,0,none⟩) hg1).trans c1;have b1':=(hB7.cell (p:=⟨q,1,none⟩) hq).trans b1;have HF7:=hide (hF7.fit (L':=L+L+1) (by have:=al0 (zs:=zs) (c:=c) HLDb.out HXb.out HZb.out [] (fun e he=>by cases he) (by simp);simpa using this));have HB7:=hide hB7;have HS7:=hide hS7;clear hF7 hB7 hS7 hh7 hT hB' s0 s1 sf0 sf1;go_wp2_with fail
   go_loopw [8,9,28] (fun _ _ iv wr=>∃(k:Nat),iv=.int .i64 k/\k<=P.length/\Below w5.heap.size w5 wr/\∃sng sa sm sc,wr.heap[g7]? = some (.cells #[.bool sng,.slice sa sm sc] 42 (0,0))/\FrW g0 (((P.zip rows).take k).foldl (lstep zs c) (lead*x)) (L+L+1) (.agg #[.bool sng,.slice sa sm sc]) wr) (fun _ _ iv _=>P.length-(intOf iv).toNat)
   case atStart=>exact⟨0,rfl,Nat.zero_le _,HB7.out,ng7,a7,m7,c7,HS7.out,HF7.out⟩
   case round=>
    obtain⟨k,rfl,hk,hbw,sng,sa,sm,sc,hs7,hf7⟩:=hrel;have HW:=hide hbw;have HSr:=hide hs7;have HFr:=hide hf7;by_cases hlt:k<P.length
    ·have hlt':(k:Int)<(P.length:Int):=by omega
     obtain⟨p,hp⟩:∃p,P[k]? = some p:=⟨_,List.getElem?_eq_getElem hlt⟩;obtain⟨r,hr⟩:∃r,rows[k]? = some r:=⟨_,List.getElem?_eq_getElem (by have:=HPl.out.1;omega)⟩;have hpn:p<zs.length:=by rw[HPl.out.2.2.2];exact HPl.out.2.1 p (List.mem_of_getElem? hp)
     have hrl:r.length=n:=HPl.out.2.2.1 r (List.mem_of_getElem? hr);have hkm:k<rows.length:=(List.getElem?_eq_some_iff.1 hr).1;have hcn':c<r.length:=by omega
     obtain⟨y1,hy1⟩:∃y,zs[p]? = some y:=⟨_,List.getElem?_eq_getElem hpn⟩;obtain⟨y2,hy2⟩:∃y,r[c]? = some y:=⟨_,List.getElem?_eq_getElem hcn'⟩;obtain⟨pb,po,rfl,hpb,p0⟩:=(HPR.out.below hbw).cell hp;obtain⟨mb,mo,uv,rfl,hmb,m0,hur⟩:=(HMR.out.below hbw).cell hr;obtain⟨ea,ec,rfl,_⟩:=hur.parts;obtain⟨eb,eo,eng,ea',em',ec',rfl,heb,e0,e1,hy2w⟩:=hur.cell hy2;obtain⟨rb,ro,rng,ra',rm',rc',rfl,hrb,r0,r1,hy1w⟩:=(HRW.out.below hbw).cell hy1;have HY1:=hide hy1w;have HY2:=hide hy2w;have c1r:=(hbw.cell (p:=⟨g1,0,none⟩) hg1).trans c1;have c2r:=(hbw.cell (p:=⟨g2,0,none⟩) hg2).trans c2;have b0r:=(hbw.cell (p:=⟨q,0,none⟩) hq).trans b0;have hg1r:=Nat.lt_of_lt_of_le hg1 hbw.size;have hg2r:=Nat.lt_of_lt_of_le hg2 hbw.size;have hqr:=Nat.lt_of_lt_of_le hq hbw.size;obtain⟨sk,hsk⟩:∃s,((P.zip rows).take k).foldl (lstep zs c) (lead*x)=s:=⟨_,rfl⟩;have HSK:=hide (hf7.is);rw[hsk]at HSK;have HNX:Hid (((P.zip rows).take (k+1)).foldl (lstep zs c) (lead*x)=sk-y1*y2):=by
      have hz:(P.zip rows)[k]? = some (p,r):=by rw[List.getElem?_zip_eq_some];exact⟨hp,hr⟩
      refine(show _=_ from ?_);rw[ac5 _ _ hz,hsk,lstep,List.getD_eq_getElem?_getD,List.getD_eq_getElem?_getD,hy1,hy2];rfl
     clear hbw hs7 hf7 hy1w hy2w hur hp hr hy1 hy2 hsk;go_upto_region 7 with fail
     refine ab4 17 [33,34,35,36,37,38,39,40,41,42,43,44,45,46,47,48,49] [(IsW sk (L+L+1)),Eqs (.slice (some ⟨rb,ro,none⟩) zs.length rc),Eqs (.int .i64 (p:Int)),Eqs (.pointer (some ⟨rb,ro+p*2,none⟩)),(IsW y1 L),Eqs (.pointer (some ⟨q,0,none⟩)),Eqs (.pointer (some ⟨q,0,none⟩)),Eqs (.pointer (some ⟨q,0,none⟩)),Eqs (.slice (some ⟨mb,mo,none⟩) rows.length mc),Eqs (.int .i64 (k:Int)),Eqs (.pointer (some ⟨mb,mo+k,none⟩)),Eqs (.slice (some ⟨eb,eo,none⟩) r.length ec),Eqs (.int .i64 (c:Int)),Eqs (.pointer (some ⟨eb,eo+c*2,none⟩)),(IsW y2 L),(FrW g0 (y1*y2) (L+L)),(FrW g0 (sk-y1*y2) (L+L+1+(L+L)+1))] rfl rfl (by decide) (by kernel_rfl) (by kernel_rfl) (by decide) (by kernel_rfl) ⟨(Mono.of4 (IsW.mono4 _ _)),Eqs.mono _,Eqs.mono _,Eqs.mono _,(Mono.of4 (IsW.mono4 _ _)),Eqs.mono _,Eqs.mono _,Eqs.mono _,Eqs.mono _,Eqs.mono _,Eqs.mono _,Eqs.mono _,Eqs.mono _,Eqs.mono _,(Mono.of4 (IsW.mono4 _ _)),(Mono.of4 (FrW.mono4 _ _ _)),(Mono.of4 (FrW.mono4 _ _ _)),trivial⟩ ?_ ?_
     ·exact⟨⟨rfl,fun a_ w_ _ hB hR hD=>aip ((hR 7 rfl).trans (aab rfl)) ((hB.block _ (aaa HSr.out)).trans HSr.out) (Mono.of4 (IsW.mono4 _ _) _ _ _ hB HSK.out)⟩,
        ⟨rfl,fun a_ w_ _ hB hR hD=>acf ((hR 3 rfl).trans (aab rfl)) ((hB.cell (p:=⟨g2,0,none⟩) hg2r).trans c2r)⟩,
        ⟨rfl,fun a_ w_ _ hB hR hD=>aah ((hR 9 rfl).trans (aab rfl))⟩,
        ⟨rfl,fun a_ w_ _ hB hR hD=>acv (show a_.eval (.tmp 34)=.slice (some ⟨rb,ro,none⟩) zs.length rc from hD 1 rfl) rfl (show a_.eval (.tmp 35)=.int .i64 (p:Int)from hD 2 rfl) hpn⟩,
        ⟨rfl,fun a_ w_ _ hB hR hD=>adc (show a_.eval (.tmp 36)=.pointer (some ⟨rb,ro+p*2,none⟩)from hD 3 rfl) ((hB.cell (p:=⟨rb,ro+p*2,none⟩) hrb).trans r0) ((hB.cell (p:=⟨rb,ro+p*2+1,none⟩) hrb).trans r1) (Mono.of4 (IsW.mono4 _ _) _ _ _ hB HY1.out)⟩,
        ⟨rfl,fun a_ w_ _ hB hR hD=>ac6 ((hR 2 rfl).trans (aab rfl)) ((hB.cell (p:=⟨g1,0,none⟩) hg1r).trans c1r)⟩,
        ⟨rfl,fun a_ w_ _ hB hR hD=>aei (show a_.eval (.tmp 38)=.pointer (some ⟨q,0,none⟩)from hD 5 rfl)⟩,
        ⟨rfl,fun a_ w_ _ hB hR hD=>afg fab0 (show a_.eval (.tmp 39)=.pointer (some ⟨q,0,none⟩)from hD 6 rfl)⟩,
        ⟨rfl,fun a_ w_ _ hB hR hD=>ajl (show a_.eval (.tmp 40)=.pointer (some ⟨q,0,none⟩)from hD 7 rfl) ((hB.cell (p:=⟨q,0,none⟩) hqr).trans b0r)⟩,
        ⟨rfl,fun a_ w_ _ hB hR hD=>aah ((hR 8 rfl).trans (aab rfl))⟩,
        ⟨rfl,fun a_ w_ _ hB hR hD=>afh (show a_.eval (.tmp 41)=.slice (some ⟨mb,mo,none⟩) rows.length mc from hD 8 rfl) rfl (show a_.eval (.tmp 42)=.int .i64 (k:Int)from hD 9 rfl) hkm⟩,
        ⟨rfl,fun a_ w_ _ hB hR hD=>acf (show a_.eval (.tmp 43)=.pointer (some ⟨mb,mo+k,none⟩)from hD 10 rfl) ((hB.cell (p:=⟨mb,mo+k,none⟩) hmb).trans m0)⟩,
        ⟨rfl,fun a_ w_ _ hB hR hD=>aah ((hR 0 rfl).trans (aab rfl))⟩,
        ⟨rfl,fun a_ w_ _ hB hR hD=>acv (show a_.eval (.tmp 44)=.slice (some ⟨eb,eo,none⟩) r.length ec from hD 11 rfl) rfl (show a_.eval (.tmp 45)=.int .i64 (c:Int)from hD 12 rfl) hcn'⟩,
        ⟨rfl,fun a_ w_ _ hB hR hD=>adc (show a_.eval (.tmp 46)=.pointer (some ⟨eb,eo+c*2,none⟩)from hD 13 rfl) ((hB.cell (p:=⟨eb,eo+c*2,none⟩) heb).trans e0) ((hB.cell (p:=⟨eb,eo+c*2+1,none⟩) heb).trans e1) (Mono.of4 (IsW.mono4 _ _) _ _ _ hB HY2.out)⟩,
        ⟨rfl,fun a_ w_ _ hB hR hD=>agz (show(IsW y1 L) (a_.eval (.tmp 37)) w_ from hD 4 rfl) (show(IsW y2 L) (a_.eval (.tmp 47)) w_ from hD 14 rfl) (by omega) (by omega) (by have:=HB5.out.size;have:=HW.out.size;have:=hB.size;omega)⟩,
        ⟨rfl,fun a_ w_ _ hB hR hD=>an1 (show(IsW sk (L+L+1)) (a_.eval (.tmp 33)) w_ from hD 0 rfl) (FrW.is (show(FrW g0 (y1*y2) (L+L)) (a_.eval (.tmp 48)) w_ from hD 15 rfl)) (by omega) (by omega) (by have:=HB5.out.size;have:=HW.out.size;have:=hB.size;omega)⟩,
        trivial⟩
     ·intro a' w' hn' hd' hB' hR' hP';obtain⟨u33,e33⟩:∃u,a'.eval (.tmp 33)=u:=⟨_,rfl⟩;have e34:a'.eval (.tmp 34)=.slice (some ⟨rb,ro,none⟩) zs.length rc:=hP' 1 (by decide);have e35:a'.eval (.tmp 35)=.int .i64 (p:Int):=hP' 2 (by decide);have e36:a'.eval (.tmp 36)=.pointer (some ⟨rb,ro+p*2,none⟩):=hP' 3 (by decide);obtain⟨u37,e37⟩:∃u,a'.eval (.tmp 37)=u:=⟨_,rfl⟩;have e38:a'.eval (.tmp 38)=.pointer (some ⟨q,0,none⟩):=hP' 5 (by decide);have e39:a'.eval (.tmp 39)=.pointer (some ⟨q,0,none⟩):=hP' 6 (by decide);have e40:a'.eval (.tmp 40)=.pointer (some ⟨q,0,none⟩):=hP' 7 (by decide);have e41:a'.eval (.tmp 41)=.slice (some ⟨mb,mo,none⟩) rows.length mc:=hP' 8 (by decide);have e42:a'.eval (.tmp 42)=.int .i64 (k:Int):=hP' 9 (by decide);have e43:a'.eval (.tmp 43)=.pointer (some ⟨mb,mo+k,none⟩):=hP' 10 (by decide);have e44:a'.eval (.tmp 44)=.slice (some ⟨eb,eo,none⟩) r.length ec:=hP' 11 (by decide);have e45:a'.eval (.tmp 45)=.int .i64 (c:Int):=hP' 12 (by decide);have e46:a'.eval (.tmp 46)=.pointer (some ⟨eb,eo+c*2,none⟩):=hP' 13 (by decide);obtain⟨u47,e47⟩:∃u,a'.eval (.tmp 47)=u:=⟨_,rfl⟩;obtain⟨u48,e48⟩:∃u,a'.eval (.tmp 48)=u:=⟨_,rfl⟩;obtain⟨u49,e49⟩:∃u,a'.eval (.tmp 49)=u:=⟨_,rfl⟩;have hT:(FrW g0 (sk-y1*y2) (L+L+1+(L+L)+1)) (a'.eval (.tmp 49)) w':=hP' 16 (by decide);rw[e49]at hT;refine abl hn' hd' hR' (.s16 rfl <| .s16 rfl <| .same rfl <| .new e33 <| .new e34 <| .new e35 <| .new e36 <| .new e37 <| .new e38 <| .new e39 <| .new e40 <| .new e41 <| .new e42 <| .new e43 <| .new e44 <| .new e45 <| .new e46 <| .new e47 <| .new e48 <| .new e49 <| .same rfl <| .same rfl <| .nil) ?_;clear e33 e34 e35 e36 e37 e38 e39 e40 e41 e42 e43 e44 e45 e46 e47 e48 e49;obtain⟨ng9,a9,m9,c9,rfl⟩:=hT.agg;have hs9:=(hB'.block _ (aaa HSr.out)).trans HSr.out;obtain⟨_,s0,s1,sf0,sf1⟩:=aam hs9;have HE9:=hide (ad3 (n:=w5.heap.size) hg7 hs9 (HW.out.trans (hB'.mono HW.out.size)) hT);have HS9:=hide (acd hs9 (.bool ng9) (.slice a9 m9 c9));clear hn' hd' hR' hP' hB' hT hs9;go_wp2;go_roundw
      case rel=>
       refine⟨k+1,by go_num,by omega,HE9.out.2.1,ng9,a9,m9,c9,HS9.out,?_⟩;rw[HNX.out];refine HE9.out.1.fit ?_;rw[<-HNX.out];exact al0 HLDb.out HXb.out HZb.out _ (fun e he=>HRb.out _ (List.of_mem_zip (List.mem_of_mem_take he)).2) (by rw[List.length_take,List.length_zip];have:=HHM.out.2.1;omega)
      case measure=>simp[intOf];omega
    ·have hlt':decide ((k:Int)<(P.length:Int))=false:=by simp;omega
     obtain⟨_,s0,s1,sf0,sf1⟩:=aam hs7;have hz9:=(hbw.block _ (aaa HZ5.out)).trans HZ5.out;obtain⟨_,t0,t1,tf0,tf1⟩:=aam hz9;have hfl:((P.zip rows).take k).foldl (lstep zs c) (lead*x)=lft lead zs P rows c x:=by
      rw[lft,if_neg HHM.out.1,List.take_of_length_le (by rw[List.length_zip];omega)]
     rw[hfl]at hf7;have HE:=hide (ad3 (K:=g0) (M:=M) (n:=g0) (Nat.le_succ g0) hz9 (HB5.out.trans (hbw.mono (by have:=HB5.out.size;omega))) (hf7.fit HM.out));clear hbw hs7 hf7 hz9 hfl;go_wp2;exact bodyPost_ret (v:=_) (aby (g:=g0+1) rfl rfl HE.out.2.2) rfl ⟨_,rfl,HE.out.1,HE.out.2.1⟩
theorem aa1{W:World}{f:Nat}{x:Value}{T:TypeId}(h:W.heap[f]? = some (.cells #[x] T (0,0))):f<W.heap.size/\W.cell? ⟨f,0,none⟩=some x/\W.frozen? ⟨f,0,none⟩=false:=⟨aaa h,by rw[cell_of_row _ _ _ _ _ (0,0) h];rfl,frozen_of_row _ _ _ _ _ h⟩
theorem ORow.low{K K':Nat}{w:World}{v:Value}{zs:List Int}{L:Nat}(h:ORow K w v zs L)(hk:K'<=K):ORow K' w v zs L:=by
 obtain⟨bv,e,hK,⟨es,B,T,h1,h2,h3,h4,h5⟩,hl⟩:=h;exact⟨bv,e,Nat.le_trans hk hK,⟨es,B,T,h1,h2,h3,fun k e z a b c=>by obtain⟨g1,g2,g3,g4,g5⟩:=h4 k e z a b c;exact⟨g1,g2,g3,Nat.le_trans hk g4,g5⟩,h5⟩,hl⟩
theorem as0:Has Tryz.prog 88:=by unfold Has;kernel_rfl
structure Shp (n:Nat) (P:List Nat) (rows:List (List Int)):Prop where
 rl:∀r∈rows,r.length=n
 lt:∀p∈P,p<n
 pl:P.length=rows.length
 pm:P.length<=100000
def lftR(lead:Int)(zs:List Int)(P:List Nat)(rows:List (List Int))(n:Nat):List Int:=gRow (fun c=>lft lead zs P rows c (zs.getD c 0)) n
theorem as1(w:World)(q n L M:Nat)(vr:Value)(zs:List Int)(P:List Nat)(rows:List (List Int))(lead:Int)(hr:IsRow w vr zs L)(hB:Bas w q P rows lead L)(hzn:zs.length=n)(hS:Shp n P rows)(hn:n<=1000000)(hL:L<=100000)(hM:∀z∈lftR lead zs P rows n,(z.natAbs:Int)<pw M):
  Calls Tryz.prog 52 #[.pointer (some ⟨q,0,none⟩),vr] w fun e w'=>∃r,e=.returned r/\ORow w.heap.size w' r (lftR lead zs P rows n) M/\Below w.heap.size w w':=by
 subst hzn;obtain⟨ra,rc,rfl,_⟩:=hr.parts;have hmf:∀(fn:Fn) (first cap:Array Value) (w:World),(Instr.makeFunc fn first cap).run Tryz.prog w=.ok (.func fn first cap) w:=fun _ _ _ _=>rfl
 obtain⟨w2,hw2⟩:∃w2,(w.alloc (.cells #[.pointer (some ⟨q,0,none⟩)] 131)).alloc (.cells #[.slice ra zs.length rc] 23)=w2:=⟨_,rfl⟩;have h1:w2.heap[w.heap.size]? = some (.cells #[.pointer (some ⟨q,0,none⟩)] 131 (0,0)):=by rw[<-hw2];exact abj (heap_alloc_new w _)
 have h2:w2.heap[w.heap.size+1]? = some (.cells #[.slice ra zs.length rc] 23 (0,0)):=by
  rw[<-hw2];have:=heap_alloc_new (w.alloc (.cells #[.pointer (some ⟨q,0,none⟩)] 131)) (.cells #[.slice ra zs.length rc] 23);simpa using this
 have hb2:Below w.heap.size w w2:=by rw[<-hw2];exact(hAl _ _).trans ((hAl _ _).mono (hAl _ _).size)
 have hT:Turn w2 88 #[.pointer (some ⟨w.heap.size,0,none⟩),.pointer (some ⟨w.heap.size+1,0,none⟩)] zs L M (fun c=>lft lead zs P rows c (zs.getD c 0)):=by
  intro W c z xv hb hz hx;have hc:c<zs.length:=(List.getElem?_eq_some_iff.1 hz).1;have hzd:zs.getD c 0=z:=by rw[List.getD_eq_getElem?_getD,hz];rfl
  have hbW:=hb2.trans (hb.mono hb2.size);have hMc:((lft lead zs P rows c z).natAbs:Int)<pw M:=hM _ (by
   rw[<-hzd]
   exact List.mem_map.2 ⟨c,List.mem_range.2 (by omega),rfl⟩)
  have K:=apw W W.heap.size rfl c z lead xv (.slice ra zs.length rc) w.heap.size (w.heap.size+1) q zs.length L M zs P rows ((hb.block _ (aaa h1)).trans h1) ((hb.block _ (aaa h2)).trans h2) (hr.below hbW) (hB.below hbW) hx rfl (by omega) hS.rl hS.lt hS.pl hS.pm hL hMc;have e1:(fun c=>lft lead zs P rows c (zs.getD c 0)) c=lft lead zs P rows c z:=by show lft lead zs P rows c (zs.getD c 0)=_;rw[hzd]
  rw[e1];exact K
 have K:=adx w2 _ zs L M (hr.below hb2) (by omega) _ as0 _ _ hT;obtain⟨_,c2,_⟩:=aa1 h2;have HW2:=hide hw2;have HB2:=hide hb2;have K:=hide K;clear hr hB hS hM hT h1 h2 hb2 hw2;go_enter Tryz.func52,Tryz.ntmps52
 go_upto_region 1 with fail
 rw[HW2.out];go_wp2_with fail
 refine K.out.mono ?_;rintro e w3 ⟨r,rfl,ho,hb3⟩;obtain⟨ao,cap,rfl,_⟩:=ho.is.parts;have HO:=hide ho;have HB3:=hide (HB2.out.trans (hb3.mono HB2.out.size));clear ho hb3 K;go_wp2;refine bodyPost_ret (v:=_) (by simp[results,Tryz.results52,go_sem];try rfl) rfl ⟨_,rfl,HO.out.low HB2.out.size,HB3.out⟩
theorem ag0{dst:Option Tmp}{ty:TypeId}{pos:String}{after:Array Edge}{guard:Option (Nat×Bool)}{a:Act}{w:World}{k:Nat}{p:Addr}{z:Int}(hp:a.eval (.tmp k)=.pointer (some p))(hc:w.cell? p=some (.int .i64 z)):
  Does Tryz.prog {dst,op:=.load 3 (.tmp k),type:=ty,pos,after,guard} a.eval w fun v' w'=>Below w.heap.size w w'/\Eqs (.int .i64 z) v' w':=by
 refine aav (v:=.int .i64 z) ?_ ⟨Below.refl _ _,rfl⟩;rw[hp];go_simp
theorem apx:Has Tryz.prog 83:=by unfold Has;kernel_rfl
theorem as2{dst:Option Tmp}{ty:TypeId}{pos:String}{after:Array Edge}{guard:Option (Nat×Bool)}{a:Act}{w:World}{ats:Array TypeId}{i j:Nat}{x y:Int}{L M K:Nat}(h1:IsW x L (a.eval (.tmp i)) w)(h2:IsW y M (a.eval (.tmp j)) w)(hL:L<=400000)(hM:M<=400000)(hK:K<=w.heap.size):
  Does Tryz.prog {dst,op:=.call {callee:=.value (.func 83),args:=#[.tmp i,.tmp j],argTypes:=ats},type:=ty,pos,after,guard} a.eval w fun v w'=>Below w.heap.size w w'/\FrW K (x/y) (L+4) v w':=
 aaq apx #[_,_] (by simp) ((agl _ x y _ _ L M h1 h2 hL hM).mono fun e w' ⟨v,h,hf,hb⟩=>⟨v,h,hb,hf.low hK⟩)
theorem apy(W:World)(g0:Nat)(hg0:W.heap.size=g0)(k:Nat)(x:Int)(xv:Value)(L:Nat)(hx:IsW x L xv W)(hL:L<=100000):
  Calls Tryz.prog 93 #[.int .i64 (k:Int),xv] W fun e W'=>∃v,e=.returned v/\FrW g0 (-x) L v W'/\Below g0 W W':=by
 obtain⟨nx,ax,mx,cx,xs,rfl,_⟩:=id hx;have hb5:Below W.heap.size W ((W.alloc (.cells #[.bool nx,.slice ax mx cx] 42)).alloc (.cells #[.bool false,.slice none 0 0] 42)):=by(repeat' first|with_reducible(first|exact Below.refl _ _|assumption|refine gdrewN ?_ _|refine Below.alloc ?_ ?_ _|refine Below.drew ?_|refine Below.setCell ?_ ?_ _)|go_size)
 have hz5:((W.alloc (.cells #[.bool nx,.slice ax mx cx] 42)).alloc (.cells #[.bool false,.slice none 0 0] 42)).heap[W.heap.size+1]? = some (.cells #[.bool false,.slice none 0 0] 42 (0,0)):=by
  have:=heap_alloc_new (W.alloc (.cells #[.bool nx,.slice ax mx cx] 42)) (.cells #[.bool false,.slice none 0 0] 42);simpa using this
 have K:=negF _ x _ L (hx.ru (Ru.of_below hb5)) (by omega);rw[hg0]at hb5 hz5;have HB5:=hide hb5;have HZ5:=hide hz5;have K:=hide K;clear hx hb5 hz5;go_enter Tryz.func93,Tryz.ntmps93
 go_wp2_with fail
 refine K.out.mono ?_;rintro e w6 ⟨v,rfl,hf,hb6⟩;obtain⟨ng6,a6,m6,c6,rfl⟩:=hf.agg;have hz6:=(hb6.block _ (aaa HZ5.out)).trans HZ5.out;obtain⟨_,z0,z1,f0,f1⟩:=aam hz6;have hb06:=HB5.out.trans (hb6.mono (by have:=HB5.out.size;omega));have HE:=hide (ad3 (K:=g0) (n:=g0) (Nat.le_succ g0) hz6 hb06 (hf.low (by have:=HB5.out.size;omega)));clear hf hb6 hz6 hb06 K;go_wp2;exact bodyPost_ret (v:=_) (aby (g:=g0+1) rfl rfl HE.out.2.2) rfl ⟨_,rfl,HE.out.1,HE.out.2.1⟩
theorem apz(W:World)(g0:Nat)(hg0:W.heap.size=g0)(k cc gl gc gr gb q L M:Nat)(x lead:Int)(xv lv rv:Value)(ls rs:List Int)(y1 y2 y3:Int)(u0 u1:Value)(lng:Bool)(la:Option Addr)(lm lc:Nat)
  (h1:W.heap[gl]? = some (.cells #[lv] 23 (0,0))) (h2:W.heap[gc]? = some (.cells #[.int .i64 (cc:Int)] 3 (0,0))) (h3:W.heap[gr]? = some (.cells #[rv] 23 (0,0))) (h4:W.heap[gb]? = some (.cells #[.pointer (some ⟨q,0,none⟩)] 131 (0,0))) (h5:W.heap[q]? = some (.cells #[u0,u1,.bool lng,.slice la lm lc] 63 (0,0)))
  (hl:IsRow W lv ls L) (hr:IsRow W rv rs L) (hd:IsW lead L (.agg #[.bool lng,.slice la lm lc]) W) (hx:IsW x L xv W) (hy1:ls[cc]? = some y1) (hy2:rs[cc]? = some y2) (hy3:ls[k]? = some y3) (hL:L<=50000) (hM:(((y1*x-y2*y3)/lead).natAbs:Int)<pw M) :
  Calls Tryz.prog 95 #[.int .i64 (k:Int),xv,.pointer (some ⟨gl,0,none⟩),.pointer (some ⟨gc,0,none⟩),.pointer (some ⟨gr,0,none⟩),.pointer (some ⟨gb,0,none⟩)] W fun e W'=>∃v,e=.returned v/\FrW g0 ((y1*x-y2*y3)/lead) M v W'/\Below g0 W W':=by
 obtain⟨nx,ax,mx,cx,xs,rfl,_⟩:=id hx;obtain⟨lav,lcp,rfl,_⟩:=hl.parts;obtain⟨rav,rcp,rfl,_⟩:=hr.parts;have hb5:Below W.heap.size W ((W.alloc (.cells #[.bool nx,.slice ax mx cx] 42)).alloc (.cells #[.bool false,.slice none 0 0] 42)):=by(repeat' first|with_reducible(first|exact Below.refl _ _|assumption|refine gdrewN ?_ _|refine Below.alloc ?_ ?_ _|refine Below.drew ?_|refine Below.setCell ?_ ?_ _)|go_size)
 have hx5:((W.alloc (.cells #[.bool nx,.slice ax mx cx] 42)).alloc (.cells #[.bool false,.slice none 0 0] 42)).heap[W.heap.size]? = some (.cells #[.bool nx,.slice ax mx cx] 42 (0,0)):=abj (heap_alloc_new W _);have hz5:((W.alloc (.cells #[.bool nx,.slice ax mx cx] 42)).alloc (.cells #[.bool false,.slice none 0 0] 42)).heap[W.heap.size+1]? = some (.cells #[.bool false,.slice none 0 0] 42 (0,0)):=by
  have:=heap_alloc_new (W.alloc (.cells #[.bool nx,.slice ax mx cx] 42)) (.cells #[.bool false,.slice none 0 0] 42);simpa using this
 have HXW:=hide (hx.ru (Ru.of_below hb5));have HLD:=hide (hd.ru (Ru.of_below hb5));obtain⟨lb,lo,n1,a1,m1,c1,rfl,hlb,l0,l1,hw1⟩:=(hl.below hb5).cell hy1;obtain⟨lb',lo',n3,a3,m3,c3,e3,_,k0,k1,hw3⟩:=(hl.below hb5).cell hy3;obtain⟨rfl,rfl⟩:lb=lb'/\lo=lo':=by simpa using e3
 obtain⟨rb,ro,n2,a2,m2,c2,rfl,hrb,r0,r1,hw2⟩:=(hr.below hb5).cell hy2;have HY1:=hide hw1;have HY2:=hide hw2;have HY3:=hide hw3;have hcl:cc<ls.length:=(List.getElem?_eq_some_iff.1 hy1).1;have hcr:cc<rs.length:=(List.getElem?_eq_some_iff.1 hy2).1;have hkl:k<ls.length:=(List.getElem?_eq_some_iff.1 hy3).1;obtain⟨hgl,cl,_⟩:=aa1 ((hb5.block _ (aaa h1)).trans h1);obtain⟨hgc,ccl,_⟩:=aa1 ((hb5.block _ (aaa h2)).trans h2);obtain⟨hgr,cr,_⟩:=aa1 ((hb5.block _ (aaa h3)).trans h3);obtain⟨hgb,cb,_⟩:=aa1 ((hb5.block _ (aaa h4)).trans h4);have hq5:=(hb5.block _ (aaa h5)).trans h5;have b2:=(show _=some (Value.bool lng)from by rw[cell_of_row _ _ _ _ _ (0,0) hq5];rfl:((W.alloc (.cells #[.bool nx,.slice ax mx cx] 42)).alloc (.cells #[.bool false,.slice none 0 0] 42)).cell? ⟨q,2,none⟩=some (.bool lng));have b3:=(show _=some (Value.slice la lm lc)from by rw[cell_of_row _ _ _ _ _ (0,0) hq5];rfl:((W.alloc (.cells #[.bool nx,.slice ax mx cx] 42)).alloc (.cells #[.bool false,.slice none 0 0] 42)).cell? ⟨q,2+1,none⟩=some (.slice la lm lc));have hq:=aaa hq5;have HM:=hide hM;clear hl hr hd hx hy1 hy2 hy3 hw1 hw2 hw3 e3 h1 h2 h3 h4 h5 hq5 hM;go_enter Tryz.func95,Tryz.ntmps95
 go_upto_region 1 with fail
 generalize (W.alloc (.cells #[.bool nx,.slice ax mx cx] 42)).alloc (.cells #[.bool false,.slice none 0 0] 42)=w5 at *
 rw[hg0]at hx5 hz5 hb5;have HX5:=hide hx5;have HZ5:=hide hz5;have HB5:=hide hb5;clear hx5 hz5 hb5;refine ab4 17 [10,11,12,13,14,15,16,17,18,19,20,21,22,23,24,25,9] [Eqs (.slice (some ⟨lb,lo,none⟩) ls.length lcp),Eqs (.int .i64 (cc:Int)),Eqs (.pointer (some ⟨lb,lo+cc*2,none⟩)),(IsW y1 L),(IsW x L),(FrW g0 (y1*x) (L+L)),Eqs (.slice (some ⟨rb,ro,none⟩) rs.length rcp),Eqs (.int .i64 (cc:Int)),Eqs (.pointer (some ⟨rb,ro+cc*2,none⟩)),(IsW y2 L),Eqs (.slice (some ⟨lb,lo,none⟩) ls.length lcp),Eqs (.int .i64 (k:Int)),Eqs (.pointer (some ⟨lb,lo+k*2,none⟩)),(IsW y3 L),(FrW g0 (y2*y3) (L+L)),(FrW g0 (y1*x-y2*y3) (L+L+(L+L)+1)),(NewW w5.heap.size)] rfl rfl (by decide) (by kernel_rfl) (by kernel_rfl) (by decide) (by kernel_rfl) ⟨Eqs.mono _,Eqs.mono _,Eqs.mono _,(Mono.of4 (IsW.mono4 _ _)),(Mono.of4 (IsW.mono4 _ _)),(Mono.of4 (FrW.mono4 _ _ _)),Eqs.mono _,Eqs.mono _,Eqs.mono _,(Mono.of4 (IsW.mono4 _ _)),Eqs.mono _,Eqs.mono _,Eqs.mono _,(Mono.of4 (IsW.mono4 _ _)),(Mono.of4 (FrW.mono4 _ _ _)),(Mono.of4 (FrW.mono4 _ _ _)),(NewW.mono _),trivial⟩ ?_ ?_
 ·exact⟨⟨rfl,fun a_ w_ _ hB hR hD=>acf ((hR 2 rfl).trans (aab rfl)) ((hB.cell (p:=⟨gl,0,none⟩) hgl).trans cl)⟩,
    ⟨rfl,fun a_ w_ _ hB hR hD=>ag0 ((hR 3 rfl).trans (aab rfl)) ((hB.cell (p:=⟨gc,0,none⟩) hgc).trans ccl)⟩,
    ⟨rfl,fun a_ w_ _ hB hR hD=>acv (show a_.eval (.tmp 10)=.slice (some ⟨lb,lo,none⟩) ls.length lcp from hD 0 rfl) rfl (show a_.eval (.tmp 11)=.int .i64 (cc:Int)from hD 1 rfl) hcl⟩,
    ⟨rfl,fun a_ w_ _ hB hR hD=>adc (show a_.eval (.tmp 12)=.pointer (some ⟨lb,lo+cc*2,none⟩)from hD 2 rfl) ((hB.cell (p:=⟨lb,lo+cc*2,none⟩) hlb).trans l0) ((hB.cell (p:=⟨lb,lo+cc*2+1,none⟩) hlb).trans l1) (Mono.of4 (IsW.mono4 _ _) _ _ _ hB HY1.out)⟩,
    ⟨rfl,fun a_ w_ _ hB hR hD=>aip ((hR 7 rfl).trans (aab rfl)) ((hB.block _ (aaa HX5.out)).trans HX5.out) (Mono.of4 (IsW.mono4 _ _) _ _ _ hB HXW.out)⟩,
    ⟨rfl,fun a_ w_ _ hB hR hD=>agz (show(IsW y1 L) (a_.eval (.tmp 13)) w_ from hD 3 rfl) (show(IsW x L) (a_.eval (.tmp 14)) w_ from hD 4 rfl) (by omega) (by omega) (by have:=HB5.out.size;have:=hB.size;omega)⟩,
    ⟨rfl,fun a_ w_ _ hB hR hD=>acf ((hR 4 rfl).trans (aab rfl)) ((hB.cell (p:=⟨gr,0,none⟩) hgr).trans cr)⟩,
    ⟨rfl,fun a_ w_ _ hB hR hD=>ag0 ((hR 3 rfl).trans (aab rfl)) ((hB.cell (p:=⟨gc,0,none⟩) hgc).trans ccl)⟩,
    ⟨rfl,fun a_ w_ _ hB hR hD=>acv (show a_.eval (.tmp 16)=.slice (some ⟨rb,ro,none⟩) rs.length rcp from hD 6 rfl) rfl (show a_.eval (.tmp 17)=.int .i64 (cc:Int)from hD 7 rfl) hcr⟩,
    ⟨rfl,fun a_ w_ _ hB hR hD=>adc (show a_.eval (.tmp 18)=.pointer (some ⟨rb,ro+cc*2,none⟩)from hD 8 rfl) ((hB.cell (p:=⟨rb,ro+cc*2,none⟩) hrb).trans r0) ((hB.cell (p:=⟨rb,ro+cc*2+1,none⟩) hrb).trans r1) (Mono.of4 (IsW.mono4 _ _) _ _ _ hB HY2.out)⟩,
    ⟨rfl,fun a_ w_ _ hB hR hD=>acf ((hR 2 rfl).trans (aab rfl)) ((hB.cell (p:=⟨gl,0,none⟩) hgl).trans cl)⟩,
    ⟨rfl,fun a_ w_ _ hB hR hD=>aah ((hR 0 rfl).trans (aab rfl))⟩,
    ⟨rfl,fun a_ w_ _ hB hR hD=>acv (show a_.eval (.tmp 20)=.slice (some ⟨lb,lo,none⟩) ls.length lcp from hD 10 rfl) rfl (show a_.eval (.tmp 21)=.int .i64 (k:Int)from hD 11 rfl) hkl⟩,
    ⟨rfl,fun a_ w_ _ hB hR hD=>adc (show a_.eval (.tmp 22)=.pointer (some ⟨lb,lo+k*2,none⟩)from hD 12 rfl) ((hB.cell (p:=⟨lb,lo+k*2,none⟩) hlb).trans k0) ((hB.cell (p:=⟨lb,lo+k*2+1,none⟩) hlb).trans k1) (Mono.of4 (IsW.mono4 _ _) _ _ _ hB HY3.out)⟩,
    ⟨rfl,fun a_ w_ _ hB hR hD=>agz (show(IsW y2 L) (a_.eval (.tmp 19)) w_ from hD 9 rfl) (show(IsW y3 L) (a_.eval (.tmp 23)) w_ from hD 13 rfl) (by omega) (by omega) (by have:=HB5.out.size;have:=hB.size;omega)⟩,
    ⟨rfl,fun a_ w_ _ hB hR hD=>an1 (FrW.is (show(FrW g0 (y1*x) (L+L)) (a_.eval (.tmp 15)) w_ from hD 5 rfl)) (FrW.is (show(FrW g0 (y2*y3) (L+L)) (a_.eval (.tmp 24)) w_ from hD 14 rfl)) (by omega) (by omega) (by have:=HB5.out.size;have:=hB.size;omega)⟩,
    ⟨rfl,fun a_ w_ _ hB hR hD=>anu hB.size⟩,
    trivial⟩
 ·intro a' w' hn' hd' hB' hR' hP';have e10:a'.eval (.tmp 10)=.slice (some ⟨lb,lo,none⟩) ls.length lcp:=hP' 0 (by decide);have e11:a'.eval (.tmp 11)=.int .i64 (cc:Int):=hP' 1 (by decide);have e12:a'.eval (.tmp 12)=.pointer (some ⟨lb,lo+cc*2,none⟩):=hP' 2 (by decide);obtain⟨u13,e13⟩:∃u,a'.eval (.tmp 13)=u:=⟨_,rfl⟩;obtain⟨u14,e14⟩:∃u,a'.eval (.tmp 14)=u:=⟨_,rfl⟩;obtain⟨u15,e15⟩:∃u,a'.eval (.tmp 15)=u:=⟨_,rfl⟩;have e16:a'.eval (.tmp 16)=.slice (some ⟨rb,ro,none⟩) rs.length rcp:=hP' 6 (by decide);have e17:a'.eval (.tmp 17)=.int .i64 (cc:Int):=hP' 7 (by decide);have e18:a'.eval (.tmp 18)=.pointer (some ⟨rb,ro+cc*2,none⟩):=hP' 8 (by decide);obtain⟨u19,e19⟩:∃u,a'.eval (.tmp 19)=u:=⟨_,rfl⟩;have e20:a'.eval (.tmp 20)=.slice (some ⟨lb,lo,none⟩) ls.length lcp:=hP' 10 (by decide);have e21:a'.eval (.tmp 21)=.int .i64 (k:Int):=hP' 11 (by decide);have e22:a'.eval (.tmp 22)=.pointer (some ⟨lb,lo+k*2,none⟩):=hP' 12 (by decide);obtain⟨u23,e23⟩:∃u,a'.eval (.tmp 23)=u:=⟨_,rfl⟩;obtain⟨u24,e24⟩:∃u,a'.eval (.tmp 24)=u:=⟨_,rfl⟩;obtain⟨u25,e25⟩:∃u,a'.eval (.tmp 25)=u:=⟨_,rfl⟩;have hT:(FrW g0 (y1*x-y2*y3) (L+L+(L+L)+1)) (a'.eval (.tmp 25)) w':=hP' 15 (by decide);rw[e25]at hT;obtain⟨u9,e9⟩:∃u,a'.eval (.tmp 9)=u:=⟨_,rfl⟩;have hN:(NewW w5.heap.size) (a'.eval (.tmp 9)) w':=hP' 16 (by decide);rw[e9]at hN;refine abl hn' hd' hR' (.s4 rfl <| .s4 rfl <| .same rfl <| .new e9 <| .new e10 <| .new e11 <| .new e12 <| .new e13 <| .new e14 <| .new e15 <| .new e16 <| .new e17 <| .new e18 <| .new e19 <| .new e20 <| .new e21 <| .new e22 <| .new e23 <| .new e24 <| .new e25 <| .s4 rfl <| .same rfl <| .same rfl <| .nil) ?_;clear e10 e11 e12 e13 e14 e15 e16 e17 e18 e19 e20 e21 e22 e23 e24 e25 e9;obtain⟨ng9,a9,m9,c9,rfl⟩:=hT.agg;obtain⟨g9,hg9,rfl,hh9⟩:=hN;obtain⟨_,s0,s1,sf0,sf1⟩:=aam hh9;have hE9:=ad3 (n:=w5.heap.size) hg9 hh9 hB' hT;have hS9:=acd hh9 (.bool ng9) (.slice a9 m9 c9);clear hn' hd' hR' hP';go_upto_region 2 with fail
  generalize (w'.setCell ⟨g9,0,none⟩ (.bool ng9)).setCell ⟨g9,1,none⟩ (.slice a9 m9 c9)=w9 at *
  obtain⟨hF9,hB9,_⟩:=hE9;have cb9:=(hB9.cell (p:=⟨gb,0,none⟩) hgb).trans cb;have b29:=(hB9.cell (p:=⟨q,2,none⟩) hq).trans b2;have b39:=(hB9.cell (p:=⟨q,2+1,none⟩) hq).trans b3;have hgb9:=Nat.lt_of_lt_of_le hgb hB9.size;have hq9:=Nat.lt_of_lt_of_le hq hB9.size;have HLD9:=hide (HLD.out.ru (Ru.of_below hB9));have HF9:=hide hF9.is;have HB9:=hide hB9;have HS9:=hide hS9;clear hF9 hB9 hS9 hh9 hT hB' s0 s1 sf0 sf1;refine ab4 6 [26,27,28,29,30,31] [(IsW (y1*x-y2*y3) (L+L+(L+L)+1)),Eqs (.pointer (some ⟨q,0,none⟩)),Eqs (.pointer (some ⟨q,0,none⟩)),Eqs (.pointer (some ⟨q,2,none⟩)),(IsW lead L),(FrW g0 ((y1*x-y2*y3)/lead) (L+L+(L+L)+1+4))] rfl rfl (by decide) (by kernel_rfl) (by kernel_rfl) (by decide) (by kernel_rfl) ⟨(Mono.of4 (IsW.mono4 _ _)),Eqs.mono _,Eqs.mono _,Eqs.mono _,(Mono.of4 (IsW.mono4 _ _)),(Mono.of4 (FrW.mono4 _ _ _)),trivial⟩ ?_ ?_
  ·exact⟨⟨rfl,fun a_ w_ _ hB hR hD=>aip ((hR 9 rfl).trans (aab rfl)) ((hB.block _ (aaa HS9.out)).trans HS9.out) (Mono.of4 (IsW.mono4 _ _) _ _ _ hB HF9.out)⟩,
     ⟨rfl,fun a_ w_ _ hB hR hD=>ac6 ((hR 5 rfl).trans (aab rfl)) ((hB.cell (p:=⟨gb,0,none⟩) hgb9).trans cb9)⟩,
     ⟨rfl,fun a_ w_ _ hB hR hD=>aei (show a_.eval (.tmp 27)=.pointer (some ⟨q,0,none⟩)from hD 1 rfl)⟩,
     ⟨rfl,fun a_ w_ _ hB hR hD=>afg fab2 (show a_.eval (.tmp 28)=.pointer (some ⟨q,0,none⟩)from hD 2 rfl)⟩,
     ⟨rfl,fun a_ w_ _ hB hR hD=>adc (show a_.eval (.tmp 29)=.pointer (some ⟨q,2,none⟩)from hD 3 rfl) ((hB.cell (p:=⟨q,2,none⟩) hq9).trans b29) ((hB.cell (p:=⟨q,2+1,none⟩) hq9).trans b39) (Mono.of4 (IsW.mono4 _ _) _ _ _ hB HLD9.out)⟩,
     ⟨rfl,fun a_ w_ _ hB hR hD=>as2 (show(IsW (y1*x-y2*y3) (L+L+(L+L)+1)) (a_.eval (.tmp 26)) w_ from hD 0 rfl) (show(IsW lead L) (a_.eval (.tmp 30)) w_ from hD 4 rfl) (by omega) (by omega) (by have:=HB5.out.size;have:=HB9.out.size;have:=hB.size;omega)⟩,
     trivial⟩
  ·intro a' w' hn' hd' hB' hR' hP';obtain⟨u26,e26⟩:∃u,a'.eval (.tmp 26)=u:=⟨_,rfl⟩;have e27:a'.eval (.tmp 27)=.pointer (some ⟨q,0,none⟩):=hP' 1 (by decide);have e28:a'.eval (.tmp 28)=.pointer (some ⟨q,0,none⟩):=hP' 2 (by decide);have e29:a'.eval (.tmp 29)=.pointer (some ⟨q,2,none⟩):=hP' 3 (by decide);obtain⟨u30,e30⟩:∃u,a'.eval (.tmp 30)=u:=⟨_,rfl⟩;obtain⟨u31,e31⟩:∃u,a'.eval (.tmp 31)=u:=⟨_,rfl⟩;have hT2:(FrW g0 ((y1*x-y2*y3)/lead) (L+L+(L+L)+1+4)) (a'.eval (.tmp 31)) w':=hP' 5 (by decide);rw[e31]at hT2;refine abl hn' hd' hR' (.s16 rfl <| .s4 rfl <| .s4 rfl <| .same rfl <| .same rfl <| .new e26 <| .new e27 <| .new e28 <| .new e29 <| .new e30 <| .new e31 <| .nil) ?_;clear e26 e27 e28 e29 e30 e31;obtain⟨ngA,aA,mA,cA,rfl⟩:=hT2.agg;have hzA:=(hB'.block _ (Nat.lt_of_lt_of_le (aaa HZ5.out) HB9.out.size)).trans ((HB9.out.block _ (aaa HZ5.out)).trans HZ5.out);obtain⟨_,t0,t1,tf0,tf1⟩:=aam hzA;have hbA:=HB5.out.trans ((HB9.out.trans (hB'.mono HB9.out.size)).mono (by have:=HB5.out.size;omega));have HE:=hide (ad3 (K:=g0) (M:=M) (n:=g0) (Nat.le_succ g0) hzA hbA (hT2.fit HM.out));clear hn' hd' hR' hP' hB' hT2 hzA hbA;go_wp2;exact bodyPost_ret (v:=_) (aby (g:=g0+1) rfl rfl HE.out.2.2) rfl ⟨_,rfl,HE.out.1,HE.out.2.1⟩
def waits(ops:Array Oper):Nat->Nat->Nat->Bool
 |0,_,_=>false
 |f+1,i,j=>match ops[i]? with
  |some o=>o.after.any fun e=>Region.binds .any e&&(e.on==j||waits ops f e.on j)
  |none=>false
def Shut(ops:Array Oper)(l:Array Bool):Prop:=∀j o,ops[j]? = some o->l.getD j false=true->∀e∈o.after,Region.binds .any e=true->l.getD e.on false=true
theorem ac7{ops:Array Oper}{l:Array Bool}(hc:Shut ops l):∀f i j o,ops[i]? = some o->(∀e∈o.after,Region.binds .any e=true->l.getD e.on false=true)->waits ops f i j=true->l.getD j false=true
 |0,_,_,_,_,_,h=>by simp[waits]at h
 |f+1,i,j,o,ho,hl,h=>by
  rw[waits,ho]at h;simp only at h;rw[<-Array.any_toList]at h;obtain⟨e,he,h3⟩:=List.any_eq_true.1 h;replace he:=Array.mem_toList_iff.1 he;simp only[Bool.and_eq_true,Bool.or_eq_true,beq_iff_eq]at h3;obtain⟨hb,h3⟩:=h3;have hd:=hl e he hb;rcases h3 with h3|h3
  ·rw[<-h3];exact hd
  ·cases hq:ops[e.on]? with
   |none=>cases f <;> simp[waits,hq]at h3
   |some q=>exact ac7 hc f e.on j q hq (hc e.on q hq hd) h3
theorem Shut.set{ops:Array Oper}{l:Array Bool}{i:Nat}{o:Oper}(hc:Shut ops l)(ho:ops[i]? = some o)(hd:∀e∈o.after,Region.binds .any e=true->l.getD e.on false=true):Shut ops (l.setIfInBounds i true):=by
 intro j q hq hj e he hb;have up:l.getD e.on false=true->(l.setIfInBounds i true).getD e.on false=true:=fun h=>by
  by_cases hei:e.on=i
  ·have hlt:e.on<l.size:=by
    apply Classical.byContradiction;intro hn;rw[Array.getD_eq_getD_getElem?,Array.getElem?_eq_none (by omega)]at h;cases h
   rw[hei,Array.getD_eq_getD_getElem?,Array.getElem?_setIfInBounds_self_of_lt (by omega)];rfl
  ·rw[getD_set_ne false (fun h=>hei h.symm)];exact h
 by_cases hji:j=i
 ·subst hji;obtain rfl:o=q:=by rw[ho]at hq;exact Option.some.inj hq
  exact up (hd e he hb)
 ·rw[getD_set_ne false (fun h=>hji h.symm)]at hj;exact up (hc j q hq hj e he hb)
theorem ac1{P:Program}{ops:Array Oper}{Q:Exit->Act->World->Prop}{id n:Nat}{a:Act}{w:World}(m:Nat)(Ds:List Nat)(Ps:List Says)(hm:P.follows .mixedOrders=true)(hn:a.tmps.size=n)(hnd:Ds.Nodup)(hlt:(Ds.all fun d=>decide (d<n))=true)
  (hdep:(ops.toList.zipIdx.all fun p=>p.1.after.all fun e=>decide (e.on<p.2))=true) (hms:m<=ops.size) (hall:((List.range ops.size).all fun i=>decide (i<m)||(List.range i).all fun j=>waits ops ops.size i j)=true) (hM:Monos Ps) (hD:Duties P n Ds Ps a w (ops.toList.take m) Ds Ps)
  (hend:∀a' w',a'.tmps.size=n->a'.defers=a.defers->Below w.heap.size w w'->Rest Ds a a'->(∀j,j<Ds.length->Ps.getD j (fun _ _=>True) (a'.eval (.tmp (Ds.getD j 0))) w')->wpList P ops Q (ops.toList.drop m) a' w'):(Code.region id ops true).wp P Q a w:=by
 obtain⟨hlen,hat⟩:=hD.take hms;have hL:∀k,k<=ops.size->wpOps P ops Q (List.range' k (ops.size-k))=wpList P ops Q (ops.toList.drop k):=fun k hk=>by
  have:=wpOps_eq_wpList (P:=P) (ops:=ops) (Q:=Q) (ops.toList.drop k) k (fun j=>by rw[List.getElem?_drop,Array.getElem?_toList]);rw[<-this];simp
 have hneed:∀i o,ops[i]? = some o->m<=i->∀l:Array Bool,Shut ops l->(∀e∈o.after,Region.binds .any e=true->l.getD e.on false=true)->∀j,j<i->l.getD j false=true:=by
  intro i o ho hi l hc hl j hj;have hio:i<ops.size:=(Array.getElem?_eq_some_iff.1 ho).1;have h1:=List.all_eq_true.1 hall i (List.mem_range.2 hio);simp only[Bool.or_eq_true,decide_eq_true_eq]at h1;rcases h1 with h1|h1
  ·omega
  ·exact ac7 hc _ i j o ho hl (List.all_eq_true.1 h1 j (List.mem_range.2 hj))
 refine ace hm (fun l a' w'=>(l.size=ops.size/\Shut ops l)/\(((∀j,m<=j->l.getD j false=false)/\Mid n Ds Ps a w (l.extract 0 m) a' w')\/∃j,m<j/\j<=ops.size/\(∀k,k<j->l.getD k false=true)/\(∀k,j<=k->l.getD k false=false)/\wpOps P ops Q (List.range' j (ops.size-j)) a' w')) ?_ ?_ ?_
 ·refine⟨⟨by simp,fun j o _ hj=>?_⟩,.inl ⟨fun j _=>?_,by simp[hlen];omega,hn,rfl,Below.drew (Below.refl _ _),fun _ _=>rfl,fun j hj=>?_⟩⟩
  ·exfalso;simp[Array.getElem?_replicate]at hj;split at hj <;> simp at hj
  ·simp[Array.getElem?_replicate];split <;> simp
  ·exfalso;by_cases hjm:j<m
   ·rw[aar hjm]at hj;simp[Array.getElem?_replicate]at hj;split at hj <;> simp at hj
   ·rw[Array.getD_eq_getD_getElem?,Array.getElem?_eq_none (by simp;omega)]at hj;simp at hj
 ·rintro l a' w' ⟨⟨hs,hcl⟩,hI⟩ hr;have hal:=adl hdep hs hr;rcases hI with⟨h1,h2,h3,h4,h5,h6,h7⟩|⟨j,hj1,hj2,hj3,hj4,hj5⟩
  ·have hmo:m=ops.size:=by
    apply Classical.byContradiction;intro hne;have:=hal m (by omega);rw[h1 m (Nat.le_refl _)]at this;cases this
   have:=hend a' w' h3 h4 h5 h6 (fun j hj=>h7 j (by rw[aar (by omega)];exact hal j (by omega)));rw[List.drop_eq_nil_of_le (by simp;omega)]at this;exact this
  ·have hje:j=ops.size:=by
    apply Classical.byContradiction;intro hne;have:=hal j (by omega);rw[hj4 j (Nat.le_refl _)]at this;cases this
   subst hje;simpa[wpOps]using hj5
 ·rintro l a' w' ⟨⟨hs,hcl⟩,hI⟩ i hi;obtain⟨hun,o,ho,hdeps⟩:=mem_ready.1 hi;have hio:i<ops.size:=(Array.getElem?_eq_some_iff.1 ho).1;have hset:∀k,k≠i->(l.setIfInBounds i true).getD k false=l.getD k false:=fun k hk=>getD_set_ne false (fun e=>hk e.symm)
  have hseti:(l.setIfInBounds i true).getD i false=true:=by
   rw[Array.getD_eq_getD_getElem?,Array.getElem?_setIfInBounds_self_of_lt (by omega)];rfl
  have hif:l.getD i false=false:=by
   rw[Array.getD_eq_getD_getElem?]at hun ⊢;cases hc:l[i]? with
   |none=>rfl
   |some b=>rw[hc]at hun;simpa using hun
  have hcl':Shut ops (l.setIfInBounds i true):=hcl.set ho hdeps;have hrun:∀j,j=i->wpOps P ops Q (List.range' j (ops.size-j)) a' w'->m<=j->(∀k,k<j->l.getD k false=true)->(∀k,j<=k->l.getD k false=false)->wpOp P ops Q i (fun a' w'=>((l.setIfInBounds i true).size=ops.size/\Shut ops (l.setIfInBounds i true))/\(((∀j,m<=j->(l.setIfInBounds i true).getD j false=false)/\Mid n Ds Ps a w ((l.setIfInBounds i true).extract 0 m) a' w')\/∃j,m<j/\j<=ops.size/\(∀k,k<j->(l.setIfInBounds i true).getD k false=true)/\(∀k,j<=k->(l.setIfInBounds i true).getD k false=false)/\wpOps P ops Q (List.range' j (ops.size-j)) a' w')) a' w':=by
   rintro j rfl hw hmj hlo hhi;rw[show ops.size-j=(ops.size-(j+1))+1 by omega,List.range'_succ,wpOps_cons]at hw;refine wpOp_mono (fun a2 w2 h=>⟨⟨by simpa using hs,hcl'⟩,.inr ⟨j+1,by omega,by omega,fun k hk=>?_,fun k hk=>?_,h⟩⟩) hw
   ·by_cases e:k=j
    ·subst e;exact hseti
    ·rw[hset k e];exact hlo k (by omega)
   ·rw[hset k (by omega)];exact hhi k (by omega)
  rcases hI with⟨h1,hmid⟩|⟨j,hj1,hj2,hj3,hj4,hj5⟩
  ·by_cases him:i<m
   ·have hd':∀e∈o.after,Region.binds .any e=true->(l.extract 0 m).getD e.on false=true:=fun e he hb=>by
     have h2:=List.all_eq_true.1 hdep (o,i) (by rw[List.mem_zipIdx_iff_getElem?];simpa using ho);have h3:e.on<i:=by simpa using Array.all_eq_true_iff_forall_mem.1 h2 e he
     rw[aar (by omega)];exact hdeps e he hb
    refine wpOp_mono (fun a2 w2 h=>⟨⟨by simpa using hs,hcl'⟩,.inl ⟨fun k hk=>?_,?_⟩⟩) (alm hat (by omega) hnd hlt hM ho (by omega) hmid hd')
    ·rw[hset k (by omega)];exact h1 k hk
    ·rw[adu];exact h
   ·have hpre:=hneed i o ho (by omega) l hcl hdeps;have hie:i=m:=by
     apply Classical.byContradiction;intro hne;have:=hpre m (by omega);rw[h1 m (Nat.le_refl _)]at this;cases this
    subst hie;obtain⟨h2,h3,h4,h5,h6,h7⟩:=hmid;have hw:=hend a' w' h3 h4 h5 h6 (fun j hj=>h7 j (by rw[aar (by omega)];exact hpre j (by omega)));rw[<-hL _ hms]at hw;exact hrun i rfl hw (Nat.le_refl _) hpre h1
  ·have hij:i=j:=by
    apply Classical.byContradiction;intro hne;by_cases hlt':i<j
    ·rw[hj3 i hlt']at hif;cases hif
    ·have:=hneed i o ho (by omega) l hcl hdeps j (by omega);rw[hj4 j (Nat.le_refl _)]at this;cases this
   exact hrun j hij.symm hj5 (by omega) hj3 hj4
structure Tch (g:Nat) (w w':World):Prop where
 os:w'.os=w.os
 tape:w'.tape=w.tape
 output:w'.output=w.output
 size:w.heap.size<=w'.heap.size
 other:∀k,k<w.heap.size->k≠g->w'.heap[k]? = w.heap[k]?
theorem Tch.of_below{g:Nat}{w w':World}(h:Below w.heap.size w w'):Tch g w w':=⟨h.os,h.tape,h.output,h.size,fun k hk _=>h.block k hk⟩
theorem Tch.of_grown{g:Nat}{w w':World}{r:Option Nat}(h:w.grownBy w' r)(hr:∀k,r=some k->k=g):Tch g w w':=⟨h.os,h.tape,h.output,h.size,fun k hk hn=>h.block k hk (fun e=>hn (hr k e.symm))⟩
theorem Tch.trans{g:Nat}{w w' w'':World}(h:Tch g w w')(h':Tch g w' w''):Tch g w w'':=⟨h'.os.trans h.os,h'.tape.trans h.tape,h'.output.trans h.output,Nat.le_trans h.size h'.size,fun k hk hn=>(h'.other k (Nat.lt_of_lt_of_le hk h.size) hn).trans (h.other k hk hn)⟩
theorem Tch.below{g B:Nat}{w w':World}(h:Tch g w w')(hB:B<=w.heap.size)(hg:B<=g):Below B w w':=⟨h.os,h.tape,h.output,h.size,fun k hk=>h.other k (by omega) (by omega)⟩
def Mid3(n g ix:Nat)(Ds:List Nat)(Ps:List Says)(a0:Act)(w0:World)(l:Array Bool)(a:Act)(w:World):Prop:=
 l.size=Ds.length/\a.tmps.size=n/\a.defers=a0.defers/\Tch g w0 w/\Rest Ds a0 a/\(∀j,l.getD j false=true->Ps.getD j (fun _ _=>True) (a.eval (.tmp (Ds.getD j 0))) w)/\(l.getD ix false=false->w.heap[g]? = w0.heap[g]?)
def MonosT(g ix:Nat)(Ps:List Says):Prop:=∀j,j≠ix->∀v w w',Tch g w w'->Ps.getD j (fun _ _=>True) v w->Ps.getD j (fun _ _=>True) v w'
def Duty3(P:Program)(n g ix:Nat)(Ds:List Nat)(Ps:List Says)(a0:Act)(w0:World)(i:Nat)(o:Oper)(d:Nat)(p:Says):Prop:=
 o.dst=some d/\o.guard=none/\∀a w,a.tmps.size=n->Tch g w0 w->Rest Ds a0 a->Deps Ds Ps o a w->(i≠ix->Does P o a.eval w fun v w'=>Below w.heap.size w w'/\p v w')/\(i=ix->w.heap[g]? = w0.heap[g]?->Does P o a.eval w fun v w'=>Tch g w w'/\p v w')
def Duties3(P:Program)(n g ix:Nat)(Ds:List Nat)(Ps:List Says)(a0:Act)(w0:World):Nat->List Oper->List Nat->List Says->Prop
 |_,[],[],[]=>True
 |i,o::os,d::ds,p::ps=>Duty3 P n g ix Ds Ps a0 w0 i o d p/\Duties3 P n g ix Ds Ps a0 w0 (i+1) os ds ps
 |_,_,_,_=>False
theorem Duties3.at{P:Program}{n g ix:Nat}{Ds:List Nat}{Ps:List Says}{a0:Act}{w0:World}: ∀ {m:Nat} {os:List Oper} {ds:List Nat} {ps:List Says},Duties3 P n g ix Ds Ps a0 w0 m os ds ps->ds.length=os.length/\∀i o,os[i]? = some o->Duty3 P n g ix Ds Ps a0 w0 (m+i) o (ds.getD i 0) (ps.getD i fun _ _=>True)
 |_,[],[],[],_=>⟨rfl,fun i o h=>by simp at h⟩
 |m,o::os,d::ds,p::ps,h=>by
  obtain⟨h1,h2⟩:=h;obtain⟨hl,h3⟩:=Duties3.at h2;refine⟨by simp[hl],fun i o' ho=>?_⟩;cases i with
  |zero=>
   simp only[List.getElem?_cons_zero,Option.some.injEq]at ho;subst ho;simpa using h1
  |succ i=>
   have:=h3 i o' (by simpa using ho);rw[show m+1+i=m+(i+1) by omega]at this;simpa using this
 |_,[],_::_,_,h=>h.elim
 |_,[],[],_::_,h=>h.elim
 |_,_::_,[],_,h=>h.elim
 |_,_::_,_::_,[],h=>h.elim
theorem Duties3.take{P:Program}{n g ix:Nat}{Ds:List Nat}{Ps:List Says}{a0:Act}{w0:World}{ops:Array Oper}{m:Nat}(h:Duties3 P n g ix Ds Ps a0 w0 0 (ops.toList.take m) Ds Ps)(hm:m<=ops.size):Ds.length=m/\∀i o,ops[i]? = some o->i<Ds.length->Duty3 P n g ix Ds Ps a0 w0 i o (Ds.getD i 0) (Ps.getD i fun _ _=>True):=by
 obtain⟨hl,hat⟩:=h.at;have hl':Ds.length=m:=by rw[hl,List.length_take];simp;omega
 refine⟨hl',fun i o ho hi=>?_⟩;have:=hat i o (by rw[List.getElem?_take_of_lt (by omega),Array.getElem?_toList];exact ho);rwa[Nat.zero_add]at this
theorem Mid3.put{n g ix:Nat}{Ds:List Nat}{Ps:List Says}{a0:Act}{w0:World}{l:Array Bool}{a:Act}{w w':World}{i:Nat}{v:Value}(h:Mid3 n g ix Ds Ps a0 w0 l a w)(hi:i<Ds.length)(hnd:Ds.Nodup)(hlt:(Ds.all fun d=>decide (d<n))=true)(ht:Tch g w w')(hk:∀j,j≠i->l.getD j false=true->∀u,Ps.getD j (fun _ _=>True) u w->Ps.getD j (fun _ _=>True) u w')(hI:(l.setIfInBounds i true).getD ix false=false->w'.heap[g]? = w.heap[g]?)(hp:Ps.getD i (fun _ _=>True) v w'):
  Mid3 n g ix Ds Ps a0 w0 (l.setIfInBounds i true) (a.put (some (Ds.getD i 0)) v) w':=by
 obtain⟨h1,h2,h3,h4,h5,h6,h7⟩:=h;have hd:Ds.getD i 0<n:=by
  have:=List.all_eq_true.1 hlt (Ds.getD i 0) (by rw[List.getD_eq_getElem?_getD,List.getElem?_eq_getElem hi];simp);simpa using this
 refine⟨by simp[h1],by rw[ael];simp[h2],h3,h4.trans ht,fun k hk=>?_,fun j hj=>?_,fun hx=>?_⟩
 ·rw[abd,h5 k hk];rintro rfl;have:Ds.contains (Ds.getD i 0)=true:=by
   rw[List.contains_iff_mem,List.getD_eq_getElem?_getD,List.getElem?_eq_getElem hi];simp
  rw[this]at hk;cases hk
 ·by_cases e:j=i
  ·subst e;rw[acp (by omega)];exact hp
  ·rw[getD_set_ne false (fun h=>e h.symm)]at hj;have hjl:j<Ds.length:=by
    rw[Array.getD_eq_getD_getElem?]at hj;cases hc:l[j]? with
    |none=>rw[hc]at hj;simp at hj
    |some b=>rw[<-h1];exact(Array.getElem?_eq_some_iff.1 hc).1
   rw[abd (afm hnd hi hjl (fun h=>e h.symm))];exact hk j e hj _ (h6 j hj)
 ·refine(hI hx).trans (h7 ?_);by_cases e:ix=i
  ·subst e;rw[Array.getD_eq_getD_getElem?,Array.getElem?_setIfInBounds_self_of_lt (by omega)]at hx;cases hx
  ·rwa[getD_set_ne false (fun h=>e h.symm)]at hx
theorem as3{P:Program}{ops:Array Oper}{Q:Exit->Act->World->Prop}{n g ix:Nat}{Ds:List Nat}{Ps:List Says}{a0:Act}{w0:World}{l:Array Bool}{a:Act}{w:World}{i:Nat}{o:Oper}(hgw:g<w0.heap.size)(hat:∀i o,ops[i]? = some o->i<Ds.length->Duty3 P n g ix Ds Ps a0 w0 i o (Ds.getD i 0) (Ps.getD i fun _ _=>True))(hnd:Ds.Nodup)(hlt:(Ds.all fun d=>decide (d<n))=true)(hM:Monos Ps)(hT:MonosT g ix Ps)(ho:ops[i]? = some o)(hil:i<Ds.length)(hun:l.getD i false=false)(h:Mid3 n g ix Ds Ps a0 w0 l a w)(hdeps:∀e∈o.after,Region.binds .any e=true->l.getD e.on false=true):
  wpOp P ops Q i (fun a' w'=>Mid3 n g ix Ds Ps a0 w0 (l.setIfInBounds i true) a' w') a w:=by
 have h':=h;obtain⟨h1,h2,h3,h4,h5,h6,h7⟩:=h;obtain⟨hdst,hgd,hduty⟩:=hat i o ho hil;obtain⟨hd1,hd2⟩:=hduty a w h2 h4 h5 (fun j hj=>by
  obtain⟨e,he,hj⟩:=List.any_eq_true.1 hj;simp only[Bool.and_eq_true,beq_iff_eq]at hj;obtain⟨rfl,hb⟩:=hj
  exact h6 _ (hdeps e (by simpa using he) hb))
 refine wpOp_step ho (fun K' hK=>?_);simp only[Region.wanted,hgd,if_true];by_cases hix:i=ix
 ·subst hix;refine Does.wp (hd2 rfl (h7 hun)) (fun v w' ⟨hb,hp⟩=>?_);rw[hdst];refine hK _ _ (h'.put hil hnd hlt hb (fun j hj _ u hu=>hT j hj u w w' hb hu) (fun hx=>?_) hp);rw[Array.getD_eq_getD_getElem?,Array.getElem?_setIfInBounds_self_of_lt (by omega)]at hx;cases hx
 ·refine Does.wp (hd1 hix) (fun v w' ⟨hb,hp⟩=>?_);rw[hdst];exact hK _ _ (h'.put hil hnd hlt (.of_below hb) (fun j _ _ u hu=>hM.at j u w w' hb hu) (fun _=>hb.block g (Nat.lt_of_lt_of_le hgw h4.size)) hp)
theorem agm{P:Program}{ops:Array Oper}{Q:Exit->Act->World->Prop}{id n:Nat}{a:Act}{w:World}(g ix m:Nat)(Ds:List Nat)(Ps:List Says)(hgw:g<w.heap.size)(hm:P.follows .mixedOrders=true)(hn:a.tmps.size=n)(hnd:Ds.Nodup)(hlt:(Ds.all fun d=>decide (d<n))=true)
  (hdep:(ops.toList.zipIdx.all fun p=>p.1.after.all fun e=>decide (e.on<p.2))=true) (hms:m<=ops.size) (hall:((List.range ops.size).all fun i=>decide (i<m)||(List.range i).all fun j=>waits ops ops.size i j)=true) (hM:Monos Ps) (hT:MonosT g ix Ps) (hD:Duties3 P n g ix Ds Ps a w 0 (ops.toList.take m) Ds Ps)
  (hend:∀a' w',a'.tmps.size=n->a'.defers=a.defers->Tch g w w'->Rest Ds a a'->(∀j,j<Ds.length->Ps.getD j (fun _ _=>True) (a'.eval (.tmp (Ds.getD j 0))) w')->wpList P ops Q (ops.toList.drop m) a' w'):(Code.region id ops true).wp P Q a w:=by
 obtain⟨hlen,hat⟩:=hD.take hms;have hL:∀k,k<=ops.size->wpOps P ops Q (List.range' k (ops.size-k))=wpList P ops Q (ops.toList.drop k):=fun k hk=>by
  have:=wpOps_eq_wpList (P:=P) (ops:=ops) (Q:=Q) (ops.toList.drop k) k (fun j=>by rw[List.getElem?_drop,Array.getElem?_toList]);rw[<-this];simp
 have hneed:∀i o,ops[i]? = some o->m<=i->∀l:Array Bool,Shut ops l->(∀e∈o.after,Region.binds .any e=true->l.getD e.on false=true)->∀j,j<i->l.getD j false=true:=by
  intro i o ho hi l hc hl j hj;have hio:i<ops.size:=(Array.getElem?_eq_some_iff.1 ho).1;have h1:=List.all_eq_true.1 hall i (List.mem_range.2 hio);simp only[Bool.or_eq_true,decide_eq_true_eq]at h1;rcases h1 with h1|h1
  ·omega
  ·exact ac7 hc _ i j o ho hl (List.all_eq_true.1 h1 j (List.mem_range.2 hj))
 refine ace hm (fun l a' w'=>(l.size=ops.size/\Shut ops l)/\(((∀j,m<=j->l.getD j false=false)/\Mid3 n g ix Ds Ps a w (l.extract 0 m) a' w')\/∃j,m<j/\j<=ops.size/\(∀k,k<j->l.getD k false=true)/\(∀k,j<=k->l.getD k false=false)/\wpOps P ops Q (List.range' j (ops.size-j)) a' w')) ?_ ?_ ?_
 ·refine⟨⟨by simp,fun j o _ hj=>?_⟩,.inl ⟨fun j _=>?_,by simp[hlen];omega,hn,rfl,.of_below (Below.drew (Below.refl _ _)),fun _ _=>rfl,fun j hj=>?_,fun _=>rfl⟩⟩
  ·exfalso;simp[Array.getElem?_replicate]at hj;split at hj <;> simp at hj
  ·simp[Array.getElem?_replicate];split <;> simp
  ·exfalso;by_cases hjm:j<m
   ·rw[aar hjm]at hj;simp[Array.getElem?_replicate]at hj;split at hj <;> simp at hj
   ·rw[Array.getD_eq_getD_getElem?,Array.getElem?_eq_none (by simp;omega)]at hj;simp at hj
 ·rintro l a' w' ⟨⟨hs,hcl⟩,hI⟩ hr;have hal:=adl hdep hs hr;rcases hI with⟨h1,h2,h3,h4,h5,h6,h7⟩|⟨j,hj1,hj2,hj3,hj4,hj5⟩
  ·have hmo:m=ops.size:=by
    apply Classical.byContradiction;intro hne;have:=hal m (by omega);rw[h1 m (Nat.le_refl _)]at this;cases this
   have:=hend a' w' h3 h4 h5 h6 (fun j hj=>h7.1 j (by rw[aar (by omega)];exact hal j (by omega)));rw[List.drop_eq_nil_of_le (by simp;omega)]at this;exact this
  ·have hje:j=ops.size:=by
    apply Classical.byContradiction;intro hne;have:=hal j (by omega);rw[hj4 j (Nat.le_refl _)]at this;cases this
   subst hje;simpa[wpOps]using hj5
 ·rintro l a' w' ⟨⟨hs,hcl⟩,hI⟩ i hi;obtain⟨hun,o,ho,hdeps⟩:=mem_ready.1 hi;have hio:i<ops.size:=(Array.getElem?_eq_some_iff.1 ho).1;have hset:∀k,k≠i->(l.setIfInBounds i true).getD k false=l.getD k false:=fun k hk=>getD_set_ne false (fun e=>hk e.symm)
  have hseti:(l.setIfInBounds i true).getD i false=true:=by
   rw[Array.getD_eq_getD_getElem?,Array.getElem?_setIfInBounds_self_of_lt (by omega)];rfl
  have hif:l.getD i false=false:=by
   rw[Array.getD_eq_getD_getElem?]at hun ⊢;cases hc:l[i]? with
   |none=>rfl
   |some b=>rw[hc]at hun;simpa using hun
  have hcl':Shut ops (l.setIfInBounds i true):=hcl.set ho hdeps;have hrun:∀j,j=i->wpOps P ops Q (List.range' j (ops.size-j)) a' w'->m<=j->(∀k,k<j->l.getD k false=true)->(∀k,j<=k->l.getD k false=false)->wpOp P ops Q i (fun a' w'=>((l.setIfInBounds i true).size=ops.size/\Shut ops (l.setIfInBounds i true))/\(((∀j,m<=j->(l.setIfInBounds i true).getD j false=false)/\Mid3 n g ix Ds Ps a w ((l.setIfInBounds i true).extract 0 m) a' w')\/∃j,m<j/\j<=ops.size/\(∀k,k<j->(l.setIfInBounds i true).getD k false=true)/\(∀k,j<=k->(l.setIfInBounds i true).getD k false=false)/\wpOps P ops Q (List.range' j (ops.size-j)) a' w')) a' w':=by
   rintro j rfl hw hmj hlo hhi;rw[show ops.size-j=(ops.size-(j+1))+1 by omega,List.range'_succ,wpOps_cons]at hw;refine wpOp_mono (fun a2 w2 h=>⟨⟨by simpa using hs,hcl'⟩,.inr ⟨j+1,by omega,by omega,fun k hk=>?_,fun k hk=>?_,h⟩⟩) hw
   ·by_cases e:k=j
    ·subst e;exact hseti
    ·rw[hset k e];exact hlo k (by omega)
   ·rw[hset k (by omega)];exact hhi k (by omega)
  rcases hI with⟨h1,hmid⟩|⟨j,hj1,hj2,hj3,hj4,hj5⟩
  ·by_cases him:i<m
   ·have hd':∀e∈o.after,Region.binds .any e=true->(l.extract 0 m).getD e.on false=true:=fun e he hb=>by
     have h2:=List.all_eq_true.1 hdep (o,i) (by rw[List.mem_zipIdx_iff_getElem?];simpa using ho);have h3:e.on<i:=by simpa using Array.all_eq_true_iff_forall_mem.1 h2 e he
     rw[aar (by omega)];exact hdeps e he hb
    refine wpOp_mono (fun a2 w2 h=>⟨⟨by simpa using hs,hcl'⟩,.inl ⟨fun k hk=>?_,?_⟩⟩) (as3 hgw hat hnd hlt hM hT ho (by omega) (by rw[aar him];exact hif) hmid hd')
    ·rw[hset k (by omega)];exact h1 k hk
    ·rw[adu];exact h
   ·have hpre:=hneed i o ho (by omega) l hcl hdeps;have hie:i=m:=by
     apply Classical.byContradiction;intro hne;have:=hpre m (by omega);rw[h1 m (Nat.le_refl _)]at this;cases this
    subst hie;obtain⟨h2,h3,h4,h5,h6,h7⟩:=hmid;have hw:=hend a' w' h3 h4 h5 h6 (fun j hj=>h7.1 j (by rw[aar (by omega)];exact hpre j (by omega)));rw[<-hL _ hms]at hw;exact hrun i rfl hw (Nat.le_refl _) hpre h1
  ·have hij:i=j:=by
    apply Classical.byContradiction;intro hne;by_cases hlt':i<j
    ·rw[hj3 i hlt']at hif;cases hif
    ·have:=hneed i o ho (by omega) l hcl hdeps j (by omega);rw[hj4 j (Nat.le_refl _)]at this;cases this
   exact hrun j hij.symm hj5 (by omega) hj3 hj4
end Lm
namespace Md
abbrev Rw:=Nat->Int
def w(x:Rw):(List Nat->Int)->List Nat->Int
 |_,[]=>0
 |g,c::cs=>x c*g cs-w x (fun l=>g (c::l)) cs
theorem ag1(x:Rw){g h:List Nat->Int}(e:∀l,g l=h l)(cs:List Nat):w x g cs=w x h cs:=by
 rw[show g=h from funext e]
theorem a1c(x:Rw)(g h:List Nat->Int)(cs:List Nat):w x (fun l=>g l+h l) cs=w x g cs+w x h cs:=by
 induction cs generalizing g h with
 |nil=>simp[w]
 |cons c cs ih=>simp only[w,ih];grind
theorem ap0(x:Rw)(a:Int)(g:List Nat->Int)(cs:List Nat):w x (fun l=>a*g l) cs=a*w x g cs:=by
 induction cs generalizing g with
 |nil=>simp[w]
 |cons c cs ih=>simp only[w,ih];grind
theorem ap1(x:Rw)(g:List Nat->Int)(cs:List Nat):w x (fun l=>-g l) cs = -w x g cs:=by
 have:=ap0 x (-1) g cs;rw[show(fun l=>-g l)=fun l=>-1*g l from funext fun l=>by omega,this];omega
theorem a1d(x:Rw)(g h:List Nat->Int)(cs:List Nat):w x (fun l=>g l-h l) cs=w x g cs-w x h cs:=by
 have:=a1c x g (fun l=>-h l) cs;rw[ap1]at this;rw[show(fun l=>g l-h l)=fun l=>g l+-h l from funext fun l=>by omega,this];omega
theorem a0h(x:Rw)(cs:List Nat):w x (fun _=>0) cs=0:=by
 have:=ap0 x 0 (fun _=>0) cs;simpa using this
theorem as4(x y:Rw)(g:List Nat->Int)(cs:List Nat):w x (w y g) cs = -w y (w x g) cs:=by
 induction cs generalizing g with
 |nil=>simp[w]
 |cons c cs ih=>
  have h1:∀(x y:Rw),w x (fun l=>w y g (c::l)) cs=y c*w x g cs-w x (w y (fun l=>g (c::l))) cs:=by
   intro x y;rw[<-ap0,<-a1d];exact ag1 x (fun l=>by rw[w]) cs
  rw[w,w,h1 x y,h1 y x,ih];omega
theorem aw5(x y:Rw)(a b:Int)(g:List Nat->Int)(cs:List Nat):w (fun c=>a*x c+b*y c) g cs=a*w x g cs+b*w y g cs:=by
 induction cs generalizing g with
 |nil=>simp[w]
 |cons c cs ih=>simp only[w,ih];grind
theorem as5{x:Rw}(g:List Nat->Int)(cs:List Nat)(h:∀c∈cs,x c=0):w x g cs=0:=by
 induction cs generalizing g with
 |nil=>rfl
 |cons c cs ih=>rw[w,h c (by simp),ih _ (fun d hd=>h d (by simp[hd]))];omega
def Alt(g:List Nat->Int):Prop:=∀(p:List Nat) (a b:Nat) (q:List Nat),g (p++a::b::q) = -g (p++b::a::q)
theorem Alt.pre{g:List Nat->Int}(h:Alt g)(u:List Nat):Alt (fun l=>g (u++l)):=fun p a b q=>by
 have:=h (u++p) a b q;simpa using this
theorem Alt.cons{g:List Nat->Int}(h:Alt g)(u:Nat):Alt (fun l=>g (u::l)):=h.pre [u]
theorem Alt.w{g:List Nat->Int}(h:Alt g)(x:Rw):Alt (Md.w x g):=by
 intro p;induction p generalizing g with
 |nil=>
  intro a b q;simp only[List.nil_append,Md.w];have h1:=ag1 x (g:=fun l=>g (a::b::l)) (h:=fun l=>-g (b::a::l)) (fun l=>h [] a b l) q;rw[ap1]at h1;omega
 |cons c p ih=>
  intro a b q;simp only[List.cons_append,Md.w];have h1:=ih (h.cons c) a b q;have h2:=h p a b q;rw[h1,h2]
  grind
theorem Alt.two{g:List Nat->Int}(h:Alt g)(a:Nat)(p q:List Nat):g (a::(p++a::q))=0:=by
 induction p generalizing g with
 |nil=>have:=h [] a a q;simp only[List.nil_append]at this ⊢;omega
 |cons b p ih=>
  have h1:=h [] a b (p++a::q);have h2:=ih (h.cons b);simp only[List.nil_append,List.cons_append]at h1 h2 ⊢;omega
theorem Alt.dup{g:List Nat->Int}(h:Alt g){l:List Nat}(hl:¬l.Nodup):g l=0:=by
 induction l generalizing g with
 |nil=>exact absurd List.nodup_nil hl
 |cons a l ih=>
  by_cases ha:a∈l
  ·obtain⟨p,q,rfl⟩:=List.append_of_mem ha;exact h.two a p q
  ·exact ih (h.cons a) (fun hn=>hl (List.nodup_cons.2 ⟨ha,hn⟩))
def sgn:Nat->Int
 |0=>1
 |n+1=>-sgn n
theorem al3(n:Nat):sgn n*sgn n=1:=by
 induction n with
 |zero=>rfl
 |succ n ih=>rw[sgn,Int.neg_mul_neg,ih]
theorem a0i(n:Nat):sgn n=if n%2=1 then -1 else 1:=by
 induction n with
 |zero=>rfl
 |succ n ih=>
  rw[sgn,ih];split <;> split <;> omega
theorem Alt.move{g:List Nat->Int}(h:Alt g)(c:Nat)(p q:List Nat):g (c::(p++q))=sgn p.length*g (p++c::q):=by
 induction p generalizing g with
 |nil=>simp[sgn]
 |cons b p ih=>
  have h1:=h [] c b (p++q);have h2:=ih (h.cons b);simp only[List.nil_append,List.cons_append,List.length_cons,sgn]at h1 h2 ⊢;rw[h1,h2]
  grind
def sub(p k:Nat)(l:List Nat):List Nat:=l.map (fun q=>if q=p then k else q)
theorem sub_self(p:Nat)(l:List Nat):sub p p l=l:=by
 unfold sub;conv=>rhs;rw[<-List.map_id l]
 apply List.map_congr_left;intro q _;split
 ·next h=>rw[h];rfl
 ·rfl
theorem afi{p:Nat}{l:List Nat}(h:p∉l)(k:Nat):sub p k l=l:=by
 unfold sub;conv=>rhs;rw[<-List.map_id l]
 apply List.map_congr_left;intro q hq;rw[if_neg (fun e:q=p=>h (by rw[<-e];exact hq))];rfl
theorem af3(p k q:Nat)(l:List Nat):sub p k (q::l)=(if q=p then k else q)::sub p k l:=rfl
theorem aiv(p k:Nat)(l m:List Nat):sub p k (l++m)=sub p k l++sub p k m:=by simp[sub]
theorem afj{p k:Nat}{l:List Nat}(hp:p∈l)(hk:k∈l)(hne:k≠p):¬(sub p k l).Nodup:=by
 intro hn;obtain⟨i,hi,hi'⟩:=List.mem_iff_getElem.1 hp;obtain⟨j,hj,hj'⟩:=List.mem_iff_getElem.1 hk;have hij:i≠j:=fun e=>by subst e;exact hne (hj'.symm.trans hi')
 have h1:(sub p k l)[i]'(by simpa[sub]using hi)=k:=by simp[sub,hi']
 have h2:(sub p k l)[j]'(by simpa[sub]using hj)=k:=by simp[sub,hj',hne]
 exact hij ((List.getElem_inj hn).1 (h1.trans h2.symm))
def sumL(f:Nat->Int):List Nat->Int
 | []=>0
 |q::l=>f q+sumL f l
theorem ap2{f h:Nat->Int}{l:List Nat}(e:∀q∈l,f q=h q):sumL f l=sumL h l:=by
 induction l with
 |nil=>rfl
 |cons q l ih=>rw[sumL,sumL,e q (by simp),ih (fun r hr=>e r (by simp[hr]))]
theorem Alt.expand{g:List Nat->Int}(h:Alt g)(x:Rw)(k:Nat){Q:List Nat}(hn:Q.Nodup):Md.w x (fun l=>g (k::l)) Q=sumL (fun p=>x p*g (sub p k Q)) Q:=by
 induction Q generalizing g with
 |nil=>rfl
 |cons q Q ih=>
  obtain⟨h1,h2⟩:=List.nodup_cons.1 hn;rw[Md.w,sumL,af3,if_pos rfl,afi h1];have e:Md.w x (fun l=>g (k::q::l)) Q = -Md.w x (fun l=>g (q::k::l)) Q:=by
   rw[<-ap1];exact ag1 x (fun l=>h [] k q l) Q
  rw[e,ih (h.cons q) h2];have:sumL (fun p=>x p*g (q::sub p k Q)) Q=sumL (fun p=>x p*g (sub p k (q::Q))) Q:=by
   apply ap2;intro p hp;rw[af3,if_neg (fun e:q=p=>h1 (by rw[e];exact hp))]
  rw[this];omega
def D:List Rw->List Nat->Int
 | []=>fun l=>if l = []then 1 else 0
 |x::R=>w x (D R)
theorem aee(R:List Rw):Alt (D R):=by
 induction R with
 |nil=>
  intro p a b q;have:∀l:List Nat,l≠[]->D [] l=0:=fun l h=>if_neg h
  rw[this _ (by simp),this _ (by simp)];rfl
 |cons x R ih=>exact ih.w x
inductive Sp (R:List Rw):Rw->Prop
 |zero:Sp R (fun _=>0)
 |add (a:Int) (x y:Rw) (hx:x∈R) (hy:Sp R y):Sp R (fun c=>a*x c+y c)
theorem Sp.mono{R S:List Rw}{x:Rw}(h:Sp R x)(hs:∀y∈R,y∈S):Sp S x:=by
 induction h with
 |zero=>exact .zero
 |add a x y hx _ ih=>exact .add a x y (hs x hx) ih
theorem Sp.lin{R:List Rw}{x y:Rw}(hx:Sp R x)(hy:Sp R y)(a b:Int):Sp R (fun c=>a*x c+b*y c):=by
 induction hx with
 |zero=>
  induction hy with
  |zero=>simpa using Sp.zero
  |add e u v hu _ ih=>
   have:=Sp.add (b*e) u _ hu ih;refine cast (congrArg (Sp R) (funext fun c=>?_)) this
   grind
 |add e u v hu _ ih=>
  have:=Sp.add (a*e) u _ hu ih;refine cast (congrArg (Sp R) (funext fun c=>?_)) this
  grind
theorem Sp.mem{R:List Rw}{x:Rw}(h:x∈R):Sp R x:=by
 have:=Sp.add 1 x _ h Sp.zero;refine cast (congrArg (Sp R) (funext fun c=>?_)) this
 grind
theorem Sp.smul{R:List Rw}{x:Rw}(h:Sp R x)(a:Int):Sp R (fun c=>a*x c):=by
 have:=h.lin Sp.zero a 0;refine cast (congrArg (Sp R) (funext fun c=>?_)) this
 grind
theorem sp_w{R:List Rw}(x:Rw)(g:Nat->List Nat->Int)(h:∀l,Sp R (fun c=>g c l))(cs:List Nat):Sp R (fun c=>w x (g c) cs):=by
 induction cs generalizing g with
 |nil=>exact .zero
 |cons d cs ih=>
  have:=(h cs).lin (ih (fun c l=>g c (d::l)) (fun l=>h (d::l))) (x d) (-1);refine cast (congrArg (Sp R) (funext fun c=>?_)) this;rw[w]
  grind
theorem ag2(R:List Rw)(cs:List Nat):Sp R (fun c=>D R (c::cs)):=by
 induction R generalizing cs with
 |nil=>exact Sp.zero
 |cons x R ih=>
  have h1:=(sp_w x (fun c l=>D R (c::l)) (fun l=>ih l) cs).mono (S:=x::R) (fun y hy=>by simp[hy]);have:=(Sp.mem (R:=x::R) (x:=x) (by simp)).lin h1 (D R cs) (-1);refine cast (congrArg (Sp (x::R)) (funext fun c=>?_)) this;rw[D,w]
  grind
theorem as6{p:Nat}{Q:List Nat}(hn:Q.Nodup)(hp:p∈Q):∃a b,Q=a++p::b/\∀k,sub p k Q=a++k::b:=by
 obtain⟨a,b,rfl⟩:=List.append_of_mem hp;refine⟨a,b,rfl,fun k=>?_⟩;have h1:=List.nodup_append.1 hn;have h2:=(List.nodup_cons.1 h1.2.1).1;have h3:p∉a:=fun h=>h1.2.2 p h p (by simp) rfl
 rw[aiv,af3,if_pos rfl,afi h3,afi h2]
theorem agn(R:List Rw){p:Nat}{Q:List Nat}(hn:Q.Nodup)(hp:p∈Q):Sp R (fun k=>D R (sub p k Q)):=by
 obtain⟨a,b,_,h⟩:=as6 hn hp;have h1:=(ag2 R (a++b)).smul (sgn a.length);refine cast (congrArg (Sp R) (funext fun c=>?_)) h1;rw[h c,(aee R).move c a b,<-Int.mul_assoc,al3,Int.one_mul]
theorem a1e{R:List Rw}{r:Rw}(h:r∈R)(cs:List Nat):w r (D R) cs=0:=by
 induction R generalizing cs with
 |nil=>cases h
 |cons y R ih=>
  have h1:=as4 r y (D R) cs;rw[show D (y::R)=w y (D R)from rfl,h1];rcases List.mem_cons.1 h with rfl|h
  ·have:=as4 r r (D R) cs;omega
  ·rw[ag1 y (fun l=>ih h l) cs,a0h];rfl
theorem D_sp{R:List Rw}{x:Rw}(h:Sp R x)(cs:List Nat):w x (D R) cs=0:=by
 induction h with
 |zero=>exact as5 _ _ (fun _ _=>rfl)
 |add a x y hx _ ih=>
  have:=aw5 x y a 1 (D R) cs;rw[show(fun c=>a*x c+y c)=fun c=>a*x c+1*y c from funext fun c=>by omega,this,ih,a1e hx];omega
theorem aym{R:List Rw}{x:Rw}(h:Sp R x){Q:List Nat}(hd:D R Q≠0)(hz:∀q∈Q,x q=0)(k:Nat):x k=0:=by
 have h1:=D_sp h (k::Q);rw[w,as5 _ Q hz]at h1;have h2:x k*D R Q=0:=by omega
 rcases Int.mul_eq_zero.1 h2 with h|h
 ·exact h
 ·exact absurd h hd
theorem aej(R:List Rw)(x:Rw){Q:List Nat}(hn:Q.Nodup)(k:Nat):D (x::R) (k::Q)=D R Q*x k-sumL (fun p=>x p*D R (sub p k Q)) Q:=by
 rw[D,w,(aee R).expand x k hn]
 grind
theorem ago(R:List Rw){Q:List Nat}{k:Nat}(hk:k∈Q):D R (k::Q)=0:=(aee R).dup (fun hn=>(List.nodup_cons.1 hn).1 hk)
theorem ayn(R:List Rw)(x:Rw){Q a b:List Nat}{c:Nat}(hQ:Q=a++b)(hn:(a++c::b).Nodup)(h1:D (x::R) (a++c::b)≠0){p:Nat}(hp:p∈Q)(k:Nat):
  D R Q*D (x::R) (sub p k (a++c::b))=D (x::R) (a++c::b)*D R (sub p k Q)-D R (sub p c Q)*D (x::R) (sub c k (a++c::b)):=by
 have hc:c∈a++c::b:=by simp
 have hp':p∈a++c::b:=by rw[hQ]at hp;simp at hp ⊢;rcases hp with h|h <;> simp[h]
 have hnQ:Q.Nodup:=by rw[hQ];exact hn.sublist (by simp)
 have hcQ:c∉Q:=by
  have h2:=List.nodup_append.1 hn;rw[hQ,List.mem_append,not_or];exact⟨fun h=>h2.2.2 c h c (by simp) rfl,(List.nodup_cons.1 h2.2.1).1⟩
 have hcp:c≠p:=fun e=>hcQ (e▸hp)
 have s1:=(agn (x::R) hn hp').smul (D R Q);have s2:=((agn R hnQ hp).mono (S:=x::R) (fun y hy=>by simp[hy]));have s3:=(agn (x::R) hn hc);have s4:=s2.lin s3 (-D (x::R) (a++c::b)) (D R (sub p c Q));have s5:=s1.lin s4 1 1;have key:=aym s5 h1 (fun q hq=>?_) k
 ·grind
 ·by_cases e1:q=p
  ·subst e1;rw[sub_self,sub_self,(aee (x::R)).dup (afj hc hp' (fun e=>hcp e.symm))]
   grind
  ·rw[(aee (x::R)).dup (afj hp' hq e1)];by_cases e2:q=c
   ·subst e2;rw[sub_self]
    grind
   ·have hqQ:q∈Q:=by
     rw[hQ];simp only[List.mem_append,List.mem_cons]at hq ⊢;rcases hq with h|h|h
     ·exact .inl h
     ·exact absurd h e2
     ·exact .inr h
    rw[(aee R).dup (afj hp hqQ e1),(aee (x::R)).dup (afj hc hq e2)]
    grind
theorem w_le{x:Rw}{g:List Nat->Int}{X G:Int}(N:Nat)(hX:0<=X)(hG:0<=G)(cs:List Nat)(hx:∀c∈cs,(x c).natAbs<=X)(hg:∀l,(∀c∈l,c∈cs)->(g l).natAbs<=G)(hN:cs.length<=N):((w x g cs).natAbs:Int)<=N*(X*G):=by
 have hXG:0<=X*G:=Int.mul_nonneg hX hG;induction cs generalizing g N with
 |nil=>simp[w];exact Int.mul_nonneg (by omega) hXG
 |cons c cs ih=>
  match N,hN with
  |N+1,hN=>
   have h1:=ih (g:=fun l=>g (c::l)) N (fun d hd=>hx d (by simp[hd])) (fun l hl=>hg (c::l) (fun d hd=>by
    rcases List.mem_cons.1 hd with rfl|h
    ·simp
    ·simp[hl d h])) (by simp at hN;omega)
   have h2:((x c*g cs).natAbs:Int)<=X*G:=by
    rw[Int.natAbs_mul,Int.natCast_mul];exact Int.mul_le_mul (hx c (by simp)) (hg cs (fun d hd=>by simp[hd])) (by omega) hX
   have h3:(((x c*g cs)-w x (fun l=>g (c::l)) cs).natAbs:Int)<=((x c*g cs).natAbs:Int)+((w x (fun l=>g (c::l)) cs).natAbs:Int):=by omega
   rw[w,Int.natCast_add,Int.add_mul];omega
end Md
namespace Md
structure Gat (cols:Nat) (R:List Rw) (Q:List Nat):Prop where
 desc:Q.Pairwise (· > ·)
 lt:∀q∈Q,q<cols
 ne:D R Q≠0
 led:∀p∈Q,∀k,k<p->D R (sub p k Q)=0
theorem an2(cols:Nat):Gat cols [] []:=⟨.nil,fun q hq=>(by cases hq),by decide,fun p hp=>(by cases hp)⟩
theorem ach{Q:List Nat}(h:Q.Pairwise (· > ·)):Q.Nodup:=h.imp (fun h=>by omega)
theorem Gat.not_mem{R:List Rw}{Q:List Nat}{x:Rw}{c:Nat}(h:D (x::R) (c::Q)≠0):c∉Q:=fun hc=>h (ago (x::R) hc)
theorem Gat.take{cols:Nat}{R:List Rw}{Q a b:List Nat}(G:Gat cols R Q){x:Rw}{c:Nat}(hc:c<cols)(h0:∀k,k<c->D (x::R) (k::Q)=0)(hne:D (x::R) (c::Q)≠0)(hQ:Q=a++b)(ha:∀x∈a,c<x)(hb:∀x∈b,x<c):
  Gat cols (x::R) (a++c::b)/\(∀k,D (x::R) (sub c k (a++c::b))=sgn a.length*D (x::R) (k::Q))/\D (x::R) (a++c::b)=sgn a.length*D (x::R) (c::Q)/\∀p∈Q,∀k,D R Q*D (x::R) (sub p k (a++c::b))=D (x::R) (a++c::b)*D R (sub p k Q)-D R (sub p c Q)*D (x::R) (sub c k (a++c::b)):=by
 have hd:(a++c::b).Pairwise (· > ·):=by
  have h1:=G.desc;rw[hQ,List.pairwise_append]at h1;rw[List.pairwise_append,List.pairwise_cons];refine⟨h1.1,⟨fun y hy=>hb y hy,h1.2.1⟩,fun u hu v hv=>?_⟩;rcases List.mem_cons.1 hv with rfl|hv
  ·exact ha u hu
  ·exact h1.2.2 u hu v hv
 have hn:=ach hd;have hca:c∉a:=fun h=>by have:=ha c h;omega
 have hcb:c∉b:=fun h=>by have:=hb c h;omega
 have hsub:∀k,sub c k (a++c::b)=a++k::b:=fun k=>by rw[aiv,af3,if_pos rfl,afi hca,afi hcb]
 have hmove:∀k,D (x::R) (a++k::b)=sgn a.length*D (x::R) (k::Q):=fun k=>by
  rw[hQ,(aee (x::R)).move k a b,<-Int.mul_assoc,al3,Int.one_mul]
 have hne':D (x::R) (a++c::b)≠0:=by
  rw[hmove];intro e;rcases Int.mul_eq_zero.1 e with e|e
  ·have:=al3 a.length;rw[e]at this;simp at this
  ·exact hne e
 have hstep:∀p∈Q,∀k,D R Q*D (x::R) (sub p k (a++c::b))=D (x::R) (a++c::b)*D R (sub p k Q)-D R (sub p c Q)*D (x::R) (sub c k (a++c::b)):=fun p hp k=>ayn R x hQ hn hne' hp k
 have hz:∀k,k<c->D (x::R) (sub c k (a++c::b))=0:=fun k hk=>by rw[hsub,hmove,h0 k hk,Int.mul_zero]
 refine⟨⟨hd,fun q hq=>?_,hne',fun p hp k hk=>?_⟩,fun k=>by rw[hsub,hmove],hmove c,hstep⟩
 ·rcases List.mem_append.1 hq with h|h
  ·exact G.lt q (by rw[hQ];simp[h])
  ·rcases List.mem_cons.1 h with rfl|h
   ·exact hc
   ·exact G.lt q (by rw[hQ];simp[h])
 ·by_cases hpc:p=c
  ·subst hpc;exact hz k hk
  ·have hpQ:p∈Q:=by
    rw[hQ];rcases List.mem_append.1 hp with h|h
    ·simp[h]
    ·rcases List.mem_cons.1 h with h|h
     ·exact absurd h hpc
     ·simp[h]
   have h1:=hstep p hpQ k;rw[G.led p hpQ k hk]at h1;by_cases hcp:c<p
   ·rw[G.led p hpQ c hcp]at h1;have h2:D R Q*D (x::R) (sub p k (a++c::b))=0:=by rw[h1];simp
    rcases Int.mul_eq_zero.1 h2 with h|h
    ·exact absurd h G.ne
    ·exact h
   ·rw[hz k (by omega)]at h1;have h2:D R Q*D (x::R) (sub p k (a++c::b))=0:=by rw[h1];simp
    rcases Int.mul_eq_zero.1 h2 with h|h
    ·exact absurd h G.ne
    ·exact h
def RS(S:List Rw)(x:Rw):Prop:=∃a:Int,a≠0/\Sp S (fun c=>a*x c)
theorem RS.of{S:List Rw}{x:Rw}(h:Sp S x):RS S x:=⟨1,by decide,by simpa using h⟩
theorem RS.mem{S:List Rw}{x:Rw}(h:x∈S):RS S x:=.of (.mem h)
theorem a1f{R S:List Rw}(hs:∀y∈S,RS R y){x:Rw}(h:Sp S x):RS R x:=by
 induction h with
 |zero=>exact .of .zero
 |add a x y hx _ ih=>
  obtain⟨b,hb,h1⟩:=hs x hx;obtain⟨c,hc,h2⟩:=ih;refine⟨b*c,Int.mul_ne_zero hb hc,?_⟩;have:=h1.lin h2 (a*c) b;refine cast (congrArg (Sp R) (funext fun k=>?_)) this
  grind
theorem RS.trans{R S:List Rw}{x:Rw}(h:RS S x)(hs:∀y∈S,RS R y):RS R x:=by
 obtain⟨a,ha,h1⟩:=h;obtain⟨b,hb,h2⟩:=a1f hs h1;refine⟨b*a,Int.mul_ne_zero hb ha,?_⟩;refine cast (congrArg (Sp R) (funext fun k=>?_)) h2
 grind
theorem an3{R:List Rw}{Q:List Nat}(hn:Q.Nodup)(hd:D R Q≠0){x:Rw}(h:∀k,D (x::R) (k::Q)=0):RS R x:=by
 refine⟨D R Q,hd,?_⟩;have key:∀l:List Nat,(∀p∈l,p∈Q)->Sp R (fun k=>sumL (fun p=>x p*D R (sub p k Q)) l):=by
  intro l;induction l with
  |nil=>intro _;exact .zero
  |cons p l ih=>
   intro hl;have:=(agn R hn (hl p (by simp))).lin (ih (fun q hq=>hl q (by simp[hq]))) (x p) 1;refine cast (congrArg (Sp R) (funext fun k=>?_)) this;rw[sumL]
   grind
 have:=key Q (fun _ h=>h);refine cast (congrArg (Sp R) (funext fun k=>?_)) this;have h1:=aej R x hn k;rw[h k]at h1
 grind
theorem ayo{R:List Rw}{x:Rw}(h:RS R x)(cs:List Nat):D (x::R) cs=0:=by
 obtain⟨a,ha,h1⟩:=h;have h2:=D_sp h1 cs;have h3:=aw5 x x a 0 (D R) cs;rw[show(fun c=>a*x c+0*x c)=fun c=>a*x c from funext fun c=>by omega,h2]at h3;have h4:a*w x (D R) cs=0:=by omega
 rcases Int.mul_eq_zero.1 h4 with h|h
 ·exact absurd h ha
 ·exact h
structure EF (E:List (Nat×Rw)):Prop where
 asc:E.Pairwise (fun a b=>a.1<b.1)
 ne:∀e∈E,e.2 e.1≠0
 oth:∀e∈E,∀f∈E,e.1≠f.1->e.2 f.1=0
 led:∀e∈E,∀k,k<e.1->e.2 k=0
def rowsE(E:List (Nat×Rw)):List Rw:=E.map Prod.snd
def sumE(f:Nat->Int):List (Nat×Rw)->Nat->Int
 | [],_=>0
 |e::E,k=>f e.1*e.2 k+sumE f E k
theorem aiw{f g:Nat->Int}: ∀ {E:List (Nat×Rw)},(∀e∈E,f e.1=g e.1)->∀k,sumE f E k=sumE g E k
 | [],_,_=>rfl
 |e::E,h,k=>by rw[sumE,sumE,h e (by simp),aiw (fun x hx=>h x (by simp[hx]))]
theorem ahv{a:Int}{e:Nat×Rw}(f:Nat->Int):∀ {E:List (Nat×Rw)},E.Pairwise (fun a b=>a.1<b.1)->e∈E->∀k,sumE (fun p=>if p=e.1 then f p+a else f p) E k=sumE f E k+a*e.2 k
 |x::E,hp,he,k=>by
  obtain⟨h1,h2⟩:=List.pairwise_cons.1 hp;rw[sumE,sumE];rcases List.mem_cons.1 he with rfl|he
  ·have:sumE (fun p=>if p=e.1 then f p+a else f p) E k=sumE f E k:=aiw (fun y hy=>if_neg (by have:=h1 y hy;omega)) k;rw[this,if_pos rfl]
   grind
  ·rw[ahv f h2 he k,if_neg (by have:=h1 e he;omega)];omega
theorem an4{E:List (Nat×Rw)}(hp:E.Pairwise (fun a b=>a.1<b.1)){y:Rw}(h:Sp (rowsE E) y):∃f,∀k,y k=sumE f E k:=by
 induction h with
 |zero=>
  refine⟨fun _=>0,fun k=>?_⟩;have:∀E:List (Nat×Rw),sumE (fun _=>0) E k=0:=by
   intro E;induction E with
   |nil=>rfl
   |cons e E ih=>rw[sumE,ih];simp
  rw[this]
 |add a x y hx _ ih=>
  obtain⟨e,he,rfl⟩:=List.mem_map.1 hx;obtain⟨f,hf⟩:=ih;exact⟨_,fun k=>by show a*e.2 k+y k=_;rw[ahv (a:=a) f hp he k,hf k];omega⟩
theorem ajm{f:Nat->Int}{E:List (Nat×Rw)}{k:Nat}(h:∀e∈E,f e.1*e.2 k=0):sumE f E k=0:=by
 induction E with
 |nil=>rfl
 |cons e E ih=>rw[sumE,h e (by simp),ih (fun x hx=>h x (by simp[hx]))];rfl
theorem EF.pivot{E:List (Nat×Rw)}(hE:EF E)(f:Nat->Int){e:Nat×Rw}(he:e∈E):sumE f E e.1=f e.1*e.2 e.1:=by
 have h:=ahv (a:=-f e.1) f hE.asc he e.1;have h0:sumE (fun p=>if p=e.1 then f p+-f e.1 else f p) E e.1=0:=by
  apply ajm;intro x hx;by_cases hxe:x.1=e.1
  ·show(if x.1=e.1 then f x.1+-f e.1 else f x.1)*x.2 e.1=0;rw[if_pos hxe,hxe,Int.add_right_neg,Int.zero_mul]
  ·rw[hE.oth x hx e he hxe,Int.mul_zero]
 rw[h0]at h
 grind
theorem EF.zero{E:List (Nat×Rw)}(hE:EF E){x:Rw}(h:RS (rowsE E) x)(hz:∀e∈E,x e.1=0)(k:Nat):x k=0:=by
 obtain⟨a,ha,h1⟩:=h;obtain⟨f,hf⟩:=an4 hE.asc h1;have h2:a*x k=0:=by
  rw[hf k];apply ajm;intro e he;have h3:=hf e.1;rw[hE.pivot f he,hz e he,Int.mul_zero]at h3;rcases Int.mul_eq_zero.1 h3.symm with h|h
  ·rw[h,Int.zero_mul]
  ·exact absurd h (hE.ne e he)
 rcases Int.mul_eq_zero.1 h2 with h|h
 ·exact absurd h ha
 ·exact h
theorem EF.first{E:List (Nat×Rw)}(hE:EF E){x:Rw}(h:RS (rowsE E) x){k:Nat}(hk:x k≠0)(hz:∀j,j<k->x j=0):∃e∈E,e.1=k:=by
 apply Classical.byContradiction;intro hno;obtain⟨a,ha,h1⟩:=h;obtain⟨f,hf⟩:=an4 hE.asc h1;have h2:a*x k=0:=by
  rw[hf k];apply ajm;intro e he;by_cases hlt:k<e.1
  ·rw[hE.led e he k hlt,Int.mul_zero]
  ·have hne:e.1≠k:=fun e'=>hno ⟨e,he,e'⟩
   have h3:=hf e.1;rw[hE.pivot f he,hz e.1 (by omega),Int.mul_zero]at h3;rcases Int.mul_eq_zero.1 h3.symm with h|h
   ·rw[h,Int.zero_mul]
   ·exact absurd h (hE.ne e he)
 rcases Int.mul_eq_zero.1 h2 with h|h
 ·exact ha h
 ·exact hk h
theorem an5:∀ {l m:List Nat},l.Pairwise (·<·)->m.Pairwise (·<·)->(∀x,x∈l↔x∈m)->l=m
 | [],[],_,_,_=>rfl
 | [],y::m,_,_,h=>by have:=(h y).2 (by simp);cases this
 |x::l,[],_,_,h=>by have:=(h x).1 (by simp);cases this
 |x::l,y::m,hl,hm,h=>by
  obtain⟨h1,h2⟩:=List.pairwise_cons.1 hl;obtain⟨h3,h4⟩:=List.pairwise_cons.1 hm;have hxy:x=y:=by
   rcases List.mem_cons.1 ((h x).1 (by simp))with e|e
   ·exact e
   ·rcases List.mem_cons.1 ((h y).2 (by simp))with e'|e'
    ·exact e'.symm
    ·have:=h1 y e';have:=h3 x e;omega
  subst hxy;rw[an5 h2 h4 (fun z=>?_)];constructor
  ·intro hz;rcases List.mem_cons.1 ((h z).1 (by simp[hz]))with e|e
   ·subst e;have:=h1 z hz;omega
   ·exact e
  ·intro hz;rcases List.mem_cons.1 ((h z).2 (by simp[hz]))with e|e
   ·subst e;have:=h3 z hz;omega
   ·exact e
theorem an6{E F:List (Nat×Rw)}(hE:EF E)(hF:EF F)(h1:∀e∈E,RS (rowsE F) e.2)(h2:∀f∈F,RS (rowsE E) f.2):E.map Prod.fst=F.map Prod.fst/\∀e∈E,∀f∈F,e.1=f.1->∀k,f.2 f.1*e.2 k=e.2 e.1*f.2 k:=by
 have he:∀e∈E,∃f∈F,f.1=e.1:=fun e he=>hF.first (h1 e he) (hE.ne e he) (hE.led e he)
 have hf:∀f∈F,∃e∈E,e.1=f.1:=fun f hf=>hE.first (h2 f hf) (hF.ne f hf) (hF.led f hf)
 refine⟨an5 (by rw[List.pairwise_map];exact hE.asc) (by rw[List.pairwise_map];exact hF.asc) (fun x=>?_),fun e hem f hfm hef k=>?_⟩
 ·simp only[List.mem_map];constructor
  ·rintro ⟨e,h,rfl⟩;obtain⟨f,h3,h4⟩:=he e h;exact⟨f,h3,h4⟩
  ·rintro ⟨f,h,rfl⟩;obtain⟨e,h3,h4⟩:=hf f h;exact⟨e,h3,h4⟩
 ·obtain⟨a,ha,h3⟩:=h1 e hem;have h4:RS (rowsE F) (fun c=>f.2 f.1*e.2 c-e.2 e.1*f.2 c):=by
   refine⟨a,ha,?_⟩;have:=h3.lin (Sp.mem (R:=rowsE F) (x:=f.2) (List.mem_map.2 ⟨f,hfm,rfl⟩)) (f.2 f.1) (-(a*e.2 e.1));refine cast (congrArg (Sp (rowsE F)) (funext fun c=>?_)) this
   grind
  have h5:f.2 f.1*e.2 k-e.2 e.1*f.2 k=0:=hF.zero h4 (fun g hg=>?_) k
  ·omega
  ·obtain⟨e',he',hg'⟩:=hf g hg;show f.2 f.1*e.2 g.1-e.2 e.1*f.2 g.1=0;by_cases hgf:g.1=f.1
   ·rw[hgf,hef,Int.mul_comm,Int.sub_self]
   ·rw[hF.oth f hfm g hg (fun h=>hgf h.symm),<-hg',hE.oth e hem e' he' (by omega)];omega
def efOf(R:List Rw)(Q:List Nat):List (Nat×Rw):=Q.reverse.map (fun p=>(p,fun k=>D R (sub p k Q)))
theorem Gat.ef{cols:Nat}{R:List Rw}{Q:List Nat}(G:Gat cols R Q):EF (efOf R Q):=by
 have hm:∀e,e∈efOf R Q->e.1∈Q/\e.2=fun k=>D R (sub e.1 k Q):=by
  intro e he;obtain⟨p,hp,rfl⟩:=List.mem_map.1 he;exact⟨List.mem_reverse.1 hp,rfl⟩
 refine⟨?_,fun e he=>?_,fun e he f hf hne=>?_,fun e he k hk=>?_⟩
 ·unfold efOf;rw[List.pairwise_map,List.pairwise_reverse];exact G.desc.imp (fun h=>h)
 ·obtain⟨h1,h2⟩:=hm e he;rw[h2];show D R (sub e.1 e.1 Q)≠0;rw[sub_self];exact G.ne
 ·obtain⟨h1,h2⟩:=hm e he;obtain⟨h3,_⟩:=hm f hf;rw[h2];exact(aee R).dup (afj h1 h3 (fun h=>hne h.symm))
 ·obtain⟨h1,h2⟩:=hm e he;rw[h2];exact G.led e.1 h1 k hk
theorem Gat.ef_in{cols:Nat}{R:List Rw}{Q:List Nat}(G:Gat cols R Q):∀e∈efOf R Q,Sp R e.2:=by
 intro e he;obtain⟨p,hp,rfl⟩:=List.mem_map.1 he;exact agn R (ach G.desc) (List.mem_reverse.1 hp)
theorem Gat.in_ef{cols:Nat}{R:List Rw}{Q:List Nat}(G:Gat cols R Q){x:Rw}(h:RS R x):RS (rowsE (efOf R Q)) x:=by
 refine⟨D R Q,G.ne,?_⟩;have key:∀l:List Nat,(∀p∈l,p∈Q)->Sp (rowsE (efOf R Q)) (fun k=>sumL (fun p=>x p*D R (sub p k Q)) l):=by
  intro l;induction l with
  |nil=>intro _;exact .zero
  |cons p l ih=>
   intro hl;have hp:(fun k=>D R (sub p k Q))∈rowsE (efOf R Q):=List.mem_map.2 ⟨(p,fun k=>D R (sub p k Q)),List.mem_map.2 ⟨p,List.mem_reverse.2 (hl p (by simp)),rfl⟩,rfl⟩;have:=(Sp.mem hp).lin (ih (fun q hq=>hl q (by simp[hq]))) (x p) 1;refine cast (congrArg (Sp _) (funext fun k=>?_)) this;rw[sumL]
   grind
 have:=key Q (fun _ h=>h);refine cast (congrArg (Sp _) (funext fun k=>?_)) this;have h1:=aej R x (ach G.desc) k;rw[ayo h]at h1
 grind
end Md
namespace Lm
open Go Go.RowKit
theorem af4{zs:List Int}: ∀z∈zs,gcdL zs ∣ z:=by
 have key:∀(l:List Int) (c:Int),l.foldl (fun c z=>((Int.gcd c z:Nat):Int)) c ∣ c/\∀z∈l,l.foldl (fun c z=>((Int.gcd c z:Nat):Int)) c ∣ z:=by
  intro l;induction l with
  |nil=>intro c;exact⟨Int.dvd_refl _,fun z hz=>by cases hz⟩
  |cons x l ih=>
   intro c;obtain⟨h1,h2⟩:=ih ((Int.gcd c x:Nat):Int);refine⟨Int.dvd_trans h1 (Int.gcd_dvd_left ..),fun z hz=>?_⟩;rcases List.mem_cons.1 hz with rfl|hz
   ·exact Int.dvd_trans h1 (Int.gcd_dvd_right ..)
   ·exact h2 z hz
 exact fun z hz=>(key zs 0).2 z hz
theorem as7{zs:List Int}(h:∀z∈zs,z=0):sgnL zs=0:=by
 have key:∀l:List Int,(∀z∈l,z=0)->l.foldl (fun s z=>if s=0 then Int.sign z else s) 0=0:=by
  intro l;induction l with
  |nil=>intro _;rfl
  |cons x l ih=>
   intro hl;rw[List.foldl_cons,hl x (by simp)];exact ih (fun z hz=>hl z (by simp[hz]))
 exact key zs h
theorem ajn{zs:List Int}: ∀z∈zs,dvs zs ∣ z:=by
 intro z hz;unfold dvs;split
 ·exact Int.neg_dvd.2 (af4 z hz)
 ·exact af4 z hz
theorem as8{zs:List Int}(h:∀z∈zs,z=0):gcdL zs=0:=by
 have key:∀l:List Int,(∀z∈l,z=0)->l.foldl (fun c z=>((Int.gcd c z:Nat):Int)) 0=0:=by
  intro l;induction l with
  |nil=>intro _;rfl
  |cons x l ih=>
   intro hl;rw[List.foldl_cons,hl x (by simp)];exact ih (fun z hz=>hl z (by simp[hz]))
 exact key zs h
theorem aix(k:Int)(zs:List Int):gcdL (zs.map (k*·))=(k.natAbs:Int)*gcdL zs:=by
 have key:∀(l:List Int) (c:Int),(l.map (k*·)).foldl (fun c z=>((Int.gcd c z:Nat):Int)) ((k.natAbs:Int)*c)=(k.natAbs:Int)*l.foldl (fun c z=>((Int.gcd c z:Nat):Int)) c:=by
  intro l;induction l with
  |nil=>intro c;rfl
  |cons z l ih=>
   intro c;rw[List.map_cons,List.foldl_cons,List.foldl_cons,<-ih];congr 1;rw[Int.gcd,Int.natAbs_mul,Int.natAbs_mul,Int.natAbs_natCast,Nat.gcd_mul_left,Int.gcd,Int.natCast_mul]
 have:=key zs 0;rwa[Int.mul_zero]at this
theorem ap3(k:Int)(hk:k≠0)(zs:List Int):sgnL (zs.map (k*·))=Int.sign k*sgnL zs:=by
 have hs:Int.sign k≠0:=fun h=>hk (Int.sign_eq_zero_iff_zero.1 h)
 have key:∀(l:List Int) (s:Int),(l.map (k*·)).foldl (fun s z=>if s=0 then Int.sign z else s) (Int.sign k*s)=Int.sign k*l.foldl (fun s z=>if s=0 then Int.sign z else s) s:=by
  intro l;induction l with
  |nil=>intro s;rfl
  |cons z l ih=>
   intro s;rw[List.map_cons,List.foldl_cons,List.foldl_cons,<-ih];congr 1;by_cases h:s=0
   ·rw[if_pos h,if_pos (by rw[h,Int.mul_zero]),Int.sign_mul]
   ·rw[if_neg h,if_neg (fun e=>(Int.mul_eq_zero.1 e).elim hs h)]
 have:=key zs 0;rwa[Int.mul_zero]at this
theorem as9{zs:List Int}(h:sgnL zs=0):∀z∈zs,z=0:=by
 have stay:∀(l:List Int) (s:Int),s≠0->l.foldl (fun s z=>if s=0 then Int.sign z else s) s=s:=by
  intro l;induction l with
  |nil=>intro s _;rfl
  |cons z l ih=>intro s hs;rw[List.foldl_cons,if_neg hs];exact ih s hs
 induction zs with
 |nil=>simp
 |cons z l ih=>
  unfold sgnL at h;rw[List.foldl_cons,if_pos rfl]at h;by_cases hz:Int.sign z=0
  ·rw[hz]at h;intro y hy;rcases List.mem_cons.1 hy with rfl|hy
   ·exact Int.sign_eq_zero_iff_zero.1 hz
   ·exact ih h y hy
  ·rw[stay l _ hz]at h;exact absurd h hz
theorem ata(k:Int)(hk:k≠0)(zs:List Int):dvs (zs.map (k*·))=k*dvs zs:=by
 unfold dvs;rw[aix,ap3 k hk];by_cases h0:sgnL zs=0
 ·rw[h0,as8 (as9 h0)];simp
 ·rcases Int.lt_or_gt_of_ne hk with hk'|hk'
  ·rw[Int.sign_eq_neg_one_of_neg hk',show(k.natAbs:Int) = -k by omega];by_cases h1:sgnL zs<0
   ·rw[if_neg (by omega),if_pos h1,Int.neg_mul,Int.mul_neg]
   ·rw[if_pos (by omega),if_neg h1,Int.neg_mul,Int.neg_neg]
  ·rw[Int.sign_eq_one_of_pos hk',show(k.natAbs:Int)=k by omega,Int.one_mul];split
   ·rw[Int.mul_neg]
   ·rfl
theorem ae3(k:Int)(hk:k≠0)(zs:List Int):red (zs.map (k*·))=red zs:=by
 unfold red;rw[ata k hk,List.map_map];refine List.map_congr_left fun z hz=>?_
 show k*z/(k*dvs zs)=z/dvs zs;obtain⟨q,hq⟩:=ajn z hz;by_cases hd:dvs zs=0
 ·rw[hd,Int.mul_zero,Int.ediv_zero,Int.ediv_zero]
 ·have h1:z/dvs zs=q:=by rw[hq];exact Int.mul_ediv_cancel_left q hd
  have h2:k*z=k*dvs zs*q:=by rw[Int.mul_assoc,<-hq]
  rw[h1,h2];exact Int.mul_ediv_cancel_left q (fun e=>(Int.mul_eq_zero.1 e).elim hk hd)
theorem limbsF(w:World)(z:Int)(L:Nat)(v:Value)(h:IsW z L v w)(hL:L<=400000):
  Calls Tryz.prog 41 #[v] w fun e w'=>∃m:Nat,e=.returned (.int .i64 (m:Int))/\(m<=32↔(z.natAbs:Int)<pw 32)/\Below w.heap.size w w':=by
 obtain⟨ng,ao,n,cap,xs,rfl,hA,hl⟩:=h;obtain⟨m,hm⟩:=avm hA;have hv:val xs=(z.natAbs:Int):=by
  obtain⟨_,_,_,_,_,hb,_⟩:=hA.sl;have h1:=aac hb;have h4:=hA.worth;rw[<-h4];cases ng
  ·simp only[sg];rw[if_neg (by decide)];omega
  ·simp only[sg];rw[if_pos trivial];omega
 refine(apm w ng ao n cap xs hA.sl (by omega) m (by rw[hv];exact hm)).mono ?_;rintro e w' ⟨rfl,hb⟩;refine⟨m,rfl,?_,hb⟩;obtain⟨rs,hc,hv',rfl⟩:=hm;constructor
 ·intro h;have h1:=(aac hc.1).2;have h2:=aaw h;omega
 ·intro h;exact aau hc (by rw[hv'];exact h)
theorem IsRow.wide{w:World}{v:Value}{zs:List Int}{L L':Nat}(h:IsRow w v zs L)(hl:L<=L'):IsRow w v zs L':=by
 obtain⟨es,h1,h2,h3⟩:=h;exact⟨es,h1,h2,fun e he=>Nat.le_trans (h3 e he) hl⟩
def Asks(w:World)(f:FuncId)(cap:Array Value)(zs:List Int)(L:Nat)(p:Int->Bool):Prop:=∀(W:World) (z:Int) (xv:Value),Below w.heap.size w W->z∈zs->IsW z L xv W->Calls Tryz.prog f (#[xv]++cap) W fun e W'=>e=.returned (.bool (p z))/\Below W.heap.size W W'
def AsksR(w:World)(f:FuncId)(cap:Array Value)(rows:List (List Int))(L:Nat)(p:List Int->Bool):Prop:=∀(W:World) (z:List Int) (xv:Value),Below w.heap.size w W->z∈rows->IsRow W xv z L->Calls Tryz.prog f (#[xv]++cap) W fun e W'=>e=.returned (.bool (p z))/\Below W.heap.size W W'
theorem af5{α:Type}{p:α->Bool}{zs:List α}{k:Nat}{z:α}(h:zs[k]? = some z)(h1:(zs.take k).any p=false)(h2:p z=false):(zs.take (k+1)).any p=false:=by
 rw[List.take_add_one,h,List.any_append,h1];simp[h2]
theorem ap4(w:World)(v:Value)(zs:List Int)(L:Nat)(h:IsRow w v zs L)(f:FuncId)(hf:Has Tryz.prog f)(cap:Array Value)(p:Int->Bool)(hA:Asks w f cap zs L p):
  Calls Tryz.prog 98 #[v,.func (.func f) #[] cap] w fun e w'=>(∃r:Int,e=.returned (.int .i64 r)/\decide (0<=r)=zs.any p)/\Below w.heap.size w w':=by
 obtain⟨ao,cp,rfl,hn⟩:=h.parts;have H:=hide h;have HA:=hide hA;clear h hA;obtain⟨n,hnn⟩:∃n,zs.length=n:=⟨_,rfl⟩;rw[hnn]at H hn ⊢;have HN:=hide hnn;clear hnn;go_enter Tryz.func98,Tryz.ntmps98
 go_wp2;go_loopw [5,8] (fun _ iv wr=>∃(k:Nat),iv=.int .i64 k/\k<=n/\(zs.take k).any p=false/\Below w.heap.size w wr) (fun _ iv _=>n-(intOf iv).toNat)
 case atStart=>exact⟨0,rfl,Nat.zero_le _,by simp,Below.refl _ _⟩
 case round=>
  obtain⟨k,rfl,hk,hany,hbw⟩:=hrel;have HW:=hide hbw;have HY:=hide hany;by_cases hlt:k<n
  ·obtain⟨z,hz⟩:∃z,zs[k]? = some z:=⟨_,List.getElem?_eq_getElem (by have:=HN.out;omega)⟩;obtain⟨b,off,ngx,ax,mx,cx,rfl,hbl,x0,x1,hx⟩:=H.out.cell hz;replace x0:=(hbw.cell (p:=⟨b,off+k*2,none⟩) hbl).trans x0;replace x1:=(hbw.cell (p:=⟨b,off+k*2+1,none⟩) hbl).trans x1;have hlt':(k:Int)<(n:Int):=by omega
   have KC:=hide (HA.out wr z (.agg #[.bool ngx,.slice ax mx cx]) hbw (List.mem_of_getElem? hz) (hx.ru (Ru.of_below hbw)));have HZ:=hide hz;clear hbw hany hx hz;have hE:∀args w,(callFunc f args).run Tryz.prog w=.ok (.enter f args) w:=fun args w=>hf.enter args w
   go_wp2_with fail
   refine KC.out.mono ?_;rintro e w3 ⟨rfl,hb3⟩;have HB3:=hide (HW.out.trans (hb3.mono HW.out.size));clear hb3 KC hE x0 x1;obtain⟨pz,hpz⟩:∃b,p z=b:=⟨_,rfl⟩;rw[hpz];have HPZ:=hide hpz;clear hpz;cases pz with
   |true=>
    go_wp2;go_ret;exact⟨⟨k,rfl,by rw[decide_eq_true (by omega),eq_comm,List.any_eq_true];exact⟨z,List.mem_of_getElem? HZ.out,HPZ.out⟩⟩,HB3.out⟩
   |false=>
    go_wp2;go_roundw
    case rel=>exact⟨k+1,by go_num,by omega,af5 HZ.out HY.out HPZ.out,HB3.out⟩
    case measure=>simp[intOf];omega
  ·have hlt':decide ((k:Int)<(n:Int))=false:=by simp;omega
   clear hbw hany;go_wp2;go_ret;refine⟨⟨-1,rfl,?_⟩,HW.out⟩;have:=HY.out;rw[List.take_of_length_le (by have:=HN.out;omega)]at this;rw[this];rfl
theorem af9(w:World)(v:Value)(zs:List Int)(L:Nat)(h:IsRow w v zs L)(f:FuncId)(hf:Has Tryz.prog f)(cap:Array Value)(p:Int->Bool)(hA:Asks w f cap zs L p):
  Calls Tryz.prog 55 #[v,.func (.func f) #[] cap] w fun e w'=>e=.returned (.bool (zs.any p))/\Below w.heap.size w w':=by
 have K:=hide (ap4 w v zs L h f hf cap p hA);obtain⟨ao,cp,rfl,hn⟩:=h.parts;clear h hA;go_enter Tryz.func55,Tryz.ntmps55
 go_wp2_with fail
 refine K.out.mono ?_;rintro e w1 ⟨⟨r,rfl,hr⟩,hb⟩;have HB:=hide hb;have HR:=hide hr;clear hb K hr;go_wp2;refine bodyPost_ret (v:=_) (by simp[results,Tryz.results55,go_sem];try rfl) rfl ⟨by rw[<-HR.out],HB.out⟩
theorem ap5(w:World)(v:Value)(rows:List (List Int))(L:Nat)(h:IsM w v rows L)(f:FuncId)(hf:Has Tryz.prog f)(cap:Array Value)(p:List Int->Bool)(hA:AsksR w f cap rows L p):
  Calls Tryz.prog 85 #[v,.func (.func f) #[] cap] w fun e w'=>(∃r:Int,e=.returned (.int .i64 r)/\decide (0<=r)=rows.any p)/\Below w.heap.size w w':=by
 obtain⟨ao,cp,rfl,hn⟩:=h.parts;have H:=hide h;have HA:=hide hA;clear h hA;obtain⟨n,hnn⟩:∃n,rows.length=n:=⟨_,rfl⟩;rw[hnn]at H hn ⊢;have HN:=hide hnn;clear hnn;go_enter Tryz.func85,Tryz.ntmps85
 go_wp2;go_loopw [5,8] (fun _ iv wr=>∃(k:Nat),iv=.int .i64 k/\k<=n/\(rows.take k).any p=false/\Below w.heap.size w wr) (fun _ iv _=>n-(intOf iv).toNat)
 case atStart=>exact⟨0,rfl,Nat.zero_le _,by simp,Below.refl _ _⟩
 case round=>
  obtain⟨k,rfl,hk,hany,hbw⟩:=hrel;have HW:=hide hbw;have HY:=hide hany;by_cases hlt:k<n
  ·obtain⟨z,hz⟩:∃z,rows[k]? = some z:=⟨_,List.getElem?_eq_getElem (by have:=HN.out;omega)⟩;obtain⟨b,off,u,rfl,hbl,x0,hx⟩:=H.out.cell hz;replace x0:=(hbw.cell (p:=⟨b,off+k,none⟩) hbl).trans x0;have hlt':(k:Int)<(n:Int):=by omega
   have KC:=hide (HA.out wr z u hbw (List.mem_of_getElem? hz) (hx.below hbw));obtain⟨ua,uc,rfl,_⟩:=hx.parts;have HZ:=hide hz;clear hbw hany hx hz;have hE:∀args w,(callFunc f args).run Tryz.prog w=.ok (.enter f args) w:=fun args w=>hf.enter args w
   go_wp2_with fail
   refine KC.out.mono ?_;rintro e w3 ⟨rfl,hb3⟩;have HB3:=hide (HW.out.trans (hb3.mono HW.out.size));clear hb3 KC hE x0;obtain⟨pz,hpz⟩:∃b,p z=b:=⟨_,rfl⟩;rw[hpz];have HPZ:=hide hpz;clear hpz;cases pz with
   |true=>
    go_wp2;go_ret;exact⟨⟨k,rfl,by rw[decide_eq_true (by omega),eq_comm,List.any_eq_true];exact⟨z,List.mem_of_getElem? HZ.out,HPZ.out⟩⟩,HB3.out⟩
   |false=>
    go_wp2;go_roundw
    case rel=>exact⟨k+1,by go_num,by omega,af5 HZ.out HY.out HPZ.out,HB3.out⟩
    case measure=>simp[intOf];omega
  ·have hlt':decide ((k:Int)<(n:Int))=false:=by simp;omega
   clear hbw hany;go_wp2;go_ret;refine⟨⟨-1,rfl,?_⟩,HW.out⟩;have:=HY.out;rw[List.take_of_length_le (by have:=HN.out;omega)]at this;rw[this];rfl
theorem akp(w:World)(v:Value)(rows:List (List Int))(L:Nat)(h:IsM w v rows L)(f:FuncId)(hf:Has Tryz.prog f)(cap:Array Value)(p:List Int->Bool)(hA:AsksR w f cap rows L p):
  Calls Tryz.prog 50 #[v,.func (.func f) #[] cap] w fun e w'=>e=.returned (.bool (rows.any p))/\Below w.heap.size w w':=by
 have K:=hide (ap5 w v rows L h f hf cap p hA);obtain⟨ao,cp,rfl,hn⟩:=h.parts;clear h hA;go_enter Tryz.func50,Tryz.ntmps50
 go_wp2_with fail
 refine K.out.mono ?_;rintro e w1 ⟨⟨r,rfl,hr⟩,hb⟩;have HB:=hide hb;have HR:=hide hr;clear hb K hr;go_wp2;refine bodyPost_ret (v:=_) (by simp[results,Tryz.results50,go_sem];try rfl) rfl ⟨by rw[<-HR.out],HB.out⟩
theorem atb:Has Tryz.prog 120:=by unfold Has;kernel_rfl
theorem ate:Has Tryz.prog 41:=by unfold Has;kernel_rfl
def big(z:Int):Bool:=decide (¬(z.natAbs:Int)<pw 32)
theorem atf(W:World)(z:Int)(L:Nat)(xv:Value)(g:Nat)(T:TypeId)(hg:W.heap[g]? = some (.cells #[.func (.func 41) #[] #[]] T (0,0)))(hx:IsW z L xv W)(hL:L<=400000):
  Calls Tryz.prog 120 #[xv,.pointer (some ⟨g,0,none⟩)] W fun e W'=>e=.returned (.bool (big z))/\Below W.heap.size W W':=by
 obtain⟨ng,ao,n,cap,xs,rfl,_⟩:=id hx;have hb:=hAl W (.cells #[.bool ng,.slice ao n cap] 42);obtain⟨hgl,c0,_⟩:=aa1 hg;replace c0:=(hb.cell (p:=⟨g,0,none⟩) hgl).trans c0;have K:=hide (limbsF _ z L _ (hx.ru (Ru.of_below hb)) hL);have hE:∀args w,(callFunc 41 args).run Tryz.prog w=.ok (.enter 41 args) w:=fun args w=>ate.enter args w
 clear hx hg;go_enter Tryz.func120,Tryz.ntmps120
 go_wp2_with fail
 refine K.out.mono ?_;rintro e w1 ⟨m,rfl,hm,hb1⟩;have HB:=hide (hb.trans (hb1.mono hb.size));have hbg:decide ((m:Int) > 32)=big z:=by
  unfold big;by_cases h:m<=32
  ·rw[decide_eq_false (by omega),decide_eq_false (not_not_intro (hm.1 h))]
  ·rw[decide_eq_true (by omega),decide_eq_true (p:=¬(z.natAbs:Int)<pw 32) (fun e=>h (hm.2 e))]
 clear hb hb1 K hm;go_wp2;refine bodyPost_ret (v:=_) (by simp[results,Tryz.results120,go_sem];try rfl) rfl ⟨by rw[<-hbg],HB.out⟩
theorem avz(w:World)(v:Value)(zs:List Int)(L:Nat)(h:IsRow w v zs L)(hL:L<=400000):
  Calls Tryz.prog 84 #[v,.func (.func 41) #[] #[]] w fun e w'=>e=.returned (.bool (zs.any big))/\Below w.heap.size w w':=by
 obtain⟨ao,cp,rfl,hn⟩:=h.parts;have key:∀T:TypeId,Hid (Calls Tryz.prog 55 #[.slice ao zs.length cp,.func (.func 120) #[] #[.pointer (some ⟨w.heap.size,0,none⟩)]] (w.alloc (.cells #[.func (.func 41) #[] #[]] T)) fun e w'=>e=.returned (.bool (zs.any big))/\Below w.heap.size w w'):=fun T=>by
  have hb:=hAl w (.cells #[.func (.func 41) #[] #[]] T);have hnew:=heap_alloc_new w (.cells #[.func (.func 41) #[] #[]] T);refine(af9 _ _ zs L (h.below hb) _ atb _ big (fun W z xv hbW hz hx=>?_)).mono ?_
  ·exact atf W z L xv w.heap.size T ((hbW.block _ (aaa hnew)).trans hnew) hx hL
  ·rintro e w' ⟨rfl,hb'⟩;exact⟨rfl,hb.trans (hb'.mono hb.size)⟩
 clear h;have hmf:∀(fn:Fn) (first cap:Array Value) (w:World),(Instr.makeFunc fn first cap).run Tryz.prog w=.ok (.func fn first cap) w:=fun _ _ _ _=>rfl
 go_enter Tryz.func84,Tryz.ntmps84
 go_wp2_with fail
 refine(key _).out.mono ?_;rintro e w1 ⟨rfl,hb⟩;have HB:=hide hb;clear hb key;go_wp2;refine bodyPost_ret (v:=_) (by simp[results,Tryz.results84,go_sem];try rfl) rfl ⟨rfl,HB.out⟩
theorem anc:Has Tryz.prog 49:=by unfold Has;kernel_rfl
theorem ane(W:World)(z:List Int)(L:Nat)(xv:Value)(g:Nat)(cols:Int)(hg:W.heap[g]? = some (.cells #[.int .i64 cols] 3 (0,0)))(hx:IsRow W xv z L):
  Calls Tryz.prog 49 #[xv,.pointer (some ⟨g,0,none⟩)] W fun e W'=>e=.returned (.bool (decide ((z.length:Int)≠cols)))/\Below W.heap.size W W':=by
 obtain⟨ua,uc,rfl,hn⟩:=hx.parts;obtain⟨hgl,c0,_⟩:=aa1 hg;clear hx hg;go_enter Tryz.func49,Tryz.ntmps49
 go_wp2;refine bodyPost_ret (v:=_) (by simp[results,Tryz.results49,go_sem];try rfl) rfl ⟨by congr 2;rw[bne];by_cases h:(z.length:Int)=cols <;> simp[h],Below.refl _ _⟩
theorem wofF(w:World)(v:Int)(h1 : -9223372036854775808<=v)(h2:v<=9223372036854775807):
  Calls Tryz.prog 51 #[.int .i64 v] w fun e w'=>∃r,e=.returned r/\FrW w.heap.size v 2 r w'/\Below w.heap.size w w':=by
 have hb0:=hAl w (.cells #[.bool false,.slice none 0 0] 42);have hn0:=heap_alloc_new w (.cells #[.bool false,.slice none 0 0] 42);obtain⟨w0,e0⟩:∃w0,w.alloc (.cells #[.bool false,.slice none 0 0] 42)=w0:=⟨_,rfl⟩;rw[e0]at hb0 hn0;have key:∀(ng:Bool) (x:Int),0<=x->x<18446744073709551616->sg ng x=v->Hid (Calls Tryz.prog 87 #[.int .u64 x] w0 fun e w1=>∃ao cap n,e=.returned (.slice ao n cap)/\Hid (Calls Tryz.prog 86 #[.bool ng,.slice ao n cap] w1 fun e w2=>∃ng2,e=.returned (.agg #[.bool ng2,.slice ao n cap])/\FrW w.heap.size v 2 (.agg #[.bool ng2,.slice ao n cap]) w2/\Below w.heap.size w w2/\w2.heap[w.heap.size]? = some (.cells #[.bool false,.slice none 0 0] 42 (0,0)))):=fun ng x hx0 hx1 hs=>by
  refine(ab1 w0 x hx0 hx1).mono ?_;rintro e w1 ⟨v1,rfl,hi1,hb1⟩;obtain⟨ao,cap,rs,rfl,hf⟩:=hi1.fr;obtain⟨_,_,_,e2,G1,l1⟩:=aez hi1 hx1;have e2':=e2;rw[Value.slice.injEq]at e2';obtain⟨rfl,e3,rfl⟩:=e2';obtain⟨ow1,cn1,vl1,ls1⟩:=hf;refine⟨ao,cap,rs.length,rfl,(abr _ ng _ _ rs x ⟨ow1.sl,cn1,vl1⟩ (by omega)).mono ?_⟩;rintro e w2 ⟨ng2,rfl,G2,hb2⟩;have hb3:=hb0.trans ((hb1.trans (hb2.mono hb1.size)).mono hb0.size);rw[hs]at G2;refine⟨ng2,rfl,(FrW.of_li (T:=w1.heap.size) G2 ⟨ow1.below hb2,ls1⟩ hb2.size (by omega)).low hb0.size,hb3,?_⟩;exact((hb1.trans (hb2.mono hb1.size)).block _ (aaa hn0)).trans hn0
 have E0:=hide e0;have fin:∀(w2:World) (ng2:Bool) (ao:Option Addr) (n cap:Nat),FrW w.heap.size v 2 (.agg #[.bool ng2,.slice ao n cap]) w2->Below w.heap.size w w2->w2.heap[w.heap.size]? = some (.cells #[.bool false,.slice none 0 0] 42 (0,0))->Hid ((loadVar 42 ⟨w.heap.size,0,none⟩).run Tryz.prog ((w2.setCell ⟨w.heap.size,0,none⟩ (.bool ng2)).setCell ⟨w.heap.size,1,none⟩ (.slice ao n cap))=.ok (.agg #[.bool ng2,.slice ao n cap]) ((w2.setCell ⟨w.heap.size,0,none⟩ (.bool ng2)).setCell ⟨w.heap.size,1,none⟩ (.slice ao n cap))/\FrW w.heap.size v 2 (.agg #[.bool ng2,.slice ao n cap]) ((w2.setCell ⟨w.heap.size,0,none⟩ (.bool ng2)).setCell ⟨w.heap.size,1,none⟩ (.slice ao n cap))/\Below w.heap.size w ((w2.setCell ⟨w.heap.size,0,none⟩ (.bool ng2)).setCell ⟨w.heap.size,1,none⟩ (.slice ao n cap))):=fun w2 ng2 ao n cap hF hB hN=>
  ⟨lvw2 (acd hN _ _),hF.ru (ade hN _ _),(hB.setCell (Nat.le_refl _) _).setCell (Nat.le_refl _) _⟩
 clear hb0 hn0 e0;by_cases h0:v<0
 ·have hw:IntKind.u64.wrap (-IntKind.u64.wrap v) = -v:=by rw[IntKind.wrap_u64,IntKind.wrap_u64];omega
  have K1:=key true (-v) (by omega) (by omega) (by simp[sg]);clear key;go_enter Tryz.func51,Tryz.ntmps51
  go_wp2_with fail
  rw[E0.out];refine K1.out.mono ?_;rintro e w1 ⟨ao,cap,n,rfl,K2⟩;clear K1;go_wp2_with fail
  refine K2.out.mono ?_;rintro e w2 ⟨ng2,rfl,hF,hB,hN⟩;obtain⟨hl2,y0,y1,yf0,yf1⟩:=aam hN;have X:=fin w2 ng2 ao n cap hF hB hN;clear hF hB hN K2 fin;go_wp2;exact bodyPost_ret (v:=.agg #[.bool ng2,.slice ao n cap]) (aby (g:=w.heap.size) rfl rfl X.out.1) rfl ⟨_,rfl,X.out.2.1,X.out.2.2⟩
 ·have K1:=key false v (by omega) (by omega) (by simp[sg]);clear key;go_enter Tryz.func51,Tryz.ntmps51
  go_wp2_with fail
  rw[E0.out];refine K1.out.mono ?_;rintro e w1 ⟨ao,cap,n,rfl,K2⟩;clear K1;go_wp2_with fail
  refine K2.out.mono ?_;rintro e w2 ⟨ng2,rfl,hF,hB,hN⟩;obtain⟨hl2,y0,y1,yf0,yf1⟩:=aam hN;have X:=fin w2 ng2 ao n cap hF hB hN;clear hF hB hN K2 fin;go_wp2;exact bodyPost_ret (v:=.agg #[.bool ng2,.slice ao n cap]) (aby (g:=w.heap.size) rfl rfl X.out.1) rfl ⟨_,rfl,X.out.2.1,X.out.2.2⟩
end Lm
namespace Lm
open Go Go.RowKit
open Dm (WFr)
def CanRow(w:World)(v:Value)(zs:List Int)(L:Nat):Prop:=∃es:List WE,Rw w v es/\es.length=zs.length/\∀(k:Nat) (e:WE) (z:Int),es[k]? = some e->zs[k]? = some z->Canon e.zs/\val e.zs=(z.natAbs:Int)/\e.ng=decide (z<0)/\e.zs.length<=L
theorem CanRow.below{w w':World}{v:Value}{zs:List Int}{L:Nat}(h:CanRow w v zs L)(hb:Below w.heap.size w w'):CanRow w' v zs L:=by
 obtain⟨es,h1,h2,h3⟩:=h;exact⟨es,h1.below hb,h2,h3⟩
theorem CanRow.is{w:World}{v:Value}{zs:List Int}{L:Nat}(h:CanRow w v zs L):IsRow w v zs L:=by
 obtain⟨es,h1,h2,h3⟩:=h;refine⟨es,h1,?_,?_⟩
 ·apply List.ext_getElem?;intro k;rw[List.getElem?_map];cases hk:es[k]? with
  |none=>
   rw[List.getElem?_eq_none_iff]at hk;rw[Option.map_none,eq_comm,List.getElem?_eq_none_iff];omega
  |some e=>
   have hkl:=(List.getElem?_eq_some_iff.1 hk).1;obtain⟨z,hz⟩:∃z,zs[k]? = some z:=⟨_,List.getElem?_eq_getElem (by omega)⟩;obtain⟨c1,c2,c3,_⟩:=h3 k e z hk hz;rw[hz,Option.map_some];congr 1;unfold WE.z sg;rw[c2,c3];by_cases hn:z<0
   ·rw[if_pos (decide_eq_true hn)];omega
   ·rw[if_neg (by simpa using hn)];omega
 ·intro e he;obtain⟨k,hk⟩:=List.mem_iff_getElem?.1 he;have hkl:=(List.getElem?_eq_some_iff.1 hk).1;obtain⟨z,hz⟩:∃z,zs[k]? = some z:=⟨_,List.getElem?_eq_getElem (by omega)⟩;exact(h3 k e z hk hz).2.2.2
theorem ORow.can{K:Nat}{w:World}{v:Value}{zs:List Int}{L:Nat}(h:ORow K w v zs L):CanRow w v zs L:=by
 obtain⟨bv,rfl,_,h,hl⟩:=h;obtain⟨es,B,T,e1,e2,e3,e4,e5⟩:=h;refine⟨es,⟨⟨_,_,by rw[e1],by omega,by omega,aay es,.inr ⟨bv,0,rfl,aaa e2,fun j u hu=>?_⟩⟩,?_⟩,e1,?_⟩
 ·rw[Nat.zero_add,cell_of_row _ _ _ _ _ (0,0) e2,List.getElem?_toArray];exact hu
 ·intro e he;obtain⟨k,hk⟩:=List.mem_iff_getElem?.1 he;have hkl:=(List.getElem?_eq_some_iff.1 hk).1;obtain⟨z,hz⟩:∃z,zs[k]? = some z:=⟨_,List.getElem?_eq_getElem (by omega)⟩;obtain⟨g1,g2,_⟩:=e4 k e z (by omega) hk hz;have:=g1.wh.sl;rwa[<-g2]at this
 ·intro k e z hk hz;have hkl:=(List.getElem?_eq_some_iff.1 hk).1;obtain⟨g1,g2,g3,_⟩:=e4 k e z (by omega) hk hz;exact⟨g1.fr.canon,g1.fr.val,g1.sgn,g3⟩
theorem anf(w:World)(v v':Value)(zs:List Int)(L M:Nat)(h:CanRow w v zs L)(h':CanRow w v' zs M):
  Calls Tryz.prog 16 #[v,v'] w fun e w'=>e=.returned (.bool true)/\Below w.heap.size w w':=by
 obtain⟨es,h1,h2,h3⟩:=h;obtain⟨fs,g1,g2,g3⟩:=h';obtain⟨a,c,rfl,_⟩:=id h1.cl;obtain⟨a',c',rfl,_⟩:=id g1.cl;refine ass w a _ c es h1 a' _ c' fs g1 ?_;unfold SameR;apply List.ext_getElem?;intro k;rw[List.getElem?_map,List.getElem?_map];cases hk:es[k]? with
 |none=>
  rw[List.getElem?_eq_none_iff]at hk;rw[(List.getElem?_eq_none_iff (l:=fs)).2 (by omega)]
 |some e=>
  have hkl:=(List.getElem?_eq_some_iff.1 hk).1;obtain⟨z,hz⟩:∃z,zs[k]? = some z:=⟨_,List.getElem?_eq_getElem (by omega)⟩;obtain⟨f,hf⟩:∃f,fs[k]? = some f:=⟨_,List.getElem?_eq_getElem (by omega)⟩;obtain⟨c1,c2,c3,_⟩:=h3 k e z hk hz;obtain⟨d1,d2,d3,_⟩:=g3 k f z hf hz;rw[hf,Option.map_some,Option.map_some,WE.raw,WE.raw,c3,d3,acb c1 d1 (c2.trans d2.symm)]
theorem abo{ops:Array Oper}{rest:List Oper}{o:Oper}{a:Act}{w:World}{Q:Exit->Act->World->Prop}{R:Value->World->Prop}(hg:o.guard=none)(h:Does Tryz.prog o a.eval w R)(hK:∀v w',R v w'->wpList Tryz.prog ops Q rest (a.put o.dst v) w'):wpList Tryz.prog ops Q (o::rest) a w:=by
 refine wpList_plain hg fun K hK'=>?_
 exact Does.wp h (fun v w' hr=>hK' _ _ (hK v w' hr))
theorem ang(w:World)(v:Int)(h1 : -9223372036854775808<=v)(h2:v<=9223372036854775807)(h0:v<0):
  Calls Tryz.prog 47 #[.int .i64 v] w fun e w'=>∃r,e=.returned r/\FrW w.heap.size v 2 r w'/\Below w.heap.size w w':=by
 obtain⟨i0,hi,hz0,hz1,hz2⟩:=info_parts ab0;have hf0:=heap_alloc_new w (.cells #[.bool false,.slice none 0 0] 42);have hb0:=hAl w (.cells #[.bool false,.slice none 0 0] 42);generalize hE:w.alloc (.cells #[.bool false,.slice none 0 0] 42)=w0 at *
 have E0:=hide hE;have HF0:=hide hf0;have HB0:=hide hb0;clear hE hf0 hb0;have hw:IntKind.u64.wrap (-IntKind.u64.wrap v) = -v:=by rw[IntKind.wrap_u64,IntKind.wrap_u64];omega
 go_enter Tryz.func47,Tryz.ntmps47
 go_wp2;rw[E0.out];clear hw;go_loopw [3,4] (fun uv mv wr=>∃(u:Int) (ls:List Int),uv=.int .u64 u/\0<=u/\u<18446744073709551616/\Limb ls/\val ls+pw ls.length*u = -v/\(u=0->tl ls=ls.length)/\wr.ownsRow w0.heap.size 88 1 mv ls.length (ls.map (Value.int .u32))/\Below w0.heap.size w0 wr) (fun uv _ _=>(intOf uv).toNat)
 case atStart=>exact⟨-v,[],rfl,by omega,by omega,aad,by simp[val,pw],fun _=>rfl,World.ownsRow_nil _ _ _ _,Below.refl _ _⟩
 case round=>
  obtain⟨u,ls,rfl,hu0,hu1,hls,hv,htop,hown,hbel⟩:=hrel;have HL:=hide hls;have HV:=hide hv;have HT:=hide htop;clear hls hv htop;by_cases hu:0<u
  ·have hroom:=arh HL.out hu (by rw[HV.out];omega);have HV':=hide (arg HV.out);have HT':Hid (u/4294967296=0->tl (ls ++ [u%4294967296])=(ls ++ [u%4294967296]).length):=fun h=>aww hu h
   go_wp2_with (at_builtin;refine wpList_append_own _ rfl (.tmp 13) (.tmp 16) 37 rfl w0.heap.size 88 i0 (.int .u32 0) 1 4 Tryz.underlying37 hi hz0 hz1 hz2 rfl (by decide) _ _ _ rfl (hown.alloc _) ⟨wr.heap.size,0,none⟩ 1 1 [.int .u32 (u%4294967296)] rfl rfl (cell_one_new _ _ _) ?c2 ?c3 ?c4 ?c5 ?_)
   case c2=>first|rfl|(intro x hx;simp at hx;subst hx;rfl)
   case c3=>unfold maxLen;omega
   case c4=>omega
   case c5=>have:=hbel.size;first|omega|(simp;omega)
   intro v4 w4 hown4 hgrow4 _;have R:=ak2 hown4 hgrow4 hbel hbel.size hown.lt;clear hown4 hgrow4 hown;go_wp2;go_roundw
   case rel=>exact⟨u/4294967296,ls ++ [u%4294967296],rfl,by omega,by omega,aaj.2 ⟨HL.out,aaf.2 ⟨by omega,aad⟩⟩,HV'.out,HT'.out,by simpa using R.1,R.2⟩
   case measure=>simp[intOf];omega
  ·have hu':u=0:=by omega
   subst hu';have hval:val ls = -v:=by have:=HV.out;rwa[Int.mul_zero,Int.add_zero]at this
   have hcan:Canon ls:=⟨HL.out,HT.out rfl⟩;have hlen:ls.length<=2:=aau hcan (m:=2) (by rw[hval,show pw 2=18446744073709551616 from by decide];omega);have how:=abt hown HL.out;obtain⟨ao,cap,hmv,_⟩:=id how;subst hmv;have hfr:FrW w0.heap.size v 2 (.agg #[.bool true,.slice ao ls.length cap]) wr:=by
    refine⟨_,_,_,_,w0.heap.size,wr.heap.size,rfl,⟨⟨how,hcan,by rw[hval];omega,fun hc g off hg=>?_⟩,by simp;omega⟩,Nat.le_refl _,Nat.le_refl _,hlen⟩;subst hg;obtain⟨ao',cap',e1,_,_,_,e4⟩:=how;simp only[Value.slice.injEq]at e1;obtain⟨rfl,_,rfl⟩:=e1;rcases e4 with e4|⟨g',off',cur,e5,hB',hh,_⟩
    ·omega
    ·simp only[Option.some.injEq,Addr.mk.injEq]at e5;obtain⟨rfl,_,_⟩:=e5;exact⟨hB',aaa hh⟩
   have HFR:=hide (hfr.low HB0.out.size);have HFx:=hide ((hbel.block _ (aaa HF0.out)).trans HF0.out);have HBx:=hide (HB0.out.trans (hbel.mono HB0.out.size));obtain⟨hfl,c0,c1,fr0,fr1⟩:=aam HFx.out;have hd:decide (v<0)=true:=by simp;omega
   clear hval hown how hfr hbel hcan;go_wp2;exact bodyPost_ret (v:=.agg #[.bool true,.slice ao ls.length cap]) (aby (g:=w.heap.size) rfl rfl (lvw2 (acd HFx.out _ _))) rfl ⟨_,rfl,HFR.out.ru (ade HFx.out _ _),(HBx.out.setCell (Nat.le_refl _) _).setCell (Nat.le_refl _) _⟩
theorem anh(w:World)(v:Int)(h1 : -9223372036854775808<=v)(h2:v<=9223372036854775807)(h0:¬v<0):
  Calls Tryz.prog 47 #[.int .i64 v] w fun e w'=>∃r,e=.returned r/\FrW w.heap.size v 2 r w'/\Below w.heap.size w w':=by
 obtain⟨i0,hi,hz0,hz1,hz2⟩:=info_parts ab0;have hf0:=heap_alloc_new w (.cells #[.bool false,.slice none 0 0] 42);have hb0:=hAl w (.cells #[.bool false,.slice none 0 0] 42);generalize hE:w.alloc (.cells #[.bool false,.slice none 0 0] 42)=w0 at *
 have E0:=hide hE;have HF0:=hide hf0;have HB0:=hide hb0;clear hE hf0 hb0;have hw:True:=trivial;go_enter Tryz.func47,Tryz.ntmps47
 go_wp2;rw[E0.out];clear hw;go_loopw [3,4] (fun uv mv wr=>∃(u:Int) (ls:List Int),uv=.int .u64 u/\0<=u/\u<18446744073709551616/\Limb ls/\val ls+pw ls.length*u=v/\(u=0->tl ls=ls.length)/\wr.ownsRow w0.heap.size 88 1 mv ls.length (ls.map (Value.int .u32))/\Below w0.heap.size w0 wr) (fun uv _ _=>(intOf uv).toNat)
 case atStart=>exact⟨v,[],rfl,by omega,by omega,aad,by simp[val,pw],fun _=>rfl,World.ownsRow_nil _ _ _ _,Below.refl _ _⟩
 case round=>
  obtain⟨u,ls,rfl,hu0,hu1,hls,hv,htop,hown,hbel⟩:=hrel;have HL:=hide hls;have HV:=hide hv;have HT:=hide htop;clear hls hv htop;by_cases hu:0<u
  ·have hroom:=arh HL.out hu (by rw[HV.out];omega);have HV':=hide (arg HV.out);have HT':Hid (u/4294967296=0->tl (ls ++ [u%4294967296])=(ls ++ [u%4294967296]).length):=fun h=>aww hu h
   go_wp2_with (at_builtin;refine wpList_append_own _ rfl (.tmp 13) (.tmp 16) 37 rfl w0.heap.size 88 i0 (.int .u32 0) 1 4 Tryz.underlying37 hi hz0 hz1 hz2 rfl (by decide) _ _ _ rfl (hown.alloc _) ⟨wr.heap.size,0,none⟩ 1 1 [.int .u32 (u%4294967296)] rfl rfl (cell_one_new _ _ _) ?c2 ?c3 ?c4 ?c5 ?_)
   case c2=>first|rfl|(intro x hx;simp at hx;subst hx;rfl)
   case c3=>unfold maxLen;omega
   case c4=>omega
   case c5=>have:=hbel.size;first|omega|(simp;omega)
   intro v4 w4 hown4 hgrow4 _;have R:=ak2 hown4 hgrow4 hbel hbel.size hown.lt;clear hown4 hgrow4 hown;go_wp2;go_roundw
   case rel=>exact⟨u/4294967296,ls ++ [u%4294967296],rfl,by omega,by omega,aaj.2 ⟨HL.out,aaf.2 ⟨by omega,aad⟩⟩,HV'.out,HT'.out,by simpa using R.1,R.2⟩
   case measure=>simp[intOf];omega
  ·have hu':u=0:=by omega
   subst hu';have hval:val ls=v:=by have:=HV.out;rwa[Int.mul_zero,Int.add_zero]at this
   have hcan:Canon ls:=⟨HL.out,HT.out rfl⟩;have hlen:ls.length<=2:=aau hcan (m:=2) (by rw[hval,show pw 2=18446744073709551616 from by decide];omega);have how:=abt hown HL.out;obtain⟨ao,cap,hmv,_⟩:=id how;subst hmv;have hfr:FrW w0.heap.size v 2 (.agg #[.bool false,.slice ao ls.length cap]) wr:=by
    refine⟨_,_,_,_,w0.heap.size,wr.heap.size,rfl,⟨⟨how,hcan,by rw[hval];omega,fun hc g off hg=>?_⟩,by simp;omega⟩,Nat.le_refl _,Nat.le_refl _,hlen⟩;subst hg;obtain⟨ao',cap',e1,_,_,_,e4⟩:=how;simp only[Value.slice.injEq]at e1;obtain⟨rfl,_,rfl⟩:=e1;rcases e4 with e4|⟨g',off',cur,e5,hB',hh,_⟩
    ·omega
    ·simp only[Option.some.injEq,Addr.mk.injEq]at e5;obtain⟨rfl,_,_⟩:=e5;exact⟨hB',aaa hh⟩
   have HFR:=hide (hfr.low HB0.out.size);have HFx:=hide ((hbel.block _ (aaa HF0.out)).trans HF0.out);have HBx:=hide (HB0.out.trans (hbel.mono HB0.out.size));obtain⟨hfl,c0,c1,fr0,fr1⟩:=aam HFx.out;have hd:decide (v<0)=false:=by simp;omega
   clear hval hown how hfr hbel hcan;go_wp2;exact bodyPost_ret (v:=.agg #[.bool false,.slice ao ls.length cap]) (aby (g:=w.heap.size) rfl rfl (lvw2 (acd HFx.out _ _))) rfl ⟨_,rfl,HFR.out.ru (ade HFx.out _ _),(HBx.out.setCell (Nat.le_refl _) _).setCell (Nat.le_refl _) _⟩
theorem av0(w:World)(v:Int)(h1 : -9223372036854775808<=v)(h2:v<=9223372036854775807):
  Calls Tryz.prog 47 #[.int .i64 v] w fun e w'=>∃r,e=.returned r/\FrW w.heap.size v 2 r w'/\Below w.heap.size w w':=by
 by_cases h0:v<0
 ·exact ang w v h1 h2 h0
 ·exact anh w v h1 h2 h0
theorem ayp(w:World)(v:Value)(zs:List Int)(h:Nums w v zs)(hz:∀z∈zs,-9223372036854775808<=z/\z<=9223372036854775807)(hl:zs.length<=1000):
  Calls Tryz.prog 22 #[v] w fun e w'=>∃r,e=.returned r/\CanRow w' r zs 2/\Below w.heap.size w w':=by
 obtain⟨ao,cap,rfl,_⟩:=id h;have H:=hide h;have HZ:=hide hz;clear h hz;obtain⟨n,hn⟩:∃n,zs.length=n:=⟨_,rfl⟩;rw[hn]at H hl ⊢;have HN:=hide hn;clear hn;go_enter Tryz.func22,Tryz.ntmps22
 go_wp2_with fail
 go_loopw [3,4] (fun ov iv wr=>∃(k:Nat) (es:List WE),iv=.int .i64 k/\k<=n/\Below w.heap.size w wr/\es.length=k/\RwO w.heap.size wr ov es/\∀(j:Nat) (e:WE) (z:Int),es[j]? = some e->zs[j]? = some z->Canon e.zs/\val e.zs=(z.natAbs:Int)/\e.ng=decide (z<0)/\e.zs.length<=2) (fun _ iv _=>n-(intOf iv).toNat)
 case atStart=>exact⟨0,[],rfl,Nat.zero_le _,Below.refl _ _,rfl,anz _ _,fun j e z he=>(by simp at he)⟩
 case round=>
  obtain⟨k,es,rfl,hk,hbw,hes,hown,hall⟩:=hrel;have HW:=hide hbw;have HES:=hide hes;have HOWN:=hide hown;have HALL:=hide hall;by_cases hlt:k<n
  ·obtain⟨b,off,rfl,hc⟩:=(show Nums wr (.slice ao n cap) zs from Ce.below H.out hbw).cell (i:=k) (by have:=HN.out;omega);have hget:zs[k]? = some (zs[k]'(by have:=HN.out;omega)):=List.getElem?_eq_getElem _;generalize zs[k]'(by have:=HN.out;omega)=z at hc hget;have HG:=hide hget;have hzb:=HZ.out z (List.mem_of_getElem? hget);have hlt':(k:Int)<(n:Int):=by omega
   obtain⟨aov,capv,hov,_⟩:=Cl.own hown.own;subst hov;clear hbw hes hown hall hget;go_wp2_with fail
   refine(av0 wr z hzb.1 hzb.2).mono ?_;rintro e w2 ⟨r2,rfl,hf2,hb2⟩;obtain⟨ng2,ao2,cap2,rs2,B2,T2,rfl,hwf,hB2,hT2,hl2⟩:=hf2;have hA:=hAl w2 (.cells #[.bool ng2,.slice ao2 rs2.length cap2] 42);have hb2':=hb2.trans (hA.mono hb2.size);have hR2:=HOWN.out.below hb2';have hO2:One _ w2.heap.size ng2 ao2 rs2.length cap2:=heap_alloc_new w2 (.cells #[.bool ng2,.slice ao2 rs2.length cap2] 42);have hS2:Ow w.heap.size _ (.slice ao2 rs2.length cap2) rs2:=(hwf.fr.ow.mono (Nat.le_trans HW.out.size hB2)).below hA;have hsz:w.heap.size<=(w2.alloc (.cells #[.bool ng2,.slice ao2 rs2.length cap2] 42)).heap.size:=Nat.le_trans HW.out.size hb2'.size;go_wp2_with (at_builtin;refine abo rfl (ayh (i:=11) (j:=17) rfl rfl hR2 hO2 hS2 (by rw[HES.out];omega) hsz) ?_)
   intro v3 w3 hR3 hb3;obtain⟨aov3,capv3,hov3,_⟩:=Cl.own hR3.own;subst hov3;have HR3:=hide hR3;have HB3:=hide ((HW.out.trans (hb2'.mono HW.out.size)).trans hb3);have HWF:=hide hwf;clear hR3 hb3 hR2 hO2 hS2 hsz hA hb2 hb2' hwf hB2 hT2;go_wp2;go_roundw
   case rel=>
    refine⟨k+1,es ++ [⟨ng2,ao2,rs2.length,cap2,rs2⟩],by go_num,by omega,HB3.out,by simp[HES.out],HR3.out,fun j e y he hy=>?_⟩;by_cases hj:j<es.length
    ·rw[List.getElem?_append_left hj]at he;exact HALL.out j e y he hy
    ·have hjl:=(List.getElem?_eq_some_iff.1 he).1;simp at hjl;obtain rfl:j=es.length:=by omega
     rw[List.getElem?_append_right (Nat.le_refl _)]at he;simp at he;subst he;rw[HES.out,HG.out]at hy;obtain rfl:=Option.some.inj hy;exact⟨HWF.out.fr.canon,HWF.out.fr.val,HWF.out.sgn,hl2⟩
   case measure=>simp[intOf];omega
  ·have hlt':decide ((k:Int)<(n:Int))=false:=by simp;omega
   have hkn:k=n:=by omega
   subst hkn;clear hbw hes hown hall;go_wp2;refine bodyPost_ret (v:=_) (acj rfl rfl) rfl ⟨_,rfl,⟨es,HOWN.out.rw,by rw[HES.out,HN.out],HALL.out⟩,HW.out⟩
end Lm
namespace Lm
open Go Go.RowKit
theorem akd(w:World)(ax:Option Addr)(mx cx:Nat)(xs:List WE)(Rx:Rw w (.slice ax mx cx) xs)(ay:Option Addr)(my cy:Nat)(ys:List WE)(Ry:Rw w (.slice ay my cy) ys)(hS:SameR xs ys):
  Calls Tryz.prog 16 #[.slice ax mx cx,.slice ay my cy] w fun e w'=>e=.returned (.bool true)/\Below w.heap.size w w':=by
 obtain⟨rfl,hx2,hx3⟩:=Rx.parts;obtain⟨rfl,_,_⟩:=Ry.parts;have HX:=hide Rx;have HY:=hide Ry;have HS:=hide hS;have hlen:=hS.len;rw[<-hlen]at HY ⊢;obtain⟨n,hn⟩:∃n,xs.length=n:=⟨_,rfl⟩;rw[hn]at HX HY hx2 ⊢;have HNx:Hid (xs.length=n):=hn;have HNy:Hid (ys.length=n):=hlen.symm.trans hn;have hnn:((n:Int) != (n:Int))=false:=by simp
 clear Rx Ry hS hlen hn;go_enter Tryz.func16,Tryz.ntmps16
 go_wp2_with fail
 go_loopw [5] (fun iv wr=>∃k:Nat,iv=.int .i64 k/\k<=n/\Below w.heap.size w wr) (fun iv _=>n-(intOf iv).toNat)
 case atStart=>exact⟨0,rfl,Nat.zero_le _,Below.refl _ _⟩
 case round=>
  obtain⟨k,rfl,hk,hbw⟩:=hrel;have HW:=hide hbw;by_cases hlt:k<n
  ·have hlt':(k:Int)<(n:Int):=by omega
   obtain⟨ex,hex⟩:∃e,xs[k]? = some e:=⟨_,List.getElem?_eq_getElem (by have:=HNx.out;omega)⟩;obtain⟨bx,ox,hAx,hlx0,hcx⟩:=HX.out.cells (by have:=HNx.out;omega);subst hAx;have hlx:bx<wr.heap.size:=Nat.lt_of_lt_of_le hlx0 hbw.size;have x0:=(hbw.cell (p:=⟨bx,ox+k*2,none⟩) hlx0).trans (hcx _ _ (aa2 hex).1);have x1:wr.cell? ⟨bx,ox+k*2+1,none⟩=some (.slice ex.a ex.m ex.c):=(hbw.cell (p:=⟨bx,ox+k*2+1,none⟩) hlx0).trans (hcx _ _ (aa2 hex).2);obtain⟨ey,hey⟩:∃e,ys[k]? = some e:=⟨_,List.getElem?_eq_getElem (by have:=HNy.out;omega)⟩;obtain⟨by_,oy,hAy,hly0,hcy⟩:=HY.out.cells (by have:=HNy.out;omega);subst hAy;have hly:by_<wr.heap.size:=Nat.lt_of_lt_of_le hly0 hbw.size;have y0:=(hbw.cell (p:=⟨by_,oy+k*2,none⟩) hly0).trans (hcy _ _ (aa2 hey).1);have y1:wr.cell? ⟨by_,oy+k*2+1,none⟩=some (.slice ey.a ey.m ey.c):=(hbw.cell (p:=⟨by_,oy+k*2+1,none⟩) hly0).trans (hcy _ _ (aa2 hey).2);have S1:=(HX.out.sl ex (List.mem_of_getElem? hex)).below hbw;have S2:=(HY.out.sl ey (List.mem_of_getElem? hey)).below hbw;have hq:=HS.out.at hex hey;clear hbw hex hey hcx hcy;go_upto_region 6 with fail
   go_cut [26] (fun cv wx=>cv=.bool false/\Below wr.heap.size wr wx)
   case first=>
    refine agy [17,18,19,20,21,22,23,24,25,26] [Eqs (.slice (some ⟨bx,ox,none⟩) n cx),Eqs (.int .i64 (k:Int)),Eqs (.pointer (some ⟨bx,ox+k*2,none⟩)),Eqs (.agg #[.bool ex.ng,.slice ex.a ex.m ex.c]),Eqs (.slice (some ⟨by_,oy,none⟩) n cy),Eqs (.int .i64 (k:Int)),Eqs (.pointer (some ⟨by_,oy+k*2,none⟩)),Eqs (.agg #[.bool ey.ng,.slice ey.a ey.m ey.c]),Eqs (.bool true),Eqs (.bool false)] (by assumption) (by assumption) rfl (by decide) (by kernel_rfl) (by kernel_rfl) ⟨Eqs.mono _,Eqs.mono _,Eqs.mono _,Eqs.mono _,Eqs.mono _,Eqs.mono _,Eqs.mono _,Eqs.mono _,Eqs.mono _,Eqs.mono _,trivial⟩ ?_ ?_
    ·exact⟨⟨rfl,fun a_ w_ _ hB hR hD=>aah ((hR 0 rfl).trans (aab rfl))⟩,
      ⟨rfl,fun a_ w_ _ hB hR hD=>aah ((hR 5 rfl).trans (aab rfl))⟩,
      ⟨rfl,fun a_ w_ _ hB hR hD=>acv (show a_.eval (.tmp 17)=.slice (some ⟨bx,ox,none⟩) n cx from hD 0 rfl) rfl (show a_.eval (.tmp 18)=.int .i64 (k:Int)from hD 1 rfl) (by omega)⟩,
      ⟨rfl,fun a_ w_ _ hB hR hD=>adc (p:=Eqs _) (show a_.eval (.tmp 19)=.pointer (some ⟨bx,ox+k*2,none⟩)from hD 2 rfl) ((hB.cell (p:=⟨bx,ox+k*2,none⟩) hlx).trans x0) ((hB.cell (p:=⟨bx,ox+k*2+1,none⟩) hlx).trans x1) rfl⟩,
      ⟨rfl,fun a_ w_ _ hB hR hD=>aah ((hR 1 rfl).trans (aab rfl))⟩,
      ⟨rfl,fun a_ w_ _ hB hR hD=>aah ((hR 5 rfl).trans (aab rfl))⟩,
      ⟨rfl,fun a_ w_ _ hB hR hD=>acv (show a_.eval (.tmp 21)=.slice (some ⟨by_,oy,none⟩) n cy from hD 4 rfl) rfl (show a_.eval (.tmp 22)=.int .i64 (k:Int)from hD 5 rfl) (by omega)⟩,
      ⟨rfl,fun a_ w_ _ hB hR hD=>adc (p:=Eqs _) (show a_.eval (.tmp 23)=.pointer (some ⟨by_,oy+k*2,none⟩)from hD 6 rfl) ((hB.cell (p:=⟨by_,oy+k*2,none⟩) hly).trans y0) ((hB.cell (p:=⟨by_,oy+k*2+1,none⟩) hly).trans y1) rfl⟩,
      ⟨rfl,fun a_ w_ _ hB hR hD=>ais (show a_.eval (.tmp 20)=.agg #[.bool ex.ng,.slice ex.a ex.m ex.c]from hD 3 rfl) (show a_.eval (.tmp 24)=.agg #[.bool ey.ng,.slice ey.a ey.m ey.c]from hD 7 rfl) (S1.below hB) (S2.below hB) hq.1 hq.2⟩,
      ⟨rfl,fun a_ w_ _ hB hR hD=>age (show a_.eval (.tmp 25)=.bool true from hD 8 rfl)⟩,
      trivial⟩
    ·intro a' w' hn' hd' hB' hR' hP'
     (repeat apply Exists.intro)
     refine⟨?rel,afe hn' hd' hR' ?fit⟩
     case fit=>repeat' (first|exact trivial|refine⟨(by first|exact .inl ⟨rfl,rfl⟩|exact .inr rfl),?_⟩)
     case rel=>exact⟨(show _=_ from hP' 9 (by decide)),hB'⟩
   case rest=>
    obtain⟨hc26,hbx⟩:=hcut;subst hc26;have HB2:=hide (HW.out.trans (hbx.mono HW.out.size));clear hbx x0 x1 y0 y1 S1 S2 hq;go_wp2;go_roundw
    case rel=>exact⟨k+1,by go_num,by omega,HB2.out⟩
    case measure=>simp[intOf];omega
  ·have hlt':decide ((k:Int)<(n:Int))=false:=by simp;omega
   clear hbw;go_wp2;refine bodyPost_ret (v:=_) (by simp[results,Tryz.results16,go_sem];try rfl) rfl ⟨rfl,HW.out⟩
theorem al4(p:Int){q:Int}(_h:q≠0):nm p q=(Rat.divInt p q).num:=by
 rw[Rat.num_divInt,nm,Int.gcd_comm];rw[Int.mul_ediv_assoc _ (Int.gcd_dvd_right ..)]
theorem al5(p:Int){q:Int}(h:q≠0):dn p q=((Rat.divInt p q).den:Int):=by
 rw[Rat.den_divInt,if_neg h,dn,Int.gcd_comm,Int.natCast_ediv];rcases Int.lt_or_gt_of_ne h with h1|h1
 ·rw[Int.sign_eq_neg_one_of_neg h1,show((q.natAbs:Nat):Int) = -q from by omega,Int.neg_ediv_of_dvd (Int.gcd_dvd_left ..)];omega
 ·rw[Int.sign_eq_one_of_pos h1,show((q.natAbs:Nat):Int)=q from by omega];omega
theorem an7(p q:Int):Rat.divInt (tp p q) (tq q)=Rat.divInt p q:=by
 unfold tp tq;split
 ·next h=>rw[h,Rat.divInt_zero,Rat.zero_divInt]
 ·rfl
def IsQ(r:Rat)(L:Nat):Says:=fun v w=>∃p q,IsR p q L v w/\Rat.divInt p q=r
def OutQr(r:Rat)(L:Nat):Says:=OutR r.num (r.den:Int) L
theorem OutQr.is{r:Rat}{L:Nat}{v:Value}{w:World}(h:OutQr r L v w):IsQ r L v w:=⟨_,_,OutR.is h,Rat.num_divInt_den r⟩
def Fit(r:Rat)(L:Nat):Prop:=(r.num.natAbs:Int)<pw L/\(r.den:Int)<pw L
theorem OutQr.fit{r:Rat}{L L':Nat}{v:Value}{w:World}(h:OutQr r L v w)(hf:Fit r L'):OutQr r L' v w:=by
 obtain⟨ng,ao,cap,rs,bo,dap,ss,e,h1,h2,l1,l2⟩:=h;exact⟨ng,ao,cap,rs,bo,dap,ss,e,h1,h2,aau h1.1.2.1 (by rw[h1.1.2.2];exact hf.1),aau h2.2.1 (by rw[h2.2.2];exact hf.2)⟩
theorem IsQ.open{r:Rat}{L:Nat}{v:Value}{w:World}(h:IsQ r L v w):∃ng ao n cap xs bo m dap ys p q,v=.agg #[.bool ng,.slice ao n cap,.slice bo m dap]/\Ag w ng ao n cap xs p/\Sl w (.slice bo m dap) ys/\val ys=q/\xs.length<=L/\ys.length<=L/\Rat.divInt p q=r:=by
 obtain⟨p,q,⟨ng,ao,n,cap,xs,bo,m,dap,ys,h1,h2,h3,h4,h5,h6⟩,h7⟩:=h;exact⟨ng,ao,n,cap,xs,bo,m,dap,ys,p,q,h1,h2,h3,h4,h5,h6,h7⟩
structure RE where
 ng:Bool
 a:Option Addr
 m:Nat
 c:Nat
 d:Option Addr
 k:Nat
 e:Nat
def rf3:List RE->List Value
 | []=>[]
 |x::es=>.bool x.ng :: .slice x.a x.m x.c :: .slice x.d x.k x.e::rf3 es
theorem a0j{es:List RE}{i:Nat}{x:RE}(h:es[i]? = some x):(rf3 es)[i*3]? = some (.bool x.ng)/\(rf3 es)[i*3+1]? = some (.slice x.a x.m x.c)/\(rf3 es)[i*3+2]? = some (.slice x.d x.k x.e):=by
 induction es generalizing i with
 |nil=>simp at h
 |cons u es ih=>
  cases i with
  |zero=>
   simp at h;subst h;simp[rf3]
  |succ i=>
   have:=ih (i:=i) (by simpa using h);simp only[rf3,show(i+1)*3=i*3+3 from by omega];simpa using this
theorem OutQr.ru{r:Rat}{L:Nat}{v:Value}{w w':World}(h:OutQr r L v w)(hr:Ru w w'):OutQr r L v w':=OutR.mono5 _ _ L _ _ _ hr h
theorem OutN.fit{z:Int}{L M:Nat}{v:Value}{w:World}(h:OutN z L v w)(hz:(z.natAbs:Int)<pw M):OutN z (3*M) v w:=by
 obtain⟨ng,ao,cap,rs,e,W,l⟩:=h;exact⟨ng,ao,cap,rs,e,W,W.len (Int.lt_of_lt_of_le hz (Dm.alp M))⟩
theorem OutN.rl{z:Int}{L:Nat}{v:Value}{w w':World}(h:OutN z L v w)(hr:Rl w w'):OutN z L v w':=OutN.mono4 z L _ _ _ hr h
theorem OutN.agg{z:Int}{L:Nat}{v:Value}{w:World}(h:OutN z L v w):∃ng ao n cap,v=.agg #[.bool ng,.slice ao n cap]:=by
 obtain⟨ng,ao,cap,rs,rfl,_⟩:=h;exact⟨ng,ao,_,cap,rfl⟩
def NRow(w:World)(v:Value)(zs:List Int)(L:Nat):Prop:=∃fs:List WE,Cl w v 2 fs.length (flat fs)/\fs.length=zs.length/\∀(k:Nat) (f:WE) (z:Int),fs[k]? = some f->zs[k]? = some z->OutN z L f.v w
theorem NRow.below{w w':World}{v:Value}{zs:List Int}{L:Nat}(h:NRow w v zs L)(hb:Below w.heap.size w w'):NRow w' v zs L:=by
 obtain⟨fs,h1,h2,h3⟩:=h;exact⟨fs,h1.below hb,h2,fun k f z hf hz=>(h3 k f z hf hz).rl (Rl.of_below hb)⟩
theorem NRow.parts{w:World}{v:Value}{zs:List Int}{L:Nat}(h:NRow w v zs L):∃ao cap,v=.slice ao zs.length cap/\zs.length<=9223372036854775807:=by
 obtain⟨fs,⟨ao,cap,rfl,h1,h2,_⟩,h3,_⟩:=h;exact⟨ao,cap,by rw[h3],by omega⟩
theorem NRow.cell{w:World}{ao:Option Addr}{n cap:Nat}{zs:List Int}{L k:Nat}{z:Int}(h:NRow w (.slice ao n cap) zs L)(hz:zs[k]? = some z):∃b off ng a m c,ao=some ⟨b,off,none⟩/\b<w.heap.size/\w.cell? ⟨b,off+k*2,none⟩=some (.bool ng)/\w.cell? ⟨b,off+k*2+1,none⟩=some (.slice a m c)/\OutN z L (.agg #[.bool ng,.slice a m c]) w:=by
 obtain⟨fs,⟨ao',cap',hv,h1,h2,h3,h4⟩,h5,h6⟩:=h;simp only[Value.slice.injEq]at hv;obtain⟨rfl,rfl,rfl⟩:=hv;have hk:=(List.getElem?_eq_some_iff.1 hz).1;obtain⟨f,hf⟩:∃f,fs[k]? = some f:=⟨_,List.getElem?_eq_getElem (by omega)⟩;obtain⟨f1,f2⟩:=aa2 hf;rcases h4 with h4|⟨b,off,rfl,hb,hc⟩
 ·omega
 ·exact⟨b,off,f.ng,f.a,f.m,f.c,rfl,hb,hc _ _ f1,by rw[Nat.add_assoc];exact hc _ _ f2,h6 k f z hf hz⟩
def isI:Value->Bool
 |.int _ _=>true
 |_=>false
def NoI(w:World)(v:Value):Prop:=∀g cs T,v.ownBlock=some g->w.heap[g]? = some (.cells cs T (0,0))->∀x∈cs.toList,isI x=false
theorem NoI.below{w w':World}{v:Value}(h:NoI w v)(hl:∀k,v.ownBlock=some k->k<w.heap.size)(hb:Below w.heap.size w w'):NoI w' v:=fun g cs T hg hh=>h g cs T hg ((hb.block g (hl g hg)).symm.trans hh)
theorem ahw{z:Array Value}(hz:∀x∈z.toList,isI x=false)(n:Nat):∀x∈(Builtin.zeroCells z n).toList,isI x=false:=by
 intro x hx;simp only[Builtin.zeroCells,Array.toList_map,List.mem_map]at hx;obtain⟨j,_,rfl⟩:=hx;by_cases h:j%z.size<z.size
 ·rw[getElem!_pos z _ h];exact hz _ (by simp)
 ·rw[getElem!_neg z _ h];rfl
theorem an8{P:Program}(w:World)(base:Nat)(t ty e:TypeId)(i:TypeInfo)(z:Value)(bytes:Nat)(ht:P.underlying t=some (.slice e))(hi:P.info? e=some i)(hz:i.zero=some z)(hby:i.bytes=bytes)(_hsz:0<i.size)
  (v:Value) (n:Nat) (xs:List Value) (hown:w.ownsRow base e i.size v n xs) (a:Addr) (c:Nat) (news:List Value) (hl:news.length=i.size) (hnews:∀j u,news[j]? = some u->w.cell? (a.add j)=some u) (h1:∀u∈news,u.oneCell'=true)
  (h63:n+1<=maxLen) (hbytes:(n+1)*bytes<=140737488355328) (hI:NoI w v) (hN:∀u∈news,isI u=false) (hZ:∀u∈z.cells.toList,isI u=false) {v':Value} {w':World} (hr:(Builtin.append_ #[t,t] ty #[v,.slice (some a) 1 c]).run P w=.ok v' w'):NoI w' v':=by
 subst hby;have hl':news.length=1*i.size:=by omega
 have hsmall:n+1<=9223372036854775807:=by simp only[maxLen]at h63;omega
 rcases hown.2 with⟨rfl,rfl⟩|⟨g,cap,cur,rfl,hbg,hg,hnc,hcm,hcs,htake⟩
 ·have hr':=run_append_nil (P:=P) w t ty e i z ht hi hz a 1 c news hl' hnews (by omega) (by omega) (by omega);rw[hr]at hr';injection hr' with e1 e2;subst e1 e2;intro g cs T hg hh x hx;simp only[Value.ownBlock,Option.some.injEq]at hg;subst hg;rw[show(w.drew.alloc (Obj.cells (news.toArray++Builtin.zeroCells z.cells (grownCap w 1 0 e-1)) e)).heap[w.heap.size]? = _ from heap_alloc_new w.drew _]at hh;injection hh with hh;injection hh with hh;subst hh;simp only[Array.toList_append,List.mem_append]at hx;rcases hx with hx|hx
  ·exact hN x hx
  ·exact ahw hZ _ x hx
 ·have hcur:=hI g cur e rfl hg;by_cases hroom:n+1<=cap
  ·have hfit:n*i.size+news.length<=cur.size:=by rw[hl',hcs,<-Nat.add_mul];exact Nat.mul_le_mul_right _ hroom
   have hr':=run_append_room (P:=P) w t ty e i ht hi g n cap cur hg a 1 c news hl' hnews h1 hroom hfit;rw[hr]at hr';injection hr' with e1 e2;subst e1 e2;intro g' cs T hg' hh x hx;simp only[Value.ownBlock,Option.some.injEq]at hg';subst hg';rw[setRow_heap w g cur _ e _ hg]at hh;injection hh with hh;injection hh with hh;subst hh;simp only[List.mem_append]at hx;rcases hx with(hx|hx)|hx
   ·exact hcur x (List.mem_of_mem_take hx)
   ·exact hN x hx
   ·exact hcur x (List.mem_of_mem_drop hx)
  ·have hr':=run_append_grow (P:=P) w t ty e i z ht hi hz ⟨g,0,none⟩ n cap xs hown.1 (hown.cells (g:=g) rfl) a 1 c news hl' hnews (by omega) (by omega) (growslice_fits (by omega) hbytes);rw[hr]at hr';injection hr' with e1 e2;subst e1 e2;intro g' cs T hg' hh x hx;simp only[Value.ownBlock,Option.some.injEq]at hg';subst hg';rw[show(w.drew.alloc (Obj.cells (xs.toArray++news.toArray++Builtin.zeroCells z.cells (grownCap w (n+1) cap e-(n+1))) e)).heap[w.heap.size]? = _ from heap_alloc_new w.drew _]at hh;injection hh with hh;injection hh with hh;subst hh;simp only[Array.toList_append,List.mem_append]at hx;rcases hx with(hx|hx)|hx
   ·rw[<-htake]at hx;exact hcur x (List.mem_of_mem_take hx)
   ·exact hN x hx
   ·exact ahw hZ _ x hx
structure RnO (B:Nat) (w:World) (v:Value) (fs:List WE) (zs:List Int) (L:Nat):Prop where
 own:w.ownsRow B 82 2 v fs.length (flat fs)
 noi:NoI w v
 len:fs.length=zs.length
 out:∀(k:Nat) (f:WE) (z:Int),fs[k]? = some f->zs[k]? = some z->OutN z L f.v w
theorem RnO.below{B:Nat}{w w':World}{v:Value}{fs:List WE}{zs:List Int}{L:Nat}(h:RnO B w v fs zs L)(hb:Below w.heap.size w w'):RnO B w' v fs zs L:=
 ⟨h.own.kept (row:=none) ⟨hb.os,hb.tape,hb.output,hb.size,fun k hk _=>hb.block k hk⟩ (by cases hv:v.ownBlock <;> simp),h.noi.below (fun k hk=>(h.own.lt k hk).2) hb,h.len,fun k f z hf hz=>(h.out k f z hf hz).rl (Rl.of_below hb)⟩
theorem RnO.nrow{B:Nat}{w:World}{v:Value}{fs:List WE}{zs:List Int}{L:Nat}(h:RnO B w v fs zs L):NRow w v zs L:=⟨fs,Cl.own h.own,h.len,h.out⟩
theorem an9(B:Nat)(w:World)(L:Nat):RnO B w (.slice none 0 0) [] [] L:=⟨World.ownsRow_nil w B _ 2,fun g cs T hg=>by simp[Value.ownBlock]at hg,rfl,fun k f z hf=>by simp at hf⟩
section
variable {dst:Option Tmp} {ty:TypeId} {pos:String} {after:Array Edge} {guard:Option (Nat×Bool)} {a:Act} {w:World} {ats:Array TypeId} {i j:Nat}
theorem infoN:(Tryz.prog.info? 82).map (fun i=>(i.zero,i.size,i.bytes))=some (some (.agg #[.bool false,.slice none 0 0]),2,32):=by kernel_rfl
theorem ajo{B g:Nat}{v:Value}{es:List WE}{zs:List Int}{L:Nat}{z:Int}{ng:Bool}{ao:Option Addr}{n c:Nat}(h1:a.eval (.tmp i)=v)(h2:a.eval (.tmp j)=.slice (some ⟨g,0,none⟩) 1 1)(R:RnO B w v es zs L)(O:w.heap[g]? = some (.cells #[.bool ng,.slice ao n c] 82 (0,0)))(S:OutN z L (.agg #[.bool ng,.slice ao n c]) w)(hn:es.length<=1000000)(hB:B<=w.heap.size):
  Does Tryz.prog {dst,op:=.call {callee:=.builtin .append,args:=#[.tmp i,.tmp j],argTypes:=#[78,78]},type:=ty,pos,after,guard} a.eval w fun v' w'=>RnO B w' v' (es ++ [⟨ng,ao,n,c,[]⟩]) (zs ++ [z]) L/\Below B w w':=by
 obtain⟨i0,hi,hz0,hz1,hz2⟩:=info_parts infoN;have hfl:flat (es ++ [⟨ng,ao,n,c,[]⟩])=flat es ++ [.bool ng,.slice ao n c]:=by rw[adw];rfl
 have hcl:∀(k:Nat) (u:Value),[Value.bool ng,.slice ao n c][k]? = some u->w.cell? ((⟨g,0,none⟩:Addr).add k)=some u:=fun k u hu=>by
  have hc:∀k,w.cell? ⟨g,k,none⟩ = #[Value.bool ng,.slice ao n c][k]? :=fun k=>cell_of_row w g k _ _ (0,0) O
  have ha:(⟨g,0,none⟩:Addr).add k=⟨g,k,none⟩:=by unfold Addr.add;split <;> simp_all
  rw[ha,hc];simpa using hu
 obtain⟨v',w',hr,ho,hgr,_⟩:=run_append_own (P:=Tryz.prog) w B 78 ty 82 i0 _ 2 32 Tryz.underlying78 hi hz0 hz1 hz2 rfl (by decide) v es.length (flat es) R.own ⟨g,0,none⟩ 1 1 [.bool ng,.slice ao n c] rfl hcl (by simp[Value.oneCell']) (by simp[maxLen];omega) (by omega) hB;have e:(execOp a.eval {dst,op:=.call {callee:=.builtin .append,args:=#[.tmp i,.tmp j],argTypes:=#[78,78]},type:=ty,pos,after,guard}).run Tryz.prog w=.ok (.value v') w':=by
  simp only[execOp,resolve,invoke,builtin,Sem.run_bind,Sem.run_pure,Result.andThen_ok,List.map_toArray,List.map_cons,List.map_nil,h1,h2,hr]
 refine⟨?_⟩;unfold Turns;rw[e];have hrl:Rl w w':=by
  refine⟨hgr.size,fun p k z e=>?_,fun k cs T hT e=>?_⟩
  ·rw[World.cell?_of_block (w:=w) (hgr.block p.block (aai e) fun hb=>?_)]
   ·exact e
   ·rcases R.own.2 with⟨rfl,_⟩|⟨g',cap,cur,rfl,_,hh,h5,h6,h7,h8⟩
    ·simp[Value.ownBlock]at hb
    ·simp only[Value.ownBlock,Option.some.injEq]at hb;obtain⟨pb,po,pm⟩:=p;simp only at hb;subst hb;simp only[World.cell?,hh]at e;cases pm with
     |some m=>simp at e
     |none=>
      have hm:=R.noi _ cur _ rfl hh (.int k z) (Array.mem_toList_iff.2 (Array.mem_of_getElem? (i:=po) (by simpa using e)));exact absurd hm (by simp[isI])
  ·refine(hgr.block k (aaa e) fun hb=>?_).trans e;rcases R.own.2 with⟨rfl,_⟩|⟨g',cap,cur,rfl,_,hh,_⟩
   ·simp[Value.ownBlock]at hb
   ·simp only[Value.ownBlock,Option.some.injEq]at hb;subst hb;rw[hh]at e;injection e with e;injection e with _ e _;rcases hT with rfl|rfl
    ·exact absurd e (by decide)
    ·exact absurd e (by decide)
 have hni:NoI w' v':=by
  have hown:=R.own;rw[<-hz1]at hown;exact an8 (P:=Tryz.prog) w B 78 ty 82 i0 _ 32 Tryz.underlying78 hi hz0 hz2 (by omega) v es.length (flat es) hown ⟨g,0,none⟩ 1 [.bool ng,.slice ao n c] (by rw[hz1];rfl) hcl (by simp[Value.oneCell']) (by simp[maxLen];omega) (by omega) R.noi (by simp[isI]) (by simp[Value.cells,isI]) hr
 refine⟨⟨by rw[hfl,List.length_append];exact ho,hni,by simp[R.len],fun k f y hf hy=>?_⟩,⟨hgr.os,hgr.tape,hgr.output,hgr.size,fun k hk=>hgr.block k (by omega) (fun e=>?_)⟩⟩
 ·by_cases hk:k<es.length
  ·rw[List.getElem?_append_left hk]at hf;rw[List.getElem?_append_left (by rw[<-R.len];exact hk)]at hy;exact(R.out k f y hf hy).rl hrl
  ·have hkl:=(List.getElem?_eq_some_iff.1 hf).1;simp at hkl;obtain rfl:k=es.length:=by omega
   rw[List.getElem?_append_right (Nat.le_refl _)]at hf;rw[List.getElem?_append_right (by rw[R.len];exact Nat.le_refl _)]at hy;simp[R.len]at hf hy;subst hf hy;exact S.rl hrl
 ·have:=R.own.lt k e.symm;omega
end
theorem nofF(w:World)(x:Int)(v:Value)(L:Nat)(hx:IsW x L v w)(hL:L<=100000):
  Calls Tryz.prog 67 #[v] w fun e w'=>∃r,e=.returned r/\OutN x (3*L) r w'/\Below w.heap.size w w':=by
 obtain⟨n1,a1,m1,c1,xs,rfl,A1,l1⟩:=hx;refine(Dm.a07 w _ _ _ _ xs x A1 (by omega)).mono ?_;rintro e w' ⟨ng,ao,cap,rs,rfl,G,l,hb⟩;exact⟨_,rfl,⟨_,_,_,_,rfl,G,by omega⟩,hb⟩
theorem al6(w:World)(v:Value)(zs:List Int)(L:Nat)(h:IsRow w v zs L)(hl:zs.length<=100001)(hL:L<=100000):
  Calls Tryz.prog 36 #[v] w fun e w'=>∃r,e=.returned r/\NRow w' r zs (3*L)/\Below w.heap.size w w':=by
 obtain⟨ao,cap,rfl,_⟩:=h.parts;have H:=hide h;clear h;obtain⟨n,hn⟩:∃n,zs.length=n:=⟨_,rfl⟩;rw[hn]at H hl ⊢;have HN:=hide hn;clear hn;go_enter Tryz.func36,Tryz.ntmps36
 go_wp2_with fail
 go_loopw [3,4] (fun ov iv wr=>∃(k:Nat) (fs:List WE),iv=.int .i64 k/\k<=n/\Below w.heap.size w wr/\RnO w.heap.size wr ov fs (zs.take k) (3*L)) (fun _ iv _=>n-(intOf iv).toNat)
 case atStart=>exact⟨0,[],rfl,Nat.zero_le _,Below.refl _ _,an9 _ _ _⟩
 case round=>
  obtain⟨k,fs,rfl,hk,hbw,hown⟩:=hrel;have HW:=hide hbw;have HOWN:=hide hown;by_cases hlt:k<n
  ·obtain⟨z,hz⟩:∃z,zs[k]? = some z:=⟨_,List.getElem?_eq_getElem (by have:=HN.out;omega)⟩;obtain⟨b,off,ng,a,m,c,rfl,hbl,x0,x1,hxw⟩:=(H.out.below hbw).cell hz;have HZ:=hide hz;have K1:=hide (nofF wr z _ L hxw hL);have hlt':(k:Int)<(n:Int):=by omega
   obtain⟨aov,capv,hov,_⟩:=Cl.own hown.own;subst hov;clear hbw hown hz hxw;go_wp2_with fail
   refine K1.out.mono ?_;rintro e w2 ⟨r2,rfl,hf2,hb2⟩;obtain⟨ng2,ao2,n2,cap2,rfl⟩:=hf2.agg;have hA:=hAl w2 (.cells #[.bool ng2,.slice ao2 n2 cap2] 82);have hb2':=hb2.trans (hA.mono hb2.size);have hR2:=HOWN.out.below hb2';have hO2:=heap_alloc_new w2 (.cells #[.bool ng2,.slice ao2 n2 cap2] 82);have hS2:=hf2.rl (Rl.of_below hA);have hsz:w.heap.size<=(w2.alloc (.cells #[.bool ng2,.slice ao2 n2 cap2] 82)).heap.size:=Nat.le_trans HW.out.size hb2'.size;have hfl:fs.length<=1000000:=by rw[HOWN.out.len,List.length_take];omega
   go_wp2_with (at_builtin;refine abo rfl (ajo (i:=11) (j:=17) rfl rfl hR2 hO2 hS2 hfl hsz) ?_)
   intro v3 w3 hR3 hb3;obtain⟨aov3,capv3,hov3,_⟩:=Cl.own hR3.own;subst hov3;have HR3:=hide hR3;have HB3:=hide ((HW.out.trans (hb2'.mono HW.out.size)).trans hb3);clear hR3 hb3 hR2 hO2 hS2 hsz hA hb2 hb2' hf2 hfl;go_wp2;go_roundw
   case rel=>
    refine⟨k+1,fs ++ [⟨ng2,ao2,n2,cap2,[]⟩],by go_num,by omega,HB3.out,?_⟩;rw[List.take_add_one,HZ.out];exact HR3.out
   case measure=>simp[intOf];omega
  ·have hlt':decide ((k:Int)<(n:Int))=false:=by simp;omega
   have hkn:k=n:=by omega
   subst hkn;obtain⟨aov,capv,hov,_⟩:=Cl.own hown.own;subst hov;clear hbw hown;go_wp2;refine bodyPost_ret (v:=_) (acj rfl rfl) rfl ⟨_,rfl,(by have h:=HOWN.out.nrow;rw[List.take_of_length_le (by have:=HN.out;omega)]at h;exact h),HW.out⟩
theorem NRow.len{w:World}{ao:Option Addr}{n cap:Nat}{zs:List Int}{L:Nat}(h:NRow w (.slice ao n cap) zs L):n=zs.length/\zs.length<=9223372036854775807:=by
 obtain⟨a,c,e,h2⟩:=h.parts;simp only[Value.slice.injEq]at e;exact⟨e.2.1,h2⟩
theorem NRow.some{w:World}{ao:Option Addr}{n cap:Nat}{zs:List Int}{L:Nat}(h:NRow w (.slice ao n cap) zs L)(hn:0<n):∃b off,ao=some ⟨b,off,none⟩:=by
 have:=h.len.1;obtain⟨b,off,_,_,_,_,e,_⟩:=h.cell (k:=0) (List.getElem?_eq_getElem (by omega));exact⟨b,off,e⟩
theorem ae4(w:World)(L:Nat):OutN 0 L (.agg #[.bool false,.slice none 0 0]) w:=⟨false,none,0,[],rfl,⟨⟨Dm.adb w,Dm.aca,rfl⟩,rfl⟩,by simp⟩
section
variable {dst:Option Tmp} {ty:TypeId} {pos:String} {after:Array Edge} {guard:Option (Nat×Bool)} {a:Act} {w:World} {ats:Array TypeId} {i j:Nat}
theorem ac8{b off n c k:Nat}{ao:Option Addr}(h:a.eval (.tmp i)=.slice ao n c)(hao:ao=some ⟨b,off,none⟩)(hk:a.eval (.tmp j)=.int .i64 (k:Int))(hl:k<n):Does Tryz.prog {dst,op:=.indexAddr 78 (.tmp i) (.tmp j),type:=ty,pos,after,guard} a.eval w fun v' w'=>Below w.heap.size w w'/\Eqs (.pointer (some ⟨b,off+k*2,none⟩)) v' w':=by
 subst hao;have hl':(k:Int)<(n:Int):=by omega
 refine⟨?_⟩;unfold Turns;simp only[execOp,h,hk];go_simp;exact⟨Below.refl _ _,rfl⟩
theorem atg{b off k:Nat}{ao:Option Addr}{n cap:Nat}{zs:List Int}{L:Nat}{z:Int}(hp:a.eval (.tmp i)=.pointer (some ⟨b,off+k*2,none⟩))(hao:ao=some ⟨b,off,none⟩)(hR:NRow w (.slice ao n cap) zs L)(hz:zs[k]? = some z):Does Tryz.prog {dst,op:=.load 82 (.tmp i),type:=ty,pos,after,guard} a.eval w fun v' w'=>Below w.heap.size w w'/\OutN z L v' w':=by
 obtain⟨b',off',ng,a',m,c,e,_,h0,h1,ho⟩:=hR.cell hz;rw[hao]at e;simp only[Option.some.injEq,Addr.mk.injEq,and_true]at e;obtain⟨rfl,rfl⟩:=e;refine aav (v:=.agg #[.bool ng,.slice a' m c]) ?_ ⟨Below.refl _ _,ho⟩;rw[hp];go_simp
end
theorem ahx(es:List WE)(i:Nat)(k:IntKind)(z:Int):(flat es).toArray[i]?≠some (.int k z):=by
 intro h;rw[List.getElem?_toArray]at h;have hlt:=(List.getElem?_eq_some_iff.1 h).1;rw[aay]at hlt;obtain⟨e,he⟩:∃e,es[i/2]? = some e:=⟨_,List.getElem?_eq_getElem (by omega)⟩;obtain⟨f1,f2⟩:=aa2 he;rcases(by omega:i=i/2*2\/i=i/2*2+1)with e1|e1
 ·rw[e1,f1]at h;simp at h
 ·rw[e1,f2]at h;simp at h
def PN(w:World)(bv n i:Nat)(zs:List Int)(L:Nat):Prop:=
 ∃es:List WE,es.length=n/\w.heap[bv]? = some (.cells (flat es).toArray 82 (0,0))/\∀(k:Nat) (e:WE) (z:Int),k<i->es[k]? = some e->zs[k]? = some z->OutN z L e.v w
theorem PN.lt{w:World}{bv n i:Nat}{zs:List Int}{L:Nat}(h:PN w bv n i zs L):bv<w.heap.size:=by
 obtain⟨es,h1,h2,_⟩:=h;exact aaa h2
theorem PN.cells{w:World}{bv n i:Nat}{zs:List Int}{L:Nat}(h:PN w bv n i zs L){k:Nat}(hk:k<n):(∃ng a m c,w.cell? ⟨bv,k*2,none⟩=some (.bool ng)/\w.cell? ⟨bv,k*2+1,none⟩=some (.slice a m c))/\w.frozen? ⟨bv,k*2,none⟩=false/\w.frozen? ⟨bv,k*2+1,none⟩=false:=by
 obtain⟨es,h1,h2,_⟩:=h;obtain⟨e,he⟩:∃e,es[k]? = some e:=⟨_,List.getElem?_eq_getElem (by omega)⟩;obtain⟨f1,f2⟩:=aa2 he;exact⟨⟨e.ng,e.a,e.m,e.c,by rw[cell_of_row _ _ _ _ _ (0,0) h2,List.getElem?_toArray];exact f1,by rw[cell_of_row _ _ _ _ _ (0,0) h2,List.getElem?_toArray];exact f2⟩,frozen_of_row _ _ _ _ _ h2,frozen_of_row _ _ _ _ _ h2⟩
theorem PN.at{w:World}{bv n i:Nat}{zs:List Int}{L:Nat}(h:PN w bv n i zs L){k:Nat}{z:Int}(hk:k<i)(hi:i<=n)(hz:zs[k]? = some z):∃ng a m c,w.cell? ⟨bv,0+k*2,none⟩=some (.bool ng)/\w.cell? ⟨bv,0+k*2+1,none⟩=some (.slice a m c)/\OutN z L (.agg #[.bool ng,.slice a m c]) w:=by
 obtain⟨es,h1,h2,h3⟩:=h;obtain⟨e,he⟩:∃e,es[k]? = some e:=⟨_,List.getElem?_eq_getElem (by omega)⟩;obtain⟨f1,f2⟩:=aa2 he;refine⟨e.ng,e.a,e.m,e.c,?_,?_,h3 k e z hk he hz⟩
 ·rw[Nat.zero_add,cell_of_row _ _ _ _ _ (0,0) h2,List.getElem?_toArray];exact f1
 ·rw[Nat.zero_add,cell_of_row _ _ _ _ _ (0,0) h2,List.getElem?_toArray];exact f2
theorem PN.nrow{w:World}{bv n:Nat}{zs:List Int}{L:Nat}(h:PN w bv n n zs L)(hl:zs.length=n)(hn:n<=1000000):NRow w (.slice (some ⟨bv,0,none⟩) n n) zs L:=by
 have hlt:=h.lt;obtain⟨es,h1,h2,h4⟩:=h;refine⟨es,⟨some ⟨bv,0,none⟩,n,by rw[h1],by omega,by omega,aay _,.inr ⟨bv,0,rfl,hlt,fun j u hu=>?_⟩⟩,by omega,fun k f z hf hz=>h4 k f z (by have:=(List.getElem?_eq_some_iff.1 hf).1;omega) hf hz⟩;rw[Nat.zero_add,cell_of_row _ _ _ _ _ (0,0) h2,List.getElem?_toArray];exact hu
section
variable {dst:Option Tmp} {ty:TypeId} {pos:String} {after:Array Edge} {guard:Option (Nat×Bool)} {a:Act} {w:World} {ats:Array TypeId} {i j:Nat}
theorem acg{b off:Nat}{ng:Bool}{ao:Option Addr}{n c:Nat}{q:Says}(hp:a.eval (.tmp i)=.pointer (some ⟨b,off,none⟩))(h0:w.cell? ⟨b,off,none⟩=some (.bool ng))(h1:w.cell? ⟨b,off+1,none⟩=some (.slice ao n c))(hv:q (.agg #[.bool ng,.slice ao n c]) w):
  Does Tryz.prog {dst,op:=.load 82 (.tmp i),type:=ty,pos,after,guard} a.eval w fun v' w'=>Below w.heap.size w w'/\q v' w':=by
 refine aav (v:=.agg #[.bool ng,.slice ao n c]) ?_ ⟨Below.refl _ _,hv⟩;rw[hp];go_simp
end
theorem agp(p:Int){q:Int}(hq:q≠0):∃g a b:Int,0<g/\p=g*a/\q=g*b/\b≠0/\Int.gcd a b=1/\nm p q=Int.sign b*a/\dn p q=Int.sign b*b:=by
 have hg:=ab9 (p:=p) hq;obtain⟨a,ha⟩:((Int.gcd p q:Nat):Int) ∣ p:=Int.gcd_dvd_left p q;obtain⟨b,hb⟩:((Int.gcd p q:Nat):Int) ∣ q:=Int.gcd_dvd_right p q;have ea:p/((Int.gcd p q:Nat):Int)=a:=by
  conv=>lhs;lhs;rw[ha]
  exact Int.mul_ediv_cancel_left _ (by omega)
 have eb:q/((Int.gcd p q:Nat):Int)=b:=by
  conv=>lhs;lhs;rw[hb]
  exact Int.mul_ediv_cancel_left _ (by omega)
 have hs:Int.sign q=Int.sign b:=by
  rw[hb,Int.sign_mul,Int.sign_eq_one_of_pos hg,Int.one_mul]
 have hc:Int.gcd a b=1:=by
  have:=Int.gcd_ediv_gcd_ediv_gcd (i:=p) (j:=q) (by omega);rwa[ea,eb]at this
 refine⟨_,a,b,hg,ha,hb,?_,hc,?_,?_⟩
 ·rintro rfl;rw[Int.mul_zero]at hb;exact hq hb
 ·unfold nm;rw[ea,hs]
 ·unfold dn;rw[eb,hs]
theorem akq{b:Int}(h:b≠0):0<Int.sign b*b:=by
 rcases Int.lt_trichotomy b 0 with h1|h1|h1
 ·rw[Int.sign_eq_neg_one_of_neg h1];omega
 ·exact absurd h1 h
 ·rw[Int.sign_eq_one_of_pos h1];omega
theorem ath(p:Int){q:Int}(hq:q≠0):0<dn p q:=by
 obtain⟨g,a,b,_,_,_,hb,_,_,e⟩:=agp p hq;rw[e];exact akq hb
theorem ake(p:Int){q:Int}(hq:q≠0):nm p q*q=p*dn p q:=by
 obtain⟨g,a,b,_,hp,hq',_,_,e1,e2⟩:=agp p hq;rw[e1,e2]
 grind
theorem aoa(p:Int){q:Int}(hq:q≠0):Int.gcd (nm p q) (dn p q)=1:=by
 obtain⟨g,a,b,_,_,_,hb,hc,e1,e2⟩:=agp p hq;rw[e1,e2];rcases Int.lt_trichotomy b 0 with h1|h1|h1
 ·rw[Int.sign_eq_neg_one_of_neg h1];simpa using hc
 ·exact absurd h1 hb
 ·rw[Int.sign_eq_one_of_pos h1];simpa using hc
theorem aob{n d k:Int}(hc:Int.gcd n d=1)(h:d ∣ n*k):d ∣ k:=by
 have h1:d.natAbs ∣ n.natAbs*k.natAbs:=by rw[<-Int.natAbs_mul];exact Int.natAbs_dvd_natAbs.2 h
 have hc':Nat.Coprime d.natAbs n.natAbs:=by
  unfold Nat.Coprime;rw[Nat.gcd_comm];exact hc
 exact Int.natAbs_dvd_natAbs.1 (hc'.dvd_of_dvd_mul_left h1)
theorem a0k{p q p' q':Int}(hq:q≠0)(hq':q'≠0)(h:p*q'=p'*q):nm p q=nm p' q'/\dn p q=dn p' q':=by
 have c1:=ake p hq;have c2:=ake p' hq';have d1:=ath p hq;have d2:=ath p' hq';have hx:nm p q*dn p' q'=nm p' q'*dn p q:=by
  apply Int.eq_of_mul_eq_mul_right (Int.mul_ne_zero hq hq')
  grind
 have e1:dn p q ∣ dn p' q':=aob (aoa p hq) ⟨nm p' q',by rw[hx,Int.mul_comm]⟩;have e2:dn p' q' ∣ dn p q:=aob (aoa p' hq') ⟨nm p q,by rw[<-hx,Int.mul_comm]⟩;have e:dn p q=dn p' q':=Int.dvd_antisymm (by omega) (by omega) e1 e2;refine⟨?_,e⟩;rw[e]at hx;exact Int.eq_of_mul_eq_mul_right (by omega) hx
end Lm
namespace Lm
open Go Go.RowKit
def ov(x y:Int):Int:=sg (decide (x<0) != decide (y<0)) ((x.natAbs:Int)/(y.natAbs:Int))
theorem aiy(x:Int){y:Int}(h:y≠0):((Int.gcd x y:Nat):Int)≠0:=by
 have:=ab9 (p:=x) h;omega
theorem ahy{x g:Int}(hg:0<g)(hd:g ∣ x):ov x g=x/g:=by
 obtain⟨k,rfl⟩:=hd;have h1:decide (g<0)=false:=decide_eq_false (by omega);have h2:((g.natAbs:Nat):Int)=g:=by omega
 rw[Int.mul_ediv_cancel_left _ (by omega)];unfold ov;rw[h1,h2,Int.natAbs_mul];have h3:((g.natAbs*k.natAbs:Nat):Int)=g*(k.natAbs:Int):=by
  rw[Int.natCast_mul,h2]
 rw[h3,Int.mul_ediv_cancel_left _ (by omega)];by_cases hk:k<0
 ·have:g*k<0:=Int.mul_neg_of_pos_of_neg hg hk;simp[sg,this];omega
 ·have:¬g*k<0:=by
   have:=Int.mul_nonneg (show 0<=g by omega) (show 0<=k by omega);omega
  simp[sg,this];omega
theorem al7{x y:Int}(hy:0<y):ov x ((Int.gcd x y:Nat):Int)=nm x y/\ov y ((Int.gcd x y:Nat):Int)=dn x y:=by
 have hg:=ab9 (p:=x) (show y≠0 by omega);rw[ahy hg (Int.gcd_dvd_left x y),ahy hg (Int.gcd_dvd_right x y),nm,dn,Int.sign_eq_one_of_pos hy];simp
theorem ati{x y:Int}(hy:y<0):ov (-x) ((Int.gcd (-x) (-y):Nat):Int)=nm x y/\ov (-y) ((Int.gcd (-x) (-y):Nat):Int)=dn x y:=by
 have h:=al7 (x:=-x) (y:=-y) (by omega);rw[h.1,h.2];exact a0k (by omega) (by omega) (by grind)
section
end
theorem ayq(w:World)(Bx:Nat)(nx:Bool)(ax:Option Addr)(cx:Nat)(xs:List Int)(zx:Int)(Gx:Dm.Wh w nx ax cx xs zx)(Lx:xs.length<=Bx)(By:Nat)(ny:Bool)(ay:Option Addr)(cy:Nat)(ys:List Int)(zy:Int)(Gy:Dm.Wh w ny ay cy ys zy)(Ly:ys.length<=By)(hL:Bx<=300000)(hL2:By<=300000)(hy:zy≠0):
  Calls Tryz.prog 109 #[.agg #[.bool nx,.slice ax xs.length cx],.agg #[.bool ny,.slice ay ys.length cy]] w fun e w'=>∃v,e=.returned v/\(OutN (ov zx zy) Bx) v w'/\Below w.heap.size w w':=by
 go_enter Tryz.func109,Tryz.ntmps109
 generalize hA:(Act.mk _ _)=aa;have hn:aa.tmps.size=21:=by rw[<-hA];rfl
 have hd:aa.defers = []:=by rw[<-hA]
 have f0:aa.eval (.tmp 0)=.agg #[.bool nx,.slice ax xs.length cx]:=by rw[<-hA];rfl
 have f1:aa.eval (.tmp 1)=.agg #[.bool ny,.slice ay ys.length cy]:=by rw[<-hA];rfl
 clear hA;have HB:Below w.heap.size w w:=Below.refl _ _;refine wp_seq ?_;refine aao [some 2,some 3,some 4] [Tt,Tt,Tt] [⟨N2,some 0,0,2,.agg #[.bool nx,.slice ax xs.length cx],none,[]⟩,⟨N2,some 1,0,3,.agg #[.bool ny,.slice ay ys.length cy],none,[]⟩,⟨N2,some 2,0,4,.agg #[.bool false,.slice none 0 0],none,[]⟩] [] (by kernel_rfl) hn rfl (by kernel_rfl) (by kernel_rfl) (by kernel_rfl) (by kernel_rfl) (by kernel_rfl) (by kernel_rfl) ⟨True.mono4,True.mono4,True.mono4,trivial⟩ (aa0 N2ok (aa0 N2ok (aa0 N2ok aat))) (IsOld.all (bx:=[⟨N2,some 0,0,2,.agg #[.bool nx,.slice ax xs.length cx],none,[]⟩,⟨N2,some 1,0,3,.agg #[.bool ny,.slice ay ys.length cy],none,[]⟩,⟨N2,some 2,0,4,.agg #[.bool false,.slice none 0 0],none,[]⟩]) ⟨someNe,someNe,someNe,trivial⟩) (DisOld.all (bx:=[⟨N2,some 0,0,2,.agg #[.bool nx,.slice ax xs.length cx],none,[]⟩,⟨N2,some 1,0,3,.agg #[.bool ny,.slice ay ys.length cy],none,[]⟩,⟨N2,some 2,0,4,.agg #[.bool false,.slice none 0 0],none,[]⟩]) ⟨someNe,someNe,someNe,trivial⟩) ?_ ?_
 ·exact⟨.alloc 0 _ rfl rfl (.inr ⟨_,rfl,af0,fun a_ hR=>(hR 0 rfl).trans f0⟩) rfl rfl rfl rfl rfl,.alloc 1 _ rfl rfl (.inr ⟨_,rfl,af0,fun a_ hR=>(hR 1 rfl).trans f1⟩) rfl rfl rfl rfl rfl,.alloc 2 _ rfl rfl (.inl ⟨rfl,rfl⟩) rfl rfl rfl rfl rfl,trivial⟩
 ·intro a1 w1 gs1 hn1 hd1 hBt hr hR hP hX hU;replace hn:=hn1;replace hd:=hd1.trans hd;have ne2_4:gs1 0≠gs1 2:=hU 0 2 (by simp) (by simp) (by decide);have ne3_4:gs1 1≠gs1 2:=hU 1 2 (by simp) (by simp) (by decide);have b2:BoxV N2 w1 (gs1 0) (.agg #[.bool nx,.slice ax xs.length cx]):=(hX 0 _ rfl).2.2.2;have f2:=(hX 0 _ rfl).1;have u2:w.heap.size<=gs1 0:=Nat.le_trans HB.size ((hX 0 _ rfl).2.2.1 (by simp));have b3:BoxV N2 w1 (gs1 1) (.agg #[.bool ny,.slice ay ys.length cy]):=(hX 1 _ rfl).2.2.2;have f3:=(hX 1 _ rfl).1;have u3:w.heap.size<=gs1 1:=Nat.le_trans HB.size ((hX 1 _ rfl).2.2.1 (by simp));have b4:BoxV N2 w1 (gs1 2) (.agg #[.bool false,.slice none 0 0]):=(hX 2 _ rfl).2.2.2;have f4:=(hX 2 _ rfl).1;have u4:w.heap.size<=gs1 2:=Nat.le_trans HB.size ((hX 2 _ rfl).2.2.1 (by simp));replace Gx:=Gx.rl hr;replace Gy:=Gy.rl hr;replace HB:=HB.trans (hBt.below HB.size (UpOld.all (bx:=[⟨N2,some 0,0,2,.agg #[.bool nx,.slice ax xs.length cx],none,[]⟩,⟨N2,some 1,0,3,.agg #[.bool ny,.slice ay ys.length cy],none,[]⟩,⟨N2,some 2,0,4,.agg #[.bool false,.slice none 0 0],none,[]⟩]) ⟨someNe,someNe,someNe,trivial⟩));clear hBt hr hR hP hX hU;refine wp_seq ?_;refine aao [some 8,some 9,some 10,some 7,some 11,some 12,some 5,some 6,none,none] [Eqs (.agg #[.bool nx,.slice ax xs.length cx]),Eqs (.agg #[.bool ny,.slice ay ys.length cy]),Tup2 (OutN ((((zx).natAbs:Int)/((zy).natAbs:Int))) (Bx)) (OutN ((((zx).natAbs:Int)%((zy).natAbs:Int))) (By)),Tup2 (OutN ((((zx).natAbs:Int)/((zy).natAbs:Int))) (Bx)) (OutN ((((zx).natAbs:Int)%((zy).natAbs:Int))) (By)),OutN ((((zx).natAbs:Int)/((zy).natAbs:Int))) (Bx),OutN ((((zx).natAbs:Int)%((zy).natAbs:Int))) (By),Tt,Tt,Tt,Tt] [⟨N2,some 6,0,5,.agg #[.bool false,.slice none 0 0],some (8,11,4),[]⟩,⟨N2,some 7,0,6,.agg #[.bool false,.slice none 0 0],some (9,12,5),[]⟩] [] (by kernel_rfl) hn rfl (by kernel_rfl) (by kernel_rfl) (by kernel_rfl) (by kernel_rfl) (by kernel_rfl) (by kernel_rfl) ⟨Eqs.mono4 _,Eqs.mono4 _,Tup2.mono4 (OutN.mono4 _ _) (OutN.mono4 _ _),Tup2.mono4 (OutN.mono4 _ _) (OutN.mono4 _ _),OutN.mono4 _ _,OutN.mono4 _ _,True.mono4,True.mono4,True.mono4,True.mono4,trivial⟩ (aa0 N2ok (aa0 N2ok aat)) (IsOld.all (bx:=[⟨N2,some 6,0,5,.agg #[.bool false,.slice none 0 0],some (8,11,4),[]⟩,⟨N2,some 7,0,6,.agg #[.bool false,.slice none 0 0],some (9,12,5),[]⟩]) ⟨someNe,someNe,trivial⟩) (DisOld.all (bx:=[⟨N2,some 6,0,5,.agg #[.bool false,.slice none 0 0],some (8,11,4),[]⟩,⟨N2,some 7,0,6,.agg #[.bool false,.slice none 0 0],some (9,12,5),[]⟩]) ⟨someNe,someNe,trivial⟩) ?_ ?_
  ·exact⟨.norm 8 rfl rfl rfl (fun a_ w_ _ t r R D _ _=>aa3 N2ok ((R 2 rfl).trans f2) (b2.keep t ⟨someNe,someNe,trivial⟩)),.norm 9 rfl rfl rfl (fun a_ w_ _ t r R D _ _=>aa3 N2ok ((R 3 rfl).trans f3) (b3.keep t ⟨someNe,someNe,trivial⟩)),.norm 10 rfl rfl rfl (fun a_ w_ _ t r R D _ _=>anb (aa9 (show a_.eval (.tmp 8)=.agg #[.bool nx,.slice ax xs.length cx]from D 0 rfl) (Gx.rl r) Lx) (aa9 (show a_.eval (.tmp 9)=.agg #[.bool ny,.slice ay ys.length cy]from D 1 rfl) (Gy.rl r) Ly) (by omega) (by omega) hy),.norm 7 rfl rfl rfl (fun a_ w_ _ t r R D _ _=>azu (p:=Tup2 (OutN ((((zx).natAbs:Int)/((zy).natAbs:Int))) (Bx)) (OutN ((((zx).natAbs:Int)%((zy).natAbs:Int))) (By))) (show Tup2 (OutN ((((zx).natAbs:Int)/((zy).natAbs:Int))) (Bx)) (OutN ((((zx).natAbs:Int)%((zy).natAbs:Int))) (By)) (a_.eval (.tmp 10)) w_ from D 2 rfl)),.norm 11 rfl rfl rfl (fun a_ w_ _ t r R D _ _=>axo (show Tup2 (OutN ((((zx).natAbs:Int)/((zy).natAbs:Int))) (Bx)) (OutN ((((zx).natAbs:Int)%((zy).natAbs:Int))) (By)) (a_.eval (.tmp 7)) w_ from D 3 rfl)),.norm 12 rfl rfl rfl (fun a_ w_ _ t r R D _ _=>axp (show Tup2 (OutN ((((zx).natAbs:Int)/((zy).natAbs:Int))) (Bx)) (OutN ((((zx).natAbs:Int)%((zy).natAbs:Int))) (By)) (a_.eval (.tmp 7)) w_ from D 3 rfl)),.alloc 0 _ rfl rfl (.inl ⟨rfl,rfl⟩) rfl rfl rfl rfl rfl,.alloc 1 _ rfl rfl (.inl ⟨rfl,rfl⟩) rfl rfl rfl rfl rfl,.store 0 _ _ _ rfl rfl rfl rfl rfl rfl rfl (fun ia h=>by cases h;rfl) rfl rfl rfl OutN.cs,.store 1 _ _ _ rfl rfl rfl rfl rfl rfl rfl (fun ia h=>by cases h;rfl) rfl rfl rfl OutN.cs,trivial⟩
  ·intro a2 w2 gs2 hn2 hd2 hBt hr hR hP hX hU;replace hn:=hn2;replace hd:=hd2.trans hd;have ne2_5:(gs1 0)≠gs2 0:=by have h1:=b2.lt;have h2:=(hX 0 _ rfl).2.2.1 (by simp);omega
   have ne3_5:(gs1 1)≠gs2 0:=by have h1:=b3.lt;have h2:=(hX 0 _ rfl).2.2.1 (by simp);omega
   have ne4_5:(gs1 2)≠gs2 0:=by have h1:=b4.lt;have h2:=(hX 0 _ rfl).2.2.1 (by simp);omega
   replace b2:=b2.keep hBt ⟨someNe,someNe,trivial⟩;replace b3:=b3.keep hBt ⟨someNe,someNe,trivial⟩;replace b4:=b4.keep hBt ⟨someNe,someNe,trivial⟩;obtain⟨n_3,a_3,c_3,r_3,e11,G3,l3⟩:OutN ((((zx).natAbs:Int)/((zy).natAbs:Int))) (Bx) (a2.eval (.tmp 11)) w2:=hP 4 (by decide);have b5:BoxV N2 w2 (gs2 0) (.agg #[.bool n_3,.slice a_3 r_3.length c_3]):=agv (hX 0 _ rfl).2.2.2 e11;have f5:=(hX 0 _ rfl).1;have u5:w.heap.size<=gs2 0:=Nat.le_trans HB.size ((hX 0 _ rfl).2.2.1 (by simp));replace f2:=(hR 2 rfl).trans f2;replace f3:=(hR 3 rfl).trans f3;replace f4:=(hR 4 rfl).trans f4;replace Gx:=Gx.rl hr;replace Gy:=Gy.rl hr;replace HB:=HB.trans (hBt.below HB.size (UpOld.all (bx:=[⟨N2,some 6,0,5,.agg #[.bool false,.slice none 0 0],some (8,11,4),[]⟩,⟨N2,some 7,0,6,.agg #[.bool false,.slice none 0 0],some (9,12,5),[]⟩]) ⟨someNe,someNe,trivial⟩));clear hBt hr hR hP hX hU;refine wp_seq ?_;refine wp_seq ?_;refine aao [some 13,some 14,some 15,some 16,some 17] [Eqs (.pointer (some ⟨gs1 0,0,none⟩)),Eqs (.bool nx),Eqs (.pointer (some ⟨gs1 1,0,none⟩)),Eqs (.bool ny),Eqs (.bool (nx != ny))] [] [] (by kernel_rfl) hn rfl (by kernel_rfl) (by kernel_rfl) (by kernel_rfl) (by kernel_rfl) (by kernel_rfl) (by kernel_rfl) ⟨Eqs.mono4 _,Eqs.mono4 _,Eqs.mono4 _,Eqs.mono4 _,Eqs.mono4 _,trivial⟩ aat (IsOld.all (bx:=[]) trivial) (DisOld.all (bx:=[]) trivial) ?_ ?_
   ·exact⟨.norm 13 rfl rfl rfl (fun a_ w_ _ t r R D _ _=>ait ajj ((R 2 rfl).trans f2)),.norm 14 rfl rfl rfl (fun a_ w_ _ t r R D _ _=>agj (show a_.eval (.tmp 13)=.pointer (some ⟨gs1 0,0,none⟩)from D 0 rfl) (b2.keep t trivial)),.norm 15 rfl rfl rfl (fun a_ w_ _ t r R D _ _=>ait ajj ((R 3 rfl).trans f3)),.norm 16 rfl rfl rfl (fun a_ w_ _ t r R D _ _=>agj (show a_.eval (.tmp 15)=.pointer (some ⟨gs1 1,0,none⟩)from D 2 rfl) (b3.keep t trivial)),.norm 17 rfl rfl rfl (fun a_ w_ _ t r R D _ _=>axq (show a_.eval (.tmp 14)=.bool nx from D 1 rfl) (show a_.eval (.tmp 16)=.bool ny from D 3 rfl)),trivial⟩
   ·intro a4 w4 gs4 hn4 hd4 hBt hr hR hP hX hU;replace hn:=hn4;replace hd:=hd4.trans hd;replace b4:=b4.keep hBt trivial;replace b5:=b5.keep hBt trivial;replace f4:=(hR 4 rfl).trans f4;replace f5:=(hR 5 rfl).trans f5;have e17:a4.eval (.tmp 17)=.bool (nx != ny):=hP 4 (by decide);have f17:=e17;replace Gx:=Gx.rl hr;replace Gy:=Gy.rl hr;replace G3:=G3.rl hr;replace HB:=HB.trans (hBt.below HB.size (UpOld.all (bx:=[]) trivial));clear hBt hr hR hP hX hU;refine wp_cond_split f17 (fun hc17=>?_) (fun hc17=>?_)
    ·skip;refine aao [some 18,some 19,none] [Eqs (.agg #[.bool n_3,.slice a_3 r_3.length c_3]),OutN ((-(((zx).natAbs:Int)/((zy).natAbs:Int)))) (Bx),Tt] [⟨N2,none,(gs2 0),5,.agg #[.bool n_3,.slice a_3 r_3.length c_3],some (2,19,1),[0]⟩] [] (by kernel_rfl) hn rfl (by kernel_rfl) (by kernel_rfl) (by kernel_rfl) (by kernel_rfl) (by kernel_rfl) (by kernel_rfl) ⟨Eqs.mono4 _,OutN.mono4 _ _,True.mono4,trivial⟩ (aa0 N2ok aat) (IsOld.all (bx:=[⟨N2,none,(gs2 0),5,.agg #[.bool n_3,.slice a_3 r_3.length c_3],some (2,19,1),[0]⟩]) ⟨fun _=>⟨f5,b5⟩,trivial⟩) (DisOld.all (bx:=[⟨N2,none,(gs2 0),5,.agg #[.bool n_3,.slice a_3 r_3.length c_3],some (2,19,1),[0]⟩]) ⟨fun _=>trivial,trivial⟩) ?_ ?_
     ·exact⟨.norm 18 rfl rfl rfl (fun a_ w_ _ t r R D hO _=>aa3 N2ok ((R 5 rfl).trans f5) (hO 0 _ rfl rfl rfl)),.norm 19 rfl rfl rfl (fun a_ w_ _ t r R D _ _=>agk (aa9 (show a_.eval (.tmp 18)=.agg #[.bool n_3,.slice a_3 r_3.length c_3]from D 0 rfl) (G3.rl r) l3) (by omega)),.store 0 _ _ _ rfl rfl rfl rfl rfl rfl rfl (fun ia h=>by cases h) rfl rfl rfl OutN.cs,trivial⟩
     ·intro a5 w5 gs5 hn5 hd5 hBt hr hR hP hX hU;replace hn:=hn5;replace hd:=hd5.trans hd;replace b4:=b4.keep hBt ⟨fun _=>ne4_5.symm,trivial⟩;obtain⟨n_6,a_6,c_6,r_6,e19,G6,l6⟩:OutN ((-(((zx).natAbs:Int)/((zy).natAbs:Int)))) (Bx) (a5.eval (.tmp 19)) w5:=hP 1 (by decide);have b5:BoxV N2 w5 ((gs2 0)) (.agg #[.bool n_6,.slice a_6 r_6.length c_6]):=aci ((hX 0 _ rfl).2.1 rfl) (hX 0 _ rfl).2.2.2 e19;replace f5:a5.eval (.tmp 5)=_:=(hR 5 rfl).trans f5;replace f4:=(hR 4 rfl).trans f4;replace Gx:=Gx.rl hr;replace Gy:=Gy.rl hr;replace G3:=G3.rl hr;replace HB:=HB.trans (hBt.below HB.size (UpOld.all (bx:=[⟨N2,none,(gs2 0),5,.agg #[.bool n_3,.slice a_3 r_3.length c_3],some (2,19,1),[0]⟩]) ⟨fun _=>u5,trivial⟩));clear hBt hr hR hP hX hU;refine wp_seq ?_;refine aao [some 20,none] [Eqs (.agg #[.bool n_6,.slice a_6 r_6.length c_6]),Tt] [⟨N2,none,(gs1 2),4,.agg #[.bool false,.slice none 0 0],some (1,20,0),[]⟩] [] (by kernel_rfl) hn rfl (by kernel_rfl) (by kernel_rfl) (by kernel_rfl) (by kernel_rfl) (by kernel_rfl) (by kernel_rfl) ⟨Eqs.mono4 _,True.mono4,trivial⟩ (aa0 N2ok aat) (IsOld.all (bx:=[⟨N2,none,(gs1 2),4,.agg #[.bool false,.slice none 0 0],some (1,20,0),[]⟩]) ⟨fun _=>⟨f4,b4⟩,trivial⟩) (DisOld.all (bx:=[⟨N2,none,(gs1 2),4,.agg #[.bool false,.slice none 0 0],some (1,20,0),[]⟩]) ⟨fun _=>trivial,trivial⟩) ?_ ?_
      ·exact⟨.norm 20 rfl rfl rfl (fun a_ w_ _ t r R D _ _=>aa3 N2ok ((R 5 rfl).trans f5) (b5.keep t ⟨fun _=>ne4_5,trivial⟩)),.store 0 _ _ _ rfl rfl rfl rfl rfl rfl rfl (fun ia h=>by cases h) rfl rfl rfl (aig af0),trivial⟩
      ·intro a7 w7 gs7 hn7 hd7 hBt hr hR hP hX hU;replace hn:=hn7;replace hd:=hd7.trans hd;have e20:a7.eval (.tmp 20)=.agg #[.bool n_6,.slice a_6 r_6.length c_6]:=hP 0 (by decide);have b4:BoxV N2 w7 ((gs1 2)) (.agg #[.bool n_6,.slice a_6 r_6.length c_6]):=aci ((hX 0 _ rfl).2.1 rfl) (hX 0 _ rfl).2.2.2 e20;replace f4:a7.eval (.tmp 4)=_:=(hR 4 rfl).trans f4;replace Gx:=Gx.rl hr;replace Gy:=Gy.rl hr;replace G3:=G3.rl hr;replace G6:=G6.rl hr;replace HB:=HB.trans (hBt.below HB.size (UpOld.all (bx:=[⟨N2,none,(gs1 2),4,.agg #[.bool false,.slice none 0 0],some (1,20,0),[]⟩]) ⟨fun _=>u4,trivial⟩));clear hBt hr hR hP hX hU;refine wp_ret ?_;repeat(first|refine ab3 ?_|refine aba ?_|refine abw ?_)
       exact bodyPost_ret (v:=.agg #[.bool n_6,.slice a_6 r_6.length c_6]) (aby rfl f4 (aw2 b4)) hd ⟨_,rfl,OutN.to (aa9 rfl G6 l6) (by rw[ov,<-Gx.2,<-Gy.2,hc17];rfl) (by omega),HB⟩
    ·skip;refine wp_skip ?_;refine wp_seq ?_;refine aao [some 20,none] [Eqs (.agg #[.bool n_3,.slice a_3 r_3.length c_3]),Tt] [⟨N2,none,(gs1 2),4,.agg #[.bool false,.slice none 0 0],some (1,20,0),[]⟩] [] (by kernel_rfl) hn rfl (by kernel_rfl) (by kernel_rfl) (by kernel_rfl) (by kernel_rfl) (by kernel_rfl) (by kernel_rfl) ⟨Eqs.mono4 _,True.mono4,trivial⟩ (aa0 N2ok aat) (IsOld.all (bx:=[⟨N2,none,(gs1 2),4,.agg #[.bool false,.slice none 0 0],some (1,20,0),[]⟩]) ⟨fun _=>⟨f4,b4⟩,trivial⟩) (DisOld.all (bx:=[⟨N2,none,(gs1 2),4,.agg #[.bool false,.slice none 0 0],some (1,20,0),[]⟩]) ⟨fun _=>trivial,trivial⟩) ?_ ?_
     ·exact⟨.norm 20 rfl rfl rfl (fun a_ w_ _ t r R D _ _=>aa3 N2ok ((R 5 rfl).trans f5) (b5.keep t ⟨fun _=>ne4_5,trivial⟩)),.store 0 _ _ _ rfl rfl rfl rfl rfl rfl rfl (fun ia h=>by cases h) rfl rfl rfl (aig af0),trivial⟩
     ·intro a8 w8 gs8 hn8 hd8 hBt hr hR hP hX hU;replace hn:=hn8;replace hd:=hd8.trans hd;have e20:a8.eval (.tmp 20)=.agg #[.bool n_3,.slice a_3 r_3.length c_3]:=hP 0 (by decide);have b4:BoxV N2 w8 ((gs1 2)) (.agg #[.bool n_3,.slice a_3 r_3.length c_3]):=aci ((hX 0 _ rfl).2.1 rfl) (hX 0 _ rfl).2.2.2 e20;replace f4:a8.eval (.tmp 4)=_:=(hR 4 rfl).trans f4;replace Gx:=Gx.rl hr;replace Gy:=Gy.rl hr;replace G3:=G3.rl hr;replace HB:=HB.trans (hBt.below HB.size (UpOld.all (bx:=[⟨N2,none,(gs1 2),4,.agg #[.bool false,.slice none 0 0],some (1,20,0),[]⟩]) ⟨fun _=>u4,trivial⟩));clear hBt hr hR hP hX hU;refine wp_ret ?_;repeat(first|refine ab3 ?_|refine aba ?_|refine abw ?_)
      exact bodyPost_ret (v:=.agg #[.bool n_3,.slice a_3 r_3.length c_3]) (aby rfl f4 (aw2 b4)) hd ⟨_,rfl,OutN.to (aa9 rfl G3 l3) (by rw[ov,<-Gx.2,<-Gy.2,hc17];rfl) (by omega),HB⟩
theorem atj:Has Tryz.prog 109:=by unfold Has;kernel_rfl
theorem aeu{dst:Option Tmp}{ty:TypeId}{pos:String}{after:Array Edge}{guard:Option (Nat×Bool)}{a:Act}{w:World}{ats:Array TypeId}{i j:Nat}{Bx:Nat}{zx:Int}(Hx:OutN zx Bx (a.eval (.tmp i)) w){By:Nat}{zy:Int}(Hy:OutN zy By (a.eval (.tmp j)) w)(hL:Bx<=300000)(hL2:By<=300000)(hy:zy≠0):
  Does Tryz.prog {dst,op:=.call {callee:=.value (.func 109),args:=#[.tmp i,.tmp j],argTypes:=ats},type:=ty,pos,after,guard} a.eval w fun v w'=>Below w.heap.size w w'/\(OutN (ov zx zy) Bx) v w':=by
 obtain⟨nx,ax,cx,xs,ex,Gx,Lx⟩:=Hx;obtain⟨ny,ay,cy,ys,ey,Gy,Ly⟩:=Hy;refine aaq atj _ (by simp only[List.map_toArray,List.map_cons,List.map_nil,ex,ey]) ((ayq w Bx _ _ _ _ _ Gx Lx By _ _ _ _ _ Gy Ly hL hL2 hy).mono ?_);rintro e w' ⟨v,rfl,h1,hb⟩;exact⟨_,rfl,hb,h1⟩
theorem ayr(w:World)(Bx:Nat)(nx:Bool)(ax:Option Addr)(cx:Nat)(xs:List Int)(zx:Int)(Gx:Dm.Wh w nx ax cx xs zx)(Lx:xs.length<=Bx)(By:Nat)(ny:Bool)(ay:Option Addr)(cy:Nat)(ys:List Int)(zy:Int)(Gy:Dm.Wh w ny ay cy ys zy)(Ly:ys.length<=By)(hL:Bx+By<=300000)(hy:zy≠0):
  Calls Tryz.prog 66 #[.agg #[.bool nx,.slice ax xs.length cx],.agg #[.bool ny,.slice ay ys.length cy]] w fun e w'=>∃v,e=.returned v/\(OutQ (nm zx zy) (dn zx zy) (Bx+By)) v w'/\Below w.heap.size w w':=by
 go_enter Tryz.func66,Tryz.ntmps66
 generalize hA:(Act.mk _ _)=aa;have hn:aa.tmps.size=22:=by rw[<-hA];rfl
 have hd:aa.defers = []:=by rw[<-hA]
 have f0:aa.eval (.tmp 0)=.agg #[.bool nx,.slice ax xs.length cx]:=by rw[<-hA];rfl
 have f1:aa.eval (.tmp 1)=.agg #[.bool ny,.slice ay ys.length cy]:=by rw[<-hA];rfl
 clear hA;have HB:Below w.heap.size w w:=Below.refl _ _;refine wp_seq ?_;refine aao [some 2,some 3,some 4] [Tt,Tt,Tt] [⟨N2,some 0,0,2,.agg #[.bool nx,.slice ax xs.length cx],none,[]⟩,⟨N2,some 1,0,3,.agg #[.bool ny,.slice ay ys.length cy],none,[]⟩,⟨Q4,some 2,0,4,.agg #[.bool false,.slice none 0 0,.bool false,.slice none 0 0],none,[]⟩] [] (by kernel_rfl) hn rfl (by kernel_rfl) (by kernel_rfl) (by kernel_rfl) (by kernel_rfl) (by kernel_rfl) (by kernel_rfl) ⟨True.mono4,True.mono4,True.mono4,trivial⟩ (aa0 N2ok (aa0 N2ok (aa0 Q4ok aat))) (IsOld.all (bx:=[⟨N2,some 0,0,2,.agg #[.bool nx,.slice ax xs.length cx],none,[]⟩,⟨N2,some 1,0,3,.agg #[.bool ny,.slice ay ys.length cy],none,[]⟩,⟨Q4,some 2,0,4,.agg #[.bool false,.slice none 0 0,.bool false,.slice none 0 0],none,[]⟩]) ⟨someNe,someNe,someNe,trivial⟩) (DisOld.all (bx:=[⟨N2,some 0,0,2,.agg #[.bool nx,.slice ax xs.length cx],none,[]⟩,⟨N2,some 1,0,3,.agg #[.bool ny,.slice ay ys.length cy],none,[]⟩,⟨Q4,some 2,0,4,.agg #[.bool false,.slice none 0 0,.bool false,.slice none 0 0],none,[]⟩]) ⟨someNe,someNe,someNe,trivial⟩) ?_ ?_
 ·exact⟨.alloc 0 _ rfl rfl (.inr ⟨_,rfl,af0,fun a_ hR=>(hR 0 rfl).trans f0⟩) rfl rfl rfl rfl rfl,.alloc 1 _ rfl rfl (.inr ⟨_,rfl,af0,fun a_ hR=>(hR 1 rfl).trans f1⟩) rfl rfl rfl rfl rfl,.alloc 2 _ rfl rfl (.inl ⟨rfl,rfl⟩) rfl rfl rfl rfl rfl,trivial⟩
 ·intro a1 w1 gs1 hn1 hd1 hBt hr hR hP hX hU;replace hn:=hn1;replace hd:=hd1.trans hd;have ne2_3:gs1 0≠gs1 1:=hU 0 1 (by simp) (by simp) (by decide);have ne2_4:gs1 0≠gs1 2:=hU 0 2 (by simp) (by simp) (by decide);have ne3_4:gs1 1≠gs1 2:=hU 1 2 (by simp) (by simp) (by decide);have b2:BoxV N2 w1 (gs1 0) (.agg #[.bool nx,.slice ax xs.length cx]):=(hX 0 _ rfl).2.2.2;have f2:=(hX 0 _ rfl).1;have u2:w.heap.size<=gs1 0:=Nat.le_trans HB.size ((hX 0 _ rfl).2.2.1 (by simp));have b3:BoxV N2 w1 (gs1 1) (.agg #[.bool ny,.slice ay ys.length cy]):=(hX 1 _ rfl).2.2.2;have f3:=(hX 1 _ rfl).1;have u3:w.heap.size<=gs1 1:=Nat.le_trans HB.size ((hX 1 _ rfl).2.2.1 (by simp));have b4:BoxV Q4 w1 (gs1 2) (.agg #[.bool false,.slice none 0 0,.bool false,.slice none 0 0]):=(hX 2 _ rfl).2.2.2;have f4:=(hX 2 _ rfl).1;have u4:w.heap.size<=gs1 2:=Nat.le_trans HB.size ((hX 2 _ rfl).2.2.1 (by simp));replace Gx:=Gx.rl hr;replace Gy:=Gy.rl hr;replace HB:=HB.trans (hBt.below HB.size (UpOld.all (bx:=[⟨N2,some 0,0,2,.agg #[.bool nx,.slice ax xs.length cx],none,[]⟩,⟨N2,some 1,0,3,.agg #[.bool ny,.slice ay ys.length cy],none,[]⟩,⟨Q4,some 2,0,4,.agg #[.bool false,.slice none 0 0,.bool false,.slice none 0 0],none,[]⟩]) ⟨someNe,someNe,someNe,trivial⟩));clear hBt hr hR hP hX hU;refine wp_seq ?_;refine wp_seq ?_;refine aao [some 6,some 7] [Eqs (.pointer (some ⟨gs1 1,0,none⟩)),Eqs (.bool ny)] [] [] (by kernel_rfl) hn rfl (by kernel_rfl) (by kernel_rfl) (by kernel_rfl) (by kernel_rfl) (by kernel_rfl) (by kernel_rfl) ⟨Eqs.mono4 _,Eqs.mono4 _,trivial⟩ aat (IsOld.all (bx:=[]) trivial) (DisOld.all (bx:=[]) trivial) ?_ ?_
  ·exact⟨.norm 6 rfl rfl rfl (fun a_ w_ _ t r R D _ _=>ait ajj ((R 3 rfl).trans f3)),.norm 7 rfl rfl rfl (fun a_ w_ _ t r R D _ _=>agj (show a_.eval (.tmp 6)=.pointer (some ⟨gs1 1,0,none⟩)from D 0 rfl) (b3.keep t trivial)),trivial⟩
  ·intro a2 w2 gs2 hn2 hd2 hBt hr hR hP hX hU;replace hn:=hn2;replace hd:=hd2.trans hd;replace b2:=b2.keep hBt trivial;replace b3:=b3.keep hBt trivial;replace b4:=b4.keep hBt trivial;replace f2:=(hR 2 rfl).trans f2;replace f3:=(hR 3 rfl).trans f3;replace f4:=(hR 4 rfl).trans f4;have e7:a2.eval (.tmp 7)=.bool ny:=hP 1 (by decide);have f7:=e7;replace Gx:=Gx.rl hr;replace Gy:=Gy.rl hr;replace HB:=HB.trans (hBt.below HB.size (UpOld.all (bx:=[]) trivial));clear hBt hr hR hP hX hU;refine wp_cond_split f7 (fun hc7=>?_) (fun hc7=>?_)
   ·skip;have hc7':zy<0:=by have h:=Gy.2;rw[hc7]at h;exact of_decide_eq_true h.symm
    refine wp_seq ?_;refine aao [some 8,some 9,none] [Eqs (.agg #[.bool nx,.slice ax xs.length cx]),OutN ((-zx)) (Bx),Tt] [⟨N2,none,(gs1 0),2,.agg #[.bool nx,.slice ax xs.length cx],some (2,9,1),[0]⟩] [] (by kernel_rfl) hn rfl (by kernel_rfl) (by kernel_rfl) (by kernel_rfl) (by kernel_rfl) (by kernel_rfl) (by kernel_rfl) ⟨Eqs.mono4 _,OutN.mono4 _ _,True.mono4,trivial⟩ (aa0 N2ok aat) (IsOld.all (bx:=[⟨N2,none,(gs1 0),2,.agg #[.bool nx,.slice ax xs.length cx],some (2,9,1),[0]⟩]) ⟨fun _=>⟨f2,b2⟩,trivial⟩) (DisOld.all (bx:=[⟨N2,none,(gs1 0),2,.agg #[.bool nx,.slice ax xs.length cx],some (2,9,1),[0]⟩]) ⟨fun _=>trivial,trivial⟩) ?_ ?_
    ·exact⟨.norm 8 rfl rfl rfl (fun a_ w_ _ t r R D hO _=>aa3 N2ok ((R 2 rfl).trans f2) (hO 0 _ rfl rfl rfl)),.norm 9 rfl rfl rfl (fun a_ w_ _ t r R D _ _=>agk (aa9 (show a_.eval (.tmp 8)=.agg #[.bool nx,.slice ax xs.length cx]from D 0 rfl) (Gx.rl r) Lx) (by omega)),.store 0 _ _ _ rfl rfl rfl rfl rfl rfl rfl (fun ia h=>by cases h) rfl rfl rfl OutN.cs,trivial⟩
    ·intro a3 w3 gs3 hn3 hd3 hBt hr hR hP hX hU;replace hn:=hn3;replace hd:=hd3.trans hd;replace b3:=b3.keep hBt ⟨fun _=>ne2_3,trivial⟩;replace b4:=b4.keep hBt ⟨fun _=>ne2_4,trivial⟩;obtain⟨n_4,a_4,c_4,r_4,e9,G4,l4⟩:OutN ((-zx)) (Bx) (a3.eval (.tmp 9)) w3:=hP 1 (by decide);have b2:BoxV N2 w3 ((gs1 0)) (.agg #[.bool n_4,.slice a_4 r_4.length c_4]):=aci ((hX 0 _ rfl).2.1 rfl) (hX 0 _ rfl).2.2.2 e9;replace f2:a3.eval (.tmp 2)=_:=(hR 2 rfl).trans f2;replace f3:=(hR 3 rfl).trans f3;replace f4:=(hR 4 rfl).trans f4;replace Gx:=Gx.rl hr;replace Gy:=Gy.rl hr;replace HB:=HB.trans (hBt.below HB.size (UpOld.all (bx:=[⟨N2,none,(gs1 0),2,.agg #[.bool nx,.slice ax xs.length cx],some (2,9,1),[0]⟩]) ⟨fun _=>u2,trivial⟩));clear hBt hr hR hP hX hU;refine aao [some 10,some 11,none] [Eqs (.agg #[.bool ny,.slice ay ys.length cy]),OutN ((-zy)) (By),Tt] [⟨N2,none,(gs1 1),3,.agg #[.bool ny,.slice ay ys.length cy],some (2,11,1),[0]⟩] [] (by kernel_rfl) hn rfl (by kernel_rfl) (by kernel_rfl) (by kernel_rfl) (by kernel_rfl) (by kernel_rfl) (by kernel_rfl) ⟨Eqs.mono4 _,OutN.mono4 _ _,True.mono4,trivial⟩ (aa0 N2ok aat) (IsOld.all (bx:=[⟨N2,none,(gs1 1),3,.agg #[.bool ny,.slice ay ys.length cy],some (2,11,1),[0]⟩]) ⟨fun _=>⟨f3,b3⟩,trivial⟩) (DisOld.all (bx:=[⟨N2,none,(gs1 1),3,.agg #[.bool ny,.slice ay ys.length cy],some (2,11,1),[0]⟩]) ⟨fun _=>trivial,trivial⟩) ?_ ?_
     ·exact⟨.norm 10 rfl rfl rfl (fun a_ w_ _ t r R D hO _=>aa3 N2ok ((R 3 rfl).trans f3) (hO 0 _ rfl rfl rfl)),.norm 11 rfl rfl rfl (fun a_ w_ _ t r R D _ _=>agk (aa9 (show a_.eval (.tmp 10)=.agg #[.bool ny,.slice ay ys.length cy]from D 0 rfl) (Gy.rl r) Ly) (by omega)),.store 0 _ _ _ rfl rfl rfl rfl rfl rfl rfl (fun ia h=>by cases h) rfl rfl rfl OutN.cs,trivial⟩
     ·intro a5 w5 gs5 hn5 hd5 hBt hr hR hP hX hU;replace hn:=hn5;replace hd:=hd5.trans hd;replace b2:=b2.keep hBt ⟨fun _=>ne2_3.symm,trivial⟩;replace b4:=b4.keep hBt ⟨fun _=>ne3_4,trivial⟩;obtain⟨n_6,a_6,c_6,r_6,e11,G6,l6⟩:OutN ((-zy)) (By) (a5.eval (.tmp 11)) w5:=hP 1 (by decide);have b3:BoxV N2 w5 ((gs1 1)) (.agg #[.bool n_6,.slice a_6 r_6.length c_6]):=aci ((hX 0 _ rfl).2.1 rfl) (hX 0 _ rfl).2.2.2 e11;replace f3:a5.eval (.tmp 3)=_:=(hR 3 rfl).trans f3;replace f2:=(hR 2 rfl).trans f2;replace f4:=(hR 4 rfl).trans f4;replace Gx:=Gx.rl hr;replace Gy:=Gy.rl hr;replace G4:=G4.rl hr;replace HB:=HB.trans (hBt.below HB.size (UpOld.all (bx:=[⟨N2,none,(gs1 1),3,.agg #[.bool ny,.slice ay ys.length cy],some (2,11,1),[0]⟩]) ⟨fun _=>u3,trivial⟩));clear hBt hr hR hP hX hU;refine wp_seq ?_;refine aao [some 12,some 13,some 14,some 5,none] [Eqs (.agg #[.bool n_4,.slice a_4 r_4.length c_4]),Eqs (.agg #[.bool n_6,.slice a_6 r_6.length c_6]),OutN (((Int.gcd (-zx) (-zy):Nat):Int)) ((Bx)+(By)),Tt,Tt] [⟨N2,some 3,0,5,.agg #[.bool false,.slice none 0 0],some (4,14,2),[]⟩] [] (by kernel_rfl) hn rfl (by kernel_rfl) (by kernel_rfl) (by kernel_rfl) (by kernel_rfl) (by kernel_rfl) (by kernel_rfl) ⟨Eqs.mono4 _,Eqs.mono4 _,OutN.mono4 _ _,True.mono4,True.mono4,trivial⟩ (aa0 N2ok aat) (IsOld.all (bx:=[⟨N2,some 3,0,5,.agg #[.bool false,.slice none 0 0],some (4,14,2),[]⟩]) ⟨someNe,trivial⟩) (DisOld.all (bx:=[⟨N2,some 3,0,5,.agg #[.bool false,.slice none 0 0],some (4,14,2),[]⟩]) ⟨someNe,trivial⟩) ?_ ?_
      ·exact⟨.norm 12 rfl rfl rfl (fun a_ w_ _ t r R D _ _=>aa3 N2ok ((R 2 rfl).trans f2) (b2.keep t ⟨someNe,trivial⟩)),.norm 13 rfl rfl rfl (fun a_ w_ _ t r R D _ _=>aa3 N2ok ((R 3 rfl).trans f3) (b3.keep t ⟨someNe,trivial⟩)),.norm 14 rfl rfl rfl (fun a_ w_ _ t r R D _ _=>ajk (L1:=Bx) (L2:=By) (aa9 (show a_.eval (.tmp 12)=.agg #[.bool n_4,.slice a_4 r_4.length c_4]from D 0 rfl) (G4.rl r) l4) (aa9 (show a_.eval (.tmp 13)=.agg #[.bool n_6,.slice a_6 r_6.length c_6]from D 1 rfl) (G6.rl r) l6) (by omega) (by omega)),.alloc 0 _ rfl rfl (.inl ⟨rfl,rfl⟩) rfl rfl rfl rfl rfl,.store 0 _ _ _ rfl rfl rfl rfl rfl rfl rfl (fun ia h=>by cases h;rfl) rfl rfl rfl OutN.cs,trivial⟩
      ·intro a7 w7 gs7 hn7 hd7 hBt hr hR hP hX hU;replace hn:=hn7;replace hd:=hd7.trans hd;have ne4_5:(gs1 2)≠gs7 0:=by have h1:=b4.lt;have h2:=(hX 0 _ rfl).2.2.1 (by simp);omega
       replace b2:=b2.keep hBt ⟨someNe,trivial⟩;replace b3:=b3.keep hBt ⟨someNe,trivial⟩;replace b4:=b4.keep hBt ⟨someNe,trivial⟩;obtain⟨n_8,a_8,c_8,r_8,e14,G8,l8⟩:OutN (((Int.gcd (-zx) (-zy):Nat):Int)) ((Bx)+(By)) (a7.eval (.tmp 14)) w7:=hP 2 (by decide);have b5:BoxV N2 w7 (gs7 0) (.agg #[.bool n_8,.slice a_8 r_8.length c_8]):=agv (hX 0 _ rfl).2.2.2 e14;have f5:=(hX 0 _ rfl).1;have u5:w.heap.size<=gs7 0:=Nat.le_trans HB.size ((hX 0 _ rfl).2.2.1 (by simp));replace f2:=(hR 2 rfl).trans f2;replace f3:=(hR 3 rfl).trans f3;replace f4:=(hR 4 rfl).trans f4;replace Gx:=Gx.rl hr;replace Gy:=Gy.rl hr;replace G4:=G4.rl hr;replace G6:=G6.rl hr;replace HB:=HB.trans (hBt.below HB.size (UpOld.all (bx:=[⟨N2,some 3,0,5,.agg #[.bool false,.slice none 0 0],some (4,14,2),[]⟩]) ⟨someNe,trivial⟩));clear hBt hr hR hP hX hU;refine wp_seq ?_;refine aao [some 15,some 16,some 17,some 18,some 19,some 20,some 21,none] [Eqs (.agg #[.bool n_4,.slice a_4 r_4.length c_4]),Eqs (.agg #[.bool n_8,.slice a_8 r_8.length c_8]),OutN ((ov (-zx) ((Int.gcd (-zx) (-zy):Nat):Int))) (Bx),Eqs (.agg #[.bool n_6,.slice a_6 r_6.length c_6]),Eqs (.agg #[.bool n_8,.slice a_8 r_8.length c_8]),OutN ((ov (-zy) ((Int.gcd (-zx) (-zy):Nat):Int))) (By),OutQ ((ov (-zx) ((Int.gcd (-zx) (-zy):Nat):Int))) ((ov (-zy) ((Int.gcd (-zx) (-zy):Nat):Int))) ((Bx)+(By)),Tt] [⟨Q4,none,(gs1 2),4,.agg #[.bool false,.slice none 0 0,.bool false,.slice none 0 0],some (7,21,6),[]⟩] [] (by kernel_rfl) hn rfl (by kernel_rfl) (by kernel_rfl) (by kernel_rfl) (by kernel_rfl) (by kernel_rfl) (by kernel_rfl) ⟨Eqs.mono4 _,Eqs.mono4 _,OutN.mono4 _ _,Eqs.mono4 _,Eqs.mono4 _,OutN.mono4 _ _,OutQ.mono4 _ _ _,True.mono4,trivial⟩ (aa0 Q4ok aat) (IsOld.all (bx:=[⟨Q4,none,(gs1 2),4,.agg #[.bool false,.slice none 0 0,.bool false,.slice none 0 0],some (7,21,6),[]⟩]) ⟨fun _=>⟨f4,b4⟩,trivial⟩) (DisOld.all (bx:=[⟨Q4,none,(gs1 2),4,.agg #[.bool false,.slice none 0 0,.bool false,.slice none 0 0],some (7,21,6),[]⟩]) ⟨fun _=>trivial,trivial⟩) ?_ ?_
       ·exact⟨.norm 15 rfl rfl rfl (fun a_ w_ _ t r R D _ _=>aa3 N2ok ((R 2 rfl).trans f2) (b2.keep t ⟨fun _=>ne2_4.symm,trivial⟩)),.norm 16 rfl rfl rfl (fun a_ w_ _ t r R D _ _=>aa3 N2ok ((R 5 rfl).trans f5) (b5.keep t ⟨fun _=>ne4_5,trivial⟩)),.norm 17 rfl rfl rfl (fun a_ w_ _ t r R D _ _=>aeu (aa9 (show a_.eval (.tmp 15)=.agg #[.bool n_4,.slice a_4 r_4.length c_4]from D 0 rfl) (G4.rl r) l4) (aa9 (show a_.eval (.tmp 16)=.agg #[.bool n_8,.slice a_8 r_8.length c_8]from D 1 rfl) (G8.rl r) l8) (by omega) (by omega) (aiy _ (by omega))),.norm 18 rfl rfl rfl (fun a_ w_ _ t r R D _ _=>aa3 N2ok ((R 3 rfl).trans f3) (b3.keep t ⟨fun _=>ne3_4.symm,trivial⟩)),.norm 19 rfl rfl rfl (fun a_ w_ _ t r R D _ _=>aa3 N2ok ((R 5 rfl).trans f5) (b5.keep t ⟨fun _=>ne4_5,trivial⟩)),.norm 20 rfl rfl rfl (fun a_ w_ _ t r R D _ _=>aeu (aa9 (show a_.eval (.tmp 18)=.agg #[.bool n_6,.slice a_6 r_6.length c_6]from D 3 rfl) (G6.rl r) l6) (aa9 (show a_.eval (.tmp 19)=.agg #[.bool n_8,.slice a_8 r_8.length c_8]from D 4 rfl) (G8.rl r) l8) (by omega) (by omega) (aiy _ (by omega))),.norm 21 rfl rfl rfl (fun a_ w_ _ t r R D _ _=>aw4 (L:=(Bx)+(By)) ((show OutN ((ov (-zx) ((Int.gcd (-zx) (-zy):Nat):Int))) (Bx) (a_.eval (.tmp 17)) w_ from D 2 rfl).to rfl (by omega)) ((show OutN ((ov (-zy) ((Int.gcd (-zx) (-zy):Nat):Int))) (By) (a_.eval (.tmp 20)) w_ from D 5 rfl).to rfl (by omega))),.store 0 _ _ _ rfl rfl rfl rfl rfl rfl rfl (fun ia h=>by cases h) rfl rfl rfl OutQ.cs,trivial⟩
       ·intro a9 w9 gs9 hn9 hd9 hBt hr hR hP hX hU;replace hn:=hn9;replace hd:=hd9.trans hd;obtain⟨n_10,a_10,c_10,r_10,o_10,b_10,d_10,s_10,e21,G10,K10,l10,k10⟩:OutQ ((ov (-zx) ((Int.gcd (-zx) (-zy):Nat):Int))) ((ov (-zy) ((Int.gcd (-zx) (-zy):Nat):Int))) ((Bx)+(By)) (a9.eval (.tmp 21)) w9:=hP 6 (by decide);have b4:BoxV Q4 w9 ((gs1 2)) (.agg #[.bool n_10,.slice a_10 r_10.length c_10,.bool o_10,.slice b_10 s_10.length d_10]):=aci ((hX 0 _ rfl).2.1 rfl) (hX 0 _ rfl).2.2.2 e21;replace f4:a9.eval (.tmp 4)=_:=(hR 4 rfl).trans f4;replace Gx:=Gx.rl hr;replace Gy:=Gy.rl hr;replace G4:=G4.rl hr;replace G6:=G6.rl hr;replace G8:=G8.rl hr;replace HB:=HB.trans (hBt.below HB.size (UpOld.all (bx:=[⟨Q4,none,(gs1 2),4,.agg #[.bool false,.slice none 0 0,.bool false,.slice none 0 0],some (7,21,6),[]⟩]) ⟨fun _=>u4,trivial⟩));clear hBt hr hR hP hX hU;refine wp_ret ?_;repeat(first|refine ab3 ?_|refine aba ?_|refine abw ?_)
        exact bodyPost_ret (v:=.agg #[.bool n_10,.slice a_10 r_10.length c_10,.bool o_10,.slice b_10 s_10.length d_10]) (aby rfl f4 (aw3 b4)) hd ⟨_,rfl,OutQ.to (aji rfl G10 K10 l10 k10) (ati hc7').1 (ati hc7').2 (by omega),HB⟩
   ·skip;have hc7':0<zy:=by have h:=Gy.2;rw[hc7]at h;have h2:=of_decide_eq_false h.symm;omega
    refine wp_skip ?_;refine wp_seq ?_;refine aao [some 12,some 13,some 14,some 5,none] [Eqs (.agg #[.bool nx,.slice ax xs.length cx]),Eqs (.agg #[.bool ny,.slice ay ys.length cy]),OutN (((Int.gcd zx zy:Nat):Int)) ((Bx)+(By)),Tt,Tt] [⟨N2,some 3,0,5,.agg #[.bool false,.slice none 0 0],some (4,14,2),[]⟩] [] (by kernel_rfl) hn rfl (by kernel_rfl) (by kernel_rfl) (by kernel_rfl) (by kernel_rfl) (by kernel_rfl) (by kernel_rfl) ⟨Eqs.mono4 _,Eqs.mono4 _,OutN.mono4 _ _,True.mono4,True.mono4,trivial⟩ (aa0 N2ok aat) (IsOld.all (bx:=[⟨N2,some 3,0,5,.agg #[.bool false,.slice none 0 0],some (4,14,2),[]⟩]) ⟨someNe,trivial⟩) (DisOld.all (bx:=[⟨N2,some 3,0,5,.agg #[.bool false,.slice none 0 0],some (4,14,2),[]⟩]) ⟨someNe,trivial⟩) ?_ ?_
    ·exact⟨.norm 12 rfl rfl rfl (fun a_ w_ _ t r R D _ _=>aa3 N2ok ((R 2 rfl).trans f2) (b2.keep t ⟨someNe,trivial⟩)),.norm 13 rfl rfl rfl (fun a_ w_ _ t r R D _ _=>aa3 N2ok ((R 3 rfl).trans f3) (b3.keep t ⟨someNe,trivial⟩)),.norm 14 rfl rfl rfl (fun a_ w_ _ t r R D _ _=>ajk (L1:=Bx) (L2:=By) (aa9 (show a_.eval (.tmp 12)=.agg #[.bool nx,.slice ax xs.length cx]from D 0 rfl) (Gx.rl r) Lx) (aa9 (show a_.eval (.tmp 13)=.agg #[.bool ny,.slice ay ys.length cy]from D 1 rfl) (Gy.rl r) Ly) (by omega) (by omega)),.alloc 0 _ rfl rfl (.inl ⟨rfl,rfl⟩) rfl rfl rfl rfl rfl,.store 0 _ _ _ rfl rfl rfl rfl rfl rfl rfl (fun ia h=>by cases h;rfl) rfl rfl rfl OutN.cs,trivial⟩
    ·intro a11 w11 gs11 hn11 hd11 hBt hr hR hP hX hU;replace hn:=hn11;replace hd:=hd11.trans hd;have ne4_5:(gs1 2)≠gs11 0:=by have h1:=b4.lt;have h2:=(hX 0 _ rfl).2.2.1 (by simp);omega
     replace b2:=b2.keep hBt ⟨someNe,trivial⟩;replace b3:=b3.keep hBt ⟨someNe,trivial⟩;replace b4:=b4.keep hBt ⟨someNe,trivial⟩;obtain⟨n_12,a_12,c_12,r_12,e14,G12,l12⟩:OutN (((Int.gcd zx zy:Nat):Int)) ((Bx)+(By)) (a11.eval (.tmp 14)) w11:=hP 2 (by decide);have b5:BoxV N2 w11 (gs11 0) (.agg #[.bool n_12,.slice a_12 r_12.length c_12]):=agv (hX 0 _ rfl).2.2.2 e14;have f5:=(hX 0 _ rfl).1;have u5:w.heap.size<=gs11 0:=Nat.le_trans HB.size ((hX 0 _ rfl).2.2.1 (by simp));replace f2:=(hR 2 rfl).trans f2;replace f3:=(hR 3 rfl).trans f3;replace f4:=(hR 4 rfl).trans f4;replace Gx:=Gx.rl hr;replace Gy:=Gy.rl hr;replace HB:=HB.trans (hBt.below HB.size (UpOld.all (bx:=[⟨N2,some 3,0,5,.agg #[.bool false,.slice none 0 0],some (4,14,2),[]⟩]) ⟨someNe,trivial⟩));clear hBt hr hR hP hX hU;refine wp_seq ?_;refine aao [some 15,some 16,some 17,some 18,some 19,some 20,some 21,none] [Eqs (.agg #[.bool nx,.slice ax xs.length cx]),Eqs (.agg #[.bool n_12,.slice a_12 r_12.length c_12]),OutN ((ov zx ((Int.gcd zx zy:Nat):Int))) (Bx),Eqs (.agg #[.bool ny,.slice ay ys.length cy]),Eqs (.agg #[.bool n_12,.slice a_12 r_12.length c_12]),OutN ((ov zy ((Int.gcd zx zy:Nat):Int))) (By),OutQ ((ov zx ((Int.gcd zx zy:Nat):Int))) ((ov zy ((Int.gcd zx zy:Nat):Int))) ((Bx)+(By)),Tt] [⟨Q4,none,(gs1 2),4,.agg #[.bool false,.slice none 0 0,.bool false,.slice none 0 0],some (7,21,6),[]⟩] [] (by kernel_rfl) hn rfl (by kernel_rfl) (by kernel_rfl) (by kernel_rfl) (by kernel_rfl) (by kernel_rfl) (by kernel_rfl) ⟨Eqs.mono4 _,Eqs.mono4 _,OutN.mono4 _ _,Eqs.mono4 _,Eqs.mono4 _,OutN.mono4 _ _,OutQ.mono4 _ _ _,True.mono4,trivial⟩ (aa0 Q4ok aat) (IsOld.all (bx:=[⟨Q4,none,(gs1 2),4,.agg #[.bool false,.slice none 0 0,.bool false,.slice none 0 0],some (7,21,6),[]⟩]) ⟨fun _=>⟨f4,b4⟩,trivial⟩) (DisOld.all (bx:=[⟨Q4,none,(gs1 2),4,.agg #[.bool false,.slice none 0 0,.bool false,.slice none 0 0],some (7,21,6),[]⟩]) ⟨fun _=>trivial,trivial⟩) ?_ ?_
     ·exact⟨.norm 15 rfl rfl rfl (fun a_ w_ _ t r R D _ _=>aa3 N2ok ((R 2 rfl).trans f2) (b2.keep t ⟨fun _=>ne2_4.symm,trivial⟩)),.norm 16 rfl rfl rfl (fun a_ w_ _ t r R D _ _=>aa3 N2ok ((R 5 rfl).trans f5) (b5.keep t ⟨fun _=>ne4_5,trivial⟩)),.norm 17 rfl rfl rfl (fun a_ w_ _ t r R D _ _=>aeu (aa9 (show a_.eval (.tmp 15)=.agg #[.bool nx,.slice ax xs.length cx]from D 0 rfl) (Gx.rl r) Lx) (aa9 (show a_.eval (.tmp 16)=.agg #[.bool n_12,.slice a_12 r_12.length c_12]from D 1 rfl) (G12.rl r) l12) (by omega) (by omega) (aiy _ (by omega))),.norm 18 rfl rfl rfl (fun a_ w_ _ t r R D _ _=>aa3 N2ok ((R 3 rfl).trans f3) (b3.keep t ⟨fun _=>ne3_4.symm,trivial⟩)),.norm 19 rfl rfl rfl (fun a_ w_ _ t r R D _ _=>aa3 N2ok ((R 5 rfl).trans f5) (b5.keep t ⟨fun _=>ne4_5,trivial⟩)),.norm 20 rfl rfl rfl (fun a_ w_ _ t r R D _ _=>aeu (aa9 (show a_.eval (.tmp 18)=.agg #[.bool ny,.slice ay ys.length cy]from D 3 rfl) (Gy.rl r) Ly) (aa9 (show a_.eval (.tmp 19)=.agg #[.bool n_12,.slice a_12 r_12.length c_12]from D 4 rfl) (G12.rl r) l12) (by omega) (by omega) (aiy _ (by omega))),.norm 21 rfl rfl rfl (fun a_ w_ _ t r R D _ _=>aw4 (L:=(Bx)+(By)) ((show OutN ((ov zx ((Int.gcd zx zy:Nat):Int))) (Bx) (a_.eval (.tmp 17)) w_ from D 2 rfl).to rfl (by omega)) ((show OutN ((ov zy ((Int.gcd zx zy:Nat):Int))) (By) (a_.eval (.tmp 20)) w_ from D 5 rfl).to rfl (by omega))),.store 0 _ _ _ rfl rfl rfl rfl rfl rfl rfl (fun ia h=>by cases h) rfl rfl rfl OutQ.cs,trivial⟩
     ·intro a13 w13 gs13 hn13 hd13 hBt hr hR hP hX hU;replace hn:=hn13;replace hd:=hd13.trans hd;obtain⟨n_14,a_14,c_14,r_14,o_14,b_14,d_14,s_14,e21,G14,K14,l14,k14⟩:OutQ ((ov zx ((Int.gcd zx zy:Nat):Int))) ((ov zy ((Int.gcd zx zy:Nat):Int))) ((Bx)+(By)) (a13.eval (.tmp 21)) w13:=hP 6 (by decide);have b4:BoxV Q4 w13 ((gs1 2)) (.agg #[.bool n_14,.slice a_14 r_14.length c_14,.bool o_14,.slice b_14 s_14.length d_14]):=aci ((hX 0 _ rfl).2.1 rfl) (hX 0 _ rfl).2.2.2 e21;replace f4:a13.eval (.tmp 4)=_:=(hR 4 rfl).trans f4;replace Gx:=Gx.rl hr;replace Gy:=Gy.rl hr;replace G12:=G12.rl hr;replace HB:=HB.trans (hBt.below HB.size (UpOld.all (bx:=[⟨Q4,none,(gs1 2),4,.agg #[.bool false,.slice none 0 0,.bool false,.slice none 0 0],some (7,21,6),[]⟩]) ⟨fun _=>u4,trivial⟩));clear hBt hr hR hP hX hU;refine wp_ret ?_;repeat(first|refine ab3 ?_|refine aba ?_|refine abw ?_)
      exact bodyPost_ret (v:=.agg #[.bool n_14,.slice a_14 r_14.length c_14,.bool o_14,.slice b_14 s_14.length d_14]) (aby rfl f4 (aw3 b4)) hd ⟨_,rfl,OutQ.to (aji rfl G14 K14 l14 k14) (al7 hc7').1 (al7 hc7').2 (by omega),HB⟩
theorem atk:Has Tryz.prog 66:=by unfold Has;kernel_rfl
theorem av1{dst:Option Tmp}{ty:TypeId}{pos:String}{after:Array Edge}{guard:Option (Nat×Bool)}{a:Act}{w:World}{ats:Array TypeId}{i j:Nat}{Bx:Nat}{zx:Int}(Hx:OutN zx Bx (a.eval (.tmp i)) w){By:Nat}{zy:Int}(Hy:OutN zy By (a.eval (.tmp j)) w)(hL:Bx+By<=300000)(hy:zy≠0):
  Does Tryz.prog {dst,op:=.call {callee:=.value (.func 66),args:=#[.tmp i,.tmp j],argTypes:=ats},type:=ty,pos,after,guard} a.eval w fun v w'=>Below w.heap.size w w'/\(OutQ (nm zx zy) (dn zx zy) (Bx+By)) v w':=by
 obtain⟨nx,ax,cx,xs,ex,Gx,Lx⟩:=Hx;obtain⟨ny,ay,cy,ys,ey,Gy,Ly⟩:=Hy;refine aaq atk _ (by simp only[List.map_toArray,List.map_cons,List.map_nil,ex,ey]) ((ayr w Bx _ _ _ _ _ Gx Lx By _ _ _ _ _ Gy Ly hL hy).mono ?_);rintro e w' ⟨v,rfl,h1,hb⟩;exact⟨_,rfl,hb,h1⟩
theorem nset{w2:World}{bv i:Nat}{es:List WE}{ng:Bool}{a:Option Addr}{m c:Nat}(e2:w2.heap[bv]? = some (.cells (flat es).toArray 82 (0,0)))(hi:i<es.length):∃W,W=((w2.setCell ⟨bv,i*2,none⟩ (.bool ng)).setCell ⟨bv,i*2+1,none⟩ (.slice a m c))/\W.heap[bv]? = some (.cells (flat (es.set i ⟨ng,a,m,c,[]⟩)).toArray 82 (0,0))/\Rl w2 W/\∀B,B<=bv->Below B w2 W:=by
 refine⟨_,rfl,?_⟩;generalize hW:((w2.setCell ⟨bv,i*2,none⟩ (.bool ng)).setCell ⟨bv,i*2+1,none⟩ (.slice a m c))=W;have hbW:W.heap[bv]? = some (.cells (flat (es.set i ⟨ng,a,m,c,[]⟩)).toArray 82 (0,0)):=by
  rw[<-hW,af2 es i _ hi];have s1:=heap_setCell_same w2 bv (i*2) _ _ (.bool ng) e2;have s2:=heap_setCell_same _ bv (i*2+1) _ _ (.slice a m c) s1;rw[s2];simp
 have hot:∀k,k≠bv->W.heap[k]? = w2.heap[k]? :=fun k hn=>by rw[<-hW,heap_setCell_other _ ⟨bv,i*2+1,none⟩ k _ hn,heap_setCell_other _ ⟨bv,i*2,none⟩ k _ hn]
 have hsz:W.heap.size=w2.heap.size:=by rw[<-hW];simp[World.setCell]
 have hou:W.os=w2.os/\W.tape=w2.tape/\W.output=w2.output:=by rw[<-hW];exact⟨rfl,rfl,rfl⟩
 refine⟨hbW,⟨Nat.le_of_eq hsz.symm,fun q k y e=>?_,fun k cs T hT e=>?_⟩,fun B hB=>⟨hou.1,hou.2.1,hou.2.2,Nat.le_of_eq hsz.symm,fun k hk=>hot k (by omega)⟩⟩
 ·by_cases hq:q.block=bv
  ·exfalso;obtain⟨qb,qo,qm⟩:=q;simp only at hq;subst hq;simp only[World.cell?,e2]at e;cases qm with
   |none=>exact ahx es qo k y (by simpa using e)
   |some m=>simp at e
  ·rw[World.cell?_of_block (w:=w2) (hot q.block hq)];exact e
 ·by_cases hk:k=bv
  ·exfalso;subst hk;rw[e2]at e;injection e with e;injection e with _ e _;rcases hT with rfl|rfl
   ·exact absurd e (by decide)
   ·exact absurd e (by decide)
  ·exact(hot k hk).trans e
theorem a1g{w2:World}{g:Nat}{ng0:Bool}{a0:Option Addr}{m0 c0:Nat}(ng:Bool)(a:Option Addr)(m c:Nat)(e2:w2.heap[g]? = some (.cells #[.bool ng0,.slice a0 m0 c0] 82 (0,0))):((w2.setCell ⟨g,0,none⟩ (.bool ng)).setCell ⟨g,1,none⟩ (.slice a m c)).heap[g]? = some (.cells #[.bool ng,.slice a m c] 82 (0,0))/\Rl w2 ((w2.setCell ⟨g,0,none⟩ (.bool ng)).setCell ⟨g,1,none⟩ (.slice a m c))/\∀B,B<=g->Below B w2 ((w2.setCell ⟨g,0,none⟩ (.bool ng)).setCell ⟨g,1,none⟩ (.slice a m c)):=by
 obtain⟨W,hW,h1,h2,h3⟩:=nset (w2:=w2) (bv:=g) (i:=0) (es:=[⟨ng0,a0,m0,c0,[]⟩]) (ng:=ng) (a:=a) (m:=m) (c:=c) e2 (by simp);simp only[Nat.zero_mul,Nat.zero_add]at hW;rw[<-hW];exact⟨h1,h2,h3⟩
theorem nsignF(w:World)(z:Int)(v:Value)(L:Nat)(h:OutN z L v w):
  Calls Tryz.prog 76 #[v] w fun e w'=>e=.returned (.int .i64 (Int.sign z))/\Below w.heap.size w w':=by
 obtain⟨ng,ao,cap,rs,rfl,W,l⟩:=h;exact Dm.ax6 w _ _ _ _ _ W
theorem nminusF(w:World)(z:Int)(v:Value)(L:Nat)(h:OutN z L v w)(hL:L<=1000000):
  Calls Tryz.prog 74 #[v] w fun e w'=>∃r,e=.returned r/\OutN (-z) L r w'/\Below w.heap.size w w':=by
 obtain⟨ng,ao,cap,rs,rfl,W,l⟩:=h;refine(Dm.ajf w _ _ _ _ _ W (by omega)).mono ?_;rintro e w' ⟨ng,ao,cap,rs,rfl,G,l,hb⟩;exact⟨_,rfl,⟨_,_,_,_,rfl,G,by omega⟩,hb⟩
def PZ(w:World)(bv n i:Nat)(zs:List Int)(L:Nat):Prop:=
 ∃es:List WE,es.length=n/\w.heap[bv]? = some (.cells (flat es).toArray 82 (0,0))/\(∀(k:Nat) (e:WE) (z:Int),k<i->es[k]? = some e->zs[k]? = some z->OutN z L e.v w)/\∀(k:Nat) (e:WE),i<=k->es[k]? = some e->e=⟨false,none,0,0,[]⟩
theorem PZ.pn{w:World}{bv n i:Nat}{zs:List Int}{L:Nat}(h:PZ w bv n i zs L):PN w bv n i zs L:=by
 obtain⟨es,h1,h2,h3,_⟩:=h;exact⟨es,h1,h2,h3⟩
theorem PZ.below{w w':World}{bv n i:Nat}{zs:List Int}{L:Nat}(h:PZ w bv n i zs L)(hb:Below w.heap.size w w'):PZ w' bv n i zs L:=by
 have hl:=h.pn.lt;obtain⟨es,h1,h2,h3,h4⟩:=h;exact⟨es,h1,(hb.block bv hl).trans h2,fun k e z hk he hz=>(h3 k e z hk he hz).rl (Rl.of_below hb),h4⟩
theorem PZ.start{w:World}{bv n:Nat}{zs:List Int}{L:Nat}(h:w.heap[bv]? = some (.cells (flat (List.replicate n ⟨false,none,0,0,[]⟩)).toArray 82 (0,0))):PZ w bv n 0 zs L:=⟨_,by simp,h,fun k e z hk=>(by omega),fun k e _ he=>List.eq_of_mem_replicate (List.mem_of_getElem? he)⟩
theorem PZ.zero{w:World}{bv n i:Nat}{zs:List Int}{L:Nat}(h:PZ w bv n i zs L)(hz:zs[i]? = some 0):PZ w bv n (i+1) zs L:=by
 obtain⟨es,h1,h2,h3,h4⟩:=h;refine⟨es,h1,h2,fun k e z hk he hz'=>?_,fun k e hk he=>h4 k e (by omega) he⟩;by_cases hki:k=i
 ·subst hki;rw[hz]at hz';obtain rfl:=Option.some.inj hz';rw[h4 k e (Nat.le_refl _) he];exact ae4 _ _
 ·exact h3 k e z (by omega) he hz'
theorem PZ.put{w1 w2:World}{bv n i:Nat}{zs:List Int}{L:Nat}{z:Int}{ng:Bool}{a:Option Addr}{m c:Nat}(h:PZ w1 bv n i zs L)(hb:Below w1.heap.size w1 w2)(hi:i<n)(hz:zs[i]? = some z)(hv:OutN z L (.agg #[.bool ng,.slice a m c]) w2):
  PZ ((w2.setCell ⟨bv,i*2,none⟩ (.bool ng)).setCell ⟨bv,i*2+1,none⟩ (.slice a m c)) bv n (i+1) zs L/\∀B,B<=bv->B<=w1.heap.size->Below B w1 ((w2.setCell ⟨bv,i*2,none⟩ (.bool ng)).setCell ⟨bv,i*2+1,none⟩ (.slice a m c)):=by
 have hlt:=h.pn.lt;obtain⟨es,e1,e2,e4,e5⟩:=h;obtain⟨W,hW,hbW,hrl,hbl⟩:=nset (ng:=ng) (a:=a) (m:=m) (c:=c) (i:=i) ((hb.block bv hlt).trans e2) (by omega);rw[<-hW];refine⟨⟨es.set i ⟨ng,a,m,c,[]⟩,by simp[e1],hbW,fun k e z' hk he hz'=>?_,fun k e hk he=>?_⟩,fun B hB hB1=>(hb.mono hB1).trans (hbl B hB)⟩
 ·by_cases hki:k=i
  ·subst hki;rw[List.getElem?_set_self (by omega)]at he;obtain rfl:=Option.some.inj he;rw[hz]at hz';obtain rfl:=Option.some.inj hz';exact hv.rl hrl
  ·rw[List.getElem?_set_ne (fun h=>hki h.symm)]at he;exact((e4 k e z' (by omega) he hz').rl (Rl.of_below hb)).rl hrl
 ·rw[List.getElem?_set_ne (by omega)]at he;exact e5 k e (by omega) he
theorem PZ.over{w1 w2:World}{bv n i:Nat}{zs:List Int}{L:Nat}{y z:Int}{ng:Bool}{a:Option Addr}{m c:Nat}(h:PZ w1 bv n (i+1) (zs.set i y) L)(hb:Below w1.heap.size w1 w2)(hi:i<n)(hz:zs[i]? = some z)(hv:OutN z L (.agg #[.bool ng,.slice a m c]) w2):
  PZ ((w2.setCell ⟨bv,i*2,none⟩ (.bool ng)).setCell ⟨bv,i*2+1,none⟩ (.slice a m c)) bv n (i+1) zs L/\∀B,B<=bv->B<=w1.heap.size->Below B w1 ((w2.setCell ⟨bv,i*2,none⟩ (.bool ng)).setCell ⟨bv,i*2+1,none⟩ (.slice a m c)):=by
 have hlt:=h.pn.lt;obtain⟨es,e1,e2,e4,e5⟩:=h;obtain⟨W,hW,hbW,hrl,hbl⟩:=nset (ng:=ng) (a:=a) (m:=m) (c:=c) (i:=i) ((hb.block bv hlt).trans e2) (by omega);rw[<-hW];refine⟨⟨es.set i ⟨ng,a,m,c,[]⟩,by simp[e1],hbW,fun k e z' hk he hz'=>?_,fun k e hk he=>?_⟩,fun B hB hB1=>(hb.mono hB1).trans (hbl B hB)⟩
 ·by_cases hki:k=i
  ·subst hki;rw[List.getElem?_set_self (by omega)]at he;obtain rfl:=Option.some.inj he;rw[hz]at hz';obtain rfl:=Option.some.inj hz';exact hv.rl hrl
  ·rw[List.getElem?_set_ne (fun h=>hki h.symm)]at he;exact((e4 k e z' (by omega) he (by rw[List.getElem?_set_ne (fun h=>hki h.symm)];exact hz')).rl (Rl.of_below hb)).rl hrl
 ·rw[List.getElem?_set_ne (by omega)]at he;exact e5 k e (by omega) he
theorem ays{zs:List Int}{N:Int}(hN:0<N)(h:∀z∈zs,(z.natAbs:Int)<N):∀k,((gcdL (zs.take k)).natAbs:Int)<N:=by
 intro k;induction k with
 |zero=>simpa[gcdL]using hN
 |succ k ih=>
  by_cases hk:k<zs.length
  ·obtain⟨z,hz⟩:∃z,zs[k]? = some z:=⟨_,List.getElem?_eq_getElem hk⟩;unfold gcdL at ih ⊢;rw[ac5 _ _ hz];exact asx ih (h z (List.mem_of_getElem? hz))
  ·rw[List.take_of_length_le (by omega)];rwa[List.take_of_length_le (by omega)]at ih
set_option maxRecDepth 100000 in
theorem aiz(w:World)(v:Value)(zs:List Int)(L:Nat)(h:NRow w v zs (3*L))(hn:zs.length<=100000)(hL:L<=100000)(hb0:∀z∈zs,(z.natAbs:Int)<pw L)(h0:zs≠[]):
  Calls Tryz.prog 106 #[v] w fun e w'=>∃r,e=.returned r/\NRow w' r (red zs) (3*L)/\Below w.heap.size w w':=by
 obtain⟨ar,cr,rfl,_⟩:=h.parts;have hpos:0<zs.length:=List.length_pos_iff.2 h0;have HR:=hide h;have HBZ:=hide hb0;obtain⟨n,hnn⟩:∃n,zs.length=n:=⟨_,rfl⟩;rw[hnn]at HR hn hpos ⊢;obtain⟨b,off,har⟩:=HR.out.some hpos;subst har;have HN:=hide hnn;have hba:=hAl w (.cells #[.bool false,.slice none 0 0] 82);have hna:=heap_alloc_new w (.cells #[.bool false,.slice none 0 0] 82);have HBA:=hide hba;have HNA:=hide hna;clear h h0 hb0 hnn hba hna;obtain⟨iN,hi',hz0',hz1',hz2'⟩:=info_parts infoN;go_enter Tryz.func106,Tryz.ntmps106
 go_wp2_with fail
 generalize w.alloc (.cells #[.bool false,.slice none 0 0] 82)=wa at *
 go_loopw [4,5] (fun sv iv wr=>∃(k:Nat),iv=.int .i64 k/\k<=n/\sv=.int .i64 (sgnL (zs.take k))/\Below w.heap.size w wr/\∃ng a m c,wr.heap[w.heap.size]? = some (.cells #[.bool ng,.slice a m c] 82 (0,0))/\OutN (gcdL (zs.take k)) (3*L) (.agg #[.bool ng,.slice a m c]) wr) (fun _ iv _=>n-(intOf iv).toNat)
 case atStart=>exact⟨0,rfl,Nat.zero_le _,rfl,HBA.out,false,none,0,0,HNA.out,ae4 _ _⟩
 case round=>
  obtain⟨k,rfl,hk,rfl,hbw,ngg,ag,mg,cg,hgb,hgo⟩:=hrel;have HW:=hide hbw;have HRr:=hide (HR.out.below hbw);have HG:=hide hgo;have HGB:=hide hgb;obtain⟨hgl,g0,g1,gf0,gf1⟩:=aam hgb;by_cases hlt:k<n
  ·have hlt':(k:Int)<(n:Int):=by omega
   obtain⟨z,hz⟩:∃z,zs[k]? = some z:=⟨_,List.getElem?_eq_getElem (by have:=HN.out;omega)⟩;have HZ:=hide hz;have hgs:gcdL (zs.take (k+1))=((Int.gcd (gcdL (zs.take k)) z:Nat):Int):=ac5 _ _ hz;have hss:sgnL (zs.take (k+1))=if sgnL (zs.take k)=0 then Int.sign z else sgnL (zs.take k):=ac5 _ _ hz
   have HGS:=hide hgs;have HSS:=hide hss;have HFIT:Hid (((((Int.gcd (gcdL (zs.take k)) z:Nat):Int)).natAbs:Int)<pw L):=(show _<_ by rw[<-hgs];exact ays (an0 L) HBZ.out (k+1));obtain⟨sk,hsk⟩:∃s,sgnL (zs.take k)=s:=⟨_,rfl⟩;have HSK:=hide hsk;rw[hsk]at HSS ⊢;clear hbw hgo hgb hz hgs hss hsk;go_upto_region 6 with fail
   refine ab4 6 [15,16,17,18,19,20] [(OutN (gcdL (zs.take k)) (3*L)),Eqs (.slice (some ⟨b,off,none⟩) n cr),Eqs (.int .i64 (k:Int)),Eqs (.pointer (some ⟨b,off+k*2,none⟩)),(OutN z (3*L)),(OutN (((Int.gcd (gcdL (zs.take k)) z:Nat):Int)) (3*L))] rfl rfl (by decide) (by kernel_rfl) (by kernel_rfl) (by decide) (by kernel_rfl) ⟨(Mono.of4 (OutN.mono4 _ _)),Eqs.mono _,Eqs.mono _,Eqs.mono _,(Mono.of4 (OutN.mono4 _ _)),(Mono.of4 (OutN.mono4 _ _)),trivial⟩ ?_ ?_
   ·exact⟨⟨rfl,fun a_ w_ _ hB hR hD=>acg ((hR 3 rfl).trans (aab rfl)) ((hB.cell (p:=⟨w.heap.size,0,none⟩) hgl).trans g0) ((hB.cell (p:=⟨w.heap.size,0+1,none⟩) hgl).trans g1) (Mono.of4 (OutN.mono4 _ _) _ _ _ hB HG.out)⟩,
      ⟨rfl,fun a_ w_ _ hB hR hD=>aah ((hR 0 rfl).trans (aab rfl))⟩,
      ⟨rfl,fun a_ w_ _ hB hR hD=>aah ((hR 5 rfl).trans (aab rfl))⟩,
      ⟨rfl,fun a_ w_ _ hB hR hD=>ac8 (show a_.eval (.tmp 16)=.slice (some ⟨b,off,none⟩) n cr from hD 1 rfl) rfl (show a_.eval (.tmp 17)=.int .i64 (k:Int)from hD 2 rfl) (by omega)⟩,
      ⟨rfl,fun a_ w_ _ hB hR hD=>atg (show a_.eval (.tmp 18)=.pointer (some ⟨b,off+k*2,none⟩)from hD 3 rfl) rfl (HRr.out.below hB) HZ.out⟩,
      ⟨rfl,fun a_ w_ _ hB hR hD=>(ajk (L1:=3*L) (L2:=3*L) (show(OutN (gcdL (zs.take k)) (3*L)) (a_.eval (.tmp 15)) w_ from hD 0 rfl) (show(OutN z (3*L)) (a_.eval (.tmp 19)) w_ from hD 4 rfl) (by omega) (by omega)).mono (fun _ _ h_=>⟨h_.1,h_.2.fit HFIT.out⟩)⟩,
      trivial⟩
   ·intro a' w' hn' hd' hB' hR' hP';obtain⟨u15,e15⟩:∃u,a'.eval (.tmp 15)=u:=⟨_,rfl⟩;have e16:a'.eval (.tmp 16)=.slice (some ⟨b,off,none⟩) n cr:=hP' 1 (by decide);have e17:a'.eval (.tmp 17)=.int .i64 (k:Int):=hP' 2 (by decide);have e18:a'.eval (.tmp 18)=.pointer (some ⟨b,off+k*2,none⟩):=hP' 3 (by decide);obtain⟨u19,e19⟩:∃u,a'.eval (.tmp 19)=u:=⟨_,rfl⟩;obtain⟨u20,e20⟩:∃u,a'.eval (.tmp 20)=u:=⟨_,rfl⟩;have hT:(OutN (((Int.gcd (gcdL (zs.take k)) z:Nat):Int)) (3*L)) (a'.eval (.tmp 20)) w':=hP' 5 (by decide);rw[e20]at hT;refine abl hn' hd' hR' (.same rfl <| .same rfl <| .same rfl <| .same rfl <| .same rfl <| .same rfl <| .same rfl <| .same rfl <| .same rfl <| .same rfl <| .same rfl <| .same rfl <| .same rfl <| .same rfl <| .same rfl <| .new e15 <| .new e16 <| .new e17 <| .new e18 <| .new e19 <| .new e20 <| .same rfl <| .same rfl <| .same rfl <| .same rfl <| .same rfl <| .same rfl <| .same rfl <| .same rfl <| .same rfl <| .same rfl <| .same rfl <| .same rfl <| .same rfl <| .same rfl <| .same rfl <| .same rfl <| .same rfl <| .same rfl <| .same rfl <| .same rfl <| .same rfl <| .same rfl <| .same rfl <| .same rfl <| .same rfl <| .same rfl <| .same rfl <| .same rfl <| .same rfl <| .same rfl <| .same rfl <| .same rfl <| .same rfl <| .same rfl <| .same rfl <| .same rfl <| .same rfl <| .same rfl <| .same rfl <| .nil) ?_;clear e15 e16 e17 e18 e19 e20;obtain⟨ng1,a1,m1,c1,rfl⟩:=hT.agg;have hgb':=(hB'.block _ (aaa HGB.out)).trans HGB.out;obtain⟨_,c0',c1',f0,f1⟩:=aam hgb';obtain⟨s1,s2,s3⟩:=a1g ng1 a1 m1 c1 hgb';have HT:=hide (hT.rl s2);have HNB:=hide s1;have HBW2:=hide ((HW.out.trans (hB'.mono HW.out.size)).trans (s3 _ (Nat.le_refl _)));clear hB' hR' hP' hn' hd' hT hgb' g0 g1 gf0 gf1 hgl s1 s2 s3;by_cases hs0:sk=0
    ·have hs0':(sk==0)=true:=by simpa using hs0
     clear hs0;go_upto_region 8 with fail
     generalize ((w'.setCell ⟨w.heap.size,0,none⟩ (.bool ng1)).setCell ⟨w.heap.size,1,none⟩ (.slice a1 m1 c1))=w2 at *
     obtain⟨b5,o5,ngx,ax,mx,cx,hbb,hbl,x0,x1,hxo⟩:=(HR.out.below HBW2.out).cell HZ.out;simp only[Option.some.injEq,Addr.mk.injEq,and_true]at hbb;obtain⟨rfl,rfl⟩:=hbb;have K1:=hide (nsignF w2 z _ _ hxo);clear c0' c1' f0 f1 hxo;go_wp2_with fail
     refine K1.out.mono ?_;rintro e w3 ⟨rfl,hb3⟩;have HB3:=hide (HBW2.out.trans (hb3.mono HBW2.out.size));have HT3:=hide (HT.out.rl (Rl.of_below hb3));have HN3:=hide ((hb3.block _ (aaa HNB.out)).trans HNB.out);clear hb3 K1 x0 x1 hbl;go_wp2;go_roundw
     case rel=>exact⟨k+1,by go_num,by omega,by rw[HSS.out,if_pos (by simpa using hs0')],HB3.out,ng1,a1,m1,c1,HN3.out,by rw[HGS.out];exact HT3.out⟩
     case measure=>simp[intOf];omega
    ·have hs0':(sk==0)=false:=by simpa using hs0
     clear hs0;go_wp2;go_roundw
     case rel=>exact⟨k+1,by go_num,by omega,by rw[HSS.out,if_neg (by simpa using hs0')],HBW2.out,ng1,a1,m1,c1,HNB.out,by rw[HGS.out];exact HT.out⟩
     case measure=>simp[intOf];omega
  ·have hlt':decide ((k:Int)<(n:Int))=false:=by simp;omega
   obtain rfl:k=n:=by omega
   rw[List.take_of_length_le (by have:=HN.out;omega)]at HG ⊢;clear hlt hbw hgo hgb;have HZL:Hid ((red zs).length=k):=(show _=_ by rw[red,List.length_map];exact HN.out);obtain⟨sk,hsk⟩:∃s,sgnL zs=s:=⟨_,rfl⟩;have HSK:=hide hsk;rw[hsk];clear hsk;go_wp2_with (refine wpList_make_full _ rfl (.tmp 29) (.tmp 29) 78 rfl _ 82 iN (.agg #[.bool false,.slice none 0 0]) 2 Tryz.underlying78 hi' hz0' hz1' .i64 .i64 _ _ k rfl rfl (by omega) (by omega) (by rw[hz2'];omega) (by unfold maxLen;omega) (Nat.le_refl _) ?hK)
   case hK=>
    intro w1 hown hgrow;have hb1:Below wr.heap.size wr w1:=(Below.refl _ _).grown hgrow (Nat.le_refl _) (by simp);obtain⟨_,hmb⟩:=ac4 hown;rw[af1]at hmb;obtain⟨bv,hbv⟩:∃bv,wr.heap.size=bv:=⟨_,rfl⟩;have HBV:Hid (w.heap.size<bv):=(show w.heap.size<bv by rw[<-hbv];exact hgl);rw[hbv]at hmb ⊢;have HP0:=hide (PZ.start (zs:=red zs) (L:=3*L) hmb);have HB1:=hide (HW.out.trans (hb1.mono HW.out.size));have HG1:=hide ((hb1.block _ hgl).trans HGB.out);have HGO1:=hide (HG.out.rl (Rl.of_below hb1));clear hown hgrow hb1 hmb hbv g0 g1 gf0 gf1 hgl HRr HW HGB HG;go_wp2_with fail
    go_loopw [7] (fun iv wr=>∃(j:Nat),iv=.int .i64 j/\j<=k/\Below w.heap.size w wr/\PZ wr bv k j (red zs) (3*L)/\wr.heap[w.heap.size]? = some (.cells #[.bool ngg,.slice ag mg cg] 82 (0,0))/\OutN (gcdL zs) (3*L) (.agg #[.bool ngg,.slice ag mg cg]) wr) (fun iv _=>k-(intOf iv).toNat)
    case atStart=>exact⟨0,rfl,Nat.zero_le _,HB1.out,HP0.out,HG1.out,HGO1.out⟩
    case round=>
     obtain⟨j,rfl,hj,hbw,hp,hgb,hgo⟩:=hrel;have HW:=hide hbw;have HP:=hide hp;have HGB:=hide hgb;have HG:=hide hgo;obtain⟨hgl,g0,g1,gf0,gf1⟩:=aam hgb;by_cases hlt:j<k
     ·have hlt':(j:Int)<(k:Int):=by omega
      obtain⟨z,hz⟩:∃z,zs[j]? = some z:=⟨_,List.getElem?_eq_getElem (by have:=HN.out;omega)⟩;have HZ:=hide hz;have HRD:Hid ((red zs)[j]? = some (z/dvs zs)):=(show _=_ by rw[red,List.getElem?_map,hz];rfl);have K1:=hide (nsignF wr _ _ _ hgo);clear hbw hp hgb hgo hz;by_cases hg0:gcdL zs=0
      ·have hall:∀y∈zs,y=0:=fun y hy=>by have:=af4 y hy;rw[hg0]at this;exact Int.zero_dvd.1 this
       have hsg:=as7 hall;have hsk:=HSK.out;rw[hsg]at hsk;subst hsk;have hzd:z/dvs zs=0:=by rw[hall z (List.mem_of_getElem? HZ.out)];exact Int.zero_ediv _
       rw[hzd]at HRD;rw[hg0]at K1;clear hall hsg hzd hg0;go_wp2_with fail
       refine K1.out.mono ?_;rintro e w2 ⟨rfl,hb2⟩;have HB2:=hide (HW.out.trans (hb2.mono HW.out.size));have HP2:=hide ((HP.out.below hb2).zero HRD.out);have HG2:=hide (HG.out.rl (Rl.of_below hb2));have HGB2:=hide ((hb2.block _ hgl).trans HGB.out);clear hb2 K1 g0 g1 gf0 gf1 hgl;go_wp2;go_roundw
       case rel=>exact⟨j+1,by go_num,by omega,HB2.out,HP2.out,HGB2.out,HG2.out⟩
       case measure=>simp[intOf];omega
      ·have hgp:0<gcdL zs:=by have:=afa zs;omega
       rw[Int.sign_eq_one_of_pos hgp]at K1;have HNE:Hid (gcdL zs≠0):=hg0;have HOV:Hid (ov z (gcdL zs)=z/gcdL zs):=ahy hgp (af4 z (List.mem_of_getElem? HZ.out));clear hg0 hgp;go_wp2_with fail
       refine K1.out.mono ?_;rintro e w2 ⟨rfl,hb2⟩;have HW2:=hide (HW.out.trans (hb2.mono HW.out.size));have HPw:=hide (HP.out.below hb2);have HRr:=hide (HR.out.below HW2.out);have HGB2:=hide ((hb2.block _ hgl).trans HGB.out);have HG2:=hide (HG.out.rl (Rl.of_below hb2));clear hb2 K1 g0 g1 gf0 gf1 hgl;obtain⟨hgl,g0,g1,gf0,gf1⟩:=aam HGB2.out;go_upto_region 14 with fail
       refine ab4 8 [40,41,42,43,44,45,46,47] [Eqs (.slice (some ⟨bv,0,none⟩) k k),Eqs (.int .i64 (j:Int)),Eqs (.slice (some ⟨b,off,none⟩) k cr),Eqs (.int .i64 (j:Int)),Eqs (.pointer (some ⟨b,off+j*2,none⟩)),(OutN z (3*L)),(OutN (gcdL zs) (3*L)),(OutN (z/gcdL zs) (3*L))] rfl rfl (by decide) (by kernel_rfl) (by kernel_rfl) (by decide) (by kernel_rfl) ⟨Eqs.mono _,Eqs.mono _,Eqs.mono _,Eqs.mono _,Eqs.mono _,(Mono.of4 (OutN.mono4 _ _)),(Mono.of4 (OutN.mono4 _ _)),(Mono.of4 (OutN.mono4 _ _)),trivial⟩ ?_ ?_
       ·exact⟨⟨rfl,fun a_ w_ _ hB hR hD=>aah ((hR 6 rfl).trans (aab rfl))⟩,
          ⟨rfl,fun a_ w_ _ hB hR hD=>aah ((hR 7 rfl).trans (aab rfl))⟩,
          ⟨rfl,fun a_ w_ _ hB hR hD=>aah ((hR 0 rfl).trans (aab rfl))⟩,
          ⟨rfl,fun a_ w_ _ hB hR hD=>aah ((hR 7 rfl).trans (aab rfl))⟩,
          ⟨rfl,fun a_ w_ _ hB hR hD=>ac8 (show a_.eval (.tmp 42)=.slice (some ⟨b,off,none⟩) k cr from hD 2 rfl) rfl (show a_.eval (.tmp 43)=.int .i64 (j:Int)from hD 3 rfl) (by omega)⟩,
          ⟨rfl,fun a_ w_ _ hB hR hD=>atg (show a_.eval (.tmp 44)=.pointer (some ⟨b,off+j*2,none⟩)from hD 4 rfl) rfl (HRr.out.below hB) HZ.out⟩,
          ⟨rfl,fun a_ w_ _ hB hR hD=>acg ((hR 3 rfl).trans (aab rfl)) ((hB.cell (p:=⟨w.heap.size,0,none⟩) hgl).trans g0) ((hB.cell (p:=⟨w.heap.size,0+1,none⟩) hgl).trans g1) (Mono.of4 (OutN.mono4 _ _) _ _ _ hB HG2.out)⟩,
          ⟨rfl,fun a_ w_ _ hB hR hD=>(aeu (Bx:=3*L) (By:=3*L) (show(OutN z (3*L)) (a_.eval (.tmp 45)) w_ from hD 5 rfl) (show(OutN (gcdL zs) (3*L)) (a_.eval (.tmp 46)) w_ from hD 6 rfl) (by omega) (by omega) HNE.out).mono (fun _ _ h_=>⟨h_.1,h_.2.to HOV.out (Nat.le_refl _)⟩)⟩,
          trivial⟩
       ·intro a' w' hn' hd' hB' hR' hP';have e40:a'.eval (.tmp 40)=.slice (some ⟨bv,0,none⟩) k k:=hP' 0 (by decide);have e41:a'.eval (.tmp 41)=.int .i64 (j:Int):=hP' 1 (by decide);have e42:a'.eval (.tmp 42)=.slice (some ⟨b,off,none⟩) k cr:=hP' 2 (by decide);have e43:a'.eval (.tmp 43)=.int .i64 (j:Int):=hP' 3 (by decide);have e44:a'.eval (.tmp 44)=.pointer (some ⟨b,off+j*2,none⟩):=hP' 4 (by decide);obtain⟨u45,e45⟩:∃u,a'.eval (.tmp 45)=u:=⟨_,rfl⟩;obtain⟨u46,e46⟩:∃u,a'.eval (.tmp 46)=u:=⟨_,rfl⟩;obtain⟨u47,e47⟩:∃u,a'.eval (.tmp 47)=u:=⟨_,rfl⟩;have hT:(OutN (z/gcdL zs) (3*L)) (a'.eval (.tmp 47)) w':=hP' 7 (by decide);rw[e47]at hT;refine abl hn' hd' hR' (.same rfl <| .same rfl <| .same rfl <| .same rfl <| .same rfl <| .same rfl <| .same rfl <| .same rfl <| .same rfl <| .same rfl <| .same rfl <| .same rfl <| .same rfl <| .same rfl <| .same rfl <| .same rfl <| .same rfl <| .same rfl <| .same rfl <| .same rfl <| .same rfl <| .same rfl <| .same rfl <| .same rfl <| .same rfl <| .same rfl <| .same rfl <| .same rfl <| .same rfl <| .same rfl <| .same rfl <| .same rfl <| .same rfl <| .same rfl <| .same rfl <| .same rfl <| .same rfl <| .same rfl <| .same rfl <| .same rfl <| .new e40 <| .new e41 <| .new e42 <| .new e43 <| .new e44 <| .new e45 <| .new e46 <| .new e47 <| .same rfl <| .same rfl <| .same rfl <| .same rfl <| .same rfl <| .same rfl <| .same rfl <| .same rfl <| .same rfl <| .same rfl <| .same rfl <| .same rfl <| .nil) ?_;clear e40 e41 e42 e43 e44 e45 e46 e47;obtain⟨ng1,a1,m1,c1,rfl⟩:=hT.agg;obtain⟨⟨ngq,aq,mq,cq,c0',c1'⟩,f0,f1⟩:=(HPw.out.below hB').pn.cells (k:=j) (by omega);have hbv:=HBV.out;by_cases hs:sk<0
        ·have hs':decide (sk<0)=true:=by simpa using hs
         have hset:((red zs).set j (z/gcdL zs))[j]? = some (z/gcdL zs):=by rw[List.getElem?_set_self (by have:=HZL.out;omega)]
         obtain⟨hp2,hbl⟩:=(show PZ w2 bv k j ((red zs).set j (z/gcdL zs)) (3*L)from by obtain⟨es,q1,q2,q3,q4⟩:=HPw.out;exact⟨es,q1,q2,fun i e y hi he hy=>q3 i e y hi he (by rwa[List.getElem?_set_ne (by omega)]at hy),q4⟩).put hB' (by omega) hset hT;have HP3:=hide hp2;have HW3:=hide (HW2.out.trans (hbl w.heap.size (by omega) HW2.out.size));have hgl3:=hbl (w.heap.size+1) (by omega) (by omega);have HGB3:=hide ((hgl3.block _ (by omega)).trans HGB2.out);have HG3:=hide (HG2.out.rl ((Rl.of_below hB').trans (show Rl w' ((w'.setCell ⟨bv,j*2,none⟩ (.bool ng1)).setCell ⟨bv,j*2+1,none⟩ (.slice a1 m1 c1)) by obtain⟨es,q1,q2,_⟩:=HPw.out;obtain⟨W,hW,_,hr,_⟩:=nset (ng:=ng1) (a:=a1) (m:=m1) (c:=c1) (i:=j) ((hB'.block bv HPw.out.pn.lt).trans q2) (by omega);rw[<-hW];exact hr)));have HT3:Hid (z/dvs zs = -(z/gcdL zs)):=(show _=_ by rw[dvs,if_pos (by rw[HSK.out];exact hs),Int.ediv_neg]);clear hB' hR' hP' hn' hd' hT hset hp2 hbl hgl3 g0 g1 gf0 gf1 hgl hs;go_upto_region 16 with fail
         generalize ((w'.setCell ⟨bv,j*2,none⟩ (.bool ng1)).setCell ⟨bv,j*2+1,none⟩ (.slice a1 m1 c1))=w3 at *
         obtain⟨ngd,ad,md,cd,d0,d1,hd⟩:=HP3.out.pn.at (k:=j) (by omega) (by omega) (by rw[List.getElem?_set_self (by have:=HZL.out;omega)]);rw[Nat.zero_add]at d0 d1;have K2:=hide (nminusF w3 _ _ _ hd (by omega));clear c0' c1' f0 f1 hd;go_wp2_with fail
         refine K2.out.mono ?_;rintro e w4 ⟨r4,rfl,hr4,hb4⟩;obtain⟨ng4,a4,m4,c4,rfl⟩:=hr4.agg;obtain⟨⟨ngq,aq,mq,cq,c0',c1'⟩,f0,f1⟩:=(HP3.out.below hb4).pn.cells (k:=j) (by omega);rw[<-HT3.out]at hr4;obtain⟨hp5,hbl⟩:=HP3.out.over hb4 (by omega) HRD.out hr4;have HP5:=hide hp5;have HW5:=hide (HW3.out.trans (hbl w.heap.size (by omega) HW3.out.size));have hl3:=aaa HGB3.out;have hgl5:=hbl (w.heap.size+1) (by omega) (by omega);have HGB5:=hide ((hgl5.block _ (by omega)).trans HGB3.out);have HG5:=hide (HG3.out.rl ((Rl.of_below hb4).trans (show Rl w4 ((w4.setCell ⟨bv,j*2,none⟩ (.bool ng4)).setCell ⟨bv,j*2+1,none⟩ (.slice a4 m4 c4)) by obtain⟨es,q1,q2,_⟩:=HP3.out;obtain⟨W,hW,_,hr,_⟩:=nset (ng:=ng4) (a:=a4) (m:=m4) (c:=c4) (i:=j) ((hb4.block bv HP3.out.pn.lt).trans q2) (by omega);rw[<-hW];exact hr)));clear d0 d1 hr4 hb4 hp5 hbl hl3 hgl5 K2;go_wp2;go_roundw
         case rel=>exact⟨j+1,by go_num,by omega,HW5.out,HP5.out,HGB5.out,HG5.out⟩
         case measure=>simp[intOf];omega
        ·have hs':decide (sk<0)=false:=by simpa using hs
         have HT3:Hid (z/dvs zs=z/gcdL zs):=(show _=_ by rw[dvs,if_neg (by rw[HSK.out];exact hs)]);rw[<-HT3.out]at hT;obtain⟨hp2,hbl⟩:=HPw.out.put hB' (by omega) HRD.out hT;have HP3:=hide hp2;have HW3:=hide (HW2.out.trans (hbl w.heap.size (by omega) HW2.out.size));have hgl3:=hbl (w.heap.size+1) (by omega) (by omega);have HGB3:=hide ((hgl3.block _ (by omega)).trans HGB2.out);have HG3:=hide (HG2.out.rl ((Rl.of_below hB').trans (show Rl w' ((w'.setCell ⟨bv,j*2,none⟩ (.bool ng1)).setCell ⟨bv,j*2+1,none⟩ (.slice a1 m1 c1)) by obtain⟨es,q1,q2,_⟩:=HPw.out;obtain⟨W,hW,_,hr,_⟩:=nset (ng:=ng1) (a:=a1) (m:=m1) (c:=c1) (i:=j) ((hB'.block bv HPw.out.pn.lt).trans q2) (by omega);rw[<-hW];exact hr)));clear hB' hR' hP' hn' hd' hT hp2 hbl hgl3 g0 g1 gf0 gf1 hgl hs;go_wp2;go_roundw
         case rel=>exact⟨j+1,by go_num,by omega,HW3.out,HP3.out,HGB3.out,HG3.out⟩
         case measure=>simp[intOf];omega
     ·have hlt':decide ((j:Int)<(k:Int))=false:=by simp;omega
      obtain rfl:j=k:=by omega
      clear hlt hbw hp hgb hgo g0 g1 gf0 gf1 hgl;go_wp2;refine bodyPost_ret (v:=_) (acj rfl rfl) rfl ⟨_,rfl,HP.out.pn.nrow HZL.out (by omega),HW.out⟩
structure QE where
 r:RE
 zs:List Int
 ys:List Int
def OwR(K:Nat)(ng:Bool)(zs ys:List Int):Says:=fun v w=>∃ao cap bo dap,v=.agg #[.bool ng,.slice ao zs.length cap,.slice bo ys.length dap]/\Ow K w (.slice ao zs.length cap) zs/\Ow K w (.slice bo ys.length dap) ys
theorem OwR.mono5(K:Nat)(ng:Bool)(zs ys:List Int):Mono5 (OwR K ng zs ys):=fun _ _ _ hr ⟨ao,cap,bo,dap,e,h,h'⟩=>⟨ao,cap,bo,dap,e,h.ru hr,h'.ru hr⟩
section
variable {dst:Option Tmp} {ty:TypeId} {pos:String} {after:Array Edge} {guard:Option (Nat×Bool)} {a:Act} {w:World} {ats:Array TypeId} {i j:Nat}
theorem ayt{K:Nat}{ng:Bool}{zs ys:List Int}(h1:OwW K ng zs (a.eval (.tmp i)) w)(h2:OwL K ys (a.eval (.tmp j)) w):Does Tryz.prog {dst,op:=.build 44 #[(0,.tmp i),(1,.tmp j)],type:=ty,pos,after,guard} a.eval w fun v' w'=>Below w.heap.size w w'/\OwR K ng zs ys v' w':=by
 obtain⟨ao,cap,e1,o1⟩:=h1;obtain⟨bo,dap,e2,o2⟩:=h2;rw[e2]at o2;exact(a02 e1 e2).mono (fun v w' ⟨hb,e⟩=>⟨hb,ao,cap,bo,dap,e,o1.below hb,o2.below hb⟩)
theorem aoc{b off n c k:Nat}{ao:Option Addr}(h:a.eval (.tmp i)=.slice ao n c)(hao:ao=some ⟨b,off,none⟩)(hk:a.eval (.tmp j)=.int .i64 (k:Int))(hl:k<n):Does Tryz.prog {dst,op:=.indexAddr 29 (.tmp i) (.tmp j),type:=ty,pos,after,guard} a.eval w fun v' w'=>Below w.heap.size w w'/\Eqs (.pointer (some ⟨b,off+k*3,none⟩)) v' w':=by
 subst hao;have hl':(k:Int)<(n:Int):=by omega
 refine⟨?_⟩;unfold Turns;simp only[execOp,h,hk];go_simp;exact⟨Below.refl _ _,rfl⟩
theorem atl{b off:Nat}{x:RE}(hp:a.eval (.tmp i)=.pointer (some ⟨b,off,none⟩))(h0:w.cell? ⟨b,off,none⟩=some (.bool x.ng))(h1:w.cell? ⟨b,off+1,none⟩=some (.slice x.a x.m x.c))(h2:w.cell? ⟨b,off+2,none⟩=some (.slice x.d x.k x.e)):
  Does Tryz.prog {dst,op:=.load 44 (.tmp i),type:=ty,pos,after,guard} a.eval w fun v' w'=>Below w.heap.size w w'/\Eqs (.agg #[.bool x.ng,.slice x.a x.m x.c,.slice x.d x.k x.e]) v' w':=by
 refine aav (v:=.agg #[.bool x.ng,.slice x.a x.m x.c,.slice x.d x.k x.e]) ?_ ⟨Below.refl _ _,rfl⟩;rw[hp];go_simp
end
theorem samerr(w:World)(ng:Bool)(ax:Option Addr)(mx cx:Nat)(zs:List Int)(dx:Option Addr)(kx ex:Nat)(ys:List Int)(S1:Sl w (.slice ax mx cx) zs)(S2:Sl w (.slice dx kx ex) ys)(az:Option Addr)(mz cz:Nat)(dz:Option Addr)(kz ez:Nat)(S3:Sl w (.slice az mz cz) zs)(S4:Sl w (.slice dz kz ez) ys):
  Calls Tryz.prog 12 #[.agg #[.bool ng,.slice ax mx cx,.slice dx kx ex],.agg #[.bool ng,.slice az mz cz,.slice dz kz ez]] w fun e w'=>e=.returned (.bool true)/\Below w.heap.size w w':=by
 have hA1:=hAl w (.cells #[.bool ng,.slice ax mx cx,.slice dx kx ex] 44);have hA2:=hAl (w.alloc (.cells #[.bool ng,.slice ax mx cx,.slice dx kx ex] 44)) (.cells #[.bool ng,.slice az mz cz,.slice dz kz ez] 44);have h0:((w.alloc (.cells #[.bool ng,.slice ax mx cx,.slice dx kx ex] 44)).alloc (.cells #[.bool ng,.slice az mz cz,.slice dz kz ez] 44)).heap[w.heap.size]? = some (.cells #[.bool ng,.slice ax mx cx,.slice dx kx ex] 44 (0,0)):=abj (heap_alloc_new w _);have h1:((w.alloc (.cells #[.bool ng,.slice ax mx cx,.slice dx kx ex] 44)).alloc (.cells #[.bool ng,.slice az mz cz,.slice dz kz ez] 44)).heap[w.heap.size+1]? = some (.cells #[.bool ng,.slice az mz cz,.slice dz kz ez] 44 (0,0)):=by
  have:=heap_alloc_new (w.alloc (.cells #[.bool ng,.slice ax mx cx,.slice dx kx ex] 44)) (.cells #[.bool ng,.slice az mz cz,.slice dz kz ez] 44);simpa using this
 have hB0:=hA1.trans (hA2.mono hA1.size);go_enter Tryz.func12,Tryz.ntmps12
 go_upto_region 1 with fail
 generalize ((w.alloc (.cells #[.bool ng,.slice ax mx cx,.slice dx kx ex] 44)).alloc (.cells #[.bool ng,.slice az mz cz,.slice dz kz ez] 44))=w0 at *
 obtain⟨l0,c0,c1,c2,_,_,_⟩:=abz h0;obtain⟨l1,d0,d1,d2,_,_,_⟩:=abz h1;have K1:=hide (akc w0 ng ax az mx cx mz cz zs (S1.below hB0) (S3.below hB0));have HB0:=hide hB0;clear hA1 hA2;go_wp2_with fail
 refine K1.out.mono ?_;rintro e w1 ⟨rfl,hb1⟩;have HB1:=hide (HB0.out.trans (hb1.mono HB0.out.size));have c2':=(hb1.cell (p:=⟨w.heap.size,2,none⟩) l0).trans c2;have d2':=(hb1.cell (p:=⟨w.heap.size+1,2,none⟩) l1).trans d2;have l0':=Nat.lt_of_lt_of_le l0 hb1.size;have l1':=Nat.lt_of_lt_of_le l1 hb1.size;have K2:=ahl w1 dx dz kx kz ex ez ys ys (S2.below HB1.out) (S4.below HB1.out);rw[ah9]at K2;have K2:=hide K2;clear hb1 K1 h0 h1 hB0 c0 c1 c2 d0 d1 d2 l0 l1 S1 S2 S3 S4;go_wp2_with fail
 refine K2.out.mono ?_;rintro e w2 ⟨rfl,hb2⟩;have HB2:=hide (HB1.out.trans (hb2.mono HB1.out.size));clear hb2 K2;go_wp2;refine bodyPost_ret (v:=_) (by simp[results,Tryz.results12,go_sem];try rfl) rfl ⟨rfl,HB2.out⟩
theorem ap6:Has Tryz.prog 12:=by unfold Has;kernel_rfl
theorem atm{dst:Option Tmp}{ty:TypeId}{pos:String}{after:Array Edge}{guard:Option (Nat×Bool)}{a:Act}{w:World}{ats:Array TypeId}{i j:Nat}{x z:RE}{zs ys us ts:List Int}(h1:a.eval (.tmp i)=.agg #[.bool x.ng,.slice x.a x.m x.c,.slice x.d x.k x.e])(h2:a.eval (.tmp j)=.agg #[.bool z.ng,.slice z.a z.m z.c,.slice z.d z.k z.e])(S1:Sl w (.slice x.a x.m x.c) zs)(S2:Sl w (.slice x.d x.k x.e) ys)(S3:Sl w (.slice z.a z.m z.c) us)(S4:Sl w (.slice z.d z.k z.e) ts)(hn:x.ng=z.ng)(hz:zs=us)(hy:ys=ts):
  Does Tryz.prog {dst,op:=.call {callee:=.value (.func 12),args:=#[.tmp i,.tmp j],argTypes:=ats},type:=ty,pos,after,guard} a.eval w fun v w'=>Below w.heap.size w w'/\Eqs (.bool true) v w':=by
 subst hz hy;rw[<-hn]at h2;refine aaq ap6 _ (by simp only[List.map_toArray,List.map_cons,List.map_nil,h1,h2]) ((samerr w x.ng _ _ _ zs _ _ _ ys S1 S2 _ _ _ _ _ _ S3 S4).mono ?_);rintro e w' ⟨rfl,hb⟩;exact⟨_,rfl,hb,rfl⟩
def QE.raw(e:QE):Bool×List Int×List Int:=(e.r.ng,e.zs,e.ys)
theorem ap7(es fs:List RE):rf3 (es++fs)=rf3 es++rf3 fs:=by
 induction es with
 |nil=>rfl
 |cons e es ih=>simp[rf3,ih]
structure RqO (B:Nat) (w:World) (v:Value) (es:List QE):Prop where
 own:w.ownsRow B 44 3 v es.length (rf3 (es.map QE.r))
 o1:∀e∈es,Ow B w (.slice e.r.a e.r.m e.r.c) e.zs
 o2:∀e∈es,Ow B w (.slice e.r.d e.r.k e.r.e) e.ys
theorem RqO.below{B:Nat}{w w':World}{v:Value}{es:List QE}(h:RqO B w v es)(hb:Below w.heap.size w w'):RqO B w' v es:=
 ⟨h.own.kept (row:=none) ⟨hb.os,hb.tape,hb.output,hb.size,fun k hk _=>hb.block k hk⟩ (by cases hv:v.ownBlock <;> simp),fun e he=>(h.o1 e he).below hb,fun e he=>(h.o2 e he).below hb⟩
theorem aod(B:Nat)(w:World):RqO B w (.slice none 0 0) []:=⟨World.ownsRow_nil w B _ 3,fun e he=>(by cases he),fun e he=>(by cases he)⟩
theorem Ow.grownq{B:Nat}{w w':World}{v:Value}{zs:List Int}{row:Option Nat}{cur:Nat->Array Value}(h:Ow B w v zs)(hg:w.grownBy w' row)(hr:∀k,row=some k->w.heap[k]? = some (.cells (cur k) 44 (0,0))):Ow B w' v zs:=by
 obtain⟨ao,cap,rfl,h1,h2,h3,h4⟩:=h;refine⟨ao,cap,rfl,h1,h2,h3,?_⟩;rcases h4 with h4|⟨g,off,c,rfl,hB,hh,h5,h6⟩
 ·exact .inl h4
 ·refine .inr ⟨g,off,c,rfl,hB,(hg.block g (aaa hh) (fun e=>?_)).trans hh,h5,h6⟩;have:=hr g e.symm;rw[hh]at this;injection this with this;injection this with _ this;exact absurd this (by decide)
theorem ayu{dst:Option Tmp}{ty:TypeId}{pos:String}{after:Array Edge}{guard:Option (Nat×Bool)}{a:Act}{w:World}{i j:Nat}{B g:Nat}{v:Value}{es:List QE}{x:RE}{zs ys:List Int}(h1:a.eval (.tmp i)=v)(h2:a.eval (.tmp j)=.slice (some ⟨g,0,none⟩) 1 1)(R:RqO B w v es)(O:w.heap[g]? = some (.cells #[.bool x.ng,.slice x.a x.m x.c,.slice x.d x.k x.e] 44 (0,0)))(S1:Ow B w (.slice x.a x.m x.c) zs)(S2:Ow B w (.slice x.d x.k x.e) ys)(hn:es.length<=1000000)(hB:B<=w.heap.size):
  Does Tryz.prog {dst,op:=.call {callee:=.builtin .append,args:=#[.tmp i,.tmp j],argTypes:=#[29,29]},type:=ty,pos,after,guard} a.eval w fun v' w'=>RqO B w' v' (es ++ [⟨x,zs,ys⟩])/\Below B w w':=by
 obtain⟨i0,hi,hz0,hz1,hz2⟩:=info_parts infoRz;have hfl:rf3 ((es++([⟨x,zs,ys⟩]:List QE)).map QE.r)=rf3 (es.map QE.r) ++ [.bool x.ng,.slice x.a x.m x.c,.slice x.d x.k x.e]:=by rw[List.map_append,ap7];rfl
 obtain⟨v',w',hr,ho,hgr,_⟩:=run_append_own (P:=Tryz.prog) w B 29 ty 44 i0 _ 3 56 Tryz.underlying29 hi hz0 hz1 hz2 rfl (by decide) v es.length (rf3 (es.map QE.r)) R.own ⟨g,0,none⟩ 1 1 [.bool x.ng,.slice x.a x.m x.c,.slice x.d x.k x.e] rfl (fun k u hu=>by
  have hc:∀k,w.cell? ⟨g,k,none⟩ = #[Value.bool x.ng,.slice x.a x.m x.c,.slice x.d x.k x.e][k]? :=fun k=>cell_of_row w g k _ _ (0,0) O
  have ha:(⟨g,0,none⟩:Addr).add k=⟨g,k,none⟩:=by unfold Addr.add;split <;> simp_all
  rw[ha,hc]
  simpa using hu) (by simp[Value.oneCell']) (by simp[maxLen];omega) (by omega) hB
 have e:(execOp a.eval {dst,op:=.call {callee:=.builtin .append,args:=#[.tmp i,.tmp j],argTypes:=#[29,29]},type:=ty,pos,after,guard}).run Tryz.prog w=.ok (.value v') w':=by
  simp only[execOp,resolve,invoke,builtin,Sem.run_bind,Sem.run_pure,Result.andThen_ok,List.map_toArray,List.map_cons,List.map_nil,h1,h2,hr]
 refine⟨?_⟩;unfold Turns;rw[e];have hrow:∃cur:Nat->Array Value,∀k,v.ownBlock=some k->w.heap[k]? = some (.cells (cur k) 44 (0,0)):=by
  rcases R.own.2 with⟨rfl,_⟩|⟨g',cap,cur,rfl,_,hh,_⟩
  ·exact⟨fun _=>#[],fun k hk=>by simp[Value.ownBlock]at hk⟩
  ·refine⟨fun _=>cur,fun k hk=>?_⟩;simp only[Value.ownBlock,Option.some.injEq]at hk;subst hk;exact hh
 obtain⟨cur,hcur⟩:=hrow;refine⟨⟨by rw[hfl,List.length_append];exact ho,fun e he=>?_,fun e he=>?_⟩,⟨hgr.os,hgr.tape,hgr.output,hgr.size,fun k hk=>hgr.block k (by omega) (fun e=>?_)⟩⟩
 ·rcases List.mem_append.1 he with he|he
  ·exact(R.o1 e he).grownq hgr hcur
  ·obtain rfl:=List.mem_singleton.1 he;exact S1.grownq hgr hcur
 ·rcases List.mem_append.1 he with he|he
  ·exact(R.o2 e he).grownq hgr hcur
  ·obtain rfl:=List.mem_singleton.1 he;exact S2.grownq hgr hcur
 ·have:=R.own.lt k e.symm;omega
section
variable {dst:Option Tmp} {ty:TypeId} {pos:String} {after:Array Edge} {guard:Option (Nat×Bool)} {a:Act} {w:World} {ats:Array TypeId} {i k g:Nat} {x z u v:Int} {L:Nat}
theorem ai0(h:OutN z L (a.eval (.tmp i)) w)(hL:L<=1000000):
  Does Tryz.prog {dst,op:=.call {callee:=.value (.func 69),args:=#[.tmp i],argTypes:=ats},type:=ty,pos,after,guard} a.eval w fun v w'=>Below w.heap.size w w'/\OutL (z.natAbs:Int) L v w':=by
 obtain⟨ng,ao,cap,rs,e1,W,l⟩:=h;have hb:=W.bound l;refine aaq apt _ (by simp only[List.map_toArray,List.map_cons,List.map_nil,e1]) ((Dm.agh w ng ao cap rs _ W.1 L hb hL (by omega)).mono ?_);rintro e w' ⟨v,rfl,I,hb'⟩;obtain⟨ao,cap,rs,rfl,G⟩:=I.got;exact⟨_,rfl,hb',_,_,_,rfl,G,aau G.canon (by rw[G.val];exact hb)⟩
theorem ayv(w:World):(Instr.fieldAt 82 (.pointer (some ⟨g,0,none⟩)) 1).run Tryz.prog w=.ok (.pointer (some ⟨g,1,none⟩)) w:=by go_simp
theorem atn{ng:Bool}{ao:Option Addr}{n c:Nat}(hp:a.eval (.tmp k)=.pointer (some ⟨g,1,none⟩))(hb:BoxV N2 w g (.agg #[.bool ng,.slice ao n c])):
  Does Tryz.prog {dst,op:=.load 61 (.tmp k),type:=ty,pos,after,guard} a.eval w fun v' w'=>Below w.heap.size w w'/\Eqs (.slice ao n c) v' w':=by
 obtain⟨b1,b2,b3,b4⟩:=(ast hb).facts;refine aav (v:=.slice ao n c) ?_ ⟨Below.refl _ _,rfl⟩;rw[hp];go_simp
theorem ayw{ao:Option Addr}{n c:Nat}(h:a.eval (.tmp i)=.slice ao n c):Does Tryz.prog {dst,op:=.call {callee:=.builtin .len,args:=#[.tmp i],argTypes:=#[61]},type:=ty,pos,after,guard} a.eval w fun v' w'=>Below w.heap.size w w'/\Eqs (.int .i64 n) v' w':=by
 have e:(execOp a.eval {dst,op:=.call {callee:=.builtin .len,args:=#[.tmp i],argTypes:=#[61]},type:=ty,pos,after,guard}).run Tryz.prog w=.ok (.value (.int .i64 n)) w:=by
  have h':a.tmps[i]?.getD undef=.slice ao n c:=by simpa[Act.eval]using h
  simp[go_sem,h']
 refine⟨?_⟩;unfold Turns;rw[e];exact⟨Below.refl _ _,rfl⟩
theorem aoe{m:Nat}(h:OutL x L (a.eval (.tmp i)) w)(hm:IsLen x m):Does Tryz.prog {dst,op:=.call {callee:=.builtin .len,args:=#[.tmp i],argTypes:=#[37]},type:=ty,pos,after,guard} a.eval w fun v' w'=>Below w.heap.size w w'/\Eqs (.int .i64 m) v' w':=by
 obtain⟨ao,cap,rs,e,G,l⟩:=h;have hl:rs.length=m:=agi ⟨rs,G.canon,G.val,rfl⟩ hm;exact(ak7 e).mono (fun v' w' ⟨hb,e⟩=>⟨hb,by rw[Eqs,show v'=_ from e,hl]⟩)
theorem ayx(h1:a.eval (.tmp i)=.int .i64 u):
  Does Tryz.prog {dst,op:=.binOp .lss 3 (.tmp i) (.const (.int .i64 v)) 3,type:=ty,pos,after,guard} a.eval w fun v' w'=>Below w.heap.size w w'/\Eqs (.bool (decide (u<v))) v' w':=by
 refine adf (v:=.bool (decide (u<v))) ?_ ?_ ⟨Below.refl _ _,rfl⟩
 ·rw[h1];simp[go_sem,Act.eval]
 ·rw[h1];simp[go_sem,Act.eval]
end
theorem ayy(w:World)(Bx:Nat)(nx:Bool)(ax:Option Addr)(cx:Nat)(xs:List Int)(zx:Int)(Gx:Dm.Wh w nx ax cx xs zx)(Lx:xs.length<=Bx)(hL:Bx<=1000000)(m:Nat)(hm:IsLen (zx.natAbs:Int) m):
  Calls Tryz.prog 68 #[.agg #[.bool nx,.slice ax xs.length cx]] w fun e w'=>∃v,e=.returned v/\(Eqs (.int .i64 (m:Int))) v w'/\Below w.heap.size w w':=by
 go_enter Tryz.func68,Tryz.ntmps68
 generalize hA:(Act.mk _ _)=aa;have hn:aa.tmps.size=13:=by rw[<-hA];rfl
 have hd:aa.defers = []:=by rw[<-hA]
 have f0:aa.eval (.tmp 0)=.agg #[.bool nx,.slice ax xs.length cx]:=by rw[<-hA];rfl
 clear hA;have HB:Below w.heap.size w w:=Below.refl _ _;refine wp_seq ?_;refine aao [some 1,some 2] [(fun _ _=>True),Eqs ((.int .i64 0))] [⟨N2,some 0,0,1,.agg #[.bool nx,.slice ax xs.length cx],none,[]⟩] [] (by kernel_rfl) hn rfl (by kernel_rfl) (by kernel_rfl) (by kernel_rfl) (by kernel_rfl) (by kernel_rfl) (by kernel_rfl) ⟨True.mono4,Eqs.mono4 _,trivial⟩ (aa0 N2ok aat) (IsOld.all (bx:=[⟨N2,some 0,0,1,.agg #[.bool nx,.slice ax xs.length cx],none,[]⟩]) ⟨someNe,trivial⟩) (DisOld.all (bx:=[⟨N2,some 0,0,1,.agg #[.bool nx,.slice ax xs.length cx],none,[]⟩]) ⟨someNe,trivial⟩) ?_ ?_
 ·exact⟨.alloc 0 _ rfl rfl (.inr ⟨_,rfl,af0,fun a_ hR=>(hR 0 rfl).trans f0⟩) rfl rfl rfl rfl rfl,
   .norm 2 rfl rfl rfl (fun a_ w_ hn_ hBt hr hR hD hO hS=>abg rfl),
   trivial⟩
 ·intro a1 w1 gs1 hn1 hd1 hBt hr hR hP hX hU;replace hn:=hn1;replace hd:=hd1.trans hd;have b1:BoxV N2 w1 (gs1 0) (.agg #[.bool nx,.slice ax xs.length cx]):=(hX 0 _ rfl).2.2.2;have f1:=(hX 0 _ rfl).1;have u1:w.heap.size<=gs1 0:=Nat.le_trans HB.size ((hX 0 _ rfl).2.2.1 (by simp));have e2:a1.eval (.tmp 2)=(.int .i64 0):=hP 1 (by decide);have f2:=e2;replace Gx:=Gx.rl hr;replace HB:=HB.trans (hBt.below HB.size (UpOld.all (bx:=[⟨N2,some 0,0,1,.agg #[.bool nx,.slice ax xs.length cx],none,[]⟩]) ⟨someNe,trivial⟩));clear hBt hr hR hP hX hU;refine wp_seq ?_;refine wp_seq ?_;refine aao [some 3,some 4,some 5,some 6] [Eqs (.pointer (some ⟨gs1 0,1,none⟩)),Eqs (.slice ax xs.length cx),Eqs (.int .i64 (xs.length:Int)),Eqs (.bool (decide ((xs.length:Int)<3)))] [] [] (by kernel_rfl) hn rfl (by kernel_rfl) (by kernel_rfl) (by kernel_rfl) (by kernel_rfl) (by kernel_rfl) (by kernel_rfl) ⟨Eqs.mono4 _,Eqs.mono4 _,Eqs.mono4 _,Eqs.mono4 _,trivial⟩ aat (IsOld.all (bx:=[]) trivial) (DisOld.all (bx:=[]) trivial) ?_ ?_
  ·exact⟨.norm 3 rfl rfl rfl (fun a_ w_ hn_ hBt hr hR hD hO hS=>ait ayv ((hR 1 rfl).trans f1)),
    .norm 4 rfl rfl rfl (fun a_ w_ hn_ hBt hr hR hD hO hS=>atn (show a_.eval (.tmp 3)=.pointer (some ⟨gs1 0,1,none⟩)from hD 0 rfl) (b1.keep hBt trivial)),
    .norm 5 rfl rfl rfl (fun a_ w_ hn_ hBt hr hR hD hO hS=>ayw (show a_.eval (.tmp 4)=.slice ax xs.length cx from hD 1 rfl)),
    .norm 6 rfl rfl rfl (fun a_ w_ hn_ hBt hr hR hD hO hS=>ayx (show a_.eval (.tmp 5)=.int .i64 (xs.length:Int)from hD 2 rfl)),
    trivial⟩
  ·intro a2 w2 gs2 hn2 hd2 hBt hr hR hP hX hU;replace hn:=hn2;replace hd:=hd2.trans hd;replace b1:=b1.keep hBt trivial;replace f1:=(hR 1 rfl).trans f1;replace f2:=(hR 2 rfl).trans f2;have e6:a2.eval (.tmp 6)=.bool (decide ((xs.length:Int)<3)):=hP 3 (by decide);have f6:=e6;replace Gx:=Gx.rl hr;replace HB:=HB.trans (hBt.below HB.size (UpOld.all (bx:=[]) trivial));clear hBt hr hR hP hX hU;refine wp_cond_split f6 (fun hc6=>?_) (fun hc6=>?_)
   ·skip;refine wp_seq ?_;refine aao [some 7,some 8,some 9,some 2] [Eqs (.agg #[.bool nx,.slice ax xs.length cx]),OutL (((zx).natAbs:Int)) (Bx),Eqs (.int .i64 (m:Int)),Eqs (.int .i64 (m:Int))] [] [] (by kernel_rfl) hn rfl (by kernel_rfl) (by kernel_rfl) (by kernel_rfl) (by kernel_rfl) (by kernel_rfl) (by kernel_rfl) ⟨Eqs.mono4 _,OutL.mono4 _ _,Eqs.mono4 _,Eqs.mono4 _,trivial⟩ aat (IsOld.all (bx:=[]) trivial) (DisOld.all (bx:=[]) trivial) ?_ ?_
    ·exact⟨.norm 7 rfl rfl rfl (fun a_ w_ hn_ hBt hr hR hD hO hS=>aa3 N2ok ((hR 1 rfl).trans f1) (b1.keep hBt trivial)),
      .norm 8 rfl rfl rfl (fun a_ w_ hn_ hBt hr hR hD hO hS=>ai0 (aa9 (show a_.eval (.tmp 7)=.agg #[.bool nx,.slice ax xs.length cx]from hD 0 rfl) (Gx.rl hr) Lx) (by omega)),
      .norm 9 rfl rfl rfl (fun a_ w_ hn_ hBt hr hR hD hO hS=>aoe (show OutL (((zx).natAbs:Int)) (Bx) (a_.eval (.tmp 8)) w_ from hD 1 rfl) hm),
      .norm 2 rfl rfl rfl (fun a_ w_ hn_ hBt hr hR hD hO hS=>abg (show a_.eval (.tmp 9)=.int .i64 (m:Int)from hD 2 rfl)),
      trivial⟩
    ·intro a3 w3 gs3 hn3 hd3 hBt hr hR hP hX hU;replace hn:=hn3;replace hd:=hd3.trans hd;replace b1:=b1.keep hBt trivial;replace f1:=(hR 1 rfl).trans f1;have e2:a3.eval (.tmp 2)=.int .i64 (m:Int):=hP 3 (by decide);have f2:=e2;replace Gx:=Gx.rl hr;replace HB:=HB.trans (hBt.below HB.size (UpOld.all (bx:=[]) trivial));clear hBt hr hR hP hX hU;refine wp_ret ?_;repeat(first|refine ab3 ?_|refine aba ?_|refine abw ?_)
     exact bodyPost_ret (v:=.int .i64 (m:Int)) (acj rfl f2) hd ⟨_,rfl,rfl,HB⟩
   ·skip;refine wp_skip ?_;refine wp_seq ?_;refine aao [some 10,some 11,some 12,some 2] [Eqs (.agg #[.bool nx,.slice ax xs.length cx]),OutL (((zx).natAbs:Int)) (Bx),Eqs (.int .i64 (m:Int)),Eqs (.int .i64 (m:Int))] [] [] (by kernel_rfl) hn rfl (by kernel_rfl) (by kernel_rfl) (by kernel_rfl) (by kernel_rfl) (by kernel_rfl) (by kernel_rfl) ⟨Eqs.mono4 _,OutL.mono4 _ _,Eqs.mono4 _,Eqs.mono4 _,trivial⟩ aat (IsOld.all (bx:=[]) trivial) (DisOld.all (bx:=[]) trivial) ?_ ?_
    ·exact⟨.norm 10 rfl rfl rfl (fun a_ w_ hn_ hBt hr hR hD hO hS=>aa3 N2ok ((hR 1 rfl).trans f1) (b1.keep hBt trivial)),
      .norm 11 rfl rfl rfl (fun a_ w_ hn_ hBt hr hR hD hO hS=>ai0 (aa9 (show a_.eval (.tmp 10)=.agg #[.bool nx,.slice ax xs.length cx]from hD 0 rfl) (Gx.rl hr) Lx) (by omega)),
      .norm 12 rfl rfl rfl (fun a_ w_ hn_ hBt hr hR hD hO hS=>aoe (show OutL (((zx).natAbs:Int)) (Bx) (a_.eval (.tmp 11)) w_ from hD 1 rfl) hm),
      .norm 2 rfl rfl rfl (fun a_ w_ hn_ hBt hr hR hD hO hS=>abg (show a_.eval (.tmp 12)=.int .i64 (m:Int)from hD 2 rfl)),
      trivial⟩
    ·intro a4 w4 gs4 hn4 hd4 hBt hr hR hP hX hU;replace hn:=hn4;replace hd:=hd4.trans hd;have e2:a4.eval (.tmp 2)=.int .i64 (m:Int):=hP 3 (by decide);have f2:=e2;replace Gx:=Gx.rl hr;replace HB:=HB.trans (hBt.below HB.size (UpOld.all (bx:=[]) trivial));clear hBt hr hR hP hX hU;refine wp_ret ?_;repeat(first|refine ab3 ?_|refine aba ?_|refine abw ?_)
     exact bodyPost_ret (v:=.int .i64 (m:Int)) (acj rfl f2) hd ⟨_,rfl,rfl,HB⟩
theorem ato:Has Tryz.prog 68:=by unfold Has;kernel_rfl
theorem al8{dst:Option Tmp}{ty:TypeId}{pos:String}{after:Array Edge}{guard:Option (Nat×Bool)}{a:Act}{w:World}{ats:Array TypeId}{i:Nat}{Bx:Nat}{zx:Int}(Hx:OutN zx Bx (a.eval (.tmp i)) w)(hL:Bx<=1000000)(m:Nat)(hm:IsLen (zx.natAbs:Int) m):
  Does Tryz.prog {dst,op:=.call {callee:=.value (.func 68),args:=#[.tmp i],argTypes:=ats},type:=ty,pos,after,guard} a.eval w fun v w'=>Below w.heap.size w w'/\(Eqs (.int .i64 (m:Int))) v w':=by
 obtain⟨nx,ax,cx,xs,ex,Gx,Lx⟩:=Hx;refine aaq ato _ (by simp only[List.map_toArray,List.map_cons,List.map_nil,ex]) ((ayy w Bx _ _ _ _ _ Gx Lx hL m hm).mono ?_);rintro e w' ⟨v,rfl,h1,hb⟩;exact⟨_,rfl,hb,h1⟩
section
end
theorem ayz(w:World)(Bx:Nat)(nx:Bool)(ax:Option Addr)(cx:Nat)(xs:List Int)(px:Int)(Gx:Dm.Wh w nx ax cx xs px)(Lx:xs.length<=Bx)(ox:Bool)(bx:Option Addr)(dx:Nat)(xt:List Int)(qx:Int)(Kx:Dm.Wh w ox bx dx xt qx)(Mx:xt.length<=Bx)(hL:Bx<=1000000)(mP mQ:Nat)(hmP:IsLen (px.natAbs:Int) mP)(hmQ:IsLen (qx.natAbs:Int) mQ):
  Calls Tryz.prog 37 #[.agg #[.bool nx,.slice ax xs.length cx,.bool ox,.slice bx xt.length dx]] w fun e w'=>∃v,e=.returned v/\(Eqs (.int .i64 ((max mP mQ:Nat):Int))) v w'/\Below w.heap.size w w':=by
 go_enter Tryz.func37,Tryz.ntmps37
 generalize hA:(Act.mk _ _)=aa;have hn:aa.tmps.size=16:=by rw[<-hA];rfl
 have hd:aa.defers = []:=by rw[<-hA]
 have f0:aa.eval (.tmp 0)=.agg #[.bool nx,.slice ax xs.length cx,.bool ox,.slice bx xt.length dx]:=by rw[<-hA];rfl
 clear hA;have HB:Below w.heap.size w w:=Below.refl _ _;refine wp_seq ?_;refine aao [some 1,some 2] [Tt,Eqs ((.int .i64 0))] [⟨Q4,some 0,0,1,.agg #[.bool nx,.slice ax xs.length cx,.bool ox,.slice bx xt.length dx],none,[]⟩] [] (by kernel_rfl) hn rfl (by kernel_rfl) (by kernel_rfl) (by kernel_rfl) (by kernel_rfl) (by kernel_rfl) (by kernel_rfl) ⟨True.mono4,Eqs.mono4 _,trivial⟩ (aa0 Q4ok aat) (IsOld.all (bx:=[⟨Q4,some 0,0,1,.agg #[.bool nx,.slice ax xs.length cx,.bool ox,.slice bx xt.length dx],none,[]⟩]) ⟨someNe,trivial⟩) (DisOld.all (bx:=[⟨Q4,some 0,0,1,.agg #[.bool nx,.slice ax xs.length cx,.bool ox,.slice bx xt.length dx],none,[]⟩]) ⟨someNe,trivial⟩) ?_ ?_
 ·exact⟨.alloc 0 _ rfl rfl (.inr ⟨_,rfl,a09,fun a_ hR=>(hR 0 rfl).trans f0⟩) rfl rfl rfl rfl rfl,.norm 2 rfl rfl rfl (fun a_ w_ _ t r R D _ _=>abg rfl),trivial⟩
 ·intro a1 w1 gs1 hn1 hd1 hBt hr hR hP hX hU;replace hn:=hn1;replace hd:=hd1.trans hd;have b1:BoxV Q4 w1 (gs1 0) (.agg #[.bool nx,.slice ax xs.length cx,.bool ox,.slice bx xt.length dx]):=(hX 0 _ rfl).2.2.2;have f1:=(hX 0 _ rfl).1;have u1:w.heap.size<=gs1 0:=Nat.le_trans HB.size ((hX 0 _ rfl).2.2.1 (by simp));have e2:a1.eval (.tmp 2)=(.int .i64 0):=hP 1 (by decide);have f2:=e2;replace Gx:=Gx.rl hr;replace Kx:=Kx.rl hr;replace HB:=HB.trans (hBt.below HB.size (UpOld.all (bx:=[⟨Q4,some 0,0,1,.agg #[.bool nx,.slice ax xs.length cx,.bool ox,.slice bx xt.length dx],none,[]⟩]) ⟨someNe,trivial⟩));clear hBt hr hR hP hX hU;refine wp_seq ?_;refine aao [some 5,some 6,some 7,some 3] [Eqs (.pointer (some ⟨gs1 0,0,none⟩)),Eqs (.agg #[.bool nx,.slice ax xs.length cx]),Eqs (.int .i64 (mP:Int)),Eqs (.int .i64 (mP:Int))] [] [] (by kernel_rfl) hn rfl (by kernel_rfl) (by kernel_rfl) (by kernel_rfl) (by kernel_rfl) (by kernel_rfl) (by kernel_rfl) ⟨Eqs.mono4 _,Eqs.mono4 _,Eqs.mono4 _,Eqs.mono4 _,trivial⟩ aat (IsOld.all (bx:=[]) trivial) (DisOld.all (bx:=[]) trivial) ?_ ?_
  ·exact⟨.norm 5 rfl rfl rfl (fun a_ w_ _ t r R D _ _=>asv a1a ((R 1 rfl).trans f1)),.norm 6 rfl rfl rfl (fun a_ w_ _ t r R D _ _=>ayc (show a_.eval (.tmp 5)=.pointer (some ⟨gs1 0,0,none⟩)from D 0 rfl) (b1.keep t trivial)),.norm 7 rfl rfl rfl (fun a_ w_ _ t r R D _ _=>al8 (aa9 (show a_.eval (.tmp 6)=.agg #[.bool nx,.slice ax xs.length cx]from D 1 rfl) (Gx.rl r) Lx) (by omega) mP hmP),.norm 3 rfl rfl rfl (fun a_ w_ _ t r R D _ _=>abg (show a_.eval (.tmp 7)=.int .i64 (mP:Int)from D 2 rfl)),trivial⟩
  ·intro a2 w2 gs2 hn2 hd2 hBt hr hR hP hX hU;replace hn:=hn2;replace hd:=hd2.trans hd;replace b1:=b1.keep hBt trivial;replace f1:=(hR 1 rfl).trans f1;replace f2:=(hR 2 rfl).trans f2;have e3:a2.eval (.tmp 3)=.int .i64 (mP:Int):=hP 3 (by decide);have f3:=e3;replace Gx:=Gx.rl hr;replace Kx:=Kx.rl hr;replace HB:=HB.trans (hBt.below HB.size (UpOld.all (bx:=[]) trivial));clear hBt hr hR hP hX hU;refine wp_seq ?_;refine aao [some 8,some 9,some 10,some 4] [Eqs (.pointer (some ⟨gs1 0,2,none⟩)),Eqs (.agg #[.bool ox,.slice bx xt.length dx]),Eqs (.int .i64 (mQ:Int)),Eqs (.int .i64 (mQ:Int))] [] [] (by kernel_rfl) hn rfl (by kernel_rfl) (by kernel_rfl) (by kernel_rfl) (by kernel_rfl) (by kernel_rfl) (by kernel_rfl) ⟨Eqs.mono4 _,Eqs.mono4 _,Eqs.mono4 _,Eqs.mono4 _,trivial⟩ aat (IsOld.all (bx:=[]) trivial) (DisOld.all (bx:=[]) trivial) ?_ ?_
   ·exact⟨.norm 8 rfl rfl rfl (fun a_ w_ _ t r R D _ _=>asv a1b ((R 1 rfl).trans f1)),.norm 9 rfl rfl rfl (fun a_ w_ _ t r R D _ _=>ayd (show a_.eval (.tmp 8)=.pointer (some ⟨gs1 0,2,none⟩)from D 0 rfl) (b1.keep t trivial)),.norm 10 rfl rfl rfl (fun a_ w_ _ t r R D _ _=>al8 (aa9 (show a_.eval (.tmp 9)=.agg #[.bool ox,.slice bx xt.length dx]from D 1 rfl) (Kx.rl r) Mx) (by omega) mQ hmQ),.norm 4 rfl rfl rfl (fun a_ w_ _ t r R D _ _=>abg (show a_.eval (.tmp 10)=.int .i64 (mQ:Int)from D 2 rfl)),trivial⟩
   ·intro a3 w3 gs3 hn3 hd3 hBt hr hR hP hX hU;replace hn:=hn3;replace hd:=hd3.trans hd;replace f2:=(hR 2 rfl).trans f2;replace f3:=(hR 3 rfl).trans f3;have e4:a3.eval (.tmp 4)=.int .i64 (mQ:Int):=hP 3 (by decide);have f4:=e4;replace Gx:=Gx.rl hr;replace Kx:=Kx.rl hr;replace HB:=HB.trans (hBt.below HB.size (UpOld.all (bx:=[]) trivial));clear hBt hr hR hP hX hU;refine wp_seq ?_;refine wp_seq ?_;refine aao [some 11,some 12,some 13] [Eqs (.int .i64 (mP:Int)),Eqs (.int .i64 (mQ:Int)),Eqs (.bool (decide ((mP:Int)<(mQ:Int))))] [] [] (by kernel_rfl) hn rfl (by kernel_rfl) (by kernel_rfl) (by kernel_rfl) (by kernel_rfl) (by kernel_rfl) (by kernel_rfl) ⟨Eqs.mono4 _,Eqs.mono4 _,Eqs.mono4 _,trivial⟩ aat (IsOld.all (bx:=[]) trivial) (DisOld.all (bx:=[]) trivial) ?_ ?_
    ·exact⟨.norm 11 rfl rfl rfl (fun a_ w_ _ t r R D _ _=>aah ((R 3 rfl).trans f3)),.norm 12 rfl rfl rfl (fun a_ w_ _ t r R D _ _=>aah ((R 4 rfl).trans f4)),.norm 13 rfl rfl rfl (fun a_ w_ _ t r R D _ _=>ayf (show a_.eval (.tmp 11)=.int .i64 (mP:Int)from D 0 rfl) (show a_.eval (.tmp 12)=.int .i64 (mQ:Int)from D 1 rfl)),trivial⟩
    ·intro a4 w4 gs4 hn4 hd4 hBt hr hR hP hX hU;replace hn:=hn4;replace hd:=hd4.trans hd;replace f2:=(hR 2 rfl).trans f2;replace f3:=(hR 3 rfl).trans f3;replace f4:=(hR 4 rfl).trans f4;have e13:a4.eval (.tmp 13)=.bool (decide ((mP:Int)<(mQ:Int))):=hP 2 (by decide);have f13:=e13;replace Gx:=Gx.rl hr;replace Kx:=Kx.rl hr;replace HB:=HB.trans (hBt.below HB.size (UpOld.all (bx:=[]) trivial));clear hBt hr hR hP hX hU;refine wp_cond_split f13 (fun hc13=>?_) (fun hc13=>?_)
     ·skip;refine wp_seq ?_;refine aao [some 14,some 2] [Eqs (.int .i64 (mQ:Int)),Eqs (.int .i64 (mQ:Int))] [] [] (by kernel_rfl) hn rfl (by kernel_rfl) (by kernel_rfl) (by kernel_rfl) (by kernel_rfl) (by kernel_rfl) (by kernel_rfl) ⟨Eqs.mono4 _,Eqs.mono4 _,trivial⟩ aat (IsOld.all (bx:=[]) trivial) (DisOld.all (bx:=[]) trivial) ?_ ?_
      ·exact⟨.norm 14 rfl rfl rfl (fun a_ w_ _ t r R D _ _=>aah ((R 4 rfl).trans f4)),.norm 2 rfl rfl rfl (fun a_ w_ _ t r R D _ _=>abg (show a_.eval (.tmp 14)=.int .i64 (mQ:Int)from D 0 rfl)),trivial⟩
      ·intro a5 w5 gs5 hn5 hd5 hBt hr hR hP hX hU;replace hn:=hn5;replace hd:=hd5.trans hd;replace f3:=(hR 3 rfl).trans f3;have e2:a5.eval (.tmp 2)=.int .i64 (mQ:Int):=hP 1 (by decide);have f2:=e2;replace Gx:=Gx.rl hr;replace Kx:=Kx.rl hr;replace HB:=HB.trans (hBt.below HB.size (UpOld.all (bx:=[]) trivial));clear hBt hr hR hP hX hU;refine wp_ret ?_;repeat(first|refine ab3 ?_|refine aba ?_|refine abw ?_)
       exact bodyPost_ret (v:=.int .i64 (mQ:Int)) (acj rfl f2) hd ⟨_,rfl,(by have h:=of_decide_eq_true hc13;simp only[Eqs,Value.int.injEq,true_and];omega),HB⟩
     ·skip;refine wp_skip ?_;refine wp_seq ?_;refine aao [some 15,some 2] [Eqs (.int .i64 (mP:Int)),Eqs (.int .i64 (mP:Int))] [] [] (by kernel_rfl) hn rfl (by kernel_rfl) (by kernel_rfl) (by kernel_rfl) (by kernel_rfl) (by kernel_rfl) (by kernel_rfl) ⟨Eqs.mono4 _,Eqs.mono4 _,trivial⟩ aat (IsOld.all (bx:=[]) trivial) (DisOld.all (bx:=[]) trivial) ?_ ?_
      ·exact⟨.norm 15 rfl rfl rfl (fun a_ w_ _ t r R D _ _=>aah ((R 3 rfl).trans f3)),.norm 2 rfl rfl rfl (fun a_ w_ _ t r R D _ _=>abg (show a_.eval (.tmp 15)=.int .i64 (mP:Int)from D 0 rfl)),trivial⟩
      ·intro a6 w6 gs6 hn6 hd6 hBt hr hR hP hX hU;replace hn:=hn6;replace hd:=hd6.trans hd;have e2:a6.eval (.tmp 2)=.int .i64 (mP:Int):=hP 1 (by decide);have f2:=e2;replace Gx:=Gx.rl hr;replace Kx:=Kx.rl hr;replace HB:=HB.trans (hBt.below HB.size (UpOld.all (bx:=[]) trivial));clear hBt hr hR hP hX hU;refine wp_ret ?_;repeat(first|refine ab3 ?_|refine aba ?_|refine abw ?_)
       exact bodyPost_ret (v:=.int .i64 (mP:Int)) (acj rfl f2) hd ⟨_,rfl,(by have h:=of_decide_eq_false hc13;simp only[Eqs,Value.int.injEq,true_and];omega),HB⟩
theorem infoQ:(Tryz.prog.info? 84).map (fun i=>(i.zero,i.size,i.bytes))=some (some (.agg #[.bool false,.slice none 0 0,.bool false,.slice none 0 0]),4,64):=by kernel_rfl
def OneN(z:Int)(L:Nat):Says:=fun v w=>∃g ng a m c,v=.slice (some ⟨g,0,none⟩) 1 1/\w.heap[g]? = some (.cells #[.bool ng,.slice a m c] 82 (0,0))/\OutN z L (.agg #[.bool ng,.slice a m c]) w
theorem OneN.mono(z:Int)(L:Nat):Mono (OneN z L):=fun _ _ _ hb ⟨g,ng,a,m,c,e,h,o⟩=>⟨g,ng,a,m,c,e,(hb.block g (aaa h)).trans h,o.rl (Rl.of_below hb)⟩
section
variable {dst:Option Tmp} {ty:TypeId} {pos:String} {after:Array Edge} {guard:Option (Nat×Bool)} {a:Act} {w:World} {ats:Array TypeId} {i j:Nat}
theorem ay0{b o:Nat}(h:a.eval (.tmp i)=.pointer (some ⟨b,o,none⟩)):Does Tryz.prog {dst,op:=.fieldAddr 84 (.tmp i) 0,type:=ty,pos,after,guard} a.eval w fun v' w'=>Below w.heap.size w w'/\Eqs (.pointer (some ⟨b,o,none⟩)) v' w':=by
 refine⟨?_⟩;unfold Turns;simp only[execOp,h];go_simp;exact⟨Below.refl _ _,rfl⟩
theorem ay1{b o:Nat}(h:a.eval (.tmp i)=.pointer (some ⟨b,o,none⟩)):Does Tryz.prog {dst,op:=.fieldAddr 84 (.tmp i) 1,type:=ty,pos,after,guard} a.eval w fun v' w'=>Below w.heap.size w w'/\Eqs (.pointer (some ⟨b,o+2,none⟩)) v' w':=by
 refine⟨?_⟩;unfold Turns;simp only[execOp,h];go_simp;exact⟨Below.refl _ _,rfl⟩
theorem aof{z:Int}{L:Nat}(h:OutN z L (a.eval (.tmp i)) w):
  Does Tryz.prog {dst,op:=.buildSlice 78 1 #[(0,.tmp i)],type:=ty,pos,after,guard} a.eval w fun v w'=>Below w.heap.size w w'/\OneN z L v w':=by
 obtain⟨ng,ao,n,c,e⟩:=h.agg;rw[e]at h;have hb:=hAl w (.cells #[.bool ng,.slice ao n c] 82);refine acw (v:=.slice (some ⟨w.heap.size,0,none⟩) 1 1) (w':=w.alloc (.cells #[.bool ng,.slice ao n c] 82)) ?_ ⟨hb,_,_,_,_,_,rfl,heap_alloc_new _ _,h.rl (Rl.of_below hb)⟩;simp only[List.map_toArray,List.map_cons,List.map_nil,e];go_simp
end
end Lm
end Go.Proofs.YtnamacnblomgcaaGreat
