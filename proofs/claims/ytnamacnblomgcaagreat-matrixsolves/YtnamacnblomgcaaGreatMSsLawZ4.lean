/-
  What the text behind the last one leans on, part 4.
-/
import Derived.Test.YtnamacnblomgcaaGreatMSsLawZ3
set_option maxRecDepth 20000
set_option maxHeartbeats 40000000
namespace Go.Proofs.YtnamacnblomgcaaGreat
namespace Lm
open Go Go.RowKit
def joinZ(p:Int)(us:List Int)(q:Int)(ys:List Int):List Int:=List.zipWith (fun x y=>p*x-q*y) us ys
set_option maxRecDepth 100000 in
theorem ap8(w:World)(p q:Int)(us ys:List Int)(vp va vq vb:Value)(M N:Nat)(hp:OutN p (3*M) vp w)(ha:NRow w va us (3*M))(hq:OutN q (3*M) vq w)(hb:NRow w vb ys (3*M))(hab:us.length=ys.length)(hn:us.length<=100000)(hM:M<=60000)(hN:N<=100000)(hne:us≠[])(hz:∀z∈joinZ p us q ys,(z.natAbs:Int)<pw N):
  Calls Tryz.prog 107 #[vp,va,vq,vb] w fun e w'=>∃r,e=.returned r/\NRow w' r (red (joinZ p us q ys)) (3*N)/\Below w.heap.size w w':=by
 obtain⟨aa,ca,rfl,_⟩:=ha.parts;obtain⟨ab,cb,rfl,_⟩:=hb.parts;obtain⟨ngp,ap,np,cp,rfl⟩:=hp.agg;obtain⟨ngq,aq,nq,cq,rfl⟩:=hq.agg;have hpos:0<us.length:=List.length_pos_iff.2 hne;obtain⟨ba,oa,_,_,_,_,haa,-⟩:=ha.cell (k:=0) (List.getElem?_eq_getElem hpos);subst haa;obtain⟨bb,ob,_,_,_,_,hbb,-⟩:=hb.cell (k:=0) (List.getElem?_eq_getElem (by omega));subst hbb;obtain⟨n,hnn⟩:∃n,us.length=n:=⟨_,rfl⟩;have hnb:ys.length=n:=by omega
 have hA:=hAl w (.cells #[.bool ngp,.slice ap np cp] 82);have hA':=hAl (w.alloc (.cells #[.bool ngp,.slice ap np cp] 82)) (.cells #[.bool ngq,.slice aq nq cq] 82);have h4:=heap_alloc_new w (.cells #[.bool ngp,.slice ap np cp] 82);have h6:=heap_alloc_new (w.alloc (.cells #[.bool ngp,.slice ap np cp] 82)) (.cells #[.bool ngq,.slice aq nq cq] 82);rw[show(w.alloc (.cells #[.bool ngp,.slice ap np cp] 82)).heap.size=w.heap.size+1 from Array.size_push ..]at h6;have h4':=(hA'.block _ (aaa h4)).trans h4;have hBB:=hA.trans (hA'.mono hA.size);have HP:=hide (hp.rl (Rl.of_below hBB));have HQ:=hide (hq.rl (Rl.of_below hBB));have HA:=hide (ha.below hBB);have HB:=hide (hb.below hBB);have HBB:=hide hBB;rw[hnn]at HA hn hpos ⊢;rw[hnb]at HB ⊢;have HNA:=hide hnn;have HNB:=hide hnb;have HZ:=hide hz;have HNE:=hide hne;have H4:=hide h4';have H6:=hide h6;clear hp ha hq hb hab hnn hnb hne hz hA hA' h4 h6 h4' hBB;go_enter Tryz.func107,Tryz.ntmps107
 go_wp2_with fail
 generalize ew:(w.alloc (.cells #[.bool ngp,.slice ap np cp] 82)).alloc (.cells #[.bool ngq,.slice aq nq cq] 82)=wa at *
 clear ew;go_loopw [9,10] (fun ov iv wr=>∃(k:Nat) (fs:List WE),iv=.int .i64 k/\k<=n/\Below wa.heap.size wa wr/\RnO wa.heap.size wr ov fs ((joinZ p us q ys).take k) (3*N)) (fun _ iv _=>n-(intOf iv).toNat)
 case atStart=>exact⟨0,[],rfl,Nat.zero_le _,Below.refl _ _,an9 _ _ _⟩
 case round=>
  obtain⟨k,fs,rfl,hk,hbw,hown⟩:=hrel;obtain⟨aov,capv,hov,_⟩:=Cl.own hown.own;subst hov;have HW:=hide hbw;have HOWN:=hide hown;by_cases hlt:k<n
  ·have hlt':(k:Int)<(n:Int):=by omega
   obtain⟨x,hx⟩:∃x,us[k]? = some x:=⟨_,List.getElem?_eq_getElem (by have:=HNA.out;omega)⟩;obtain⟨y,hy⟩:∃y,ys[k]? = some y:=⟨_,List.getElem?_eq_getElem (by have:=HNB.out;omega)⟩;have hzk:(joinZ p us q ys)[k]? = some (p*x-q*y):=by unfold joinZ;rw[List.getElem?_zipWith,hx,hy]
   have HZK:=hide hzk;have HFIT:Hid (((p*x-q*y).natAbs:Int)<pw N):=HZ.out _ (List.mem_of_getElem? hzk);obtain⟨ba',oa',_,_,_,_,e1,hbla,xa0,xa1,hxv⟩:=(HA.out.below hbw).cell hx;obtain⟨rfl,rfl⟩:ba=ba'/\oa=oa':=by simpa using e1
   obtain⟨bb',ob',_,_,_,_,e2,hblb,xb0,xb1,hyv⟩:=(HB.out.below hbw).cell hy;obtain⟨rfl,rfl⟩:bb=bb'/\ob=ob':=by simpa using e2
   have HX:=hide hxv;have HY:=hide hyv;obtain⟨hl4,c40,c41,_,_⟩:=aam ((hbw.block _ (aaa H4.out)).trans H4.out);obtain⟨hl6,c60,c61,_,_⟩:=aam ((hbw.block _ (aaa H6.out)).trans H6.out);have HP:=hide (HP.out.rl (Rl.of_below hbw));have HQ:=hide (HQ.out.rl (Rl.of_below hbw));clear hbw hown hx hy hzk e1 e2 hxv hyv;go_upto_region 5 with fail
   refine ac1 15 [17,18,19,20,21,22,23,24,25,26,27,28,29,30,31] [Eqs (.slice aov fs.length capv),(OutN (p) (3*M)),Eqs (.slice (some ⟨ba,oa,none⟩) n ca),Eqs (.int .i64 (k:Int)),Eqs (.pointer (some ⟨ba,oa+k*2,none⟩)),(OutN (x) (3*M)),(OutN (p*x) (3*M+3*M+1)),(OutN (q) (3*M)),Eqs (.slice (some ⟨bb,ob,none⟩) n cb),Eqs (.int .i64 (k:Int)),Eqs (.pointer (some ⟨bb,ob+k*2,none⟩)),(OutN (y) (3*M)),(OutN (q*y) (3*M+3*M+1)),(OutN (p*x-q*y) (3*N)),(OneN (p*x-q*y) (3*N))] rfl rfl (by decide) (by kernel_rfl) (by kernel_rfl) (by decide) (by kernel_rfl) ⟨Eqs.mono _,(Mono.of4 (OutN.mono4 _ _)),Eqs.mono _,Eqs.mono _,Eqs.mono _,(Mono.of4 (OutN.mono4 _ _)),(Mono.of4 (OutN.mono4 _ _)),(Mono.of4 (OutN.mono4 _ _)),Eqs.mono _,Eqs.mono _,Eqs.mono _,(Mono.of4 (OutN.mono4 _ _)),(Mono.of4 (OutN.mono4 _ _)),(Mono.of4 (OutN.mono4 _ _)),(OneN.mono _ _),trivial⟩ ?_ ?_
   ·exact⟨⟨rfl,fun a_ w_ _ hB hR hD=>aah ((hR 9 rfl).trans (aab rfl))⟩,
      ⟨rfl,fun a_ w_ _ hB hR hD=>acg ((hR 4 rfl).trans (aab rfl)) ((hB.cell (p:=⟨w.heap.size,0,none⟩) hl4).trans c40) ((hB.cell (p:=⟨w.heap.size,0+1,none⟩) hl4).trans c41) (Mono.of4 (OutN.mono4 _ _) _ _ _ hB HP.out)⟩,
      ⟨rfl,fun a_ w_ _ hB hR hD=>aah ((hR 1 rfl).trans (aab rfl))⟩,
      ⟨rfl,fun a_ w_ _ hB hR hD=>aah ((hR 10 rfl).trans (aab rfl))⟩,
      ⟨rfl,fun a_ w_ _ hB hR hD=>ac8 (show a_.eval (.tmp 19)=.slice (some ⟨ba,oa,none⟩) n ca from hD 2 rfl) rfl (show a_.eval (.tmp 20)=.int .i64 (k:Int)from hD 3 rfl) (by omega)⟩,
      ⟨rfl,fun a_ w_ _ hB hR hD=>acg (show a_.eval (.tmp 21)=.pointer (some ⟨ba,oa+k*2,none⟩)from hD 4 rfl) ((hB.cell (p:=⟨ba,oa+k*2,none⟩) hbla).trans xa0) ((hB.cell (p:=⟨ba,oa+k*2+1,none⟩) hbla).trans xa1) (Mono.of4 (OutN.mono4 _ _) _ _ _ hB HX.out)⟩,
      ⟨rfl,fun a_ w_ _ hB hR hD=>anx (L1:=3*M) (L2:=3*M) (show(OutN (p) (3*M)) (a_.eval (.tmp 18)) w_ from hD 1 rfl) (show(OutN (x) (3*M)) (a_.eval (.tmp 22)) w_ from hD 5 rfl) (by omega) (by omega)⟩,
      ⟨rfl,fun a_ w_ _ hB hR hD=>acg ((hR 6 rfl).trans (aab rfl)) ((hB.cell (p:=⟨w.heap.size+1,0,none⟩) hl6).trans c60) ((hB.cell (p:=⟨w.heap.size+1,0+1,none⟩) hl6).trans c61) (Mono.of4 (OutN.mono4 _ _) _ _ _ hB HQ.out)⟩,
      ⟨rfl,fun a_ w_ _ hB hR hD=>aah ((hR 3 rfl).trans (aab rfl))⟩,
      ⟨rfl,fun a_ w_ _ hB hR hD=>aah ((hR 10 rfl).trans (aab rfl))⟩,
      ⟨rfl,fun a_ w_ _ hB hR hD=>ac8 (show a_.eval (.tmp 25)=.slice (some ⟨bb,ob,none⟩) n cb from hD 8 rfl) rfl (show a_.eval (.tmp 26)=.int .i64 (k:Int)from hD 9 rfl) (by omega)⟩,
      ⟨rfl,fun a_ w_ _ hB hR hD=>acg (show a_.eval (.tmp 27)=.pointer (some ⟨bb,ob+k*2,none⟩)from hD 10 rfl) ((hB.cell (p:=⟨bb,ob+k*2,none⟩) hblb).trans xb0) ((hB.cell (p:=⟨bb,ob+k*2+1,none⟩) hblb).trans xb1) (Mono.of4 (OutN.mono4 _ _) _ _ _ hB HY.out)⟩,
      ⟨rfl,fun a_ w_ _ hB hR hD=>anx (L1:=3*M) (L2:=3*M) (show(OutN (q) (3*M)) (a_.eval (.tmp 24)) w_ from hD 7 rfl) (show(OutN (y) (3*M)) (a_.eval (.tmp 28)) w_ from hD 11 rfl) (by omega) (by omega)⟩,
      ⟨rfl,fun a_ w_ _ hB hR hD=>(aye (L1:=3*M+3*M+1) (L2:=3*M+3*M+1) (show(OutN (p*x) (3*M+3*M+1)) (a_.eval (.tmp 23)) w_ from hD 6 rfl) (show(OutN (q*y) (3*M+3*M+1)) (a_.eval (.tmp 29)) w_ from hD 12 rfl) (by omega) (by omega)).mono (fun _ _ h_=>⟨h_.1,h_.2.fit HFIT.out⟩)⟩,
      ⟨rfl,fun a_ w_ _ hB hR hD=>aof (show(OutN (p*x-q*y) (3*N)) (a_.eval (.tmp 30)) w_ from hD 13 rfl)⟩,
      trivial⟩
   ·intro a' w' hn' hd' hB' hR' hP';have e17:a'.eval (.tmp 17)=.slice aov fs.length capv:=hP' 0 (by decide);obtain⟨u18,e18⟩:∃u,a'.eval (.tmp 18)=u:=⟨_,rfl⟩;have e19:a'.eval (.tmp 19)=.slice (some ⟨ba,oa,none⟩) n ca:=hP' 2 (by decide);have e20:a'.eval (.tmp 20)=.int .i64 (k:Int):=hP' 3 (by decide);have e21:a'.eval (.tmp 21)=.pointer (some ⟨ba,oa+k*2,none⟩):=hP' 4 (by decide);obtain⟨u22,e22⟩:∃u,a'.eval (.tmp 22)=u:=⟨_,rfl⟩;obtain⟨u23,e23⟩:∃u,a'.eval (.tmp 23)=u:=⟨_,rfl⟩;obtain⟨u24,e24⟩:∃u,a'.eval (.tmp 24)=u:=⟨_,rfl⟩;have e25:a'.eval (.tmp 25)=.slice (some ⟨bb,ob,none⟩) n cb:=hP' 8 (by decide);have e26:a'.eval (.tmp 26)=.int .i64 (k:Int):=hP' 9 (by decide);have e27:a'.eval (.tmp 27)=.pointer (some ⟨bb,ob+k*2,none⟩):=hP' 10 (by decide);obtain⟨u28,e28⟩:∃u,a'.eval (.tmp 28)=u:=⟨_,rfl⟩;obtain⟨u29,e29⟩:∃u,a'.eval (.tmp 29)=u:=⟨_,rfl⟩;obtain⟨u30,e30⟩:∃u,a'.eval (.tmp 30)=u:=⟨_,rfl⟩;obtain⟨u31,e31⟩:∃u,a'.eval (.tmp 31)=u:=⟨_,rfl⟩;have hT:(OneN (p*x-q*y) (3*N)) (a'.eval (.tmp 31)) w':=hP' 14 (by decide);rw[e31]at hT;refine abl hn' hd' hR' (.s16 rfl <| .same rfl <| .new e17 <| .new e18 <| .new e19 <| .new e20 <| .new e21 <| .new e22 <| .new e23 <| .new e24 <| .new e25 <| .new e26 <| .new e27 <| .new e28 <| .new e29 <| .new e30 <| .new e31 <| .same rfl <| .same rfl <| .same rfl <| .nil) ?_;clear e17 e18 e19 e20 e21 e22 e23 e24 e25 e26 e27 e28 e29 e30 e31;obtain⟨gN,ng1,a1,m1,c1,rfl,hO2,hS2⟩:=hT;have hR2:=HOWN.out.below hB';have hsz:wa.heap.size<=w'.heap.size:=Nat.le_trans HW.out.size hB'.size;have hfl:fs.length<=1000000:=by rw[HOWN.out.len,List.length_take];omega
    have HJB:=hide (HW.out.trans (hB'.mono HW.out.size));clear hR' hP' hn' hd' hB' xa0 xa1 xb0 xb1 hbla hblb c40 c41 c60 c61 hl4 hl6;refine abo rfl (ajo (i:=17) (j:=31) rfl rfl hR2 hO2 hS2 hfl hsz) ?_;rintro v3 w3 ⟨hR3,hb3⟩;obtain⟨aov3,capv3,hov3,_⟩:=Cl.own hR3.own;subst hov3;have HR3:=hide hR3;have HB3:=hide (HJB.out.trans hb3);clear hR3 hb3 hR2 hO2 hS2 hsz hfl;go_wp2;go_roundw
    case rel=>exact⟨k+1,fs ++ [⟨ng1,a1,m1,c1,[]⟩],by go_num,by omega,HB3.out,by have h:=HR3.out;rw[List.length_append]at h;rw[List.take_add_one,HZK.out];exact h⟩
    case measure=>simp[intOf];omega
  ·have hlt':decide ((k:Int)<(n:Int))=false:=by simp;omega
   obtain rfl:k=n:=by omega
   have hjl:(joinZ p us q ys).length=k:=by unfold joinZ;rw[List.length_zipWith];have:=HNA.out;have:=HNB.out;omega
   have hall:(joinZ p us q ys).take k=joinZ p us q ys:=List.take_of_length_le (by omega);have hNR:NRow wr (.slice aov fs.length capv) (joinZ p us q ys) (3*N):=by have:=HOWN.out.nrow;rwa[hall]at this
   have hne2:joinZ p us q ys≠[]:=fun e=>by rw[e]at hjl;simp at hjl;omega
   have K9:=hide (aiz wr _ (joinZ p us q ys) N hNR (by omega) hN HZ.out hne2);have HBJ:=hide (HBB.out.trans (HW.out.mono HBB.out.size));clear hbw hown hall hNR hne2 hjl;go_wp2_with fail
   refine K9.out.mono ?_;rintro e w9 ⟨r9,rfl,h9,hb9⟩;obtain⟨a9,c9,hv9,_⟩:=id h9.parts;subst hv9;have H9:=hide h9;have HB9:=hide (HBJ.out.trans (hb9.mono HBJ.out.size));clear h9 hb9 K9;go_wp2;refine bodyPost_ret (v:=_) (acj rfl rfl) rfl ⟨_,rfl,H9.out,HB9.out⟩
def isB:Value->Bool
 |.bool _=>true
 |_=>false
def NoB(w:World)(v:Value):Prop:=∀g cs T,v.ownBlock=some g->w.heap[g]? = some (.cells cs T (0,0))->∀x∈cs.toList,isB x=false
theorem NoB.below{w w':World}{v:Value}(h:NoB w v)(hl:∀k,v.ownBlock=some k->k<w.heap.size)(hb:Below w.heap.size w w'):NoB w' v:=fun g cs T hg hh=>h g cs T hg ((hb.block g (hl g hg)).symm.trans hh)
theorem al9{z:Array Value}(hz:∀x∈z.toList,isB x=false)(n:Nat):∀x∈(Builtin.zeroCells z n).toList,isB x=false:=by
 intro x hx;simp only[Builtin.zeroCells,Array.toList_map,List.mem_map]at hx;obtain⟨j,hj,rfl⟩:=hx;by_cases h:j%z.size<z.size
 ·rw[getElem!_pos z _ h];exact hz _ (by simp)
 ·exfalso;have h0:z.size=0:=Classical.byContradiction fun h1=>h (Nat.mod_lt _ (by omega))
  rw[h0,Nat.mul_zero]at hj;simp at hj
theorem ay2{P:Program}(w:World)(base:Nat)(t ty e:TypeId)(i:TypeInfo)(z:Value)(bytes:Nat)(ht:P.underlying t=some (.slice e))(hi:P.info? e=some i)(hz:i.zero=some z)(hby:i.bytes=bytes)(_hsz:0<i.size)
  (v:Value) (n:Nat) (xs:List Value) (hown:w.ownsRow base e i.size v n xs) (a:Addr) (c:Nat) (news:List Value) (hl:news.length=i.size) (hnews:∀j u,news[j]? = some u->w.cell? (a.add j)=some u) (h1:∀u∈news,u.oneCell'=true)
  (h63:n+1<=maxLen) (hbytes:(n+1)*bytes<=140737488355328) (hI:NoB w v) (hN:∀u∈news,isB u=false) (hZ:∀u∈z.cells.toList,isB u=false) {v':Value} {w':World} (hr:(Builtin.append_ #[t,t] ty #[v,.slice (some a) 1 c]).run P w=.ok v' w'):NoB w' v':=by
 subst hby;have hl':news.length=1*i.size:=by omega
 have hsmall:n+1<=9223372036854775807:=by simp only[maxLen]at h63;omega
 rcases hown.2 with⟨rfl,rfl⟩|⟨g,cap,cur,rfl,hbg,hg,hnc,hcm,hcs,htake⟩
 ·have hr':=run_append_nil (P:=P) w t ty e i z ht hi hz a 1 c news hl' hnews (by omega) (by omega) (by omega);rw[hr]at hr';injection hr' with e1 e2;subst e1 e2;intro g cs T hg hh x hx;simp only[Value.ownBlock,Option.some.injEq]at hg;subst hg;rw[show(w.drew.alloc (Obj.cells (news.toArray++Builtin.zeroCells z.cells (grownCap w 1 0 e-1)) e)).heap[w.heap.size]? = _ from heap_alloc_new w.drew _]at hh;injection hh with hh;injection hh with hh;subst hh;simp only[Array.toList_append,List.mem_append]at hx;rcases hx with hx|hx
  ·exact hN x hx
  ·exact al9 hZ _ x hx
 ·have hcur:=hI g cur e rfl hg;by_cases hroom:n+1<=cap
  ·have hfit:n*i.size+news.length<=cur.size:=by rw[hl',hcs,<-Nat.add_mul];exact Nat.mul_le_mul_right _ hroom
   have hr':=run_append_room (P:=P) w t ty e i ht hi g n cap cur hg a 1 c news hl' hnews h1 hroom hfit;rw[hr]at hr';injection hr' with e1 e2;subst e1 e2;intro g' cs T hg' hh x hx;simp only[Value.ownBlock,Option.some.injEq]at hg';subst hg';rw[setRow_heap w g cur _ e _ hg]at hh;injection hh with hh;injection hh with hh;subst hh;simp only[List.mem_append]at hx;rcases hx with(hx|hx)|hx
   ·exact hcur x (List.mem_of_mem_take hx)
   ·exact hN x hx
   ·exact hcur x (List.mem_of_mem_drop hx)
  ·have hr':=run_append_grow (P:=P) w t ty e i z ht hi hz ⟨g,0,none⟩ n cap xs hown.1 (hown.cells (g:=g) rfl) a 1 c news hl' hnews (by omega) (by omega) (growslice_fits (by omega) hbytes);rw[hr]at hr';injection hr' with e1 e2;subst e1 e2;intro g' cs T hg' hh x hx;simp only[Value.ownBlock,Option.some.injEq]at hg';subst hg';rw[show(w.drew.alloc (Obj.cells (xs.toArray++news.toArray++Builtin.zeroCells z.cells (grownCap w (n+1) cap e-(n+1))) e)).heap[w.heap.size]? = _ from heap_alloc_new w.drew _]at hh;injection hh with hh;injection hh with hh;subst hh;simp only[Array.toList_append,List.mem_append]at hx;rcases hx with(hx|hx)|hx
   ·rw[<-htake]at hx;exact hcur x (List.mem_of_mem_take hx)
   ·exact hN x hx
   ·exact al9 hZ _ x hx
theorem ae5:∀(es:List WE) (u:Value),u∈flat es->u.oneCell'=true
 | [],_,hu=>by cases hu
 |e::es,u,hu=>by
  simp only[flat,List.mem_cons]at hu;rcases hu with rfl|rfl|hu
  ·rfl
  ·rfl
  ·exact ae5 es u hu
def NM(w:World)(v:Value)(rows:List (List Int))(L:Nat):Prop:=∃vs:List Value,Ce w v 1 rows.length vs/\∀(i:Nat) (u:Value) (z:List Int),vs[i]? = some u->rows[i]? = some z->NRow w u z L
theorem av2{w w':World}{g:Nat}{cs:Array Value}(hg:w.heap[g]? = some (.cells cs 78 (0,0)))(hI:∀x∈cs.toList,isI x=false)(hs:w.heap.size<=w'.heap.size)(hk:∀k,k<w.heap.size->k≠g->w'.heap[k]? = w.heap[k]?):Rl w w':=by
 refine⟨hs,fun p k z e=>?_,fun k cs T hT e=>?_⟩
 ·rw[World.cell?_of_block (w:=w) (hk p.block (aai e) fun hb=>?_)]
  ·exact e
  ·obtain⟨pb,po,pm⟩:=p;simp only at hb;subst hb;simp only[World.cell?,hg]at e;cases pm with
   |some m=>simp at e
   |none=>
    have hm:=hI (.int k z) (Array.mem_toList_iff.2 (Array.mem_of_getElem? (i:=po) (by simpa using e)));exact absurd hm (by simp[isI])
 ·refine(hk k (aaa e) fun hb=>?_).trans e;subst hb;rw[hg]at e;injection e with e;injection e with _ e _;rcases hT with rfl|rfl
  ·exact absurd e (by decide)
  ·exact absurd e (by decide)
theorem NRow.other{w w':World}{u:Value}{zs:List Int}{L g:Nat}{cs:Array Value}(h:NRow w u zs L)(hg:w.heap[g]? = Option.some (.cells cs 78 (0,0)))(hI:∀x∈cs.toList,isI x=false)(hB:∀x∈cs.toList,isB x=false)(hs:w.heap.size<=w'.heap.size)(hk:∀k,k<w.heap.size->k≠g->w'.heap[k]? = w.heap[k]?):NRow w' u zs L:=by
 obtain⟨fs,⟨ao,cap,rfl,h1,h2,h3,h4⟩,h5,h6⟩:=h;refine⟨fs,⟨ao,cap,rfl,h1,h2,h3,?_⟩,h5,fun k f z hf hz=>(h6 k f z hf hz).rl (av2 hg hI hs hk)⟩;rcases h4 with h4|⟨b,off,rfl,hl,hc⟩
 ·exact .inl h4
 ·by_cases h0:fs.length=0
  ·exact .inl h0
  ·obtain⟨f,hf⟩:∃f,fs[0]? = Option.some f:=⟨_,List.getElem?_eq_getElem (by omega)⟩;have c0:=hc _ _ (aa2 hf).1;have hne:b≠g:=fun e=>by
    subst e;simp only[World.cell?,hg]at c0;have:=hB (.bool f.ng) (Array.mem_toList_iff.2 (Array.mem_of_getElem? (i:=off+0*2) (by simpa using c0)));exact absurd this (by simp[isB])
   exact .inr ⟨b,off,rfl,Nat.lt_of_lt_of_le hl hs,fun j u hu=>by
    rw[World.cell?_of_block (w:=w) (hk b hl hne)]
    exact hc j u hu⟩
structure RmO (B:Nat) (w:World) (v:Value) (vs:List Value) (rows:List (List Int)) (L:Nat):Prop where
 own:w.ownsRow B 78 1 v vs.length vs
 noi:NoI w v
 nob:NoB w v
 len:vs.length=rows.length
 out:∀(k:Nat) (u:Value) (z:List Int),vs[k]? = some u->rows[k]? = some z->NRow w u z L
theorem RmO.below{B:Nat}{w w':World}{v:Value}{vs:List Value}{rows:List (List Int)}{L:Nat}(h:RmO B w v vs rows L)(hb:Below w.heap.size w w'):RmO B w' v vs rows L:=
 ⟨h.own.kept (row:=none) ⟨hb.os,hb.tape,hb.output,hb.size,fun k hk _=>hb.block k hk⟩ (by cases hv:v.ownBlock <;> simp),h.noi.below (fun k hk=>(h.own.lt k hk).2) hb,h.nob.below (fun k hk=>(h.own.lt k hk).2) hb,h.len,fun k u z hu hz=>(h.out k u z hu hz).below hb⟩
theorem ajp(B:Nat)(w:World)(L:Nat):RmO B w (.slice none 0 0) [] [] L:=⟨World.ownsRow_nil w B _ 1,fun g cs T hg=>by simp[Value.ownBlock]at hg,fun g cs T hg=>by simp[Value.ownBlock]at hg,rfl,fun k f z hf=>by simp at hf⟩
theorem RmO.nm{B:Nat}{w:World}{v:Value}{vs:List Value}{rows:List (List Int)}{L:Nat}(h:RmO B w v vs rows L):NM w v rows L:=⟨vs,by rw[<-h.len];exact Ce.own h.own,h.out⟩
section
variable {dst:Option Tmp} {ty:TypeId} {pos:String} {after:Array Edge} {guard:Option (Nat×Bool)} {a:Act} {w:World} {ats:Array TypeId} {i j:Nat}
theorem infoSn:(Tryz.prog.info? 78).map (fun i=>(i.zero,i.size,i.bytes))=some (some (.slice none 0 0),1,24):=by kernel_rfl
theorem ajq{B g:Nat}{v:Value}{vs:List Value}{rows:List (List Int)}{L:Nat}{z:List Int}{u:Value}(h1:a.eval (.tmp i)=v)(h2:a.eval (.tmp j)=.slice (some ⟨g,0,none⟩) 1 1)(R:RmO B w v vs rows L)(O:w.heap[g]? = some (.cells #[u] 78 (0,0)))(S:NRow w u z L)(hn:vs.length<=1000000)(hB:B<=w.heap.size):
  Does Tryz.prog {dst,op:=.call {callee:=.builtin .append,args:=#[.tmp i,.tmp j],argTypes:=#[76,76]},type:=ty,pos,after,guard} a.eval w fun v' w'=>RmO B w' v' (vs ++ [u]) (rows ++ [z]) L/\Below B w w':=by
 obtain⟨i0,hi,hz0,hz1,hz2⟩:=info_parts infoSn;obtain⟨ua,uc,hu,_⟩:=S.parts;have hcl:∀(k:Nat) (x:Value),[u][k]? = some x->w.cell? ((⟨g,0,none⟩:Addr).add k)=some x:=fun k x hx=>by
  have hc:∀k,w.cell? ⟨g,k,none⟩ = #[u][k]? :=fun k=>cell_of_row w g k _ _ (0,0) O
  have ha:(⟨g,0,none⟩:Addr).add k=⟨g,k,none⟩:=by unfold Addr.add;split <;> simp_all
  rw[ha,hc];simpa using hx
 have h1c:∀x ∈ [u],x.oneCell'=true:=fun x hx=>by obtain rfl:=List.mem_singleton.1 hx;rw[hu];rfl
 obtain⟨v',w',hr,ho,hgr,_⟩:=run_append_own (P:=Tryz.prog) w B 76 ty 78 i0 _ 1 24 Tryz.underlying76 hi hz0 hz1 hz2 rfl (by decide) v vs.length vs R.own ⟨g,0,none⟩ 1 1 [u] rfl hcl h1c (by simp[maxLen];omega) (by omega) hB;have e:(execOp a.eval {dst,op:=.call {callee:=.builtin .append,args:=#[.tmp i,.tmp j],argTypes:=#[76,76]},type:=ty,pos,after,guard}).run Tryz.prog w=.ok (.value v') w':=by
  simp only[execOp,resolve,invoke,builtin,Sem.run_bind,Sem.run_pure,Result.andThen_ok,List.map_toArray,List.map_cons,List.map_nil,h1,h2,hr]
 refine⟨?_⟩;unfold Turns;rw[e];have hkeep:∀ {x:Value} {y:List Int},NRow w x y L->NRow w' x y L:=fun {x y} hx=>by
  rcases R.own.2 with⟨rfl,_⟩|⟨g',cap,cur,rfl,_,hh,h5,h6,h7,h8⟩
  ·exact hx.below ⟨hgr.os,hgr.tape,hgr.output,hgr.size,fun k hk=>hgr.block k hk (by simp[Value.ownBlock])⟩
  ·exact hx.other hh (R.noi _ cur _ rfl hh) (R.nob _ cur _ rfl hh) hgr.size (fun k hk hne=>hgr.block k hk (by simp[Value.ownBlock];exact fun h=>hne h))
 have hown:=R.own;rw[<-hz1]at hown;have hni:NoI w' v':=an8 (P:=Tryz.prog) w B 76 ty 78 i0 _ 24 Tryz.underlying76 hi hz0 hz2 (by omega) v vs.length vs hown ⟨g,0,none⟩ 1 [u] (by rw[hz1];rfl) hcl h1c (by simp[maxLen];omega) (by omega) R.noi (by rw[hu];simp[isI]) (by simp[Value.cells,isI]) hr;have hnb:NoB w' v':=ay2 (P:=Tryz.prog) w B 76 ty 78 i0 _ 24 Tryz.underlying76 hi hz0 hz2 (by omega) v vs.length vs hown ⟨g,0,none⟩ 1 [u] (by rw[hz1];rfl) hcl h1c (by simp[maxLen];omega) (by omega) R.nob (by rw[hu];simp[isB]) (by simp[Value.cells,isB]) hr;refine⟨⟨by rw[List.length_append];exact ho,hni,hnb,by simp[R.len],fun k x y hx hy=>?_⟩,⟨hgr.os,hgr.tape,hgr.output,hgr.size,fun k hk=>hgr.block k (by omega) (fun e=>?_)⟩⟩
 ·by_cases hk:k<vs.length
  ·rw[List.getElem?_append_left hk]at hx;rw[List.getElem?_append_left (by rw[<-R.len];exact hk)]at hy;exact hkeep (R.out k x y hx hy)
  ·have hkl:=(List.getElem?_eq_some_iff.1 hx).1;simp at hkl;obtain rfl:k=vs.length:=by omega
   rw[List.getElem?_append_right (Nat.le_refl _)]at hx;rw[List.getElem?_append_right (by rw[R.len];exact Nat.le_refl _)]at hy;simp[R.len]at hx hy;subst hx hy;exact hkeep S
 ·have:=R.own.lt k e.symm;omega
theorem av3{m c0:Nat}{a0:Option Addr}{zs:List Int}{L:Nat}(h:a.eval (.tmp i)=.slice a0 m c0)(hR:NRow w (.slice a0 m c0) zs L)(hm:m<=1000000):
  Does Tryz.prog {dst,op:=.call {callee:=.builtin .append,args:=#[.const (.slice none 0 0),.tmp i],argTypes:=#[78,78]},type:=ty,pos,after,guard} a.eval w fun v w'=>NRow w' v zs L/\Below w.heap.size w w':=by
 obtain⟨iW,hi,hz0,hz1,hz2⟩:=info_parts infoN;obtain⟨fs,hC,hl,ho⟩:=hR;obtain⟨ao',cap',hv,h1,h2,h3,h4⟩:=hC;obtain⟨rfl,hme,rfl⟩:=(Value.slice.injEq .. ▸ hv);have h0:a.eval (.const (.slice none 0 0))=.slice none 0 0:=rfl;have key:∃v' w',(Builtin.append_ #[78,78] ty #[.slice none 0 0,.slice a0 m c0]).run Tryz.prog w=.ok v' w'/\w'.ownsRow w.heap.size 82 2 v' m (flat fs)/\Below w.heap.size w w':=by
  cases a0 with
  |none=>
   have hm0:fs.length=0:=by
    rcases h4 with h4|⟨b,off,e,_⟩
    ·exact h4
    ·cases e
   obtain rfl:fs = []:=List.length_eq_zero_iff.1 hm0;obtain rfl:m=0:=hme;exact⟨.slice none 0 0,w,by simp[Builtin.append_,run_underlying Tryz.underlying78,sizeOf,typeInfo,hi,Builtin.lenOf,Builtin.firstCells],World.ownsRow_nil _ _ _ _,Below.refl _ _⟩
  |some ad=>
   obtain⟨v',w',hr,ho,hgr,_⟩:=run_append_own (P:=Tryz.prog) w w.heap.size 78 ty 82 iW _ 2 32 Tryz.underlying78 hi hz0 hz1 hz2 rfl (by decide) (.slice none 0 0) 0 [] (World.ownsRow_nil _ _ _ _) ad m c0 (flat fs) (by rw[aay];omega) (fun j u hu=>by
    rcases h4 with h4|⟨b,off,e,_,hc⟩
    ·rw[List.getElem?_eq_none (by rw[aay];omega)]at hu;cases hu
    ·obtain rfl:=Option.some.inj e;rw[Addr.add_lit]
     exact hc j u hu) (ae5 fs) (by simp[maxLen];omega) (by omega) (Nat.le_refl _)
   exact⟨v',w',hr,by simpa using ho,(Below.refl _ _).grown hgr (Nat.le_refl _) (fun k hk=>by cases hk)⟩
 obtain⟨v',w',hr,how,hb⟩:=key;have e:(execOp a.eval {dst,op:=.call {callee:=.builtin .append,args:=#[.const (.slice none 0 0),.tmp i],argTypes:=#[78,78]},type:=ty,pos,after,guard}).run Tryz.prog w=.ok (.value v') w':=by
  simp only[execOp,resolve,invoke,builtin,Sem.run_bind,Sem.run_pure,Result.andThen_ok,List.map_toArray,List.map_cons,List.map_nil,h,h0,hr]
 refine⟨?_⟩;unfold Turns;rw[e];exact⟨⟨fs,by rw[<-hme];exact Cl.own how,hl,fun k f z hf hz=>(ho k f z hf hz).rl (Rl.of_below hb)⟩,hb⟩
end
theorem NM.below{w w':World}{v:Value}{rows:List (List Int)}{L:Nat}(h:NM w v rows L)(hb:Below w.heap.size w w'):NM w' v rows L:=by
 obtain⟨vs,h1,h2⟩:=h;exact⟨vs,h1.below hb,fun i u z hu hz=>(h2 i u z hu hz).below hb⟩
theorem NM.parts{w:World}{v:Value}{rows:List (List Int)}{L:Nat}(h:NM w v rows L):∃ao cap,v=.slice ao rows.length cap/\rows.length<=9223372036854775807:=by
 obtain⟨vs,⟨ao,cap,rfl,h1,h2,_⟩,_⟩:=h;exact⟨ao,cap,rfl,by omega⟩
theorem NM.cell{w:World}{ao:Option Addr}{n cap:Nat}{rows:List (List Int)}{L k:Nat}{z:List Int}(h:NM w (.slice ao n cap) rows L)(hz:rows[k]? = some z):∃b off u,ao=some ⟨b,off,none⟩/\b<w.heap.size/\w.cell? ⟨b,off+k,none⟩=some u/\NRow w u z L:=by
 obtain⟨vs,⟨ao',cap',hv,h1,h2,h3,h4⟩,h6⟩:=h;obtain⟨rfl,hn,rfl⟩:=(Value.slice.injEq .. ▸ hv);have hk:=(List.getElem?_eq_some_iff.1 hz).1;obtain⟨u,hu⟩:∃u,vs[k]? = some u:=⟨_,List.getElem?_eq_getElem (by omega)⟩;rcases h4 with h4|⟨b,off,rfl,hb,hc⟩
 ·omega
 ·exact⟨b,off,u,rfl,hb,hc k u hu,h6 k u z hu hz⟩
set_option maxRecDepth 100000 in
theorem aqa(w:World)(v:Value)(rows:List (List Int))(L:Nat)(h:NM w v rows L)(hl:rows.length<=100000)(hr:∀r∈rows,r.length<=1000000):
  Calls Tryz.prog 105 #[v] w fun e w'=>∃r vs,e=.returned r/\RmO w.heap.size w' r vs rows L/\Below w.heap.size w w':=by
 obtain⟨ao,cap,rfl,_⟩:=h.parts;have H:=hide h;have HR:=hide hr;clear h hr;obtain⟨n,hn⟩:∃n,rows.length=n:=⟨_,rfl⟩;rw[hn]at H hl ⊢;have HN:=hide hn;clear hn;go_enter Tryz.func105,Tryz.ntmps105
 go_wp2_with fail
 go_loopw [3,4] (fun ov iv wr=>∃(k:Nat) (vs:List Value),iv=.int .i64 k/\k<=n/\Below w.heap.size w wr/\RmO w.heap.size wr ov vs (rows.take k) L) (fun _ iv _=>n-(intOf iv).toNat)
 case atStart=>exact⟨0,[],rfl,Nat.zero_le _,Below.refl _ _,ajp _ _ _⟩
 case round=>
  obtain⟨k,vs,rfl,hk,hbw,hown⟩:=hrel;have HW:=hide hbw;have HOWN:=hide hown;obtain⟨aov,capv,hov,-⟩:=Ce.own hown.own;subst hov;by_cases hlt:k<n
  ·obtain⟨z,hz⟩:∃z,rows[k]? = some z:=⟨_,List.getElem?_eq_getElem (by have:=HN.out;omega)⟩;obtain⟨b,off,u,rfl,hbl,x0,hu⟩:=(H.out.below hbw).cell hz;obtain⟨ua,uc,rfl,_⟩:=id hu.parts;have HZ:=hide hz;have hm:z.length<=1000000:=HR.out z (List.mem_of_getElem? hz);obtain⟨m,hzm⟩:∃m,z.length=m:=⟨_,rfl⟩;rw[hzm]at hm hu x0;have HU:=hide hu;have hlt':(k:Int)<(n:Int):=by omega
   clear hbw hown hz hu hzm;go_wp2_with (at_builtin;refine abo rfl (av3 (i:=15) rfl HU.out hm) ?_)
   intro v2 w2 hR2 hb2;have HR2:=hide hR2;obtain⟨a2,c2,rfl,_⟩:=id hR2.parts;have hA:=hAl w2 (.cells #[.slice a2 z.length c2] 78);have hO:=heap_alloc_new w2 (.cells #[.slice a2 z.length c2] 78);have hb2':=hb2.trans (hA.mono hb2.size);have hRm:=HOWN.out.below hb2';have hS:=hR2.below hA;have hsz:w.heap.size<=(w2.alloc (.cells #[.slice a2 z.length c2] 78)).heap.size:=Nat.le_trans HW.out.size hb2'.size;have hfl:vs.length<=1000000:=by rw[HOWN.out.len,List.length_take];omega
   go_wp2_with (at_builtin;refine abo rfl (ajq (i:=11) (j:=17) rfl rfl hRm hO hS hfl hsz) ?_)
   intro v3 w3 hR3 hb3;obtain⟨aov3,capv3,hov3,-⟩:=Ce.own hR3.own;subst hov3;have HR3:=hide hR3;have HB3:=hide ((HW.out.trans (hb2'.mono HW.out.size)).trans hb3);clear hR3 hb3 hR2 hO hRm hS hsz hA hb2 hb2' hfl;go_wp2;go_roundw
   case rel=>
    refine⟨k+1,vs ++ [.slice a2 z.length c2],by go_num,by omega,HB3.out,?_⟩;rw[List.take_add_one,HZ.out];exact HR3.out
   case measure=>simp[intOf];omega
  ·have hlt':decide ((k:Int)<(n:Int))=false:=by simp;omega
   have hkn:k=n:=by omega
   subst hkn;clear hbw hown;go_wp2;refine bodyPost_ret (v:=_) (acj rfl rfl) rfl ⟨_,vs,rfl,(by have h:=HOWN.out;rw[List.take_of_length_le (by have:=HN.out;omega)]at h;exact h),HW.out⟩
theorem atp{zs:List Int}(h:Dm.Canon zs)(hne:zs≠[]):zs.getD (zs.length-1) 0≠0:=fun h0=>by
 have hp:=List.length_pos_iff.2 hne;have h1:=h.2;have h2:=Dm.ab8 (zs:=zs) (n:=zs.length-1) (by omega) h0;omega
structure Ap (w w':World) (g:Option Nat) (n:Nat):Prop where
 size:w.heap.size<=w'.heap.size
 other:∀k,k<w.heap.size->some k≠g->w'.heap[k]? = w.heap[k]?
 first:∀g0,g=some g0->∃cur cur',w.heap[g0]? = some (.cells cur 3 (0,0))/\w'.heap[g0]? = some (.cells cur' 3 (0,0))/\(∀j,j<n->cur'[j]? = cur[j]?)/\(∀j x,n<=j->cur[j]? = some x->x=.int .i64 0)/\∀x∈cur.toList,isI x=true
theorem OutN.ap{z:Int}{L:Nat}{v:Value}{w w':World}{g:Option Nat}{n:Nat}(h:OutN z L v w)(ha:Ap w w' g n):OutN z L v w':=by
 obtain⟨ng,ao,cap,rs,rfl,⟨⟨hS,hC,hv⟩,hng⟩,l⟩:=h;refine⟨ng,ao,cap,rs,rfl,⟨⟨?_,hC,hv⟩,hng⟩,l⟩;obtain⟨ao',cap',e,h1,h2,h3,h4⟩:=hS;refine⟨ao',cap',e,h1,h2,h3,?_⟩;rcases h4 with h4|⟨b,off,rfl,hc⟩
 ·exact .inl h4
 ·by_cases hne:rs = []
  ·exact .inl hne
  ·refine .inr ⟨b,off,rfl,fun i hi=>?_⟩;have hci:=hc i hi;by_cases hg:g=some b
   ·obtain⟨cur,cur',c1,c2,c3,c4,_⟩:=ha.first b hg;have hp:=List.length_pos_iff.2 hne;have htop:=hc (rs.length-1) (by omega);rw[cell_of_row w b _ _ _ (0,0) c1]at htop hci;have hlt:off+(rs.length-1)<n:=Classical.byContradiction fun hn=>by
     have:=c4 _ _ (by omega) htop;injection this with _ this;exact atp hC hne this
    rw[cell_of_row w' b _ _ _ (0,0) c2,c3 _ (by omega)];exact hci
   ·rw[World.cell?_of_block (w:=w) (ha.other b (aai hci) (fun h=>hg h.symm))];exact hci
theorem NRow.ap{w w':World}{u:Value}{zs:List Int}{L:Nat}{g:Option Nat}{n:Nat}(h:NRow w u zs L)(ha:Ap w w' g n):NRow w' u zs L:=by
 obtain⟨fs,⟨ao,cap,rfl,h1,h2,h3,h4⟩,h5,h6⟩:=h;refine⟨fs,⟨ao,cap,rfl,h1,h2,h3,?_⟩,h5,fun k f z hf hz=>(h6 k f z hf hz).ap ha⟩;rcases h4 with h4|⟨b,off,rfl,hl,hc⟩
 ·exact .inl h4
 ·by_cases h0:fs.length=0
  ·exact .inl h0
  ·obtain⟨f,hf⟩:∃f,fs[0]? = Option.some f:=⟨_,List.getElem?_eq_getElem (by omega)⟩;have c0:=hc _ _ (aa2 hf).1;have hne:Option.some b≠g:=fun e=>by
    obtain⟨cur,cur',c1,c2,c3,c4,c5⟩:=ha.first b e.symm;rw[cell_of_row w b _ _ _ (0,0) c1]at c0;have:=c5 (.bool f.ng) (Array.mem_toList_iff.2 (Array.mem_of_getElem? c0));exact absurd this (by simp[isI])
   exact .inr ⟨b,off,rfl,Nat.lt_of_lt_of_le hl ha.size,fun j u hu=>by
    rw[World.cell?_of_block (w:=w) (ha.other b hl hne)]
    exact hc j u hu⟩
theorem RmO.ap{B:Nat}{w w':World}{v:Value}{vs:List Value}{rows:List (List Int)}{L:Nat}{g:Option Nat}{n:Nat}(h:RmO B w v vs rows L)(ha:Ap w w' g n):RmO B w' v vs rows L:=by
 have hout:∀(k:Nat) (u:Value) (z:List Int),vs[k]? = some u->rows[k]? = some z->NRow w' u z L:=fun k u z hu hz=>(h.out k u z hu hz).ap ha
 obtain⟨o1,o2|⟨b,cap,cur,rfl,o3,o4,o5,o6,o7,o8⟩⟩:=h.own
 ·obtain⟨rfl,o2⟩:=o2;exact⟨⟨o1,.inl ⟨rfl,o2⟩⟩,fun g cs T hg=>by simp[Value.ownBlock]at hg,fun g cs T hg=>by simp[Value.ownBlock]at hg,h.len,hout⟩
 ·have hb:w'.heap[b]? = some (.cells cur 78 (0,0)):=by
   rw[ha.other b (aaa o4) (fun e=>?_)]
   ·exact o4
   ·obtain⟨c,c',c1,_⟩:=ha.first b e.symm;rw[o4]at c1;injection c1 with c1;injection c1 with _ c1;exact absurd c1 (by decide)
  refine⟨⟨o1,.inr ⟨b,cap,cur,rfl,o3,hb,o5,o6,o7,o8⟩⟩,fun g cs T hg hh=>?_,fun g cs T hg hh=>?_,h.len,hout⟩
  ·simp only[Value.ownBlock,Option.some.injEq]at hg;subst hg;rw[hb]at hh;exact h.noi _ cs T rfl (by rw[o4];exact hh)
  ·simp only[Value.ownBlock,Option.some.injEq]at hg;subst hg;rw[hb]at hh;exact h.nob _ cs T rfl (by rw[o4];exact hh)
def cellsOf:Option Obj->Array Value
 |some (.cells c _ _)=>c
 |_=>#[]
theorem ads{c c':Array Value}{T T':TypeId}{f f':Nat×Nat}(h:some (Obj.cells c T f)=some (Obj.cells c' T' f')):c=c':=congrArg cellsOf h
structure Iv (B:Nat) (w:World) (v:Value) (xs:List Int):Prop where
 own:w.ownsRow B 3 1 v xs.length (xs.map (Value.int .i64))
 spare:∀g cs,v.ownBlock=some g->w.heap[g]? = some (.cells cs 3 (0,0))->∀j x,xs.length<=j->cs[j]? = some x->x=.int .i64 0
theorem a0l(B:Nat)(w:World):Iv B w (.slice none 0 0) []:=⟨World.ownsRow_nil _ _ _ _,fun g cs hg=>by simp[Value.ownBlock]at hg⟩
theorem Iv.keep{B:Nat}{w w':World}{v:Value}{xs:List Int}(h:Iv B w v xs)(hk:∀k,v.ownBlock=some k->w'.heap[k]? = w.heap[k]?):Iv B w' v xs:=by
 refine⟨?_,fun g cs hg hh=>h.spare g cs hg (by rw[<-hk g hg];exact hh)⟩;obtain⟨o1,o2|⟨b,cap,cur,rfl,o3,o4,o5⟩⟩:=h.own
 ·exact⟨o1,.inl o2⟩
 ·exact⟨o1,.inr ⟨b,cap,cur,rfl,o3,(hk b rfl).trans o4,o5⟩⟩
theorem Iv.below{B:Nat}{w w':World}{v:Value}{xs:List Int}(h:Iv B w v xs)(hb:Below w.heap.size w w'):Iv B w' v xs:=h.keep fun k hk=>hb.block k (h.own.lt k hk).2
theorem ai1(n j:Nat)(x:Value)(h:(Builtin.zeroCells (Value.int .i64 0).cells n)[j]? = some x):x=.int .i64 0:=by
 have hx:=Array.mem_of_getElem? h;simp only[Builtin.zeroCells,Array.mem_map]at hx;obtain⟨k,_,rfl⟩:=hx;simp[Value.cells,Nat.mod_one]
theorem infoI:(Tryz.prog.info? 3).map (fun i=>(i.zero,i.size,i.bytes))=some (some (.int .i64 0),1,8):=by kernel_rfl
theorem a0m{B g:Nat}{w:World}{v:Value}{xs:List Int}{c:Int}{ty:TypeId}(R:Iv B w v xs)(O:w.heap[g]? = some (.cells #[.int .i64 c] 3 (0,0)))(hn:xs.length<=1000000)(hB:B<=w.heap.size):
  ∃v' w',(Builtin.append_ #[61,61] ty #[v,.slice (some ⟨g,0,none⟩) 1 1]).run Tryz.prog w=.ok v' w'/\Iv B w' v' (xs ++ [c])/\Below B w w'/\Ap w w' v.ownBlock xs.length:=by
 obtain⟨i0,hi,hz0,hz1,hz2⟩:=info_parts infoI;have hcl:∀(k:Nat) (x:Value),[Value.int .i64 c][k]? = some x->w.cell? ((⟨g,0,none⟩:Addr).add k)=some x:=fun k x hx=>by
  have hc:∀k,w.cell? ⟨g,k,none⟩ = #[Value.int .i64 c][k]? :=fun k=>cell_of_row w g k _ _ (0,0) O
  have ha:(⟨g,0,none⟩:Addr).add k=⟨g,k,none⟩:=by unfold Addr.add;split <;> simp_all
  rw[ha,hc];simpa using hx
 have h1c:∀x ∈ [Value.int .i64 c],x.oneCell'=true:=fun x hx=>by obtain rfl:=List.mem_singleton.1 hx;rfl
 obtain⟨v',w',hr,ho,hgr,_⟩:=run_append_own (P:=Tryz.prog) w B 61 ty 3 i0 _ 1 8 Tryz.underlying61 hi hz0 hz1 hz2 rfl (by decide) v xs.length (xs.map (Value.int .i64)) R.own ⟨g,0,none⟩ 1 1 [.int .i64 c] rfl hcl h1c (by simp[maxLen];omega) (by omega) hB;have hown':w'.ownsRow B 3 1 v' (xs ++ [c]).length ((xs ++ [c]).map (Value.int .i64)):=by rw[List.length_append,List.map_append];exact ho
 have hbel:Below B w w':=⟨hgr.os,hgr.tape,hgr.output,hgr.size,fun k hk=>hgr.block k (by omega) (fun e=>by have:=R.own.lt k e.symm;omega)⟩;have hl1 : [Value.int .i64 c].length=1*i0.size:=by rw[hz1];rfl
 refine⟨v',w',hr,?_⟩;rcases R.own.2 with⟨rfl,hx0⟩|⟨b,cap,cur,rfl,hbg,hg,hnc,hcm,hcs,htake⟩
 ·have hr':=run_append_nil (P:=Tryz.prog) w 61 ty 3 i0 _ Tryz.underlying61 hi hz0 ⟨g,0,none⟩ 1 1 [.int .i64 c] hl1 hcl (by omega) (by omega) (by omega);rw[hr]at hr';injection hr' with e1 e2;subst e1 e2;refine⟨⟨hown',fun g' cs hg' hh j x hj hx=>?_⟩,hbel,hgr.size,fun k hk hne=>hgr.block k hk hne,fun g0 h0=>by simp[Value.ownBlock]at h0⟩;simp only[Value.ownBlock,Option.some.injEq]at hg';subst hg';rw[show(w.drew.alloc (Obj.cells ([Value.int .i64 c].toArray++Builtin.zeroCells (Value.int .i64 0).cells (grownCap w 1 0 3-1)) 3)).heap[w.heap.size]? = _ from heap_alloc_new w.drew _]at hh;replace hh:=ads hh;subst hh;rw[List.length_append]at hj;rw[Array.getElem?_append_right (by simp;simp at hj;omega)]at hx;exact ai1 _ _ _ hx
 ·have hsp:=R.spare b cur rfl hg;have hcs':cur.size=cap:=by omega
  have htk:∀j,j<xs.length->cur[j]? = some (.int .i64 (xs.getD j 0)):=fun j hj=>by
   have h1:(cur.toList.take (xs.length*1))[j]? = (xs.map (Value.int .i64))[j]? :=by rw[htake]
   rw[List.getElem?_take_of_lt (by omega),Array.getElem?_toList,List.getElem?_map]at h1;rw[h1,List.getD_eq_getElem?_getD,List.getElem?_eq_getElem hj];rfl
  have hall:∀x∈cur.toList,isI x=true:=fun x hx=>by
   obtain⟨j,hj⟩:=List.mem_iff_getElem?.1 hx;rw[Array.getElem?_toList]at hj;by_cases hjl:j<xs.length
   ·rw[htk j hjl]at hj;obtain rfl:=Option.some.inj hj;rfl
   ·rw[hsp j x (by omega) hj];rfl
  by_cases hroom:xs.length+1<=cap
  ·have hfit:xs.length*i0.size+[Value.int .i64 c].length<=cur.size:=by rw[hz1,hcs'];simpa using hroom
   have hr':=run_append_room (P:=Tryz.prog) w 61 ty 3 i0 Tryz.underlying61 hi b xs.length cap cur hg ⟨g,0,none⟩ 1 1 [.int .i64 c] hl1 hcl h1c hroom hfit;rw[hr]at hr';injection hr' with e1 e2;rw[hz1]at e2;subst e1 e2;have hnew:=setRow_heap w b cur (cur.toList.take (xs.length*1) ++ [Value.int .i64 c]++cur.toList.drop (xs.length*1+[Value.int .i64 c].length)).toArray 3 (0,0) hg;refine⟨⟨hown',fun g' cs hg' hh j x hj hx=>?_⟩,hbel,hgr.size,fun k hk hne=>hgr.block k hk hne,fun g0 h0=>?_⟩
   ·simp only[Value.ownBlock,Option.some.injEq]at hg';subst hg';rw[hnew]at hh;replace hh:=ads hh;subst hh;rw[List.length_append]at hj;simp only[List.length_singleton]at hj;rw[List.getElem?_toArray,List.getElem?_append_right (by simp;omega),List.getElem?_drop,Array.getElem?_toList]at hx;refine hsp _ x ?_ hx;simp;omega
   ·simp only[Value.ownBlock,Option.some.injEq]at h0;subst h0;refine⟨cur,_,hg,hnew,fun j hj=>?_,hsp,hall⟩;rw[List.getElem?_toArray,List.append_assoc,List.getElem?_append_left (by simp;omega),List.getElem?_take_of_lt (by omega),Array.getElem?_toList]
  ·have hr':=run_append_grow (P:=Tryz.prog) w 61 ty 3 i0 _ Tryz.underlying61 hi hz0 ⟨b,0,none⟩ xs.length cap (xs.map (Value.int .i64)) (by rw[hz1];exact R.own.1) (R.own.cells (g:=b) rfl) ⟨g,0,none⟩ 1 1 [.int .i64 c] hl1 hcl (by omega) (by omega) (growslice_fits (by omega) (by rw[hz2];omega));rw[hr]at hr';injection hr' with e1 e2;subst e1 e2;refine⟨⟨hown',fun g' cs hg' hh j x hj hx=>?_⟩,hbel,hgr.size,fun k hk hne=>hgr.block k hk hne,fun g0 h0=>?_⟩
   ·simp only[Value.ownBlock,Option.some.injEq]at hg';subst hg';rw[show(w.drew.alloc (Obj.cells ((xs.map (Value.int .i64)).toArray ++ [Value.int .i64 c].toArray++Builtin.zeroCells (Value.int .i64 0).cells (grownCap w (xs.length+1) cap 3-(xs.length+1))) 3)).heap[w.heap.size]? = _ from heap_alloc_new w.drew _]at hh;replace hh:=ads hh;subst hh;rw[List.length_append]at hj;rw[Array.getElem?_append_right (by simp;simp at hj;omega)]at hx;exact ai1 _ _ _ hx
   ·simp only[Value.ownBlock,Option.some.injEq]at h0;subst h0;have hkeep:(w.drew.alloc (Obj.cells ((xs.map (Value.int .i64)).toArray ++ [Value.int .i64 c].toArray++Builtin.zeroCells (Value.int .i64 0).cells (grownCap w (xs.length+1) cap 3-(xs.length+1))) 3)).heap[b]? = w.heap[b]? :=(hAl w.drew _).block b (aaa hg);exact⟨cur,cur,hg,hkeep.trans hg,fun _ _=>rfl,hsp,hall⟩
theorem RmO.block{B:Nat}{w:World}{a:Option Addr}{n c:Nat}{vs:List Value}{rows:List (List Int)}{L:Nat}(h:RmO B w (.slice a n c) vs rows L)(hn:0<n):∃g cur,a=some ⟨g,0,none⟩/\B<=g/\w.heap[g]? = some (.cells cur 78 (0,0))/\n=rows.length/\n<=cur.size/\cur.toList.take n=vs:=by
 obtain⟨o1,⟨o2,_⟩|⟨g,cap,cur,e,o3,o4,o5,o6,o7,o8⟩⟩:=h.own
 ·obtain⟨_,hh,_⟩:=(Value.slice.injEq .. ▸ o2);omega
 ·obtain⟨rfl,hh,rfl⟩:=(Value.slice.injEq .. ▸ e);have hl:=h.len;exact⟨g,cur,rfl,o3,o4,by omega,by omega,by rw[hh];simpa using o8⟩
theorem RmO.len'{B:Nat}{w:World}{a:Option Addr}{n c:Nat}{vs:List Value}{rows:List (List Int)}{L:Nat}(h:RmO B w (.slice a n c) vs rows L):n=rows.length:=by
 obtain⟨_,_,e,_⟩:=Ce.own h.own;obtain⟨_,hh,_⟩:=(Value.slice.injEq .. ▸ e);exact hh.trans h.len
theorem RmO.put{B:Nat}{w:World}{g n c k:Nat}{vs:List Value}{rows:List (List Int)}{L:Nat}{u:Value}{z:List Int}(h:RmO B w (.slice (some ⟨g,0,none⟩) n c) vs rows L)(hk:k<n)(hu:NRow w u z L):
  RmO B (w.setCell ⟨g,k,none⟩ u) (.slice (some ⟨g,0,none⟩) n c) (vs.set k u) (rows.set k z) L/\(∀B',B'<=g->Below B' w (w.setCell ⟨g,k,none⟩ u))/\(∀ {x:Value} {y:List Int} {L':Nat},NRow w x y L'->NRow (w.setCell ⟨g,k,none⟩ u) x y L')/\∀b,b≠g->(w.setCell ⟨g,k,none⟩ u).heap[b]? = w.heap[b]? :=by
 obtain⟨ua,uc,rfl,_⟩:=id hu.parts;obtain⟨o1,⟨o2,_⟩|⟨g',cap,cur,e,o3,o4,o5,o6,o7,o8⟩⟩:=h.own
 ·obtain⟨hh,_⟩:=(Value.slice.injEq .. ▸ o2);cases hh
 obtain⟨ha,hh,rfl⟩:=(Value.slice.injEq .. ▸ e);obtain rfl:g=g':=by simpa using ha
 have hnew:=heap_setCell_same w g k cur 78 (.slice ua z.length uc) o4;have hot:∀b,b≠g->(w.setCell ⟨g,k,none⟩ (.slice ua z.length uc)).heap[b]? = w.heap[b]? :=fun b hb=>heap_setCell_other w ⟨g,k,none⟩ b _ hb
 have hsz:(w.setCell ⟨g,k,none⟩ (.slice ua z.length uc)).heap.size=w.heap.size:=by simp[World.setCell]
 have hou:(w.setCell ⟨g,k,none⟩ (.slice ua z.length uc)).os=w.os/\(w.setCell ⟨g,k,none⟩ (.slice ua z.length uc)).tape=w.tape/\(w.setCell ⟨g,k,none⟩ (.slice ua z.length uc)).output=w.output:=⟨rfl,rfl,rfl⟩;generalize w.setCell ⟨g,k,none⟩ (.slice ua z.length uc)=W at *
 have hI:=h.noi g cur _ rfl o4;have hB:=h.nob g cur _ rfl o4;have hkeep:∀ {x:Value} {y:List Int} {L':Nat},NRow w x y L'->NRow W x y L':=fun hx=>hx.other o4 hI hB (Nat.le_of_eq hsz.symm) (fun b _ hb=>hot b hb)
 have hmem:∀x∈(cur.setIfInBounds k (.slice ua z.length uc)).toList,x=.slice ua z.length uc\/x∈cur.toList:=fun x hx=>by
  rw[Array.toList_setIfInBounds]at hx;rcases List.mem_or_eq_of_mem_set hx with h|h
  ·exact .inr h
  ·exact .inl h
 refine⟨⟨⟨by simp,.inr ⟨g,c,_,by rw[List.length_set,hh],o3,hnew,by simpa using o5,o6,by simpa using o7,?_⟩⟩,fun b cs T hb hc x hx=>?_,fun b cs T hb hc x hx=>?_,by simp[h.len],fun j x y hx hy=>?_⟩,fun B' hB'=>⟨hou.1,hou.2.1,hou.2.2,Nat.le_of_eq hsz.symm,fun b hb=>hot b (by omega)⟩,hkeep,hot⟩
 ·rw[Array.toList_setIfInBounds,List.length_set,List.take_set,o8]
 ·simp only[Value.ownBlock,Option.some.injEq]at hb;subst hb;rw[hnew]at hc;obtain rfl:=ads hc;rcases hmem x hx with rfl|h
  ·rfl
  ·exact hI x h
 ·simp only[Value.ownBlock,Option.some.injEq]at hb;subst hb;rw[hnew]at hc;obtain rfl:=ads hc;rcases hmem x hx with rfl|h
  ·rfl
  ·exact hB x h
 ·by_cases hj:j=k
  ·subst hj;have hl:=h.len;have hjv:j<vs.length:=by omega
   rw[List.getElem?_set_self hjv]at hx;rw[List.getElem?_set_self (by omega)]at hy;obtain rfl:=Option.some.inj hx;obtain rfl:=Option.some.inj hy;exact hkeep hu
  ·rw[List.getElem?_set_ne (fun h=>hj h.symm)]at hx hy;exact hkeep (h.out j x y hx hy)
set_option maxRecDepth 100000 in
theorem aqb(w:World)(v:Value)(L M:Nat)(h:NRow w v [] L):
  Calls Tryz.prog 106 #[v] w fun e w'=>∃r,e=.returned r/\NRow w' r (red []) M/\Below w.heap.size w w':=by
 obtain⟨ar,cr,rfl,-⟩:=h.parts;simp only[List.length_nil];have HBA:=hide (hAl w (.cells #[.bool false,.slice none 0 0] 82));clear h;obtain⟨iN,hi',hz0',hz1',hz2'⟩:=info_parts infoN;go_enter Tryz.func106,Tryz.ntmps106
 go_wp2_with fail
 generalize w.alloc (.cells #[.bool false,.slice none 0 0] 82)=wa at *
 go_loopw [4,5] (fun sv iv wr=>∃s:Int,sv=.int .i64 s/\iv=.int .i64 0/\Below w.heap.size w wr) (fun _ _ _=>0)
 case atStart=>exact⟨0,rfl,rfl,HBA.out⟩
 case round=>
  obtain⟨s,rfl,rfl,hbw⟩:=hrel;have HW:=hide hbw;clear hbw;go_wp2_with (refine wpList_make_full _ rfl (.tmp 29) (.tmp 29) 78 rfl _ 82 iN (.agg #[.bool false,.slice none 0 0]) 2 Tryz.underlying78 hi' hz0' hz1' .i64 .i64 _ _ 0 rfl rfl (by omega) (by omega) (by rw[hz2'];omega) (by unfold maxLen;omega) (Nat.le_refl _) ?hK)
  case hK=>
   intro w1 hown hgrow;have hb1:Below wr.heap.size wr w1:=(Below.refl _ _).grown hgrow (Nat.le_refl _) (by simp);have HB1:=hide (HW.out.trans (hb1.mono HW.out.size));generalize wr.heap.size=bv at *
   clear hown hgrow hb1 HW;go_wp2_with fail
   go_loopw [7] (fun iv wr=>iv=.int .i64 0/\Below w.heap.size w wr) (fun _ _=>0)
   case atStart=>exact⟨rfl,HB1.out⟩
   case round=>
    obtain⟨rfl,hbw⟩:=hrel;have HW:=hide hbw;clear hbw;go_wp2;refine bodyPost_ret (v:=_) (acj rfl rfl) rfl ⟨_,rfl,⟨[],⟨_,_,rfl,Nat.le_refl _,by omega,rfl,.inl rfl⟩,rfl,fun k f z hf=>by simp at hf⟩,HW.out⟩
end Lm
namespace Lm
open Go Go.RowKit
open Dm (WFr)
def FrL(K:Nat)(x:Int)(L:Nat):Says:=fun v w=>∃ao cap rs B T,v=.slice ao rs.length cap/\Fr B T w ao cap rs x/\K<=B/\T<=w.heap.size/\rs.length<=L
theorem FrL.mono5(K:Nat)(x:Int)(L:Nat):Mono5 (FrL K x L):=fun _ _ _ hr ⟨ao,cap,rs,B,T,e,h,h1,h2,l⟩=>⟨ao,cap,rs,B,T,e,h.ru hr,h1,Nat.le_trans h2 hr.size,l⟩
theorem FrL.mono4(K:Nat)(x:Int)(L:Nat):Mono4 (FrL K x L):=fun v w w' hr h=>FrL.mono5 K x L v w w' (Ru.of_rl hr) h
def OwnRI(p q:Int)(L:Nat):SaysI:=fun B T v w=>∃ng ao cap rs bo dap ss B1 T1 B2 T2,v=.agg #[.bool ng,.slice ao rs.length cap,.slice bo ss.length dap]/\WFr B1 T1 w ng ao cap rs p/\Fr B2 T2 w bo dap ss q/\(B<=B1/\T1<=T/\B<=B2/\T2<=T)/\(T1<=B2\/T2<=B1)/\rs.length<=L/\ss.length<=L
theorem OwnRI.mono6(p q:Int)(L:Nat):Mono6 (OwnRI p q L):=fun _ _ _ _ _ hr ⟨ng,ao,cap,rs,bo,dap,ss,B1,T1,B2,T2,e,h1,h2,h3,h4,h5⟩=>⟨ng,ao,cap,rs,bo,dap,ss,B1,T1,B2,T2,e,h1.ru hr,h2.ru hr,h3,h4,h5⟩
theorem OwnRI.out{p q:Int}{L B T:Nat}{v:Value}{w:World}: OwnRI p q L B T v w->OutR p q L v w:=fun⟨ng,ao,cap,rs,bo,dap,ss,_,_,_,_,e,h1,h2,_,_,l1,l2⟩=>⟨ng,ao,cap,rs,bo,dap,ss,e,h1.wh,h2.got,l1,l2⟩
def FrR(K:Nat)(p q:Int)(L:Nat):Says:=fun v w=>∃T,T<=w.heap.size/\OwnRI p q L K T v w
theorem FrR.out{p q:Int}{L K:Nat}{v:Value}{w:World}: FrR K p q L v w->OutR p q L v w:=fun⟨_,_,o⟩=>o.out
section
end
end Lm
namespace Lm
open Go Go.RowKit
open Dm (WFr)
theorem ntoldF(w:World)(z:Int)(v:Value)(L:Nat)(h:OutN z L v w)(hL:L<=1000000):
  Calls Tryz.prog 45 #[v] w fun e w'=>∃r,e=.returned r/\FrW w.heap.size z L r w'/\Below w.heap.size w w':=by
 obtain⟨ng,ao,cap,rs,rfl,W,l⟩:=h;refine(Dm.az6 w _ _ _ _ _ W L (W.bound l) hL (by omega)).mono ?_;rintro e w' ⟨bo,dap,ls,rfl,F,l2,hb⟩;exact⟨_,rfl,⟨_,_,_,_,_,_,rfl,F,Nat.le_refl _,Nat.le_refl _,l2⟩,hb⟩
end Lm
namespace Lm
open Go Go.RowKit
theorem aef(n:Nat):∃m,IsLen (n:Int) m:=by
 have key:∀n:Nat,∃zs,Limb zs/\val zs=(n:Int):=by
  intro n;induction n using Nat.strongRecOn with
  |_ n ih=>
   by_cases h:n=0
   ·exact⟨[],aad,by simp[val,h]⟩
   ·obtain⟨zs,hl,hv⟩:=ih (n/4294967296) (Nat.div_lt_self (by omega) (by omega));refine⟨((n%4294967296:Nat):Int)::zs,fun z hz=>?_,?_⟩
    ·rcases List.mem_cons.1 hz with rfl|hz
     ·omega
     ·exact hl z hz
    ·simp only[val,hv];omega
 obtain⟨zs,hl,hv⟩:=key n;exact⟨_,_,aa5 hl,by rw[aak,hv],rfl⟩
theorem ama{x:Int}{m:Nat}(h:IsLen x m):(m<=32↔x<pw 32):=by
 obtain⟨rs,hc,hv,rfl⟩:=h;constructor
 ·intro hl;have h1:=(aac hc.1).2;have h2:=aaw hl;omega
 ·exact fun hx=>aau hc (by omega)
def MidK(n ix:Nat)(keep:Nat->Bool)(Ds:List Nat)(Ps:List Says)(a0:Act)(w0:World)(l:Array Bool)(a:Act)(w:World):Prop:=
 l.size=Ds.length/\a.tmps.size=n/\a.defers=a0.defers/\Below w0.heap.size w0 w/\Rest Ds a0 a/\(∀j,l.getD j false=true->(l.getD ix false=false\/keep j=true)->Ps.getD j (fun _ _=>True) (a.eval (.tmp (Ds.getD j 0))) w)
def MonosK(ops:Array Oper)(ix:Nat)(keep:Nat->Bool)(B:Nat)(Ps:List Says):Prop:=∀j,j≠ix->keep j=true->waits ops ops.size j ix=false->∀v w w',Below B w w'->Ps.getD j (fun _ _=>True) v w->Ps.getD j (fun _ _=>True) v w'
def DutyK(P:Program)(n ix:Nat)(Ds:List Nat)(Ps:List Says)(a0:Act)(w0:World)(i:Nat)(o:Oper)(d:Nat)(p:Says):Prop:=
 o.dst=some d/\o.guard=none/\∀a w,a.tmps.size=n->Below w0.heap.size w0 w->Rest Ds a0 a->Deps Ds Ps o a w->(i≠ix->Does P o a.eval w fun v w'=>Below w.heap.size w w'/\p v w')/\(i=ix->Does P o a.eval w fun v w'=>Below w0.heap.size w w'/\p v w')
def DutiesK(P:Program)(n ix:Nat)(Ds:List Nat)(Ps:List Says)(a0:Act)(w0:World):Nat->List Oper->List Nat->List Says->Prop
 |_,[],[],[]=>True
 |i,o::os,d::ds,p::ps=>DutyK P n ix Ds Ps a0 w0 i o d p/\DutiesK P n ix Ds Ps a0 w0 (i+1) os ds ps
 |_,_,_,_=>False
theorem DutiesK.at{P:Program}{n ix:Nat}{Ds:List Nat}{Ps:List Says}{a0:Act}{w0:World}: ∀ {m:Nat} {os:List Oper} {ds:List Nat} {ps:List Says},DutiesK P n ix Ds Ps a0 w0 m os ds ps->ds.length=os.length/\∀i o,os[i]? = some o->DutyK P n ix Ds Ps a0 w0 (m+i) o (ds.getD i 0) (ps.getD i fun _ _=>True)
 |_,[],[],[],_=>⟨rfl,fun i o h=>by simp at h⟩
 |m,o::os,d::ds,p::ps,h=>by
  obtain⟨h1,h2⟩:=h;obtain⟨hl,h3⟩:=DutiesK.at h2;refine⟨by simp[hl],fun i o' ho=>?_⟩;cases i with
  |zero=>
   simp only[List.getElem?_cons_zero,Option.some.injEq]at ho;subst ho;simpa using h1
  |succ i=>
   have:=h3 i o' (by simpa using ho);rw[show m+1+i=m+(i+1) by omega]at this;simpa using this
 |_,[],_::_,_,h=>h.elim
 |_,[],[],_::_,h=>h.elim
 |_,_::_,[],_,h=>h.elim
 |_,_::_,_::_,[],h=>h.elim
theorem DutiesK.take{P:Program}{n ix:Nat}{Ds:List Nat}{Ps:List Says}{a0:Act}{w0:World}{ops:Array Oper}{m:Nat}(h:DutiesK P n ix Ds Ps a0 w0 0 (ops.toList.take m) Ds Ps)(hm:m<=ops.size):Ds.length=m/\∀i o,ops[i]? = some o->i<Ds.length->DutyK P n ix Ds Ps a0 w0 i o (Ds.getD i 0) (Ps.getD i fun _ _=>True):=by
 obtain⟨hl,hat⟩:=h.at;have hl':Ds.length=m:=by rw[hl,List.length_take];simp;omega
 refine⟨hl',fun i o ho hi=>?_⟩;have:=hat i o (by rw[List.getElem?_take_of_lt (by omega),Array.getElem?_toList];exact ho);rwa[Nat.zero_add]at this
theorem MidK.put{n ix:Nat}{keep:Nat->Bool}{Ds:List Nat}{Ps:List Says}{a0:Act}{w0:World}{l:Array Bool}{a:Act}{w w':World}{i:Nat}{v:Value}(h:MidK n ix keep Ds Ps a0 w0 l a w)(hi:i<Ds.length)(hnd:Ds.Nodup)(hlt:(Ds.all fun d=>decide (d<n))=true)(ht:Below w0.heap.size w w')(hk:∀j,j≠i->l.getD j false=true->((l.setIfInBounds i true).getD ix false=false\/keep j=true)->∀u,((l.getD ix false=false\/keep j=true)->Ps.getD j (fun _ _=>True) u w)->Ps.getD j (fun _ _=>True) u w')(hp:Ps.getD i (fun _ _=>True) v w'):
  MidK n ix keep Ds Ps a0 w0 (l.setIfInBounds i true) (a.put (some (Ds.getD i 0)) v) w':=by
 obtain⟨h1,h2,h3,h4,h5,h6⟩:=h;have hd:Ds.getD i 0<n:=by
  have:=List.all_eq_true.1 hlt (Ds.getD i 0) (by rw[List.getD_eq_getElem?_getD,List.getElem?_eq_getElem hi];simp);simpa using this
 refine⟨by simp[h1],by rw[ael];simp[h2],h3,h4.trans ht,fun k hk=>?_,fun j hj hjk=>?_⟩
 ·rw[abd,h5 k hk];rintro rfl;have:Ds.contains (Ds.getD i 0)=true:=by
   rw[List.contains_iff_mem,List.getD_eq_getElem?_getD,List.getElem?_eq_getElem hi];simp
  rw[this]at hk;cases hk
 ·by_cases e:j=i
  ·subst e;rw[acp (by omega)];exact hp
  ·rw[getD_set_ne false (fun h=>e h.symm)]at hj;have hjl:j<Ds.length:=by
    rw[Array.getD_eq_getD_getElem?]at hj;cases hc:l[j]? with
    |none=>rw[hc]at hj;simp at hj
    |some b=>rw[<-h1];exact(Array.getElem?_eq_some_iff.1 hc).1
   rw[abd (afm hnd hi hjl (fun h=>e h.symm))];exact hk j e hj hjk _ (fun hh=>h6 j hj hh)
theorem atq{P:Program}{ops:Array Oper}{Q:Exit->Act->World->Prop}{n ix:Nat}{keep:Nat->Bool}{Ds:List Nat}{Ps:List Says}{a0:Act}{w0:World}{l:Array Bool}{a:Act}{w:World}{i:Nat}{o:Oper}(hat:∀i o,ops[i]? = some o->i<Ds.length->DutyK P n ix Ds Ps a0 w0 i o (Ds.getD i 0) (Ps.getD i fun _ _=>True))(hnd:Ds.Nodup)(hlt:(Ds.all fun d=>decide (d<n))=true)(hM:Monos Ps)(hT:MonosK ops ix keep w0.heap.size Ps)(hsh:∀j,l.getD j false=true->waits ops ops.size j ix=true->l.getD ix false=true)(ho:ops[i]? = some o)(hil:i<Ds.length)(hun:l.getD i false=false)(h:MidK n ix keep Ds Ps a0 w0 l a w)(hdeps:∀e∈o.after,Region.binds .any e=true->l.getD e.on false=true)(hkp:l.getD ix false=false\/∀e∈o.after,Region.binds .any e=true->keep e.on=true):
  wpOp P ops Q i (fun a' w'=>MidK n ix keep Ds Ps a0 w0 (l.setIfInBounds i true) a' w') a w:=by
 have h':=h;obtain⟨h1,h2,h3,h4,h5,h6⟩:=h;obtain⟨hdst,hgd,hduty⟩:=hat i o ho hil;obtain⟨hd1,hd2⟩:=hduty a w h2 h4 h5 (fun j hj=>by
  obtain⟨e,he,hj⟩:=List.any_eq_true.1 hj;simp only[Bool.and_eq_true,beq_iff_eq]at hj;obtain⟨rfl,hb⟩:=hj
  exact h6 _ (hdeps e (by simpa using he) hb) (hkp.elim .inl (fun h=>.inr (h e (by simpa using he) hb))))
 refine wpOp_step ho (fun K' hK=>?_);simp only[Region.wanted,hgd,if_true];by_cases hix:i=ix
 ·subst hix;refine Does.wp (hd2 rfl) (fun v w' ⟨hb,hp⟩=>?_);rw[hdst];refine hK _ _ (h'.put hil hnd hlt hb (fun j hj hlj hjk u hu=>?_) hp);rcases hjk with hjk|hjk
  ·rw[Array.getD_eq_getD_getElem?,Array.getElem?_setIfInBounds_self_of_lt (by omega)]at hjk;cases hjk
  ·refine hT j hj hjk ?_ u w w' hb (hu (.inl hun));cases hw:waits ops ops.size j i with
   |false=>rfl
   |true=>
    have:=hsh j hlj hw;rw[hun]at this;cases this
 ·refine Does.wp (hd1 hix) (fun v w' ⟨hb,hp⟩=>?_);rw[hdst];refine hK _ _ (h'.put hil hnd hlt (hb.mono h4.size) (fun j _ _ hjk u hu=>hM.at j u w w' hb (hu ?_)) hp);rwa[getD_set_ne false hix]at hjk
theorem amb{P:Program}{ops:Array Oper}{Q:Exit->Act->World->Prop}{id n:Nat}{a:Act}{w:World}(ix m:Nat)(keep:Nat->Bool)(Ds:List Nat)(Ps:List Says)(hm:P.follows .mixedOrders=true)(hn:a.tmps.size=n)(hnd:Ds.Nodup)(hlt:(Ds.all fun d=>decide (d<n))=true)
  (hdep:(ops.toList.zipIdx.all fun p=>p.1.after.all fun e=>decide (e.on<p.2))=true) (hms:m<=ops.size) (hall:((List.range ops.size).all fun i=>decide (i<m)||(List.range i).all fun j=>waits ops ops.size i j)=true) (hkp:((List.range m).all fun i=>i==ix||waits ops ops.size ix i||(match ops[i]? with|some o=>o.after.all (fun e=>!Region.binds .any e||keep e.on)|none=>true))=true) (hM:Monos Ps) (hT:MonosK ops ix keep w.heap.size Ps) (hD:DutiesK P n ix Ds Ps a w 0 (ops.toList.take m) Ds Ps) (hixm:ix<m)
  (hend:∀a' w',a'.tmps.size=n->a'.defers=a.defers->Below w.heap.size w w'->Rest Ds a a'->(∀j,j<Ds.length->keep j=true->Ps.getD j (fun _ _=>True) (a'.eval (.tmp (Ds.getD j 0))) w')->wpList P ops Q (ops.toList.drop m) a' w'):(Code.region id ops true).wp P Q a w:=by
 obtain⟨hlen,hat⟩:=hD.take hms;have hL:∀k,k<=ops.size->wpOps P ops Q (List.range' k (ops.size-k))=wpList P ops Q (ops.toList.drop k):=fun k hk=>by
  have:=wpOps_eq_wpList (P:=P) (ops:=ops) (Q:=Q) (ops.toList.drop k) k (fun j=>by rw[List.getElem?_drop,Array.getElem?_toList]);rw[<-this];simp
 have hneed:∀i o,ops[i]? = some o->m<=i->∀l:Array Bool,Shut ops l->(∀e∈o.after,Region.binds .any e=true->l.getD e.on false=true)->∀j,j<i->l.getD j false=true:=by
  intro i o ho hi l hc hl j hj;have hio:i<ops.size:=(Array.getElem?_eq_some_iff.1 ho).1;have h1:=List.all_eq_true.1 hall i (List.mem_range.2 hio);simp only[Bool.or_eq_true,decide_eq_true_eq]at h1;rcases h1 with h1|h1
  ·omega
  ·exact ac7 hc _ i j o ho hl (List.all_eq_true.1 h1 j (List.mem_range.2 hj))
 have hkp':∀i o,ops[i]? = some o->i<m->∀l:Array Bool,l.getD i false=false->Shut ops l->(l.extract 0 m).getD ix false=false\/∀e∈o.after,Region.binds .any e=true->keep e.on=true:=by
  intro i o ho him l hun hcl;cases hx:(l.extract 0 m).getD ix false with
  |false=>exact .inl rfl
  |true=>
   refine .inr fun e he hb=>?_
   rw[aar hixm]at hx;have h1:=List.all_eq_true.1 hkp i (List.mem_range.2 him);simp only[Bool.or_eq_true,beq_iff_eq]at h1;rcases h1 with(h1|h1)|h1
   ·subst h1;rw[hun]at hx;cases hx
   ·exfalso;obtain⟨ox,hox⟩:∃ox,ops[ix]? = some ox:=⟨_,Array.getElem?_eq_getElem (by omega)⟩;have:=ac7 hcl _ ix i ox hox (hcl ix ox hox hx) h1;rw[hun]at this;cases this
   ·rw[ho]at h1;have h2:=Array.all_eq_true_iff_forall_mem.1 h1 e he;simp only[hb,Bool.not_true,Bool.false_or]at h2;exact h2
 have hsh':∀l:Array Bool,Shut ops l->∀j,(l.extract 0 m).getD j false=true->waits ops ops.size j ix=true->(l.extract 0 m).getD ix false=true:=by
  intro l hcl j hj hw;have hjm:j<m:=by
   apply Classical.byContradiction;intro hno;rw[Array.getD_eq_getD_getElem?,Array.getElem?_eq_none (by simp;omega)]at hj;cases hj
  rw[aar hjm]at hj;rw[aar hixm];obtain⟨oj,hoj⟩:∃oj,ops[j]? = some oj:=⟨_,Array.getElem?_eq_getElem (by omega)⟩;exact ac7 hcl _ j ix oj hoj (hcl j oj hoj hj) hw
 refine ace hm (fun l a' w'=>(l.size=ops.size/\Shut ops l)/\(((∀j,m<=j->l.getD j false=false)/\MidK n ix keep Ds Ps a w (l.extract 0 m) a' w')\/∃j,m<j/\j<=ops.size/\(∀k,k<j->l.getD k false=true)/\(∀k,j<=k->l.getD k false=false)/\wpOps P ops Q (List.range' j (ops.size-j)) a' w')) ?_ ?_ ?_
 ·refine⟨⟨by simp,fun j o _ hj=>?_⟩,.inl ⟨fun j _=>?_,by simp[hlen];omega,hn,rfl,Below.drew (Below.refl _ _),fun _ _=>rfl,fun j hj _=>?_⟩⟩
  ·exfalso;simp[Array.getElem?_replicate]at hj;split at hj <;> simp at hj
  ·simp[Array.getElem?_replicate];split <;> simp
  ·exfalso;by_cases hjm:j<m
   ·rw[aar hjm]at hj;simp[Array.getElem?_replicate]at hj;split at hj <;> simp at hj
   ·rw[Array.getD_eq_getD_getElem?,Array.getElem?_eq_none (by simp;omega)]at hj;simp at hj
 ·rintro l a' w' ⟨⟨hs,hcl⟩,hI⟩ hr;have hal:=adl hdep hs hr;rcases hI with⟨h1,h2,h3,h4,h5,h6,h7⟩|⟨j,hj1,hj2,hj3,hj4,hj5⟩
  ·have hmo:m=ops.size:=by
    apply Classical.byContradiction;intro hne;have:=hal m (by omega);rw[h1 m (Nat.le_refl _)]at this;cases this
   have:=hend a' w' h3 h4 h5 h6 (fun j hj hkj=>h7 j (by rw[aar (by omega)];exact hal j (by omega)) (.inr hkj));rw[List.drop_eq_nil_of_le (by simp;omega)]at this;exact this
  ·have hje:j=ops.size:=by
    apply Classical.byContradiction;intro hne;have:=hal j (by omega);rw[hj4 j (Nat.le_refl _)]at this;cases this
   subst hje;simpa[wpOps]using hj5
 ·rintro l a' w' ⟨⟨hs,hcl⟩,hI⟩ i hi;obtain⟨hun,o,ho,hdeps⟩:=mem_ready.1 hi;have hio:i<ops.size:=(Array.getElem?_eq_some_iff.1 ho).1;have hset:∀k,k≠i->(l.setIfInBounds i true).getD k false=l.getD k false:=fun k hk=>getD_set_ne false (fun e=>hk e.symm)
  have hseti:(l.setIfInBounds i true).getD i false=true:=by
   rw[Array.getD_eq_getD_getElem?,Array.getElem?_setIfInBounds_self_of_lt (by omega)];rfl
  have hif:l.getD i false=false:=by
   rw[Array.getD_eq_getD_getElem?]at hun ⊢;cases hc:l[i]? with
   |none=>rfl
   |some b=>rw[hc]at hun;simpa using hun
  have hcl':Shut ops (l.setIfInBounds i true):=hcl.set ho hdeps;have hrun:∀j,j=i->wpOps P ops Q (List.range' j (ops.size-j)) a' w'->m<=j->(∀k,k<j->l.getD k false=true)->(∀k,j<=k->l.getD k false=false)->wpOp P ops Q i (fun a' w'=>((l.setIfInBounds i true).size=ops.size/\Shut ops (l.setIfInBounds i true))/\(((∀j,m<=j->(l.setIfInBounds i true).getD j false=false)/\MidK n ix keep Ds Ps a w ((l.setIfInBounds i true).extract 0 m) a' w')\/∃j,m<j/\j<=ops.size/\(∀k,k<j->(l.setIfInBounds i true).getD k false=true)/\(∀k,j<=k->(l.setIfInBounds i true).getD k false=false)/\wpOps P ops Q (List.range' j (ops.size-j)) a' w')) a' w':=by
   rintro j rfl hw hmj hlo hhi;rw[show ops.size-j=(ops.size-(j+1))+1 by omega,List.range'_succ,wpOps_cons]at hw;refine wpOp_mono (fun a2 w2 h=>⟨⟨by simpa using hs,hcl'⟩,.inr ⟨j+1,by omega,by omega,fun k hk=>?_,fun k hk=>?_,h⟩⟩) hw
   ·by_cases e:k=j
    ·subst e;exact hseti
    ·rw[hset k e];exact hlo k (by omega)
   ·rw[hset k (by omega)];exact hhi k (by omega)
  rcases hI with⟨h1,hmid⟩|⟨j,hj1,hj2,hj3,hj4,hj5⟩
  ·by_cases him:i<m
   ·have hd':∀e∈o.after,Region.binds .any e=true->(l.extract 0 m).getD e.on false=true:=fun e he hb=>by
     have h2:=List.all_eq_true.1 hdep (o,i) (by rw[List.mem_zipIdx_iff_getElem?];simpa using ho);have h3:e.on<i:=by simpa using Array.all_eq_true_iff_forall_mem.1 h2 e he
     rw[aar (by omega)];exact hdeps e he hb
    refine wpOp_mono (fun a2 w2 h=>⟨⟨by simpa using hs,hcl'⟩,.inl ⟨fun k hk=>?_,?_⟩⟩) (atq hat hnd hlt hM hT (hsh' l hcl) ho (by omega) (by rw[aar him];exact hif) hmid hd' (hkp' i o ho him l hif hcl))
    ·rw[hset k (by omega)];exact h1 k hk
    ·rw[adu];exact h
   ·have hpre:=hneed i o ho (by omega) l hcl hdeps;have hie:i=m:=by
     apply Classical.byContradiction;intro hne;have:=hpre m (by omega);rw[h1 m (Nat.le_refl _)]at this;cases this
    subst hie;obtain⟨h2,h3,h4,h5,h6,h7⟩:=hmid;have hw:=hend a' w' h3 h4 h5 h6 (fun j hj hkj=>h7 j (by rw[aar (by omega)];exact hpre j (by omega)) (.inr hkj));rw[<-hL _ hms]at hw;exact hrun i rfl hw (Nat.le_refl _) hpre h1
  ·have hij:i=j:=by
    apply Classical.byContradiction;intro hne;by_cases hlt':i<j
    ·rw[hj3 i hlt']at hif;cases hif
    ·have:=hneed i o ho (by omega) l hcl hdeps j (by omega);rw[hj4 j (Nat.le_refl _)]at this;cases this
   exact hrun j hij.symm hj5 (by omega) hj3 hj4
section
variable {dst:Option Tmp} {ty:TypeId} {pos:String} {after:Array Edge} {guard:Option (Nat×Bool)} {a:Act} {w:World} {ats:Array TypeId} {i j k g:Nat} {u v x y z:Int} {L L1 L2:Nat}
theorem atr{ng:Bool}{ao bo:Option Addr}{n c m d:Nat}(hp:a.eval (.tmp k)=.pointer (some ⟨g,1,none⟩))(hb:BoxV R3 w g (.agg #[.bool ng,.slice ao n c,.slice bo m d])):
  Does Tryz.prog {dst,op:=.load 37 (.tmp k),type:=ty,pos,after,guard} a.eval w fun v' w'=>Below w.heap.size w w'/\Eqs (.slice ao n c) v' w':=by
 obtain⟨b1,b2,b3,b4,b5,b6⟩:=acz (ak8 hb);refine aav (v:=.slice ao n c) ?_ ⟨Below.refl _ _,rfl⟩;rw[hp];go_simp
end
section
variable {dst:Option Tmp} {ty:TypeId} {pos:String} {after:Array Edge} {guard:Option (Nat×Bool)} {a:Act} {w:World} {ats:Array TypeId} {i j:Nat} {x y:Int} {L1 L2 K:Nat}
theorem a0n{u v:Nat}(h1:a.eval (.tmp i)=.int .i64 (u:Int))(h2:a.eval (.tmp j)=.int .i64 (v:Int)){ts:Array TypeId}:
  Does Tryz.prog {dst,op:=.call {callee:=.builtin .max,args:=#[.tmp i,.tmp j],argTypes:=ts},type:=ty,pos,after,guard} a.eval w fun v' w'=>Below w.heap.size w w'/\Eqs (.int .i64 ((max u v:Nat):Int)) v' w':=by
 have e:(execOp a.eval {dst,op:=.call {callee:=.builtin .max,args:=#[.tmp i,.tmp j],argTypes:=ts},type:=ty,pos,after,guard}).run Tryz.prog w=.ok (.value (.int .i64 ((max u v:Nat):Int))) w:=by
  have h1':a.tmps[i]?.getD undef=.int .i64 (u:Int):=by simpa[Act.eval]using h1
  have h2':a.tmps[j]?.getD undef=.int .i64 (v:Int):=by simpa[Act.eval]using h2
  simp[go_sem,h1',h2'];omega
 refine⟨?_⟩;unfold Turns;rw[e];exact⟨Below.refl _ _,rfl⟩
end
theorem av4(w:World)(Br:Nat)(nr:Bool)(ar:Option Addr)(mr cr:Nat)(rs:List Int)(pr:Int)(Ar:Ag w nr ar mr cr rs pr)(Lr:rs.length<=Br)(br:Option Addr)(kr dr:Nat)(rt:List Int)(qr:Int)(Sr:Sl w (.slice br kr dr) rt)(Vr:val rt=qr)(Mr:rt.length<=Br)(hL:2*(Br+2)<=100000)(mP mQ:Nat)(hmP:IsLen (((nm (tp pr qr) (tq qr))).natAbs:Int) mP)(hmQ:IsLen (dn (tp pr qr) (tq qr)) mQ):
  Calls Tryz.prog 32 #[.agg #[.bool nr,.slice ar mr cr,.slice br kr dr]] w fun e w'=>∃v,e=.returned v/\(Eqs (.int .i64 ((max mP mQ:Nat):Int))) v w'/\Below w.heap.size w w':=by
 go_enter Tryz.func32,Tryz.ntmps32
 generalize hA:(Act.mk _ _)=aa;have hn:aa.tmps.size=14:=by rw[<-hA];rfl
 have hd:aa.defers = []:=by rw[<-hA]
 have f0:aa.eval (.tmp 0)=.agg #[.bool nr,.slice ar mr cr,.slice br kr dr]:=by rw[<-hA];rfl
 clear hA;have HB:Below w.heap.size w w:=Below.refl _ _;have Dr:Ag w false br kr dr rt qr:=⟨Sr,Vr⟩;refine wp_seq ?_;refine aao [some 1,some 2] [Tt,Eqs ((.int .i64 0))] [⟨R3,some 0,0,1,.agg #[.bool nr,.slice ar mr cr,.slice br kr dr],none,[]⟩] [] (by kernel_rfl) hn rfl (by kernel_rfl) (by kernel_rfl) (by kernel_rfl) (by kernel_rfl) (by kernel_rfl) (by kernel_rfl) ⟨True.mono4,Eqs.mono4 _,trivial⟩ (aa0 R3ok aat) (IsOld.all (bx:=[⟨R3,some 0,0,1,.agg #[.bool nr,.slice ar mr cr,.slice br kr dr],none,[]⟩]) ⟨someNe,trivial⟩) (DisOld.all (bx:=[⟨R3,some 0,0,1,.agg #[.bool nr,.slice ar mr cr,.slice br kr dr],none,[]⟩]) ⟨someNe,trivial⟩) ?_ ?_
 ·exact⟨.alloc 0 _ rfl rfl (.inr ⟨_,rfl,a00,fun a_ hR=>(hR 0 rfl).trans f0⟩) rfl rfl rfl rfl rfl,.norm 2 rfl rfl rfl (fun a_ w_ _ t r R D _ _=>abg rfl),trivial⟩
 ·intro a1 w1 gs1 hn1 hd1 hBt hr hR hP hX hU;replace hn:=hn1;replace hd:=hd1.trans hd;have b1:BoxV R3 w1 (gs1 0) (.agg #[.bool nr,.slice ar mr cr,.slice br kr dr]):=(hX 0 _ rfl).2.2.2;have f1:=(hX 0 _ rfl).1;have u1:w.heap.size<=gs1 0:=Nat.le_trans HB.size ((hX 0 _ rfl).2.2.1 (by simp));have e2:a1.eval (.tmp 2)=(.int .i64 0):=hP 1 (by decide);have f2:=e2;replace Ar:=Ar.rl hr;replace Sr:=Sr.rl hr;replace Dr:=Dr.rl hr;replace HB:=HB.trans (hBt.below HB.size (UpOld.all (bx:=[⟨R3,some 0,0,1,.agg #[.bool nr,.slice ar mr cr,.slice br kr dr],none,[]⟩]) ⟨someNe,trivial⟩));clear hBt hr hR hP hX hU;refine wp_seq ?_;refine aao [some 4,some 5,some 3,none] [Eqs (.agg #[.bool nr,.slice ar mr cr,.slice br kr dr]),OutR ((nm (tp pr qr) (tq qr))) ((dn (tp pr qr) (tq qr))) (2*((Br)+2)),Tt,Tt] [⟨R3,some 2,0,3,.agg #[.bool false,.slice none 0 0,.slice none 0 0],some (3,5,1),[]⟩] [] (by kernel_rfl) hn rfl (by kernel_rfl) (by kernel_rfl) (by kernel_rfl) (by kernel_rfl) (by kernel_rfl) (by kernel_rfl) ⟨Eqs.mono4 _,OutR.mono4 _ _ _,True.mono4,True.mono4,trivial⟩ (aa0 R3ok aat) (IsOld.all (bx:=[⟨R3,some 2,0,3,.agg #[.bool false,.slice none 0 0,.slice none 0 0],some (3,5,1),[]⟩]) ⟨someNe,trivial⟩) (DisOld.all (bx:=[⟨R3,some 2,0,3,.agg #[.bool false,.slice none 0 0,.slice none 0 0],some (3,5,1),[]⟩]) ⟨someNe,trivial⟩) ?_ ?_
  ·exact⟨.norm 4 rfl rfl rfl (fun a_ w_ _ t r R D _ _=>aa3 R3ok ((R 1 rfl).trans f1) (b1.keep t ⟨someNe,trivial⟩)),.norm 5 rfl rfl rfl (fun a_ w_ _ t r R D _ _=>avd (azw (show a_.eval (.tmp 4)=.agg #[.bool nr,.slice ar mr cr,.slice br kr dr]from D 0 rfl) (Ar.rl r) (Sr.rl r) Vr Lr Mr) (by omega)),.alloc 0 _ rfl rfl (.inl ⟨rfl,rfl⟩) rfl rfl rfl rfl rfl,.store 0 _ _ _ rfl rfl rfl rfl rfl rfl rfl (fun ia h=>by cases h;rfl) rfl rfl rfl OutR.cs,trivial⟩
  ·intro a2 w2 gs2 hn2 hd2 hBt hr hR hP hX hU;replace hn:=hn2;replace hd:=hd2.trans hd;obtain⟨n_3,a_3,c_3,r_3,b_3,d_3,s_3,e5,G3,K3,l3,k3⟩:OutR ((nm (tp pr qr) (tq qr))) ((dn (tp pr qr) (tq qr))) (2*((Br)+2)) (a2.eval (.tmp 5)) w2:=hP 1 (by decide);have A3:=G3.ag;have S3:=K3.sl;have V3:=K3.val;have b3:BoxV R3 w2 (gs2 0) (.agg #[.bool n_3,.slice a_3 r_3.length c_3,.slice b_3 s_3.length d_3]):=agv (hX 0 _ rfl).2.2.2 e5;have f3:=(hX 0 _ rfl).1;have u3:w.heap.size<=gs2 0:=Nat.le_trans HB.size ((hX 0 _ rfl).2.2.1 (by simp));replace f2:=(hR 2 rfl).trans f2;replace Ar:=Ar.rl hr;replace Sr:=Sr.rl hr;replace Dr:=Dr.rl hr;replace HB:=HB.trans (hBt.below HB.size (UpOld.all (bx:=[⟨R3,some 2,0,3,.agg #[.bool false,.slice none 0 0,.slice none 0 0],some (3,5,1),[]⟩]) ⟨someNe,trivial⟩));clear hBt hr hR hP hX hU;refine wp_seq ?_;refine aao [some 6,some 7,some 8,some 9,some 10,some 11,some 12,some 13,some 2] [Eqs (.pointer (some ⟨gs2 0,0,none⟩)),Eqs (.pointer (some ⟨gs2 0,1,none⟩)),Eqs (.slice a_3 r_3.length c_3),Eqs (.int .i64 (r_3.length:Int)),Eqs (.pointer (some ⟨gs2 0,2,none⟩)),Eqs (.slice b_3 s_3.length d_3),Eqs (.int .i64 (s_3.length:Int)),Eqs (.int .i64 ((max r_3.length s_3.length:Nat):Int)),Eqs (.int .i64 ((max r_3.length s_3.length:Nat):Int))] [] [] (by kernel_rfl) hn rfl (by kernel_rfl) (by kernel_rfl) (by kernel_rfl) (by kernel_rfl) (by kernel_rfl) (by kernel_rfl) ⟨Eqs.mono4 _,Eqs.mono4 _,Eqs.mono4 _,Eqs.mono4 _,Eqs.mono4 _,Eqs.mono4 _,Eqs.mono4 _,Eqs.mono4 _,Eqs.mono4 _,trivial⟩ aat (IsOld.all (bx:=[]) trivial) (DisOld.all (bx:=[]) trivial) ?_ ?_
   ·exact⟨.norm 6 rfl rfl rfl (fun a_ w_ _ t r R D _ _=>ak9 aro ((R 3 rfl).trans f3)),.norm 7 rfl rfl rfl (fun a_ w_ _ t r R D _ _=>adm adz (show a_.eval (.tmp 6)=.pointer (some ⟨gs2 0,0,none⟩)from D 0 rfl)),.norm 8 rfl rfl rfl (fun a_ w_ _ t r R D _ _=>atr (show a_.eval (.tmp 7)=.pointer (some ⟨gs2 0,1,none⟩)from D 1 rfl) (b3.keep t trivial)),.norm 9 rfl rfl rfl (fun a_ w_ _ t r R D _ _=>ak7 (show a_.eval (.tmp 8)=.slice a_3 r_3.length c_3 from D 2 rfl)),.norm 10 rfl rfl rfl (fun a_ w_ _ t r R D _ _=>ak9 azx ((R 3 rfl).trans f3)),.norm 11 rfl rfl rfl (fun a_ w_ _ t r R D _ _=>auz (show a_.eval (.tmp 10)=.pointer (some ⟨gs2 0,2,none⟩)from D 4 rfl) (b3.keep t trivial)),.norm 12 rfl rfl rfl (fun a_ w_ _ t r R D _ _=>ak7 (show a_.eval (.tmp 11)=.slice b_3 s_3.length d_3 from D 5 rfl)),.norm 13 rfl rfl rfl (fun a_ w_ _ t r R D _ _=>a0n (show a_.eval (.tmp 9)=.int .i64 (r_3.length:Int)from D 3 rfl) (show a_.eval (.tmp 12)=.int .i64 (s_3.length:Int)from D 6 rfl)),.norm 2 rfl rfl rfl (fun a_ w_ _ t r R D _ _=>abg (show a_.eval (.tmp 13)=.int .i64 ((max r_3.length s_3.length:Nat):Int)from D 7 rfl)),trivial⟩
   ·intro a4 w4 gs4 hn4 hd4 hBt hr hR hP hX hU;replace hn:=hn4;replace hd:=hd4.trans hd;have e2:a4.eval (.tmp 2)=.int .i64 ((max r_3.length s_3.length:Nat):Int):=hP 8 (by decide);have f2:=e2;replace Ar:=Ar.rl hr;replace Sr:=Sr.rl hr;replace Dr:=Dr.rl hr;replace G3:=G3.rl hr;replace A3:=A3.rl hr;replace K3:=K3.rl hr;replace S3:=S3.rl hr;replace HB:=HB.trans (hBt.below HB.size (UpOld.all (bx:=[]) trivial));clear hBt hr hR hP hX hU;refine wp_ret ?_;repeat(first|refine ab3 ?_|refine aba ?_|refine abw ?_)
    have hlp_:=agi ⟨r_3,G3.1.canon,G3.1.val,rfl⟩ hmP;have hlq_:=agi ⟨s_3,K3.canon,K3.val,rfl⟩ hmQ;exact bodyPost_ret (v:=.int .i64 ((max r_3.length s_3.length:Nat):Int)) (acj rfl f2) hd ⟨_,rfl,(by rw[Eqs,hlp_,hlq_]),HB⟩
theorem aqc:Has Tryz.prog 100:=by unfold Has;kernel_rfl
theorem att{dst:Option Tmp}{ty:TypeId}{pos:String}{after:Array Edge}{guard:Option (Nat×Bool)}{a:Act}{w:World}{ats:Array TypeId}{i K n c L:Nat}{ao:Option Addr}{zs:List Int}(h:a.eval (.tmp i)=.slice ao n c)(S:Sl w (.slice ao n c) zs)(hl:zs.length<=L)(hL:L<=1000000)(hK:K<=w.heap.size):
  Does Tryz.prog {dst,op:=.call {callee:=.value (.func 100),args:=#[.tmp i],argTypes:=ats},type:=ty,pos,after,guard} a.eval w fun v w'=>Below w.heap.size w w'/\FrL K (val zs) L v w':=by
 refine aaq aqc #[_] (by simp[h]) ((aln w ao n c zs S (by omega)).mono ?_);rintro e w' ⟨a1,c1,rs,rfl,G,k,li,hb⟩;exact⟨_,rfl,hb,a1,c1,rs,_,_,rfl,li.fr G,hK,Nat.le_refl _,Nat.le_trans k hl⟩
set_option maxRecDepth 100000 in
theorem av5(w:World)(vp vq:Value)(p q:Int)(L:Nat)(hp:IsW p L vp w)(hq:IsW q L vq w)(h0:q≠0)(hL:L<=100000):
  Calls Tryz.prog 60 #[vp,vq] w fun e w'=>∃v,e=.returned v/\FrR w.heap.size (nm p q) (dn p q) L v w'/\Below w.heap.size w w':=by
 obtain⟨n1,a1,m1,c1,xs,rfl,A1,l1⟩:=hp;obtain⟨n2,a2,m2,c2,ys,rfl,A2,l2⟩:=hq;have hx0:0<=val xs:=(aac A1.sl.parts.2.2.2).1;have hy0:0<val ys:=by
  have h1:=(aac A2.sl.parts.2.2.2).1;have h2:val ys≠0:=fun e=>h0 (by rw[<-A2.worth,e];cases n2 <;> simp[sg])
  omega
 obtain⟨w1,e1,bx,by',hb1,hs1⟩:=aeo w n1 (.slice a1 m1 c1) n2 (.slice a2 m2 c2);have hb2:=hAl w1 (.cells #[.bool false,.slice none 0 0,.slice none 0 0] 44);have hn2:=heap_alloc_new w1 (.cells #[.bool false,.slice none 0 0,.slice none 0 0] 44);have hs2:(w1.alloc (.cells #[.bool false,.slice none 0 0,.slice none 0 0] 44)).heap.size=w1.heap.size+1:=by simp
 rw[hs1]at hn2 hs2;have hb02:=hb1.trans (hb2.mono hb1.size);obtain⟨_,x0,x1,_,_⟩:=aam ((hb2.block _ (aaa bx)).trans bx);obtain⟨_,y0,y1,_,_⟩:=aam ((hb2.block _ (aaa by')).trans by');have SX:=hide (A1.sl.below hb02);have SY:=hide (A2.sl.below hb02);have HB:=hide hb02;have HN:=hide hn2;have HX:=hide hx0;have HY:=hide hy0;have HP:Hid (p=sg n1 (val xs)/\q=sg n2 (val ys)):=⟨A1.worth.symm,A2.worth.symm⟩;have HL:Hid (xs.length<=L/\ys.length<=L):=⟨l1,l2⟩;have E1:=hide e1;clear hb1 hb2 hb02 hn2 bx by' hs1 e1 A1 A2 hx0 hy0 h0;go_enter Tryz.func60,Tryz.ntmps60
 go_upto_region 1 with fail
 rw[E1.out];generalize w1.alloc (.cells #[.bool false,.slice none 0 0,.slice none 0 0] 44)=w2 at *
 refine wp_scope_straight ?_;go_upto_region 1 with fail
 refine ac1 5 [9,10,11,12,13] [Eqs (.pointer (some ⟨w.heap.size,1,none⟩)),Eqs (.slice a1 m1 c1),(FrL w.heap.size (val xs) L),Eqs (.pointer (some ⟨w.heap.size+1,1,none⟩)),Eqs (.slice a2 m2 c2)] rfl rfl (by decide) (by kernel_rfl) (by kernel_rfl) (by decide) (by kernel_rfl) ⟨Eqs.mono _,Eqs.mono _,(Mono.of4 (FrL.mono4 _ _ _)),Eqs.mono _,Eqs.mono _,trivial⟩ ?_ ?_
 ·exact⟨⟨rfl,fun a_ w_ _ hB hR hD=>adm adz ((hR 2 rfl).trans (aab rfl))⟩,
    ⟨rfl,fun a_ w_ _ hB hR hD=>aiq (show a_.eval (.tmp 9)=.pointer (some ⟨w.heap.size,1,none⟩)from hD 0 rfl) ((hB.cell (p:=⟨w.heap.size,1,none⟩) (aai x1)).trans x1)⟩,
    ⟨rfl,fun a_ w_ _ hB hR hD=>att (show a_.eval (.tmp 10)=.slice a1 m1 c1 from hD 1 rfl) (SX.out.below hB) HL.out.1 (by omega) (Nat.le_trans HB.out.size hB.size)⟩,
    ⟨rfl,fun a_ w_ _ hB hR hD=>adm adz ((hR 3 rfl).trans (aab rfl))⟩,
    ⟨rfl,fun a_ w_ _ hB hR hD=>aiq (show a_.eval (.tmp 12)=.pointer (some ⟨w.heap.size+1,1,none⟩)from hD 3 rfl) ((hB.cell (p:=⟨w.heap.size+1,1,none⟩) (aai y1)).trans y1)⟩,
    trivial⟩
 ·intro a' w' hn' hd' hB' hR' hP';have e9:a'.eval (.tmp 9)=.pointer (some ⟨w.heap.size,1,none⟩):=hP' 0 (by decide);have e10:a'.eval (.tmp 10)=.slice a1 m1 c1:=hP' 1 (by decide);obtain⟨u11,e11⟩:∃u,a'.eval (.tmp 11)=u:=⟨_,rfl⟩;have hT1:(FrL w.heap.size (val xs) L) (a'.eval (.tmp 11)) w':=hP' 2 (by decide);rw[e11]at hT1;have e12:a'.eval (.tmp 12)=.pointer (some ⟨w.heap.size+1,1,none⟩):=hP' 3 (by decide);have e13:a'.eval (.tmp 13)=.slice a2 m2 c2:=hP' 4 (by decide);refine abl hn' hd' hR' (.s4 rfl <| .s4 rfl <| .same rfl <| .new e9 <| .new e10 <| .new e11 <| .new e12 <| .new e13 <| .s16 rfl <| .s16 rfl <| .s4 rfl <| .same rfl <| .nil) ?_;clear e9 e10 e11 e12 e13;obtain⟨a5,c5,r5,B5,T5,rfl,G5,hB5,hT5,k5⟩:=hT1;have KT:=hide (aln w' a2 m2 c2 ys (SY.out.below hB') (by have:=HL.out;omega));have H5:=hide (And.intro G5 k5);have H5B:=hide (And.intro hB5 hT5);have hnr:=(hB'.block _ (aaa HN.out)).trans HN.out;have HNR0:=hide hnr;have HBR0:=hide (HB.out.trans (hB'.mono HB.out.size));replace x0:=(hB'.cell (p:=⟨w.heap.size,0,none⟩) (aai x0)).trans x0;replace y0:=(hB'.cell (p:=⟨w.heap.size+1,0,none⟩) (aai y0)).trans y0;clear hB' hR' hP' hn' hd' hnr G5 k5 hB5 hT5;go_wp2_with fail
  refine KT.out.mono ?_;rintro e wt ⟨a6,c6,r6,rfl,G6,k6,li6,hbt⟩;have H6:=hide (And.intro (li6.fr G6) k6);have H5t:=hide (H5.out.1.below hbt);have HNR:=hide ((hbt.block _ (aaa HNR0.out)).trans HNR0.out);have HBR:=hide (HBR0.out.trans (hbt.mono HBR0.out.size));replace x0:=(hbt.cell (p:=⟨w.heap.size,0,none⟩) (aai x0)).trans x0;replace y0:=(hbt.cell (p:=⟨w.heap.size+1,0,none⟩) (aai y0)).trans y0;have HIN0:Hid ((w.heap.size<=B5/\T5<=wt.heap.size/\w.heap.size<=w'.heap.size/\wt.heap.size<=wt.heap.size)/\(T5<=w'.heap.size\/wt.heap.size<=B5)):=⟨⟨H5B.out.1,Nat.le_trans H5B.out.2 hbt.size,HBR0.out.size,Nat.le_refl _⟩,.inl H5B.out.2⟩;have HL5:=hide (And.intro (Nat.le_trans k6 HL.out.2) H5.out.2);clear hbt KT G6 k6 li6;obtain⟨hg1,hg2⟩:(0:Int)<(Int.gcd (val xs) (val ys):Int)/\True:=⟨ab9 (by have:=HY.out;omega),trivial⟩;obtain⟨g,hg⟩:∃g:Int,(Int.gcd (val xs) (val ys):Int)=g:=⟨_,rfl⟩;rw[hg]at hg1;have HG:Hid ((Int.gcd (val xs) (val ys):Int)=g/\0<g):=⟨hg,hg1⟩;clear hg hg1 hg2 x1 y1;go_wp2_with fail
  go_step3
  go_wp2_with fail
  go_loopg [5,6] 1 (fun k sx sy wr=>∃(a:Option Addr) (b:Nat) (c:Option Addr) (d:Nat) (rx ry:List Int) (X Y:Int),sx=.slice a rx.length b/\sy=.slice c ry.length d/\(∃B1 T1 B2 T2,Fr B1 T1 wr a b rx X/\Fr B2 T2 wr c d ry Y/\(w.heap.size<=B1/\T1<=wr.heap.size/\w.heap.size<=B2/\T2<=wr.heap.size)/\(T1<=B2\/T2<=B1))/\rx.length<=L/\ry.length<=L/\((k=1/\X=val xs/\Y=val ys)\/(k=0/\X=val xs/g/\Y=val ys/g))/\Below w.heap.size w wr/\wr.heap[w.heap.size+2]? = some (.cells #[.bool false,.slice none 0 0,.slice none 0 0] 44 (0,0))/\wr.cell? ⟨w.heap.size,0,none⟩=some (.bool n1)/\wr.cell? ⟨w.heap.size+1,0,none⟩=some (.bool n2))
  case atStart=>exact⟨a5,c5,a6,c6,r5,r6,_,_,rfl,rfl,⟨_,_,_,_,H5t.out,H6.out.1,HIN0.out.1,HIN0.out.2⟩,HL5.out.2,HL5.out.1,.inl ⟨rfl,rfl,rfl⟩,HBR.out,HNR.out,x0,y0⟩
  case round=>
   obtain⟨a,b,c,d,rx,ry,X,Y,rfl,rfl,⟨B1,T1,B2,T2,FX,FY,hin,hap⟩,lx,ly,hk,hbw,hnr,x0,y0⟩:=hrel;have GX:=FX.got;have GY:=FY.got;have HFX:=hide (And.intro FX (And.intro FY (And.intro hin hap)));have HGX:=hide GX;have HGY:=hide GY;have HLX:=hide (And.intro lx ly);have HK:=hide hk;have HBW:=hide hbw;have HNR:=hide hnr;have hpos:0<=X/\0<Y:=by
    have hx:=HX.out;have hy:=HY.out;have hg:=HG.out;rcases hk with⟨_,rfl,rfl⟩|⟨_,rfl,rfl⟩
    ·exact⟨hx,hy⟩
    ·refine⟨Int.ediv_nonneg hx (by omega),?_⟩;have hd:g ∣ val ys:=by rw[<-hg.1];exact Int.gcd_dvd_right ..
     exact Int.ediv_pos_of_pos_of_dvd hy (by omega) hd
   have HPOS:=hide hpos;have K1:=hide (awx wr a c _ _ b d rx ry GX.sl GY.sl (by omega) (by omega));rw[GX.val,GY.val]at K1;clear GX GY FX FY hin hap lx ly hk hbw hnr hpos;go_wp2_with fail
   refine K1.out.mono ?_;rintro e w3 ⟨a7,c7,r7,rfl,G7,k7,hb3⟩;have K2:=hide (aen w3 a7 _ c7 r7 G7.sl (by have:=HLX.out;omega));have HG7:=hide G7;have HB3:=hide hb3;have hx0':=(hb3.cell (p:=⟨w.heap.size,0,none⟩) (aai x0)).trans x0;have hy0':=(hb3.cell (p:=⟨w.heap.size+1,0,none⟩) (aai y0)).trans y0;clear G7 hb3 K1 x0 y0 k7;go_wp2_with fail
   refine K2.out.mono ?_;rintro e w4 ⟨kb,rfl,hbits,hw4⟩;subst w4;rw[HG7.out.val]at hbits;have hg1:=ahe hbits (ab9 (by have:=HPOS.out;omega));have HGO:=hide hg1;clear hbits K2 hg1;by_cases hb1:(kb:Int)=1
   ·have hb1':((kb:Int)==1)=true:=by simpa using hb1
    have hgo:=HGO.out.1 hb1;have HXY:Hid (X=val xs/g/\Y=val ys/g):=(show _/\_ by
     rcases HK.out with⟨_,hX,hY⟩|⟨_,hX,hY⟩
     ·have hg:=HG.out.1;rw[<-hX,<-hY,hgo]at hg;rw[<-hX,<-hY,<-hg,Int.ediv_one,Int.ediv_one];exact⟨rfl,rfl⟩
     ·exact⟨hX,hY⟩)
    clear hb1 hgo;have HNR2:=hide ((HB3.out.block _ (aaa HNR.out)).trans HNR.out);obtain⟨_,t0,t1,t2,u0,u1,u2⟩:=abz HNR2.out;have HGX3:=hide (HGX.out.below HB3.out);have HGY3:=hide (HGY.out.below HB3.out);have HBF:=hide (HBW.out.trans (HB3.out.mono HBW.out.size));have HEQ:Hid (nm p q=sg (n1 != n2) X/\dn p q=Y):=(show _/\_ by
     rw[HP.out.1,HP.out.2,awy _ _ HY.out,awz _ _ HY.out,HG.out.1,HXY.out.1,HXY.out.2]
     exact⟨rfl,rfl⟩)
    have fin:∀ng:Bool,ng=((n1 != n2)&&decide (0<rx.length))->FrR w.heap.size (nm p q) (dn p q) L (.agg #[.bool ng,.slice a rx.length b,.slice c ry.length d]) (((w3.setCell ⟨w.heap.size+2,0,none⟩ (.bool ng)).setCell ⟨w.heap.size+2,1,none⟩ (.slice a rx.length b)).setCell ⟨w.heap.size+2,2,none⟩ (.slice c ry.length d))/\Below w.heap.size w (((w3.setCell ⟨w.heap.size+2,0,none⟩ (.bool ng)).setCell ⟨w.heap.size+2,1,none⟩ (.slice a rx.length b)).setCell ⟨w.heap.size+2,2,none⟩ (.slice c ry.length d)):=fun ng hng=>by
     have hr:=aii HNR2.out (.bool ng) (.slice a rx.length b) (.slice c ry.length d);obtain⟨f1,f2,hin,hap⟩:=HFX.out;have g1:=(f1.below HB3.out).ru hr;have g2:=(f2.below HB3.out).ru hr;have hwh:=Wh.of (n1 != n2) g1.got;rw[<-hng]at hwh;rw[HEQ.out.1,HEQ.out.2];have hsz:=Nat.le_trans HB3.out.size hr.size;exact⟨⟨_,Nat.le_refl _,ng,a,b,rx,c,d,ry,B1,T1,B2,T2,rfl,⟨g1.li.fr hwh.1,hwh.2⟩,g2,⟨by omega,by omega,by omega,by omega⟩,hap,HLX.out.1,HLX.out.2⟩,((HBF.out.setCell (by simp) _).setCell (by simp) _).setCell (by simp) _⟩
    have HF:=hide fin;have HSR:=hide (fun ng:Bool=>aij HNR2.out (.bool ng) (.slice a rx.length b) (.slice c ry.length d));clear fin;obtain⟨lr,hlr⟩:∃lr,rx.length=lr:=⟨_,rfl⟩;rw[hlr]at HF HSR ⊢;clear HEQ HB3 HBF HGX3 HGY3 hlr;by_cases hn:n1=n2
    ·subst hn;have HFF:=hide (And.intro (HF.out false (by simp)) (HSR.out false));clear HF HSR;go_wp2;exact aba (bodyPost_ret (v:=_) (aby (g:=w.heap.size+2) rfl rfl (lvr3 HFF.out.2)) rfl ⟨_,rfl,HFF.out.1.1,HFF.out.1.2⟩)
    ·have HFF:=hide (And.intro (HF.out (!n1==n2&&decide (0<lr)) rfl) (HSR.out (!n1==n2&&decide (0<lr))));clear HF HSR;go_wp2;exact aba (bodyPost_ret (v:=_) (aby (g:=w.heap.size+2) rfl rfl (lvr3 HFF.out.2)) rfl ⟨_,rfl,HFF.out.1.1,HFF.out.1.2⟩)
   ·have hb1':((kb:Int)==1)=false:=by simpa using hb1
    have hgo:¬(Int.gcd X Y:Int)=1:=fun h=>hb1 (HGO.out.2 h)
    have HK1:=hide (HK.out.resolve_right (fun⟨_,hX,hY⟩=>by
     have hg:=HG.out;have:=ahf (x:=val xs) (y:=val ys) (by rw[hg.1];exact hg.2);rw[hg.1,<-hX,<-hY]at this
     exact hgo this))
    have HXY:=hide HK1.out.2;have hg7:val r7=g:=by rw[HG7.out.val,HXY.out.1,HXY.out.2];exact HG.out.1
    have K3:=hide (aep w3 a a7 _ _ b c7 rx r7 (HGX.out.below HB3.out).sl HG7.out.sl (by have:=HLX.out;omega) (by rw[hg7];have:=HG.out;omega));rw[hg7,HGX.out.val]at K3;have HG7V:=hide hg7;clear hb1 hgo hg7;go_wp2_with fail
    refine K3.out.mono ?_;rintro e w5 ⟨a8,c8,r8,a9,c9,r9,C1,D1,C2,D2,rfl,G8,G9,k8,k9,li8,_,hli8,hb5⟩;have HG8:=hide (li8.fr G8);have HI8:=hide hli8;have H35:=hide (HB3.out.trans (hb5.mono HB3.out.size));have hx5:=(hb5.cell (p:=⟨w.heap.size,0,none⟩) (aai hx0')).trans hx0';have hy5:=(hb5.cell (p:=⟨w.heap.size+1,0,none⟩) (aai hy0')).trans hy0';have K4:=hide (aep w5 c a7 _ _ d c7 ry r7 (HGY.out.below H35.out).sl (HG7.out.below hb5).sl (by have:=HLX.out;omega) (by rw[HG7V.out];have:=HG.out;omega));rw[HG7V.out,HGY.out.val]at K4;have HK8:=hide k8;have H5S:=hide hb5.size;clear G8 G9 k8 k9 li8 hli8 hb5 K3 hx0' hy0';go_wp2_with fail
    refine K4.out.mono ?_;rintro e w6 ⟨a10,c10,r10,a11,c11,r11,E1',F1',E2',F2',rfl,G10,G11,k10,k11,li10,_,hli10,hb6⟩;have HG10:=hide (li10.fr G10);have HI10:Hid ((w.heap.size<=C1/\D1<=w6.heap.size/\w.heap.size<=E1'/\F1'<=w6.heap.size)/\(D1<=E1'\/F1'<=C1)):=(by
     have h1:=HI8.out;have h2:=hb6.size;have h3:=HBW.out.size;have h4:=HB3.out.size;have h5:=H5S.out
     exact⟨⟨by omega,by omega,by omega,by omega⟩,.inl (by omega)⟩)
    have HG8':=hide (HG8.out.below hb6);have H36:=hide (H35.out.trans (hb6.mono H35.out.size));have hx6:=(hb6.cell (p:=⟨w.heap.size,0,none⟩) (aai hx5)).trans hx5;have hy6:=(hb6.cell (p:=⟨w.heap.size+1,0,none⟩) (aai hy5)).trans hy5;have HK10:=hide k10;clear G10 G11 k10 k11 li10 hli10 hb6 K4 hx5 hy5;go_wp2;go_roundg 0
    case rel=>exact⟨a8,c8,a10,c10,r8,r10,_,_,rfl,rfl,⟨_,_,_,_,HG8'.out,HG10.out,HI10.out.1,HI10.out.2⟩,Nat.le_trans HK8.out HLX.out.1,Nat.le_trans HK10.out HLX.out.2,.inr ⟨rfl,by rw[HXY.out.1],by rw[HXY.out.2]⟩,HBW.out.trans (H36.out.mono HBW.out.size),(H36.out.block _ (aaa HNR.out)).trans HNR.out,hx6,hy6⟩
    case measure=>have:=HK1.out.1;omega
end Lm
namespace Lm
open Go Go.RowKit
open Dm (WFr)
theorem Kp.both{w w1 w2:World}{p:Nat}{bs bs':List Nat}(h:Kp w w1 p bs)(h':Kp w1 w2 p bs'):Kp w w2 p (bs++bs'):=
 ⟨h'.os.trans h.os,h'.tape.trans h.tape,h'.output.trans h.output,Nat.le_trans h.size h'.size,fun k hk hp hn=>(h'.other k (Nat.lt_of_lt_of_le hk h.size) hp (fun hm=>hn (List.mem_append.2 (.inr hm)))).trans (h.other k hk hp (fun hm=>hn (List.mem_append.2 (.inl hm))))⟩
theorem aqd(w:World)(p Q n:Nat)(bs:List Nat)(hb:Bs w p Q bs n)(hn:n<=900)(B1 T1 B2 T2:Nat)(ng:Bool)(ao bo:Option Addr)(cap dap:Nat)(rs ss:List Int)(x y:Int)(h:Fr B1 T1 w ao cap rs x)(h':Fr B2 T2 w bo dap ss y)(hQB:Q<=B1)(hQB':Q<=B2)(hQ:Q<=w.heap.size)(ht:T1<=w.heap.size)(ht':T2<=w.heap.size)(hd:∀j,j∈bs->j<B1\/T1<=j)(hd':∀j,j∈bs->j<B2\/T2<=j)(hdd:T1<=B2\/T2<=B1)(hp:p<B2\/T2<=p):
  Calls Tryz.prog 13 #[.pointer (some ⟨p,0,none⟩),.agg #[.bool ng,.slice ao rs.length cap,.slice bo ss.length dap]] w fun e w'=>e=.returned (.bool true)/\∃bs' ks,Bs w' p Q bs' (n+2)/\Kp w w' p ks/\(∀j,j∈bs'\/j∈ks->j∈bs\/w.heap.size<=j\/(B1<=j/\j<T1)\/(B2<=j/\j<T2)):=by
 have hb0:Below w.heap.size w (w.alloc (.cells #[.bool ng,.slice ao rs.length cap,.slice bo ss.length dap] 44)):=(Below.refl _ _).alloc (Nat.le_refl _) _;have hr0:=heap_alloc_new w (.cells #[.bool ng,.slice ao rs.length cap,.slice bo ss.length dap] 44);obtain⟨w0,e0⟩:∃w0,w.alloc (.cells #[.bool ng,.slice ao rs.length cap,.slice bo ss.length dap] 44)=w0:=⟨_,rfl⟩;rw[e0]at hb0 hr0;have hlt:=aaa hr0;have hpl:=hb.lt.2;have hbl:=fun j hj=>(hb.low j hj).2
 have E0:=hide e0;have R0:=hide hr0;clear e0;go_enter Tryz.func13,Tryz.ntmps13
 go_upto_region 1 with fail
 rw[E0.out];obtain⟨c1,c2,c3,c4,c5,c6⟩:=acz hr0;clear hr0;go_wp2_with fail
 refine(aw0 _ _ _ _ bs (hb.below hb0) (by omega) _ _ _ _ _ _ (h.below hb0) hQB (by have:=hb0.size;omega) hd).mono ?_;rintro e w1 ⟨rfl,bs1,BK1,k1,j1⟩;have J1:∀j,j∈bs1->j∈bs\/w0.heap.size<=j\/(B1<=j/\j<T1):=j1;have hr1:w1.heap[w.heap.size]? = some (.cells #[.bool ng,.slice ao rs.length cap,.slice bo ss.length dap] 44 (0,0)):=(k1.other w.heap.size hlt (by omega) (fun hm=>by rcases J1 _ hm with q|q|q;have:=hbl _ q;omega;omega;omega)).trans R0.out;have H1:=(h'.below hb0).kp k1 hp (fun j hj=>by have:=hb0.size;rcases J1 j hj with q|q|q;exact hd' j q;omega;omega);clear c1 c2 c3 c4 c5 c6 j1;obtain⟨c1,c2,c3,c4,c5,c6⟩:=acz hr1;go_wp2_with fail
 refine(aw0 _ _ _ _ bs1 BK1 (by omega) _ _ _ _ _ _ H1 hQB' (by have:=hb0.size;have:=k1.size;omega) (fun j hj=>by have:=hb0.size;rcases J1 j hj with q|q|q;exact hd' j q;omega;omega)).mono ?_;rintro e w2 ⟨rfl,bs2,BK2,k2,j2⟩;clear c1 c2 c3 c4 c5 c6;go_wp2;go_ret;have z0:=hb0.size;have z1:=k1.size;have J2:∀j,j∈bs2->j∈bs\/w.heap.size<=j\/(B1<=j/\j<T1)\/(B2<=j/\j<T2):=by
  intro j hj;rcases j2 j hj with q|q|q
  ·rcases J1 j q with r|r|r
   ·exact .inl r
   ·exact .inr (.inl (by omega))
   ·exact .inr (.inr (.inl r))
  ·exact .inr (.inl (by omega))
  ·exact .inr (.inr (.inr q))
 refine⟨rfl,bs2,bs1++bs2,BK2,(k1.both k2).from hb0,fun j hj=>?_⟩;rcases hj with hj|hj
 ·exact J2 j hj
 ·rcases List.mem_append.1 hj with hj|hj
  ·rcases J1 j hj with r|r|r
   ·exact .inl r
   ·exact .inr (.inl (by omega))
   ·exact .inr (.inr (.inl r))
  ·exact J2 j hj
section
end
end Lm
end Go.Proofs.YtnamacnblomgcaaGreat
