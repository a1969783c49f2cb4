/-
  What the text behind the last one leans on, part 4.
-/
import Derived.Test.YtpccfkdcpjplgaaGreatMKsLawZ3
set_option maxRecDepth 20000
set_option maxHeartbeats 40000000
namespace Go.Proofs.YtpccfkdcpjplgaaGreat
namespace Lm
open Go Go.RowKit
theorem asz{zs:List Int}(h:Dm.Canon zs)(hne:zs≠[]):zs.getD (zs.length-1) 0≠0:=fun h0=>by
 have hp:=List.length_pos_iff.2 hne;have h1:=h.2;have h2:=Dm.ab0 (zs:=zs) (n:=zs.length-1) (by omega) h0;omega
structure Ap (w w':World) (g:Option Nat) (n:Nat):Prop where
 size:w.heap.size<=w'.heap.size
 other:∀k,k<w.heap.size->some k≠g->w'.heap[k]? = w.heap[k]?
 first:∀g0,g=some g0->∃cur cur',w.heap[g0]? = some (.cells cur 3 (0,0))/\w'.heap[g0]? = some (.cells cur' 3 (0,0))/\(∀j,j<n->cur'[j]? = cur[j]?)/\(∀j x,n<=j->cur[j]? = some x->x=.int .i64 0)/\∀x∈cur.toList,isI x=true
theorem OutN.ap{z:Int}{L:Nat}{v:Value}{w w':World}{g:Option Nat}{n:Nat}(h:OutN z L v w)(ha:Ap w w' g n):OutN z L v w':=by
 obtain⟨ng,ao,cap,rs,rfl,⟨⟨hS,hC,hv⟩,hng⟩,l⟩:=h;refine⟨ng,ao,cap,rs,rfl,⟨⟨?_,hC,hv⟩,hng⟩,l⟩;obtain⟨ao',cap',e,h1,h2,h3,h4⟩:=hS;refine⟨ao',cap',e,h1,h2,h3,?_⟩;rcases h4 with h4|⟨b,off,rfl,hc⟩
 ·exact .inl h4
 ·by_cases hne:rs = []
  ·exact .inl hne
  ·refine .inr ⟨b,off,rfl,fun i hi=>?_⟩;have hci:=hc i hi;by_cases hg:g=some b
   ·obtain⟨cur,cur',c1,c2,c3,c4,_⟩:=ha.first b hg;have hp:=List.length_pos_iff.2 hne;have htop:=hc (rs.length-1) (by omega);rw[cell_of_row w b _ _ _ (0,0) c1]at htop hci;have hlt:off+(rs.length-1)<n:=Classical.byContradiction fun hn=>by
     have:=c4 _ _ (by omega) htop;injection this with _ this;exact asz hC hne this
    rw[cell_of_row w' b _ _ _ (0,0) c2,c3 _ (by omega)];exact hci
   ·rw[World.cell?_of_block (w:=w) (ha.other b (ac2 hci) (fun h=>hg h.symm))];exact hci
theorem NRow.ap{w w':World}{u:Value}{zs:List Int}{L:Nat}{g:Option Nat}{n:Nat}(h:NRow w u zs L)(ha:Ap w w' g n):NRow w' u zs L:=by
 obtain⟨fs,⟨ao,cap,rfl,h1,h2,h3,h4⟩,h5,h6⟩:=h;refine⟨fs,⟨ao,cap,rfl,h1,h2,h3,?_⟩,h5,fun k f z hf hz=>(h6 k f z hf hz).ap ha⟩;rcases h4 with h4|⟨b,off,rfl,hl,hc⟩
 ·exact .inl h4
 ·by_cases h0:fs.length=0
  ·exact .inl h0
  ·obtain⟨f,hf⟩:∃f,fs[0]? = Option.some f:=⟨_,List.getElem?_eq_getElem (by omega)⟩;have c0:=hc _ _ (aau hf).1;have hne:Option.some b≠g:=fun e=>by
    obtain⟨cur,cur',c1,c2,c3,c4,c5⟩:=ha.first b e.symm;rw[cell_of_row w b _ _ _ (0,0) c1]at c0;have:=c5 (.bool f.ng) (Array.mem_toList_iff.2 (Array.mem_of_getElem? c0));exact absurd this (by simp[isI])
   exact .inr ⟨b,off,rfl,Nat.lt_of_lt_of_le hl ha.size,fun j u hu=>by
    rw[World.cell?_of_block (w:=w) (ha.other b hl hne)]
    exact hc j u hu⟩
theorem RmO.ap{B:Nat}{w w':World}{v:Value}{vs:List Value}{rows:List (List Int)}{L:Nat}{g:Option Nat}{n:Nat}(h:RmO B w v vs rows L)(ha:Ap w w' g n):RmO B w' v vs rows L:=by
 have hout:∀(k:Nat) (u:Value) (z:List Int),vs[k]? = some u->rows[k]? = some z->NRow w' u z L:=fun k u z hu hz=>(h.out k u z hu hz).ap ha
 obtain⟨o1,o2|⟨b,cap,cur,rfl,o3,o4,o5,o6,o7,o8⟩⟩:=h.own
 ·obtain⟨rfl,o2⟩:=o2;exact⟨⟨o1,.inl ⟨rfl,o2⟩⟩,fun g cs T hg=>by simp[Value.ownBlock]at hg,fun g cs T hg=>by simp[Value.ownBlock]at hg,h.len,hout⟩
 ·have hb:w'.heap[b]? = some (.cells cur 76 (0,0)):=by
   rw[ha.other b (aaa o4) (fun e=>?_)]
   ·exact o4
   ·obtain⟨c,c',c1,_⟩:=ha.first b e.symm;rw[o4]at c1;injection c1 with c1;injection c1 with _ c1;exact absurd c1 (by decide)
  refine⟨⟨o1,.inr ⟨b,cap,cur,rfl,o3,hb,o5,o6,o7,o8⟩⟩,fun g cs T hg hh=>?_,fun g cs T hg hh=>?_,h.len,hout⟩
  ·simp only[Value.ownBlock,Option.some.injEq]at hg;subst hg;rw[hb]at hh;exact h.noi _ cs T rfl (by rw[o4];exact hh)
  ·simp only[Value.ownBlock,Option.some.injEq]at hg;subst hg;rw[hb]at hh;exact h.nob _ cs T rfl (by rw[o4];exact hh)
def cellsOf:Option Obj->Array Value
 |some (.cells c _ _)=>c
 |_=>#[]
theorem aer{c c':Array Value}{T T':TypeId}{f f':Nat×Nat}(h:some (Obj.cells c T f)=some (Obj.cells c' T' f')):c=c':=congrArg cellsOf h
structure Iv (B:Nat) (w:World) (v:Value) (xs:List Int):Prop where
 own:w.ownsRow B 3 1 v xs.length (xs.map (Value.int .i64))
 spare:∀g cs,v.ownBlock=some g->w.heap[g]? = some (.cells cs 3 (0,0))->∀j x,xs.length<=j->cs[j]? = some x->x=.int .i64 0
theorem azp(B:Nat)(w:World):Iv B w (.slice none 0 0) []:=⟨World.ownsRow_nil _ _ _ _,fun g cs hg=>by simp[Value.ownBlock]at hg⟩
theorem Iv.keep{B:Nat}{w w':World}{v:Value}{xs:List Int}(h:Iv B w v xs)(hk:∀k,v.ownBlock=some k->w'.heap[k]? = w.heap[k]?):Iv B w' v xs:=by
 refine⟨?_,fun g cs hg hh=>h.spare g cs hg (by rw[<-hk g hg];exact hh)⟩;obtain⟨o1,o2|⟨b,cap,cur,rfl,o3,o4,o5⟩⟩:=h.own
 ·exact⟨o1,.inl o2⟩
 ·exact⟨o1,.inr ⟨b,cap,cur,rfl,o3,(hk b rfl).trans o4,o5⟩⟩
theorem Iv.below{B:Nat}{w w':World}{v:Value}{xs:List Int}(h:Iv B w v xs)(hb:Below w.heap.size w w'):Iv B w' v xs:=h.keep fun k hk=>hb.block k (h.own.lt k hk).2
theorem ait(n j:Nat)(x:Value)(h:(Builtin.zeroCells (Value.int .i64 0).cells n)[j]? = some x):x=.int .i64 0:=by
 have hx:=Array.mem_of_getElem? h;simp only[Builtin.zeroCells,Array.mem_map]at hx;obtain⟨k,_,rfl⟩:=hx;simp[Value.cells,Nat.mod_one]
theorem infoI:(Tryz.prog.info? 3).map (fun i=>(i.zero,i.size,i.bytes))=some (some (.int .i64 0),1,8):=by kernel_rfl
theorem azq{B g:Nat}{w:World}{v:Value}{xs:List Int}{c:Int}{ty:TypeId}(R:Iv B w v xs)(O:w.heap[g]? = some (.cells #[.int .i64 c] 3 (0,0)))(hn:xs.length<=1000000)(hB:B<=w.heap.size):
  ∃v' w',(Builtin.append_ #[54,54] ty #[v,.slice (some ⟨g,0,none⟩) 1 1]).run Tryz.prog w=.ok v' w'/\Iv B w' v' (xs ++ [c])/\Below B w w'/\Ap w w' v.ownBlock xs.length:=by
 obtain⟨i0,hi,hz0,hz1,hz2⟩:=info_parts infoI;have hcl:∀(k:Nat) (x:Value),[Value.int .i64 c][k]? = some x->w.cell? ((⟨g,0,none⟩:Addr).add k)=some x:=fun k x hx=>by
  have hc:∀k,w.cell? ⟨g,k,none⟩ = #[Value.int .i64 c][k]? :=fun k=>cell_of_row w g k _ _ (0,0) O
  have ha:(⟨g,0,none⟩:Addr).add k=⟨g,k,none⟩:=by unfold Addr.add;split <;> simp_all
  rw[ha,hc];simpa using hx
 have h1c:∀x ∈ [Value.int .i64 c],x.oneCell'=true:=fun x hx=>by obtain rfl:=List.mem_singleton.1 hx;rfl
 obtain⟨v',w',hr,ho,hgr,_⟩:=run_append_own (P:=Tryz.prog) w B 54 ty 3 i0 _ 1 8 Tryz.underlying54 hi hz0 hz1 hz2 rfl (by decide) v xs.length (xs.map (Value.int .i64)) R.own ⟨g,0,none⟩ 1 1 [.int .i64 c] rfl hcl h1c (by simp[maxLen];omega) (by omega) hB;have hown':w'.ownsRow B 3 1 v' (xs ++ [c]).length ((xs ++ [c]).map (Value.int .i64)):=by rw[List.length_append,List.map_append];exact ho
 have hbel:Below B w w':=⟨hgr.os,hgr.tape,hgr.output,hgr.size,fun k hk=>hgr.block k (by omega) (fun e=>by have:=R.own.lt k e.symm;omega)⟩;have hl1 : [Value.int .i64 c].length=1*i0.size:=by rw[hz1];rfl
 refine⟨v',w',hr,?_⟩;rcases R.own.2 with⟨rfl,hx0⟩|⟨b,cap,cur,rfl,hbg,hg,hnc,hcm,hcs,htake⟩
 ·have hr':=run_append_nil (P:=Tryz.prog) w 54 ty 3 i0 _ Tryz.underlying54 hi hz0 ⟨g,0,none⟩ 1 1 [.int .i64 c] hl1 hcl (by omega) (by omega) (by omega);rw[hr]at hr';injection hr' with e1 e2;subst e1 e2;refine⟨⟨hown',fun g' cs hg' hh j x hj hx=>?_⟩,hbel,hgr.size,fun k hk hne=>hgr.block k hk hne,fun g0 h0=>by simp[Value.ownBlock]at h0⟩;simp only[Value.ownBlock,Option.some.injEq]at hg';subst hg';rw[show(w.drew.alloc (Obj.cells ([Value.int .i64 c].toArray++Builtin.zeroCells (Value.int .i64 0).cells (grownCap w 1 0 3-1)) 3)).heap[w.heap.size]? = _ from heap_alloc_new w.drew _]at hh;replace hh:=aer hh;subst hh;rw[List.length_append]at hj;rw[Array.getElem?_append_right (by simp;simp at hj;omega)]at hx;exact ait _ _ _ hx
 ·have hsp:=R.spare b cur rfl hg;have hcs':cur.size=cap:=by omega
  have htk:∀j,j<xs.length->cur[j]? = some (.int .i64 (xs.getD j 0)):=fun j hj=>by
   have h1:(cur.toList.take (xs.length*1))[j]? = (xs.map (Value.int .i64))[j]? :=by rw[htake]
   rw[List.getElem?_take_of_lt (by omega),Array.getElem?_toList,List.getElem?_map]at h1;rw[h1,List.getD_eq_getElem?_getD,List.getElem?_eq_getElem hj];rfl
  have hall:∀x∈cur.toList,isI x=true:=fun x hx=>by
   obtain⟨j,hj⟩:=List.mem_iff_getElem?.1 hx;rw[Array.getElem?_toList]at hj;by_cases hjl:j<xs.length
   ·rw[htk j hjl]at hj;obtain rfl:=Option.some.inj hj;rfl
   ·rw[hsp j x (by omega) hj];rfl
  by_cases hroom:xs.length+1<=cap
  ·have hfit:xs.length*i0.size+[Value.int .i64 c].length<=cur.size:=by rw[hz1,hcs'];simpa using hroom
   have hr':=run_append_room (P:=Tryz.prog) w 54 ty 3 i0 Tryz.underlying54 hi b xs.length cap cur hg ⟨g,0,none⟩ 1 1 [.int .i64 c] hl1 hcl h1c hroom hfit;rw[hr]at hr';injection hr' with e1 e2;rw[hz1]at e2;subst e1 e2;have hnew:=setRow_heap w b cur (cur.toList.take (xs.length*1) ++ [Value.int .i64 c]++cur.toList.drop (xs.length*1+[Value.int .i64 c].length)).toArray 3 (0,0) hg;refine⟨⟨hown',fun g' cs hg' hh j x hj hx=>?_⟩,hbel,hgr.size,fun k hk hne=>hgr.block k hk hne,fun g0 h0=>?_⟩
   ·simp only[Value.ownBlock,Option.some.injEq]at hg';subst hg';rw[hnew]at hh;replace hh:=aer hh;subst hh;rw[List.length_append]at hj;simp only[List.length_singleton]at hj;rw[List.getElem?_toArray,List.getElem?_append_right (by simp;omega),List.getElem?_drop,Array.getElem?_toList]at hx;refine hsp _ x ?_ hx;simp;omega
   ·simp only[Value.ownBlock,Option.some.injEq]at h0;subst h0;refine⟨cur,_,hg,hnew,fun j hj=>?_,hsp,hall⟩;rw[List.getElem?_toArray,List.append_assoc,List.getElem?_append_left (by simp;omega),List.getElem?_take_of_lt (by omega),Array.getElem?_toList]
  ·have hr':=run_append_grow (P:=Tryz.prog) w 54 ty 3 i0 _ Tryz.underlying54 hi hz0 ⟨b,0,none⟩ xs.length cap (xs.map (Value.int .i64)) (by rw[hz1];exact R.own.1) (R.own.cells (g:=b) rfl) ⟨g,0,none⟩ 1 1 [.int .i64 c] hl1 hcl (by omega) (by omega) (growslice_fits (by omega) (by rw[hz2];omega));rw[hr]at hr';injection hr' with e1 e2;subst e1 e2;refine⟨⟨hown',fun g' cs hg' hh j x hj hx=>?_⟩,hbel,hgr.size,fun k hk hne=>hgr.block k hk hne,fun g0 h0=>?_⟩
   ·simp only[Value.ownBlock,Option.some.injEq]at hg';subst hg';rw[show(w.drew.alloc (Obj.cells ((xs.map (Value.int .i64)).toArray ++ [Value.int .i64 c].toArray++Builtin.zeroCells (Value.int .i64 0).cells (grownCap w (xs.length+1) cap 3-(xs.length+1))) 3)).heap[w.heap.size]? = _ from heap_alloc_new w.drew _]at hh;replace hh:=aer hh;subst hh;rw[List.length_append]at hj;rw[Array.getElem?_append_right (by simp;simp at hj;omega)]at hx;exact ait _ _ _ hx
   ·simp only[Value.ownBlock,Option.some.injEq]at h0;subst h0;have hkeep:(w.drew.alloc (Obj.cells ((xs.map (Value.int .i64)).toArray ++ [Value.int .i64 c].toArray++Builtin.zeroCells (Value.int .i64 0).cells (grownCap w (xs.length+1) cap 3-(xs.length+1))) 3)).heap[b]? = w.heap[b]? :=(hAl w.drew _).block b (aaa hg);exact⟨cur,cur,hg,hkeep.trans hg,fun _ _=>rfl,hsp,hall⟩
theorem RmO.block{B:Nat}{w:World}{a:Option Addr}{n c:Nat}{vs:List Value}{rows:List (List Int)}{L:Nat}(h:RmO B w (.slice a n c) vs rows L)(hn:0<n):∃g cur,a=some ⟨g,0,none⟩/\B<=g/\w.heap[g]? = some (.cells cur 76 (0,0))/\n=rows.length/\n<=cur.size/\cur.toList.take n=vs:=by
 obtain⟨o1,⟨o2,_⟩|⟨g,cap,cur,e,o3,o4,o5,o6,o7,o8⟩⟩:=h.own
 ·obtain⟨_,hh,_⟩:=(Value.slice.injEq .. ▸ o2);omega
 ·obtain⟨rfl,hh,rfl⟩:=(Value.slice.injEq .. ▸ e);have hl:=h.len;exact⟨g,cur,rfl,o3,o4,by omega,by omega,by rw[hh];simpa using o8⟩
theorem RmO.len'{B:Nat}{w:World}{a:Option Addr}{n c:Nat}{vs:List Value}{rows:List (List Int)}{L:Nat}(h:RmO B w (.slice a n c) vs rows L):n=rows.length:=by
 obtain⟨_,_,e,_⟩:=Ce.own h.own;obtain⟨_,hh,_⟩:=(Value.slice.injEq .. ▸ e);exact hh.trans h.len
theorem RmO.put{B:Nat}{w:World}{g n c k:Nat}{vs:List Value}{rows:List (List Int)}{L:Nat}{u:Value}{z:List Int}(h:RmO B w (.slice (some ⟨g,0,none⟩) n c) vs rows L)(hk:k<n)(hu:NRow w u z L):
  RmO B (w.setCell ⟨g,k,none⟩ u) (.slice (some ⟨g,0,none⟩) n c) (vs.set k u) (rows.set k z) L/\(∀B',B'<=g->Below B' w (w.setCell ⟨g,k,none⟩ u))/\(∀ {x:Value} {y:List Int} {L':Nat},NRow w x y L'->NRow (w.setCell ⟨g,k,none⟩ u) x y L')/\∀b,b≠g->(w.setCell ⟨g,k,none⟩ u).heap[b]? = w.heap[b]? :=by
 obtain⟨ua,uc,rfl,_⟩:=id hu.parts;obtain⟨o1,⟨o2,_⟩|⟨g',cap,cur,e,o3,o4,o5,o6,o7,o8⟩⟩:=h.own
 ·obtain⟨hh,_⟩:=(Value.slice.injEq .. ▸ o2);cases hh
 obtain⟨ha,hh,rfl⟩:=(Value.slice.injEq .. ▸ e);obtain rfl:g=g':=by simpa using ha
 have hnew:=heap_setCell_same w g k cur 76 (.slice ua z.length uc) o4;have hot:∀b,b≠g->(w.setCell ⟨g,k,none⟩ (.slice ua z.length uc)).heap[b]? = w.heap[b]? :=fun b hb=>heap_setCell_other w ⟨g,k,none⟩ b _ hb
 have hsz:(w.setCell ⟨g,k,none⟩ (.slice ua z.length uc)).heap.size=w.heap.size:=by simp[World.setCell]
 have hou:(w.setCell ⟨g,k,none⟩ (.slice ua z.length uc)).os=w.os/\(w.setCell ⟨g,k,none⟩ (.slice ua z.length uc)).tape=w.tape/\(w.setCell ⟨g,k,none⟩ (.slice ua z.length uc)).output=w.output:=⟨rfl,rfl,rfl⟩;generalize w.setCell ⟨g,k,none⟩ (.slice ua z.length uc)=W at *
 have hI:=h.noi g cur _ rfl o4;have hB:=h.nob g cur _ rfl o4;have hkeep:∀ {x:Value} {y:List Int} {L':Nat},NRow w x y L'->NRow W x y L':=fun hx=>hx.other o4 hI hB (Nat.le_of_eq hsz.symm) (fun b _ hb=>hot b hb)
 have hmem:∀x∈(cur.setIfInBounds k (.slice ua z.length uc)).toList,x=.slice ua z.length uc\/x∈cur.toList:=fun x hx=>by
  rw[Array.toList_setIfInBounds]at hx;rcases List.mem_or_eq_of_mem_set hx with h|h
  ·exact .inr h
  ·exact .inl h
 refine⟨⟨⟨by simp,.inr ⟨g,c,_,by rw[List.length_set,hh],o3,hnew,by simpa using o5,o6,by simpa using o7,?_⟩⟩,fun b cs T hb hc x hx=>?_,fun b cs T hb hc x hx=>?_,by simp[h.len],fun j x y hx hy=>?_⟩,fun B' hB'=>⟨hou.1,hou.2.1,hou.2.2,Nat.le_of_eq hsz.symm,fun b hb=>hot b (by omega)⟩,hkeep,hot⟩
 ·rw[Array.toList_setIfInBounds,List.length_set,List.take_set,o8]
 ·simp only[Value.ownBlock,Option.some.injEq]at hb;subst hb;rw[hnew]at hc;obtain rfl:=aer hc;rcases hmem x hx with rfl|h
  ·rfl
  ·exact hI x h
 ·simp only[Value.ownBlock,Option.some.injEq]at hb;subst hb;rw[hnew]at hc;obtain rfl:=aer hc;rcases hmem x hx with rfl|h
  ·rfl
  ·exact hB x h
 ·by_cases hj:j=k
  ·subst hj;have hl:=h.len;have hjv:j<vs.length:=by omega
   rw[List.getElem?_set_self hjv]at hx;rw[List.getElem?_set_self (by omega)]at hy;obtain rfl:=Option.some.inj hx;obtain rfl:=Option.some.inj hy;exact hkeep hu
  ·rw[List.getElem?_set_ne (fun h=>hj h.symm)]at hx hy;exact hkeep (h.out j x y hx hy)
set_option maxRecDepth 100000 in
theorem ap4(w:World)(v:Value)(L M:Nat)(h:NRow w v [] L):
  Calls Tryz.prog 45 #[v] w fun e w'=>∃r,e=.returned r/\NRow w' r (red []) M/\Below w.heap.size w w':=by
 obtain⟨ar,cr,rfl,-⟩:=h.parts;simp only[List.length_nil];have HBA:=hide (hAl w (.cells #[.bool false,.slice none 0 0] 83));clear h;obtain⟨iN,hi',hz0',hz1',hz2'⟩:=info_parts infoN;go_enter Tryz.func45,Tryz.ntmps45
 go_wp2_with fail
 generalize w.alloc (.cells #[.bool false,.slice none 0 0] 83)=wa at *
 go_loopw [4,5] (fun sv iv wr=>∃s:Int,sv=.int .i64 s/\iv=.int .i64 0/\Below w.heap.size w wr) (fun _ _ _=>0)
 case atStart=>exact⟨0,rfl,rfl,HBA.out⟩
 case round=>
  obtain⟨s,rfl,rfl,hbw⟩:=hrel;have HW:=hide hbw;clear hbw;go_wp2_with (refine wpList_make_full _ rfl (.tmp 29) (.tmp 29) 76 rfl _ 83 iN (.agg #[.bool false,.slice none 0 0]) 2 Tryz.underlying76 hi' hz0' hz1' .i64 .i64 _ _ 0 rfl rfl (by omega) (by omega) (by rw[hz2'];omega) (by unfold maxLen;omega) (Nat.le_refl _) ?hK)
  case hK=>
   intro w1 hown hgrow;have hb1:Below wr.heap.size wr w1:=(Below.refl _ _).grown hgrow (Nat.le_refl _) (by simp);have HB1:=hide (HW.out.trans (hb1.mono HW.out.size));generalize wr.heap.size=bv at *
   clear hown hgrow hb1 HW;go_wp2_with fail
   go_loopw [7] (fun iv wr=>iv=.int .i64 0/\Below w.heap.size w wr) (fun _ _=>0)
   case atStart=>exact⟨rfl,HB1.out⟩
   case round=>
    obtain⟨rfl,hbw⟩:=hrel;have HW:=hide hbw;clear hbw;go_wp2;refine bodyPost_ret (v:=_) (acd rfl rfl) rfl ⟨_,rfl,⟨[],⟨_,_,rfl,Nat.le_refl _,by omega,rfl,.inl rfl⟩,rfl,fun k f z hf=>by simp at hf⟩,HW.out⟩
end Lm
namespace Lm
open Go Go.RowKit
open Dm (WFr)
structure Nr (K B T p q:Nat):Prop where
 lo:K<=p
 le:p<=q
 emp:p=q->p=K
 ins:p<q->B<=p/\q<=T
def Bl(w:World)(p q:Nat):Prop:=∀j,p<=j->j<q->∃cur,w.heap[j]? = some (.cells cur 68 (0,0))
theorem Fr.nr{B T K:Nat}{w:World}{ao:Option Addr}{cap:Nat}{rs:List Int}{x:Int}(h:Fr B T w ao cap rs x)(hK:K<=B):∃p q,Fr p q w ao cap rs x/\Nr K B T p q/\Bl w p q:=by
 obtain⟨ho,hc,hv,hl⟩:=h;obtain⟨e,h1,h2,h4⟩:=ho.sl';by_cases h0:0<cap
 ·rcases h4 with h4|⟨g,off,cur,rfl,hB,hh,h5,h6⟩
  ·omega
  ·have hg:=hl h0 g off rfl;refine⟨g,g+1,⟨?_,hc,hv,fun _ g' off' e'=>?_⟩,⟨by omega,by omega,fun _=>by omega,fun _=>by omega⟩,fun j h7 h8=>?_⟩
   ·obtain⟨ao',cap',hv',k1,k2,k3,k4⟩:=ho;obtain⟨rfl,_,rfl⟩:=(Value.slice.injEq .. ▸ hv');exact⟨_,_,rfl,k1,k2,k3,.inr ⟨g,off,cur,rfl,Nat.le_refl _,hh,h5,h6⟩⟩
   ·simp only[Option.some.injEq,Addr.mk.injEq,and_true]at e';omega
   ·obtain rfl:j=g:=by omega
    exact⟨cur,hh⟩
 ·exact⟨K,K,⟨ho.mono hK,hc,hv,fun h=>by omega⟩,⟨Nat.le_refl _,Nat.le_refl _,fun _=>rfl,fun h=>by omega⟩,fun j h7 h8=>by omega⟩
theorem WFr.nr{B T K:Nat}{w:World}{ng:Bool}{ao:Option Addr}{cap:Nat}{rs:List Int}{z:Int}(h:WFr B T w ng ao cap rs z)(hK:K<=B):∃p q,WFr p q w ng ao cap rs z/\Nr K B T p q/\Bl w p q:=by
 obtain⟨p,q,h1,h2,h3⟩:=h.fr.nr hK;exact⟨p,q,⟨h1,h.sgn⟩,h2,h3⟩
end Lm
namespace Lm
open Go Go.RowKit
open Dm (WFr)
theorem ntoldF(w:World)(z:Int)(v:Value)(L:Nat)(h:OutN z L v w)(hL:L<=1000000):
  Calls Tryz.prog 111 #[v] w fun e w'=>∃r,e=.returned r/\FrW w.heap.size z L r w'/\Below w.heap.size w w':=by
 obtain⟨ng,ao,cap,rs,rfl,W,l⟩:=h;refine(Dm.ay7 w _ _ _ _ _ W L (W.bound l) hL (by omega)).mono ?_;rintro e w' ⟨bo,dap,ls,rfl,F,l2,hb⟩;exact⟨_,rfl,⟨_,_,_,_,_,_,rfl,F,Nat.le_refl _,Nat.le_refl _,l2⟩,hb⟩
def BRow(w:World)(bv n k:Nat)(es:List WE)(B T:Nat->Nat)(K S:Nat):Prop:=
 es.length=n/\w.heap[bv]? = some (.cells (flat es).toArray 60 (0,0))/\(∀(j:Nat) (e:WE),k<=j->es[j]? = some e->∃z,WFr (B j) (T j) w e.ng e.a e.c e.zs z/\e.m=e.zs.length)/\(∀j,j<n->K<=B j/\T j<=S)/\∀j j':Nat,j<j'->j'<n->T j<=B j'
theorem ORow.brow{K:Nat}{w:World}{v:Value}{zs:List Int}{L:Nat}(h:ORow K w v zs L):∃bv es B T,v=.slice (some ⟨bv,0,none⟩) zs.length zs.length/\K<=bv/\bv<w.heap.size/\BRow w bv zs.length 0 es B T K w.heap.size:=by
 obtain⟨bv,rfl,hK,hp,_⟩:=h;have hlt:=hp.lt;obtain⟨es,B,T,h1,h2,_,h4,h5⟩:=hp;have hat:∀j,j<zs.length->∃e z,es[j]? = some e/\zs[j]? = some z:=fun j hj=>⟨_,_,List.getElem?_eq_getElem (by omega),List.getElem?_eq_getElem hj⟩
 refine⟨bv,es,B,T,rfl,hK,hlt,h1,h2,fun j e _ he=>?_,fun j hj=>?_,fun j j' hjj hj'=>h5 j j' hjj hj'⟩
 ·obtain⟨z,hz⟩:∃z,zs[j]? = some z:=⟨_,List.getElem?_eq_getElem (by have:=(List.getElem?_eq_some_iff.1 he).1;omega)⟩;obtain⟨g1,g2,_⟩:=h4 j e z (by have:=(List.getElem?_eq_some_iff.1 he).1;omega) he hz;exact⟨z,g1,g2⟩
 ·obtain⟨e,z,he,hz⟩:=hat j hj;obtain⟨_,_,_,g4,g5⟩:=h4 j e z hj he hz;exact⟨g4,g5⟩
theorem BRow.below{w w':World}{bv n k:Nat}{es:List WE}{B T:Nat->Nat}{K S:Nat}(h:BRow w bv n k es B T K S)(hb:Below w.heap.size w w'):BRow w' bv n k es B T K S:=by
 obtain⟨h1,h2,h3,h4,h5⟩:=h;exact⟨h1,(hb.block bv (aaa h2)).trans h2,fun j e hj he=>(by obtain⟨z,g1,g2⟩:=h3 j e hj he;exact⟨z,g1.ru (Ru.of_below hb),g2⟩),h4,h5⟩
end Lm
namespace Lm
open Go Go.RowKit
theorem ap5(n:Nat):∃m,IsLen (n:Int) m:=by
 have key:∀n:Nat,∃zs,Limb zs/\val zs=(n:Int):=by
  intro n;induction n using Nat.strongRecOn with
  |_ n ih=>
   by_cases h:n=0
   ·exact⟨[],aad,by simp[val,h]⟩
   ·obtain⟨zs,hl,hv⟩:=ih (n/4294967296) (Nat.div_lt_self (by omega) (by omega));refine⟨((n%4294967296:Nat):Int)::zs,fun z hz=>?_,?_⟩
    ·rcases List.mem_cons.1 hz with rfl|hz
     ·omega
     ·exact hl z hz
    ·simp only[val,hv];omega
 obtain⟨zs,hl,hv⟩:=key n;exact⟨_,_,aa4 hl,by rw[aal,hv],rfl⟩
theorem al8{x:Int}{m:Nat}(h:IsLen x m):(m<=32↔x<pw 32):=by
 obtain⟨rs,hc,hv,rfl⟩:=h;constructor
 ·intro hl;have h1:=(aac hc.1).2;have h2:=aaw hl;omega
 ·exact fun hx=>aay hc (by omega)
theorem a0b:p10 308<=pw 32:=by decide +kernel
theorem ax3(n:Nat):Dm.pw n=p10 (4*n):=by
 induction n with
 |zero=>rfl
 |succ n ih=>
  rw[Dm.pw,ih,show 4*(n+1)=4*n+1+1+1+1 from by omega];simp only[p10];omega
theorem nbigF(w:World)(z:Int)(v:Value)(L:Nat)(h:OutN z L v w)(hL:L<=1000000):
  Calls Tryz.prog 110 #[v] w fun e w'=>e=.returned (.bool (decide (¬(z.natAbs:Int)<pw 32)))/\Below w.heap.size w w':=by
 obtain⟨ng,ax,cx,xs,rfl,G,l⟩:=h;obtain⟨m,hm⟩:=ap5 z.natAbs;have HW:=hide G;have HM:=hide hm;have HD:Hid (decide (¬(z.natAbs:Int)<pw 32)=decide (32<m)):=decide_eq_decide.2 (by have:=al8 hm;omega);have hsl:xs.length<=77->m<=32:=by
  intro h;refine(al8 hm).2 ?_;have h1:=(Dm.aac G.1.2.1.1).2;rw[G.1.2.2]at h1;have h2:=at3 (m:=4*xs.length) (n:=308) (by omega);rw[ax3]at h1;have h3:=a0b;omega
 have HS:=hide hsl;rw[HD.out];clear hm G hsl;by_cases h77:77<xs.length
 ·have h77':(77:Int)<(xs.length:Int):=by omega
  generalize hxl:xs.length=n at *
  go_enter Tryz.func110,Tryz.ntmps110
  go_wp2_with fail
  have hb1:=hAl w (.cells #[.bool ng,.slice ax n cx] 83);have K:=ax0 (w.alloc (.cells #[.bool ng,.slice ax n cx] 83)) L ng ax cx xs z (HW.out.below hb1) (by omega) hL m HM.out;rw[hxl]at K;refine K.mono ?_;rintro e w2 ⟨v,rfl,hv,hb2⟩;obtain rfl:v=.int .i64 (m:Int):=hv;have hB:=hb1.trans (hb2.mono hb1.size);clear hb1 hb2 K;have hd:decide ((32:Int)<(m:Int))=decide (32<m):=by simp;omega
  go_wp2;all_goals go_ret
  all_goals (refine⟨?_,hB⟩;simp)
 ·have h77':decide ((77:Int)<(xs.length:Int))=false:=by simp;omega
  have hd:decide (32<m)=false:=by have:=HS.out (by omega);simp;omega
  rw[hd];generalize xs.length=n at *
  go_enter Tryz.func110,Tryz.ntmps110
  go_wp2;go_ret;exact⟨by rfl,by(repeat' first|with_reducible(first|exact Below.refl _ _|assumption|refine gdrewN ?_ _|refine Below.alloc ?_ ?_ _|refine Below.drew ?_|refine Below.setCell ?_ ?_ _)|go_size)⟩
theorem nlongrow(w:World)(v:Value)(zs:List Int)(L:Nat)(h:NRow w v zs L)(hL:L<=1000000):
  Calls Tryz.prog 86 #[v] w fun e w'=>e=.returned (.bool (decide (∃z∈zs,¬(z.natAbs:Int)<pw 32)))/\Below w.heap.size w w':=by
 obtain⟨ao,cap,rfl,hi⟩:=h.parts;obtain⟨n,hnn⟩:∃n,zs.length=n:=⟨_,rfl⟩;rw[hnn]at h hi ⊢;have H:=hide h;have HN:=hide hnn;clear h hnn;go_enter Tryz.func86,Tryz.ntmps86
 go_wp2_with fail
 go_loopw [3] (fun iv wr=>∃(k:Nat),iv=.int .i64 k/\k<=n/\(∀z∈zs.take k,(z.natAbs:Int)<pw 32)/\Below w.heap.size w wr) (fun iv _=>n-(intOf iv).toNat)
 case atStart=>exact⟨0,rfl,Nat.zero_le _,fun z hz=>by simp at hz,Below.refl _ _⟩
 case round=>
  obtain⟨k,rfl,hk,hall,hbw⟩:=hrel;have HW:=hide hbw;have HA:=hide hall;by_cases hlt:k<n
  ·have hlt':(k:Int)<(n:Int):=by omega
   obtain⟨z,hz⟩:∃z,zs[k]? = some z:=⟨_,List.getElem?_eq_getElem (by have:=HN.out;omega)⟩;obtain⟨b,off,ng,a,m,c,rfl,hbl,x0,x1,hxw⟩:=(H.out.below hbw).cell hz;have HZ:=hide hz;have K:=nbigF wr z _ L hxw hL;clear hbw hall hz hxw;by_cases hbig:(z.natAbs:Int)<pw 32
   ·rw[decide_eq_false (not_not_intro hbig)]at K;have K:=hide K;have HBG:=hide hbig;clear hbig;go_wp2_with fail
    refine K.out.mono ?_;rintro e w2 ⟨rfl,hb2⟩;have HB2:=hide (HW.out.trans (hb2.mono HW.out.size));clear hb2 K;go_wp2;go_roundw
    case rel=>
     refine⟨k+1,by go_num,by omega,fun y hy=>?_,HB2.out⟩;rw[List.take_add_one,HZ.out]at hy;rcases List.mem_append.1 hy with hy|hy
     ·exact HA.out y hy
     ·obtain rfl:y=z:=by simpa using hy
      exact HBG.out
    case measure=>simp[intOf];omega
   ·rw[decide_eq_true hbig]at K;have K:=hide K;have HE:Hid (decide (∃z∈zs,¬(z.natAbs:Int)<pw 32)=true):=decide_eq_true ⟨z,List.mem_of_getElem? HZ.out,hbig⟩;clear hbig;go_wp2_with fail
    refine K.out.mono ?_;rintro e w2 ⟨rfl,hb2⟩;have HB2:=hide (HW.out.trans (hb2.mono HW.out.size));clear hb2 K;go_wp2;refine bodyPost_ret (v:=_) (acd rfl rfl) rfl ⟨by rw[HE.out];rfl,HB2.out⟩
  ·have hlt':decide ((k:Int)<(n:Int))=false:=by simp;omega
   have HE:Hid (decide (∃z∈zs,¬(z.natAbs:Int)<pw 32)=false):=decide_eq_false (fun⟨z,hz,hb⟩=>hb (by have h:=HA.out;rw[List.take_of_length_le (by have:=HN.out;omega)]at h;exact h z hz));clear hbw hall;go_wp2;refine bodyPost_ret (v:=_) (acd rfl rfl) rfl ⟨by rw[HE.out];rfl,HW.out⟩
end Lm
end Go.Proofs.YtpccfkdcpjplgaaGreat
