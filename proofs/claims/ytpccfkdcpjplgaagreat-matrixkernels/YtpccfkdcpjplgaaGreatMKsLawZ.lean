/-
  The given statement on MatrixKernels, for every input: the call answers true, and each argument reads behind it as it read before. No condition beyond the statement's own. Beside it: Rows of rows copied as they lie, whatever their length; held against one another. The document's Read: rows that were handed in, as its own numbers. The document's Echelon and Rank. The document's In. Package matrix: told, Echelon: each row, and each number of it, in memory of its own, apart from all others. Lists of rows of one's own that are written, and what stays beside them. Package matrix: mirrored: slices.Clone and slices.Reverse of a row, turned of rows, slices.Reverse of rows. Package matrix: mirrored. Package matrix: across. Package matrix: Kernel. LenWholes and LenRows of rows of any length: what they answer is the length as an int. What MatrixForms and MatrixDual ask: rows that are told are short; Echelon of rows without a shape; a product of rows as one operation. Both sides of Echelon and Rank: what the program and the document answer of rows that lie alike. Both sides of Inside. The document's Null: what its rows are, as numbers; they span what makes 0 with all rows. A row of the document's fractions that is written; Zero, within. The document's Null. Both sides of Kernel. Rows in memory of their own are handed to the book. The law on Kernel: it answers as the document does, and in memory of its own.
-/
import Derived.Maps.AppendAt
import Derived.WalkKit
import Derived.WalkMore
import Derived.Test.YtpccfkdcpjplgaaGreatRows
import Derived.ProofKit
import Derived.OpenShut
import Derived.ShutString
import Derived.ChangeOld
import Derived.SizedLaws
import Derived.Test.YtpccfkdcpjplgaaGreatMKsLawZ5
set_option maxRecDepth 20000
set_option maxHeartbeats 40000000
namespace Go.Proofs.YtpccfkdcpjplgaaGreat
namespace Lm
open Go Go.RowKit
theorem azx(w:World)(ao:Option Addr)(n cap:Nat)(xs:List Int)(hx:Sl w (.slice ao n cap) xs)(hl:xs.length<=35184372088832):
  Calls Tryz.prog 80 #[.slice ao n cap] w fun e w'=>∃v,e=.returned v/\Ow w.heap.size w' v xs/\Below w.heap.size w w':=by
 obtain⟨rfl,h1,h2,h3⟩:=hx.parts;obtain⟨i0,hi,hz0,hz1,hz2⟩:=info_parts abt;by_cases h0:0<xs.length
 ·obtain⟨b,off,rfl,hc⟩:=hx.cells h0;have hcells:=ar4 hc;have H3:=hide h3;clear hc h3 hx;go_enter Tryz.func80,Tryz.ntmps80
  go_wp2_with (at_builtin;refine wpList_append_own _ rfl (.const (.slice none 0 0)) (.tmp 3) 27 rfl w.heap.size 68 i0 (.int .u32 0) 1 4 Tryz.underlying27 hi hz0 hz1 hz2 rfl (by decide) _ _ _ rfl (World.ownsRow_nil _ _ _ _) ⟨b,off,none⟩ xs.length cap (xs.map (Value.int .u32)) rfl (by simp) hcells (axl xs) (by unfold maxLen;omega) (by omega) (by simp) ?_)
  intro v' w1 hown hgrow _;have hb1:Below w.heap.size w w1:=(Below.refl w.heap.size w).grown hgrow (by simp) (by intro k hk;simp[Value.ownBlock]at hk);have how:=abo (zs:=xs) (by simpa using hown) H3.out;clear hown hgrow;go_wp2;go_ret;exact⟨_,rfl,how,hb1⟩
 ·have e:xs = []:=List.eq_nil_of_length_eq_zero (by omega);subst e;cases ao with
  |none=>
   go_enter Tryz.func80,Tryz.ntmps80
   go_wp2;go_ret;exact⟨_,rfl,⟨none,0,rfl,Nat.le_refl _,by simp[maxLen],aad,.inl rfl⟩,Below.refl _ _⟩
  |some ad=>
   go_enter Tryz.func80,Tryz.ntmps80
   go_wp2;go_ret;exact⟨_,rfl,⟨none,0,rfl,Nat.le_refl _,by simp[maxLen],aad,.inl rfl⟩,Below.refl _ _⟩
section
variable {dst:Option Tmp} {ty:TypeId} {pos:String} {after:Array Edge} {guard:Option (Nat×Bool)} {a:Act} {w:World} {ats:Array TypeId} {i j:Nat}
theorem ath{K:Nat}{ao:Option Addr}{n c:Nat}{zs:List Int}(h:a.eval (.tmp i)=.slice ao n c)(S:Sl w (.slice ao n c) zs)(hl:zs.length<=35184372088832)(hK:K<=w.heap.size):
  Does Tryz.prog {dst,op:=.call {callee:=.value (.func 80),args:=#[.tmp i],argTypes:=ats},type:=ty,pos,after,guard} a.eval w fun v w'=>Below w.heap.size w w'/\OwL K zs v w':=by
 refine aas apr _ (by simp only[List.map_toArray,List.map_cons,List.map_nil,h]) ((azx w _ _ _ zs S hl).mono ?_);rintro e w' ⟨v,rfl,ho,hb⟩;refine⟨_,rfl,hb,?_⟩;obtain⟨ao',cap',hv,_⟩:=id ho;exact⟨ao',cap',hv,ho.mono hK⟩
end
theorem ayh(w:World)(nx:Bool)(ax:Option Addr)(mx cx:Nat)(xs:List Int)(Tx:Sl w (.slice ax mx cx) xs)(hl:xs.length<=35184372088832):
  Calls Tryz.prog 40 #[.agg #[.bool nx,.slice ax mx cx]] w fun e w'=>∃v,e=.returned v/\OwW w.heap.size nx xs v w'/\Below w.heap.size w w':=by
 go_enter Tryz.func40,Tryz.ntmps40
 generalize hA:(Act.mk _ _)=aa;have hn:aa.tmps.size=9:=by rw[<-hA];rfl
 have hd:aa.defers = []:=by rw[<-hA]
 have f0:aa.eval (.tmp 0)=.agg #[.bool nx,.slice ax mx cx]:=by rw[<-hA];rfl
 clear hA;have HB:Below w.heap.size w w:=Below.refl _ _;refine wp_seq ?_;refine aaq [some 1,some 2] [(fun _ _=>True),(fun _ _=>True)] [⟨W2,some 0,0,1,.agg #[.bool nx,.slice ax mx cx],none,[]⟩,⟨W2,some 1,0,2,.agg #[.bool false,.slice none 0 0],none,[]⟩] [] (by kernel_rfl) hn rfl (by kernel_rfl) (by kernel_rfl) (by kernel_rfl) (by kernel_rfl) (by kernel_rfl) (by kernel_rfl) ⟨True.mono4,True.mono4,trivial⟩ (aa8 W2ok (aa8 W2ok aaz)) (IsOld.all (bx:=[⟨W2,some 0,0,1,.agg #[.bool nx,.slice ax mx cx],none,[]⟩,⟨W2,some 1,0,2,.agg #[.bool false,.slice none 0 0],none,[]⟩]) ⟨someNe,someNe,trivial⟩) (DisOld.all (bx:=[⟨W2,some 0,0,1,.agg #[.bool nx,.slice ax mx cx],none,[]⟩,⟨W2,some 1,0,2,.agg #[.bool false,.slice none 0 0],none,[]⟩]) ⟨someNe,someNe,trivial⟩) ?_ ?_
 ·exact⟨.alloc 0 _ rfl rfl (.inr ⟨_,rfl,aox,fun a_ hR=>(hR 0 rfl).trans f0⟩) rfl rfl rfl rfl rfl,
   .alloc 1 _ rfl rfl (.inl ⟨rfl,rfl⟩) rfl rfl rfl rfl rfl,
   trivial⟩
 intro a1 w1 gs1 hn1 hd1 hBt hr hR hP hX hU;replace hn:=hn1;replace hd:=hd1.trans hd;have ne1_2:gs1 0≠gs1 1:=hU 0 1 (by simp) (by simp) (by decide);have b1:BoxV W2 w1 (gs1 0) (.agg #[.bool nx,.slice ax mx cx]):=(hX 0 _ rfl).2.2.2;have f1:=(hX 0 _ rfl).1;have u1:w.heap.size<=gs1 0:=Nat.le_trans HB.size ((hX 0 _ rfl).2.2.1 (by simp));have b2:BoxV W2 w1 (gs1 1) (.agg #[.bool false,.slice none 0 0]):=(hX 1 _ rfl).2.2.2;have f2:=(hX 1 _ rfl).1;have u2:w.heap.size<=gs1 1:=Nat.le_trans HB.size ((hX 1 _ rfl).2.2.1 (by simp));replace Tx:=Tx.rl hr;replace HB:=HB.trans (hBt.below HB.size (UpOld.all (bx:=[⟨W2,some 0,0,1,.agg #[.bool nx,.slice ax mx cx],none,[]⟩,⟨W2,some 1,0,2,.agg #[.bool false,.slice none 0 0],none,[]⟩]) ⟨someNe,someNe,trivial⟩));clear hBt hr hR hP hX hU;refine wp_seq ?_;refine aaq [some 3,some 4,some 5,some 6,some 7,some 8,none] [Eqs (.pointer (some ⟨gs1 0,0,none⟩)),Eqs (.bool nx),Eqs (.pointer (some ⟨gs1 0,1,none⟩)),Eqs (.slice ax mx cx),OwL (w.heap.size) (xs),OwW (w.heap.size) (nx) (xs),(fun _ _=>True)] [⟨W2,none,(gs1 1),2,.agg #[.bool false,.slice none 0 0],some (6,8,5),[]⟩] [] (by kernel_rfl) hn rfl (by kernel_rfl) (by kernel_rfl) (by kernel_rfl) (by kernel_rfl) (by kernel_rfl) (by kernel_rfl) ⟨Eqs.mono4 _,Eqs.mono4 _,Eqs.mono4 _,Eqs.mono4 _,OwL.mono4 _ _,OwW.mono4 _ _ _,True.mono4,trivial⟩ (aa8 W2ok aaz) (IsOld.all (bx:=[⟨W2,none,(gs1 1),2,.agg #[.bool false,.slice none 0 0],some (6,8,5),[]⟩]) ⟨fun _=>⟨f2,b2⟩,trivial⟩) (DisOld.all (bx:=[⟨W2,none,(gs1 1),2,.agg #[.bool false,.slice none 0 0],some (6,8,5),[]⟩]) ⟨fun _=>trivial,trivial⟩) ?_ ?_
 ·exact⟨.norm 3 rfl rfl rfl (fun a_ w_ hn_ hBt hr hR hD hO hS=>agq ak4 ((hR 1 rfl).trans f1)),
   .norm 4 rfl rfl rfl (fun a_ w_ hn_ hBt hr hR hD hO hS=>ahl (show a_.eval (.tmp 3)=.pointer (some ⟨gs1 0,0,none⟩)from hD 0 rfl) (b1.keep hBt ⟨fun _=>ne1_2.symm,trivial⟩)),
   .norm 5 rfl rfl rfl (fun a_ w_ hn_ hBt hr hR hD hO hS=>agq ak5 ((hR 1 rfl).trans f1)),
   .norm 6 rfl rfl rfl (fun a_ w_ hn_ hBt hr hR hD hO hS=>ahm (show a_.eval (.tmp 5)=.pointer (some ⟨gs1 0,1,none⟩)from hD 2 rfl) (b1.keep hBt ⟨fun _=>ne1_2.symm,trivial⟩)),
   .norm 7 rfl rfl rfl (fun a_ w_ hn_ hBt hr hR hD hO hS=>ath (show a_.eval (.tmp 6)=.slice ax mx cx from hD 3 rfl) (Tx.rl hr) (by omega) (Nat.le_trans HB.size hr.size)),
   .norm 8 rfl rfl rfl (fun a_ w_ hn_ hBt hr hR hD hO hS=>azg (show a_.eval (.tmp 4)=.bool nx from hD 1 rfl) (show OwL (w.heap.size) (xs) (a_.eval (.tmp 7)) w_ from hD 4 rfl)),
   .store 0 _ _ _ rfl rfl rfl rfl rfl rfl rfl (fun ia h=>by cases h) rfl rfl rfl OwW.cs,
   trivial⟩
 intro a2 w2 gs2 hn2 hd2 hBt hr hR hP hX hU;replace hn:=hn2;replace hd:=hd2.trans hd;obtain⟨a_3,c_3,e8,O3⟩:OwW (w.heap.size) (nx) (xs) (a2.eval (.tmp 8)) w2:=hP 5 (by decide);have b2:BoxV W2 w2 ((gs1 1)) (.agg #[.bool nx,.slice a_3 xs.length c_3]):=acw ((hX 0 _ rfl).2.1 rfl) (hX 0 _ rfl).2.2.2 e8;replace f2:a2.eval (.tmp 2)=_:=(hR 2 rfl).trans f2;replace Tx:=Tx.rl hr;replace HB:=HB.trans (hBt.below HB.size (UpOld.all (bx:=[⟨W2,none,(gs1 1),2,.agg #[.bool false,.slice none 0 0],some (6,8,5),[]⟩]) ⟨fun _=>u2,trivial⟩));clear hBt hr hR hP hX hU;refine wp_ret ?_;repeat(first|refine ach ?_|refine acb ?_|refine aca ?_)
 exact bodyPost_ret (v:=.agg #[.bool nx,.slice a_3 xs.length c_3]) (acc rfl f2 (awa b2)) hd ⟨_,rfl,⟨_,_,rfl,O3⟩,HB⟩
section
variable {dst:Option Tmp} {ty:TypeId} {pos:String} {after:Array Edge} {guard:Option (Nat×Bool)} {a:Act} {w:World} {ats:Array TypeId} {i j:Nat}
theorem avo{B g:Nat}{v:Value}{es:List WE}{ng:Bool}{ao:Option Addr}{n c:Nat}{zs:List Int}(h1:a.eval (.tmp i)=v)(h2:a.eval (.tmp j)=.slice (some ⟨g,0,none⟩) 1 1)(R:RwO B w v es)(O:One w g ng ao n c)(S:Ow B w (.slice ao n c) zs)(hn:es.length<=4398046511103)(hB:B<=w.heap.size):
  Does Tryz.prog {dst,op:=.call {callee:=.builtin .append,args:=#[.tmp i,.tmp j],argTypes:=#[44,44]},type:=ty,pos,after,guard} a.eval w fun v' w'=>RwO B w' v' (es ++ [⟨ng,ao,n,c,zs⟩])/\Below B w w':=by
 obtain⟨i0,hi,hz0,hz1,hz2⟩:=info_parts infoW;have hfl:flat (es ++ [⟨ng,ao,n,c,zs⟩])=flat es ++ [.bool ng,.slice ao n c]:=by rw[ae3];rfl
 obtain⟨v',w',hr,ho,hgr,_⟩:=run_append_own (P:=Tryz.prog) w B 44 ty 60 i0 _ 2 32 Tryz.underlying44 hi hz0 hz1 hz2 rfl (by decide) v es.length (flat es) R.own ⟨g,0,none⟩ 1 1 [.bool ng,.slice ao n c] rfl (fun k u hu=>by
  have hc:∀k,w.cell? ⟨g,k,none⟩ = #[Value.bool ng,.slice ao n c][k]? :=fun k=>cell_of_row w g k _ _ (0,0) O
  have ha:(⟨g,0,none⟩:Addr).add k=⟨g,k,none⟩:=by unfold Addr.add;split <;> simp_all
  rw[ha,hc]
  simpa using hu) (by simp[Value.oneCell']) (by simp[maxLen];omega) (by omega) hB
 have e:(execOp a.eval {dst,op:=.call {callee:=.builtin .append,args:=#[.tmp i,.tmp j],argTypes:=#[44,44]},type:=ty,pos,after,guard}).run Tryz.prog w=.ok (.value v') w':=by
  simp only[execOp,resolve,invoke,builtin,Sem.run_bind,Sem.run_pure,Result.andThen_ok,List.map_toArray,List.map_cons,List.map_nil,h1,h2,hr]
 refine⟨?_⟩;unfold Turns;rw[e];have hrow:∃cur:Nat->Array Value,∀k,v.ownBlock=some k->w.heap[k]? = some (.cells (cur k) 60 (0,0)):=by
  rcases R.own.2 with⟨rfl,_⟩|⟨g',cap,cur,rfl,_,hh,_⟩
  ·exact⟨fun _=>#[],fun k hk=>by simp[Value.ownBlock]at hk⟩
  ·refine⟨fun _=>cur,fun k hk=>?_⟩;simp only[Value.ownBlock,Option.some.injEq]at hk;subst hk;exact hh
 obtain⟨cur,hcur⟩:=hrow;refine⟨⟨by rw[hfl,List.length_append];exact ho,fun e he=>?_⟩,⟨hgr.os,hgr.tape,hgr.output,hgr.size,fun k hk=>hgr.block k (by omega) (fun e=>?_)⟩⟩
 ·rcases List.mem_append.1 he with he|he
  ·exact(R.ow e he).grown hgr hcur
  ·obtain rfl:=List.mem_singleton.1 he;exact S.grown hgr hcur
 ·have:=R.own.lt k e.symm;omega
end
theorem ati(w:World)(ax:Option Addr)(mx cx:Nat)(xs:List WE)(R:Rw w (.slice ax mx cx) xs)(hl:xs.length<=4398046511103)(hm:∀e∈xs,e.m<=35184372088832):
  Calls Tryz.prog 21 #[.slice ax mx cx] w fun e w'=>∃v es,e=.returned v/\RwO w.heap.size w' v es/\SameR es xs/\Below w.heap.size w w':=by
 have HX:=hide R;have HNx:Hid (mx=xs.length):=R.parts.1;have HL:=hide hm;have hmx:mx<=4398046511103:=by have:=HNx.out;omega
 clear R hl hm;go_enter Tryz.func21,Tryz.ntmps21
 go_wp2_with fail
 go_loopw [3,4] (fun ov iv wr=>∃(k:Nat) (es:List WE),iv=.int .i64 k/\k<=mx/\Below w.heap.size w wr/\RwO w.heap.size wr ov es/\SameR es (xs.take k)) (fun _ iv _=>mx-(intOf iv).toNat)
 case atStart=>exact⟨0,[],rfl,Nat.zero_le _,Below.refl _ _,ajf _ _,rfl⟩
 case round=>
  obtain⟨k,es,rfl,hk,hbw,ho,hs⟩:=hrel;obtain⟨aov,capv,hov,_⟩:=Cl.own ho.own;subst hov;have HO:=hide ho;have HS:=hide hs;have HW:=hide hbw;by_cases hlt:k<mx
  ·have hlt':(k:Int)<(mx:Int):=by omega
   obtain⟨ex,hex⟩:∃e,xs[k]? = some e:=⟨_,List.getElem?_eq_getElem (by have:=HNx.out;omega)⟩;obtain⟨bx,ox,hAx,hlx0,hcx⟩:=HX.out.cells (by have:=HNx.out;omega);subst hAx;have hlx:bx<wr.heap.size:=Nat.lt_of_lt_of_le hlx0 hbw.size;have x0:=(hbw.cell (p:=⟨bx,ox+k*2,none⟩) hlx0).trans (hcx _ _ (aau hex).1);have x1:wr.cell? ⟨bx,ox+k*2+1,none⟩=some (.slice ex.a ex.m ex.c):=(hbw.cell (p:=⟨bx,ox+k*2+1,none⟩) hlx0).trans (hcx _ _ (aau hex).2);have hsl:=(HX.out.sl ex (List.mem_of_getElem? hex)).below hbw;have hem:=HL.out ex (List.mem_of_getElem? hex);have hes:es.length<=4398046511103:=by rw[hs.len,List.length_take];omega
   have K1:=hide (ayh wr ex.ng ex.a ex.m ex.c ex.zs hsl (by have:=hsl.parts.1;omega));have HEX:=hide hex;clear hbw ho hs hsl hem hex hcx hlx;go_wp2_with fail
   refine K1.out.mono ?_;rintro e w2 ⟨r2,rfl,⟨ao2,cap2,rfl,hw2⟩,hb2⟩;have hA:=hAl w2 (.cells #[.bool ex.ng,.slice ao2 ex.zs.length cap2] 60);have hb2':=hb2.trans (hA.mono hb2.size);have hR2:=HO.out.below hb2';have hO2:One _ w2.heap.size ex.ng ao2 ex.zs.length cap2:=heap_alloc_new w2 (.cells #[.bool ex.ng,.slice ao2 ex.zs.length cap2] 60);have hS2:Ow w.heap.size _ (.slice ao2 ex.zs.length cap2) ex.zs:=(hw2.mono HW.out.size).below hA;have hsz:w.heap.size<=(w2.alloc (.cells #[.bool ex.ng,.slice ao2 ex.zs.length cap2] 60)).heap.size:=Nat.le_trans HW.out.size hb2'.size;clear x0 x1 hlx0;go_wp2_with (at_builtin;refine abd rfl (avo (i:=11) (j:=17) rfl rfl hR2 hO2 hS2 hes hsz) ?_)
   intro v3 w3 hR3 hb3;obtain⟨aov3,capv3,hov3,_⟩:=Cl.own hR3.own;subst hov3;have HR3:=hide hR3;have HB3:=hide ((HW.out.trans (hb2'.mono HW.out.size)).trans hb3);clear hR3 hb3 hR2 hO2 hS2 hsz hA hb2 hb2' hw2;go_wp2;go_roundw
   case rel=>exact⟨k+1,_,by go_num,by omega,HB3.out,HR3.out,aps HS.out HEX.out rfl⟩
   case measure=>simp[intOf];omega
  ·have hlt':decide ((k:Int)<(mx:Int))=false:=by simp;omega
   have hkn:k=mx:=by omega
   subst hkn;clear hbw ho hs;go_wp2;refine bodyPost_ret (v:=_) (acd rfl rfl) rfl ⟨_,es,rfl,HO.out,(by have h:=HS.out;rwa[List.take_of_length_le (by have:=HNx.out;omega)]at h),HW.out⟩
def OtE(K:Nat)(w:World)(v:Value)(ess:List (List WE)):Prop:=∃vs:List Value,w.ownsRow K 44 1 v ess.length vs/\∀(i:Nat) (u:Value) (es:List WE),vs[i]? = some u->ess[i]? = some es->RwO K w u es
theorem OtE.below{K:Nat}{w w':World}{v:Value}{ess:List (List WE)}(h:OtE K w v ess)(hb:Below w.heap.size w w'):OtE K w' v ess:=by
 obtain⟨vs,h1,h2⟩:=h;exact⟨vs,ab3 h1 hb,fun i u z a b=>(h2 i u z a b).below hb⟩
theorem OtE.rwM{K:Nat}{w:World}{v:Value}{ess:List (List WE)}(h:OtE K w v ess):RwM w v ess:=by
 obtain⟨vs,h1,h2⟩:=h;exact⟨vs,Ce.own h1,fun i u z a b=>(h2 i u z a b).rw⟩
theorem ag5(K:Nat)(w:World):OtE K w (.slice none 0 0) []:=⟨[],World.ownsRow_nil _ _ _ _,fun i u z a=>(by simp at a)⟩
theorem OtE.low{K K':Nat}{w:World}{v:Value}{ess:List (List WE)}(h:OtE K w v ess)(hk:K'<=K):OtE K' w v ess:=by
 obtain⟨vs,h1,h2⟩:=h;exact⟨vs,af1 h1 hk,fun i u z a b=>(h2 i u z a b).low hk⟩
theorem OtE.shp{K:Nat}{w:World}{v:Value}{ess:List (List WE)}(h:OtE K w v ess):∃a c,v=.slice a ess.length c:=by
 obtain⟨vs,h1,_⟩:=h;obtain⟨a,c,e,_⟩:=abh h1;exact⟨a,c,e⟩
theorem OtE.app{K:Nat}{w w':World}{v v' u:Value}{ess:List (List WE)}{vs:List Value}{es:List WE}(hv:w.ownsRow K 44 1 v ess.length vs)(hr:∀(i:Nat) (u:Value) (z:List WE),vs[i]? = some u->ess[i]? = some z->RwO K w u z)(h1:RwO K w u es)(ho:w'.ownsRow K 44 1 v' (ess.length+1) (vs ++ [u]))(hg:w.grownBy w' v.ownBlock):OtE K w' v' (ess ++ [es]):=by
 have hvl:vs.length=ess.length:=by simpa using hv.1
 have hc:∃c:Nat->Array Value,∀k,v.ownBlock=some k->w.heap[k]? = some (.cells (c k) 44 (0,0)):=by
  rcases hv.2 with⟨rfl,_⟩|⟨g',cap,cur,rfl,_,hh,_⟩
  ·exact⟨fun _=>#[],fun k hk=>by simp[Value.ownBlock]at hk⟩
  ·refine⟨fun _=>cur,fun k hk=>?_⟩;simp only[Value.ownBlock,Option.some.injEq]at hk;subst hk;exact hh
 obtain⟨c,hc⟩:=hc;have kp:∀ {u:Value} {es:List WE},RwO K w u es->RwO K w' u es:=fun {u es} h=>by
  refine h.keep hg hc (by decide) (fun g hg1 hg2=>?_);obtain⟨c',hc'⟩:=h.row;exact aa5 (hc g hg1) (hc' g hg2) (by decide) rfl
 refine⟨vs ++ [u],by simpa using ho,fun i x y hx hy=>?_⟩;by_cases hi:i<ess.length
 ·rw[List.getElem?_append_left (by omega)]at hx hy;exact kp (hr i x y hx hy)
 ·rw[List.getElem?_append_right (by omega)]at hx hy;rw[hvl]at hx
  match hm:i-ess.length with
  |0=>
   rw[hm]at hx hy;simp at hx hy;subst hx hy;exact kp h1
  |m+1=>
   rw[hm]at hx;simp at hx
theorem infoSe:(Tryz.prog.info? 44).map (fun i=>(i.zero,i.size,i.bytes))=some (some (.slice none 0 0),1,24):=by kernel_rfl
section
variable {dst:Option Tmp} {ty:TypeId} {pos:String} {after:Array Edge} {guard:Option (Nat×Bool)} {a:Act} {w:World} {ats:Array TypeId} {i j:Nat}
theorem aoj{B g:Nat}{v u:Value}{ess:List (List WE)}{es:List WE}(h1:a.eval (.tmp i)=v)(h2:a.eval (.tmp j)=.slice (some ⟨g,0,none⟩) 1 1)(R:OtE B w v ess)(O:w.heap[g]? = some (.cells #[u] 44 (0,0)))(S:RwO B w u es)(hn:ess.length<=5864062014804)(hB:B<=w.heap.size):
  Does Tryz.prog {dst,op:=.call {callee:=.builtin .append,args:=#[.tmp i,.tmp j],argTypes:=#[22,22]},type:=ty,pos,after,guard} a.eval w fun v' w'=>OtE B w' v' (ess ++ [es])/\Below B w w':=by
 obtain⟨i0,hi,hz0,hz1,hz2⟩:=info_parts infoSe;obtain⟨vs,R1,R2⟩:=R;have hone:u.oneCell'=true:=by
  obtain⟨ao,c,rfl⟩:=S.rw.slc;rfl
 obtain⟨v',w',hr,ho,hgr,_⟩:=run_append_own (P:=Tryz.prog) w B 22 ty 44 i0 _ 1 24 Tryz.underlying22 hi hz0 hz1 hz2 rfl (by decide) v ess.length vs R1 ⟨g,0,none⟩ 1 1 [u] rfl (fun k x hx=>by
  have hc:∀k,w.cell? ⟨g,k,none⟩ = #[u][k]? :=fun k=>cell_of_row w g k _ _ (0,0) O
  have ha:(⟨g,0,none⟩:Addr).add k=⟨g,k,none⟩:=by unfold Addr.add;split <;> simp_all
  rw[ha,hc]
  simpa using hx) (by simpa using hone) (by simp[maxLen];omega) (by omega) hB
 have e:(execOp a.eval {dst,op:=.call {callee:=.builtin .append,args:=#[.tmp i,.tmp j],argTypes:=#[22,22]},type:=ty,pos,after,guard}).run Tryz.prog w=.ok (.value v') w':=by
  simp only[execOp,resolve,invoke,builtin,Sem.run_bind,Sem.run_pure,Result.andThen_ok,List.map_toArray,List.map_cons,List.map_nil,h1,h2,hr]
 refine⟨?_⟩;unfold Turns;rw[e];exact⟨OtE.app R1 R2 S ho hgr,(Below.refl _ _).grown hgr hB (fun k hk=>(R1.lt k hk).1)⟩
end
def SameM(ess ess':List (List WE)):Prop:=ess.length=ess'.length/\∀(i:Nat) (xs ys:List WE),ess[i]? = some xs->ess'[i]? = some ys->SameR xs ys
theorem aqe{es xs:List (List WE)}{k:Nat}{e f:List WE}(h:SameM es (xs.take k))(he:xs[k]? = some e)(hf:SameR f e):SameM (es ++ [f]) (xs.take (k+1)):=by
 have hk:=(List.getElem?_eq_some_iff.1 he).1;have hl:=h.1;rw[List.length_take]at hl;refine⟨by rw[List.length_append,List.length_take,hl];simp;omega,fun i a b ha hb=>?_⟩;rw[List.take_add_one,he]at hb;by_cases hi:i<k
 ·rw[List.getElem?_append_left (by omega)]at ha;rw[List.getElem?_append_left (by rw[List.length_take];omega)]at hb;exact h.2 i a b ha hb
 ·rw[List.getElem?_append_right (by omega)]at ha;rw[List.getElem?_append_right (by rw[List.length_take];omega)]at hb;rw[List.length_take]at hb;rw[show i-es.length=i-min k xs.length by rw[hl]]at ha
  match hm:i-min k xs.length with
  |0=>
   rw[hm]at ha hb;simp at ha hb;subst ha hb;exact hf
  |m+1=>
   rw[hm]at ha;simp at ha
theorem aqf(w:World)(v:Value)(ess:List (List WE))(h:RwM w v ess)(hl:ess.length<=5864062014804)(hr:∀es∈ess,es.length<=4398046511103/\∀e∈es,e.m<=35184372088832):
  Calls Tryz.prog 10 #[v] w fun e w'=>∃r fss,e=.returned r/\OtE w.heap.size w' r fss/\SameM fss ess/\Below w.heap.size w w':=by
 obtain⟨ao,cap,rfl,_⟩:=h.parts;have H:=hide h;have HR:=hide hr;clear h hr;obtain⟨n,hn⟩:∃n,ess.length=n:=⟨_,rfl⟩;rw[hn]at H hl ⊢;have HN:=hide hn;clear hn;go_enter Tryz.func10,Tryz.ntmps10
 go_wp2_with fail
 go_loopw [3,4] (fun ov iv wr=>∃(k:Nat) (fss:List (List WE)),iv=.int .i64 k/\k<=n/\Below w.heap.size w wr/\OtE w.heap.size wr ov fss/\SameM fss (ess.take k)) (fun _ iv _=>n-(intOf iv).toNat)
 case atStart=>exact⟨0,[],rfl,Nat.zero_le _,Below.refl _ _,ag5 _ _,rfl,fun i xs ys a=>(by simp at a)⟩
 case round=>
  obtain⟨k,fss,rfl,hk,hbw,hown,hsm⟩:=hrel;have HW:=hide hbw;have HOWN:=hide hown;have HSM:=hide hsm;obtain⟨aov,capv,hov⟩:=hown.shp;subst hov;have hfk:fss.length=k:=by rw[hsm.1,List.length_take];have:=HN.out;omega
  rw[hfk]at HOWN ⊢;by_cases hlt:k<n
  ·obtain⟨es,hz⟩:∃z,ess[k]? = some z:=⟨_,List.getElem?_eq_getElem (by have:=HN.out;omega)⟩;obtain⟨b,off,u,rfl,hbl,x0,hu⟩:=(H.out.below hbw).cell hz;obtain⟨ua,uc,rfl⟩:=hu.slc;have hre:=HR.out es (List.mem_of_getElem? hz);have K1:=hide (ati wr _ _ _ es hu hre.1 hre.2);have HZ:=hide hz;have hlt':(k:Int)<(n:Int):=by omega
   clear hbw hown hz hu hsm hre;go_wp2_with fail
   refine K1.out.mono ?_;rintro e w2 ⟨r2,fs,rfl,hR2,hS2,hb2⟩;obtain⟨a2,c2,rfl⟩:=hR2.rw.slc;have hA:=hAl w2 (.cells #[.slice a2 fs.length c2] 44);have hO:=heap_alloc_new w2 (.cells #[.slice a2 fs.length c2] 44);have hb2':=hb2.trans (hA.mono hb2.size);have hRm:=HOWN.out.below hb2';have hS:=(hR2.below hA).low HW.out.size;have hsz:w.heap.size<=(w2.alloc (.cells #[.slice a2 fs.length c2] 44)).heap.size:=Nat.le_trans HW.out.size hb2'.size;have hfl:fss.length<=5864062014804:=by omega
   have HS2:=hide hS2;go_wp2_with (at_builtin;refine abd rfl (aoj (i:=11) (j:=17) rfl rfl hRm hO hS hfl hsz) ?_)
   intro v3 w3 hR3 hb3;obtain⟨aov3,capv3,hov3⟩:=hR3.shp;subst hov3;have HR3:=hide hR3;have HB3:=hide ((HW.out.trans (hb2'.mono HW.out.size)).trans hb3);clear hR3 hb3 hR2 hO hRm hS hsz hA hb2 hb2' hfl hS2;go_wp2;go_roundw
   case rel=>exact⟨k+1,_,by go_num,by omega,HB3.out,HR3.out,aqe HSM.out HZ.out HS2.out⟩
   case measure=>simp[intOf];omega
  ·have hlt':decide ((k:Int)<(n:Int))=false:=by simp;omega
   have hkn:ess.take k=ess:=List.take_of_length_le (by have:=HN.out;omega);rw[hkn]at HSM hsm;clear hbw hown hsm;go_wp2;refine bodyPost_ret (v:=_) (by simp[results,Tryz.results10,go_sem];try rfl) rfl ⟨_,fss,rfl,HOWN.out,HSM.out,HW.out⟩
theorem atj{dst:Option Tmp}{ty:TypeId}{pos:String}{after:Array Edge}{guard:Option (Nat×Bool)}{a:Act}{w:World}{ats:Array TypeId}{i j m n c d:Nat}{ao bo:Option Addr}{xs ys:List WE}(h1:a.eval (.tmp i)=.slice ao m c)(h2:a.eval (.tmp j)=.slice bo n d)(c1:Rw w (.slice ao m c) xs)(c2:Rw w (.slice bo n d) ys)(hS:SameR xs ys):
  Does Tryz.prog {dst,op:=.call {callee:=.value (.func 31),args:=#[.tmp i,.tmp j],argTypes:=ats},type:=ty,pos,after,guard} a.eval w fun v' w'=>Below w.heap.size w w'/\Eqs (.bool true) v' w':=
 aas akh #[_,_] (by simp[h1,h2]) ((asp w _ _ _ _ c1 _ _ _ _ c2 hS).mono fun e w' ⟨he,hb⟩=>⟨_,he,hb,rfl⟩)
theorem aqg(w:World)(v v':Value)(ess ess':List (List WE))(h:RwM w v ess)(h':RwM w v' ess')(hS:SameM ess ess'):
  Calls Tryz.prog 14 #[v,v'] w fun e w'=>e=.returned (.bool true)/\Below w.heap.size w w':=by
 obtain⟨ax,cx0,rfl,hn1⟩:=h.parts;obtain⟨az,cz0,rfl,_⟩:=h'.parts;have HX:=hide h;have HZ:=hide h';have HSM:=hide hS;obtain⟨n,hn⟩:∃n,ess.length=n:=⟨_,rfl⟩;have hn':ess'.length=n:=hS.1.symm.trans hn;rw[hn]at HX hn1 ⊢;rw[hn']at HZ ⊢;have HN:=hide (And.intro hn hn');have hnn:((n:Int) != (n:Int))=false:=by simp
 clear h h' hn hn' hS;go_enter Tryz.func14,Tryz.ntmps14
 go_wp2_with fail
 go_loopw [5] (fun iv wr=>∃k:Nat,iv=.int .i64 k/\k<=n/\Below w.heap.size w wr) (fun iv _=>n-(intOf iv).toNat)
 case atStart=>exact⟨0,rfl,Nat.zero_le _,Below.refl _ _⟩
 case round=>
  obtain⟨k,rfl,hk,hbw⟩:=hrel;have HW:=hide hbw;by_cases hlt:k<n
  ·have hlt':(k:Int)<(n:Int):=by omega
   obtain⟨xs,hxs⟩:∃z,ess[k]? = some z:=⟨_,List.getElem?_eq_getElem (by have:=HN.out;omega)⟩;obtain⟨ys,hys⟩:∃z,ess'[k]? = some z:=⟨_,List.getElem?_eq_getElem (by have:=HN.out;omega)⟩;have hsr:=HSM.out.2 k xs ys hxs hys;obtain⟨bx,ox,ux,rfl,hlx0,x0,C1⟩:=HX.out.cell hxs;obtain⟨bz,oz,uz,rfl,hlz0,z0,C2⟩:=HZ.out.cell hys;obtain⟨ax,cx,rfl⟩:=C1.slc;obtain⟨az,cz,rfl⟩:=C2.slc;have hlx:bx<wr.heap.size:=Nat.lt_of_lt_of_le hlx0 hbw.size;have hlz:bz<wr.heap.size:=Nat.lt_of_lt_of_le hlz0 hbw.size;replace x0:=(hbw.cell (p:=⟨bx,ox+k,none⟩) hlx0).trans x0;replace z0:=(hbw.cell (p:=⟨bz,oz+k,none⟩) hlz0).trans z0;replace C1:=C1.below hbw;replace C2:=C2.below hbw;obtain⟨mx,hmx⟩:∃m,xs.length=m:=⟨_,rfl⟩;rw[hmx]at x0 C1;obtain⟨mz,hmz⟩:∃m,ys.length=m:=⟨_,rfl⟩;rw[hmz]at z0 C2;clear hbw hxs hys hmx hmz;go_upto_region 6 with fail
   go_cut [26] (fun cv wx=>cv=.bool false/\Below wr.heap.size wr wx)
   case first=>
    refine ai9 [17,18,19,20,21,22,23,24,25,26] [Eqs (.slice (some ⟨bx,ox,none⟩) n cx0),Eqs (.int .i64 (k:Int)),Eqs (.pointer (some ⟨bx,ox+k,none⟩)),Eqs (.slice ax mx cx),Eqs (.slice (some ⟨bz,oz,none⟩) n cz0),Eqs (.int .i64 (k:Int)),Eqs (.pointer (some ⟨bz,oz+k,none⟩)),Eqs (.slice az mz cz),Eqs (.bool true),Eqs (.bool false)] (by assumption) (by assumption) rfl (by decide) (by kernel_rfl) (by kernel_rfl) ⟨Eqs.mono _,Eqs.mono _,Eqs.mono _,Eqs.mono _,Eqs.mono _,Eqs.mono _,Eqs.mono _,Eqs.mono _,Eqs.mono _,Eqs.mono _,trivial⟩ ?_ ?_
    ·exact⟨⟨rfl,fun a_ w_ _ hB hR hD=>aai ((hR 0 rfl).trans (aab rfl))⟩,
      ⟨rfl,fun a_ w_ _ hB hR hD=>aai ((hR 5 rfl).trans (aab rfl))⟩,
      ⟨rfl,fun a_ w_ _ hB hR hD=>afa (show a_.eval (.tmp 17)=.slice (some ⟨bx,ox,none⟩) n cx0 from hD 0 rfl) rfl (show a_.eval (.tmp 18)=.int .i64 (k:Int)from hD 1 rfl) (by omega)⟩,
      ⟨rfl,fun a_ w_ _ hB hR hD=>ab7 (show a_.eval (.tmp 19)=.pointer (some ⟨bx,ox+k,none⟩)from hD 2 rfl) ((hB.cell (p:=⟨bx,ox+k,none⟩) hlx).trans x0)⟩,
      ⟨rfl,fun a_ w_ _ hB hR hD=>aai ((hR 1 rfl).trans (aab rfl))⟩,
      ⟨rfl,fun a_ w_ _ hB hR hD=>aai ((hR 5 rfl).trans (aab rfl))⟩,
      ⟨rfl,fun a_ w_ _ hB hR hD=>afa (show a_.eval (.tmp 21)=.slice (some ⟨bz,oz,none⟩) n cz0 from hD 4 rfl) rfl (show a_.eval (.tmp 22)=.int .i64 (k:Int)from hD 5 rfl) (by omega)⟩,
      ⟨rfl,fun a_ w_ _ hB hR hD=>ab7 (show a_.eval (.tmp 23)=.pointer (some ⟨bz,oz+k,none⟩)from hD 6 rfl) ((hB.cell (p:=⟨bz,oz+k,none⟩) hlz).trans z0)⟩,
      ⟨rfl,fun a_ w_ _ hB hR hD=>atj (show a_.eval (.tmp 20)=.slice ax mx cx from hD 3 rfl) (show a_.eval (.tmp 24)=.slice az mz cz from hD 7 rfl) (C1.below hB) (C2.below hB) hsr⟩,
      ⟨rfl,fun a_ w_ _ hB hR hD=>aic (show a_.eval (.tmp 25)=.bool true from hD 8 rfl)⟩,
      trivial⟩
    ·intro a' w' hn' hd' hB' hR' hP'
     (repeat apply Exists.intro)
     refine⟨?rel,agt hn' hd' hR' ?fit⟩
     case fit=>repeat' (first|exact trivial|refine⟨(by first|exact .inl ⟨rfl,rfl⟩|exact .inr rfl),?_⟩)
     case rel=>exact⟨(show _=_ from hP' 9 (by decide)),hB'⟩
   case rest=>
    obtain⟨hc26,hbx⟩:=hcut;subst hc26;have HB2:=hide (HW.out.trans (hbx.mono HW.out.size));clear hbx x0 z0 C1 C2;go_wp2;go_roundw
    case rel=>exact⟨k+1,by go_num,by omega,HB2.out⟩
    case measure=>simp[intOf];omega
  ·have hlt':decide ((k:Int)<(n:Int))=false:=by simp;omega
   clear hbw;go_wp2;refine bodyPost_ret (v:=_) (by simp[results,Tryz.results14,go_sem];try rfl) rfl ⟨rfl,HW.out⟩
set_option maxRecDepth 100000 in
theorem atk(w:World)(v:Value)(rows:List (List Int))(L:Nat)(h:IsM w v rows L)(hl:rows.length<=100000)(hr:∀r∈rows,r.length<=100000)(hL:L<=100000):
  Calls Tryz.prog 26 #[v] w fun e w'=>∃r vs,e=.returned r/\RmO w.heap.size w' r vs rows (3*L)/\Below w.heap.size w w':=by
 obtain⟨ao,cap,rfl,_⟩:=h.parts;have H:=hide h;have HR:=hide hr;clear h hr;obtain⟨n,hn⟩:∃n,rows.length=n:=⟨_,rfl⟩;rw[hn]at H hl ⊢;have HN:=hide hn;clear hn;go_enter Tryz.func26,Tryz.ntmps26
 go_wp2_with fail
 go_loopw [3,4] (fun ov iv wr=>∃(k:Nat) (vs:List Value),iv=.int .i64 k/\k<=n/\Below w.heap.size w wr/\RmO w.heap.size wr ov vs (rows.take k) (3*L)) (fun _ iv _=>n-(intOf iv).toNat)
 case atStart=>exact⟨0,[],rfl,Nat.zero_le _,Below.refl _ _,ajn _ _ _⟩
 case round=>
  obtain⟨k,vs,rfl,hk,hbw,hown⟩:=hrel;have HW:=hide hbw;have HOWN:=hide hown;obtain⟨aov,capv,hov,-⟩:=Ce.own hown.own;subst hov;by_cases hlt:k<n
  ·obtain⟨z,hz⟩:∃z,rows[k]? = some z:=⟨_,List.getElem?_eq_getElem (by have:=HN.out;omega)⟩;obtain⟨b,off,u,rfl,hbl,x0,hu⟩:=(H.out.below hbw).cell hz;have K1:=hide (au4 wr u z L hu (by have:=HR.out z (List.mem_of_getElem? hz);omega) hL);obtain⟨ua,uc,rfl,-⟩:=id hu.parts;have HZ:=hide hz;have hlt':(k:Int)<(n:Int):=by omega
   clear hbw hown hz hu;go_wp2_with fail
   refine K1.out.mono ?_;rintro e w2 ⟨r2,rfl,hR2,hb2⟩;obtain⟨a2,c2,rfl,-⟩:=id hR2.parts;have hA:=hAl w2 (.cells #[.slice a2 z.length c2] 76);have hO:=heap_alloc_new w2 (.cells #[.slice a2 z.length c2] 76);have hb2':=hb2.trans (hA.mono hb2.size);have hRm:=HOWN.out.below hb2';have hS:=hR2.below hA;have hsz:w.heap.size<=(w2.alloc (.cells #[.slice a2 z.length c2] 76)).heap.size:=Nat.le_trans HW.out.size hb2'.size;have hfl:vs.length<=1000000:=by rw[HOWN.out.len,List.length_take];omega
   go_wp2_with (at_builtin;refine abd rfl (ajo (i:=11) (j:=17) rfl rfl hRm hO hS hfl hsz) ?_)
   intro v3 w3 hR3 hb3;obtain⟨aov3,capv3,hov3,-⟩:=Ce.own hR3.own;subst hov3;have HR3:=hide hR3;have HB3:=hide ((HW.out.trans (hb2'.mono HW.out.size)).trans hb3);clear hR3 hb3 hR2 hO hRm hS hsz hA hb2 hb2' hfl;go_wp2;go_roundw
   case rel=>
    refine⟨k+1,vs ++ [.slice a2 z.length c2],by go_num,by omega,HB3.out,?_⟩;rw[List.take_add_one,HZ.out];exact HR3.out
   case measure=>simp[intOf];omega
  ·have hlt':decide ((k:Int)<(n:Int))=false:=by simp;omega
   have hkn:k=n:=by omega
   subst hkn;clear hbw hown;go_wp2;refine bodyPost_ret (v:=_) (acd rfl rfl) rfl ⟨_,vs,rfl,(by have h:=HOWN.out;rw[List.take_of_length_le (by have:=HN.out;omega)]at h;exact h),HW.out⟩
end Lm
namespace Lm
open Go Go.RowKit Md
theorem aiy(w:World)(v:Value)(rows:List (List Int))(L:Nat)(h:IsM w v rows L)(cols:Int):
  Calls Tryz.prog 24 #[v,.int .i64 cols] w fun e w'=>e=.returned (.bool (!decide (Shaped rows cols)))/\w'=w:=by
 obtain⟨ao,cp,rfl,hn⟩:=h.parts;have H:=hide h;obtain⟨n,hnn⟩:∃n,rows.length=n:=⟨_,rfl⟩;rw[hnn]at H hn ⊢;have HN:=hide hnn;clear h hnn;by_cases h1:cols<0
 ·have HE:Hid (decide (Shaped rows cols)=false):=decide_eq_false (fun h=>by have:=h.1;omega);go_enter Tryz.func24,Tryz.ntmps24
  go_wp2;refine bodyPost_ret (v:=_) (by simp[results,Tryz.results24,go_sem];try rfl) rfl ⟨by rw[HE.out];rfl,rfl⟩
 ·by_cases h2:cols > 32
  ·have h1':decide (cols<0)=false:=decide_eq_false h1;have HE:Hid (decide (Shaped rows cols)=false):=decide_eq_false (fun h=>by have:=h.2.1;omega);clear h1;go_enter Tryz.func24,Tryz.ntmps24
   go_wp2;refine bodyPost_ret (v:=_) (by simp[results,Tryz.results24,go_sem];try rfl) rfl ⟨by rw[HE.out];rfl,rfl⟩
  ·by_cases h3:(n:Int) > 64
   ·have h1':decide (cols<0)=false:=decide_eq_false h1;have h2':decide (cols > 32)=false:=decide_eq_false h2;have HE:Hid (decide (Shaped rows cols)=false):=decide_eq_false (fun h=>by have:=h.2.2.1;have:=HN.out;omega);clear h1 h2;go_enter Tryz.func24,Tryz.ntmps24
    go_wp2;refine bodyPost_ret (v:=_) (by simp[results,Tryz.results24,go_sem];try rfl) rfl ⟨by rw[HE.out];rfl,rfl⟩
   ·have h1':decide (cols<0)=false:=decide_eq_false h1;have h2':decide (cols > 32)=false:=decide_eq_false h2;have h3':decide ((n:Int) > 64)=false:=decide_eq_false h3;have HK:=hide (And.intro h1 (And.intro h2 h3));clear h1 h2 h3;go_enter Tryz.func24,Tryz.ntmps24
    go_wp2_with fail
    go_loopw [5] (fun iv wr=>∃k:Nat,iv=.int .i64 k/\k<=n/\(∀r∈rows.take k,(r.length:Int)=cols)/\wr=w) (fun iv _=>n-(intOf iv).toNat)
    case atStart=>exact⟨0,rfl,Nat.zero_le _,fun r hr=>(by simp at hr),rfl⟩
    case round=>
     obtain⟨k,rfl,hk,hall,rfl⟩:=hrel;have HA:=hide hall;clear hall h1' h2' h3';by_cases hlt:k<n
     ·have hlt':(k:Int)<(n:Int):=by omega
      obtain⟨r,hr⟩:∃r,rows[k]? = some r:=⟨_,List.getElem?_eq_getElem (by have:=HN.out;omega)⟩;obtain⟨b,off,u,rfl,hbl,x0,hx⟩:=H.out.cell hr;obtain⟨ua,uc,rfl,_⟩:=hx.parts;have HR:=hide hr;clear hr hx;by_cases he:(r.length:Int)=cols
      ·have hne:((r.length:Int) != cols)=false:=by simp[bne,he]
       have HEQ:=hide he;clear he;go_wp2;go_roundw
       case rel=>
        refine⟨k+1,by go_num,by omega,fun r' hr'=>?_,trivial⟩;rcases(aa7 HR.out).1 hr' with h|rfl
        ·exact HA.out r' h
        ·exact HEQ.out
       case measure=>simp[intOf];omega
      ·have hne:((r.length:Int) != cols)=true:=by simp[bne,he]
       have HE:Hid (decide (Shaped rows cols)=false):=decide_eq_false (fun h=>he (h.2.2.2 r (List.mem_of_getElem? HR.out)));clear he;go_wp2;refine bodyPost_ret (v:=_) (by simp[results,Tryz.results24,go_sem];try rfl) rfl ⟨by rw[HE.out];rfl,rfl⟩
     ·have hlt':decide ((k:Int)<(n:Int))=false:=by simp;omega
      have HE:Hid (decide (Shaped rows cols)=true):=decide_eq_true (by
       have h1:=HK.out;have h2:=HA.out;rw[List.take_of_length_le (by have:=HN.out;omega)]at h2
       exact⟨by omega,by omega,by have:=HN.out;omega,h2⟩)
      go_wp2;refine bodyPost_ret (v:=_) (by simp[results,Tryz.results24,go_sem];try rfl) rfl ⟨by rw[HE.out];rfl,rfl⟩
def CanE(es:List WE)(zs:List Int)(L:Nat):Prop:=es.length=zs.length/\∀(k:Nat) (e:WE) (z:Int),es[k]? = some e->zs[k]? = some z->Canon e.zs/\val e.zs=(z.natAbs:Int)/\e.ng=decide (z<0)/\e.zs.length<=L
def CanEM(ess:List (List WE))(rows:List (List Int))(L:Nat):Prop:=ess.length=rows.length/\∀(i:Nat) (es:List WE) (z:List Int),ess[i]? = some es->rows[i]? = some z->CanE es z L
theorem OtE.canM{K:Nat}{w:World}{v:Value}{ess:List (List WE)}{rows:List (List Int)}{L:Nat}(h:OtE K w v ess)(hc:CanEM ess rows L):CanM w v rows L:=by
 obtain⟨vs,h1,h2⟩:=h;refine⟨vs,by rw[<-hc.1];exact Ce.own h1,fun i u z a b=>?_⟩;obtain⟨es,he⟩:∃es,ess[i]? = some es:=⟨_,List.getElem?_eq_getElem (by have:=(List.getElem?_eq_some_iff.1 b).1;have:=hc.1;omega)⟩;obtain⟨c1,c2⟩:=hc.2 i es z he b;exact⟨es,(h2 i u es a he).rw,c1,c2⟩
theorem aqh(w:World)(v:Value)(zs:List Int)(L:Nat)(h:NRow w v zs L)(hl:zs.length<=100000)(hL:L<=1000000):
  Calls Tryz.prog 87 #[v] w fun e w'=>∃r es,e=.returned r/\RwO w.heap.size w' r es/\CanE es zs L/\Below w.heap.size w w':=by
 obtain⟨ao,cap,rfl,_⟩:=h.parts;have H:=hide h;clear h;obtain⟨n,hn⟩:∃n,zs.length=n:=⟨_,rfl⟩;rw[hn]at H hl ⊢;have HN:=hide hn;clear hn;go_enter Tryz.func87,Tryz.ntmps87
 go_wp2_with fail
 go_loopw [3,4] (fun ov iv wr=>∃(k:Nat) (es:List WE),iv=.int .i64 k/\k<=n/\Below w.heap.size w wr/\es.length=k/\RwO w.heap.size wr ov es/\∀(j:Nat) (e:WE) (z:Int),es[j]? = some e->zs[j]? = some z->Canon e.zs/\val e.zs=(z.natAbs:Int)/\e.ng=decide (z<0)/\e.zs.length<=L) (fun _ iv _=>n-(intOf iv).toNat)
 case atStart=>exact⟨0,[],rfl,Nat.zero_le _,Below.refl _ _,rfl,ajf _ _,fun j e z he=>(by simp at he)⟩
 case round=>
  obtain⟨k,es,rfl,hk,hbw,hes,hown,hall⟩:=hrel;have HW:=hide hbw;have HES:=hide hes;have HOWN:=hide hown;have HALL:=hide hall;obtain⟨aov,capv,hov,_⟩:=Cl.own hown.own;subst hov;by_cases hlt:k<n
  ·obtain⟨z,hz⟩:∃z,zs[k]? = some z:=⟨_,List.getElem?_eq_getElem (by have:=HN.out;omega)⟩;obtain⟨b,off,ng,a,m,c,rfl,hbl,x0,x1,hxw⟩:=(H.out.below hbw).cell hz;have HG:=hide hz;have K1:=hide (ntoldF wr z _ L hxw hL);have hlt':(k:Int)<(n:Int):=by omega
   clear hbw hown hz hxw hes hall;go_wp2_with fail
   refine K1.out.mono ?_;rintro e w2 ⟨r2,rfl,hf2,hb2⟩;obtain⟨ng2,ao2,cap2,rs2,B2,T2,rfl,hwf,hB2,hT2,hl2⟩:=hf2;have hA:=hAl w2 (.cells #[.bool ng2,.slice ao2 rs2.length cap2] 60);have hb2':=hb2.trans (hA.mono hb2.size);have hR2:=HOWN.out.below hb2';have hO2:One _ w2.heap.size ng2 ao2 rs2.length cap2:=heap_alloc_new w2 (.cells #[.bool ng2,.slice ao2 rs2.length cap2] 60);have hS2:Ow w.heap.size _ (.slice ao2 rs2.length cap2) rs2:=(hwf.fr.ow.mono (Nat.le_trans HW.out.size hB2)).below hA;have hsz:w.heap.size<=(w2.alloc (.cells #[.bool ng2,.slice ao2 rs2.length cap2] 60)).heap.size:=Nat.le_trans HW.out.size hb2'.size;go_wp2_with (at_builtin;refine abd rfl (ans (i:=11) (j:=17) rfl rfl hR2 hO2 hS2 (by rw[HES.out];omega) hsz) ?_)
   intro v3 w3 hR3 hb3;obtain⟨aov3,capv3,hov3,_⟩:=Cl.own hR3.own;subst hov3;have HR3:=hide hR3;have HB3:=hide ((HW.out.trans (hb2'.mono HW.out.size)).trans hb3);have HWF:=hide hwf;clear hR3 hb3 hR2 hO2 hS2 hsz hA hb2 hb2' hwf hB2 hT2;go_wp2;go_roundw
   case rel=>
    refine⟨k+1,es ++ [⟨ng2,ao2,rs2.length,cap2,rs2⟩],by go_num,by omega,HB3.out,by simp[HES.out],HR3.out,fun j e y he hy=>?_⟩;by_cases hj:j<es.length
    ·rw[List.getElem?_append_left hj]at he;exact HALL.out j e y he hy
    ·have hjl:=(List.getElem?_eq_some_iff.1 he).1;simp at hjl;obtain rfl:j=es.length:=by omega
     rw[List.getElem?_append_right (Nat.le_refl _)]at he;simp at he;subst he;rw[HES.out,HG.out]at hy;obtain rfl:=Option.some.inj hy;exact⟨HWF.out.fr.canon,HWF.out.fr.val,HWF.out.sgn,hl2⟩
   case measure=>simp[intOf];omega
  ·have hlt':decide ((k:Int)<(n:Int))=false:=by simp;omega
   have hkn:k=n:=by omega
   subst hkn;clear hbw hes hown hall;go_wp2;refine bodyPost_ret (v:=_) (acd rfl rfl) rfl ⟨_,es,rfl,HOWN.out,⟨by rw[HES.out,HN.out],HALL.out⟩,HW.out⟩
theorem nlongM(w:World)(v:Value)(rows:List (List Int))(L:Nat)(h:NM w v rows L)(hL:L<=1000000):
  Calls Tryz.prog 48 #[v] w fun e w'=>e=.returned (.bool (decide (∃r∈rows,r.any big=true)))/\Below w.heap.size w w':=by
 obtain⟨ao,cap,rfl,hi⟩:=h.parts;obtain⟨n,hnn⟩:∃n,rows.length=n:=⟨_,rfl⟩;rw[hnn]at h hi ⊢;have H:=hide h;have HN:=hide hnn;clear h hnn;go_enter Tryz.func48,Tryz.ntmps48
 go_wp2_with fail
 go_loopw [3] (fun iv wr=>∃(k:Nat),iv=.int .i64 k/\k<=n/\(∀r∈rows.take k,r.any big=false)/\Below w.heap.size w wr) (fun iv _=>n-(intOf iv).toNat)
 case atStart=>exact⟨0,rfl,Nat.zero_le _,fun z hz=>by simp at hz,Below.refl _ _⟩
 case round=>
  obtain⟨k,rfl,hk,hall,hbw⟩:=hrel;have HW:=hide hbw;have HA:=hide hall;by_cases hlt:k<n
  ·have hlt':(k:Int)<(n:Int):=by omega
   obtain⟨z,hz⟩:∃z,rows[k]? = some z:=⟨_,List.getElem?_eq_getElem (by have:=HN.out;omega)⟩;obtain⟨b,off,u,rfl,hbl,x0,hu⟩:=(H.out.below hbw).cell hz;have HZ:=hide hz;have K:=nlongrow wr u z L hu hL;obtain⟨ua,uc,rfl,-⟩:=id hu.parts;clear hbw hall hz hu;have hbe:decide (∃x∈z,¬(x.natAbs:Int)<pw 32)=z.any big:=by
    rw[Bool.eq_iff_iff,decide_eq_true_iff,List.any_eq_true];constructor
    ·rintro ⟨x,hx,hn⟩;exact⟨x,hx,by unfold big;simpa using hn⟩
    ·rintro ⟨x,hx,hn⟩;exact⟨x,hx,by unfold big at hn;simpa using hn⟩
   rw[hbe]at K;clear hbe;cases hbig:z.any big with
   |false=>
    rw[hbig]at K;have K:=hide K;have HBG:=hide hbig;clear hbig;go_wp2_with fail
    refine K.out.mono ?_;rintro e w2 ⟨rfl,hb2⟩;have HB2:=hide (HW.out.trans (hb2.mono HW.out.size));clear hb2 K;go_wp2;go_roundw
    case rel=>
     refine⟨k+1,by go_num,by omega,fun y hy=>?_,HB2.out⟩;rcases(aa7 HZ.out).1 hy with h|rfl
     ·exact HA.out y h
     ·exact HBG.out
    case measure=>simp[intOf];omega
   |true=>
    rw[hbig]at K;have K:=hide K;have HE:Hid (decide (∃r∈rows,r.any big=true)=true):=decide_eq_true ⟨z,List.mem_of_getElem? HZ.out,hbig⟩;clear hbig;go_wp2_with fail
    refine K.out.mono ?_;rintro e w2 ⟨rfl,hb2⟩;have HB2:=hide (HW.out.trans (hb2.mono HW.out.size));clear hb2 K;go_wp2;refine bodyPost_ret (v:=_) (by simp[results,Tryz.results48,go_sem];try rfl) rfl ⟨by rw[HE.out],HB2.out⟩
  ·have hlt':decide ((k:Int)<(n:Int))=false:=by simp;omega
   have hkn:rows.take k=rows:=List.take_of_length_le (by have:=HN.out;omega);have HE:Hid (decide (∃r∈rows,r.any big=true)=false):=decide_eq_false (by
    rintro ⟨r,hr,hb⟩;have h1:=HA.out;rw[hkn]at h1;rw[h1 r hr]at hb
    cases hb)
   clear hbw hall;go_wp2;refine bodyPost_ret (v:=_) (by simp[results,Tryz.results48,go_sem];try rfl) rfl ⟨by rw[HE.out],HW.out⟩
theorem aqi{ess:List (List WE)}{rows:List (List Int)}{k:Nat}{es:List WE}{z:List Int}{L:Nat}(h:CanEM ess (rows.take k) L)(hz:rows[k]? = some z)(hc:CanE es z L):CanEM (ess ++ [es]) (rows.take (k+1)) L:=by
 have hk:=(List.getElem?_eq_some_iff.1 hz).1;have hl:=h.1;rw[List.length_take]at hl;refine⟨by rw[List.length_append,List.length_take,hl];simp;omega,fun i a b ha hb=>?_⟩;rw[List.take_add_one,hz]at hb;by_cases hi:i<k
 ·rw[List.getElem?_append_left (by omega)]at ha;rw[List.getElem?_append_left (by rw[List.length_take];omega)]at hb;exact h.2 i a b ha hb
 ·rw[List.getElem?_append_right (by omega)]at ha;rw[List.getElem?_append_right (by rw[List.length_take];omega)]at hb;rw[List.length_take]at hb;rw[show i-ess.length=i-min k rows.length by rw[hl]]at ha
  match hm:i-min k rows.length with
  |0=>
   rw[hm]at ha hb;simp at ha hb;subst ha hb;exact hc
  |m+1=>
   rw[hm]at ha;simp at ha
theorem ntoldM(w:World)(v:Value)(rows:List (List Int))(L:Nat)(h:NM w v rows L)(hl:rows.length<=100000)(hr:∀r∈rows,r.length<=100000)(hL:L<=1000000):
  Calls Tryz.prog 49 #[v] w fun e w'=>∃r ess,e=.returned r/\OtE w.heap.size w' r ess/\CanEM ess rows L/\Below w.heap.size w w':=by
 obtain⟨ao,cap,rfl,_⟩:=h.parts;have H:=hide h;have HR:=hide hr;clear h hr;obtain⟨n,hn⟩:∃n,rows.length=n:=⟨_,rfl⟩;rw[hn]at H hl ⊢;have HN:=hide hn;clear hn;go_enter Tryz.func49,Tryz.ntmps49
 go_wp2_with fail
 go_loopw [3,4] (fun ov iv wr=>∃(k:Nat) (ess:List (List WE)),iv=.int .i64 k/\k<=n/\Below w.heap.size w wr/\OtE w.heap.size wr ov ess/\CanEM ess (rows.take k) L) (fun _ iv _=>n-(intOf iv).toNat)
 case atStart=>exact⟨0,[],rfl,Nat.zero_le _,Below.refl _ _,ag5 _ _,rfl,fun i xs ys a=>(by simp at a)⟩
 case round=>
  obtain⟨k,fss,rfl,hk,hbw,hown,hsm⟩:=hrel;have HW:=hide hbw;have HOWN:=hide hown;have HSM:=hide hsm;obtain⟨aov,capv,hov⟩:=hown.shp;subst hov;have hfk:fss.length=k:=by rw[hsm.1,List.length_take];have:=HN.out;omega
  rw[hfk]at HOWN ⊢;by_cases hlt:k<n
  ·obtain⟨z,hz⟩:∃z,rows[k]? = some z:=⟨_,List.getElem?_eq_getElem (by have:=HN.out;omega)⟩;obtain⟨b,off,u,rfl,hbl,x0,hu⟩:=(H.out.below hbw).cell hz;have hre:=HR.out z (List.mem_of_getElem? hz);have K1:=hide (aqh wr u z L hu hre hL);obtain⟨ua,uc,rfl,-⟩:=id hu.parts;have HZ:=hide hz;have hlt':(k:Int)<(n:Int):=by omega
   clear hbw hown hz hu hsm hre;go_wp2_with fail
   refine K1.out.mono ?_;rintro e w2 ⟨r2,fs,rfl,hR2,hS2,hb2⟩;obtain⟨a2,c2,rfl⟩:=hR2.rw.slc;have hA:=hAl w2 (.cells #[.slice a2 fs.length c2] 44);have hO:=heap_alloc_new w2 (.cells #[.slice a2 fs.length c2] 44);have hb2':=hb2.trans (hA.mono hb2.size);have hRm:=HOWN.out.below hb2';have hS:=(hR2.below hA).low HW.out.size;have hsz:w.heap.size<=(w2.alloc (.cells #[.slice a2 fs.length c2] 44)).heap.size:=Nat.le_trans HW.out.size hb2'.size;have hfl:fss.length<=5864062014804:=by omega
   have HS2:=hide hS2;go_wp2_with (at_builtin;refine abd rfl (aoj (i:=11) (j:=17) rfl rfl hRm hO hS hfl hsz) ?_)
   intro v3 w3 hR3 hb3;obtain⟨aov3,capv3,hov3⟩:=hR3.shp;subst hov3;have HR3:=hide hR3;have HB3:=hide ((HW.out.trans (hb2'.mono HW.out.size)).trans hb3);clear hR3 hb3 hR2 hO hRm hS hsz hA hb2 hb2' hfl hS2;go_wp2;go_roundw
   case rel=>exact⟨k+1,_,by go_num,by omega,HB3.out,HR3.out,aqi HSM.out HZ.out HS2.out⟩
   case measure=>simp[intOf];omega
  ·have hlt':decide ((k:Int)<(n:Int))=false:=by simp;omega
   have hkn:rows.take k=rows:=List.take_of_length_le (by have:=HN.out;omega);rw[hkn]at HSM hsm;clear hbw hown hsm;go_wp2;refine bodyPost_ret (v:=_) (by simp[results,Tryz.results49,go_sem];try rfl) rfl ⟨_,fss,rfl,HOWN.out,HSM.out,HW.out⟩
def ToldS(K:Nat)(rows:List (List Int))(L:Nat)(e:Ending)(w':World):Prop:=((∃r∈rows,r.any big=true)/\e=.returned (.tuple #[.slice none 0 0,.int .i64 2]))\/((∀r∈rows,r.any big=false)/\∃rv ess,e=.returned (.tuple #[rv,.int .i64 0])/\OtE K w' rv ess/\CanEM ess rows L)
theorem atl(w:World)(v:Value)(rows:List (List Int))(L:Nat)(h:NM w v rows L)(hl:rows.length<=100000)(hr:∀r∈rows,r.length<=100000)(hL:L<=1000000):
  Calls Tryz.prog 27 #[v] w fun e w'=>ToldS w.heap.size rows L e w'/\Below w.heap.size w w':=by
 have K1:=nlongM w v rows L h hL;have K2:Hid (∀w1,Below w.heap.size w w1->_):=(fun w1 hb=>ntoldM w1 v rows L (h.below hb) hl hr hL);obtain⟨ao,cap,rfl,_⟩:=h.parts;clear h hr;by_cases hb:∃r∈rows,r.any big=true
 ·rw[decide_eq_true hb]at K1;have K1:=hide K1;have HX:=hide hb;clear hb;go_enter Tryz.func27,Tryz.ntmps27
  go_wp2_with fail
  refine K1.out.mono ?_;rintro e w1 ⟨rfl,hb1⟩;have HB1:=hide hb1;clear hb1 K1;go_wp2;refine bodyPost_ret (v:=_) (by simp[results,Tryz.results27,go_sem];try rfl) rfl ⟨.inl ⟨HX.out,rfl⟩,HB1.out⟩
 ·rw[decide_eq_false hb]at K1;have K1:=hide K1;have HX:Hid (∀r∈rows,r.any big=false):=(fun r hr=>by
   cases h:r.any big with
   |false=>rfl
   |true=>exact absurd ⟨r,hr,h⟩ hb)
  clear hb;go_enter Tryz.func27,Tryz.ntmps27
  go_wp2_with fail
  refine K1.out.mono ?_;rintro e w1 ⟨rfl,hb1⟩;have K3:=hide (K2.out w1 hb1);have HB1:=hide hb1;clear hb1 K1 K2;go_wp2_with fail
  refine K3.out.mono ?_;rintro e w2 ⟨r,ess,rfl,hO,hC,hb2⟩;obtain⟨ra,rc,rfl⟩:=hO.shp;have HO:=hide (hO.low HB1.out.size);have HC:=hide hC;have HB2:=hide (HB1.out.trans (hb2.mono HB1.out.size));clear hO hC hb2 K3;go_wp2;refine bodyPost_ret (v:=_) (by simp[results,Tryz.results27,go_sem];try rfl) rfl ⟨.inr ⟨HX.out,_,ess,rfl,HO.out,HC.out⟩,HB2.out⟩
structure Bnd (rows:List (List Int)) (S:Nat) (B:Md.Rw->Nat):Prop where
 big:∀r∈rows,∀k,((fnR r k).natAbs:Int)<pw (B (fnR r))
 sum:sumB B (rows.map fnR)<=S
 all:∀r∈rows,∀z∈r,(z.natAbs:Int)<pw (S+1)
theorem RdI.rows{n:Nat}{rows m:List (List Int)}{R X:List Md.Rw}{Q:List Nat}(h:RdI n rows n m R Q X):Q.length<=n/\∀r∈m.take Q.length,r.length=n:=by
 refine⟨ag3 h.gat.desc h.gat.lt,fun r hr=>?_⟩;have hm:=List.mem_of_mem_take hr;rw[h.hm]at hm;rcases List.mem_append.1 hm with hm|hm
 ·unfold elR at hm;obtain⟨p,_,rfl⟩:=List.mem_map.1 hm;unfold red;rw[List.length_map,aao]
 ·obtain⟨x,_,rfl⟩:=List.mem_map.1 hm;unfold red;rw[List.length_map,aao]
end Lm
namespace Lm
open Go Go.RowKit Md
section
variable {dst:Option Tmp} {ty:TypeId} {pos:String} {after:Array Edge} {guard:Option (Nat×Bool)} {a:Act} {w:World} {i j:Nat}
theorem amk{b off n c q:Nat}(h:a.eval (.tmp i)=.slice (some ⟨b,off,none⟩) n c)(hk:a.eval (.tmp j)=.int .i64 (q:Int))(hl:q<n):Does Tryz.prog {dst,op:=.indexAddr 53 (.tmp i) (.tmp j),type:=ty,pos,after,guard} a.eval w fun v' w'=>Below w.heap.size w w'/\Eqs (.pointer (some ⟨b,off+q,none⟩)) v' w':=by
 have hl':(q:Int)<(n:Int):=by omega
 refine⟨?_⟩;unfold Turns;simp only[execOp,h,hk];go_simp;exact⟨Below.refl _ _,by simp[Eqs]⟩
end
theorem NRow.wide3{w:World}{v:Value}{zs:List Int}{L M:Nat}(h:NRow w v zs L)(hl:L<=M):NRow w v zs M:=by
 obtain⟨fs,h1,h2,h3⟩:=h;refine⟨fs,h1,h2,fun k f z hf hk=>?_⟩;obtain⟨ng,ao,cap,rs,e,W,l⟩:=h3 k f z hf hk;exact⟨ng,ao,cap,rs,e,W,by omega⟩
theorem OutN.wide3{z:Int}{L M:Nat}{v:Value}{w:World}(h:OutN z L v w)(hl:L<=M):OutN z M v w:=by
 obtain⟨ng,ao,cap,rs,e,W,l⟩:=h;exact⟨ng,ao,cap,rs,e,W,by omega⟩
theorem Iv.at{B:Nat}{w:World}{ao:Option Addr}{n cap:Nat}{xs:List Int}{i:Nat}{x:Int}(h:Iv B w (.slice ao n cap) xs)(hx:xs[i]? = some x):n=xs.length/\∃g,ao=some ⟨g,0,none⟩/\g<w.heap.size/\w.cell? ⟨g,i,none⟩=some (.int .i64 x):=by
 obtain⟨hl,⟨h1,h2⟩|⟨g,c,cur,hv,hb,hh,h1,h2,h3,h4⟩⟩:=h.own
 ·have:=(List.getElem?_eq_some_iff.1 hx).1;omega
 ·injection hv with e1 e2 e3;refine⟨e2,g,e1,aaa hh,?_⟩;rw[cell_of_row _ _ _ _ _ (0,0) hh];have hu:(xs.map (Value.int .i64))[i]? = some (.int .i64 x):=by rw[List.getElem?_map,hx];rfl
  rw[<-h4,List.getElem?_take]at hu;split at hu
  ·simpa using hu
  ·cases hu
end Lm
namespace Lm
open Go Go.RowKit Md
def RwI(w:World)(u:Value)(z:List Int)(lo hi:Nat):Prop:=∃bv es B T,u=.slice (some ⟨bv,0,none⟩) z.length z.length/\lo<=bv/\bv<hi/\BRow w bv z.length 0 es B T lo hi
theorem ORow.rwi{K:Nat}{w:World}{v:Value}{zs:List Int}{L:Nat}(h:ORow K w v zs L):RwI w v zs K w.heap.size:=by
 obtain⟨bv,es,B,T,h1,h2,h3,h4⟩:=h.brow;exact⟨bv,es,B,T,h1,h2,h3,h4⟩
theorem RwI.below{w w':World}{u:Value}{z:List Int}{lo hi:Nat}(h:RwI w u z lo hi)(hb:Below w.heap.size w w'):RwI w' u z lo hi:=by
 obtain⟨bv,es,B,T,h1,h2,h3,h4⟩:=h;exact⟨bv,es,B,T,h1,h2,h3,h4.below hb⟩
theorem RwI.kp{w w':World}{u:Value}{z:List Int}{lo hi p:Nat}{bs:List Nat}(h:RwI w u z lo hi)(k:Kp w w' p bs)(hp:p<lo\/hi<=p)(hb:∀j∈bs,j<lo\/hi<=j):RwI w' u z lo hi:=by
 obtain⟨bv,es,B,T,h1,h2,h3,g1,g2,g3,g4,g5⟩:=h;refine⟨bv,es,B,T,h1,h2,h3,g1,(k.other bv (aaa g2) (by omega) (fun hj=>by have:=hb bv hj;omega)).trans g2,fun j e hj he=>?_,g4,g5⟩;obtain⟨z,f1,f2⟩:=g3 j e hj he;have hjl:=(List.getElem?_eq_some_iff.1 he).1;have h4:=g4 j (by omega);exact⟨z,f1.kp k (by omega) (fun i hi=>by have:=hb i hi;omega),f2⟩
structure OwA (K:Nat) (w:World) (rv:Value) (rows:List (List Int)) (L:Nat) (vs:List Value) (lo hi:Nat->Nat):Prop where
 own:w.ownsRow K 44 1 rv rows.length vs
 row:∀(i:Nat) (u:Value) (z:List Int),vs[i]? = some u->rows[i]? = some z->ORow K w u z L/\RwI w u z (lo i) (hi i)
 low:∀i,i<rows.length->K<=lo i/\hi i<=w.heap.size
 apart:∀i j,i<j->j<rows.length->hi i<=lo j
 blk:∀i g,i<rows.length->rv.ownBlock=some g->g<lo i\/hi i<=g
theorem OwA.m{K:Nat}{w:World}{rv:Value}{rows:List (List Int)}{L:Nat}{vs:List Value}{lo hi:Nat->Nat}(h:OwA K w rv rows L vs lo hi):OwM K w rv rows L:=⟨vs,h.own,fun i u z a b=>(h.row i u z a b).1⟩
theorem OwA.below{K:Nat}{w w':World}{rv:Value}{rows:List (List Int)}{L:Nat}{vs:List Value}{lo hi:Nat->Nat}(h:OwA K w rv rows L vs lo hi)(hb:Below w.heap.size w w'):OwA K w' rv rows L vs lo hi:=
 ⟨ab3 h.own hb,fun i u z a b=>⟨(h.row i u z a b).1.below hb,(h.row i u z a b).2.below hb⟩,fun i hi=>⟨(h.low i hi).1,Nat.le_trans (h.low i hi).2 hb.size⟩,h.apart,h.blk⟩
theorem OwA.lowK{K K':Nat}{w:World}{rv:Value}{rows:List (List Int)}{L:Nat}{vs:List Value}{lo hi:Nat->Nat}(h:OwA K w rv rows L vs lo hi)(hk:K'<=K):OwA K' w rv rows L vs lo hi:=
 ⟨af1 h.own hk,fun i u z a b=>⟨(h.row i u z a b).1.low hk,(h.row i u z a b).2⟩,fun i hi=>⟨Nat.le_trans hk (h.low i hi).1,(h.low i hi).2⟩,h.apart,h.blk⟩
theorem ajs(K:Nat)(w:World)(L:Nat):OwA K w (.slice none 0 0) [] L [] (fun _=>0) (fun _=>0):=
 ⟨World.ownsRow_nil _ _ _ _,fun i u z hu=>(by simp at hu),fun i hi=>absurd hi (by simp),fun i j _ hj=>absurd hj (by simp),fun i g hi=>absurd hi (by simp)⟩
theorem avp{w w':World}{v:Value}(hg:w.grownBy w' v.ownBlock):∃bs:List Nat,Kp w w' w.heap.size bs/\∀j∈bs,v.ownBlock=some j:=by
 cases hv:v.ownBlock with
 |none=>exact⟨[],⟨hg.os,hg.tape,hg.output,hg.size,fun k hk _ _=>hg.block k hk (by rw[hv];simp)⟩,fun j hj=>(by cases hj)⟩
 |some g=>exact⟨[g],⟨hg.os,hg.tape,hg.output,hg.size,fun k hk _ hn=>hg.block k hk (by rw[hv];intro e;injection e with e;exact hn (by simp[e]))⟩,fun j hj=>(by simp at hj;rw[hj])⟩
theorem OwA.app{K k:Nat}{w w':World}{v v' u:Value}{rows:List (List Int)}{vs:List Value}{lo hi:Nat->Nat}{z:List Int}{L s S:Nat}(hA:OwA K w v rows L vs lo hi)(hll:rows.length=k)(hu:ORow K w u z L)(hr:RwI w u z s S)(hKs:K<=s)(hs:∀i,i<k->hi i<=s)(hgs:∀g,v.ownBlock=some g->g<s)(hS:S<=w.heap.size)(ho:w'.ownsRow K 44 1 v' (k+1) (vs ++ [u]))(hg:w.grownBy w' v.ownBlock)(hat:v'.ownBlock=v.ownBlock\/v'.ownBlock=some w.heap.size):∃lo' hi',OwA K w' v' (rows ++ [z]) L (vs ++ [u]) lo' hi':=by
 subst hll;have hvl:vs.length=rows.length:=by simpa using hA.own.1
 obtain⟨bs,hk,hbs⟩:=avp hg;have hsS:s<=S:=by obtain⟨bv,_,_,_,_,a,b,_⟩:=hr;omega
 refine⟨fun i=>if i=rows.length then s else lo i,fun i=>if i=rows.length then S else hi i,by simpa using ho,fun i x y hx hy=>?_,fun i hi1=>?_,fun i j hij hj=>?_,fun i g hi1 hgv=>?_⟩
 ·by_cases h1:i<rows.length
  ·rw[List.getElem?_append_left (by omega)]at hx hy;obtain⟨a1,a2⟩:=hA.row i x y hx hy;have hl:=hA.low i h1;refine⟨a1.grown hA.own hg,?_⟩;rw[if_neg (by omega),if_neg (by omega)];exact a2.kp hk (.inr hl.2) (fun j hj=>hA.blk i j h1 (hbs j hj))
  ·by_cases he:i=rows.length
   ·subst he;rw[List.getElem?_append_right (Nat.le_refl _)]at hy;rw[List.getElem?_append_right (by omega),hvl]at hx;simp at hx hy;subst hx hy;rw[if_pos rfl,if_pos rfl];exact⟨hu.grown hA.own hg,hr.kp hk (.inr hS) (fun j hj=>.inl (hgs j (hbs j hj)))⟩
   ·rw[List.getElem?_eq_none (by simp;omega)]at hy;cases hy
 ·rw[List.length_append,List.length_singleton]at hi1;by_cases he:i=rows.length
  ·rw[if_pos he,if_pos he];exact⟨hKs,Nat.le_trans hS hg.size⟩
  ·rw[if_neg he,if_neg he];exact⟨(hA.low i (by omega)).1,Nat.le_trans (hA.low i (by omega)).2 hg.size⟩
 ·rw[List.length_append,List.length_singleton]at hj;rw[if_neg (by omega)];by_cases he:j=rows.length
  ·rw[if_pos he];exact hs i (by omega)
  ·rw[if_neg he];exact hA.apart i j hij (by omega)
 ·rw[List.length_append,List.length_singleton]at hi1;by_cases he:i=rows.length
  ·rw[if_pos he,if_pos he];rcases hat with h|h
   ·exact .inl (hgs g (by rw[<-h];exact hgv))
   ·rw[h]at hgv;injection hgv with hgv;omega
  ·rw[if_neg he,if_neg he];rcases hat with h|h
   ·exact hA.blk i g (by omega) (by rw[<-h];exact hgv)
   ·rw[h]at hgv;injection hgv with hgv;have:=(hA.low i (by omega)).2;omega
theorem atm(w:World)(v:Value)(rows:List (List Int))(L:Nat)(h:IsM w v rows L)(hr:∀r∈rows,r.length<=1000000)(hl:rows.length<=1000000)(hL:L<=100000):
  Calls Tryz.prog 30 #[v] w fun e w'=>Below w.heap.size w w'/\(((∃r∈rows,(red r).any big=true)/\e=.returned (.tuple #[.slice none 0 0,.int .i64 2]))\/((∀r∈rows,(red r).any big=false)/\∃rv vs lo hi,e=.returned (.tuple #[rv,.int .i64 0])/\OwA w.heap.size w' rv (rows.map red) L vs lo hi)):=by
 obtain⟨ao,cp,rfl,hn⟩:=h.parts;obtain⟨iW,hi,hz0,hz1,hz2⟩:=info_parts infoSz;have H:=hide h;have HR:=hide hr;have hmf:∀(fn:Fn) (first cap:Array Value) (w:World),(Instr.makeFunc fn first cap).run Tryz.prog w=.ok (.func fn first cap) w:=fun _ _ _ _=>rfl
 clear h hr;go_enter Tryz.func30,Tryz.ntmps30
 go_wp2;go_loopw [4,6,8,11] (fun ov _ _ iv wr=>∃(k:Nat),iv=.int .i64 k/\k<=rows.length/\Below w.heap.size w wr/\(∀r∈rows.take k,(red r).any big=false)/\∃vs lo hi,OwA w.heap.size wr ov ((rows.take k).map red) L vs lo hi) (fun _ _ _ iv _=>rows.length-(intOf iv).toNat)
 case atStart=>exact⟨0,rfl,Nat.zero_le _,Below.refl _ _,fun r hr=>(by simp at hr),[],fun _=>0,fun _=>0,ajs _ _ _⟩
 case round=>
  obtain⟨k,rfl,hk,hbw,hall,vs,lo,hi',hO⟩:=hrel;obtain⟨oa,oc,rfl,_⟩:=hO.m.is.parts;have HW:=hide hbw;have HA:=hide hall;have HO:=hide hO;by_cases hlt:k<rows.length
  ·obtain⟨r,hr⟩:∃r,rows[k]? = some r:=⟨_,List.getElem?_eq_getElem hlt⟩;have hrl:=HR.out r (List.mem_of_getElem? hr);obtain⟨b,off,u,rfl,hbl,x0,hx⟩:=H.out.cell hr;replace x0:=(hbw.cell (p:=⟨b,off+k,none⟩) hbl).trans x0;have hlt':(k:Int)<(rows.length:Int):=by omega
   have hx':=hx.below hbw;have KD:=hide (age wr u r L hx' hL);obtain⟨ua,uc,rfl,_⟩:=hx.parts;have HX:=hide hx';have HRr:=hide hr;clear hbw hall hO hx hr hx';go_wp2_with fail
   refine KD.out.mono ?_;rintro e w1 ⟨v1,rfl,h1,hb1⟩;obtain⟨ng1,a1,m1,c1,rfl⟩:∃ng ao n cap,v1=.agg #[.bool ng,.slice ao n cap]:=by obtain⟨ng,ao,cap,rs,rfl,_⟩:=h1;exact⟨_,_,_,_,rfl⟩
   have hba:=hAl w1 (.cells #[.bool ng1,.slice a1 m1 c1] 60);have hnew:=heap_alloc_new w1 (.cells #[.bool ng1,.slice a1 m1 c1] 60);have hb2:=hb1.trans (hba.mono hb1.size);have hbz:∀z∈r,((z/dvs r).natAbs:Int)<pw L:=fun z hz=>ar6 (ada HX.out z hz)
   have hT:Turn (w1.alloc (.cells #[.bool ng1,.slice a1 m1 c1] 60)) 56 #[.pointer (some ⟨w1.heap.size,0,none⟩)] r L L (fun k=>r.getD k 0/dvs r):=by
    refine(show ∀(W:World) (c':Nat) (z:Int) (xv:Value),_->_->_->_ from ?_);intro W k' z xv hb hz hx;have hzd:r.getD k' 0=z:=by rw[List.getD_eq_getElem?_getD,hz];rfl
    have hbW:=hba.trans (hb.mono hba.size);have:=ake W W.heap.size rfl k' w1.heap.size z (dvs r) xv L L ng1 a1 m1 c1 ((hb.block _ (aaa hnew)).trans hnew) (h1.is.ru (Ru.of_below hbW)) hx (by omega) (hbz z (List.mem_of_getElem? hz));rw[show(fun k=>r.getD k 0/dvs r) k'=z/dvs r by show r.getD k' 0/dvs r=_;rw[hzd]];exact this
   have KT:=ac4 _ _ r L L (HX.out.below hb2) hrl _ akf _ _ hT;rw[an8]at KT;have KT:=hide KT;have HB2:=hide hb2;clear h1 hb1 hba hnew hb2 hbz hT KD x0;go_wp2_with fail
   refine KT.out.mono ?_;rintro e w3 ⟨r3,rfl,h3,hb3⟩;have hb03:=HB2.out.trans (hb3.mono HB2.out.size);have KL:=hide (aly w3 r3 (red r) L h3.is (by omega));obtain⟨bl3,rfl,_⟩:=id h3;have H3:=hide h3;have HB3:=hide hb03;have hsz3:=hb3.size;have hsz2:=HB2.out.size;clear h3 hb3 hb03 KT;generalize hw2:w1.alloc (.cells #[.bool ng1,.slice a1 m1 c1] 60)=w2 at *
   clear hw2;go_wp2_with fail
   refine KL.out.mono ?_;rintro e w4 ⟨rfl,hb4⟩;have HB4:=hide (HB3.out.trans (hb4.mono HB3.out.size));have H4:=hide ((H3.out.below hb4).low (Nat.le_trans HW.out.size hsz2));have H4r:=hide ((H3.out.rwi).below hb4);have hsz4:=hb4.size;obtain⟨bb,hbb⟩:∃b,(red r).any big=b:=⟨_,rfl⟩;rw[hbb];have HBB:=hide hbb;clear hb4 KL hbb;cases bb with
   |true=>
    go_wp2;refine bodyPost_ret (v:=_) (by simp[results,Tryz.results30,go_sem];try rfl) rfl ⟨HW.out.trans (HB4.out.mono HW.out.size),.inl ⟨⟨r,List.mem_of_getElem? HRr.out,HBB.out⟩,rfl⟩⟩
   |false=>
    have hvs:=(HO.out.below HB4.out).own;have hll:((rows.take k).map red).length=k:=by simp;omega
    rw[hll]at hvs;have hbl4:=hAl w4 (.cells #[.slice (some ⟨bl3,0,none⟩) (red r).length (red r).length] 44);have hlow:=Nat.le_trans HW.out.size HB4.out.size;go_wp2_with (at_builtin;refine wpList_append_own_at _ rfl (.tmp 22) (.tmp 24) 22 rfl w.heap.size 44 iW (.slice none 0 0) 1 24 Tryz.underlying22 hi hz0 hz1 hz2 rfl (by decide) _ _ _ rfl (hvs.alloc _) ⟨w4.heap.size,0,none⟩ 1 1 [.slice (some ⟨bl3,0,none⟩) (red r).length (red r).length] rfl rfl (cell_one_new _ _ _) ?c2 ?c3 ?c4 ?c5 ?_)
    case c2=>first|rfl|(intro x hx;simp at hx;subst hx;rfl)
    case c3=>unfold maxLen;omega
    case c4=>omega
    case c5=>simp;omega
    intro v5 w5 hown5 hgrow5 _ hat5;have hlo:=HO.out.low;have hlt5:=HO.out.own.lt;rw[hll]at hlo;have hOb:=(HO.out.below HB4.out).below hbl4;rw[hll]at hOb hlt5;have hA:=OwA.app hOb hll (H4.out.below hbl4) (H4r.out.below hbl4) (Nat.le_trans HW.out.size hsz2) (fun i hi1=>Nat.le_trans (hlo i hi1).2 hsz2) (fun g hg=>Nat.lt_of_lt_of_le (hlt5 g hg).2 hsz2) (Nat.le_trans hsz4 hbl4.size) hown5 hgrow5 (by simpa using hat5);have hbx:Below w.heap.size w w5:=(HW.out.trans (HB4.out.mono HW.out.size)).trans ((hbl4.mono hlow).trans ((Below.refl _ _).grown hgrow5 (Nat.le_trans hlow hbl4.size) (fun j hj=>(hvs.lt j hj).1)));have e1:(rows.take k).map red ++ [red r]=(rows.take (k+1)).map red:=by rw[List.take_add_one,HRr.out];simp
    rw[e1]at hA;have HFin:=hide (And.intro hA hbx);clear hown5 hgrow5 hA hbx hvs hbl4 hat5;go_wp2;go_roundw
    case rel=>
     obtain⟨⟨lo5,hi5,hA5⟩,hbx5⟩:=HFin.out;refine⟨k+1,by go_num,by omega,hbx5,fun r' hr'=>?_,_,lo5,hi5,hA5⟩;rcases(aa7 HRr.out).1 hr' with h|rfl
     ·exact HA.out r' h
     ·exact HBB.out
    case measure=>simp[intOf];omega
  ·have hlt':decide ((k:Int)<(rows.length:Int))=false:=by simp;omega
   have hkn:k=rows.length:=by omega
   subst hkn;rw[List.take_length]at HA HO;clear hbw hall hO;go_wp2;refine bodyPost_ret (v:=_) (by simp[results,Tryz.results30,go_sem];try rfl) rfl ⟨HW.out,.inr ⟨HA.out,_,vs,lo,hi',rfl,HO.out⟩⟩
end Lm
namespace Lm
open Go Go.RowKit Md
def OL(w:World)(g cap:Nat)(vs:List Value):Prop:=∃cur:Array Value,w.heap[g]? = some (.cells cur 44 (0,0))/\cur.size=cap/\vs.length<=cap/\cap<=9223372036854775807/\cur.toList.take vs.length=vs
theorem OL.keep{w w':World}{g cap:Nat}{vs:List Value}(h:OL w g cap vs)(hk:w'.heap[g]? = w.heap[g]?):OL w' g cap vs:=by
 obtain⟨cur,h1,h2⟩:=h;exact⟨cur,hk.trans h1,h2⟩
theorem OL.cell{w:World}{g cap i:Nat}{vs:List Value}{u:Value}(h:OL w g cap vs)(hu:vs[i]? = some u):g<w.heap.size/\w.cell? ⟨g,i,none⟩=some u/\w.frozen? ⟨g,i,none⟩=false:=by
 obtain⟨cur,h1,h2,h3,_,h4⟩:=h;refine⟨aaa h1,?_,frozen_of_row _ _ _ _ _ h1⟩;rw[cell_of_row _ _ _ _ _ (0,0) h1];have hi:=(List.getElem?_eq_some_iff.1 hu).1;rw[<-h4,List.getElem?_take_of_lt hi]at hu;simpa using hu
theorem OL.put{w:World}{g cap i:Nat}{vs:List Value}(h:OL w g cap vs)(_:i<vs.length)(u:Value):OL (w.setCell ⟨g,i,none⟩ u) g cap (vs.set i u):=by
 obtain⟨cur,h1,h2,h3,h5,h4⟩:=h;refine⟨cur.setIfInBounds i u,heap_setCell_same w g i _ _ u h1,by simpa using h2,by simpa using h3,h5,?_⟩;rw[List.length_set,Array.toList_setIfInBounds,List.take_set,h4]
theorem OL.hp{w:World}{g cap:Nat}{vs:List Value}(h:OL w g cap vs):∃c,w.heap[g]? = some (.cells c 44 (0,0)):=by
 obtain⟨cur,h1,_⟩:=h;exact⟨cur,h1⟩
theorem OL.isM{w:World}{g cap L:Nat}{vs:List Value}{rows:List (List Int)}(h:OL w g cap vs)(hl:vs.length=rows.length)(hr:∀(i:Nat) (u:Value) (z:List Int),vs[i]? = some u->rows[i]? = some z->IsRow w u z L):IsM w (.slice (some ⟨g,0,none⟩) rows.length cap) rows L:=by
 refine⟨vs,⟨_,_,rfl,?_,?_,by omega,.inr ⟨g,0,rfl,?_,fun j u hu=>?_⟩⟩,hr⟩
 ·obtain⟨_,_,_,h3,_⟩:=h;omega
 ·obtain⟨_,_,_,_,h5,_⟩:=h;exact h5
 ·obtain⟨_,h1,_⟩:=h;exact aaa h1
 ·rw[Nat.zero_add];exact(h.cell hu).2.1
theorem aff(w:World)(g i:Nat)(u:Value):Tch g w (w.setCell ⟨g,i,none⟩ u):=⟨rfl,rfl,rfl,by simp[World.setCell],fun k _ hn=>heap_setCell_other w ⟨g,i,none⟩ k u hn⟩
end Lm
namespace Lm
open Go Go.RowKit Md
def OE(w:World)(g cap:Nat)(es:List WE):Prop:=∃cur:Array Value,w.heap[g]? = some (.cells cur 60 (0,0))/\cur.size=cap*2/\es.length<=cap/\cap<=9223372036854775807/\cur.toList.take (es.length*2)=flat es
theorem OE.keep{w w':World}{g cap:Nat}{es:List WE}(h:OE w g cap es)(hk:w'.heap[g]? = w.heap[g]?):OE w' g cap es:=by
 obtain⟨cur,h1,h2⟩:=h;exact⟨cur,hk.trans h1,h2⟩
theorem OE.cell{w:World}{g cap i:Nat}{es:List WE}{e:WE}(h:OE w g cap es)(he:es[i]? = some e):w.cell? ⟨g,i*2,none⟩=some (.bool e.ng)/\w.cell? ⟨g,i*2+1,none⟩=some (.slice e.a e.m e.c)/\w.frozen? ⟨g,i*2,none⟩=false/\w.frozen? ⟨g,i*2+1,none⟩=false:=by
 obtain⟨cur,h1,h2,h3,_,h4⟩:=h;have hi:=(List.getElem?_eq_some_iff.1 he).1;obtain⟨f1,f2⟩:=aau he;rw[<-h4,List.getElem?_take_of_lt (by omega)]at f1 f2;refine⟨?_,?_,frozen_of_row _ _ _ _ _ h1,frozen_of_row _ _ _ _ _ h1⟩ <;> rw[cell_of_row _ _ _ _ _ (0,0) h1]
 ·simpa using f1
 ·simpa using f2
def put2(w:World)(g i:Nat)(x:WE):World:=(w.setCell ⟨g,i*2,none⟩ (.bool x.ng)).setCell ⟨g,i*2+1,none⟩ (.slice x.a x.m x.c)
theorem OE.put{w:World}{g cap i:Nat}{es:List WE}(h:OE w g cap es)(hi:i<es.length)(x:WE):OE (put2 w g i x) g cap (es.set i x):=by
 obtain⟨cur,h1,h2,h3,h5,h4⟩:=h;have s1:=heap_setCell_same w g (i*2) _ _ (.bool x.ng) h1;have s2:=heap_setCell_same _ g (i*2+1) _ _ (.slice x.a x.m x.c) s1;refine⟨_,s2,by simpa using h2,by simpa using h3,h5,?_⟩;rw[List.length_set,Array.toList_setIfInBounds,Array.toList_setIfInBounds,List.take_set,List.take_set,h4,aeo es i x hi]
theorem ah0(w:World)(g i:Nat)(x:WE):Tch g w (put2 w g i x):=(aff w g (i*2) _).trans (aff _ g (i*2+1) _)
theorem aml{w:World}{g i:Nat}{cur:Array Value}{T:TypeId}(h:w.heap[g]? = some (.cells cur T (0,0)))(hT:T≠68)(hi:∀z,cur[i]?≠some (.int .u32 z))(u:Value):Ru w (w.setCell ⟨g,i,none⟩ u):=by
 refine⟨by simp[World.setCell],fun p z hp=>?_,fun k cs hk=>?_⟩
 ·by_cases hb:p.block=g
  ·obtain⟨b,o,m⟩:=p;simp only at hb;subst hb;have hs:=heap_setCell_same w b i _ _ u h;simp only[World.cell?,h]at hp;simp only[World.cell?,hs];cases m with
   |none=>
    rw[Array.getElem?_setIfInBounds];by_cases e:i=o
    ·subst e;exact absurd (by simpa using hp) (hi z)
    ·rw[if_neg e];exact hp
   |some m=>simp at hp
  ·rw[World.cell?_of_block (heap_setCell_other w ⟨g,i,none⟩ p.block u hb)];exact hp
 ·rw[heap_setCell_other w ⟨g,i,none⟩ k u (fun e=>by subst e;rw[h]at hk;injection hk with hk;injection hk with _ hk;exact hT hk)];exact hk
theorem aok{w:World}{g cap i:Nat}{es:List WE}(h:OE w g cap es)(hi:i<es.length)(x:WE):Ru w (put2 w g i x):=by
 obtain⟨e,he⟩:∃e,es[i]? = some e:=⟨_,List.getElem?_eq_getElem hi⟩;obtain⟨cur,h1,h2,h3,h5,h4⟩:=h;obtain⟨f1,f2⟩:=aau he;rw[<-h4,List.getElem?_take_of_lt (by omega)]at f1 f2;have s1:=heap_setCell_same w g (i*2) _ _ (.bool x.ng) h1;refine(aml h1 (by decide) (fun z hz=>?_) (.bool x.ng)).trans (aml s1 (by decide) (fun z hz=>?_) _)
 ·rw[Array.getElem?_toList,hz]at f1;cases f1
 ·rw[Array.getElem?_setIfInBounds_ne (by omega)]at hz;rw[Array.getElem?_toList,hz]at f2;cases f2
def Half{α:Type}(es es':List α)(i:Nat):Prop:=es'.length=es.length/\∀k,k<es.length->es'[k]? = if k<i\/es.length-1-k<i then es[es.length-1-k]? else es[k]?
theorem Half.start{α:Type}(es:List α):Half es es 0:=⟨rfl,fun k _=>by simp⟩
theorem Half.done{α:Type}{es es':List α}{i:Nat}(h:Half es es' i)(hi:es.length<=2*i+1):es'=es.reverse:=by
 apply List.ext_getElem?;intro k;by_cases hk:k<es.length
 ·rw[h.2 k hk,List.getElem?_reverse hk];split
  ·rfl
  ·rw[show es.length-1-k=k by omega]
 ·rw[List.getElem?_eq_none (by have:=h.1;omega),List.getElem?_eq_none (by simp;omega)]
theorem Half.next{α:Type}{es es':List α}{i j:Nat}{x y:α}(h:Half es es' i)(hj:j=es.length-1-i)(hij:i<j)(hx:es'[i]? = some x)(hy:es'[j]? = some y):Half es ((es'.set i y).set j x) (i+1):=by
 have hl:=h.1;have hi:=(List.getElem?_eq_some_iff.1 hx).1;have hjl:=(List.getElem?_eq_some_iff.1 hy).1;refine⟨by simp[hl],fun k hk=>?_⟩;have hxi:=h.2 i (by omega);have hyj:=h.2 j (by omega);rw[hx,if_neg (by omega)]at hxi;rw[hy,if_neg (by omega)]at hyj;by_cases e1:k=j
 ·subst e1;rw[List.getElem?_set_self (by simpa using hjl),if_pos (.inr (by omega)),show es.length-1-k=i by omega];exact hxi
 ·rw[List.getElem?_set_ne (fun e=>e1 e.symm)];by_cases e2:k=i
  ·subst e2;rw[List.getElem?_set_self (by omega),if_pos (.inl (by omega)),<-hj];exact hyj
  ·rw[List.getElem?_set_ne (fun e=>e2 e.symm),h.2 k hk];by_cases h1:k<i\/es.length-1-k<i
   ·rw[if_pos h1,if_pos (by omega)]
   ·rw[if_neg h1,if_neg (by omega)]
theorem amm(w:World)(g cap:Nat)(es:List WE)(h:OE w g cap es):
  Calls Tryz.prog 71 #[.slice (some ⟨g,0,none⟩) es.length cap] w fun e w'=>e=.returned (.tuple #[])/\OE w' g cap es.reverse/\Tch g w w'/\Ru w w':=by
 have hcap:es.length<=9223372036854775807:=by obtain⟨_,_,_,h3,h4,_⟩:=h;omega
 have H:=hide h;clear h;obtain⟨n,hn⟩:∃n,es.length=n:=⟨_,rfl⟩;rw[hn]at hcap ⊢;have HN:=hide hn;clear hn;go_enter Tryz.func71,Tryz.ntmps71
 go_wp2;go_loopw [2,3] (fun s2 s3 wr=>∃(i:Nat) (es':List WE),s2=.int .i64 (i:Int)/\s3=.int .i64 ((n:Int)-1-(i:Int))/\i<=n/\Half es es' i/\OE wr g cap es'/\Tch g w wr/\Ru w wr) (fun s2 _ _=>n-(intOf s2).toNat)
 case atStart=>exact⟨0,es,rfl,by simp,by omega,Half.start es,H.out,⟨rfl,rfl,rfl,Nat.le_refl _,fun _ _ _=>rfl⟩,Ru.refl _⟩
 case round=>
  obtain⟨i,es',rfl,rfl,hi,hh,hO,ht,hr⟩:=hrel;have HH:=hide hh;have HO:=hide hO;have HT:=hide ht;have HR:=hide hr;by_cases hlt:(i:Int)<(n:Int)-1-(i:Int)
  ·obtain⟨j,hj⟩:∃j:Nat,(n:Int)-1-(i:Int)=(j:Int):=⟨n-1-i,by omega⟩;rw[hj]at hlt ⊢;have hjn:j<n:=by omega
   have hin:i<n:=by omega
   have hl:=hh.1;have hnn:=HN.out;obtain⟨x,hx⟩:∃x,es'[i]? = some x:=⟨_,List.getElem?_eq_getElem (by omega)⟩;obtain⟨y,hy⟩:∃y,es'[j]? = some y:=⟨_,List.getElem?_eq_getElem (by omega)⟩;obtain⟨x0,x1,xf0,xf1⟩:=hO.cell hx;obtain⟨y0,y1,yf0,yf1⟩:=hO.cell hy;have HX:=hide hx;have HY:=hide hy;clear hh hO ht hr hx hy hl hnn;have hin':(i:Int)<(n:Int):=by omega
   have hjn':(j:Int)<(n:Int):=by omega
   go_wp2;go_region
   go_wp2;go_roundw
   case rel=>
    have hl:=HH.out.1;have hnn:=HN.out;have o1:=HO.out.put (i:=i) (by omega) y;have o2:=o1.put (i:=j) (by simp;omega) x;have r1:=(aok HO.out (i:=i) (by omega) y).trans (aok o1 (i:=j) (by simp;omega) x);have t1:=(ah0 wr g i y).trans (ah0 _ g j x);refine⟨i+1,(es'.set i y).set j x,rfl,?_,by omega,HH.out.next (by omega) (by omega) HX.out HY.out,o2.keep rfl,HT.out.trans (t1.trans (.of_below (Below.drew (Below.refl _ _)))),HR.out.trans (r1.trans (Ru.of_below (Below.drew (Below.refl _ _))))⟩;rw[show(j:Int)-1=(n:Int)-1-((i+1:Nat):Int) by omega]
   case measure=>simp[intOf];omega
  ·have hlt':decide ((i:Int)<(n:Int)-1-(i:Int))=false:=by simp;omega
   have hdone:=hh.done (by have:=HN.out;omega);subst hdone;clear hh hO ht hr;go_wp2;go_end0
   exact⟨rfl,HO.out,HT.out,HR.out⟩
def XRow(K:Nat)(w:World)(v:Value)(zs:List Int)(L:Nat):Prop:=∃es:List WE,es.map WE.z=zs/\(∀e∈es,Sl w (.slice e.a e.m e.c) e.zs/\e.zs.length<=L)/\((es = []/\∃ao cap,v=.slice ao 0 cap/\cap<=9223372036854775807)\/∃g cap,v=.slice (some ⟨g,0,none⟩) es.length cap/\K<=g/\OE w g cap es)
theorem XRow.keep{K:Nat}{w w':World}{v:Value}{zs:List Int}{L:Nat}(h:XRow K w v zs L)(hr:Ru w w')(hk:∀(g:Nat) (c:Array Value),w.heap[g]? = some (.cells c 60 (0,0))->w'.heap[g]? = w.heap[g]?):XRow K w' v zs L:=by
 obtain⟨es,h1,h2,h3⟩:=h;refine⟨es,h1,fun e he=>⟨(h2 e he).1.ru hr,(h2 e he).2⟩,?_⟩;rcases h3 with h3|⟨g,cap,rfl,hK,h3⟩
 ·exact .inl h3
 ·obtain⟨cur,hc,_⟩:=id h3;exact .inr ⟨g,cap,rfl,hK,h3.keep (hk g cur hc)⟩
theorem XRow.below{K:Nat}{w w':World}{v:Value}{zs:List Int}{L:Nat}(h:XRow K w v zs L)(hb:Below w.heap.size w w'):XRow K w' v zs L:=h.keep (Ru.of_below hb) (fun g _ hg=>hb.block g (aaa hg))
theorem XRow.tch{K g:Nat}{w w':World}{v:Value}{zs:List Int}{L:Nat}{c:Array Value}(h:XRow K w v zs L)(ht:Tch g w w')(hr:Ru w w')(hg:w.heap[g]? = some (.cells c 44 (0,0))):XRow K w' v zs L:=h.keep hr (fun k c' hk=>ht.other k (aaa hk) (aa5 hg hk (by decide)))
theorem XRow.is{K:Nat}{w:World}{v:Value}{zs:List Int}{L:Nat}(h:XRow K w v zs L):IsRow w v zs L:=by
 obtain⟨es,h1,h2,h3⟩:=h;refine⟨es,⟨?_,fun e he=>(h2 e he).1⟩,h1,fun e he=>(h2 e he).2⟩;rcases h3 with⟨rfl,ao,cap,rfl,hc⟩|⟨g,cap,rfl,hK,h3⟩
 ·exact⟨ao,cap,rfl,Nat.zero_le _,hc,rfl,.inl rfl⟩
 ·obtain⟨cur,c1,c2,c3,c4,c5⟩:=h3;refine⟨_,cap,rfl,c3,c4,aax es,.inr ⟨g,0,rfl,aaa c1,fun j u hu=>?_⟩⟩;rw[Nat.zero_add,cell_of_row _ _ _ _ _ (0,0) c1];have hj:=(List.getElem?_eq_some_iff.1 hu).1;rw[aax]at hj;rw[<-c5,List.getElem?_take_of_lt hj]at hu;simpa using hu
theorem aqj(w:World)(v:Value)(zs:List Int)(L:Nat)(h:IsRow w v zs L)(hl:zs.length<=1000000):
  Calls Tryz.prog 70 #[v] w fun e w'=>∃r,e=.returned r/\XRow w.heap.size w' r zs L/\Below w.heap.size w w':=by
 obtain⟨es,hR,he,hL⟩:=h;have hel:es.length=zs.length:=by rw[<-he];simp
 obtain⟨ao,cap,rfl,c1,c2,c3,c4⟩:=hR.cl;obtain⟨iW,hi,hz0,hz1,hz2⟩:=info_parts infoWz;have hq0:∀(n c:Nat) (w:World),(Go.binOp .eql 44 (.slice none n c) (.slice none 0 0)).run Tryz.prog w=.ok (.bool true) w:=fun n c w=>by kernel_rfl
 have hq1:∀(ad:Addr) (n c:Nat) (w:World),(Go.binOp .eql 44 (.slice (some ad) n c) (.slice none 0 0)).run Tryz.prog w=.ok (.bool false) w:=fun ad n c w=>by kernel_rfl
 cases ao with
 |none=>
  have h0:es.length=0:=by
   rcases c4 with c4|⟨b,off,e,_⟩
   ·exact c4
   ·cases e
  obtain rfl:=List.length_eq_zero_iff.1 h0;subst he;clear hR c3 c4 hel hi hz0 hz1 hz2 hL;go_enter Tryz.func70,Tryz.ntmps70
  go_wp2;refine bodyPost_ret (v:=_) (by simp[results,Tryz.results70,go_sem];try rfl) rfl ⟨_,rfl,⟨[],rfl,fun e he=>(by cases he),.inl ⟨rfl,none,0,rfl,by omega⟩⟩,Below.refl _ _⟩
 |some ad=>
  have hnew:∀j u,(flat es)[j]? = some u->(w.alloc (.cells #[] 60)).cell? (ad.add j)=some u:=by
   intro j u hu;rcases c4 with c4|⟨b,off,e,hlt,hc⟩
   ·rw[List.getElem?_eq_none (by rw[aax];omega)]at hu;cases hu
   ·obtain rfl:=Option.some.inj e;rw[Addr.add_lit];exact((hAl w (.cells #[] 60)).cell (p:=⟨b,off+j,none⟩) hlt).trans (hc j u hu)
  have h1c:∀u∈flat es,u.oneCell'=true:=by
   intro u hu;clear c4 hR hnew c3 hel hL he c1;induction es with
   |nil=>cases hu
   |cons e es ih=>
    simp only[flat,List.mem_cons]at hu;rcases hu with rfl|rfl|hu
    ·rfl
    ·rfl
    ·exact ih hu
  have hb0:=hAl w (.cells #[] 60);have hown:=World.ownsRow_made (base:=w.heap.size) (e:=60) (size:=2) w #[] 0 (Nat.le_refl _) (by unfold maxLen;omega) rfl;have HR:=hide (And.intro hR (And.intro he hL));clear hR c4 he hL;rw[<-hel]at hl;go_enter Tryz.func70,Tryz.ntmps70
  go_wp2_with (at_builtin;refine wpList_append_own _ rfl (.tmp 5) (.tmp 6) 44 rfl w.heap.size 60 iW (.agg #[.bool false,.slice none 0 0]) 2 32 Tryz.underlying44 hi hz0 hz1 hz2 rfl (by decide) _ _ _ rfl hown ad es.length cap (flat es) rfl (aax es) hnew h1c ?c3 ?c4 ?c5 ?_)
  case c3=>unfold maxLen;omega
  case c4=>omega
  case c5=>simp
  intro v5 w5 hown5 hgrow5 _;rw[<-hel]at hown5;have hb5:Below w.heap.size w w5:=hb0.trans ((Below.refl _ _).grown hgrow5 hb0.size (fun j hj=>(hown.lt j hj).1));have hX:XRow w.heap.size w5 v5 zs L:=by
   refine⟨es,HR.out.2.1,fun e he=>⟨(HR.out.1.sl e he).below hb5,HR.out.2.2 e he⟩,?_⟩;obtain⟨h1,⟨h2,h3⟩|⟨g,cap',cur,rfl,hg,hh,h3,h4,h5,h6⟩⟩:=hown5
   ·exact .inl ⟨List.length_eq_zero_iff.1 h3,none,0,h2,by omega⟩
   ·exact .inr ⟨g,cap',rfl,hg,cur,hh,h5,h3,by unfold maxLen at h4;omega,h6⟩
  have HX:=hide (And.intro hX hb5);clear hown5 hgrow5 hb5 hX;go_wp2;refine bodyPost_ret (v:=_) (by simp[results,Tryz.results70,go_sem];try rfl) rfl ⟨_,rfl,HX.out.1,HX.out.2⟩
end Lm
namespace Lm
open Go Go.RowKit Md
theorem atn(w:World)(ao:Option Addr)(cap:Nat):
  Calls Tryz.prog 71 #[.slice ao 0 cap] w fun e w'=>e=.returned (.tuple #[])/\w'=w:=by
 go_enter Tryz.func71,Tryz.ntmps71
 go_wp2;go_loopw [2,3] (fun s2 s3 wr=>s2=.int .i64 0/\s3=.int .i64 (-1)/\wr=w) (fun _ _ _=>0)
 case atStart=>exact⟨rfl,rfl,rfl⟩
 case round=>
  obtain⟨rfl,rfl,rfl⟩:=hrel;go_wp2;go_end0
  exact⟨rfl,rfl⟩
theorem avq(w:World)(k:Nat)(v:Value)(zs:List Int)(L:Nat)(h:IsRow w v zs L)(hl:zs.length<=1000000):
  Calls Tryz.prog 69 #[.int .i64 (k:Int),v] w fun e w'=>∃r,e=.returned r/\XRow w.heap.size w' r zs.reverse L/\Below w.heap.size w w':=by
 have K1:=hide (aqj w v zs L h hl);obtain⟨ao,cp,rfl,_⟩:=h.parts;clear h;go_enter Tryz.func69,Tryz.ntmps69
 go_wp2_with fail
 refine K1.out.mono ?_;rintro e w1 ⟨r,rfl,⟨es,he,hsl,⟨rfl,ra,rc,rfl,hrc⟩|⟨g,cap,rfl,hg,hO⟩⟩,hb⟩
 ·have K2:=hide (atn w1 ra rc);have HB:=hide hb;have HE:=hide he;clear hb he hsl K1;go_wp2_with fail
  refine K2.out.mono ?_;rintro e w2 ⟨rfl,rfl⟩;go_wp2;refine bodyPost_ret (v:=_) (by simp[results,Tryz.results69,go_sem];try rfl) rfl ⟨_,rfl,⟨[],by rw[<-HE.out];rfl,fun e he=>(by cases he),.inl ⟨rfl,_,_,rfl,hrc⟩⟩,HB.out⟩
 ·have K2:=amm w1 g cap es hO;have hel:es.length=zs.length:=by rw[<-he];simp
  have K2:=hide K2;have HB:=hide hb;have HE:=hide (And.intro he hsl);clear hb he hsl K1 hO;rw[hel]at K2 ⊢;have HEL:=hide hel;clear hel;go_wp2_with fail
  refine K2.out.mono ?_;rintro e w2 ⟨rfl,hO2,ht,hr⟩;have hX:XRow w.heap.size w2 (.slice (some ⟨g,0,none⟩) zs.length cap) zs.reverse L:=by
   refine⟨es.reverse,by rw[List.map_reverse,HE.out.1],fun e he=>⟨((HE.out.2 e (List.mem_reverse.1 he)).1).ru hr,(HE.out.2 e (List.mem_reverse.1 he)).2⟩,.inr ⟨g,cap,by rw[List.length_reverse,HEL.out],hg,hO2⟩⟩
  have HX:=hide (And.intro hX (HB.out.trans (ht.below HB.out.size hg)));clear hX hO2 ht hr K2;go_wp2;refine bodyPost_ret (v:=_) (by simp[results,Tryz.results69,go_sem];try rfl) rfl ⟨_,rfl,HX.out.1,HX.out.2⟩
def TurnM(w:World)(f:FuncId)(cap:Array Value)(rows:List (List Int))(L L':Nat)(G:Nat->List Int->List Int):Prop:=∀(W:World) (c:Nat) (z:List Int) (xv:Value),Below w.heap.size w W->rows[c]? = some z->IsRow W xv z L->Calls Tryz.prog f (#[.int .i64 (c:Int),xv]++cap) W fun e W'=>∃v,e=.returned v/\XRow W.heap.size W' v (G c z) L'/\Below W.heap.size W W'
theorem XRow.low{K K':Nat}{w:World}{v:Value}{zs:List Int}{L:Nat}(h:XRow K w v zs L)(hk:K'<=K):XRow K' w v zs L:=by
 obtain⟨es,h1,h2,h3⟩:=h;refine⟨es,h1,h2,?_⟩;rcases h3 with h3|⟨g,cap,e,hK,h3⟩
 ·exact .inl h3
 ·exact .inr ⟨g,cap,e,by omega,h3⟩
theorem XRow.slc{K:Nat}{w:World}{v:Value}{zs:List Int}{L:Nat}(h:XRow K w v zs L):∃a n c,v=.slice a n c:=by
 obtain⟨es,h1,h2,⟨_,ao,cap,e,_⟩|⟨g,cap,e,_⟩⟩:=h
 ·exact⟨_,_,_,e⟩
 ·exact⟨_,_,_,e⟩
theorem avr(n:Nat):(madeCells #[.slice none 0 0] n).toList=List.replicate n (.slice none 0 0):=by
 apply List.ext_getElem?;intro i;rw[Array.getElem?_toList];by_cases hi:i<n
 ·have e0:(madeCells #[.slice none 0 0] n)[i]? = some (.slice none 0 0):=by simp[madeCells,hi,Nat.mod_one]
  rw[e0,List.getElem?_replicate,if_pos hi]
 ·rw[Array.getElem?_eq_none (by rw[size_madeCells];omega),List.getElem?_eq_none (by simp;omega)]
structure TL (K:Nat) (w:World) (g n:Nat) (vs:List Value) (k:Nat) (rows:List (List Int)) (L:Nat):Prop where
 ol:OL w g n vs
 len:vs.length=n
 slc:∀u∈vs,∃a n c,u=.slice a n c
 row:∀(i:Nat) (u:Value) (z:List Int),i<k->vs[i]? = some u->rows[i]? = some z->XRow K w u z L
theorem TL.below{K:Nat}{w w':World}{g n:Nat}{vs:List Value}{k:Nat}{rows:List (List Int)}{L:Nat}(h:TL K w g n vs k rows L)(hb:Below w.heap.size w w'):TL K w' g n vs k rows L:=
 ⟨h.ol.keep (hb.block g (by obtain⟨c,hc⟩:=h.ol.hp;exact aaa hc)),h.len,h.slc,fun i u z a b c=>(h.row i u z a b c).below hb⟩
theorem OL.ru{w:World}{g cap i:Nat}{vs:List Value}(h:OL w g cap vs)(hi:i<vs.length)(hs:∀u∈vs,∃a n c,u=.slice a n c)(u:Value):Ru w (w.setCell ⟨g,i,none⟩ u):=by
 obtain⟨x,hx⟩:∃x,vs[i]? = some x:=⟨_,List.getElem?_eq_getElem hi⟩;obtain⟨a,n,c,rfl⟩:=hs x (List.mem_of_getElem? hx);obtain⟨cur,h1,h2,h3,h5,h4⟩:=h;refine aml h1 (by decide) (fun z hz=>?_) u;rw[<-h4,List.getElem?_take_of_lt hi,Array.getElem?_toList,hz]at hx;cases hx
theorem ajt{α:Type}{l:List α}{i:Nat}{x y:α}(h:y∈l.set i x):y∈l\/y=x:=List.mem_or_eq_of_mem_set h
theorem TL.put{K:Nat}{w:World}{g n:Nat}{vs:List Value}{k:Nat}{rows:List (List Int)}{L:Nat}(h:TL K w g n vs k rows L)(hk:k<n){u:Value}{z:List Int}(hz:rows[k]? = some z)(hu:XRow K w u z L):TL K (w.setCell ⟨g,k,none⟩ u) g n (vs.set k u) (k+1) rows L/\Tch g w (w.setCell ⟨g,k,none⟩ u):=by
 have hkl:k<vs.length:=by have:=h.len;omega
 have hr:=h.ol.ru hkl h.slc u;have ht:=aff w g k u;obtain⟨c,hc⟩:=h.ol.hp;refine⟨⟨h.ol.put hkl u,by simp[h.len],fun x hx=>?_,fun i x y hi hx hy=>?_⟩,ht⟩
 ·rcases ajt hx with hx|rfl
  ·exact h.slc x hx
  ·exact hu.slc
 ·by_cases e:k=i
  ·subst e;rw[List.getElem?_set_self hkl]at hx;obtain rfl:=Option.some.inj hx;rw[hz]at hy;obtain rfl:=Option.some.inj hy;exact hu.tch ht hr hc
  ·rw[List.getElem?_set_ne e]at hx;exact(h.row i x y (by omega) hx hy).tch ht hr hc
theorem TL.isM{K:Nat}{w:World}{g n:Nat}{vs:List Value}{rows:List (List Int)}{L:Nat}(h:TL K w g n vs n rows L)(hl:rows.length=n):IsM w (.slice (some ⟨g,0,none⟩) n n) rows L:=by
 have:=h.ol.isM (rows:=rows) (L:=L) (by rw[h.len,hl]) (fun i u z hu hz=>(h.row i u z (by have:=(List.getElem?_eq_some_iff.1 hz).1;omega) hu hz).is);rwa[hl]at this
def mapI(G:Nat->List Int->List Int)(rows:List (List Int)):List (List Int):=rows.mapIdx G
theorem ayi{G:Nat->List Int->List Int}{rows:List (List Int)}{i:Nat}{z:List Int}(h:rows[i]? = some z):(mapI G rows)[i]? = some (G i z):=by simp[mapI,h]
theorem avs(G:Nat->List Int->List Int)(rows:List (List Int)):(mapI G rows).length=rows.length:=by simp[mapI]
theorem ani(w:World)(v:Value)(rows:List (List Int))(L L':Nat)(h:IsM w v rows L)(hl:rows.length<=1000000)(f:FuncId)(hf:Has Tryz.prog f)(cap:Array Value)(G:Nat->List Int->List Int)(hT:TurnM w f cap rows L L' G):
  Calls Tryz.prog 68 #[v,.func (.func f) #[] cap] w fun e w'=>e=.returned (.slice (some ⟨w.heap.size,0,none⟩) rows.length rows.length)/\(∃vs,TL w.heap.size w' w.heap.size rows.length vs rows.length (mapI G rows) L')/\Below w.heap.size w w':=by
 obtain⟨ao,cp,rfl,_⟩:=h.parts;have H:=hide h;have HTN:=hide hT;clear h hT;obtain⟨n,hnn⟩:∃n,rows.length=n:=⟨_,rfl⟩;rw[hnn]at H hl ⊢;have HN:=hide hnn;clear hnn;obtain⟨iW,hi,hz0,hz1,hz2⟩:=info_parts infoSz;go_enter Tryz.func68,Tryz.ntmps68
 go_wp2_with (refine wpList_make_full _ rfl (.tmp 9) (.tmp 9) 22 rfl w.heap.size 44 iW (.slice none 0 0) 1 Tryz.underlying22 hi hz0 hz1 .i64 .i64 _ _ n rfl rfl (by omega) (by omega) (by rw[hz2];omega) (by unfold maxLen;omega) (Nat.le_refl _) ?hK)
 case hK=>
  intro w2 hown hgrow;have hb2:Below w.heap.size w w2:=(Below.refl _ _).grown hgrow (Nat.le_refl _) (by simp);obtain⟨_,hmb⟩:=ade hown;rw[avr]at hmb;have hT0:TL w.heap.size w2 w.heap.size n (List.replicate n (.slice none 0 0)) 0 (mapI G rows) L':=⟨⟨_,hmb,by simp,by simp,by omega,by simp⟩,by simp,fun u hu=>⟨none,0,0,(List.mem_replicate.1 hu).2⟩,fun i u z hi=>by omega⟩;have HP0:=hide hT0;have HB:=hide hb2;clear hown hgrow hmb hb2 hT0;go_wp2;go_loopw [6,7,13] (fun _ _ iv wr=>∃(k:Nat) (vs:List Value),iv=.int .i64 k/\k<=n/\Below w.heap.size w wr/\TL w.heap.size wr w.heap.size n vs k (mapI G rows) L') (fun _ _ iv _=>n-(intOf iv).toNat)
  case atStart=>exact⟨0,_,rfl,Nat.zero_le _,HB.out,HP0.out⟩
  case round=>
   obtain⟨k,vs,rfl,hk,hbw,hp⟩:=hrel;have HW:=hide hbw;have HP:=hide hp;by_cases hlt:k<n
   ·obtain⟨z,hz⟩:∃z,rows[k]? = some z:=⟨_,List.getElem?_eq_getElem (by have:=HN.out;omega)⟩;obtain⟨b,off,u,rfl,hbl,x0,hx⟩:=H.out.cell hz;replace x0:=(hbw.cell (p:=⟨b,off+k,none⟩) hbl).trans x0;have hlt':(k:Int)<(n:Int):=by omega
    have KC:=hide (HTN.out wr k z u hbw hz (hx.below hbw));obtain⟨ua,uc,rfl,_⟩:=hx.parts;have HZ:=hide hz;clear hbw hp hx hz;have hE:∀args w,(callFunc f args).run Tryz.prog w=.ok (.enter f args) w:=fun args w=>hf.enter args w
    go_wp2_with fail
    refine KC.out.mono ?_;rintro e w3 ⟨v1,rfl,h1,hb3⟩;have hP3:=HP.out.below hb3;obtain⟨x,hx⟩:∃x,vs[k]? = some x:=⟨_,List.getElem?_eq_getElem (by have:=hP3.len;omega)⟩;obtain⟨gl,y0,yf0⟩:=hP3.ol.cell hx;obtain⟨xa,xn,xc,rfl⟩:=hP3.slc x (List.mem_of_getElem? hx);have hput:=hP3.put hlt (ayi HZ.out) (h1.low HW.out.size);obtain⟨va,vn,vc,rfl⟩:=h1.slc;have HPT:=hide hput;have HB3:=hide (HW.out.trans (hb3.mono HW.out.size));clear h1 hb3 x0 KC hE hP3 hx hput;go_wp2;go_roundw
    case rel=>exact⟨k+1,_,by go_num,by omega,HB3.out.trans (HPT.out.2.below HB3.out.size (Nat.le_refl _)),HPT.out.1⟩
    case measure=>simp[intOf];omega
   ·have hlt':decide ((k:Int)<(n:Int))=false:=by simp;omega
    have hkn:k=n:=by omega
    subst hkn;clear hbw hp;go_wp2;refine bodyPost_ret (v:=_) (by simp[results,Tryz.results68,go_sem];try rfl) rfl ⟨rfl,⟨_,HP.out⟩,HW.out⟩
theorem amn(w:World)(g cap:Nat)(es:List Value)(h:OL w g cap es)(hsl:∀u∈es,∃a n c,u=.slice a n c):
  Calls Tryz.prog 72 #[.slice (some ⟨g,0,none⟩) es.length cap] w fun e w'=>e=.returned (.tuple #[])/\OL w' g cap es.reverse/\Tch g w w'/\Ru w w':=by
 have hcap:es.length<=9223372036854775807:=by obtain⟨_,_,_,h3,h4,_⟩:=h;omega
 have H:=hide h;have HSL:=hide hsl;clear h hsl;obtain⟨n,hn⟩:∃n,es.length=n:=⟨_,rfl⟩;rw[hn]at hcap ⊢;have HN:=hide hn;clear hn;go_enter Tryz.func72,Tryz.ntmps72
 go_wp2;go_loopw [2,3] (fun s2 s3 wr=>∃(i:Nat) (es':List Value),s2=.int .i64 (i:Int)/\s3=.int .i64 ((n:Int)-1-(i:Int))/\i<=n/\Half es es' i/\OL wr g cap es'/\(∀u∈es',∃a n c,u=.slice a n c)/\Tch g w wr/\Ru w wr) (fun s2 _ _=>n-(intOf s2).toNat)
 case atStart=>exact⟨0,es,rfl,by simp,by omega,Half.start es,H.out,HSL.out,⟨rfl,rfl,rfl,Nat.le_refl _,fun _ _ _=>rfl⟩,Ru.refl _⟩
 case round=>
  obtain⟨i,es',rfl,rfl,hi,hh,hO,hsl,ht,hr⟩:=hrel;have HH:=hide hh;have HO:=hide hO;have HS:=hide hsl;have HT:=hide ht;have HR:=hide hr;by_cases hlt:(i:Int)<(n:Int)-1-(i:Int)
  ·obtain⟨j,hj⟩:∃j:Nat,(n:Int)-1-(i:Int)=(j:Int):=⟨n-1-i,by omega⟩;rw[hj]at hlt ⊢;have hjn:j<n:=by omega
   have hin:i<n:=by omega
   have hl:=hh.1;have hnn:=HN.out;obtain⟨x,hx⟩:∃x,es'[i]? = some x:=⟨_,List.getElem?_eq_getElem (by omega)⟩;obtain⟨y,hy⟩:∃y,es'[j]? = some y:=⟨_,List.getElem?_eq_getElem (by omega)⟩;obtain⟨xa,xn,xc,rfl⟩:=hsl x (List.mem_of_getElem? hx);obtain⟨ya,yn,yc,rfl⟩:=hsl y (List.mem_of_getElem? hy);obtain⟨_,x0,xf0⟩:=hO.cell hx;obtain⟨_,y0,yf0⟩:=hO.cell hy;have HX:=hide hx;have HY:=hide hy;clear hh hO hsl ht hr hx hy hl hnn;have hin':(i:Int)<(n:Int):=by omega
   have hjn':(j:Int)<(n:Int):=by omega
   go_wp2;go_region
   go_wp2;go_roundw
   case rel=>
    have hl:=HH.out.1;have hnn:=HN.out;have hs1:∀u∈es'.set i (.slice ya yn yc),∃a n c,u=.slice a n c:=fun u hu=>(ajt hu).elim (HS.out u) (fun e=>⟨_,_,_,e⟩)
    have hs2:∀u∈(es'.set i (.slice ya yn yc)).set j (.slice xa xn xc),∃a n c,u=.slice a n c:=fun u hu=>(ajt hu).elim (hs1 u) (fun e=>⟨_,_,_,e⟩)
    have o1:=HO.out.put (i:=i) (by omega) (.slice ya yn yc);have o2:=o1.put (i:=j) (by simp;omega) (.slice xa xn xc);have r1:=(HO.out.ru (i:=i) (by omega) HS.out (.slice ya yn yc)).trans (o1.ru (i:=j) (by simp;omega) hs1 (.slice xa xn xc));have t1:=(aff wr g i (.slice ya yn yc)).trans (aff _ g j (.slice xa xn xc));refine⟨i+1,(es'.set i (.slice ya yn yc)).set j (.slice xa xn xc),rfl,?_,by omega,HH.out.next (by omega) (by omega) HX.out HY.out,o2.keep rfl,hs2,HT.out.trans (t1.trans (.of_below (Below.drew (Below.refl _ _)))),HR.out.trans (r1.trans (Ru.of_below (Below.drew (Below.refl _ _))))⟩;rw[show(j:Int)-1=(n:Int)-1-((i+1:Nat):Int) by omega]
   case measure=>simp[intOf];omega
  ·have hlt':decide ((i:Int)<(n:Int)-1-(i:Int))=false:=by simp;omega
   have hdone:=hh.done (by have:=HN.out;omega);subst hdone;clear hh hO hsl ht hr;go_wp2;go_end0
   exact⟨rfl,HO.out,HT.out,HR.out⟩
theorem TL.rev{K:Nat}{w w':World}{g n:Nat}{vs:List Value}{rows:List (List Int)}{L:Nat}(h:TL K w g n vs n rows L)(hl:rows.length=n)(ho:OL w' g n vs.reverse)(ht:Tch g w w')(hr:Ru w w'):TL K w' g n vs.reverse n rows.reverse L:=by
 obtain⟨c,hc⟩:=h.ol.hp;refine⟨ho,by simp[h.len],fun u hu=>h.slc u (List.mem_reverse.1 hu),fun i u z hi hu hz=>?_⟩;rw[List.getElem?_reverse (by have:=h.len;omega)]at hu;rw[List.getElem?_reverse (by omega)]at hz;rw[h.len]at hu;rw[hl]at hz;exact(h.row _ u z (by omega) hu hz).tch ht hr hc
theorem avt(rows:List (List Int)):(mapI (fun _ z=>z.reverse) rows).reverse=mir rows:=by
 unfold mapI mir;congr 1;apply List.ext_getElem?;intro i;rw[List.getElem?_mapIdx,List.getElem?_map]
theorem avu:Has Tryz.prog 69:=by unfold Has;kernel_rfl
theorem agn(w:World)(v:Value)(rows:List (List Int))(L:Nat)(h:IsM w v rows L)(hr:∀r∈rows,r.length<=1000000)(hl:rows.length<=1000000):
  Calls Tryz.prog 34 #[v] w fun e w'=>∃r,e=.returned r/\IsM w' r (mir rows) L/\Below w.heap.size w w':=by
 have hT:TurnM w 69 #[] rows L L (fun _ z=>z.reverse):=fun W c z xv _ hz hx=>avq W c xv z L hx (hr z (List.mem_of_getElem? hz))
 have K1:=hide (ani w v rows L L h hl _ avu #[] _ hT);obtain⟨ao,cp,rfl,_⟩:=h.parts;clear h hT hr;obtain⟨n,hnn⟩:∃n,rows.length=n:=⟨_,rfl⟩;rw[hnn]at K1 hl ⊢;have HN:=hide hnn;clear hnn;go_enter Tryz.func34,Tryz.ntmps34
 go_wp2_with fail
 refine K1.out.mono ?_;rintro e w1 ⟨rfl,⟨vs,hT⟩,hb⟩;have K2:=amn w1 w.heap.size n vs hT.ol hT.slc;rw[hT.len]at K2;have K2:=hide K2;have HT:=hide hT;have HB:=hide hb;clear hT hb K1;go_wp2_with fail
 refine K2.out.mono ?_;rintro e w2 ⟨rfl,hO,ht,hr⟩;have hT2:=HT.out.rev (by rw[avs,HN.out]) hO ht hr;rw[avt]at hT2;have HX:=hide (And.intro (hT2.isM (by rw[ajq,HN.out])) (HB.out.trans (ht.below HB.out.size (Nat.le_refl _))));clear hO ht hr hT2 K2;go_wp2;refine bodyPost_ret (v:=_) (by simp[results,Tryz.results34,go_sem];try rfl) rfl ⟨_,rfl,HX.out.1,HX.out.2⟩
end Lm
namespace Lm
open Go Go.RowKit Md
open Dm (WFr)
theorem avv(w:World):WFr 0 0 w false none 0 [] 0:=⟨⟨axp 0 w,⟨fun z hz=>(by cases hz),rfl⟩,rfl,fun h=>(by omega)⟩,by decide⟩
def ZE(w:World)(bv:Nat)(zs:List Int)(L:Nat):Prop:=∃es:List WE,w.heap[bv]? = some (.cells (flat es).toArray 60 (0,0))/\es.length=zs.length/\∀(k:Nat) (e:WE) (z:Int),es[k]? = some e->zs[k]? = some z->∃B T,WFr B T w e.ng e.a e.c e.zs z/\e.m=e.zs.length/\e.zs.length<=L/\T<=w.heap.size
theorem ZE.lt{w:World}{bv:Nat}{zs:List Int}{L:Nat}(h:ZE w bv zs L):bv<w.heap.size:=by
 obtain⟨es,h1,_⟩:=h;exact aaa h1
theorem ZE.below{w w':World}{bv:Nat}{zs:List Int}{L:Nat}(h:ZE w bv zs L)(hb:Below w.heap.size w w'):ZE w' bv zs L:=by
 obtain⟨es,h1,h2,h3⟩:=h;refine⟨es,(hb.block bv (aaa h1)).trans h1,h2,fun k e z he hz=>?_⟩;obtain⟨B,T,g1,g2,g3,g4⟩:=h3 k e z he hz;exact⟨B,T,g1.below hb,g2,g3,Nat.le_trans g4 hb.size⟩
theorem ZE.tch{g:Nat}{w w':World}{bv:Nat}{zs:List Int}{L:Nat}{c:Array Value}(h:ZE w bv zs L)(ht:Tch g w w')(hg:w.heap[g]? = some (.cells c 44 (0,0))):ZE w' bv zs L:=by
 obtain⟨es,h1,h2,h3⟩:=h;refine⟨es,ht.blk h1 (aa5 hg h1 (by decide)),h2,fun k e z he hz=>?_⟩;obtain⟨B,T,g1,g2,g3,g4⟩:=h3 k e z he hz;exact⟨B,T,afd g1 ht hg (by decide),g2,g3,Nat.le_trans g4 ht.size⟩
theorem ZE.start{w:World}{bv n:Nat}{L:Nat}(h:w.heap[bv]? = some (.cells (flat (List.replicate n ⟨false,none,0,0,[]⟩)).toArray 60 (0,0))):ZE w bv (List.replicate n 0) L:=by
 refine⟨_,h,by simp,fun k e z he hz=>?_⟩;rw[List.getElem?_replicate]at he hz;split at he
 ·rename_i hk;rw[if_pos hk]at hz;obtain rfl:=Option.some.inj he;obtain rfl:=Option.some.inj hz;exact⟨0,0,avv w,rfl,Nat.zero_le _,Nat.zero_le _⟩
 ·cases he
theorem ZE.cells{w:World}{bv:Nat}{zs:List Int}{L:Nat}(h:ZE w bv zs L){k:Nat}(hk:k<zs.length):(∃ng a m c,w.cell? ⟨bv,k*2,none⟩=some (.bool ng)/\w.cell? ⟨bv,k*2+1,none⟩=some (.slice a m c))/\w.frozen? ⟨bv,k*2,none⟩=false/\w.frozen? ⟨bv,k*2+1,none⟩=false:=by
 obtain⟨es,h2,h1,_⟩:=h;obtain⟨e,he⟩:∃e,es[k]? = some e:=⟨_,List.getElem?_eq_getElem (by omega)⟩;obtain⟨f1,f2⟩:=aau he;exact⟨⟨e.ng,e.a,e.m,e.c,by rw[cell_of_row _ _ _ _ _ (0,0) h2,List.getElem?_toArray];exact f1,by rw[cell_of_row _ _ _ _ _ (0,0) h2,List.getElem?_toArray];exact f2⟩,frozen_of_row _ _ _ _ _ h2,frozen_of_row _ _ _ _ _ h2⟩
theorem ZE.put{w:World}{bv:Nat}{zs:List Int}{L:Nat}(h:ZE w bv zs L){k:Nat}(hk:k<zs.length){z:Int}{ng:Bool}{a:Option Addr}{m c K:Nat}(hv:FrW K z L (.agg #[.bool ng,.slice a m c]) w):
  ZE ((w.setCell ⟨bv,k*2,none⟩ (.bool ng)).setCell ⟨bv,k*2+1,none⟩ (.slice a m c)) bv (zs.set k z) L/\Tch bv w ((w.setCell ⟨bv,k*2,none⟩ (.bool ng)).setCell ⟨bv,k*2+1,none⟩ (.slice a m c)):=by
 obtain⟨es,h1,h2,h3⟩:=h;obtain⟨ng',ao',cap',rs,B',T',hv1,hv2,hv3,hv4,hv5⟩:=hv;simp only[Value.agg.injEq,Array.mk.injEq,List.cons.injEq,Value.bool.injEq,Value.slice.injEq,and_true]at hv1;obtain⟨rfl,rfl,rfl,rfl⟩:=hv1;have ht:=ah0 w bv k ⟨ng,a,rs.length,c,rs⟩;refine⟨⟨es.set k ⟨ng,a,rs.length,c,rs⟩,?_,by simp[h2],fun i e y he hy=>?_⟩,ht⟩
 ·rw[aeo es k _ (by omega)];have s1:=heap_setCell_same w bv (k*2) _ _ (.bool ng) h1;have s2:=heap_setCell_same _ bv (k*2+1) _ _ (.slice a rs.length c) s1;rw[s2];simp
 ·by_cases hik:i=k
  ·subst hik;rw[List.getElem?_set_self (by omega)]at he;rw[List.getElem?_set_self (by omega)]at hy;obtain rfl:=Option.some.inj he;obtain rfl:=Option.some.inj hy;exact⟨B',T',afd hv2 ht h1 (by decide),rfl,hv5,Nat.le_trans hv4 ht.size⟩
  ·rw[List.getElem?_set_ne (fun h=>hik h.symm)]at he hy;obtain⟨B,T,g1,g2,g3,g4⟩:=h3 i e y he hy;exact⟨B,T,afd g1 ht h1 (by decide),g2,g3,Nat.le_trans g4 ht.size⟩
theorem ZE.is{w:World}{bv:Nat}{zs:List Int}{L:Nat}(h:ZE w bv zs L)(hl:zs.length<=1000000):IsRow w (.slice (some ⟨bv,0,none⟩) zs.length zs.length) zs L:=by
 obtain⟨es,e2,e1,e4⟩:=h;have hz:∀(k:Nat) (e:WE),es[k]? = some e->∃z,zs[k]? = some z/\(∃B T,WFr B T w e.ng e.a e.c e.zs z)/\e.m=e.zs.length/\e.zs.length<=L:=by
  intro k e he;have hk:=(List.getElem?_eq_some_iff.1 he).1;obtain⟨z,hz⟩:∃z,zs[k]? = some z:=⟨_,List.getElem?_eq_getElem (by omega)⟩;obtain⟨B,T,g1,g2,g3,_⟩:=e4 k e z he hz;exact⟨z,hz,⟨B,T,g1⟩,g2,g3⟩
 refine⟨es,⟨⟨_,_,by rw[e1],by omega,by omega,aax es,?_⟩,?_⟩,?_,?_⟩
 ·refine .inr ⟨bv,0,rfl,aaa e2,fun j u hu=>?_⟩;rw[Nat.zero_add,cell_of_row _ _ _ _ _ (0,0) e2,List.getElem?_toArray];exact hu
 ·intro e he;obtain⟨k,hk⟩:=List.mem_iff_getElem?.1 he;obtain⟨z,_,⟨B,T,g1⟩,g2,_⟩:=hz k e hk;have:=g1.wh.sl;rwa[<-g2]at this
 ·apply List.ext_getElem?;intro k;rw[List.getElem?_map];cases hk:es[k]? with
  |none=>
   rw[List.getElem?_eq_none_iff]at hk;rw[Option.map_none,eq_comm,List.getElem?_eq_none_iff];omega
  |some e=>
   obtain⟨z,h1,⟨B,T,g1⟩,g2,_⟩:=hz k e hk;rw[h1,Option.map_some];congr 1;exact g1.wh.worth
 ·intro e he;obtain⟨k,hk⟩:=List.mem_iff_getElem?.1 he;obtain⟨z,_,_,_,g3⟩:=hz k e hk;exact g3
def ZRow(K:Nat)(w:World)(v:Value)(zs:List Int)(L:Nat):Prop:=∃bv,v=.slice (some ⟨bv,0,none⟩) zs.length zs.length/\K<=bv/\zs.length<=1000000/\ZE w bv zs L
theorem ZRow.below{K:Nat}{w w':World}{v:Value}{zs:List Int}{L:Nat}(h:ZRow K w v zs L)(hb:Below w.heap.size w w'):ZRow K w' v zs L:=by
 obtain⟨bv,e,hK,hl,h⟩:=h;exact⟨bv,e,hK,hl,h.below hb⟩
theorem ZRow.is{K:Nat}{w:World}{v:Value}{zs:List Int}{L:Nat}(h:ZRow K w v zs L):IsRow w v zs L:=by
 obtain⟨bv,rfl,hK,hl,h⟩:=h;exact h.is hl
theorem ZRow.grown{K:Nat}{w w':World}{v u:Value}{n:Nat}{xs:List Value}{z:List Int}{L:Nat}(h:ZRow K w u z L)(ho:w.ownsRow K 44 1 v n xs)(hg:w.grownBy w' v.ownBlock):ZRow K w' u z L:=by
 obtain⟨_,⟨rfl,_⟩|⟨g,cap,cur,rfl,_,hh,_⟩⟩:=ho
 ·exact h.below ((Below.refl _ _).grown hg (Nat.le_refl _) (fun k hk=>by cases hk))
 ·obtain⟨bv,e,hK,hl,h⟩:=h;exact⟨bv,e,hK,hl,h.tch (Tch.of_grown hg (fun k hk=>(Option.some.inj hk).symm)) hh⟩
def OwZ(K:Nat)(w:World)(rv:Value)(rows:List (List Int))(L:Nat):Prop:=∃vs:List Value,w.ownsRow K 44 1 rv rows.length vs/\∀(i:Nat) (u:Value) (z:List Int),vs[i]? = some u->rows[i]? = some z->ZRow K w u z L
theorem OwZ.below{K:Nat}{w w':World}{rv:Value}{rows:List (List Int)}{L:Nat}(h:OwZ K w rv rows L)(hb:Below w.heap.size w w'):OwZ K w' rv rows L:=by
 obtain⟨vs,h1,h2⟩:=h;exact⟨vs,ab3 h1 hb,fun i u z hu hz=>(h2 i u z hu hz).below hb⟩
theorem OwZ.is{K:Nat}{w:World}{rv:Value}{rows:List (List Int)}{L:Nat}(h:OwZ K w rv rows L):IsM w rv rows L:=by
 obtain⟨vs,h1,h2⟩:=h;exact⟨vs,Ce.own h1,fun i u z hu hz=>(h2 i u z hu hz).is⟩
theorem OwZ.app{K:Nat}{w w':World}{v v' u:Value}{rows:List (List Int)}{vs:List Value}{z:List Int}{L:Nat}(hv:w.ownsRow K 44 1 v rows.length vs)(hr:∀(i:Nat) (u:Value) (z:List Int),vs[i]? = some u->rows[i]? = some z->ZRow K w u z L)(hu:ZRow K w u z L)(ho:w'.ownsRow K 44 1 v' (rows.length+1) (vs ++ [u]))(hg:w.grownBy w' v.ownBlock):OwZ K w' v' (rows ++ [z]) L:=by
 have hvl:vs.length=rows.length:=by simpa using hv.1
 refine⟨vs ++ [u],by simpa using ho,fun i x y hx hy=>?_⟩;by_cases hi:i<rows.length
 ·rw[List.getElem?_append_left (by omega)]at hx hy;exact(hr i x y hx hy).grown hv hg
 ·by_cases he:i=rows.length
  ·subst he;rw[List.getElem?_append_right (Nat.le_refl _)]at hy;rw[List.getElem?_append_right (by omega),hvl]at hx;simp at hx hy;subst hx hy;exact hu.grown hv hg
  ·rw[List.getElem?_eq_none (by simp;omega)]at hy;cases hy
def acp(n:Nat)(R:List Md.Rw)(Q:List Nat)(c i:Nat):List Int:=gRow (fun k=>if k=c then D R Q else if k∈Q.reverse.take i then -D R (sub k c Q)else 0) n
theorem ato{n:Nat}{R:List Md.Rw}{Q:List Nat}{c:Nat}(hc:c<n):(List.replicate n 0).set c (D R Q)=acp n R Q c 0:=by
 apply List.ext_getElem?;intro k;unfold acp;by_cases hk:k<n
 ·rw[aa1 hk];by_cases e:k=c
  ·subst e;rw[List.getElem?_set_self (by simpa using hk),if_pos rfl]
  ·rw[List.getElem?_set_ne (fun h=>e h.symm),List.getElem?_replicate,if_pos hk,if_neg e,if_neg (by simp)]
 ·rw[List.getElem?_eq_none (by simp;omega),List.getElem?_eq_none (by rw[aao];omega)]
theorem avw{n:Nat}{R:List Md.Rw}{Q:List Nat}{c i p:Nat}(hp:Q.reverse[i]? = some p)(hpn:p<n)(hcQ:c∉Q):(acp n R Q c i).set p (-D R (sub p c Q))=acp n R Q c (i+1):=by
 have hpQ:p∈Q:=List.mem_reverse.1 (List.mem_of_getElem? hp);apply List.ext_getElem?;intro k;unfold acp;by_cases hk:k<n
 ·by_cases e:k=p
  ·subst e;rw[List.getElem?_set_self (by rw[aao];exact hk),aa1 hk,if_neg (fun e=>hcQ (by rw[<-e];exact hpQ)),if_pos ((aa7 hp).2 (.inr rfl))]
  ·rw[List.getElem?_set_ne (fun h=>e h.symm),aa1 hk,aa1 hk];congr 1;by_cases e2:k=c
   ·rw[if_pos e2,if_pos e2]
   ·rw[if_neg e2,if_neg e2];by_cases e3:k∈Q.reverse.take i
    ·rw[if_pos e3,if_pos ((aa7 hp).2 (.inl e3))]
    ·rw[if_neg e3,if_neg (fun h=>((aa7 hp).1 h).elim e3 e)]
 ·rw[List.getElem?_eq_none (by simp[aao];omega),List.getElem?_eq_none (by rw[aao];omega)]
theorem avx{n:Nat}{R:List Md.Rw}{Q:List Nat}{c:Nat}: acp n R Q c Q.length=gRow (acr R Q c) n:=by
 unfold acp acr;rw[List.take_of_length_le (by simp)];simp only[List.mem_reverse]
def acrT(n:Nat)(R:List Md.Rw)(Q:List Nat)(k:Nat):List (List Int):=((List.range k).filter (fun c=>decide (c∉Q))).map (fun c=>gRow (acr R Q c) n)
theorem ayj{n:Nat}{R:List Md.Rw}{Q:List Nat}{k:Nat}(h:k∈Q):acrT n R Q (k+1)=acrT n R Q k:=by
 unfold acrT;rw[List.range_succ,List.filter_append];simp[h]
theorem avy{n:Nat}{R:List Md.Rw}{Q:List Nat}{k:Nat}(h:k∉Q):acrT n R Q (k+1)=acrT n R Q k ++ [gRow (acr R Q k) n]:=by
 unfold acrT;rw[List.range_succ,List.filter_append];simp[h]
theorem avz(n:Nat)(R:List Md.Rw)(Q:List Nat)(k:Nat):(acrT n R Q k).length<=k:=by
 unfold acrT;rw[List.length_map];have:=List.length_filter_le (fun c=>decide (c∉Q)) (List.range k);simpa using this
theorem ayk:(Tryz.prog.info? 44).map (fun i=>(i.zero,i.size,i.bytes))=some (some (.slice none 0 0),1,24):=by kernel_rfl
theorem aqk(w:World)(q n L:Nat)(R:List Md.Rw)(Q:List Nat)(ra pa la:Option Addr)(rc pc lm lc:Nat)(ng:Bool)(hq:w.heap[q]? = some (.cells #[.slice ra Q.length rc,.slice pa Q.length pc,.bool ng,.slice la lm lc] 62 (0,0)))(hM:IsM w (.slice ra Q.length rc) (baR R Q n) L)(hP:IsP w (.slice pa Q.length pc) Q.reverse)(hF:FrW 0 (D R Q) L (.agg #[.bool ng,.slice la lm lc]) w)(hQ:∀p∈Q,p<n)(hn:n<=1000)(hL:L<=400000):
  Calls Tryz.prog 35 #[.pointer (some ⟨q,0,none⟩),.int .i64 (n:Int)] w fun e w'=>∃r,e=.returned r/\IsM w' r (acrR n R Q) L/\Below w.heap.size w w':=by
 obtain⟨iW,hi,hz0,hz1,hz2⟩:=info_parts infoWz;obtain⟨iS,si,sz0,sz1,sz2⟩:=info_parts ayk;have HQ:=hide hq;have HM:=hide hM;have HP:=hide hP;have HF:=hide hF;have HQn:=hide hQ;have hql:=aaa hq;have hQl:Q.length<=9223372036854775807:=by obtain⟨_,_,_,h⟩:=hP.parts;simpa using h
 clear hq hM hP hF hQ;go_enter Tryz.func35,Tryz.ntmps35
 go_wp2;go_loopw [5,6,7,8,9,11] (fun ov _ _ _ _ iv wr=>∃(k:Nat),iv=.int .i64 k/\k<=n/\Below w.heap.size w wr/\OwZ w.heap.size wr ov (acrT n R Q k) L) (fun _ _ _ _ _ iv _=>n-(intOf iv).toNat)
 case atStart=>exact⟨0,rfl,Nat.zero_le _,Below.refl _ _,⟨[],World.ownsRow_nil _ _ _ _,fun i u z hu=>(by simp at hu)⟩⟩
 case round=>
  obtain⟨k,rfl,hk,hbw,hO⟩:=hrel;obtain⟨oa,oc,rfl,hol⟩:=hO.is.parts;have HW:=hide hbw;have HO:=hide hO;have hq1:=(hbw.block q hql).trans HQ.out;have hqw:q<wr.heap.size:=Nat.lt_of_lt_of_le hql hbw.size;have q0:=cell_of_row _ _ 0 _ _ (0,0) hq1;have q1:=cell_of_row _ _ 1 _ _ (0,0) hq1;have q2:=cell_of_row _ _ 2 _ _ (0,0) hq1;have q3:=cell_of_row _ _ 3 _ _ (0,0) hq1;simp at q0 q1 q2 q3;by_cases hlt:k<n
  ·have hlt':(k:Int)<(n:Int):=by omega
   have KC:=agf wr pa Q.length pc _ (k:Int) (HP.out.below hbw).nums;by_cases hkQ:k∈Q
   ·rw[decide_eq_true ((aht k Q.reverse).2 (List.mem_reverse.2 hkQ))]at KC;have KC:=hide KC;clear hbw hO hq1;go_wp2_with fail
    refine KC.out.mono ?_;rintro e w1 ⟨rfl,rfl⟩;clear KC;go_wp2;go_roundw
    case rel=>exact⟨k+1,by go_num,by omega,HW.out,by rw[ayj hkQ];exact HO.out⟩
    case measure=>simp[intOf];omega
   ·rw[decide_eq_false (fun h=>hkQ (List.mem_reverse.1 ((aht k Q.reverse).1 h)))]at KC;have KC:=hide KC;clear hbw hO hq1;go_wp2_with fail
    refine KC.out.mono ?_;rintro e w1 ⟨rfl,rfl⟩;clear KC;go_wp2_with (refine wpList_make_full _ rfl (.tmp 20) (.tmp 20) 44 rfl w1.heap.size 60 iW (.agg #[.bool false,.slice none 0 0]) 2 Tryz.underlying44 hi hz0 hz1 .i64 .i64 _ _ n rfl rfl (by omega) (by omega) (by rw[hz2];omega) (by unfold maxLen;omega) (Nat.le_refl _) ?hK)
    case hK=>
     intro w2 hown hgrow;have hb2:Below w1.heap.size w1 w2:=(Below.refl _ _).grown hgrow (Nat.le_refl _) (by simp);obtain⟨_,hmb⟩:=ade hown;rw[afv]at hmb;have hZ0:=ZE.start (L:=L) hmb;obtain⟨⟨ngp,ap,mp,cp,p0,p1⟩,pf0,pf1⟩:=hZ0.cells (k:=k) (by simp;omega);have hput:=hZ0.put (k:=k) (by simp;omega) (HF.out.ru (Ru.of_below (HW.out.trans (hb2.mono HW.out.size))));rw[ato hlt]at hput;have hB3:=hb2.trans (hput.2.below hb2.size (Nat.le_refl _));have HS:=hide (And.intro hput.1 hB3);replace q1:=(hb2.cell (p:=⟨q,1,none⟩) hqw).trans q1;replace q2:=(hb2.cell (p:=⟨q,2,none⟩) hqw).trans q2;replace q3:=(hb2.cell (p:=⟨q,3,none⟩) hqw).trans q3;have hzl:=hZ0.lt;clear hown hgrow hmb hZ0 hput hB3 hb2;have hne:¬q=w1.heap.size:=by omega
     go_wp2;go_loopw [8,9,34] (fun _ _ jv wj=>∃(j:Nat),jv=.int .i64 (j:Int)/\j<=Q.length/\Below w1.heap.size w1 wj/\ZE wj w1.heap.size (acp n R Q k j) L) (fun _ _ jv _=>Q.length-(intOf jv).toNat)
     case atStart=>exact⟨0,rfl,Nat.zero_le _,HS.out.2,HS.out.1⟩
     case round=>
      obtain⟨j,rfl,hj,hbj,hZ⟩:=hrel;have HBJ:=hide hbj;have HZ:=hide hZ;clear q1 q2 q3 p0 p1 pf0 pf1;by_cases hjl:j<Q.length
      ·have hjl':(j:Int)<(Q.length:Int):=by omega
       have HJ:=hide hjl;obtain⟨p,hp⟩:∃p,Q.reverse[j]? = some p:=⟨_,List.getElem?_eq_getElem (by simp;omega)⟩;have hpn:p<n:=HQn.out p (List.mem_reverse.1 (List.mem_of_getElem? hp));have hpn':(p:Int)<(n:Int):=by omega
       obtain⟨pb,po,rfl,hpl,y0⟩:=HP.out.cell hp;have hb0j:=HW.out.trans (hbj.mono HW.out.size);replace y0:=(hb0j.cell (p:=⟨pb,po+j,none⟩) hpl).trans y0;have hrow:(baR R Q n)[j]? = some (gRow (fun k=>D R (sub p k Q)) n):=by
        unfold baR;rw[List.getElem?_map,hp];rfl
       obtain⟨rb,ro,u,rfl,hrl,z0,hu⟩:=HM.out.cell hrow;replace z0:=(hb0j.cell (p:=⟨rb,ro+j,none⟩) hrl).trans z0;obtain⟨ua,uc,rfl,_⟩:=hu.parts;rw[aao]at hu z0;obtain⟨bx,ox,ngx,axx,mxx,cxx,rfl,hxl,x0,x1,hx⟩:=hu.cell (aa1 (g:=fun k=>D R (sub p k Q)) hlt);replace x0:=(hb0j.cell (p:=⟨bx,ox+k*2,none⟩) hxl).trans x0;replace x1:=(hb0j.cell (p:=⟨bx,ox+k*2+1,none⟩) hxl).trans x1;have KN:=hide (negF _ _ _ L (hx.ru (Ru.of_below hb0j)) hL);have q0:=(hbj.cell (p:=⟨q,0,none⟩) hqw).trans q0;have HPP:=hide hp;clear hbj hZ hp hrow hu hx hb0j;go_wp2_with fail
       refine KN.out.mono ?_;rintro e w4 ⟨v4,rfl,h4,hb4⟩;obtain⟨ng4,a4,m4,c4,rfl⟩:=h4.agg;have hZ4:=HZ.out.below hb4;have hal:(acp n R Q k j).length=n:=aao _ _;obtain⟨⟨ngp,ap,mp,cp,p0,p1⟩,pf0,pf1⟩:=hZ4.cells (k:=p) (by omega);have hput:=hZ4.put (k:=p) (by omega) h4;rw[avw HPP.out hpn hkQ]at hput;have hB4:=HBJ.out.trans (hb4.mono HBJ.out.size);have HS4:=hide (And.intro hput.1 (hB4.trans (hput.2.below hB4.size (Nat.le_refl _))));have hzl4:=hZ4.lt;clear h4 hb4 hZ4 hput hB4 KN y0 z0 x0 x1 q0;go_wp2;go_roundw
       case rel=>exact⟨j+1,by go_num,HJ.out,HS4.out.2,HS4.out.1⟩
       case measure=>have:=HJ.out;simp[intOf];omega
      ·have hjl':decide ((j:Int)<(Q.length:Int))=false:=by simp;omega
       have hje:j=Q.length:=by omega
       subst hje;rw[avx]at hZ;have hrl:(gRow (acr R Q k) n).length=n:=aao _ _;have hZR:ZRow w.heap.size wr (.slice (some ⟨w1.heap.size,0,none⟩) n n) (gRow (acr R Q k) n) L:=⟨w1.heap.size,by rw[hrl],HW.out.size,by rw[hrl];omega,hZ⟩;obtain⟨vs,hvs,hvr⟩:=HO.out.below hbj;obtain⟨kl,hkl⟩:∃kl,(acrT n R Q k).length=kl:=⟨_,rfl⟩;have hkll:=avz n R Q k;rw[hkl]at hvs hkll ⊢;have HV:=hide (And.intro hvs (And.intro hvr (And.intro hZR hkl)));have hbl4:=hAl wr (.cells #[.slice (some ⟨w1.heap.size,0,none⟩) n n] 44);have hlow:=Nat.le_trans HW.out.size hbj.size;clear hvr hZR hZ hbj hkl HZ;go_wp2_with (at_builtin;refine wpList_append_own _ rfl (.tmp 54) (.tmp 56) 22 rfl w.heap.size 44 iS (.slice none 0 0) 1 24 Tryz.underlying22 si sz0 sz1 sz2 rfl (by decide) _ _ _ rfl (hvs.alloc _) ⟨wr.heap.size,0,none⟩ 1 1 [.slice (some ⟨w1.heap.size,0,none⟩) n n] rfl rfl (cell_one_new _ _ _) ?c2 ?c3 ?c4 ?c5 ?_)
       case c2=>first|rfl|(intro x hx;simp at hx;subst hx;rfl)
       case c3=>unfold maxLen;omega
       case c4=>omega
       case c5=>simp;omega
       intro v5 w5 hown5 hgrow5 _;obtain⟨hv1,hv2,hv3,hv4⟩:=HV.out;have hA:=OwZ.app (v:=.slice oa kl oc) (rows:=acrT n R Q k) (by rw[hv4];exact hv1.alloc _) (fun i u z a b=>(hv2 i u z a b).below hbl4) (hv3.below hbl4) (by rw[hv4];exact hown5) hgrow5;have hbx:Below w.heap.size w w5:=(HW.out.trans (HBJ.out.mono HW.out.size)).trans ((hbl4.mono hlow).trans ((Below.refl _ _).grown hgrow5 (Nat.le_trans hlow hbl4.size) (fun j hj=>(hv1.lt j hj).1)));rw[<-avy hkQ]at hA;have HFin:=hide (And.intro hA hbx);clear hown5 hgrow5 hv1 hv2 hv3 hv4 hA hbx hvs hbl4;go_wp2;go_roundw
       case rel=>exact⟨k+1,by go_num,by omega,HFin.out.2,HFin.out.1⟩
       case measure=>simp[intOf];omega
  ·have hlt':decide ((k:Int)<(n:Int))=false:=by simp;omega
   have hkn:k=n:=by omega
   subst hkn;have HFin:=hide (And.intro hO.is hbw);clear hbw hO hq1 q0 q1 q2 q3;go_wp2;refine bodyPost_ret (v:=_) (by simp[results,Tryz.results35,go_sem];try rfl) rfl ⟨_,rfl,HFin.out.1,HFin.out.2⟩
end Lm
namespace Lm
open Go Go.RowKit Md
theorem aju(n:Nat)(Q:List Nat):(free n Q).length<=n:=by
 unfold free;have:=List.length_filter_le (fun c=>decide (c∉Q)) (List.range n);simpa using this
end Lm
namespace Lm
open Go Go.RowKit
theorem ah1(a b:Int):IntKind.i64.wrap (IntKind.i64.wrap a+b)=IntKind.i64.wrap (a+b):=by
 rw[IntKind.wrap_i64,IntKind.wrap_i64,IntKind.wrap_i64];omega
theorem atp(a b:Int):IntKind.i64.wrap (a+IntKind.i64.wrap b)=IntKind.i64.wrap (a+b):=by
 rw[IntKind.wrap_i64,IntKind.wrap_i64,IntKind.wrap_i64];omega
theorem ayl{a:Int}(h:0<=a)(h':a<=9223372036854775807):IntKind.i64.wrap a=a:=by
 rw[IntKind.wrap_i64];omega
theorem av0(w:World)(ax:Option Addr)(mx cx:Nat)(xs:List WE)(R:Rw w (.slice ax mx cx) xs)(hm:∀e∈xs,e.m<=35184372088832):
  Calls Tryz.prog 19 #[.slice ax mx cx] w fun e w'=>e=.returned (.int .i64 (IntKind.i64.wrap (lenW xs:Int)))/\Below w.heap.size w w':=by
 have HX:=hide R;have HNx:Hid (mx=xs.length):=R.parts.1;have hml:mx<=9223372036854775807:=by have:=R.parts;omega
 have HMM:=hide hm;clear R hm;go_enter Tryz.func19,Tryz.ntmps19
 go_wp2_with fail
 go_loopw [3,4] (fun sv iv wr=>∃(k:Nat) (s:Int),iv=.int .i64 k/\k<=mx/\sv=.int .i64 s/\s=IntKind.i64.wrap (lenW (xs.take k):Int)/\Below w.heap.size w wr) (fun _ iv _=>mx-(intOf iv).toNat)
 case atStart=>exact⟨0,0,rfl,Nat.zero_le _,rfl,rfl,Below.refl _ _⟩
 case round=>
  obtain⟨k,s,rfl,hk,rfl,hsw,hbw⟩:=hrel;have HSW:=hide hsw;by_cases hlt:k<mx
  ·have hlt':(k:Int)<(mx:Int):=by omega
   have HLT:=hide hlt;obtain⟨ex,hex⟩:∃e,xs[k]? = some e:=⟨_,List.getElem?_eq_getElem (by have:=HNx.out;omega)⟩;obtain⟨bx,ox,hAx,hlx0,hcx⟩:=HX.out.cells (by have:=HNx.out;omega);subst hAx;have hlx:bx<wr.heap.size:=Nat.lt_of_lt_of_le hlx0 hbw.size;have x0:=(hbw.cell (p:=⟨bx,ox+k*2,none⟩) hlx0).trans (hcx _ _ (aau hex).1);have x1:wr.cell? ⟨bx,ox+k*2+1,none⟩=some (.slice ex.a ex.m ex.c):=(hbw.cell (p:=⟨bx,ox+k*2+1,none⟩) hlx0).trans (hcx _ _ (aau hex).2);have hs:=ary hex;have hem:=HMM.out ex (List.mem_of_getElem? hex);have HW:=hide hbw;have K1:=hide (at4 wr ex.ng ex.a ex.m ex.c (by omega));obtain⟨t,hadd⟩:∃t,IntKind.i64.wrap (s+(1+(ex.m:Int)))=t:=⟨_,rfl⟩;have HT:Hid (t=IntKind.i64.wrap (lenW (xs.take (k+1)):Int)):=(show t=_ by
    rw[<-hadd,HSW.out,ah1,hs]
    first|done|rfl|(congr 1;omega)|simp)
   clear hbw hs hsw hex hcx hlx;go_wp2_with fail
   refine K1.out.mono ?_;rintro e w2 ⟨rfl,hb2⟩;have HB2:=hide (HW.out.trans (hb2.mono HW.out.size));clear hb2 x0 x1 hlx0;go_wp2;go_roundw
   case rel=>exact⟨k+1,t,by go_num,HLT.out,rfl,HT.out,HB2.out⟩
   case measure=>have:=HLT.out;simp[intOf];omega
  ·have hlt':decide ((k:Int)<(mx:Int))=false:=by simp;omega
   have hkn:k=mx:=by omega
   subst hkn;have HW:=hide hbw;clear hbw hsw;go_wp2;refine bodyPost_ret (v:=_) (acd rfl rfl) rfl ⟨?_,HW.out⟩;have:=HSW.out;rw[List.take_of_length_le (by have:=HNx.out;omega)]at this;rw[<-this];rfl
theorem atq(w:World)(v:Value)(ess:List (List WE))(h:RwM w v ess)(hm:∀es∈ess,∀e∈es,e.m<=35184372088832):
  Calls Tryz.prog 7 #[v] w fun e w'=>e=.returned (.int .i64 (IntKind.i64.wrap (lenM ess:Int)))/\Below w.heap.size w w':=by
 obtain⟨ax,cx,rfl,hnl⟩:=h.parts;have HX:=hide h;have HMM:=hide hm;obtain⟨n,hn⟩:∃n,ess.length=n:=⟨_,rfl⟩;rw[hn]at HX hnl ⊢;have HN:=hide hn;clear h hn hm;go_enter Tryz.func7,Tryz.ntmps7
 go_wp2_with fail
 go_loopw [3,4] (fun sv iv wr=>∃(k:Nat) (s:Int),iv=.int .i64 k/\k<=n/\sv=.int .i64 s/\s=IntKind.i64.wrap (lenM (ess.take k):Int)/\Below w.heap.size w wr) (fun _ iv _=>n-(intOf iv).toNat)
 case atStart=>exact⟨0,0,rfl,Nat.zero_le _,rfl,rfl,Below.refl _ _⟩
 case round=>
  obtain⟨k,s,rfl,hk,rfl,hsw,hbw⟩:=hrel;have HW:=hide hbw;have HSW:=hide hsw;by_cases hlt:k<n
  ·have hlt':(k:Int)<(n:Int):=by omega
   have HLT:=hide hlt;obtain⟨es,hes⟩:∃e,ess[k]? = some e:=⟨_,List.getElem?_eq_getElem (by have:=HN.out;omega)⟩;obtain⟨b,off,u,rfl,hbl,x0,hR⟩:=HX.out.cell hes;obtain⟨ua,uc,rfl⟩:=hR.slc;replace x0:=(hbw.cell (p:=⟨b,off+k,none⟩) hbl).trans x0;have hs:=ata hes;have K1:=av0 wr ua _ uc es (hR.below hbw) (HMM.out es (List.mem_of_getElem? hes));obtain⟨t,ht⟩:∃t,IntKind.i64.wrap (lenW es:Int)=t:=⟨_,rfl⟩;rw[ht]at K1;have K1:=hide K1;obtain⟨s1,hadd1⟩:∃s1,IntKind.i64.wrap (s+1)=s1:=⟨_,rfl⟩;obtain⟨s2,hadd2⟩:∃s2,IntKind.i64.wrap (s1+t)=s2:=⟨_,rfl⟩;have HS:Hid (s2=IntKind.i64.wrap (lenM (ess.take (k+1)):Int)):=(show s2=_ by
    rw[<-hadd2,<-ht,<-hadd1,HSW.out,atp,ah1,Int.add_assoc,ah1,hs]
    first|done|rfl|(congr 1;omega)|simp)
   clear hbw hs hsw hR hes ht;go_wp2_with fail
   refine K1.out.mono ?_;rintro e w2 ⟨rfl,hb2⟩;have HB2:=hide (HW.out.trans (hb2.mono HW.out.size));clear hb2 K1 x0;go_wp2;go_roundw
   case rel=>exact⟨k+1,s2,by go_num,HLT.out,rfl,HS.out,HB2.out⟩
   case measure=>have:=HLT.out;simp[intOf];omega
  ·have hlt':decide ((k:Int)<(n:Int))=false:=by simp;omega
   have hkn:ess.take k=ess:=List.take_of_length_le (by have:=HN.out;omega);rw[hkn]at HSW;clear hbw hsw;go_wp2;refine bodyPost_ret (v:=_) (by simp[results,Tryz.results7,go_sem];try rfl) rfl ⟨by rw[<-HSW.out],HW.out⟩
theorem aol{M:Nat}: ∀ {es:List WE},(∀e∈es,e.m<=M)->lenW es<=es.length*(1+M)
 | [],_=>Nat.zero_le _
 |e::es,h=>by
  have h1:=aol (es:=es) (fun x hx=>h x (by simp[hx]));have h2:=h e (by simp);have e1:lenW (e::es)=1+e.m+lenW es:=by simp[lenW]
  rw[e1,List.length_cons,Nat.add_mul];omega
theorem aom{M N:Nat}: ∀ {ess:List (List WE)},(∀es∈ess,es.length<=N/\∀e∈es,e.m<=M)->lenM ess<=ess.length*(1+N*(1+M))
 | [],_=>Nat.zero_le _
 |es::ess,h=>by
  have h1:=aom (ess:=ess) (fun x hx=>h x (by simp[hx]));obtain⟨h2,h3⟩:=h es (by simp);have h4:=aol h3;have h5:es.length*(1+M)<=N*(1+M):=Nat.mul_le_mul_right _ h2;have e1:lenM (es::ess)=1+lenW es+lenM ess:=by simp[lenM]
  rw[e1,List.length_cons,Nat.add_mul];omega
theorem RwM.isM_s{w:World}{v:Value}{ess:List (List WE)}(h:RwM w v ess){L:Nat}(hl:∀es∈ess,∀e∈es,e.m<=L):IsM w v (zsM ess) L:=by
 obtain⟨vs,h1,h2⟩:=h;refine⟨vs,by simpa[zsM]using h1,fun i u z hu hz=>?_⟩;unfold zsM at hz;rw[List.getElem?_map]at hz;obtain⟨es,he,rfl⟩:=Option.map_eq_some_iff.1 hz;have hR:=h2 i u es hu he;refine⟨es,hR,rfl,fun e hx=>?_⟩;obtain⟨ao,cap,hv,_⟩:=hR.sl e hx;obtain⟨_,hm,_⟩:=(Value.slice.injEq .. ▸ hv);have:=hl es (List.mem_of_getElem? he) e hx;omega
theorem aql{ess:List (List WE)}{cols:Int}(hs:Shaped (zsM ess) cols)(hm:∀es∈ess,∀e∈es,e.m<=35184372088832):lenM ess<=100000000000000000:=by
 have h1:ess.length<=64:=by have:=hs.2.2.1;simpa[zsM]using this
 have h2:=aom (M:=35184372088832) (N:=32) (ess:=ess) (fun es he=>⟨by
  have h3:=hs.2.2.2 (es.map WE.z) (List.mem_map.2 ⟨es,he,rfl⟩);have h4:=hs.2.1;rw[List.length_map]at h3
  omega,hm es he⟩)
 have h3:ess.length*(1+32*(1+35184372088832))<=64*(1+32*(1+35184372088832)):=Nat.mul_le_mul_right _ h1;omega
end Lm
namespace Lm
open Go Go.RowKit Md
theorem IsM.wide{w:World}{v:Value}{rows:List (List Int)}{L M:Nat}(h:IsM w v rows L)(hl:L<=M):IsM w v rows M:=by
 obtain⟨vs,h1,h2⟩:=h;exact⟨vs,h1,fun i u z a b=>(h2 i u z a b).wide hl⟩
end Lm
namespace Lm
open Go Go.RowKit Md
theorem a0g(w:World)(k:Int):Calls Tryz.prog 13 #[.int .i64 k] w fun e w'=>e=.returned (.int .i64 k)/\w'=w:=by
 go_enter Tryz.func13,Tryz.ntmps13
 go_wp2;go_ret;exact⟨rfl,rfl⟩
theorem least{P:Nat->Prop}(h:∃n,P n):∃n,P n/\∀m,P m->n<=m:=by
 obtain⟨n,hn⟩:=h;induction n using Nat.strongRecOn with
 |_ n ih=>
  by_cases hx:∃m,m<n/\P m
  ·obtain⟨m,hm,hp⟩:=hx;exact ih m hm hp
  ·exact⟨n,hn,fun m hp=>by
    by_cases h:n<=m
    ·exact h
    ·exact absurd ⟨m,by omega,hp⟩ hx⟩
open Classical in
noncomputable def bndB(f:Md.Rw):Nat:=if h:∃L,∀k,((f k).natAbs:Int)<pw L then Classical.choose (least h)else 0
theorem akl{f:Md.Rw}{L:Nat}(h:∀k,((f k).natAbs:Int)<pw L):(∀k,((f k).natAbs:Int)<pw (bndB f))/\bndB f<=L:=by
 have hx:∃L,∀k,((f k).natAbs:Int)<pw L:=⟨L,h⟩;have hs:=Classical.choose_spec (least hx);unfold bndB;rw[dif_pos hx];exact⟨hs.1,hs.2 L h⟩
theorem RwM.row{w:World}{v:Value}{ess:List (List WE)}(h:RwM w v ess):∀es∈ess,∃u,Rw w u es:=by
 intro es he;obtain⟨i,hi⟩:=List.mem_iff_getElem?.1 he;obtain⟨vs,h1,h2⟩:=h;obtain⟨_,_,_,_,_,h3,_⟩:=h1;obtain⟨u,hu⟩:∃u,vs[i]? = some u:=⟨_,List.getElem?_eq_getElem (by have:=(List.getElem?_eq_some_iff.1 hi).1;omega)⟩;exact⟨u,h2 i u es hu hi⟩
theorem aym{ess:List (List WE)}(h:∀es∈ess,∀z∈es.map WE.z,(z.natAbs:Int)<pw (lenW es)):sumB bndB ((zsM ess).map fnR)<=lenM ess:=by
 induction ess with
 |nil=>simp[zsM,sumB,lenM]
 |cons es ess ih=>
  have h1:=ih (fun x hx=>h x (by simp[hx]));have h2:=(akl (agk (h es (by simp)) (aak _))).2;simp only[zsM,List.map_cons,sumB,lenM]at h1 ⊢;omega
theorem azy{w:World}{v:Value}{ess:List (List WE)}{S:Nat}(h:RwM w v ess)(hS:lenM ess<=S):Bnd (zsM ess) S bndB:=by
 have hz:∀es∈ess,∀z∈es.map WE.z,(z.natAbs:Int)<pw (lenW es):=fun es he=>by
  obtain⟨u,hu⟩:=h.row es he;exact ada (amd hu (Nat.le_refl _))
 refine⟨fun r hr k=>?_,Nat.le_trans (aym hz) hS,fun r hr z hzz=>?_⟩
 ·obtain⟨es,he,rfl⟩:=List.mem_map.1 hr;exact(akl (agk (hz es he) (aak _))).1 k
 ·obtain⟨es,he,rfl⟩:=List.mem_map.1 hr;have h1:=hz es he z hzz;have h2:=ahy he;have h3:pw (lenW es)<=pw (S+1):=aaw (by omega);omega
theorem av1{es us:List WE}(h:SameR es us):es.map WE.z=us.map WE.z:=by
 have e:∀l:List WE,l.map WE.z=(l.map WE.raw).map fun p=>sg p.1 (val p.2):=fun l=>by rw[List.map_map];rfl
 rw[e,e,h]
theorem av2{es us:List WE}{L:Nat}(h:SameR es us)(hl:∀e∈us,e.zs.length<=L):∀e∈es,e.zs.length<=L:=by
 intro e he;have h1:e.raw∈us.map WE.raw:=by rw[<-h];exact List.mem_map_of_mem he
 obtain⟨u,hu,hr⟩:=List.mem_map.1 h1;have h2:u.zs=e.zs:=congrArg Prod.snd hr;rw[<-h2];exact hl u hu
theorem RwM.isM_z{w:World}{v:Value}{fss ess:List (List WE)}(h:RwM w v fss)(hS:SameM fss ess){L:Nat}(hl:∀es∈ess,∀e∈es,e.zs.length<=L):IsM w v (zsM ess) L:=by
 obtain⟨vs,h1,h2⟩:=h;refine⟨vs,by unfold zsM;rw[List.length_map,<-hS.1];exact h1,fun i u z a b=>?_⟩;unfold zsM at b;rw[List.getElem?_map]at b;obtain⟨es,hes,rfl⟩:=Option.map_eq_some_iff.1 b;obtain⟨fs,hfs⟩:∃fs,fss[i]? = some fs:=⟨_,List.getElem?_eq_getElem (by have:=(List.getElem?_eq_some_iff.1 hes).1;have:=hS.1;omega)⟩;have hR:=hS.2 i fs es hfs hes;exact⟨fs,h2 i u fs a hfs,av1 hR,av2 hR (hl es (List.mem_of_getElem? hes))⟩
theorem OtE.kq{K p:Nat}{w w':World}{v:Value}{ess:List (List WE)}(h:OtE K w v ess)(hp:p<K)(hk:∀k,k<w.heap.size->k≠p->w'.heap[k]? = w.heap[k]?):OtE K w' v ess:=by
 have own:∀ {e size n:Nat} {v:Value} {xs:List Value},w.ownsRow K e size v n xs->w'.ownsRow K e size v n xs:=fun {e size n v xs} h=>by
  obtain⟨h1,h2|⟨g,cap,cur,e1,e2,e3,e4⟩⟩:=h
  ·exact⟨h1,.inl h2⟩
  ·exact⟨h1,.inr ⟨g,cap,cur,e1,e2,(hk g (aaa e3) (by omega)).trans e3,e4⟩⟩
 obtain⟨vs,h1,h2⟩:=h;refine⟨vs,own h1,fun i u es a b=>⟨own (h2 i u es a b).own,fun e he=>?_⟩⟩;obtain⟨ao,cap,hv,g1,g2,g3,g4⟩:=(h2 i u es a b).ow e he;refine⟨ao,cap,hv,g1,g2,g3,?_⟩;rcases g4 with g4|⟨k,off,cur,rfl,hB,hh,g5,g6⟩
 ·exact .inl g4
 ·exact .inr ⟨k,off,cur,rfl,hB,(hk k (aaa hh) (by omega)).trans hh,g5,g6⟩
end Lm
namespace Lm
open Go Go.RowKit Md
theorem RdI.rows_in{n:Nat}{rows m:List (List Int)}{R X:List Md.Rw}{Q:List Nat}(h:RdI n rows n m R Q X)(hrn:∀r∈rows,r.length=n):∀r∈rows,RS R (fnR r):=fun r hr=>by
 have hmem:∀x,x∈R++X->∃r∈rows,x=fnR r:=fun x hx=>by
  obtain⟨r,hr,e⟩:=List.mem_map.1 (h.perm.mem_iff.1 hx);exact⟨r,hr,e.symm⟩
 have hx:=h.perm.mem_iff.2 (List.mem_map.2 ⟨r,hr,rfl⟩);rcases List.mem_append.1 hx with hx|hx
 ·exact .mem hx
 ·refine anw (abl h.gat.desc) h.gat.ne (fun c=>?_);by_cases hc:c<n
  ·exact h.zero _ hx c hc
  ·refine ama (agz (fnR r::R) Q) (fun y hy=>?_);obtain⟨s,hs,rfl⟩:=hmem y (by rcases List.mem_cons.1 hy with rfl|hy;exact List.mem_append.2 (.inr hx);exact List.mem_append.2 (.inl hy));exact ado (by rw[hrn s hs];omega)
theorem RdI.rs_rows{n:Nat}{rows m:List (List Int)}{R X:List Md.Rw}{Q:List Nat}(h:RdI n rows n m R Q X)(hrn:∀r∈rows,r.length=n)(x:Md.Rw):RS R x↔RS (rows.map fnR) x:=by
 refine⟨fun hx=>hx.trans fun y hy=>?_,fun hx=>hx.trans fun y hy=>?_⟩
 ·exact .mem (h.perm.mem_iff.1 (List.mem_append.2 (.inl hy)))
 ·obtain⟨r,hr,rfl⟩:=List.mem_map.1 hy;exact h.rows_in hrn r hr
end Lm
namespace Lm
open Go Go.RowKit Md
theorem av3{c d N:Int}(hc:0<c)(hd:0<d)(h1:c ∣ N)(h2:d ∣ N):c*(d/((Int.gcd c d:Nat):Int)) ∣ N:=by
 obtain⟨a,rfl⟩:∃a:Nat,c=(a:Int):=⟨c.toNat,by omega⟩;obtain⟨b,rfl⟩:∃b:Nat,d=(b:Int):=⟨d.toNat,by omega⟩;have e:(a:Int)*((b:Int)/((Int.gcd (a:Int) (b:Int):Nat):Int))=((Nat.lcm a b:Nat):Int):=by
  rw[show Int.gcd (a:Int) (b:Int)=Nat.gcd a b from by simp[Int.gcd],Nat.lcm,Nat.mul_div_assoc _ (Nat.gcd_dvd_right a b)];simp
 rw[e];have:=Nat.lcm_dvd (Int.ofNat_dvd_left.1 h1) (Int.ofNat_dvd_left.1 h2);exact Int.ofNat_dvd_left.2 this
theorem aiz{rs:List Rat}{N:Int}(h:∀r∈rs,(r.den:Int) ∣ N):comR rs ∣ N:=by
 have key:∀(l:List Rat) (c:Int),0<c->c ∣ N->(∀r∈l,(r.den:Int) ∣ N)->l.foldl (fun c r=>c*((r.den:Int)/((Int.gcd c r.den:Nat):Int))) c ∣ N:=by
  intro l;induction l with
  |nil=>intro c _ h1 _;exact h1
  |cons r l ih=>
   intro c hc h1 h2;have hp:=den_pos r;have h3:=av3 hc hp h1 (h2 r (by simp));refine ih _ ?_ h3 (fun x hx=>h2 x (by simp[hx]));have hg:(0:Int)<((Int.gcd c r.den:Nat):Int):=by
    have:=Int.gcd_pos_of_ne_zero_left (r.den:Int) (show c≠0 by omega);omega
   have hq:0<(r.den:Int)/((Int.gcd c r.den:Nat):Int):=Int.ediv_pos_of_pos_of_dvd hp (by omega) (Int.gcd_dvd_right ..);exact Int.mul_pos hc hq
 exact key rs 1 (by omega) (Int.one_dvd _) h
theorem ai0{a d:Int}(hd:d≠0):(Rat.divInt a d).num*d=a*((Rat.divInt a d).den:Int):=by
 have h:=Rat.num_divInt_den (Rat.divInt a d);have hn:((Rat.divInt a d).den:Int)≠0:=by have:=den_pos (Rat.divInt a d);omega
 exact(Rat.divInt_eq_divInt_iff hn hd).1 h
theorem aqm{a d:Int}(hd:d≠0):((Rat.divInt a d).den:Int) ∣ d:=by
 have h:=ai0 (a:=a) hd;have h1:((Rat.divInt a d).den:Int) ∣ (Rat.divInt a d).num*d:=⟨a,by rw[h,Int.mul_comm]⟩;have hc:=(Rat.divInt a d).reduced;have h2:(Rat.divInt a d).den ∣ (Rat.divInt a d).num.natAbs*d.natAbs:=by
  have:=Int.natAbs_dvd_natAbs.2 h1;rw[Int.natAbs_mul]at this;simpa using this
 have h3:=Nat.Coprime.dvd_of_dvd_mul_left (Nat.Coprime.symm hc) h2;exact Int.ofNat_dvd_left.2 h3
theorem aqn{n:Nat}{f:Nat->Int}{d:Int}(hd:d≠0):(∀k,((comR (((List.range n).map (fun k=>Rat.divInt (f k) d)).take k)).natAbs:Int)<=(d.natAbs:Int))/\(∀z∈clr ((List.range n).map (fun k=>Rat.divInt (f k) d)),∃k,k<n/\(z.natAbs:Int)<=((f k).natAbs:Int))/\canonZ ((List.range n).map (fun k=>Rat.divInt (f k) d))=red (gRow f n):=by
 obtain⟨rs,hrs⟩:∃rs,(List.range n).map (fun k=>Rat.divInt (f k) d)=rs:=⟨_,rfl⟩;have hden:∀r∈rs,(r.den:Int) ∣ d:=fun r hr=>by
  rw[<-hrs]at hr;obtain⟨k,_,rfl⟩:=List.mem_map.1 hr;exact aqm hd
 have hle:∀c:Int,c ∣ d->(c.natAbs:Int)<=(d.natAbs:Int):=fun c hc=>by
  have:=Nat.le_of_dvd (by omega) (Int.natAbs_dvd_natAbs.2 hc);omega
 rw[hrs];obtain⟨u,hu⟩:=aiz hden;have hun:u≠0:=fun h=>hd (by rw[hu,h,Int.mul_zero])
 have hcp:=al5 rs;have hdc:∀r∈rs,(r.den:Int) ∣ comR rs:=fun r hr=>by
  obtain⟨i,hi⟩:=List.mem_iff_getElem?.1 hr;have key:∀(l:List Rat) (c:Int),0<c->(∀x:Int,x ∣ c->x ∣ l.foldl (fun c r=>c*((r.den:Int)/((Int.gcd c r.den:Nat):Int))) c)/\∀r∈l,(r.den:Int) ∣ l.foldl (fun c r=>c*((r.den:Int)/((Int.gcd c r.den:Nat):Int))) c:=by
   intro l;induction l with
   |nil=>intro c _;exact⟨fun x hx=>hx,fun r hr=>(by cases hr)⟩
   |cons s l ih=>
    intro c hc;have hp:=den_pos s;have hg:(0:Int)<((Int.gcd c s.den:Nat):Int):=by
     have:=Int.gcd_pos_of_ne_zero_left (s.den:Int) (show c≠0 by omega);omega
    have hq:0<(s.den:Int)/((Int.gcd c s.den:Nat):Int):=Int.ediv_pos_of_pos_of_dvd hp (by omega) (Int.gcd_dvd_right ..);obtain⟨i1,i2⟩:=ih (c*((s.den:Int)/((Int.gcd c s.den:Nat):Int))) (Int.mul_pos hc hq);refine⟨fun x hx=>i1 x (Int.dvd_trans hx (Int.dvd_mul_right ..)),fun r hr=>?_⟩;rcases List.mem_cons.1 hr with rfl|hr
    ·refine i1 _ ?_;obtain⟨y,hy⟩:((Int.gcd c r.den:Nat):Int) ∣ c:=Int.gcd_dvd_left ..;refine⟨y,?_⟩;have h1:(r.den:Int)=((Int.gcd c r.den:Nat):Int)*((r.den:Int)/((Int.gcd c r.den:Nat):Int)):=(Int.mul_ediv_cancel' (Int.gcd_dvd_right ..)).symm;generalize (r.den:Int)/((Int.gcd c r.den:Nat):Int)=q at *
     generalize ((Int.gcd c r.den:Nat):Int)=g at *
     rw[h1,hy]
     grind
    ·exact i2 r hr
  exact(key rs 1 (by omega)).2 r hr
 have hat:∀k,k<n->rs[k]? = some (Rat.divInt (f k) d):=fun k hk=>by rw[<-hrs];simp[hk]
 have hu2:∀k,k<n->u*((Rat.divInt (f k) d).num*(comR rs/(Rat.divInt (f k) d).den))=f k:=fun k hk=>by
  have h1:=ai0 (a:=f k) hd;obtain⟨t,ht⟩:=hdc _ (List.mem_of_getElem? (hat k hk));have hp:=den_pos (Rat.divInt (f k) d);generalize (Rat.divInt (f k) d).num=x at *
  generalize ((Rat.divInt (f k) d).den:Int)=y at *
  have h2:comR rs/y=t:=by rw[ht];exact Int.mul_ediv_cancel_left _ (by omega)
  rw[h2];rw[hu,ht]at h1;refine Int.eq_of_mul_eq_mul_right (show y≠0 by omega) ?_
  grind
 refine⟨fun k=>hle _ (aiz fun r hr=>hden r (List.mem_of_mem_take hr)),fun z hz=>?_,?_⟩
 ·unfold clr at hz;obtain⟨r,hr,rfl⟩:=List.mem_map.1 hz;rw[<-hrs]at hr;obtain⟨k,hk,rfl⟩:=List.mem_map.1 hr;have hkn:=List.mem_range.1 hk;refine⟨k,hkn,?_⟩;have h1:=hu2 k hkn;have h2:((f k).natAbs:Int)=(u.natAbs:Int)*(((Rat.divInt (f k) d).num*(comR rs/(Rat.divInt (f k) d).den)).natAbs:Int):=by
   rw[<-Int.natCast_mul,<-Int.natAbs_mul,h1]
  rw[h2];have h4:1<=(u.natAbs:Int):=by omega
  have h3:(0:Int)<=(((Rat.divInt (f k) d).num*(comR rs/(Rat.divInt (f k) d).den)).natAbs:Int):=by omega
  have h5:=Int.mul_le_mul_of_nonneg_right h4 h3;rwa[Int.one_mul]at h5
 ·unfold canonZ;rw[<-ad2 u hun (clr rs)];congr 1;apply List.ext_getElem?;intro k;by_cases hk:k<n
  ·rw[aa1 hk,List.getElem?_map];unfold clr;rw[List.getElem?_map,hat k hk];exact congrArg some (hu2 k hk)
  ·rw[List.getElem?_eq_none (by simp[clr,<-hrs];omega),List.getElem?_eq_none (by rw[aao];omega)]
def nulO(n:Nat)(R:List Md.Rw)(Q:List Nat):List (List Int):=(free n Q).map (fun c=>red (gRow (acr R Q c) n))
theorem ah2{n:Nat}{R:List Md.Rw}{Q:List Nat}: ∀r∈nulO n R Q,r.length=n:=by
 intro r hr;obtain⟨c,_,rfl⟩:=List.mem_map.1 hr;rw[ag4,aao]
theorem ajv{n:Nat}{R:List Md.Rw}{Q:List Nat}(hQ:∀q∈Q,q<n){c:Nat}(hc:c<n):∀k,n<=k->acr R Q c k=0:=fun k hk=>by
 unfold acr;rw[if_neg (by omega),if_neg (fun h=>by have:=hQ k h;omega)]
theorem atr{f:Md.Rw}{n:Nat}(h:∀k,n<=k->f k=0):fnR (gRow f n)=f:=by
 funext c;by_cases hc:c<n
 ·unfold fnR;rw[List.getD_eq_getElem?_getD,aa1 hc];rfl
 ·rw[ado (by rw[aao];omega),h c (by omega)]
def Kern(n:Nat)(rows:List (List Int))(x:Md.Rw):Prop:=(∀c,n<=c->x c=0)/\∀r∈rows,dotN n (fnR r) x=0
theorem azz{R:List Md.Rw}{x:Md.Rw}{n:Nat}(h:RS R x)(hR:∀y∈R,∀c,n<=c->y c=0):∀c,n<=c->x c=0:=fun c hc=>by
 obtain⟨a,ha,hs⟩:=h;have:=ama hs (c:=c) (fun y hy=>hR y hy c hc);rcases Int.mul_eq_zero.1 this with h|h
 ·exact absurd h ha
 ·exact h
theorem ajw{n:Nat}{rows:List (List Int)}{S:List Md.Rw}(hS:∀y∈S,Kern n rows y){x:Md.Rw}(h:RS S x):Kern n rows x:=by
 refine⟨azz h fun y hy=>(hS y hy).1,fun r hr=>?_⟩;rw[alz];refine asq (fun y hy=>?_) h;rw[alz];exact(hS y hy).2 r hr
theorem RdI.nul{n:Nat}{rows m:List (List Int)}{R X:List Md.Rw}{Q:List Nat}(h:RdI n rows n m R Q X)(hrn:∀r∈rows,r.length=n)(x:Md.Rw):RS ((nulO n R Q).map fnR) x↔Kern n rows x:=by
 have hrow:∀c,c<n->fnR (gRow (acr R Q c) n)=acr R Q c:=fun c hc=>atr (ajv h.gat.lt hc)
 have hk:∀c,c<n->c∉Q->Kern n rows (acr R Q c):=fun c hc hcQ=>⟨ajv h.gat.lt hc,fun r hr=>by
  rw[an1 (abl h.gat.desc) h.gat.lt hc hcQ]
  exact ajh (h.rows_in hrn r hr) _⟩
 constructor
 ·refine ajw fun y hy=>?_
  obtain⟨r,hr,rfl⟩:=List.mem_map.1 hy;obtain⟨c,hc,rfl⟩:=List.mem_map.1 hr;have hf:=ab1.1 hc;have h1:RS [acr R Q c] (fnR (red (gRow (acr R Q c) n))):=by
   rw[atg,hrow c hf.1];exact .mem (by simp)
  have hz':∀z ∈ [acr R Q c],Kern n rows z:=fun z hz=>by
   obtain rfl:z=acr R Q c:=by simpa using hz
   exact hk c hf.1 hf.2
  exact ajw hz' h1
 ·rintro ⟨h1,h2⟩;have h3:=asr (abl h.gat.desc) h.gat.ne h.gat.lt h1 (fun y hy=>by
   obtain⟨r,hr,rfl⟩:=List.mem_map.1 (h.perm.mem_iff.1 (List.mem_append.2 (.inl hy)))
   exact h2 r hr)
  refine h3.trans fun y hy=>?_
  obtain⟨c,hc,rfl⟩:=List.mem_map.1 hy;have hf:=ab1.1 hc;have h4:RS ((nulO n R Q).map fnR) (fnR (red (gRow (acr R Q c) n))):=.mem (List.mem_map.2 ⟨_,List.mem_map.2 ⟨c,hc,rfl⟩,rfl⟩);rw[atg,hrow c hf.1]at h4;exact h4
theorem Ech.ker{n:Nat}{rows:List (List Int)}{R:List Md.Rw}{Q:List Nat}(h:Ech n (mir rows) R Q)(hrn:∀r∈rows,r.length=n)(x:Md.Rw):RS (rowsE (kerE n R Q)) x↔Kern n rows x:=by
 have hrr:∀r∈rows,RS R (rev n (fnR r)):=fun r hr=>by
  rw[<-aoc (hrn r hr)];exact h.rows_in (ajr.2 (by rw[List.reverse_reverse];exact hr))
 have hro:∀r∈rows,∀c,n<=c->fnR r c=0:=fun r hr c hc=>ado (by rw[hrn r hr];exact hc)
 constructor
 ·refine ajw fun y hy=>?_
  obtain⟨e,he,rfl⟩:=List.mem_map.1 hy;refine⟨avh e he,fun r hr=>?_⟩;obtain⟨c,hc,rfl⟩:=List.mem_map.1 he;have hf:=ab1.1 (List.mem_reverse.1 hc);show dotN n (fnR r) (rev n (acr R Q c))=0;rw[<-aof,ajj (ajv h.gat.lt hf.1),an1 (abl h.gat.desc) h.gat.lt hf.1 hf.2];exact ajh (hrr r hr) _
 ·rintro ⟨h1,h2⟩;have hv:∀c,n<=c->rev n x c=0:=fun c hc=>if_neg (by omega)
  have h3:=asr (y:=rev n x) (abl h.gat.desc) h.gat.ne h.gat.lt hv (fun y hy=>by
   obtain⟨r,hr,rfl⟩:=h.mem hy;have hr':=ajr.1 hr;have hl:r.length=n:=by have:=hrn _ hr';simpa using this
   have h5:=h2 _ hr';rw[aoc hl,<-aof,ajj (fun c hc=>ado (by rw[hl];exact hc))]at h5
   exact h5)
  have h4:=azl (n:=n) h3;rw[ajj h1]at h4;refine h4.trans fun y hy=>.mem ?_
  obtain⟨z,hz,rfl⟩:=List.mem_map.1 hy;obtain⟨c,hc,rfl⟩:=List.mem_map.1 hz;exact List.mem_map.2 ⟨(n-1-c,rev n (acr R Q c)),List.mem_map.2 ⟨c,List.mem_reverse.2 hc,rfl⟩,rfl⟩
theorem akm{n:Nat}{rows m m':List (List Int)}{R X R' X' Rk:List Md.Rw}{Q Q' Qk:List Nat}(h:RdI n rows n m R Q X)(hrn:∀r∈rows,r.length=n)(h':RdI n (nulO n R Q) n m' R' Q' X')(h3:Ech n (mir rows) Rk Qk):elR n (efOf R' Q')=elR n (kerE n Rk Qk):=by
 refine atb h'.gat.ef h3.gat.kerEF (fun e he=>?_) (fun e he=>?_)
 ·rw[h3.ker hrn];rw[<-h.nul hrn,<-h'.rs_rows ah2];exact .of (h'.gat.ef_in e he)
 ·refine h'.gat.in_ef ?_;rw[h'.rs_rows ah2,h.nul hrn,<-h3.ker hrn];exact .mem (List.mem_map.2 ⟨e,he,rfl⟩)
end Lm
namespace Lm
open Go Go.RowKit Md
theorem qset{w2:World}{bv i:Nat}{es:List WE}{ng:Bool}{a:Option Addr}{m c:Nat}(e2:w2.heap[bv]? = some (.cells (flat es).toArray 99 (0,0)))(hi:i<es.length):∃W,W=((w2.setCell ⟨bv,i*2,none⟩ (.bool ng)).setCell ⟨bv,i*2+1,none⟩ (.slice a m c))/\W.heap[bv]? = some (.cells (flat (es.set i ⟨ng,a,m,c,[]⟩)).toArray 99 (0,0))/\Rl w2 W/\(∀B,B<=bv->Below B w2 W)/\∀k,k≠bv->W.heap[k]? = w2.heap[k]? :=by
 refine⟨_,rfl,?_⟩;generalize hW:((w2.setCell ⟨bv,i*2,none⟩ (.bool ng)).setCell ⟨bv,i*2+1,none⟩ (.slice a m c))=W;have hbW:W.heap[bv]? = some (.cells (flat (es.set i ⟨ng,a,m,c,[]⟩)).toArray 99 (0,0)):=by
  rw[<-hW,aeo es i _ hi];have s1:=heap_setCell_same w2 bv (i*2) _ _ (.bool ng) e2;have s2:=heap_setCell_same _ bv (i*2+1) _ _ (.slice a m c) s1;rw[s2];simp
 have hot:∀k,k≠bv->W.heap[k]? = w2.heap[k]? :=fun k hn=>by rw[<-hW,heap_setCell_other _ ⟨bv,i*2+1,none⟩ k _ hn,heap_setCell_other _ ⟨bv,i*2,none⟩ k _ hn]
 have hsz:W.heap.size=w2.heap.size:=by rw[<-hW];simp[World.setCell]
 have hou:W.os=w2.os/\W.tape=w2.tape/\W.output=w2.output:=by rw[<-hW];exact⟨rfl,rfl,rfl⟩
 refine⟨hbW,⟨Nat.le_of_eq hsz.symm,fun q k y e=>?_,fun k cs T hT e=>?_⟩,fun B hB=>⟨hou.1,hou.2.1,hou.2.2,Nat.le_of_eq hsz.symm,fun k hk=>hot k (by omega)⟩,hot⟩
 ·by_cases hq:q.block=bv
  ·exfalso;obtain⟨qb,qo,qm⟩:=q;simp only at hq;subst hq;simp only[World.cell?,e2]at e;cases qm with
   |none=>exact al3 es qo k y (by simpa using e)
   |some m=>simp at e
  ·rw[World.cell?_of_block (w:=w2) (hot q.block hq)];exact e
 ·by_cases hk:k=bv
  ·exfalso;subst hk;rw[e2]at e;injection e with e;injection e with _ e _;rcases hT with rfl|rfl
   ·exact absurd e (by decide)
   ·exact absurd e (by decide)
  ·rw[hot k hk];exact e
def PFr(w:World)(bv n:Nat)(ok:Nat->Prop)(r:Nat->Rat)(L:Nat):Prop:=
 ∃fs:List WE,fs.length=2*n/\w.heap[bv]? = some (.cells (flat fs).toArray 99 (0,0))/\∀k,k<n->ok k->∃f g,fs[2*k]? = some f/\fs[2*k+1]? = some g/\OutN (r k).num L f.v w/\OutN ((r k).den:Int) L g.v w
theorem PFr.lt{w:World}{bv n:Nat}{ok:Nat->Prop}{r:Nat->Rat}{L:Nat}(h:PFr w bv n ok r L):bv<w.heap.size:=by
 obtain⟨fs,_,h2,_⟩:=h;exact aaa h2
theorem PFr.below{w w':World}{bv n:Nat}{ok:Nat->Prop}{r:Nat->Rat}{L:Nat}(h:PFr w bv n ok r L)(hb:Below w.heap.size w w'):PFr w' bv n ok r L:=by
 have hl:=h.lt;obtain⟨fs,h1,h2,h3⟩:=h;refine⟨fs,h1,(hb.block bv hl).trans h2,fun k hk ho=>?_⟩;obtain⟨f,g,f1,g1,o1,o2⟩:=h3 k hk ho;exact⟨f,g,f1,g1,o1.rl (Rl.of_below hb),o2.rl (Rl.of_below hb)⟩
theorem PFr.cells{w:World}{bv n:Nat}{ok:Nat->Prop}{r:Nat->Rat}{L:Nat}(h:PFr w bv n ok r L){k:Nat}(hk:k<n):(∃ng a m c mg d e f,w.cell? ⟨bv,k*4,none⟩=some (.bool ng)/\w.cell? ⟨bv,k*4+1,none⟩=some (.slice a m c)/\w.cell? ⟨bv,k*4+2,none⟩=some (.bool mg)/\w.cell? ⟨bv,k*4+3,none⟩=some (.slice d e f))/\w.frozen? ⟨bv,k*4,none⟩=false/\w.frozen? ⟨bv,k*4+1,none⟩=false/\w.frozen? ⟨bv,k*4+2,none⟩=false/\w.frozen? ⟨bv,k*4+3,none⟩=false:=by
 obtain⟨fs,h1,h2,_⟩:=h;obtain⟨f,hf⟩:∃e,fs[2*k]? = some e:=⟨_,List.getElem?_eq_getElem (by omega)⟩;obtain⟨g,hg⟩:∃e,fs[2*k+1]? = some e:=⟨_,List.getElem?_eq_getElem (by omega)⟩;obtain⟨f1,f2⟩:=aau hf;obtain⟨g1,g2⟩:=aau hg;rw[show 2*k*2=k*4 by omega]at f1 f2;rw[show(2*k+1)*2=k*4+2 by omega]at g1 g2;have hc:∀j,w.cell? ⟨bv,j,none⟩=(flat fs)[j]? :=fun j=>by rw[cell_of_row _ _ _ _ _ (0,0) h2,List.getElem?_toArray]
 exact⟨⟨_,_,_,_,_,_,_,_,(hc _).trans f1,(hc _).trans f2,(hc _).trans g1,(hc _).trans g2⟩,frozen_of_row _ _ _ _ _ h2,frozen_of_row _ _ _ _ _ h2,frozen_of_row _ _ _ _ _ h2,frozen_of_row _ _ _ _ _ h2⟩
def qput(w:World)(bv k:Nat)(ng:Bool)(a:Option Addr)(m c:Nat)(mg:Bool)(d:Option Addr)(e f:Nat):World:=(((w.setCell ⟨bv,k*4,none⟩ (.bool ng)).setCell ⟨bv,k*4+1,none⟩ (.slice a m c)).setCell ⟨bv,k*4+2,none⟩ (.bool mg)).setCell ⟨bv,k*4+3,none⟩ (.slice d e f)
theorem PFr.put{w:World}{bv n k:Nat}{ok:Nat->Prop}{r:Nat->Rat}{L:Nat}{x:Rat}{ng:Bool}{a:Option Addr}{m c:Nat}{mg:Bool}{d:Option Addr}{e f:Nat}(h:PFr w bv n ok r L)(hk:k<n)(h1:OutN x.num L (.agg #[.bool ng,.slice a m c]) w)(h2:OutN (x.den:Int) L (.agg #[.bool mg,.slice d e f]) w):
  PFr (qput w bv k ng a m c mg d e f) bv n (fun j=>ok j\/j=k) (fun j=>if j=k then x else r j) L/\(∀B,B<=bv->Below B w (qput w bv k ng a m c mg d e f))/\Rl w (qput w bv k ng a m c mg d e f)/\∀j,j≠bv->(qput w bv k ng a m c mg d e f).heap[j]? = w.heap[j]? :=by
 obtain⟨fs,e1,e2,e3⟩:=h;obtain⟨W1,hW1,hb1,hr1,hB1,ho1⟩:=qset (ng:=ng) (a:=a) (m:=m) (c:=c) (i:=2*k) e2 (by omega);obtain⟨W2,hW2,hb2,hr2,hB2,ho2⟩:=qset (ng:=mg) (a:=d) (m:=e) (c:=f) (i:=2*k+1) hb1 (by simp;omega);have hW:W2=qput w bv k ng a m c mg d e f:=by
  rw[hW2,hW1];unfold qput;rw[show 2*k*2=k*4 by omega,show(2*k+1)*2=k*4+2 by omega]
 rw[<-hW];refine⟨⟨_,by simp[e1],hb2,fun j hj ho=>?_⟩,fun B hB=>(hB1 B hB).trans (hB2 B hB),hr1.trans hr2,fun j hj=>(ho2 j hj).trans (ho1 j hj)⟩;by_cases hjk:j=k
 ·subst hjk;refine⟨⟨ng,a,m,c,[]⟩,⟨mg,d,e,f,[]⟩,?_,?_,?_,?_⟩
  ·rw[List.getElem?_set_ne (by omega),List.getElem?_set_self (by omega)]
  ·rw[List.getElem?_set_self (by simp;omega)]
  ·show OutN (if j=j then x else r j).num L _ _;rw[if_pos rfl];exact(h1.rl hr1).rl hr2
  ·show OutN ((if j=j then x else r j).den:Int) L _ _;rw[if_pos rfl];exact(h2.rl hr1).rl hr2
 ·rcases ho with ho|ho
  ·obtain⟨f',g',f1,g1,o1,o2⟩:=e3 j hj ho;refine⟨f',g',?_,?_,?_,?_⟩
   ·rw[List.getElem?_set_ne (by omega),List.getElem?_set_ne (by omega)];exact f1
   ·rw[List.getElem?_set_ne (by omega),List.getElem?_set_ne (by omega)];exact g1
   ·show OutN (if j=k then x else r j).num L _ _;rw[if_neg hjk];exact(o1.rl hr1).rl hr2
   ·show OutN ((if j=k then x else r j).den:Int) L _ _;rw[if_neg hjk];exact(o2.rl hr1).rl hr2
  ·exact absurd ho hjk
theorem PFr.mono{w:World}{bv n:Nat}{ok ok':Nat->Prop}{r r':Nat->Rat}{L:Nat}(h:PFr w bv n ok r L)(ho:∀k,k<n->ok' k->ok k/\r k=r' k):PFr w bv n ok' r' L:=by
 obtain⟨fs,h1,h2,h3⟩:=h;refine⟨fs,h1,h2,fun k hk hok=>?_⟩;obtain⟨a,b⟩:=ho k hk hok;rw[<-b];exact h3 k hk a
theorem PFr.row{w:World}{bv n:Nat}{ok:Nat->Prop}{r:Nat->Rat}{L:Nat}(h:PFr w bv n ok r L)(ho:∀k,k<n->ok k)(hn:n<=9223372036854775807):QRow w (.slice (some ⟨bv,0,none⟩) n n) ((List.range n).map r) L:=by
 have hlt:=h.lt;obtain⟨fs,h1,h2,h3⟩:=h;refine⟨fs,⟨_,_,by rw[List.length_map,List.length_range],by simp,hn,by rw[aax];simp;omega,.inr ⟨bv,0,rfl,hlt,fun j u hu=>?_⟩⟩,by simp[h1],fun k x hx=>?_⟩
 ·rw[Nat.zero_add,cell_of_row _ _ _ _ _ (0,0) h2,List.getElem?_toArray];exact hu
 ·have hk:k<n:=by have:=(List.getElem?_eq_some_iff.1 hx).1;simpa using this
  obtain rfl:r k=x:=by simpa[hk]using hx
  exact h3 k hk (ho k hk)
theorem PFr.start{w:World}{bv n:Nat}{r:Nat->Rat}{L:Nat}(h:w.heap[bv]? = some (.cells (flat (List.replicate (2*n) ⟨false,none,0,0,[]⟩)).toArray 99 (0,0))):PFr w bv n (fun _=>False) r L:=⟨_,by simp,h,fun k _ ho=>ho.elim⟩
theorem anj(w:World)(B:Nat)(v:Value)(xs:List Int)(h:Iv B w v xs)(c:Int)(hx:xs.length<=100000):
  Calls Tryz.prog 62 #[v,.int .i64 c] w fun e w'=>e=.returned (.bool (decide (c∈xs)))/\w'=w:=by
 obtain⟨ao,cap,rfl,hcl,_⟩:=abh h.own;obtain⟨n,hn⟩:∃n,xs.length=n:=⟨_,rfl⟩;rw[hn]at h hx hcl ⊢;have H:=hide h;have HN:=hide hn;clear h hn;go_enter Tryz.func62,Tryz.ntmps62
 go_wp2_with fail
 go_loopw [5] (fun iv wr=>∃k:Nat,iv=.int .i64 k/\k<=n/\(∀x∈xs.take k,x≠c)/\wr=w) (fun iv _=>n-(intOf iv).toNat)
 case atStart=>exact⟨0,rfl,Nat.zero_le _,fun r hr=>(by simp at hr),rfl⟩
 case round=>
  obtain⟨k,rfl,hk,hall,rfl⟩:=hrel;have HA:=hide hall;clear hall;by_cases hlt:k<n
  ·have hlt':(k:Int)<(n:Int):=by omega
   obtain⟨x,hx⟩:∃x,xs[k]? = some x:=⟨_,List.getElem?_eq_getElem (by have:=HN.out;omega)⟩;obtain⟨_,g,rfl,hgl,x0⟩:=H.out.at hx;have HX:=hide hx;clear hx;by_cases he:x=c
   ·have hne:(x==c)=true:=by simpa using he
    have HE:Hid (decide (c∈xs)=true):=decide_eq_true (by rw[<-he];exact List.mem_of_getElem? HX.out);clear he;go_wp2;refine bodyPost_ret (v:=_) (by simp[results,Tryz.results62,go_sem];try rfl) rfl ⟨by rw[HE.out],rfl⟩
   ·have hne:(x==c)=false:=by simpa using he
    have HEQ:=hide he;clear he;go_wp2;go_roundw
    case rel=>
     refine⟨k+1,by go_num,by omega,fun r' hr'=>?_,trivial⟩;rw[List.take_add_one,HX.out]at hr';rcases List.mem_append.1 hr' with h|h
     ·exact HA.out r' h
     ·obtain rfl:r'=x:=by simpa using h
      exact HEQ.out
    case measure=>simp[intOf];omega
  ·have hlt':decide ((k:Int)<(n:Int))=false:=by simp;omega
   have HE:Hid (decide (c∈xs)=false):=decide_eq_false (fun hc=>by
    have h2:=HA.out;rw[List.take_of_length_le (by have:=HN.out;omega)]at h2
    exact h2 c hc rfl)
   go_wp2;refine bodyPost_ret (v:=_) (by simp[results,Tryz.results62,go_sem];try rfl) rfl ⟨by rw[HE.out],rfl⟩
end Lm
namespace Lm
open Go Go.RowKit Md
theorem att(n:Nat):(madeCells #[.bool false,.slice none 0 0,.bool false,.slice none 0 0] (n*4)).toList=flat (List.replicate (2*n) ⟨false,none,0,0,[]⟩):=by
 rw[<-afv];apply List.ext_getElem?;intro i;rw[Array.getElem?_toList,Array.getElem?_toList];simp only[madeCells,show 2*n*2=n*4 by omega];by_cases hi:i<n*4
 ·have h4:i%4=0\/i%4=1\/i%4=2\/i%4=3:=by omega
  rcases h4 with h|h|h|h
  ·have h2:i%2=0:=by omega
   simp[hi,h,h2]
  ·have h2:i%2=1:=by omega
   simp[hi,h,h2]
  ·have h2:i%2=0:=by omega
   simp[hi,h,h2]
  ·have h2:i%2=1:=by omega
   simp[hi,h,h2]
 ·simp[hi]
theorem atu(w:World):
  Calls Tryz.prog 63 #[] w fun e w'=>∃ng a m c,e=.returned (.agg #[.bool false,.slice none 0 0,.bool ng,.slice a m c])/\OutN 1 5 (.agg #[.bool ng,.slice a m c]) w'/\Below w.heap.size w w':=by
 have hA:=hAl w (.cells #[.bool false,.slice none 0 0,.bool false,.slice none 0 0] 99);have hN:=heap_alloc_new w (.cells #[.bool false,.slice none 0 0,.bool false,.slice none 0 0] 99);have K:=hide (Dm.afs (w.alloc (.cells #[.bool false,.slice none 0 0,.bool false,.slice none 0 0] 99)) 1 (by omega) (by omega));have HA:=hide hA;have HN:=hide hN;clear hA hN;go_enter Tryz.func63,Tryz.ntmps63
 go_wp2_with fail
 refine K.out.mono ?_;rintro e w1 ⟨ng,a,c,rs,rfl,hW,hl,hb⟩;have hO:OutN 1 5 (.agg #[.bool ng,.slice a rs.length c]) w1:=⟨_,_,_,_,rfl,hW,hl⟩;have hn1:=(hb.block _ (aaa HN.out)).trans HN.out;have hP:PFr w1 w.heap.size 1 (fun _=>False) (fun _=>0) 5:=PFr.start (by simpa[flat,List.replicate]using hn1);obtain⟨⟨ng0,a0,m0,c0,mg0,d0,e0,f0,x0,x1,x2,x3⟩,z0,z1,z2,z3⟩:=hP.cells (k:=0) (by omega);simp only[Nat.zero_mul,Nat.zero_add]at x0 x1 x2 x3 z0 z1 z2 z3;obtain⟨hQ,hB,hR,_⟩:=hP.put (k:=0) (x:=0) (ng:=false) (a:=none) (m:=0) (c:=0) (mg:=ng) (d:=a) (e:=rs.length) (f:=c) (by omega) (aez _ _) (by simpa using hO);have s1:=heap_setCell_same w1 w.heap.size 0 _ _ (.bool false) hn1;have s2:=heap_setCell_same _ w.heap.size 1 _ _ (.slice none 0 0) s1;have s3:=heap_setCell_same _ w.heap.size 2 _ _ (.bool ng) s2;have s4:=heap_setCell_same _ w.heap.size 3 _ _ (.slice a rs.length c) s3;have hX:∀j,((((w1.setCell ⟨w.heap.size,0,none⟩ (.bool false)).setCell ⟨w.heap.size,1,none⟩ (.slice none 0 0)).setCell ⟨w.heap.size,2,none⟩ (.bool ng)).setCell ⟨w.heap.size,3,none⟩ (.slice a rs.length c)).cell? ⟨w.heap.size,j,none⟩=(#[.bool false,.slice none 0 0,.bool ng,.slice a rs.length c]:Array Value)[j]? :=fun j=>by
  rw[cell_of_row _ _ _ _ _ (0,0) s4];simp
 have HX:=hide (And.intro (hX 0) (And.intro (hX 1) (And.intro (hX 2) (hX 3))));have HF:Hid (OutN 1 5 (.agg #[.bool ng,.slice a rs.length c]) (qput w1 w.heap.size 0 false none 0 0 ng a rs.length c)/\Below w.heap.size w (qput w1 w.heap.size 0 false none 0 0 ng a rs.length c)):=⟨hO.rl hR,(HA.out.trans (hb.mono HA.out.size)).trans (hB _ (Nat.le_refl _))⟩;simp only[qput,Nat.zero_mul,Nat.zero_add]at HF;clear hQ hB hR hP hO hW hb hn1 K s1 s2 s3 s4 hX;go_wp2;generalize ((((w1.setCell ⟨w.heap.size,0,none⟩ (.bool false)).setCell ⟨w.heap.size,1,none⟩ (.slice none 0 0)).setCell ⟨w.heap.size,2,none⟩ (.bool ng)).setCell ⟨w.heap.size,3,none⟩ (.slice a rs.length c))=W at *
 refine bodyPost_ret (v:=.agg #[.bool false,.slice none 0 0,.bool ng,.slice a rs.length c]) (by simp[results,Tryz.results63,go_sem,HX.out.1,HX.out.2.1,HX.out.2.2.1,HX.out.2.2.2]) rfl ⟨_,_,_,_,rfl,HF.out.1,HF.out.2⟩
theorem RdI.det_le{n:Nat}{rows m:List (List Int)}{R X:List Md.Rw}{Q:List Nat}(h:RdI n rows n m R Q X){S:Nat}{B:Md.Rw->Nat}(hB:Bnd rows S B){cs:List Nat}(hc:cs.length<=65):((D R cs).natAbs:Int)<pw (S+1):=by
 have hx:∀x∈R,∀k,((x k).natAbs:Int)<pw (B x):=fun x hx k=>by
  obtain⟨r,hr,rfl⟩:=List.mem_map.1 (h.perm.mem_iff.1 (List.mem_append.2 (.inl hx)));exact hB.big r hr k
 have h1:=ad6 R cs hx hc;have h2:sumB B R<=S:=by
  have h3:=hB.sum;rw[<-akj h.perm,adw]at h3;omega
 have h4:pw (sumB B R)<=pw S:=aaw h2;have h5:pw S<pw (S+1):=by
  have:=aak S;show pw S<4294967296*pw S;omega
 omega
theorem atv{n:Nat}{rows m:List (List Int)}{R X:List Md.Rw}{Q:List Nat}(h:RdI n rows n m R Q X){S:Nat}{B:Md.Rw->Nat}(hB:Bnd rows S B)(hn:n<=64)(c k:Nat):((acr R Q c k).natAbs:Int)<pw (S+1):=by
 have hq:=h.rows.1;unfold acr;split
 ·exact h.det_le hB (by omega)
 ·split
  ·rw[Int.natAbs_neg];exact h.det_le hB (by unfold sub;rw[List.length_map];omega)
  ·have:=aak (S+1);show((0:Int).natAbs:Int)<_;simp;omega
theorem RdI.frac{n:Nat}{rows m:List (List Int)}{R X:List Md.Rw}{Q:List Nat}(h:RdI n rows n m R Q X){i p c:Nat}{e:List Int}(hp:Q.reverse[i]? = some p)(he:(elR n (efOf R Q))[i]? = some e)(hc:c<n)(hcQ:c∉Q):fnR e p≠0/\Rat.divInt (-fnR e c) (fnR e p)=Rat.divInt (acr R Q c p) (D R Q):=by
 have hpQ:p∈Q:=List.mem_reverse.1 (List.mem_of_getElem? hp);have hpn:=h.gat.lt p hpQ;have hei:e=red (gRow (fun k=>D R (sub p k Q)) n):=by
  unfold elR efOf at he;rw[List.map_map,List.getElem?_map,hp]at he;exact(Option.some.inj he).symm
 have hd:∀k,k<n->dvs (gRow (fun k=>D R (sub p k Q)) n)*fnR e k=D R (sub p k Q):=fun k hk=>by
  rw[hei,adq];unfold fnR;rw[List.getD_eq_getElem?_getD,aa1 hk];rfl
 have h1:=hd p hpn;have h2:=hd c hc;rw[sub_self]at h1;have hne:=h.gat.ne;generalize dvs (gRow (fun k=>D R (sub p k Q)) n)=d at *
 have hd0:d≠0:=fun h0=>hne (by rw[<-h1,h0,Int.zero_mul])
 have he0:fnR e p≠0:=fun h0=>hne (by rw[<-h1,h0,Int.mul_zero])
 refine⟨he0,(Rat.divInt_eq_divInt_iff he0 hne).2 ?_⟩;unfold acr;rw[if_neg (fun hpc:p=c=>hcQ (by rw[<-hpc];exact hpQ)),if_pos hpQ,<-h1,<-h2]
 grind
def nulC(n:Nat)(R:List Md.Rw)(Q:List Nat)(c:Nat):List (List Int):=((List.range c).filter (fun c=>decide (c∉Q))).map (fun c=>red (gRow (acr R Q c) n))
theorem ayn{n:Nat}{R:List Md.Rw}{Q:List Nat}{c:Nat}(h:c∈Q):nulC n R Q (c+1)=nulC n R Q c:=by
 unfold nulC;rw[List.range_succ,List.filter_append];simp[h]
theorem av4{n:Nat}{R:List Md.Rw}{Q:List Nat}{c:Nat}(h:c∉Q):nulC n R Q (c+1)=nulC n R Q c ++ [red (gRow (acr R Q c) n)]:=by
 unfold nulC;rw[List.range_succ,List.filter_append];simp[h]
theorem av5{n:Nat}{R:List Md.Rw}{Q:List Nat}{c:Nat}: (nulC n R Q c).length<=c:=by
 unfold nulC;rw[List.length_map];exact Nat.le_trans (List.length_filter_le _ _) (by simp)
theorem NM.wide3{w:World}{v:Value}{rows:List (List Int)}{L M:Nat}(h:NM w v rows L)(hl:L<=M):NM w v rows M:=by
 obtain⟨vs,h1,h2⟩:=h;exact⟨vs,h1,fun i u z a b=>(h2 i u z a b).wide3 hl⟩
section
variable {dst:Option Tmp} {ty:TypeId} {pos:String} {after:Array Edge} {guard:Option (Nat×Bool)} {a:Act} {w:World} {i j:Nat}
theorem amo{b n c q:Nat}(h:a.eval (.tmp i)=.slice (some ⟨b,0,none⟩) n c)(hk:a.eval (.tmp j)=.int .i64 (q:Int))(hl:q<n):Does Tryz.prog {dst,op:=.indexAddr 54 (.tmp i) (.tmp j),type:=ty,pos,after,guard} a.eval w fun v' w'=>Below w.heap.size w w'/\Eqs (.pointer (some ⟨b,q,none⟩)) v' w':=by
 have hl':(q:Int)<(n:Int):=by omega
 refine⟨?_⟩;unfold Turns;simp only[execOp,h,hk];go_simp;exact⟨Below.refl _ _,rfl⟩
theorem aon{b q:Nat}{x:Int}(hp:a.eval (.tmp i)=.pointer (some ⟨b,q,none⟩))(h0:w.cell? ⟨b,q,none⟩=some (.int .i64 x)):Does Tryz.prog {dst,op:=.load 3 (.tmp i),type:=ty,pos,after,guard} a.eval w fun v' w'=>Below w.heap.size w w'/\Eqs (.int .i64 x) v' w':=by
 refine aba (v:=.int .i64 x) ?_ ⟨Below.refl _ _,rfl⟩;rw[hp];go_simp
end
theorem OutQ.parts{p q:Int}{L:Nat}{v:Value}{w:World}(h:OutQ p q L v w):∃ng a m c mg d e f,v=.agg #[.bool ng,.slice a m c,.bool mg,.slice d e f]/\OutN p L (.agg #[.bool ng,.slice a m c]) w/\OutN q L (.agg #[.bool mg,.slice d e f]) w:=by
 obtain⟨ng,ao,cap,rs,mg,bo,dap,ss,rfl,h1,h2,l1,l2⟩:=h;exact⟨_,_,_,_,_,_,_,_,rfl,⟨_,_,_,_,rfl,h1,l1⟩,⟨_,_,_,_,rfl,h2,l2⟩⟩
def nulF(R:List Md.Rw)(Q:List Nat)(c k:Nat)(j:Nat):Rat:=if j=c\/j∈Q.reverse.take k then Rat.divInt (acr R Q c j) (D R Q)else 0
theorem atw{R:List Md.Rw}{Q:List Nat}{c:Nat}(hd:D R Q≠0)(j:Nat):(if j=c then(1:Rat)else 0)=nulF R Q c 0 j:=by
 unfold nulF;by_cases h:j=c
 ·subst h;rw[if_pos rfl,if_pos (.inl rfl)];unfold acr;rw[if_pos rfl];have:Rat.divInt (D R Q) (D R Q)=Rat.divInt 1 1:=(Rat.divInt_eq_divInt_iff hd (by omega)).2 (by omega);rw[this];rfl
 ·rw[if_neg h,if_neg (by simp[h])]
theorem atx{R:List Md.Rw}{Q:List Nat}{c k p:Nat}(hp:Q.reverse[k]? = some p)(j:Nat):(if j=p then Rat.divInt (acr R Q c p) (D R Q)else nulF R Q c k j)=nulF R Q c (k+1) j:=by
 unfold nulF;rw[List.take_add_one,hp];by_cases h:j=p
 ·subst h;rw[if_pos rfl,if_pos (by simp)]
 ·rw[if_neg h];simp[h]
theorem av6{R:List Md.Rw}{Q:List Nat}{c:Nat}(hd:D R Q≠0)(j:Nat):nulF R Q c Q.length j=Rat.divInt (acr R Q c j) (D R Q):=by
 unfold nulF;rw[List.take_of_length_le (by simp)];by_cases h:j=c\/j∈Q.reverse
 ·rw[if_pos h]
 ·rw[if_neg h];unfold acr;rw[if_neg (fun e=>h (.inl e)),if_neg (fun e=>h (.inr (List.mem_reverse.2 e)))];have:Rat.divInt 0 (D R Q)=Rat.divInt 0 1:=(Rat.divInt_eq_divInt_iff hd (by omega)).2 (by omega);rw[this];rfl
set_option maxRecDepth 100000 in
theorem aty(w:World)(v:Value)(rows:List (List Int))(n S:Nat)(B:Md.Rw->Nat)(h:NM w v rows (3*(S+1)))(hrn:∀r∈rows,r.length=n)(hr64:rows.length<=64)(hn:n<=32)(hS:S<=1500)(hS1:1<=S)(hB:Bnd rows S B):
  Calls Tryz.prog 33 #[v,.int .i64 (n:Int)] w fun e w'=>(∃mv m R Q X m' R' Q' X',e=.returned mv/\RdI n rows n m R Q X/\RdI n (nulO n R Q) n m' R' Q' X'/\NM w' mv (m'.take Q'.length) (3*(49000+1)))/\Below w.heap.size w w':=by
 have K1:=hide (aix w v rows n S B h hrn hr64 (by omega) (by omega) hB.big hB.sum hB.all);have HRN:=hide hrn;have HBN:=hide hB;obtain⟨ao,cp,rfl,_⟩:=h.parts;have HRDB:Hid (∀m R Q X,RdI n rows n m R Q X->∀r∈m,∀z∈r,(z.natAbs:Int)<pw (S+1)):=(fun m R Q X hR r hr=>(hR.bound hB.big hB.sum hr64 r hr).2);obtain⟨iQ,hiq,hq0,hq1,hq2⟩:=info_parts infoQ;clear h hrn hr64 hB;go_enter Tryz.func33,Tryz.ntmps33
 go_wp2_with fail
 refine K1.out.mono ?_;rintro e w1 ⟨mv,pv,m,R,Q,X,rfl,hRd,hNM,hIv,hb1⟩;have HRD:=hide hRd;have HEL:=hide hRd.el;have hq:=hRd.rows.1;rw[hRd.take_el]at hNM;obtain⟨E,hE⟩:∃E,elR n (efOf R Q)=E:=⟨_,rfl⟩;have HEE:=hide hE;rw[hE]at hNM HEL;have hEl:E.length=Q.length:=by have:=HEL.out.len;simpa using this.symm
 obtain⟨am,cm,rfl,_⟩:=hNM.parts;obtain⟨t,ht⟩:∃t,Q.length=t:=⟨_,rfl⟩;rw[hEl,ht]at hNM ⊢;rw[ht]at hq hEl;obtain⟨ap,np,cpv,rfl⟩:∃a n c,pv=.slice a n c:=by obtain⟨a,c,e,_⟩:=abh hIv.own;exact⟨a,_,c,e⟩
 have HT:=hide (And.intro ht hEl);have HNM:=hide hNM;have HIV:=hide hIv;have HB1:=hide hb1;clear hRd hNM hIv hb1 K1 ht hEl hE;go_wp2_with fail
 go_loopw [7,8] (fun ov cv wx=>∃(c:Nat) (vs:List Value),cv=.int .i64 c/\c<=n/\Below w1.heap.size w1 wx/\RmO w1.heap.size wx ov vs (nulC n R Q c) (3*(S+1))) (fun _ cv _=>n-(intOf cv).toNat)
 case atStart=>exact⟨0,[],rfl,Nat.zero_le _,Below.refl _ _,ajn _ _ _⟩
 case round=>
  obtain⟨c,vs,rfl,hc,hbw,hown⟩:=hrel;obtain⟨wi,hwi⟩:∃wi,wi=wr:=⟨_,rfl⟩;subst hwi;have HW:=hide hbw;have HOWN:=hide hown;have HNL:=hide (av5 (n:=n) (R:=R) (Q:=Q) (c:=c));obtain⟨aov,capv,hov,-⟩:=Ce.own hown.own;subst hov;by_cases hltc:c<n
  ·have hltc':(c:Int)<(n:Int):=by omega
   have K2:=anj wi w.heap.size _ _ (HIV.out.below hbw) (c:Int) (by have:=HT.out.1;simp;omega);have hmem:((c:Int)∈Q.reverse.map (fun q:Nat=>(q:Int)))↔c∈Q:=by
    constructor
    ·intro hx;obtain⟨q,hq',e⟩:=List.mem_map.1 hx;obtain rfl:q=c:=by omega
     exact List.mem_reverse.1 hq'
    ·intro hx;exact List.mem_map.2 ⟨c,List.mem_reverse.2 hx,rfl⟩
   by_cases hcQ:c∈Q
   ·rw[decide_eq_true (hmem.2 hcQ)]at K2;have K2:=hide K2;have HIN:=hide (ayn (n:=n) (R:=R) hcQ);clear hbw hown hmem;go_wp2_with fail
    refine K2.out.mono ?_;rintro e w2 ⟨rfl,rfl⟩;clear K2;go_wp2;go_roundw
    case rel=>exact⟨c+1,vs,by go_num,by omega,HW.out,by rw[HIN.out];exact HOWN.out⟩
    case measure=>simp[intOf];omega
   ·rw[decide_eq_false (fun h=>hcQ (hmem.1 h))]at K2;have K2:=hide K2;have HCQ:=hide hcQ;clear hbw hown hmem hcQ;go_wp2_with fail
    refine K2.out.mono ?_;rintro e w2 ⟨rfl,rfl⟩;clear K2;go_wp2_with (refine wpList_make_full _ rfl (.tmp 26) (.tmp 26) 97 rfl _ 99 iQ (.agg #[.bool false,.slice none 0 0,.bool false,.slice none 0 0]) 4 Tryz.underlying97 hiq hq0 hq1 .i64 .i64 _ _ n rfl rfl (by omega) (by omega) (by rw[hq2];omega) (by unfold maxLen;omega) (Nat.le_refl _) ?hK)
    case hK=>
    intro w3 hmade hgrow;have hb3:Below w2.heap.size w2 w3:=(Below.refl _ _).grown hgrow (Nat.le_refl _) (by simp);obtain⟨_,hmb⟩:=ade hmade;rw[att]at hmb;obtain⟨bv,hbv⟩:∃bv,w2.heap.size=bv:=⟨_,rfl⟩;rw[hbv]at hmb ⊢;have HP0:=hide (PFr.start (r:=fun _=>(0:Rat)) (L:=6*(S+1)) (n:=n) hmb);have HB3:=hide hb3;have HBV:=hide hbv;clear hmade hgrow hb3 hmb hbv;go_wp2_with fail
    go_loopw [10] (fun iv wr=>∃(i:Nat),iv=.int .i64 i/\i<=n/\PFr wr bv n (fun k=>k<i) (fun _=>0) (6*(S+1))/\Below w2.heap.size w2 wr) (fun iv _=>n-(intOf iv).toNat)
    case atStart=>exact⟨0,rfl,Nat.zero_le _,HP0.out.mono (fun k _ hk=>absurd hk (by omega)),HB3.out⟩
    case round=>
     obtain⟨i,rfl,hi,hp,hbi⟩:=hrel;have HBI:=hide hbi;have HP:=hide hp;by_cases hlti:i<n
     ·have hlti':(i:Int)<(n:Int):=by omega
      have K3:=hide (atu wr);clear hp hbi HP0 HB3;go_wp2_with fail
      refine K3.out.mono ?_;rintro e w4 ⟨ng,a,mz,cz,rfl,hO,hb4⟩;have hP4:=HP.out.below hb4;obtain⟨⟨ng0,a0,m0,c0,mg0,d0,e0,f0,x0,x1,x2,x3⟩,z0,z1,z2,z3⟩:=hP4.cells hlti;obtain⟨hQ,hBl,hR,_⟩:=hP4.put (k:=i) (x:=0) (ng:=false) (a:=none) (m:=0) (c:=0) (mg:=ng) (d:=a) (e:=mz) (f:=cz) hlti (aez _ _) ((show OutN ((0:Rat).den:Int) 5 _ w4 from hO).wide3 (by omega));have HQ:Hid (PFr (qput w4 bv i false none 0 0 ng a mz cz) bv n (fun k=>k<i+1) (fun _=>0) (6*(S+1))):=(hQ.mono fun k _ hk=>⟨by omega,by split <;> rfl⟩);have HBl:Hid (Below w2.heap.size w2 (qput w4 bv i false none 0 0 ng a mz cz)):=((HBI.out.trans (hb4.mono HBI.out.size)).trans (hBl _ (by have:=HBV.out;omega)));simp only[qput]at HQ HBl;clear hP4 hQ hBl hR hO hb4 K3;go_wp2;go_roundw
      case rel=>exact⟨i+1,by go_num,by omega,HQ.out,HBl.out⟩
      case measure=>simp[intOf];omega
     ·have hlti':decide ((i:Int)<(n:Int))=false:=by simp;omega
      obtain rfl:n=i:=by omega
      obtain⟨wz,hwz⟩:∃wz,wz=wr:=⟨_,rfl⟩;subst hwz;have K4:=hide (Dm.afs wz 1 (by omega) (by omega));clear hp hbi HP0 HB3;go_wp2_with fail
      refine K4.out.mono ?_;rintro e w5 ⟨ng5,a5,c5,rs5,rfl,hW5,hl5,hb5⟩;have hO5:OutN 1 5 (.agg #[.bool ng5,.slice a5 rs5.length c5]) w5:=⟨_,_,_,_,rfl,hW5,hl5⟩;have HO5:=hide hO5;have HB5:=hide hb5;have K5:=hide (Dm.afs w5 1 (by omega) (by omega));clear hW5 hl5 hb5 hO5 K4;go_wp2_with fail
      refine K5.out.mono ?_;rintro e w6 ⟨ng6,a6,c6,rs6,rfl,hW6,hl6,hb6⟩;have hO6:OutN 1 5 (.agg #[.bool ng6,.slice a6 rs6.length c6]) w6:=⟨_,_,_,_,rfl,hW6,hl6⟩;have hP6:=(HP.out.below HB5.out).below hb6;obtain⟨⟨ng0,a0,m0,c0,mg0,d0,e0,f0,x0,x1,x2,x3⟩,z0,z1,z2,z3⟩:=hP6.cells hltc;obtain⟨hQ,hBl,hR,_⟩:=hP6.put (k:=c) (x:=1) (ng:=ng5) (a:=a5) (m:=rs5.length) (c:=c5) (mg:=ng6) (d:=a6) (e:=rs6.length) (f:=c6) hltc ((show OutN (1:Rat).num 5 _ w6 from HO5.out.rl (Rl.of_below hb6)).wide3 (by omega)) ((show OutN ((1:Rat).den:Int) 5 _ w6 from hO6).wide3 (by omega));have HQ:Hid (PFr (qput w6 bv c ng5 a5 rs5.length c5 ng6 a6 rs6.length c6) bv n (fun _=>True) (nulF R Q c 0) (6*(S+1))):=(hQ.mono fun k hk _=>⟨.inl hk,atw HRD.out.gat.ne k⟩);have HBl:Hid (Below w2.heap.size w2 (qput w6 bv c ng5 a5 rs5.length c5 ng6 a6 rs6.length c6)):=(((HBI.out.trans (HB5.out.mono HBI.out.size)).trans (hb6.mono (Nat.le_trans HBI.out.size HB5.out.size))).trans (hBl _ (by have:=HBV.out;omega)));simp only[qput]at HQ HBl;clear hP6 hQ hBl hR hO6 hW6 hl6 hb6 K5 HO5 HB5 HP HBI;go_wp2_with fail
      generalize ((((w6.setCell ⟨bv,c*4,none⟩ (.bool ng5)).setCell ⟨bv,c*4+1,none⟩ (.slice a5 rs5.length c5)).setCell ⟨bv,c*4+2,none⟩ (.bool ng6)).setCell ⟨bv,c*4+3,none⟩ (.slice a6 rs6.length c6))=w7 at *
      obtain⟨w0,hw0⟩:∃w0,w0=w7:=⟨_,rfl⟩;subst hw0;have HPC:=HQ;have HBC:=HBl;clear HQ HBl x0 x1 x2 x3 z0 z1 z2 z3;go_loopw [11] (fun iv wr=>∃(k:Nat),iv=.int .i64 k/\k<=t/\PFr wr bv n (fun _=>True) (nulF R Q c k) (6*(S+1))/\Below w2.heap.size w2 wr) (fun iv _=>t-(intOf iv).toNat)
      case atStart=>exact⟨0,rfl,Nat.zero_le _,HPC.out,HBC.out⟩
      case round=>
       obtain⟨k,rfl,hk,hp,hbk⟩:=hrel;have HP:=hide hp;have HBK:=hide hbk;have HWK:=hide (HW.out.trans (hbk.mono HW.out.size));by_cases hltk:k<t
       ·have hltk':(k:Int)<(t:Int):=by omega
        obtain⟨q,hqk⟩:∃q,Q.reverse[k]? = some q:=⟨_,List.getElem?_eq_getElem (by rw[List.length_reverse];have:=HT.out.1;omega)⟩;obtain⟨e,he⟩:∃e,E[k]? = some e:=⟨_,List.getElem?_eq_getElem (by have:=HT.out.2;omega)⟩;obtain⟨he1,hqn,_,_,_⟩:=HEL.out.row k e q he hqk;obtain⟨hep,hfr⟩:=HRD.out.frac hqk (by rw[HEE.out];exact he) hltc HCQ.out;obtain⟨ec,hec⟩:∃z,e[c]? = some z:=⟨_,List.getElem?_eq_getElem (by rw[he1];exact hltc)⟩;obtain⟨ep,hepv⟩:∃z,e[q]? = some z:=⟨_,List.getElem?_eq_getElem (by rw[he1];exact hqn)⟩;rw[aoi hepv]at hep hfr;rw[aoi hec]at hfr;obtain⟨hnp,gq,rfl,hgql,xq⟩:=HIV.out.at (i:=k) (x:=(q:Int)) (by rw[List.getElem?_map,hqk];rfl);obtain⟨bm,om,eu,rfl,hbm,xm,hE1⟩:=HNM.out.cell he;obtain⟨ea,ecc,rfl,-⟩:=id hE1.parts;rw[he1]at xm hE1;obtain⟨bb,ob,ngc,ac,mc,cc,rfl,hblb,pc0,pc1,hcv⟩:=(hE1.below HWK.out).cell hec;obtain⟨bb',ob',ngp,ap',mp,cp',hbb',_,pp0,pp1,hpv⟩:=(hE1.below HWK.out).cell hepv;obtain⟨rfl,rfl⟩:bb=bb'/\ob=ob':=by simp only[Option.some.injEq,Addr.mk.injEq,and_true]at hbb';exact hbb'
        have hnpt:np=t:=by rw[hnp];simp;exact HT.out.1
        subst hnpt;have hbw1:=HWK.out;replace xq:=(hbw1.cell (p:=⟨gq,k,none⟩) hgql).trans xq;replace xm:=(hbw1.cell (p:=⟨bm,om+k,none⟩) hbm).trans xm;replace hgql:=Nat.lt_of_lt_of_le hgql hbw1.size;replace hbm:=Nat.lt_of_lt_of_le hbm hbw1.size;have HCV:=hide hcv;have HPV:=hide hpv;have HEP:=hide hep;have HFR:=hide hfr;have HQK:=hide (And.intro hqk hqn);clear hp hbk he hqk he1 hep hfr hec hepv hnp hE1 hcv hpv hbw1 hbb' HPC HBC;go_upto_region 16 with fail
        refine acy 24 [49,50,51,52,53,54,55,56,57,58,59,60,61,62,63,64,65,66,67,68,69,70,71,72] [Eqs (.slice (some ⟨bv,0,none⟩) n n),Eqs (.slice (some ⟨gq,0,none⟩) np cpv),Eqs (.int .i64 (k:Int)),Eqs (.pointer (some ⟨gq,k,none⟩)),Eqs (.int .i64 (q:Int)),Eqs (.slice (some ⟨bm,om,none⟩) np cm),Eqs (.int .i64 (k:Int)),Eqs (.pointer (some ⟨bm,om+k,none⟩)),Eqs (.slice (some ⟨bb,ob,none⟩) n ecc),Eqs (.int .i64 (c:Int)),Eqs (.pointer (some ⟨bb,ob+c*2,none⟩)),(OutN (ec) (3*(S+1))),(OutN (-ec) (3*(S+1))),Eqs (.slice (some ⟨bm,om,none⟩) np cm),Eqs (.int .i64 (k:Int)),Eqs (.pointer (some ⟨bm,om+k,none⟩)),Eqs (.slice (some ⟨bb,ob,none⟩) n ecc),Eqs (.slice (some ⟨gq,0,none⟩) np cpv),Eqs (.int .i64 (k:Int)),Eqs (.pointer (some ⟨gq,k,none⟩)),Eqs (.int .i64 (q:Int)),Eqs (.pointer (some ⟨bb,ob+q*2,none⟩)),(OutN (ep) (3*(S+1))),(OutQ (nm (-ec) ep) (dn (-ec) ep) (3*(S+1)+3*(S+1)))] rfl rfl (by decide) (by kernel_rfl) (by kernel_rfl) (by decide) (by kernel_rfl) ⟨Eqs.mono _,Eqs.mono _,Eqs.mono _,Eqs.mono _,Eqs.mono _,Eqs.mono _,Eqs.mono _,Eqs.mono _,Eqs.mono _,Eqs.mono _,Eqs.mono _,(Mono.of4 (OutN.mono4 _ _)),(Mono.of4 (OutN.mono4 _ _)),Eqs.mono _,Eqs.mono _,Eqs.mono _,Eqs.mono _,Eqs.mono _,Eqs.mono _,Eqs.mono _,Eqs.mono _,Eqs.mono _,(Mono.of4 (OutN.mono4 _ _)),(Mono.of4 (OutQ.mono4 _ _ _)),trivial⟩ ?_ ?_
        ·exact⟨⟨rfl,fun a_ w_ _ hB hR hD=>aai ((hR 9 rfl).trans (aab rfl))⟩,
           ⟨rfl,fun a_ w_ _ hB hR hD=>aai ((hR 6 rfl).trans (aab rfl))⟩,
           ⟨rfl,fun a_ w_ _ hB hR hD=>aai ((hR 11 rfl).trans (aab rfl))⟩,
           ⟨rfl,fun a_ w_ _ hB hR hD=>amo (show a_.eval (.tmp 50)=.slice (some ⟨gq,0,none⟩) np cpv from hD 1 rfl) (show a_.eval (.tmp 51)=.int .i64 (k:Int)from hD 2 rfl) (by omega)⟩,
           ⟨rfl,fun a_ w_ _ hB hR hD=>aon (show a_.eval (.tmp 52)=.pointer (some ⟨gq,k,none⟩)from hD 3 rfl) ((hB.cell (p:=⟨gq,k,none⟩) hgql).trans xq)⟩,
           ⟨rfl,fun a_ w_ _ hB hR hD=>aai ((hR 5 rfl).trans (aab rfl))⟩,
           ⟨rfl,fun a_ w_ _ hB hR hD=>aai ((hR 11 rfl).trans (aab rfl))⟩,
           ⟨rfl,fun a_ w_ _ hB hR hD=>amk (show a_.eval (.tmp 54)=.slice (some ⟨bm,om,none⟩) np cm from hD 5 rfl) (show a_.eval (.tmp 55)=.int .i64 (k:Int)from hD 6 rfl) (by omega)⟩,
           ⟨rfl,fun a_ w_ _ hB hR hD=>afe (show a_.eval (.tmp 56)=.pointer (some ⟨bm,om+k,none⟩)from hD 7 rfl) ((hB.cell (p:=⟨bm,om+k,none⟩) hbm).trans xm)⟩,
           ⟨rfl,fun a_ w_ _ hB hR hD=>aai ((hR 8 rfl).trans (aab rfl))⟩,
           ⟨rfl,fun a_ w_ _ hB hR hD=>adb (show a_.eval (.tmp 57)=.slice (some ⟨bb,ob,none⟩) n ecc from hD 8 rfl) rfl (show a_.eval (.tmp 58)=.int .i64 (c:Int)from hD 9 rfl) hltc⟩,
           ⟨rfl,fun a_ w_ _ hB hR hD=>abr (show a_.eval (.tmp 59)=.pointer (some ⟨bb,ob+c*2,none⟩)from hD 10 rfl) ((hB.cell (p:=⟨bb,ob+c*2,none⟩) hblb).trans pc0) ((hB.cell (p:=⟨bb,ob+c*2+1,none⟩) hblb).trans pc1) (Mono.of4 (OutN.mono4 _ _) _ _ _ hB HCV.out)⟩,
           ⟨rfl,fun a_ w_ _ hB hR hD=>aey (show(OutN (ec) (3*(S+1))) (a_.eval (.tmp 60)) w_ from hD 11 rfl) (by omega)⟩,
           ⟨rfl,fun a_ w_ _ hB hR hD=>aai ((hR 5 rfl).trans (aab rfl))⟩,
           ⟨rfl,fun a_ w_ _ hB hR hD=>aai ((hR 11 rfl).trans (aab rfl))⟩,
           ⟨rfl,fun a_ w_ _ hB hR hD=>amk (show a_.eval (.tmp 62)=.slice (some ⟨bm,om,none⟩) np cm from hD 13 rfl) (show a_.eval (.tmp 63)=.int .i64 (k:Int)from hD 14 rfl) (by omega)⟩,
           ⟨rfl,fun a_ w_ _ hB hR hD=>afe (show a_.eval (.tmp 64)=.pointer (some ⟨bm,om+k,none⟩)from hD 15 rfl) ((hB.cell (p:=⟨bm,om+k,none⟩) hbm).trans xm)⟩,
           ⟨rfl,fun a_ w_ _ hB hR hD=>aai ((hR 6 rfl).trans (aab rfl))⟩,
           ⟨rfl,fun a_ w_ _ hB hR hD=>aai ((hR 11 rfl).trans (aab rfl))⟩,
           ⟨rfl,fun a_ w_ _ hB hR hD=>amo (show a_.eval (.tmp 66)=.slice (some ⟨gq,0,none⟩) np cpv from hD 17 rfl) (show a_.eval (.tmp 67)=.int .i64 (k:Int)from hD 18 rfl) (by omega)⟩,
           ⟨rfl,fun a_ w_ _ hB hR hD=>aon (show a_.eval (.tmp 68)=.pointer (some ⟨gq,k,none⟩)from hD 19 rfl) ((hB.cell (p:=⟨gq,k,none⟩) hgql).trans xq)⟩,
           ⟨rfl,fun a_ w_ _ hB hR hD=>adb (show a_.eval (.tmp 65)=.slice (some ⟨bb,ob,none⟩) n ecc from hD 16 rfl) rfl (show a_.eval (.tmp 69)=.int .i64 (q:Int)from hD 20 rfl) hqn⟩,
           ⟨rfl,fun a_ w_ _ hB hR hD=>abr (show a_.eval (.tmp 70)=.pointer (some ⟨bb,ob+q*2,none⟩)from hD 21 rfl) ((hB.cell (p:=⟨bb,ob+q*2,none⟩) hblb).trans pp0) ((hB.cell (p:=⟨bb,ob+q*2+1,none⟩) hblb).trans pp1) (Mono.of4 (OutN.mono4 _ _) _ _ _ hB HPV.out)⟩,
           ⟨rfl,fun a_ w_ _ hB hR hD=>au5 (show(OutN (-ec) (3*(S+1))) (a_.eval (.tmp 61)) w_ from hD 12 rfl) (show(OutN (ep) (3*(S+1))) (a_.eval (.tmp 71)) w_ from hD 22 rfl) (by omega) HEP.out⟩,
           trivial⟩
        ·intro a' w' hn' hd' hB' hR' hP';have e49:a'.eval (.tmp 49)=.slice (some ⟨bv,0,none⟩) n n:=hP' 0 (by decide);have e50:a'.eval (.tmp 50)=.slice (some ⟨gq,0,none⟩) np cpv:=hP' 1 (by decide);have e51:a'.eval (.tmp 51)=.int .i64 (k:Int):=hP' 2 (by decide);have e52:a'.eval (.tmp 52)=.pointer (some ⟨gq,k,none⟩):=hP' 3 (by decide);have e53:a'.eval (.tmp 53)=.int .i64 (q:Int):=hP' 4 (by decide);have e54:a'.eval (.tmp 54)=.slice (some ⟨bm,om,none⟩) np cm:=hP' 5 (by decide);have e55:a'.eval (.tmp 55)=.int .i64 (k:Int):=hP' 6 (by decide);have e56:a'.eval (.tmp 56)=.pointer (some ⟨bm,om+k,none⟩):=hP' 7 (by decide);have e57:a'.eval (.tmp 57)=.slice (some ⟨bb,ob,none⟩) n ecc:=hP' 8 (by decide);have e58:a'.eval (.tmp 58)=.int .i64 (c:Int):=hP' 9 (by decide);have e59:a'.eval (.tmp 59)=.pointer (some ⟨bb,ob+c*2,none⟩):=hP' 10 (by decide);obtain⟨u60,e60⟩:∃u,a'.eval (.tmp 60)=u:=⟨_,rfl⟩;obtain⟨u61,e61⟩:∃u,a'.eval (.tmp 61)=u:=⟨_,rfl⟩;have e62:a'.eval (.tmp 62)=.slice (some ⟨bm,om,none⟩) np cm:=hP' 13 (by decide);have e63:a'.eval (.tmp 63)=.int .i64 (k:Int):=hP' 14 (by decide);have e64:a'.eval (.tmp 64)=.pointer (some ⟨bm,om+k,none⟩):=hP' 15 (by decide);have e65:a'.eval (.tmp 65)=.slice (some ⟨bb,ob,none⟩) n ecc:=hP' 16 (by decide);have e66:a'.eval (.tmp 66)=.slice (some ⟨gq,0,none⟩) np cpv:=hP' 17 (by decide);have e67:a'.eval (.tmp 67)=.int .i64 (k:Int):=hP' 18 (by decide);have e68:a'.eval (.tmp 68)=.pointer (some ⟨gq,k,none⟩):=hP' 19 (by decide);have e69:a'.eval (.tmp 69)=.int .i64 (q:Int):=hP' 20 (by decide);have e70:a'.eval (.tmp 70)=.pointer (some ⟨bb,ob+q*2,none⟩):=hP' 21 (by decide);obtain⟨u71,e71⟩:∃u,a'.eval (.tmp 71)=u:=⟨_,rfl⟩;obtain⟨u72,e72⟩:∃u,a'.eval (.tmp 72)=u:=⟨_,rfl⟩;have hT:(OutQ (nm (-ec) ep) (dn (-ec) ep) (3*(S+1)+3*(S+1))) (a'.eval (.tmp 72)) w':=hP' 23 (by decide);rw[e72]at hT;refine abn hn' hd' hR' (.s16 rfl <| .s16 rfl <| .s16 rfl <| .same rfl <| .new e49 <| .new e50 <| .new e51 <| .new e52 <| .new e53 <| .new e54 <| .new e55 <| .new e56 <| .new e57 <| .new e58 <| .new e59 <| .new e60 <| .new e61 <| .new e62 <| .new e63 <| .new e64 <| .new e65 <| .new e66 <| .new e67 <| .new e68 <| .new e69 <| .new e70 <| .new e71 <| .new e72 <| .s4 rfl <| .s4 rfl <| .s4 rfl <| .same rfl <| .nil) ?_;clear e49 e50 e51 e52 e53 e54 e55 e56 e57 e58 e59 e60 e61 e62 e63 e64 e65 e66 e67 e68 e69 e70 e71 e72;obtain⟨ngx,ax,mx,cx,mgx,dx,ex,fx,rfl,hO1,hO2⟩:=hT.parts;have hP8:=HP.out.below hB';obtain⟨⟨ng0,a0,m0,c0,mg0,d0,e0,f0,x0,x1,x2,x3⟩,z0,z1,z2,z3⟩:=hP8.cells hqn;rw[azm _ HEP.out]at hO1;rw[azn _ HEP.out]at hO2;rw[HFR.out]at hO1 hO2;obtain⟨hQ,hBl,hR,_⟩:=hP8.put (k:=q) (ng:=ngx) (a:=ax) (m:=mx) (c:=cx) (mg:=mgx) (d:=dx) (e:=ex) (f:=fx) hqn (hO1.wide3 (by omega)) (hO2.wide3 (by omega));have HQ:Hid (PFr (qput w' bv q ngx ax mx cx mgx dx ex fx) bv n (fun _=>True) (nulF R Q c (k+1)) (6*(S+1))):=(hQ.mono fun j hj _=>⟨.inl trivial,atx HQK.out.1 j⟩);have HBl:Hid (Below w2.heap.size w2 (qput w' bv q ngx ax mx cx mgx dx ex fx)):=((HBK.out.trans (hB'.mono HBK.out.size)).trans (hBl _ (by have:=HBV.out;omega)));simp only[qput]at HQ HBl;clear hP8 hQ hBl hR hO1 hO2 hT hB' hR' hP' hn' hd' xq xm pc0 pc1 pp0 pp1 hgql hbm hblb;go_wp2;go_roundw
         case rel=>exact⟨k+1,by go_num,by omega,HQ.out,HBl.out⟩
         case measure=>simp[intOf];omega
       ·have hltk':decide ((k:Int)<(t:Int))=false:=by simp;omega
        obtain rfl:t=k:=by omega
        have hco:=aqn (n:=n) (f:=acr R Q c) HRD.out.gat.ne;have hrow:=(hp.mono (r':=fun j=>Rat.divInt (acr R Q c j) (D R Q)) (ok':=fun _=>True) (fun j _ _=>⟨trivial,by rw[<-HT.out.1];exact av6 HRD.out.gat.ne j⟩)).row (fun _ _=>trivial) (by omega);have K6:=al6 wr _ _ (6*(S+1)) (S+1) hrow (by omega) (by omega) (by omega) (by simp;omega) (fun h0=>by have:=congrArg List.length h0;simp at this;omega) (fun j _=>by have h1:=hco.1 j;have h2:=HRD.out.det_le HBN.out (cs:=Q) (by have:=HT.out.1;omega);omega) (fun z hz=>by obtain⟨j,_,h1⟩:=hco.2.1 z hz;have h2:=atv HRD.out HBN.out (by omega) c j;omega);rw[hco.2.2]at K6;have K6:=hide K6;clear hp hbk hco hrow HPC HBC;go_wp2_with fail
        refine K6.out.mono ?_;rintro e w8 ⟨r8,rfl,hR8,hb8⟩;obtain⟨a8,c8,rfl,-⟩:=id hR8.parts;have hA:=hAl w8 (.cells #[.slice a8 (red (gRow (acr R Q c) n)).length c8] 76);have hO:=heap_alloc_new w8 (.cells #[.slice a8 (red (gRow (acr R Q c) n)).length c8] 76);have hb28:=HBK.out.trans (hb8.mono HBK.out.size);have hb2':=hb28.trans (hA.mono hb28.size);have hRm:=HOWN.out.below hb2';have hS':=hR8.below hA;have hsz:w1.heap.size<=(w8.alloc (.cells #[.slice a8 (red (gRow (acr R Q c) n)).length c8] 76)).heap.size:=Nat.le_trans HW.out.size hb2'.size;have hfl:vs.length<=1000000:=by rw[HOWN.out.len];have:=HNL.out;omega
        go_wp2_with (at_builtin;refine abd rfl (ajo (i:=74) (j:=77) rfl rfl hRm hO hS' hfl hsz) ?_)
        intro v9 w9 hR9 hb9;obtain⟨a9,c9,hv9,-⟩:=Ce.own hR9.own;subst hv9;have HR9:=hide hR9;have HB9:=hide ((HW.out.trans (hb2'.mono HW.out.size)).trans hb9);have HNO:=hide (av4 (n:=n) (R:=R) HCQ.out);clear hR9 hb9 hR8 hO hRm hS' hsz hA hb8 hb28 hb2' hfl K6;go_wp2;go_roundw
        case rel=>exact⟨c+1,_,by go_num,by omega,HB9.out,by rw[HNO.out];exact HR9.out⟩
        case measure=>simp[intOf];omega
  ·have hltc':decide ((c:Int)<(n:Int))=false:=by simp;omega
   obtain rfl:n=c:=by omega
   have hnO:nulC n R Q n=nulO n R Q:=rfl;rw[hnO]at HOWN;have hlen:(nulO n R Q).length<=32:=by rw[<-hnO];have:=HNL.out;omega
   have hent:∀r∈nulO n R Q,∀z∈r,(z.natAbs:Int)<pw (S+1):=fun r hr z hz=>by
    obtain⟨j,_,rfl⟩:=List.mem_map.1 hr;refine azw (N:=S+1) (fun y hy=>?_) z hz;obtain⟨k,_,rfl⟩:=List.mem_map.1 hy;exact atv HRD.out HBN.out (by omega) j k
   have hsum:∀l:List Md.Rw,sumB (fun _=>S+1) l=l.length*(S+2):=fun l=>by
    induction l with
    |nil=>simp[sumB]
    |cons x l ih=>rw[sumB,ih,List.length_cons,Nat.succ_mul];omega
   have hmul:(nulO n R Q).length*(S+2)<=32*1502:=Nat.mul_le_mul hlen (by omega);have hp1:pw (S+1)<=pw (49000+1):=aaw (by omega);have K8:=hide (aix wi _ (nulO n R Q) n 49000 (fun _=>S+1) (HOWN.out.nm.wide3 (by omega)) ah2 (by omega) (by omega) (by omega) (fun r hr k=>agk (hent r hr) (aak _) k) (by rw[hsum,List.length_map];omega) (fun r hr z hz=>by have:=hent r hr z hz;omega));clear hbw hown hent hsum hmul hp1;rw[hnO]at *
   go_wp2_with fail
   refine K8.out.mono ?_;rintro e w9 ⟨mv,pv,m',R',Q',X',rfl,hRd',hNM',hIv',hb9⟩;obtain⟨a9,c9,rfl,_⟩:=hNM'.parts;obtain⟨a8,n8,c8,rfl⟩:∃a n c,pv=.slice a n c:=by obtain⟨a,c,e,_⟩:=abh hIv'.own;exact⟨a,_,c,e⟩
   have HF:=hide (And.intro hRd' hNM');have HB9:=hide (HB1.out.trans ((HW.out.trans (hb9.mono HW.out.size)).mono HB1.out.size));clear hRd' hNM' hIv' hb9 K8;go_wp2;refine bodyPost_ret (v:=_) (by simp[results,Tryz.results33,go_sem];try rfl) rfl ⟨⟨_,m,R,Q,X,m',R',Q',X',rfl,HRD.out,HF.out.1,HF.out.2⟩,HB9.out⟩
end Lm
namespace Lm
open Go Go.RowKit Md
def KerOutA(K:Nat)(w':World)(n L0:Nat)(rows:List (List Int))(e:Ending):Prop:=∃R Q,Ech n (mir rows) R Q/\(((∃r∈elR n (kerE n R Q),r.any big=true)/\e=.returned (.tuple #[.slice none 0 0,.int .i64 2]))\/((∀r∈elR n (kerE n R Q),r.any big=false)/\∃rv vs lo hi,e=.returned (.tuple #[rv,.int .i64 0])/\OwA K w' rv (elR n (kerE n R Q)) (lg L0) vs lo hi))
theorem ae6(w:World)(v:Value)(rows:List (List Int))(n L0:Nat)(h:IsM w v rows L0)(hs:Shaped rows (n:Int))(hL0:L0<=1510):
  Calls Tryz.prog 18 #[v,.int .i64 (n:Int)] w fun e w'=>KerOutA w.heap.size w' n L0 rows e/\Below w.heap.size w w':=by
 have K0:=ae5 w v rows L0 h (n:Int);rw[decide_eq_true hs]at K0;have K0:=hide K0;have hrn:∀r∈rows,r.length=n:=fun r hr=>by have:=hs.2.2.2 r hr;omega
 have hs2:Shaped (mir rows) (n:Int):=⟨hs.1,hs.2.1,by rw[ajq];exact hs.2.2.1,fun r hr=>by rw[aob hrn r hr]⟩;have hn32:=hs.2.1;have K1:Hid (∀w1,Below w.heap.size w w1->_):=(fun w1 hb=>agn w1 v rows L0 (h.below hb) (fun r hr=>by rw[hrn r hr];omega) (by have:=hs.2.2.1;omega));have HS2:=hide hs2;obtain⟨ao,cp,rfl,hn⟩:=h.parts;clear h hs hrn hs2;go_enter Tryz.func18,Tryz.ntmps18
 go_wp2_with fail
 refine K0.out.mono ?_;rintro e w1 ⟨rfl,hb1⟩;have K2:=hide (K1.out w1 hb1);have HB1:=hide hb1;clear hb1 K0 K1;go_wp2_with fail
 refine K2.out.mono ?_;rintro e w2 ⟨r2,rfl,hM2,hb2⟩;have K3:=hide (akg w2 r2 (mir rows) n L0 hM2 HS2.out hL0);have HB2:=hide (HB1.out.trans (hb2.mono HB1.out.size));obtain⟨ra2,rc2,rfl,_⟩:=hM2.parts;clear hM2 hb2 K2;go_wp2_with fail
 refine K3.out.mono ?_;rintro e w3 ⟨R,Q,ra,rc,pa,pc,ng,la,lm,lc,rfl,hE,hM,hP,hF,hb3⟩;have hba:=hAl w3 (.cells #[.slice ra Q.length rc,.slice pa Q.length pc,.bool ng,.slice la lm lc] 62);have hn3:=heap_alloc_new w3 (.cells #[.slice ra Q.length rc,.slice pa Q.length pc,.bool ng,.slice la lm lc] 62);have K4:=hide (aqk _ w3.heap.size n (lg L0) R Q ra pa la rc pc lm lc ng hn3 (hM.is.below hba) (hP.is.below hba) ((hF.ru (Ru.of_below hba)).low (Nat.zero_le _)) hE.gat.lt (by omega) (by unfold lg;omega));have hb03:=HB2.out.trans (hb3.mono HB2.out.size);have HB3:=hide (hb03.trans (hba.mono hb03.size));have HE:=hide hE;clear hE hM hP hF hb3 hba hn3 hb03 K3;go_wp2_with fail
 refine K4.out.mono ?_;rintro e w4 ⟨r4,rfl,hM4,hb4⟩;have K5:=hide (agn w4 r4 (acrR n R Q) (lg L0) hM4 (fun r hr=>by rw[amh r hr];omega) (by unfold acrR;rw[List.length_map];have:=aju n Q;omega));have HB4:=hide (HB3.out.trans (hb4.mono HB3.out.size));obtain⟨ra4,rc4,rfl,_⟩:=hM4.parts;clear hM4 hb4 K4;go_wp2_with fail
 refine K5.out.mono ?_;rintro e w5 ⟨r5,rfl,hM5,hb5⟩;have K6:=atm w5 r5 (mir (acrR n R Q)) (lg L0) hM5 (fun r hr=>by rw[aob amh r hr];omega) (by rw[ajq];unfold acrR;rw[List.length_map];have:=aju n Q;omega) (by unfold lg;omega);rw[aoa,amc,a0e]at K6;have K6:=hide K6;have HB5:=hide (HB4.out.trans (hb5.mono HB4.out.size));obtain⟨ra5,rc5,rfl,_⟩:=hM5.parts;clear hM5 hb5 K5;go_wp2_with fail
 refine K6.out.mono ?_;rintro e w6 ⟨hb6,⟨hex,rfl⟩|⟨hal,rv,vs,lo,hi,rfl,hO⟩⟩
 ·have HB:=hide (HB5.out.trans (hb6.mono HB5.out.size));have HX:=hide hex;clear hb6 hex K6;go_wp2;refine bodyPost_ret (v:=_) (by simp[results,Tryz.results18,go_sem];try rfl) rfl ⟨⟨R,Q,HE.out,.inl ⟨HX.out,rfl⟩⟩,HB.out⟩
 ·have HB:=hide (HB5.out.trans (hb6.mono HB5.out.size));have HX:=hide hal;have HO:=hide (hO.lowK HB5.out.size);obtain⟨oa,oc,rfl,_⟩:=hO.m.is.parts;clear hb6 hal hO K6;go_wp2;refine bodyPost_ret (v:=_) (by simp[results,Tryz.results18,go_sem];try rfl) rfl ⟨⟨R,Q,HE.out,.inr ⟨HX.out,_,vs,lo,hi,rfl,HO.out⟩⟩,HB.out⟩
theorem ank(w:World)(v:Value)(rows:List (List Int))(cols:Int)(L0:Nat)(h:IsM w v rows L0)(hs:¬Shaped rows cols):
  Calls Tryz.prog 18 #[v,.int .i64 cols] w fun e w'=>e=.returned (.tuple #[.slice none 0 0,.int .i64 1])/\Below w.heap.size w w':=by
 have K0:=ae5 w v rows L0 h cols;rw[decide_eq_false hs]at K0;have K0:=hide K0;obtain⟨ao,cp,rfl,hn⟩:=h.parts;clear h hs;go_enter Tryz.func18,Tryz.ntmps18
 go_wp2_with fail
 refine K0.out.mono ?_;rintro e w1 ⟨rfl,hb1⟩;have HB1:=hide hb1;clear hb1 K0;go_wp2;refine bodyPost_ret (v:=_) (by simp[results,Tryz.results18,go_sem];try rfl) rfl ⟨rfl,HB1.out⟩
theorem anl(w:World)(v:Value)(rows:List (List Int))(cols:Int)(L:Nat)(h:IsM w v rows L)(hs:¬Shaped rows cols):
  Calls Tryz.prog 17 #[v,.int .i64 cols] w fun e w'=>e=.returned (.tuple #[.slice none 0 0,.int .i64 1])/\w'=w:=by
 have K0:=aiy w v rows L h cols;rw[decide_eq_false hs]at K0;have K0:=hide K0;obtain⟨ao,cp,rfl,hn⟩:=h.parts;clear h hs;go_enter Tryz.func17,Tryz.ntmps17
 go_wp2_with fail
 refine K0.out.mono ?_;rintro e w1 ⟨rfl,rfl⟩;clear K0;go_wp2;refine bodyPost_ret (v:=_) (by simp[results,Tryz.results17,go_sem];try rfl) rfl ⟨rfl,rfl⟩
theorem ahf(w:World)(v:Value)(rows:List (List Int))(n S:Nat)(B:Md.Rw->Nat)(h:IsM w v rows (S+1))(hs:Shaped rows (n:Int))(hS:S<=1500)(hS1:1<=S)(hB:Bnd rows S B):
  Calls Tryz.prog 17 #[v,.int .i64 (n:Int)] w fun e w'=>(∃m R Q X m' R' Q' X',RdI n rows n m R Q X/\RdI n (nulO n R Q) n m' R' Q' X'/\ToldS w.heap.size (m'.take Q'.length) (3*(49000+1)) e w')/\Below w.heap.size w w':=by
 have K0:=aiy w v rows (S+1) h (n:Int);rw[decide_eq_true hs]at K0;have K0:=hide K0;have hn32:n<=32:=by have:=hs.2.1;omega
 have hrn:∀r∈rows,r.length=n:=fun r hr=>by have:=hs.2.2.2 r hr;omega
 have hr64:=hs.2.2.1;have K1:=hide (atk w v rows (S+1) h (by omega) (fun r hr=>by rw[hrn r hr];omega) (by omega));have HBN:=hide hB;have HRN:=hide hrn;obtain⟨ao,cp,rfl,hn⟩:=h.parts;clear h hs hB hrn;go_enter Tryz.func17,Tryz.ntmps17
 go_wp2_with fail
 refine K0.out.mono ?_;rintro e w1 ⟨rfl,rfl⟩;clear K0;go_wp2_with fail
 refine K1.out.mono ?_;rintro e w2 ⟨r2,vs2,rfl,hM2,hb2⟩;have K2:=hide (aty w2 r2 rows n S B hM2.nm HRN.out hr64 hn32 hS hS1 HBN.out);obtain⟨a2,c2,hv2,-⟩:=Ce.own hM2.own;subst hv2;have HB2:=hide hb2;clear hb2 hM2 K1;go_wp2_with fail
 refine K2.out.mono ?_;rintro e w3 ⟨⟨mv,m,R,Q,X,m',R',Q',X',rfl,hRd,hRd',hNM⟩,hb3⟩;have hro:=hRd'.rows;have K3:=hide (atl w3 mv (m'.take Q'.length) (3*(49000+1)) hNM (by rw[List.length_take];omega) (fun r hr=>by rw[hro.2 r hr];omega) (by omega));obtain⟨a3,c3,hv3,-⟩:=hNM.parts;subst hv3;have HRD:=hide (And.intro hRd hRd');have HB3:=hide (HB2.out.trans (hb3.mono HB2.out.size));obtain⟨ml,hml⟩:∃ml,(m'.take Q'.length).length=ml:=⟨_,rfl⟩;rw[hml]at K3 ⊢;clear hRd hRd' hNM hb3 hro K2 hml;go_wp2_with fail
 refine K3.out.mono ?_;rintro e w4 ⟨hT,hb4⟩;have HB4:=hide (HB3.out.trans (hb4.mono HB3.out.size));rcases hT with⟨hbg,rfl⟩|⟨hnb,rv,ess,rfl,hO,hC⟩
 ·have HX:=hide hbg;clear hbg hb4 K3;go_wp2;refine bodyPost_ret (v:=_) (by simp[results,Tryz.results17,go_sem];try rfl) rfl ⟨⟨m,R,Q,X,m',R',Q',X',HRD.out.1,HRD.out.2,.inl ⟨HX.out,rfl⟩⟩,HB4.out⟩
 ·obtain⟨ra,rc,rfl⟩:=hO.shp;have HX:=hide (And.intro hnb (And.intro (hO.low HB3.out.size) hC));clear hnb hO hC hb4 K3;go_wp2;refine bodyPost_ret (v:=_) (by simp[results,Tryz.results17,go_sem];try rfl) rfl ⟨⟨m,R,Q,X,m',R',Q',X',HRD.out.1,HRD.out.2,.inr ⟨HX.out.1,_,ess,rfl,HX.out.2.1,HX.out.2.2⟩⟩,HB4.out⟩
structure KerC (ess:List (List WE)) (cols:Int) (E:List (List Int)) (f:Int) (L M:Nat):Prop where
 len:∃n,(∀r∈E,r.length=n)/\n<=32/\E.length<=32
 refE:∀(w:World) (v:Value),RwM w v ess->Calls Tryz.prog 17 #[v,.int .i64 cols] w fun e w'=>(∃wv gss,e=.returned (.tuple #[wv,.int .i64 f])/\OtE w.heap.size w' wv gss/\CanEM gss E L)/\Below w.heap.size w w'
 prE:∀(w:World) (v:Value) (fss:List (List WE)),RwM w v fss->SameM fss ess->Calls Tryz.prog 18 #[v,.int .i64 cols] w fun e w'=>(∃mv vs lo hi,e=.returned (.tuple #[mv,.int .i64 f])/\OwA w.heap.size w' mv E M vs lo hi)/\Below w.heap.size w w'
theorem av7{w:World}{v:Value}{ess:List (List WE)}{cols:Int}(h:RwM w v ess)(hm:∀es∈ess,∀e∈es,e.m<=35184372088832)(hs:¬Shaped (zsM ess) cols):KerC ess cols [] 1 0 0:=by
 have hzl:∀es∈ess,∀e∈es,e.zs.length<=35184372088832:=fun es he e hx=>by
  obtain⟨u,hu⟩:=h.row es he;have:=(hu.sl e hx).parts.1;have:=hm es he e hx;omega
 refine⟨⟨0,fun r hr=>(by cases hr),by omega,by simp⟩,fun w v hR=>?_,fun w v fss hR hS=>?_⟩
 ·exact(anl w v _ cols _ (hR.isM_s hm) hs).mono fun e w' ⟨h1,h2⟩=>⟨⟨_,[],h1,ag5 _ _,rfl,fun i es z a=>(by simp at a)⟩,by rw[h2];exact Below.refl _ _⟩
 ·exact(ank w v _ cols _ (hR.isM_z hS hzl) hs).mono fun e w' ⟨h1,h2⟩=>⟨⟨_,[],_,_,h1,ajs _ _ _⟩,h2⟩
theorem akn{n:Nat}{rows:List (List Int)}{R R':List Md.Rw}{Q Q':List Nat}(h:Ech n (mir rows) R Q)(h':Ech n (mir rows) R' Q')(hrn:∀r∈rows,r.length=n):elR n (kerE n R' Q')=elR n (kerE n R Q):=by
 refine atb h'.gat.kerEF h.gat.kerEF (fun e he=>?_) (fun e he=>?_)
 ·rw[h.ker hrn,<-h'.ker hrn];exact .mem (List.mem_map.2 ⟨e,he,rfl⟩)
 ·rw[h'.ker hrn,<-h.ker hrn];exact .mem (List.mem_map.2 ⟨e,he,rfl⟩)
theorem atz{w:World}{v:Value}{ess:List (List WE)}{n:Nat}(h:RwM w v ess)(hl:lenM ess<=1500)(hs:Shaped (zsM ess) (n:Int)):∃E f L M,KerC ess (n:Int) E f L M:=by
 have hzl:∀es∈ess,∀e∈es,e.zs.length<=1500:=fun es he e hx=>by
  obtain⟨u,hu⟩:=h.row es he;have:=(hu.sl e hx).parts.1;have:=als hx;have:=ahy he;omega
 have hn32:n<=32:=by have:=hs.2.1;omega
 have hrn:∀r∈zsM ess,r.length=n:=fun r hr=>by have:=hs.2.2.2 r hr;omega
 have hB:=azy h hl;obtain⟨_,_,_,⟨⟨R,Q,hE,_⟩,_⟩,_⟩:=ae6 w v (zsM ess) n 1500 (h.isM hl) hs (by omega) [];have hEl:(elR n (kerE n R Q)).length<=32:=by rw[adp,avg];have:=aju n Q;omega
 by_cases hbig:∃r∈elR n (kerE n R Q),r.any big=true
 ·refine⟨[],2,0,0,⟨0,fun r hr=>(by cases hr),by omega,by simp⟩,fun w v hR=>?_,fun w v fss hR hS=>?_⟩
  ·refine(ahf w v _ n 1500 bndB ((hR.isM hl).wide (by omega)) hs (by omega) (by omega) hB).mono fun e w' ⟨⟨m,R1,Q1,X,m',R',Q',X',hRd,hRd',hT⟩,h2⟩=>⟨?_,h2⟩
   rw[hRd'.take_el,akm hRd hrn hRd' hE]at hT;rcases hT with⟨_,h1⟩|⟨h1,_⟩
   ·exact⟨_,[],h1,ag5 _ _,rfl,fun i es z a=>(by simp at a)⟩
   ·obtain⟨r,hr,hb⟩:=hbig;rw[h1 r hr]at hb;cases hb
  ·refine(ae6 w v _ n 1500 (hR.isM_z hS hzl) hs (by omega)).mono fun e w' ⟨⟨R',Q',hE',hT⟩,h2⟩=>⟨?_,h2⟩
   rw[akn hE hE' hrn]at hT;rcases hT with⟨_,h1⟩|⟨h1,_⟩
   ·exact⟨_,[],_,_,h1,ajs _ _ _⟩
   ·obtain⟨r,hr,hb⟩:=hbig;rw[h1 r hr]at hb;cases hb
 ·refine⟨elR n (kerE n R Q),0,3*(49000+1),lg 1500,⟨n,ayb,hn32,hEl⟩,fun w v hR=>?_,fun w v fss hR hS=>?_⟩
  ·refine(ahf w v _ n 1500 bndB ((hR.isM hl).wide (by omega)) hs (by omega) (by omega) hB).mono fun e w' ⟨⟨m,R1,Q1,X,m',R',Q',X',hRd,hRd',hT⟩,h2⟩=>⟨?_,h2⟩
   rw[hRd'.take_el,akm hRd hrn hRd' hE]at hT;rcases hT with⟨h1,_⟩|⟨_,rv,gss,h1,h3,h4⟩
   ·exact absurd h1 hbig
   ·exact⟨rv,gss,h1,h3,h4⟩
  ·refine(ae6 w v _ n 1500 (hR.isM_z hS hzl) hs (by omega)).mono fun e w' ⟨⟨R',Q',hE',hT⟩,h2⟩=>⟨?_,h2⟩
   rw[akn hE hE' hrn]at hT;rcases hT with⟨h1,_⟩|⟨_,rv,vs,lo,hi,h1,h3⟩
   ·exact absurd h1 hbig
   ·exact⟨rv,vs,lo,hi,h1,h3⟩
end Lm
namespace Lm
open Go Go.RowKit Md
open Dm (WFr)
theorem Kp.cat{w w1 w2:World}{p:Nat}{bs bs':List Nat}(h:Kp w w1 p bs)(h':Kp w1 w2 p bs'):Kp w w2 p (bs++bs'):=
 ⟨h'.os.trans h.os,h'.tape.trans h.tape,h'.output.trans h.output,Nat.le_trans h.size h'.size,fun k hk hp hn=>(h'.other k (Nat.lt_of_lt_of_le hk h.size) hp (fun hm=>hn (List.mem_append.2 (.inr hm)))).trans (h.other k hk hp (fun hm=>hn (List.mem_append.2 (.inl hm))))⟩
theorem av8(w:World)(p Q m bv n:Nat)(bs:List Nat)(es:List WE)(B T:Nat->Nat)(K S:Nat)(hb:Bs w p Q bs m)(hm:m+n<=100000)(h:BRow w bv n 0 es B T K S)(hQK:Q<=K)(hKb:K<=bv)(hbv:bv<S)(hpK:p<K)(hSw:S<=w.heap.size)(hd:∀j∈bs,j<K\/S<=j):
  Calls Tryz.prog 32 #[.pointer (some ⟨p,0,none⟩),.slice (some ⟨bv,0,none⟩) n n] w fun e w'=>e=.returned (.bool true)/\∃bs' bx,Bs w' p Q bs' (m+n)/\Kp w w' p bx/\(∀j∈bs',j∈bs\/w.heap.size<=j\/(K<=j/\j<S))/\∀j∈bx,j∈bs\/w.heap.size<=j\/(K<=j/\j<S):=by
 have HB:=hide hb;have HR:=hide h;have HD:=hide hd;have HI:=hide (And.intro hm (And.intro hQK (And.intro hKb (And.intro hbv (And.intro hpK hSw)))));have hn9:n<=100000:=by omega
 clear hb h hd hm hQK hKb hbv hpK hSw;go_enter Tryz.func32,Tryz.ntmps32
 go_wp2_with fail
 go_loopw [5] (fun iv wr=>∃(k:Nat) (bs' bx:List Nat),iv=.int .i64 k/\k<=n/\Bs wr p Q bs' (m+k)/\Kp w wr p bx/\BRow wr bv n k es B T K S/\(∀j∈bs',∀i,k<=i->i<n->j<B i\/T i<=j)/\bv∉bs'/\(∀j∈bs',j∈bs\/w.heap.size<=j\/(K<=j/\j<S))/\∀j∈bx,j∈bs\/w.heap.size<=j\/(K<=j/\j<S)) (fun iv _=>n-(intOf iv).toNat)
 case atStart=>
  refine⟨0,bs,[],rfl,Nat.zero_le _,HB.out,Kp.refl _ _ _,HR.out,fun j hj i _ hi=>?_,fun hc=>?_,fun j hj=>.inl hj,fun j hj=>(by cases hj)⟩
  ·obtain⟨_,_,_,r4,_⟩:=HR.out;have:=r4 i hi;have:=HD.out j hj;omega
  ·have:=HD.out bv hc;have:=HI.out;omega
 case round=>
  obtain⟨k,bs',bx,rfl,hk,hbk,hkp0,hrow,hdj,hnb,hin,hinx⟩:=hrel;have HIN:=hide (And.intro hin hinx);have HKP:=hide hkp0;clear hin hinx;have HBK:=hide hbk;have HROW:=hide hrow;have HDJ:=hide hdj;have HNB:=hide hnb;by_cases hlt:k<n
  ·have hlt':(k:Int)<(n:Int):=by omega
   obtain⟨r1,r2,r3,r4,r5⟩:=hrow;obtain⟨e,he⟩:∃e,es[k]? = some e:=⟨_,List.getElem?_eq_getElem (by omega)⟩;obtain⟨z,hz,hme⟩:=r3 k e (Nat.le_refl _) he;obtain⟨f1,f2⟩:=aau he;have c1:wr.cell? ⟨bv,k*2+1,none⟩=some (.slice e.a e.zs.length e.c):=by rw[cell_of_row _ _ _ _ _ (0,0) r2,List.getElem?_toArray,f2,hme]
   have hr4:=r4 k hlt;have hi:=HI.out;have hkps:=hkp0.size;obtain⟨p',q',hz',⟨n1,n2,n3,n4⟩,hbl⟩:=Lm.WFr.nr hz (Nat.le_refl (B k));have hbvn:¬(p'<=bv/\bv<q'):=fun hc=>by
    obtain⟨cur,hcur⟩:=hbl bv hc.1 hc.2;rw[r2]at hcur;injection hcur with hcur;injection hcur with _ hcur;exact absurd hcur (by decide)
   have HNR:Hid (p'<q'->B k<=p'/\q'<=T k):=n4;have HBN:=hide hbvn;have K1:=hide (az1 wr p Q (m+k) bs' hbk (by omega) p' q' e.a e.c e.zs _ hz'.fr (by omega) (by omega) (fun j hj=>by have:=hdj j hj k (Nat.le_refl _) hlt;omega));clear hbk hkp0 hdj hnb r1 r2 r3 r4 r5 he hz hme f1 f2 hr4 hi hz' n1 n2 n3 n4 hbl hbvn hkps;go_wp2_with fail
   refine K1.out.mono ?_;rintro x w2 ⟨rfl,bs2,hb2,hkp,hj2⟩;obtain⟨r1,r2,r3,r4,r5⟩:=HROW.out;have hr4:=r4 k hlt;have hi:=HI.out;have hsz:=HKP.out.size;have hnr:=HNR.out;have hin2:∀j∈bs2,j∈bs\/w.heap.size<=j\/(K<=j/\j<S):=fun j hj=>by
    rcases hj2 j hj with h|h|h
    ·exact HIN.out.1 j h
    ·exact .inr (.inl (by omega))
    ·exact .inr (.inr (by omega))
   have hnb2:bv∉bs2:=fun hc=>by
    rcases hj2 bv hc with h|h|h
    ·exact HNB.out h
    ·omega
    ·exact HBN.out h
   have hdj2:∀j∈bs2,∀i,k+1<=i->i<n->j<B i\/T i<=j:=fun j hj i hi1 hi2=>by
    rcases hj2 j hj with h|h|h
    ·exact HDJ.out j h i (by omega) hi2
    ·have:=(r4 i hi2).2;omega
    ·have:=r5 k i (by omega) hi2;omega
   have HR2:Hid (BRow w2 bv n (k+1) es B T K S):=by
    refine⟨r1,(hkp.other bv (by omega) (by omega) hnb2).trans r2,fun j e hj he=>?_,r4,r5⟩;obtain⟨z,g1,g2⟩:=r3 j e (by omega) he;have hjn:j<n:=by have:=(List.getElem?_eq_some_iff.1 he).1;omega
    have hr:=r4 j hjn;exact⟨z,g1.kp hkp (by omega) (fun i hi'=>hdj2 i hi' j (by omega) hjn),g2⟩
   have HB2:=hide hb2;have HK2:=hide (HKP.out.cat hkp);have HJ2:=hide hdj2;have HN2:=hide hnb2;have HI2:=hide hin2;have HX2:Hid (∀j∈bx++bs2,j∈bs\/w.heap.size<=j\/(K<=j/\j<S)):=(fun j hj=>by
    rcases List.mem_append.1 hj with h|h
    ·exact HIN.out.2 j h
    ·exact hin2 j h)
   clear hb2 hkp hj2 r1 r2 r3 r4 r5 hr4 hi hsz hnb2 hdj2 hin2 c1 hnr;go_wp2;go_roundw
   case rel=>exact⟨k+1,bs2,bx++bs2,by go_num,by omega,HB2.out,HK2.out,HR2.out,fun j hj i hi1 hi2=>HJ2.out j hj i hi1 hi2,HN2.out,HI2.out,HX2.out⟩
   case measure=>simp[intOf];omega
  ·have hlt':decide ((k:Int)<(n:Int))=false:=by simp;omega
   have hkn:k=n:=by omega
   subst hkn;clear hbk hkp0 hrow hdj hnb;go_wp2;refine bodyPost_ret (v:=_) (by simp[results,Tryz.results32,go_sem];try rfl) rfl ⟨rfl,bs',bx,HBK.out,HKP.out,HIN.out.1,HIN.out.2⟩
theorem a0h(w:World)(p Q m n K:Nat)(bs:List Nat)(rv:Value)(rows:List (List Int))(L:Nat)(vs:List Value)(lo hi:Nat->Nat)(hb:Bs w p Q bs m)(hA:OwA K w rv rows L vs lo hi)(hrn:∀r∈rows,r.length=n)(hm:m+rows.length*n<=100000)(hrl:rows.length<=100000)(hQK:Q<=K)(hpK:p<K)(hKw:K<=w.heap.size)(hd:∀j∈bs,j<K):
  Calls Tryz.prog 15 #[.pointer (some ⟨p,0,none⟩),rv] w fun e w'=>e=.returned (.bool true)/\∃bs' bx,Bs w' p Q bs' (m+rows.length*n)/\Kp w w' p bx/\∀j∈bx,j∈bs\/K<=j:=by
 obtain⟨ao,cp,rfl,hnn⟩:=hA.m.is.parts;have HB:=hide hb;have HA:=hide hA;have HRN:=hide hrn;have HD:=hide hd;have hvl:vs.length=rows.length:=by simpa using hA.own.1
 have HI:=hide (And.intro hm (And.intro hQK (And.intro hpK (And.intro hKw hvl))));obtain⟨r,hr⟩:∃r,rows.length=r:=⟨_,rfl⟩;have HR:=hide hr;rw[hr]at hm hnn hrl ⊢;clear hb hA hrn hd hm hQK hpK hKw hvl hr;go_enter Tryz.func15,Tryz.ntmps15
 go_wp2_with fail
 go_loopw [5] (fun iv wr=>∃(k:Nat) (bs' bx:List Nat),iv=.int .i64 k/\k<=r/\Bs wr p Q bs' (m+k*n)/\Kp w wr p bx/\(∀(i:Nat) (u:Value) (z:List Int),k<=i->vs[i]? = some u->rows[i]? = some z->RwI wr u z (lo i) (hi i))/\(∀j∈bs',j∈bs\/w.heap.size<=j\/∃i,i<k/\lo i<=j/\j<hi i)/\∀j∈bx,j∈bs\/w.heap.size<=j\/∃i,i<k/\lo i<=j/\j<hi i) (fun iv _=>r-(intOf iv).toNat)
 case atStart=>exact⟨0,bs,[],rfl,Nat.zero_le _,by simpa using HB.out,Kp.refl _ _ _,fun i u z _ a b=>(HA.out.row i u z a b).2,fun j hj=>.inl hj,fun j hj=>(by cases hj)⟩
 case round=>
  obtain⟨k,bs',bx,rfl,hk,hbk,hkp0,hrow,hin,hinx⟩:=hrel;have HIN:=hide (And.intro hin hinx);have HKP:=hide hkp0;have HBK:=hide hbk;have HROW:=hide hrow;clear hin hinx;by_cases hlt:k<r
  ·have hlt':(k:Int)<(r:Int):=by omega
   have hi0:=HI.out;have hrr:=HR.out;obtain⟨u,hu⟩:∃u,vs[k]? = some u:=⟨_,List.getElem?_eq_getElem (by omega)⟩;obtain⟨z,hz⟩:∃z,rows[k]? = some z:=⟨_,List.getElem?_eq_getElem (by omega)⟩;have hzn:z.length=n:=HRN.out z (List.mem_of_getElem? hz);obtain⟨g,hg,hgl,x0⟩:∃g,ao=some ⟨g,0,none⟩/\g<wr.heap.size/\wr.cell? ⟨g,k,none⟩=some u:=by
    have hb1:=HA.out.blk;have hlw:=HA.out.low;obtain⟨_,⟨h1,_⟩|⟨g,cap,cur,hv,hKg,hh,h2⟩⟩:=HA.out.own
    ·exact absurd h1 (by intro hc;injection hc with _ hc;omega)
    ·injection hv with hv1 hv2 hv3;subst hv1;have hgw:=aaa hh;have hne:g∉bx:=fun hc=>by
      rcases HIN.out.2 g hc with h|h|⟨i,h1,h3,h4⟩
      ·have:=HD.out g h;omega
      ·omega
      ·have:=hb1 i g (by omega) rfl;omega
     have hkeep:=HKP.out.other g hgw (by omega) hne;refine⟨g,rfl,Nat.lt_of_lt_of_le hgw HKP.out.size,?_⟩;rw[cell_of_row _ _ _ _ _ (0,0) (hkeep.trans hh)];have hu':=hu;rw[<-h2.2.2.2,List.getElem?_take]at hu';split at hu'
     ·simpa using hu'
     ·cases hu'
   subst hg;obtain⟨bv,es,B,T,hbv1,hbv2,hbv3,hbr⟩:=hrow k u z (Nat.le_refl _) hu hz;subst hbv1;rw[hzn]at hbr x0;have hlk:=HA.out.low k (by omega);have hkps:=hkp0.size;have hd:∀j∈bs',j<lo k\/hi k<=j:=fun j hj=>by
    rcases HIN.out.1 j hj with h|h|⟨i,h1,h2,h3⟩
    ·have:=HD.out j h;omega
    ·omega
    ·have:=HA.out.apart i k h1 (by omega);omega
   have hmul:k*n+n<=r*n:=by
    rw[<-Nat.succ_mul];exact Nat.mul_le_mul_right n hlt
   have K1:=hide (av8 wr p Q (m+k*n) bv n bs' es B T (lo k) (hi k) hbk (by rw[hrr]at hi0;omega) hbr (by omega) hbv2 hbv3 (by omega) (by omega) hd);have HHD:=hide hd;have HU:=hide (And.intro hu hz);clear hbk hkp0 hrow hi0 hu hz hbr hd hlk hkps hmul hrr;go_wp2_with fail
   refine K1.out.mono ?_;rintro x w2 ⟨rfl,bs2,bx2,hb2,hkp,hj2,hjx⟩;have hsz:=HKP.out.size;have hmap:∀j,(j∈bs'\/wr.heap.size<=j\/(lo k<=j/\j<hi k))->j∈bs\/w.heap.size<=j\/∃i,i<k+1/\lo i<=j/\j<hi i:=fun j hj=>by
    rcases hj with h|h|h
    ·rcases HIN.out.1 j h with h|h|⟨i,h1,h2⟩
     ·exact .inl h
     ·exact .inr (.inl h)
     ·exact .inr (.inr ⟨i,by omega,h2⟩)
    ·exact .inr (.inl (by omega))
    ·exact .inr (.inr ⟨k,by omega,h⟩)
   have HB2:Hid (Bs w2 p Q bs2 (m+(k+1)*n)):=(by rw[Nat.succ_mul,<-Nat.add_assoc];exact hb2);have HK2:=hide (HKP.out.cat hkp);have HJ2:Hid (∀j∈bs2,j∈bs\/w.heap.size<=j\/∃i,i<k+1/\lo i<=j/\j<hi i):=(fun j hj=>hmap j (hj2 j hj));have HX2:Hid (∀j∈bx++bx2,j∈bs\/w.heap.size<=j\/∃i,i<k+1/\lo i<=j/\j<hi i):=(fun j hj=>by
    rcases List.mem_append.1 hj with h|h
    ·rcases HIN.out.2 j h with h|h|⟨i,h1,h2⟩
     ·exact .inl h
     ·exact .inr (.inl h)
     ·exact .inr (.inr ⟨i,by omega,h2⟩)
    ·exact hmap j (hjx j h))
   have HR2:Hid (∀(i:Nat) (u:Value) (z:List Int),k+1<=i->vs[i]? = some u->rows[i]? = some z->RwI w2 u z (lo i) (hi i)):=(fun i u z hki hu hz=>by
    have hil:=(List.getElem?_eq_some_iff.1 hz).1;have hl:=HA.out.low i hil;have hap:=HA.out.apart k i (by omega) hil;have hi0:=HI.out;refine(HROW.out i u z (by omega) hu hz).kp hkp (.inl (by omega)) fun j hj=>?_
    rcases hmap j (hjx j hj)with h|h|⟨i',h1,h2,h3⟩
    ·have:=HD.out j h;omega
    ·omega
    ·have:=HA.out.apart i' i (by omega) hil;omega)
   clear hb2 hkp hj2 hjx hsz hmap x0;go_wp2;go_roundw
   case rel=>exact⟨k+1,bs2,bx++bx2,by go_num,by omega,HB2.out,HK2.out,HR2.out,HJ2.out,HX2.out⟩
   case measure=>simp[intOf];omega
  ·have hlt':decide ((k:Int)<(r:Int))=false:=by simp;omega
   have hkn:k=r:=by omega
   subst hkn;clear hbk hkp0 hrow;go_wp2;refine bodyPost_ret (v:=_) (by simp[results,Tryz.results15,go_sem];try rfl) rfl ⟨rfl,bs',bx,HBK.out,HKP.out,fun j hj=>by
    have hi0:=HI.out;have hrr:=HR.out;rcases HIN.out.2 j hj with h|h|⟨i,h1,h2,h3⟩
    ·exact .inl h
    ·exact .inr (by omega)
    ·have:=HA.out.low i (by omega);exact .inr (by omega)⟩
end Lm
namespace Lm
open Go Go.RowKit Md
theorem aqo(w:World)(v0:Value)(ess:List (List WE))(cols:Int)(h0:RwM w v0 ess)(hlen:∀es∈ess,es.length<=4398046511103/\∀e∈es,e.m<=35184372088832)(hout:ess.length<=5864062014804):
  Calls Tryz.prog 4 #[v0,.int .i64 cols] w fun e w'=>e=.returned (.bool true)/\Below w.heap.size w w':=by
 obtain⟨a0,c0,rfl,hm0⟩:=h0.parts;have HO:=hide (And.intro hout hlen);have HL:Hid (∀es∈ess,∀e∈es,e.m<=35184372088832):=(fun es he=>(hlen es he).2);have H0:=hide h0;have K1:=hide (azu w);clear h0 hlen hout;obtain⟨m,hm⟩:∃m,ess.length=m:=⟨_,rfl⟩;have HM:=hide hm;rw[hm]at H0 hm0 ⊢;clear hm;go_enter Tryz.func4,Tryz.ntmps4
 go_wp2_with fail
 refine K1.out.mono ?_;rintro e w1 ⟨rfl,hb1⟩;have HB1:=hide hb1;have K2:=atq w1 _ ess (H0.out.below hb1) HL.out;obtain⟨lv,hlv⟩:∃lv,IntKind.i64.wrap (lenM ess:Int)=lv:=⟨_,rfl⟩;rw[hlv]at K2;have K2:=hide K2;have HLV:=hide hlv;clear hlv;clear hb1 K1;go_wp2_with fail
 refine K2.out.mono ?_;rintro e w2 ⟨rfl,hb2⟩;have HB2:=hide (HB1.out.trans (hb2.mono HB1.out.size));clear hb2 K2;by_cases hlong:lv > 1500
 ·have hl':lv > 1500:=hlong;go_wp2;refine bodyPost_ret (v:=_) (by simp[results,Tryz.results4,go_sem];try rfl) rfl ⟨rfl,HB2.out⟩
 have hl':decide (lv > 1500)=false:=by simp;omega
 obtain⟨E,f,L,M,hC⟩:∃E f L M,KerC ess cols E f L M:=by
  by_cases hsh:Shaped (zsM ess) cols
  ·have hlm:lenM ess<=1500:=by
    have h1:=aql hsh HL.out;have h2:=HLV.out;rw[ayl (by omega) (by omega)]at h2;omega
   obtain⟨n,rfl⟩:∃n:Nat,cols=(n:Int):=⟨cols.toNat,by have:=hsh.1;omega⟩;exact atz H0.out hlm hsh
  ·exact⟨_,_,_,_,av7 H0.out HL.out hsh⟩
 have HC:=hide hC;have hff:(f != f)=false:=by simp
 have hbK:=hAl w2 (.cells #[.slice none 0 0,.slice none 0 0] 29);have HBKN:=hide (heap_alloc_new w2 (.cells #[.slice none 0 0,.slice none 0 0] 29));have HB3:=hide (HB2.out.trans (hbK.mono HB2.out.size));have HSZ3:Hid (w.heap.size<=w2.heap.size/\w2.heap.size<(w2.alloc (.cells #[.slice none 0 0,.slice none 0 0] 29)).heap.size):=⟨HB2.out.size,by simp⟩;have K3:=hide (HC.out.refE _ _ (H0.out.below HB3.out));clear hC hbK hlong;go_wp2_with fail
 refine K3.out.mono ?_;rintro e w4 ⟨⟨wv,gss,rfl,hOt,hCan⟩,hb4⟩;generalize hWk:w2.alloc (.cells #[.slice none 0 0,.slice none 0 0] 29)=wk at *
 generalize hf2:w2.heap.size=p at *
 obtain⟨wa,wc,rfl⟩:=hOt.shp;have HOT:=hide hOt;have HCN:=hide hCan;have HB5:=hide (HB3.out.trans (hb4.mono HB3.out.size));have HOS:=HOT;have HBK:Hid (Bs w4 p w4.heap.size [] 0):=Bs.new ((hb4.block _ (aaa HBKN.out)).trans HBKN.out);have HSZ5:Hid (w.heap.size<=p/\p<wk.heap.size/\wk.heap.size<=w4.heap.size):=⟨HSZ3.out.1,HSZ3.out.2,hb4.size⟩;clear hOt hCan hb4 K3 hWk hf2 HOT HBKN HSZ3 HB3 HB2 HB1;obtain⟨ws,hws⟩:∃ws,ws=w4:=⟨_,rfl⟩;subst hws;obtain⟨n,hEn,hn32,hE32⟩:=HC.out.len;have HEN:=hide hEn;have hen:E.length*n<=1024:=Nat.le_trans (Nat.mul_le_mul hE32 hn32) (by decide);obtain⟨en,hen'⟩:∃en,E.length*n=en:=⟨_,rfl⟩;rw[hen']at hen;have HEE:=hide hen';clear hEn hen';go_wp2_with fail
 go_loopw [8] (fun iv wr=>∃(k:Nat) (bs:List Nat),iv=.int .i64 k/\k<=2/\Below w.heap.size w wr/\Bs wr p ws.heap.size bs (k*en)/\ws.heap.size<=wr.heap.size/\∀j,j<ws.heap.size->j≠p->wr.heap[j]? = ws.heap[j]?) (fun iv _=>2-(intOf iv).toNat)
 case atStart=>exact⟨0,[],rfl,Nat.zero_le _,HB5.out,by simpa using HBK.out,Nat.le_refl _,fun j _ _=>rfl⟩
 case round=>
  obtain⟨k,bs,rfl,hk,hbw,hbs,hsz,hkeep⟩:=hrel;have HW:=hide hbw;have HBS:=hide hbs;have HKP:=hide hkeep;by_cases hlt:k<2
  ·have hlt':(k:Int)<2:=by omega
   have K1:=hide (aqf wr _ ess (H0.out.below hbw) HO.out.1 HO.out.2);clear hbw hbs hkeep;go_wp2_with fail
   refine K1.out.mono ?_;rintro e x1 ⟨gv,fss,rfl,hG,hS,hx1⟩;obtain⟨ga,gc,rfl⟩:=hG.shp;have HG:=hide hG.rwM;have HS:=hide hS;have HX1:=hide hx1;have K2:=hide (HC.out.prE x1 _ fss hG.rwM hS);clear hG hS hx1 K1;go_wp2_with fail
   refine K2.out.mono ?_;rintro e x2 ⟨⟨mv,vs,lo,hi,rfl,hA⟩,hx2⟩;obtain⟨ma,mc,rfl,_⟩:=hA.m.is.parts;have HA:=hide hA;have HX12:=hide hx2;have HA3:=HA;have HG3:=hide (HG.out.below hx2);have HX13:=HX12;have HX03:=hide (HX1.out.trans (HX13.out.mono HX1.out.size));have hO3:OtE wk.heap.size wr (.slice wa gss.length wc) gss:=HOS.out.kq HSZ5.out.2.1 HKP.out;have HO3:=hide (hO3.below HX03.out);have K4:=hide (agl x2 _ _ E M L HA3.out.m.can (HO3.out.canM HCN.out));clear hA hx2 K2 hO3 HG;go_wp2_with (go_at_call 13;refine(a0g _ _).mono ?_;rintro r w' ⟨rfl,rfl⟩)
   refine K4.out.mono ?_;rintro e x4 ⟨rfl,hx4⟩;have HX34:=hide hx4;have HX04:=hide (HX03.out.trans (hx4.mono HX03.out.size));have HWX4:=hide (HW.out.trans (HX04.out.mono HW.out.size));have K5:=hide (aqg x4 _ _ fss ess (HG3.out.below hx4) (H0.out.below HWX4.out) HS.out);clear hx4 K4;go_wp2_with fail
   refine K5.out.mono ?_;rintro e x5 ⟨rfl,hx5⟩;have HX35:=hide (HX34.out.trans (hx5.mono HX34.out.size));have HX05:=hide (HX03.out.trans (HX35.out.mono HX03.out.size));have hsz5:=HSZ5.out;have hlo:∀j∈bs,j<x1.heap.size:=fun j hj=>Nat.lt_of_lt_of_le (HBS.out.low j hj).2 HX1.out.size
   have h1:=HX1.out.size;have h13:=HX13.out.size;have h35:=HX35.out.size;have K6:=a0h x5 p ws.heap.size (k*en) n x1.heap.size bs _ E M vs lo hi (HBS.out.below HX05.out) (HA3.out.below HX35.out) HEN.out (by rw[HEE.out];have:k*en<=2*en:=Nat.mul_le_mul_right _ hk;omega) (by omega) (by omega) (by omega) (by omega) hlo;rw[HEE.out]at K6;have K6:=hide K6;clear hx5 K5 hsz5 hlo h1 h13 h35;go_wp2_with fail
   refine K6.out.mono ?_;rintro e x6 ⟨rfl,bs',bx,hb6,hkp,hbx⟩;have hsz5:=HSZ5.out;have h1:=HX1.out.size;have h05:=HX05.out.size;have h6:=hkp.size;have hge:∀j∈bx,ws.heap.size<=j:=fun j hj=>by
    rcases hbx j hj with h|h
    ·exact(HBS.out.low j h).1
    ·omega
   have HB6:Hid (Bs x6 p ws.heap.size bs' ((k+1)*en)):=(by rw[Nat.succ_mul];exact hb6);have HW6:=hide ((HW.out.trans (HX05.out.mono HW.out.size)).trans (hkp.below hsz5.1 (fun j hj=>by have:=hge j hj;omega) (by omega)));have HK6:Hid (ws.heap.size<=x6.heap.size/\∀j,j<ws.heap.size->j≠p->x6.heap[j]? = ws.heap[j]?):=⟨by omega,fun j hj hp=>by
    rw[hkp.other j (by omega) hp (fun hc=>by have:=hge j hc;omega),HX05.out.block j (by omega)]
    exact HKP.out j hj hp⟩
   clear hb6 hkp hbx hsz5 h1 h05 h6 hge K6;go_wp2;go_roundw
   case rel=>exact⟨k+1,bs',by go_num,by omega,HW6.out,HB6.out,HK6.out.1,HK6.out.2⟩
   case measure=>simp[intOf];omega
  ·have hlt':decide ((k:Int)<2)=false:=by simp;omega
   have hk2:k*en<=100000:=by have:k*en<=2*en:=Nat.mul_le_mul_right _ hk;omega
   have K7:=hide (ay8 wr p _ _ _ hbs hk2);clear hbw hbs hkeep hk2;go_wp2_with fail
   refine K7.out.mono ?_;rintro e x7 ⟨rfl,hx7⟩;have HB7:=hide (HW.out.trans (hx7.mono HW.out.size));clear hx7 K7;go_wp2;refine bodyPost_ret (v:=_) (by simp[results,Tryz.results4,go_sem];try rfl) rfl ⟨rfl,HB7.out⟩
end Lm
namespace matrixKernelsLaw
open Go.ChangeShapes Go.WideShapes Go.ChangeAt Go.RowKit
open Go.ChangeMaps (open_string shut_string)
theorem own:ownKnob Tryz.prog.godebug=none:=by kernel_rfl
theorem laidOut:laidOutB Tryz.prog=true:=by kernel_rfl
set_option linter.unusedVariables false in
set_option maxRecDepth 100000 in
theorem lifted(os:Os)(started:os.Started)(H:Type)(enc:TypeId×Value->H):
  ReturnsInHanded {} Tryz.checked os 4 .any (Rows.matrixKernelsSpec.pre6 enc Tryz.prog Tryz.f4 Rows.matrixKernelsRow.domain false) (Rows.matrixKernelsSpec.post enc Tryz.prog Tryz.f4 false true false false):=by
 refine returnsInHanded_of_change_sized (C:=Tryz.checked) own started (by kernel_rfl) Tryz.func4
  (ChangeSpec.witness6 (enc:=enc) (C:=Tryz.checked) false ⟨#[],#[.slice none 0 0,.int .i64 0],[]⟩ 8 (by kernel_rfl) (by kernel_rfl) (by kernel_rfl) (by kernel_rfl)) ?_
 intro W base args ds gs before hval0 hW hcnd hsz0 _;have hval:∀(j:Nat) t v,Tryz.f4.params[j]? = some t->args[j]? = some v->Value.okWide Tryz.prog W .any base t v:=hval0;have hW':=hW;obtain⟨p,q,hA0,hV,rfl,hfz,hnd⟩:=hW;have hA:DataW.TrodAll enc Tryz.prog W 0 (fun _=>true) true Tryz.f4.params.toList args.toList ds p:=hA0;have hsz:(DataW.weightsEach Tryz.prog (Tryz.f4.params.toList++Rows.matrixKernelsSpec.plain.varTypes Tryz.prog) (ds++gs)).all (·<=reachBytes)=true:=hsz0;rw[Tryz.params4]at hA hval hsz;obtain⟨v0,vs0,d0,ds0,p0,q0,hargs,rfl,rfl,h0,r_0⟩:=trodAll_cons hA;obtain⟨v1,vs1,d1,ds1,p1,q1,rfl,rfl,rfl,h1,r_1⟩:=trodAll_cons r_0;obtain⟨rfl,rfl,rfl⟩:=trodAll_nil r_1;obtain rfl:args = #[v0,v1]:=by cases args;simp_all
 obtain⟨rfl,rfl⟩:=trodVars_none hV;obtain⟨a0,len0,cap0,rfl⟩:=okWide_slice Tryz.underlying22 (hval 0 22 v0 rfl rfl);have k0:=h0;have lt0:∀x∈p0,x.block<W.heap.size:=by obtain⟨m,hm⟩:=k0;exact DataW.trod_lt m _ _ _ hm
 obtain⟨z0,w0,b0,l0⟩:∃ess,Lm.RwM W (.slice a0 len0 cap0) ess/\(∀es∈ess,es.length<=4398046511103/\∀e∈es,e.m<=35184372088832)/\ess.length<=5864062014804:=by
  obtain⟨fuel,hf⟩:=h0;refine Lm.anh (x:=(d0,p0)) (by simpa[Value.cells]using hf) (fun k hk=>?_);have:=List.all_eq_true.1 hsz k (DataW.weights_mem_each (j:=0) (t:=22) (d:=d0) rfl rfl k hk);simpa using this
 obtain⟨a1,rfl,rfl,rfl,w1⟩:=open_int Tryz.underlying3 (hval 1 3 v1 rfl rfl) h1;clear hA0 hval0;refine(Lm.aqo W _ z0 a1 w0 b0 l0).mono fun e W' ⟨he,bel⟩=>?_
 subst he;exact⟨_,rfl,_,_,_,[],_,[],hW',trodAll_mk1 (shut_bool Tryz.underlying4 _),(trodAll_cons_mk (Below.trod laidOut (by kernel_rfl) (of_decide_eq_true (by kernel_rfl)) k0 bel lt0) (trodAll_cons_mk (shut_int Tryz.underlying3 w1) trodAll_mk0)),rfl,bel.frame _,fun h=>by cases h⟩
theorem over:Rows.matrixKernelsRow.holds Tryz.pinned (OpenSpec.ofChange Rows.matrixKernelsSpec):=
 OpenClaim.holds_of_wide 4 Tryz.f4 rfl rfl rfl rfl rfl rfl rfl ⟨rfl,rfl,rfl,rfl,rfl⟩ rfl rfl rfl rfl rfl (by kernel_rfl) Tryz.func4 (by kernel_rfl)
  (of_decide_eq_true (by kernel_rfl)) (by unfold Func.isWrapper;first|(rw[if_pos (by decide +kernel)];kernel_rfl)|(rw[if_neg (by decide +kernel)];exact⟨rfl,rfl⟩))
  (fun os started H enc _=>lifted os started H enc)
end matrixKernelsLaw
theorem matrixKernels_holds:Rows.MatrixKernelsSaid:=matrixKernelsLaw.over
#print axioms matrixKernels_holds
end Go.Proofs.YtpccfkdcpjplgaaGreat
