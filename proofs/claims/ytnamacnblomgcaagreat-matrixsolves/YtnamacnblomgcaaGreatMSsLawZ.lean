/-
  The given statement on MatrixSolves, for every input: the call answers true, and each argument reads behind it as it read before. No condition beyond the statement's own. Beside it: Rows of rows copied as they lie, whatever their length; held against one another. The document's Read: rows that were handed in, as its own numbers. The document's Echelon and Rank. The document's In. Lists of rows of one's own that are written, and what stays beside them. Package matrix: mirrored: slices.Clone and slices.Reverse of a row, turned of rows, slices.Reverse of rows. Package matrix: mirrored. Package matrix: across. LenWholes and LenRows of rows of any length: what they answer is the length as an int. MatrixSpace: other rows of the same row space have the same echelon form. What MatrixForms and MatrixDual ask: rows that are told are short; Echelon of rows without a shape; a product of rows as one operation. Both sides of Echelon and Rank: what the program and the document answer of rows that lie alike. Both sides of Inside. A row of the document's fractions that is written; Zero, within. The document's Null. The document's Solved: a row made longer by a number, in memory of its own. Fractions that Solve answers: how long they are; sums of them; Mul, Cmp, Sign, Limbs by worth. Package matrix: beside: slices.Grow, slices.Concat, and the rows with a column more. Rows of fractions that are made: turned into fractions; which of them are too long. Package matrix: which fractions of a row are too long; what Solve makes of a number. Package matrix: Solve. The document's Solved. Solve: the program's and the document's solution are the same. The document's Solve. Package matrix: Solve, each fraction in memory of its own. Both sides of Solve. Rows in memory of their own are handed to the book. The law on Solve: it answers as the document does, each fraction in memory of its own.
-/
import Derived.WalkKit
import Derived.WalkMore
import Derived.Lib.AppendZerosOnto
import Derived.Shelf.Spec.SlicesInsertGrow
import Derived.Test.YtnamacnblomgcaaGreatRows
import Derived.ProofKit
import Derived.OpenShut
import Derived.ShutString
import Derived.ChangeOld
import Derived.SizedLaws
import Derived.Test.YtnamacnblomgcaaGreatMSsLawZ5
set_option maxRecDepth 20000
set_option maxHeartbeats 40000000
namespace Go.Proofs.YtnamacnblomgcaaGreat
namespace Lm
open Go Go.RowKit
theorem a0t(w:World)(ao:Option Addr)(n cap:Nat)(xs:List Int)(hx:Sl w (.slice ao n cap) xs)(hl:xs.length<=35184372088832):
  Calls Tryz.prog 48 #[.slice ao n cap] w fun e w'=>∃v,e=.returned v/\Ow w.heap.size w' v xs/\Below w.heap.size w w':=by
 obtain⟨rfl,h1,h2,h3⟩:=hx.parts;obtain⟨i0,hi,hz0,hz1,hz2⟩:=info_parts ab0;by_cases h0:0<xs.length
 ·obtain⟨b,off,rfl,hc⟩:=hx.cells h0;have hcells:=asw hc;have H3:=hide h3;clear hc h3 hx;go_enter Tryz.func48,Tryz.ntmps48
  go_wp2_with (at_builtin;refine wpList_append_own _ rfl (.const (.slice none 0 0)) (.tmp 3) 37 rfl w.heap.size 88 i0 (.int .u32 0) 1 4 Tryz.underlying37 hi hz0 hz1 hz2 rfl (by decide) _ _ _ rfl (World.ownsRow_nil _ _ _ _) ⟨b,off,none⟩ xs.length cap (xs.map (Value.int .u32)) rfl (by simp) hcells (ayg xs) (by unfold maxLen;omega) (by omega) (by simp) ?_)
  intro v' w1 hown hgrow _;have hb1:Below w.heap.size w w1:=(Below.refl w.heap.size w).grown hgrow (by simp) (by intro k hk;simp[Value.ownBlock]at hk);have how:=abt (zs:=xs) (by simpa using hown) H3.out;clear hown hgrow;go_wp2;go_ret;exact⟨_,rfl,how,hb1⟩
 ·have e:xs = []:=List.eq_nil_of_length_eq_zero (by omega);subst e;cases ao with
  |none=>
   go_enter Tryz.func48,Tryz.ntmps48
   go_wp2;go_ret;exact⟨_,rfl,⟨none,0,rfl,Nat.le_refl _,by simp[maxLen],aad,.inl rfl⟩,Below.refl _ _⟩
  |some ad=>
   go_enter Tryz.func48,Tryz.ntmps48
   go_wp2;go_ret;exact⟨_,rfl,⟨none,0,rfl,Nat.le_refl _,by simp[maxLen],aad,.inl rfl⟩,Below.refl _ _⟩
section
variable {dst:Option Tmp} {ty:TypeId} {pos:String} {after:Array Edge} {guard:Option (Nat×Bool)} {a:Act} {w:World} {ats:Array TypeId} {i j:Nat}
theorem auc{K:Nat}{ao:Option Addr}{n c:Nat}{zs:List Int}(h:a.eval (.tmp i)=.slice ao n c)(S:Sl w (.slice ao n c) zs)(hl:zs.length<=35184372088832)(hK:K<=w.heap.size):
  Does Tryz.prog {dst,op:=.call {callee:=.value (.func 48),args:=#[.tmp i],argTypes:=ats},type:=ty,pos,after,guard} a.eval w fun v w'=>Below w.heap.size w w'/\OwL K zs v w':=by
 refine aaq apu _ (by simp only[List.map_toArray,List.map_cons,List.map_nil,h]) ((a0t w _ _ _ zs S hl).mono ?_);rintro e w' ⟨v,rfl,ho,hb⟩;refine⟨_,rfl,hb,?_⟩;obtain⟨ao',cap',hv,_⟩:=id ho;exact⟨ao',cap',hv,ho.mono hK⟩
end
theorem azh(w:World)(nx:Bool)(ax:Option Addr)(mx cx:Nat)(xs:List Int)(Tx:Sl w (.slice ax mx cx) xs)(hl:xs.length<=35184372088832):
  Calls Tryz.prog 24 #[.agg #[.bool nx,.slice ax mx cx]] w fun e w'=>∃v,e=.returned v/\OwW w.heap.size nx xs v w'/\Below w.heap.size w w':=by
 go_enter Tryz.func24,Tryz.ntmps24
 generalize hA:(Act.mk _ _)=aa;have hn:aa.tmps.size=9:=by rw[<-hA];rfl
 have hd:aa.defers = []:=by rw[<-hA]
 have f0:aa.eval (.tmp 0)=.agg #[.bool nx,.slice ax mx cx]:=by rw[<-hA];rfl
 clear hA;have HB:Below w.heap.size w w:=Below.refl _ _;refine wp_seq ?_;refine aao [some 1,some 2] [(fun _ _=>True),(fun _ _=>True)] [⟨W2,some 0,0,1,.agg #[.bool nx,.slice ax mx cx],none,[]⟩,⟨W2,some 1,0,2,.agg #[.bool false,.slice none 0 0],none,[]⟩] [] (by kernel_rfl) hn rfl (by kernel_rfl) (by kernel_rfl) (by kernel_rfl) (by kernel_rfl) (by kernel_rfl) (by kernel_rfl) ⟨True.mono4,True.mono4,trivial⟩ (aa0 W2ok (aa0 W2ok aat)) (IsOld.all (bx:=[⟨W2,some 0,0,1,.agg #[.bool nx,.slice ax mx cx],none,[]⟩,⟨W2,some 1,0,2,.agg #[.bool false,.slice none 0 0],none,[]⟩]) ⟨someNe,someNe,trivial⟩) (DisOld.all (bx:=[⟨W2,some 0,0,1,.agg #[.bool nx,.slice ax mx cx],none,[]⟩,⟨W2,some 1,0,2,.agg #[.bool false,.slice none 0 0],none,[]⟩]) ⟨someNe,someNe,trivial⟩) ?_ ?_
 ·exact⟨.alloc 0 _ rfl rfl (.inr ⟨_,rfl,aih,fun a_ hR=>(hR 0 rfl).trans f0⟩) rfl rfl rfl rfl rfl,
   .alloc 1 _ rfl rfl (.inl ⟨rfl,rfl⟩) rfl rfl rfl rfl rfl,
   trivial⟩
 intro a1 w1 gs1 hn1 hd1 hBt hr hR hP hX hU;replace hn:=hn1;replace hd:=hd1.trans hd;have ne1_2:gs1 0≠gs1 1:=hU 0 1 (by simp) (by simp) (by decide);have b1:BoxV W2 w1 (gs1 0) (.agg #[.bool nx,.slice ax mx cx]):=(hX 0 _ rfl).2.2.2;have f1:=(hX 0 _ rfl).1;have u1:w.heap.size<=gs1 0:=Nat.le_trans HB.size ((hX 0 _ rfl).2.2.1 (by simp));have b2:BoxV W2 w1 (gs1 1) (.agg #[.bool false,.slice none 0 0]):=(hX 1 _ rfl).2.2.2;have f2:=(hX 1 _ rfl).1;have u2:w.heap.size<=gs1 1:=Nat.le_trans HB.size ((hX 1 _ rfl).2.2.1 (by simp));replace Tx:=Tx.rl hr;replace HB:=HB.trans (hBt.below HB.size (UpOld.all (bx:=[⟨W2,some 0,0,1,.agg #[.bool nx,.slice ax mx cx],none,[]⟩,⟨W2,some 1,0,2,.agg #[.bool false,.slice none 0 0],none,[]⟩]) ⟨someNe,someNe,trivial⟩));clear hBt hr hR hP hX hU;refine wp_seq ?_;refine aao [some 3,some 4,some 5,some 6,some 7,some 8,none] [Eqs (.pointer (some ⟨gs1 0,0,none⟩)),Eqs (.bool nx),Eqs (.pointer (some ⟨gs1 0,1,none⟩)),Eqs (.slice ax mx cx),OwL (w.heap.size) (xs),OwW (w.heap.size) (nx) (xs),(fun _ _=>True)] [⟨W2,none,(gs1 1),2,.agg #[.bool false,.slice none 0 0],some (6,8,5),[]⟩] [] (by kernel_rfl) hn rfl (by kernel_rfl) (by kernel_rfl) (by kernel_rfl) (by kernel_rfl) (by kernel_rfl) (by kernel_rfl) ⟨Eqs.mono4 _,Eqs.mono4 _,Eqs.mono4 _,Eqs.mono4 _,OwL.mono4 _ _,OwW.mono4 _ _ _,True.mono4,trivial⟩ (aa0 W2ok aat) (IsOld.all (bx:=[⟨W2,none,(gs1 1),2,.agg #[.bool false,.slice none 0 0],some (6,8,5),[]⟩]) ⟨fun _=>⟨f2,b2⟩,trivial⟩) (DisOld.all (bx:=[⟨W2,none,(gs1 1),2,.agg #[.bool false,.slice none 0 0],some (6,8,5),[]⟩]) ⟨fun _=>trivial,trivial⟩) ?_ ?_
 ·exact⟨.norm 3 rfl rfl rfl (fun a_ w_ hn_ hBt hr hR hD hO hS=>adm ak5 ((hR 1 rfl).trans f1)),
   .norm 4 rfl rfl rfl (fun a_ w_ hn_ hBt hr hR hD hO hS=>ahp (show a_.eval (.tmp 3)=.pointer (some ⟨gs1 0,0,none⟩)from hD 0 rfl) (b1.keep hBt ⟨fun _=>ne1_2.symm,trivial⟩)),
   .norm 5 rfl rfl rfl (fun a_ w_ hn_ hBt hr hR hD hO hS=>adm adz ((hR 1 rfl).trans f1)),
   .norm 6 rfl rfl rfl (fun a_ w_ hn_ hBt hr hR hD hO hS=>ahq (show a_.eval (.tmp 5)=.pointer (some ⟨gs1 0,1,none⟩)from hD 2 rfl) (b1.keep hBt ⟨fun _=>ne1_2.symm,trivial⟩)),
   .norm 7 rfl rfl rfl (fun a_ w_ hn_ hBt hr hR hD hO hS=>auc (show a_.eval (.tmp 6)=.slice ax mx cx from hD 3 rfl) (Tx.rl hr) (by omega) (Nat.le_trans HB.size hr.size)),
   .norm 8 rfl rfl rfl (fun a_ w_ hn_ hBt hr hR hD hO hS=>a0f (show a_.eval (.tmp 4)=.bool nx from hD 1 rfl) (show OwL (w.heap.size) (xs) (a_.eval (.tmp 7)) w_ from hD 4 rfl)),
   .store 0 _ _ _ rfl rfl rfl rfl rfl rfl rfl (fun ia h=>by cases h) rfl rfl rfl OwW.cs,
   trivial⟩
 intro a2 w2 gs2 hn2 hd2 hBt hr hR hP hX hU;replace hn:=hn2;replace hd:=hd2.trans hd;obtain⟨a_3,c_3,e8,O3⟩:OwW (w.heap.size) (nx) (xs) (a2.eval (.tmp 8)) w2:=hP 5 (by decide);have b2:BoxV W2 w2 ((gs1 1)) (.agg #[.bool nx,.slice a_3 xs.length c_3]):=aci ((hX 0 _ rfl).2.1 rfl) (hX 0 _ rfl).2.2.2 e8;replace f2:a2.eval (.tmp 2)=_:=(hR 2 rfl).trans f2;replace Tx:=Tx.rl hr;replace HB:=HB.trans (hBt.below HB.size (UpOld.all (bx:=[⟨W2,none,(gs1 1),2,.agg #[.bool false,.slice none 0 0],some (6,8,5),[]⟩]) ⟨fun _=>u2,trivial⟩));clear hBt hr hR hP hX hU;refine wp_ret ?_;repeat(first|refine ab3 ?_|refine aba ?_|refine abw ?_)
 exact bodyPost_ret (v:=.agg #[.bool nx,.slice a_3 xs.length c_3]) (aby rfl f2 (aks b2)) hd ⟨_,rfl,⟨_,_,rfl,O3⟩,HB⟩
section
variable {dst:Option Tmp} {ty:TypeId} {pos:String} {after:Array Edge} {guard:Option (Nat×Bool)} {a:Act} {w:World} {ats:Array TypeId} {i j:Nat}
theorem awj{B g:Nat}{v:Value}{es:List WE}{ng:Bool}{ao:Option Addr}{n c:Nat}{zs:List Int}(h1:a.eval (.tmp i)=v)(h2:a.eval (.tmp j)=.slice (some ⟨g,0,none⟩) 1 1)(R:RwO B w v es)(O:One w g ng ao n c)(S:Ow B w (.slice ao n c) zs)(hn:es.length<=4398046511103)(hB:B<=w.heap.size):
  Does Tryz.prog {dst,op:=.call {callee:=.builtin .append,args:=#[.tmp i,.tmp j],argTypes:=#[23,23]},type:=ty,pos,after,guard} a.eval w fun v' w'=>RwO B w' v' (es ++ [⟨ng,ao,n,c,zs⟩])/\Below B w w':=by
 obtain⟨i0,hi,hz0,hz1,hz2⟩:=info_parts infoW;have hfl:flat (es ++ [⟨ng,ao,n,c,zs⟩])=flat es ++ [.bool ng,.slice ao n c]:=by rw[adw];rfl
 obtain⟨v',w',hr,ho,hgr,_⟩:=run_append_own (P:=Tryz.prog) w B 23 ty 42 i0 _ 2 32 Tryz.underlying23 hi hz0 hz1 hz2 rfl (by decide) v es.length (flat es) R.own ⟨g,0,none⟩ 1 1 [.bool ng,.slice ao n c] rfl (fun k u hu=>by
  have hc:∀k,w.cell? ⟨g,k,none⟩ = #[Value.bool ng,.slice ao n c][k]? :=fun k=>cell_of_row w g k _ _ (0,0) O
  have ha:(⟨g,0,none⟩:Addr).add k=⟨g,k,none⟩:=by unfold Addr.add;split <;> simp_all
  rw[ha,hc]
  simpa using hu) (by simp[Value.oneCell']) (by simp[maxLen];omega) (by omega) hB
 have e:(execOp a.eval {dst,op:=.call {callee:=.builtin .append,args:=#[.tmp i,.tmp j],argTypes:=#[23,23]},type:=ty,pos,after,guard}).run Tryz.prog w=.ok (.value v') w':=by
  simp only[execOp,resolve,invoke,builtin,Sem.run_bind,Sem.run_pure,Result.andThen_ok,List.map_toArray,List.map_cons,List.map_nil,h1,h2,hr]
 refine⟨?_⟩;unfold Turns;rw[e];have hrow:∃cur:Nat->Array Value,∀k,v.ownBlock=some k->w.heap[k]? = some (.cells (cur k) 42 (0,0)):=by
  rcases R.own.2 with⟨rfl,_⟩|⟨g',cap,cur,rfl,_,hh,_⟩
  ·exact⟨fun _=>#[],fun k hk=>by simp[Value.ownBlock]at hk⟩
  ·refine⟨fun _=>cur,fun k hk=>?_⟩;simp only[Value.ownBlock,Option.some.injEq]at hk;subst hk;exact hh
 obtain⟨cur,hcur⟩:=hrow;refine⟨⟨by rw[hfl,List.length_append];exact ho,fun e he=>?_⟩,⟨hgr.os,hgr.tape,hgr.output,hgr.size,fun k hk=>hgr.block k (by omega) (fun e=>?_)⟩⟩
 ·rcases List.mem_append.1 he with he|he
  ·exact(R.ow e he).grown hgr hcur
  ·obtain rfl:=List.mem_singleton.1 he;exact S.grown hgr hcur
 ·have:=R.own.lt k e.symm;omega
end
theorem aki(w:World)(ax:Option Addr)(mx cx:Nat)(xs:List WE)(R:Rw w (.slice ax mx cx) xs)(hl:xs.length<=4398046511103)(hm:∀e∈xs,e.m<=35184372088832):
  Calls Tryz.prog 9 #[.slice ax mx cx] w fun e w'=>∃v es,e=.returned v/\RwO w.heap.size w' v es/\SameR es xs/\Below w.heap.size w w':=by
 have HX:=hide R;have HNx:Hid (mx=xs.length):=R.parts.1;have HL:=hide hm;have hmx:mx<=4398046511103:=by have:=HNx.out;omega
 clear R hl hm;go_enter Tryz.func9,Tryz.ntmps9
 go_wp2_with fail
 go_loopw [3,4] (fun ov iv wr=>∃(k:Nat) (es:List WE),iv=.int .i64 k/\k<=mx/\Below w.heap.size w wr/\RwO w.heap.size wr ov es/\SameR es (xs.take k)) (fun _ iv _=>mx-(intOf iv).toNat)
 case atStart=>exact⟨0,[],rfl,Nat.zero_le _,Below.refl _ _,anz _ _,rfl⟩
 case round=>
  obtain⟨k,es,rfl,hk,hbw,ho,hs⟩:=hrel;obtain⟨aov,capv,hov,_⟩:=Cl.own ho.own;subst hov;have HO:=hide ho;have HS:=hide hs;have HW:=hide hbw;by_cases hlt:k<mx
  ·have hlt':(k:Int)<(mx:Int):=by omega
   obtain⟨ex,hex⟩:∃e,xs[k]? = some e:=⟨_,List.getElem?_eq_getElem (by have:=HNx.out;omega)⟩;obtain⟨bx,ox,hAx,hlx0,hcx⟩:=HX.out.cells (by have:=HNx.out;omega);subst hAx;have hlx:bx<wr.heap.size:=Nat.lt_of_lt_of_le hlx0 hbw.size;have x0:=(hbw.cell (p:=⟨bx,ox+k*2,none⟩) hlx0).trans (hcx _ _ (aa2 hex).1);have x1:wr.cell? ⟨bx,ox+k*2+1,none⟩=some (.slice ex.a ex.m ex.c):=(hbw.cell (p:=⟨bx,ox+k*2+1,none⟩) hlx0).trans (hcx _ _ (aa2 hex).2);have hsl:=(HX.out.sl ex (List.mem_of_getElem? hex)).below hbw;have hem:=HL.out ex (List.mem_of_getElem? hex);have hes:es.length<=4398046511103:=by rw[hs.len,List.length_take];omega
   have K1:=hide (azh wr ex.ng ex.a ex.m ex.c ex.zs hsl (by have:=hsl.parts.1;omega));have HEX:=hide hex;clear hbw ho hs hsl hem hex hcx hlx;go_wp2_with fail
   refine K1.out.mono ?_;rintro e w2 ⟨r2,rfl,⟨ao2,cap2,rfl,hw2⟩,hb2⟩;have hA:=hAl w2 (.cells #[.bool ex.ng,.slice ao2 ex.zs.length cap2] 42);have hb2':=hb2.trans (hA.mono hb2.size);have hR2:=HO.out.below hb2';have hO2:One _ w2.heap.size ex.ng ao2 ex.zs.length cap2:=heap_alloc_new w2 (.cells #[.bool ex.ng,.slice ao2 ex.zs.length cap2] 42);have hS2:Ow w.heap.size _ (.slice ao2 ex.zs.length cap2) ex.zs:=(hw2.mono HW.out.size).below hA;have hsz:w.heap.size<=(w2.alloc (.cells #[.bool ex.ng,.slice ao2 ex.zs.length cap2] 42)).heap.size:=Nat.le_trans HW.out.size hb2'.size;clear x0 x1 hlx0;go_wp2_with (at_builtin;refine abo rfl (awj (i:=11) (j:=17) rfl rfl hR2 hO2 hS2 hes hsz) ?_)
   intro v3 w3 hR3 hb3;obtain⟨aov3,capv3,hov3,_⟩:=Cl.own hR3.own;subst hov3;have HR3:=hide hR3;have HB3:=hide ((HW.out.trans (hb2'.mono HW.out.size)).trans hb3);clear hR3 hb3 hR2 hO2 hS2 hsz hA hb2 hb2' hw2;go_wp2;go_roundw
   case rel=>exact⟨k+1,_,by go_num,by omega,HB3.out,HR3.out,apv HS.out HEX.out rfl⟩
   case measure=>simp[intOf];omega
  ·have hlt':decide ((k:Int)<(mx:Int))=false:=by simp;omega
   have hkn:k=mx:=by omega
   subst hkn;clear hbw ho hs;go_wp2;refine bodyPost_ret (v:=_) (acj rfl rfl) rfl ⟨_,es,rfl,HO.out,(by have h:=HS.out;rwa[List.take_of_length_le (by have:=HNx.out;omega)]at h),HW.out⟩
def OtE(K:Nat)(w:World)(v:Value)(ess:List (List WE)):Prop:=∃vs:List Value,w.ownsRow K 23 1 v ess.length vs/\∀(i:Nat) (u:Value) (es:List WE),vs[i]? = some u->ess[i]? = some es->RwO K w u es
theorem OtE.below{K:Nat}{w w':World}{v:Value}{ess:List (List WE)}(h:OtE K w v ess)(hb:Below w.heap.size w w'):OtE K w' v ess:=by
 obtain⟨vs,h1,h2⟩:=h;exact⟨vs,aco h1 hb,fun i u z a b=>(h2 i u z a b).below hb⟩
theorem OtE.rwM{K:Nat}{w:World}{v:Value}{ess:List (List WE)}(h:OtE K w v ess):RwM w v ess:=by
 obtain⟨vs,h1,h2⟩:=h;exact⟨vs,Ce.own h1,fun i u z a b=>(h2 i u z a b).rw⟩
theorem azi(K:Nat)(w:World):OtE K w (.slice none 0 0) []:=⟨[],World.ownsRow_nil _ _ _ _,fun i u z a=>(by simp at a)⟩
theorem OtE.shp{K:Nat}{w:World}{v:Value}{ess:List (List WE)}(h:OtE K w v ess):∃a c,v=.slice a ess.length c:=by
 obtain⟨vs,h1,_⟩:=h;obtain⟨a,c,e,_⟩:=abp h1;exact⟨a,c,e⟩
theorem OtE.app{K:Nat}{w w':World}{v v' u:Value}{ess:List (List WE)}{vs:List Value}{es:List WE}(hv:w.ownsRow K 23 1 v ess.length vs)(hr:∀(i:Nat) (u:Value) (z:List WE),vs[i]? = some u->ess[i]? = some z->RwO K w u z)(h1:RwO K w u es)(ho:w'.ownsRow K 23 1 v' (ess.length+1) (vs ++ [u]))(hg:w.grownBy w' v.ownBlock):OtE K w' v' (ess ++ [es]):=by
 have hvl:vs.length=ess.length:=by simpa using hv.1
 have hc:∃c:Nat->Array Value,∀k,v.ownBlock=some k->w.heap[k]? = some (.cells (c k) 23 (0,0)):=by
  rcases hv.2 with⟨rfl,_⟩|⟨g',cap,cur,rfl,_,hh,_⟩
  ·exact⟨fun _=>#[],fun k hk=>by simp[Value.ownBlock]at hk⟩
  ·refine⟨fun _=>cur,fun k hk=>?_⟩;simp only[Value.ownBlock,Option.some.injEq]at hk;subst hk;exact hh
 obtain⟨c,hc⟩:=hc;have kp:∀ {u:Value} {es:List WE},RwO K w u es->RwO K w' u es:=fun {u es} h=>by
  refine h.keep hg hc (by decide) (fun g hg1 hg2=>?_);obtain⟨c',hc'⟩:=h.row;exact abb (hc g hg1) (hc' g hg2) (by decide) rfl
 refine⟨vs ++ [u],by simpa using ho,fun i x y hx hy=>?_⟩;by_cases hi:i<ess.length
 ·rw[List.getElem?_append_left (by omega)]at hx hy;exact kp (hr i x y hx hy)
 ·rw[List.getElem?_append_right (by omega)]at hx hy;rw[hvl]at hx
  match hm:i-ess.length with
  |0=>
   rw[hm]at hx hy;simp at hx hy;subst hx hy;exact kp h1
  |m+1=>
   rw[hm]at hx;simp at hx
theorem infoSe:(Tryz.prog.info? 23).map (fun i=>(i.zero,i.size,i.bytes))=some (some (.slice none 0 0),1,24):=by kernel_rfl
section
variable {dst:Option Tmp} {ty:TypeId} {pos:String} {after:Array Edge} {guard:Option (Nat×Bool)} {a:Act} {w:World} {ats:Array TypeId} {i j:Nat}
theorem azj{B g:Nat}{v u:Value}{ess:List (List WE)}{es:List WE}(h1:a.eval (.tmp i)=v)(h2:a.eval (.tmp j)=.slice (some ⟨g,0,none⟩) 1 1)(R:OtE B w v ess)(O:w.heap[g]? = some (.cells #[u] 23 (0,0)))(S:RwO B w u es)(hn:ess.length<=5864062014804)(hB:B<=w.heap.size):
  Does Tryz.prog {dst,op:=.call {callee:=.builtin .append,args:=#[.tmp i,.tmp j],argTypes:=#[22,22]},type:=ty,pos,after,guard} a.eval w fun v' w'=>OtE B w' v' (ess ++ [es])/\Below B w w':=by
 obtain⟨i0,hi,hz0,hz1,hz2⟩:=info_parts infoSe;obtain⟨vs,R1,R2⟩:=R;have hone:u.oneCell'=true:=by
  obtain⟨ao,c,rfl⟩:=S.rw.slc;rfl
 obtain⟨v',w',hr,ho,hgr,_⟩:=run_append_own (P:=Tryz.prog) w B 22 ty 23 i0 _ 1 24 Tryz.underlying22 hi hz0 hz1 hz2 rfl (by decide) v ess.length vs R1 ⟨g,0,none⟩ 1 1 [u] rfl (fun k x hx=>by
  have hc:∀k,w.cell? ⟨g,k,none⟩ = #[u][k]? :=fun k=>cell_of_row w g k _ _ (0,0) O
  have ha:(⟨g,0,none⟩:Addr).add k=⟨g,k,none⟩:=by unfold Addr.add;split <;> simp_all
  rw[ha,hc]
  simpa using hx) (by simpa using hone) (by simp[maxLen];omega) (by omega) hB
 have e:(execOp a.eval {dst,op:=.call {callee:=.builtin .append,args:=#[.tmp i,.tmp j],argTypes:=#[22,22]},type:=ty,pos,after,guard}).run Tryz.prog w=.ok (.value v') w':=by
  simp only[execOp,resolve,invoke,builtin,Sem.run_bind,Sem.run_pure,Result.andThen_ok,List.map_toArray,List.map_cons,List.map_nil,h1,h2,hr]
 refine⟨?_⟩;unfold Turns;rw[e];exact⟨OtE.app R1 R2 S ho hgr,(Below.refl _ _).grown hgr hB (fun k hk=>(R1.lt k hk).1)⟩
end
def SameM(ess ess':List (List WE)):Prop:=ess.length=ess'.length/\∀(i:Nat) (xs ys:List WE),ess[i]? = some xs->ess'[i]? = some ys->SameR xs ys
theorem aql{es xs:List (List WE)}{k:Nat}{e f:List WE}(h:SameM es (xs.take k))(he:xs[k]? = some e)(hf:SameR f e):SameM (es ++ [f]) (xs.take (k+1)):=by
 have hk:=(List.getElem?_eq_some_iff.1 he).1;have hl:=h.1;rw[List.length_take]at hl;refine⟨by rw[List.length_append,List.length_take,hl];simp;omega,fun i a b ha hb=>?_⟩;rw[List.take_add_one,he]at hb;by_cases hi:i<k
 ·rw[List.getElem?_append_left (by omega)]at ha;rw[List.getElem?_append_left (by rw[List.length_take];omega)]at hb;exact h.2 i a b ha hb
 ·rw[List.getElem?_append_right (by omega)]at ha;rw[List.getElem?_append_right (by rw[List.length_take];omega)]at hb;rw[List.length_take]at hb;rw[show i-es.length=i-min k xs.length by rw[hl]]at ha
  match hm:i-min k xs.length with
  |0=>
   rw[hm]at ha hb;simp at ha hb;subst ha hb;exact hf
  |m+1=>
   rw[hm]at ha;simp at ha
theorem aqm(w:World)(v:Value)(ess:List (List WE))(h:RwM w v ess)(hl:ess.length<=5864062014804)(hr:∀es∈ess,es.length<=4398046511103/\∀e∈es,e.m<=35184372088832):
  Calls Tryz.prog 8 #[v] w fun e w'=>∃r fss,e=.returned r/\OtE w.heap.size w' r fss/\SameM fss ess/\Below w.heap.size w w':=by
 obtain⟨ao,cap,rfl,_⟩:=h.parts;have H:=hide h;have HR:=hide hr;clear h hr;obtain⟨n,hn⟩:∃n,ess.length=n:=⟨_,rfl⟩;rw[hn]at H hl ⊢;have HN:=hide hn;clear hn;go_enter Tryz.func8,Tryz.ntmps8
 go_wp2_with fail
 go_loopw [3,4] (fun ov iv wr=>∃(k:Nat) (fss:List (List WE)),iv=.int .i64 k/\k<=n/\Below w.heap.size w wr/\OtE w.heap.size wr ov fss/\SameM fss (ess.take k)) (fun _ iv _=>n-(intOf iv).toNat)
 case atStart=>exact⟨0,[],rfl,Nat.zero_le _,Below.refl _ _,azi _ _,rfl,fun i xs ys a=>(by simp at a)⟩
 case round=>
  obtain⟨k,fss,rfl,hk,hbw,hown,hsm⟩:=hrel;have HW:=hide hbw;have HOWN:=hide hown;have HSM:=hide hsm;obtain⟨aov,capv,hov⟩:=hown.shp;subst hov;have hfk:fss.length=k:=by rw[hsm.1,List.length_take];have:=HN.out;omega
  rw[hfk]at HOWN ⊢;by_cases hlt:k<n
  ·obtain⟨es,hz⟩:∃z,ess[k]? = some z:=⟨_,List.getElem?_eq_getElem (by have:=HN.out;omega)⟩;obtain⟨b,off,u,rfl,hbl,x0,hu⟩:=(H.out.below hbw).cell hz;obtain⟨ua,uc,rfl⟩:=hu.slc;have hre:=HR.out es (List.mem_of_getElem? hz);have K1:=hide (aki wr _ _ _ es hu hre.1 hre.2);have HZ:=hide hz;have hlt':(k:Int)<(n:Int):=by omega
   clear hbw hown hz hu hsm hre;go_wp2_with fail
   refine K1.out.mono ?_;rintro e w2 ⟨r2,fs,rfl,hR2,hS2,hb2⟩;obtain⟨a2,c2,rfl⟩:=hR2.rw.slc;have hA:=hAl w2 (.cells #[.slice a2 fs.length c2] 23);have hO:=heap_alloc_new w2 (.cells #[.slice a2 fs.length c2] 23);have hb2':=hb2.trans (hA.mono hb2.size);have hRm:=HOWN.out.below hb2';have hS:=(hR2.below hA).low HW.out.size;have hsz:w.heap.size<=(w2.alloc (.cells #[.slice a2 fs.length c2] 23)).heap.size:=Nat.le_trans HW.out.size hb2'.size;have hfl:fss.length<=5864062014804:=by omega
   have HS2:=hide hS2;go_wp2_with (at_builtin;refine abo rfl (azj (i:=11) (j:=17) rfl rfl hRm hO hS hfl hsz) ?_)
   intro v3 w3 hR3 hb3;obtain⟨aov3,capv3,hov3⟩:=hR3.shp;subst hov3;have HR3:=hide hR3;have HB3:=hide ((HW.out.trans (hb2'.mono HW.out.size)).trans hb3);clear hR3 hb3 hR2 hO hRm hS hsz hA hb2 hb2' hfl hS2;go_wp2;go_roundw
   case rel=>exact⟨k+1,_,by go_num,by omega,HB3.out,HR3.out,aql HSM.out HZ.out HS2.out⟩
   case measure=>simp[intOf];omega
  ·have hlt':decide ((k:Int)<(n:Int))=false:=by simp;omega
   have hkn:ess.take k=ess:=List.take_of_length_le (by have:=HN.out;omega);rw[hkn]at HSM hsm;clear hbw hown hsm;go_wp2;refine bodyPost_ret (v:=_) (by simp[results,Tryz.results8,go_sem];try rfl) rfl ⟨_,fss,rfl,HOWN.out,HSM.out,HW.out⟩
theorem aud{dst:Option Tmp}{ty:TypeId}{pos:String}{after:Array Edge}{guard:Option (Nat×Bool)}{a:Act}{w:World}{ats:Array TypeId}{i j m n c d:Nat}{ao bo:Option Addr}{xs ys:List WE}(h1:a.eval (.tmp i)=.slice ao m c)(h2:a.eval (.tmp j)=.slice bo n d)(c1:Rw w (.slice ao m c) xs)(c2:Rw w (.slice bo n d) ys)(hS:SameR xs ys):
  Does Tryz.prog {dst,op:=.call {callee:=.value (.func 16),args:=#[.tmp i,.tmp j],argTypes:=ats},type:=ty,pos,after,guard} a.eval w fun v' w'=>Below w.heap.size w w'/\Eqs (.bool true) v' w':=
 aaq akf #[_,_] (by simp[h1,h2]) ((akd w _ _ _ _ c1 _ _ _ _ c2 hS).mono fun e w' ⟨he,hb⟩=>⟨_,he,hb,rfl⟩)
theorem aqn(w:World)(v v':Value)(ess ess':List (List WE))(h:RwM w v ess)(h':RwM w v' ess')(hS:SameM ess ess'):
  Calls Tryz.prog 15 #[v,v'] w fun e w'=>e=.returned (.bool true)/\Below w.heap.size w w':=by
 obtain⟨ax,cx0,rfl,hn1⟩:=h.parts;obtain⟨az,cz0,rfl,_⟩:=h'.parts;have HX:=hide h;have HZ:=hide h';have HSM:=hide hS;obtain⟨n,hn⟩:∃n,ess.length=n:=⟨_,rfl⟩;have hn':ess'.length=n:=hS.1.symm.trans hn;rw[hn]at HX hn1 ⊢;rw[hn']at HZ ⊢;have HN:=hide (And.intro hn hn');have hnn:((n:Int) != (n:Int))=false:=by simp
 clear h h' hn hn' hS;go_enter Tryz.func15,Tryz.ntmps15
 go_wp2_with fail
 go_loopw [5] (fun iv wr=>∃k:Nat,iv=.int .i64 k/\k<=n/\Below w.heap.size w wr) (fun iv _=>n-(intOf iv).toNat)
 case atStart=>exact⟨0,rfl,Nat.zero_le _,Below.refl _ _⟩
 case round=>
  obtain⟨k,rfl,hk,hbw⟩:=hrel;have HW:=hide hbw;by_cases hlt:k<n
  ·have hlt':(k:Int)<(n:Int):=by omega
   obtain⟨xs,hxs⟩:∃z,ess[k]? = some z:=⟨_,List.getElem?_eq_getElem (by have:=HN.out;omega)⟩;obtain⟨ys,hys⟩:∃z,ess'[k]? = some z:=⟨_,List.getElem?_eq_getElem (by have:=HN.out;omega)⟩;have hsr:=HSM.out.2 k xs ys hxs hys;obtain⟨bx,ox,ux,rfl,hlx0,x0,C1⟩:=HX.out.cell hxs;obtain⟨bz,oz,uz,rfl,hlz0,z0,C2⟩:=HZ.out.cell hys;obtain⟨ax,cx,rfl⟩:=C1.slc;obtain⟨az,cz,rfl⟩:=C2.slc;have hlx:bx<wr.heap.size:=Nat.lt_of_lt_of_le hlx0 hbw.size;have hlz:bz<wr.heap.size:=Nat.lt_of_lt_of_le hlz0 hbw.size;replace x0:=(hbw.cell (p:=⟨bx,ox+k,none⟩) hlx0).trans x0;replace z0:=(hbw.cell (p:=⟨bz,oz+k,none⟩) hlz0).trans z0;replace C1:=C1.below hbw;replace C2:=C2.below hbw;obtain⟨mx,hmx⟩:∃m,xs.length=m:=⟨_,rfl⟩;rw[hmx]at x0 C1;obtain⟨mz,hmz⟩:∃m,ys.length=m:=⟨_,rfl⟩;rw[hmz]at z0 C2;clear hbw hxs hys hmx hmz;go_upto_region 6 with fail
   go_cut [26] (fun cv wx=>cv=.bool false/\Below wr.heap.size wr wx)
   case first=>
    refine agy [17,18,19,20,21,22,23,24,25,26] [Eqs (.slice (some ⟨bx,ox,none⟩) n cx0),Eqs (.int .i64 (k:Int)),Eqs (.pointer (some ⟨bx,ox+k,none⟩)),Eqs (.slice ax mx cx),Eqs (.slice (some ⟨bz,oz,none⟩) n cz0),Eqs (.int .i64 (k:Int)),Eqs (.pointer (some ⟨bz,oz+k,none⟩)),Eqs (.slice az mz cz),Eqs (.bool true),Eqs (.bool false)] (by assumption) (by assumption) rfl (by decide) (by kernel_rfl) (by kernel_rfl) ⟨Eqs.mono _,Eqs.mono _,Eqs.mono _,Eqs.mono _,Eqs.mono _,Eqs.mono _,Eqs.mono _,Eqs.mono _,Eqs.mono _,Eqs.mono _,trivial⟩ ?_ ?_
    ·exact⟨⟨rfl,fun a_ w_ _ hB hR hD=>aah ((hR 0 rfl).trans (aab rfl))⟩,
      ⟨rfl,fun a_ w_ _ hB hR hD=>aah ((hR 5 rfl).trans (aab rfl))⟩,
      ⟨rfl,fun a_ w_ _ hB hR hD=>afh (show a_.eval (.tmp 17)=.slice (some ⟨bx,ox,none⟩) n cx0 from hD 0 rfl) rfl (show a_.eval (.tmp 18)=.int .i64 (k:Int)from hD 1 rfl) (by omega)⟩,
      ⟨rfl,fun a_ w_ _ hB hR hD=>acf (show a_.eval (.tmp 19)=.pointer (some ⟨bx,ox+k,none⟩)from hD 2 rfl) ((hB.cell (p:=⟨bx,ox+k,none⟩) hlx).trans x0)⟩,
      ⟨rfl,fun a_ w_ _ hB hR hD=>aah ((hR 1 rfl).trans (aab rfl))⟩,
      ⟨rfl,fun a_ w_ _ hB hR hD=>aah ((hR 5 rfl).trans (aab rfl))⟩,
      ⟨rfl,fun a_ w_ _ hB hR hD=>afh (show a_.eval (.tmp 21)=.slice (some ⟨bz,oz,none⟩) n cz0 from hD 4 rfl) rfl (show a_.eval (.tmp 22)=.int .i64 (k:Int)from hD 5 rfl) (by omega)⟩,
      ⟨rfl,fun a_ w_ _ hB hR hD=>acf (show a_.eval (.tmp 23)=.pointer (some ⟨bz,oz+k,none⟩)from hD 6 rfl) ((hB.cell (p:=⟨bz,oz+k,none⟩) hlz).trans z0)⟩,
      ⟨rfl,fun a_ w_ _ hB hR hD=>aud (show a_.eval (.tmp 20)=.slice ax mx cx from hD 3 rfl) (show a_.eval (.tmp 24)=.slice az mz cz from hD 7 rfl) (C1.below hB) (C2.below hB) hsr⟩,
      ⟨rfl,fun a_ w_ _ hB hR hD=>age (show a_.eval (.tmp 25)=.bool true from hD 8 rfl)⟩,
      trivial⟩
    ·intro a' w' hn' hd' hB' hR' hP'
     (repeat apply Exists.intro)
     refine⟨?rel,afe hn' hd' hR' ?fit⟩
     case fit=>repeat' (first|exact trivial|refine⟨(by first|exact .inl ⟨rfl,rfl⟩|exact .inr rfl),?_⟩)
     case rel=>exact⟨(show _=_ from hP' 9 (by decide)),hB'⟩
   case rest=>
    obtain⟨hc26,hbx⟩:=hcut;subst hc26;have HB2:=hide (HW.out.trans (hbx.mono HW.out.size));clear hbx x0 z0 C1 C2;go_wp2;go_roundw
    case rel=>exact⟨k+1,by go_num,by omega,HB2.out⟩
    case measure=>simp[intOf];omega
  ·have hlt':decide ((k:Int)<(n:Int))=false:=by simp;omega
   clear hbw;go_wp2;refine bodyPost_ret (v:=_) (by simp[results,Tryz.results15,go_sem];try rfl) rfl ⟨rfl,HW.out⟩
set_option maxRecDepth 100000 in
theorem aue(w:World)(v:Value)(rows:List (List Int))(L:Nat)(h:IsM w v rows L)(hl:rows.length<=100000)(hr:∀r∈rows,r.length<=100000)(hL:L<=100000):
  Calls Tryz.prog 35 #[v] w fun e w'=>∃r vs,e=.returned r/\RmO w.heap.size w' r vs rows (3*L)/\Below w.heap.size w w':=by
 obtain⟨ao,cap,rfl,_⟩:=h.parts;have H:=hide h;have HR:=hide hr;clear h hr;obtain⟨n,hn⟩:∃n,rows.length=n:=⟨_,rfl⟩;rw[hn]at H hl ⊢;have HN:=hide hn;clear hn;go_enter Tryz.func35,Tryz.ntmps35
 go_wp2_with fail
 go_loopw [3,4] (fun ov iv wr=>∃(k:Nat) (vs:List Value),iv=.int .i64 k/\k<=n/\Below w.heap.size w wr/\RmO w.heap.size wr ov vs (rows.take k) (3*L)) (fun _ iv _=>n-(intOf iv).toNat)
 case atStart=>exact⟨0,[],rfl,Nat.zero_le _,Below.refl _ _,ajp _ _ _⟩
 case round=>
  obtain⟨k,vs,rfl,hk,hbw,hown⟩:=hrel;have HW:=hide hbw;have HOWN:=hide hown;obtain⟨aov,capv,hov,-⟩:=Ce.own hown.own;subst hov;by_cases hlt:k<n
  ·obtain⟨z,hz⟩:∃z,rows[k]? = some z:=⟨_,List.getElem?_eq_getElem (by have:=HN.out;omega)⟩;obtain⟨b,off,u,rfl,hbl,x0,hu⟩:=(H.out.below hbw).cell hz;have K1:=hide (al6 wr u z L hu (by have:=HR.out z (List.mem_of_getElem? hz);omega) hL);obtain⟨ua,uc,rfl,-⟩:=id hu.parts;have HZ:=hide hz;have hlt':(k:Int)<(n:Int):=by omega
   clear hbw hown hz hu;go_wp2_with fail
   refine K1.out.mono ?_;rintro e w2 ⟨r2,rfl,hR2,hb2⟩;obtain⟨a2,c2,rfl,-⟩:=id hR2.parts;have hA:=hAl w2 (.cells #[.slice a2 z.length c2] 78);have hO:=heap_alloc_new w2 (.cells #[.slice a2 z.length c2] 78);have hb2':=hb2.trans (hA.mono hb2.size);have hRm:=HOWN.out.below hb2';have hS:=hR2.below hA;have hsz:w.heap.size<=(w2.alloc (.cells #[.slice a2 z.length c2] 78)).heap.size:=Nat.le_trans HW.out.size hb2'.size;have hfl:vs.length<=1000000:=by rw[HOWN.out.len,List.length_take];omega
   go_wp2_with (at_builtin;refine abo rfl (ajq (i:=11) (j:=17) rfl rfl hRm hO hS hfl hsz) ?_)
   intro v3 w3 hR3 hb3;obtain⟨aov3,capv3,hov3,-⟩:=Ce.own hR3.own;subst hov3;have HR3:=hide hR3;have HB3:=hide ((HW.out.trans (hb2'.mono HW.out.size)).trans hb3);clear hR3 hb3 hR2 hO hRm hS hsz hA hb2 hb2' hfl;go_wp2;go_roundw
   case rel=>
    refine⟨k+1,vs ++ [.slice a2 z.length c2],by go_num,by omega,HB3.out,?_⟩;rw[List.take_add_one,HZ.out];exact HR3.out
   case measure=>simp[intOf];omega
  ·have hlt':decide ((k:Int)<(n:Int))=false:=by simp;omega
   have hkn:k=n:=by omega
   subst hkn;clear hbw hown;go_wp2;refine bodyPost_ret (v:=_) (acj rfl rfl) rfl ⟨_,vs,rfl,(by have h:=HOWN.out;rw[List.take_of_length_le (by have:=HN.out;omega)]at h;exact h),HW.out⟩
end Lm
namespace Lm
open Go Go.RowKit Md
theorem ai7(w:World)(v:Value)(rows:List (List Int))(L:Nat)(h:IsM w v rows L)(cols:Int):
  Calls Tryz.prog 33 #[v,.int .i64 cols] w fun e w'=>e=.returned (.bool (!decide (Shaped rows cols)))/\w'=w:=by
 obtain⟨ao,cp,rfl,hn⟩:=h.parts;have H:=hide h;obtain⟨n,hnn⟩:∃n,rows.length=n:=⟨_,rfl⟩;rw[hnn]at H hn ⊢;have HN:=hide hnn;clear h hnn;by_cases h1:cols<0
 ·have HE:Hid (decide (Shaped rows cols)=false):=decide_eq_false (fun h=>by have:=h.1;omega);go_enter Tryz.func33,Tryz.ntmps33
  go_wp2;refine bodyPost_ret (v:=_) (by simp[results,Tryz.results33,go_sem];try rfl) rfl ⟨by rw[HE.out];rfl,rfl⟩
 ·by_cases h2:cols > 32
  ·have h1':decide (cols<0)=false:=decide_eq_false h1;have HE:Hid (decide (Shaped rows cols)=false):=decide_eq_false (fun h=>by have:=h.2.1;omega);clear h1;go_enter Tryz.func33,Tryz.ntmps33
   go_wp2;refine bodyPost_ret (v:=_) (by simp[results,Tryz.results33,go_sem];try rfl) rfl ⟨by rw[HE.out];rfl,rfl⟩
  ·by_cases h3:(n:Int) > 64
   ·have h1':decide (cols<0)=false:=decide_eq_false h1;have h2':decide (cols > 32)=false:=decide_eq_false h2;have HE:Hid (decide (Shaped rows cols)=false):=decide_eq_false (fun h=>by have:=h.2.2.1;have:=HN.out;omega);clear h1 h2;go_enter Tryz.func33,Tryz.ntmps33
    go_wp2;refine bodyPost_ret (v:=_) (by simp[results,Tryz.results33,go_sem];try rfl) rfl ⟨by rw[HE.out];rfl,rfl⟩
   ·have h1':decide (cols<0)=false:=decide_eq_false h1;have h2':decide (cols > 32)=false:=decide_eq_false h2;have h3':decide ((n:Int) > 64)=false:=decide_eq_false h3;have HK:=hide (And.intro h1 (And.intro h2 h3));clear h1 h2 h3;go_enter Tryz.func33,Tryz.ntmps33
    go_wp2_with fail
    go_loopw [5] (fun iv wr=>∃k:Nat,iv=.int .i64 k/\k<=n/\(∀r∈rows.take k,(r.length:Int)=cols)/\wr=w) (fun iv _=>n-(intOf iv).toNat)
    case atStart=>exact⟨0,rfl,Nat.zero_le _,fun r hr=>(by simp at hr),rfl⟩
    case round=>
     obtain⟨k,rfl,hk,hall,rfl⟩:=hrel;have HA:=hide hall;clear hall h1' h2' h3';by_cases hlt:k<n
     ·have hlt':(k:Int)<(n:Int):=by omega
      obtain⟨r,hr⟩:∃r,rows[k]? = some r:=⟨_,List.getElem?_eq_getElem (by have:=HN.out;omega)⟩;obtain⟨b,off,u,rfl,hbl,x0,hx⟩:=H.out.cell hr;obtain⟨ua,uc,rfl,_⟩:=hx.parts;have HR:=hide hr;clear hr hx;by_cases he:(r.length:Int)=cols
      ·have hne:((r.length:Int) != cols)=false:=by simp[bne,he]
       have HEQ:=hide he;clear he;go_wp2;go_roundw
       case rel=>
        refine⟨k+1,by go_num,by omega,fun r' hr'=>?_,trivial⟩;rcases(abc HR.out).1 hr' with h|rfl
        ·exact HA.out r' h
        ·exact HEQ.out
       case measure=>simp[intOf];omega
      ·have hne:((r.length:Int) != cols)=true:=by simp[bne,he]
       have HE:Hid (decide (Shaped rows cols)=false):=decide_eq_false (fun h=>he (h.2.2.2 r (List.mem_of_getElem? HR.out)));clear he;go_wp2;refine bodyPost_ret (v:=_) (by simp[results,Tryz.results33,go_sem];try rfl) rfl ⟨by rw[HE.out];rfl,rfl⟩
     ·have hlt':decide ((k:Int)<(n:Int))=false:=by simp;omega
      have HE:Hid (decide (Shaped rows cols)=true):=decide_eq_true (by
       have h1:=HK.out;have h2:=HA.out;rw[List.take_of_length_le (by have:=HN.out;omega)]at h2
       exact⟨by omega,by omega,by have:=HN.out;omega,h2⟩)
      go_wp2;refine bodyPost_ret (v:=_) (by simp[results,Tryz.results33,go_sem];try rfl) rfl ⟨by rw[HE.out];rfl,rfl⟩
structure Bnd (rows:List (List Int)) (S:Nat) (B:Md.Rw->Nat):Prop where
 big:∀r∈rows,∀k,((fnR r k).natAbs:Int)<pw (B (fnR r))
 sum:sumB B (rows.map fnR)<=S
 all:∀r∈rows,∀z∈r,(z.natAbs:Int)<pw (S+1)
theorem RdI.rows{n:Nat}{rows m:List (List Int)}{R X:List Md.Rw}{Q:List Nat}(h:RdI n rows n m R Q X):Q.length<=n/\∀r∈m.take Q.length,r.length=n:=by
 refine⟨afk h.gat.desc h.gat.lt,fun r hr=>?_⟩;have hm:=List.mem_of_mem_take hr;rw[h.hm]at hm;rcases List.mem_append.1 hm with hm|hm
 ·unfold elR at hm;obtain⟨p,_,rfl⟩:=List.mem_map.1 hm;unfold red;rw[List.length_map,aa4]
 ·obtain⟨x,_,rfl⟩:=List.mem_map.1 hm;unfold red;rw[List.length_map,aa4]
end Lm
namespace Lm
open Go Go.RowKit Md
section
variable {dst:Option Tmp} {ty:TypeId} {pos:String} {after:Array Edge} {guard:Option (Nat×Bool)} {a:Act} {w:World} {i j:Nat}
theorem ah3{b off n c q:Nat}(h:a.eval (.tmp i)=.slice (some ⟨b,off,none⟩) n c)(hk:a.eval (.tmp j)=.int .i64 (q:Int))(hl:q<n):Does Tryz.prog {dst,op:=.indexAddr 76 (.tmp i) (.tmp j),type:=ty,pos,after,guard} a.eval w fun v' w'=>Below w.heap.size w w'/\Eqs (.pointer (some ⟨b,off+q,none⟩)) v' w':=by
 have hl':(q:Int)<(n:Int):=by omega
 refine⟨?_⟩;unfold Turns;simp only[execOp,h,hk];go_simp;exact⟨Below.refl _ _,by simp[Eqs]⟩
end
theorem OutN.wide3{z:Int}{L M:Nat}{v:Value}{w:World}(h:OutN z L v w)(hl:L<=M):OutN z M v w:=by
 obtain⟨ng,ao,cap,rs,e,W,l⟩:=h;exact⟨ng,ao,cap,rs,e,W,by omega⟩
theorem Iv.at{B:Nat}{w:World}{ao:Option Addr}{n cap:Nat}{xs:List Int}{i:Nat}{x:Int}(h:Iv B w (.slice ao n cap) xs)(hx:xs[i]? = some x):n=xs.length/\∃g,ao=some ⟨g,0,none⟩/\g<w.heap.size/\w.cell? ⟨g,i,none⟩=some (.int .i64 x):=by
 obtain⟨hl,⟨h1,h2⟩|⟨g,c,cur,hv,hb,hh,h1,h2,h3,h4⟩⟩:=h.own
 ·have:=(List.getElem?_eq_some_iff.1 hx).1;omega
 ·injection hv with e1 e2 e3;refine⟨e2,g,e1,aaa hh,?_⟩;rw[cell_of_row _ _ _ _ _ (0,0) hh];have hu:(xs.map (Value.int .i64))[i]? = some (.int .i64 x):=by rw[List.getElem?_map,hx];rfl
  rw[<-h4,List.getElem?_take]at hu;split at hu
  ·simpa using hu
  ·cases hu
end Lm
namespace Lm
open Go Go.RowKit Md
def OL(w:World)(g cap:Nat)(vs:List Value):Prop:=∃cur:Array Value,w.heap[g]? = some (.cells cur 23 (0,0))/\cur.size=cap/\vs.length<=cap/\cap<=9223372036854775807/\cur.toList.take vs.length=vs
theorem OL.keep{w w':World}{g cap:Nat}{vs:List Value}(h:OL w g cap vs)(hk:w'.heap[g]? = w.heap[g]?):OL w' g cap vs:=by
 obtain⟨cur,h1,h2⟩:=h;exact⟨cur,hk.trans h1,h2⟩
theorem OL.cell{w:World}{g cap i:Nat}{vs:List Value}{u:Value}(h:OL w g cap vs)(hu:vs[i]? = some u):g<w.heap.size/\w.cell? ⟨g,i,none⟩=some u/\w.frozen? ⟨g,i,none⟩=false:=by
 obtain⟨cur,h1,h2,h3,_,h4⟩:=h;refine⟨aaa h1,?_,frozen_of_row _ _ _ _ _ h1⟩;rw[cell_of_row _ _ _ _ _ (0,0) h1];have hi:=(List.getElem?_eq_some_iff.1 hu).1;rw[<-h4,List.getElem?_take_of_lt hi]at hu;simpa using hu
theorem OL.put{w:World}{g cap i:Nat}{vs:List Value}(h:OL w g cap vs)(_:i<vs.length)(u:Value):OL (w.setCell ⟨g,i,none⟩ u) g cap (vs.set i u):=by
 obtain⟨cur,h1,h2,h3,h5,h4⟩:=h;refine⟨cur.setIfInBounds i u,heap_setCell_same w g i _ _ u h1,by simpa using h2,by simpa using h3,h5,?_⟩;rw[List.length_set,Array.toList_setIfInBounds,List.take_set,h4]
theorem OL.hp{w:World}{g cap:Nat}{vs:List Value}(h:OL w g cap vs):∃c,w.heap[g]? = some (.cells c 23 (0,0)):=by
 obtain⟨cur,h1,_⟩:=h;exact⟨cur,h1⟩
theorem OL.isM{w:World}{g cap L:Nat}{vs:List Value}{rows:List (List Int)}(h:OL w g cap vs)(hl:vs.length=rows.length)(hr:∀(i:Nat) (u:Value) (z:List Int),vs[i]? = some u->rows[i]? = some z->IsRow w u z L):IsM w (.slice (some ⟨g,0,none⟩) rows.length cap) rows L:=by
 refine⟨vs,⟨_,_,rfl,?_,?_,by omega,.inr ⟨g,0,rfl,?_,fun j u hu=>?_⟩⟩,hr⟩
 ·obtain⟨_,_,_,h3,_⟩:=h;omega
 ·obtain⟨_,_,_,_,h5,_⟩:=h;exact h5
 ·obtain⟨_,h1,_⟩:=h;exact aaa h1
 ·rw[Nat.zero_add];exact(h.cell hu).2.1
theorem ada(w:World)(g i:Nat)(u:Value):Tch g w (w.setCell ⟨g,i,none⟩ u):=⟨rfl,rfl,rfl,by simp[World.setCell],fun k _ hn=>heap_setCell_other w ⟨g,i,none⟩ k u hn⟩
end Lm
namespace Lm
open Go Go.RowKit Md
def OE(w:World)(g cap:Nat)(es:List WE):Prop:=∃cur:Array Value,w.heap[g]? = some (.cells cur 42 (0,0))/\cur.size=cap*2/\es.length<=cap/\cap<=9223372036854775807/\cur.toList.take (es.length*2)=flat es
theorem OE.keep{w w':World}{g cap:Nat}{es:List WE}(h:OE w g cap es)(hk:w'.heap[g]? = w.heap[g]?):OE w' g cap es:=by
 obtain⟨cur,h1,h2⟩:=h;exact⟨cur,hk.trans h1,h2⟩
def put2(w:World)(g i:Nat)(x:WE):World:=(w.setCell ⟨g,i*2,none⟩ (.bool x.ng)).setCell ⟨g,i*2+1,none⟩ (.slice x.a x.m x.c)
theorem awk(w:World)(g i:Nat)(x:WE):Tch g w (put2 w g i x):=(ada w g (i*2) _).trans (ada _ g (i*2+1) _)
theorem a0u{w:World}{g i:Nat}{cur:Array Value}{T:TypeId}(h:w.heap[g]? = some (.cells cur T (0,0)))(hT:T≠88)(hi:∀z,cur[i]?≠some (.int .u32 z))(u:Value):Ru w (w.setCell ⟨g,i,none⟩ u):=by
 refine⟨by simp[World.setCell],fun p z hp=>?_,fun k cs hk=>?_⟩
 ·by_cases hb:p.block=g
  ·obtain⟨b,o,m⟩:=p;simp only at hb;subst hb;have hs:=heap_setCell_same w b i _ _ u h;simp only[World.cell?,h]at hp;simp only[World.cell?,hs];cases m with
   |none=>
    rw[Array.getElem?_setIfInBounds];by_cases e:i=o
    ·subst e;exact absurd (by simpa using hp) (hi z)
    ·rw[if_neg e];exact hp
   |some m=>simp at hp
  ·rw[World.cell?_of_block (heap_setCell_other w ⟨g,i,none⟩ p.block u hb)];exact hp
 ·rw[heap_setCell_other w ⟨g,i,none⟩ k u (fun e=>by subst e;rw[h]at hk;injection hk with hk;injection hk with _ hk;exact hT hk)];exact hk
def XRow(K:Nat)(w:World)(v:Value)(zs:List Int)(L:Nat):Prop:=∃es:List WE,es.map WE.z=zs/\(∀e∈es,Sl w (.slice e.a e.m e.c) e.zs/\e.zs.length<=L)/\((es = []/\∃ao cap,v=.slice ao 0 cap/\cap<=9223372036854775807)\/∃g cap,v=.slice (some ⟨g,0,none⟩) es.length cap/\K<=g/\OE w g cap es)
theorem XRow.keep{K:Nat}{w w':World}{v:Value}{zs:List Int}{L:Nat}(h:XRow K w v zs L)(hr:Ru w w')(hk:∀(g:Nat) (c:Array Value),w.heap[g]? = some (.cells c 42 (0,0))->w'.heap[g]? = w.heap[g]?):XRow K w' v zs L:=by
 obtain⟨es,h1,h2,h3⟩:=h;refine⟨es,h1,fun e he=>⟨(h2 e he).1.ru hr,(h2 e he).2⟩,?_⟩;rcases h3 with h3|⟨g,cap,rfl,hK,h3⟩
 ·exact .inl h3
 ·obtain⟨cur,hc,_⟩:=id h3;exact .inr ⟨g,cap,rfl,hK,h3.keep (hk g cur hc)⟩
theorem XRow.below{K:Nat}{w w':World}{v:Value}{zs:List Int}{L:Nat}(h:XRow K w v zs L)(hb:Below w.heap.size w w'):XRow K w' v zs L:=h.keep (Ru.of_below hb) (fun g _ hg=>hb.block g (aaa hg))
theorem XRow.tch{K g:Nat}{w w':World}{v:Value}{zs:List Int}{L:Nat}{c:Array Value}(h:XRow K w v zs L)(ht:Tch g w w')(hr:Ru w w')(hg:w.heap[g]? = some (.cells c 23 (0,0))):XRow K w' v zs L:=h.keep hr (fun k c' hk=>ht.other k (aaa hk) (abb hg hk (by decide)))
theorem XRow.is{K:Nat}{w:World}{v:Value}{zs:List Int}{L:Nat}(h:XRow K w v zs L):IsRow w v zs L:=by
 obtain⟨es,h1,h2,h3⟩:=h;refine⟨es,⟨?_,fun e he=>(h2 e he).1⟩,h1,fun e he=>(h2 e he).2⟩;rcases h3 with⟨rfl,ao,cap,rfl,hc⟩|⟨g,cap,rfl,hK,h3⟩
 ·exact⟨ao,cap,rfl,Nat.zero_le _,hc,rfl,.inl rfl⟩
 ·obtain⟨cur,c1,c2,c3,c4,c5⟩:=h3;refine⟨_,cap,rfl,c3,c4,aay es,.inr ⟨g,0,rfl,aaa c1,fun j u hu=>?_⟩⟩;rw[Nat.zero_add,cell_of_row _ _ _ _ _ (0,0) c1];have hj:=(List.getElem?_eq_some_iff.1 hu).1;rw[aay]at hj;rw[<-c5,List.getElem?_take_of_lt hj]at hu;simpa using hu
end Lm
namespace Lm
open Go Go.RowKit Md
def TurnM(w:World)(f:FuncId)(cap:Array Value)(rows:List (List Int))(L L':Nat)(G:Nat->List Int->List Int):Prop:=∀(W:World) (c:Nat) (z:List Int) (xv:Value),Below w.heap.size w W->rows[c]? = some z->IsRow W xv z L->Calls Tryz.prog f (#[.int .i64 (c:Int),xv]++cap) W fun e W'=>∃v,e=.returned v/\XRow W.heap.size W' v (G c z) L'/\Below W.heap.size W W'
theorem XRow.low{K K':Nat}{w:World}{v:Value}{zs:List Int}{L:Nat}(h:XRow K w v zs L)(hk:K'<=K):XRow K' w v zs L:=by
 obtain⟨es,h1,h2,h3⟩:=h;refine⟨es,h1,h2,?_⟩;rcases h3 with h3|⟨g,cap,e,hK,h3⟩
 ·exact .inl h3
 ·exact .inr ⟨g,cap,e,by omega,h3⟩
theorem XRow.slc{K:Nat}{w:World}{v:Value}{zs:List Int}{L:Nat}(h:XRow K w v zs L):∃a n c,v=.slice a n c:=by
 obtain⟨es,h1,h2,⟨_,ao,cap,e,_⟩|⟨g,cap,e,_⟩⟩:=h
 ·exact⟨_,_,_,e⟩
 ·exact⟨_,_,_,e⟩
theorem awl(n:Nat):(madeCells #[.slice none 0 0] n).toList=List.replicate n (.slice none 0 0):=by
 apply List.ext_getElem?;intro i;rw[Array.getElem?_toList];by_cases hi:i<n
 ·have e0:(madeCells #[.slice none 0 0] n)[i]? = some (.slice none 0 0):=by simp[madeCells,hi,Nat.mod_one]
  rw[e0,List.getElem?_replicate,if_pos hi]
 ·rw[Array.getElem?_eq_none (by rw[size_madeCells];omega),List.getElem?_eq_none (by simp;omega)]
structure TL (K:Nat) (w:World) (g n:Nat) (vs:List Value) (k:Nat) (rows:List (List Int)) (L:Nat):Prop where
 ol:OL w g n vs
 len:vs.length=n
 slc:∀u∈vs,∃a n c,u=.slice a n c
 row:∀(i:Nat) (u:Value) (z:List Int),i<k->vs[i]? = some u->rows[i]? = some z->XRow K w u z L
theorem TL.below{K:Nat}{w w':World}{g n:Nat}{vs:List Value}{k:Nat}{rows:List (List Int)}{L:Nat}(h:TL K w g n vs k rows L)(hb:Below w.heap.size w w'):TL K w' g n vs k rows L:=
 ⟨h.ol.keep (hb.block g (by obtain⟨c,hc⟩:=h.ol.hp;exact aaa hc)),h.len,h.slc,fun i u z a b c=>(h.row i u z a b c).below hb⟩
theorem OL.ru{w:World}{g cap i:Nat}{vs:List Value}(h:OL w g cap vs)(hi:i<vs.length)(hs:∀u∈vs,∃a n c,u=.slice a n c)(u:Value):Ru w (w.setCell ⟨g,i,none⟩ u):=by
 obtain⟨x,hx⟩:∃x,vs[i]? = some x:=⟨_,List.getElem?_eq_getElem hi⟩;obtain⟨a,n,c,rfl⟩:=hs x (List.mem_of_getElem? hx);obtain⟨cur,h1,h2,h3,h5,h4⟩:=h;refine a0u h1 (by decide) (fun z hz=>?_) u;rw[<-h4,List.getElem?_take_of_lt hi,Array.getElem?_toList,hz]at hx;cases hx
theorem azk{α:Type}{l:List α}{i:Nat}{x y:α}(h:y∈l.set i x):y∈l\/y=x:=List.mem_or_eq_of_mem_set h
theorem TL.put{K:Nat}{w:World}{g n:Nat}{vs:List Value}{k:Nat}{rows:List (List Int)}{L:Nat}(h:TL K w g n vs k rows L)(hk:k<n){u:Value}{z:List Int}(hz:rows[k]? = some z)(hu:XRow K w u z L):TL K (w.setCell ⟨g,k,none⟩ u) g n (vs.set k u) (k+1) rows L/\Tch g w (w.setCell ⟨g,k,none⟩ u):=by
 have hkl:k<vs.length:=by have:=h.len;omega
 have hr:=h.ol.ru hkl h.slc u;have ht:=ada w g k u;obtain⟨c,hc⟩:=h.ol.hp;refine⟨⟨h.ol.put hkl u,by simp[h.len],fun x hx=>?_,fun i x y hi hx hy=>?_⟩,ht⟩
 ·rcases azk hx with hx|rfl
  ·exact h.slc x hx
  ·exact hu.slc
 ·by_cases e:k=i
  ·subst e;rw[List.getElem?_set_self hkl]at hx;obtain rfl:=Option.some.inj hx;rw[hz]at hy;obtain rfl:=Option.some.inj hy;exact hu.tch ht hr hc
  ·rw[List.getElem?_set_ne e]at hx;exact(h.row i x y (by omega) hx hy).tch ht hr hc
theorem TL.isM{K:Nat}{w:World}{g n:Nat}{vs:List Value}{rows:List (List Int)}{L:Nat}(h:TL K w g n vs n rows L)(hl:rows.length=n):IsM w (.slice (some ⟨g,0,none⟩) n n) rows L:=by
 have:=h.ol.isM (rows:=rows) (L:=L) (by rw[h.len,hl]) (fun i u z hu hz=>(h.row i u z (by have:=(List.getElem?_eq_some_iff.1 hz).1;omega) hu hz).is);rwa[hl]at this
def mapI(G:Nat->List Int->List Int)(rows:List (List Int)):List (List Int):=rows.mapIdx G
theorem aol{G:Nat->List Int->List Int}{rows:List (List Int)}{i:Nat}{z:List Int}(h:rows[i]? = some z):(mapI G rows)[i]? = some (G i z):=by simp[mapI,h]
theorem aml(G:Nat->List Int->List Int)(rows:List (List Int)):(mapI G rows).length=rows.length:=by simp[mapI]
theorem anl(w:World)(v:Value)(rows:List (List Int))(L L':Nat)(h:IsM w v rows L)(hl:rows.length<=1000000)(f:FuncId)(hf:Has Tryz.prog f)(cap:Array Value)(G:Nat->List Int->List Int)(hT:TurnM w f cap rows L L' G):
  Calls Tryz.prog 56 #[v,.func (.func f) #[] cap] w fun e w'=>e=.returned (.slice (some ⟨w.heap.size,0,none⟩) rows.length rows.length)/\(∃vs,TL w.heap.size w' w.heap.size rows.length vs rows.length (mapI G rows) L')/\Below w.heap.size w w':=by
 obtain⟨ao,cp,rfl,_⟩:=h.parts;have H:=hide h;have HTN:=hide hT;clear h hT;obtain⟨n,hnn⟩:∃n,rows.length=n:=⟨_,rfl⟩;rw[hnn]at H hl ⊢;have HN:=hide hnn;clear hnn;obtain⟨iW,hi,hz0,hz1,hz2⟩:=info_parts infoSz;go_enter Tryz.func56,Tryz.ntmps56
 go_wp2_with (refine wpList_make_full _ rfl (.tmp 9) (.tmp 9) 22 rfl w.heap.size 23 iW (.slice none 0 0) 1 Tryz.underlying22 hi hz0 hz1 .i64 .i64 _ _ n rfl rfl (by omega) (by omega) (by rw[hz2];omega) (by unfold maxLen;omega) (Nat.le_refl _) ?hK)
 case hK=>
  intro w2 hown hgrow;have hb2:Below w.heap.size w w2:=(Below.refl _ _).grown hgrow (Nat.le_refl _) (by simp);obtain⟨_,hmb⟩:=ac4 hown;rw[awl]at hmb;have hT0:TL w.heap.size w2 w.heap.size n (List.replicate n (.slice none 0 0)) 0 (mapI G rows) L':=⟨⟨_,hmb,by simp,by simp,by omega,by simp⟩,by simp,fun u hu=>⟨none,0,0,(List.mem_replicate.1 hu).2⟩,fun i u z hi=>by omega⟩;have HP0:=hide hT0;have HB:=hide hb2;clear hown hgrow hmb hb2 hT0;go_wp2;go_loopw [6,7,13] (fun _ _ iv wr=>∃(k:Nat) (vs:List Value),iv=.int .i64 k/\k<=n/\Below w.heap.size w wr/\TL w.heap.size wr w.heap.size n vs k (mapI G rows) L') (fun _ _ iv _=>n-(intOf iv).toNat)
  case atStart=>exact⟨0,_,rfl,Nat.zero_le _,HB.out,HP0.out⟩
  case round=>
   obtain⟨k,vs,rfl,hk,hbw,hp⟩:=hrel;have HW:=hide hbw;have HP:=hide hp;by_cases hlt:k<n
   ·obtain⟨z,hz⟩:∃z,rows[k]? = some z:=⟨_,List.getElem?_eq_getElem (by have:=HN.out;omega)⟩;obtain⟨b,off,u,rfl,hbl,x0,hx⟩:=H.out.cell hz;replace x0:=(hbw.cell (p:=⟨b,off+k,none⟩) hbl).trans x0;have hlt':(k:Int)<(n:Int):=by omega
    have KC:=hide (HTN.out wr k z u hbw hz (hx.below hbw));obtain⟨ua,uc,rfl,_⟩:=hx.parts;have HZ:=hide hz;clear hbw hp hx hz;have hE:∀args w,(callFunc f args).run Tryz.prog w=.ok (.enter f args) w:=fun args w=>hf.enter args w
    go_wp2_with fail
    refine KC.out.mono ?_;rintro e w3 ⟨v1,rfl,h1,hb3⟩;have hP3:=HP.out.below hb3;obtain⟨x,hx⟩:∃x,vs[k]? = some x:=⟨_,List.getElem?_eq_getElem (by have:=hP3.len;omega)⟩;obtain⟨gl,y0,yf0⟩:=hP3.ol.cell hx;obtain⟨xa,xn,xc,rfl⟩:=hP3.slc x (List.mem_of_getElem? hx);have hput:=hP3.put hlt (aol HZ.out) (h1.low HW.out.size);obtain⟨va,vn,vc,rfl⟩:=h1.slc;have HPT:=hide hput;have HB3:=hide (HW.out.trans (hb3.mono HW.out.size));clear h1 hb3 x0 KC hE hP3 hx hput;go_wp2;go_roundw
    case rel=>exact⟨k+1,_,by go_num,by omega,HB3.out.trans (HPT.out.2.below HB3.out.size (Nat.le_refl _)),HPT.out.1⟩
    case measure=>simp[intOf];omega
   ·have hlt':decide ((k:Int)<(n:Int))=false:=by simp;omega
    have hkn:k=n:=by omega
    subst hkn;clear hbw hp;go_wp2;refine bodyPost_ret (v:=_) (by simp[results,Tryz.results56,go_sem];try rfl) rfl ⟨rfl,⟨_,HP.out⟩,HW.out⟩
end Lm
namespace Lm
open Go Go.RowKit Md
open Dm (WFr)
theorem awm(w:World):WFr 0 0 w false none 0 [] 0:=⟨⟨ayl 0 w,⟨fun z hz=>(by cases hz),rfl⟩,rfl,fun h=>(by omega)⟩,by decide⟩
def ZE(w:World)(bv:Nat)(zs:List Int)(L:Nat):Prop:=∃es:List WE,w.heap[bv]? = some (.cells (flat es).toArray 42 (0,0))/\es.length=zs.length/\∀(k:Nat) (e:WE) (z:Int),es[k]? = some e->zs[k]? = some z->∃B T,WFr B T w e.ng e.a e.c e.zs z/\e.m=e.zs.length/\e.zs.length<=L/\T<=w.heap.size
theorem ZE.lt{w:World}{bv:Nat}{zs:List Int}{L:Nat}(h:ZE w bv zs L):bv<w.heap.size:=by
 obtain⟨es,h1,_⟩:=h;exact aaa h1
theorem ZE.start{w:World}{bv n:Nat}{L:Nat}(h:w.heap[bv]? = some (.cells (flat (List.replicate n ⟨false,none,0,0,[]⟩)).toArray 42 (0,0))):ZE w bv (List.replicate n 0) L:=by
 refine⟨_,h,by simp,fun k e z he hz=>?_⟩;rw[List.getElem?_replicate]at he hz;split at he
 ·rename_i hk;rw[if_pos hk]at hz;obtain rfl:=Option.some.inj he;obtain rfl:=Option.some.inj hz;exact⟨0,0,awm w,rfl,Nat.zero_le _,Nat.zero_le _⟩
 ·cases he
theorem ZE.cells{w:World}{bv:Nat}{zs:List Int}{L:Nat}(h:ZE w bv zs L){k:Nat}(hk:k<zs.length):(∃ng a m c,w.cell? ⟨bv,k*2,none⟩=some (.bool ng)/\w.cell? ⟨bv,k*2+1,none⟩=some (.slice a m c))/\w.frozen? ⟨bv,k*2,none⟩=false/\w.frozen? ⟨bv,k*2+1,none⟩=false:=by
 obtain⟨es,h2,h1,_⟩:=h;obtain⟨e,he⟩:∃e,es[k]? = some e:=⟨_,List.getElem?_eq_getElem (by omega)⟩;obtain⟨f1,f2⟩:=aa2 he;exact⟨⟨e.ng,e.a,e.m,e.c,by rw[cell_of_row _ _ _ _ _ (0,0) h2,List.getElem?_toArray];exact f1,by rw[cell_of_row _ _ _ _ _ (0,0) h2,List.getElem?_toArray];exact f2⟩,frozen_of_row _ _ _ _ _ h2,frozen_of_row _ _ _ _ _ h2⟩
theorem ZE.put{w:World}{bv:Nat}{zs:List Int}{L:Nat}(h:ZE w bv zs L){k:Nat}(hk:k<zs.length){z:Int}{ng:Bool}{a:Option Addr}{m c K:Nat}(hv:FrW K z L (.agg #[.bool ng,.slice a m c]) w):
  ZE ((w.setCell ⟨bv,k*2,none⟩ (.bool ng)).setCell ⟨bv,k*2+1,none⟩ (.slice a m c)) bv (zs.set k z) L/\Tch bv w ((w.setCell ⟨bv,k*2,none⟩ (.bool ng)).setCell ⟨bv,k*2+1,none⟩ (.slice a m c)):=by
 obtain⟨es,h1,h2,h3⟩:=h;obtain⟨ng',ao',cap',rs,B',T',hv1,hv2,hv3,hv4,hv5⟩:=hv;simp only[Value.agg.injEq,Array.mk.injEq,List.cons.injEq,Value.bool.injEq,Value.slice.injEq,and_true]at hv1;obtain⟨rfl,rfl,rfl,rfl⟩:=hv1;have ht:=awk w bv k ⟨ng,a,rs.length,c,rs⟩;refine⟨⟨es.set k ⟨ng,a,rs.length,c,rs⟩,?_,by simp[h2],fun i e y he hy=>?_⟩,ht⟩
 ·rw[af2 es k _ (by omega)];have s1:=heap_setCell_same w bv (k*2) _ _ (.bool ng) h1;have s2:=heap_setCell_same _ bv (k*2+1) _ _ (.slice a rs.length c) s1;rw[s2];simp
 ·by_cases hik:i=k
  ·subst hik;rw[List.getElem?_set_self (by omega)]at he;rw[List.getElem?_set_self (by omega)]at hy;obtain rfl:=Option.some.inj he;obtain rfl:=Option.some.inj hy;exact⟨B',T',ag3 hv2 ht h1 (by decide),rfl,hv5,Nat.le_trans hv4 ht.size⟩
  ·rw[List.getElem?_set_ne (fun h=>hik h.symm)]at he hy;obtain⟨B,T,g1,g2,g3,g4⟩:=h3 i e y he hy;exact⟨B,T,ag3 g1 ht h1 (by decide),g2,g3,Nat.le_trans g4 ht.size⟩
theorem ZE.is{w:World}{bv:Nat}{zs:List Int}{L:Nat}(h:ZE w bv zs L)(hl:zs.length<=1000000):IsRow w (.slice (some ⟨bv,0,none⟩) zs.length zs.length) zs L:=by
 obtain⟨es,e2,e1,e4⟩:=h;have hz:∀(k:Nat) (e:WE),es[k]? = some e->∃z,zs[k]? = some z/\(∃B T,WFr B T w e.ng e.a e.c e.zs z)/\e.m=e.zs.length/\e.zs.length<=L:=by
  intro k e he;have hk:=(List.getElem?_eq_some_iff.1 he).1;obtain⟨z,hz⟩:∃z,zs[k]? = some z:=⟨_,List.getElem?_eq_getElem (by omega)⟩;obtain⟨B,T,g1,g2,g3,_⟩:=e4 k e z he hz;exact⟨z,hz,⟨B,T,g1⟩,g2,g3⟩
 refine⟨es,⟨⟨_,_,by rw[e1],by omega,by omega,aay es,?_⟩,?_⟩,?_,?_⟩
 ·refine .inr ⟨bv,0,rfl,aaa e2,fun j u hu=>?_⟩;rw[Nat.zero_add,cell_of_row _ _ _ _ _ (0,0) e2,List.getElem?_toArray];exact hu
 ·intro e he;obtain⟨k,hk⟩:=List.mem_iff_getElem?.1 he;obtain⟨z,_,⟨B,T,g1⟩,g2,_⟩:=hz k e hk;have:=g1.wh.sl;rwa[<-g2]at this
 ·apply List.ext_getElem?;intro k;rw[List.getElem?_map];cases hk:es[k]? with
  |none=>
   rw[List.getElem?_eq_none_iff]at hk;rw[Option.map_none,eq_comm,List.getElem?_eq_none_iff];omega
  |some e=>
   obtain⟨z,h1,⟨B,T,g1⟩,g2,_⟩:=hz k e hk;rw[h1,Option.map_some];congr 1;exact g1.wh.worth
 ·intro e he;obtain⟨k,hk⟩:=List.mem_iff_getElem?.1 he;obtain⟨z,_,_,_,g3⟩:=hz k e hk;exact g3
end Lm
namespace Lm
open Go Go.RowKit
theorem ah4(a b:Int):IntKind.i64.wrap (IntKind.i64.wrap a+b)=IntKind.i64.wrap (a+b):=by
 rw[IntKind.wrap_i64,IntKind.wrap_i64,IntKind.wrap_i64];omega
theorem auf(a b:Int):IntKind.i64.wrap (a+IntKind.i64.wrap b)=IntKind.i64.wrap (a+b):=by
 rw[IntKind.wrap_i64,IntKind.wrap_i64,IntKind.wrap_i64];omega
theorem aju{a:Int}(h:0<=a)(h':a<=9223372036854775807):IntKind.i64.wrap a=a:=by
 rw[IntKind.wrap_i64];omega
theorem amm(w:World)(ax:Option Addr)(mx cx:Nat)(xs:List WE)(R:Rw w (.slice ax mx cx) xs)(hm:∀e∈xs,e.m<=35184372088832):
  Calls Tryz.prog 7 #[.slice ax mx cx] w fun e w'=>e=.returned (.int .i64 (IntKind.i64.wrap (lenW xs:Int)))/\Below w.heap.size w w':=by
 have HX:=hide R;have HNx:Hid (mx=xs.length):=R.parts.1;have hml:mx<=9223372036854775807:=by have:=R.parts;omega
 have HMM:=hide hm;clear R hm;go_enter Tryz.func7,Tryz.ntmps7
 go_wp2_with fail
 go_loopw [3,4] (fun sv iv wr=>∃(k:Nat) (s:Int),iv=.int .i64 k/\k<=mx/\sv=.int .i64 s/\s=IntKind.i64.wrap (lenW (xs.take k):Int)/\Below w.heap.size w wr) (fun _ iv _=>mx-(intOf iv).toNat)
 case atStart=>exact⟨0,0,rfl,Nat.zero_le _,rfl,rfl,Below.refl _ _⟩
 case round=>
  obtain⟨k,s,rfl,hk,rfl,hsw,hbw⟩:=hrel;have HSW:=hide hsw;by_cases hlt:k<mx
  ·have hlt':(k:Int)<(mx:Int):=by omega
   have HLT:=hide hlt;obtain⟨ex,hex⟩:∃e,xs[k]? = some e:=⟨_,List.getElem?_eq_getElem (by have:=HNx.out;omega)⟩;obtain⟨bx,ox,hAx,hlx0,hcx⟩:=HX.out.cells (by have:=HNx.out;omega);subst hAx;have hlx:bx<wr.heap.size:=Nat.lt_of_lt_of_le hlx0 hbw.size;have x0:=(hbw.cell (p:=⟨bx,ox+k*2,none⟩) hlx0).trans (hcx _ _ (aa2 hex).1);have x1:wr.cell? ⟨bx,ox+k*2+1,none⟩=some (.slice ex.a ex.m ex.c):=(hbw.cell (p:=⟨bx,ox+k*2+1,none⟩) hlx0).trans (hcx _ _ (aa2 hex).2);have hs:=asp hex;have hem:=HMM.out ex (List.mem_of_getElem? hex);have HW:=hide hbw;have K1:=hide (auv wr ex.ng ex.a ex.m ex.c (by omega));obtain⟨t,hadd⟩:∃t,IntKind.i64.wrap (s+(1+(ex.m:Int)))=t:=⟨_,rfl⟩;have HT:Hid (t=IntKind.i64.wrap (lenW (xs.take (k+1)):Int)):=(show t=_ by
    rw[<-hadd,HSW.out,ah4,hs]
    first|done|rfl|(congr 1;omega)|simp)
   clear hbw hs hsw hex hcx hlx;go_wp2_with fail
   refine K1.out.mono ?_;rintro e w2 ⟨rfl,hb2⟩;have HB2:=hide (HW.out.trans (hb2.mono HW.out.size));clear hb2 x0 x1 hlx0;go_wp2;go_roundw
   case rel=>exact⟨k+1,t,by go_num,HLT.out,rfl,HT.out,HB2.out⟩
   case measure=>have:=HLT.out;simp[intOf];omega
  ·have hlt':decide ((k:Int)<(mx:Int))=false:=by simp;omega
   have hkn:k=mx:=by omega
   subst hkn;have HW:=hide hbw;clear hbw hsw;go_wp2;refine bodyPost_ret (v:=_) (acj rfl rfl) rfl ⟨?_,HW.out⟩;have:=HSW.out;rw[List.take_of_length_le (by have:=HNx.out;omega)]at this;rw[<-this];rfl
theorem aug(w:World)(v:Value)(ess:List (List WE))(h:RwM w v ess)(hm:∀es∈ess,∀e∈es,e.m<=35184372088832):
  Calls Tryz.prog 6 #[v] w fun e w'=>e=.returned (.int .i64 (IntKind.i64.wrap (lenM ess:Int)))/\Below w.heap.size w w':=by
 obtain⟨ax,cx,rfl,hnl⟩:=h.parts;have HX:=hide h;have HMM:=hide hm;obtain⟨n,hn⟩:∃n,ess.length=n:=⟨_,rfl⟩;rw[hn]at HX hnl ⊢;have HN:=hide hn;clear h hn hm;go_enter Tryz.func6,Tryz.ntmps6
 go_wp2_with fail
 go_loopw [3,4] (fun sv iv wr=>∃(k:Nat) (s:Int),iv=.int .i64 k/\k<=n/\sv=.int .i64 s/\s=IntKind.i64.wrap (lenM (ess.take k):Int)/\Below w.heap.size w wr) (fun _ iv _=>n-(intOf iv).toNat)
 case atStart=>exact⟨0,0,rfl,Nat.zero_le _,rfl,rfl,Below.refl _ _⟩
 case round=>
  obtain⟨k,s,rfl,hk,rfl,hsw,hbw⟩:=hrel;have HW:=hide hbw;have HSW:=hide hsw;by_cases hlt:k<n
  ·have hlt':(k:Int)<(n:Int):=by omega
   have HLT:=hide hlt;obtain⟨es,hes⟩:∃e,ess[k]? = some e:=⟨_,List.getElem?_eq_getElem (by have:=HN.out;omega)⟩;obtain⟨b,off,u,rfl,hbl,x0,hR⟩:=HX.out.cell hes;obtain⟨ua,uc,rfl⟩:=hR.slc;replace x0:=(hbw.cell (p:=⟨b,off+k,none⟩) hbl).trans x0;have hs:=at8 hes;have K1:=amm wr ua _ uc es (hR.below hbw) (HMM.out es (List.mem_of_getElem? hes));obtain⟨t,ht⟩:∃t,IntKind.i64.wrap (lenW es:Int)=t:=⟨_,rfl⟩;rw[ht]at K1;have K1:=hide K1;obtain⟨s1,hadd1⟩:∃s1,IntKind.i64.wrap (s+1)=s1:=⟨_,rfl⟩;obtain⟨s2,hadd2⟩:∃s2,IntKind.i64.wrap (s1+t)=s2:=⟨_,rfl⟩;have HS:Hid (s2=IntKind.i64.wrap (lenM (ess.take (k+1)):Int)):=(show s2=_ by
    rw[<-hadd2,<-ht,<-hadd1,HSW.out,auf,ah4,Int.add_assoc,ah4,hs]
    first|done|rfl|(congr 1;omega)|simp)
   clear hbw hs hsw hR hes ht;go_wp2_with fail
   refine K1.out.mono ?_;rintro e w2 ⟨rfl,hb2⟩;have HB2:=hide (HW.out.trans (hb2.mono HW.out.size));clear hb2 K1 x0;go_wp2;go_roundw
   case rel=>exact⟨k+1,s2,by go_num,HLT.out,rfl,HS.out,HB2.out⟩
   case measure=>have:=HLT.out;simp[intOf];omega
  ·have hlt':decide ((k:Int)<(n:Int))=false:=by simp;omega
   have hkn:ess.take k=ess:=List.take_of_length_le (by have:=HN.out;omega);rw[hkn]at HSW;clear hbw hsw;go_wp2;refine bodyPost_ret (v:=_) (by simp[results,Tryz.results6,go_sem];try rfl) rfl ⟨by rw[<-HSW.out],HW.out⟩
theorem ajv{M:Nat}: ∀ {es:List WE},(∀e∈es,e.m<=M)->lenW es<=es.length*(1+M)
 | [],_=>Nat.zero_le _
 |e::es,h=>by
  have h1:=ajv (es:=es) (fun x hx=>h x (by simp[hx]));have h2:=h e (by simp);have e1:lenW (e::es)=1+e.m+lenW es:=by simp[lenW]
  rw[e1,List.length_cons,Nat.add_mul];omega
theorem aom{M N:Nat}: ∀ {ess:List (List WE)},(∀es∈ess,es.length<=N/\∀e∈es,e.m<=M)->lenM ess<=ess.length*(1+N*(1+M))
 | [],_=>Nat.zero_le _
 |es::ess,h=>by
  have h1:=aom (ess:=ess) (fun x hx=>h x (by simp[hx]));obtain⟨h2,h3⟩:=h es (by simp);have h4:=ajv h3;have h5:es.length*(1+M)<=N*(1+M):=Nat.mul_le_mul_right _ h2;have e1:lenM (es::ess)=1+lenW es+lenM ess:=by simp[lenM]
  rw[e1,List.length_cons,Nat.add_mul];omega
theorem RwM.isM_s{w:World}{v:Value}{ess:List (List WE)}(h:RwM w v ess){L:Nat}(hl:∀es∈ess,∀e∈es,e.m<=L):IsM w v (zsM ess) L:=by
 obtain⟨vs,h1,h2⟩:=h;refine⟨vs,by simpa[zsM]using h1,fun i u z hu hz=>?_⟩;unfold zsM at hz;rw[List.getElem?_map]at hz;obtain⟨es,he,rfl⟩:=Option.map_eq_some_iff.1 hz;have hR:=h2 i u es hu he;refine⟨es,hR,rfl,fun e hx=>?_⟩;obtain⟨ao,cap,hv,_⟩:=hR.sl e hx;obtain⟨_,hm,_⟩:=(Value.slice.injEq .. ▸ hv);have:=hl es (List.mem_of_getElem? he) e hx;omega
theorem aqo{ess:List (List WE)}{cols:Int}(hs:Shaped (zsM ess) cols)(hm:∀es∈ess,∀e∈es,e.m<=35184372088832):lenM ess<=100000000000000000:=by
 have h1:ess.length<=64:=by have:=hs.2.2.1;simpa[zsM]using this
 have h2:=aom (M:=35184372088832) (N:=32) (ess:=ess) (fun es he=>⟨by
  have h3:=hs.2.2.2 (es.map WE.z) (List.mem_map.2 ⟨es,he,rfl⟩);have h4:=hs.2.1;rw[List.length_map]at h3
  omega,hm es he⟩)
 have h3:ess.length*(1+32*(1+35184372088832))<=64*(1+32*(1+35184372088832)):=Nat.mul_le_mul_right _ h1;omega
end Lm
namespace Lm
open Go Go.RowKit Md
theorem ag5(ess:List (List WE)):(zsM ess).length=ess.length:=by simp[zsM]
end Lm
namespace Lm
open Go Go.RowKit Md
theorem IsM.wide{w:World}{v:Value}{rows:List (List Int)}{L M:Nat}(h:IsM w v rows L)(hl:L<=M):IsM w v rows M:=by
 obtain⟨vs,h1,h2⟩:=h;exact⟨vs,h1,fun i u z a b=>(h2 i u z a b).wide hl⟩
end Lm
namespace Lm
open Go Go.RowKit Md
theorem a1k(w:World)(k:Int):Calls Tryz.prog 14 #[.int .i64 k] w fun e w'=>e=.returned (.int .i64 k)/\w'=w:=by
 go_enter Tryz.func14,Tryz.ntmps14
 go_wp2;go_ret;exact⟨rfl,rfl⟩
theorem least{P:Nat->Prop}(h:∃n,P n):∃n,P n/\∀m,P m->n<=m:=by
 obtain⟨n,hn⟩:=h;induction n using Nat.strongRecOn with
 |_ n ih=>
  by_cases hx:∃m,m<n/\P m
  ·obtain⟨m,hm,hp⟩:=hx;exact ih m hm hp
  ·exact⟨n,hn,fun m hp=>by
    by_cases h:n<=m
    ·exact h
    ·exact absurd ⟨m,by omega,hp⟩ hx⟩
open Classical in
noncomputable def bndB(f:Md.Rw):Nat:=if h:∃L,∀k,((f k).natAbs:Int)<pw L then Classical.choose (least h)else 0
theorem akj{f:Md.Rw}{L:Nat}(h:∀k,((f k).natAbs:Int)<pw L):(∀k,((f k).natAbs:Int)<pw (bndB f))/\bndB f<=L:=by
 have hx:∃L,∀k,((f k).natAbs:Int)<pw L:=⟨L,h⟩;have hs:=Classical.choose_spec (least hx);unfold bndB;rw[dif_pos hx];exact⟨hs.1,hs.2 L h⟩
theorem RwM.row{w:World}{v:Value}{ess:List (List WE)}(h:RwM w v ess):∀es∈ess,∃u,Rw w u es:=by
 intro es he;obtain⟨i,hi⟩:=List.mem_iff_getElem?.1 he;obtain⟨vs,h1,h2⟩:=h;obtain⟨_,_,_,_,_,h3,_⟩:=h1;obtain⟨u,hu⟩:∃u,vs[i]? = some u:=⟨_,List.getElem?_eq_getElem (by have:=(List.getElem?_eq_some_iff.1 hi).1;omega)⟩;exact⟨u,h2 i u es hu hi⟩
theorem amn{es us:List WE}(h:SameR es us):es.map WE.z=us.map WE.z:=by
 have e:∀l:List WE,l.map WE.z=(l.map WE.raw).map fun p=>sg p.1 (val p.2):=fun l=>by rw[List.map_map];rfl
 rw[e,e,h]
theorem amo{es us:List WE}{L:Nat}(h:SameR es us)(hl:∀e∈us,e.zs.length<=L):∀e∈es,e.zs.length<=L:=by
 intro e he;have h1:e.raw∈us.map WE.raw:=by rw[<-h];exact List.mem_map_of_mem he
 obtain⟨u,hu,hr⟩:=List.mem_map.1 h1;have h2:u.zs=e.zs:=congrArg Prod.snd hr;rw[<-h2];exact hl u hu
theorem RwM.isM_z{w:World}{v:Value}{fss ess:List (List WE)}(h:RwM w v fss)(hS:SameM fss ess){L:Nat}(hl:∀es∈ess,∀e∈es,e.zs.length<=L):IsM w v (zsM ess) L:=by
 obtain⟨vs,h1,h2⟩:=h;refine⟨vs,by unfold zsM;rw[List.length_map,<-hS.1];exact h1,fun i u z a b=>?_⟩;unfold zsM at b;rw[List.getElem?_map]at b;obtain⟨es,hes,rfl⟩:=Option.map_eq_some_iff.1 b;obtain⟨fs,hfs⟩:∃fs,fss[i]? = some fs:=⟨_,List.getElem?_eq_getElem (by have:=(List.getElem?_eq_some_iff.1 hes).1;have:=hS.1;omega)⟩;have hR:=hS.2 i fs es hfs hes;exact⟨fs,h2 i u fs a hfs,amn hR,amo hR (hl es (List.mem_of_getElem? hes))⟩
theorem aqp(ess:List (List WE)):SameM ess ess:=⟨rfl,fun i xs ys a b=>by rw[a]at b;obtain rfl:=Option.some.inj b;rfl⟩
end Lm
namespace Lm
open Go Go.RowKit Md
theorem RdI.rows_in{n:Nat}{rows m:List (List Int)}{R X:List Md.Rw}{Q:List Nat}(h:RdI n rows n m R Q X)(hrn:∀r∈rows,r.length=n):∀r∈rows,RS R (fnR r):=fun r hr=>by
 have hmem:∀x,x∈R++X->∃r∈rows,x=fnR r:=fun x hx=>by
  obtain⟨r,hr,e⟩:=List.mem_map.1 (h.perm.mem_iff.1 hx);exact⟨r,hr,e.symm⟩
 have hx:=h.perm.mem_iff.2 (List.mem_map.2 ⟨r,hr,rfl⟩);rcases List.mem_append.1 hx with hx|hx
 ·exact .mem hx
 ·refine an3 (ach h.gat.desc) h.gat.ne (fun c=>?_);by_cases hc:c<n
  ·exact h.zero _ hx c hc
  ·refine at1 (ag2 (fnR r::R) Q) (fun y hy=>?_);obtain⟨s,hs,rfl⟩:=hmem y (by rcases List.mem_cons.1 hy with rfl|hy;exact List.mem_append.2 (.inr hx);exact List.mem_append.2 (.inl hy));exact ajs (by rw[hrn s hs];omega)
theorem RdI.rs_rows{n:Nat}{rows m:List (List Int)}{R X:List Md.Rw}{Q:List Nat}(h:RdI n rows n m R Q X)(hrn:∀r∈rows,r.length=n)(x:Md.Rw):RS R x↔RS (rows.map fnR) x:=by
 refine⟨fun hx=>hx.trans fun y hy=>?_,fun hx=>hx.trans fun y hy=>?_⟩
 ·exact .mem (h.perm.mem_iff.1 (List.mem_append.2 (.inl hy)))
 ·obtain⟨r,hr,rfl⟩:=List.mem_map.1 hy;exact h.rows_in hrn r hr
end Lm
namespace Lm
open Go Go.RowKit Md
theorem qset{w2:World}{bv i:Nat}{es:List WE}{ng:Bool}{a:Option Addr}{m c:Nat}(e2:w2.heap[bv]? = some (.cells (flat es).toArray 84 (0,0)))(hi:i<es.length):∃W,W=((w2.setCell ⟨bv,i*2,none⟩ (.bool ng)).setCell ⟨bv,i*2+1,none⟩ (.slice a m c))/\W.heap[bv]? = some (.cells (flat (es.set i ⟨ng,a,m,c,[]⟩)).toArray 84 (0,0))/\Rl w2 W/\(∀B,B<=bv->Below B w2 W)/\∀k,k≠bv->W.heap[k]? = w2.heap[k]? :=by
 refine⟨_,rfl,?_⟩;generalize hW:((w2.setCell ⟨bv,i*2,none⟩ (.bool ng)).setCell ⟨bv,i*2+1,none⟩ (.slice a m c))=W;have hbW:W.heap[bv]? = some (.cells (flat (es.set i ⟨ng,a,m,c,[]⟩)).toArray 84 (0,0)):=by
  rw[<-hW,af2 es i _ hi];have s1:=heap_setCell_same w2 bv (i*2) _ _ (.bool ng) e2;have s2:=heap_setCell_same _ bv (i*2+1) _ _ (.slice a m c) s1;rw[s2];simp
 have hot:∀k,k≠bv->W.heap[k]? = w2.heap[k]? :=fun k hn=>by rw[<-hW,heap_setCell_other _ ⟨bv,i*2+1,none⟩ k _ hn,heap_setCell_other _ ⟨bv,i*2,none⟩ k _ hn]
 have hsz:W.heap.size=w2.heap.size:=by rw[<-hW];simp[World.setCell]
 have hou:W.os=w2.os/\W.tape=w2.tape/\W.output=w2.output:=by rw[<-hW];exact⟨rfl,rfl,rfl⟩
 refine⟨hbW,⟨Nat.le_of_eq hsz.symm,fun q k y e=>?_,fun k cs T hT e=>?_⟩,fun B hB=>⟨hou.1,hou.2.1,hou.2.2,Nat.le_of_eq hsz.symm,fun k hk=>hot k (by omega)⟩,hot⟩
 ·by_cases hq:q.block=bv
  ·exfalso;obtain⟨qb,qo,qm⟩:=q;simp only at hq;subst hq;simp only[World.cell?,e2]at e;cases qm with
   |none=>exact ahx es qo k y (by simpa using e)
   |some m=>simp at e
  ·rw[World.cell?_of_block (w:=w2) (hot q.block hq)];exact e
 ·by_cases hk:k=bv
  ·exfalso;subst hk;rw[e2]at e;injection e with e;injection e with _ e _;rcases hT with rfl|rfl
   ·exact absurd e (by decide)
   ·exact absurd e (by decide)
  ·rw[hot k hk];exact e
def PFr(w:World)(bv n:Nat)(ok:Nat->Prop)(r:Nat->Rat)(L:Nat):Prop:=
 ∃fs:List WE,fs.length=2*n/\w.heap[bv]? = some (.cells (flat fs).toArray 84 (0,0))/\∀k,k<n->ok k->∃f g,fs[2*k]? = some f/\fs[2*k+1]? = some g/\OutN (r k).num L f.v w/\OutN ((r k).den:Int) L g.v w
theorem PFr.lt{w:World}{bv n:Nat}{ok:Nat->Prop}{r:Nat->Rat}{L:Nat}(h:PFr w bv n ok r L):bv<w.heap.size:=by
 obtain⟨fs,_,h2,_⟩:=h;exact aaa h2
theorem PFr.below{w w':World}{bv n:Nat}{ok:Nat->Prop}{r:Nat->Rat}{L:Nat}(h:PFr w bv n ok r L)(hb:Below w.heap.size w w'):PFr w' bv n ok r L:=by
 have hl:=h.lt;obtain⟨fs,h1,h2,h3⟩:=h;refine⟨fs,h1,(hb.block bv hl).trans h2,fun k hk ho=>?_⟩;obtain⟨f,g,f1,g1,o1,o2⟩:=h3 k hk ho;exact⟨f,g,f1,g1,o1.rl (Rl.of_below hb),o2.rl (Rl.of_below hb)⟩
theorem PFr.cells{w:World}{bv n:Nat}{ok:Nat->Prop}{r:Nat->Rat}{L:Nat}(h:PFr w bv n ok r L){k:Nat}(hk:k<n):(∃ng a m c mg d e f,w.cell? ⟨bv,k*4,none⟩=some (.bool ng)/\w.cell? ⟨bv,k*4+1,none⟩=some (.slice a m c)/\w.cell? ⟨bv,k*4+2,none⟩=some (.bool mg)/\w.cell? ⟨bv,k*4+3,none⟩=some (.slice d e f))/\w.frozen? ⟨bv,k*4,none⟩=false/\w.frozen? ⟨bv,k*4+1,none⟩=false/\w.frozen? ⟨bv,k*4+2,none⟩=false/\w.frozen? ⟨bv,k*4+3,none⟩=false:=by
 obtain⟨fs,h1,h2,_⟩:=h;obtain⟨f,hf⟩:∃e,fs[2*k]? = some e:=⟨_,List.getElem?_eq_getElem (by omega)⟩;obtain⟨g,hg⟩:∃e,fs[2*k+1]? = some e:=⟨_,List.getElem?_eq_getElem (by omega)⟩;obtain⟨f1,f2⟩:=aa2 hf;obtain⟨g1,g2⟩:=aa2 hg;rw[show 2*k*2=k*4 by omega]at f1 f2;rw[show(2*k+1)*2=k*4+2 by omega]at g1 g2;have hc:∀j,w.cell? ⟨bv,j,none⟩=(flat fs)[j]? :=fun j=>by rw[cell_of_row _ _ _ _ _ (0,0) h2,List.getElem?_toArray]
 exact⟨⟨_,_,_,_,_,_,_,_,(hc _).trans f1,(hc _).trans f2,(hc _).trans g1,(hc _).trans g2⟩,frozen_of_row _ _ _ _ _ h2,frozen_of_row _ _ _ _ _ h2,frozen_of_row _ _ _ _ _ h2,frozen_of_row _ _ _ _ _ h2⟩
def qput(w:World)(bv k:Nat)(ng:Bool)(a:Option Addr)(m c:Nat)(mg:Bool)(d:Option Addr)(e f:Nat):World:=(((w.setCell ⟨bv,k*4,none⟩ (.bool ng)).setCell ⟨bv,k*4+1,none⟩ (.slice a m c)).setCell ⟨bv,k*4+2,none⟩ (.bool mg)).setCell ⟨bv,k*4+3,none⟩ (.slice d e f)
theorem PFr.put{w:World}{bv n k:Nat}{ok:Nat->Prop}{r:Nat->Rat}{L:Nat}{x:Rat}{ng:Bool}{a:Option Addr}{m c:Nat}{mg:Bool}{d:Option Addr}{e f:Nat}(h:PFr w bv n ok r L)(hk:k<n)(h1:OutN x.num L (.agg #[.bool ng,.slice a m c]) w)(h2:OutN (x.den:Int) L (.agg #[.bool mg,.slice d e f]) w):
  PFr (qput w bv k ng a m c mg d e f) bv n (fun j=>ok j\/j=k) (fun j=>if j=k then x else r j) L/\(∀B,B<=bv->Below B w (qput w bv k ng a m c mg d e f))/\Rl w (qput w bv k ng a m c mg d e f)/\∀j,j≠bv->(qput w bv k ng a m c mg d e f).heap[j]? = w.heap[j]? :=by
 obtain⟨fs,e1,e2,e3⟩:=h;obtain⟨W1,hW1,hb1,hr1,hB1,ho1⟩:=qset (ng:=ng) (a:=a) (m:=m) (c:=c) (i:=2*k) e2 (by omega);obtain⟨W2,hW2,hb2,hr2,hB2,ho2⟩:=qset (ng:=mg) (a:=d) (m:=e) (c:=f) (i:=2*k+1) hb1 (by simp;omega);have hW:W2=qput w bv k ng a m c mg d e f:=by
  rw[hW2,hW1];unfold qput;rw[show 2*k*2=k*4 by omega,show(2*k+1)*2=k*4+2 by omega]
 rw[<-hW];refine⟨⟨_,by simp[e1],hb2,fun j hj ho=>?_⟩,fun B hB=>(hB1 B hB).trans (hB2 B hB),hr1.trans hr2,fun j hj=>(ho2 j hj).trans (ho1 j hj)⟩;by_cases hjk:j=k
 ·subst hjk;refine⟨⟨ng,a,m,c,[]⟩,⟨mg,d,e,f,[]⟩,?_,?_,?_,?_⟩
  ·rw[List.getElem?_set_ne (by omega),List.getElem?_set_self (by omega)]
  ·rw[List.getElem?_set_self (by simp;omega)]
  ·show OutN (if j=j then x else r j).num L _ _;rw[if_pos rfl];exact(h1.rl hr1).rl hr2
  ·show OutN ((if j=j then x else r j).den:Int) L _ _;rw[if_pos rfl];exact(h2.rl hr1).rl hr2
 ·rcases ho with ho|ho
  ·obtain⟨f',g',f1,g1,o1,o2⟩:=e3 j hj ho;refine⟨f',g',?_,?_,?_,?_⟩
   ·rw[List.getElem?_set_ne (by omega),List.getElem?_set_ne (by omega)];exact f1
   ·rw[List.getElem?_set_ne (by omega),List.getElem?_set_ne (by omega)];exact g1
   ·show OutN (if j=k then x else r j).num L _ _;rw[if_neg hjk];exact(o1.rl hr1).rl hr2
   ·show OutN ((if j=k then x else r j).den:Int) L _ _;rw[if_neg hjk];exact(o2.rl hr1).rl hr2
  ·exact absurd ho hjk
theorem PFr.mono{w:World}{bv n:Nat}{ok ok':Nat->Prop}{r r':Nat->Rat}{L:Nat}(h:PFr w bv n ok r L)(ho:∀k,k<n->ok' k->ok k/\r k=r' k):PFr w bv n ok' r' L:=by
 obtain⟨fs,h1,h2,h3⟩:=h;refine⟨fs,h1,h2,fun k hk hok=>?_⟩;obtain⟨a,b⟩:=ho k hk hok;rw[<-b];exact h3 k hk a
theorem PFr.start{w:World}{bv n:Nat}{r:Nat->Rat}{L:Nat}(h:w.heap[bv]? = some (.cells (flat (List.replicate (2*n) ⟨false,none,0,0,[]⟩)).toArray 84 (0,0))):PFr w bv n (fun _=>False) r L:=⟨_,by simp,h,fun k _ ho=>ho.elim⟩
end Lm
namespace Lm
open Go Go.RowKit Md
theorem auh(n:Nat):(madeCells #[.bool false,.slice none 0 0,.bool false,.slice none 0 0] (n*4)).toList=flat (List.replicate (2*n) ⟨false,none,0,0,[]⟩):=by
 rw[<-af1];apply List.ext_getElem?;intro i;rw[Array.getElem?_toList,Array.getElem?_toList];simp only[madeCells,show 2*n*2=n*4 by omega];by_cases hi:i<n*4
 ·have h4:i%4=0\/i%4=1\/i%4=2\/i%4=3:=by omega
  rcases h4 with h|h|h|h
  ·have h2:i%2=0:=by omega
   simp[hi,h,h2]
  ·have h2:i%2=1:=by omega
   simp[hi,h,h2]
  ·have h2:i%2=0:=by omega
   simp[hi,h,h2]
  ·have h2:i%2=1:=by omega
   simp[hi,h,h2]
 ·simp[hi]
theorem aui(w:World):
  Calls Tryz.prog 65 #[] w fun e w'=>∃ng a m c,e=.returned (.agg #[.bool false,.slice none 0 0,.bool ng,.slice a m c])/\OutN 1 5 (.agg #[.bool ng,.slice a m c]) w'/\Below w.heap.size w w':=by
 have hA:=hAl w (.cells #[.bool false,.slice none 0 0,.bool false,.slice none 0 0] 84);have hN:=heap_alloc_new w (.cells #[.bool false,.slice none 0 0,.bool false,.slice none 0 0] 84);have K:=hide (Dm.avr (w.alloc (.cells #[.bool false,.slice none 0 0,.bool false,.slice none 0 0] 84)) 1 (by omega) (by omega));have HA:=hide hA;have HN:=hide hN;clear hA hN;go_enter Tryz.func65,Tryz.ntmps65
 go_wp2_with fail
 refine K.out.mono ?_;rintro e w1 ⟨ng,a,c,rs,rfl,hW,hl,hb⟩;have hO:OutN 1 5 (.agg #[.bool ng,.slice a rs.length c]) w1:=⟨_,_,_,_,rfl,hW,hl⟩;have hn1:=(hb.block _ (aaa HN.out)).trans HN.out;have hP:PFr w1 w.heap.size 1 (fun _=>False) (fun _=>0) 5:=PFr.start (by simpa[flat,List.replicate]using hn1);obtain⟨⟨ng0,a0,m0,c0,mg0,d0,e0,f0,x0,x1,x2,x3⟩,z0,z1,z2,z3⟩:=hP.cells (k:=0) (by omega);simp only[Nat.zero_mul,Nat.zero_add]at x0 x1 x2 x3 z0 z1 z2 z3;obtain⟨hQ,hB,hR,_⟩:=hP.put (k:=0) (x:=0) (ng:=false) (a:=none) (m:=0) (c:=0) (mg:=ng) (d:=a) (e:=rs.length) (f:=c) (by omega) (ae4 _ _) (by simpa using hO);have s1:=heap_setCell_same w1 w.heap.size 0 _ _ (.bool false) hn1;have s2:=heap_setCell_same _ w.heap.size 1 _ _ (.slice none 0 0) s1;have s3:=heap_setCell_same _ w.heap.size 2 _ _ (.bool ng) s2;have s4:=heap_setCell_same _ w.heap.size 3 _ _ (.slice a rs.length c) s3;have hX:∀j,((((w1.setCell ⟨w.heap.size,0,none⟩ (.bool false)).setCell ⟨w.heap.size,1,none⟩ (.slice none 0 0)).setCell ⟨w.heap.size,2,none⟩ (.bool ng)).setCell ⟨w.heap.size,3,none⟩ (.slice a rs.length c)).cell? ⟨w.heap.size,j,none⟩=(#[.bool false,.slice none 0 0,.bool ng,.slice a rs.length c]:Array Value)[j]? :=fun j=>by
  rw[cell_of_row _ _ _ _ _ (0,0) s4];simp
 have HX:=hide (And.intro (hX 0) (And.intro (hX 1) (And.intro (hX 2) (hX 3))));have HF:Hid (OutN 1 5 (.agg #[.bool ng,.slice a rs.length c]) (qput w1 w.heap.size 0 false none 0 0 ng a rs.length c)/\Below w.heap.size w (qput w1 w.heap.size 0 false none 0 0 ng a rs.length c)):=⟨hO.rl hR,(HA.out.trans (hb.mono HA.out.size)).trans (hB _ (Nat.le_refl _))⟩;simp only[qput,Nat.zero_mul,Nat.zero_add]at HF;clear hQ hB hR hP hO hW hb hn1 K s1 s2 s3 s4 hX;go_wp2;generalize ((((w1.setCell ⟨w.heap.size,0,none⟩ (.bool false)).setCell ⟨w.heap.size,1,none⟩ (.slice none 0 0)).setCell ⟨w.heap.size,2,none⟩ (.bool ng)).setCell ⟨w.heap.size,3,none⟩ (.slice a rs.length c))=W at *
 refine bodyPost_ret (v:=.agg #[.bool false,.slice none 0 0,.bool ng,.slice a rs.length c]) (by simp[results,Tryz.results65,go_sem,HX.out.1,HX.out.2.1,HX.out.2.2.1,HX.out.2.2.2]) rfl ⟨_,_,_,_,rfl,HF.out.1,HF.out.2⟩
section
variable {dst:Option Tmp} {ty:TypeId} {pos:String} {after:Array Edge} {guard:Option (Nat×Bool)} {a:Act} {w:World} {i j:Nat}
theorem amp{b n c q:Nat}(h:a.eval (.tmp i)=.slice (some ⟨b,0,none⟩) n c)(hk:a.eval (.tmp j)=.int .i64 (q:Int))(hl:q<n):Does Tryz.prog {dst,op:=.indexAddr 61 (.tmp i) (.tmp j),type:=ty,pos,after,guard} a.eval w fun v' w'=>Below w.heap.size w w'/\Eqs (.pointer (some ⟨b,q,none⟩)) v' w':=by
 have hl':(q:Int)<(n:Int):=by omega
 refine⟨?_⟩;unfold Turns;simp only[execOp,h,hk];go_simp;exact⟨Below.refl _ _,rfl⟩
theorem aon{b q:Nat}{x:Int}(hp:a.eval (.tmp i)=.pointer (some ⟨b,q,none⟩))(h0:w.cell? ⟨b,q,none⟩=some (.int .i64 x)):Does Tryz.prog {dst,op:=.load 3 (.tmp i),type:=ty,pos,after,guard} a.eval w fun v' w'=>Below w.heap.size w w'/\Eqs (.int .i64 x) v' w':=by
 refine aav (v:=.int .i64 x) ?_ ⟨Below.refl _ _,rfl⟩;rw[hp];go_simp
end
theorem OutQ.parts{p q:Int}{L:Nat}{v:Value}{w:World}(h:OutQ p q L v w):∃ng a m c mg d e f,v=.agg #[.bool ng,.slice a m c,.bool mg,.slice d e f]/\OutN p L (.agg #[.bool ng,.slice a m c]) w/\OutN q L (.agg #[.bool mg,.slice d e f]) w:=by
 obtain⟨ng,ao,cap,rs,mg,bo,dap,ss,rfl,h1,h2,l1,l2⟩:=h;exact⟨_,_,_,_,_,_,_,_,rfl,⟨_,_,_,_,rfl,h1,l1⟩,⟨_,_,_,_,rfl,h2,l2⟩⟩
end Lm
namespace Lm
open Go Go.RowKit Md
def OwnN(B:Nat)(zs:List Int)(L:Nat):Says:=fun v w=>∃fs,RnO B w v fs zs L
theorem OwnN.mono(B:Nat)(zs:List Int)(L:Nat):Mono (OwnN B zs L):=fun _ _ _ hb ⟨fs,h⟩=>⟨fs,h.below hb⟩
def OneM(zs:List Int)(L:Nat):Says:=fun v w=>∃g a c,v=.slice (some ⟨g,0,none⟩) 1 1/\w.heap[g]? = some (.cells #[.slice a zs.length c] 78 (0,0))/\NRow w (.slice a zs.length c) zs L
theorem OneM.mono(zs:List Int)(L:Nat):Mono (OneM zs L):=fun _ _ _ hb ⟨g,a,c,e,h,o⟩=>⟨g,a,c,e,(hb.block g (aaa h)).trans h,o.below hb⟩
section
variable {dst:Option Tmp} {ty:TypeId} {pos:String} {after:Array Edge} {guard:Option (Nat×Bool)} {a:Act} {w:World} {i j:Nat}
theorem awn{B m c0:Nat}{a0:Option Addr}{zs:List Int}{L:Nat}(h:a.eval (.tmp i)=.slice a0 m c0)(hR:NRow w (.slice a0 m c0) zs L)(hm:m<=1000000)(hB:B<=w.heap.size):
  Does Tryz.prog {dst,op:=.call {callee:=.builtin .append,args:=#[.const (.slice none 0 0),.tmp i],argTypes:=#[78,78]},type:=ty,pos,after,guard} a.eval w fun v w'=>Below w.heap.size w w'/\OwnN B zs L v w':=by
 obtain⟨iW,hi,hz0,hz1,hz2⟩:=info_parts infoN;obtain⟨fs,hC,hl,ho⟩:=hR;obtain⟨ao',cap',hv,h1,h2,h3,h4⟩:=hC;obtain⟨rfl,hme,rfl⟩:=(Value.slice.injEq .. ▸ hv);have h0:a.eval (.const (.slice none 0 0))=.slice none 0 0:=rfl;have key:∃v' w',(Builtin.append_ #[78,78] ty #[.slice none 0 0,.slice a0 m c0]).run Tryz.prog w=.ok v' w'/\w'.ownsRow w.heap.size 82 2 v' m (flat fs)/\NoI w' v'/\Below w.heap.size w w':=by
  by_cases hm0:m=0
  ·subst hm0;obtain rfl:fs = []:=List.length_eq_zero_iff.1 hme.symm;cases a0 with
   |none=>exact⟨.slice none 0 0,w,by simp[Builtin.append_,run_underlying Tryz.underlying78,sizeOf,typeInfo,hi,Builtin.lenOf,Builtin.firstCells],World.ownsRow_nil _ _ _ _,fun g cs T hg=>by simp[Value.ownBlock]at hg,Below.refl _ _⟩
   |some ad=>
    obtain⟨v',w',hr,ho,hgr,hnil⟩:=run_append_own (P:=Tryz.prog) w w.heap.size 78 ty 82 iW _ 2 32 Tryz.underlying78 hi hz0 hz1 hz2 rfl (by decide) (.slice none 0 0) 0 [] (World.ownsRow_nil _ _ _ _) ad 0 c0 (flat []) (by rw[aay];rfl) (fun j u hu=>by simp[flat]at hu) (ae5 []) (by simp[maxLen]) (by omega) (Nat.le_refl _);obtain rfl:=hnil.2 ⟨rfl,rfl⟩;exact⟨_,w',hr,by simpa using ho,fun g cs T hg=>by simp[Value.ownBlock]at hg,(Below.refl _ _).grown hgr (Nat.le_refl _) (fun k hk=>by cases hk)⟩
  ·rcases h4 with h4|⟨b,off,rfl,_,hc⟩
   ·omega
   ·have hnews:∀j u,(flat fs)[j]? = some u->w.cell? ((⟨b,off,none⟩:Addr).add j)=some u:=fun j u hu=>by
     rw[Addr.add_lit];exact hc j u hu
    obtain⟨v',w',hr,ho,hgr,_⟩:=run_append_own (P:=Tryz.prog) w w.heap.size 78 ty 82 iW _ 2 32 Tryz.underlying78 hi hz0 hz1 hz2 rfl (by decide) (.slice none 0 0) 0 [] (World.ownsRow_nil _ _ _ _) ⟨b,off,none⟩ m c0 (flat fs) (by rw[aay];omega) hnews (ae5 fs) (by simp[maxLen];omega) (by omega) (Nat.le_refl _);refine⟨v',w',hr,by simpa using ho,?_,(Below.refl _ _).grown hgr (Nat.le_refl _) (fun k hk=>by cases hk)⟩;have hr':=run_append_nil (P:=Tryz.prog) w 78 ty 82 iW _ Tryz.underlying78 hi hz0 ⟨b,off,none⟩ m c0 (flat fs) (by rw[aay,hz1];omega) hnews (by omega) (by omega) (by rw[hz2];omega);rw[hr]at hr';injection hr' with e1 e2;subst e1 e2;intro g cs T hg hh x hx;simp only[Value.ownBlock,Option.some.injEq]at hg;subst hg;rw[show(w.drew.alloc (Obj.cells ((flat fs).toArray++Builtin.zeroCells _ (grownCap w m 0 82-m)) 82)).heap[w.heap.size]? = _ from heap_alloc_new w.drew _]at hh;have e3:=ads hh;rw[<-e3]at hx;simp only[Array.toList_append,List.mem_append]at hx;rcases hx with hx|hx
    ·obtain⟨j,hj⟩:=List.mem_iff_getElem?.1 hx;have hI:isI x≠true:=fun hc=>by
      cases x with
      |int k y=>exact ahx fs j k y (by simpa using hj)
      |_=>simp[isI]at hc
     simpa using hI
    ·exact ahw (by intro y hy;simp[Value.cells]at hy;rcases hy with rfl|rfl <;> rfl) _ x hx
 obtain⟨v',w',hr,how,hnoi,hb⟩:=key;have e:(execOp a.eval {dst,op:=.call {callee:=.builtin .append,args:=#[.const (.slice none 0 0),.tmp i],argTypes:=#[78,78]},type:=ty,pos,after,guard}).run Tryz.prog w=.ok (.value v') w':=by
  simp only[execOp,resolve,invoke,builtin,Sem.run_bind,Sem.run_pure,Result.andThen_ok,List.map_toArray,List.map_cons,List.map_nil,h,h0,hr]
 refine⟨?_⟩;unfold Turns;rw[e];refine⟨hb,fs,?_,hnoi,hl,fun k f z hf hz=>(ho k f z hf hz).rl (Rl.of_below hb)⟩;rw[<-hme];obtain⟨q1,q2|⟨g,cap,cur,q3,q4,q5⟩⟩:=how
 ·exact⟨q1,.inl q2⟩
 ·exact⟨q1,.inr ⟨g,cap,cur,q3,Nat.le_trans hB q4,q5⟩⟩
theorem awo{B:Nat}{zs:List Int}{L:Nat}{z:Int}(h1:OwnN B zs L (a.eval (.tmp i)) w)(h2:OneN z L (a.eval (.tmp j)) w)(hl:zs.length<=100000)(hB:B<=w.heap.size):
  Does Tryz.prog {dst,op:=.call {callee:=.builtin .append,args:=#[.tmp i,.tmp j],argTypes:=#[78,78]},type:=ty,pos,after,guard} a.eval w fun v' w'=>Below B w w'/\OwnN B (zs ++ [z]) L v' w':=by
 obtain⟨fs,R⟩:=h1;obtain⟨g,ng,ao,n,c,e,O,S⟩:=h2;exact(ajo rfl e R O S (by rw[R.len];omega) hB).mono fun v w' ⟨h1,h2⟩=>⟨h2,_,h1⟩
theorem azl{B:Nat}{zs:List Int}{L:Nat}(h:OwnN B zs L (a.eval (.tmp i)) w):
  Does Tryz.prog {dst,op:=.buildSlice 76 1 #[(0,.tmp i)],type:=ty,pos,after,guard} a.eval w fun v w'=>Below w.heap.size w w'/\OneM zs L v w':=by
 obtain⟨fs,R⟩:=h;have hR:=R.nrow;obtain⟨ao,c,e,_⟩:=hR.parts;rw[e]at hR;have hb:=hAl w (.cells #[.slice ao zs.length c] 78);refine acw (v:=.slice (some ⟨w.heap.size,0,none⟩) 1 1) (w':=w.alloc (.cells #[.slice ao zs.length c] 78)) ?_ ⟨hb,_,_,_,rfl,heap_alloc_new _ _,hR.below hb⟩;simp only[List.map_toArray,List.map_cons,List.map_nil,e];go_simp
end
end Lm
namespace Lm
open Go Go.RowKit Md
theorem aqq{z u:Int}(hu:u≠0):(Rat.divInt z u).num.natAbs<=z.natAbs/\(Rat.divInt z u).den<=u.natAbs:=by
 constructor
 ·rw[Rat.num_divInt];have h1:(u.sign*z).natAbs=z.natAbs:=by
   rw[Int.natAbs_mul];rcases Int.lt_or_gt_of_ne hu with h|h
   ·rw[Int.sign_eq_neg_one_of_neg h];simp
   ·rw[Int.sign_eq_one_of_pos h];simp
  have h2:((u.gcd z:Nat):Int) ∣ u.sign*z:=Int.dvd_mul_of_dvd_right (Int.gcd_dvd_right ..);obtain⟨k,hk⟩:=h2;have hg:(u.gcd z:Nat)≠0:=fun h=>hu (Int.gcd_eq_zero_iff.1 h).1
  rw[hk,Int.mul_ediv_cancel_left k (by omega)];rw[<-h1,hk,Int.natAbs_mul,Int.natAbs_natCast];exact Nat.le_mul_of_pos_left _ (by omega)
 ·rw[Rat.den_divInt,if_neg hu];exact Nat.div_le_self _ _
theorem aqr{z u:Int}{L:Nat}(hu:u≠0)(hz:(z.natAbs:Int)<pw L)(hul:(u.natAbs:Int)<pw L):Fit (Rat.divInt z u) L:=by
 obtain⟨h1,h2⟩:=aqq (z:=z) hu;exact⟨by omega,by omega⟩
def bigQ(r:Rat):Bool:=decide (¬(r.num.natAbs:Int)<pw 32)||decide (¬(r.den:Int)<pw 32)
theorem amq(r:Rat):bigQ r=false↔Fit r 32:=by
 unfold bigQ Fit;simp
theorem awp(w:World)(x:Value)(r:Rat)(L:Nat)(hx:OutQr r L x w)(hL:2*(L+2)<=100000):
  Calls Tryz.prog 32 #[x] w fun e w'=>∃m:Nat,e=.returned (.int .i64 (m:Int))/\(m<=32↔Fit r 32)/\Below w.heap.size w w':=by
 have hgot:=hx;obtain⟨p1,q1,c1,rs,b1,d1,ss,e1,hW,hG,l1,l2⟩:=hgot;obtain⟨ng,ao,n,cap,xs,bo,m,dap,ys,p,q,hv,h2,h3,h4,h5,h6,h7⟩:=hx.is.open;subst hv;have hn1:nm (tp p q) (tq q)=r.num:=by rw[al4 _ (apa q),an7,h7]
 have hn2:dn (tp p q) (tq q)=(r.den:Int):=by rw[al5 _ (apa q),an7,h7]
 have i1:IsLen ((nm (tp p q) (tq q)).natAbs:Int) rs.length:=by rw[hn1];exact⟨rs,hW.1.2.1,hW.1.2.2,rfl⟩
 have i2:IsLen (dn (tp p q) (tq q)) ss.length:=by rw[hn2];exact⟨ss,hG.2.1,hG.2.2,rfl⟩
 refine(av4 w L ng ao n cap xs p h2 h5 bo m dap ys q h3 h4 h6 hL rs.length ss.length i1 i2).mono ?_;rintro e w' ⟨v,rfl,ho,hb⟩;refine⟨max rs.length ss.length,by rw[show v=.int .i64 _ from ho],?_,hb⟩;constructor
 ·intro hm;have b1:=(aac hW.1.2.1.1).2;have b2:=(aac hG.2.1.1).2;have m1:=aaw (show rs.length<=32 by omega);have m2:=aaw (show ss.length<=32 by omega);rw[hW.1.2.2]at b1;rw[hG.2.2]at b2;exact⟨by omega,by omega⟩
 ·intro hf;have:=aau hW.1.2.1 (m:=32) (by rw[hW.1.2.2];exact hf.1);have:=aau hG.2.1 (m:=32) (by rw[hG.2.2];exact hf.2);omega
end Lm
namespace Lm
open Go Go.RowKit Md
theorem amr:∀(es:List WE) (u:Value),u∈flat es->u.oneCell'=true
 | [],_,hu=>by cases hu
 |e::es,u,hu=>by
  simp only[flat,List.mem_cons]at hu;rcases hu with rfl|rfl|hu
  ·rfl
  ·rfl
  ·exact amr es u hu
theorem awq(w:World)(n:Nat)(h0:0<n)(hn:n<=1000000):
  Calls Tryz.prog 99 #[.slice none 0 0,.int .i64 (n:Int)] w fun e w'=>∃r,e=.returned r/\w'.ownsRow w.heap.size 42 2 r 0 []/\Below w.heap.size w w':=by
 obtain⟨iW,hi,hz0,hz1,hz2⟩:=info_parts infoWz;have h1:¬((n:Int)<0):=by omega
 have h4:(n:Int) > 0:=by omega
 have hold:(Builtin.firstCells iW.size 0 (.slice none 0 0)).run Tryz.prog w.drew=.ok #[] w.drew:=by
  simp[Builtin.firstCells]
 obtain⟨G,hG⟩:∃G,G=grownCap w n 0 42:=⟨_,rfl⟩;have hrz:∀ty,(Builtin.append_ #[23,3] ty #[.slice none 0 0,.int .i64 (n:Int)]).run Tryz.prog w=.ok (.slice (some ⟨w.heap.size,0,none⟩) n G) (w.drew.alloc (.cells (#[]++Builtin.zeroCells (Value.agg #[.bool false,.slice none 0 0]).cells n++Builtin.zeroCells (Value.agg #[.bool false,.slice none 0 0]).cells (G-n)) 42)):=fun ty=>by
  have h:=Lib.run_append_grow_zeros w 23 3 ty 42 iW (.agg #[.bool false,.slice none 0 0]) .i64 .i64 Tryz.underlying23 Tryz.underlying3 hi hz0 none 0 0 [] hold n (by omega) (by rw[hz1];decide) (by omega) (by omega) (by rw[hz2];omega) (by rw[Nat.zero_add];exact growslice_fits h0 (by rw[hz2];omega));rw[Nat.zero_add]at h;rw[hG];exact h
 have hGn:n<=G:=by rw[hG];exact grownCap_ge w _ _ _
 have hG63:G<=9223372036854775807:=by
  have:=grownCap_le_maxLen w n 0 42 (by unfold maxLen;omega);rw[<-hG]at this;unfold maxLen at this;omega
 have hown:(w.drew.alloc (.cells (#[]++Builtin.zeroCells (Value.agg #[.bool false,.slice none 0 0]).cells n++Builtin.zeroCells (Value.agg #[.bool false,.slice none 0 0]).cells (G-n)) 42)).ownsRow w.heap.size 42 2 (.slice (some ⟨w.heap.size,0,none⟩) 0 G) 0 []:=by
  refine World.ownsRow_made (base:=w.heap.size) (e:=42) (size:=2) w.drew _ G (Nat.le_refl _) (by unfold maxLen;omega) ?_;simp only[Array.size_append,size_zeroCells];show 0+n*2+(G-n)*2=G*2;omega
 have hb:Below w.heap.size w (w.drew.alloc (.cells (#[]++Builtin.zeroCells (Value.agg #[.bool false,.slice none 0 0]).cells n++Builtin.zeroCells (Value.agg #[.bool false,.slice none 0 0]).cells (G-n)) 42)):=(Below.drew (Below.refl _ _)).trans (show Below w.heap.size w.drew _ from hAl w.drew _);generalize w.drew.alloc (.cells (#[]++Builtin.zeroCells (Value.agg #[.bool false,.slice none 0 0]).cells n++Builtin.zeroCells (Value.agg #[.bool false,.slice none 0 0]).cells (G-n)) 42)=W at *
 have HW:=hide (And.intro hown hb);clear hold hG hown hb hi hz0 hz1 hz2;go_enter Tryz.func99,Tryz.ntmps99
 go_wp2_with (at_builtin;refine Lib.wpList_append_run _ rfl _ _ _ _ rfl _ _ rfl rfl _ _ (hrz _) ?_)
 refine bodyPost_ret (v:=_) (by simp[results,Tryz.results99,go_sem];try rfl) rfl ⟨_,rfl,HW.out.1,HW.out.2⟩
theorem ae8{ops:Array Oper}{rest:List Oper}{o:Oper}{a:Act}{Q:Exit->Act->World->Prop}{w:World}(hgd:o.guard=none)(s x:Operand)(ho:o.op=.call {callee:=.builtin .append,args:=#[s,x],argTypes:=#[23,23]}){K:Nat}{v:Value}{n:Nat}{xs:List Value}(hs:a.eval s=v)(hown:w.ownsRow K 42 2 v n xs){a0:Option Addr}{m c0:Nat}{es:List WE}(hx:a.eval x=.slice a0 m c0)(hC:Rw w (.slice a0 m c0) es)(hm:n+m<=1000000)(hK:K<=w.heap.size)
  (h:∀v' w',w'.ownsRow K 42 2 v' (n+m) (xs++flat es)->w.grownBy w' v.ownBlock->wpList Tryz.prog ops Q rest (a.put o.dst v') w'):wpList Tryz.prog ops Q (o::rest) a w:=by
 obtain⟨iW,hi,hz0,hz1,hz2⟩:=info_parts infoWz;have hpar:=hC.parts;obtain⟨ao',cap',hv,h1,h2,h3,h4⟩:=hC.cl;obtain⟨rfl,hme,rfl⟩:=(Value.slice.injEq .. ▸ hv);cases a0 with
 |none=>
  have hm0:es.length=0:=by
   rcases h4 with h4|⟨b,off,e,_⟩
   ·exact h4
   ·cases e
  obtain rfl:es = []:=List.length_eq_zero_iff.1 hm0;obtain rfl:m=0:=hme;refine wpList_plain hgd fun K hK=>?_
  have hrun:(Builtin.append_ #[23,23] o.type #[v,.slice none 0 c0]).run Tryz.prog w=.ok v w:=by
   rcases hown.2 with⟨rfl,rfl⟩|⟨g,cap,cur,rfl,_,_,hnc,_⟩
   ·simp[Builtin.append_,run_underlying Tryz.underlying23,sizeOf,typeInfo,hi,Builtin.lenOf,Builtin.firstCells]
   ·simp[Builtin.append_,run_underlying Tryz.underlying23,sizeOf,typeInfo,hi,Builtin.lenOf,Builtin.firstCells,hnc,storeCells]
  unfold Oper.wp;simp[execOp,ho,resolve,invoke,builtin,hs,hx,hrun,Result.andThen];exact hK _ _ (h _ _ (by simpa[flat]using hown) ⟨rfl,rfl,rfl,Nat.le_refl _,fun _ _ _=>rfl⟩)
 |some ad=>
  refine wpList_append_own w hgd s x 23 ho K 42 iW (.agg #[.bool false,.slice none 0 0]) 2 32 Tryz.underlying23 hi hz0 hz1 hz2 rfl (by decide) _ _ _ hs hown ad m c0 (flat es) hx (by rw[aay];omega) (fun j u hu=>?_) (fun u hu=>?_) (by unfold maxLen;omega) (by omega) hK (fun v' w' ho hg _=>h v' w' ho hg)
  ·rcases h4 with h4|⟨b,off,e,_,hc⟩
   ·rw[List.getElem?_eq_none (by rw[aay];omega)]at hu;cases hu
   ·obtain rfl:=Option.some.inj e;rw[Addr.add_lit];exact hc j u hu
  ·exact amr es u hu
def two(x y:List WE):Nat->List WE
 |0=>[]
 |1=>x
 |_=>x++y
theorem aqs(w:World)(lb:Nat)(a0 a1:Option Addr)(m0 m1 c0 c1:Nat)(x y:List WE)(g0:w.cell? ⟨lb,0,none⟩=some (.slice a0 m0 c0))(g1:w.cell? ⟨lb,1,none⟩=some (.slice a1 m1 c1))(hlb:lb<w.heap.size)(hx:Rw w (.slice a0 m0 c0) x)(hy:Rw w (.slice a1 m1 c1) y)(hpos:0<m0+m1)(hl:m0+m1<=1000000):
  Calls Tryz.prog 58 #[.slice (some ⟨lb,0,none⟩) 2 2] w fun e w'=>∃r,e=.returned r/\w'.ownsRow w.heap.size 42 2 r (m0+m1) (flat (x++y))/\Below w.heap.size w w':=by
 have HM:=hide (And.intro hx.parts.1 hy.parts.1);have HX:=hide (And.intro hx hy);have HG:=hide (And.intro g0 g1);have KG:=hide (awq w (m0+m1) hpos hl);clear hx hy;go_enter Tryz.func58,Tryz.ntmps58
 go_wp2;go_loopw [3,5,11] (fun sv _ kv wr=>∃k s:Nat,kv=.int .i64 (k:Int)/\sv=.int .i64 (s:Int)/\wr=w/\(k=0/\s=0\/k=1/\s=m0\/k=2/\s=m0+m1)) (fun _ _ kv _=>2-(intOf kv).toNat)
 case atStart=>exact⟨0,0,rfl,rfl,rfl,.inl ⟨rfl,rfl⟩⟩
 case round=>
  obtain⟨k,s,rfl,rfl,hwr,hks⟩:=hrel;subst hwr;rcases hks with⟨rfl,rfl⟩|⟨rfl,rfl⟩|⟨rfl,rfl⟩
  ·go_wp2;go_roundw
   case rel=>exact⟨1,m0,rfl,by simp,by simp,by simp⟩
   case measure=>simp[intOf]
  ·have hs0:¬((s:Int)+(m1:Int)<0):=by omega
   go_wp2;go_roundw
   case rel=>exact⟨2,s+m1,rfl,by simp,by simp,by simp⟩
   case measure=>simp[intOf]
  ·go_wp2_with fail
   refine KG.out.mono ?_;rintro e w2 ⟨r,rfl,ho,hb⟩;have HB:=hide hb;have HO:=hide ho;have HSz:=hide hb.size;clear KG ho hb g0 g1;obtain⟨w0,hw0⟩:∃w0,w0=wr:=⟨_,rfl⟩;subst hw0;go_wp2;go_loopw [6,8,27] (fun sv _ kv wr=>∃(k n:Nat) (es:List WE),kv=.int .i64 (k:Int)/\Below w0.heap.size w0 wr/\wr.ownsRow w0.heap.size 42 2 sv n (flat es)/\(k=0/\n=0/\es = []\/k=1/\n=m0/\es=x\/k=2/\n=m0+m1/\es=x++y)) (fun _ _ kv _=>2-(intOf kv).toNat)
   case atStart=>exact⟨0,0,[],rfl,HB.out,HO.out,.inl ⟨rfl,rfl,rfl⟩⟩
   case round=>
    obtain⟨k,n,es,rfl,hbr,hown,hks⟩:=hrel;obtain⟨sa,sc,hsv,_⟩:=Cl.own hown;subst hsv;have HBR:=hide hbr;have hlow:=hbr.size;have g0:=(hbr.cell (p:=⟨lb,0,none⟩) hlb).trans HG.out.1;have g1:=(hbr.cell (p:=⟨lb,1,none⟩) hlb).trans HG.out.2;rcases hks with⟨rfl,rfl,rfl⟩|⟨rfl,rfl,rfl⟩|⟨rfl,rfl,rfl⟩
    ·have hR:=HX.out.1.below hbr;clear hbr;go_wp2_with (at_builtin;refine ae8 rfl (.tmp 31) (.tmp 32) rfl rfl hown rfl hR (by omega) hlow ?_)
     intro v5 w5 hown5 hgrow5;obtain⟨va,vc,hv5,_⟩:=Cl.own hown5;have HB5:=hide (HBR.out.trans ((Below.refl _ _).grown hgrow5 hlow (fun j hj=>(hown.lt j hj).1)));have HO5:=hide hown5;subst hv5;clear hown hown5 hgrow5 g0 g1 hR;go_wp2;go_roundw
     case rel=>exact⟨1,_,x,rfl,HB5.out,(by simpa[flat]using HO5.out),.inr (.inl ⟨rfl,by simp,rfl⟩)⟩
     case measure=>simp[intOf]
    ·have hR:=HX.out.2.below hbr;clear hbr;go_wp2_with (at_builtin;refine ae8 rfl (.tmp 31) (.tmp 32) rfl rfl hown rfl hR (by omega) hlow ?_)
     intro v5 w5 hown5 hgrow5;obtain⟨va,vc,hv5,_⟩:=Cl.own hown5;have HB5:=hide (HBR.out.trans ((Below.refl _ _).grown hgrow5 hlow (fun j hj=>(hown.lt j hj).1)));rw[<-adw]at hown5;have HO5:=hide hown5;subst hv5;clear hown hown5 hgrow5 g0 g1 hR;go_wp2;go_roundw
     case rel=>exact⟨2,_,es++y,rfl,HB5.out,HO5.out,.inr (.inr ⟨rfl,rfl,rfl⟩)⟩
     case measure=>simp[intOf]
    ·have HO:=hide hown;clear hown hbr g0 g1;go_wp2;refine bodyPost_ret (v:=_) (by simp[results,Tryz.results58,go_sem];try rfl) rfl ⟨_,rfl,HO.out,HBR.out⟩
theorem a0v{w:World}{b off n c i:Nat}{es:List WE}{e:WE}(h:Rw w (.slice (some ⟨b,off,none⟩) n c) es)(he:es[i]? = some e):Rw w (.slice (some ⟨b,off+i*2,none⟩) 1 (c-i)) [e]:=by
 have hi:=(List.getElem?_eq_some_iff.1 he).1;obtain⟨hn,hc1,hc2⟩:=h.parts;obtain⟨b',off',hb,hbl,hc⟩:=h.cells (by omega);simp only[Option.some.injEq,Addr.mk.injEq,and_true]at hb;obtain⟨rfl,rfl⟩:=hb;obtain⟨f1,f2⟩:=aa2 he;refine⟨⟨_,_,rfl,by simp;omega,by omega,by simp[flat],.inr ⟨b,off+i*2,rfl,hbl,fun j u hu=>?_⟩⟩,fun x hx=>by rw[List.mem_singleton.1 hx];exact h.sl e (List.mem_of_getElem? he)⟩
 match j with
 |0=>
  simp[flat]at hu;subst hu;exact hc _ _ f1
 |1=>
  simp[flat]at hu;subst hu;exact hc _ _ f2
 |j+2=>simp[flat]at hu
theorem anm(W:World)(i g:Nat)(xv:Value)(x rs:List WE)(e:WE)(ra:Option Addr)(rl rc L:Nat)(hg:W.heap[g]? = some (.cells #[.slice ra rl rc] 23 (0,0)))(hx:Rw W xv x)(hr:Rw W (.slice ra rl rc) rs)(he:rs[i]? = some e)(hl:x.length<=1000)(hL:∀u∈x ++ [e],u.zs.length<=L):
  Calls Tryz.prog 57 #[.int .i64 (i:Int),xv,.pointer (some ⟨g,0,none⟩)] W fun e' w'=>∃r,e' = .returned r/\XRow W.heap.size w' r ((x ++ [e]).map WE.z) L/\Below W.heap.size W w':=by
 have hi:=(List.getElem?_eq_some_iff.1 he).1;obtain⟨b,off,rfl,hbl,_⟩:=hr.cells (by omega);obtain⟨hrl,hrc,hrc2⟩:=hr.parts;subst hrl;have h1:=a0v hr he;obtain⟨xa,xc,rfl⟩:=hx.slc;have c0:=cell_of_row _ _ 0 _ _ (0,0) hg;simp at c0;have hil:(i:Int)+1<=(rs.length:Int):=by omega
 have hil2:(i:Int)<(rs.length:Int):=by omega
 have hal:=hAl W (.cells #[.slice xa x.length xc,.slice (some ⟨b,off+i*2,none⟩) 1 (rc-i)] 23);have hnew:=heap_alloc_new W (.cells #[.slice xa x.length xc,.slice (some ⟨b,off+i*2,none⟩) 1 (rc-i)] 23);have KC:=aqs (W.alloc (.cells #[.slice xa x.length xc,.slice (some ⟨b,off+i*2,none⟩) 1 (rc-i)] 23)) W.heap.size xa (some ⟨b,off+i*2,none⟩) x.length 1 xc (rc-i) x [e] (by rw[cell_of_row _ _ _ _ _ (0,0) hnew];rfl) (by rw[cell_of_row _ _ _ _ _ (0,0) hnew];rfl) (aaa hnew) (hx.below hal) (h1.below hal) (by omega) (by omega);have KC:=hide KC;have HH:=hide (And.intro hx (And.intro h1 (And.intro hal hL)));have hle:rs.length<=9223372036854775807:=by omega
 obtain⟨xl,hxl⟩:∃xl,x.length=xl:=⟨_,rfl⟩;rw[hxl]at KC HH ⊢;have HXL:=hide hxl;clear hx hr h1 hal hnew hL hg he hxl;go_enter Tryz.func57,Tryz.ntmps57
 go_wp2_with fail
 refine KC.out.mono ?_;rintro e' w2 ⟨r,rfl,ho,hb⟩;have hbW:=HH.out.2.2.1.trans (hb.mono HH.out.2.2.1.size);have hX:XRow W.heap.size w2 r ((x ++ [e]).map WE.z) L:=by
  refine⟨x ++ [e],rfl,fun u hu=>⟨?_,HH.out.2.2.2 u hu⟩,.inr ?_⟩
  ·rcases List.mem_append.1 hu with h|h
   ·exact(HH.out.1.sl u h).below hbW
   ·exact(HH.out.2.1.sl u h).below hbW
  ·obtain⟨h1,⟨_,h2⟩|⟨g',cap,cur,rfl,hg',hh,h3,h4,h5,h6⟩⟩:=ho
   ·omega
   ·have hle2:(x ++ [e]).length=xl+1:=by rw[List.length_append,HXL.out];rfl
    exact⟨g',cap,by rw[hle2],Nat.le_trans HH.out.2.2.1.size hg',cur,hh,h5,by rw[hle2];exact h3,by unfold maxLen at h4;omega,by rw[hle2];exact h6⟩
 obtain⟨va,vn,vc,rfl⟩:=hX.slc;have HX2:=hide (And.intro hX hbW);clear KC ho hb hbW hX c0;go_wp2;refine bodyPost_ret (v:=_) (by simp[results,Tryz.results57,go_sem];try rfl) rfl ⟨_,rfl,HX2.out.1,HX2.out.2⟩
theorem awr:Has Tryz.prog 57:=by unfold Has;kernel_rfl
def besR(rows:List (List Int))(ys:List Int):List (List Int):=mapI (fun i z=>z ++ [ys.getD i 0]) rows
theorem aqt(w:World)(v vr:Value)(rows:List (List Int))(ys:List Int)(L:Nat)(h:IsM w v rows L)(hy:IsRow w vr ys L)(hl:ys.length=rows.length)(hr:∀r∈rows,r.length<=1000)(hm:rows.length<=1000000):
  Calls Tryz.prog 27 #[v,vr] w fun e w'=>∃r,e=.returned r/\IsM w' r (besR rows ys) L/\Below w.heap.size w w':=by
 obtain⟨ra,rc,rfl,_⟩:=hy.parts;obtain⟨rs,hR,hrz,hrL⟩:=id hy;have hal:=hAl w (.cells #[.slice ra ys.length rc] 23);have hnew:=heap_alloc_new w (.cells #[.slice ra ys.length rc] 23);have hT:TurnM (w.alloc (.cells #[.slice ra ys.length rc] 23)) 57 #[.pointer (some ⟨w.heap.size,0,none⟩)] rows L L (fun i z=>z ++ [ys.getD i 0]):=by
  refine(show ∀(W:World) (c':Nat) (z:List Int) (xv:Value),_->_->_->_ from ?_);intro W c z xv hb hz hx;obtain⟨x,hxR,hxz,hxL⟩:=hx;have hc:=(List.getElem?_eq_some_iff.1 hz).1;have hrsl:rs.length=ys.length:=by rw[<-hrz];simp
  obtain⟨e,he⟩:∃e,rs[c]? = some e:=⟨_,List.getElem?_eq_getElem (by omega)⟩;have hez:ys.getD c 0=e.z:=by rw[<-hrz,List.getD_eq_getElem?_getD,List.getElem?_map,he];rfl
  have hbw:=hal.trans (hb.mono hal.size);have:=anm W c w.heap.size xv x rs e ra ys.length rc L ((hb.block _ (aaa hnew)).trans hnew) hxR (hR.below hbw) he (by have:=hr z (List.mem_of_getElem? hz);rw[<-hxz]at this;simpa using this) (fun u hu=>by
   rcases List.mem_append.1 hu with h|h
   ·exact hxL u h
   ·obtain rfl:=List.mem_singleton.1 h
    exact hrL _ (List.mem_of_getElem? he))
  rw[List.map_append,hxz,List.map_cons,List.map_nil,<-hez]at this;exact this
 have KT:=hide (anl _ v rows L L (h.below hal) hm _ awr _ _ hT);obtain⟨ao,cp,rfl,_⟩:=h.parts;have HAL:=hide hal;have hmf:∀(fn:Fn) (first cap:Array Value) (w:World),(Instr.makeFunc fn first cap).run Tryz.prog w=.ok (.func fn first cap) w:=fun _ _ _ _=>rfl
 clear h hy hR hrz hrL hal hnew hT hr;obtain⟨n,hnn⟩:∃n,rows.length=n:=⟨_,rfl⟩;rw[hnn]at KT hl hm ⊢;have HN:=hide hnn;rw[hl]at KT HAL ⊢;clear hnn hl;go_enter Tryz.func27,Tryz.ntmps27
 go_wp2_with fail
 refine KT.out.mono ?_;rintro e w1 ⟨rfl,⟨vs,hT⟩,hb⟩;have HX:=hide (And.intro (hT.isM (by rw[aml,HN.out])) (HAL.out.trans (hb.mono HAL.out.size)));clear hT hb KT;go_wp2;refine bodyPost_ret (v:=_) (by simp[results,Tryz.results27,go_sem];try rfl) rfl ⟨_,rfl,HX.out.1,HX.out.2⟩
end Lm
namespace Lm
open Go Go.RowKit Md
structure FE where
 ng:Bool
 a:Option Addr
 m:Nat
 c:Nat
 d:Option Addr
 k:Nat
 e:Nat
def FE.v(x:FE):Value:=.agg #[.bool x.ng,.slice x.a x.m x.c,.slice x.d x.k x.e]
def f3:List FE->List Value
 | []=>[]
 |x::es=>.bool x.ng :: .slice x.a x.m x.c :: .slice x.d x.k x.e::f3 es
theorem auj(es:List FE):(f3 es).length=es.length*3:=by
 induction es with
 |nil=>rfl
 |cons e es ih=>simp only[f3,List.length_cons,ih];omega
theorem aqu{es:List FE}{i:Nat}{x:FE}(h:es[i]? = some x):(f3 es)[i*3]? = some (.bool x.ng)/\(f3 es)[i*3+1]? = some (.slice x.a x.m x.c)/\(f3 es)[i*3+2]? = some (.slice x.d x.k x.e):=by
 induction es generalizing i with
 |nil=>simp at h
 |cons u es ih=>
  cases i with
  |zero=>
   simp at h;subst h;simp[f3]
  |succ i=>
   have:=ih (i:=i) (by simpa using h);simp only[f3,show(i+1)*3=i*3+3 from by omega];simpa using this
theorem a0w(es:List FE)(i:Nat)(x:FE)(h:i<es.length):f3 (es.set i x)=(((f3 es).set (i*3) (.bool x.ng)).set (i*3+1) (.slice x.a x.m x.c)).set (i*3+2) (.slice x.d x.k x.e):=by
 induction es generalizing i with
 |nil=>simp at h
 |cons u es ih=>
  cases i with
  |zero=>simp[f3]
  |succ i=>
   have:=ih i (by simpa using h);simp only[List.set_cons_succ,f3,show(i+1)*3=i*3+3 from by omega,this,List.set_cons_succ]
theorem a1l(es:List FE)(i:Nat)(z:Int):(f3 es).toArray[i]?≠some (.int .u32 z):=by
 rw[List.getElem?_toArray];induction es generalizing i with
 |nil=>simp[f3]
 |cons u es ih=>
  match i with
  |0=>simp[f3]
  |1=>simp[f3]
  |2=>simp[f3]
  |i+3=>simpa[f3]using ih i
theorem azm(n:Nat):(madeCells #[.bool false,.slice none 0 0,.slice none 0 0] (n*3)).toList=f3 (List.replicate n ⟨false,none,0,0,none,0,0⟩):=by
 apply List.ext_getElem?;intro i;rw[Array.getElem?_toList];by_cases hi:i<n*3
 ·have hk:i/3<n:=by omega
  have h1:(List.replicate n (⟨false,none,0,0,none,0,0⟩:FE))[i/3]? = some ⟨false,none,0,0,none,0,0⟩:=by rw[List.getElem?_replicate,if_pos hk]
  obtain⟨e1,e2,e3⟩:=aqu h1;have e0:(madeCells #[.bool false,.slice none 0 0,.slice none 0 0] (n*3))[i]? = some ((#[.bool false,.slice none 0 0,.slice none 0 0]:Array Value)[i%3]!):=by
   simp[madeCells,hi]
  rw[e0];rcases(show i%3=0\/i%3=1\/i%3=2 by omega)with h|h|h
  ·rw[h,<-show i/3*3=i from by omega,e1];rfl
  ·rw[h,<-show i/3*3+1=i from by omega,e2];rfl
  ·rw[h,<-show i/3*3+2=i from by omega,e3];rfl
 ·rw[Array.getElem?_eq_none (by rw[size_madeCells];omega),List.getElem?_eq_none (by rw[auj];simp;omega)]
def QRw3(w:World)(bv n k:Nat)(rs:List Rat)(L:Nat):Prop:=∃fs:List FE,fs.length=n/\w.heap[bv]? = some (.cells (f3 fs).toArray 44 (0,0))/\∀(i:Nat) (f:FE) (r:Rat),i<k->fs[i]? = some f->rs[i]? = some r->OutQr r L f.v w
theorem QRw3.below{w w':World}{bv n k:Nat}{rs:List Rat}{L:Nat}(h:QRw3 w bv n k rs L)(hb:Below w.heap.size w w'):QRw3 w' bv n k rs L:=by
 obtain⟨fs,h1,h2,h3⟩:=h;exact⟨fs,h1,(hb.block _ (aaa h2)).trans h2,fun i f r a b c=>(h3 i f r a b c).ru (Ru.of_below hb)⟩
theorem QRw3.lt{w:World}{bv n k:Nat}{rs:List Rat}{L:Nat}(h:QRw3 w bv n k rs L):bv<w.heap.size:=by
 obtain⟨fs,h1,h2,h3⟩:=h;exact aaa h2
theorem QRw3.cells{w:World}{bv n k:Nat}{rs:List Rat}{L i:Nat}(h:QRw3 w bv n k rs L)(hi:i<n):∃x:FE,w.cell? ⟨bv,i*3,none⟩=some (.bool x.ng)/\w.cell? ⟨bv,i*3+1,none⟩=some (.slice x.a x.m x.c)/\w.cell? ⟨bv,i*3+2,none⟩=some (.slice x.d x.k x.e)/\(w.frozen? ⟨bv,i*3,none⟩=false/\w.frozen? ⟨bv,i*3+1,none⟩=false/\w.frozen? ⟨bv,i*3+2,none⟩=false)/\(i<k->∀r,rs[i]? = some r->OutQr r L x.v w):=by
 obtain⟨fs,h1,h2,h3⟩:=h;obtain⟨x,hx⟩:∃x,fs[i]? = some x:=⟨_,List.getElem?_eq_getElem (by omega)⟩;obtain⟨f1,f2,f4⟩:=aqu hx;refine⟨x,?_,?_,?_,⟨frozen_of_row _ _ _ _ _ h2,frozen_of_row _ _ _ _ _ h2,frozen_of_row _ _ _ _ _ h2⟩,fun hk r hr=>h3 i x r hk hx hr⟩ <;> rw[cell_of_row _ _ _ _ _ (0,0) h2,List.getElem?_toArray] <;> assumption
def qRow(G:Nat->Rat)(n:Nat):List Rat:=(List.range n).map G
theorem ah5(G:Nat->Rat)(n:Nat):(qRow G n).length=n:=by simp[qRow]
theorem aoo{G:Nat->Rat}{n k:Nat}(h:k<n):(qRow G n)[k]? = some (G k):=by simp[qRow,h]
theorem OutQr.agg{r:Rat}{L:Nat}{v:Value}{w:World}(h:OutQr r L v w):∃x:FE,v=x.v:=by
 obtain⟨ng,ao,cap,rs,bo,dap,ss,e,_⟩:=h;exact⟨⟨ng,ao,rs.length,cap,bo,ss.length,dap⟩,e⟩
theorem infoQz:(Tryz.prog.info? 44).map (fun i=>(i.zero,i.size,i.bytes))=some (some (.agg #[.bool false,.slice none 0 0,.slice none 0 0]),3,56):=by kernel_rfl
end Lm
namespace Lm
open Go Go.RowKit Md
def AsksQ(w:World)(f:FuncId)(cap:Array Value)(rs:List Rat)(L:Nat)(p:Rat->Bool):Prop:=∀(W:World) (r:Rat) (xv:Value),Below w.heap.size w W->r∈rs->OutQr r L xv W->Calls Tryz.prog f (#[xv]++cap) W fun e W'=>e=.returned (.bool (p r))/\Below W.heap.size W W'
theorem aqv(w:World)(bv:Nat)(rs:List Rat)(L:Nat)(h:QRw3 w bv rs.length rs.length rs L)(hn:rs.length<=1000)(f:FuncId)(hf:Has Tryz.prog f)(cap:Array Value)(p:Rat->Bool)(hA:AsksQ w f cap rs L p):
  Calls Tryz.prog 103 #[.slice (some ⟨bv,0,none⟩) rs.length rs.length,.func (.func f) #[] cap] w fun e w'=>(∃r:Int,e=.returned (.int .i64 r)/\decide (0<=r)=rs.any p)/\Below w.heap.size w w':=by
 have H:=hide h;have HA:=hide hA;have hlt0:=h.lt;clear h hA;obtain⟨n,hnn⟩:∃n,rs.length=n:=⟨_,rfl⟩;rw[hnn]at H hn ⊢;have HN:=hide hnn;clear hnn;go_enter Tryz.func103,Tryz.ntmps103
 go_wp2;go_loopw [5,8] (fun _ iv wr=>∃(k:Nat),iv=.int .i64 k/\k<=n/\(rs.take k).any p=false/\Below w.heap.size w wr) (fun _ iv _=>n-(intOf iv).toNat)
 case atStart=>exact⟨0,rfl,Nat.zero_le _,by simp,Below.refl _ _⟩
 case round=>
  obtain⟨k,rfl,hk,hany,hbw⟩:=hrel;have HW:=hide hbw;have HY:=hide hany;by_cases hlt:k<n
  ·obtain⟨z,hz⟩:∃z,rs[k]? = some z:=⟨_,List.getElem?_eq_getElem (by have:=HN.out;omega)⟩;obtain⟨x,x0,x1,x2,_,hx⟩:=H.out.cells hlt;have hx:=hx hlt z hz;replace x0:=(hbw.cell (p:=⟨bv,k*3,none⟩) hlt0).trans x0;replace x1:=(hbw.cell (p:=⟨bv,k*3+1,none⟩) hlt0).trans x1;replace x2:=(hbw.cell (p:=⟨bv,k*3+2,none⟩) hlt0).trans x2;have hlt':(k:Int)<(n:Int):=by omega
   have KC:=HA.out wr z _ hbw (List.mem_of_getElem? hz) (hx.ru (Ru.of_below hbw));unfold FE.v at KC;have KC:=hide KC;have HZ:=hide hz;clear hbw hany hx hz;have hE:∀args w,(callFunc f args).run Tryz.prog w=.ok (.enter f args) w:=fun args w=>hf.enter args w
   go_wp2_with fail
   refine KC.out.mono ?_;rintro e w3 ⟨rfl,hb3⟩;have HB3:=hide (HW.out.trans (hb3.mono HW.out.size));clear hb3 KC hE x0 x1 x2;obtain⟨pz,hpz⟩:∃b,p z=b:=⟨_,rfl⟩;rw[hpz];have HPZ:=hide hpz;clear hpz;cases pz with
   |true=>
    go_wp2;go_ret;exact⟨⟨k,rfl,by rw[decide_eq_true (by omega),eq_comm,List.any_eq_true];exact⟨z,List.mem_of_getElem? HZ.out,HPZ.out⟩⟩,HB3.out⟩
   |false=>
    go_wp2;go_roundw
    case rel=>exact⟨k+1,by go_num,by omega,af5 HZ.out HY.out HPZ.out,HB3.out⟩
    case measure=>simp[intOf];omega
  ·have hlt':decide ((k:Int)<(n:Int))=false:=by simp;omega
   clear hbw hany;go_wp2;go_ret;refine⟨⟨-1,rfl,?_⟩,HW.out⟩;have:=HY.out;rw[List.take_of_length_le (by have:=HN.out;omega)]at this;rw[this];rfl
theorem akr(w:World)(bv:Nat)(rs:List Rat)(L:Nat)(h:QRw3 w bv rs.length rs.length rs L)(hn:rs.length<=1000)(f:FuncId)(hf:Has Tryz.prog f)(cap:Array Value)(p:Rat->Bool)(hA:AsksQ w f cap rs L p):
  Calls Tryz.prog 61 #[.slice (some ⟨bv,0,none⟩) rs.length rs.length,.func (.func f) #[] cap] w fun e w'=>e=.returned (.bool (rs.any p))/\Below w.heap.size w w':=by
 have K:=hide (aqv w bv rs L h hn f hf cap p hA);clear h hA;go_enter Tryz.func61,Tryz.ntmps61
 go_wp2_with fail
 refine K.out.mono ?_;rintro e w1 ⟨⟨r,rfl,hr⟩,hb⟩;have HB:=hide hb;have HR:=hide hr;clear hb K hr;go_wp2;refine bodyPost_ret (v:=_) (by simp[results,Tryz.results61,go_sem];try rfl) rfl ⟨by rw[<-HR.out],HB.out⟩
theorem aqw:Has Tryz.prog 62:=by unfold Has;kernel_rfl
theorem aqx:Has Tryz.prog 32:=by unfold Has;kernel_rfl
theorem aqy(W:World)(r:Rat)(L:Nat)(xv:Value)(g:Nat)(T:TypeId)(hg:W.heap[g]? = some (.cells #[.func (.func 32) #[] #[]] T (0,0)))(hx:OutQr r L xv W)(hL:2*(L+2)<=100000):
  Calls Tryz.prog 62 #[xv,.pointer (some ⟨g,0,none⟩)] W fun e W'=>e=.returned (.bool (bigQ r))/\Below W.heap.size W W':=by
 obtain⟨x,rfl⟩:=hx.agg;unfold FE.v at hx ⊢;have hba:=hAl W (.cells #[.bool x.ng,.slice x.a x.m x.c,.slice x.d x.k x.e] 44);have KL:=hide (awp _ _ r L (hx.ru (Ru.of_below hba)) hL);obtain⟨hgl,c0,_⟩:=aa1 hg;have hE:∀args w,(callFunc 32 args).run Tryz.prog w=.ok (.enter 32 args) w:=fun args w=>aqx.enter args w
 have HBA:=hide hba;clear hx hg hba;go_enter Tryz.func62,Tryz.ntmps62
 go_wp2_with fail
 refine KL.out.mono ?_;rintro e w1 ⟨m,rfl,hm,hb⟩;have HB:=hide (HBA.out.trans (hb.mono HBA.out.size));have hbg:bigQ r=decide ((m:Int) > 32):=by
  cases hq:bigQ r with
  |false=>rw[eq_comm,decide_eq_false_iff_not];have:=hm.2 ((amq r).1 hq);omega
  |true=>
   rw[eq_comm,decide_eq_true_iff];apply Classical.byContradiction;intro hno;have:=(amq r).2 (hm.1 (by omega));rw[hq]at this;cases this
 clear hb KL hm;have HBG:=hide hbg;clear hbg;go_wp2;refine bodyPost_ret (v:=_) (by simp[results,Tryz.results62,go_sem];try rfl) rfl ⟨by rw[HBG.out],HB.out⟩
theorem auk(w:World)(bv:Nat)(rs:List Rat)(L:Nat)(h:QRw3 w bv rs.length rs.length rs L)(hn:rs.length<=1000)(hL:2*(L+2)<=100000):
  Calls Tryz.prog 31 #[.slice (some ⟨bv,0,none⟩) rs.length rs.length,.func (.func 32) #[] #[]] w fun e w'=>e=.returned (.bool (rs.any bigQ))/\Below w.heap.size w w':=by
 have key:∀T:TypeId,Hid (Calls Tryz.prog 61 #[.slice (some ⟨bv,0,none⟩) rs.length rs.length,.func (.func 62) #[] #[.pointer (some ⟨w.heap.size,0,none⟩)]] (w.alloc (.cells #[.func (.func 32) #[] #[]] T)) fun e w'=>e=.returned (.bool (rs.any bigQ))/\Below w.heap.size w w'):=fun T=>by
  have hb:=hAl w (.cells #[.func (.func 32) #[] #[]] T);have hnew:=heap_alloc_new w (.cells #[.func (.func 32) #[] #[]] T);refine(akr _ bv rs L (h.below hb) hn _ aqw _ bigQ (fun W z xv hbW hz hx=>?_)).mono ?_
  ·exact aqy W z L xv w.heap.size T ((hbW.block _ (aaa hnew)).trans hnew) hx hL
  ·rintro e w' ⟨rfl,hb'⟩;exact⟨rfl,hb.trans (hb'.mono hb.size)⟩
 clear h;have hmf:∀(fn:Fn) (first cap:Array Value) (w:World),(Instr.makeFunc fn first cap).run Tryz.prog w=.ok (.func fn first cap) w:=fun _ _ _ _=>rfl
 go_enter Tryz.func31,Tryz.ntmps31
 go_wp2_with fail
 refine(key _).out.mono ?_;rintro e w1 ⟨rfl,hb⟩;have HB:=hide hb;clear hb key;go_wp2;refine bodyPost_ret (v:=_) (by simp[results,Tryz.results31,go_sem];try rfl) rfl ⟨rfl,HB.out⟩
end Lm
namespace Lm
open Go Go.RowKit Md
theorem ORow.cellF{K:Nat}{w:World}{v:Value}{zs:List Int}{L k:Nat}{z:Int}(h:ORow K w v zs L)(hz:zs[k]? = some z):∃bv ng a m c,v=.slice (some ⟨bv,0,none⟩) zs.length zs.length/\bv<w.heap.size/\w.cell? ⟨bv,k*2,none⟩=some (.bool ng)/\w.cell? ⟨bv,k*2+1,none⟩=some (.slice a m c)/\FrW K z L (.agg #[.bool ng,.slice a m c]) w:=by
 obtain⟨bv,e,hK,⟨es,B,T,h1,h2,h3,h4,h5⟩,hl⟩:=h;have hk:=(List.getElem?_eq_some_iff.1 hz).1;obtain⟨x,hx⟩:∃x,es[k]? = some x:=⟨_,List.getElem?_eq_getElem (by omega)⟩;obtain⟨f1,f2⟩:=aa2 hx;obtain⟨g1,g2,g3,g4,g5⟩:=h4 k x z hk hx hz;exact⟨bv,x.ng,x.a,x.m,x.c,e,aaa h2,by rw[cell_of_row _ _ _ _ _ (0,0) h2,List.getElem?_toArray];exact f1,by rw[cell_of_row _ _ _ _ _ (0,0) h2,List.getElem?_toArray];exact f2,⟨_,_,_,_,B k,T k,by rw[g2],g1,g4,g5,g3⟩⟩
theorem OwM.cellO{K:Nat}{w:World}{ao:Option Addr}{n cap:Nat}{rows:List (List Int)}{L i:Nat}{z:List Int}(h:OwM K w (.slice ao n cap) rows L)(hz:rows[i]? = some z):∃b off u,ao=some ⟨b,off,none⟩/\b<w.heap.size/\w.cell? ⟨b,off+i,none⟩=some u/\ORow K w u z L:=by
 obtain⟨vs,h1,h5⟩:=h;obtain⟨ao',cap',hv,_,h2,h3,h4⟩:=Ce.own h1;obtain⟨rfl,rfl,rfl⟩:=(Value.slice.injEq .. ▸ hv);have hi:i<rows.length:=(List.getElem?_eq_some_iff.1 hz).1;obtain⟨u,hu⟩:∃u,vs[i]? = some u:=⟨_,List.getElem?_eq_getElem (by omega)⟩;rcases h4 with h4|⟨b,off,rfl,hl,hc⟩
 ·omega
 ·exact⟨b,off,u,rfl,hl,hc i u hu,h5 i u z hu hz⟩
def solP(n:Nat)(R:List Md.Rw)(Q:List Nat)(i:Nat):List Int:=gRow (fun k=>if k∈Q.reverse.take i then D R (sub k n Q)else 0) n
def solN(n:Nat)(R:List Md.Rw)(Q:List Nat)(c:Nat):Int:=if c∈Q then D R (sub c n Q)else 0
theorem aqz{n:Nat}{R:List Md.Rw}{Q:List Nat}: List.replicate n 0=solP n R Q 0:=by
 unfold solP gRow;simp;exact(List.eq_replicate_iff.2 ⟨by simp,fun b hb=>by obtain⟨_,_,rfl⟩:=List.mem_map.1 hb;rfl⟩).symm
theorem aul{n:Nat}{R:List Md.Rw}{Q:List Nat}{i p:Nat}(hp:Q.reverse[i]? = some p)(hpn:p<n):(solP n R Q i).set p (D R (sub p n Q))=solP n R Q (i+1):=by
 apply List.ext_getElem?;intro k;unfold solP;by_cases hk:k<n
 ·by_cases e:k=p
  ·subst e;rw[List.getElem?_set_self (by rw[aa4];exact hk),abk hk,if_pos ((abc hp).2 (.inr rfl))]
  ·rw[List.getElem?_set_ne (fun h=>e h.symm),abk hk,abk hk];congr 1;by_cases e3:k∈Q.reverse.take i
   ·rw[if_pos e3,if_pos ((abc hp).2 (.inl e3))]
   ·rw[if_neg e3,if_neg (fun h=>((abc hp).1 h).elim e3 e)]
 ·rw[List.getElem?_eq_none (by simp[aa4];omega),List.getElem?_eq_none (by rw[aa4];omega)]
theorem aum{n:Nat}{R:List Md.Rw}{Q:List Nat}: solP n R Q Q.length=gRow (solN n R Q) n:=by
 unfold solP;rw[List.take_of_length_le (by simp)];simp only[List.mem_reverse];rfl
def solG(n:Nat)(R:List Md.Rw)(Q:List Nat)(c:Nat):Rat:=Rat.divInt (solN n R Q c) (D R Q)
theorem adg(rows:List (List Int))(ys:List Int):(besR rows ys).length=rows.length:=aml _ _
theorem ajw{rows:List (List Int)}{ys:List Int}{i:Nat}{z:List Int}(h:rows[i]? = some z):(besR rows ys)[i]? = some (z ++ [ys.getD i 0]):=aol h
theorem ah6{rows:List (List Int)}{ys:List Int}{n:Nat}(h:∀r∈rows,r.length=n):∀r∈besR rows ys,r.length=n+1:=by
 intro r hr;obtain⟨i,hi⟩:=List.mem_iff_getElem?.1 hr;have hil:i<rows.length:=by have:=(List.getElem?_eq_some_iff.1 hi).1;rwa[adg]at this
 obtain⟨z,hz⟩:∃z,rows[i]? = some z:=⟨_,List.getElem?_eq_getElem hil⟩;rw[ajw hz]at hi;obtain rfl:=Option.some.inj hi;rw[List.length_append,h z (List.mem_of_getElem? hz)];rfl
theorem aq0:Has Tryz.prog 29:=by unfold Has;kernel_rfl
end Lm
namespace Lm
open Go Go.RowKit Md
theorem ags(n:Nat)(R:List Md.Rw)(Q:List Nat){c:Nat}(hd:D R Q≠0)(h:c∉Q):solG n R Q c=0:=by
 unfold solG solN;rw[if_neg h];have:Rat.divInt 0 (D R Q)=Rat.divInt 0 1:=(Rat.divInt_eq_divInt_iff hd (by omega)).2 (by omega);rw[this];rfl
def solF(n:Nat)(R:List Md.Rw)(Q:List Nat)(k:Nat)(j:Nat):Rat:=if j∈Q.reverse.take k then solG n R Q j else 0
theorem aun{n:Nat}{R:List Md.Rw}{Q:List Nat}{k p:Nat}(hp:Q.reverse[k]? = some p)(j:Nat):(if j=p then solG n R Q p else solF n R Q k j)=solF n R Q (k+1) j:=by
 unfold solF;rw[List.take_add_one,hp];by_cases h:j=p
 ·subst h;rw[if_pos rfl,if_pos (by simp)]
 ·rw[if_neg h];simp[h]
theorem aws{n:Nat}{R:List Md.Rw}{Q:List Nat}(hd:D R Q≠0)(j:Nat):solF n R Q Q.length j=solG n R Q j:=by
 unfold solF;rw[List.take_of_length_le (by simp)];by_cases h:j∈Q.reverse
 ·rw[if_pos h]
 ·rw[if_neg h,ags n R Q hd (fun hc=>h (List.mem_reverse.2 hc))]
theorem RdI.fracS{n:Nat}{rows m:List (List Int)}{R X:List Md.Rw}{Q:List Nat}(h:RdI (n+1) rows (n+1) m R Q X){i p:Nat}{e:List Int}(hp:Q.reverse[i]? = some p)(he:(elR (n+1) (efOf R Q))[i]? = some e):fnR e p≠0/\Rat.divInt (fnR e n) (fnR e p)=solG n R Q p:=by
 have hpQ:p∈Q:=List.mem_reverse.1 (List.mem_of_getElem? hp);have hpn:=h.gat.lt p hpQ;have hei:e=red (gRow (fun k=>D R (sub p k Q)) (n+1)):=by
  unfold elR efOf at he;rw[List.map_map,List.getElem?_map,hp]at he;exact(Option.some.inj he).symm
 have hd:∀k,k<n+1->dvs (gRow (fun k=>D R (sub p k Q)) (n+1))*fnR e k=D R (sub p k Q):=fun k hk=>by
  rw[hei,afl];unfold fnR;rw[List.getD_eq_getElem?_getD,abk hk];rfl
 have h1:=hd p hpn;have h2:=hd n (by omega);rw[sub_self]at h1;have hne:=h.gat.ne;generalize dvs (gRow (fun k=>D R (sub p k Q)) (n+1))=d at *
 have he0:fnR e p≠0:=fun h0=>hne (by rw[<-h1,h0,Int.mul_zero])
 refine⟨he0,?_⟩;unfold solG solN;rw[if_pos hpQ];refine(Rat.divInt_eq_divInt_iff he0 hne).2 ?_;rw[<-h1,<-h2]
 grind
set_option maxRecDepth 100000 in
theorem ann(w:World)(v vr:Value)(rows:List (List Int))(ys:List Int)(n S:Nat)(B:Md.Rw->Nat)(h:NM w v rows (3*(S+1)))(hrn:∀r∈rows,r.length=n)(hr64:rows.length<=64)(hn:n<=32)(hS:S<=1500)(hy:NRow w vr ys (3*(S+1)))(hyl:ys.length=rows.length)(hB:Bnd (besR rows ys) S B):
  Calls Tryz.prog 34 #[v,.int .i64 (n:Int),vr] w fun e w'=>(∃m R Q X,RdI (n+1) (besR rows ys) (n+1) m R Q X/\((n∈Q/\e=.returned (.tuple #[.slice none 0 0,.bool false]))\/(n∉Q/\∃bv,e=.returned (.tuple #[.slice (some ⟨bv,0,none⟩) n n,.bool true])/\PFr w' bv n (fun _=>True) (solG n R Q) (6*(S+1)))))/\Below w.heap.size w w':=by
 have HRN:=hide hrn;have HBN:=hide hB;obtain⟨ao,cp,rfl,_⟩:=h.parts;obtain⟨ay,cy,rfl,_⟩:=hy.parts;have H:=hide h;have HY:=hide hy;obtain⟨r,hr⟩:∃r,rows.length=r:=⟨_,rfl⟩;rw[hr]at H hr64 hyl ⊢;rw[hyl]at HY ⊢;have HR:=hide (And.intro hr hyl);obtain⟨iQ,hiq,hq0,hq1,hq2⟩:=info_parts infoQ;have hadd:IntKind.i64.wrap ((n:Int)+1)=(n:Int)+1:=by rw[IntKind.wrap_i64];omega
 clear h hrn hB hy hr hyl;go_enter Tryz.func34,Tryz.ntmps34
 go_wp2_with fail
 go_loopw [8,9] (fun ov iv wr=>∃(i:Nat) (vs:List Value),iv=.int .i64 i/\i<=r/\Below w.heap.size w wr/\RmO w.heap.size wr ov vs ((besR rows ys).take i) (3*(S+1))) (fun _ iv _=>r-(intOf iv).toNat)
 case atStart=>exact⟨0,[],rfl,Nat.zero_le _,Below.refl _ _,ajp _ _ _⟩
 case round=>
  obtain⟨i,vs,rfl,hi,hbw,hown⟩:=hrel;have HW:=hide hbw;have HOWN:=hide hown;obtain⟨oa,oc,hov,-⟩:=Ce.own hown.own;subst hov;have hvl:vs.length=i:=by rw[hown.len,List.length_take,adg];have:=HR.out.1;omega
  rw[hvl]at HOWN ⊢;by_cases hlt:i<r
  ·have hlt':(i:Int)<(r:Int):=by omega
   obtain⟨x,hx⟩:∃x,rows[i]? = some x:=⟨_,List.getElem?_eq_getElem (by have:=HR.out.1;omega)⟩;obtain⟨y,hyv⟩:∃y,ys[i]? = some y:=⟨_,List.getElem?_eq_getElem (by have:=HR.out.2;omega)⟩;have hxn:=HRN.out x (List.mem_of_getElem? hx);obtain⟨b,off,u,rfl,hbl,x0,hu⟩:=(H.out.below hbw).cell hx;obtain⟨ua,uc,rfl,-⟩:=id hu.parts;rw[hxn]at x0 hu;obtain⟨b2,o2,ng2,a2,m2,c2,rfl,hbl2,y0,y1,hy2⟩:=(HY.out.below hbw).cell hyv;have HX:=hide hu;have HY2:=hide hy2;have HXL:Hid (x.length=n):=hxn;have HBE:Hid ((besR rows ys)[i]? = some (x ++ [y])):=(show _=_ by rw[ajw hx];congr 2;rw[List.getD_eq_getElem?_getD,hyv];rfl);clear hbw hown hx hyv hxn hu hy2;go_upto_region 5 with fail
   refine amb 11 13 (fun j=>j==0||j==11||j==12) [21,22,23,24,25,26,27,28,29,30,31,32,33] [Eqs (.slice oa i oc),Eqs (.slice (some ⟨b,off,none⟩) r cp),Eqs (.int .i64 (i:Int)),Eqs (.pointer (some ⟨b,off+i,none⟩)),Eqs (.slice ua n uc),(OwnN wr.heap.size x (3*(S+1))),Eqs (.slice (some ⟨b2,o2,none⟩) r cy),Eqs (.int .i64 (i:Int)),Eqs (.pointer (some ⟨b2,o2+i*2,none⟩)),(OutN (y) (3*(S+1))),(OneN y (3*(S+1))),(OwnN wr.heap.size (x ++ [y]) (3*(S+1))),(OneM (x ++ [y]) (3*(S+1)))] rfl rfl (by decide) (by kernel_rfl) (by kernel_rfl) (by decide) (by kernel_rfl) (by kernel_rfl) ⟨Eqs.mono _,Eqs.mono _,Eqs.mono _,Eqs.mono _,Eqs.mono _,(OwnN.mono _ _ _),Eqs.mono _,Eqs.mono _,Eqs.mono _,(Mono.of4 (OutN.mono4 _ _)),(OneN.mono _ _),(OwnN.mono _ _ _),(OneM.mono _ _),trivial⟩ ?_ ?_ (by decide) ?_
   ·intro j_ hj_ hk_ hw_ v_ w1_ w2_ hb_ hp_;simp only[Bool.or_eq_true,beq_iff_eq]at hk_;rcases hk_ with(rfl|rfl)|rfl
    ·exact hp_
    ·exact absurd rfl hj_
    ·exact absurd hw_ (by rw[Bool.not_eq_false];kernel_rfl)
   ·exact⟨⟨rfl,rfl,fun a_ w_ _ hB hR hD=>⟨fun _=>aah ((hR 8 rfl).trans (aab rfl)),fun h=>absurd h (by decide)⟩⟩,
      ⟨rfl,rfl,fun a_ w_ _ hB hR hD=>⟨fun _=>aah ((hR 0 rfl).trans (aab rfl)),fun h=>absurd h (by decide)⟩⟩,
      ⟨rfl,rfl,fun a_ w_ _ hB hR hD=>⟨fun _=>aah ((hR 9 rfl).trans (aab rfl)),fun h=>absurd h (by decide)⟩⟩,
      ⟨rfl,rfl,fun a_ w_ _ hB hR hD=>⟨fun _=>ah3 (show a_.eval (.tmp 22)=.slice (some ⟨b,off,none⟩) r cp from hD 1 rfl) (show a_.eval (.tmp 23)=.int .i64 (i:Int)from hD 2 rfl) (by omega),fun h=>absurd h (by decide)⟩⟩,
      ⟨rfl,rfl,fun a_ w_ _ hB hR hD=>⟨fun _=>aev (show a_.eval (.tmp 24)=.pointer (some ⟨b,off+i,none⟩)from hD 3 rfl) ((hB.cell (p:=⟨b,off+i,none⟩) hbl).trans x0),fun h=>absurd h (by decide)⟩⟩,
      ⟨rfl,rfl,fun a_ w_ _ hB hR hD=>⟨fun _=>awn (show a_.eval (.tmp 25)=.slice ua n uc from hD 4 rfl) (HX.out.below hB) (by omega) hB.size,fun h=>absurd h (by decide)⟩⟩,
      ⟨rfl,rfl,fun a_ w_ _ hB hR hD=>⟨fun _=>aah ((hR 2 rfl).trans (aab rfl)),fun h=>absurd h (by decide)⟩⟩,
      ⟨rfl,rfl,fun a_ w_ _ hB hR hD=>⟨fun _=>aah ((hR 9 rfl).trans (aab rfl)),fun h=>absurd h (by decide)⟩⟩,
      ⟨rfl,rfl,fun a_ w_ _ hB hR hD=>⟨fun _=>ac8 (show a_.eval (.tmp 27)=.slice (some ⟨b2,o2,none⟩) r cy from hD 6 rfl) rfl (show a_.eval (.tmp 28)=.int .i64 (i:Int)from hD 7 rfl) hlt,fun h=>absurd h (by decide)⟩⟩,
      ⟨rfl,rfl,fun a_ w_ _ hB hR hD=>⟨fun _=>acg (show a_.eval (.tmp 29)=.pointer (some ⟨b2,o2+i*2,none⟩)from hD 8 rfl) ((hB.cell (p:=⟨b2,o2+i*2,none⟩) hbl2).trans y0) ((hB.cell (p:=⟨b2,o2+i*2+1,none⟩) hbl2).trans y1) (Mono.of4 (OutN.mono4 _ _) _ _ _ hB HY2.out),fun h=>absurd h (by decide)⟩⟩,
      ⟨rfl,rfl,fun a_ w_ _ hB hR hD=>⟨fun _=>aof (show(OutN (y) (3*(S+1))) (a_.eval (.tmp 30)) w_ from hD 9 rfl),fun h=>absurd h (by decide)⟩⟩,
      ⟨rfl,rfl,fun a_ w_ _ hB hR hD=>⟨fun h=>absurd rfl h,fun _=>awo (show(OwnN wr.heap.size x (3*(S+1))) (a_.eval (.tmp 26)) w_ from hD 5 rfl) (show(OneN y (3*(S+1))) (a_.eval (.tmp 31)) w_ from hD 10 rfl) (by have:=HXL.out;omega) hB.size⟩⟩,
      ⟨rfl,rfl,fun a_ w_ _ hB hR hD=>⟨fun _=>azl (show(OwnN wr.heap.size (x ++ [y]) (3*(S+1))) (a_.eval (.tmp 32)) w_ from hD 11 rfl),fun h=>absurd h (by decide)⟩⟩,
      trivial⟩
   ·intro a' w' hn' hd' hB' hR' hP';have e21:a'.eval (.tmp 21)=.slice oa i oc:=hP' 0 (by decide) rfl;obtain⟨u22,e22⟩:∃u,a'.eval (.tmp 22)=u:=⟨_,rfl⟩;obtain⟨u23,e23⟩:∃u,a'.eval (.tmp 23)=u:=⟨_,rfl⟩;obtain⟨u24,e24⟩:∃u,a'.eval (.tmp 24)=u:=⟨_,rfl⟩;obtain⟨u25,e25⟩:∃u,a'.eval (.tmp 25)=u:=⟨_,rfl⟩;obtain⟨u26,e26⟩:∃u,a'.eval (.tmp 26)=u:=⟨_,rfl⟩;obtain⟨u27,e27⟩:∃u,a'.eval (.tmp 27)=u:=⟨_,rfl⟩;obtain⟨u28,e28⟩:∃u,a'.eval (.tmp 28)=u:=⟨_,rfl⟩;obtain⟨u29,e29⟩:∃u,a'.eval (.tmp 29)=u:=⟨_,rfl⟩;obtain⟨u30,e30⟩:∃u,a'.eval (.tmp 30)=u:=⟨_,rfl⟩;obtain⟨u31,e31⟩:∃u,a'.eval (.tmp 31)=u:=⟨_,rfl⟩;obtain⟨u32,e32⟩:∃u,a'.eval (.tmp 32)=u:=⟨_,rfl⟩;obtain⟨u33,e33⟩:∃u,a'.eval (.tmp 33)=u:=⟨_,rfl⟩;have hT:(OneM (x ++ [y]) (3*(S+1))) (a'.eval (.tmp 33)) w':=hP' 12 (by decide) rfl;rw[e33]at hT;refine abl hn' hd' hR' (.s16 rfl <| .s4 rfl <| .same rfl <| .new e21 <| .new e22 <| .new e23 <| .new e24 <| .new e25 <| .new e26 <| .new e27 <| .new e28 <| .new e29 <| .new e30 <| .new e31 <| .new e32 <| .new e33 <| .s16 rfl <| .s16 rfl <| .s16 rfl <| .s4 rfl <| .s4 rfl <| .nil) ?_;clear e21 e22 e23 e24 e25 e26 e27 e28 e29 e30 e31 e32 e33;obtain⟨g,ga,gc,rfl,O,hR⟩:=hT;have hRm:=HOWN.out.below hB';have hsz:w.heap.size<=w'.heap.size:=Nat.le_trans HW.out.size hB'.size;have hfl:vs.length<=1000000:=by omega
    clear hR' hP' hn' hd' x0 y0 y1 hbl hbl2;refine abo rfl (ajq (i:=21) (j:=33) rfl rfl hRm O hR hfl hsz) ?_;rintro v3 w3 ⟨hR3,hb3⟩;obtain⟨aov3,capv3,hov3,-⟩:=Ce.own hR3.own;rw[show(vs ++ [Value.slice ga (x ++ [y]).length gc]).length=i+1 by rw[List.length_append,hvl];rfl]at hov3;subst hov3;have HR3:=hide hR3;have HB3:=hide ((HW.out.trans (hB'.mono HW.out.size)).trans hb3);clear hR3 hb3 hRm O hR hsz hfl hB';go_wp2;go_roundw
    case rel=>exact⟨i+1,_,by go_num,by omega,HB3.out,by rw[List.take_add_one,HBE.out];exact HR3.out⟩
    case measure=>simp[intOf];omega
  ·have hlt':decide ((i:Int)<(r:Int))=false:=by simp;omega
   obtain rfl:r=i:=by omega
   have htk:(besR rows ys).take r=besR rows ys:=List.take_of_length_le (by rw[adg];have:=HR.out.1;omega);rw[htk]at HOWN;have K1:=aqk wr _ (besR rows ys) (n+1) S B HOWN.out.nm (ah6 HRN.out) (by rw[adg];have:=HR.out.1;omega) (by omega) (by omega) HBN.out.big HBN.out.sum HBN.out.all;rw[show((n+1:Nat):Int)=(n:Int)+1 by omega]at K1;have K1:=hide K1;clear hbw hown htk;go_wp2_with fail
   refine K1.out.mono ?_;rintro e w1 ⟨mv,pv,m,R,Q,X,rfl,hRd,hNM,hIv,hb1⟩;have HRD:=hide hRd;have HEL:=hide hRd.el;have hq:=hRd.rows.1;rw[hRd.take_el]at hNM;obtain⟨E,hE⟩:∃E,elR (n+1) (efOf R Q)=E:=⟨_,rfl⟩;have HEE:=hide hE;rw[hE]at hNM HEL;have hEl:E.length=Q.length:=by have:=HEL.out.len;simpa using this.symm
   obtain⟨am,cm,rfl,_⟩:=hNM.parts;obtain⟨t,ht⟩:∃t,Q.length=t:=⟨_,rfl⟩;rw[hEl,ht]at hNM ⊢;rw[ht]at hq hEl;obtain⟨ap,np,cpv,rfl⟩:∃a n c,pv=.slice a n c:=by obtain⟨a,c,e,_⟩:=abp hIv.own;exact⟨a,_,c,e⟩
   have HT:=hide (And.intro ht hEl);have HNM:=hide hNM;have HIV:=hide hIv;have HB1:=hide (HW.out.trans (hb1.mono HW.out.size));clear hRd hNM hIv hb1 K1 ht hEl hE HOWN HW;go_wp2_with (refine wpList_make_full _ rfl (.tmp 42) (.tmp 42) 73 rfl _ 84 iQ (.agg #[.bool false,.slice none 0 0,.bool false,.slice none 0 0]) 4 Tryz.underlying73 hiq hq0 hq1 .i64 .i64 _ _ n rfl rfl (by omega) (by omega) (by rw[hq2];omega) (by unfold maxLen;omega) (Nat.le_refl _) ?hK)
   case hK=>
   intro w3 hmade hgrow;have hb3:Below w1.heap.size w1 w3:=(Below.refl _ _).grown hgrow (Nat.le_refl _) (by simp);obtain⟨_,hmb⟩:=ac4 hmade;rw[auh]at hmb;obtain⟨bv,hbv⟩:∃bv,w1.heap.size=bv:=⟨_,rfl⟩;rw[hbv]at hmb ⊢;have HP0:=hide (PFr.start (r:=fun _=>(0:Rat)) (L:=6*(S+1)) (n:=n) hmb);have HB3:=hide hb3;have HBV:=hide hbv;clear hmade hgrow hb3 hmb hbv;go_wp2_with fail
   go_loopw [13] (fun iv wr=>∃(i:Nat),iv=.int .i64 i/\i<=n/\PFr wr bv n (fun k=>k<i) (fun _=>0) (6*(S+1))/\Below w1.heap.size w1 wr) (fun iv _=>n-(intOf iv).toNat)
   case atStart=>exact⟨0,rfl,Nat.zero_le _,HP0.out.mono (fun k _ hk=>absurd hk (by omega)),HB3.out⟩
   case round=>
    obtain⟨i,rfl,hi,hp,hbi⟩:=hrel;have HBI:=hide hbi;have HP:=hide hp;by_cases hlti:i<n
    ·have hlti':(i:Int)<(n:Int):=by omega
     have K3:=hide (aui wr);clear hp hbi HP0 HB3;go_wp2_with fail
     refine K3.out.mono ?_;rintro e w4 ⟨ng,a,mz,cz,rfl,hO,hb4⟩;have hP4:=HP.out.below hb4;obtain⟨⟨ng0,a0,m0,c0,mg0,d0,e0,f0,x0,x1,x2,x3⟩,z0,z1,z2,z3⟩:=hP4.cells hlti;obtain⟨hQ,hBl,hR,_⟩:=hP4.put (k:=i) (x:=0) (ng:=false) (a:=none) (m:=0) (c:=0) (mg:=ng) (d:=a) (e:=mz) (f:=cz) hlti (ae4 _ _) ((show OutN ((0:Rat).den:Int) 5 _ w4 from hO).wide3 (by omega));have HQ:Hid (PFr (qput w4 bv i false none 0 0 ng a mz cz) bv n (fun k=>k<i+1) (fun _=>0) (6*(S+1))):=(hQ.mono fun k _ hk=>⟨by omega,by split <;> rfl⟩);have HBl:Hid (Below w1.heap.size w1 (qput w4 bv i false none 0 0 ng a mz cz)):=((HBI.out.trans (hb4.mono HBI.out.size)).trans (hBl _ (by have:=HBV.out;omega)));simp only[qput]at HQ HBl;clear hP4 hQ hBl hR hO hb4 K3;go_wp2;go_roundw
     case rel=>exact⟨i+1,by go_num,by omega,HQ.out,HBl.out⟩
     case measure=>simp[intOf];omega
    ·have hlti':decide ((i:Int)<(n:Int))=false:=by simp;omega
     obtain rfl:n=i:=by omega
     have HPC:Hid (PFr wr bv n (fun _=>True) (solF n R Q 0) (6*(S+1))):=(hp.mono fun k hk _=>⟨hk,by unfold solF;simp⟩);have HBC:=HBI;obtain⟨wz,hwz⟩:∃wz,wz=wr:=⟨_,rfl⟩;subst hwz;clear hp hbi HP0 HB3 HP HBI;go_wp2_with fail
     go_loopw [14] (fun iv wr=>∃(k:Nat),iv=.int .i64 k/\k<=t/\(∀q∈Q.reverse.take k,q≠n)/\PFr wr bv n (fun _=>True) (solF n R Q k) (6*(S+1))/\Below w1.heap.size w1 wr) (fun iv _=>t-(intOf iv).toNat)
     case atStart=>exact⟨0,rfl,Nat.zero_le _,fun q hq=>(by simp at hq),HPC.out,HBC.out⟩
     case round=>
      obtain⟨k,rfl,hk,hnq,hp,hbk⟩:=hrel;have HNQ:=hide hnq;have HP:=hide hp;have HBK:=hide hbk;have HWF:=hide (HB1.out.trans (hbk.mono HB1.out.size));by_cases hltk:k<t
      ·have hltk':(k:Int)<(t:Int):=by omega
       obtain⟨q,hqk⟩:∃q,Q.reverse[k]? = some q:=⟨_,List.getElem?_eq_getElem (by rw[List.length_reverse];have:=HT.out.1;omega)⟩;obtain⟨hnp,gq,rfl,hgql,xq⟩:=HIV.out.at (i:=k) (x:=(q:Int)) (by rw[List.getElem?_map,hqk];rfl);have hnpt:np=t:=by rw[hnp];simp;exact HT.out.1
       subst hnpt;replace xq:=(hbk.cell (p:=⟨gq,k,none⟩) hgql).trans xq;replace hgql:=Nat.lt_of_lt_of_le hgql hbk.size;by_cases hqn0:q=n
       ·have hqe:((q:Int)==(n:Int))=true:=by rw[hqn0];simp
        have HIN:Hid (n∈Q):=(by rw[<-hqn0];exact List.mem_reverse.1 (List.mem_of_getElem? hqk));clear hnq hp hbk hqk hqn0 hnp HPC HBC;go_wp2;refine bodyPost_ret (v:=_) (by simp[results,Tryz.results34,go_sem];try rfl) rfl ⟨⟨m,R,Q,X,HRD.out,.inl ⟨HIN.out,rfl⟩⟩,HWF.out⟩
       ·have hqe:((q:Int)==(n:Int))=false:=by simp;omega
        obtain⟨e,he⟩:∃e,E[k]? = some e:=⟨_,List.getElem?_eq_getElem (by have:=HT.out.2;omega)⟩;obtain⟨he1,hqn1,_,_,_⟩:=HEL.out.row k e q he hqk;have hqn:q<n:=by omega
        obtain⟨hep,hfr⟩:=HRD.out.fracS hqk (by rw[HEE.out];exact he);obtain⟨ec,hec⟩:∃z,e[n]? = some z:=⟨_,List.getElem?_eq_getElem (by omega)⟩;obtain⟨ep,hepv⟩:∃z,e[q]? = some z:=⟨_,List.getElem?_eq_getElem (by omega)⟩;rw[aok hepv]at hep hfr;rw[aok hec]at hfr;obtain⟨bm,om,eu,rfl,hbm,xm,hE1⟩:=HNM.out.cell he;obtain⟨ea,ecc,rfl,-⟩:=id hE1.parts;rw[he1]at xm hE1;obtain⟨bb,ob,ngc,ac,mc,cc,rfl,hblb,pc0,pc1,hcv⟩:=(hE1.below hbk).cell hec;obtain⟨bb',ob',ngp,ap',mp,cp',hbb',_,pp0,pp1,hpv⟩:=(hE1.below hbk).cell hepv;obtain⟨rfl,rfl⟩:bb=bb'/\ob=ob':=by simp only[Option.some.injEq,Addr.mk.injEq,and_true]at hbb';exact hbb'
        replace xm:=(hbk.cell (p:=⟨bm,om+k,none⟩) hbm).trans xm;replace hbm:=Nat.lt_of_lt_of_le hbm hbk.size;have hlt1:n<n+1:=by omega
        have HCV:=hide hcv;have HPV:=hide hpv;have HEP:=hide hep;have HFR:=hide hfr;have HQK:=hide (And.intro hqk hqn0);clear hnq hp hbk he hqk he1 hep hfr hec hepv hnp hE1 hcv hpv hbb' HPC HBC hqn0;go_upto_region 17 with fail
        refine ac1 23 [65,66,67,68,69,70,71,72,73,74,75,76,77,78,79,80,81,82,83,84,85,86,87] [Eqs (.slice (some ⟨bv,0,none⟩) n n),Eqs (.slice (some ⟨gq,0,none⟩) np cpv),Eqs (.int .i64 (k:Int)),Eqs (.pointer (some ⟨gq,k,none⟩)),Eqs (.int .i64 (q:Int)),Eqs (.slice (some ⟨bm,om,none⟩) np cm),Eqs (.int .i64 (k:Int)),Eqs (.pointer (some ⟨bm,om+k,none⟩)),Eqs (.slice (some ⟨bb,ob,none⟩) (n+1) ecc),Eqs (.int .i64 (n:Int)),Eqs (.pointer (some ⟨bb,ob+n*2,none⟩)),(OutN (ec) (3*(S+1))),Eqs (.slice (some ⟨bm,om,none⟩) np cm),Eqs (.int .i64 (k:Int)),Eqs (.pointer (some ⟨bm,om+k,none⟩)),Eqs (.slice (some ⟨bb,ob,none⟩) (n+1) ecc),Eqs (.slice (some ⟨gq,0,none⟩) np cpv),Eqs (.int .i64 (k:Int)),Eqs (.pointer (some ⟨gq,k,none⟩)),Eqs (.int .i64 (q:Int)),Eqs (.pointer (some ⟨bb,ob+q*2,none⟩)),(OutN (ep) (3*(S+1))),(OutQ (nm ec ep) (dn ec ep) (3*(S+1)+3*(S+1)))] rfl rfl (by decide) (by kernel_rfl) (by kernel_rfl) (by decide) (by kernel_rfl) ⟨Eqs.mono _,Eqs.mono _,Eqs.mono _,Eqs.mono _,Eqs.mono _,Eqs.mono _,Eqs.mono _,Eqs.mono _,Eqs.mono _,Eqs.mono _,Eqs.mono _,(Mono.of4 (OutN.mono4 _ _)),Eqs.mono _,Eqs.mono _,Eqs.mono _,Eqs.mono _,Eqs.mono _,Eqs.mono _,Eqs.mono _,Eqs.mono _,Eqs.mono _,(Mono.of4 (OutN.mono4 _ _)),(Mono.of4 (OutQ.mono4 _ _ _)),trivial⟩ ?_ ?_
        ·exact⟨⟨rfl,fun a_ w_ _ hB hR hD=>aah ((hR 12 rfl).trans (aab rfl))⟩,
           ⟨rfl,fun a_ w_ _ hB hR hD=>aah ((hR 11 rfl).trans (aab rfl))⟩,
           ⟨rfl,fun a_ w_ _ hB hR hD=>aah ((hR 14 rfl).trans (aab rfl))⟩,
           ⟨rfl,fun a_ w_ _ hB hR hD=>amp (show a_.eval (.tmp 66)=.slice (some ⟨gq,0,none⟩) np cpv from hD 1 rfl) (show a_.eval (.tmp 67)=.int .i64 (k:Int)from hD 2 rfl) (by omega)⟩,
           ⟨rfl,fun a_ w_ _ hB hR hD=>aon (show a_.eval (.tmp 68)=.pointer (some ⟨gq,k,none⟩)from hD 3 rfl) ((hB.cell (p:=⟨gq,k,none⟩) hgql).trans xq)⟩,
           ⟨rfl,fun a_ w_ _ hB hR hD=>aah ((hR 10 rfl).trans (aab rfl))⟩,
           ⟨rfl,fun a_ w_ _ hB hR hD=>aah ((hR 14 rfl).trans (aab rfl))⟩,
           ⟨rfl,fun a_ w_ _ hB hR hD=>ah3 (show a_.eval (.tmp 70)=.slice (some ⟨bm,om,none⟩) np cm from hD 5 rfl) (show a_.eval (.tmp 71)=.int .i64 (k:Int)from hD 6 rfl) (by omega)⟩,
           ⟨rfl,fun a_ w_ _ hB hR hD=>aev (show a_.eval (.tmp 72)=.pointer (some ⟨bm,om+k,none⟩)from hD 7 rfl) ((hB.cell (p:=⟨bm,om+k,none⟩) hbm).trans xm)⟩,
           ⟨rfl,fun a_ w_ _ hB hR hD=>aah ((hR 1 rfl).trans (aab rfl))⟩,
           ⟨rfl,fun a_ w_ _ hB hR hD=>ac8 (show a_.eval (.tmp 73)=.slice (some ⟨bb,ob,none⟩) (n+1) ecc from hD 8 rfl) rfl (show a_.eval (.tmp 74)=.int .i64 (n:Int)from hD 9 rfl) hlt1⟩,
           ⟨rfl,fun a_ w_ _ hB hR hD=>acg (show a_.eval (.tmp 75)=.pointer (some ⟨bb,ob+n*2,none⟩)from hD 10 rfl) ((hB.cell (p:=⟨bb,ob+n*2,none⟩) hblb).trans pc0) ((hB.cell (p:=⟨bb,ob+n*2+1,none⟩) hblb).trans pc1) (Mono.of4 (OutN.mono4 _ _) _ _ _ hB HCV.out)⟩,
           ⟨rfl,fun a_ w_ _ hB hR hD=>aah ((hR 10 rfl).trans (aab rfl))⟩,
           ⟨rfl,fun a_ w_ _ hB hR hD=>aah ((hR 14 rfl).trans (aab rfl))⟩,
           ⟨rfl,fun a_ w_ _ hB hR hD=>ah3 (show a_.eval (.tmp 77)=.slice (some ⟨bm,om,none⟩) np cm from hD 12 rfl) (show a_.eval (.tmp 78)=.int .i64 (k:Int)from hD 13 rfl) (by omega)⟩,
           ⟨rfl,fun a_ w_ _ hB hR hD=>aev (show a_.eval (.tmp 79)=.pointer (some ⟨bm,om+k,none⟩)from hD 14 rfl) ((hB.cell (p:=⟨bm,om+k,none⟩) hbm).trans xm)⟩,
           ⟨rfl,fun a_ w_ _ hB hR hD=>aah ((hR 11 rfl).trans (aab rfl))⟩,
           ⟨rfl,fun a_ w_ _ hB hR hD=>aah ((hR 14 rfl).trans (aab rfl))⟩,
           ⟨rfl,fun a_ w_ _ hB hR hD=>amp (show a_.eval (.tmp 81)=.slice (some ⟨gq,0,none⟩) np cpv from hD 16 rfl) (show a_.eval (.tmp 82)=.int .i64 (k:Int)from hD 17 rfl) (by omega)⟩,
           ⟨rfl,fun a_ w_ _ hB hR hD=>aon (show a_.eval (.tmp 83)=.pointer (some ⟨gq,k,none⟩)from hD 18 rfl) ((hB.cell (p:=⟨gq,k,none⟩) hgql).trans xq)⟩,
           ⟨rfl,fun a_ w_ _ hB hR hD=>ac8 (show a_.eval (.tmp 80)=.slice (some ⟨bb,ob,none⟩) (n+1) ecc from hD 15 rfl) rfl (show a_.eval (.tmp 84)=.int .i64 (q:Int)from hD 19 rfl) hqn1⟩,
           ⟨rfl,fun a_ w_ _ hB hR hD=>acg (show a_.eval (.tmp 85)=.pointer (some ⟨bb,ob+q*2,none⟩)from hD 20 rfl) ((hB.cell (p:=⟨bb,ob+q*2,none⟩) hblb).trans pp0) ((hB.cell (p:=⟨bb,ob+q*2+1,none⟩) hblb).trans pp1) (Mono.of4 (OutN.mono4 _ _) _ _ _ hB HPV.out)⟩,
           ⟨rfl,fun a_ w_ _ hB hR hD=>av1 (show(OutN (ec) (3*(S+1))) (a_.eval (.tmp 76)) w_ from hD 11 rfl) (show(OutN (ep) (3*(S+1))) (a_.eval (.tmp 86)) w_ from hD 21 rfl) (by omega) HEP.out⟩,
           trivial⟩
        ·intro a' w' hn' hd' hB' hR' hP';have e65:a'.eval (.tmp 65)=.slice (some ⟨bv,0,none⟩) n n:=hP' 0 (by decide);have e66:a'.eval (.tmp 66)=.slice (some ⟨gq,0,none⟩) np cpv:=hP' 1 (by decide);have e67:a'.eval (.tmp 67)=.int .i64 (k:Int):=hP' 2 (by decide);have e68:a'.eval (.tmp 68)=.pointer (some ⟨gq,k,none⟩):=hP' 3 (by decide);have e69:a'.eval (.tmp 69)=.int .i64 (q:Int):=hP' 4 (by decide);have e70:a'.eval (.tmp 70)=.slice (some ⟨bm,om,none⟩) np cm:=hP' 5 (by decide);have e71:a'.eval (.tmp 71)=.int .i64 (k:Int):=hP' 6 (by decide);have e72:a'.eval (.tmp 72)=.pointer (some ⟨bm,om+k,none⟩):=hP' 7 (by decide);have e73:a'.eval (.tmp 73)=.slice (some ⟨bb,ob,none⟩) (n+1) ecc:=hP' 8 (by decide);have e74:a'.eval (.tmp 74)=.int .i64 (n:Int):=hP' 9 (by decide);have e75:a'.eval (.tmp 75)=.pointer (some ⟨bb,ob+n*2,none⟩):=hP' 10 (by decide);obtain⟨u76,e76⟩:∃u,a'.eval (.tmp 76)=u:=⟨_,rfl⟩;have e77:a'.eval (.tmp 77)=.slice (some ⟨bm,om,none⟩) np cm:=hP' 12 (by decide);have e78:a'.eval (.tmp 78)=.int .i64 (k:Int):=hP' 13 (by decide);have e79:a'.eval (.tmp 79)=.pointer (some ⟨bm,om+k,none⟩):=hP' 14 (by decide);have e80:a'.eval (.tmp 80)=.slice (some ⟨bb,ob,none⟩) (n+1) ecc:=hP' 15 (by decide);have e81:a'.eval (.tmp 81)=.slice (some ⟨gq,0,none⟩) np cpv:=hP' 16 (by decide);have e82:a'.eval (.tmp 82)=.int .i64 (k:Int):=hP' 17 (by decide);have e83:a'.eval (.tmp 83)=.pointer (some ⟨gq,k,none⟩):=hP' 18 (by decide);have e84:a'.eval (.tmp 84)=.int .i64 (q:Int):=hP' 19 (by decide);have e85:a'.eval (.tmp 85)=.pointer (some ⟨bb,ob+q*2,none⟩):=hP' 20 (by decide);obtain⟨u86,e86⟩:∃u,a'.eval (.tmp 86)=u:=⟨_,rfl⟩;obtain⟨u87,e87⟩:∃u,a'.eval (.tmp 87)=u:=⟨_,rfl⟩;have hT:(OutQ (nm ec ep) (dn ec ep) (3*(S+1)+3*(S+1))) (a'.eval (.tmp 87)) w':=hP' 22 (by decide);rw[e87]at hT;refine abl hn' hd' hR' (.s16 rfl <| .s16 rfl <| .s16 rfl <| .s16 rfl <| .same rfl <| .new e65 <| .new e66 <| .new e67 <| .new e68 <| .new e69 <| .new e70 <| .new e71 <| .new e72 <| .new e73 <| .new e74 <| .new e75 <| .new e76 <| .new e77 <| .new e78 <| .new e79 <| .new e80 <| .new e81 <| .new e82 <| .new e83 <| .new e84 <| .new e85 <| .new e86 <| .new e87 <| .same rfl <| .same rfl <| .nil) ?_;clear e65 e66 e67 e68 e69 e70 e71 e72 e73 e74 e75 e76 e77 e78 e79 e80 e81 e82 e83 e84 e85 e86 e87;obtain⟨ngx,ax,mx,cx,mgx,dx,ex,fx,rfl,hO1,hO2⟩:=hT.parts;have hP8:=HP.out.below hB';obtain⟨⟨ng0,a0,m0,c0,mg0,d0,e0,f0,x0,x1,x2,x3⟩,z0,z1,z2,z3⟩:=hP8.cells hqn;rw[al4 _ HEP.out]at hO1;rw[al5 _ HEP.out]at hO2;rw[HFR.out]at hO1 hO2;obtain⟨hQ,hBl,hR,_⟩:=hP8.put (k:=q) (ng:=ngx) (a:=ax) (m:=mx) (c:=cx) (mg:=mgx) (d:=dx) (e:=ex) (f:=fx) hqn (hO1.wide3 (by omega)) (hO2.wide3 (by omega));have HQ:Hid (PFr (qput w' bv q ngx ax mx cx mgx dx ex fx) bv n (fun _=>True) (solF n R Q (k+1)) (6*(S+1))):=(hQ.mono fun j hj _=>⟨.inl trivial,aun HQK.out.1 j⟩);have HBl:Hid (Below w1.heap.size w1 (qput w' bv q ngx ax mx cx mgx dx ex fx)):=((HBK.out.trans (hB'.mono HBK.out.size)).trans (hBl _ (by have:=HBV.out;omega)));simp only[qput]at HQ HBl;clear hP8 hQ hBl hR hO1 hO2 hT hB' hR' hP' hn' hd' xq xm pc0 pc1 pp0 pp1 hgql hbm hblb;go_wp2;go_roundw
         case rel=>
          refine⟨k+1,by go_num,by omega,fun j hj=>?_,HQ.out,HBl.out⟩;rcases(abc HQK.out.1).1 hj with h|rfl
          ·exact HNQ.out j h
          ·exact HQK.out.2
         case measure=>simp[intOf];omega
      ·have hltk':decide ((k:Int)<(t:Int))=false:=by simp;omega
       obtain rfl:t=k:=by omega
       have HNI:Hid (n∉Q):=(fun hc=>by
        have h1:=HNQ.out;rw[List.take_of_length_le (by rw[List.length_reverse];have:=HT.out.1;omega)]at h1
        exact h1 n (List.mem_reverse.2 hc) rfl)
       have HFN:Hid (PFr wr bv n (fun _=>True) (solG n R Q) (6*(S+1))):=(hp.mono fun j hj _=>⟨trivial,by rw[<-HT.out.1];exact aws HRD.out.gat.ne j⟩);clear hnq hp hbk HPC HBC HP;go_wp2;refine bodyPost_ret (v:=_) (by simp[results,Tryz.results34,go_sem];try rfl) rfl ⟨⟨m,R,Q,X,HRD.out,.inr ⟨HNI.out,bv,rfl,HFN.out⟩⟩,HWF.out⟩
end Lm
namespace Lm
open Go Go.RowKit Md
theorem auo{R:List Md.Rw}{Q:List Nat}{k:Nat}(h:∃e∈efOf R Q,e.1=k):k∈Q:=by
 obtain⟨e,he,rfl⟩:=h;unfold efOf at he;obtain⟨p,hp,rfl⟩:=List.mem_map.1 he;exact List.mem_reverse.1 hp
theorem aew{n k:Nat}{rows m:List (List Int)}{R X R':List Md.Rw}{Q Q':List Nat}{torn:Bool}(h:RdI (n+1) rows (n+1) m R Q X)(hrn:∀r∈rows,r.length=n+1)(h':GatI (n+1) n rows k R' Q' torn)(hk:rows.length<=k):torn=true↔n∈Q:=by
 constructor
 ·intro ht;obtain⟨y,h1,⟨c,h2,h3⟩,h4⟩:=h'.tor ht;have hcn:c=n:=by
   apply Classical.byContradiction;intro hne;exact h3 (h1 c (by omega))
  subst hcn;rw[<-h.rs_rows hrn]at h4;exact auo (h.gat.ef.first (h.gat.in_ef h4) h3 h1)
 ·intro hn;cases torn with
  |true=>rfl
  |false=>
   exfalso;have hin:∀r∈rows,RS R' (fnR r):=fun r hr=>h'.inr rfl r (by rw[List.take_of_length_le hk];exact hr)
   have he:((n,fun k=>D R (sub n k Q)):Nat×Md.Rw)∈efOf R Q:=List.mem_map.2 ⟨n,List.mem_reverse.2 hn,rfl⟩;have h1:RS R (fun k=>D R (sub n k Q)):=.of (h.gat.ef_in _ he);rw[h.rs_rows hrn]at h1;have h2:RS R' (fun k=>D R (sub n k Q)):=h1.trans fun y hy=>by
    obtain⟨r,hr,rfl⟩:=List.mem_map.1 hy;exact hin r hr
   have h3:=auo (h'.gat.ef.first (h'.gat.in_ef h2) (k:=n) (h.gat.ef.ne _ he) (fun j hj=>h.gat.ef.led _ he j hj));have:=h'.gat.lt n h3;omega
theorem ams{n k:Nat}{rows m:List (List Int)}{R X R':List Md.Rw}{Q Q':List Nat}(h:RdI (n+1) rows (n+1) m R Q X)(hrn:∀r∈rows,r.length=n+1)(h':GatI (n+1) n rows k R' Q' false)(hk:rows.length<=k)(c:Nat):solG n R Q c=solG n R' Q' c:=by
 have hin:∀r∈rows,RS R' (fnR r):=fun r hr=>h'.inr rfl r (by rw[List.take_of_length_le hk];exact hr)
 have a1:∀e∈efOf R Q,RS (rowsE (efOf R' Q')) e.2:=fun e he=>h'.gat.in_ef (by
  have h1:RS R e.2:=.of (h.gat.ef_in e he);rw[h.rs_rows hrn]at h1;exact h1.trans fun y hy=>by
   obtain⟨r,hr,rfl⟩:=List.mem_map.1 hy
   exact hin r hr)
 have a2:∀f∈efOf R' Q',RS (rowsE (efOf R Q)) f.2:=fun f hf=>h.gat.in_ef (by
  rw[h.rs_rows hrn];refine RS.trans (.of (h'.gat.ef_in f hf)) fun y hy=>?_
  obtain⟨r,hr,rfl⟩:=h'.sub y hy
  exact .mem (List.mem_map.2 ⟨r,List.mem_of_mem_take hr,rfl⟩))
 obtain⟨e1,e2⟩:=an6 h.gat.ef h'.gat.ef a1 a2;have hQ:∀(R:List Md.Rw) (Q:List Nat),(efOf R Q).map Prod.fst=Q.reverse:=fun R Q=>by
  unfold efOf;rw[List.map_map];exact List.map_id _
 rw[hQ,hQ,List.reverse_inj]at e1;subst e1;have hd:=h.gat.ne;have hd':=h'.gat.ne;by_cases hc:c∈Q
 ·have h1:((c,fun k=>D R (sub c k Q)):Nat×Md.Rw)∈efOf R Q:=List.mem_map.2 ⟨c,List.mem_reverse.2 hc,rfl⟩;have h2:((c,fun k=>D R' (sub c k Q)):Nat×Md.Rw)∈efOf R' Q:=List.mem_map.2 ⟨c,List.mem_reverse.2 hc,rfl⟩;have h3:=e2 _ h1 _ h2 rfl n;simp only[sub_self]at h3;unfold solG solN;rw[if_pos hc,if_pos hc];refine(Rat.divInt_eq_divInt_iff hd hd').2 ?_;rw[Int.mul_comm,h3,Int.mul_comm]
 ·rw[ags n R Q hd hc,ags n R' Q hd' hc]
end Lm
namespace Lm
open Go Go.RowKit Md
noncomputable def cnl(n:Nat):List Int:=Classical.choose (Classical.choose_spec (aef n))
theorem ac2(n:Nat):Canon (cnl n)/\val (cnl n)=(n:Int):=by
 have h:=Classical.choose_spec (Classical.choose_spec (aef n));exact⟨h.1,h.2.1⟩
theorem FrW.oww{K:Nat}{z:Int}{L:Nat}{v:Value}{w:World}(h:FrW K z L v w):OwW K (decide (z<0)) (cnl z.natAbs) v w:=by
 obtain⟨ng,ao,cap,rs,B,T,rfl,hW,hB,hT,hl⟩:=h;have e:rs=cnl z.natAbs:=acb hW.fr.canon (ac2 _).1 (by rw[hW.fr.val,(ac2 _).2]);subst e;rw[hW.sgn];exact⟨ao,cap,rfl,hW.fr.ow.mono hB⟩
section
variable {dst:Option Tmp} {ty:TypeId} {pos:String} {after:Array Edge} {guard:Option (Nat×Bool)} {a:Act} {w:World} {ats:Array TypeId} {i j:Nat}
theorem aq1:Has Tryz.prog 45:=by unfold Has;kernel_rfl
theorem aup{K:Nat}{z:Int}{L:Nat}(h:OutN z L (a.eval (.tmp i)) w)(hL:L<=1000000)(hK:K<=w.heap.size):
  Does Tryz.prog {dst,op:=.call {callee:=.value (.func 45),args:=#[.tmp i],argTypes:=ats},type:=ty,pos,after,guard} a.eval w fun v w'=>Below w.heap.size w w'/\OwW K (decide (z<0)) (cnl z.natAbs) v w':=by
 refine aaq aq1 #[_] (by simp) ((ntoldF w z _ L h hL).mono ?_);rintro e w' ⟨v,rfl,hf,hb⟩;obtain⟨ao,cap,e,ho⟩:=hf.oww;exact⟨_,rfl,hb,ao,cap,e,ho.mono hK⟩
theorem ano:Has Tryz.prog 69:=by unfold Has;kernel_rfl
theorem aq2{K n:Nat}{L:Nat}(h:OutN (n:Int) L (a.eval (.tmp i)) w)(hL:L<=1000000)(hK:K<=w.heap.size):
  Does Tryz.prog {dst,op:=.call {callee:=.value (.func 69),args:=#[.tmp i],argTypes:=ats},type:=ty,pos,after,guard} a.eval w fun v w'=>Below w.heap.size w w'/\OwL K (cnl n) v w':=by
 obtain⟨ng,ao,cap,rs,e,W,l⟩:=h;have hG:Dm.Got w ao cap rs (n:Int):=by
  have:=W.1;simpa using this
 have hlt:(n:Int)<pw L:=by
  have:=W.bound l;simpa using this
 refine aaq ano #[.agg #[.bool ng,.slice ao rs.length cap]] (by simp[e]) ((Dm.agh w ng ao cap rs (n:Int) hG L hlt hL (by omega)).mono ?_);rintro e w' ⟨v,rfl,⟨us,ho,hc,hv⟩,hb⟩;have eu:us=cnl n:=acb hc (ac2 _).1 (by rw[hv,(ac2 _).2]);subst eu;obtain⟨ao',cap',hvv,_⟩:=id ho;exact⟨_,rfl,hb,ao',cap',hvv,ho.mono hK⟩
theorem aop{b off:Nat}{ng:Bool}{ao:Option Addr}{n c:Nat}{q:Says}(hp:a.eval (.tmp i)=.pointer (some ⟨b,off,none⟩))(h0:w.cell? ⟨b,off,none⟩=some (.bool ng))(h1:w.cell? ⟨b,off+1,none⟩=some (.slice ao n c))(hv:q (.agg #[.bool ng,.slice ao n c]) w):
  Does Tryz.prog {dst,op:=.load 82 (.tmp i),type:=ty,pos,after,guard} a.eval w fun v' w'=>Below w.heap.size w w'/\q v' w':=acg hp h0 h1 hv
end
theorem auq{K K':Nat}{w:World}{v:Value}{E:TypeId}{sz n:Nat}{xs:List Value}(h:w.ownsRow K E sz v n xs)(hk:K'<=K):w.ownsRow K' E sz v n xs:=by
 obtain⟨h1,h2|⟨g,cap,cur,e,hg,h3⟩⟩:=h
 ·exact⟨h1,.inl h2⟩
 ·exact⟨h1,.inr ⟨g,cap,cur,e,Nat.le_trans hk hg,h3⟩⟩
def TdR(K:Nat)(r:Rat):Says:=OwR K (decide (r.num<0)) (cnl r.num.natAbs) (cnl r.den)
theorem awt(w:World)(ng:Bool)(a:Option Addr)(m c:Nat)(mg:Bool)(d:Option Addr)(e f:Nat)(r:Rat)(L:Nat)(h1:OutN r.num L (.agg #[.bool ng,.slice a m c]) w)(h2:OutN (r.den:Int) L (.agg #[.bool mg,.slice d e f]) w)(hL:L<=1000000):
  Calls Tryz.prog 38 #[.agg #[.bool ng,.slice a m c,.bool mg,.slice d e f]] w fun e w'=>∃v,e=.returned v/\TdR w.heap.size r v w'/\Below w.heap.size w w':=by
 obtain⟨w0,hw0,h0,h3,hB0⟩:=boxz w (.cells #[.bool ng,.slice a m c,.bool mg,.slice d e f] 84);have H1:=hide (h1.rl (Rl.of_below hB0));have H2:=hide (h2.rl (Rl.of_below hB0));clear h1 h2;go_enter Tryz.func38,Tryz.ntmps38
 go_upto_region 1 with fail
 clear hw0;have hq:∀j,w0.cell? ⟨w.heap.size,j,none⟩=(#[.bool ng,.slice a m c,.bool mg,.slice d e f]:Array Value)[j]? :=fun j=>cell_of_row w0 w.heap.size j _ _ (0,0) h0
 have q0:w0.cell? ⟨w.heap.size,0,none⟩=some (.bool ng):=by rw[hq];rfl
 have q1:w0.cell? ⟨w.heap.size,0+1,none⟩=some (.slice a m c):=by rw[hq];rfl
 have q2:w0.cell? ⟨w.heap.size,0+2,none⟩=some (.bool mg):=by rw[hq];rfl
 have q3:w0.cell? ⟨w.heap.size,0+2+1,none⟩=some (.slice d e f):=by rw[hq];rfl
 have hl0:=aaa h0;refine ab4 7 [3,4,5,6,7,8,9] [Eqs (.pointer (some ⟨w.heap.size,0,none⟩)),(OutN r.num L),(OwW w.heap.size (decide (r.num<0)) (cnl r.num.natAbs)),Eqs (.pointer (some ⟨w.heap.size,0+2,none⟩)),(OutN (r.den:Int) L),(OwL w.heap.size (cnl r.den)),(TdR w.heap.size r)] rfl rfl (by decide) (by kernel_rfl) (by kernel_rfl) (by decide) (by kernel_rfl) ⟨Eqs.mono _,(Mono.of4 (OutN.mono4 _ _)),(Mono.of4 (OwW.mono4 _ _ _)),Eqs.mono _,(Mono.of4 (OutN.mono4 _ _)),(Mono.of4 (OwL.mono4 _ _)),(Mono.of4 (fun v w w_ hr h=>OwR.mono5 _ _ _ _ v w w_ (Ru.of_rl hr) h)),trivial⟩ ?_ ?_
 ·exact⟨⟨rfl,fun a_ w_ _ hB hR hD=>ay0 ((hR 1 rfl).trans (aab rfl))⟩,
    ⟨rfl,fun a_ w_ _ hB hR hD=>aop (show a_.eval (.tmp 3)=.pointer (some ⟨w.heap.size,0,none⟩)from hD 0 rfl) ((hB.cell (p:=⟨w.heap.size,0,none⟩) hl0).trans q0) ((hB.cell (p:=⟨w.heap.size,0+1,none⟩) hl0).trans q1) (Mono.of4 (OutN.mono4 _ _) _ _ _ hB H1.out)⟩,
    ⟨rfl,fun a_ w_ _ hB hR hD=>aup (show(OutN r.num L) (a_.eval (.tmp 4)) w_ from hD 1 rfl) hL (Nat.le_trans hB0.size hB.size)⟩,
    ⟨rfl,fun a_ w_ _ hB hR hD=>ay1 ((hR 1 rfl).trans (aab rfl))⟩,
    ⟨rfl,fun a_ w_ _ hB hR hD=>aop (show a_.eval (.tmp 6)=.pointer (some ⟨w.heap.size,0+2,none⟩)from hD 3 rfl) ((hB.cell (p:=⟨w.heap.size,0+2,none⟩) hl0).trans q2) ((hB.cell (p:=⟨w.heap.size,0+2+1,none⟩) hl0).trans q3) (Mono.of4 (OutN.mono4 _ _) _ _ _ hB H2.out)⟩,
    ⟨rfl,fun a_ w_ _ hB hR hD=>aq2 (show(OutN (r.den:Int) L) (a_.eval (.tmp 7)) w_ from hD 4 rfl) hL (Nat.le_trans hB0.size hB.size)⟩,
    ⟨rfl,fun a_ w_ _ hB hR hD=>ayt (show(OwW w.heap.size (decide (r.num<0)) (cnl r.num.natAbs)) (a_.eval (.tmp 5)) w_ from hD 2 rfl) (show(OwL w.heap.size (cnl r.den)) (a_.eval (.tmp 8)) w_ from hD 5 rfl)⟩,
    trivial⟩
 ·intro a' w' hn' hd' hB' hR' hP';have e3:a'.eval (.tmp 3)=.pointer (some ⟨w.heap.size,0,none⟩):=hP' 0 (by decide);obtain⟨u4,e4⟩:∃u,a'.eval (.tmp 4)=u:=⟨_,rfl⟩;obtain⟨u5,e5⟩:∃u,a'.eval (.tmp 5)=u:=⟨_,rfl⟩;have e6:a'.eval (.tmp 6)=.pointer (some ⟨w.heap.size,0+2,none⟩):=hP' 3 (by decide);obtain⟨u7,e7⟩:∃u,a'.eval (.tmp 7)=u:=⟨_,rfl⟩;obtain⟨u8,e8⟩:∃u,a'.eval (.tmp 8)=u:=⟨_,rfl⟩;obtain⟨u9,e9⟩:∃u,a'.eval (.tmp 9)=u:=⟨_,rfl⟩;have hT:(TdR w.heap.size r) (a'.eval (.tmp 9)) w':=hP' 6 (by decide);rw[e9]at hT;refine abl hn' hd' hR' (.same rfl <| .same rfl <| .same rfl <| .new e3 <| .new e4 <| .new e5 <| .new e6 <| .new e7 <| .new e8 <| .new e9 <| .nil) ?_;clear e3 e4 e5 e6 e7 e8 e9;obtain⟨ao,cap,bo,dap,rfl,o1,o2⟩:=hT;have h1':=(hB'.block _ (aaa h3)).trans h3;obtain⟨_,c0,c1,c2,g0,g1,g2⟩:=abz h1';obtain⟨e1,e2⟩:=ar0 (decide (r.num<0)) ao (cnl r.num.natAbs).length cap bo (cnl r.den).length dap (Nat.le_succ w.heap.size) h1' (hB0.trans (hB'.mono hB0.size));have E:=hide (And.intro e1 e2);have HR:=hide (aii h1' (.bool (decide (r.num<0))) (.slice ao (cnl r.num.natAbs).length cap) (.slice bo (cnl r.den).length dap));have HO:=hide (And.intro o1 o2);clear hB' hR' hP' hn' hd' h1' e1 e2 o1 o2 h0 h3 hB0 q0 q1 q2 q3 hq hl0;go_wp2;exact bodyPost_ret (v:=.agg #[.bool (decide (r.num<0)),.slice ao (cnl r.num.natAbs).length cap,.slice bo (cnl r.den).length dap]) (aby (g:=w.heap.size+1) rfl rfl E.out.2) rfl ⟨_,rfl,⟨_,_,_,_,rfl,HO.out.1.ru HR.out,HO.out.2.ru HR.out⟩,E.out.1⟩
theorem awu(w:World)(ng:Bool)(a:Option Addr)(m c:Nat)(mg:Bool)(d:Option Addr)(e f:Nat)(r:Rat)(L:Nat)(h1:OutN r.num L (.agg #[.bool ng,.slice a m c]) w)(h2:OutN (r.den:Int) L (.agg #[.bool mg,.slice d e f]) w)(hL:L<=1000000):
  Calls Tryz.prog 37 #[.agg #[.bool ng,.slice a m c,.bool mg,.slice d e f]] w fun e w'=>(∃k:Nat,e=.returned (.int .i64 (k:Int))/\decide ((k:Int) > 32)=bigQ r)/\Below w.heap.size w w':=by
 obtain⟨ng',ao,cap,rs,e1,W1,l1⟩:=h1;obtain⟨mg',bo,dap,ss,e2,W2,l2⟩:=h2;injection e1 with e1;injection e2 with e2;simp only[Array.mk.injEq,List.cons.injEq,Value.bool.injEq,Value.slice.injEq,and_true]at e1 e2;obtain⟨rfl,rfl,rfl,rfl⟩:=e1;obtain⟨rfl,rfl,rfl,rfl⟩:=e2;obtain⟨mP,hP⟩:=aef r.num.natAbs;obtain⟨mQ,hQ⟩:=aef r.den;refine(ayz w L _ _ _ _ _ W1 l1 _ _ _ _ _ W2 l2 hL mP mQ hP (by simpa using hQ)).mono ?_;rintro e w' ⟨v,rfl,rfl,hb⟩;refine⟨⟨max mP mQ,rfl,?_⟩,hb⟩;have hp:=ama hP;have hq:=ama hQ;rw[Bool.eq_iff_iff,decide_eq_true_iff];unfold bigQ;simp only[Bool.or_eq_true,decide_eq_true_eq];rw[<-hp,<-hq];omega
def WtR(K:Nat)(w:World)(v:Value)(rs:List Rat):Prop:=∃es:List QE,RqO K w v es/\es.map QE.raw=rs.map (fun r=>(decide (r.num<0),cnl r.num.natAbs,cnl r.den))
theorem aq3(w:World)(v vr:Value)(rows:List (List Int))(ys:List Int)(n S:Nat)(B:Md.Rw->Nat)(h:IsM w v rows (S+1))(hs:Shaped rows (n:Int))(hS:S<=1500)(hy:IsRow w vr ys (S+1))(hyl:ys.length=rows.length)(hB:Bnd (besR rows ys) S B):
  Calls Tryz.prog 11 #[v,.int .i64 (n:Int),vr] w fun e w'=>(∃m R Q X,RdI (n+1) (besR rows ys) (n+1) m R Q X/\((n∈Q/\e=.returned (.tuple #[.slice none 0 0,.bool false,.int .i64 0]))\/(n∉Q/\(((qRow (solG n R Q) n).any bigQ=true/\e=.returned (.tuple #[.slice none 0 0,.bool false,.int .i64 2]))\/((qRow (solG n R Q) n).any bigQ=false/\∃wv,e=.returned (.tuple #[wv,.bool true,.int .i64 0])/\WtR w.heap.size w' wv (qRow (solG n R Q) n))))))/\Below w.heap.size w w':=by
 have K0:=ai7 w v rows (S+1) h (n:Int);rw[decide_eq_true hs]at K0;have K0:=hide K0;have hn32:n<=32:=by have:=hs.2.1;omega
 have hrn:∀r∈rows,r.length=n:=fun r hr=>by have:=hs.2.2.2 r hr;omega
 have hr64:=hs.2.2.1;have K1:=hide (aue w v rows (S+1) h (by omega) (fun r hr=>by rw[hrn r hr];omega) (by omega));have K2:Hid (∀w1,Below w.heap.size w w1->_):=(fun w1 hb=>al6 w1 vr ys (S+1) (hy.below hb) (by omega) (by omega));have HBN:=hide hB;have HRN:=hide hrn;obtain⟨ao,cp,rfl,hn⟩:=h.parts;obtain⟨av,cv,rfl,_⟩:=hy.parts;rw[hyl]at K2 ⊢;have HYL:=hide hyl;obtain⟨r,hr⟩:∃r,rows.length=r:=⟨_,rfl⟩;rw[hr]at K0 K1 K2 hr64 ⊢;have HR:=hide hr;have hnn:((r:Int) != (r:Int))=false:=by simp
 clear h hs hB hrn hy hyl hr;go_enter Tryz.func11,Tryz.ntmps11
 go_wp2_with fail
 refine K0.out.mono ?_;rintro e w1 ⟨rfl,rfl⟩;clear K0;go_wp2_with fail
 refine K1.out.mono ?_;rintro e w2 ⟨r2,vs2,rfl,hM2,hb2⟩;have K3:=hide (K2.out w2 hb2);obtain⟨a2,c2,hv2,-⟩:=Ce.own hM2.own;subst hv2;have HM2:=hide hM2;have HB2:=hide hb2;clear hb2 hM2 K1 K2;go_wp2_with fail
 refine K3.out.mono ?_;rintro e w3 ⟨r3,rfl,hR3,hb3⟩;have K4:=hide (ann w3 _ r3 rows ys n S B (HM2.out.nm.below hb3) HRN.out (by have:=HR.out;omega) hn32 hS hR3 (by have:=HYL.out;omega) HBN.out);obtain⟨a3,c3,rfl,-⟩:=id hR3.parts;have HB3:=hide (HB2.out.trans (hb3.mono HB2.out.size));clear hR3 hb3 K3;go_wp2_with fail
 refine K4.out.mono ?_;rintro e w4 ⟨⟨m,R,Q,X,hRd,⟨hnQ,rfl⟩|⟨hnQ,bv,rfl,hPF⟩⟩,hb4⟩
 ·have HB4:=hide (HB3.out.trans (hb4.mono HB3.out.size));have HX:=hide (And.intro hRd hnQ);clear hRd hnQ hb4 K4;go_wp2_with fail
  go_loopw [11,12] (fun ov iv wr=>ov=.slice none 0 0/\iv=.int .i64 0/\wr=w4) (fun _ _ _=>0)
  case atStart=>exact⟨rfl,rfl,rfl⟩
  case round=>
   obtain⟨rfl,rfl,rfl⟩:=hrel;go_wp2;refine bodyPost_ret (v:=_) (by simp[results,Tryz.results11,go_sem];try rfl) rfl ⟨⟨m,R,Q,X,HX.out.1,.inl ⟨HX.out.2,rfl⟩⟩,HB4.out⟩
 ·have HB4:=hide (HB3.out.trans (hb4.mono HB3.out.size));have HX:=hide (And.intro hRd hnQ);have HPF:=hide hPF;clear hRd hnQ hb4 K4 hPF;go_wp2_with fail
  go_loopw [11,12] (fun ov iv wr=>∃(k:Nat) (es:List QE),iv=.int .i64 k/\k<=n/\Below w4.heap.size w4 wr/\((qRow (solG n R Q) n).take k).any bigQ=false/\RqO w4.heap.size wr ov es/\es.map QE.raw=((qRow (solG n R Q) n).take k).map (fun r=>(decide (r.num<0),cnl r.num.natAbs,cnl r.den))) (fun _ iv _=>n-(intOf iv).toNat)
  case atStart=>exact⟨0,[],rfl,Nat.zero_le _,Below.refl _ _,by simp,aod _ _,by simp⟩
  case round=>
   obtain⟨k,es,rfl,hk,hbk,hany,hown,hraw⟩:=hrel;have HW:=hide hbk;have HY:=hide hany;have HOWN:=hide hown;have HRAW:=hide hraw;have hel:es.length=k:=by have:=congrArg List.length hraw;simp[qRow]at this;omega
   obtain⟨oa,oc,hov,-⟩:=Ce.own hown.own;subst hov;rw[hel]at HOWN ⊢;have HEL:=hide hel;clear hel;by_cases hlt:k<n
   ·have hlt':(k:Int)<(n:Int):=by omega
    have hP:=HPF.out.below hbk;obtain⟨fs,q1,q2,q3⟩:=id hP;obtain⟨f,g,f1,g1,o1,o2⟩:=q3 k hlt trivial;obtain⟨x0,x1⟩:=aa2 f1;obtain⟨x2,x3⟩:=aa2 g1;rw[show 2*k*2=k*4 by omega]at x0 x1;rw[show(2*k+1)*2=k*4+2 by omega]at x2 x3;have hcl:∀j,wr.cell? ⟨bv,j,none⟩=(flat fs)[j]? :=fun j=>by rw[cell_of_row _ _ _ _ _ (0,0) q2,List.getElem?_toArray]
    replace x0:=(hcl _).trans x0;replace x1:=(hcl _).trans x1;replace x2:=(hcl _).trans x2;replace x3:=(hcl _).trans x3;have hbl:=hP.lt;have KL:=hide (awu wr f.ng f.a f.m f.c g.ng g.a g.m g.c (solG n R Q k) (6*(S+1)) o1 o2 (by omega));have HO:=hide (And.intro o1 o2);have hqk:(qRow (solG n R Q) n)[k]? = some (solG n R Q k):=aoo hlt;have HQK:=hide hqk;clear hbk hany hown hraw hP q1 q2 q3 f1 g1 o1 o2 hcl hqk;go_wp2_with fail
    refine KL.out.mono ?_;rintro e w5 ⟨⟨kk,rfl,hbig⟩,hb5⟩;have HBG:=hide hbig;have HB5:=hide (HW.out.trans (hb5.mono HW.out.size));have HB05:=hide (HB4.out.trans (HB5.out.mono HB4.out.size));replace x0:=(hb5.cell (p:=⟨bv,k*4,none⟩) hbl).trans x0;replace x1:=(hb5.cell (p:=⟨bv,k*4+1,none⟩) hbl).trans x1;replace x2:=(hb5.cell (p:=⟨bv,k*4+2,none⟩) hbl).trans x2;replace x3:=(hb5.cell (p:=⟨bv,k*4+3,none⟩) hbl).trans x3;replace hbl:=Nat.lt_of_lt_of_le hbl hb5.size;obtain⟨bb,hbb⟩:∃b,decide ((kk:Int) > 32)=b:=⟨_,rfl⟩;have HBB:=hide hbb;cases bb with
    |true=>
     have HANY:Hid ((qRow (solG n R Q) n).any bigQ=true):=(show _=_ by rw[List.any_eq_true];exact⟨_,List.mem_of_getElem? HQK.out,by rw[<-HBG.out];exact HBB.out⟩);clear hbig hb5 KL;go_wp2;refine bodyPost_ret (v:=_) (by simp[results,Tryz.results11,go_sem];try rfl) rfl ⟨⟨m,R,Q,X,HX.out.1,.inr ⟨HX.out.2,.inl ⟨HANY.out,rfl⟩⟩⟩,HB05.out⟩
    |false=>
     have hO:=HO.out;have K6:=hide (awt w5 f.ng f.a f.m f.c g.ng g.a g.m g.c (solG n R Q k) (6*(S+1)) (hO.1.rl (Rl.of_below hb5)) (hO.2.rl (Rl.of_below hb5)) (by omega));have HOW5:=hide (HOWN.out.below hb5);clear hbig hb5 KL hO;go_wp2_with fail
     refine K6.out.mono ?_;rintro e w6 ⟨v6,rfl,⟨ao6,cap6,bo6,dap6,rfl,o61,o62⟩,hb6⟩;have hA:=hAl w6 (.cells #[.bool (decide ((solG n R Q k).num<0)),.slice ao6 (cnl (solG n R Q k).num.natAbs).length cap6,.slice bo6 (cnl (solG n R Q k).den).length dap6] 44);have hO:=heap_alloc_new w6 (.cells #[.bool (decide ((solG n R Q k).num<0)),.slice ao6 (cnl (solG n R Q k).num.natAbs).length cap6,.slice bo6 (cnl (solG n R Q k).den).length dap6] 44);have hb6':=hb6.trans (hA.mono hb6.size);have hRm:=HOW5.out.below hb6';have hS1:=(o61.mono HB5.out.size).below hA;have hS2:=(o62.mono HB5.out.size).below hA;have hsz:w4.heap.size<=(w6.alloc (.cells #[.bool (decide ((solG n R Q k).num<0)),.slice ao6 (cnl (solG n R Q k).num.natAbs).length cap6,.slice bo6 (cnl (solG n R Q k).den).length dap6] 44)).heap.size:=Nat.le_trans HB5.out.size hb6'.size;have hfl:es.length<=1000000:=by have:=HEL.out;omega
     go_wp2_with (at_builtin;refine abo rfl (ayu (i:=44) (j:=50) (x:=⟨_,ao6,_,cap6,bo6,_,dap6⟩) rfl rfl hRm hO hS1 hS2 hfl hsz) ?_)
     intro v7 w7 hR7 hb7;obtain⟨a7,c7,hv7,-⟩:=Ce.own hR7.own;subst hv7;have HR7:=hide hR7;have HB7:=hide ((HB5.out.trans (hb6'.mono HB5.out.size)).trans hb7);clear hR7 hb7 hO hRm hS1 hS2 hsz hA hb6 hb6' hfl K6 o61 o62 x0 x1 x2 x3 hbl;go_wp2;go_roundw
     case rel=>
      refine⟨k+1,_,by go_num,by omega,HB7.out,af5 HQK.out HY.out (by rw[<-HBG.out];exact HBB.out),HR7.out,?_⟩;rw[List.take_add_one,HQK.out,List.map_append,List.map_append,HRAW.out];rfl
     case measure=>simp[intOf];omega
   ·have hlt':decide ((k:Int)<(n:Int))=false:=by simp;omega
    obtain rfl:n=k:=by omega
    have htk:(qRow (solG n R Q) n).take n=qRow (solG n R Q) n:=List.take_of_length_le (by rw[ah5];omega);rw[htk]at HY HRAW;have HBF:=hide (HB4.out.trans (hbk.mono HB4.out.size));have HLO:Hid (WtR w1.heap.size wr (.slice oa n oc) (qRow (solG n R Q) n)):=⟨es,⟨auq HOWN.out.own HB4.out.size,fun e he=>(HOWN.out.o1 e he).mono HB4.out.size,fun e he=>(HOWN.out.o2 e he).mono HB4.out.size⟩,HRAW.out⟩;clear hbk hany hown hraw;go_wp2;refine bodyPost_ret (v:=_) (by simp[results,Tryz.results11,go_sem];try rfl) rfl ⟨⟨m,R,Q,X,HX.out.1,.inr ⟨HX.out.2,.inr ⟨HY.out,_,rfl,HLO.out⟩⟩⟩,HBF.out⟩
end Lm
namespace Lm
open Go Go.RowKit Md
set_option maxRecDepth 100000 in
theorem a1m(w:World)(Bx:Nat)(nx:Bool)(ax:Option Addr)(mx cx:Nat)(xs:List Int)(zx:Int)(Ax:Ag w nx ax mx cx xs zx)(Lx:xs.length<=Bx)(By:Nat)(ny:Bool)(ay:Option Addr)(my cy:Nat)(ys:List Int)(zy:Int)(Ay:Ag w ny ay my cy ys zy)(Ly:ys.length<=By)(hL:Bx+By<=100000)(hy:zy≠0):
  Calls Tryz.prog 30 #[.agg #[.bool nx,.slice ax mx cx],.agg #[.bool ny,.slice ay my cy]] w fun e w'=>∃v,e=.returned (.tuple #[v,.int .i64 0])/\OutR (nm zx zy) (dn zx zy) (Bx+By) v w'/\OwnRI (nm zx zy) (dn zx zy) (Bx+By) w.heap.size w'.heap.size v w'/\Below w.heap.size w w':=by
 obtain⟨w0,e0,hx,hy0,hz,hb⟩:=boxzz w (.cells #[.bool nx,.slice ax mx cx] 42) (.cells #[.bool ny,.slice ay my cy] 42);obtain⟨_,y0,y1,_,_⟩:=aam hy0;have E0:=hide e0;have K1:=hide (ak3 w0 ny ay my cy ys zy ⟨Ay.sl.below hb,Ay.worth⟩ (by omega) (Int.sign zy) rfl);have hs:(Int.sign zy==0)=false:=by simp[hy]
 have HX:=hide hx;have HY:=hide hy0;have HZ:=hide hz;have HB:=hide hb;clear e0 hx hy0 hz hb;go_enter Tryz.func30,Tryz.ntmps30
 go_upto_region 1 with fail
 rw[E0.out];go_wp2_with fail
 refine K1.out.mono ?_;rintro e w1 ⟨rfl,hb1⟩;have HB1:=hide (HB.out.trans (hb1.mono HB.out.size));have HZ1:=hide ((hb1.block _ (aaa HZ.out)).trans HZ.out);obtain⟨_,x0,x1,_,_⟩:=aam ((hb1.block _ (aaa HX.out)).trans HX.out);replace y0:=(hb1.cell (p:=⟨w.heap.size+1,0,none⟩) (aai y0)).trans y0;replace y1:=(hb1.cell (p:=⟨w.heap.size+1,1,none⟩) (aai y1)).trans y1;have K2:=hide (av5 w1 (.agg #[.bool nx,.slice ax mx cx]) (.agg #[.bool ny,.slice ay my cy]) zx zy (Bx+By) ⟨_,_,_,_,_,rfl,⟨Ax.sl.below HB1.out,Ax.worth⟩,by omega⟩ ⟨_,_,_,_,_,rfl,⟨Ay.sl.below HB1.out,Ay.worth⟩,by omega⟩ hy hL);clear hb1 K1 HB HZ HX HY;go_wp2_with fail
 refine K2.out.mono ?_;rintro e w9 ⟨v,rfl,ho,hb9⟩;have HB9:=hide (HB1.out.trans (hb9.mono HB1.out.size));have hz:=(hb9.block _ (aaa HZ1.out)).trans HZ1.out;have HO:=hide ho.out;have HFR:=hide ho;have HSZ1:=hide HB1.out.size;have ho:=ho.out;obtain⟨ng,a,b,rx,c,d,ry,rfl,_⟩:=ho;obtain⟨_,t0,t1,t2,u0,u1,u2⟩:=abz hz;have HE:=hide (ar1 (Nat.le_add_right _ 2) hz HB9.out HO.out);have HOW:Hid (OwnRI (nm zx zy) (dn zx zy) (Bx+By) w.heap.size (((w9.setCell ⟨w.heap.size+2,0,none⟩ (.bool ng)).setCell ⟨w.heap.size+2,1,none⟩ (.slice a rx.length b)).setCell ⟨w.heap.size+2,2,none⟩ (.slice c ry.length d)).heap.size (.agg #[.bool ng,.slice a rx.length b,.slice c ry.length d]) (((w9.setCell ⟨w.heap.size+2,0,none⟩ (.bool ng)).setCell ⟨w.heap.size+2,1,none⟩ (.slice a rx.length b)).setCell ⟨w.heap.size+2,2,none⟩ (.slice c ry.length d))):=by
  obtain⟨T,hT,o⟩:=HFR.out;have hru:=aii hz (.bool ng) (.slice a rx.length b) (.slice c ry.length d);have o2:=OwnRI.mono6 _ _ _ _ _ _ _ _ hru o;obtain⟨ng',ao',cap',rs',bo',dap',ss',B1,T1,B2,T2,e',h1,h2,h3,h4,h5⟩:=o2;have hs:=hru.size;have h01:=HSZ1.out;exact⟨ng',ao',cap',rs',bo',dap',ss',B1,T1,B2,T2,e',h1,h2,⟨by omega,by omega,by omega,by omega⟩,h4,h5⟩
 clear hz K2 hb9 HO HFR;go_wp2;exact bodyPost_ret (v:=_) (arn (g:=w.heap.size+2) rfl rfl HE.out.2.2 rfl) rfl ⟨_,rfl,HE.out.1,HOW.out,HE.out.2.1⟩
def OwQ(r:Rat)(B T:Nat)(v:Value)(w:World):Prop:=∃L,OwnRI r.num (r.den:Int) L B T v w
theorem OwQ.ru{r:Rat}{B T:Nat}{v:Value}{w w':World}(h:OwQ r B T v w)(hr:Ru w w'):OwQ r B T v w':=by
 obtain⟨L,h⟩:=h;exact⟨L,OwnRI.mono6 _ _ _ _ _ _ _ _ hr h⟩
theorem OwQ.wide{r:Rat}{B T B' T':Nat}{v:Value}{w:World}(h:OwQ r B T v w)(hB:B'<=B)(hT:T<=T'):OwQ r B' T' v w:=by
 obtain⟨L,ng',ao',cap',rs',bo',dap',ss',B1,T1,B2,T2,e',h1,h2,h3,h4,h5⟩:=h;exact⟨L,ng',ao',cap',rs',bo',dap',ss',B1,T1,B2,T2,e',h1,h2,⟨by omega,by omega,by omega,by omega⟩,h4,h5⟩
theorem a0x(w:World)(x y:Value)(z u:Int)(L M:Nat)(hx:IsW z L x w)(hy:IsW u M y w)(hL:L+M<=100000)(hu:u≠0):
  Calls Tryz.prog 30 #[x,y] w fun e w'=>∃v,e=.returned (.tuple #[v,.int .i64 0])/\OutQr (Rat.divInt z u) (L+M) v w'/\OwQ (Rat.divInt z u) w.heap.size w'.heap.size v w'/\Below w.heap.size w w':=by
 obtain⟨ng,ao,n,cap,xs,rfl,h2,h5⟩:=hx;obtain⟨ng',ao',n',cap',xs',rfl,g2,g5⟩:=hy;refine(a1m w L ng ao n cap xs z h2 h5 M ng' ao' n' cap' xs' u g2 g5 hL hu).mono ?_;rintro e w' ⟨v,rfl,h1,h2,hb⟩;rw[al4 _ hu,al5 _ hu]at h1 h2;exact⟨v,rfl,h1,⟨_,h2⟩,hb⟩
def QRwI(w:World)(bv n k:Nat)(rs:List Rat)(L K:Nat)(lo hi:Nat->Nat):Prop:=∃fs:List FE,fs.length=n/\w.heap[bv]? = some (.cells (f3 fs).toArray 44 (0,0))/\(∀(i:Nat) (f:FE) (r:Rat),i<k->fs[i]? = some f->rs[i]? = some r->OutQr r L f.v w/\OwQ r (lo i) (hi i) f.v w)/\(∀i,i<k->K<=lo i/\hi i<=w.heap.size/\bv<lo i)/\∀i j,i<j->j<k->hi i<=lo j
theorem QRwI.row{w:World}{bv n k:Nat}{rs:List Rat}{L K:Nat}{lo hi:Nat->Nat}(h:QRwI w bv n k rs L K lo hi):QRw3 w bv n k rs L:=by
 obtain⟨fs,h1,h2,h3,_⟩:=h;exact⟨fs,h1,h2,fun i f r a b c=>(h3 i f r a b c).1⟩
theorem QRwI.below{w w':World}{bv n k:Nat}{rs:List Rat}{L K:Nat}{lo hi:Nat->Nat}(h:QRwI w bv n k rs L K lo hi)(hb:Below w.heap.size w w'):QRwI w' bv n k rs L K lo hi:=by
 obtain⟨fs,h1,h2,h3,h4,h5⟩:=h;exact⟨fs,h1,(hb.block _ (aaa h2)).trans h2,fun i f r a b c=>⟨(h3 i f r a b c).1.ru (Ru.of_below hb),(h3 i f r a b c).2.ru (Ru.of_below hb)⟩,fun i hi=>⟨(h4 i hi).1,Nat.le_trans (h4 i hi).2.1 hb.size,(h4 i hi).2.2⟩,h5⟩
theorem QRwI.put{w:World}{bv n k:Nat}{rs:List Rat}{L K s S:Nat}{lo hi:Nat->Nat}{r:Rat}{x:FE}(h:QRwI w bv n k rs L K lo hi)(hk:k<n)(hr:rs[k]? = some r)(hx:OutQr r L x.v w)(ho:OwQ r s S x.v w)(hKs:K<=s)(hbs:bv<s)(hS:S<=w.heap.size)(hs:∀i,i<k->hi i<=s):
  (∃lo' hi',QRwI (((w.setCell ⟨bv,k*3,none⟩ (.bool x.ng)).setCell ⟨bv,k*3+1,none⟩ (.slice x.a x.m x.c)).setCell ⟨bv,k*3+2,none⟩ (.slice x.d x.k x.e)) bv n (k+1) rs L K lo' hi')/\Tch bv w (((w.setCell ⟨bv,k*3,none⟩ (.bool x.ng)).setCell ⟨bv,k*3+1,none⟩ (.slice x.a x.m x.c)).setCell ⟨bv,k*3+2,none⟩ (.slice x.d x.k x.e)):=by
 obtain⟨fs,h1,h2,h3,h4,h5⟩:=h;have ht:Tch bv w (((w.setCell ⟨bv,k*3,none⟩ (.bool x.ng)).setCell ⟨bv,k*3+1,none⟩ (.slice x.a x.m x.c)).setCell ⟨bv,k*3+2,none⟩ (.slice x.d x.k x.e)):=((ada w bv (k*3) _).trans (ada _ bv (k*3+1) _)).trans (ada _ bv (k*3+2) _);have s1:=heap_setCell_same w bv (k*3) _ _ (.bool x.ng) h2;have s2:=heap_setCell_same _ bv (k*3+1) _ _ (.slice x.a x.m x.c) s1;have s3:=heap_setCell_same _ bv (k*3+2) _ _ (.slice x.d x.k x.e) s2;have hru:Ru w (((w.setCell ⟨bv,k*3,none⟩ (.bool x.ng)).setCell ⟨bv,k*3+1,none⟩ (.slice x.a x.m x.c)).setCell ⟨bv,k*3+2,none⟩ (.slice x.d x.k x.e)):=Ru.of_one h2 (by decide) (a1l fs) ht.size (fun k hk hn=>ht.other k hk hn);refine⟨⟨fun i=>if i=k then s else lo i,fun i=>if i=k then S else hi i,fs.set k x,by simp[h1],?_,fun i f r' hi hf hr'=>?_,fun i hi=>?_,fun i j hij hj=>?_⟩,ht⟩
 ·rw[s3,a0w fs k x (by omega)];simp
 ·by_cases e:k=i
  ·subst e;rw[List.getElem?_set_self (by omega)]at hf;obtain rfl:=Option.some.inj hf;rw[hr]at hr';obtain rfl:=Option.some.inj hr';dsimp only;rw[if_pos rfl,if_pos rfl];exact⟨hx.ru hru,ho.ru hru⟩
  ·rw[List.getElem?_set_ne e]at hf;dsimp only;rw[if_neg (fun h:i=k=>e h.symm),if_neg (fun h:i=k=>e h.symm)];exact⟨(h3 i f r' (by omega) hf hr').1.ru hru,(h3 i f r' (by omega) hf hr').2.ru hru⟩
 ·by_cases e:i=k
  ·dsimp only;rw[if_pos e,if_pos e];exact⟨hKs,Nat.le_trans hS ht.size,hbs⟩
  ·dsimp only;rw[if_neg e,if_neg e];exact⟨(h4 i (by omega)).1,Nat.le_trans (h4 i (by omega)).2.1 ht.size,(h4 i (by omega)).2.2⟩
 ·dsimp only;rw[if_neg (by omega)];by_cases e:j=k
  ·rw[if_pos e];exact hs i (by omega)
  ·rw[if_neg e];exact h5 i j hij (by omega)
theorem aq4(W:World)(k q:Nat)(xv rv pv:Value)(z u:Int)(L:Nat)(ng:Bool)(la:Option Addr)(lm lc:Nat)(hq:W.heap[q]? = some (.cells #[rv,pv,.bool ng,.slice la lm lc] 63 (0,0)))(hu:IsW u L (.agg #[.bool ng,.slice la lm lc]) W)(hx:IsW z L xv W)(hL:L<=50000)(hne:u≠0):
  Calls Tryz.prog 29 #[.int .i64 (k:Int),xv,.pointer (some ⟨q,0,none⟩)] W fun e W'=>∃v,e=.returned v/\OutQr (Rat.divInt z u) L v W'/\OwQ (Rat.divInt z u) W.heap.size W'.heap.size v W'/\Below W.heap.size W W':=by
 obtain⟨n1,a1,m1,c1,xs,rfl,_⟩:=id hx;have hf:Fit (Rat.divInt z u) L:=aqr hne (aet hx) (aet hu);obtain⟨w2,hw2⟩:∃w2,(W.alloc (.cells #[.bool n1,.slice a1 m1 c1] 42)).alloc (.cells #[.bool false,.slice none 0 0,.slice none 0 0] 44)=w2:=⟨_,rfl⟩;have hb2:Below W.heap.size W w2:=by rw[<-hw2];(repeat' first|with_reducible(first|exact Below.refl _ _|assumption|refine gdrewN ?_ _|refine Below.alloc ?_ ?_ _|refine Below.drew ?_|refine Below.setCell ?_ ?_ _)|go_size)
 have hres:w2.heap[W.heap.size+1]? = some (.cells #[.bool false,.slice none 0 0,.slice none 0 0] 44 (0,0)):=by
  rw[<-hw2];have:=heap_alloc_new (W.alloc (.cells #[.bool n1,.slice a1 m1 c1] 42)) (.cells #[.bool false,.slice none 0 0,.slice none 0 0] 44);simpa using this
 have hxb:w2.heap[W.heap.size]? = some (.cells #[.bool n1,.slice a1 m1 c1] 42 (0,0)):=by
  rw[<-hw2];exact(hAl _ _).block _ (by simp) |>.trans (heap_alloc_new W _)
 have KO:=hide (a0x w2 _ _ z u L L (hx.ru (Ru.of_below hb2)) (hu.ru (Ru.of_below hb2)) (by omega) hne);have hq2:=(hb2.block _ (aaa hq)).trans hq;have q2:=cell_of_row _ _ 2 _ _ (0,0) hq2;have q3:=cell_of_row _ _ 3 _ _ (0,0) hq2;simp at q2 q3;have hql:=aaa hq2;obtain⟨xbl,b0,b1,_⟩:=aam hxb;have HB2:=hide hb2;have HR:=hide hres;have HW2:=hide hw2;have HF:=hide hf;clear hq hu hx hb2 hres hxb hq2 hf;go_enter Tryz.func29,Tryz.ntmps29
 go_wp2_with (rw[HW2.out])
 refine KO.out.mono ?_;rintro e w3 ⟨v3,rfl,ho,how,hb3⟩;have ho:=ho.fit HF.out;obtain⟨x,rfl⟩:=ho.agg;have hr3:=(hb3.block _ (aaa HR.out)).trans HR.out;have hba:=hAl w3 (.cells #[.bool x.ng,.slice x.a x.m x.c,.slice x.d x.k x.e] 44);have hr4:=(hba.block _ (aaa hr3)).trans hr3;obtain⟨rl,r0,r1,r2,rf0,rf1,rf2⟩:=abz hr4;have hru:Ru (w3.alloc (.cells #[.bool x.ng,.slice x.a x.m x.c,.slice x.d x.k x.e] 44)) ((((w3.alloc (.cells #[.bool x.ng,.slice x.a x.m x.c,.slice x.d x.k x.e] 44)).setCell ⟨W.heap.size+1,0,none⟩ (.bool x.ng)).setCell ⟨W.heap.size+1,1,none⟩ (.slice x.a x.m x.c)).setCell ⟨W.heap.size+1,2,none⟩ (.slice x.d x.k x.e)):=by
  have t:Tch (W.heap.size+1) _ _:=((ada (w3.alloc (.cells #[.bool x.ng,.slice x.a x.m x.c,.slice x.d x.k x.e] 44)) (W.heap.size+1) 0 (.bool x.ng)).trans (ada _ _ 1 (.slice x.a x.m x.c))).trans (ada _ _ 2 (.slice x.d x.k x.e));refine Ru.of_one hr4 (by decide) (fun i z hz=>?_) t.size (fun k hk hn=>t.other k hk hn)
  match i with
  |0=>simp at hz
  |1=>simp at hz
  |2=>simp at hz
  |i+3=>simp at hz
 have HO:=hide ((ho.ru (Ru.of_below hba)).ru hru);have HOW:=hide (((how.ru (Ru.of_below hba)).ru hru).wide HB2.out.size (Nat.le_trans hba.size hru.size));have HR4:=hide hr4;have hb4:=HB2.out.trans (hb3.mono HB2.out.size);have HB4:=hide (((hb4.trans (hba.mono hb4.size)).setCell (p:=⟨W.heap.size+1,0,none⟩) (Nat.le_succ _) (.bool x.ng)).setCell (p:=⟨W.heap.size+1,1,none⟩) (Nat.le_succ _) (.slice x.a x.m x.c) |>.setCell (p:=⟨W.heap.size+1,2,none⟩) (Nat.le_succ _) (.slice x.d x.k x.e));clear ho how hr3 hba hr4 hru hb4 hb3 KO b0 b1 q2 q3;unfold FE.v;go_wp2;exact bodyPost_ret (v:=x.v) (aby (g:=W.heap.size+1) rfl rfl (lvr3 (aij HR4.out _ _ _))) rfl ⟨_,rfl,HO.out,HOW.out,HB4.out⟩
def TurnQo(w:World)(f:FuncId)(cap:Array Value)(zs:List Int)(L M:Nat)(G:Nat->Rat):Prop:=∀(W:World) (c:Nat) (z:Int) (xv:Value),Below w.heap.size w W->zs[c]? = some z->IsW z L xv W->Calls Tryz.prog f (#[.int .i64 (c:Int),xv]++cap) W fun e W'=>∃v,e=.returned v/\OutQr (G c) M v W'/\OwQ (G c) W.heap.size W'.heap.size v W'/\Below W.heap.size W W'
theorem anp(w:World)(v:Value)(zs:List Int)(L M:Nat)(h:IsRow w v zs L)(hl:zs.length<=1000)(f:FuncId)(hf:Has Tryz.prog f)(cap:Array Value)(G:Nat->Rat)(hT:TurnQo w f cap zs L M G):
  Calls Tryz.prog 28 #[v,.func (.func f) #[] cap] w fun e w'=>e=.returned (.slice (some ⟨w.heap.size,0,none⟩) zs.length zs.length)/\(∃lo hi,QRwI w' w.heap.size zs.length zs.length (qRow G zs.length) M w.heap.size lo hi)/\Below w.heap.size w w':=by
 obtain⟨ao,cp,rfl,_⟩:=h.parts;have H:=hide h;have HTN:=hide hT;clear h hT;obtain⟨n,hnn⟩:∃n,zs.length=n:=⟨_,rfl⟩;rw[hnn]at H hl ⊢;have HN:=hide hnn;clear hnn;obtain⟨iW,hi,hz0,hz1,hz2⟩:=info_parts infoQz;go_enter Tryz.func28,Tryz.ntmps28
 go_wp2_with (refine wpList_make_full _ rfl (.tmp 9) (.tmp 9) 29 rfl w.heap.size 44 iW (.agg #[.bool false,.slice none 0 0,.slice none 0 0]) 3 Tryz.underlying29 hi hz0 hz1 .i64 .i64 _ _ n rfl rfl (by omega) (by omega) (by rw[hz2];omega) (by unfold maxLen;omega) (Nat.le_refl _) ?hK)
 case hK=>
  intro w2 hown hgrow;have hb2:Below w.heap.size w w2:=(Below.refl _ _).grown hgrow (Nat.le_refl _) (by simp);obtain⟨_,hmb⟩:=ac4 hown;rw[azm]at hmb;have HP0:Hid (QRwI w2 w.heap.size n 0 (qRow G n) M w.heap.size (fun _=>0) (fun _=>0)):=(⟨_,List.length_replicate,hmb,fun i f r hi=>absurd hi (by omega),fun i hi=>absurd hi (by omega),fun i j _ hj=>absurd hj (by omega)⟩:QRwI _ _ _ _ _ _ _ _ _);have HB:=hide hb2;clear hown hgrow hmb hb2;go_wp2;go_loopw [6,7,13] (fun _ _ iv wr=>∃(k:Nat),iv=.int .i64 k/\k<=n/\Below w.heap.size w wr/\∃lo hi,QRwI wr w.heap.size n k (qRow G n) M w.heap.size lo hi) (fun _ _ iv _=>n-(intOf iv).toNat)
  case atStart=>exact⟨0,rfl,Nat.zero_le _,HB.out,_,_,HP0.out⟩
  case round=>
   obtain⟨k,rfl,hk,hbw,lo,hi',hp⟩:=hrel;have HW:=hide hbw;have HP:=hide hp;by_cases hlt:k<n
   ·obtain⟨z,hz⟩:∃z,zs[k]? = some z:=⟨_,List.getElem?_eq_getElem (by have:=HN.out;omega)⟩;obtain⟨b,off,ngx,ax,mx,cx,rfl,hbl,x0,x1,hx⟩:=H.out.cell hz;replace x0:=(hbw.cell (p:=⟨b,off+k*2,none⟩) hbl).trans x0;replace x1:=(hbw.cell (p:=⟨b,off+k*2+1,none⟩) hbl).trans x1;have hlt':(k:Int)<(n:Int):=by omega
    have hba:Below wr.heap.size wr (wr.alloc (.cells #[.bool ngx,.slice ax mx cx] 42)):=hAl _ _;have KC:=hide (HTN.out _ k z (.agg #[.bool ngx,.slice ax mx cx]) (hbw.trans (hba.mono hbw.size)) hz ((hx.ru (Ru.of_below hbw)).ru (Ru.of_below hba)));clear hbw hp hx hz;have hE:∀args w,(callFunc f args).run Tryz.prog w=.ok (.enter f args) w:=fun args w=>hf.enter args w
    go_wp2_with fail
    refine KC.out.mono ?_;rintro e w3 ⟨v1,rfl,h1,how,hb3⟩;have hb3':=hba.trans (hb3.mono hba.size);obtain⟨x,rfl⟩:=h1.agg;have hP3:=HP.out.below hb3';obtain⟨y,y0,y1,y2,⟨yf0,yf1,yf2⟩,_⟩:=hP3.row.cells hlt;have hput:=hP3.put hlt (aoo hlt) h1 how (Nat.le_trans HW.out.size hba.size) (Nat.lt_of_lt_of_le HP.out.row.lt hba.size) (Nat.le_refl _) (fun i hi1=>by obtain⟨_,_,_,_,h4,_⟩:=HP.out;exact Nat.le_trans (h4 i hi1).2.1 hba.size);have hpl:=hP3.row.lt;have HPT:=hide hput;have HB3:=hide (HW.out.trans (hb3'.mono HW.out.size));clear h1 how hb3 hb3' hba x0 x1 KC hE hP3 hput;unfold FE.v;go_wp2;go_roundw
    case rel=>exact⟨k+1,by go_num,by omega,HB3.out.trans (HPT.out.2.below HB3.out.size (Nat.le_refl _)),HPT.out.1⟩
    case measure=>simp[intOf];omega
   ·have hlt':decide ((k:Int)<(n:Int))=false:=by simp;omega
    have hkn:k=n:=by omega
    subst hkn;clear hbw hp;go_wp2;refine bodyPost_ret (v:=_) (by simp[results,Tryz.results28,go_sem];try rfl) rfl ⟨rfl,⟨_,_,HP.out⟩,HW.out⟩
def SolOutA(K:Nat)(w':World)(n L0:Nat)(rows:List (List Int))(ys:List Int)(e:Ending):Prop:=∃R Q torn,GatI (n+1) n (besR rows ys) rows.length R Q torn/\((torn=true/\e=.returned (.tuple #[.slice none 0 0,.bool false,.int .i64 0]))\/(torn=false/\(((qRow (solG n R Q) n).any bigQ=true/\e=.returned (.tuple #[.slice none 0 0,.bool false,.int .i64 2]))\/((qRow (solG n R Q) n).any bigQ=false/\∃bv lo hi,e=.returned (.tuple #[.slice (some ⟨bv,0,none⟩) n n,.bool true,.int .i64 0])/\K<=bv/\QRwI w' bv n n (qRow (solG n R Q) n) (lg L0) K lo hi))))
theorem aq5(w:World)(v vr:Value)(rows:List (List Int))(ys:List Int)(n L0:Nat)(h:IsM w v rows L0)(hs:Shaped rows (n:Int))(hy:IsRow w vr ys L0)(hyl:ys.length=rows.length)(hL0:L0<=1500):
  Calls Tryz.prog 10 #[v,.int .i64 (n:Int),vr] w fun e w'=>SolOutA w.heap.size w' n L0 rows ys e/\Below w.heap.size w w':=by
 have K0:=afb w v rows L0 h (n:Int);rw[decide_eq_true hs]at K0;have K0:=hide K0;have hrn:∀r∈rows,r.length=n:=fun r hr=>by have:=hs.2.2.2 r hr;omega
 have hn32:n<=32:=by have:=hs.2.1;omega
 have hm64:rows.length<=64:=hs.2.2.1;have K1:Hid (∀w1,Below w.heap.size w w1->_):=(fun w1 hb=>aqt w1 v vr rows ys L0 (h.below hb) (hy.below hb) hyl (fun r hr=>by rw[hrn r hr];omega) (by omega));have HRN:=hide hrn;obtain⟨ao,cp,rfl,_⟩:=h.parts;obtain⟨ay,cy,rfl,_⟩:=hy.parts;obtain⟨m,hm⟩:∃m,rows.length=m:=⟨_,rfl⟩;rw[hm]at hyl hm64;rw[hyl]at K1 ⊢;rw[hm]at K0 K1 ⊢;have HM:=hide hm;obtain⟨iW,hi,hz0,hz1,hz2⟩:=info_parts infoWz;have hmf:∀(fn:Fn) (first cap:Array Value) (w:World),(Instr.makeFunc fn first cap).run Tryz.prog w=.ok (.func fn first cap) w:=fun _ _ _ _=>rfl
 clear h hs hrn hy hyl hm;go_enter Tryz.func10,Tryz.ntmps10
 go_wp2_with fail
 refine K0.out.mono ?_;rintro e w1 ⟨rfl,hb1⟩;have K2:=hide (K1.out w1 hb1);have HB1:=hide hb1;clear hb1 K0 K1;go_wp2_with fail
 refine K2.out.mono ?_;rintro e w2 ⟨r2,rfl,hM2,hb2⟩;have K3:=hide (ahi w2 r2 (besR rows ys) (n+1) n L0 hM2 (ah6 HRN.out) (by omega) hn32 (by omega) (by omega));have HB2:=hide (HB1.out.trans (hb2.mono HB1.out.size));obtain⟨ra2,rc2,rfl,_⟩:=hM2.parts;clear hM2 hb2 K2;go_wp2_with fail
 refine K3.out.mono ?_;rintro e w3 ⟨R,Q,torn,rv,pv,ng,la,lm,lc,rfl,hE,hM,hP,hF,hb3⟩;rw[adg]at hE;obtain⟨ra,rc,rfl,_⟩:=hM.is.parts;obtain⟨pa,pc,rfl,_⟩:=hP.is.parts;rw[ajt]at hM ⊢;rw[List.length_reverse]at hP ⊢;have hQn:∀p∈Q,p<n:=hE.gat.lt;have hQl:Q.length<=n:=afk hE.gat.desc hE.gat.lt;have hba:=hAl w3 (.cells #[.slice ra Q.length rc,.slice pa Q.length pc,.bool ng,.slice la lm lc] 63);have hn3:=heap_alloc_new w3 (.cells #[.slice ra Q.length rc,.slice pa Q.length pc,.bool ng,.slice la lm lc] 63);have hb03:=HB2.out.trans (hb3.mono HB2.out.size);have HB3:=hide (hb03.trans (hba.mono hb03.size));have HE:=hide hE;cases torn with
 |true=>
  clear hM hP hF hb3 hba hn3 hb03 K3 hE;go_wp2;refine bodyPost_ret (v:=_) (by simp[results,Tryz.results10,go_sem];try rfl) rfl ⟨⟨R,Q,true,HE.out,.inl ⟨rfl,rfl⟩⟩,HB3.out⟩
 |false=>
  have HM4:=hide (hM.below hba);have HP4:=hide (hP.is.below hba);have HF4:=hide ((hF.ru (Ru.of_below hba)).low (Nat.zero_le _));have HQ:=hide hn3;have hql:=aaa hn3;clear hM hP hF hb3 hba hn3 hb03 K3 hE;go_wp2_with (refine wpList_make_full _ rfl (.tmp 35) (.tmp 35) 23 rfl (w3.heap.size+1) 42 iW (.agg #[.bool false,.slice none 0 0]) 2 Tryz.underlying23 hi hz0 hz1 .i64 .i64 _ _ n rfl rfl (by omega) (by omega) (by rw[hz2];omega) (by unfold maxLen;omega) (by simp) ?hK)
  case hK=>
   intro w5 hown hgrow;generalize hw4:w3.alloc (.cells #[.slice ra Q.length rc,.slice pa Q.length pc,.bool ng,.slice la lm lc] 63)=w4 at *
   have hs4:w4.heap.size=w3.heap.size+1:=by rw[<-hw4];simp
   have hb5:Below w4.heap.size w4 w5:=(Below.refl _ _).grown hgrow (Nat.le_refl _) (by simp);obtain⟨_,hmb⟩:=ac4 hown;rw[af1]at hmb;have hZ0:=ZE.start (L:=lg L0) hmb;rw[aqz (R:=R) (Q:=Q)]at hZ0;obtain⟨q,hq⟩:∃q,w3.heap.size=q:=⟨_,rfl⟩;rw[hq]at hs4 HQ hql hZ0 ⊢;have hq5:=(hb5.block _ hql).trans HQ.out;have q1:=cell_of_row _ _ 1 _ _ (0,0) hq5;simp at q1;have hq5l:=Nat.lt_of_lt_of_le hql hb5.size;have HZ0:=hide hZ0;have HB5:=hide hb5;have HS4:=hide hs4;clear hown hgrow hmb hZ0 hb5 hq hw4 hq5 hs4;go_wp2;go_loopw [12,13,40] (fun _ _ iv wr=>∃(k:Nat),iv=.int .i64 (k:Int)/\k<=Q.length/\Below w4.heap.size w4 wr/\ZE wr (q+1) (solP n R Q k) (lg L0)) (fun _ _ iv _=>Q.length-(intOf iv).toNat)
   case atStart=>exact⟨0,rfl,Nat.zero_le _,HB5.out,HZ0.out⟩
   case round=>
    obtain⟨k,rfl,hk,hbk,hZ⟩:=hrel;have HBK:=hide hbk;have HZ:=hide hZ;clear q1 hq5l;by_cases hkl:k<Q.length
    ·have hkl':(k:Int)<(Q.length:Int):=by omega
     have HKL:=hide hkl;obtain⟨p,hp⟩:∃p,Q.reverse[k]? = some p:=⟨_,List.getElem?_eq_getElem (by simp;omega)⟩;have hpn:p<n:=hQn p (List.mem_reverse.1 (List.mem_of_getElem? hp));have hpn':(p:Int)<(n:Int):=by omega
     obtain⟨pb,po,rfl,hpl,y0⟩:=HP4.out.cell hp;replace y0:=(hbk.cell (p:=⟨pb,po+k,none⟩) hpl).trans y0;have hrow:(baR R Q (n+1))[k]? = some (gRow (fun k=>D R (sub p k Q)) (n+1)):=by
      unfold baR;rw[List.getElem?_map,hp];rfl
     obtain⟨rb,ro,u,rfl,hrl,z0,hu⟩:=HM4.out.cellO hrow;replace z0:=(hbk.cell (p:=⟨rb,ro+k,none⟩) hrl).trans z0;obtain⟨bx,ngx,axx,mxx,cxx,rfl,hxl,x0,x1,hx⟩:=hu.cellF (abk (g:=fun k=>D R (sub p k Q)) (Nat.lt_succ_self n));rw[aa4]at z0;replace x0:=(hbk.cell (p:=⟨bx,n*2,none⟩) hxl).trans x0;replace x1:=(hbk.cell (p:=⟨bx,n*2+1,none⟩) hxl).trans x1;have q0:=cell_of_row _ _ 0 _ _ (0,0) ((hbk.block _ hql).trans HQ.out);simp at q0;have hqk:=Nat.lt_of_lt_of_le hql hbk.size;have hal:(solP n R Q k).length=n:=aa4 _ _;obtain⟨⟨ngp,ap,mp,cp',p0,p1⟩,pf0,pf1⟩:=hZ.cells (k:=p) (by omega);have hput:=hZ.put (k:=p) (by omega) (hx.ru (Ru.of_below hbk));rw[aul hp hpn]at hput;have HS:=hide (And.intro hput.1 (hbk.trans (hput.2.below hbk.size (by have:=HS4.out;omega))));have hzl:=hZ.lt;clear hbk hZ hp hrow hu hx hput hal;go_wp2;go_roundw
     case rel=>exact⟨k+1,by go_num,HKL.out,HS.out.2,HS.out.1⟩
     case measure=>have:=HKL.out;simp[intOf];omega
    ·have hkl':decide ((k:Int)<(Q.length:Int))=false:=by simp;omega
     have hke:k=Q.length:=by omega
     subst hke;rw[aum]at hZ;have hlz:(gRow (solN n R Q) n).length=n:=aa4 _ _;have hIs:=hZ.is (by rw[hlz];omega);have hT:TurnQo wr 29 #[.pointer (some ⟨q,0,none⟩)] (gRow (solN n R Q) n) (lg L0) (lg L0) (solG n R Q):=by
      refine(show ∀(W:World) (c':Nat) (z:Int) (xv:Value),_->_->_->_ from ?_);intro W c z xv hb hz hx;have hcn:=(List.getElem?_eq_some_iff.1 hz).1;rw[hlz]at hcn;rw[abk hcn]at hz;obtain rfl:=Option.some.inj hz;have hbW:=hbk.trans (hb.mono hbk.size);exact aq4 W c q xv _ _ (solN n R Q c) (D R Q) (lg L0) ng la lm lc ((hbW.block _ hql).trans HQ.out) (HF4.out.is.ru (Ru.of_below hbW)) hx (by unfold lg;omega) HE.out.gat.ne
     have KT:=anp wr _ (gRow (solN n R Q) n) (lg L0) (lg L0) hIs (by rw[hlz];omega) _ aq0 _ _ hT;rw[hlz]at KT;have KT:=hide KT;clear hbk hZ hIs hT hlz;go_wp2_with fail
     refine KT.out.mono ?_;rintro e w6 ⟨rfl,⟨lo,hi',hQR⟩,hb6⟩;have hqrl:(qRow (solG n R Q) n).length=n:=ah5 _ _;have KL:=auk w6 wr.heap.size (qRow (solG n R Q) n) (lg L0) (by rw[hqrl];exact hQR.row) (by rw[hqrl];omega) (by unfold lg;omega);rw[hqrl]at KL;have KL:=hide KL;have hb46:=HBK.out.trans (hb6.mono HBK.out.size);have HB6:=hide (HB3.out.trans (hb46.mono HB3.out.size));have HQR:=hide hQR;clear hQR hb6 KT hqrl hb46;go_wp2_with fail
     refine KL.out.mono ?_;rintro e w7 ⟨rfl,hb7⟩;have HB7:=hide (HB6.out.trans (hb7.mono HB6.out.size));have HQ7:=hide (HQR.out.below hb7);have HKW:Hid (w.heap.size<=wr.heap.size):=(Nat.le_trans HB3.out.size HBK.out.size);clear KL hb7 HQR;cases hbig:(qRow (solG n R Q) n).any bigQ with
     |true=>
      have HBig:=hide hbig;clear hbig;go_wp2;refine bodyPost_ret (v:=_) (by simp[results,Tryz.results10,go_sem];try rfl) rfl ⟨⟨R,Q,false,HE.out,.inr ⟨rfl,.inl ⟨HBig.out,rfl⟩⟩⟩,HB7.out⟩
     |false=>
      have HBig:=hide hbig;clear hbig;go_wp2;refine bodyPost_ret (v:=_) (by simp[results,Tryz.results10,go_sem];try rfl) rfl ⟨⟨R,Q,false,HE.out,.inr ⟨rfl,.inr ⟨HBig.out,_,lo,hi',rfl,HKW.out,by obtain⟨fs,q1,q2,q3,q4,q5⟩:=HQ7.out;exact⟨fs,q1,q2,q3,fun i hi1=>⟨Nat.le_trans HKW.out (q4 i hi1).1,(q4 i hi1).2.1,(q4 i hi1).2.2⟩,q5⟩⟩⟩⟩,HB7.out⟩
end Lm
namespace Lm
open Go Go.RowKit Md
theorem amt:∀ {rows:List (List Int)} {ys:List Int},ys.length=rows.length->besR rows ys=List.zipWith (fun z y=>z ++ [y]) rows ys:=by
 intro rows ys h;apply List.ext_getElem?;intro i;rw[List.getElem?_zipWith];by_cases hi:i<rows.length
 ·rw[ajw (List.getElem?_eq_getElem hi),List.getElem?_eq_getElem hi,List.getElem?_eq_getElem (show i<ys.length by omega),List.getD_eq_getElem?_getD,List.getElem?_eq_getElem (show i<ys.length by omega)];rfl
 ·rw[List.getElem?_eq_none (by rw[adg];omega),List.getElem?_eq_none (by omega)]
theorem aur{es:List WE}{e:WE}(h:∀z∈es.map WE.z,(z.natAbs:Int)<pw (lenW es))(he:(e.z.natAbs:Int)<pw e.m):∀z∈es.map WE.z ++ [e.z],(z.natAbs:Int)<pw (lenW es+e.m):=by
 intro z hz;rcases List.mem_append.1 hz with hz|hz
 ·have h1:=h z hz;have h2:pw (lenW es)<=pw (lenW es+e.m):=aaw (by omega);omega
 ·obtain rfl:z=e.z:=by simpa using hz
  have h2:pw e.m<=pw (lenW es+e.m):=aaw (by omega);omega
theorem aoq:∀ {ess:List (List WE)} {es:List WE},(∀es∈ess,∀z∈es.map WE.z,(z.natAbs:Int)<pw (lenW es))->(∀e∈es,(e.z.natAbs:Int)<pw e.m)->es.length=ess.length->sumB bndB ((List.zipWith (fun z y=>z ++ [y]) (zsM ess) (es.map WE.z)).map fnR)<=lenM ess+lenW es
 | [],es,_,_,hl=>by
  obtain rfl:es = []:=List.length_eq_zero_iff.1 hl;simp[zsM,sumB,lenM]
 |es0::ess,[],_,_,hl=>by simp at hl
 |es0::ess,e::es,h1,h2,hl=>by
  have ih:=aoq (ess:=ess) (es:=es) (fun x hx=>h1 x (by simp[hx])) (fun x hx=>h2 x (by simp[hx])) (by simpa using hl);have hb:=(akj (ai3 (aur (h1 es0 (by simp)) (h2 e (by simp))) (aan _))).2;have e1:lenW (e::es)=1+e.m+lenW es:=by simp[lenW]
  simp only[zsM,List.map_cons,List.zipWith_cons_cons,sumB,lenM]at ih ⊢;rw[e1];omega
theorem azn{w:World}{v vr:Value}{ess:List (List WE)}{es:List WE}{S:Nat}(h:RwM w v ess)(hr:Rw w vr es)(hl:es.length=ess.length)(hS:lenM ess+lenW es<=S):Bnd (besR (zsM ess) (es.map WE.z)) S bndB:=by
 have hz:∀es∈ess,∀z∈es.map WE.z,(z.natAbs:Int)<pw (lenW es):=fun es he=>by
  obtain⟨u,hu⟩:=h.row es he;exact ad2 (ah1 hu (Nat.le_refl _))
 have hy:∀e∈es,(e.z.natAbs:Int)<pw e.m:=fun e he=>by
  have h1:=(hr.sl e he).parts;have h2:=(aac h1.2.2.2);have h3:(e.z.natAbs:Int)=val e.zs:=by
   unfold WE.z;cases e.ng <;> simp[sg] <;> omega
  rw[h3,h1.1];exact h2.2
 have hzl:(es.map WE.z).length=(zsM ess).length:=by rw[List.length_map,ag5];exact hl
 have key:∀r∈besR (zsM ess) (es.map WE.z),∃L,L<=S/\∀z∈r,(z.natAbs:Int)<pw L:=fun r hr'=>by
  rw[amt hzl]at hr';obtain⟨i,hi⟩:=List.mem_iff_getElem?.1 hr';rw[List.getElem?_zipWith]at hi;unfold zsM at hi;rw[List.getElem?_map,List.getElem?_map]at hi;cases h1:ess[i]? with
  |none=>rw[h1]at hi;simp at hi
  |some es0=>
   cases h2:es[i]? with
   |none=>rw[h1,h2]at hi;simp at hi
   |some e=>
    rw[h1,h2]at hi;simp at hi;subst hi;have h3:=List.mem_of_getElem? h1;have h4:=List.mem_of_getElem? h2;refine⟨lenW es0+e.m,?_,aur (hz es0 h3) (hy e h4)⟩;have:=ah0 h3;have:=afy h4;omega
 refine⟨fun r hr' k=>?_,?_,fun r hr' z hzz=>?_⟩
 ·obtain⟨L,_,hL⟩:=key r hr';exact(akj (ai3 hL (aan _))).1 k
 ·rw[amt hzl];exact Nat.le_trans (aoq hz hy hl) hS
 ·obtain⟨L,hLS,hL⟩:=key r hr';have h1:=hL z hzz;have h3:pw L<=pw (S+1):=aaw (by omega);omega
theorem aq6(w:World)(v:Value)(rows:List (List Int))(cols:Int)(L:Nat)(av:Option Addr)(k cv:Nat)(h:IsM w v rows L)(hs:¬(Shaped rows cols/\k=rows.length)):
  Calls Tryz.prog 11 #[v,.int .i64 cols,.slice av k cv] w fun e w'=>e=.returned (.tuple #[.slice none 0 0,.bool false,.int .i64 1])/\Below w.heap.size w w':=by
 have K0:=ai7 w v rows L h cols;obtain⟨ao,cp,rfl,hn⟩:=h.parts;by_cases h1:Shaped rows cols
 ·have h2:((k:Int) != (rows.length:Int))=true:=by
   simp only[bne_iff_ne];exact fun h=>hs ⟨h1,by omega⟩
  rw[decide_eq_true h1]at K0;have K0:=hide K0;clear h hs h1;go_enter Tryz.func11,Tryz.ntmps11
  go_wp2_with fail
  refine K0.out.mono ?_;rintro e w1 ⟨rfl,rfl⟩;clear K0;go_wp2;refine bodyPost_ret (v:=_) (by simp[results,Tryz.results11,go_sem];try rfl) rfl ⟨rfl,Below.refl _ _⟩
 ·rw[decide_eq_false h1]at K0;have K0:=hide K0;clear h hs h1;go_enter Tryz.func11,Tryz.ntmps11
  go_wp2_with fail
  refine K0.out.mono ?_;rintro e w1 ⟨rfl,rfl⟩;clear K0;go_wp2;refine bodyPost_ret (v:=_) (by simp[results,Tryz.results11,go_sem];try rfl) rfl ⟨rfl,Below.refl _ _⟩
theorem aq7(w:World)(v:Value)(rows:List (List Int))(cols:Int)(L:Nat)(av:Option Addr)(k cv:Nat)(h:IsM w v rows L)(hs:¬(Shaped rows cols/\k=rows.length)):
  Calls Tryz.prog 10 #[v,.int .i64 cols,.slice av k cv] w fun e w'=>e=.returned (.tuple #[.slice none 0 0,.bool false,.int .i64 1])/\Below w.heap.size w w':=by
 have K0:=afb w v rows L h cols;obtain⟨ao,cp,rfl,hn⟩:=h.parts;by_cases h1:Shaped rows cols
 ·have h2:((k:Int) != (rows.length:Int))=true:=by
   simp only[bne_iff_ne];exact fun h=>hs ⟨h1,by omega⟩
  rw[decide_eq_true h1]at K0;have K0:=hide K0;clear h hs h1;go_enter Tryz.func10,Tryz.ntmps10
  go_wp2_with fail
  refine K0.out.mono ?_;rintro e w1 ⟨rfl,hb1⟩;have HB1:=hide hb1;clear K0 hb1;go_wp2;refine bodyPost_ret (v:=_) (by simp[results,Tryz.results10,go_sem];try rfl) rfl ⟨rfl,HB1.out⟩
 ·rw[decide_eq_false h1]at K0;have K0:=hide K0;clear h hs h1;go_enter Tryz.func10,Tryz.ntmps10
  go_wp2_with fail
  refine K0.out.mono ?_;rintro e w1 ⟨rfl,hb1⟩;have HB1:=hide hb1;clear K0 hb1;go_wp2;refine bodyPost_ret (v:=_) (by simp[results,Tryz.results10,go_sem];try rfl) rfl ⟨rfl,HB1.out⟩
def XSol(K:Nat)(w:World)(xv:Value)(rs:List Rat)(L:Nat):Prop:=∃a c,xv=.slice a rs.length c/\(rs = []\/∃bv lo hi,a=some ⟨bv,0,none⟩/\QRwI w bv rs.length rs.length rs L K lo hi)
structure SolC (ess:List (List WE)) (cols:Int) (es:List WE) (rs:List Rat) (ok:Bool) (f:Int) (L:Nat):Prop where
 len:rs.length<=32
 ref:∀(w:World) (v vr:Value),RwM w v ess->Rw w vr es->Calls Tryz.prog 11 #[v,.int .i64 cols,vr] w fun e w'=>(∃wv,e=.returned (.tuple #[wv,.bool ok,.int .i64 f])/\WtR w.heap.size w' wv rs)/\Below w.heap.size w w'
 pr:∀(w:World) (v vr:Value) (fss:List (List WE)) (fs:List WE),RwM w v fss->SameM fss ess->Rw w vr fs->SameR fs es->Calls Tryz.prog 10 #[v,.int .i64 cols,vr] w fun e w'=>(∃xv,e=.returned (.tuple #[xv,.bool ok,.int .i64 f])/\XSol w.heap.size w' xv rs L)/\Below w.heap.size w w'
theorem ajx(K:Nat)(w:World):WtR K w (.slice none 0 0) []:=⟨[],aod _ _,rfl⟩
theorem ah7(K:Nat)(w:World)(L:Nat):XSol K w (.slice none 0 0) [] L:=⟨none,0,rfl,.inl rfl⟩
theorem awv{w:World}{v:Value}{ess:List (List WE)}{cols:Int}{es:List WE}(h:RwM w v ess)(hm:∀es∈ess,∀e∈es,e.m<=35184372088832)(hs:¬(Shaped (zsM ess) cols/\es.length=ess.length)):SolC ess cols es [] false 1 0:=by
 have hzl:∀es∈ess,∀e∈es,e.zs.length<=35184372088832:=fun es he e hx=>by
  obtain⟨u,hu⟩:=h.row es he;have:=(hu.sl e hx).parts.1;have:=hm es he e hx;omega
 have hs':¬(Shaped (zsM ess) cols/\es.length=(zsM ess).length):=by rw[ag5];exact hs
 refine⟨by simp,fun w v vr hR hv=>?_,fun w v vr fss fs hR hS hv hSv=>?_⟩
 ·obtain⟨a,c,rfl⟩:=hv.slc;exact(aq6 w v _ cols _ _ _ _ (hR.isM_s hm) hs').mono fun e w' ⟨h1,h2⟩=>⟨⟨_,h1,ajx _ _⟩,h2⟩
 ·obtain⟨a,c,rfl⟩:=hv.slc;exact(aq7 w v _ cols _ _ _ _ (hR.isM_z hS hzl) (by rw[hSv.len];exact hs')).mono fun e w' ⟨h1,h2⟩=>⟨⟨_,h1,ah7 _ _ _⟩,h2⟩
theorem akk{n:Nat}{f g:Nat->Rat}(h:∀c,f c=g c):qRow f n=qRow g n:=by
 rw[funext h]
theorem aus{w:World}{v vr:Value}{ess:List (List WE)}{n:Nat}{es:List WE}(h:RwM w v ess)(hv:Rw w vr es)(hl:lenM ess+lenW es<=1500)(hs:Shaped (zsM ess) (n:Int))(hn:es.length=ess.length):∃rs ok f L,SolC ess (n:Int) es rs ok f L:=by
 have hzl:∀es∈ess,∀e∈es,e.zs.length<=1500:=fun es he e hx=>by
  obtain⟨u,hu⟩:=h.row es he;have:=(hu.sl e hx).parts.1;have:=afy hx;have:=ah0 he;omega
 have hvl:∀e∈es,e.zs.length<=1500:=fun e hx=>by
  have:=(hv.sl e hx).parts.1;have:=afy hx;omega
 have hn32:n<=32:=by have:=hs.2.1;omega
 have hzn:(es.map WE.z).length=(zsM ess).length:=by rw[List.length_map,ag5];exact hn
 have hB:=azn h hv hn hl;have hrn:∀r∈zsM ess,r.length=n:=fun r hr=>by have:=hs.2.2.2 r hr;omega
 have hbr:=ah6 (ys:=es.map WE.z) hrn;have hbl:(besR (zsM ess) (es.map WE.z)).length<=(zsM ess).length:=by rw[adg];omega
 have ref:∀(w:World) (v vr:Value),RwM w v ess->Rw w vr es->_:=fun w v vr hR hv=>aq3 w v vr (zsM ess) (es.map WE.z) n 1500 bndB ((hR.isM (L:=1500) (by omega)).wide (by omega)) hs (by omega) (ah1 hv (L:=1500+1) (by omega)) hzn hB
 have pr:∀(w:World) (v vr:Value) (fss:List (List WE)) (fs:List WE),RwM w v fss->SameM fss ess->Rw w vr fs->SameR fs es->_:=fun w v vr fss fs hR hS hv hSv=>aq5 w v vr (zsM ess) (es.map WE.z) n 1500 (hR.isM_z hS hzl) hs ⟨fs,hv,amn hSv,amo hSv hvl⟩ hzn (by omega)
 obtain⟨_,_,_,⟨⟨md,Rd,Qd,Xd,hRd0,_⟩,_⟩,_⟩:=ref w v vr h hv [];obtain⟨_,_,_,⟨⟨R0,Q0,torn0,hG0,_⟩,_⟩,_⟩:=pr w v vr ess es h (aqp _) hv rfl [];have t0:=aew hRd0 hbr hG0 hbl;cases torn0 with
 |true=>
  refine⟨[],false,0,0,by simp,fun w v vr hR hv=>(ref w v vr hR hv).mono ?_,fun w v vr fss fs hR hS hv hSv=>(pr w v vr fss fs hR hS hv hSv).mono ?_⟩
  ·rintro e w' ⟨⟨m,R,Q,X,hRd,hT⟩,hb⟩;have hn:=(aew hRd hbr hG0 hbl).1 rfl;rcases hT with⟨_,h1⟩|⟨h1,_⟩
   ·exact⟨⟨_,h1,ajx _ _⟩,hb⟩
   ·exact absurd hn h1
  ·rintro e w' ⟨⟨R',Q',torn',hG,hT⟩,hb⟩;have hn:torn'=true:=(aew hRd0 hbr hG hbl).2 (t0.1 rfl);rcases hT with⟨_,h1⟩|⟨h1,_⟩
   ·exact⟨⟨_,h1,ah7 _ _ _⟩,hb⟩
   ·rw[hn]at h1;cases h1
 |false=>
  have refS:∀ {m:List (List Int)} {R X:List Md.Rw} {Q:List Nat},RdI (n+1) (besR (zsM ess) (es.map WE.z)) (n+1) m R Q X->n∉Q/\qRow (solG n R Q) n=qRow (solG n R0 Q0) n:=fun {m R X Q} hRd=>⟨fun hc=>(by have:=(aew hRd hbr hG0 hbl).2 hc;cases this),akk (ams hRd hbr hG0 hbl)⟩
  have prS:∀ {R':List Md.Rw} {Q':List Nat} {torn':Bool},GatI (n+1) n (besR (zsM ess) (es.map WE.z)) (zsM ess).length R' Q' torn'->torn'=false/\qRow (solG n R' Q') n=qRow (solG n R0 Q0) n:=fun {R' Q' torn'} hG=>by
   have hf:torn'=false:=by
    cases torn' with
    |false=>rfl
    |true=>exact absurd ((aew hRd0 hbr hG hbl).1 rfl) (refS hRd0).1
   subst hf;exact⟨rfl,by rw[<-akk (ams hRd0 hbr hG hbl)];exact(refS hRd0).2⟩
  by_cases hbig:(qRow (solG n R0 Q0) n).any bigQ=true
  ·refine⟨[],false,2,0,by simp,fun w v vr hR hv=>(ref w v vr hR hv).mono ?_,fun w v vr fss fs hR hS hv hSv=>(pr w v vr fss fs hR hS hv hSv).mono ?_⟩
   ·rintro e w' ⟨⟨m,R,Q,X,hRd,hT⟩,hb⟩;obtain⟨s1,s2⟩:=refS hRd;rw[s2]at hT;rcases hT with⟨h1,_⟩|⟨_,⟨_,h1⟩|⟨h1,_⟩⟩
    ·exact absurd h1 s1
    ·exact⟨⟨_,h1,ajx _ _⟩,hb⟩
    ·rw[hbig]at h1;cases h1
   ·rintro e w' ⟨⟨R',Q',torn',hG,hT⟩,hb⟩;obtain⟨s1,s2⟩:=prS hG;rw[s2]at hT;rcases hT with⟨h1,_⟩|⟨_,⟨_,h1⟩|⟨h1,_⟩⟩
    ·rw[s1]at h1;cases h1
    ·exact⟨⟨_,h1,ah7 _ _ _⟩,hb⟩
    ·rw[hbig]at h1;cases h1
  ·have hbig:(qRow (solG n R0 Q0) n).any bigQ=false:=by simpa using hbig
   have hql:(qRow (solG n R0 Q0) n).length=n:=ah5 _ _;refine⟨qRow (solG n R0 Q0) n,true,0,lg 1500,by rw[hql];exact hn32,fun w v vr hR hv=>(ref w v vr hR hv).mono ?_,fun w v vr fss fs hR hS hv hSv=>(pr w v vr fss fs hR hS hv hSv).mono ?_⟩
   ·rintro e w' ⟨⟨m,R,Q,X,hRd,hT⟩,hb⟩;obtain⟨s1,s2⟩:=refS hRd;rw[s2]at hT;rcases hT with⟨h1,_⟩|⟨_,⟨h1,_⟩|⟨_,wv,h1,h3⟩⟩
    ·exact absurd h1 s1
    ·rw[hbig]at h1;cases h1
    ·exact⟨⟨wv,h1,h3⟩,hb⟩
   ·rintro e w' ⟨⟨R',Q',torn',hG,hT⟩,hb⟩;obtain⟨s1,s2⟩:=prS hG;rw[s2]at hT;rcases hT with⟨h1,_⟩|⟨_,⟨h1,_⟩|⟨_,bv,lo,hi,h1,_,h3⟩⟩
    ·rw[s1]at h1;cases h1
    ·rw[hbig]at h1;cases h1
    ·exact⟨⟨_,h1,_,_,by rw[hql],.inr ⟨bv,lo,hi,rfl,by rw[hql];exact h3⟩⟩,hb⟩
end Lm
namespace Lm
open Go Go.RowKit Md
open Dm (WFr)
theorem Kp.cat{w w1 w2:World}{p:Nat}{bs bs':List Nat}(h:Kp w w1 p bs)(h':Kp w1 w2 p bs'):Kp w w2 p (bs++bs'):=
 ⟨h'.os.trans h.os,h'.tape.trans h.tape,h'.output.trans h.output,Nat.le_trans h.size h'.size,fun k hk hp hn=>(h'.other k (Nat.lt_of_lt_of_le hk h.size) hp (fun hm=>hn (List.mem_append.2 (.inr hm)))).trans (h.other k hk hp (fun hm=>hn (List.mem_append.2 (.inl hm))))⟩
end Lm
namespace Lm
open Go Go.RowKit Md
theorem RqO.kq{K:Nat}{w w':World}{v:Value}{es:List QE}(h:RqO K w v es)(hk:∀k,K<=k->k<w.heap.size->w'.heap[k]? = w.heap[k]?):RqO K w' v es:=by
 have ow:∀ {v:Value} {zs:List Int},Ow K w v zs->Ow K w' v zs:=fun {v zs} h=>by
  obtain⟨ao,cap,hv,g1,g2,g3,g4⟩:=h;refine⟨ao,cap,hv,g1,g2,g3,?_⟩;rcases g4 with g4|⟨k,off,cur,rfl,hB,hh,g5,g6⟩
  ·exact .inl g4
  ·exact .inr ⟨k,off,cur,rfl,hB,(hk k hB (aaa hh)).trans hh,g5,g6⟩
 refine⟨?_,fun e he=>ow (h.o1 e he),fun e he=>ow (h.o2 e he)⟩;obtain⟨h1,h2|⟨g,cap,cur,e1,e2,e3,e4⟩⟩:=h.own
 ·exact⟨h1,.inl h2⟩
 ·exact⟨h1,.inr ⟨g,cap,cur,e1,e2,(hk g e2 (aaa e3)).trans e3,e4⟩⟩
theorem RqO.at{K:Nat}{w:World}{ao:Option Addr}{n cap:Nat}{es:List QE}{k:Nat}{e:QE}(h:RqO K w (.slice ao n cap) es)(he:es[k]? = some e):∃g,ao=some ⟨g,0,none⟩/\g<w.heap.size/\w.cell? ⟨g,0+k*3,none⟩=some (.bool e.r.ng)/\w.cell? ⟨g,0+k*3+1,none⟩=some (.slice e.r.a e.r.m e.r.c)/\w.cell? ⟨g,0+k*3+2,none⟩=some (.slice e.r.d e.r.k e.r.e)/\Sl w (.slice e.r.a e.r.m e.r.c) e.zs/\Sl w (.slice e.r.d e.r.k e.r.e) e.ys:=by
 have hk:=(List.getElem?_eq_some_iff.1 he).1;have hm:=List.mem_of_getElem? he;obtain⟨ao',cap',hv,h1,h2,h3,h4⟩:=Ce.own h.own;obtain⟨e1,e2,e3⟩:=(Value.slice.injEq .. ▸ hv);subst e1;have hr:(es.map QE.r)[k]? = some e.r:=by rw[List.getElem?_map,he];rfl
 obtain⟨f1,f2,f3⟩:=a0j hr;obtain⟨_,⟨hx,_⟩|⟨g,c,cur,hg,_,hh,_⟩⟩:=h.own
 ·injection hx with _ hx;have:=e2;omega
 ·injection hg with hg _ _;subst hg;rcases h4 with h4|⟨b,off,hb,hl,hc⟩
  ·omega
  ·simp only[Option.some.injEq,Addr.mk.injEq,and_true]at hb;obtain⟨rfl,rfl⟩:=hb;exact⟨_,rfl,hl,hc _ _ f1,hc _ _ f2,hc _ _ f3,(h.o1 e hm).sl,(h.o2 e hm).sl⟩
theorem aut(w:World)(v0 v2:Value)(ess:List (List WE))(cols:Int)(es:List WE)(h0:RwM w v0 ess)(h2:Rw w v2 es)(hlen:∀es∈ess,es.length<=4398046511103/\∀e∈es,e.m<=35184372088832)(hout:ess.length<=5864062014804)(hes:es.length<=4398046511103)(hem:∀e∈es,e.m<=35184372088832):
  Calls Tryz.prog 3 #[v0,.int .i64 cols,v2] w fun e w'=>e=.returned (.bool true)/\Below w.heap.size w w':=by
 obtain⟨a0,c0,rfl,hm0⟩:=h0.parts;obtain⟨a2,c2,rfl⟩:=h2.slc;have hl2:=h2.parts.2;have HO:=hide (And.intro hout hlen);have HL:Hid (∀es∈ess,∀e∈es,e.m<=35184372088832):=(fun es he=>(hlen es he).2);have HE:=hide (And.intro hes hem);have H0:=hide h0;have H2:=hide h2;have K1:=hide (a0r w);clear h0 h2 hlen hout hes hem;obtain⟨m,hm⟩:∃m,ess.length=m:=⟨_,rfl⟩;have HM:=hide hm;rw[hm]at H0 hm0 ⊢;obtain⟨k2,hk2⟩:∃m,es.length=m:=⟨_,rfl⟩;have HK2:=hide hk2;rw[hk2]at H2 hl2 ⊢;clear hm hk2;go_enter Tryz.func3,Tryz.ntmps3
 go_wp2_with fail
 refine K1.out.mono ?_;rintro e w1 ⟨rfl,hb1⟩;have HB1:=hide hb1;have K2:=aug w1 _ ess (H0.out.below hb1) HL.out;obtain⟨lv,hlv⟩:∃lv,IntKind.i64.wrap (lenM ess:Int)=lv:=⟨_,rfl⟩;rw[hlv]at K2;have K2:=hide K2;have HLV:=hide hlv;clear hlv;clear hb1 K1;go_wp2_with fail
 refine K2.out.mono ?_;rintro e w2 ⟨rfl,hb2⟩;have HB2:=hide (HB1.out.trans (hb2.mono HB1.out.size));have K3:=amm w2 a2 k2 c2 es (H2.out.below HB2.out) HE.out.2;obtain⟨rv,hrv⟩:∃rv,IntKind.i64.wrap (lenW es:Int)=rv:=⟨_,rfl⟩;rw[hrv]at K3;have K3:=hide K3;have HRV:=hide hrv;clear hrv;obtain⟨tv,htv⟩:∃tv,IntKind.i64.wrap (lv+rv)=tv:=⟨_,rfl⟩;have HTV:=hide htv;clear hb2 K2;go_wp2_with fail
 refine K3.out.mono ?_;rintro e w3 ⟨rfl,hb3⟩;have HB3:=hide (HB2.out.trans (hb3.mono HB2.out.size));clear hb3 K3;by_cases hlong:tv > 1500
 ·have hl':tv > 1500:=hlong;go_wp2;refine bodyPost_ret (v:=_) (by simp[results,Tryz.results3,go_sem];try rfl) rfl ⟨rfl,HB3.out⟩
 have hl':decide (tv > 1500)=false:=by simp;omega
 obtain⟨rs,ok,f,L,hC⟩:∃rs ok f L,SolC ess cols es rs ok f L:=by
  by_cases hsh:Shaped (zsM ess) cols/\es.length=ess.length
  ·obtain⟨n,rfl⟩:∃n:Nat,cols=(n:Int):=⟨cols.toNat,by have:=hsh.1.1;omega⟩;have hm64:ess.length<=64:=by have:=hsh.1.2.2.1;rwa[ag5]at this
   have hlm:lenM ess+lenW es<=1500:=by
    have h1:=aqo hsh.1 HL.out;have h3:=ajv HE.out.2;have h5:es.length*(1+35184372088832)<=64*(1+35184372088832):=Nat.mul_le_mul_right _ (by omega);have hq:lenW es<=2400000000000000:=by omega
    have e1:=HLV.out;rw[aju (by omega) (by omega)]at e1;have e2:=HRV.out;rw[aju (by omega) (by omega)]at e2;have e3:=HTV.out;rw[aju (by omega) (by omega)]at e3;omega
   exact aus H0.out H2.out hlm hsh.1 hsh.2
  ·exact⟨_,_,_,_,awv H0.out HL.out hsh⟩
 have HC:=hide hC;have hrl:=hC.len;have hff:(f==f)=true:=by simp
 have hoo:(ok==ok)=true:=by simp
 have K4:=hide (aqm w3 _ ess (H0.out.below HB3.out) HO.out.1 HO.out.2);clear hC hlong;go_wp2_with fail
 refine K4.out.mono ?_;rintro e w4 ⟨gv,fss,rfl,hG,hS,hb4⟩;obtain⟨ga,gc,rfl⟩:=hG.shp;have HG:=hide hG.rwM;have HS:=hide hS;have HB4:=hide (HB3.out.trans (hb4.mono HB3.out.size));have K5:=hide (aki w4 _ _ _ es (H2.out.below HB4.out) HE.out.1 HE.out.2);clear hG hS hb4 K4;go_wp2_with fail
 refine K5.out.mono ?_;rintro e w5 ⟨gv5,fs,rfl,hR5,hS5,hb5⟩;obtain⟨a5,c5,rfl⟩:=hR5.rw.slc;have HB5:=hide (HB4.out.trans (hb5.mono HB4.out.size));have HG5:=hide (HG.out.below hb5);have HR5:=hide hR5.rw;have HS5:=hide hS5;have K6:=hide (HC.out.pr w5 _ _ fss fs (HG.out.below hb5) HS.out hR5.rw hS5);clear hR5 hS5 hb5 K5 HG;go_wp2_with fail
 refine K6.out.mono ?_;rintro e w6 ⟨⟨xv,rfl,xa,xc,hxv,hX⟩,hb6⟩;subst hxv;obtain⟨LO,HI,hX⟩:∃LO HI,rs = []\/∃bv,xa=some ⟨bv,0,none⟩/\QRwI w6 bv rs.length rs.length rs L w5.heap.size LO HI:=by
  rcases hX with h|⟨bv,lo,hi,h⟩
  ·exact⟨fun _=>0,fun _=>0,.inl h⟩
  ·exact⟨lo,hi,.inr ⟨bv,h⟩⟩
 have HX:=hide hX;have HB56:=hide hb6;have HB6:=hide (HB5.out.trans (hb6.mono HB5.out.size));have K7:=hide (HC.out.ref w6 _ _ (H0.out.below HB6.out) (H2.out.below HB6.out));clear hb6 K6 hX;go_wp2_with fail
 refine K7.out.mono ?_;rintro e w7 ⟨⟨wv,rfl,es',hRq,hraw⟩,hb7⟩;obtain⟨wa,wc,hwv,-⟩:=Ce.own hRq.own;have hel:es'.length=rs.length:=by simpa using congrArg List.length hraw
 rw[hel]at hwv;subst hwv;have HRQ:=hide hRq;have HRAW:=hide hraw;have HB67:=hide hb7;have hbK:=hAl w7 (.cells #[.slice none 0 0,.slice none 0 0] 39);have HBKN:=hide (heap_alloc_new w7 (.cells #[.slice none 0 0,.slice none 0 0] 39));have HB7B:=hide hbK;obtain⟨l,hl⟩:∃l,rs.length=l:=⟨_,rfl⟩;rw[hl]at hrl HX ⊢;have HLN:=hide (And.intro hl (hel.trans hl));have HSZ:Hid (w.heap.size<=w5.heap.size/\w5.heap.size<=w6.heap.size/\w6.heap.size<=w7.heap.size/\w7.heap.size<(w7.alloc (.cells #[.slice none 0 0,.slice none 0 0] 39)).heap.size):=⟨HB5.out.size,HB56.out.size,hb7.size,by simp⟩;clear hRq hraw hb7 hbK K7 hel hl HB1 HB2 HB3 HB4 HB6;go_wp2_with fail
 generalize hWk:w7.alloc (.cells #[.slice none 0 0,.slice none 0 0] 39)=wB at *
 obtain⟨p,hp7⟩:∃p,w7.heap.size=p:=⟨_,rfl⟩;have HP7:=hide hp7;rw[hp7]at HBKN HSZ ⊢;have HBK:Hid (Bs wB p w5.heap.size [] 0):=Bs.new HBKN.out;have hll:((l:Int)==(l:Int))=true:=by simp
 clear hWk hp7 HBKN;go_loopw [16] (fun iv wr=>∃(k:Nat) (bs bx:List Nat),iv=.int .i64 k/\k<=l/\Bs wr p w5.heap.size bs (2*k)/\Kp wB wr p bx/\(∀j∈bs,wB.heap.size<=j\/∃i,i<k/\LO i<=j/\j<HI i)/\∀j∈bx,wB.heap.size<=j\/∃i,i<k/\LO i<=j/\j<HI i) (fun iv _=>l-(intOf iv).toNat)
 case atStart=>exact⟨0,[],[],rfl,Nat.zero_le _,HBK.out,Kp.refl _ _ _,fun j hj=>(by cases hj),fun j hj=>(by cases hj)⟩
 case round=>
  obtain⟨k,bs,bx,rfl,hk,hbs,hkp,hin,hinx⟩:=hrel;have HBS:=hide hbs;have HKP:=hide hkp;have HIN:=hide (And.intro hin hinx);have hge:∀j∈bx,w5.heap.size<=j:=fun j hj=>by
   have hsz:=HSZ.out;rcases hinx j hj with h|⟨i,h1,h2,_⟩
   ·omega
   ·rcases HX.out with hn|⟨bv,_,fs0,_,_,_,h4,_⟩
    ·have:=HLN.out.1;rw[hn]at this;simp at this;omega
    ·have:=(h4 i (by omega)).1;omega
  have HK5:=hide (hkp.below (B:=w5.heap.size) (by have:=HSZ.out;omega) hge (by have:=HSZ.out;omega));clear hge;by_cases hlt:k<l
  ·have hlt':(k:Int)<(l:Int):=by omega
   have hsz:=HSZ.out;obtain⟨bv,hxa,fs0,q1,q2,q3,q4,q5⟩:∃bv,xa=some ⟨bv,0,none⟩/\QRwI w6 bv l l rs L w5.heap.size LO HI:=by
    rcases HX.out with hn|h
    ·have:=HLN.out.1;rw[hn]at this;simp at this;omega
    ·exact h
   subst hxa;obtain⟨r,hr⟩:∃r,rs[k]? = some r:=⟨_,List.getElem?_eq_getElem (by have:=HLN.out.1;omega)⟩;obtain⟨ff,hff0⟩:∃x,fs0[k]? = some x:=⟨_,List.getElem?_eq_getElem (by omega)⟩;obtain⟨_,L',ng,ao,cap,us,bo,dap,ss,B1,T1,B2,T2,efv,hW1,hF2,hBT,hap,_⟩:=q3 k ff r hlt hff0 hr;have hk4:=q4 k hlt;obtain⟨e',he'⟩:∃e',es'[k]? = some e':=⟨_,List.getElem?_eq_getElem (by have:=HLN.out.2;omega)⟩;obtain⟨hfe1,hfe2,hfe3,hfe4,hfe5,hfe6,hfe7⟩:ff.ng=ng/\ff.a=ao/\ff.m=us.length/\ff.c=cap/\ff.d=bo/\ff.k=ss.length/\ff.e=dap:=by
    unfold FE.v at efv;simpa[and_assoc]using efv
   have hbx:∀j∈bx,j<LO k\/HI k<=j:=fun j hj=>by
    rcases hinx j hj with h|⟨i,h1,h2,h3⟩
    ·exact .inr (by omega)
    ·have:=q5 i k h1 hlt;exact .inl (by omega)
   have hbs':∀j∈bs,j<LO k\/HI k<=j:=fun j hj=>by
    rcases hin j hj with h|⟨i,h1,h2,h3⟩
    ·exact .inr (by omega)
    ·have:=q5 i k h1 hlt;exact .inl (by omega)
   have hb6B:=HB67.out.trans (HB7B.out.mono HB67.out.size);have hW:Dm.WFr B1 T1 wr ng ao cap us r.num:=(hW1.ru (Ru.of_below hb6B)).kp hkp (.inr (by omega)) (fun j hj=>by have:=hbx j hj;omega);have hF:Fr B2 T2 wr bo dap ss (r.den:Int):=(hF2.ru (Ru.of_below hb6B)).kp hkp (.inr (by omega)) (fun j hj=>by have:=hbx j hj;omega);have hcu:us=cnl r.num.natAbs:=acb hW.fr.canon (ac2 _).1 (by rw[hW.fr.val,(ac2 _).2]);have hcs:ss=cnl r.den:=acb hF.canon (ac2 _).1 (by rw[hF.val,(ac2 _).2]);have hbvB:wB.heap[bv]? = some (.cells (f3 fs0).toArray 44 (0,0)):=(hb6B.block bv (aaa q2)).trans q2;have hbvl:=aaa q2;have hbvr:wr.heap[bv]? = some (.cells (f3 fs0).toArray 44 (0,0)):=(hkp.other bv (aaa hbvB) (by omega) (fun hc=>by
    rcases hinx bv hc with h|⟨i,h1,h2,h3⟩
    ·have:=aaa hbvB;omega
    ·have:=(q4 i (by omega)).2.2;omega)).trans hbvB
   have hcl:∀j,wr.cell? ⟨bv,j,none⟩=(f3 fs0)[j]? :=fun j=>by rw[cell_of_row _ _ _ _ _ (0,0) hbvr,List.getElem?_toArray]
   obtain⟨x0,x1,x2⟩:=aqu hff0;replace x0:=(hcl _).trans x0;replace x1:=(hcl _).trans x1;replace x2:=(hcl _).trans x2;have hRr:RqO w6.heap.size wr (.slice wa l wc) es':=by
    have h1:=HRQ.out;rw[HLN.out.1]at h1;refine h1.kq fun j hj1 hj2=>?_
    rw[hkp.other j (by have:=HP7.out;omega) (by have:=HP7.out;omega) (fun hc=>by
     rcases hinx j hc with h|⟨i,h2,h3,h4⟩
     ·have:=HP7.out;omega
     ·have:=(q4 i (by omega)).2.1;omega)]
    exact HB7B.out.block j hj2
   obtain⟨gw,hwa,hgl,y0,y1,y2,sy1,sy2⟩:=hRr.at he';subst hwa;have hrw:(e'.r.ng,e'.zs,e'.ys)=(decide (r.num<0),cnl r.num.natAbs,cnl r.den):=by
    have:=congrArg (fun l=>l[k]?) HRAW.out;simp only[List.getElem?_map,he',hr,Option.map_some,Option.some.injEq]at this;exact this
   simp only[Prod.mk.injEq]at hrw;have hbvw:=aaa hbvr;have HSW:=hide (And.intro hW (And.intro hF (And.intro hBT hap)));have HBB:=hide (And.intro hbs' (And.intro hk4.1 hk4.2.1));have HXB:=hide hbx;have HQQ:=hide (And.intro (hrw.1.trans hW.sgn.symm) (And.intro (hcu.trans hrw.2.1.symm) (hcs.trans hrw.2.2.symm)));have HY:=hide (And.intro sy1 sy2);obtain⟨fng,fa,fm,fc,fd,fk,fe⟩:=ff;simp only at hfe1 hfe2 hfe3 hfe4 hfe5 hfe6 hfe7;subst hfe1 hfe2 hfe3 hfe4 hfe5 hfe6 hfe7;simp only[Nat.zero_add]at y0 y1 y2;clear hbs hkp hin hinx q1 q2 q3 q4 q5 hr hff0 efv hW1 hF2 hBT hap hk4 he' hbx hbs' hb6B hW hF hcu hcs hbvB hbvl hbvr hcl hRr hrw sy1 sy2 hsz;go_upto_region 13 with fail
   go_cut [68] (fun cv wx=>cv=.bool false/\Below wr.heap.size wr wx)
   case first=>
    refine agy [59,60,61,62,63,64,65,66,67,68] [Eqs (.slice (some ⟨bv,0,none⟩) l xc),Eqs (.int .i64 (k:Int)),Eqs (.pointer (some ⟨bv,0+k*3,none⟩)),Eqs (.agg #[.bool fng,.slice fa us.length fc,.slice fd ss.length fe]),Eqs (.slice (some ⟨gw,0,none⟩) l wc),Eqs (.int .i64 (k:Int)),Eqs (.pointer (some ⟨gw,0+k*3,none⟩)),Eqs (.agg #[.bool e'.r.ng,.slice e'.r.a e'.r.m e'.r.c,.slice e'.r.d e'.r.k e'.r.e]),Eqs (.bool true),Eqs (.bool false)] (by assumption) (by assumption) rfl (by decide) (by kernel_rfl) (by kernel_rfl) ⟨Eqs.mono _,Eqs.mono _,Eqs.mono _,Eqs.mono _,Eqs.mono _,Eqs.mono _,Eqs.mono _,Eqs.mono _,Eqs.mono _,Eqs.mono _,trivial⟩ ?_ ?_
    ·exact⟨⟨rfl,fun a_ w_ _ hB hR hD=>aah ((hR 9 rfl).trans (aab rfl))⟩,
      ⟨rfl,fun a_ w_ _ hB hR hD=>aah ((hR 16 rfl).trans (aab rfl))⟩,
      ⟨rfl,fun a_ w_ _ hB hR hD=>aoc (show a_.eval (.tmp 59)=.slice (some ⟨bv,0,none⟩) l xc from hD 0 rfl) rfl (show a_.eval (.tmp 60)=.int .i64 (k:Int)from hD 1 rfl) hlt⟩,
      ⟨rfl,fun a_ w_ _ hB hR hD=>atl (x:=⟨fng,fa,us.length,fc,fd,ss.length,fe⟩) (show a_.eval (.tmp 61)=.pointer (some ⟨bv,0+k*3,none⟩)from hD 2 rfl) ((hB.cell (p:=⟨bv,0+k*3,none⟩) hbvw).trans (by rw[Nat.zero_add];exact x0)) ((hB.cell (p:=⟨bv,0+k*3+1,none⟩) hbvw).trans (by rw[Nat.zero_add];exact x1)) ((hB.cell (p:=⟨bv,0+k*3+2,none⟩) hbvw).trans (by rw[Nat.zero_add];exact x2))⟩,
      ⟨rfl,fun a_ w_ _ hB hR hD=>aah ((hR 12 rfl).trans (aab rfl))⟩,
      ⟨rfl,fun a_ w_ _ hB hR hD=>aah ((hR 16 rfl).trans (aab rfl))⟩,
      ⟨rfl,fun a_ w_ _ hB hR hD=>aoc (show a_.eval (.tmp 63)=.slice (some ⟨gw,0,none⟩) l wc from hD 4 rfl) rfl (show a_.eval (.tmp 64)=.int .i64 (k:Int)from hD 5 rfl) hlt⟩,
      ⟨rfl,fun a_ w_ _ hB hR hD=>atl (x:=e'.r) (show a_.eval (.tmp 65)=.pointer (some ⟨gw,0+k*3,none⟩)from hD 6 rfl) ((hB.cell (p:=⟨gw,0+k*3,none⟩) hgl).trans (by rw[Nat.zero_add];exact y0)) ((hB.cell (p:=⟨gw,0+k*3+1,none⟩) hgl).trans (by rw[Nat.zero_add];exact y1)) ((hB.cell (p:=⟨gw,0+k*3+2,none⟩) hgl).trans (by rw[Nat.zero_add];exact y2))⟩,
      ⟨rfl,fun a_ w_ _ hB hR hD=>atm (x:=⟨fng,fa,us.length,fc,fd,ss.length,fe⟩) (z:=e'.r) (show a_.eval (.tmp 62)=.agg #[.bool fng,.slice fa us.length fc,.slice fd ss.length fe]from hD 3 rfl) (show a_.eval (.tmp 66)=.agg #[.bool e'.r.ng,.slice e'.r.a e'.r.m e'.r.c,.slice e'.r.d e'.r.k e'.r.e]from hD 7 rfl) (HSW.out.1.fr.ow.sl.below hB) (HSW.out.2.1.ow.sl.below hB) (HY.out.1.below hB) (HY.out.2.below hB) HQQ.out.1.symm HQQ.out.2.1 HQQ.out.2.2⟩,
      ⟨rfl,fun a_ w_ _ hB hR hD=>age (show a_.eval (.tmp 67)=.bool true from hD 8 rfl)⟩,
      trivial⟩
    ·intro a' w' hn' hd' hB' hR' hP'
     (repeat apply Exists.intro)
     refine⟨?rel,afe hn' hd' hR' ?fit⟩
     case fit=>repeat' (first|exact trivial|refine⟨(by first|exact .inl ⟨rfl,rfl⟩|exact .inr rfl),?_⟩)
     case rel=>exact⟨(show _=_ from hP' 9 (by decide)),hB'⟩
   case rest=>
    obtain⟨hc68,hbx2⟩:=hcut;subst hc68;have hsz:=HSZ.out;obtain⟨hW,hF,hBT,hap⟩:=HSW.out;have hw:=HBB.out;have hkps:=HKP.out.size;have hx2s:=hbx2.size;replace x0:=(hbx2.cell (p:=⟨bv,k*3,none⟩) hbvw).trans x0;replace x1:=(hbx2.cell (p:=⟨bv,k*3+1,none⟩) hbvw).trans x1;replace x2:=(hbx2.cell (p:=⟨bv,k*3+2,none⟩) hbvw).trans x2;have hbvw2:=Nat.lt_of_lt_of_le hbvw hx2s;have K9:=hide (aqd _ p w5.heap.size (2*k) bs (HBS.out.below hbx2) (by omega) B1 T1 B2 T2 fng fa fd fc fe us ss _ _ (hW.fr.below hbx2) (hF.below hbx2) (by omega) (by omega) (by omega) (by omega) (by omega) (fun j hj=>by have:=hw.1 j hj;omega) (fun j hj=>by have:=hw.1 j hj;omega) hap (.inr (by omega)));have HX2:=hide hbx2;have HIV:=hide (And.intro hw.2 hBT);clear hsz hW hF hBT hap hw hkps hx2s hbx2 hbvw y0 y1 y2 hgl;go_wp2_with fail
    refine K9.out.mono ?_;rintro e w9 ⟨rfl,bs2,ks,hb9,hkp9,hj9⟩;have hiv:=HIV.out;have hs2:=HX2.out.size;have hs1:=HKP.out.size;have hmap:∀j,(j∈bs2\/j∈ks)->wB.heap.size<=j\/∃i,i<k+1/\LO i<=j/\j<HI i:=fun j hj=>by
     rcases hj9 j hj with h|h|h|h
     ·rcases HIN.out.1 j h with h|⟨i,h1,h2⟩
      ·exact .inl h
      ·exact .inr ⟨i,by omega,h2⟩
     ·exact .inl (by omega)
     ·exact .inr ⟨k,by omega,by omega,by omega⟩
     ·exact .inr ⟨k,by omega,by omega,by omega⟩
    have HB9:Hid (Bs w9 p w5.heap.size bs2 (2*(k+1))):=(by rw[Nat.mul_add];exact hb9);have HK9:=hide (HKP.out.cat (hkp9.from HX2.out));have HM9:Hid ((∀j∈bs2,wB.heap.size<=j\/∃i,i<k+1/\LO i<=j/\j<HI i)/\∀j∈bx++ks,wB.heap.size<=j\/∃i,i<k+1/\LO i<=j/\j<HI i):=⟨fun j hj=>hmap j (.inl hj),fun j hj=>by
     rcases List.mem_append.1 hj with h|h
     ·rcases HIN.out.2 j h with h|⟨i,h1,h2⟩
      ·exact .inl h
      ·exact .inr ⟨i,by omega,h2⟩
     ·exact hmap j (.inr h)⟩
    clear hb9 hkp9 hj9 hmap hiv hs2 hs1 K9 x0 x1 x2 hbvw2;go_wp2;go_roundw
    case rel=>exact⟨k+1,bs2,bx++ks,by go_num,by omega,HB9.out,HK9.out,HM9.out.1,HM9.out.2⟩
    case measure=>simp[intOf];omega
  ·have hlt':decide ((k:Int)<(l:Int))=false:=by simp;omega
   obtain rfl:l=k:=by omega
   have hb5B:=HB56.out.trans ((HB67.out.trans (HB7B.out.mono HB67.out.size)).mono HB56.out.size);have hb5r:=hb5B.trans HK5.out;have HW5:=hide hb5r;have HW0:=hide (HB5.out.trans (hb5r.mono HB5.out.size));have KA:=hide (aqn wr _ _ fss ess (HG5.out.below hb5r) (H0.out.below HW0.out) HS.out);clear hbs hkp hin hinx hb5B hb5r;go_wp2_with (go_at_call 14;refine(a1k _ _).mono ?_;rintro r w' ⟨rfl,rfl⟩)
   refine KA.out.mono ?_;rintro e xa1 ⟨rfl,hxa1⟩;have HXA:=hide hxa1;have hb51:=HW5.out.trans (hxa1.mono HW5.out.size);have hb01:=HW0.out.trans (hxa1.mono HW0.out.size);have KB:=hide (akd xa1 _ _ _ _ (HR5.out.below hb51) _ _ _ _ (H2.out.below hb01) HS5.out);have HW1:=hide hb01;clear KA hxa1 hb51 hb01;go_wp2_with fail
   refine KB.out.mono ?_;rintro e xa2 ⟨rfl,hxa2⟩;have KD:=hide (az7 xa2 p _ _ _ ((HBS.out.below HXA.out).below hxa2) (by omega));have HW2:=hide (HW1.out.trans (hxa2.mono HW1.out.size));clear KB hxa2;go_wp2_with fail
   refine KD.out.mono ?_;rintro e xa3 ⟨rfl,hxa3⟩;have HW3:=hide (HW2.out.trans (hxa3.mono HW2.out.size));clear KD hxa3;go_wp2;refine bodyPost_ret (v:=_) (by simp[results,Tryz.results3,go_sem];try rfl) rfl ⟨rfl,HW3.out⟩
end Lm
namespace matrixSolvesLaw
open Go.ChangeShapes Go.WideShapes Go.ChangeAt Go.RowKit
open Go.ChangeMaps (open_string shut_string)
theorem own:ownKnob Tryz.prog.godebug=none:=by kernel_rfl
theorem laidOut:laidOutB Tryz.prog=true:=by kernel_rfl
set_option linter.unusedVariables false in
set_option maxRecDepth 100000 in
theorem lifted(os:Os)(started:os.Started)(H:Type)(enc:TypeId×Value->H):
  ReturnsInHanded {} Tryz.checked os 3 .any (Rows.matrixSolvesSpec.pre6 enc Tryz.prog Tryz.f3 Rows.matrixSolvesRow.domain false) (Rows.matrixSolvesSpec.post enc Tryz.prog Tryz.f3 false true false false):=by
 refine returnsInHanded_of_change_sized (C:=Tryz.checked) own started (by kernel_rfl) Tryz.func3
  (ChangeSpec.witness6 (enc:=enc) (C:=Tryz.checked) false ⟨#[],#[.slice none 0 0,.int .i64 0,.slice none 0 0],[]⟩ 8 (by kernel_rfl) (by kernel_rfl) (by kernel_rfl) (by kernel_rfl)) ?_
 intro W base args ds gs before hval0 hW hcnd hsz0 _;have hval:∀(j:Nat) t v,Tryz.f3.params[j]? = some t->args[j]? = some v->Value.okWide Tryz.prog W .any base t v:=hval0;have hW':=hW;obtain⟨p,q,hA0,hV,rfl,hfz,hnd⟩:=hW;have hA:DataW.TrodAll enc Tryz.prog W 0 (fun _=>true) true Tryz.f3.params.toList args.toList ds p:=hA0;have hsz:(DataW.weightsEach Tryz.prog (Tryz.f3.params.toList++Rows.matrixSolvesSpec.plain.varTypes Tryz.prog) (ds++gs)).all (·<=reachBytes)=true:=hsz0;rw[Tryz.params3]at hA hval hsz;obtain⟨v0,vs0,d0,ds0,p0,q0,hargs,rfl,rfl,h0,r_0⟩:=trodAll_cons hA;obtain⟨v1,vs1,d1,ds1,p1,q1,rfl,rfl,rfl,h1,r_1⟩:=trodAll_cons r_0;obtain⟨v2,vs2,d2,ds2,p2,q2,rfl,rfl,rfl,h2,r_2⟩:=trodAll_cons r_1;obtain⟨rfl,rfl,rfl⟩:=trodAll_nil r_2;obtain rfl:args = #[v0,v1,v2]:=by cases args;simp_all
 obtain⟨rfl,rfl⟩:=trodVars_none hV;obtain⟨a0,len0,cap0,rfl⟩:=okWide_slice Tryz.underlying22 (hval 0 22 v0 rfl rfl);have k0:=h0;have lt0:∀x∈p0,x.block<W.heap.size:=by obtain⟨m,hm⟩:=k0;exact DataW.trod_lt m _ _ _ hm
 obtain⟨z0,w0,b0,l0⟩:∃ess,Lm.RwM W (.slice a0 len0 cap0) ess/\(∀es∈ess,es.length<=4398046511103/\∀e∈es,e.m<=35184372088832)/\ess.length<=5864062014804:=by
  obtain⟨fuel,hf⟩:=h0;refine Lm.ank (x:=(d0,p0)) (by simpa[Value.cells]using hf) (fun k hk=>?_);have:=List.all_eq_true.1 hsz k (DataW.weights_mem_each (j:=0) (t:=22) (d:=d0) rfl rfl k hk);simpa using this
 obtain⟨a1,rfl,rfl,rfl,w1⟩:=open_int Tryz.underlying3 (hval 1 3 v1 rfl rfl) h1;obtain⟨a2,len2,cap2,rfl⟩:=okWide_slice Tryz.underlying23 (hval 2 23 v2 rfl rfl);have k2:=h2;have lt2:∀x∈p2,x.block<W.heap.size:=by obtain⟨m,hm⟩:=k2;exact DataW.trod_lt m _ _ _ hm
 obtain⟨z2,w2,l2,b2⟩:∃es,Lm.Rw W (.slice a2 len2 cap2) es/\es.length<=4398046511103/\∀e∈es,e.m<=35184372088832:=by
  obtain⟨fuel,hf⟩:=h2;refine Lm.ai4 (x:=(d2,p2)) (by simpa[Value.cells]using hf) (fun k hk=>?_);have:=List.all_eq_true.1 hsz k (DataW.weights_mem_each (j:=2) (t:=23) (d:=d2) rfl rfl k hk);simpa using this
 clear hA0 hval0;refine(Lm.aut W _ _ z0 a1 z2 w0 w2 b0 l0 l2 b2).mono fun e W' ⟨he,bel⟩=>?_
 subst he;exact⟨_,rfl,_,_,_,[],_,[],hW',trodAll_mk1 (shut_bool Tryz.underlying4 _),(trodAll_cons_mk (Below.trod laidOut (by kernel_rfl) (of_decide_eq_true (by kernel_rfl)) k0 bel lt0) (trodAll_cons_mk (shut_int Tryz.underlying3 w1) (trodAll_cons_mk (Below.trod laidOut (by kernel_rfl) (of_decide_eq_true (by kernel_rfl)) k2 bel lt2) trodAll_mk0))),rfl,bel.frame _,fun h=>by cases h⟩
theorem over:Rows.matrixSolvesRow.holds Tryz.pinned (OpenSpec.ofChange Rows.matrixSolvesSpec):=
 OpenClaim.holds_of_wide 3 Tryz.f3 rfl rfl rfl rfl rfl rfl rfl ⟨rfl,rfl,rfl,rfl,rfl⟩ rfl rfl rfl rfl rfl (by kernel_rfl) Tryz.func3 (by kernel_rfl)
  (of_decide_eq_true (by kernel_rfl)) (by unfold Func.isWrapper;first|(rw[if_pos (by decide +kernel)];kernel_rfl)|(rw[if_neg (by decide +kernel)];exact⟨rfl,rfl⟩))
  (fun os started H enc _=>lifted os started H enc)
end matrixSolvesLaw
theorem matrixSolves_holds:Rows.MatrixSolvesSaid:=matrixSolvesLaw.over
#print axioms matrixSolves_holds
end Go.Proofs.YtnamacnblomgcaaGreat
