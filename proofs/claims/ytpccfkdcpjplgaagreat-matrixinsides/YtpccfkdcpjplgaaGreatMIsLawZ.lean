/-
  The given statement on MatrixInsides, for every input: the call answers true, and each argument reads behind it as it read before. No condition beyond the statement's own. Beside it: Rows of rows copied as they lie, whatever their length; held against one another. The document's Read: rows that were handed in, as its own numbers. The document's Echelon and Rank. The document's In. Package matrix: Inside. LenWholes and LenRows of rows of any length: what they answer is the length as an int. What MatrixForms and MatrixDual ask: rows that are told are short; Echelon of rows without a shape; a product of rows as one operation. Both sides of Echelon and Rank: what the program and the document answer of rows that lie alike. Both sides of Inside. The law on Inside: it answers as the document does.
-/
import Derived.Test.YtpccfkdcpjplgaaGreatRows
import Derived.ProofKit
import Derived.OpenShut
import Derived.ShutString
import Derived.ChangeOld
import Derived.SizedLaws
import Derived.Test.YtpccfkdcpjplgaaGreatMIsLawZ4
namespace Go.Proofs.YtpccfkdcpjplgaaGreat
namespace Lm
open Go Go.RowKit
set_option maxRecDepth 20000 in
set_option maxHeartbeats 400000 in
theorem ave (w:World) (ao:Option Addr) (n cap:Nat) (xs:List Int) (hx:Sl w (.slice ao n cap) xs) (hl:xs.length≤35184372088832) :
  Calls Tryz.prog 80 #[.slice ao n cap] w fun e w'=>∃ v,e=.returned v∧Ow w.heap.size w' v xs∧Below w.heap.size w w' := by
 obtain ⟨rfl,h1,h2,h3⟩:=hx.parts
 obtain ⟨i0,hi,hz0,hz1,hz2⟩:=info_parts ab1
 by_cases h0:0<xs.length
 ·obtain ⟨b,off,rfl,hc⟩:=hx.cells h0
  have hcells:=ao5 hc
  have H3:=hide h3
  clear hc h3 hx
  go_enter Tryz.func80,Tryz.ntmps80
  go_wp2_with (at_builtin;refine wpList_append_own _ rfl (.const (.slice none 0 0)) (.tmp 3) 27 rfl w.heap.size 68 i0 (.int .u32 0) 1 4 Tryz.underlying27 hi hz0 hz1 hz2 rfl (by decide) _ _ _ rfl (World.ownsRow_nil _ _ _ _) ⟨b,off,none⟩ xs.length cap (xs.map (Value.int .u32)) rfl (by simp) hcells (as8 xs) (by unfold maxLen;omega) (by omega) (by simp) ?_)
  intro v' w1 hown hgrow _
  have hb1:Below w.heap.size w w1:=(Below.refl w.heap.size w).grown hgrow (by simp) (by intro k hk;simp [Value.ownBlock] at hk)
  have how:=aby (zs:=xs) (by simpa using hown) H3.out
  clear hown hgrow
  go_wp2
  go_ret
  exact ⟨_,rfl,how,hb1⟩
 ·have e:xs = []:=List.eq_nil_of_length_eq_zero (by omega)
  subst e
  cases ao with
  | none =>
   go_enter Tryz.func80,Tryz.ntmps80
   go_wp2
   go_ret
   exact ⟨_,rfl,⟨none,0,rfl,Nat.le_refl _,by simp [maxLen],aae,.inl rfl⟩,Below.refl _ _⟩
  | some ad =>
   go_enter Tryz.func80,Tryz.ntmps80
   go_wp2
   go_ret
   exact ⟨_,rfl,⟨none,0,rfl,Nat.le_refl _,by simp [maxLen],aae,.inl rfl⟩,Below.refl _ _⟩
section
variable {dst:Option Tmp} {ty:TypeId} {pos:String} {after:Array Edge} {guard:Option (Nat × Bool)} {a:Act} {w:World} {ats:Array TypeId} {i j:Nat}
theorem ap6 {K:Nat} {ao:Option Addr} {n c:Nat} {zs:List Int} (h:a.eval (.tmp i)=.slice ao n c) (S:Sl w (.slice ao n c) zs) (hl:zs.length≤35184372088832) (hK:K≤w.heap.size) :
  Does Tryz.prog { dst,op:=.call { callee:=.value (.func 80),args:=#[.tmp i],argTypes:=ats },type:=ty,pos,after,guard } a.eval w fun v w'=>Below w.heap.size w w'∧OwL K zs v w' := by
 refine aas am2 _ (by simp only [List.map_toArray,List.map_cons,List.map_nil,h]) ((ave w _ _ _ zs S hl).mono ?_)
 rintro e w' ⟨v,rfl,ho,hb⟩
 refine ⟨_,rfl,hb,?_⟩
 obtain ⟨ao',cap',hv,_⟩:=id ho
 exact ⟨ao',cap',hv,ho.mono hK⟩
end
set_option maxRecDepth 20000 in
set_option maxHeartbeats 1000000 in
theorem at4 (w:World) (nx:Bool) (ax:Option Addr) (mx cx:Nat) (xs:List Int) (Tx:Sl w (.slice ax mx cx) xs) (hl:xs.length≤35184372088832) :
  Calls Tryz.prog 40 #[.agg #[.bool nx,.slice ax mx cx]] w fun e w'=>∃ v,e=.returned v∧OwW w.heap.size nx xs v w'∧Below w.heap.size w w' := by
 go_enter Tryz.func40,Tryz.ntmps40
 generalize hA:(Act.mk _ _)=aa
 have hn:aa.tmps.size=9:=by rw [←hA];rfl
 have hd:aa.defers = []:=by rw [←hA]
 have f0:aa.eval (.tmp 0)=.agg #[.bool nx,.slice ax mx cx]:=by rw [←hA];rfl
 clear hA
 have HB:Below w.heap.size w w:=Below.refl _ _
 refine wp_seq ?_
 refine abc [some 1,some 2] [(fun _ _=>True),(fun _ _=>True)] [⟨W2,some 0,0,1,.agg #[.bool nx,.slice ax mx cx],none,[]⟩,⟨W2,some 1,0,2,.agg #[.bool false,.slice none 0 0],none,[]⟩] [] (by kernel_rfl) hn rfl (by kernel_rfl) (by kernel_rfl) (by kernel_rfl) (by kernel_rfl) (by kernel_rfl) (by kernel_rfl) ⟨True.mono4,True.mono4,trivial⟩ (abv W2ok (abv W2ok abo)) (IsOld.all (bx:=[⟨W2,some 0,0,1,.agg #[.bool nx,.slice ax mx cx],none,[]⟩,⟨W2,some 1,0,2,.agg #[.bool false,.slice none 0 0],none,[]⟩]) ⟨someNe,someNe,trivial⟩) (DisOld.all (bx:=[⟨W2,some 0,0,1,.agg #[.bool nx,.slice ax mx cx],none,[]⟩,⟨W2,some 1,0,2,.agg #[.bool false,.slice none 0 0],none,[]⟩]) ⟨someNe,someNe,trivial⟩) ?_ ?_
 ·exact ⟨.alloc 0 _ rfl rfl (.inr ⟨_,rfl,amj,fun a_ hR=>(hR 0 rfl).trans f0⟩) rfl rfl rfl rfl rfl,
   .alloc 1 _ rfl rfl (.inl ⟨rfl,rfl⟩) rfl rfl rfl rfl rfl,
   trivial⟩
 intro a1 w1 gs1 hn1 hd1 hBt hr hR hP hX hU
 replace hn:=hn1;replace hd:=hd1.trans hd
 have ne1_2:gs1 0≠gs1 1:=hU 0 1 (by simp) (by simp) (by decide)
 have b1:BoxV W2 w1 (gs1 0) (.agg #[.bool nx,.slice ax mx cx]):=(hX 0 _ rfl).2.2.2
 have f1:=(hX 0 _ rfl).1
 have u1:w.heap.size≤gs1 0:=Nat.le_trans HB.size ((hX 0 _ rfl).2.2.1 (by simp))
 have b2:BoxV W2 w1 (gs1 1) (.agg #[.bool false,.slice none 0 0]):=(hX 1 _ rfl).2.2.2
 have f2:=(hX 1 _ rfl).1
 have u2:w.heap.size≤gs1 1:=Nat.le_trans HB.size ((hX 1 _ rfl).2.2.1 (by simp))
 replace Tx:=Tx.rl hr
 replace HB:=HB.trans (hBt.below HB.size (UpOld.all (bx:=[⟨W2,some 0,0,1,.agg #[.bool nx,.slice ax mx cx],none,[]⟩,⟨W2,some 1,0,2,.agg #[.bool false,.slice none 0 0],none,[]⟩]) ⟨someNe,someNe,trivial⟩))
 clear hBt hr hR hP hX hU
 refine wp_seq ?_
 refine abc [some 3,some 4,some 5,some 6,some 7,some 8,none] [Eqs (.pointer (some ⟨gs1 0,0,none⟩)),Eqs (.bool nx),Eqs (.pointer (some ⟨gs1 0,1,none⟩)),Eqs (.slice ax mx cx),OwL (w.heap.size) (xs),OwW (w.heap.size) (nx) (xs),(fun _ _=>True)] [⟨W2,none,(gs1 1),2,.agg #[.bool false,.slice none 0 0],some (6,8,5),[]⟩] [] (by kernel_rfl) hn rfl (by kernel_rfl) (by kernel_rfl) (by kernel_rfl) (by kernel_rfl) (by kernel_rfl) (by kernel_rfl) ⟨Eqs.mono4 _,Eqs.mono4 _,Eqs.mono4 _,Eqs.mono4 _,OwL.mono4 _ _,OwW.mono4 _ _ _,True.mono4,trivial⟩ (abv W2ok abo) (IsOld.all (bx:=[⟨W2,none,(gs1 1),2,.agg #[.bool false,.slice none 0 0],some (6,8,5),[]⟩]) ⟨fun _=>⟨f2,b2⟩,trivial⟩) (DisOld.all (bx:=[⟨W2,none,(gs1 1),2,.agg #[.bool false,.slice none 0 0],some (6,8,5),[]⟩]) ⟨fun _=>trivial,trivial⟩) ?_ ?_
 ·exact ⟨.norm 3 rfl rfl rfl (fun a_ w_ hn_ hBt hr hR hD hO hS=>afs ai9 ((hR 1 rfl).trans f1)),
   .norm 4 rfl rfl rfl (fun a_ w_ hn_ hBt hr hR hD hO hS=>age (show a_.eval (.tmp 3)=.pointer (some ⟨gs1 0,0,none⟩) from hD 0 rfl) (b1.keep hBt ⟨fun _=>ne1_2.symm,trivial⟩)),
   .norm 5 rfl rfl rfl (fun a_ w_ hn_ hBt hr hR hD hO hS=>afs aja ((hR 1 rfl).trans f1)),
   .norm 6 rfl rfl rfl (fun a_ w_ hn_ hBt hr hR hD hO hS=>agf (show a_.eval (.tmp 5)=.pointer (some ⟨gs1 0,1,none⟩) from hD 2 rfl) (b1.keep hBt ⟨fun _=>ne1_2.symm,trivial⟩)),
   .norm 7 rfl rfl rfl (fun a_ w_ hn_ hBt hr hR hD hO hS=>ap6 (show a_.eval (.tmp 6)=.slice ax mx cx from hD 3 rfl) (Tx.rl hr) (by omega) (Nat.le_trans HB.size hr.size)),
   .norm 8 rfl rfl rfl (fun a_ w_ hn_ hBt hr hR hD hO hS=>au1 (show a_.eval (.tmp 4)=.bool nx from hD 1 rfl) (show OwL (w.heap.size) (xs) (a_.eval (.tmp 7)) w_ from hD 4 rfl)),
   .store 0 _ _ _ rfl rfl rfl rfl rfl rfl rfl (fun ia h=>by cases h) rfl rfl rfl OwW.cs,
   trivial⟩
 intro a2 w2 gs2 hn2 hd2 hBt hr hR hP hX hU
 replace hn:=hn2;replace hd:=hd2.trans hd
 obtain ⟨a_3,c_3,e8,O3⟩:OwW (w.heap.size) (nx) (xs) (a2.eval (.tmp 8)) w2:=hP 5 (by decide)
 have b2:BoxV W2 w2 ((gs1 1)) (.agg #[.bool nx,.slice a_3 xs.length c_3]):=aey ((hX 0 _ rfl).2.1 rfl) (hX 0 _ rfl).2.2.2 e8
 replace f2:a2.eval (.tmp 2) = _:=(hR 2 rfl).trans f2
 replace Tx:=Tx.rl hr
 replace HB:=HB.trans (hBt.below HB.size (UpOld.all (bx:=[⟨W2,none,(gs1 1),2,.agg #[.bool false,.slice none 0 0],some (6,8,5),[]⟩]) ⟨fun _=>u2,trivial⟩))
 clear hBt hr hR hP hX hU
 refine wp_ret ?_
 repeat (first | refine ad2 ?_ | refine ada ?_ | refine ac9 ?_)
 exact bodyPost_ret (v:=.agg #[.bool nx,.slice a_3 xs.length c_3]) (ab5 rfl f2 (arw b2)) hd ⟨_,rfl,⟨_,_,rfl,O3⟩,HB⟩
section
variable {dst:Option Tmp} {ty:TypeId} {pos:String} {after:Array Edge} {guard:Option (Nat × Bool)} {a:Act} {w:World} {ats:Array TypeId} {i j:Nat}
theorem art {B g:Nat} {v:Value} {es:List WE} {ng:Bool} {ao:Option Addr} {n c:Nat} {zs:List Int} (h1:a.eval (.tmp i)=v) (h2:a.eval (.tmp j)=.slice (some ⟨g,0,none⟩) 1 1) (R:RwO B w v es) (O:One w g ng ao n c) (S:Ow B w (.slice ao n c) zs) (hn:es.length≤4398046511103) (hB:B≤w.heap.size) :
  Does Tryz.prog { dst,op:=.call { callee:=.builtin .append,args:=#[.tmp i,.tmp j],argTypes:=#[44,44] },type:=ty,pos,after,guard } a.eval w fun v' w'=>RwO B w' v' (es ++ [⟨ng,ao,n,c,zs⟩])∧Below B w w' := by
 obtain ⟨i0,hi,hz0,hz1,hz2⟩:=info_parts infoW
 have hfl:flat (es ++ [⟨ng,ao,n,c,zs⟩])=flat es ++ [.bool ng,.slice ao n c]:=by rw [aeh];rfl
 obtain ⟨v',w',hr,ho,hgr,_⟩:=run_append_own (P:=Tryz.prog) w B 44 ty 60 i0 _ 2 32 Tryz.underlying44 hi hz0 hz1 hz2 rfl (by decide) v es.length (flat es) R.own ⟨g,0,none⟩ 1 1 [.bool ng,.slice ao n c] rfl (fun k u hu=>by
  have hc:∀ k,w.cell? ⟨g,k,none⟩ = #[Value.bool ng,.slice ao n c][k]? := fun k=>cell_of_row w g k _ _ (0,0) O
  have ha:(⟨g,0,none⟩:Addr).add k=⟨g,k,none⟩:=by unfold Addr.add;split <;> simp_all
  rw [ha,hc]
  simpa using hu) (by simp [Value.oneCell']) (by simp [maxLen];omega) (by omega) hB
 have e:(execOp a.eval { dst,op:=.call { callee:=.builtin .append,args:=#[.tmp i,.tmp j],argTypes:=#[44,44] },type:=ty,pos,after,guard }).run Tryz.prog w=.ok (.value v') w' := by
  simp only [execOp,resolve,invoke,builtin,Sem.run_bind,Sem.run_pure,Result.andThen_ok,List.map_toArray,List.map_cons,List.map_nil,h1,h2,hr]
 refine ⟨?_⟩
 unfold Turns
 rw [e]
 have hrow:∃ cur:Nat→Array Value,∀ k,v.ownBlock=some k→w.heap[k]? = some (.cells (cur k) 60 (0,0)):=by
  rcases R.own.2 with ⟨rfl,_⟩ | ⟨g',cap,cur,rfl,_,hh,_⟩
  ·exact ⟨fun _=>#[],fun k hk=>by simp [Value.ownBlock] at hk⟩
  ·refine ⟨fun _=>cur,fun k hk=>?_⟩
   simp only [Value.ownBlock,Option.some.injEq] at hk
   subst hk
   exact hh
 obtain ⟨cur,hcur⟩:=hrow
 refine ⟨⟨by rw [hfl,List.length_append];exact ho,fun e he=>?_⟩,⟨hgr.os,hgr.tape,hgr.output,hgr.size,fun k hk=>hgr.block k (by omega) (fun e=>?_)⟩⟩
 ·rcases List.mem_append.1 he with he | he
  ·exact (R.ow e he).grown hgr hcur
  ·obtain rfl:=List.mem_singleton.1 he
   exact S.grown hgr hcur
 ·have:=R.own.lt k e.symm
  omega
end
set_option maxRecDepth 20000 in
set_option maxHeartbeats 4000000 in
theorem aip (w:World) (ax:Option Addr) (mx cx:Nat) (xs:List WE) (R:Rw w (.slice ax mx cx) xs) (hl:xs.length≤4398046511103) (hm:∀ e ∈ xs,e.m≤35184372088832) :
  Calls Tryz.prog 21 #[.slice ax mx cx] w fun e w'=>∃ v es,e=.returned v∧RwO w.heap.size w' v es∧SameR es xs∧Below w.heap.size w w' := by
 have HX:=hide R
 have HNx:Hid (mx=xs.length):=R.parts.1
 have HL:=hide hm
 have hmx:mx≤4398046511103:=by have:=HNx.out;omega
 clear R hl hm
 go_enter Tryz.func21,Tryz.ntmps21
 go_wp2_with fail
 go_loopw [3,4] (fun ov iv wr=>∃ (k:Nat) (es:List WE),iv=.int .i64 k∧k≤mx∧Below w.heap.size w wr∧RwO w.heap.size wr ov es∧SameR es (xs.take k)) (fun _ iv _=>mx - (intOf iv).toNat)
 case atStart=>exact ⟨0,[],rfl,Nat.zero_le _,Below.refl _ _,als _ _,rfl⟩
 case round =>
  obtain ⟨k,es,rfl,hk,hbw,ho,hs⟩:=hrel
  obtain ⟨aov,capv,hov,_⟩:=Cl.own ho.own
  subst hov
  have HO:=hide ho
  have HS:=hide hs
  have HW:=hide hbw
  by_cases hlt:k<mx
  ·have hlt' : (k:Int)<(mx:Int):=by omega
   obtain ⟨ex,hex⟩:∃ e,xs[k]? = some e:=⟨_,List.getElem?_eq_getElem (by have:=HNx.out;omega)⟩
   obtain ⟨bx,ox,hAx,hlx0,hcx⟩:=HX.out.cells (by have:=HNx.out;omega)
   subst hAx
   have hlx:bx<wr.heap.size:=Nat.lt_of_lt_of_le hlx0 hbw.size
   have x0:=(hbw.cell (p:=⟨bx,ox+k*2,none⟩) hlx0).trans (hcx _ _ (abf hex).1)
   have x1:wr.cell? ⟨bx,ox+k*2+1,none⟩ = some (.slice ex.a ex.m ex.c):=(hbw.cell (p:=⟨bx,ox+k*2+1,none⟩) hlx0).trans (hcx _ _ (abf hex).2)
   have hsl:=(HX.out.sl ex (List.mem_of_getElem? hex)).below hbw
   have hem:=HL.out ex (List.mem_of_getElem? hex)
   have hes:es.length≤4398046511103:=by rw [hs.len,List.length_take];omega
   have K1:=hide (at4 wr ex.ng ex.a ex.m ex.c ex.zs hsl (by have:=hsl.parts.1;omega))
   have HEX:=hide hex
   clear hbw ho hs hsl hem hex hcx hlx
   go_wp2_with fail
   refine K1.out.mono ?_
   rintro e w2 ⟨r2,rfl,⟨ao2,cap2,rfl,hw2⟩,hb2⟩
   have hA:=hAl w2 (.cells #[.bool ex.ng,.slice ao2 ex.zs.length cap2] 60)
   have hb2' := hb2.trans (hA.mono hb2.size)
   have hR2:=HO.out.below hb2'
   have hO2:One _ w2.heap.size ex.ng ao2 ex.zs.length cap2:=heap_alloc_new w2 (.cells #[.bool ex.ng,.slice ao2 ex.zs.length cap2] 60)
   have hS2:Ow w.heap.size _ (.slice ao2 ex.zs.length cap2) ex.zs:=(hw2.mono HW.out.size).below hA
   have hsz:w.heap.size≤(w2.alloc (.cells #[.bool ex.ng,.slice ao2 ex.zs.length cap2] 60)).heap.size:=Nat.le_trans HW.out.size hb2'.size
   clear x0 x1 hlx0
   go_wp2_with (at_builtin;refine abe rfl (art (i:=11) (j:=17) rfl rfl hR2 hO2 hS2 hes hsz) ?_)
   intro v3 w3 hR3 hb3
   obtain ⟨aov3,capv3,hov3,_⟩:=Cl.own hR3.own
   subst hov3
   have HR3:=hide hR3
   have HB3:=hide ((HW.out.trans (hb2'.mono HW.out.size)).trans hb3)
   clear hR3 hb3 hR2 hO2 hS2 hsz hA hb2 hb2' hw2
   go_wp2
   go_roundw
   case rel=>exact ⟨k+1,_,by go_num,by omega,HB3.out,HR3.out,am3 HS.out HEX.out rfl⟩
   case measure=>simp [intOf];omega
  ·have hlt' : decide ((k:Int)<(mx:Int))=false:=by simp;omega
   have hkn:k=mx:=by omega
   subst hkn
   clear hbw ho hs
   go_wp2
   refine bodyPost_ret (v:=_) (acu rfl rfl) rfl ⟨_,es,rfl,HO.out,(by have h:=HS.out;rwa [List.take_of_length_le (by have:=HNx.out;omega)] at h),HW.out⟩
def OtE (K:Nat) (w:World) (v:Value) (ess:List (List WE)):Prop:=∃ vs:List Value,w.ownsRow K 44 1 v ess.length vs∧∀ (i:Nat) (u:Value) (es:List WE),vs[i]? = some u→ess[i]? = some es→RwO K w u es
theorem OtE.below {K:Nat} {w w' : World} {v:Value} {ess:List (List WE)} (h:OtE K w v ess) (hb:Below w.heap.size w w'):OtE K w' v ess:=by
 obtain ⟨vs,h1,h2⟩:=h
 exact ⟨vs,acw h1 hb,fun i u z a b=>(h2 i u z a b).below hb⟩
theorem OtE.rwM {K:Nat} {w:World} {v:Value} {ess:List (List WE)} (h:OtE K w v ess):RwM w v ess:=by
 obtain ⟨vs,h1,h2⟩:=h
 exact ⟨vs,Ce.own h1,fun i u z a b=>(h2 i u z a b).rw⟩
theorem at5 (K:Nat) (w:World):OtE K w (.slice none 0 0) []:=⟨[],World.ownsRow_nil _ _ _ _,fun i u z a=>(by simp at a)⟩
theorem OtE.shp {K:Nat} {w:World} {v:Value} {ess:List (List WE)} (h:OtE K w v ess):∃ a c,v=.slice a ess.length c:=by
 obtain ⟨vs,h1,_⟩:=h
 obtain ⟨a,c,e,_⟩:=ag8 h1
 exact ⟨a,c,e⟩
theorem OtE.app {K:Nat} {w w' : World} {v v' u:Value} {ess:List (List WE)} {vs:List Value} {es:List WE} (hv:w.ownsRow K 44 1 v ess.length vs) (hr:∀ (i:Nat) (u:Value) (z:List WE),vs[i]? = some u→ess[i]? = some z→RwO K w u z) (h1:RwO K w u es) (ho:w'.ownsRow K 44 1 v' (ess.length+1) (vs ++ [u])) (hg:w.grownBy w' v.ownBlock):OtE K w' v' (ess ++ [es]):=by
 have hvl:vs.length=ess.length:=by simpa using hv.1
 have hc:∃ c:Nat→Array Value,∀ k,v.ownBlock=some k→w.heap[k]? = some (.cells (c k) 44 (0,0)):=by
  rcases hv.2 with ⟨rfl,_⟩ | ⟨g',cap,cur,rfl,_,hh,_⟩
  ·exact ⟨fun _=>#[],fun k hk=>by simp [Value.ownBlock] at hk⟩
  ·refine ⟨fun _=>cur,fun k hk=>?_⟩
   simp only [Value.ownBlock,Option.some.injEq] at hk
   subst hk
   exact hh
 obtain ⟨c,hc⟩:=hc
 have kp:∀ {u:Value} {es:List WE},RwO K w u es→RwO K w' u es:=fun {u es} h=>by
  refine h.keep hg hc (by decide) (fun g hg1 hg2=>?_)
  obtain ⟨c',hc'⟩:=h.row
  exact aa1 (hc g hg1) (hc' g hg2) (by decide) rfl
 refine ⟨vs ++ [u],by simpa using ho,fun i x y hx hy=>?_⟩
 by_cases hi:i<ess.length
 ·rw [List.getElem?_append_left (by omega)] at hx hy
  exact kp (hr i x y hx hy)
 ·rw [List.getElem?_append_right (by omega)] at hx hy
  rw [hvl] at hx
  match hm:i - ess.length with
  | 0 =>
   rw [hm] at hx hy
   simp at hx hy
   subst hx hy
   exact kp h1
  | m+1 =>
   rw [hm] at hx
   simp at hx
theorem infoSe:(Tryz.prog.info? 44).map (fun i=>(i.zero,i.size,i.bytes))=some (some (.slice none 0 0),1,24):=by kernel_rfl
section
variable {dst:Option Tmp} {ty:TypeId} {pos:String} {after:Array Edge} {guard:Option (Nat × Bool)} {a:Act} {w:World} {ats:Array TypeId} {i j:Nat}
theorem at6 {B g:Nat} {v u:Value} {ess:List (List WE)} {es:List WE} (h1:a.eval (.tmp i)=v) (h2:a.eval (.tmp j)=.slice (some ⟨g,0,none⟩) 1 1) (R:OtE B w v ess) (O:w.heap[g]? = some (.cells #[u] 44 (0,0))) (S:RwO B w u es) (hn:ess.length≤5864062014804) (hB:B≤w.heap.size) :
  Does Tryz.prog { dst,op:=.call { callee:=.builtin .append,args:=#[.tmp i,.tmp j],argTypes:=#[22,22] },type:=ty,pos,after,guard } a.eval w fun v' w'=>OtE B w' v' (ess ++ [es])∧Below B w w' := by
 obtain ⟨i0,hi,hz0,hz1,hz2⟩:=info_parts infoSe
 obtain ⟨vs,R1,R2⟩:=R
 have hone:u.oneCell' = true:=by
  obtain ⟨ao,c,rfl⟩:=S.rw.slc
  rfl
 obtain ⟨v',w',hr,ho,hgr,_⟩:=run_append_own (P:=Tryz.prog) w B 22 ty 44 i0 _ 1 24 Tryz.underlying22 hi hz0 hz1 hz2 rfl (by decide) v ess.length vs R1 ⟨g,0,none⟩ 1 1 [u] rfl (fun k x hx=>by
  have hc:∀ k,w.cell? ⟨g,k,none⟩ = #[u][k]? := fun k=>cell_of_row w g k _ _ (0,0) O
  have ha:(⟨g,0,none⟩:Addr).add k=⟨g,k,none⟩:=by unfold Addr.add;split <;> simp_all
  rw [ha,hc]
  simpa using hx) (by simpa using hone) (by simp [maxLen];omega) (by omega) hB
 have e:(execOp a.eval { dst,op:=.call { callee:=.builtin .append,args:=#[.tmp i,.tmp j],argTypes:=#[22,22] },type:=ty,pos,after,guard }).run Tryz.prog w=.ok (.value v') w' := by
  simp only [execOp,resolve,invoke,builtin,Sem.run_bind,Sem.run_pure,Result.andThen_ok,List.map_toArray,List.map_cons,List.map_nil,h1,h2,hr]
 refine ⟨?_⟩
 unfold Turns
 rw [e]
 exact ⟨OtE.app R1 R2 S ho hgr,(Below.refl _ _).grown hgr hB (fun k hk=>(R1.lt k hk).1)⟩
end
def SameM (ess ess' : List (List WE)):Prop:=ess.length=ess'.length∧∀ (i:Nat) (xs ys:List WE),ess[i]? = some xs→ess'[i]? = some ys→SameR xs ys
theorem anp {es xs:List (List WE)} {k:Nat} {e f:List WE} (h:SameM es (xs.take k)) (he:xs[k]? = some e) (hf:SameR f e):SameM (es ++ [f]) (xs.take (k+1)):=by
 have hk:=(List.getElem?_eq_some_iff.1 he).1
 have hl:=h.1
 rw [List.length_take] at hl
 refine ⟨by rw [List.length_append,List.length_take,hl];simp;omega,fun i a b ha hb=>?_⟩
 rw [List.take_add_one,he] at hb
 by_cases hi:i<k
 ·rw [List.getElem?_append_left (by omega)] at ha
  rw [List.getElem?_append_left (by rw [List.length_take];omega)] at hb
  exact h.2 i a b ha hb
 ·rw [List.getElem?_append_right (by omega)] at ha
  rw [List.getElem?_append_right (by rw [List.length_take];omega)] at hb
  rw [List.length_take] at hb
  rw [show i - es.length=i - min k xs.length by rw [hl]] at ha
  match hm:i - min k xs.length with
  | 0 =>
   rw [hm] at ha hb
   simp at ha hb
   subst ha hb
   exact hf
  | m+1 =>
   rw [hm] at ha
   simp at ha
set_option maxRecDepth 20000 in
set_option maxHeartbeats 4000000 in
theorem anq (w:World) (v:Value) (ess:List (List WE)) (h:RwM w v ess) (hl:ess.length≤5864062014804) (hr:∀ es ∈ ess,es.length≤4398046511103∧∀ e ∈ es,e.m≤35184372088832) :
  Calls Tryz.prog 10 #[v] w fun e w'=>∃ r fss,e=.returned r∧OtE w.heap.size w' r fss∧SameM fss ess∧Below w.heap.size w w' := by
 obtain ⟨ao,cap,rfl,_⟩:=h.parts
 have H:=hide h
 have HR:=hide hr
 clear h hr
 obtain ⟨n,hn⟩:∃ n,ess.length=n:=⟨_,rfl⟩
 rw [hn] at H hl ⊢
 have HN:=hide hn
 clear hn
 go_enter Tryz.func10,Tryz.ntmps10
 go_wp2_with fail
 go_loopw [3,4] (fun ov iv wr=>∃ (k:Nat) (fss:List (List WE)),iv=.int .i64 k∧k≤n∧Below w.heap.size w wr∧OtE w.heap.size wr ov fss∧SameM fss (ess.take k)) (fun _ iv _=>n - (intOf iv).toNat)
 case atStart=>exact ⟨0,[],rfl,Nat.zero_le _,Below.refl _ _,at5 _ _,rfl,fun i xs ys a=>(by simp at a)⟩
 case round =>
  obtain ⟨k,fss,rfl,hk,hbw,hown,hsm⟩:=hrel
  have HW:=hide hbw
  have HOWN:=hide hown
  have HSM:=hide hsm
  obtain ⟨aov,capv,hov⟩:=hown.shp
  subst hov
  have hfk:fss.length=k:=by rw [hsm.1,List.length_take];have:=HN.out;omega
  rw [hfk] at HOWN ⊢
  by_cases hlt:k<n
  ·obtain ⟨es,hz⟩:∃ z,ess[k]? = some z:=⟨_,List.getElem?_eq_getElem (by have:=HN.out;omega)⟩
   obtain ⟨b,off,u,rfl,hbl,x0,hu⟩:=(H.out.below hbw).cell hz
   obtain ⟨ua,uc,rfl⟩:=hu.slc
   have hre:=HR.out es (List.mem_of_getElem? hz)
   have K1:=hide (aip wr _ _ _ es hu hre.1 hre.2)
   have HZ:=hide hz
   have hlt' : (k:Int)<(n:Int):=by omega
   clear hbw hown hz hu hsm hre
   go_wp2_with fail
   refine K1.out.mono ?_
   rintro e w2 ⟨r2,fs,rfl,hR2,hS2,hb2⟩
   obtain ⟨a2,c2,rfl⟩:=hR2.rw.slc
   have hA:=hAl w2 (.cells #[.slice a2 fs.length c2] 44)
   have hO:=heap_alloc_new w2 (.cells #[.slice a2 fs.length c2] 44)
   have hb2' := hb2.trans (hA.mono hb2.size)
   have hRm:=HOWN.out.below hb2'
   have hS:=(hR2.below hA).low HW.out.size
   have hsz:w.heap.size≤(w2.alloc (.cells #[.slice a2 fs.length c2] 44)).heap.size:=Nat.le_trans HW.out.size hb2'.size
   have hfl:fss.length≤5864062014804:=by omega
   have HS2:=hide hS2
   go_wp2_with (at_builtin;refine abe rfl (at6 (i:=11) (j:=17) rfl rfl hRm hO hS hfl hsz) ?_)
   intro v3 w3 hR3 hb3
   obtain ⟨aov3,capv3,hov3⟩:=hR3.shp
   subst hov3
   have HR3:=hide hR3
   have HB3:=hide ((HW.out.trans (hb2'.mono HW.out.size)).trans hb3)
   clear hR3 hb3 hR2 hO hRm hS hsz hA hb2 hb2' hfl hS2
   go_wp2
   go_roundw
   case rel=>exact ⟨k+1,_,by go_num,by omega,HB3.out,HR3.out,anp HSM.out HZ.out HS2.out⟩
   case measure=>simp [intOf];omega
  ·have hlt' : decide ((k:Int)<(n:Int))=false:=by simp;omega
   have hkn:ess.take k=ess:=List.take_of_length_le (by have:=HN.out;omega)
   rw [hkn] at HSM hsm
   clear hbw hown hsm
   go_wp2
   refine bodyPost_ret (v:=_) (by simp [results,Tryz.results10,go_sem];try rfl) rfl ⟨_,fss,rfl,HOWN.out,HSM.out,HW.out⟩
set_option maxRecDepth 20000 in
set_option maxHeartbeats 8000000 in
set_option maxRecDepth 100000 in
theorem ap7 (w:World) (v:Value) (rows:List (List Int)) (L:Nat) (h:IsM w v rows L) (hl:rows.length≤100000) (hr:∀ r ∈ rows,r.length≤100000) (hL:L≤100000) :
  Calls Tryz.prog 26 #[v] w fun e w'=>∃ r vs,e=.returned r∧RmO w.heap.size w' r vs rows (3*L)∧Below w.heap.size w w' := by
 obtain ⟨ao,cap,rfl,_⟩:=h.parts
 have H:=hide h
 have HR:=hide hr
 clear h hr
 obtain ⟨n,hn⟩:∃ n,rows.length=n:=⟨_,rfl⟩
 rw [hn] at H hl ⊢
 have HN:=hide hn
 clear hn
 go_enter Tryz.func26,Tryz.ntmps26
 go_wp2_with fail
 go_loopw [3,4] (fun ov iv wr=>∃ (k:Nat) (vs:List Value),iv=.int .i64 k∧k≤n∧Below w.heap.size w wr∧RmO w.heap.size wr ov vs (rows.take k) (3*L)) (fun _ iv _=>n - (intOf iv).toNat)
 case atStart=>exact ⟨0,[],rfl,Nat.zero_le _,Below.refl _ _,al2 _ _ _⟩
 case round =>
  obtain ⟨k,vs,rfl,hk,hbw,hown⟩:=hrel
  have HW:=hide hbw
  have HOWN:=hide hown
  obtain ⟨aov,capv,hov,-⟩:=Ce.own hown.own
  subst hov
  by_cases hlt:k<n
  ·obtain ⟨z,hz⟩:∃ z,rows[k]? = some z:=⟨_,List.getElem?_eq_getElem (by have:=HN.out;omega)⟩
   obtain ⟨b,off,u,rfl,hbl,x0,hu⟩:=(H.out.below hbw).cell hz
   have K1:=hide (aj6 wr u z L hu (by have:=HR.out z (List.mem_of_getElem? hz);omega) hL)
   obtain ⟨ua,uc,rfl,-⟩:=id hu.parts
   have HZ:=hide hz
   have hlt' : (k:Int)<(n:Int):=by omega
   clear hbw hown hz hu
   go_wp2_with fail
   refine K1.out.mono ?_
   rintro e w2 ⟨r2,rfl,hR2,hb2⟩
   obtain ⟨a2,c2,rfl,-⟩:=id hR2.parts
   have hA:=hAl w2 (.cells #[.slice a2 z.length c2] 76)
   have hO:=heap_alloc_new w2 (.cells #[.slice a2 z.length c2] 76)
   have hb2' := hb2.trans (hA.mono hb2.size)
   have hRm:=HOWN.out.below hb2'
   have hS:=hR2.below hA
   have hsz:w.heap.size≤(w2.alloc (.cells #[.slice a2 z.length c2] 76)).heap.size:=Nat.le_trans HW.out.size hb2'.size
   have hfl:vs.length≤1000000:=by rw [HOWN.out.len,List.length_take];omega
   go_wp2_with (at_builtin;refine abe rfl (al3 (i:=11) (j:=17) rfl rfl hRm hO hS hfl hsz) ?_)
   intro v3 w3 hR3 hb3
   obtain ⟨aov3,capv3,hov3,-⟩:=Ce.own hR3.own
   subst hov3
   have HR3:=hide hR3
   have HB3:=hide ((HW.out.trans (hb2'.mono HW.out.size)).trans hb3)
   clear hR3 hb3 hR2 hO hRm hS hsz hA hb2 hb2' hfl
   go_wp2
   go_roundw
   case rel =>
    refine ⟨k+1,vs ++ [.slice a2 z.length c2],by go_num,by omega,HB3.out,?_⟩
    rw [List.take_add_one,HZ.out]
    exact HR3.out
   case measure=>simp [intOf];omega
  ·have hlt' : decide ((k:Int)<(n:Int))=false:=by simp;omega
   have hkn:k=n:=by omega
   subst hkn
   clear hbw hown
   go_wp2
   refine bodyPost_ret (v:=_) (acu rfl rfl) rfl ⟨_,vs,rfl,(by have h:=HOWN.out;rw [List.take_of_length_le (by have:=HN.out;omega)] at h;exact h),HW.out⟩
end Lm
end Go.Proofs.YtpccfkdcpjplgaaGreat
namespace Go.Proofs.YtpccfkdcpjplgaaGreat
namespace Lm
open Go Go.RowKit Md
set_option maxRecDepth 20000 in
set_option maxHeartbeats 4000000 in
theorem ahl (w:World) (v:Value) (rows:List (List Int)) (L:Nat) (h:IsM w v rows L) (cols:Int) :
  Calls Tryz.prog 24 #[v,.int .i64 cols] w fun e w'=>e=.returned (.bool (!decide (Shaped rows cols)))∧w' = w:=by
 obtain ⟨ao,cp,rfl,hn⟩:=h.parts
 have H:=hide h
 obtain ⟨n,hnn⟩:∃ n,rows.length=n:=⟨_,rfl⟩
 rw [hnn] at H hn ⊢
 have HN:=hide hnn
 clear h hnn
 by_cases h1:cols<0
 ·have HE:Hid (decide (Shaped rows cols)=false):=decide_eq_false (fun h=>by have:=h.1;omega)
  go_enter Tryz.func24,Tryz.ntmps24
  go_wp2
  refine bodyPost_ret (v:=_) (by simp [results,Tryz.results24,go_sem];try rfl) rfl ⟨by rw [HE.out];rfl,rfl⟩
 ·by_cases h2:cols > 32
  ·have h1' : decide (cols<0)=false:=decide_eq_false h1
   have HE:Hid (decide (Shaped rows cols)=false):=decide_eq_false (fun h=>by have:=h.2.1;omega)
   clear h1
   go_enter Tryz.func24,Tryz.ntmps24
   go_wp2
   refine bodyPost_ret (v:=_) (by simp [results,Tryz.results24,go_sem];try rfl) rfl ⟨by rw [HE.out];rfl,rfl⟩
  ·by_cases h3:(n:Int) > 64
   ·have h1' : decide (cols<0)=false:=decide_eq_false h1
    have h2' : decide (cols > 32)=false:=decide_eq_false h2
    have HE:Hid (decide (Shaped rows cols)=false):=decide_eq_false (fun h=>by have:=h.2.2.1;have:=HN.out;omega)
    clear h1 h2
    go_enter Tryz.func24,Tryz.ntmps24
    go_wp2
    refine bodyPost_ret (v:=_) (by simp [results,Tryz.results24,go_sem];try rfl) rfl ⟨by rw [HE.out];rfl,rfl⟩
   ·have h1' : decide (cols<0)=false:=decide_eq_false h1
    have h2' : decide (cols > 32)=false:=decide_eq_false h2
    have h3' : decide ((n:Int) > 64)=false:=decide_eq_false h3
    have HK:=hide (And.intro h1 (And.intro h2 h3))
    clear h1 h2 h3
    go_enter Tryz.func24,Tryz.ntmps24
    go_wp2_with fail
    go_loopw [5] (fun iv wr=>∃ k:Nat,iv=.int .i64 k∧k≤n∧(∀ r ∈ rows.take k,(r.length:Int)=cols)∧wr=w) (fun iv _=>n - (intOf iv).toNat)
    case atStart=>exact ⟨0,rfl,Nat.zero_le _,fun r hr=>(by simp at hr),rfl⟩
    case round =>
     obtain ⟨k,rfl,hk,hall,rfl⟩:=hrel
     have HA:=hide hall
     clear hall h1' h2' h3'
     by_cases hlt:k<n
     ·have hlt' : (k:Int)<(n:Int):=by omega
      obtain ⟨r,hr⟩:∃ r,rows[k]? = some r:=⟨_,List.getElem?_eq_getElem (by have:=HN.out;omega)⟩
      obtain ⟨b,off,u,rfl,hbl,x0,hx⟩:=H.out.cell hr
      obtain ⟨ua,uc,rfl,_⟩:=hx.parts
      have HR:=hide hr
      clear hr hx
      by_cases he:(r.length:Int)=cols
      ·have hne:((r.length:Int) != cols)=false:=by simp [bne,he]
       have HEQ:=hide he
       clear he
       go_wp2
       go_roundw
       case rel =>
        refine ⟨k+1,by go_num,by omega,fun r' hr'=>?_,trivial⟩
        rcases (abr HR.out).1 hr' with h | rfl
        ·exact HA.out r' h
        ·exact HEQ.out
       case measure=>simp [intOf];omega
      ·have hne:((r.length:Int) != cols)=true:=by simp [bne,he]
       have HE:Hid (decide (Shaped rows cols)=false):=decide_eq_false (fun h=>he (h.2.2.2 r (List.mem_of_getElem? HR.out)))
       clear he
       go_wp2
       refine bodyPost_ret (v:=_) (by simp [results,Tryz.results24,go_sem];try rfl) rfl ⟨by rw [HE.out];rfl,rfl⟩
     ·have hlt' : decide ((k:Int)<(n:Int))=false:=by simp;omega
      have HE:Hid (decide (Shaped rows cols)=true):=decide_eq_true (by
       have h1:=HK.out
       have h2:=HA.out
       rw [List.take_of_length_le (by have:=HN.out;omega)] at h2
       exact ⟨by omega,by omega,by have:=HN.out;omega,h2⟩)
      go_wp2
      refine bodyPost_ret (v:=_) (by simp [results,Tryz.results24,go_sem];try rfl) rfl ⟨by rw [HE.out];rfl,rfl⟩
structure Bnd (rows:List (List Int)) (S:Nat) (B:Md.Rw→Nat):Prop where
 big:∀ r ∈ rows,∀ k,((fnR r k).natAbs:Int)<pw (B (fnR r))
 sum:sumB B (rows.map fnR)≤S
 all:∀ r ∈ rows,∀ z ∈ r,(z.natAbs:Int)<pw (S+1)
theorem RdI.rows {n:Nat} {rows m:List (List Int)} {R X:List Md.Rw} {Q:List Nat} (h:RdI n rows n m R Q X):Q.length≤n∧∀ r ∈ m.take Q.length,r.length=n:=by
 refine ⟨af0 h.gat.desc h.gat.lt,fun r hr=>?_⟩
 have hm:=List.mem_of_mem_take hr
 rw [h.hm] at hm
 rcases List.mem_append.1 hm with hm | hm
 ·unfold elR at hm
  obtain ⟨p,_,rfl⟩:=List.mem_map.1 hm
  unfold red
  rw [List.length_map,aay]
 ·obtain ⟨x,_,rfl⟩:=List.mem_map.1 hm
  unfold red
  rw [List.length_map,aay]
end Lm
end Go.Proofs.YtpccfkdcpjplgaaGreat
namespace Go.Proofs.YtpccfkdcpjplgaaGreat
namespace Lm
open Go Go.RowKit Md
section
variable {dst:Option Tmp} {ty:TypeId} {pos:String} {after:Array Edge} {guard:Option (Nat × Bool)} {a:Act} {w:World} {i j:Nat}
theorem akm {b off n c q:Nat} (h:a.eval (.tmp i)=.slice (some ⟨b,off,none⟩) n c) (hk:a.eval (.tmp j)=.int .i64 (q:Int)) (hl:q<n):Does Tryz.prog { dst,op:=.indexAddr 53 (.tmp i) (.tmp j),type:=ty,pos,after,guard } a.eval w fun v' w'=>Below w.heap.size w w'∧Eqs (.pointer (some ⟨b,off+q,none⟩)) v' w' := by
 have hl' : (q:Int)<(n:Int):=by omega
 refine ⟨?_⟩
 unfold Turns
 simp only [execOp,h,hk]
 go_simp
 exact ⟨Below.refl _ _,by simp [Eqs]⟩
end
theorem NRow.wide3 {w:World} {v:Value} {zs:List Int} {L M:Nat} (h:NRow w v zs L) (hl:L≤M):NRow w v zs M:=by
 obtain ⟨fs,h1,h2,h3⟩:=h
 refine ⟨fs,h1,h2,fun k f z hf hk=>?_⟩
 obtain ⟨ng,ao,cap,rs,e,W,l⟩:=h3 k f z hf hk
 exact ⟨ng,ao,cap,rs,e,W,by omega⟩
theorem OutN.wide3 {z:Int} {L M:Nat} {v:Value} {w:World} (h:OutN z L v w) (hl:L≤M):OutN z M v w:=by
 obtain ⟨ng,ao,cap,rs,e,W,l⟩:=h
 exact ⟨ng,ao,cap,rs,e,W,by omega⟩
theorem Iv.at {B:Nat} {w:World} {ao:Option Addr} {n cap:Nat} {xs:List Int} {i:Nat} {x:Int} (h:Iv B w (.slice ao n cap) xs) (hx:xs[i]? = some x):n=xs.length∧∃ g,ao=some ⟨g,0,none⟩∧g<w.heap.size∧w.cell? ⟨g,i,none⟩ = some (.int .i64 x):=by
 obtain ⟨hl,⟨h1,h2⟩ | ⟨g,c,cur,hv,hb,hh,h1,h2,h3,h4⟩⟩:=h.own
 ·have:=(List.getElem?_eq_some_iff.1 hx).1
  omega
 ·injection hv with e1 e2 e3
  refine ⟨e2,g,e1,aaa hh,?_⟩
  rw [cell_of_row _ _ _ _ _ (0,0) hh]
  have hu:(xs.map (Value.int .i64))[i]? = some (.int .i64 x):=by rw [List.getElem?_map,hx];rfl
  rw [←h4,List.getElem?_take] at hu
  split at hu
  ·simpa using hu
  ·cases hu
set_option maxRecDepth 20000 in
set_option maxHeartbeats 32000000 in
set_option maxRecDepth 100000 in
theorem at7 (w:World) (v vv:Value) (rows:List (List Int)) (zs:List Int) (n S:Nat) (B:Md.Rw→Nat) (h:NM w v rows (3*(S+1))) (hrn:∀ r ∈ rows,r.length=n) (hr64:rows.length≤64) (hn:n≤32) (hS:S≤1600) (hB:Bnd rows S B) (hv:NRow w vv zs (3*(S+1))) (hzn:zs.length=n) (hzb:∀ z ∈ zs,(z.natAbs:Int)<pw (S+1)) :
  Calls Tryz.prog 41 #[v,.int .i64 (n:Int),vv] w fun e w'=>(∃ m R Q X b,RdI n rows n m R Q X∧e=.returned (.bool b)∧(b=true↔RS R (fnR zs)))∧Below w.heap.size w w' := by
 have K1:=hide (ano w v rows n S B h hrn hr64 (by omega) (by omega) hB.big hB.sum hB.all)
 have HRN:=hide hrn
 have HV:=hide hv
 have HZ:=hide (And.intro hzn hzb)
 obtain ⟨ao,cp,rfl,_⟩:=h.parts
 obtain ⟨av,cv,rfl,_⟩:=hv.parts
 rw [hzn] at HV ⊢
 have HRDB:Hid (∀ m R Q X,RdI n rows n m R Q X→∀ r ∈ m,∀ z ∈ r,(z.natAbs:Int)<pw (S+1)):=(fun m R Q X hR r hr=>(hR.bound hB.big hB.sum hr64 r hr).2)
 clear h hrn hr64 hB hv hzn hzb
 go_enter Tryz.func41,Tryz.ntmps41
 go_wp2_with fail
 refine K1.out.mono ?_
 rintro e w1 ⟨mv,pv,m,R,Q,X,rfl,hRd,hNM,hIv,hb1⟩
 have HRD:=hide hRd
 have hEB:∀ r ∈ elR n (efOf R Q),∀ z ∈ r,(z.natAbs:Int)<pw (S+1):=fun r hr=>HRDB.out m R Q X hRd r (by rw [←hRd.take_el] at hr;exact List.mem_of_mem_take hr)
 have HEB:=hide hEB
 have HEL:=hide hRd.el
 have HERS:=hide (hRd.el_rs HRN.out)
 have hq:=hRd.rows.1
 rw [hRd.take_el] at hNM
 generalize hE:elR n (efOf R Q)=E at *
 have hEl:E.length=Q.length:=by have:=HEL.out.len;simpa using this.symm
 obtain ⟨am,cm,rfl,_⟩:=hNM.parts
 obtain ⟨t,ht⟩:∃ t,Q.length=t:=⟨_,rfl⟩
 rw [hEl,ht] at hNM ⊢
 rw [ht] at hq hEl
 obtain ⟨ap,np,cpv,rfl⟩:∃ a n c,pv=.slice a n c:=by obtain ⟨a,c,e,_⟩:=ag8 hIv.own;exact ⟨a,_,c,e⟩
 have HT:=hide (And.intro ht hEl)
 have HNM:=hide hNM
 have HIV:=hide hIv
 have HB1:=hide hb1
 have hV1:=HV.out.below hb1
 clear hRd hEB hNM hIv hb1 K1 HRDB ht hEl hE
 go_wp2_with (at_builtin;refine abe rfl (aj8 (i:=19) rfl hV1 (by omega)) ?_)
 intro wv w2 hR2 hb2
 obtain ⟨aw,cw,rfl,-⟩:=id hR2.parts
 rw [HZ.out.1] at hR2 ⊢
 have HNM2:=hide (HNM.out.below hb2)
 have HIV2:=hide (HIV.out.below hb2)
 have HB2:=hide (HB1.out.trans (hb2.mono HB1.out.size))
 have HI0:Hid (InI n S R Q.reverse zs zs 0):=⟨HZ.out.1,Iff.rfl,fun i c hi=>absurd hi (by omega),fun z hz=>by simpa using HZ.out.2 z hz⟩
 have HR2:=hide hR2
 clear hR2 hb2 hV1 HNM HIV HB1
 go_wp2_with fail
 go_loopw [9,10,11] (fun wv iv _ wr=>∃ (k:Nat) (us:List Int) (aw:Option Addr) (cw:Nat),iv=.int .i64 k∧k≤t∧wv=.slice aw n cw∧InI n S R Q.reverse zs us k∧NRow wr (.slice aw n cw) us (3*(S+1+k*(S+2)))∧Below w2.heap.size w2 wr) (fun _ iv _ _=>t - (intOf iv).toNat)
 case atStart=>exact ⟨0,zs,aw,cw,rfl,Nat.zero_le _,rfl,HI0.out,by simpa using HR2.out,Below.refl _ _⟩
 case round =>
  obtain ⟨k,us,aw,cw,rfl,hk,rfl,hI,hU,hbw⟩:=hrel
  have HI:=hide hI
  have HU:=hide hU
  have HW:=hide hbw
  clear HR2 HI0
  by_cases hlt:k<t
  ·have hlt' : (k:Int)<(t:Int):=by omega
   obtain ⟨c,hc⟩:∃ c,Q.reverse[k]? = some c:=⟨_,List.getElem?_eq_getElem (by rw [List.length_reverse];have:=HT.out.1;omega)⟩
   obtain ⟨e,he⟩:∃ e,E[k]? = some e:=⟨_,List.getElem?_eq_getElem (by have:=HT.out.2;omega)⟩
   obtain ⟨he1,hcn,_,hpos,_⟩:=HEL.out.row k e c he hc
   obtain ⟨qy,hqy⟩:∃ z,us[c]? = some z:=⟨_,List.getElem?_eq_getElem (by rw [hI.len];exact hcn)⟩
   obtain ⟨py,hpy⟩:∃ z,e[c]? = some z:=⟨_,List.getElem?_eq_getElem (by rw [he1];exact hcn)⟩
   obtain ⟨hnp,gq,rfl,hgql,xq⟩:=HIV2.out.at (i:=k) (x:=(c:Int)) (by rw [List.getElem?_map,hc];rfl)
   obtain ⟨bm,om,eu,rfl,hbm,xm,hE1⟩:=HNM2.out.cell he
   obtain ⟨ea,ec,rfl,-⟩:=id hE1.parts
   rw [he1] at xm hE1
   obtain ⟨ba,oa,nga,aa,ma,ca,rfl,hbla,pa0,pa1,hqv⟩:=hU.cell hqy
   obtain ⟨bb,ob,ngb,ab,mb,cb,rfl,hblb,pb0,pb1,hpv⟩:=(hE1.below hbw).cell hpy
   have hnpt:np=t:=by rw [hnp];simp;exact HT.out.1
   subst hnpt
   replace xq:=(hbw.cell (p:=⟨gq,k,none⟩) hgql).trans xq
   replace xm:=(hbw.cell (p:=⟨bm,om+k,none⟩) hbm).trans xm
   replace hgql:=Nat.lt_of_lt_of_le hgql hbw.size
   replace hbm:=Nat.lt_of_lt_of_le hbm hbw.size
   have hltc:c<n:=hcn
   have K4:=hide (nsignF wr qy _ _ hqv)
   have HQV0:=hide hqv
   have HPV0:=hide hpv
   have HRB0:=hide (hE1.below hbw)
   have HX:=hide (And.intro hc (And.intro he (And.intro hqy hpy)))
   obtain ⟨sg,hsg⟩:∃ sg,Int.sign qy=sg:=⟨_,rfl⟩
   rw [hsg] at K4
   have HSG4:=hide hsg
   clear hbw hI hU hc he hqy hpy hqv hpv hE1 hsg he1 hpos hnp
   go_wp2_with fail
   refine K4.out.mono ?_
   rintro e4 w4 ⟨rfl,hb4⟩
   have HW4:=hide (HW.out.trans (hb4.mono HW.out.size))
   have HU4:=hide (HU.out.below hb4)
   by_cases hs4:sg=0
   ·have hs4' : (sg != 0)=false:=by simpa using hs4
    have HE4:Hid (fnR us c=0):=(show _ = _ by rw [ack HX.out.2.2.1];exact Int.sign_eq_zero_iff_zero.1 (by rw [HSG4.out];exact hs4))
    clear hb4 K4 xm xq hgql hbm hbla hblb pa0 pa1 pb0 pb1
    go_wp2
    go_roundw
    case rel=>exact ⟨k+1,us,_,_,by go_num,by omega,rfl,HI.out.skip HX.out.1 HE4.out,HU4.out.wide3 (Nat.mul_le_mul_left 3 (Nat.add_le_add_left (Nat.mul_le_mul_right _ (Nat.le_succ k)) _)),HW4.out⟩
    case measure=>simp [intOf];omega
   ·have hs4' : (sg != 0)=true:=by simpa using hs4
    replace xm:=(hb4.cell (p:=⟨bm,om+k,none⟩) hbm).trans xm
    replace pa0:=(hb4.cell (p:=⟨ba,oa+c*2,none⟩) hbla).trans pa0
    replace pa1:=(hb4.cell (p:=⟨ba,oa+c*2+1,none⟩) hbla).trans pa1
    replace pb0:=(hb4.cell (p:=⟨bb,ob+c*2,none⟩) hblb).trans pb0
    replace pb1:=(hb4.cell (p:=⟨bb,ob+c*2+1,none⟩) hblb).trans pb1
    have hkm:k*(S+2)≤32*1602:=Nat.mul_le_mul (by omega) (by omega)
    obtain ⟨M,hM⟩:∃ M,S+1+k*(S+2)=M:=⟨_,rfl⟩
    have hSM:S+1≤M:=by omega
    have hM6:M≤60000:=by omega
    have hM7:M+(S+2)≤60000:=by omega
    have HQV:Hid (OutN qy (3*M) (.agg #[.bool nga,.slice aa ma ca]) w4):=(by rw [←hM];exact HQV0.out.rl (Rl.of_below hb4))
    have HPV:Hid (OutN py (3*M) (.agg #[.bool ngb,.slice ab mb cb]) w4):=((HPV0.out.rl (Rl.of_below hb4)).wide3 (by omega))
    have HRA:Hid (NRow w4 (.slice (some ⟨ba,oa,none⟩) n cw) us (3*M)):=(by rw [←hM];exact HU4.out)
    have HRB:Hid (NRow w4 (.slice (some ⟨bb,ob,none⟩) n ec) e (3*M)):=((HRB0.out.below hb4).wide3 (by omega))
    have hx:=HX.out
    have hrow:=HEL.out.row k e c hx.2.1 hx.1
    have HJL:Hid (us.length=e.length):=(show us.length=e.length by rw [HI.out.len,hrow.1])
    have HJN:Hid (us.length≤100000):=(show us.length≤100000 by rw [HI.out.len];omega)
    have HJE:Hid (us≠[]):=(fun hc=>by have:=HI.out.len;rw [hc] at this;simp at this;omega)
    have HJZ:Hid (∀ z ∈ joinZ py us qy e,(z.natAbs:Int)<pw (M+(S+2))):=(akl (n:=n) (HEB.out e (List.mem_of_getElem? hx.2.1) py (List.mem_of_getElem? hx.2.2.2)) (by rw [←hM];exact HI.out.bd qy (List.mem_of_getElem? hx.2.2.1)) (by rw [←hM];exact HI.out.bd) (HEB.out e (List.mem_of_getElem? hx.2.1)) HI.out.len hrow.1)
    have HSt:Hid (InI n S R Q.reverse zs (red (joinZ py us qy e)) (k+1)):=(by
     have:=HI.out.step HEL.out hx.1 hx.2.1 (HERS.out e (List.mem_of_getElem? hx.2.1)) (HEB.out e (List.mem_of_getElem? hx.2.1))
     rwa [ack hx.2.2.2,ack hx.2.2.1] at this)
    have HMM:Hid (M+(S+2)=S+1+(k+1)*(S+2)):=(show M+(S+2)=S+1+(k+1)*(S+2) by
     have h9:(k+1)*(S+2)=k*(S+2)+(S+2):=Nat.succ_mul k (S+2)
     rw [h9,←hM]
     generalize k*(S+2)=y
     omega)
    replace hbm:=Nat.lt_of_lt_of_le hbm hb4.size
    replace hbla:=Nat.lt_of_lt_of_le hbla hb4.size
    replace hblb:=Nat.lt_of_lt_of_le hblb hb4.size
    clear hb4 K4 xq hgql hx hrow hkm hM
    go_upto_region 8 with fail
    refine acv 17 [37,38,39,40,41,42,43,44,45,46,47,48,49,50,51,52,53] [Eqs (.slice (some ⟨bm,om,none⟩) np cm),Eqs (.int .i64 (k:Int)),Eqs (.pointer (some ⟨bm,om+k,none⟩)),Eqs (.slice (some ⟨bb,ob,none⟩) n ec),Eqs (.int .i64 (c:Int)),Eqs (.pointer (some ⟨bb,ob+c*2,none⟩)),(OutN (py) (3*M)),Eqs (.slice (some ⟨ba,oa,none⟩) n cw),Eqs (.slice (some ⟨ba,oa,none⟩) n cw),Eqs (.int .i64 (c:Int)),Eqs (.pointer (some ⟨ba,oa+c*2,none⟩)),(OutN (qy) (3*M)),Eqs (.slice (some ⟨bm,om,none⟩) np cm),Eqs (.int .i64 (k:Int)),Eqs (.pointer (some ⟨bm,om+k,none⟩)),Eqs (.slice (some ⟨bb,ob,none⟩) n ec),(NRowS (red (joinZ py us qy e)) (3*(M+(S+2))))] rfl rfl (by decide) (by kernel_rfl) (by kernel_rfl) (by decide) (by kernel_rfl) ⟨Eqs.mono _,Eqs.mono _,Eqs.mono _,Eqs.mono _,Eqs.mono _,Eqs.mono _,(Mono.of4 (OutN.mono4 _ _)),Eqs.mono _,Eqs.mono _,Eqs.mono _,Eqs.mono _,(Mono.of4 (OutN.mono4 _ _)),Eqs.mono _,Eqs.mono _,Eqs.mono _,Eqs.mono _,(NRowS.mono _ _),trivial⟩ ?_ ?_
    ·exact ⟨⟨rfl,fun a_ w_ _ hB hR hD=>aam ((hR 7 rfl).trans (aab rfl))⟩,
       ⟨rfl,fun a_ w_ _ hB hR hD=>aam ((hR 10 rfl).trans (aab rfl))⟩,
       ⟨rfl,fun a_ w_ _ hB hR hD=>akm (show a_.eval (.tmp 37)=.slice (some ⟨bm,om,none⟩) np cm from hD 0 rfl) (show a_.eval (.tmp 38)=.int .i64 (k:Int) from hD 1 rfl) (by omega)⟩,
       ⟨rfl,fun a_ w_ _ hB hR hD=>aes (show a_.eval (.tmp 39)=.pointer (some ⟨bm,om+k,none⟩) from hD 2 rfl) ((hB.cell (p:=⟨bm,om+k,none⟩) hbm).trans xm)⟩,
       ⟨rfl,fun a_ w_ _ hB hR hD=>aam ((hR 11 rfl).trans (aab rfl))⟩,
       ⟨rfl,fun a_ w_ _ hB hR hD=>acr (show a_.eval (.tmp 40)=.slice (some ⟨bb,ob,none⟩) n ec from hD 3 rfl) rfl (show a_.eval (.tmp 41)=.int .i64 (c:Int) from hD 4 rfl) hltc⟩,
       ⟨rfl,fun a_ w_ _ hB hR hD=>acc (show a_.eval (.tmp 42)=.pointer (some ⟨bb,ob+c*2,none⟩) from hD 5 rfl) ((hB.cell (p:=⟨bb,ob+c*2,none⟩) hblb).trans pb0) ((hB.cell (p:=⟨bb,ob+c*2+1,none⟩) hblb).trans pb1) (Mono.of4 (OutN.mono4 _ _) _ _ _ hB HPV.out)⟩,
       ⟨rfl,fun a_ w_ _ hB hR hD=>aam ((hR 9 rfl).trans (aab rfl))⟩,
       ⟨rfl,fun a_ w_ _ hB hR hD=>aam ((hR 9 rfl).trans (aab rfl))⟩,
       ⟨rfl,fun a_ w_ _ hB hR hD=>aam ((hR 11 rfl).trans (aab rfl))⟩,
       ⟨rfl,fun a_ w_ _ hB hR hD=>acr (show a_.eval (.tmp 45)=.slice (some ⟨ba,oa,none⟩) n cw from hD 8 rfl) rfl (show a_.eval (.tmp 46)=.int .i64 (c:Int) from hD 9 rfl) hltc⟩,
       ⟨rfl,fun a_ w_ _ hB hR hD=>acc (show a_.eval (.tmp 47)=.pointer (some ⟨ba,oa+c*2,none⟩) from hD 10 rfl) ((hB.cell (p:=⟨ba,oa+c*2,none⟩) hbla).trans pa0) ((hB.cell (p:=⟨ba,oa+c*2+1,none⟩) hbla).trans pa1) (Mono.of4 (OutN.mono4 _ _) _ _ _ hB HQV.out)⟩,
       ⟨rfl,fun a_ w_ _ hB hR hD=>aam ((hR 7 rfl).trans (aab rfl))⟩,
       ⟨rfl,fun a_ w_ _ hB hR hD=>aam ((hR 10 rfl).trans (aab rfl))⟩,
       ⟨rfl,fun a_ w_ _ hB hR hD=>akm (show a_.eval (.tmp 49)=.slice (some ⟨bm,om,none⟩) np cm from hD 12 rfl) (show a_.eval (.tmp 50)=.int .i64 (k:Int) from hD 13 rfl) (by omega)⟩,
       ⟨rfl,fun a_ w_ _ hB hR hD=>aes (show a_.eval (.tmp 51)=.pointer (some ⟨bm,om+k,none⟩) from hD 14 rfl) ((hB.cell (p:=⟨bm,om+k,none⟩) hbm).trans xm)⟩,
       ⟨rfl,fun a_ w_ _ hB hR hD=>aio (show (OutN (py) (3*M)) (a_.eval (.tmp 43)) w_ from hD 6 rfl) (show a_.eval (.tmp 44)=.slice (some ⟨ba,oa,none⟩) n cw from hD 7 rfl) (HRA.out.below hB) (show (OutN (qy) (3*M)) (a_.eval (.tmp 48)) w_ from hD 11 rfl) (show a_.eval (.tmp 52)=.slice (some ⟨bb,ob,none⟩) n ec from hD 15 rfl) (HRB.out.below hB) HJL.out (by have:=HJN.out;omega) (by omega) (by omega) HJE.out HJZ.out⟩,
       trivial⟩
    ·intro a' w' hn' hd' hB' hR' hP'
     have e37:a'.eval (.tmp 37)=.slice (some ⟨bm,om,none⟩) np cm:=hP' 0 (by decide)
     have e38:a'.eval (.tmp 38)=.int .i64 (k:Int):=hP' 1 (by decide)
     have e39:a'.eval (.tmp 39)=.pointer (some ⟨bm,om+k,none⟩):=hP' 2 (by decide)
     have e40:a'.eval (.tmp 40)=.slice (some ⟨bb,ob,none⟩) n ec:=hP' 3 (by decide)
     have e41:a'.eval (.tmp 41)=.int .i64 (c:Int):=hP' 4 (by decide)
     have e42:a'.eval (.tmp 42)=.pointer (some ⟨bb,ob+c*2,none⟩):=hP' 5 (by decide)
     obtain ⟨u43,e43⟩:∃ u,a'.eval (.tmp 43)=u:=⟨_,rfl⟩
     have e44:a'.eval (.tmp 44)=.slice (some ⟨ba,oa,none⟩) n cw:=hP' 7 (by decide)
     have e45:a'.eval (.tmp 45)=.slice (some ⟨ba,oa,none⟩) n cw:=hP' 8 (by decide)
     have e46:a'.eval (.tmp 46)=.int .i64 (c:Int):=hP' 9 (by decide)
     have e47:a'.eval (.tmp 47)=.pointer (some ⟨ba,oa+c*2,none⟩):=hP' 10 (by decide)
     obtain ⟨u48,e48⟩:∃ u,a'.eval (.tmp 48)=u:=⟨_,rfl⟩
     have e49:a'.eval (.tmp 49)=.slice (some ⟨bm,om,none⟩) np cm:=hP' 12 (by decide)
     have e50:a'.eval (.tmp 50)=.int .i64 (k:Int):=hP' 13 (by decide)
     have e51:a'.eval (.tmp 51)=.pointer (some ⟨bm,om+k,none⟩):=hP' 14 (by decide)
     have e52:a'.eval (.tmp 52)=.slice (some ⟨bb,ob,none⟩) n ec:=hP' 15 (by decide)
     obtain ⟨u53,e53⟩:∃ u,a'.eval (.tmp 53)=u:=⟨_,rfl⟩
     have hT:(NRowS (red (joinZ py us qy e)) (3*(M+(S+2)))) (a'.eval (.tmp 53)) w' := hP' 16 (by decide)
     rw [e53] at hT
     refine abj hn' hd' hR' (.s16 rfl <| .s16 rfl <| .s4 rfl <| .same rfl <| .new e37 <| .new e38 <| .new e39 <| .new e40 <| .new e41 <| .new e42 <| .new e43 <| .new e44 <| .new e45 <| .new e46 <| .new e47 <| .new e48 <| .new e49 <| .new e50 <| .new e51 <| .new e52 <| .new e53 <| .s4 rfl <| .s4 rfl <| .s4 rfl <| .nil) ?_
     clear e37 e38 e39 e40 e41 e42 e43 e44 e45 e46 e47 e48 e49 e50 e51 e52 e53
     have hT2:NRow w' u53 (red (joinZ py us qy e)) (3*(M+(S+2))):=hT
     obtain ⟨a9,c9,rfl,-⟩:=id hT2.parts
     rw [HSt.out.len] at hT2 ⊢
     have HT2:=hide hT2
     have HB5:=hide (HW4.out.trans (hB'.mono HW4.out.size))
     clear hT hT2 hB' hR' hP' hn' hd' xm pa0 pa1 pb0 pb1 hbm hbla hblb
     go_wp2
     go_roundw
     case rel=>exact ⟨k+1,_,_,_,by go_num,by omega,rfl,HSt.out,by rw [←HMM.out];exact HT2.out,HB5.out⟩
     case measure=>simp [intOf];omega
  ·have hlt' : decide ((k:Int)<(t:Int))=false:=by simp;omega
   obtain rfl:k=t:=by omega
   have HDN:Hid ((∀ z ∈ us,z=0)↔RS R (fnR zs)):=(InI.done (by rw [HT.out.1];exact hI) HRD.out.gat)
   have HUL:=hide hI.len
   clear hbw hI hU HI
   generalize hwq:wr=wq at *
   clear hwq
   go_wp2_with fail
   go_loopw [12] (fun iv wr=>∃ (j:Nat),iv=.int .i64 j∧j≤n∧(∀ z ∈ us.take j,z=0)∧Below wq.heap.size wq wr) (fun iv _=>n - (intOf iv).toNat)
   case atStart=>exact ⟨0,rfl,Nat.zero_le _,fun z hz=>(by simp at hz),Below.refl _ _⟩
   case round =>
    obtain ⟨j,rfl,hj,hall,hbj⟩:=hrel
    have HALL:=hide hall
    have HWJ:=hide (HB2.out.trans ((HW.out.trans (hbj.mono HW.out.size)).mono HB2.out.size))
    have HBJ:=hide hbj
    by_cases hltj:j<n
    ·have hltj' : (j:Int)<(n:Int):=by omega
     obtain ⟨z,hz⟩:∃ z,us[j]? = some z:=⟨_,List.getElem?_eq_getElem (by rw [HUL.out];exact hltj)⟩
     obtain ⟨bz,oz,ngz,az,mz,cz,rfl,hblz,z0,z1,hzv⟩:=(HU.out.below hbj).cell hz
     have K5:=hide (nsignF wr z _ _ hzv)
     obtain ⟨sg,hsg⟩:∃ sg,Int.sign z=sg:=⟨_,rfl⟩
     rw [hsg] at K5
     have HSG:=hide hsg
     have HZJ:=hide hz
     clear hall hbj hz hzv hsg
     go_wp2_with fail
     refine K5.out.mono ?_
     rintro e5 w5 ⟨rfl,hb5⟩
     have HW5:=hide (HWJ.out.trans (hb5.mono HWJ.out.size))
     have HB5:=hide (HBJ.out.trans (hb5.mono HBJ.out.size))
     by_cases hs5:sg=0
     ·have hs5' : (sg != 0)=false:=by simpa using hs5
      have HZ0:Hid (z=0):=(Int.sign_eq_zero_iff_zero.1 (by rw [HSG.out];exact hs5))
      clear hb5 K5 hblz z0 z1
      go_wp2
      go_roundw
      case rel =>
       refine ⟨j+1,by go_num,by omega,fun y hy=>?_,HB5.out⟩
       rw [List.take_add_one,HZJ.out] at hy
       rcases List.mem_append.1 hy with hy | hy
       ·exact HALL.out y hy
       ·obtain rfl:y=z:=by simpa using hy
        exact HZ0.out
      case measure=>simp [intOf];omega
     ·have hs5' : (sg != 0)=true:=by simpa using hs5
      have HNZ:Hid (¬ RS R (fnR zs)):=(fun hr=>hs5 (by rw [←HSG.out,HDN.out.2 hr z (List.mem_of_getElem? HZJ.out)];rfl))
      clear hb5 K5 hblz z0 z1
      go_wp2
      refine bodyPost_ret (v:=_) (by simp [results,Tryz.results41,go_sem];try rfl) rfl ⟨⟨m,R,Q,X,false,HRD.out,rfl,by simp [HNZ.out]⟩,HW5.out⟩
    ·have hltj' : decide ((j:Int)<(n:Int))=false:=by simp;omega
     have HYES:Hid (RS R (fnR zs)):=(HDN.out.1 (fun z hz=>by
      have h1:=HALL.out
      rw [List.take_of_length_le (by rw [HUL.out];omega)] at h1
      exact h1 z hz))
     clear hall hbj
     go_wp2
     refine bodyPost_ret (v:=_) (by simp [results,Tryz.results41,go_sem];try rfl) rfl ⟨⟨m,R,Q,X,true,HRD.out,rfl,by simp [HYES.out]⟩,HWJ.out⟩
end Lm
end Go.Proofs.YtpccfkdcpjplgaaGreat
namespace Go.Proofs.YtpccfkdcpjplgaaGreat
namespace Lm
open Go Go.RowKit Md
theorem at8 {n:Nat} {rows:List (List Int)} {R:List Md.Rw} {Q:List Nat} (h:Ech n rows R Q) (hrn:∀ r ∈ rows,r.length=n) {v:List Int} (hvn:v.length=n):((gRow (fun k=>D (fnR v :: R) (k :: Q)) n).any (fun z=>decide (z≠0))=false)↔RS R (fnR v):=by
 constructor
 ·intro ha
  refine ahx (abl h.gat.desc) h.gat.ne (fun c=>?_)
  by_cases hc:c<n
  ·have:=List.any_eq_false.1 ha _ (List.mem_map.2 ⟨c,List.mem_range.2 hc,rfl⟩)
   simpa using this
  ·refine ahh (aer (fnR v :: R) Q) (fun x hx=>?_)
   rcases List.mem_cons.1 hx with rfl | hx
   ·exact ac4 (by omega)
   ·obtain ⟨r,hr,rfl⟩:=h.mem hx
    exact ac4 (by rw [hrn r hr];omega)
 ·intro hr
  rw [List.any_eq_false]
  intro z hz
  obtain ⟨k,_,rfl⟩:=List.mem_map.1 hz
  simp [alw hr]
set_option maxRecDepth 20000 in
set_option maxHeartbeats 8000000 in
theorem alf (w:World) (v vv:Value) (rows:List (List Int)) (zs:List Int) (n L0:Nat) (h:IsM w v rows L0) (hs:Shaped rows (n:Int)) (hv:IsRow w vv zs L0) (hz:zs.length=n) (hL0:L0≤1510) :
  Calls Tryz.prog 20 #[v,.int .i64 (n:Int),vv] w fun e w'=>(∃ R Q b,Ech n rows R Q∧e=.returned (.tuple #[.bool b,.int .i64 0])∧(b=true↔RS R (fnR zs)))∧Below w.heap.size w w' := by
 have K0:=aej w v rows L0 h (n:Int)
 rw [decide_eq_true hs] at K0
 have K0:=hide K0
 have K1:Hid (∀ w1,Below w.heap.size w w1→_):=(fun w1 hb=>ail w1 v rows n L0 (h.below hb) hs hL0)
 have HRN:Hid (∀ r ∈ rows,r.length=n):=(fun r hr=>by have:=hs.2.2.2 r hr;omega)
 have hLT:=h.lts
 have hvL:=acf hv
 obtain ⟨ao,cp,rfl,hn⟩:=h.parts
 obtain ⟨av,cv,rfl,hvl⟩:=hv.parts
 rw [hz] at hv hvl ⊢
 have HV:=hide hv
 have HZ:=hide hz
 have HLT:=hide (And.intro hLT hvL)
 have hn32:=hs.2.1
 have hnn:((n:Int) != (n:Int))=false:=by simp
 clear h hs hv hz hLT hvL
 go_enter Tryz.func20,Tryz.ntmps20
 go_wp2_with fail
 refine K0.out.mono ?_
 rintro e w1 ⟨rfl,hb1⟩
 have K2:=hide (K1.out w1 hb1)
 have HB1:=hide hb1
 clear hb1 K0
 go_wp2_with fail
 refine K2.out.mono ?_
 rintro e w2 ⟨R,Q,ra,rc,pa,pc,ng,la,lm,lc,rfl,hE,hM,hP,hF,hb2⟩
 have hba:=hAl w2 (.cells #[.slice ra Q.length rc,.slice pa Q.length pc,.bool ng,.slice la lm lc] 62)
 have hn2:=heap_alloc_new w2 (.cells #[.slice ra Q.length rc,.slice pa Q.length pc,.bool ng,.slice la lm lc] 62)
 have hb02:=HB1.out.trans (hb2.mono HB1.out.size)
 have hb03:=hb02.trans (hba.mono hb02.size)
 have hBas:Bas (w2.alloc (.cells #[.slice ra Q.length rc,.slice pa Q.length pc,.bool ng,.slice la lm lc] 62)) w2.heap.size Q.reverse (baR R Q n) (D R Q) (lg L0):=⟨_,_,_,_,_,_,hn2,hM.is.below hba,hP.is.below hba,hF.is.ru (Ru.of_below hba)⟩
 have hQl:=hE.len
 have hfr:∀ x ∈ fnR zs :: R,∀ c,((x c).natAbs:Int)<pw L0:=fun x hx' c=>by
  rcases List.mem_cons.1 hx' with rfl | hx'
  ·exact afn HLT.out.2 (by have:=aah L0;omega) c
  ·exact GatI.lts hE (by have:=aah L0;omega) HLT.out.1 x hx' c
 have hld:=akb (R:=R) (abl hE.gat.desc) zs n
 have KL:=aii _ w2.heap.size n (lg L0) (lg L0) (.slice av n cv) zs Q.reverse (baR R Q n) (D R Q) ((HV.out.below hb03).wide (by unfold lg;omega)) hBas HZ.out (GatI.shp hE (Nat.le_refl _) (by omega)) (by omega) (by unfold lg;omega) (by
  rw [hld]
  intro z hz
  obtain ⟨c,_,rfl⟩:=List.mem_map.1 hz
  have:=GatI.len hE
  exact akc hfr (by simp;omega) (by simp;omega))
 rw [hld] at KL
 have KL:=hide KL
 have HE:=hide hE
 have HB3:=hide hb03
 clear hE hM hP hF hb2 hba hb02 hb03 hn2 hBas hQl hfr hld K1 K2
 go_wp2_with fail
 refine KL.out.mono ?_
 rintro e w4 ⟨r4,rfl,ho,hb4⟩
 have KC:=hide (adl w4 r4 (gRow (fun c=>D (fnR zs :: R) (c :: Q)) n) (lg L0) ho.is 39 aih #[] (fun z=>decide (z≠0)) (fun W z xv _ _ hx=>ae5 W z (lg L0) xv hx (by unfold lg;omega)))
 obtain ⟨bl,rfl,_⟩:=id ho
 have HB4:=hide (HB3.out.trans (hb4.mono HB3.out.size))
 rw [aay] at KC ⊢
 clear ho hb4 KL
 go_wp2_with fail
 refine KC.out.mono ?_
 rintro e w5 ⟨rfl,hb5⟩
 have HB5:=hide (HB4.out.trans (hb5.mono HB4.out.size))
 have HR:=hide (at8 HE.out HRN.out HZ.out)
 clear hb5 KC
 generalize (gRow (fun c=>D (fnR zs :: R) (c :: Q)) n).any (fun z=>decide (z≠0))=bb at *
 go_wp2
 refine bodyPost_ret (v:=_) (by simp [results,Tryz.results20,go_sem];try rfl) rfl ⟨⟨R,Q,!bb,HE.out,rfl,by rw [←HR.out];cases bb <;> simp⟩,HB5.out⟩
end Lm
end Go.Proofs.YtpccfkdcpjplgaaGreat
namespace Go.Proofs.YtpccfkdcpjplgaaGreat
namespace Lm
open Go Go.RowKit
theorem agt (a b:Int):IntKind.i64.wrap (IntKind.i64.wrap a+b)=IntKind.i64.wrap (a+b):=by
 rw [IntKind.wrap_i64,IntKind.wrap_i64,IntKind.wrap_i64]
 omega
theorem ap8 (a b:Int):IntKind.i64.wrap (a+IntKind.i64.wrap b)=IntKind.i64.wrap (a+b):=by
 rw [IntKind.wrap_i64,IntKind.wrap_i64,IntKind.wrap_i64]
 omega
theorem ah2 {a:Int} (h:0≤a) (h' : a≤9223372036854775807):IntKind.i64.wrap a=a:=by
 rw [IntKind.wrap_i64]
 omega
set_option maxRecDepth 20000 in
set_option maxHeartbeats 4000000 in
theorem akn (w:World) (ax:Option Addr) (mx cx:Nat) (xs:List WE) (R:Rw w (.slice ax mx cx) xs) (hm:∀ e ∈ xs,e.m≤35184372088832) :
  Calls Tryz.prog 19 #[.slice ax mx cx] w fun e w'=>e=.returned (.int .i64 (IntKind.i64.wrap (lenW xs:Int)))∧Below w.heap.size w w' := by
 have HX:=hide R
 have HNx:Hid (mx=xs.length):=R.parts.1
 have hml:mx≤9223372036854775807:=by have:=R.parts;omega
 have HMM:=hide hm
 clear R hm
 go_enter Tryz.func19,Tryz.ntmps19
 go_wp2_with fail
 go_loopw [3,4] (fun sv iv wr=>∃ (k:Nat) (s:Int),iv=.int .i64 k∧k≤mx∧sv=.int .i64 s∧s=IntKind.i64.wrap (lenW (xs.take k):Int)∧Below w.heap.size w wr) (fun _ iv _=>mx - (intOf iv).toNat)
 case atStart=>exact ⟨0,0,rfl,Nat.zero_le _,rfl,rfl,Below.refl _ _⟩
 case round =>
  obtain ⟨k,s,rfl,hk,rfl,hsw,hbw⟩:=hrel
  have HSW:=hide hsw
  by_cases hlt:k<mx
  ·have hlt' : (k:Int)<(mx:Int):=by omega
   have HLT:=hide hlt
   obtain ⟨ex,hex⟩:∃ e,xs[k]? = some e:=⟨_,List.getElem?_eq_getElem (by have:=HNx.out;omega)⟩
   obtain ⟨bx,ox,hAx,hlx0,hcx⟩:=HX.out.cells (by have:=HNx.out;omega)
   subst hAx
   have hlx:bx<wr.heap.size:=Nat.lt_of_lt_of_le hlx0 hbw.size
   have x0:=(hbw.cell (p:=⟨bx,ox+k*2,none⟩) hlx0).trans (hcx _ _ (abf hex).1)
   have x1:wr.cell? ⟨bx,ox+k*2+1,none⟩ = some (.slice ex.a ex.m ex.c):=(hbw.cell (p:=⟨bx,ox+k*2+1,none⟩) hlx0).trans (hcx _ _ (abf hex).2)
   have hs:=aow hex
   have hem:=HMM.out ex (List.mem_of_getElem? hex)
   have HW:=hide hbw
   have K1:=hide (aqf wr ex.ng ex.a ex.m ex.c (by omega))
   obtain ⟨t,hadd⟩:∃ t,IntKind.i64.wrap (s+(1+(ex.m:Int)))=t:=⟨_,rfl⟩
   have HT:Hid (t=IntKind.i64.wrap (lenW (xs.take (k+1)):Int)):=(show t = _ by
    rw [←hadd,HSW.out,agt,hs]
    first | done | rfl | (congr 1;omega) | simp)
   clear hbw hs hsw hex hcx hlx
   go_wp2_with fail
   refine K1.out.mono ?_
   rintro e w2 ⟨rfl,hb2⟩
   have HB2:=hide (HW.out.trans (hb2.mono HW.out.size))
   clear hb2 x0 x1 hlx0
   go_wp2
   go_roundw
   case rel=>exact ⟨k+1,t,by go_num,HLT.out,rfl,HT.out,HB2.out⟩
   case measure=>have:=HLT.out;simp [intOf];omega
  ·have hlt' : decide ((k:Int)<(mx:Int))=false:=by simp;omega
   have hkn:k=mx:=by omega
   subst hkn
   have HW:=hide hbw
   clear hbw hsw
   go_wp2
   refine bodyPost_ret (v:=_) (acu rfl rfl) rfl ⟨?_,HW.out⟩
   have:=HSW.out
   rw [List.take_of_length_le (by have:=HNx.out;omega)] at this
   rw [←this]
   rfl
set_option maxRecDepth 20000 in
set_option maxHeartbeats 4000000 in
theorem aqa (w:World) (v:Value) (ess:List (List WE)) (h:RwM w v ess) (hm:∀ es ∈ ess,∀ e ∈ es,e.m≤35184372088832) :
  Calls Tryz.prog 7 #[v] w fun e w'=>e=.returned (.int .i64 (IntKind.i64.wrap (lenM ess:Int)))∧Below w.heap.size w w' := by
 obtain ⟨ax,cx,rfl,hnl⟩:=h.parts
 have HX:=hide h
 have HMM:=hide hm
 obtain ⟨n,hn⟩:∃ n,ess.length=n:=⟨_,rfl⟩
 rw [hn] at HX hnl ⊢
 have HN:=hide hn
 clear h hn hm
 go_enter Tryz.func7,Tryz.ntmps7
 go_wp2_with fail
 go_loopw [3,4] (fun sv iv wr=>∃ (k:Nat) (s:Int),iv=.int .i64 k∧k≤n∧sv=.int .i64 s∧s=IntKind.i64.wrap (lenM (ess.take k):Int)∧Below w.heap.size w wr) (fun _ iv _=>n - (intOf iv).toNat)
 case atStart=>exact ⟨0,0,rfl,Nat.zero_le _,rfl,rfl,Below.refl _ _⟩
 case round =>
  obtain ⟨k,s,rfl,hk,rfl,hsw,hbw⟩:=hrel
  have HW:=hide hbw
  have HSW:=hide hsw
  by_cases hlt:k<n
  ·have hlt' : (k:Int)<(n:Int):=by omega
   have HLT:=hide hlt
   obtain ⟨es,hes⟩:∃ e,ess[k]? = some e:=⟨_,List.getElem?_eq_getElem (by have:=HN.out;omega)⟩
   obtain ⟨b,off,u,rfl,hbl,x0,hR⟩:=HX.out.cell hes
   obtain ⟨ua,uc,rfl⟩:=hR.slc
   replace x0:=(hbw.cell (p:=⟨b,off+k,none⟩) hbl).trans x0
   have hs:=ap0 hes
   have K1:=akn wr ua _ uc es (hR.below hbw) (HMM.out es (List.mem_of_getElem? hes))
   obtain ⟨t,ht⟩:∃ t,IntKind.i64.wrap (lenW es:Int)=t:=⟨_,rfl⟩
   rw [ht] at K1
   have K1:=hide K1
   obtain ⟨s1,hadd1⟩:∃ s1,IntKind.i64.wrap (s+1)=s1:=⟨_,rfl⟩
   obtain ⟨s2,hadd2⟩:∃ s2,IntKind.i64.wrap (s1+t)=s2:=⟨_,rfl⟩
   have HS:Hid (s2=IntKind.i64.wrap (lenM (ess.take (k+1)):Int)):=(show s2 = _ by
    rw [←hadd2,←ht,←hadd1,HSW.out,ap8,agt,Int.add_assoc,agt,hs]
    first | done | rfl | (congr 1;omega) | simp)
   clear hbw hs hsw hR hes ht
   go_wp2_with fail
   refine K1.out.mono ?_
   rintro e w2 ⟨rfl,hb2⟩
   have HB2:=hide (HW.out.trans (hb2.mono HW.out.size))
   clear hb2 K1 x0
   go_wp2
   go_roundw
   case rel=>exact ⟨k+1,s2,by go_num,HLT.out,rfl,HS.out,HB2.out⟩
   case measure=>have:=HLT.out;simp [intOf];omega
  ·have hlt' : decide ((k:Int)<(n:Int))=false:=by simp;omega
   have hkn:ess.take k=ess:=List.take_of_length_le (by have:=HN.out;omega)
   rw [hkn] at HSW
   clear hbw hsw
   go_wp2
   refine bodyPost_ret (v:=_) (by simp [results,Tryz.results7,go_sem];try rfl) rfl ⟨by rw [←HSW.out],HW.out⟩
theorem ah3 {M:Nat} : ∀ {es:List WE},(∀ e ∈ es,e.m≤M)→lenW es≤es.length*(1+M)
 | [],_=>Nat.zero_le _
 | e :: es,h=>by
  have h1:=ah3 (es:=es) (fun x hx=>h x (by simp [hx]))
  have h2:=h e (by simp)
  have e1:lenW (e :: es)=1+e.m+lenW es:=by simp [lenW]
  rw [e1,List.length_cons,Nat.add_mul]
  omega
theorem al9 {M N:Nat} : ∀ {ess:List (List WE)},(∀ es ∈ ess,es.length≤N∧∀ e ∈ es,e.m≤M)→lenM ess≤ess.length*(1+N*(1+M))
 | [],_=>Nat.zero_le _
 | es :: ess,h=>by
  have h1:=al9 (ess:=ess) (fun x hx=>h x (by simp [hx]))
  obtain ⟨h2,h3⟩:=h es (by simp)
  have h4:=ah3 h3
  have h5:es.length*(1+M)≤N*(1+M):=Nat.mul_le_mul_right _ h2
  have e1:lenM (es :: ess)=1+lenW es+lenM ess:=by simp [lenM]
  rw [e1,List.length_cons,Nat.add_mul]
  omega
theorem RwM.isM_s {w:World} {v:Value} {ess:List (List WE)} (h:RwM w v ess) {L:Nat} (hl:∀ es ∈ ess,∀ e ∈ es,e.m≤L):IsM w v (zsM ess) L:=by
 obtain ⟨vs,h1,h2⟩:=h
 refine ⟨vs,by simpa [zsM] using h1,fun i u z hu hz=>?_⟩
 unfold zsM at hz
 rw [List.getElem?_map] at hz
 obtain ⟨es,he,rfl⟩:=Option.map_eq_some_iff.1 hz
 have hR:=h2 i u es hu he
 refine ⟨es,hR,rfl,fun e hx=>?_⟩
 obtain ⟨ao,cap,hv,_⟩:=hR.sl e hx
 obtain ⟨_,hm,_⟩:=(Value.slice.injEq .. ▸ hv)
 have:=hl es (List.mem_of_getElem? he) e hx
 omega
theorem anr {ess:List (List WE)} {cols:Int} (hs:Shaped (zsM ess) cols) (hm:∀ es ∈ ess,∀ e ∈ es,e.m≤35184372088832):lenM ess≤100000000000000000:=by
 have h1:ess.length≤64:=by have:=hs.2.2.1;simpa [zsM] using this
 have h2:=al9 (M:=35184372088832) (N:=32) (ess:=ess) (fun es he=>⟨by
  have h3:=hs.2.2.2 (es.map WE.z) (List.mem_map.2 ⟨es,he,rfl⟩)
  have h4:=hs.2.1
  rw [List.length_map] at h3
  omega,hm es he⟩)
 have h3:ess.length*(1+32*(1+35184372088832))≤64*(1+32*(1+35184372088832)):=Nat.mul_le_mul_right _ h1
 omega
end Lm
end Go.Proofs.YtpccfkdcpjplgaaGreat
namespace Go.Proofs.YtpccfkdcpjplgaaGreat
namespace Lm
open Go Go.RowKit Md
theorem IsM.wide {w:World} {v:Value} {rows:List (List Int)} {L M:Nat} (h:IsM w v rows L) (hl:L≤M):IsM w v rows M:=by
 obtain ⟨vs,h1,h2⟩:=h
 exact ⟨vs,h1,fun i u z a b=>(h2 i u z a b).wide hl⟩
end Lm
end Go.Proofs.YtpccfkdcpjplgaaGreat
namespace Go.Proofs.YtpccfkdcpjplgaaGreat
namespace Lm
open Go Go.RowKit Md
theorem avu (w:World) (k:Int):Calls Tryz.prog 13 #[.int .i64 k] w fun e w'=>e=.returned (.int .i64 k)∧w' = w:=by
 go_enter Tryz.func13,Tryz.ntmps13
 go_wp2
 go_ret
 exact ⟨rfl,rfl⟩
theorem least {P:Nat→Prop} (h:∃ n,P n):∃ n,P n∧∀ m,P m→n≤m:=by
 obtain ⟨n,hn⟩:=h
 induction n using Nat.strongRecOn with
 | _ n ih =>
  by_cases hx:∃ m,m<n∧P m
  ·obtain ⟨m,hm,hp⟩:=hx
   exact ih m hm hp
  ·exact ⟨n,hn,fun m hp=>by
    by_cases h:n≤m
    ·exact h
    ·exact absurd ⟨m,by omega,hp⟩ hx⟩
open Classical in
noncomputable def bndB (f:Md.Rw):Nat:=if h:∃ L,∀ k,((f k).natAbs:Int)<pw L then Classical.choose (least h) else 0
theorem aiq {f:Md.Rw} {L:Nat} (h:∀ k,((f k).natAbs:Int)<pw L):(∀ k,((f k).natAbs:Int)<pw (bndB f))∧bndB f≤L:=by
 have hx:∃ L,∀ k,((f k).natAbs:Int)<pw L:=⟨L,h⟩
 have hs:=Classical.choose_spec (least hx)
 unfold bndB
 rw [dif_pos hx]
 exact ⟨hs.1,hs.2 L h⟩
theorem RwM.row {w:World} {v:Value} {ess:List (List WE)} (h:RwM w v ess):∀ es ∈ ess,∃ u,Rw w u es:=by
 intro es he
 obtain ⟨i,hi⟩:=List.mem_iff_getElem?.1 he
 obtain ⟨vs,h1,h2⟩:=h
 obtain ⟨_,_,_,_,_,h3,_⟩:=h1
 obtain ⟨u,hu⟩:∃ u,vs[i]? = some u:=⟨_,List.getElem?_eq_getElem (by have:=(List.getElem?_eq_some_iff.1 hi).1;omega)⟩
 exact ⟨u,h2 i u es hu hi⟩
theorem at9 {ess:List (List WE)} (h:∀ es ∈ ess,∀ z ∈ es.map WE.z,(z.natAbs:Int)<pw (lenW es)):sumB bndB ((zsM ess).map fnR)≤lenM ess:=by
 induction ess with
 | nil=>simp [zsM,sumB,lenM]
 | cons es ess ih =>
  have h1:=ih (fun x hx=>h x (by simp [hx]))
  have h2:=(aiq (afn (h es (by simp)) (aah _))).2
  simp only [zsM,List.map_cons,sumB,lenM] at h1 ⊢
  omega
theorem avf {w:World} {v:Value} {ess:List (List WE)} {S:Nat} (h:RwM w v ess) (hS:lenM ess≤S):Bnd (zsM ess) S bndB:=by
 have hz:∀ es ∈ ess,∀ z ∈ es.map WE.z,(z.natAbs:Int)<pw (lenW es):=fun es he=>by
  obtain ⟨u,hu⟩:=h.row es he
  exact acf (agq hu (Nat.le_refl _))
 refine ⟨fun r hr k=>?_,Nat.le_trans (at9 hz) hS,fun r hr z hzz=>?_⟩
 ·obtain ⟨es,he,rfl⟩:=List.mem_map.1 hr
  exact (aiq (afn (hz es he) (aah _))).1 k
 ·obtain ⟨es,he,rfl⟩:=List.mem_map.1 hr
  have h1:=hz es he z hzz
  have h2:=agp he
  have h3:pw (lenW es)≤pw (S+1):=aax (by omega)
  omega
theorem ako {es us:List WE} (h:SameR es us):es.map WE.z=us.map WE.z:=by
 have e:∀ l:List WE,l.map WE.z=(l.map WE.raw).map fun p=>sg p.1 (val p.2):=fun l=>by rw [List.map_map];rfl
 rw [e,e,h]
theorem akp {es us:List WE} {L:Nat} (h:SameR es us) (hl:∀ e ∈ us,e.zs.length≤L):∀ e ∈ es,e.zs.length≤L:=by
 intro e he
 have h1:e.raw ∈ us.map WE.raw:=by rw [←h];exact List.mem_map_of_mem he
 obtain ⟨u,hu,hr⟩:=List.mem_map.1 h1
 have h2:u.zs=e.zs:=congrArg Prod.snd hr
 rw [←h2]
 exact hl u hu
theorem RwM.isM_z {w:World} {v:Value} {fss ess:List (List WE)} (h:RwM w v fss) (hS:SameM fss ess) {L:Nat} (hl:∀ es ∈ ess,∀ e ∈ es,e.zs.length≤L):IsM w v (zsM ess) L:=by
 obtain ⟨vs,h1,h2⟩:=h
 refine ⟨vs,by unfold zsM;rw [List.length_map,←hS.1];exact h1,fun i u z a b=>?_⟩
 unfold zsM at b
 rw [List.getElem?_map] at b
 obtain ⟨es,hes,rfl⟩:=Option.map_eq_some_iff.1 b
 obtain ⟨fs,hfs⟩:∃ fs,fss[i]? = some fs:=⟨_,List.getElem?_eq_getElem (by have:=(List.getElem?_eq_some_iff.1 hes).1;have:=hS.1;omega)⟩
 have hR:=hS.2 i fs es hfs hes
 exact ⟨fs,h2 i u fs a hfs,ako hR,akp hR (hl es (List.mem_of_getElem? hes))⟩
end Lm
end Go.Proofs.YtpccfkdcpjplgaaGreat
namespace Go.Proofs.YtpccfkdcpjplgaaGreat
namespace Lm
open Go Go.RowKit Md
theorem RdI.rows_in {n:Nat} {rows m:List (List Int)} {R X:List Md.Rw} {Q:List Nat} (h:RdI n rows n m R Q X) (hrn:∀ r ∈ rows,r.length=n):∀ r ∈ rows,RS R (fnR r):=fun r hr=>by
 have hmem:∀ x,x ∈ R ++ X→∃ r ∈ rows,x=fnR r:=fun x hx=>by
  obtain ⟨r,hr,e⟩:=List.mem_map.1 (h.perm.mem_iff.1 hx)
  exact ⟨r,hr,e.symm⟩
 have hx:=h.perm.mem_iff.2 (List.mem_map.2 ⟨r,hr,rfl⟩)
 rcases List.mem_append.1 hx with hx | hx
 ·exact .mem hx
 ·refine ahx (abl h.gat.desc) h.gat.ne (fun c=>?_)
  by_cases hc:c<n
  ·exact h.zero _ hx c hc
  ·refine ahh (aer (fnR r :: R) Q) (fun y hy=>?_)
   obtain ⟨s,hs,rfl⟩:=hmem y (by rcases List.mem_cons.1 hy with rfl | hy;exact List.mem_append.2 (.inr hx);exact List.mem_append.2 (.inl hy))
   exact ac4 (by rw [hrn s hs];omega)
theorem RdI.rs_rows {n:Nat} {rows m:List (List Int)} {R X:List Md.Rw} {Q:List Nat} (h:RdI n rows n m R Q X) (hrn:∀ r ∈ rows,r.length=n) (x:Md.Rw):RS R x↔RS (rows.map fnR) x:=by
 refine ⟨fun hx=>hx.trans fun y hy=>?_,fun hx=>hx.trans fun y hy=>?_⟩
 ·exact .mem (h.perm.mem_iff.1 (List.mem_append.2 (.inl hy)))
 ·obtain ⟨r,hr,rfl⟩:=List.mem_map.1 hy
  exact h.rows_in hrn r hr
theorem Ech.rs_rows {n:Nat} {rows:List (List Int)} {R:List Md.Rw} {Q:List Nat} (h:Ech n rows R Q) (x:Md.Rw):RS R x↔RS (rows.map fnR) x:=by
 refine ⟨fun hx=>hx.trans fun y hy=>?_,fun hx=>hx.trans fun y hy=>?_⟩
 ·obtain ⟨r,hr,rfl⟩:=h.mem hy
  exact .mem (List.mem_map.2 ⟨r,hr,rfl⟩)
 ·obtain ⟨r,hr,rfl⟩:=List.mem_map.1 hy
  exact h.rows_in hr
set_option maxRecDepth 20000 in
set_option maxHeartbeats 8000000 in
theorem alg (w:World) (v vv:Value) (rows:List (List Int)) (zs:List Int) (n S:Nat) (B:Md.Rw→Nat) (h:IsM w v rows (S+1)) (hs:Shaped rows (n:Int)) (hS:S≤1600) (hB:Bnd rows S B) (hv:IsRow w vv zs (S+1)) (hz:zs.length=n) :
  Calls Tryz.prog 22 #[v,.int .i64 (n:Int),vv] w fun e w'=>(∃ b,e=.returned (.tuple #[.bool b,.int .i64 0])∧(b=true↔RS (rows.map fnR) (fnR zs)))∧Below w.heap.size w w' := by
 have K0:=ahl w v rows (S+1) h (n:Int)
 rw [decide_eq_true hs] at K0
 have K0:=hide K0
 have hn32:n≤32:=by have:=hs.2.1;omega
 have hrn:∀ r ∈ rows,r.length=n:=fun r hr=>by have:=hs.2.2.2 r hr;omega
 have hr64:=hs.2.2.1
 have K1:=hide (ap7 w v rows (S+1) h (by omega) (fun r hr=>by rw [hrn r hr];omega) (by omega))
 have K2:Hid (∀ w1,Below w.heap.size w w1→_):=(fun w1 hb=>aj6 w1 vv zs (S+1) (hv.below hb) (by omega) (by omega))
 have HBN:=hide hB
 have HRN:=hide hrn
 have HZB:=hide (And.intro hz (acf hv))
 obtain ⟨ao,cp,rfl,hn⟩:=h.parts
 obtain ⟨av,cv,rfl,_⟩:=hv.parts
 rw [hz] at K2 ⊢
 have hnn:((n:Int) != (n:Int))=false:=by simp
 clear h hs hB hrn hv hz
 go_enter Tryz.func22,Tryz.ntmps22
 go_wp2_with fail
 refine K0.out.mono ?_
 rintro e w1 ⟨rfl,rfl⟩
 clear K0
 go_wp2_with fail
 refine K1.out.mono ?_
 rintro e w2 ⟨r2,vs2,rfl,hM2,hb2⟩
 have K3:=hide (K2.out w2 hb2)
 obtain ⟨a2,c2,hv2,-⟩:=Ce.own hM2.own
 subst hv2
 have HM2:=hide hM2
 have HB2:=hide hb2
 clear hb2 hM2 K1 K2
 go_wp2_with fail
 refine K3.out.mono ?_
 rintro e w3 ⟨r3,rfl,hR3,hb3⟩
 have K4:=hide (at7 w3 _ r3 rows zs n S B (HM2.out.nm.below hb3) HRN.out hr64 hn32 hS HBN.out hR3 HZB.out.1 HZB.out.2)
 obtain ⟨a3,c3,rfl,-⟩:=id hR3.parts
 have HB3:=hide (HB2.out.trans (hb3.mono HB2.out.size))
 clear hR3 hb3 K3
 go_wp2_with fail
 refine K4.out.mono ?_
 rintro e w4 ⟨⟨m,R,Q,X,b,hRd,rfl,hb⟩,hb4⟩
 have HX:Hid (b=true↔RS (rows.map fnR) (fnR zs)):=(show _↔_ by rw [hb];exact hRd.rs_rows HRN.out _)
 have HB4:=hide (HB3.out.trans (hb4.mono HB3.out.size))
 clear hRd hb hb4 K4
 go_wp2
 refine bodyPost_ret (v:=_) (by simp [results,Tryz.results22,go_sem];try rfl) rfl ⟨⟨b,rfl,HX.out⟩,HB4.out⟩
set_option maxRecDepth 20000 in
set_option maxHeartbeats 4000000 in
theorem alh (w:World) (v:Value) (rows:List (List Int)) (cols:Int) (L:Nat) (av:Option Addr) (k cv:Nat) (h:IsM w v rows L) (hs:¬ (Shaped rows cols∧(k:Int)=cols)) :
  Calls Tryz.prog 22 #[v,.int .i64 cols,.slice av k cv] w fun e w'=>e=.returned (.tuple #[.bool false,.int .i64 1])∧Below w.heap.size w w' := by
 have K0:=ahl w v rows L h cols
 obtain ⟨ao,cp,rfl,hn⟩:=h.parts
 by_cases h1:Shaped rows cols
 ·have h2:((k:Int) != cols)=true:=by
   simp only [bne_iff_ne]
   exact fun h=>hs ⟨h1,h⟩
  rw [decide_eq_true h1] at K0
  have K0:=hide K0
  clear h hs h1
  go_enter Tryz.func22,Tryz.ntmps22
  go_wp2_with fail
  refine K0.out.mono ?_
  rintro e w1 ⟨rfl,rfl⟩
  clear K0
  go_wp2
  refine bodyPost_ret (v:=_) (by simp [results,Tryz.results22,go_sem];try rfl) rfl ⟨rfl,Below.refl _ _⟩
 ·rw [decide_eq_false h1] at K0
  have K0:=hide K0
  clear h hs h1
  go_enter Tryz.func22,Tryz.ntmps22
  go_wp2_with fail
  refine K0.out.mono ?_
  rintro e w1 ⟨rfl,rfl⟩
  clear K0
  go_wp2
  refine bodyPost_ret (v:=_) (by simp [results,Tryz.results22,go_sem];try rfl) rfl ⟨rfl,Below.refl _ _⟩
set_option maxRecDepth 20000 in
set_option maxHeartbeats 4000000 in
theorem ali (w:World) (v:Value) (rows:List (List Int)) (cols:Int) (L:Nat) (av:Option Addr) (k cv:Nat) (h:IsM w v rows L) (hs:¬ (Shaped rows cols∧(k:Int)=cols)) :
  Calls Tryz.prog 20 #[v,.int .i64 cols,.slice av k cv] w fun e w'=>e=.returned (.tuple #[.bool false,.int .i64 1])∧Below w.heap.size w w' := by
 have K0:=aej w v rows L h cols
 obtain ⟨ao,cp,rfl,hn⟩:=h.parts
 by_cases h1:Shaped rows cols
 ·have h2:((k:Int) != cols)=true:=by
   simp only [bne_iff_ne]
   exact fun h=>hs ⟨h1,h⟩
  rw [decide_eq_true h1] at K0
  have K0:=hide K0
  clear h hs h1
  go_enter Tryz.func20,Tryz.ntmps20
  go_wp2_with fail
  refine K0.out.mono ?_
  rintro e w1 ⟨rfl,hb1⟩
  have HB1:=hide hb1
  clear K0 hb1
  go_wp2
  refine bodyPost_ret (v:=_) (by simp [results,Tryz.results20,go_sem];try rfl) rfl ⟨rfl,HB1.out⟩
 ·rw [decide_eq_false h1] at K0
  have K0:=hide K0
  clear h hs h1
  go_enter Tryz.func20,Tryz.ntmps20
  go_wp2_with fail
  refine K0.out.mono ?_
  rintro e w1 ⟨rfl,hb1⟩
  have HB1:=hide hb1
  clear K0 hb1
  go_wp2
  refine bodyPost_ret (v:=_) (by simp [results,Tryz.results20,go_sem];try rfl) rfl ⟨rfl,HB1.out⟩
structure InC (ess:List (List WE)) (cols:Int) (es:List WE) (b:Bool) (f:Int):Prop where
 ref:∀ (w:World) (v vv:Value),RwM w v ess→Rw w vv es→Calls Tryz.prog 22 #[v,.int .i64 cols,vv] w fun e w'=>e=.returned (.tuple #[.bool b,.int .i64 f])∧Below w.heap.size w w'
 pr:∀ (w:World) (v vv:Value) (fss:List (List WE)) (fs:List WE),RwM w v fss→SameM fss ess→Rw w vv fs→SameR fs es→Calls Tryz.prog 20 #[v,.int .i64 cols,vv] w fun e w'=>e=.returned (.tuple #[.bool b,.int .i64 f])∧Below w.heap.size w w'
theorem aua {w:World} {v:Value} {ess:List (List WE)} {cols:Int} {es:List WE} (h:RwM w v ess) (hm:∀ es ∈ ess,∀ e ∈ es,e.m≤35184372088832) (hs:¬ (Shaped (zsM ess) cols∧(es.length:Int)=cols)):InC ess cols es false 1:=by
 have hzl:∀ es ∈ ess,∀ e ∈ es,e.zs.length≤35184372088832:=fun es he e hx=>by
  obtain ⟨u,hu⟩:=h.row es he
  have:=(hu.sl e hx).parts.1
  have:=hm es he e hx
  omega
 refine ⟨fun w v vv hR hv=>?_,fun w v vv fss fs hR hS hv hSv=>?_⟩
 ·obtain ⟨a,c,rfl⟩:=hv.slc
  exact alh w v _ cols _ _ _ _ (hR.isM_s hm) hs
 ·obtain ⟨a,c,rfl⟩:=hv.slc
  exact ali w v _ cols _ _ _ _ (hR.isM_z hS hzl) (by rw [hSv.len];exact hs)
theorem aru {w:World} {v vv:Value} {ess:List (List WE)} {n:Nat} {es:List WE} (h:RwM w v ess) (hv:Rw w vv es) (hl:lenM ess+lenW es≤1500) (hs:Shaped (zsM ess) (n:Int)) (hn:es.length=n):∃ b f,InC ess (n:Int) es b f:=by
 have hzl:∀ es ∈ ess,∀ e ∈ es,e.zs.length≤1500:=fun es he e hx=>by
  obtain ⟨u,hu⟩:=h.row es he
  have:=(hu.sl e hx).parts.1
  have:=agm hx
  have:=agp he
  omega
 have hvl:∀ e ∈ es,e.zs.length≤1500:=fun e hx=>by
  have:=(hv.sl e hx).parts.1
  have:=agm hx
  omega
 have hzn:(es.map WE.z).length=n:=by rw [List.length_map];exact hn
 have hB:=avf h (S:=1500) (by omega)
 obtain ⟨b,hb⟩:∃ b:Bool,b=true↔RS ((zsM ess).map fnR) (fnR (es.map WE.z)):=by
  by_cases hx:RS ((zsM ess).map fnR) (fnR (es.map WE.z))
  ·exact ⟨true,by simp [hx]⟩
  ·exact ⟨false,by simp [hx]⟩
 refine ⟨b,0,fun w v vv hR hv=>?_,fun w v vv fss fs hR hS hv hSv=>?_⟩
 ·have hv' := agq hv (L:=1500+1) (by omega)
  refine (alg w v vv _ _ n 1500 bndB ((hR.isM (L:=1500) (by omega)).wide (by omega)) hs (by omega) hB hv' hzn).mono fun e w' ⟨⟨b',h1,h2⟩,h3⟩=>⟨?_,h3⟩
  have:b' = b:=by rw [Bool.eq_iff_iff,h2,hb]
  rw [h1,this]
 ·have hv' : IsRow w vv (es.map WE.z) 1500:=⟨fs,hv,ako hSv,akp hSv hvl⟩
  refine (alf w v vv _ _ n 1500 (hR.isM_z hS hzl) hs hv' hzn (by omega)).mono fun e w' ⟨⟨R,Q,b',hE,h1,h2⟩,h3⟩=>⟨?_,h3⟩
  have:b' = b:=by rw [Bool.eq_iff_iff,h2,hb];exact hE.rs_rows _
  rw [h1,this]
end Lm
end Go.Proofs.YtpccfkdcpjplgaaGreat
namespace Go.Proofs.YtpccfkdcpjplgaaGreat
namespace Lm
open Go Go.RowKit Md
set_option maxRecDepth 20000 in
set_option maxHeartbeats 32000000 in
theorem ans (w:World) (v0 v2:Value) (ess:List (List WE)) (cols:Int) (es:List WE) (h0:RwM w v0 ess) (h2:Rw w v2 es) (hlen:∀ es ∈ ess,es.length≤4398046511103∧∀ e ∈ es,e.m≤35184372088832) (hout:ess.length≤5864062014804) (hes:es.length≤4398046511103) (hem:∀ e ∈ es,e.m≤35184372088832) :
  Calls Tryz.prog 5 #[v0,.int .i64 cols,v2] w fun e w'=>e=.returned (.bool true)∧Below w.heap.size w w' := by
 obtain ⟨a0,c0,rfl,hm0⟩:=h0.parts
 obtain ⟨a2,c2,rfl⟩:=h2.slc
 have hl2:=h2.parts.2
 have HO:=hide (And.intro hout hlen)
 have HL:Hid (∀ es ∈ ess,∀ e ∈ es,e.m≤35184372088832):=(fun es he=>(hlen es he).2)
 have HE:=hide (And.intro hes hem)
 have H0:=hide h0
 have H2:=hide h2
 have K1:=hide (avb w)
 clear h0 h2 hlen hout hes hem
 obtain ⟨m,hm⟩:∃ m,ess.length=m:=⟨_,rfl⟩
 have HM:=hide hm
 rw [hm] at H0 hm0 ⊢
 obtain ⟨k2,hk2⟩:∃ m,es.length=m:=⟨_,rfl⟩
 have HK2:=hide hk2
 rw [hk2] at H2 hl2 ⊢
 clear hm hk2
 go_enter Tryz.func5,Tryz.ntmps5
 go_wp2_with fail
 refine K1.out.mono ?_
 rintro e w1 ⟨rfl,hb1⟩
 have HB1:=hide hb1
 have K2:=aqa w1 _ ess (H0.out.below hb1) HL.out
 obtain ⟨lv,hlv⟩:∃ lv,IntKind.i64.wrap (lenM ess:Int)=lv:=⟨_,rfl⟩
 rw [hlv] at K2
 have K2:=hide K2
 have HLV:=hide hlv
 clear hlv
 clear hb1 K1
 go_wp2_with fail
 refine K2.out.mono ?_
 rintro e w2 ⟨rfl,hb2⟩
 have HB2:=hide (HB1.out.trans (hb2.mono HB1.out.size))
 have K3:=akn w2 a2 k2 c2 es (H2.out.below HB2.out) HE.out.2
 obtain ⟨rv,hrv⟩:∃ rv,IntKind.i64.wrap (lenW es:Int)=rv:=⟨_,rfl⟩
 rw [hrv] at K3
 have K3:=hide K3
 have HRV:=hide hrv
 clear hrv
 obtain ⟨tv,htv⟩:∃ tv,IntKind.i64.wrap (lv+rv)=tv:=⟨_,rfl⟩
 have HTV:=hide htv
 clear hb2 K2
 go_wp2_with fail
 refine K3.out.mono ?_
 rintro e w3 ⟨rfl,hb3⟩
 have HB3:=hide (HB2.out.trans (hb3.mono HB2.out.size))
 clear hb3 K3
 by_cases hlong:tv > 1500
 ·have hl' : tv > 1500:=hlong
  go_wp2
  refine bodyPost_ret (v:=_) (by simp [results,Tryz.results5,go_sem];try rfl) rfl ⟨rfl,HB3.out⟩
 have hl' : decide (tv > 1500)=false:=by simp;omega
 obtain ⟨b,f,hC⟩:∃ b f,InC ess cols es b f:=by
  by_cases hsh:Shaped (zsM ess) cols∧(es.length:Int)=cols
  ·obtain ⟨n,rfl⟩:∃ n:Nat,cols=(n:Int):=⟨cols.toNat,by have:=hsh.1.1;omega⟩
   have hn:es.length=n:=by have:=hsh.2;omega
   have hlm:lenM ess+lenW es≤1500:=by
    have h1:=anr hsh.1 HL.out
    have h3:=ah3 HE.out.2
    have hn32:n≤32:=by have:=hsh.1.2.1;omega
    have h5:es.length*(1+35184372088832)≤32*(1+35184372088832):=Nat.mul_le_mul_right _ (by omega)
    have hq:lenW es≤1200000000000000:=by omega
    have e1:=HLV.out
    rw [ah2 (by omega) (by omega)] at e1
    have e2:=HRV.out
    rw [ah2 (by omega) (by omega)] at e2
    have e3:=HTV.out
    rw [ah2 (by omega) (by omega)] at e3
    omega
   exact aru H0.out H2.out hlm hsh.1 hn
  ·exact ⟨_,_,aua H0.out HL.out hsh⟩
 have HC:=hide hC
 have hff:(f == f)=true:=by simp
 have hbb:(b == b)=true:=by simp
 have K4:=hide (anq w3 _ ess (H0.out.below HB3.out) HO.out.1 HO.out.2)
 clear hC hlong
 go_wp2_with fail
 refine K4.out.mono ?_
 rintro e w4 ⟨gv,fss,rfl,hG,hS,hb4⟩
 obtain ⟨ga,gc,rfl⟩:=hG.shp
 have HG:=hide hG.rwM
 have HS:=hide hS
 have HB4:=hide (HB3.out.trans (hb4.mono HB3.out.size))
 have K5:=hide (aip w4 _ _ _ es (H2.out.below HB4.out) HE.out.1 HE.out.2)
 clear hG hS hb4 K4
 go_wp2_with fail
 refine K5.out.mono ?_
 rintro e w5 ⟨gv5,fs,rfl,hR5,hS5,hb5⟩
 obtain ⟨a5,c5,rfl⟩:=hR5.rw.slc
 have HB5:=hide (HB4.out.trans (hb5.mono HB4.out.size))
 have K6:=hide (HC.out.pr w5 _ _ fss fs (HG.out.below hb5) HS.out hR5.rw hS5)
 clear hR5 hS5 hb5 K5
 go_wp2_with fail
 refine K6.out.mono ?_
 rintro e w6 ⟨rfl,hb6⟩
 have HB6:=hide (HB5.out.trans (hb6.mono HB5.out.size))
 have K7:=hide (HC.out.ref w6 _ _ (H0.out.below HB6.out) (H2.out.below HB6.out))
 clear hb6 K6
 go_wp2_with fail
 refine K7.out.mono ?_
 rintro e w7 ⟨rfl,hb7⟩
 have HB7:=hide (HB6.out.trans (hb7.mono HB6.out.size))
 clear hb7 K7
 go_wp2_with (go_at_call 13;refine (avu _ _).mono ?_;rintro r w' ⟨rfl,rfl⟩)
 refine bodyPost_ret (v:=_) (by simp [results,Tryz.results5,go_sem];try rfl) rfl ⟨rfl,HB7.out⟩
end Lm
end Go.Proofs.YtpccfkdcpjplgaaGreat
namespace Go.Proofs.YtpccfkdcpjplgaaGreat
namespace matrixInsidesLaw
open Go.ChangeShapes Go.WideShapes Go.ChangeAt Go.RowKit
open Go.ChangeMaps (open_string shut_string)
theorem own:ownKnob Tryz.prog.godebug=none:=by kernel_rfl
theorem laidOut:laidOutB Tryz.prog=true:=by kernel_rfl
set_option linter.unusedVariables false in
set_option maxRecDepth 100000 in
theorem lifted (os:Os) (started:os.Started) (H:Type) (enc:TypeId × Value→H) :
  ReturnsInHanded {} Tryz.checked os 5 .any (Rows.matrixInsidesSpec.pre6 enc Tryz.prog Tryz.f5 Rows.matrixInsidesRow.domain false) (Rows.matrixInsidesSpec.post enc Tryz.prog Tryz.f5 false true false false):=by
 refine returnsInHanded_of_change_sized (C:=Tryz.checked) own started (by kernel_rfl) Tryz.func5
  (ChangeSpec.witness6 (enc:=enc) (C:=Tryz.checked) false ⟨#[],#[.slice none 0 0,.int .i64 0,.slice none 0 0],[]⟩ 8 (by kernel_rfl) (by kernel_rfl) (by kernel_rfl) (by kernel_rfl)) ?_
 intro W base args ds gs before hval0 hW hcnd hsz0 _
 have hval:∀ (j:Nat) t v,Tryz.f5.params[j]? = some t→args[j]? = some v→Value.okWide Tryz.prog W .any base t v:=hval0
 have hW' := hW
 obtain ⟨p,q,hA0,hV,rfl,hfz,hnd⟩:=hW
 have hA:DataW.TrodAll enc Tryz.prog W 0 (fun _=>true) true Tryz.f5.params.toList args.toList ds p:=hA0
 have hsz:(DataW.weightsEach Tryz.prog (Tryz.f5.params.toList ++ Rows.matrixInsidesSpec.plain.varTypes Tryz.prog) (ds ++ gs)).all (·≤reachBytes)=true:=hsz0
 rw [Tryz.params5] at hA hval hsz
 obtain ⟨v0,vs0,d0,ds0,p0,q0,hargs,rfl,rfl,h0,r_0⟩:=trodAll_cons hA
 obtain ⟨v1,vs1,d1,ds1,p1,q1,rfl,rfl,rfl,h1,r_1⟩:=trodAll_cons r_0
 obtain ⟨v2,vs2,d2,ds2,p2,q2,rfl,rfl,rfl,h2,r_2⟩:=trodAll_cons r_1
 obtain ⟨rfl,rfl,rfl⟩:=trodAll_nil r_2
 obtain rfl:args = #[v0,v1,v2]:=by cases args;simp_all
 obtain ⟨rfl,rfl⟩:=trodVars_none hV
 obtain ⟨a0,len0,cap0,rfl⟩:=okWide_slice Tryz.underlying22 (hval 0 22 v0 rfl rfl)
 have k0:=h0
 have lt0:∀ x ∈ p0,x.block<W.heap.size:=by obtain ⟨m,hm⟩:=k0;exact DataW.trod_lt m _ _ _ hm
 obtain ⟨z0,w0,b0,l0⟩:∃ ess,Lm.RwM W (.slice a0 len0 cap0) ess∧(∀ es ∈ ess,es.length≤4398046511103∧∀ e ∈ es,e.m≤35184372088832)∧ess.length≤5864062014804:=by
  obtain ⟨fuel,hf⟩:=h0
  refine Lm.ale (x:=(d0,p0)) (by simpa [Value.cells] using hf) (fun k hk=>?_)
  have:=List.all_eq_true.1 hsz k (DataW.weights_mem_each (j:=0) (t:=22) (d:=d0) rfl rfl k hk)
  simpa using this
 obtain ⟨a1,rfl,rfl,rfl,w1⟩:=open_int Tryz.underlying3 (hval 1 3 v1 rfl rfl) h1
 obtain ⟨a2,len2,cap2,rfl⟩:=okWide_slice Tryz.underlying44 (hval 2 44 v2 rfl rfl)
 have k2:=h2
 have lt2:∀ x ∈ p2,x.block<W.heap.size:=by obtain ⟨m,hm⟩:=k2;exact DataW.trod_lt m _ _ _ hm
 obtain ⟨z2,w2,l2,b2⟩:∃ es,Lm.Rw W (.slice a2 len2 cap2) es∧es.length≤4398046511103∧∀ e ∈ es,e.m≤35184372088832:=by
  obtain ⟨fuel,hf⟩:=h2
  refine Lm.ahi (x:=(d2,p2)) (by simpa [Value.cells] using hf) (fun k hk=>?_)
  have:=List.all_eq_true.1 hsz k (DataW.weights_mem_each (j:=2) (t:=44) (d:=d2) rfl rfl k hk)
  simpa using this
 clear hA0 hval0
 refine (Lm.ans W _ _ z0 a1 z2 w0 w2 b0 l0 l2 b2).mono fun e W' ⟨he,bel⟩=>?_
 subst he
 exact ⟨_,rfl,_,_,_,[],_,[],hW',trodAll_mk1 (shut_bool Tryz.underlying4 _),(trodAll_cons_mk (Below.trod laidOut (by kernel_rfl) (of_decide_eq_true (by kernel_rfl)) k0 bel lt0) (trodAll_cons_mk (shut_int Tryz.underlying3 w1) (trodAll_cons_mk (Below.trod laidOut (by kernel_rfl) (of_decide_eq_true (by kernel_rfl)) k2 bel lt2) trodAll_mk0))),rfl,bel.frame _,fun h=>by cases h⟩
theorem over:Rows.matrixInsidesRow.holds Tryz.pinned (OpenSpec.ofChange Rows.matrixInsidesSpec) :=
 OpenClaim.holds_of_wide 5 Tryz.f5 rfl rfl rfl rfl rfl rfl rfl ⟨rfl,rfl,rfl,rfl,rfl⟩ rfl rfl rfl rfl rfl (by kernel_rfl) Tryz.func5 (by kernel_rfl)
  (of_decide_eq_true (by kernel_rfl)) (by unfold Func.isWrapper;first | (rw [if_pos (by decide +kernel)];kernel_rfl) | (rw [if_neg (by decide +kernel)];exact ⟨rfl,rfl⟩))
  (fun os started H enc _=>lifted os started H enc)
end matrixInsidesLaw
theorem matrixInsides_holds:Rows.MatrixInsidesSaid:=matrixInsidesLaw.over
#print axioms matrixInsides_holds
end Go.Proofs.YtpccfkdcpjplgaaGreat
