/-
  The given statement on SpanLattice, for every input of bulk at most 1048576: the call answers true, and each argument reads behind it as it read before. Its condition: that bulk, and no other. Beside it: slices.Grow and slices.Concat of lifts and of equations. Echelon forms that are kept, and what a point and steps out of equations make. No program is named here. A point and steps that equations in echelon form tell make 0 with them. No call is walked here. What is kept of a span, as equations and as lifts: what holds on it says it all. No call is walked here. Where a span is too big, it is so whatever it was made of. No call is walked here. The span of three points that the laws of span ask first: what is kept of it. No call is walked here. Package span: copied; rows that are told, in a list that grows. Package span: what a span tells: Rows, Steps, Base. Rows of fractions that are handed in: what they read as, how long they are together. The laws' Point: a point of whole numbers. What the laws of span ask first. Package span: Join, Meet. Package span: Same. Spans that are made, as what holds on them; what SpanLeast compares. The laws' alone: a span that is made of what is handed in. The law SpanLattice: what it compares. Join and Meet by what holds. The law SpanLattice: its walk. How a span is made, as it is handed in: what it reads as.
-/
import Derived.Lib.AppendZerosOnto
import Derived.Shelf.Spec.SlicesInsertGrow
import Derived.Test.YtpbllidpalgkkaaGreatRows
import Derived.ProofKit
import Derived.OpenShut
import Derived.ShutString
import Derived.ChangeOld
import Derived.JoinedCond
import Derived.Test.YtpbllidpalgkkaaGreatSLaLawZ5
set_option maxRecDepth 20000
set_option maxHeartbeats 40000000
namespace Go.Proofs.YtpbllidpalgkkaaGreat
namespace Lm
open Go Go.RowKit Md
theorem IsRow.one{w:World}{v:Value}{zs:List Int}{L:Nat}(h:IsRow w v zs L):v.oneCell'=true:=by
 obtain⟨ao,c,rfl,_⟩:=h.parts;rfl
def MCells(w:World)(v:Value)(m:Nat)(X:List Value):Prop:=Ce w v 1 m X/\∀u∈X,u.oneCell'=true
theorem MCells.below{w w':World}{v:Value}{m:Nat}{X:List Value}(h:MCells w v m X)(hb:Below w.heap.size w w'):MCells w' v m X:=⟨h.1.below hb,h.2⟩
theorem IsM.cellsM{w:World}{v:Value}{rows:List (List Int)}{L:Nat}(h:IsM w v rows L):∃X,MCells w v rows.length X/\∀(i:Nat) (u:Value) (z:List Int),X[i]? = some u->rows[i]? = some z->IsRow w u z L:=by
 obtain⟨vs,h1,h2⟩:=h;refine⟨vs,⟨h1,fun u hu=>?_⟩,h2⟩;obtain⟨i,hi⟩:=List.mem_iff_getElem?.1 hu;have hil:=(List.getElem?_eq_some_iff.1 hi).1;obtain⟨_,_,_,_,_,hvl,_⟩:=h1;obtain⟨z,hz⟩:∃z,rows[i]? = some z:=⟨_,List.getElem?_eq_getElem (by omega)⟩;exact(h2 i u z hi hz).one
theorem aqq{w w':World}{r:Value}{K:Nat}{rows rows':List (List Int)}{X Y:List Value}{L:Nat}(ho:w'.ownsRow K 39 1 r (rows.length+rows'.length) (X++Y))(hb:Below w.heap.size w w')(hX:X.length=rows.length)(h:∀(i:Nat) (u:Value) (z:List Int),X[i]? = some u->rows[i]? = some z->IsRow w u z L)(h':∀(i:Nat) (u:Value) (z:List Int),Y[i]? = some u->rows'[i]? = some z->IsRow w u z L):IsM w' r (rows++rows') L:=by
 refine⟨X++Y,by rw[List.length_append];exact Ce.own ho,fun i u z hu hz=>?_⟩;by_cases hi:i<rows.length
 ·rw[List.getElem?_append_left (by omega)]at hu hz;exact(h i u z hu hz).below hb
 ·rw[List.getElem?_append_right (by omega)]at hu hz;rw[hX]at hu;exact(h' _ u z hu hz).below hb
theorem avv(w:World)(n:Nat)(hn:n<=1000):
  Calls Tryz.prog 98 #[.slice none 0 0,.int .i64 (n:Int)] w fun e w'=>∃r,e=.returned r/\w'.ownsRow w.heap.size 39 1 r 0 []/\Below w.heap.size w w':=by
 by_cases hz:n=0
 ·subst hz;have ho:=World.ownsRow_nil w w.heap.size 39 1;have HO:=hide ho;clear ho;go_enter Tryz.func98,Tryz.ntmps98
  go_wp2;refine bodyPost_ret (v:=_) (by simp[results,Tryz.results98,go_sem];try rfl) rfl ⟨_,rfl,HO.out,Below.refl _ _⟩
 have h0:0<n:=by omega
 obtain⟨iW,hi,hz0,hz1,hz2⟩:=info_parts ae6;have h1:¬((n:Int)<0):=by omega
 have h4:(n:Int) > 0:=by omega
 have hold:(Builtin.firstCells iW.size 0 (.slice none 0 0)).run Tryz.prog w.drew=.ok #[] w.drew:=by
  simp[Builtin.firstCells]
 obtain⟨G,hG⟩:∃G,G=grownCap w n 0 39:=⟨_,rfl⟩;have hrz:∀ty,(Builtin.append_ #[75,3] ty #[.slice none 0 0,.int .i64 (n:Int)]).run Tryz.prog w=.ok (.slice (some ⟨w.heap.size,0,none⟩) n G) (w.drew.alloc (.cells (#[]++Builtin.zeroCells (Value.slice none 0 0).cells n++Builtin.zeroCells (Value.slice none 0 0).cells (G-n)) 39)):=fun ty=>by
  have h:=Lib.run_append_grow_zeros w 75 3 ty 39 iW (.slice none 0 0) .i64 .i64 Tryz.underlying75 Tryz.underlying3 hi hz0 none 0 0 [] hold n (by omega) (by rw[hz1];decide) (by omega) (by omega) (by rw[hz2];omega) (by rw[Nat.zero_add];exact growslice_fits h0 (by rw[hz2];omega));rw[Nat.zero_add]at h;rw[hG];exact h
 have hGn:n<=G:=by rw[hG];exact grownCap_ge w _ _ _
 have hG63:G<=9223372036854775807:=by
  have:=grownCap_le_maxLen w n 0 39 (by unfold maxLen;omega);rw[<-hG]at this;unfold maxLen at this;omega
 have hown:(w.drew.alloc (.cells (#[]++Builtin.zeroCells (Value.slice none 0 0).cells n++Builtin.zeroCells (Value.slice none 0 0).cells (G-n)) 39)).ownsRow w.heap.size 39 1 (.slice (some ⟨w.heap.size,0,none⟩) 0 G) 0 []:=by
  refine World.ownsRow_made (base:=w.heap.size) (e:=39) (size:=1) w.drew _ G (Nat.le_refl _) (by unfold maxLen;omega) ?_;simp only[Array.size_append,size_zeroCells];show 0+n*1+(G-n)*1=G*1;omega
 have hb:Below w.heap.size w (w.drew.alloc (.cells (#[]++Builtin.zeroCells (Value.slice none 0 0).cells n++Builtin.zeroCells (Value.slice none 0 0).cells (G-n)) 39)):=(Below.drew (Below.refl _ _)).trans (show Below w.heap.size w.drew _ from hAl w.drew _);generalize w.drew.alloc (.cells (#[]++Builtin.zeroCells (Value.slice none 0 0).cells n++Builtin.zeroCells (Value.slice none 0 0).cells (G-n)) 39)=W at *
 have HW:=hide (And.intro hown hb);clear hold hG hown hb hi hz0 hz1 hz2;go_enter Tryz.func98,Tryz.ntmps98
 go_wp2_with (at_builtin;refine Lib.wpList_append_run _ rfl _ _ _ _ rfl _ _ rfl rfl _ _ (hrz _) ?_)
 refine bodyPost_ret (v:=_) (by simp[results,Tryz.results98,go_sem];try rfl) rfl ⟨_,rfl,HW.out.1,HW.out.2⟩
theorem af3{ops:Array Oper}{rest:List Oper}{o:Oper}{a:Act}{Q:Exit->Act->World->Prop}{w:World}(hgd:o.guard=none)(s x:Operand)(ho:o.op=.call {callee:=.builtin .append,args:=#[s,x],argTypes:=#[75,75]}){K:Nat}{v:Value}{n:Nat}{xs:List Value}(hs:a.eval s=v)(hown:w.ownsRow K 39 1 v n xs){a0:Option Addr}{m c0:Nat}{X:List Value}(hx:a.eval x=.slice a0 m c0)(hC:MCells w (.slice a0 m c0) m X)(hm:n+m<=1000000)(hK:K<=w.heap.size)
  (h:∀v' w',w'.ownsRow K 39 1 v' (n+m) (xs++X)->w.grownBy w' v.ownBlock->wpList Tryz.prog ops Q rest (a.put o.dst v') w'):wpList Tryz.prog ops Q (o::rest) a w:=by
 obtain⟨iW,hi,hz0,hz1,hz2⟩:=info_parts ae6;obtain⟨ao',cap',hv,h1,h2,h3,h4⟩:=hC.1;obtain⟨rfl,_,rfl⟩:=(Value.slice.injEq .. ▸ hv);cases a0 with
 |none=>
  have hm0:m=0:=by
   rcases h4 with h4|⟨b,off,e,_⟩
   ·exact h4
   ·cases e
  subst hm0;obtain rfl:X = []:=List.length_eq_zero_iff.1 (by omega);refine wpList_plain hgd fun K hK=>?_
  have hrun:(Builtin.append_ #[75,75] o.type #[v,.slice none 0 c0]).run Tryz.prog w=.ok v w:=by
   rcases hown.2 with⟨rfl,rfl⟩|⟨g,cap,cur,rfl,_,_,hnc,_⟩
   ·simp[Builtin.append_,run_underlying Tryz.underlying75,sizeOf,typeInfo,hi,Builtin.lenOf,Builtin.firstCells]
   ·simp[Builtin.append_,run_underlying Tryz.underlying75,sizeOf,typeInfo,hi,Builtin.lenOf,Builtin.firstCells,hnc,storeCells]
  unfold Oper.wp;simp[execOp,ho,resolve,invoke,builtin,hs,hx,hrun,Result.andThen];exact hK _ _ (h _ _ (by simpa using hown) ⟨rfl,rfl,rfl,Nat.le_refl _,fun _ _ _=>rfl⟩)
 |some ad=>
  refine wpList_append_own w hgd s x 75 ho K 39 iW (.slice none 0 0) 1 24 Tryz.underlying75 hi hz0 hz1 hz2 rfl (by decide) _ _ _ hs hown ad m c0 X hx (by omega) (fun j u hu=>?_) (fun u hu=>hC.2 u hu) (by unfold maxLen;omega) (by omega) hK (fun v' w' ho hg _=>h v' w' ho hg);rcases h4 with h4|⟨b,off,e,_,hc⟩
  ·rw[List.getElem?_eq_none (by omega)]at hu;cases hu
  ·obtain rfl:=Option.some.inj e;rw[Addr.add_lit];exact hc j u hu
theorem aph(w:World)(lb:Nat)(a0 a1:Option Addr)(m0 m1 c0 c1:Nat)(x y:List Value)(g0:w.cell? ⟨lb,0,none⟩=some (.slice a0 m0 c0))(g1:w.cell? ⟨lb,1,none⟩=some (.slice a1 m1 c1))(hlb:lb<w.heap.size)(hx:MCells w (.slice a0 m0 c0) m0 x)(hy:MCells w (.slice a1 m1 c1) m1 y)(hl:m0+m1<=1000):
  Calls Tryz.prog 62 #[.slice (some ⟨lb,0,none⟩) 2 2] w fun e w'=>∃r,e=.returned r/\w'.ownsRow w.heap.size 39 1 r (m0+m1) (x++y)/\Below w.heap.size w w':=by
 have HX:=hide (And.intro hx hy);have HG:=hide (And.intro g0 g1);have KG:=hide (avv w (m0+m1) hl);clear hx hy;go_enter Tryz.func62,Tryz.ntmps62
 go_wp2;go_loopw [3,5,11] (fun sv _ kv wr=>∃k s:Nat,kv=.int .i64 (k:Int)/\sv=.int .i64 (s:Int)/\wr=w/\(k=0/\s=0\/k=1/\s=m0\/k=2/\s=m0+m1)) (fun _ _ kv _=>2-(intOf kv).toNat)
 case atStart=>exact⟨0,0,rfl,rfl,rfl,.inl ⟨rfl,rfl⟩⟩
 case round=>
  obtain⟨k,s,rfl,rfl,hwr,hks⟩:=hrel;subst hwr;rcases hks with⟨rfl,rfl⟩|⟨rfl,rfl⟩|⟨rfl,rfl⟩
  ·go_wp2;go_roundw
   case rel=>exact⟨1,m0,rfl,by simp,by simp,by simp⟩
   case measure=>simp[intOf]
  ·have hs0:¬((s:Int)+(m1:Int)<0):=by omega
   go_wp2;go_roundw
   case rel=>exact⟨2,s+m1,rfl,by simp,by simp,by simp⟩
   case measure=>simp[intOf]
  ·go_wp2_with fail
   refine KG.out.mono ?_;rintro e w2 ⟨r,rfl,ho,hb⟩;have HB:=hide hb;have HO:=hide ho;clear KG ho hb g0 g1;obtain⟨w0,hw0⟩:∃w0,w0=wr:=⟨_,rfl⟩;subst hw0;go_wp2;go_loopw [6,8,27] (fun sv _ kv wr=>∃(k n:Nat) (es:List Value),kv=.int .i64 (k:Int)/\Below w0.heap.size w0 wr/\wr.ownsRow w0.heap.size 39 1 sv n es/\(k=0/\n=0/\es = []\/k=1/\n=m0/\es=x\/k=2/\n=m0+m1/\es=x++y)) (fun _ _ kv _=>2-(intOf kv).toNat)
   case atStart=>exact⟨0,0,[],rfl,HB.out,HO.out,.inl ⟨rfl,rfl,rfl⟩⟩
   case round=>
    obtain⟨k,n,es,rfl,hbr,hown,hks⟩:=hrel;obtain⟨sa,sc,hsv,_⟩:=Ce.own hown;subst hsv;have HBR:=hide hbr;have hlow:=hbr.size;have g0:=(hbr.cell (p:=⟨lb,0,none⟩) hlb).trans HG.out.1;have g1:=(hbr.cell (p:=⟨lb,1,none⟩) hlb).trans HG.out.2;rcases hks with⟨rfl,rfl,rfl⟩|⟨rfl,rfl,rfl⟩|⟨rfl,rfl,rfl⟩
    ·have hR:=HX.out.1.below hbr;clear hbr;go_wp2_with (at_builtin;refine af3 rfl (.tmp 31) (.tmp 32) rfl rfl hown rfl hR (by omega) hlow ?_)
     intro v5 w5 hown5 hgrow5;obtain⟨va,vc,hv5,_⟩:=Ce.own hown5;have HB5:=hide (HBR.out.trans ((Below.refl _ _).grown hgrow5 hlow (fun j hj=>(hown.lt j hj).1)));have HO5:=hide hown5;subst hv5;clear hown hown5 hgrow5 g0 g1 hR;go_wp2;go_roundw
     case rel=>exact⟨1,_,x,rfl,HB5.out,(by simpa using HO5.out),.inr (.inl ⟨rfl,by simp,rfl⟩)⟩
     case measure=>simp[intOf]
    ·have hR:=HX.out.2.below hbr;clear hbr;go_wp2_with (at_builtin;refine af3 rfl (.tmp 31) (.tmp 32) rfl rfl hown rfl hR (by omega) hlow ?_)
     intro v5 w5 hown5 hgrow5;obtain⟨va,vc,hv5,_⟩:=Ce.own hown5;have HB5:=hide (HBR.out.trans ((Below.refl _ _).grown hgrow5 hlow (fun j hj=>(hown.lt j hj).1)));have HO5:=hide hown5;subst hv5;clear hown hown5 hgrow5 g0 g1 hR;go_wp2;go_roundw
     case rel=>exact⟨2,_,es++y,rfl,HB5.out,HO5.out,.inr (.inr ⟨rfl,rfl,rfl⟩)⟩
     case measure=>simp[intOf]
    ·have HO:=hide hown;clear hown hbr g0 g1;go_wp2;refine bodyPost_ret (v:=_) (by simp[results,Tryz.results62,go_sem];try rfl) rfl ⟨_,rfl,HO.out,HBR.out⟩
theorem avw(w:World)(n:Nat)(hn:n<=1000):
  Calls Tryz.prog 99 #[.slice none 0 0,.int .i64 (n:Int)] w fun e w'=>∃r,e=.returned r/\w'.ownsRow w.heap.size 39 1 r 0 []/\Below w.heap.size w w':=by
 by_cases hz:n=0
 ·subst hz;have ho:=World.ownsRow_nil w w.heap.size 39 1;have HO:=hide ho;clear ho;go_enter Tryz.func99,Tryz.ntmps99
  go_wp2;refine bodyPost_ret (v:=_) (by simp[results,Tryz.results99,go_sem];try rfl) rfl ⟨_,rfl,HO.out,Below.refl _ _⟩
 have h0:0<n:=by omega
 obtain⟨iW,hi,hz0,hz1,hz2⟩:=info_parts ae6;have h1:¬((n:Int)<0):=by omega
 have h4:(n:Int) > 0:=by omega
 have hold:(Builtin.firstCells iW.size 0 (.slice none 0 0)).run Tryz.prog w.drew=.ok #[] w.drew:=by
  simp[Builtin.firstCells]
 obtain⟨G,hG⟩:∃G,G=grownCap w n 0 39:=⟨_,rfl⟩;have hrz:∀ty,(Builtin.append_ #[72,3] ty #[.slice none 0 0,.int .i64 (n:Int)]).run Tryz.prog w=.ok (.slice (some ⟨w.heap.size,0,none⟩) n G) (w.drew.alloc (.cells (#[]++Builtin.zeroCells (Value.slice none 0 0).cells n++Builtin.zeroCells (Value.slice none 0 0).cells (G-n)) 39)):=fun ty=>by
  have h:=Lib.run_append_grow_zeros w 72 3 ty 39 iW (.slice none 0 0) .i64 .i64 Tryz.underlying72 Tryz.underlying3 hi hz0 none 0 0 [] hold n (by omega) (by rw[hz1];decide) (by omega) (by omega) (by rw[hz2];omega) (by rw[Nat.zero_add];exact growslice_fits h0 (by rw[hz2];omega));rw[Nat.zero_add]at h;rw[hG];exact h
 have hGn:n<=G:=by rw[hG];exact grownCap_ge w _ _ _
 have hG63:G<=9223372036854775807:=by
  have:=grownCap_le_maxLen w n 0 39 (by unfold maxLen;omega);rw[<-hG]at this;unfold maxLen at this;omega
 have hown:(w.drew.alloc (.cells (#[]++Builtin.zeroCells (Value.slice none 0 0).cells n++Builtin.zeroCells (Value.slice none 0 0).cells (G-n)) 39)).ownsRow w.heap.size 39 1 (.slice (some ⟨w.heap.size,0,none⟩) 0 G) 0 []:=by
  refine World.ownsRow_made (base:=w.heap.size) (e:=39) (size:=1) w.drew _ G (Nat.le_refl _) (by unfold maxLen;omega) ?_;simp only[Array.size_append,size_zeroCells];show 0+n*1+(G-n)*1=G*1;omega
 have hb:Below w.heap.size w (w.drew.alloc (.cells (#[]++Builtin.zeroCells (Value.slice none 0 0).cells n++Builtin.zeroCells (Value.slice none 0 0).cells (G-n)) 39)):=(Below.drew (Below.refl _ _)).trans (show Below w.heap.size w.drew _ from hAl w.drew _);generalize w.drew.alloc (.cells (#[]++Builtin.zeroCells (Value.slice none 0 0).cells n++Builtin.zeroCells (Value.slice none 0 0).cells (G-n)) 39)=W at *
 have HW:=hide (And.intro hown hb);clear hold hG hown hb hi hz0 hz1 hz2;go_enter Tryz.func99,Tryz.ntmps99
 go_wp2_with (at_builtin;refine Lib.wpList_append_run _ rfl _ _ _ _ rfl _ _ rfl rfl _ _ (hrz _) ?_)
 refine bodyPost_ret (v:=_) (by simp[results,Tryz.results99,go_sem];try rfl) rfl ⟨_,rfl,HW.out.1,HW.out.2⟩
theorem af4{ops:Array Oper}{rest:List Oper}{o:Oper}{a:Act}{Q:Exit->Act->World->Prop}{w:World}(hgd:o.guard=none)(s x:Operand)(ho:o.op=.call {callee:=.builtin .append,args:=#[s,x],argTypes:=#[72,72]}){K:Nat}{v:Value}{n:Nat}{xs:List Value}(hs:a.eval s=v)(hown:w.ownsRow K 39 1 v n xs){a0:Option Addr}{m c0:Nat}{X:List Value}(hx:a.eval x=.slice a0 m c0)(hC:MCells w (.slice a0 m c0) m X)(hm:n+m<=1000000)(hK:K<=w.heap.size)
  (h:∀v' w',w'.ownsRow K 39 1 v' (n+m) (xs++X)->w.grownBy w' v.ownBlock->wpList Tryz.prog ops Q rest (a.put o.dst v') w'):wpList Tryz.prog ops Q (o::rest) a w:=by
 obtain⟨iW,hi,hz0,hz1,hz2⟩:=info_parts ae6;obtain⟨ao',cap',hv,h1,h2,h3,h4⟩:=hC.1;obtain⟨rfl,_,rfl⟩:=(Value.slice.injEq .. ▸ hv);cases a0 with
 |none=>
  have hm0:m=0:=by
   rcases h4 with h4|⟨b,off,e,_⟩
   ·exact h4
   ·cases e
  subst hm0;obtain rfl:X = []:=List.length_eq_zero_iff.1 (by omega);refine wpList_plain hgd fun K hK=>?_
  have hrun:(Builtin.append_ #[72,72] o.type #[v,.slice none 0 c0]).run Tryz.prog w=.ok v w:=by
   rcases hown.2 with⟨rfl,rfl⟩|⟨g,cap,cur,rfl,_,_,hnc,_⟩
   ·simp[Builtin.append_,run_underlying Tryz.underlying72,sizeOf,typeInfo,hi,Builtin.lenOf,Builtin.firstCells]
   ·simp[Builtin.append_,run_underlying Tryz.underlying72,sizeOf,typeInfo,hi,Builtin.lenOf,Builtin.firstCells,hnc,storeCells]
  unfold Oper.wp;simp[execOp,ho,resolve,invoke,builtin,hs,hx,hrun,Result.andThen];exact hK _ _ (h _ _ (by simpa using hown) ⟨rfl,rfl,rfl,Nat.le_refl _,fun _ _ _=>rfl⟩)
 |some ad=>
  refine wpList_append_own w hgd s x 72 ho K 39 iW (.slice none 0 0) 1 24 Tryz.underlying72 hi hz0 hz1 hz2 rfl (by decide) _ _ _ hs hown ad m c0 X hx (by omega) (fun j u hu=>?_) (fun u hu=>hC.2 u hu) (by unfold maxLen;omega) (by omega) hK (fun v' w' ho hg _=>h v' w' ho hg);rcases h4 with h4|⟨b,off,e,_,hc⟩
  ·rw[List.getElem?_eq_none (by omega)]at hu;cases hu
  ·obtain rfl:=Option.some.inj e;rw[Addr.add_lit];exact hc j u hu
theorem api(w:World)(lb:Nat)(a0 a1:Option Addr)(m0 m1 c0 c1:Nat)(x y:List Value)(g0:w.cell? ⟨lb,0,none⟩=some (.slice a0 m0 c0))(g1:w.cell? ⟨lb,1,none⟩=some (.slice a1 m1 c1))(hlb:lb<w.heap.size)(hx:MCells w (.slice a0 m0 c0) m0 x)(hy:MCells w (.slice a1 m1 c1) m1 y)(hl:m0+m1<=1000):
  Calls Tryz.prog 63 #[.slice (some ⟨lb,0,none⟩) 2 2] w fun e w'=>∃r,e=.returned r/\w'.ownsRow w.heap.size 39 1 r (m0+m1) (x++y)/\Below w.heap.size w w':=by
 have HX:=hide (And.intro hx hy);have HG:=hide (And.intro g0 g1);have KG:=hide (avw w (m0+m1) hl);clear hx hy;go_enter Tryz.func63,Tryz.ntmps63
 go_wp2;go_loopw [3,5,11] (fun sv _ kv wr=>∃k s:Nat,kv=.int .i64 (k:Int)/\sv=.int .i64 (s:Int)/\wr=w/\(k=0/\s=0\/k=1/\s=m0\/k=2/\s=m0+m1)) (fun _ _ kv _=>2-(intOf kv).toNat)
 case atStart=>exact⟨0,0,rfl,rfl,rfl,.inl ⟨rfl,rfl⟩⟩
 case round=>
  obtain⟨k,s,rfl,rfl,hwr,hks⟩:=hrel;subst hwr;rcases hks with⟨rfl,rfl⟩|⟨rfl,rfl⟩|⟨rfl,rfl⟩
  ·go_wp2;go_roundw
   case rel=>exact⟨1,m0,rfl,by simp,by simp,by simp⟩
   case measure=>simp[intOf]
  ·have hs0:¬((s:Int)+(m1:Int)<0):=by omega
   go_wp2;go_roundw
   case rel=>exact⟨2,s+m1,rfl,by simp,by simp,by simp⟩
   case measure=>simp[intOf]
  ·go_wp2_with fail
   refine KG.out.mono ?_;rintro e w2 ⟨r,rfl,ho,hb⟩;have HB:=hide hb;have HO:=hide ho;clear KG ho hb g0 g1;obtain⟨w0,hw0⟩:∃w0,w0=wr:=⟨_,rfl⟩;subst hw0;go_wp2;go_loopw [6,8,27] (fun sv _ kv wr=>∃(k n:Nat) (es:List Value),kv=.int .i64 (k:Int)/\Below w0.heap.size w0 wr/\wr.ownsRow w0.heap.size 39 1 sv n es/\(k=0/\n=0/\es = []\/k=1/\n=m0/\es=x\/k=2/\n=m0+m1/\es=x++y)) (fun _ _ kv _=>2-(intOf kv).toNat)
   case atStart=>exact⟨0,0,[],rfl,HB.out,HO.out,.inl ⟨rfl,rfl,rfl⟩⟩
   case round=>
    obtain⟨k,n,es,rfl,hbr,hown,hks⟩:=hrel;obtain⟨sa,sc,hsv,_⟩:=Ce.own hown;subst hsv;have HBR:=hide hbr;have hlow:=hbr.size;have g0:=(hbr.cell (p:=⟨lb,0,none⟩) hlb).trans HG.out.1;have g1:=(hbr.cell (p:=⟨lb,1,none⟩) hlb).trans HG.out.2;rcases hks with⟨rfl,rfl,rfl⟩|⟨rfl,rfl,rfl⟩|⟨rfl,rfl,rfl⟩
    ·have hR:=HX.out.1.below hbr;clear hbr;go_wp2_with (at_builtin;refine af4 rfl (.tmp 31) (.tmp 32) rfl rfl hown rfl hR (by omega) hlow ?_)
     intro v5 w5 hown5 hgrow5;obtain⟨va,vc,hv5,_⟩:=Ce.own hown5;have HB5:=hide (HBR.out.trans ((Below.refl _ _).grown hgrow5 hlow (fun j hj=>(hown.lt j hj).1)));have HO5:=hide hown5;subst hv5;clear hown hown5 hgrow5 g0 g1 hR;go_wp2;go_roundw
     case rel=>exact⟨1,_,x,rfl,HB5.out,(by simpa using HO5.out),.inr (.inl ⟨rfl,by simp,rfl⟩)⟩
     case measure=>simp[intOf]
    ·have hR:=HX.out.2.below hbr;clear hbr;go_wp2_with (at_builtin;refine af4 rfl (.tmp 31) (.tmp 32) rfl rfl hown rfl hR (by omega) hlow ?_)
     intro v5 w5 hown5 hgrow5;obtain⟨va,vc,hv5,_⟩:=Ce.own hown5;have HB5:=hide (HBR.out.trans ((Below.refl _ _).grown hgrow5 hlow (fun j hj=>(hown.lt j hj).1)));have HO5:=hide hown5;subst hv5;clear hown hown5 hgrow5 g0 g1 hR;go_wp2;go_roundw
     case rel=>exact⟨2,_,es++y,rfl,HB5.out,HO5.out,.inr (.inr ⟨rfl,rfl,rfl⟩)⟩
     case measure=>simp[intOf]
    ·have HO:=hide hown;clear hown hbr g0 g1;go_wp2;refine bodyPost_ret (v:=_) (by simp[results,Tryz.results63,go_sem];try rfl) rfl ⟨_,rfl,HO.out,HBR.out⟩
end Lm
namespace Lm
open Go Go.RowKit Md
def CnE(N:Nat)(A:List (List Int)):Prop:=∃F:List (Nat×Md.Rw),EF F/\(∀e∈F,e.1<N)/\(∀e∈F,∀c,N<=c->e.2 c=0)/\A=elR N F
theorem anz{N:Nat}{F:List (Nat×Md.Rw)}(hE:EF F)(hn:∀e∈F,e.1<N)(ho:∀e∈F,∀c,N<=c->e.2 c=0)(x:Md.Rw):RS ((elR N F).map fnR) x↔RS (rowsE F) x:=by
 constructor
 ·intro h;refine h.trans fun y hy=>?_
  obtain⟨r,hr,rfl⟩:=List.mem_map.1 hy;obtain⟨e,he,rfl⟩:=List.mem_map.1 hr;obtain⟨d,hd,_,hk⟩:=ahj hE hn ho he;exact(RS.mem (List.mem_map.2 ⟨e,he,rfl⟩)).div hd hk
 ·intro h;refine h.trans fun y hy=>?_
  obtain⟨e,he,rfl⟩:=List.mem_map.1 hy;obtain⟨d,hd,hm,hk⟩:=ahj hE hn ho he;exact(RS.mem (List.mem_map.2 ⟨_,hm,rfl⟩)).smul d (fun k=>(hk k).symm)
theorem ad0{N:Nat}{A B:List (List Int)}(hA:CnE N A)(hB:CnE N B)(h1:∀a∈A,RS (B.map fnR) (fnR a))(h2:∀b∈B,RS (A.map fnR) (fnR b)):A=B:=by
 obtain⟨F,f1,f2,f3,rfl⟩:=hA;obtain⟨G,g1,g2,g3,rfl⟩:=hB;refine au8 f1 g1 (fun e he=>?_) (fun e he=>?_)
 ·obtain⟨d,hd,hm,hk⟩:=ahj f1 f2 f3 he;exact((anz g1 g2 g3 _).1 (h1 _ hm)).smul d (fun k=>(hk k).symm)
 ·obtain⟨d,hd,hm,hk⟩:=ahj g1 g2 g3 he;exact((anz f1 f2 f3 _).1 (h2 _ hm)).smul d (fun k=>(hk k).symm)
theorem CnE.row{N:Nat}{A:List (List Int)}(h:CnE N A):∀r∈A,r.length=N:=by
 obtain⟨F,_,_,_,rfl⟩:=h;exact ady
theorem CnE.el{N:Nat}{A:List (List Int)}(h:CnE N A):∃P,EL N P A:=by
 obtain⟨F,h1,h2,_,rfl⟩:=h;exact⟨_,EF.el h1 h2⟩
theorem CnE.lead{N:Nat}{A:List (List Int)}(h:CnE N A):∀r∈A,∃p,p<N/\Lead r p:=fun r hr=>by
 obtain⟨P,hP⟩:=h.el;exact(EL.lead hP r hr).2
theorem CnE.ef{N:Nat}{A:List (List Int)}(h:CnE N A):∃F:List (Nat×Md.Rw),EF F/\(∀e∈F,e.1<N)/\rowsE F=A.map fnR:=by
 obtain⟨F,h1,h2,h3,rfl⟩:=h;have hd:∀e∈F,dvs (gRow e.2 N)≠0/\∀k,dvs (gRow e.2 N)*fnR (red (gRow e.2 N)) k=e.2 k:=fun e he=>⟨ahi (List.mem_of_getElem? (aa8 (g:=e.2) (h2 e he))) (h1.ne e he),fun k=>by rw[ah6,am9 (h3 e he)]⟩
 have hz:∀e∈F,∀k,e.2 k=0->fnR (red (gRow e.2 N)) k=0:=fun e he k hk=>by
  have h4:=(hd e he).2 k;rw[hk]at h4;rcases Int.mul_eq_zero.1 h4 with h|h
  ·exact absurd h (hd e he).1
  ·exact h
 refine⟨F.map (fun e=>(e.1,fnR (red (gRow e.2 N)))),⟨?_,fun e he=>?_,fun e he f hf hne=>?_,fun e he k hk=>?_⟩,fun e he=>?_,?_⟩
 ·rw[List.pairwise_map];exact h1.asc
 ·obtain⟨g,hg,rfl⟩:=List.mem_map.1 he;intro h4;have h4:fnR (red (gRow g.2 N)) g.1=0:=h4;have h5:=(hd g hg).2 g.1;rw[h4,Int.mul_zero]at h5;exact h1.ne g hg h5.symm
 ·obtain⟨g,hg,rfl⟩:=List.mem_map.1 he;obtain⟨g',hg',rfl⟩:=List.mem_map.1 hf;exact hz g hg _ (h1.oth g hg g' hg' hne)
 ·obtain⟨g,hg,rfl⟩:=List.mem_map.1 he;exact hz g hg _ (h1.led g hg k hk)
 ·obtain⟨g,hg,rfl⟩:=List.mem_map.1 he;exact h2 g hg
 ·unfold rowsE elR;rw[List.map_map,List.map_map];rfl
theorem CnE.ind{N:Nat}{A:List (List Int)}(h:CnE N A):Ind (A.map fnR):=by
 obtain⟨F,h1,_,h3⟩:=h.ef;rw[<-h3];exact au9 h1
theorem CnE.oth{N:Nat}{A:List (List Int)}(h:CnE N A){i k:Nat}{r s:List Int}{p:Nat}(hr:A[i]? = some r)(hs:A[k]? = some s)(hne:k≠i)(hp:Lead r p):fnR s p=0:=by
 obtain⟨P,hP⟩:=h.el;have hi:=(List.getElem?_eq_some_iff.1 hr).1;obtain⟨q,hq⟩:∃q,P[i]? = some q:=⟨_,List.getElem?_eq_getElem (by rw[hP.len];exact hi)⟩;obtain⟨_,_,h3,h4,_⟩:=hP.row i r q hr hq;have hl:Lead r q:=⟨by show r.getD q 0≠0;omega,fun k hk=>h3 k hk⟩;obtain rfl:=hp.one hl;exact hP.oth i k s _ hq hs hne
end Lm
namespace Lm
open Go Go.RowKit Md
theorem CnE.asc{N:Nat}{A:List (List Int)}(h:CnE N A):A.length<=N:=by
 obtain⟨P,hP⟩:=h.el;have h3:=af2 hP.asc (fun p hp=>by
  obtain⟨i,hi⟩:=List.mem_iff_getElem?.1 hp;have hil:=(List.getElem?_eq_some_iff.1 hi).1;obtain⟨r,hr⟩:∃r,A[i]? = some r:=⟨_,List.getElem?_eq_getElem (by rw[<-hP.len];exact hil)⟩
  exact(hP.row i r p hr hi).2.1)
 rw[hP.len]at h3;exact h3
theorem CnE.leadN{N:Nat}{A:List (List Int)}(h:CnE N A){r:List Int}(hr:r∈A):Lead r (leadN r)/\leadN r<N:=by
 obtain⟨p,hp,hl⟩:=h.lead r hr;rw[hl.n];exact⟨hl,hp⟩
theorem CnE.dif{N:Nat}{A:List (List Int)}(h:CnE N A):A.Pairwise (fun a b=>Lm.leadN a≠Lm.leadN b):=by
 rw[List.pairwise_iff_getElem];intro i j hi hj hij he;have h1:A[i]? = some A[i]:=List.getElem?_eq_getElem hi;have h2:A[j]? = some A[j]:=List.getElem?_eq_getElem hj;have h3:=h.oth h1 h2 (by omega) (h.leadN (List.mem_of_getElem? h1)).1;have h4:=(h.leadN (List.mem_of_getElem? h2)).1;rw[<-he]at h4;exact h4.1 h3
theorem ai9{n k:Nat}: ∀(rows:List (List Int)) (ps:List Rat),(∀r∈rows,leadN r≠k)->(rows.foldl (fun ps r=>ps.set (leadN r) (Rat.divInt (fnR r n) (fnR r (leadN r)))) ps)[k]? = ps[k]?
 | [],_,_=>rfl
 |r::rs,ps,h=>by
  rw[List.foldl_cons,ai9 rs _ (fun x hx=>h x (List.mem_cons_of_mem _ hx)),List.getElem?_set_ne (h r (List.mem_cons_self ..))]
theorem avx{n k:Nat}{rows:List (List Int)}(h:∀r∈rows,leadN r≠k)(hk:k<n):(ptQ n rows)[k]? = some 0:=by
 unfold ptQ;rw[ai9 rows _ h,List.getElem?_replicate,if_pos hk]
theorem ayn{n:Nat}{rows:List (List Int)}(hd:rows.Pairwise (fun a b=>leadN a≠leadN b)){r:List Int}(hr:r∈rows)(hlt:leadN r<n):(ptQ n rows)[leadN r]? = some (Rat.divInt (fnR r n) (fnR r (leadN r))):=by
 obtain⟨A,B,rfl⟩:=List.append_of_mem hr;have hlen:(ptQ n A).length=n:=aia n A;unfold ptQ at *
 rw[List.foldl_append,List.foldl_cons,ai9 B _ (fun x hx=>?_),List.getElem?_set_self (by rw[hlen];exact hlt)];have h2:=(List.pairwise_append.1 hd).2.1;exact fun e=>(List.pairwise_cons.1 h2).1 x hx e.symm
theorem asi{ps:List Rat}{k:Nat}(h:ps[k]? = some 0):fnR (liftZ ps) k=0:=by
 have h1:=ai5 ps h;rw[Rat.mul_zero]at h1
 exact_mod_cast h1
theorem a2x{n:Nat}{E:List (List Int)}(hE:CnE (n+1) E)(hl:∀r∈E,leadN r<n):∀e∈E,dotN (n+1) (fnR (liftZ (ptQ n E))) (fnR e)=0:=by
 intro e he;have hp:=(hE.leadN he).1;have hpn:=hl e he;have hat:=ayn hE.dif he hpn;generalize leadN e=p at *
 have h1:=ai5 _ hat;have h2:=ago (ptQ n E);rw[aia]at h2;have h3:dotN n (fnR (liftZ (ptQ n E))) (fnR e)=fnR (liftZ (ptQ n E)) p*fnR e p:=by
  unfold dotN;rw[<-adv (f:=fun k=>fnR (liftZ (ptQ n E)) k*fnR e k) (q:=p) List.nodup_range (List.mem_range.2 hpn)];refine ac5 fun k hk=>?_
  have hkn:=List.mem_range.1 hk;by_cases hkp:k=p
  ·rw[if_pos hkp]
  ·rw[if_neg hkp];by_cases hx:∃s∈E,leadN s=k
   ·obtain⟨s,hs,rfl⟩:=hx;obtain⟨i,hi⟩:=List.mem_iff_getElem?.1 hs;obtain⟨j,hj⟩:=List.mem_iff_getElem?.1 he;have hij:j≠i:=fun h=>by
     subst h;rw[hi]at hj;obtain rfl:=Option.some.inj hj;exact hkp (hp.n)
    rw[hE.oth hi hj hij (hE.leadN hs).1,Int.mul_zero]
   ·rw[asi (avx (fun r hr h=>hx ⟨r,hr,h⟩) hkn),Int.zero_mul]
 rw[abw,h3,h2];have h4:((fnR e p:Int):Rat)≠0:=by exact_mod_cast hp.1
 rw[Rat.divInt_eq_div]at h1;have h5:((fnR (liftZ (ptQ n E)) p*fnR e p+-(wOf 1 (ptQ n E))*fnR e n:Int):Rat)=0:=by
  push_cast;rw[h1];generalize ((fnR e p:Int):Rat)=a at *
  generalize ((fnR e n:Int):Rat)=b at *
  generalize ((wOf 1 (ptQ n E):Int):Rat)=w at *
  grind
 exact_mod_cast h5
theorem a1e{n p:Nat}{z s:List Int}{e:Md.Rw}(hz:dotN (n+1) (fnR z) e=0)(hs:dotN (n+1) (fnR s) e=0):dotN (n+1) (fnR (clrZ z s p (n+1))) e=0:=by
 rw[aen (x:=fnR (clrZ z s p (n+1))) (u:=fun k=>fnR s p*fnR z k+(-(fnR z p))*fnR s k) (y:=e) (v:=e) (fun k hk=>by rw[akp hk,Int.sub_eq_add_neg,Int.neg_mul]) (fun _ _=>rfl),adw,hz,hs];omega
theorem aqr{n:Nat}{e:Md.Rw}: ∀(steps:List (List Int)) {z:List Int},dotN (n+1) (fnR z) e=0->(∀s∈steps,dotN (n+1) (fnR s) e=0)->dotN (n+1) (fnR (basZ z n steps)) e=0
 | [],_,h,_=>h
 |s::ss,_,h,hs=>aqr ss (a1e h (hs s (List.mem_cons_self ..))) (fun x hx=>hs x (List.mem_cons_of_mem _ hx))
theorem a1f{z:List Int}{n k:Nat}(h:k<n):(lowQ z n)[k]? = some (Rat.divInt (-(fnR z k)) (fnR z n)):=by simp[lowQ,qRow,h]
theorem ayo{n:Nat}{z:List Int}(hn:fnR z n≠0)(k:Nat)(hk:k<n+1):fnR z n*fnR (liftZ (lowQ z n)) k = -(wOf 1 (lowQ z n))*fnR z k:=by
 rcases Nat.lt_or_ge k n with h|h
 ·have h1:=ai5 _ (a1f (z:=z) h);rw[Rat.divInt_eq_div]at h1;have h4:((fnR z n:Int):Rat)≠0:=by exact_mod_cast hn
  have h5:((fnR z n*fnR (liftZ (lowQ z n)) k:Int):Rat)=((-(wOf 1 (lowQ z n))*fnR z k:Int):Rat):=by
   push_cast;rw[h1]
   push_cast;generalize ((fnR z n:Int):Rat)=a at *
   generalize ((fnR z k:Int):Rat)=b at *
   generalize ((wOf 1 (lowQ z n):Int):Rat)=w at *
   grind
  exact_mod_cast h5
 ·obtain rfl:k=n:=by omega
  have h2:=ago (lowQ z k);rw[adz]at h2;rw[h2]
  grind
theorem a1g{n:Nat}{z:List Int}{e:Md.Rw}(hn:fnR z n≠0)(h:dotN (n+1) (fnR z) e=0):dotN (n+1) (fnR (liftZ (lowQ z n))) e=0:=by
 have h1:=adw (n+1) (fnR z n) 0 (fnR (liftZ (lowQ z n))) (fnR z) e;rw[aen (x:=fun k=>fnR z n*fnR (liftZ (lowQ z n)) k+0*fnR z k) (u:=fun k=>-(wOf 1 (lowQ z n))*fnR z k+0*fnR z k) (y:=e) (v:=e) (fun k hk=>by show fnR z n*fnR (liftZ (lowQ z n)) k+0*fnR z k=_;rw[ayo hn k hk]) (fun _ _=>rfl),adw,h]at h1;have h2:fnR z n*dotN (n+1) (fnR (liftZ (lowQ z n))) e=0:=by omega
 rcases Int.mul_eq_zero.1 h2 with h|h
 ·exact absurd h hn
 ·exact h
theorem ac6{n:Nat}{rows:List (List Int)}{R:List Md.Rw}{Q:List Nat}(h:Ech n rows R Q):CnE n (elR n (kerE n R Q)):=⟨kerE n R Q,h.gat.kerEF,akk,ai4,rfl⟩
theorem akr{n:Nat}{rows:List (List Int)}{R:List Md.Rw}{Q:List Nat}(h:Ech n rows R Q)(hrn:∀r∈rows,r.length=n):CnE n ((baR R Q n).map red):=⟨efOf R Q,h.gat.ef,akl h.gat.lt,h.ef_out hrn,(ana R Q n).symm⟩
theorem an0{n:Nat}{rows:List (List Int)}{R:List Md.Rw}{Q:List Nat}(h:Ech n rows R Q)(hrn:∀r∈rows,r.length=n)(x:Md.Rw):RS (((baR R Q n).map red).map fnR) x↔RS (rows.map fnR) x:=by
 rw[<-ana,anz h.gat.ef (akl h.gat.lt) (h.ef_out hrn)];constructor
 ·intro hx;refine hx.trans fun y hy=>?_
  obtain⟨e,he,rfl⟩:=List.mem_map.1 hy;refine RS.trans (S:=R) (.of (h.gat.ef_in e he)) fun y hy=>?_
  obtain⟨r,hr,rfl⟩:=h.mem hy;exact .mem (List.mem_map.2 ⟨r,hr,rfl⟩)
 ·intro hx;refine h.gat.in_ef (hx.trans fun y hy=>?_);obtain⟨r,hr,rfl⟩:=List.mem_map.1 hy;exact h.rows_in hr
theorem a1h{n:Nat}{St:List (List Int)}(h:∀s∈St,s.length=n):∀l∈zro St,l.length=n+1:=fun l hl=>by
 obtain⟨s,hs,rfl⟩:=List.mem_map.1 hl;simp[h s hs]
structure Mirs (n:Nat) (E Lf:List (List Int)) (p:List Rat) (St:List (List Int)):Prop where
 lf:Lf=liftZ p::zro St
 pl:p.length=n
 can:CnE n St
 fst:Perp n (fac n E) St
 snd:Perp n St (fac n E)
 perp:Perp (n+1) Lf E
 sml:∀r∈St,r.any big=false
 fit:∀q∈p,Fit q 32
theorem agw{n:Nat}{E Lf:List (List Int)}(hE:CnE (n+1) E)(hM:MirR n E Lf)(hne:Lf≠[]):(∀r∈E,leadN r<n)/\∃p St,Mirs n E Lf p St:=by
 rcases hM with⟨_,h⟩|⟨hl,R,Q,hR,hb,hf,rfl⟩
 ·exact absurd h hne
 ·have hfl:∀r∈fac n E,r.length=n:=fun r hr=>by
   obtain⟨e,he,rfl⟩:=List.mem_map.1 hr;rw[List.length_take,hE.row e he];omega
  obtain⟨k1,k2⟩:=aco hR hfl;have hc:=ac6 hR;generalize elR n (kerE n R Q)=St at *
  have hsl:=hc.row;have hzl:=agt (n:=n) (St:=St) (fun r hr=>⟨hsl r hr,hc.lead r hr⟩);have hb0:fnR (basZ (liftZ (ptQ n E)) n (zro St)) n≠0:=by
   refine aho _ _ (fun s hs=>(hzl s hs).2) ?_;have:=ae7 (ptQ n E);rwa[aia]at this
  have hzd:∀e∈E,∀s∈zro St,dotN (n+1) (fnR s) (fnR e)=0:=fun e he s hs=>by
   have h0:=(hzl s hs).2.2;obtain⟨t,ht,rfl⟩:=List.mem_map.1 hs;rw[abw,h0,Int.zero_mul,Int.add_zero,af1 (hsl t ht),aen (fun _ _=>rfl) (fun k hk=>(ane hk).symm)];exact k2.dot hsl t ht _ (List.mem_map.2 ⟨e,he,rfl⟩)
  refine⟨hl,_,St,⟨rfl,by rw[mPt,adz],hc,k1,k2,?_,hb,hf⟩⟩;refine ao4 (by rw[abl,mPt,adz]) hsl (fun e he=>?_) ?_ k2
  ·exact a1g hb0 (aqr _ (a2x hE hl e he) (hzd e he))
  ·have:=ae7 (mPt n E St);rwa[mPt,adz,<-mPt]at this
end Lm
namespace Lm
open Go Go.RowKit Md
def Out(n:Nat)(y:Md.Rw):Prop:=∀c,n<=c->y c=0
def Hld(n:Nat)(Lf:List (List Int))(y:Md.Rw):Prop:=∀l∈Lf,dotN (n+1) y (fnR l)=0
def Cls(n:Nat)(E:List (List Int))(y:Md.Rw):Prop:=RS (E.map fnR) (fnR (noneR n))\/RS (E.map fnR) y
theorem aks(n k:Nat):fnR (noneR n) k=if k=n then 1 else 0:=by
 rcases Nat.lt_trichotomy k n with h|h|h
 ·rw[if_neg (by omega)];exact(agv n).2 k h
 ·subst h;rw[if_pos rfl];exact adp (by rw[noneR,List.getElem?_append_right (by simp)];simp)
 ·rw[if_neg (by omega)];exact ab8 (by rw[ac0];omega)
theorem agx(n:Nat)(y:Md.Rw):dotN (n+1) (fnR (noneR n)) y=y n:=by
 rw[abw,aks,if_pos rfl];have h:dotN n (fnR (noneR n)) y=0:=adk fun k hk=>by
  have:=List.mem_range.1 hk;rw[aks,if_neg (by omega),Int.zero_mul]
 rw[h];omega
theorem adf(n:Nat):Out (n+1) (fnR (noneR n)):=aar (ac0 n)
theorem ali{n:Nat}{E:List (List Int)}(hE:CnE (n+1) E){r:List Int}(hr:r∈E)(h:leadN r=n):RS (E.map fnR) (fnR (noneR n)):=by
 have h1:=(hE.leadN hr).1;rw[h]at h1;refine(RS.mem (List.mem_map.2 ⟨r,hr,rfl⟩)).div h1.1 (fun k=>?_);rw[aks];rcases Nat.lt_trichotomy k n with hk|hk|hk
 ·rw[if_neg (by omega),h1.2 k hk,Int.mul_zero]
 ·rw[if_pos hk,hk,Int.mul_one]
 ·rw[if_neg (by omega),aar (hE.row r hr) k hk,Int.mul_zero]
def stepsOf(n:Nat)(low:List (List Int)):List (List Int):=(low.drop 1).map (List.take n)
structure KeptF (n:Nat) (E Lf:List (List Int)):Prop where
 can:CnE (n+1) E
 small:∀r∈E,r.any big=false
 mir:MirR n E Lf
 ne:Lf≠[]
 eqs:Perp (n+1) E Lf
 lfs:Perp (n+1) Lf E
def Kept(n:Nat)(E Lf:List (List Int)):Prop:=(Lf = []/\E = [noneR n])\/KeptF n E Lf
theorem KeptF.mirs{n:Nat}{E Lf:List (List Int)}(h:KeptF n E Lf):(∀r∈E,leadN r<n)/\∃p St,Mirs n E Lf p St:=agw h.can h.mir h.ne
theorem Mirs.row{n:Nat}{E Lf:List (List Int)}{p:List Rat}{St:List (List Int)}(h:Mirs n E Lf p St):∀l∈Lf,l.length=n+1:=by
 rw[h.lf];intro l hl;rcases List.mem_cons.1 hl with rfl|hl
 ·rw[abl,h.pl]
 ·exact a1h h.can.row l hl
theorem Mirs.base{n:Nat}{E Lf:List (List Int)}{p:List Rat}{St:List (List Int)}(h:Mirs n E Lf p St):liftZ p∈Lf/\fnR (liftZ p) n≠0:=by
 refine⟨by rw[h.lf];exact List.mem_cons_self ..,?_⟩;have:=ae7 p;rwa[h.pl]at this
theorem KeptF.row{n:Nat}{E Lf:List (List Int)}(h:KeptF n E Lf):∀l∈Lf,l.length=n+1:=by
 obtain⟨_,p,St,hm⟩:=h.mirs;exact hm.row
theorem KeptF.point{n:Nat}{E Lf:List (List Int)}(h:KeptF n E Lf):¬Hld n Lf (fnR (noneR n)):=fun hh=>by
 obtain⟨_,p,St,hm⟩:=h.mirs;have h1:=hh _ hm.base.1;rw[agx]at h1;exact hm.base.2 h1
theorem Kept.row{n:Nat}{E Lf:List (List Int)}(h:Kept n E Lf):(∀e∈E,e.length=n+1)/\∀l∈Lf,l.length=n+1:=by
 rcases h with⟨rfl,rfl⟩|h
 ·exact⟨fun e he=>by rw[List.mem_singleton.1 he,ac0],fun l hl=>by cases hl⟩
 ·exact⟨h.can.row,h.row⟩
theorem Kept.hld{n:Nat}{E Lf:List (List Int)}(h:Kept n E Lf){y:Md.Rw}(hy:Out (n+1) y):Hld n Lf y↔Cls n E y:=by
 rcases h with⟨rfl,rfl⟩|h
 ·exact⟨fun _=>.inl (.mem (List.mem_map.2 ⟨_,List.mem_singleton.2 rfl,rfl⟩)),fun _ l hl=>by cases hl⟩
 ·constructor
  ·intro h1;exact .inr ((h.eqs y hy).2 h1)
  ·rintro (h1|h1)
   ·exact absurd ((h.eqs _ (adf n)).1 h1) h.point
   ·exact(h.eqs y hy).1 h1
theorem an1{n:Nat}{rows:List (List Int)}{R R':List Md.Rw}{Q Q':List Nat}(h:Ech n (mir rows) R Q)(h':Ech n (mir rows) R' Q')(hrn:∀r∈rows,r.length=n):elR n (kerE n R Q)=elR n (kerE n R' Q'):=by
 obtain⟨k1,k2⟩:=aco h hrn;obtain⟨j1,j2⟩:=aco h' hrn;refine ad0 (ac6 h) (ac6 h') (fun a ha=>(j2 _ (aar (ady a ha))).2 (fun b hb=>?_)) (fun a ha=>(k2 _ (aar (ady a ha))).2 (fun b hb=>?_))
 ·exact k2.dot (fun a ha=>ady a ha) a ha b hb
 ·exact j2.dot (fun a ha=>ady a ha) a ha b hb
theorem akt{n:Nat}{E:List (List Int)}(h:∀e∈E,e.length=n+1):∀r∈fac n E,r.length=n:=fun r hr=>by
 obtain⟨e,he,rfl⟩:=List.mem_map.1 hr;rw[List.length_take,h e he];omega
theorem ayp{n:Nat}{E Lf Lf':List (List Int)}(hE:∀e∈E,e.length=n+1)(h:MirR n E Lf)(h':MirR n E Lf'):Lf=Lf':=by
 rcases h with⟨⟨r,hr,h1⟩,rfl⟩|⟨h1,R,Q,hR,_,_,rfl⟩
 ·rcases h' with⟨_,rfl⟩|⟨h2,_⟩
  ·rfl
  ·have:=h2 r hr;omega
 ·rcases h' with⟨⟨r,hr,h2⟩,rfl⟩|⟨h2,R',Q',hR',_,_,rfl⟩
  ·have:=h1 r hr;omega
  ·rw[an1 hR hR' (akt hE)]
theorem afj{n:Nat}{E Lf E' Lf':List (List Int)}(h:Kept n E Lf)(h':Kept n E' Lf')(hs:∀y,Out (n+1) y->(Hld n Lf y↔Hld n Lf' y)):E=E'/\Lf=Lf':=by
 rcases h with⟨rfl,rfl⟩|h
 ·rcases h' with⟨rfl,rfl⟩|h'
  ·exact⟨rfl,rfl⟩
  ·exact absurd ((hs _ (adf n)).1 (fun l hl=>by cases hl)) h'.point
 ·rcases h' with⟨rfl,rfl⟩|h'
  ·exact absurd ((hs _ (adf n)).2 (fun l hl=>by cases hl)) h.point
  ·have he:E=E':=by
    refine ad0 h.can h'.can (fun a ha=>?_) (fun a ha=>?_)
    ·have ho:=aar (h.can.row a ha);exact(h'.eqs _ ho).2 ((hs _ ho).1 ((h.eqs _ ho).1 (.mem (List.mem_map.2 ⟨a,ha,rfl⟩))))
    ·have ho:=aar (h'.can.row a ha);exact(h.eqs _ ho).2 ((hs _ ho).2 ((h'.eqs _ ho).1 (.mem (List.mem_map.2 ⟨a,ha,rfl⟩))))
   subst he;exact⟨rfl,ayp h.can.row h.mir h'.mir⟩
theorem avy{n:Nat}{Lf S:List (List Int)}(h:∀s∈S,Hld n Lf (fnR s)){y:Md.Rw}(hy:RS (S.map fnR) y):Hld n Lf y:=fun l hl=>acs (fun x hx=>by
 obtain⟨s,hs,rfl⟩:=List.mem_map.1 hx
 exact h s hs l hl) hy
theorem apj{n:Nat}{E Lf E' Lf':List (List Int)}(h:Kept n E Lf)(h':Kept n E' Lf'):(∀e∈E',Hld n Lf (fnR e))↔∀y,Out (n+1) y->Hld n Lf' y->Hld n Lf y:=by
 constructor
 ·intro he y hy hh;rcases(h'.hld hy).1 hh with h1|h1
  ·have h2:=avy he h1;rcases h with⟨rfl,_⟩|h
   ·exact fun l hl=>by cases hl
   ·exact absurd h2 h.point
  ·exact avy he h1
 ·intro ha e he;have ho:=aar (h'.row.1 e he);exact ha _ ho ((h'.hld ho).2 (.inr (.mem (List.mem_map.2 ⟨e,he,rfl⟩))))
theorem aqs{n:Nat}{ls low E0 E1:List (List Int)}{p:List Rat}{St:List (List Int)}(hl:∀z∈ls,z.length=n+1)(c0:CnE (n+1) E0)(k2:Perp (n+1) E0 ls)(hm:Mirs n E0 low p St)(c1:CnE (n+1) E1)(j2:Perp (n+1) E1 low):E0=E1:=by
 have hlow:∀z∈ls,RS (low.map fnR) (fnR z):=fun z hz=>(hm.perp _ (aar (hl z hz))).2 fun b hb=>by
  rw[aax];exact(k2 _ (aar (c0.row b hb))).1 (.mem (List.mem_map.2 ⟨b,hb,rfl⟩)) z hz
 refine ad0 c0 c1 (fun a ha=>(j2 _ (aar (c0.row a ha))).2 fun l hll=>?_) (fun b hb=>(k2 _ (aar (c1.row b hb))).2 fun z hz=>?_)
 ·rw[aax];exact hm.perp.dot hm.row l hll a ha
 ·rw[aax];refine acs (fun x hx=>?_) (hlow z hz);obtain⟨l,hll,rfl⟩:=List.mem_map.1 hx;rw[aax];exact j2.dot c1.row b hb l hll
theorem afk{n:Nat}{ls low eqs:List (List Int)}(hl:∀z∈ls,z.length=n+1)(h:LowR n ls low)(ht:TwiR n low eqs):Kept n eqs low/\(∀l∈low,RS (ls.map fnR) (fnR l))/\∀y,Out (n+1) y->(Hld n low y↔(∀z∈ls,fnR z n=0)\/Hld n ls y):=by
 rcases h with⟨h1,rfl⟩|⟨⟨z,hz,hz0⟩,R,Q,hE,hbig,hM⟩
 ·rcases ht with⟨_,rfl⟩|⟨h2,_⟩
  ·exact⟨.inl ⟨rfl,rfl⟩,fun l hl=>(by cases hl),fun y _=>⟨fun _=>.inl h1,fun _ l hl=>by cases hl⟩⟩
  ·exact absurd rfl h2
 ·have c0:=ac6 hE;obtain⟨k1,k2⟩:=aco hE hl;generalize elR (n+1) (kerE (n+1) R Q)=E0 at *
  have hno:¬RS (E0.map fnR) (fnR (noneR n)):=fun hr=>by
   have h1:=(k2 _ (adf n)).1 hr z hz;rw[agx]at h1;exact hz0 h1
  have hne:low≠[]:=by
   rcases hM with⟨⟨r,hr,h1⟩,_⟩|⟨_,R2,Q2,_,_,_,rfl⟩
   ·exact absurd (ali c0 hr h1) hno
   ·simp
  obtain⟨_,p,St,hm⟩:=agw c0 hM hne;rcases ht with⟨h2,_⟩|⟨_,R2,Q2,hE2,hb2,rfl⟩
  ·exact absurd h2 hne
  obtain⟨j1,j2⟩:=aco hE2 hm.row;have c1:=ac6 hE2;generalize elR (n+1) (kerE (n+1) R2 Q2)=E1 at *
  have he:=aqs hl c0 k2 hm c1 j2;subst he;refine⟨.inr ⟨c0,hbig,hM,hne,j2,hm.perp⟩,fun l hll=>(k1 _ (aar (hm.row l hll))).2 fun b hb=>hm.perp.dot hm.row l hll b hb,fun y hy=>?_⟩;constructor
  ·intro hh;exact .inr ((k2 y hy).1 ((j2 y hy).2 hh))
  ·rintro (hh|hh)
   ·exact absurd (hh z hz) hz0
   ·exact(j2 y hy).1 ((k2 y hy).2 hh)
theorem aio(n:Nat):leadN (noneR n)=n:=(agv n).n
theorem alj{n:Nat}{rows low lf:List (List Int)}(hl:∀z∈rows,z.length=n+1)(h:LowRE n rows low)(hM:MirR n low lf):Kept n low lf/\∀y,Out (n+1) y->(Hld n lf y↔Cls n rows y):=by
 rcases h with⟨h1,rfl⟩|⟨hno,R,Q,hE,hbig,rfl⟩
 ·rcases hM with⟨_,rfl⟩|⟨h2,_⟩
  ·exact⟨.inl ⟨rfl,rfl⟩,fun y _=>⟨fun _=>.inl h1,fun _ l hl=>by cases hl⟩⟩
  ·have:=h2 _ (List.mem_singleton.2 rfl);rw[aio]at this;omega
 ·have c0:=akr hE hl;have hrs:=an0 hE hl;generalize (baR R Q (n+1)).map red=E0 at *
  have hne:lf≠[]:=by
   rcases hM with⟨⟨r,hr,h1⟩,_⟩|⟨_,R2,Q2,_,_,_,rfl⟩
   ·exact absurd ((hrs _).1 (ali c0 hr h1)) hno
   ·simp
  obtain⟨_,p,St,hm⟩:=agw c0 hM hne;have hp:Perp (n+1) lf rows:=fun y hy=>by
   rw[hm.perp y hy];constructor
   ·intro h r hr;rw[aax];refine acs (fun x hx=>?_) ((hrs _).2 (.mem (List.mem_map.2 ⟨r,hr,rfl⟩)));obtain⟨e,he,rfl⟩:=List.mem_map.1 hx;rw[aax];exact h e he
   ·intro h e he;rw[aax];refine acs (fun x hx=>?_) ((hrs _).1 (.mem (List.mem_map.2 ⟨e,he,rfl⟩)));obtain⟨r,hr,rfl⟩:=List.mem_map.1 hx;rw[aax];exact h r hr
  have hq:=ava hE hl hm.row hp;refine⟨.inr ⟨c0,hbig,hM,hne,fun y hy=>(hrs y).trans (hq y hy),hm.perp⟩,fun y hy=>?_⟩;constructor
  ·intro hh;exact .inr ((hq y hy).2 hh)
  ·rintro (hh|hh)
   ·exact absurd hh hno
   ·exact(hq y hy).1 hh
end Lm
namespace Lm
open Go Go.RowKit Md
structure BigF (n:Nat) (E0:List (List Int)):Prop where
 can:CnE (n+1) E0
 pt:¬RS (E0.map fnR) (fnR (noneR n))
 why:(∃r∈E0,r.any big=true)\/MirBig n E0
theorem errL{n:Nat}{ls:List (List Int)}(hl:∀z∈ls,z.length=n+1)(h:BErrL n ls):∃E0,BigF n E0/\∀y,Out (n+1) y->(RS (E0.map fnR) y↔(∀z∈ls,fnR z n=0)\/Hld n ls y):=by
 have hcore:∀ {R:List Md.Rw} {Q:List Nat},Ech (n+1) (mir ls) R Q->(∃z∈ls,fnR z n≠0)->((∃r∈elR (n+1) (kerE (n+1) R Q),r.any big=true)\/MirBig n (elR (n+1) (kerE (n+1) R Q)))->∃E0,BigF n E0/\∀y,Out (n+1) y->(RS (E0.map fnR) y↔(∀z∈ls,fnR z n=0)\/Hld n ls y):=by
  rintro R Q hE ⟨z,hz,hz0⟩ hw;obtain⟨k1,k2⟩:=aco hE hl;refine⟨_,⟨ac6 hE,fun hr=>?_,hw⟩,fun y hy=>⟨fun h=>.inr ((k2 y hy).1 h),fun h=>?_⟩⟩
  ·have h1:=(k2 _ (adf n)).1 hr z hz;rw[agx]at h1;exact hz0 h1
  ·rcases h with h|h
   ·exact absurd (h z hz) hz0
   ·exact(k2 y hy).2 h
 rcases h with⟨hz,R,Q,hE,hw⟩|⟨low,h,hne,R2,Q2,hE2,hb⟩
 ·exact hcore hE hz hw
 ·rcases h with⟨_,rfl⟩|⟨⟨z,hz,hz0⟩,R,Q,hE,hbig,hM⟩
  ·exact absurd rfl hne
  ·have c0:=ac6 hE;obtain⟨k1,k2⟩:=aco hE hl;obtain⟨_,p,St,hm⟩:=agw c0 hM hne;obtain⟨j1,j2⟩:=aco hE2 hm.row;have he:=aqs hl c0 k2 hm (ac6 hE2) j2;rw[<-he]at hb;obtain⟨r,hr,h1⟩:=hb;rw[hbig r hr]at h1;cases h1
theorem errE{n:Nat}{rows:List (List Int)}(hl:∀z∈rows,z.length=n+1)(h:BErrE n rows):∃E0,BigF n E0/\∀y,Out (n+1) y->(RS (E0.map fnR) y↔Cls n rows y):=by
 rcases h with⟨hno,R,Q,hE,hb⟩|⟨low,h,hM⟩
 ·have hrs:=an0 hE hl;refine⟨_,⟨akr hE hl,fun h=>hno ((hrs _).1 h),.inl hb⟩,fun y _=>⟨fun h=>.inr ((hrs y).1 h),fun h=>?_⟩⟩;rcases h with h|h
  ·exact absurd h hno
  ·exact(hrs y).2 h
 ·rcases h with⟨h1,rfl⟩|⟨hno,R,Q,hE,hbig,rfl⟩
  ·have:=hM.1 _ (List.mem_singleton.2 rfl);rw[aio]at this;omega
  ·have hrs:=an0 hE hl;refine⟨_,⟨akr hE hl,fun h=>hno ((hrs _).1 h),.inr hM⟩,fun y _=>⟨fun h=>.inr ((hrs y).1 h),fun h=>?_⟩⟩;rcases h with h|h
   ·exact absurd h hno
   ·exact(hrs y).2 h
theorem afa{n:Nat}{E Lf E0:List (List Int)}(h:Kept n E Lf)(hb:BigF n E0)(hs:∀y,Out (n+1) y->(Hld n Lf y↔RS (E0.map fnR) y)):False:=by
 rcases h with⟨rfl,rfl⟩|h
 ·exact hb.pt ((hs _ (adf n)).1 (fun l hl=>by cases hl))
 ·have he:E=E0:=by
   refine ad0 h.can hb.can (fun a ha=>?_) (fun a ha=>?_)
   ·have ho:=aar (h.can.row a ha);exact(hs _ ho).1 ((h.eqs _ ho).1 (.mem (List.mem_map.2 ⟨a,ha,rfl⟩)))
   ·have ho:=aar (hb.can.row a ha);exact(h.eqs _ ho).2 ((hs _ ho).2 (.mem (List.mem_map.2 ⟨a,ha,rfl⟩)))
  subst he;rcases hb.why with⟨r,hr,h1⟩|⟨h1,R,Q,hR,hw⟩
  ·rw[h.small r hr]at h1;cases h1
  ·rcases h.mir with⟨⟨r,hr,h2⟩,_⟩|⟨_,R',Q',hR',hb2,hf,_⟩
   ·have:=h1 r hr;omega
   ·rw[an1 hR hR' (akt h.can.row)]at hw;rcases hw with⟨r,hr,h2⟩|⟨q,hq,h2⟩
    ·rw[hb2 r hr]at h2;cases h2
    ·rw[(agr q).2 (hf q hq)]at h2;cases h2
theorem Mirs.ind{n:Nat}{E Lf:List (List Int)}{p:List Rat}{St:List (List Int)}(h:Mirs n E Lf p St):Ind (Lf.map fnR):=by
 have hz:(zro St).map fnR=St.map fnR:=by
  unfold zro;rw[List.map_map];exact List.map_congr_left fun s hs=>af1 (h.can.row s hs)
 rw[h.lf,List.map_cons,hz];refine⟨fun hr=>?_,h.can.ind⟩;obtain⟨a,ha,hs⟩:=hr;have h1:=ahf hs (c:=n) (fun x hx=>by
  obtain⟨s,hs,rfl⟩:=List.mem_map.1 hx
  exact aar (h.can.row s hs) n (Nat.le_refl n))
 rcases Int.mul_eq_zero.1 h1 with h2|h2
 ·exact ha h2
 ·exact h.base.2 h2
theorem Kept.ind{n:Nat}{E Lf:List (List Int)}(h:Kept n E Lf):Ind (Lf.map fnR):=by
 rcases h with⟨rfl,_⟩|h
 ·exact trivial
 ·obtain⟨_,p,St,hm⟩:=h.mirs;exact hm.ind
end Lm
namespace Lm
open Go Go.RowKit Md
theorem aqt{N:Nat}{r:List Int}{p:Nat}(hp:p<N)(hl:Lead r p)(hn:r.length=N)(hr:red r=r):CnE N [r]:=by
 refine⟨[(p,fnR r)],⟨List.pairwise_singleton ..,fun e he=>?_,fun e he f hf hne=>?_,fun e he k hk=>?_⟩,fun e he=>?_,fun e he c hc=>?_,?_⟩
 ·obtain rfl:=List.mem_singleton.1 he;exact hl.1
 ·obtain rfl:=List.mem_singleton.1 he;obtain rfl:=List.mem_singleton.1 hf;exact absurd rfl hne
 ·obtain rfl:=List.mem_singleton.1 he;exact hl.2 k hk
 ·obtain rfl:=List.mem_singleton.1 he;exact hp
 ·obtain rfl:=List.mem_singleton.1 he;exact aar hn c hc
 ·show [r] = [red (gRow (fnR r) N)];rw[ayl hn,hr]
def awP:List (List Rat):=[[0,0],[1,2],[2,4]]
theorem agy:awP.map liftZ = [[0,0,-1],[1,2,-1],[2,4,-1]]:=by decide +kernel
theorem avz:Lead [2,-1,0] 0:=⟨by decide,fun k hk=>by omega⟩
theorem a2y:Lead [1,2] 0:=⟨by decide,fun k hk=>by omega⟩
theorem a2z:Lead [1,2,0] 0:=⟨by decide,fun k hk=>by omega⟩
theorem a3t:CnE 3 [[2,-1,0]]:=aqt (by decide) avz rfl (by decide +kernel)
theorem a3u:CnE 2 [[1,2]]:=aqt (by decide) a2y rfl (by decide +kernel)
theorem dot3(x y:Md.Rw):dotN 3 x y=x 0*y 0+x 1*y 1+x 2*y 2:=by
 rw[abw,abw,abw];simp[dotN,sumL]
theorem dot2(x y:Md.Rw):dotN 2 x y=x 0*y 0+x 1*y 1:=by
 rw[abw,abw];simp[dotN,sumL]
theorem av0{E0:List (List Int)}(hc:CnE 3 E0)(h:∀y,Out 3 y->(RS (E0.map fnR) y↔Hld 2 (awP.map liftZ) y)):E0 = [[2,-1,0]]:=by
 rw[agy]at h;refine ad0 hc a3t (fun a ha=>?_) (fun b hb=>?_)
 ·have ho:=aar (hc.row a ha);have h1:=(h _ ho).1 (.mem (List.mem_map.2 ⟨a,ha,rfl⟩));have g0:=h1 [0,0,-1] (by simp);have g1:=h1 [1,2,-1] (by simp);rw[dot3]at g0 g1;have e0:fnR a 0*0+fnR a 1*0+fnR a 2*-1=0:=g0;have e1:fnR a 0*1+fnR a 1*2+fnR a 2*-1=0:=g1;refine(RS.mem (x:=fnR [2,-1,0]) (by simp)).smul (-(fnR a 1)) (fun k=>?_)
  match k with
  |0=>show fnR a 0 = -(fnR a 1)*2;omega
  |1=>show fnR a 1 = -(fnR a 1)*-1;omega
  |2=>show fnR a 2 = -(fnR a 1)*0;omega
  |k+3=>
   rw[ho (k+3) (by omega),ab8 (zs:=[2,-1,0]) (by simp)];omega
 ·obtain rfl:=List.mem_singleton.1 hb;refine(h _ (aar rfl)).2 (fun l hl=>?_);rw[dot3];simp only[List.mem_cons,List.not_mem_nil,or_false]at hl;rcases hl with rfl|rfl|rfl <;> decide
theorem an2{St:List (List Int)}(hc:CnE 2 St)(h:Perp 2 St (fac 2 [[2,-1,0]])):St = [[1,2]]:=by
 refine ad0 hc a3u (fun a ha=>?_) (fun b hb=>?_)
 ·have ho:=aar (hc.row a ha);have h1:=(h _ ho).1 (.mem (List.mem_map.2 ⟨a,ha,rfl⟩)) [2,-1] (by simp[fac]);rw[dot2]at h1;have e1:fnR a 0*2+fnR a 1*-1=0:=h1;refine(RS.mem (x:=fnR [1,2]) (by simp)).smul (fnR a 0) (fun k=>?_)
  match k with
  |0=>show fnR a 0=fnR a 0*1;omega
  |1=>show fnR a 1=fnR a 0*2;omega
  |k+2=>
   rw[ho (k+2) (by omega),ab8 (zs:=[1,2]) (by simp)];omega
 ·obtain rfl:=List.mem_singleton.1 hb;refine(h _ (aar rfl)).2 (fun l hl=>?_);have hl:l = [2,-1]:=by simpa[fac]using hl
  subst hl;rw[dot2];decide
theorem asj:¬∀z∈awP.map liftZ,fnR z 2=0:=by
 rw[agy];intro h;have:=h [0,0,-1] (by simp);exact absurd this (by decide)
theorem an3:∀z∈awP.map liftZ,z.length=3:=by
 rw[agy];decide
theorem a20(h:BErrL 2 (awP.map liftZ)):False:=by
 obtain⟨E0,hb,hr⟩:=errL an3 h;have he:=av0 hb.can (fun y hy=>(hr y hy).trans ⟨fun h=>h.resolve_left asj,.inr⟩);subst he;rcases hb.why with⟨r,hr,h1⟩|⟨_,R,Q,hR,hw⟩
 ·obtain rfl:=List.mem_singleton.1 hr
  revert h1;decide +kernel
 ·have hs:=an2 (ac6 hR) (aco hR (akt (E:=[[2,-1,0]]) (by decide))).2;rw[hs]at hw;rcases hw with⟨r,hr,h1⟩|⟨q,hq,h1⟩
  ·obtain rfl:=List.mem_singleton.1 hr
   revert h1;decide +kernel
  ·have e:mPt 2 [[2,-1,0]] [[1,2]] = [0,0]:=by
    unfold mPt ptQ;simp only[List.foldl_cons,List.foldl_nil,zro,List.map_cons,List.map_nil,basZ,avz.n,List.cons_append,List.nil_append,a2z.n];decide +kernel
   rw[e]at hq;simp only[List.mem_cons,List.not_mem_nil,or_false,or_self]at hq;subst hq
   revert h1;decide +kernel
theorem a1i{E Lf:List (List Int)}(hl:LowR 2 (awP.map liftZ) Lf)(ht:TwiR 2 Lf E):E = [[2,-1,0]]/\stepsOf 2 Lf = [[1,2]]/\Lf.length=2:=by
 obtain⟨hk,_,hh⟩:=afk an3 hl ht;rcases hk with⟨rfl,_⟩|hk
 ·have h1:=(hh _ (adf 2)).1 (fun l hl=>by cases hl);rcases h1 with h1|h1
  ·exact absurd h1 asj
  ·rw[agy]at h1;have h2:=h1 [0,0,-1] (by simp);rw[agx]at h2;exact absurd h2 (by decide)
 ·have he:=av0 hk.can (fun y hy=>(hk.eqs y hy).trans ((hh y hy).trans ⟨fun h=>h.resolve_left asj,.inr⟩));subst he;obtain⟨_,p,St,hm⟩:=hk.mirs;have hs:=an2 hm.can hm.snd;subst hs;rw[hm.lf];exact⟨rfl,rfl,rfl⟩
end Lm
namespace Lm
open Go Go.RowKit Md
theorem trimF(w:World)(x:Int)(vx:Value)(L:Nat)(hx:IsW x L vx w)(hL:L<=400000000):
  Calls Tryz.prog 57 #[vx] w fun e w'=>∃v,e=.returned v/\FrW w.heap.size x L v w'/\Below w.heap.size w w':=by
 obtain⟨n1,a1,m1,c1,xs,rfl,A1,l1⟩:=hx;refine(az7 w n1 a1 m1 c1 xs A1.sl (by omega)).mono ?_;rintro e w' ⟨ng,ao,cap,rs,rfl,hw,hl,hli,hb⟩;rw[A1.worth]at hw;exact⟨_,rfl,FrW.of_li hw hli (Nat.le_refl _) (by omega),hb⟩
theorem aip(w:World)(v:Value)(zs:List Int)(L n:Nat)(h:IsRow w v zs L)(hln:zs.length=n)(hn:n<=100000)(hL:L<=20000000):
  Calls Tryz.prog 44 #[v] w fun e w'=>∃r,e=.returned r/\ORow w.heap.size w' r zs L/\Below w.heap.size w w':=by
 have hzb:=abk h;obtain⟨al,cl,rfl,_⟩:=h.parts;rw[hln]at h ⊢;have HL:=hide h;have HLN:=hide hln;obtain⟨iW,hi,hz0,hz1,hz2⟩:=info_parts infoWz;clear h hln hzb;go_enter Tryz.func44,Tryz.ntmps44
 go_wp2_with (refine wpList_make_full _ rfl (.tmp 7) (.tmp 7) 39 rfl w.heap.size 45 iW (.agg #[.bool false,.slice none 0 0]) 2 Tryz.underlying39 hi hz0 hz1 .i64 .i64 _ _ n rfl rfl (by omega) (by omega) (by rw[hz2];omega) (by unfold maxLen;omega) (Nat.le_refl _) ?hK)
 case hK=>
  intro w2 hown hgrow;have hb2:Below w.heap.size w w2:=(Below.refl _ _).grown hgrow (Nat.le_refl _) (by simp);obtain⟨_,hmb⟩:=ac3 hown;rw[ads]at hmb;obtain⟨bv,hbv⟩:∃bv,w.heap.size=bv:=⟨_,rfl⟩;rw[hbv]at hmb;have HBV:Hid (w.heap.size<=bv):=(show _<=_ by omega);have HP0:=hide (PRow.start (K:=w.heap.size) (zs:=zs) (L:=L) hmb);have HB:=hide hb2;clear hown hgrow hmb hb2;rw[hbv];go_wp2;go_loopw [11] (fun iv wr=>∃(k:Nat),iv=.int .i64 k/\k<=n/\Below w.heap.size w wr/\PRow w.heap.size wr bv n k zs L) (fun iv _=>n-(intOf iv).toNat)
  case atStart=>exact⟨0,rfl,Nat.zero_le _,HB.out,HP0.out⟩
  case round=>
   obtain⟨k,rfl,hk,hbw,hpr⟩:=hrel;by_cases hlt:k<n
   ·have hlt':(k:Int)<(n:Int):=by omega
    obtain⟨zk,hzk⟩:∃z,zs[k]? = some z:=⟨_,List.getElem?_eq_getElem (by have:=HLN.out;omega)⟩;obtain⟨bl,ol,ng1,a1,m1,c1,rfl,hll,x0,x1,hx⟩:=HL.out.cell (k:=k) (z:=zk) hzk;have HZK:=hide hzk;have x0':=(hbw.cell (p:=⟨bl,ol+k*2,none⟩) hll).trans x0;have x1':=(hbw.cell (p:=⟨bl,ol+k*2+1,none⟩) hll).trans x1;have hA:=hAl wr (.cells #[.bool ng1,.slice a1 m1 c1] 45);have hall:=hbw.trans (hA.mono hbw.size);have K1:=hide (trimF (wr.alloc (.cells #[.bool ng1,.slice a1 m1 c1] 45)) zk _ L (hx.ru (Ru.of_below hall)) (by omega));have HW:=hide hall;have HPR:=hide (hpr.below hA);clear hbw hpr hx hzk x0 x1 hA hall;go_wp2_with fail
    refine K1.out.mono ?_;rintro e w3 ⟨vt,rfl,hT,hb3⟩;obtain⟨ng5,a5,m5,c5,rfl⟩:=hT.agg;obtain⟨⟨ngp,ap,mp,cp',e0,e1⟩,pf0,pf1⟩:=(HPR.out.below hb3).cells hlt;obtain⟨t1,t2⟩:=HPR.out.put (Nat.le_refl _) hb3 hlt HZK.out HW.out.size hT;have HT1:=hide t1;have HT2:=hide (HW.out.trans (t2.below HW.out.size HBV.out HBV.out));clear t1 t2 hT hb3 K1 x0' x1';go_wp2;go_roundw
    case rel=>exact⟨k+1,by go_num,by omega,HT2.out,HT1.out⟩
    case measure=>simp[intOf];omega
   ·have hlt':decide ((k:Int)<(n:Int))=false:=by simp;omega
    obtain rfl:n=k:=by omega
    have HW:=hide hbw;have HPR:=hide hpr;clear hbw hpr;go_wp2;refine bodyPost_ret (v:=_) (by simp[results,Tryz.results44,go_sem];try rfl) rfl ⟨_,rfl,⟨_,by rw[HLN.out],HBV.out,by rw[HLN.out];exact HPR.out,by rw[HLN.out];omega⟩,HW.out⟩
def GrC(K:Nat)(zs:List Int)(L:Nat):Says:=fun v w=>∃es,RwO K w v es/\es.length=zs.length/\∀(k:Nat) (e:WE) (z:Int),es[k]? = some e->zs[k]? = some z->Canon e.zs/\val e.zs=(z.natAbs:Int)/\e.ng=decide (z<0)/\e.zs.length<=L
theorem ORow.grc{K:Nat}{w:World}{v:Value}{zs:List Int}{L:Nat}(h:ORow K w v zs L):GrC 0 zs L v w:=by
 obtain⟨bv,rfl,hK,⟨es,B,T,e1,e2,e3,e4,e5⟩,hl⟩:=h;refine⟨es,⟨⟨aa0 es,.inr ⟨bv,zs.length,_,by rw[e1],Nat.zero_le _,e2,by omega,by unfold maxLen;omega,?_,?_⟩⟩,fun e he=>?_⟩,e1,fun k e z hk hz=>?_⟩
 ·simp[aa0,e1]
 ·rw[<-aa0];simp
 ·obtain⟨k,hk⟩:=List.mem_iff_getElem?.1 he;have hkl:=(List.getElem?_eq_some_iff.1 hk).1;obtain⟨z,hz⟩:∃z,zs[k]? = some z:=⟨_,List.getElem?_eq_getElem (by omega)⟩;obtain⟨g1,g2,_,g4,_⟩:=e4 k e z (by omega) hk hz;have:=g1.fr.ow.mono (Nat.zero_le _);rwa[<-g2]at this
 ·have hkl:=(List.getElem?_eq_some_iff.1 hk).1;obtain⟨g1,g2,g3,_⟩:=e4 k e z (by omega) hk hz;exact⟨g1.fr.canon,g1.fr.val,g1.sgn,g3⟩
theorem GrC.mono(K:Nat)(zs:List Int)(L:Nat):Mono (GrC K zs L):=fun _ _ _ hb ⟨es,h1,h2⟩=>⟨es,h1.below hb,h2⟩
theorem GrC.can{K:Nat}{zs:List Int}{L:Nat}{v:Value}{w:World}(h:GrC K zs L v w):CanRow w v zs L:=by
 obtain⟨es,h1,h2⟩:=h;exact⟨es,h1.rw,h2⟩
theorem GrC.keep{K K' L:Nat}{z:List Int}{u v:Value}{w w':World}{n:Nat}{xs:List Value}(h:GrC K' z L u w)(hv:w.ownsRow K 39 1 v n xs)(hg:w.grownBy w' v.ownBlock):GrC K' z L u w':=by
 obtain⟨es,h1,h2⟩:=h;obtain⟨c,hc⟩:=ajy hv;refine⟨es,h1.keep hg hc (by decide) (fun g hg1 hg2=>?_),h2⟩;obtain⟨c',hc'⟩:=h1.row;exact aaz (hc g hg1) (hc' g hg2) (by decide) rfl
def LsC(w0 wr:World)(v:Value)(k:Nat)(rows:List (List Int))(L:Nat):Prop:=Below w0.heap.size w0 wr/\rows.length=k/\∃vs:List Value,wr.ownsRow w0.heap.size 39 1 v k vs/\∀(i:Nat) (u:Value) (z:List Int),vs[i]? = some u->rows[i]? = some z->GrC 0 z L u wr
theorem LsC.below{w0 wr w':World}{v:Value}{k:Nat}{rows:List (List Int)}{L:Nat}(h:LsC w0 wr v k rows L)(hb:Below wr.heap.size wr w'):LsC w0 w' v k rows L:=by
 obtain⟨h1,h2,vs,h3,h4⟩:=h;exact⟨h1.trans (hb.mono h1.size),h2,vs,acc h3 hb,fun i u z a b=>GrC.mono _ _ _ _ _ _ hb (h4 i u z a b)⟩
theorem LsC.canM{w0 wr:World}{v:Value}{k:Nat}{rows:List (List Int)}{L:Nat}(h:LsC w0 wr v k rows L):CanM wr v rows L:=by
 obtain⟨h1,h2,vs,h3,h4⟩:=h;exact⟨vs,by rw[h2];exact Ce.own h3,fun i u z a b=>(h4 i u z a b).can⟩
section
variable {dst:Option Tmp} {ty:TypeId} {pos:String} {after:Array Edge} {guard:Option (Nat×Bool)} {a:Act} {w:World} {i j:Nat}
theorem aqu{g k L:Nat}{w0:World}{lw u:Value}{rows:List (List Int)}{z:List Int}{au:Option Addr}{nu cu:Nat}(h1:a.eval (.tmp i)=lw)(hS:LsC w0 w lw k rows L)(h2:a.eval (.tmp j)=.slice (some ⟨g,0,none⟩) 1 1)(hg:w.heap[g]? = some (.cells #[u] 39 (0,0)))(hu:GrC 0 z L u w)(hus:u=.slice au nu cu)(hk:k<=1000):
  Does Tryz.prog {dst,op:=.call {callee:=.builtin .append,args:=#[.tmp i,.tmp j],argTypes:=#[23,23]},type:=ty,pos,after,guard} a.eval w fun v' w'=>LsC w0 w' v' (k+1) (rows ++ [z]) L:=by
 obtain⟨i0,hi,hz0,hz1,hz2⟩:=info_parts ae6;have hnew:∀k x,[u][k]? = some x->w.cell? ((⟨g,0,none⟩:Addr).add k)=some x:=fun k x hx=>by
  have hc:∀k,w.cell? ⟨g,k,none⟩ = #[u][k]? :=fun k=>cell_of_row w g k _ _ (0,0) hg
  have ha:(⟨g,0,none⟩:Addr).add k=⟨g,k,none⟩:=by unfold Addr.add;split <;> simp_all
  rw[ha,hc];simpa using hx
 have h1u:∀x ∈ [u],x.oneCell'=true:=fun x hx=>by
  obtain rfl:=List.mem_singleton.1 hx;subst hus;rfl
 obtain⟨hb,hl,vs,hown,hrows⟩:=hS;have hvl:vs.length=k:=by have:=hown.1;simp at this;omega
 obtain⟨v',w',hr,ho,hgr,_⟩:=run_append_own (P:=Tryz.prog) w w0.heap.size 23 ty 39 i0 _ 1 24 Tryz.underlying23 hi hz0 hz1 hz2 rfl (by decide) _ k _ hown ⟨g,0,none⟩ 1 1 [u] rfl hnew h1u (by simp[maxLen];omega) (by omega) hb.size;have e:(execOp a.eval {dst,op:=.call {callee:=.builtin .append,args:=#[.tmp i,.tmp j],argTypes:=#[23,23]},type:=ty,pos,after,guard}).run Tryz.prog w=.ok (.value v') w':=by
  simp only[execOp,resolve,invoke,builtin,Sem.run_bind,Sem.run_pure,Result.andThen_ok,List.map_toArray,List.map_cons,List.map_nil,h1,h2,hr]
 refine⟨?_⟩;unfold Turns;rw[e];refine⟨hb.grown hgr hb.size (fun q hq=>?_),by simp[hl],vs ++ [u],ho,fun i x y hx hy=>?_⟩
 ·rcases hown.2 with⟨rfl,_⟩|⟨g',cap,cur,rfl,hg',_⟩
  ·simp[Value.ownBlock]at hq
  ·simp only[Value.ownBlock,Option.some.injEq]at hq;omega
 ·by_cases hi:i<k
  ·rw[List.getElem?_append_left (by omega)]at hx hy;exact(hrows i x y hx hy).keep hown hgr
  ·rw[List.getElem?_append_right (by omega)]at hx hy;rw[hvl]at hx;rw[hl]at hy
   match hm:i-k with
   |0=>
    rw[hm]at hx hy;simp at hx hy;subst hx hy;exact hu.keep hown hgr
   |m+1=>
    rw[hm]at hx;simp at hx
end
end Lm
namespace Lm
open Go Go.RowKit Md
theorem alu(w:World)(g n:Nat)(se sl:Value)(eqs:List (List Int))(L:Nat)(hS:SpanEL w g n se sl)(hE:IsM w se eqs L)(hel:∀r∈eqs,r.length=n+1)(hn:n<=16)(hm:eqs.length<=100)(hL:L<=1000):
  Calls Tryz.prog 10 #[.pointer (some ⟨g,0,none⟩)] w fun e w'=>∃v,e=.returned v/\CanM w' v eqs L/\Below w.heap.size w w':=by
 have K1:=hide (ae9 hS);have HE:=hide hE;have HEL:=hide hel;obtain⟨ae,ce,rfl,_⟩:=hE.parts;obtain⟨m,hmm⟩:∃m,eqs.length=m:=⟨_,rfl⟩;rw[hmm]at HE hm K1;have HM:=hide hmm;clear hS hE hel hmm;go_enter Tryz.func10,Tryz.ntmps10
 go_wp2_with fail
 refine K1.out.mono ?_;rintro e w1 ⟨rfl,hb1⟩;have HB1:=hide hb1;clear hb1 K1;go_wp2;go_loopw [3,9] (fun lw iv wr=>∃(k:Nat),iv=.int .i64 k/\k<=m/\LsC w wr lw k (eqs.take k) L) (fun _ iv _=>m-(intOf iv).toNat)
 case atStart=>exact⟨0,rfl,Nat.zero_le _,HB1.out,rfl,[],World.ownsRow_nil _ _ _ _,fun i u z hu=>by simp at hu⟩
 case round=>
  obtain⟨k,rfl,hk,hst⟩:=hrel;by_cases hlt:k<m
  ·have hlt':(k:Int)<(m:Int):=by omega
   obtain⟨z,hz⟩:∃z,eqs[k]? = some z:=⟨_,List.getElem?_eq_getElem (by have:=HM.out;omega)⟩;obtain⟨b,off,u,rfl,hbl,hu,hur⟩:=(HE.out.below hst.1).cell hz;have hzl:=HEL.out z (List.mem_of_getElem? hz);have K:=hide (aip wr u z L (n+1) hur hzl (by omega) (by omega));obtain⟨au,cu,rfl,_⟩:=hur.parts;have HST:=hide hst;have HGZ:Hid (eqs.take (k+1)=eqs.take k ++ [z]):=(show _=_ by rw[List.take_add_one,hz];simp);have HZL:=hide hzl;clear hst hur hz hzl;go_wp2_with fail
   refine K.out.mono ?_;rintro e w3 ⟨r,rfl,hor,hb3⟩;have hst3:=HST.out.below hb3;have hgs:=hor.grc;obtain⟨bv,rfl,_⟩:=hor;rw[HZL.out]at hgs;have hA3:=hAl w3 (.cells #[.slice (some ⟨bv,0,none⟩) (n+1) (n+1)] 39);have hn3:=heap_alloc_new w3 (.cells #[.slice (some ⟨bv,0,none⟩) (n+1) (n+1)] 39);have hst4:=hst3.below hA3;have hgs4:=GrC.mono _ _ _ _ _ _ hA3 hgs;clear hst3 hgs hA3 hb3 K;rw[HZL.out];go_wp2_with (at_builtin;refine abz rfl (aqu (i:=13) (j:=16) rfl hst4 rfl hn3 hgs4 rfl (by omega)) ?_)
   intro v2 w4 hst5;have HS5:=hide hst5;clear hst4 hn3 hgs4 hst5;go_wp2;go_roundw
   case rel=>exact⟨k+1,by go_num,by omega,by rw[HGZ.out];exact HS5.out⟩
   case measure=>simp[intOf];omega
  ·have hlt':decide ((k:Int)<(m:Int))=false:=by simp;omega
   obtain rfl:m=k:=by omega
   rw[List.take_of_length_le (by have:=HM.out;omega)]at hst;have HC:=hide hst.canM;have HW:=hide hst.1;obtain⟨ao,cp,rfl,_⟩:=HC.out.parts;clear hst;go_wp2;refine bodyPost_ret (v:=_) (by simp[results,Tryz.results10,go_sem];try rfl) rfl ⟨_,rfl,HC.out,HW.out⟩
theorem asl(w:World)(g n:Nat)(se sl:Value)(low:List (List Int))(L:Nat)(hS:SpanEL w g n se sl)(hE:IsM w sl low L)(hel:∀r∈low,r.length=n+1)(hn:n<=16)(hm:low.length<=100)(hL:L<=1000):
  Calls Tryz.prog 15 #[.pointer (some ⟨g,0,none⟩)] w fun e w'=>∃v,e=.returned v/\CanM w' v (stepsOf n low) L/\Below w.heap.size w w':=by
 have K1:=hide (aep hS);have HE:=hide hE;have HEL:=hide hel;have HS:=hide hS;obtain⟨ae,ce,rfl,_⟩:=hE.parts;obtain⟨m,hmm⟩:∃m,low.length=m:=⟨_,rfl⟩;rw[hmm]at HE hm K1;have HM:=hide hmm;obtain⟨hgl,c0⟩:=hS.num;have HC0:=hide c0;clear hS hE hel hmm c0;go_enter Tryz.func15,Tryz.ntmps15
 go_wp2_with fail
 refine K1.out.mono ?_;rintro e w1 ⟨rfl,hb1⟩;have HB1:=hide hb1;clear hb1 K1;go_wp2;go_loopw [3,9] (fun lw iv wr=>∃(k:Nat),iv=.int .i64 k/\k<=m/\LsC w wr lw (k-1) (stepsOf n (low.take k)) L) (fun _ iv _=>m-(intOf iv).toNat)
 case atStart=>exact⟨0,rfl,Nat.zero_le _,HB1.out,rfl,[],World.ownsRow_nil _ _ _ _,fun i u z hu=>by simp at hu⟩
 case round=>
  obtain⟨k,rfl,hk,hst⟩:=hrel;by_cases hlt:k<m
  ·have hlt':(k:Int)<(m:Int):=by omega
   obtain⟨z,hz⟩:∃z,low[k]? = some z:=⟨_,List.getElem?_eq_getElem (by have:=HM.out;omega)⟩;obtain⟨b,off,u,rfl,hbl,hu,hur⟩:=(HE.out.below hst.1).cell hz;have hzl:=HEL.out z (List.mem_of_getElem? hz);have c0:wr.cell? ⟨g,0,none⟩=some (.int .i64 (n:Int)):=(hst.1.cell (p:=⟨g,0,none⟩) hgl).trans HC0.out;have hglr:g<wr.heap.size:=Nat.lt_of_lt_of_le hgl hst.1.size;obtain⟨au,cu,rfl,hzc⟩:=hur.parts;obtain⟨hcap,hcm⟩:=hur.cap;rw[hzl]at hur hcap hu;have hpre:=hur.pre (n:=n) (by omega);have HST:=hide hst;by_cases hk0:k=0
   ·subst hk0;rw[Nat.add_zero]at hu;clear hst hur hz hzl hpre;go_wp2;go_roundw
    case rel=>exact⟨1,by go_num,by omega,by
     have h1:=HST.out;have e:stepsOf n (low.take 1)=stepsOf n (low.take 0):=by
      unfold stepsOf;cases low <;> rfl
     rw[e]
     exact h1⟩
    case measure=>simp[intOf];omega
   ·have K:=hide (aip wr (.slice au n cu) (z.take n) L n hpre (by rw[List.length_take];omega) (by omega) (by omega));have HGZ:Hid (stepsOf n (low.take (k+1))=stepsOf n (low.take k) ++ [z.take n]):=(show _=_ by
     unfold stepsOf;rw[List.take_add_one,hz];rw[List.drop_append_of_le_length (by rw[List.length_take];have:=HM.out;omega)]
     simp)
    have HZL:Hid ((z.take n).length=n):=(show _=_ by rw[List.length_take];omega);have hk0':(k:Int) > 0:=by omega
    have HK1:Hid (k-1+1=k):=(show k-1+1=k by omega);obtain⟨k1,hk1⟩:∃k1,k-1=k1:=⟨_,rfl⟩;rw[hk1]at HST HK1;have hk1le:k1<=100:=by omega
    clear hst hur hz hzl hpre hk1;go_wp2_with fail
    refine K.out.mono ?_;rintro e w3 ⟨r,rfl,hor,hb3⟩;have hst3:=HST.out.below hb3;have hgs:=hor.grc;obtain⟨bv,rfl,_⟩:=hor;rw[HZL.out]at hgs;have hA3:=hAl w3 (.cells #[.slice (some ⟨bv,0,none⟩) n n] 39);have hn3:=heap_alloc_new w3 (.cells #[.slice (some ⟨bv,0,none⟩) n n] 39);have hst4:=hst3.below hA3;have hgs4:=GrC.mono _ _ _ _ _ _ hA3 hgs;clear hst3 hgs hA3 hb3 K c0;rw[HZL.out];go_wp2_with (at_builtin;refine abz rfl (aqu (i:=16) (j:=24) rfl hst4 rfl hn3 hgs4 rfl (by omega)) ?_)
    intro v2 w4 hst5;rw[HK1.out]at hst5;have HS5:=hide hst5;clear hst4 hn3 hgs4 hst5;go_wp2;go_roundw
    case rel=>exact⟨k+1,by go_num,by omega,by rw[HGZ.out];exact HS5.out⟩
    case measure=>simp[intOf];omega
  ·have hlt':decide ((k:Int)<(m:Int))=false:=by simp;omega
   obtain rfl:m=k:=by omega
   rw[List.take_of_length_le (by have:=HM.out;omega)]at hst;have HC:=hide hst.canM;have HW:=hide hst.1;obtain⟨ao,cp,rfl,_⟩:=HC.out.parts;clear hst;go_wp2;refine bodyPost_ret (v:=_) (by simp[results,Tryz.results15,go_sem];try rfl) rfl ⟨_,rfl,HC.out,HW.out⟩
end Lm
namespace Lm
open Go Go.RowKit
structure FQ where
 r:FE
 zs:List Int
 ys:List Int
def FQ.p(e:FQ):Int:=sg e.r.ng (val e.zs)
def FQ.q(e:FQ):Int:=val e.ys
def FQ.w(e:FQ):Rat:=Rat.divInt e.p e.q
structure Rfq (w:World) (v:Value) (es:List FQ):Prop where
 ce:Ce w v 3 es.length (f3 (es.map FQ.r))
 s1:∀e∈es,Sl w (.slice e.r.a e.r.m e.r.c) e.zs
 s2:∀e∈es,Sl w (.slice e.r.d e.r.k e.r.e) e.ys
theorem Rfq.below{w w':World}{v:Value}{es:List FQ}(h:Rfq w v es)(hb:Below w.heap.size w w'):Rfq w' v es:=⟨h.ce.below hb,fun e he=>(h.s1 e he).below hb,fun e he=>(h.s2 e he).below hb⟩
theorem Rfq.isq{w:World}{v:Value}{es:List FQ}(h:Rfq w v es){L:Nat}(hl:∀e∈es,e.zs.length<=L/\e.ys.length<=L):IsQs w v (es.map FQ.w) L:=by
 refine⟨es.map FQ.r,by simpa using h.ce,by simp,fun k e r he hr=>?_⟩;simp only[List.getElem?_map,Option.map_eq_some_iff]at he hr;obtain⟨x,hx,rfl⟩:=he;obtain⟨y,hy,rfl⟩:=hr;obtain rfl:x=y:=by rw[hx]at hy;exact Option.some.inj hy
 have hm:=List.mem_of_getElem? hx;exact⟨x.p,x.q,⟨_,_,_,_,x.zs,_,_,_,x.ys,rfl,⟨h.s1 x hm,rfl⟩,h.s2 x hm,rfl,(hl x hm).1,(hl x hm).2⟩,rfl⟩
def lenFQ:List FQ->Nat
 | []=>0
 |e::es=>1+e.r.m+e.r.k+lenFQ es
theorem ahq(es fs:List FQ):lenFQ (es++fs)=lenFQ es+lenFQ fs:=by
 induction es with
 |nil=>simp[lenFQ]
 |cons e es ih=>simp only[List.cons_append,lenFQ,ih];omega
theorem av1{es:List FQ}{e:FQ}(h:e∈es):1+e.r.m+e.r.k<=lenFQ es:=by
 induction es with
 |nil=>cases h
 |cons x es ih=>
  rcases List.mem_cons.1 h with rfl|h
  ·simp only[lenFQ];omega
  ·have:=ih h;simp only[lenFQ];omega
open Go.ChangeShapes Go.WideShapes Go.ChangeAt Go.Deep
instance:Inhabited FQ:=⟨⟨⟨false,none,0,0,none,0,0⟩,[],[]⟩⟩
theorem aiq{H:Type}{enc:TypeId×Value->H}{w:World}{fuel:Nat}{v:Value}{x:DataW H×List MemPlace}(h:DataW.trod enc Tryz.prog w 0 (fun _=>true) true fuel 43 [v]=some x):∃a l c zs,v=.slice a l c/\Sl w v zs/\l+1<=Rows.uptoBulk x.1:=by
 rcases open_ints Tryz.underlying43 Tryz.underlying86 (by kernel_rfl) h with⟨hcs,hx⟩|⟨a,l,c,zs,hcs,_,hl,hm,hz,hx,hcell,hwz⟩
 ·obtain rfl:v=.slice none 0 0:=by simpa using hcs
  exact⟨none,0,0,[],rfl,⟨none,0,rfl,Nat.le_refl _,by simp[maxLen],aaj,.inl rfl⟩,by rw[hx];simp[Rows.uptoBulk]⟩
 ·obtain rfl:v=.slice (some a) l c:=by simpa using hcs
  have hz':zs.length=c:=by simpa using hz
  refine⟨some a,l,c,zs.take l,rfl,ap6 hl hm hz' hcell hwz,?_⟩;have hd:x.1=.slice (lits .u32 (zs.take l)) (lits .u32 (zs.drop l)):=congrArg Prod.fst hx;have hll:(zs.take l).length=l:=by rw[List.length_take];omega
  simp only[Rows.uptoBulk,hd,ak7,hll];omega
theorem a21(E:Nat->FQ)(n:Nat):∀j u,(f3 (((List.range n).map E).map FQ.r))[j]? = some u->j/3<n/\u=(if j%3=0 then .bool (E (j/3)).r.ng else if j%3=1 then .slice (E (j/3)).r.a (E (j/3)).r.m (E (j/3)).r.c else .slice (E (j/3)).r.d (E (j/3)).r.k (E (j/3)).r.e):=by
 intro j u hu;have hj:j<(f3 (((List.range n).map E).map FQ.r)).length:=(List.getElem?_eq_some_iff.1 hu).1;rw[aee,List.length_map,List.length_map,List.length_range]at hj;have hk:j/3<n:=by omega
 have he:(((List.range n).map E).map FQ.r)[j/3]? = some (E (j/3)).r:=by simp[hk]
 obtain⟨h1,h2,h3⟩:=ajw he;refine⟨hk,?_⟩;by_cases h0:j%3=0
 ·rw[if_pos h0];rw[show j/3*3=j by omega,hu]at h1;exact Option.some.inj h1
 ·rw[if_neg h0];by_cases h4:j%3=1
  ·rw[if_pos h4];rw[show j/3*3+1=j by omega,hu]at h2;exact Option.some.inj h2
  ·rw[if_neg h4];rw[show j/3*3+2=j by omega,hu]at h3;exact Option.some.inj h3
theorem av2{H:Type}{enc:TypeId×Value->H}{w:World}{fuel:Nat}{ao:Option Addr}{n cap:Nat}{x:DataW H×List MemPlace}(h:DataW.trod enc Tryz.prog w 0 (fun _=>true) true fuel 31 [.slice ao n cap]=some x):
  ∃es,Rfq w (.slice ao n cap) es/\lenFQ es+1<=Rows.uptoBulk x.1:=by
 have kR:Tryz.prog.cellsOf 47=3:=by kernel_rfl
 have kW:Tryz.prog.cellsOf 45=2:=by kernel_rfl
 have kS:Tryz.prog.cellsOf 43=1:=by kernel_rfl
 have kB:Tryz.prog.cellsOf 4=1:=by kernel_rfl
 rcases open_slice Tryz.underlying31 h with⟨hcs,rfl⟩|⟨a,len,cap',m,k,D,Pl,hcs,_,hl,hm,hmm,rfl,hall⟩
 ·obtain⟨rfl,rfl,rfl⟩:ao=none/\n=0/\cap=0:=by simpa using hcs
  exact⟨[],⟨⟨none,0,rfl,Nat.le_refl _,by omega,rfl,.inl rfl⟩,(fun e he=>by cases he),(fun e he=>by cases he)⟩,by simp[lenFQ,Rows.uptoBulk]⟩
 obtain⟨rfl,rfl,rfl⟩:ao=some a/\n=len/\cap=cap':=by simpa using hcs
 simp only[if_true]at hmm;subst hmm;have each:∀i,i<m->∃e:FQ,w.cell? (a.add (i*3))=some (.bool e.r.ng)/\w.cell? (a.add (i*3+1))=some (.slice e.r.a e.r.m e.r.c)/\w.cell? (a.add (i*3+2))=some (.slice e.r.d e.r.k e.r.e)/\Sl w (.slice e.r.a e.r.m e.r.c) e.zs/\Sl w (.slice e.r.d e.r.k e.r.e) e.ys/\1+e.r.m+e.r.k<=Rows.uptoBulk (D i):=by
  intro i hi;obtain⟨cs,h1,h2⟩:=hall i hi;rw[kR]at h1;obtain⟨_,hlen,hcell⟩:=World.cells?_some h1
  match cs,hlen with
  | [c0,c1,c2],_=>
   have e0:=hcell 0 (by omega);have e1:=hcell 1 (by omega);have e2:=hcell 2 (by omega);rw[add_add]at e0 e1 e2;obtain⟨y0,y1,n1,hx,_,t0,t1⟩:=trod_struct2 Tryz.underlying47 h2;obtain⟨z0,z1,n2,hx2,_,s0,s1⟩:=trod_struct2 Tryz.underlying45 t0;have s0':DataW.trod enc Tryz.prog w 0 (fun _=>true) true n2 4 [c0]=some z0:=by simpa[kW,kB]using s0
   have s1':DataW.trod enc Tryz.prog w 0 (fun _=>true) true n2 43 [c1]=some z1:=by simpa[kW,kS]using s1
   have t1':DataW.trod enc Tryz.prog w 0 (fun _=>true) true n1 43 [c2]=some y1:=by simpa[kS]using t1
   have hd:D i=.agg [.agg [z0.1,z1.1],y1.1]:=by
    have h1:=congrArg Prod.fst hx;have h2:=congrArg Prod.fst hx2;simp only at h1 h2;rw[h1,h2]
   clear s0 s1 t1 t0 hx hx2;obtain⟨b,hb0,_⟩:=DataW.trod_bool Tryz.underlying4 s0';obtain rfl:c0=.bool b:=by simpa using hb0
   obtain⟨a1,l1,q1,zs,rfl,hs1,hb1⟩:=aiq s1';obtain⟨a2,l2,q2,ys,rfl,hs2,hb2⟩:=aiq t1';refine⟨⟨⟨b,a1,l1,q1,a2,l2,q2⟩,zs,ys⟩,by simpa using e0,by simpa using e1,by simpa using e2,hs1,hs2,?_⟩;rw[hd];simp only[Rows.uptoBulk,Rows.uptoBulkAll];omega
 obtain⟨E,hE⟩:=choose_lt each;refine⟨(List.range n).map E,⟨⟨some a,m,by rw[List.length_map,List.length_range],by rw[List.length_map,List.length_range];exact hl,by simpa[maxLen]using hm,by rw[aee];simp,?_⟩,fun e he=>?_,fun e he=>?_⟩,?_⟩
 ·by_cases h0:n=0
  ·exact .inl (by rw[List.length_map,List.length_range];exact h0)
  ·obtain⟨b,off,spot⟩:=a;have h1:=(hE 0 (by omega)).1;have hspot:spot=none:=by simpa[Addr.add]using World.cell?_spot h1
   subst hspot;have hadd:∀i,(⟨b,off,none⟩:Addr).add i=⟨b,off+i,none⟩:=fun i=>by
    by_cases hi0:i=0
    ·subst hi0;simp[Addr.add]
    ·simp[Addr.add,hi0]
   refine .inr ⟨b,off,rfl,aa9 (off:=off+0*3) (by rw[<-hadd];exact h1),fun j u hu=>?_⟩;obtain⟨hj,rfl⟩:=a21 E n j u hu;obtain⟨c0,c1,c2,_⟩:=hE (j/3) (by omega);rw[hadd]at c0 c1 c2;by_cases hj0:j%3=0
   ·rw[show off+j/3*3=off+j by omega]at c0;rw[if_pos hj0];exact c0
   ·rw[if_neg hj0];by_cases hj1:j%3=1
    ·rw[show off+(j/3*3+1)=off+j by omega]at c1;rw[if_pos hj1];exact c1
    ·rw[show off+(j/3*3+2)=off+j by omega]at c2;rw[if_neg hj1];exact c2
 ·obtain⟨i,hi,rfl⟩:=List.mem_map.1 he;exact(hE i (by have:=List.mem_range.1 hi;omega)).2.2.2.1
 ·obtain⟨i,hi,rfl⟩:=List.mem_map.1 he;exact(hE i (by have:=List.mem_range.1 hi;omega)).2.2.2.2.1
 ·have key:∀k,k<=n->lenFQ ((List.range k).map E)<=Rows.uptoBulkAll ((List.range k).map D):=by
   intro k hk;induction k with
   |zero=>simp[lenFQ]
   |succ k ih=>
    have h1:=ih (by omega);have h2:=(hE k (by omega)).2.2.2.2.2;rw[List.range_succ,List.map_append,List.map_append,ahq,ad5];simp only[List.map_cons,List.map_nil,lenFQ,Rows.uptoBulkAll]at h1 h2 ⊢;omega
  have:=key n (Nat.le_refl _);simp only[Rows.uptoBulk];omega
def RfM(w:World)(v:Value)(ess:List (List FQ)):Prop:=∃vs:List Value,Ce w v 1 ess.length vs/\∀(i:Nat) (u:Value) (es:List FQ),vs[i]? = some u->ess[i]? = some es->Rfq w u es
def lenFM:List (List FQ)->Nat
 | []=>0
 |es::ess=>1+lenFQ es+lenFM ess
theorem an4(es fs:List (List FQ)):lenFM (es++fs)=lenFM es+lenFM fs:=by
 induction es with
 |nil=>simp[lenFM]
 |cons e es ih=>simp only[List.cons_append,lenFM,ih];omega
theorem alk{es:List (List FQ)}{e:List FQ}(h:e∈es):1+lenFQ e<=lenFM es:=by
 induction es with
 |nil=>cases h
 |cons x es ih=>
  rcases List.mem_cons.1 h with rfl|h
  ·simp only[lenFM];omega
  ·have:=ih h;simp only[lenFM];omega
theorem RfM.below{w w':World}{v:Value}{ess:List (List FQ)}(h:RfM w v ess)(hb:Below w.heap.size w w'):RfM w' v ess:=by
 obtain⟨vs,h1,h2⟩:=h;exact⟨vs,h1.below hb,fun i u z hu hz=>(h2 i u z hu hz).below hb⟩
theorem RfM.parts{w:World}{v:Value}{ess:List (List FQ)}(h:RfM w v ess):∃ao cap,v=.slice ao ess.length cap/\ess.length<=9223372036854775807:=by
 obtain⟨vs,⟨ao,cap,rfl,h1,h2,_⟩,_⟩:=h;exact⟨ao,cap,rfl,by omega⟩
theorem Rfq.fit{w:World}{v:Value}{es:List FQ}(h:Rfq w v es){L:Nat}(hl:lenFQ es<=L):∀e∈es,e.zs.length<=L/\e.ys.length<=L:=fun e he=>by
 have h1:=av1 he;obtain⟨_,_,g1,_⟩:=h.s1 e he;obtain⟨_,_,g2,_⟩:=h.s2 e he;have g1:=(Value.slice.injEq .. ▸ g1);have g2:=(Value.slice.injEq .. ▸ g2);omega
def zsF(ess:List (List FQ)):List (List Rat):=ess.map (List.map FQ.w)
theorem RfM.isQM{w:World}{v:Value}{ess:List (List FQ)}(h:RfM w v ess){L:Nat}(hl:lenFM ess<=L):IsQM w v (zsF ess) L:=by
 obtain⟨vs,h1,h2⟩:=h;refine⟨vs,by simpa[zsF]using h1,fun i u z hu hz=>?_⟩;unfold zsF at hz;rw[List.getElem?_map]at hz;obtain⟨es,he,rfl⟩:=Option.map_eq_some_iff.1 hz;have hR:=h2 i u es hu he;exact hR.isq (hR.fit (by have:=alk (List.mem_of_getElem? he);omega))
theorem a1j{H:Type}{enc:TypeId×Value->H}{w:World}{fuel:Nat}{ao:Option Addr}{n cap:Nat}{x:DataW H×List MemPlace}(h:DataW.trod enc Tryz.prog w 0 (fun _=>true) true fuel 22 [.slice ao n cap]=some x):
  ∃ess,RfM w (.slice ao n cap) ess/\lenFM ess+1<=Rows.uptoBulk x.1:=by
 rcases open_slice1 Tryz.underlying22 (by kernel_rfl) h with⟨hcs,rfl⟩|⟨a,len,cap',m,k,V,D,Pl,hcs,_,hl,hm,hmm,rfl,hall⟩
 ·obtain⟨rfl,rfl,rfl⟩:ao=none/\n=0/\cap=0:=by simpa using hcs
  exact⟨[],⟨[],⟨none,0,rfl,Nat.le_refl _,by omega,rfl,.inl rfl⟩,fun i u es hu=>by simp at hu⟩,by simp[lenFM,Rows.uptoBulk]⟩
 obtain⟨rfl,rfl,rfl⟩:ao=some a/\n=len/\cap=cap':=by simpa using hcs
 simp only[if_true]at hmm;subst hmm;have each:∀i,i<m->∃es:List FQ,Rfq w (V i) es/\lenFQ es+1<=Rows.uptoBulk (D i):=by
  intro i hi;have t:=(hall i hi).2;have hv:∃b l c,V i=.slice b l c:=by
   rcases open_slice Tryz.underlying31 t with⟨hcs,_⟩|⟨a,len,cap',_,_,_,_,hcs,_⟩
   ·exact⟨none,0,0,by simpa using hcs⟩
   ·exact⟨some a,len,cap',by simpa using hcs⟩
  obtain⟨b,l,c,hv⟩:=hv;rw[hv]at t ⊢;exact av2 (x:=(D i,Pl i)) t
 obtain⟨E,hE⟩:=choose_lt each;have hlen:((List.range n).map E).length=n:=by simp
 refine⟨(List.range n).map E,⟨(List.range n).map V,⟨some a,m,by rw[hlen],by rw[hlen];exact hl,by simpa[maxLen]using hm,by simp,?_⟩,fun i u es hu he=>?_⟩,?_⟩
 ·by_cases h0:n=0
  ·exact .inl (by rw[hlen];exact h0)
  ·obtain⟨b,off,spot⟩:=a;have h1:=(hall 0 (by omega)).1;have hspot:spot=none:=by simpa[Addr.add]using World.cell?_spot h1
   subst hspot;rw[agn]at h1;refine .inr ⟨b,off,rfl,aa9 h1,fun j u hu=>?_⟩;have hj:j<n:=by have:=(List.getElem?_eq_some_iff.1 hu).1;simpa using this
   have h2:=(hall j (by omega)).1;rw[agn]at h2;rw[h2];simpa[hj]using hu
 ·have hi:i<n:=by have:=(List.getElem?_eq_some_iff.1 hu).1;simpa using this
  obtain rfl:V i=u:=by simpa[hi]using hu
  obtain rfl:E i=es:=by simpa[hi]using he
  exact(hE i (by omega)).1
 ·have key:∀k,k<=n->lenFM ((List.range k).map E)<=Rows.uptoBulkAll ((List.range k).map D):=by
   intro k hk;induction k with
   |zero=>simp[lenFM]
   |succ k ih=>
    have h1:=ih (by omega);have h2:=(hE k (by omega)).2;rw[List.range_succ,List.map_append,List.map_append,an4,ad5];simp only[List.map_cons,List.map_nil,lenFM,Rows.uptoBulkAll]at h1 h2 ⊢;omega
  have:=key n (Nat.le_refl _);simp only[Rows.uptoBulk];omega
end Lm
namespace Lm
open Go Go.RowKit
theorem av3(es fs:List FE):f3 (es++fs)=f3 es++f3 fs:=by
 induction es with
 |nil=>rfl
 |cons e es ih=>simp[f3,ih]
structure RfO (B:Nat) (w:World) (v:Value) (es:List FQ):Prop where
 own:w.ownsRow B 47 3 v es.length (f3 (es.map FQ.r))
 o1:∀e∈es,Ow B w (.slice e.r.a e.r.m e.r.c) e.zs
 o2:∀e∈es,Ow B w (.slice e.r.d e.r.k e.r.e) e.ys
theorem RfO.below{B:Nat}{w w':World}{v:Value}{es:List FQ}(h:RfO B w v es)(hb:Below w.heap.size w w'):RfO B w' v es:=
 ⟨h.own.kept (row:=none) ⟨hb.os,hb.tape,hb.output,hb.size,fun k hk _=>hb.block k hk⟩ (by cases hv:v.ownBlock <;> simp),fun e he=>(h.o1 e he).below hb,fun e he=>(h.o2 e he).below hb⟩
theorem RfO.rfq{B:Nat}{w:World}{v:Value}{es:List FQ}(h:RfO B w v es):Rfq w v es:=⟨Ce.own h.own,fun e he=>(h.o1 e he).sl,fun e he=>(h.o2 e he).sl⟩
theorem a1k(B:Nat)(w:World):RfO B w (.slice none 0 0) []:=⟨World.ownsRow_nil w B _ 3,fun e he=>(by cases he),fun e he=>(by cases he)⟩
theorem Ow.grownf{B:Nat}{w w':World}{v:Value}{zs:List Int}{row:Option Nat}{cur:Nat->Array Value}(h:Ow B w v zs)(hg:w.grownBy w' row)(hr:∀k,row=some k->w.heap[k]? = some (.cells (cur k) 47 (0,0))):Ow B w' v zs:=by
 obtain⟨ao,cap,rfl,h1,h2,h3,h4⟩:=h;refine⟨ao,cap,rfl,h1,h2,h3,?_⟩;rcases h4 with h4|⟨g,off,c,rfl,hB,hh,h5,h6⟩
 ·exact .inl h4
 ·refine .inr ⟨g,off,c,rfl,hB,(hg.block g (aaa hh) (fun e=>?_)).trans hh,h5,h6⟩;have:=hr g e.symm;rw[hh]at this;injection this with this;injection this with _ this;exact absurd this (by decide)
theorem a1l{dst:Option Tmp}{ty:TypeId}{pos:String}{after:Array Edge}{guard:Option (Nat×Bool)}{a:Act}{w:World}{i j:Nat}{B g:Nat}{v:Value}{es:List FQ}{x:FE}{zs ys:List Int}(h1:a.eval (.tmp i)=v)(h2:a.eval (.tmp j)=.slice (some ⟨g,0,none⟩) 1 1)(R:RfO B w v es)(O:w.heap[g]? = some (.cells #[.bool x.ng,.slice x.a x.m x.c,.slice x.d x.k x.e] 47 (0,0)))(S1:Ow B w (.slice x.a x.m x.c) zs)(S2:Ow B w (.slice x.d x.k x.e) ys)(hn:es.length<=1000000000)(hB:B<=w.heap.size):
  Does Tryz.prog {dst,op:=.call {callee:=.builtin .append,args:=#[.tmp i,.tmp j],argTypes:=#[31,31]},type:=ty,pos,after,guard} a.eval w fun v' w'=>RfO B w' v' (es ++ [⟨x,zs,ys⟩])/\Below B w w':=by
 obtain⟨i0,hi,hz0,hz1,hz2⟩:=info_parts infoRz;have hfl:f3 ((es++([⟨x,zs,ys⟩]:List FQ)).map FQ.r)=f3 (es.map FQ.r) ++ [.bool x.ng,.slice x.a x.m x.c,.slice x.d x.k x.e]:=by rw[List.map_append,av3];rfl
 obtain⟨v',w',hr,ho,hgr,_⟩:=run_append_own (P:=Tryz.prog) w B 31 ty 47 i0 _ 3 56 Tryz.underlying31 hi hz0 hz1 hz2 rfl (by decide) v es.length (f3 (es.map FQ.r)) R.own ⟨g,0,none⟩ 1 1 [.bool x.ng,.slice x.a x.m x.c,.slice x.d x.k x.e] rfl (fun k u hu=>by
  have hc:∀k,w.cell? ⟨g,k,none⟩ = #[Value.bool x.ng,.slice x.a x.m x.c,.slice x.d x.k x.e][k]? :=fun k=>cell_of_row w g k _ _ (0,0) O
  have ha:(⟨g,0,none⟩:Addr).add k=⟨g,k,none⟩:=by unfold Addr.add;split <;> simp_all
  rw[ha,hc]
  simpa using hu) (by simp[Value.oneCell']) (by simp[maxLen];omega) (by omega) hB
 have e:(execOp a.eval {dst,op:=.call {callee:=.builtin .append,args:=#[.tmp i,.tmp j],argTypes:=#[31,31]},type:=ty,pos,after,guard}).run Tryz.prog w=.ok (.value v') w':=by
  simp only[execOp,resolve,invoke,builtin,Sem.run_bind,Sem.run_pure,Result.andThen_ok,List.map_toArray,List.map_cons,List.map_nil,h1,h2,hr]
 refine⟨?_⟩;unfold Turns;rw[e];have hrow:∃cur:Nat->Array Value,∀k,v.ownBlock=some k->w.heap[k]? = some (.cells (cur k) 47 (0,0)):=by
  rcases R.own.2 with⟨rfl,_⟩|⟨g',cap,cur,rfl,_,hh,_⟩
  ·exact⟨fun _=>#[],fun k hk=>by simp[Value.ownBlock]at hk⟩
  ·refine⟨fun _=>cur,fun k hk=>?_⟩;simp only[Value.ownBlock,Option.some.injEq]at hk;subst hk;exact hh
 obtain⟨cur,hcur⟩:=hrow;refine⟨⟨by rw[hfl,List.length_append];exact ho,fun e he=>?_,fun e he=>?_⟩,⟨hgr.os,hgr.tape,hgr.output,hgr.size,fun k hk=>hgr.block k (by omega) (fun e=>?_)⟩⟩
 ·rcases List.mem_append.1 he with he|he
  ·exact(R.o1 e he).grownf hgr hcur
  ·obtain rfl:=List.mem_singleton.1 he;exact S1.grownf hgr hcur
 ·rcases List.mem_append.1 he with he|he
  ·exact(R.o2 e he).grownf hgr hcur
  ·obtain rfl:=List.mem_singleton.1 he;exact S2.grownf hgr hcur
 ·have:=R.own.lt k e.symm;omega
theorem a22(w:World){K:Nat}(hK:K<=w.heap.size):Ow K (w.alloc (.cells #[.int .u32 1] 86)) (.slice (some ⟨w.heap.size,0,none⟩) 1 1) [1]:=by
 refine⟨_,1,rfl,Nat.le_refl _,by decide,?_,.inr ⟨w.heap.size,0,_,rfl,hK,heap_alloc_new w _,by decide,?_⟩⟩
 ·refine aan.2 ⟨by omega,aaj⟩
 ·intro k hk
  match k with
  |0=>rfl
  |k+1=>simp at hk
theorem asm(w:World)(v:Value)(zs:List Int)(h:Nums w v zs)(hz:∀z∈zs,-9223372036854775808<=z/\z<=9223372036854775807)(hl:zs.length<=1000):
  Calls Tryz.prog 38 #[v] w fun e w'=>∃r es,e=.returned r/\Rfq w' r es/\es.map FQ.w=zs.map (fun z:Int=>(z:Rat))/\lenFQ es<=4*zs.length/\Below w.heap.size w w':=by
 obtain⟨ao,cap,rfl,_⟩:=id h;have H:=hide h;have HZ:=hide hz;clear h hz;obtain⟨n,hn⟩:∃n,zs.length=n:=⟨_,rfl⟩;rw[hn]at H hl ⊢;have HN:=hide hn;clear hn;go_enter Tryz.func38,Tryz.ntmps38
 go_wp2_with fail
 go_loopw [3,4] (fun ov iv wr=>∃(k:Nat) (es:List FQ),iv=.int .i64 k/\k<=n/\Below w.heap.size w wr/\es.length=k/\RfO w.heap.size wr ov es/\es.map FQ.w=(zs.take k).map (fun z:Int=>(z:Rat))/\lenFQ es<=4*k) (fun _ iv _=>n-(intOf iv).toNat)
 case atStart=>exact⟨0,[],rfl,Nat.zero_le _,Below.refl _ _,rfl,a1k _ _,rfl,Nat.le_refl _⟩
 case round=>
  obtain⟨k,es,rfl,hk,hbw,hes,hown,hall,hlq⟩:=hrel;have HW:=hide hbw;have HES:=hide hes;have HOWN:=hide hown;have HALL:=hide hall;have HLQ:=hide hlq;by_cases hlt:k<n
  ·obtain⟨b,off,rfl,hc⟩:=(show Nums wr (.slice ao n cap) zs from Ce.below H.out hbw).cell (i:=k) (by have:=HN.out;omega);have hget:zs[k]? = some (zs[k]'(by have:=HN.out;omega)):=List.getElem?_eq_getElem _;generalize zs[k]'(by have:=HN.out;omega)=z at hc hget;have HG:=hide hget;have hzb:=HZ.out z (List.mem_of_getElem? hget);have hlt':(k:Int)<(n:Int):=by omega
   obtain⟨aov,capv,hov,_⟩:=Ce.own hown.own;subst hov;have K1:=hide (amy wr z hzb.1 hzb.2);clear hbw hes hown hall hget hlq;go_wp2_with fail
   refine K1.out.mono ?_;rintro e w2 ⟨r2,rfl,hf2,hb2⟩;obtain⟨ng2,ao2,cap2,rs2,B2,T2,rfl,hwf,hB2,hT2,hl2⟩:=hf2;have hA1:=hAl w2 (.cells #[.int .u32 1] 86);have hO1:=a22 w2 (K:=w.heap.size) (Nat.le_trans HW.out.size hb2.size);generalize hw3:w2.alloc (.cells #[.int .u32 1] 86)=w3 at *
   have hA2:=hAl w3 (.cells #[.bool ng2,.slice ao2 rs2.length cap2,.slice (some ⟨w2.heap.size,0,none⟩) 1 1] 47);have hO2:=heap_alloc_new w3 (.cells #[.bool ng2,.slice ao2 rs2.length cap2,.slice (some ⟨w2.heap.size,0,none⟩) 1 1] 47);have hA12:=hA1.trans (hA2.mono hA1.size);have hb2':=hb2.trans (hA12.mono hb2.size);have hR2:=HOWN.out.below hb2';have hS1:Ow w.heap.size _ (.slice ao2 rs2.length cap2) rs2:=(hwf.fr.ow.mono (Nat.le_trans HW.out.size hB2)).below hA12;have hS2:=hO1.below hA2;have hsz:w.heap.size<=(w3.alloc (.cells #[.bool ng2,.slice ao2 rs2.length cap2,.slice (some ⟨w2.heap.size,0,none⟩) 1 1] 47)).heap.size:=Nat.le_trans HW.out.size hb2'.size;have HW3:=hide hw3;go_wp2_with (at_builtin;refine abz rfl (a1l (i:=11) (j:=19) (x:=⟨ng2,ao2,rs2.length,cap2,some ⟨w2.heap.size,0,none⟩,1,1⟩) (zs:=rs2) (ys:=[1]) rfl rfl hR2 hO2 hS1 hS2 (by rw[HES.out];omega) hsz) ?_)
   intro v3 w4 hR3 hb3;obtain⟨aov3,capv3,hov3,_⟩:=Ce.own hR3.own;subst hov3;have HR3:=hide hR3;have HB3:=hide ((HW.out.trans (hb2'.mono HW.out.size)).trans hb3);have HWF:=hide hwf;clear hR3 hb3 hR2 hO2 hS1 hS2 hsz hA1 hA2 hA12 hb2 hb2' hwf hB2 hT2;go_wp2;go_roundw
   case rel=>
    refine⟨k+1,es ++ [⟨⟨ng2,ao2,rs2.length,cap2,some ⟨w2.heap.size,0,none⟩,1,1⟩,rs2,[1]⟩],by go_num,by omega,HB3.out,by simp[HES.out],HR3.out,?_,?_⟩
    ·rw[List.map_append,HALL.out,List.take_add_one,HG.out,List.map_append];congr 1;have h1:=HWF.out.wh.ag.worth;show [Rat.divInt (sg ng2 (val rs2)) (val [1])] = [(z:Rat)];rw[h1];congr 1;rw[show val [1]=1 by decide];exact(Rat.divInt_ofNat _ 1).trans (Rat.mkRat_one _)
    ·rw[ahq];have:=HLQ.out;simp only[lenFQ];omega
   case measure=>simp[intOf];omega
  ·have hlt':decide ((k:Int)<(n:Int))=false:=by simp;omega
   have hkn:k=n:=by omega
   subst hkn;clear hbw hes hown hall hlq;obtain⟨aov3,capv3,hov3,_⟩:=Ce.own HOWN.out.own;subst hov3;go_wp2;refine bodyPost_ret (v:=_) (aji rfl rfl) rfl ⟨_,es,rfl,HOWN.out.rfq,by rw[HALL.out,List.take_of_length_le (by rw[HN.out];exact Nat.le_refl _)],HLQ.out,HW.out⟩
end Lm
namespace Lm
open Go Go.RowKit Md
theorem an5{w:World}{u:Value}{z:List Int}{L:Nat}(T:TypeId)(h:CanRow w u z L):CanM (w.alloc (.cells #[u] T)) (.slice (some ⟨w.heap.size,0,none⟩) 1 1) [z] L:=by
 have hb:=hAl w (.cells #[u] T);have hn:=heap_alloc_new w (.cells #[u] T);refine⟨[u],⟨_,_,rfl,Nat.le_refl _,by omega,rfl,.inr ⟨w.heap.size,0,rfl,aaa hn,fun j x hx=>?_⟩⟩,fun i x y hx hy=>?_⟩
 ·rw[Nat.zero_add,cell_of_row _ _ _ _ _ (0,0) hn];simpa using hx
 ·match i with
  |0=>simp at hx hy;subst hx hy;exact h.below hb
  |i+1=>simp at hx
theorem ay9(w:World)(a b:Int)(e:TypeId):Nums (w.alloc (.cells #[.int .i64 a,.int .i64 b] e)) (.slice (some ⟨w.heap.size,0,none⟩) 2 2) [a,b]:=by
 have hn:=heap_alloc_new w (.cells #[.int .i64 a,.int .i64 b] e);refine⟨_,_,rfl,Nat.le_refl _,by simp,rfl,.inr ⟨w.heap.size,0,rfl,aaa hn,fun j x hx=>?_⟩⟩;rw[Nat.zero_add,cell_of_row _ _ _ _ _ (0,0) hn];simpa using hx
theorem row2(w:World)(a b:Int)(h:∀z ∈ [a,b],-9223372036854775808<=z/\z<=9223372036854775807):Calls Tryz.prog 40 #[.slice (some ⟨w.heap.size,0,none⟩) 2 2] (w.alloc (.cells #[.int .i64 a,.int .i64 b] 3)) fun e w'=>∃ra rc,e=.returned (.slice ra 2 rc)/\CanRow w' (.slice ra 2 rc) [a,b] 2/\Below w.heap.size w w':=by
 have hb:=hAl w (.cells #[.int .i64 a,.int .i64 b] 3);refine(aqa _ _ [a,b] (ay9 w a b 3) h (by simp)).mono ?_;rintro e w' ⟨r,rfl,hc,hb'⟩;obtain⟨ra,rc,rfl⟩:=hc.slc;exact⟨ra,rc,rfl,hc,hb.trans (hb'.mono hb.size)⟩
theorem an6(w:World)(a b:Int)(h:∀z ∈ [a,b],-9223372036854775808<=z/\z<=9223372036854775807):Calls Tryz.prog 38 #[.slice (some ⟨w.heap.size,0,none⟩) 2 2] (w.alloc (.cells #[.int .i64 a,.int .i64 b] 3)) fun e w'=>∃ra rc,e=.returned (.slice ra 2 rc)/\IsQs w' (.slice ra 2 rc) [(a:Rat),(b:Rat)] 8/\Below w.heap.size w w':=by
 have hb:=hAl w (.cells #[.int .i64 a,.int .i64 b] 3);refine(asm _ _ [a,b] (ay9 w a b 3) h (by simp)).mono ?_;rintro e w' ⟨r,es,rfl,hR,hm,hl,hb'⟩;have hQ:=hR.isq (hR.fit (L:=8) (by simpa using hl));rw[hm]at hQ;obtain⟨ra,rc,rfl,_⟩:=hQ.parts;exact⟨ra,rc,rfl,hQ,hb.trans (hb'.mono hb.size)⟩
theorem asn{w:World}{u1 u2 u3:Value}{p1 p2 p3:List Rat}{L:Nat}(T:TypeId)(h1:IsQs w u1 p1 L)(h2:IsQs w u2 p2 L)(h3:IsQs w u3 p3 L):IsQM (w.alloc (.cells #[u1,u2,u3] T)) (.slice (some ⟨w.heap.size,0,none⟩) 3 3) [p1,p2,p3] L:=by
 have hb:=hAl w (.cells #[u1,u2,u3] T);have hn:=heap_alloc_new w (.cells #[u1,u2,u3] T);refine⟨[u1,u2,u3],⟨_,_,rfl,Nat.le_refl _,by omega,rfl,.inr ⟨w.heap.size,0,rfl,aaa hn,fun j x hx=>?_⟩⟩,fun i x y hx hy=>?_⟩
 ·rw[Nat.zero_add,cell_of_row _ _ _ _ _ (0,0) hn];simpa using hx
 ·match i with
  |0=>simp at hx hy;subst hx hy;exact h1.below hb
  |1=>simp at hx hy;subst hx hy;exact h2.below hb
  |2=>simp at hx hy;subst hx hy;exact h3.below hb
  |i+3=>simp at hx
structure Spn (w:World) (g n:Nat) (E Lf:List (List Int)):Prop where
 at_:∃se sl,SpanEL w g n se sl/\IsM w se E 32/\IsM w sl Lf 600
theorem Spn.below{w w':World}{g n:Nat}{E Lf:List (List Int)}(h:Spn w g n E Lf)(hb:Below w.heap.size w w'):Spn w' g n E Lf:=by
 obtain⟨se,sl,h1,h2,h3⟩:=h.at_;exact⟨se,sl,h1.below hb,h2.below hb,h3.below hb⟩
theorem a23(w:World):Calls Tryz.prog 8 #[] w fun r w'=>r=.returned (.bool true)/\Below w.heap.size w w':=by
 have K1:=hide (an6 w 0 0 (by decide));go_enter Tryz.func8,Tryz.ntmps8
 go_wp2_with fail
 refine K1.out.mono ?_;rintro e w1 ⟨ra,rc,rfl,h1,hb1⟩;have H1:=hide h1;have HB1:=hide hb1;have K2:=hide (an6 w1 1 2 (by decide));clear h1 hb1 K1;go_wp2_with fail
 refine K2.out.mono ?_;rintro e w2 ⟨sa,sc,rfl,h2,hb2⟩;have H1:=hide (H1.out.below hb2);have H2:=hide h2;have HB2:=hide (HB1.out.trans (hb2.mono HB1.out.size));have K3:=hide (an6 w2 2 4 (by decide));clear h2 hb2 K2;go_wp2_with fail
 refine K3.out.mono ?_;rintro e w3 ⟨ta,tc,rfl,h3,hb3⟩;have hM:=asn 31 (H1.out.below hb3) (H2.out.below hb3) h3;have hba:=hAl w3 (.cells #[.slice ra 2 rc,.slice sa 2 sc,.slice ta 2 tc] 31);have HB3:=hide ((HB2.out.trans (hb3.mono HB2.out.size)).trans (hba.mono (Nat.le_trans HB2.out.size hb3.size)));have eP : [[((0:Int):Rat),((0:Int):Rat)],[((1:Int):Rat),((2:Int):Rat)],[((2:Int):Rat),((4:Int):Rat)]]=awP:=rfl;rw[eP]at hM;have K4:=hide (apd _ _ awP 8 2 hM (by omega) (by omega) (by omega));clear h3 hb3 hba hM K3 H1 H2 eP;go_wp2_with fail
 refine K4.out.mono ?_;rintro e w4 ⟨ho,hb4⟩;have HB4:=hide (HB3.out.trans (hb4.mono HB3.out.size));rcases ho with⟨hs,_⟩|⟨_,ho⟩
 ·exact absurd hs (by decide)
 rcases ho with⟨hbg,_⟩|⟨g,made,twin,low,eqs,rfl,hat,hli,heq,hlo,htw⟩
 ·exact(a20 hbg).elim
 obtain⟨sl,rfl,hsl⟩:=hli;obtain⟨se,rfl,hse⟩:=heq;obtain⟨rfl,hst,hll⟩:=a1i hlo htw;have hrow:∀l∈low,l.length=2+1:=((afk an3 hlo htw).1.row).2;have HAT:=hide (SpanEL.below (w':=w4) (.inl hat) (Below.refl _ _));have HSL:=hide hsl;have HSE:=hide hse;have HST:=hide hst;have HLL:=hide hll;have HROW:=hide hrow;obtain⟨al,cl,hal,_⟩:=hsl.parts;rw[hll]at hal;have K5:=anw w4 g 2 2 se sl al cl (.inl hat) hal (by omega);have e1:((2:Nat):Int)-1=1:=rfl;rw[e1]at K5;have K5:=hide K5;clear hat hsl hse hst hll hrow hlo htw hb4 K4 hal e1;go_wp2_with fail
 refine K5.out.mono ?_;rintro e w5 ⟨rfl,hb5⟩;have HB5:=hide (HB4.out.trans (hb5.mono HB4.out.size));have K6:=hide (alu w5 g 2 se sl [[2,-1,0]] 32 (HAT.out.below hb5) (HSE.out.below hb5) (by decide) (by omega) (by decide) (by omega));have HAT5:=hide (HAT.out.below hb5);have HSL5:=hide (HSL.out.below hb5);clear hb5 K5;go_wp2_with fail
 refine K6.out.mono ?_;rintro e w6 ⟨v6,rfl,hc6,hb6⟩;obtain⟨a6,c6,rfl,_⟩:=hc6.parts;have HB6:=hide (HB5.out.trans (hb6.mono HB5.out.size));have HC6:=hide hc6;have HAT6:=hide (HAT5.out.below hb6);have HSL6:=hide (HSL5.out.below hb6);have K7:=hide (row3 w6 2 (-1) 0 (by decide));clear hb6 hc6 K6;go_wp2_with fail
 refine K7.out.mono ?_;rintro e w7 ⟨pa,pc,rfl,h7,hb7⟩;have hba:=hAl w7 (.cells #[.slice pa 3 pc] 39);have hM:=an5 39 h7;have hb67:=hb7.trans (hba.mono hb7.size);have K8:=hide (ahh _ _ _ [[2,-1,0]] _ _ (HC6.out.below hb67) hM);have HB7:=hide (HB6.out.trans (hb67.mono HB6.out.size));have HAT7:=hide (HAT6.out.below hb67);have HSL7:=hide (HSL6.out.below hb67);clear h7 hb7 hba hM hb67 K7;go_wp2_with fail
 refine K8.out.mono ?_;rintro e w8 ⟨rfl,hb8⟩;have HB8:=hide (HB7.out.trans (hb8.mono HB7.out.size));have K9:=asl w8 g 2 se sl low 600 (HAT7.out.below hb8) (HSL7.out.below hb8) HROW.out (by omega) (by rw[HLL.out];omega) (by omega);rw[HST.out]at K9;have K9:=hide K9;clear hb8 K8;go_wp2_with fail
 refine K9.out.mono ?_;rintro e w9 ⟨v9,rfl,hc9,hb9⟩;obtain⟨a9,c9,rfl,_⟩:=hc9.parts;have HB9:=hide (HB8.out.trans (hb9.mono HB8.out.size));have HC9:=hide hc9;have K10:=hide (row2 w9 1 2 (by decide));clear hb9 hc9 K9;go_wp2_with fail
 refine K10.out.mono ?_;rintro e w10 ⟨qa,qc,rfl,h10,hb10⟩;have hba:=hAl w10 (.cells #[.slice qa 2 qc] 39);have hM:=an5 39 h10;have hb910:=hb10.trans (hba.mono hb10.size);have K11:=hide (ahh _ _ _ [[1,2]] _ _ (HC9.out.below hb910) hM);have HB10:=hide (HB9.out.trans (hb910.mono HB9.out.size));clear h10 hb10 hba hM hb910 K10;go_wp2_with fail
 refine K11.out.mono ?_;rintro e w11 ⟨rfl,hb11⟩;have HB11:=hide (HB10.out.trans (hb11.mono HB10.out.size));clear hb11 K11;go_wp2;refine bodyPost_ret (v:=_) (by simp[results,Tryz.results8,go_sem];try rfl) rfl ⟨rfl,HB11.out⟩
end Lm
namespace Lm
open Go Go.RowKit Md
def PairS(x y:Value)(T:TypeId):Says:=fun v w=>∃g,v=.slice (some ⟨g,0,none⟩) 2 2/\w.heap[g]? = some (.cells #[x,y] T (0,0))
theorem PairS.mono(x y:Value)(T:TypeId):Mono (PairS x y T):=fun _ _ _ hb ⟨g,e,h⟩=>⟨g,e,(hb.block _ (aaa h)).trans h⟩
def CatS(rows:List (List Int))(L:Nat):Says:=fun v w=>IsM w v rows L
theorem CatS.mono(rows:List (List Int))(L:Nat):Mono (CatS rows L):=fun _ _ _ hb h=>IsM.below h hb
def LiS(rows:List (List Int))(L:Nat):Says:=fun v w=>IsLi w v rows L
theorem LiS.mono(rows:List (List Int))(L:Nat):Mono (LiS rows L):=fun _ _ _ hb h=>IsLi.below h hb
def EqS(rows:List (List Int))(L:Nat):Says:=fun v w=>IsEq w v rows L
theorem EqS.mono(rows:List (List Int))(L:Nat):Mono (EqS rows L):=fun _ _ _ hb h=>IsEq.below h hb
theorem aso:Has Tryz.prog 45:=by unfold Has;kernel_rfl
theorem ayq:Has Tryz.prog 43:=by unfold Has;kernel_rfl
theorem ahr{w:World}{g h n:Nat}{se sl te tl:Value}(hS:SpanEL w g n se sl)(hO:SpanEL w h n te tl):Calls Tryz.prog 60 #[.pointer (some ⟨g,0,none⟩),.pointer (some ⟨h,0,none⟩)] w fun e w'=>e=.returned (.bool true)/\Below w.heap.size w w':=by
 rcases hS with h1|h1 <;> rcases hO with h2|h2 <;> exact anx w g h n _ _ _ _ _ h1 h2
def BuiK(w:World)(n:Nat)(H:Md.Rw->Prop)(pv:Value)(ev:Int):Prop:=
 (pv=.pointer none/\ev=2/\∃E0,BigF n E0/\∀y,Out (n+1) y->(RS (E0.map fnR) y↔H y)) \/
 ∃g E Lf,pv=.pointer (some ⟨g,0,none⟩)/\ev=0/\Spn w g n E Lf/\Kept n E Lf/\∀y,Out (n+1) y->(Hld n Lf y↔H y)
theorem BuiK.below{w w':World}{n:Nat}{H:Md.Rw->Prop}{pv:Value}{ev:Int}(h:BuiK w n H pv ev)(hb:Below w.heap.size w w'):BuiK w' n H pv ev:=by
 rcases h with h|⟨g,E,Lf,h1,h2,h3,h4⟩
 ·exact .inl h
 ·exact .inr ⟨g,E,Lf,h1,h2,h3.below hb,h4⟩
def BuiV(n:Nat)(H:Md.Rw->Prop):Says:=fun v w=>∃pv ev,v=.tuple #[pv,.int .i64 ev]/\BuiK w n H pv ev
def BuiX0(n:Nat)(H:Md.Rw->Prop):Says:=fun v w=>∃ev,BuiK w n H v ev
def BuiX1(n:Nat)(H:Md.Rw->Prop):Says:=fun v w=>∃pv ev,v=.int .i64 ev/\BuiK w n H pv ev
theorem BuiV.mono(n:Nat)(H:Md.Rw->Prop):Mono (BuiV n H):=fun _ _ _ hb ⟨pv,ev,e,h⟩=>⟨pv,ev,e,h.below hb⟩
theorem BuiX0.mono(n:Nat)(H:Md.Rw->Prop):Mono (BuiX0 n H):=fun _ _ _ hb ⟨ev,h⟩=>⟨ev,h.below hb⟩
theorem BuiX1.mono(n:Nat)(H:Md.Rw->Prop):Mono (BuiX1 n H):=fun _ _ _ hb ⟨pv,ev,e,h⟩=>⟨pv,ev,e,h.below hb⟩
theorem alm{w:World}{n:Nat}{H:Md.Rw->Prop}{pv pv':Value}{ev ev':Int}(h:BuiK w n H pv ev)(h':BuiK w n H pv' ev'):BuiK w n H pv ev':=by
 rcases h with⟨h1,h2,E0,h3,h4⟩|⟨g,E,Lf,h1,h2,h3,h4,h5⟩
 ·rcases h' with⟨_,g2,_⟩|⟨_,E',Lf',_,_,_,g4,g5⟩
  ·exact .inl ⟨h1,g2,E0,h3,h4⟩
  ·exact(afa g4 h3 (fun y hy=>(g5 y hy).trans (h4 y hy).symm)).elim
 ·rcases h' with⟨_,_,E0,g3,g4⟩|⟨_,_,_,_,g2,_⟩
  ·exact(afa h4 g3 (fun y hy=>(h5 y hy).trans (g4 y hy).symm)).elim
  ·exact .inr ⟨g,E,Lf,h1,g2,h3,h4,h5⟩
def HLi(n:Nat)(ls:List (List Int))(y:Md.Rw):Prop:=(∀z∈ls,fnR z n=0)\/Hld n ls y
theorem BuiL.k{w':World}{n:Nat}{ls:List (List Int)}{e:Ending}(hl:∀z∈ls,z.length=n+1)(h:BuiL w' n ls e):∃pv ev,e=.returned (.tuple #[pv,.int .i64 ev])/\BuiK w' n (HLi n ls) pv ev:=by
 rcases h with⟨hb,rfl⟩|⟨g,made,twin,low,eqs,rfl,hat,hli,heq,hlo,htw⟩
 ·exact⟨_,_,rfl,.inl ⟨rfl,rfl,errL hl hb⟩⟩
 ·obtain⟨sl,rfl,hsl⟩:=hli;obtain⟨se,rfl,hse⟩:=heq;obtain⟨h1,_,h3⟩:=afk hl hlo htw;exact⟨_,_,rfl,.inr ⟨g,eqs,low,rfl,rfl,⟨se,sl,.inl hat,hse,hsl⟩,h1,h3⟩⟩
theorem BuiE.k{w':World}{n:Nat}{rows:List (List Int)}{e:Ending}(hl:∀z∈rows,z.length=n+1)(h:BuiE w' n rows e):∃pv ev,e=.returned (.tuple #[pv,.int .i64 ev])/\BuiK w' n (Cls n rows) pv ev:=by
 rcases h with⟨hb,rfl⟩|⟨g,made,twin,low,eqs,rfl,hat,heq,hli,hlo,htw⟩
 ·exact⟨_,_,rfl,.inl ⟨rfl,rfl,errE hl hb⟩⟩
 ·obtain⟨sl,rfl,hsl⟩:=hli;obtain⟨se,rfl,hse⟩:=heq;obtain⟨h1,h2⟩:=alj hl hlo htw;exact⟨_,_,rfl,.inr ⟨g,low,eqs,rfl,rfl,⟨se,sl,.inr hat,hse,hsl⟩,h1,h2⟩⟩
theorem aj0:Has Tryz.prog 61:=by unfold Has;kernel_rfl
section
variable {dst:Option Tmp} {ty:TypeId} {pos:String} {after:Array Edge} {guard:Option (Nat×Bool)} {a:Act} {w:World} {ats:Array TypeId} {i j:Nat}
theorem an7{p:Addr}(hp:a.eval (.tmp i)=.pointer (some p)):
  Does Tryz.prog {dst,op:=.nilCheck (.tmp i),type:=ty,pos,after,guard} a.eval w fun v' w'=>Below w.heap.size w w'/\Eqs (.pointer (some p)) v' w':=by
 have e:(execOp a.eval {dst,op:=.nilCheck (.tmp i),type:=ty,pos,after,guard}).run Tryz.prog w=.ok (.value (.pointer (some p))) w:=by
  simp only[execOp,hp];go_simp
 refine⟨?_⟩;unfold Turns;rw[e];exact⟨Below.refl _ _,rfl⟩
theorem av4{g:Nat}(hp:a.eval (.tmp i)=.pointer (some ⟨g,0,none⟩)):
  Does Tryz.prog {dst,op:=.fieldAddr 81 (.tmp i) 0,type:=ty,pos,after,guard} a.eval w fun v' w'=>Below w.heap.size w w'/\Eqs (.pointer (some ⟨g,0,none⟩)) v' w':=by
 have hf:∀w:World,(Instr.fieldAt 81 (.pointer (some ⟨g,0,none⟩)) 0).run Tryz.prog w=.ok (.pointer (some ⟨g,0,none⟩)) w:=fun w=>by go_simp
 refine⟨?_⟩;unfold Turns;simp only[execOp,hp];simp[hf];exact⟨Below.refl _ _,rfl⟩
theorem an8{g:Nat}{z:Int}(hp:a.eval (.tmp i)=.pointer (some ⟨g,0,none⟩))(h0:w.cell? ⟨g,0,none⟩=some (.int .i64 z)):
  Does Tryz.prog {dst,op:=.load 3 (.tmp i),type:=ty,pos,after,guard} a.eval w fun v' w'=>Below w.heap.size w w'/\Eqs (.int .i64 z) v' w':=by
 refine aa3 (v:=.int .i64 z) ?_ ⟨Below.refl _ _,rfl⟩;rw[hp];go_simp
theorem av5{g n:Nat}{se sl:Value}(h1:a.eval (.tmp i)=.pointer (some ⟨g,0,none⟩))(h:SpanEL w g n se sl):
  Does Tryz.prog {dst,op:=.call {callee:=.value (.func 45),args:=#[.tmp i],argTypes:=ats},type:=ty,pos,after,guard} a.eval w fun v w'=>Below w.heap.size w w'/\Eqs sl v w':=
 aag aso #[_] (by simp[h1]) ((aep h).mono fun e w' ⟨he,hb⟩=>⟨_,he,hb,rfl⟩)
theorem av6{g n:Nat}{se sl:Value}(h1:a.eval (.tmp i)=.pointer (some ⟨g,0,none⟩))(h:SpanEL w g n se sl):
  Does Tryz.prog {dst,op:=.call {callee:=.value (.func 43),args:=#[.tmp i],argTypes:=ats},type:=ty,pos,after,guard} a.eval w fun v w'=>Below w.heap.size w w'/\Eqs se v w':=
 aag ayq #[_] (by simp[h1]) ((ae9 h).mono fun e w' ⟨he,hb⟩=>⟨_,he,hb,rfl⟩)
theorem a1m{ao bo:Option Addr}{n c m d:Nat}(h1:a.eval (.tmp i)=.slice ao n c)(h2:a.eval (.tmp j)=.slice bo m d):
  Does Tryz.prog {dst,op:=.buildSlice 129 2 #[(0,.tmp i),(1,.tmp j)],type:=ty,pos,after,guard} a.eval w fun v w'=>Below w.heap.size w w'/\PairS (.slice ao n c) (.slice bo m d) 75 v w':=by
 have hb:=hAl w (.cells #[.slice ao n c,.slice bo m d] 75);refine acu (v:=.slice (some ⟨w.heap.size,0,none⟩) 2 2) (w':=w.alloc (.cells #[.slice ao n c,.slice bo m d] 75)) ?_ ⟨hb,_,rfl,heap_alloc_new _ _⟩;simp only[List.map_toArray,List.map_cons,List.map_nil,h1,h2];go_simp
theorem apk:Has Tryz.prog 62:=by unfold Has;kernel_rfl
theorem asp{x y:Value}{rows rows':List (List Int)}{L:Nat}(h:PairS x y 75 (a.eval (.tmp i)) w)(hx:IsM w x rows L)(hy:IsM w y rows' L)(hl:rows.length+rows'.length<=1000):
  Does Tryz.prog {dst,op:=.call {callee:=.value (.func 62),args:=#[.tmp i],argTypes:=ats},type:=ty,pos,after,guard} a.eval w fun v w'=>Below w.heap.size w w'/\CatS (rows++rows') L v w':=by
 obtain⟨g,e,hg⟩:=h;obtain⟨X,hX,hX2⟩:=hx.cellsM;obtain⟨Y,hY,hY2⟩:=hy.cellsM;obtain⟨ax,cx,rfl,_⟩:=hx.parts;obtain⟨ay,cy,rfl,_⟩:=hy.parts;have g0:w.cell? ⟨g,0,none⟩=some (.slice ax rows.length cx):=by rw[cell_of_row _ _ _ _ _ (0,0) hg];rfl
 have g1:w.cell? ⟨g,1,none⟩=some (.slice ay rows'.length cy):=by rw[cell_of_row _ _ _ _ _ (0,0) hg];rfl
 have hXl:X.length=rows.length:=by
  obtain⟨_,_,_,_,_,h,_⟩:=hX.1;omega
 exact aag apk #[_] (by simp[e]) ((aph w g ax ay rows.length rows'.length cx cy X Y g0 g1 (aaa hg) hX hY hl).mono fun e w' ⟨r,he,ho,hb⟩=>⟨r,he,hb,aqq ho hb hXl hX2 hY2⟩)
theorem a24{rows:List (List Int)}{L:Nat}(h:CatS rows L (a.eval (.tmp i)) w):
  Does Tryz.prog {dst,op:=.makeInterface 75 (.tmp i),type:=ty,pos,after,guard} a.eval w fun v w'=>Below w.heap.size w w'/\LiS rows L v w':=by
 have e:(execOp a.eval {dst,op:=.makeInterface 75 (.tmp i),type:=ty,pos,after,guard}).run Tryz.prog w=.ok (.value (.iface 75 (a.eval (.tmp i)))) w:=by
  simp only[execOp];go_simp
 refine⟨?_⟩;unfold Turns;rw[e];exact⟨Below.refl _ _,_,rfl,h⟩
theorem a1n{ao bo:Option Addr}{n c m d:Nat}(h1:a.eval (.tmp i)=.slice ao n c)(h2:a.eval (.tmp j)=.slice bo m d):
  Does Tryz.prog {dst,op:=.buildSlice 131 2 #[(0,.tmp i),(1,.tmp j)],type:=ty,pos,after,guard} a.eval w fun v w'=>Below w.heap.size w w'/\PairS (.slice ao n c) (.slice bo m d) 72 v w':=by
 have hb:=hAl w (.cells #[.slice ao n c,.slice bo m d] 72);refine acu (v:=.slice (some ⟨w.heap.size,0,none⟩) 2 2) (w':=w.alloc (.cells #[.slice ao n c,.slice bo m d] 72)) ?_ ⟨hb,_,rfl,heap_alloc_new _ _⟩;simp only[List.map_toArray,List.map_cons,List.map_nil,h1,h2];go_simp
theorem apl:Has Tryz.prog 63:=by unfold Has;kernel_rfl
theorem asq{x y:Value}{rows rows':List (List Int)}{L:Nat}(h:PairS x y 72 (a.eval (.tmp i)) w)(hx:IsM w x rows L)(hy:IsM w y rows' L)(hl:rows.length+rows'.length<=1000):
  Does Tryz.prog {dst,op:=.call {callee:=.value (.func 63),args:=#[.tmp i],argTypes:=ats},type:=ty,pos,after,guard} a.eval w fun v w'=>Below w.heap.size w w'/\CatS (rows++rows') L v w':=by
 obtain⟨g,e,hg⟩:=h;obtain⟨X,hX,hX2⟩:=hx.cellsM;obtain⟨Y,hY,hY2⟩:=hy.cellsM;obtain⟨ax,cx,rfl,_⟩:=hx.parts;obtain⟨ay,cy,rfl,_⟩:=hy.parts;have g0:w.cell? ⟨g,0,none⟩=some (.slice ax rows.length cx):=by rw[cell_of_row _ _ _ _ _ (0,0) hg];rfl
 have g1:w.cell? ⟨g,1,none⟩=some (.slice ay rows'.length cy):=by rw[cell_of_row _ _ _ _ _ (0,0) hg];rfl
 have hXl:X.length=rows.length:=by
  obtain⟨_,_,_,_,_,h,_⟩:=hX.1;omega
 exact aag apl #[_] (by simp[e]) ((api w g ax ay rows.length rows'.length cx cy X Y g0 g1 (aaa hg) hX hY hl).mono fun e w' ⟨r,he,ho,hb⟩=>⟨r,he,hb,aqq ho hb hXl hX2 hY2⟩)
theorem a25{rows:List (List Int)}{L:Nat}(h:CatS rows L (a.eval (.tmp i)) w):
  Does Tryz.prog {dst,op:=.makeInterface 72 (.tmp i),type:=ty,pos,after,guard} a.eval w fun v w'=>Below w.heap.size w w'/\EqS rows L v w':=by
 have e:(execOp a.eval {dst,op:=.makeInterface 72 (.tmp i),type:=ty,pos,after,guard}).run Tryz.prog w=.ok (.value (.iface 72 (a.eval (.tmp i)))) w:=by
  simp only[execOp];go_simp
 refine⟨?_⟩;unfold Turns;rw[e];exact⟨Below.refl _ _,_,rfl,h⟩
theorem av7{n:Nat}{H:Md.Rw->Prop}(h:BuiV n H (a.eval (.tmp i)) w):Does Tryz.prog {dst,op:=.extract (.tmp i) 0,type:=ty,pos,after,guard} a.eval w fun v w'=>Below w.heap.size w w'/\BuiX0 n H v w':=by
 obtain⟨pv,ev,e,hk⟩:=h;have e1:(execOp a.eval {dst,op:=.extract (.tmp i) 0,type:=ty,pos,after,guard}).run Tryz.prog w=.ok (.value pv) w:=by
  simp only[execOp,e];go_simp
 refine⟨?_⟩;unfold Turns;rw[e1];exact⟨Below.refl _ _,ev,hk⟩
theorem av8{n:Nat}{H:Md.Rw->Prop}(h:BuiV n H (a.eval (.tmp i)) w):Does Tryz.prog {dst,op:=.extract (.tmp i) 1,type:=ty,pos,after,guard} a.eval w fun v w'=>Below w.heap.size w w'/\BuiX1 n H v w':=by
 obtain⟨pv,ev,e,hk⟩:=h;have e1:(execOp a.eval {dst,op:=.extract (.tmp i) 1,type:=ty,pos,after,guard}).run Tryz.prog w=.ok (.value (.int .i64 ev)) w:=by
  simp only[execOp,e];go_simp
 refine⟨?_⟩;unfold Turns;rw[e1];exact⟨Below.refl _ _,pv,ev,rfl,hk⟩
theorem av9{ls:List (List Int)}{L n:Nat}(h1:a.eval (.tmp i)=.int .i64 (n:Int))(h:LiS ls L (a.eval (.tmp j)) w)(hs:Shaped ls ((n+1:Nat):Int))(hn:n<=16)(hL:L<=1510000):
  Does Tryz.prog {dst,op:=.call {callee:=.value (.func 61),args:=#[.tmp i,.tmp j],argTypes:=ats},type:=ty,pos,after,guard} a.eval w fun v w'=>Below w.heap.size w w'/\BuiV n (HLi n ls) v w':=by
 obtain⟨s,e,h2⟩:=h;refine aag aj0 #[_,_] (by simp[h1,e]) ((ail w s ls L n h2 hs hn hL).mono fun e w' ⟨h3,hb⟩=>?_);obtain⟨pv,ev,rfl,hk⟩:=h3.k (fun z hz=>by have:=hs.2.2.2 z hz;omega);exact⟨_,rfl,hb,pv,ev,rfl,hk⟩
theorem awa{ls:List (List Int)}{L n:Nat}(h1:a.eval (.tmp i)=.int .i64 (n:Int))(h:EqS ls L (a.eval (.tmp j)) w)(hs:Shaped ls ((n+1:Nat):Int))(hn:n<=16)(hL0:1<=L)(hL:L<=1510000):
  Does Tryz.prog {dst,op:=.call {callee:=.value (.func 61),args:=#[.tmp i,.tmp j],argTypes:=ats},type:=ty,pos,after,guard} a.eval w fun v w'=>Below w.heap.size w w'/\BuiV n (Cls n ls) v w':=by
 obtain⟨s,e,h2⟩:=h;refine aag aj0 #[_,_] (by simp[h1,e]) ((aim w s ls L n h2 hs hn hL0 hL).mono fun e w' ⟨h3,hb⟩=>?_);obtain⟨pv,ev,rfl,hk⟩:=h3.k (fun z hz=>by have:=hs.2.2.2 z hz;omega);exact⟨_,rfl,hb,pv,ev,rfl,hk⟩
end
theorem awb(w:World)(g h n:Nat)(E Lf E' Lf':List (List Int))(hS:Spn w g n E Lf)(hO:Spn w h n E' Lf')(hr:∀l∈Lf++Lf',l.length=n+1)(hn:n<=16)(hl1:(Lf).length<=17)(hl2:(Lf').length<=17):
  Calls Tryz.prog 23 #[.pointer (some ⟨g,0,none⟩),.pointer (some ⟨h,0,none⟩)] w fun e w'=>∃pv ev,e=.returned (.tuple #[pv,.int .i64 ev])/\BuiK w' n (HLi n (Lf++Lf')) pv ev/\Below w.heap.size w w':=by
 obtain⟨se,sl,hSE,hSe,hSl⟩:=hS.at_;obtain⟨te,tl,hTE,hTe,hTl⟩:=hO.at_;have K1:=hide (ahr hSE hTE);have HS:=hide hSE;have HT:=hide hTE;have HX:=hide (show IsM w sl Lf 600 from hSl);have HY:=hide (show IsM w tl Lf' 600 from hTl);have HSH:Hid (Shaped (Lf++Lf') ((n+1:Nat):Int)):=(show Shaped _ _ from⟨by omega,by omega,by rw[List.length_append];omega,fun r hr'=>by rw[hr r hr']⟩);obtain⟨hgl,c0⟩:=hSE.num;obtain⟨ax,cx,hex,_⟩:=HX.out.parts;obtain⟨ay,cy,hey,_⟩:=HY.out.parts;subst hex hey;have HC0:=hide c0;clear hS hO hSE hSe hSl hTE hTe hTl hr c0;go_enter Tryz.func23,Tryz.ntmps23
 go_wp2_with fail
 refine K1.out.mono ?_;rintro e w1 ⟨rfl,hb1⟩;have HB1:=hide hb1;have HC1:=hide ((hb1.cell (p:=⟨g,0,none⟩) hgl).trans HC0.out);have hgl1:=Nat.lt_of_lt_of_le hgl hb1.size;have HS1:=hide (HS.out.below hb1);have HT1:=hide (HT.out.below hb1);have HX1:=hide (HX.out.below hb1);have HY1:=hide (HY.out.below hb1);clear hb1 K1 HC0 HS HT HX HY hgl;go_upto_region 3 with fail
 refine acz 14 [10,11,12,13,14,15,16,17,18,19,20,21,22,23] [Eqs (.pointer (some ⟨g,0,none⟩)),Eqs (.pointer (some ⟨g,0,none⟩)),Eqs (.pointer (some ⟨g,0,none⟩)),Eqs (.int .i64 (n:Int)),Eqs (.pointer (some ⟨g,0,none⟩)),Eqs (.slice ax (Lf).length cx),Eqs (.pointer (some ⟨h,0,none⟩)),Eqs (.slice ay (Lf').length cy),(PairS (.slice ax (Lf).length cx) (.slice ay (Lf').length cy) 75),(CatS (Lf++Lf') 600),(LiS (Lf++Lf') 600),(BuiV n (HLi n (Lf++Lf'))),(BuiX0 n (HLi n (Lf++Lf'))),(BuiX1 n (HLi n (Lf++Lf')))] rfl rfl (by decide) (by kernel_rfl) (by kernel_rfl) (by decide) (by kernel_rfl) ⟨Eqs.mono _,Eqs.mono _,Eqs.mono _,Eqs.mono _,Eqs.mono _,Eqs.mono _,Eqs.mono _,Eqs.mono _,(PairS.mono _ _ _),(CatS.mono _ _),(LiS.mono _ _),(BuiV.mono _ _),(BuiX0.mono _ _),(BuiX1.mono _ _),trivial⟩ ?_ ?_
 ·exact⟨⟨rfl,fun a_ w_ _ hB hR hD=>aal ((hR 0 rfl).trans (aab rfl))⟩,
    ⟨rfl,fun a_ w_ _ hB hR hD=>an7 (show a_.eval (.tmp 10)=.pointer (some ⟨g,0,none⟩)from hD 0 rfl)⟩,
    ⟨rfl,fun a_ w_ _ hB hR hD=>av4 (show a_.eval (.tmp 11)=.pointer (some ⟨g,0,none⟩)from hD 1 rfl)⟩,
    ⟨rfl,fun a_ w_ _ hB hR hD=>an8 (show a_.eval (.tmp 12)=.pointer (some ⟨g,0,none⟩)from hD 2 rfl) ((hB.cell (p:=⟨g,0,none⟩) hgl1).trans HC1.out)⟩,
    ⟨rfl,fun a_ w_ _ hB hR hD=>aal ((hR 0 rfl).trans (aab rfl))⟩,
    ⟨rfl,fun a_ w_ _ hB hR hD=>av5 (show a_.eval (.tmp 14)=.pointer (some ⟨g,0,none⟩)from hD 4 rfl) (HS1.out.below hB)⟩,
    ⟨rfl,fun a_ w_ _ hB hR hD=>aal ((hR 1 rfl).trans (aab rfl))⟩,
    ⟨rfl,fun a_ w_ _ hB hR hD=>av5 (show a_.eval (.tmp 16)=.pointer (some ⟨h,0,none⟩)from hD 6 rfl) (HT1.out.below hB)⟩,
    ⟨rfl,fun a_ w_ _ hB hR hD=>a1m (show a_.eval (.tmp 15)=.slice ax (Lf).length cx from hD 5 rfl) (show a_.eval (.tmp 17)=.slice ay (Lf').length cy from hD 7 rfl)⟩,
    ⟨rfl,fun a_ w_ _ hB hR hD=>asp (show(PairS (.slice ax (Lf).length cx) (.slice ay (Lf').length cy) 75) (a_.eval (.tmp 18)) w_ from hD 8 rfl) (HX1.out.below hB) (HY1.out.below hB) (by omega)⟩,
    ⟨rfl,fun a_ w_ _ hB hR hD=>a24 (show(CatS (Lf++Lf') 600) (a_.eval (.tmp 19)) w_ from hD 9 rfl)⟩,
    ⟨rfl,fun a_ w_ _ hB hR hD=>av9 (show a_.eval (.tmp 13)=.int .i64 (n:Int)from hD 3 rfl) (show(LiS (Lf++Lf') 600) (a_.eval (.tmp 20)) w_ from hD 10 rfl) HSH.out hn (by omega)⟩,
    ⟨rfl,fun a_ w_ _ hB hR hD=>av7 (show(BuiV n (HLi n (Lf++Lf'))) (a_.eval (.tmp 21)) w_ from hD 11 rfl)⟩,
    ⟨rfl,fun a_ w_ _ hB hR hD=>av8 (show(BuiV n (HLi n (Lf++Lf'))) (a_.eval (.tmp 21)) w_ from hD 11 rfl)⟩,
    trivial⟩
 ·intro a' w' hn' hd' hB' hR' hP';have e10:a'.eval (.tmp 10)=.pointer (some ⟨g,0,none⟩):=hP' 0 (by decide);have e11:a'.eval (.tmp 11)=.pointer (some ⟨g,0,none⟩):=hP' 1 (by decide);have e12:a'.eval (.tmp 12)=.pointer (some ⟨g,0,none⟩):=hP' 2 (by decide);have e13:a'.eval (.tmp 13)=.int .i64 (n:Int):=hP' 3 (by decide);have e14:a'.eval (.tmp 14)=.pointer (some ⟨g,0,none⟩):=hP' 4 (by decide);have e15:a'.eval (.tmp 15)=.slice ax (Lf).length cx:=hP' 5 (by decide);have e16:a'.eval (.tmp 16)=.pointer (some ⟨h,0,none⟩):=hP' 6 (by decide);have e17:a'.eval (.tmp 17)=.slice ay (Lf').length cy:=hP' 7 (by decide);obtain⟨u18,e18⟩:∃u,a'.eval (.tmp 18)=u:=⟨_,rfl⟩;obtain⟨u19,e19⟩:∃u,a'.eval (.tmp 19)=u:=⟨_,rfl⟩;obtain⟨u20,e20⟩:∃u,a'.eval (.tmp 20)=u:=⟨_,rfl⟩;obtain⟨u21,e21⟩:∃u,a'.eval (.tmp 21)=u:=⟨_,rfl⟩;obtain⟨u22,e22⟩:∃u,a'.eval (.tmp 22)=u:=⟨_,rfl⟩;have hT0:(BuiX0 n (HLi n (Lf++Lf'))) (a'.eval (.tmp 22)) w':=hP' 12 (by decide);rw[e22]at hT0;obtain⟨u23,e23⟩:∃u,a'.eval (.tmp 23)=u:=⟨_,rfl⟩;have hT1:(BuiX1 n (HLi n (Lf++Lf'))) (a'.eval (.tmp 23)) w':=hP' 13 (by decide);rw[e23]at hT1;refine aat hn' hd' hR' (.s4 rfl <| .s4 rfl <| .same rfl <| .same rfl <| .new e10 <| .new e11 <| .new e12 <| .new e13 <| .new e14 <| .new e15 <| .new e16 <| .new e17 <| .new e18 <| .new e19 <| .new e20 <| .new e21 <| .new e22 <| .new e23 <| .nil) ?_;clear e10 e11 e12 e13 e14 e15 e16 e17 e18 e19 e20 e21 e22 e23;have HB2:=hide (HB1.out.trans (hB'.mono HB1.out.size));obtain⟨ev0,hk0⟩:=hT0;obtain⟨pv1,ev1,rfl,hk1⟩:=hT1;have HK:=hide (alm hk0 hk1);clear hk0 hk1 hB' hR' hP' hn' hd';go_wp2;refine bodyPost_ret (v:=_) (by simp[results,Tryz.results23,go_sem];try rfl) rfl ⟨_,_,rfl,HK.out,HB2.out⟩
theorem awc(w:World)(g h n:Nat)(E Lf E' Lf':List (List Int))(hS:Spn w g n E Lf)(hO:Spn w h n E' Lf')(hr:∀l∈E++E',l.length=n+1)(hn:n<=16)(hl1:(E).length<=17)(hl2:(E').length<=17):
  Calls Tryz.prog 24 #[.pointer (some ⟨g,0,none⟩),.pointer (some ⟨h,0,none⟩)] w fun e w'=>∃pv ev,e=.returned (.tuple #[pv,.int .i64 ev])/\BuiK w' n (Cls n (E++E')) pv ev/\Below w.heap.size w w':=by
 obtain⟨se,sl,hSE,hSe,hSl⟩:=hS.at_;obtain⟨te,tl,hTE,hTe,hTl⟩:=hO.at_;have K1:=hide (ahr hSE hTE);have HS:=hide hSE;have HT:=hide hTE;have HX:=hide (show IsM w se E 600 from hSe.wide (by omega));have HY:=hide (show IsM w te E' 600 from hTe.wide (by omega));have HSH:Hid (Shaped (E++E') ((n+1:Nat):Int)):=(show Shaped _ _ from⟨by omega,by omega,by rw[List.length_append];omega,fun r hr'=>by rw[hr r hr']⟩);obtain⟨hgl,c0⟩:=hSE.num;obtain⟨ax,cx,hex,_⟩:=HX.out.parts;obtain⟨ay,cy,hey,_⟩:=HY.out.parts;subst hex hey;have HC0:=hide c0;clear hS hO hSE hSe hSl hTE hTe hTl hr c0;go_enter Tryz.func24,Tryz.ntmps24
 go_wp2_with fail
 refine K1.out.mono ?_;rintro e w1 ⟨rfl,hb1⟩;have HB1:=hide hb1;have HC1:=hide ((hb1.cell (p:=⟨g,0,none⟩) hgl).trans HC0.out);have hgl1:=Nat.lt_of_lt_of_le hgl hb1.size;have HS1:=hide (HS.out.below hb1);have HT1:=hide (HT.out.below hb1);have HX1:=hide (HX.out.below hb1);have HY1:=hide (HY.out.below hb1);clear hb1 K1 HC0 HS HT HX HY hgl;go_upto_region 3 with fail
 refine acz 14 [10,11,12,13,14,15,16,17,18,19,20,21,22,23] [Eqs (.pointer (some ⟨g,0,none⟩)),Eqs (.pointer (some ⟨g,0,none⟩)),Eqs (.pointer (some ⟨g,0,none⟩)),Eqs (.int .i64 (n:Int)),Eqs (.pointer (some ⟨g,0,none⟩)),Eqs (.slice ax (E).length cx),Eqs (.pointer (some ⟨h,0,none⟩)),Eqs (.slice ay (E').length cy),(PairS (.slice ax (E).length cx) (.slice ay (E').length cy) 72),(CatS (E++E') 600),(EqS (E++E') 600),(BuiV n (Cls n (E++E'))),(BuiX0 n (Cls n (E++E'))),(BuiX1 n (Cls n (E++E')))] rfl rfl (by decide) (by kernel_rfl) (by kernel_rfl) (by decide) (by kernel_rfl) ⟨Eqs.mono _,Eqs.mono _,Eqs.mono _,Eqs.mono _,Eqs.mono _,Eqs.mono _,Eqs.mono _,Eqs.mono _,(PairS.mono _ _ _),(CatS.mono _ _),(EqS.mono _ _),(BuiV.mono _ _),(BuiX0.mono _ _),(BuiX1.mono _ _),trivial⟩ ?_ ?_
 ·exact⟨⟨rfl,fun a_ w_ _ hB hR hD=>aal ((hR 0 rfl).trans (aab rfl))⟩,
    ⟨rfl,fun a_ w_ _ hB hR hD=>an7 (show a_.eval (.tmp 10)=.pointer (some ⟨g,0,none⟩)from hD 0 rfl)⟩,
    ⟨rfl,fun a_ w_ _ hB hR hD=>av4 (show a_.eval (.tmp 11)=.pointer (some ⟨g,0,none⟩)from hD 1 rfl)⟩,
    ⟨rfl,fun a_ w_ _ hB hR hD=>an8 (show a_.eval (.tmp 12)=.pointer (some ⟨g,0,none⟩)from hD 2 rfl) ((hB.cell (p:=⟨g,0,none⟩) hgl1).trans HC1.out)⟩,
    ⟨rfl,fun a_ w_ _ hB hR hD=>aal ((hR 0 rfl).trans (aab rfl))⟩,
    ⟨rfl,fun a_ w_ _ hB hR hD=>av6 (show a_.eval (.tmp 14)=.pointer (some ⟨g,0,none⟩)from hD 4 rfl) (HS1.out.below hB)⟩,
    ⟨rfl,fun a_ w_ _ hB hR hD=>aal ((hR 1 rfl).trans (aab rfl))⟩,
    ⟨rfl,fun a_ w_ _ hB hR hD=>av6 (show a_.eval (.tmp 16)=.pointer (some ⟨h,0,none⟩)from hD 6 rfl) (HT1.out.below hB)⟩,
    ⟨rfl,fun a_ w_ _ hB hR hD=>a1n (show a_.eval (.tmp 15)=.slice ax (E).length cx from hD 5 rfl) (show a_.eval (.tmp 17)=.slice ay (E').length cy from hD 7 rfl)⟩,
    ⟨rfl,fun a_ w_ _ hB hR hD=>asq (show(PairS (.slice ax (E).length cx) (.slice ay (E').length cy) 72) (a_.eval (.tmp 18)) w_ from hD 8 rfl) (HX1.out.below hB) (HY1.out.below hB) (by omega)⟩,
    ⟨rfl,fun a_ w_ _ hB hR hD=>a25 (show(CatS (E++E') 600) (a_.eval (.tmp 19)) w_ from hD 9 rfl)⟩,
    ⟨rfl,fun a_ w_ _ hB hR hD=>awa (show a_.eval (.tmp 13)=.int .i64 (n:Int)from hD 3 rfl) (show(EqS (E++E') 600) (a_.eval (.tmp 20)) w_ from hD 10 rfl) HSH.out hn (by omega) (by omega)⟩,
    ⟨rfl,fun a_ w_ _ hB hR hD=>av7 (show(BuiV n (Cls n (E++E'))) (a_.eval (.tmp 21)) w_ from hD 11 rfl)⟩,
    ⟨rfl,fun a_ w_ _ hB hR hD=>av8 (show(BuiV n (Cls n (E++E'))) (a_.eval (.tmp 21)) w_ from hD 11 rfl)⟩,
    trivial⟩
 ·intro a' w' hn' hd' hB' hR' hP';have e10:a'.eval (.tmp 10)=.pointer (some ⟨g,0,none⟩):=hP' 0 (by decide);have e11:a'.eval (.tmp 11)=.pointer (some ⟨g,0,none⟩):=hP' 1 (by decide);have e12:a'.eval (.tmp 12)=.pointer (some ⟨g,0,none⟩):=hP' 2 (by decide);have e13:a'.eval (.tmp 13)=.int .i64 (n:Int):=hP' 3 (by decide);have e14:a'.eval (.tmp 14)=.pointer (some ⟨g,0,none⟩):=hP' 4 (by decide);have e15:a'.eval (.tmp 15)=.slice ax (E).length cx:=hP' 5 (by decide);have e16:a'.eval (.tmp 16)=.pointer (some ⟨h,0,none⟩):=hP' 6 (by decide);have e17:a'.eval (.tmp 17)=.slice ay (E').length cy:=hP' 7 (by decide);obtain⟨u18,e18⟩:∃u,a'.eval (.tmp 18)=u:=⟨_,rfl⟩;obtain⟨u19,e19⟩:∃u,a'.eval (.tmp 19)=u:=⟨_,rfl⟩;obtain⟨u20,e20⟩:∃u,a'.eval (.tmp 20)=u:=⟨_,rfl⟩;obtain⟨u21,e21⟩:∃u,a'.eval (.tmp 21)=u:=⟨_,rfl⟩;obtain⟨u22,e22⟩:∃u,a'.eval (.tmp 22)=u:=⟨_,rfl⟩;have hT0:(BuiX0 n (Cls n (E++E'))) (a'.eval (.tmp 22)) w':=hP' 12 (by decide);rw[e22]at hT0;obtain⟨u23,e23⟩:∃u,a'.eval (.tmp 23)=u:=⟨_,rfl⟩;have hT1:(BuiX1 n (Cls n (E++E'))) (a'.eval (.tmp 23)) w':=hP' 13 (by decide);rw[e23]at hT1;refine aat hn' hd' hR' (.s4 rfl <| .s4 rfl <| .same rfl <| .same rfl <| .new e10 <| .new e11 <| .new e12 <| .new e13 <| .new e14 <| .new e15 <| .new e16 <| .new e17 <| .new e18 <| .new e19 <| .new e20 <| .new e21 <| .new e22 <| .new e23 <| .nil) ?_;clear e10 e11 e12 e13 e14 e15 e16 e17 e18 e19 e20 e21 e22 e23;have HB2:=hide (HB1.out.trans (hB'.mono HB1.out.size));obtain⟨ev0,hk0⟩:=hT0;obtain⟨pv1,ev1,rfl,hk1⟩:=hT1;have HK:=hide (alm hk0 hk1);clear hk0 hk1 hB' hR' hP' hn' hd';go_wp2;refine bodyPost_ret (v:=_) (by simp[results,Tryz.results24,go_sem];try rfl) rfl ⟨_,_,rfl,HK.out,HB2.out⟩
end Lm
namespace Lm
open Go Go.RowKit Md
theorem awd(a b:Int):cmpI a b=0↔a=b:=by
 unfold cmpI;constructor
 ·intro h;split at h
  ·omega
  ·split at h <;> omega
 ·rintro rfl;simp
theorem asr:Has Tryz.prog 66:=by unfold Has;kernel_rfl
theorem ass:Has Tryz.prog 67:=by unfold Has;kernel_rfl
theorem ast(w:World)(x y:Value)(a b:Int)(L:Nat)(hx:IsW a L x w)(hy:IsW b L y w)(hL:L<=400000000):
  Calls Tryz.prog 66 #[x,y] w fun e w'=>e=.returned (.bool (decide (a=b)))/\Below w.heap.size w w':=by
 obtain⟨n1,a1,m1,c1,xs,rfl,A1,l1⟩:=id hx;obtain⟨n2,a2,m2,c2,ys,rfl,A2,l2⟩:=id hy;have hb1:=hAl w (.cells #[.bool n1,.slice a1 m1 c1] 45);have hb2:=hAl (w.alloc (.cells #[.bool n1,.slice a1 m1 c1] 45)) (.cells #[.bool n2,.slice a2 m2 c2] 45);have hb:=hb1.trans (hb2.mono hb1.size);have K:=hide (cmpF _ a b _ _ L L (hx.ru (Ru.of_below hb)) (hy.ru (Ru.of_below hb)) hL hL);have HB:=hide hb;have HZ:=hide (awd a b);clear hx hy A1 A2 l1 l2 hb1 hb2 hb;generalize cmpI a b=cz at *
 go_enter Tryz.func66,Tryz.ntmps66
 go_wp2_with fail
 refine K.out.mono ?_;rintro e w3 ⟨rfl,hb3⟩;have HB3:=hide (HB.out.trans (hb3.mono HB.out.size));clear hb3 K;by_cases h0:cz=0
 ·have hd:=decide_eq_true (HZ.out.1 h0);have HD:=hide hd;subst h0;clear hd;go_wp2;refine bodyPost_ret (v:=_) (by simp[results,Tryz.results66,go_sem];try rfl) rfl ⟨by rw[HD.out],HB3.out⟩
 ·have hd:decide (a=b)=false:=decide_eq_false (fun h=>h0 (HZ.out.2 h));have HD:=hide hd;clear hd;have h0':(cz==0)=false:=by simpa using h0
  go_wp2;refine bodyPost_ret (v:=_) (by simp[results,Tryz.results66,go_sem];try rfl) rfl ⟨by rw[HD.out],HB3.out⟩
theorem aqv{α:Type}{xs ys:List α}{k:Nat}{x y:α}(h:xs.take k=ys.take k)(hx:xs[k]? = some x)(hy:ys[k]? = some y)(e:x=y):xs.take (k+1)=ys.take (k+1):=by
 rw[List.take_add_one,List.take_add_one,h,hx,hy,e]
theorem ayr(w:World)(v v':Value)(zs ys:List Int)(L:Nat)(h:IsRow w v zs L)(h':IsRow w v' ys L)(hL:L<=400000000):
  Calls Tryz.prog 68 #[v,v',.func (.func 66) #[] #[]] w fun e w'=>e=.returned (.bool (decide (zs=ys)))/\Below w.heap.size w w':=by
 obtain⟨ao,cp,rfl,hn⟩:=h.parts;obtain⟨bo,dp,rfl,hm⟩:=h'.parts;have H:=hide h;have H':=hide h';clear h h';obtain⟨n,hnn⟩:∃n,zs.length=n:=⟨_,rfl⟩;obtain⟨m,hmm⟩:∃m,ys.length=m:=⟨_,rfl⟩;rw[hnn]at H hn ⊢;rw[hmm]at H' hm ⊢;have HN:=hide (And.intro hnn hmm);clear hnn hmm;go_enter Tryz.func68,Tryz.ntmps68
 by_cases hnm:n=m
 case neg=>
  have hd:decide (zs=ys)=false:=decide_eq_false (fun e=>hnm (by rw[<-HN.out.1,<-HN.out.2,e]));rw[hd];have hnm1:¬(n:Int)=(m:Int):=by omega
  have hnm2:((n:Int) != (m:Int))=true:=by simpa using hnm1
  go_wp2;refine bodyPost_ret (v:=_) (by simp[results,Tryz.results68,go_sem];try rfl) rfl ⟨rfl,Below.refl _ _⟩
 subst hnm;have hnm2:((n:Int) != (n:Int))=false:=by simp
 go_wp2;go_loopw [17] (fun iv wr=>∃(k:Nat),iv=.int .i64 k/\k<=n/\zs.take k=ys.take k/\Below w.heap.size w wr) (fun iv _=>n-(intOf iv).toNat)
 case atStart=>exact⟨0,rfl,Nat.zero_le _,by simp,Below.refl _ _⟩
 case round=>
  obtain⟨k,rfl,hk,heq,hbw⟩:=hrel;have HW:=hide hbw;have HY:=hide heq;by_cases hlt:k<n
  ·obtain⟨z,hz⟩:∃z,zs[k]? = some z:=⟨_,List.getElem?_eq_getElem (by have:=HN.out;omega)⟩;obtain⟨y,hy⟩:∃y,ys[k]? = some y:=⟨_,List.getElem?_eq_getElem (by have:=HN.out;omega)⟩;obtain⟨b,off,ngx,ax,mx,cx,rfl,hbl,x0,x1,hx⟩:=H.out.cell hz;obtain⟨b2,off2,ngy,ay,my,cy,rfl,hbl2,y0,y1,hyw⟩:=H'.out.cell hy;replace x0:=(hbw.cell (p:=⟨b,off+k*2,none⟩) hbl).trans x0;replace x1:=(hbw.cell (p:=⟨b,off+k*2+1,none⟩) hbl).trans x1;replace y0:=(hbw.cell (p:=⟨b2,off2+k*2,none⟩) hbl2).trans y0;replace y1:=(hbw.cell (p:=⟨b2,off2+k*2+1,none⟩) hbl2).trans y1;have hb1r:=Nat.lt_of_lt_of_le hbl hbw.size;have hb2r:=Nat.lt_of_lt_of_le hbl2 hbw.size;have hlt':(k:Int)<(n:Int):=by omega
   have hA1:=hAl wr (.cells #[.bool ngx,.slice ax mx cx] 45);have hA2:=hAl (wr.alloc (.cells #[.bool ngx,.slice ax mx cx] 45)) (.cells #[.bool ngy,.slice ay my cy] 45);have hA:=hA1.trans (hA2.mono hA1.size);have hall:=hbw.trans (hA.mono hbw.size);have KC:=hide (ast _ _ _ z y L (hx.ru (Ru.of_below hall)) (hyw.ru (Ru.of_below hall)) hL);have HZ:=hide (And.intro hz hy);have HALL:=hide hall;clear hbw heq hx hz hy hyw hA1 hA2 hA hall hbl hbl2;have hE:∀args w,(callFunc 66 args).run Tryz.prog w=.ok (.enter 66 args) w:=fun args w=>asr.enter args w
   go_wp2_with fail
   refine KC.out.mono ?_;rintro e w3 ⟨rfl,hb3⟩;have HB3:=hide (HALL.out.trans (hb3.mono HALL.out.size));clear hb3 KC hE x0 x1 y0 y1 hb1r hb2r;by_cases hzy:z=y
   ·have hd:decide (z=y)=true:=decide_eq_true hzy;have HZY:=hide hzy;rw[hd];clear hd hzy;go_wp2;go_roundw
    case rel=>exact⟨k+1,by go_num,by omega,aqv HY.out HZ.out.1 HZ.out.2 HZY.out,HB3.out⟩
    case measure=>simp[intOf];omega
   ·have hd:decide (z=y)=false:=decide_eq_false hzy;have hd2:decide (zs=ys)=false:=decide_eq_false (fun e=>hzy (by
     have h1:=HZ.out.1;rw[e,HZ.out.2]at h1
     exact(Option.some.inj h1).symm))
    have HD2:=hide hd2;rw[hd];clear hd hd2 hzy;go_wp2;refine bodyPost_ret (v:=_) (by simp[results,Tryz.results68,go_sem];try rfl) rfl ⟨by rw[HD2.out],HB3.out⟩
  ·have hlt':decide ((k:Int)<(n:Int))=false:=by simp;omega
   obtain rfl:n=k:=by omega
   have hd:decide (zs=ys)=true:=decide_eq_true (by
    have h1:=HY.out
    rwa[List.take_of_length_le (by have:=HN.out;omega),List.take_of_length_le (by have:=HN.out;omega)]at h1)
   have HD:=hide hd;clear hbw heq hd;go_wp2;refine bodyPost_ret (v:=_) (by simp[results,Tryz.results68,go_sem];try rfl) rfl ⟨by rw[HD.out],HW.out⟩
theorem asu(w:World)(v v':Value)(zs ys:List Int)(L gb:Nat)(T:TypeId)(h:IsRow w v zs L)(h':IsRow w v' ys L)(hg:w.heap[gb]? = some (.cells #[.func (.func 66) #[] #[]] T (0,0)))(hL:L<=400000000):
  Calls Tryz.prog 67 (#[v,v'] ++ #[.pointer (some ⟨gb,0,none⟩)]) w fun e w'=>e=.returned (.bool (decide (zs=ys)))/\Below w.heap.size w w':=by
 have K:=hide (ayr w v v' zs ys L h h' hL);obtain⟨ao,cp,rfl,hn⟩:=h.parts;obtain⟨bo,dp,rfl,hm⟩:=h'.parts;obtain⟨hgl,c0,_⟩:=aad hg;clear h h' hg;generalize decide (zs=ys)=dd at *
 generalize zs.length=n at *
 generalize ys.length=m at *
 go_enter Tryz.func67,Tryz.ntmps67
 go_wp2_with fail
 refine K.out.mono ?_;rintro e w3 ⟨rfl,hb3⟩;have HB3:=hide hb3;clear hb3 K;go_wp2;refine bodyPost_ret (v:=_) (by simp[results,Tryz.results67,go_sem];try rfl) rfl ⟨rfl,HB3.out⟩
theorem ays(w:World)(v v':Value)(rows rows':List (List Int))(L gb:Nat)(T:TypeId)(h:IsM w v rows L)(h':IsM w v' rows' L)(hg:w.heap[gb]? = some (.cells #[.func (.func 66) #[] #[]] T (0,0)))(hL:L<=400000000):
  Calls Tryz.prog 69 #[v,v',.func (.func 67) #[] #[.pointer (some ⟨gb,0,none⟩)]] w fun e w'=>e=.returned (.bool (decide (rows=rows')))/\Below w.heap.size w w':=by
 obtain⟨ao,cp,rfl,hn⟩:=h.parts;obtain⟨bo,dp,rfl,hm⟩:=h'.parts;have H:=hide h;have H':=hide h';have HGB:=hide hg;clear h h' hg;obtain⟨n,hnn⟩:∃n,rows.length=n:=⟨_,rfl⟩;obtain⟨m,hmm⟩:∃m,rows'.length=m:=⟨_,rfl⟩;rw[hnn]at H hn ⊢;rw[hmm]at H' hm ⊢;have HN:=hide (And.intro hnn hmm);clear hnn hmm;go_enter Tryz.func69,Tryz.ntmps69
 by_cases hnm:n=m
 case neg=>
  have hd:decide (rows=rows')=false:=decide_eq_false (fun e=>hnm (by rw[<-HN.out.1,<-HN.out.2,e]));rw[hd];have hnm1:¬(n:Int)=(m:Int):=by omega
  have hnm2:((n:Int) != (m:Int))=true:=by simpa using hnm1
  go_wp2;refine bodyPost_ret (v:=_) (by simp[results,Tryz.results69,go_sem];try rfl) rfl ⟨rfl,Below.refl _ _⟩
 subst hnm;have hnm2:((n:Int) != (n:Int))=false:=by simp
 go_wp2;go_loopw [17] (fun iv wr=>∃(k:Nat),iv=.int .i64 k/\k<=n/\rows.take k=rows'.take k/\Below w.heap.size w wr) (fun iv _=>n-(intOf iv).toNat)
 case atStart=>exact⟨0,rfl,Nat.zero_le _,by simp,Below.refl _ _⟩
 case round=>
  obtain⟨k,rfl,hk,heq,hbw⟩:=hrel;have HW:=hide hbw;have HY:=hide heq;by_cases hlt:k<n
  ·obtain⟨z,hz⟩:∃z,rows[k]? = some z:=⟨_,List.getElem?_eq_getElem (by have:=HN.out;omega)⟩;obtain⟨y,hy⟩:∃y,rows'[k]? = some y:=⟨_,List.getElem?_eq_getElem (by have:=HN.out;omega)⟩;obtain⟨b,off,u,rfl,hbl,x0,hx⟩:=H.out.cell hz;obtain⟨b2,off2,u2,rfl,hbl2,y0,hyw⟩:=H'.out.cell hy;replace x0:=(hbw.cell (p:=⟨b,off+k,none⟩) hbl).trans x0;replace y0:=(hbw.cell (p:=⟨b2,off2+k,none⟩) hbl2).trans y0;have hb1r:=Nat.lt_of_lt_of_le hbl hbw.size;have hb2r:=Nat.lt_of_lt_of_le hbl2 hbw.size;have hlt':(k:Int)<(n:Int):=by omega
   have KC:=hide (asu wr u u2 z y L gb T (hx.below hbw) (hyw.below hbw) ((hbw.block _ (aaa HGB.out)).trans HGB.out) hL);have HZ:=hide (And.intro hz hy);obtain⟨au,cu,rfl,_⟩:=hx.parts;obtain⟨au2,cu2,rfl,_⟩:=hyw.parts;clear hbw heq hx hz hy hyw hbl hbl2;generalize z.length=q at *
   generalize y.length=q2 at *
   have hE:∀args w,(callFunc 67 args).run Tryz.prog w=.ok (.enter 67 args) w:=fun args w=>ass.enter args w
   go_wp2_with fail
   refine KC.out.mono ?_;rintro e w3 ⟨rfl,hb3⟩;have HB3:=hide (HW.out.trans (hb3.mono HW.out.size));clear hb3 KC hE x0 y0 hb1r hb2r;by_cases hzy:z=y
   ·have hd:decide (z=y)=true:=decide_eq_true hzy;have HZY:=hide hzy;rw[hd];clear hd hzy;go_wp2;go_roundw
    case rel=>exact⟨k+1,by go_num,by omega,aqv HY.out HZ.out.1 HZ.out.2 HZY.out,HB3.out⟩
    case measure=>simp[intOf];omega
   ·have hd:decide (z=y)=false:=decide_eq_false hzy;have hd2:decide (rows=rows')=false:=decide_eq_false (fun e=>hzy (by
     have h1:=HZ.out.1;rw[e,HZ.out.2]at h1
     exact(Option.some.inj h1).symm))
    have HD2:=hide hd2;rw[hd];clear hd hd2 hzy;go_wp2;refine bodyPost_ret (v:=_) (by simp[results,Tryz.results69,go_sem];try rfl) rfl ⟨by rw[HD2.out],HB3.out⟩
  ·have hlt':decide ((k:Int)<(n:Int))=false:=by simp;omega
   obtain rfl:n=k:=by omega
   have hd:decide (rows=rows')=true:=decide_eq_true (by
    have h1:=HY.out
    rwa[List.take_of_length_le (by have:=HN.out;omega),List.take_of_length_le (by have:=HN.out;omega)]at h1)
   have HD:=hide hd;clear hbw heq hd;go_wp2;refine bodyPost_ret (v:=_) (by simp[results,Tryz.results69,go_sem];try rfl) rfl ⟨by rw[HD.out],HW.out⟩
theorem ab1(w:World)(g h n:Nat)(E Lf E' Lf':List (List Int))(hS:Spn w g n E Lf)(hO:Spn w h n E' Lf'):
  Calls Tryz.prog 27 #[.pointer (some ⟨g,0,none⟩),.pointer (some ⟨h,0,none⟩)] w fun e w'=>e=.returned (.bool (decide (E=E')))/\Below w.heap.size w w':=by
 obtain⟨se,sl,hSE,hSe,hSl⟩:=hS.at_;obtain⟨te,tl,hTE,hTe,hTl⟩:=hO.at_;have hb:=hAl w (.cells #[.func (.func 66) #[] #[]] 99);have hnw:=heap_alloc_new w (.cells #[.func (.func 66) #[] #[]] 99);obtain⟨ae,ce,hee,_⟩:=hSe.parts;obtain⟨be,de,hfe,_⟩:=hTe.parts;subst hee hfe;have K1:=hide (ahr (hSE.below hb) (hTE.below hb));have HS:=hide hSE;have HT:=hide hTE;have HE:=hide hSe;have HF:=hide hTe;have HB:=hide hb;have HN:=hide hnw;have hmf:∀(fn:Fn) (first cap:Array Value) (w:World),(Instr.makeFunc fn first cap).run Tryz.prog w=.ok (.func fn first cap) w:=fun _ _ _ _=>rfl
 have hsf:∀(p:Addr) (w:World),(store p (.func (.func 66) #[] #[])).run Tryz.prog w=stored Tryz.prog w p (.func (.func 66) #[] #[]) .plain:=fun p w=>run_store Tryz.prog w p _ .plain rfl
 clear hS hO hSE hSe hSl hTE hTe hTl hb hnw;go_enter Tryz.func27,Tryz.ntmps27
 go_wp2_with fail
 refine K1.out.mono ?_;rintro e w1 ⟨rfl,hb1⟩;have HB1:=hide (HB.out.trans (hb1.mono HB.out.size));have HN1:=hide ((hb1.block _ (aaa HN.out)).trans HN.out);have K2:=hide (ae9 (HS.out.below HB1.out));clear hb1 K1 HN HB;go_wp2_with fail
 refine K2.out.mono ?_;rintro e w2 ⟨rfl,hb2⟩;have HB2:=hide (HB1.out.trans (hb2.mono HB1.out.size));have HN2:=hide ((hb2.block _ (aaa HN1.out)).trans HN1.out);have K3:=hide (ae9 (HT.out.below HB2.out));clear hb2 K2;go_wp2_with fail
 refine K3.out.mono ?_;rintro e w3 ⟨rfl,hb3⟩;have HB3:=hide (HB2.out.trans (hb3.mono HB2.out.size));have HN3:=hide ((hb3.block _ (aaa HN2.out)).trans HN2.out);have K4:=ays w3 _ _ E E' 32 w.heap.size _ (HE.out.below HB3.out) (HF.out.below HB3.out) HN3.out (by omega);obtain⟨dd,hdd⟩:∃dd,decide (E=E')=dd:=⟨_,rfl⟩;rw[hdd]at K4;have K4:=hide K4;have HDD:=hide hdd;clear hb3 K3 hdd;go_wp2_with fail
 refine K4.out.mono ?_;rintro e w4 ⟨rfl,hb4⟩;have HB4:=hide (HB3.out.trans (hb4.mono HB3.out.size));clear hb4 K4;go_wp2;refine bodyPost_ret (v:=_) (by simp[results,Tryz.results27,go_sem];try rfl) rfl ⟨by rw[HDD.out],HB4.out⟩
end Lm
namespace Lm
open Go Go.RowKit Md
def PtsK(w':World)(n:Nat)(pts:List (List Rat))(pv:Value)(ev:Int):Prop:=
 (ShpQ pts n 0=false/\pv=.pointer none/\ev=1) \/
 (ShpQ pts n 0=true/\((pv=.pointer none/\ev=2/\∃E0,BigF n E0/\∀y,Out (n+1) y->(RS (E0.map fnR) y↔(∀z∈pts.map liftZ,fnR z n=0)\/Hld n (pts.map liftZ) y)) \/
  ∃g E Lf,pv=.pointer (some ⟨g,0,none⟩)/\ev=0/\Spn w' g n E Lf/\Kept n E Lf/\(∀l∈Lf,RS ((pts.map liftZ).map fnR) (fnR l))/\∀y,Out (n+1) y->(Hld n Lf y↔(∀z∈pts.map liftZ,fnR z n=0)\/Hld n (pts.map liftZ) y)))
theorem awe{pts:List (List Rat)}{n:Nat}(h:ShpQ pts n 0=true):∀z∈pts.map liftZ,z.length=n+1:=fun z hz=>by
 obtain⟨ps,hp,rfl⟩:=List.mem_map.1 hz;have:=(of_decide_eq_true h).2.2 ps hp;rw[abl];omega
theorem BuiL.spn{w':World}{n:Nat}{ls:List (List Int)}{e:Ending}(hl:∀z∈ls,z.length=n+1)(h:BuiL w' n ls e):
  (e=.returned (.tuple #[.pointer none,.int .i64 2])/\∃E0,BigF n E0/\∀y,Out (n+1) y->(RS (E0.map fnR) y↔(∀z∈ls,fnR z n=0)\/Hld n ls y)) \/
  ∃g E Lf,e=.returned (.tuple #[.pointer (some ⟨g,0,none⟩),.int .i64 0])/\Spn w' g n E Lf/\Kept n E Lf/\(∀l∈Lf,RS (ls.map fnR) (fnR l))/\∀y,Out (n+1) y->(Hld n Lf y↔(∀z∈ls,fnR z n=0)\/Hld n ls y):=by
 rcases h with⟨hb,rfl⟩|⟨g,made,twin,low,eqs,rfl,hat,hli,heq,hlo,htw⟩
 ·exact .inl ⟨rfl,errL hl hb⟩
 ·obtain⟨sl,rfl,hsl⟩:=hli;obtain⟨se,rfl,hse⟩:=heq;obtain⟨h1,h2,h3⟩:=afk hl hlo htw;exact .inr ⟨g,eqs,low,rfl,⟨se,sl,.inl hat,hse,hsl⟩,h1,h2,h3⟩
theorem BuiE.spn{w':World}{n:Nat}{rows:List (List Int)}{e:Ending}(hl:∀z∈rows,z.length=n+1)(h:BuiE w' n rows e):
  (e=.returned (.tuple #[.pointer none,.int .i64 2])/\∃E0,BigF n E0/\∀y,Out (n+1) y->(RS (E0.map fnR) y↔Cls n rows y)) \/
  ∃g E Lf,e=.returned (.tuple #[.pointer (some ⟨g,0,none⟩),.int .i64 0])/\Spn w' g n E Lf/\Kept n E Lf/\∀y,Out (n+1) y->(Hld n Lf y↔Cls n rows y):=by
 rcases h with⟨hb,rfl⟩|⟨g,made,twin,low,eqs,rfl,hat,heq,hli,hlo,htw⟩
 ·exact .inl ⟨rfl,errE hl hb⟩
 ·obtain⟨sl,rfl,hsl⟩:=hli;obtain⟨se,rfl,hse⟩:=heq;obtain⟨h1,h2⟩:=alj hl hlo htw;exact .inr ⟨g,low,eqs,rfl,⟨se,sl,.inr hat,hse,hsl⟩,h1,h2⟩
theorem PtsO.k{w':World}{n:Nat}{pts:List (List Rat)}{e:Ending}(h:PtsO w' n pts e):∃pv ev,e=.returned (.tuple #[pv,.int .i64 ev])/\PtsK w' n pts pv ev:=by
 rcases h with⟨h1,rfl⟩|⟨h1,h2⟩
 ·exact⟨_,_,rfl,.inl ⟨h1,rfl,rfl⟩⟩
 ·rcases h2.spn (awe h1) with⟨rfl,h3⟩|⟨g,E,Lf,rfl,h3⟩
  ·exact⟨_,_,rfl,.inr ⟨h1,.inl ⟨rfl,rfl,h3⟩⟩⟩
  ·exact⟨_,_,rfl,.inr ⟨h1,.inr ⟨g,E,Lf,rfl,rfl,h3⟩⟩⟩
def RowsK(w':World)(n:Nat)(rows:List (List Int))(pv:Value)(ev:Int):Prop:=
 (ShpB rows n 1=false/\pv=.pointer none/\ev=1) \/
 (ShpB rows n 1=true/\((pv=.pointer none/\ev=2/\∃E0,BigF n E0/\∀y,Out (n+1) y->(RS (E0.map fnR) y↔Cls n rows y)) \/
  ∃g E Lf,pv=.pointer (some ⟨g,0,none⟩)/\ev=0/\Spn w' g n E Lf/\Kept n E Lf/\∀y,Out (n+1) y->(Hld n Lf y↔Cls n rows y)))
theorem RowsO.k{w':World}{n:Nat}{rows:List (List Int)}{e:Ending}(h:RowsO w' n rows e):∃pv ev,e=.returned (.tuple #[pv,.int .i64 ev])/\RowsK w' n rows pv ev:=by
 rcases h with⟨h1,rfl⟩|⟨h1,h2⟩
 ·exact⟨_,_,rfl,.inl ⟨h1,rfl,rfl⟩⟩
 ·rcases h2.spn (of_decide_eq_true h1).2.2 with⟨rfl,h3⟩|⟨g,E,Lf,rfl,h3⟩
  ·exact⟨_,_,rfl,.inr ⟨h1,.inl ⟨rfl,rfl,h3⟩⟩⟩
  ·exact⟨_,_,rfl,.inr ⟨h1,.inr ⟨g,E,Lf,rfl,rfl,h3⟩⟩⟩
theorem aqw{n:Nat}{x l:List Int}: mk0 n x l=true↔dotN n (fnR l) (fnR x)=0:=by
 unfold mk0;rw[decide_eq_true_iff]
theorem aqx{n:Nat}{Lf:List (List Int)}{row:List Int}: Lf.all (mk0 (n+1) row)=true↔Hld n Lf (fnR row):=by
 rw[List.all_eq_true];constructor
 ·intro h l hl;rw[aax];exact aqw.1 (h l hl)
 ·intro h l hl;rw[aqw,aax];exact h l hl
theorem Kept.own{n:Nat}{E Lf:List (List Int)}(h:Kept n E Lf):∀e∈E,Hld n Lf (fnR e):=fun e he=>(h.hld (aar (h.row.1 e he))).2 (.inr (.mem (List.mem_map.2 ⟨e,he,rfl⟩)))
section
end
end Lm
namespace Lm
open Go Go.RowKit Md
theorem FQ.parts{w:World}{e:FQ}(h1:Sl w (.slice e.r.a e.r.m e.r.c) e.zs)(h2:Sl w (.slice e.r.d e.r.k e.r.e) e.ys):(e.w.num.natAbs:Int)<pw (e.r.m+1)/\(e.w.den:Int)<pw (e.r.k+1):=by
 have l1:e.zs.length=e.r.m:=by
  obtain⟨_,_,g,_⟩:=h1;have g:=(Value.slice.injEq .. ▸ g);omega
 have l2:e.ys.length=e.r.k:=by
  obtain⟨_,_,g,_⟩:=h2;have g:=(Value.slice.injEq .. ▸ g);omega
 have b1:=aac h1.parts.2.2.2;have b2:=aac h2.parts.2.2.2;rw[l1]at b1;rw[l2]at b2;have m1:pw (e.r.m+1)=4294967296*pw e.r.m:=rfl;have m2:pw (e.r.k+1)=4294967296*pw e.r.k:=rfl;have p1:=aak e.r.m;have p2:=aak e.r.k;have hp:(e.p.natAbs:Int)=val e.zs:=by
  unfold FQ.p sg;split <;> omega
 by_cases hq:e.q=0
 ·have hw:e.w=0:=by
   unfold FQ.w;rw[hq,Rat.divInt_zero]
  rw[hw];refine⟨?_,?_⟩
  ·show((0:Int).natAbs:Int)<_;omega
  ·show((1:Nat):Int)<_;omega
 ·obtain⟨h3,h4⟩:=aeo (z:=e.p) hq;have hq2:(e.q.natAbs:Int)=val e.ys:=by
   unfold FQ.q;omega
  have h5:e.w=Rat.divInt e.p e.q:=rfl;rw[<-h5]at h3 h4;exact⟨by omega,by omega⟩
def denQ:List FQ->Nat
 | []=>0
 |e::es=>e.r.k+1+denQ es
theorem awf(es:List FQ)(k:Nat):denQ (es.take k)<=denQ es:=by
 induction es generalizing k with
 |nil=>simp[denQ]
 |cons e es ih=>
  cases k with
  |zero=>simp[denQ]
  |succ k=>
   have:=ih k;simp only[List.take_succ_cons,denQ];omega
theorem ayt{es:List FQ}{e:FQ}(h:e∈es):e.r.m+denQ es<=lenFQ es:=by
 have hd:∀es:List FQ,denQ es<=lenFQ es:=fun es=>by
  induction es with
  |nil=>simp[denQ,lenFQ]
  |cons e es ih=>simp only[denQ,lenFQ];omega
 induction es with
 |nil=>cases h
 |cons x es ih=>
  simp only[denQ,lenFQ];rcases List.mem_cons.1 h with rfl|h
  ·have:=hd es;omega
  ·have:=ih h;omega
theorem ayu(es:List FQ):denQ es<=lenFQ es:=by
 induction es with
 |nil=>simp[denQ,lenFQ]
 |cons e es ih=>simp only[denQ,lenFQ];omega
theorem aqy:∀(es:List FQ) (z:Int) (A:Nat),(∀e∈es,(e.w.den:Int)<pw (e.r.k+1))->(z.natAbs:Int)<pw A->((wOf z (es.map FQ.w)).natAbs:Int)<pw (A+denQ es)
 | [],z,A,_,h=>by simpa[wOf,denQ]using h
 |e::es,z,A,hr,h=>by
  have h1:=aqn z e.w;have h2:=hr e (List.mem_cons_self ..);have h3:((((z:Rat)*e.w).den:Int).natAbs:Int)<pw (e.r.k+1):=by omega
  have h4:=aqy es (z*(((z:Rat)*e.w).den:Int)) (A+(e.r.k+1)) (fun r hr'=>hr r (List.mem_cons_of_mem _ hr')) (aew h h3);rw[show A+denQ (e::es)=A+(e.r.k+1)+denQ es by simp only[denQ];omega];exact h4
theorem ayv{es:List FQ}(h:∀e∈es,(e.w.num.natAbs:Int)<pw (e.r.m+1)/\(e.w.den:Int)<pw (e.r.k+1)):(∀k,((wOf 1 ((es.map FQ.w).take k)).natAbs:Int)<pw (lenFQ es+3))/\∀z∈liftZ (es.map FQ.w),(z.natAbs:Int)<pw (lenFQ es+3):=by
 have hw:∀k,((wOf 1 ((es.map FQ.w).take k)).natAbs:Int)<pw (1+denQ es):=fun k=>by
  rw[<-List.map_take];have h1:=aqy (es.take k) 1 1 (fun e he=>(h e (List.mem_of_mem_take he)).2) (by decide);have h2:pw (1+denQ (es.take k))<=pw (1+denQ es):=aap (by have:=awf es k;omega);omega
 have hl:=ayu es;refine⟨fun k=>?_,fun z hz=>?_⟩
 ·have h1:=hw k;have h2:pw (1+denQ es)<=pw (lenFQ es+3):=aap (by omega);omega
 ·have h0:=hw (es.map FQ.w).length;rw[List.take_length]at h0;rcases List.mem_append.1 hz with hz|hz
  ·obtain⟨r,hr,rfl⟩:=List.mem_map.1 hz;obtain⟨e,he,rfl⟩:=List.mem_map.1 hr;obtain⟨h1,h2⟩:=h e he;have hm:=ayt he;have hn:((((wOf 1 (es.map FQ.w):Int):Rat)*e.w).num.natAbs:Int)<pw (1+denQ es+(e.r.m+1)):=by
    have e1:((wOf 1 (es.map FQ.w):Int):Rat)*e.w=Rat.divInt (wOf 1 (es.map FQ.w)*e.w.num) (1*e.w.den):=by
     conv=>lhs;rw[alc ((wOf 1 (es.map FQ.w):Int):Rat),alc e.w,Rat.divInt_mul_divInt]
     simp
    obtain⟨h3,_⟩:=aeo (z:=wOf 1 (es.map FQ.w)*e.w.num) (u:=1*e.w.den) (by have:=ahm e.w;omega);rw[<-e1]at h3;have h4:=aew h0 h1;omega
   have h5:pw (1+denQ es+(e.r.m+1))<=pw (lenFQ es+3):=aap (by omega);omega
  ·obtain rfl:=List.mem_singleton.1 hz;have h2:pw (1+denQ es)<=pw (lenFQ es+3):=aap (by omega);rw[Int.natAbs_neg];omega
theorem asv(w:World)(v:Value)(fss:List (List FQ))(n:Nat)(h:RfM w v fss)(hb:lenFM fss<=1048576)(hn:n<=9223372036854775807):
  Calls Tryz.prog 35 #[.int .i64 (n:Int),v] w fun e w'=>PtsO w' n (zsF fss) e/\Below w.heap.size w w':=by
 refine ain w v (zsF fss) 1048577 1048579 n (h.isQM (by omega)) hn (by omega) (by omega) (by omega) (fun ps hps _=>?_);obtain⟨es,hes,rfl⟩:=List.mem_map.1 hps;obtain⟨vs,h1,h2⟩:=h;obtain⟨i,hi⟩:=List.mem_iff_getElem?.1 hes;have hil:=(List.getElem?_eq_some_iff.1 hi).1;obtain⟨_,_,_,_,_,hvl,_⟩:=h1;obtain⟨u,hu⟩:∃u,vs[i]? = some u:=⟨_,List.getElem?_eq_getElem (by omega)⟩;have hR:=h2 i u es hu hi;have hm:=alk hes;obtain⟨k1,k2⟩:=ayv (es:=es) (fun e he=>FQ.parts (hR.s1 e he) (hR.s2 e he));have hp:pw (lenFQ es+3)<=pw 1048579:=aap (by omega);exact⟨fun k=>by have:=k1 k;omega,fun z hz=>by have:=k2 z hz;omega⟩
theorem an9(w:World)(v:Value)(K more:Int)(hK:K<0):
  Calls Tryz.prog 80 #[.int .i64 K,v,.int .i64 more] w fun e w'=>e=.returned (.bool false)/\Below w.heap.size w w':=by
 have hb1:=hAl w (.cells #[.int .i64 K] 3);have hb2:=hAl (w.alloc (.cells #[.int .i64 K] 3)) (.cells #[.int .i64 more] 3);have HB:=hide (hb1.trans (hb2.mono hb1.size));clear hb1 hb2;go_enter Tryz.func80,Tryz.ntmps80
 go_wp2;refine bodyPost_ret (v:=_) (by simp[results,Tryz.results80,go_sem];try rfl) rfl ⟨rfl,HB.out⟩
theorem aoa(w:World)(v:Value)(K more:Int)(hK:K<0):
  Calls Tryz.prog 81 #[.int .i64 K,v,.int .i64 more] w fun e w'=>e=.returned (.bool false)/\Below w.heap.size w w':=by
 have hb1:=hAl w (.cells #[.int .i64 K] 3);have hb2:=hAl (w.alloc (.cells #[.int .i64 K] 3)) (.cells #[.int .i64 more] 3);have HB:=hide (hb1.trans (hb2.mono hb1.size));clear hb1 hb2;go_enter Tryz.func81,Tryz.ntmps81
 go_wp2;refine bodyPost_ret (v:=_) (by simp[results,Tryz.results81,go_sem];try rfl) rfl ⟨rfl,HB.out⟩
theorem apm(w:World)(v:Value)(K:Int)(hK:K<0):
  Calls Tryz.prog 35 #[.int .i64 K,v] w fun e w'=>e=.returned (.tuple #[.pointer none,.int .i64 1])/\Below w.heap.size w w':=by
 have K1:=hide (an9 w v K 0 hK);go_enter Tryz.func35,Tryz.ntmps35
 go_wp2_with fail
 refine K1.out.mono ?_;rintro e w1 ⟨rfl,hb⟩;have HB:=hide hb;clear hb K1;go_wp2;refine bodyPost_ret (v:=_) (by simp[results,Tryz.results35,go_sem];try rfl) rfl ⟨rfl,HB.out⟩
theorem awg(w:World)(v:Value)(K:Int)(hK:K<0):
  Calls Tryz.prog 36 #[.int .i64 K,v] w fun e w'=>e=.returned (.tuple #[.pointer none,.int .i64 1])/\Below w.heap.size w w':=by
 have K1:=hide (aoa w v K 1 hK);go_enter Tryz.func36,Tryz.ntmps36
 go_wp2_with fail
 refine K1.out.mono ?_;rintro e w1 ⟨rfl,hb⟩;have HB:=hide hb;clear hb K1;go_wp2;refine bodyPost_ret (v:=_) (by simp[results,Tryz.results36,go_sem];try rfl) rfl ⟨rfl,HB.out⟩
def AloO(w:World)(K:Int)(pv:Value):Prop:=pv=.pointer none\/∃g n E Lf,K=((n:Nat):Int)/\n<=16/\pv=.pointer (some ⟨g,0,none⟩)/\Spn w g n E Lf/\Kept n E Lf
theorem AloO.below{w w':World}{K:Int}{pv:Value}(h:AloO w K pv)(hb:Below w.heap.size w w'):AloO w' K pv:=by
 rcases h with h|⟨g,n,E,Lf,h1,h2,h3,h4,h5⟩
 ·exact .inl h
 ·exact .inr ⟨g,n,E,Lf,h1,h2,h3,h4.below hb,h5⟩
theorem spointsI(w:World)(v:Value)(fss:List (List FQ))(K:Int)(h:RfM w v fss)(hb:lenFM fss<=1048576)(hn:K<=9223372036854775807):
  Calls Tryz.prog 35 #[.int .i64 K,v] w fun e w'=>∃pv ev,e=.returned (.tuple #[pv,.int .i64 ev])/\AloO w' K pv/\Below w.heap.size w w':=by
 by_cases hK:K<0
 ·refine(apm w v K hK).mono ?_;rintro e w' ⟨rfl,hb⟩;exact⟨_,_,rfl,.inl rfl,hb⟩
 ·obtain⟨n,rfl⟩:∃n:Nat,K=n:=⟨K.toNat,by omega⟩;refine(asv w v fss n h hb (by omega)).mono ?_;rintro e w' ⟨ho,hb⟩;obtain⟨pv,ev,rfl,hk⟩:=ho.k;refine⟨pv,ev,rfl,?_,hb⟩;rcases hk with⟨_,rfl,_⟩|⟨hs,⟨rfl,_⟩|⟨g,E,Lf,rfl,_,h1,h2,_⟩⟩
  ·exact .inl rfl
  ·exact .inl rfl
  ·exact .inr ⟨g,n,E,Lf,rfl,(of_decide_eq_true hs).1,rfl,h1,h2⟩
theorem srowsI(w:World)(v:Value)(rows:List (List Int))(K:Int)(h:IsM w v rows 1048577)(hn:K<=9223372036854775807):
  Calls Tryz.prog 36 #[.int .i64 K,v] w fun e w'=>∃pv ev,e=.returned (.tuple #[pv,.int .i64 ev])/\AloO w' K pv/\Below w.heap.size w w':=by
 by_cases hK:K<0
 ·refine(awg w v K hK).mono ?_;rintro e w' ⟨rfl,hb⟩;exact⟨_,_,rfl,.inl rfl,hb⟩
 ·obtain⟨n,rfl⟩:∃n:Nat,K=n:=⟨K.toNat,by omega⟩;refine(avq w v rows 1048577 n h (by omega) (by omega) (by omega)).mono ?_;rintro e w' ⟨ho,hb⟩;obtain⟨pv,ev,rfl,hk⟩:=ho.k;refine⟨pv,ev,rfl,?_,hb⟩;rcases hk with⟨_,rfl,_⟩|⟨hs,⟨rfl,_⟩|⟨g,E,Lf,rfl,_,h1,h2,_⟩⟩
  ·exact .inl rfl
  ·exact .inl rfl
  ·exact .inr ⟨g,n,E,Lf,rfl,(of_decide_eq_true hs).1,rfl,h1,h2⟩
theorem a1o(w:World):RfM w (.slice none 0 0) []:=⟨[],⟨_,_,rfl,Nat.le_refl _,by decide,rfl,.inl rfl⟩,fun i u z hu=>by simp at hu⟩
theorem semptyI(w:World)(K:Int)(hn:K<=9223372036854775807):
  Calls Tryz.prog 42 #[.int .i64 K] w fun e w'=>∃pv ev,e=.returned (.tuple #[pv,.int .i64 ev])/\AloO w' K pv/\Below w.heap.size w w':=by
 have K1:=hide (spointsI w _ [] K (a1o w) (by decide) hn);go_enter Tryz.func42,Tryz.ntmps42
 go_wp2_with fail
 refine K1.out.mono ?_;rintro e w1 ⟨pv,ev,rfl,ha,hb⟩;have HA:=hide (And.intro ha hb);clear ha hb K1;go_wp2;refine bodyPost_ret (v:=_) (by simp[results,Tryz.results42,go_sem];try rfl) rfl ⟨_,_,rfl,HA.out⟩
theorem sallI(w:World)(K:Int)(hn:K<=9223372036854775807):
  Calls Tryz.prog 41 #[.int .i64 K] w fun e w'=>∃pv ev,e=.returned (.tuple #[pv,.int .i64 ev])/\AloO w' K pv/\Below w.heap.size w w':=by
 have K1:=hide (srowsI w _ [] K (ai8 w none 1048577) hn);go_enter Tryz.func41,Tryz.ntmps41
 go_wp2_with fail
 refine K1.out.mono ?_;rintro e w1 ⟨pv,ev,rfl,ha,hb⟩;have HA:=hide (And.intro ha hb);clear ha hb K1;go_wp2;refine bodyPost_ret (v:=_) (by simp[results,Tryz.results41,go_sem];try rfl) rfl ⟨_,_,rfl,HA.out⟩
def InW(w:World)(v:Value)(K:Int):Prop:=∃kind pv rv fss ess,v=.agg #[.int .i64 K,.int .i64 kind,pv,rv]/\RfM w pv fss/\lenFM fss<=1048576/\RwM w rv ess/\lenM ess<=1048576/\K<=9223372036854775807
theorem InW.below{w w':World}{v:Value}{K:Int}(h:InW w v K)(hb:Below w.heap.size w w'):InW w' v K:=by
 obtain⟨kind,pv,rv,fss,ess,e,h1,h2,h3,h4,h5⟩:=h;exact⟨kind,pv,rv,fss,ess,e,h1.below hb,h2,h3.below hb,h4,h5⟩
theorem asw(w:World)(v:Value)(K:Int)(h:InW w v K):
  Calls Tryz.prog 9 #[v] w fun e w'=>∃pv,e=.returned pv/\AloO w' K pv/\Below w.heap.size w w':=by
 obtain⟨kind,pv,rv,fss,ess,rfl,h1,h2,h3,h4,h5⟩:=h;obtain⟨ap,cp,hp,_⟩:=h1.parts;obtain⟨ar,cr,hr,_⟩:=h3.parts;subst hp hr;have hb:=hAl w (.cells #[.int .i64 K,.int .i64 kind,.slice ap fss.length cp,.slice ar ess.length cr] 25);have KP:=hide (spointsI _ _ fss K (h1.below hb) h2 h5);have KR:=hide (srowsI _ _ (zsM ess) K ((h3.below hb).isM (by omega)) h5);have KA:=hide (sallI (w.alloc (.cells #[.int .i64 K,.int .i64 kind,.slice ap fss.length cp,.slice ar ess.length cr] 25)) K h5);have KE:=hide (semptyI (w.alloc (.cells #[.int .i64 K,.int .i64 kind,.slice ap fss.length cp,.slice ar ess.length cr] 25)) K h5);have HB:=hide hb;generalize fss.length=n1 at *
 generalize ess.length=n2 at *
 clear h1 h2 h3 h4 h5 hb;go_enter Tryz.func9,Tryz.ntmps9
 by_cases k0:kind=0
 ·subst k0;go_wp2_with fail
  refine KP.out.mono ?_;rintro e w1 ⟨pv,ev,rfl,ha,hb⟩;have HA:=hide (And.intro ha (HB.out.trans (hb.mono HB.out.size)));clear ha hb KP KR KA KE;go_wp2;refine bodyPost_ret (v:=_) (by simp[results,Tryz.results9,go_sem];try rfl) rfl ⟨_,rfl,HA.out⟩
 have k0':(kind==0)=false:=by simpa using k0
 by_cases k1:kind=1
 ·subst k1;go_wp2_with fail
  refine KR.out.mono ?_;rintro e w1 ⟨pv,ev,rfl,ha,hb⟩;have HA:=hide (And.intro ha (HB.out.trans (hb.mono HB.out.size)));clear ha hb KP KR KA KE;go_wp2;refine bodyPost_ret (v:=_) (by simp[results,Tryz.results9,go_sem];try rfl) rfl ⟨_,rfl,HA.out⟩
 have k1':(kind==1)=false:=by simpa using k1
 by_cases k2:kind=2
 ·subst k2;go_wp2_with fail
  refine KA.out.mono ?_;rintro e w1 ⟨pv,ev,rfl,ha,hb⟩;have HA:=hide (And.intro ha (HB.out.trans (hb.mono HB.out.size)));clear ha hb KP KR KA KE;go_wp2;refine bodyPost_ret (v:=_) (by simp[results,Tryz.results9,go_sem];try rfl) rfl ⟨_,rfl,HA.out⟩
 have k2':(kind==2)=false:=by simpa using k2
 by_cases k3:kind=3
 ·subst k3;go_wp2_with fail
  refine KE.out.mono ?_;rintro e w1 ⟨pv,ev,rfl,ha,hb⟩;have HA:=hide (And.intro ha (HB.out.trans (hb.mono HB.out.size)));clear ha hb KP KR KA KE;go_wp2;refine bodyPost_ret (v:=_) (by simp[results,Tryz.results9,go_sem];try rfl) rfl ⟨_,rfl,HA.out⟩
 have k3':(kind==3)=false:=by simpa using k3
 clear KP KR KA KE;go_wp2;refine bodyPost_ret (v:=_) (by simp[results,Tryz.results9,go_sem];try rfl) rfl ⟨_,rfl,.inl rfl,HB.out⟩
end Lm
namespace Lm
open Go Go.RowKit Md
theorem Kept.len{n:Nat}{E Lf:List (List Int)}(h:Kept n E Lf):E.length<=n+1/\Lf.length<=n+1:=by
 rcases h with⟨rfl,rfl⟩|h
 ·exact⟨by simp,by simp⟩
 ·obtain⟨_,p,St,hm⟩:=h.mirs;refine⟨h.can.asc,?_⟩;rw[hm.lf];have:=hm.can.asc;simp[zro];omega
theorem BuiK.congr{w:World}{n:Nat}{H H':Md.Rw->Prop}{pv:Value}{ev:Int}(h:BuiK w n H pv ev)(hh:∀y,Out (n+1) y->(H y↔H' y)):BuiK w n H' pv ev:=by
 rcases h with⟨h1,h2,E0,h3,h4⟩|⟨g,E,Lf,h1,h2,h3,h4,h5⟩
 ·exact .inl ⟨h1,h2,E0,h3,fun y hy=>(h4 y hy).trans (hh y hy)⟩
 ·exact .inr ⟨g,E,Lf,h1,h2,h3,h4,fun y hy=>(h5 y hy).trans (hh y hy)⟩
theorem BuiK.err{w w':World}{n:Nat}{H:Md.Rw->Prop}{pv pv':Value}{ev ev':Int}(h:BuiK w n H pv ev)(h':BuiK w' n H pv' ev'):ev=ev':=by
 rcases h with⟨_,h2,E0,h3,h4⟩|⟨g,E,Lf,_,h2,_,h4,h5⟩
 ·rcases h' with⟨_,g2,_⟩|⟨_,E',Lf',_,_,_,g4,g5⟩
  ·omega
  ·exact(afa g4 h3 (fun y hy=>(g5 y hy).trans (h4 y hy).symm)).elim
 ·rcases h' with⟨_,_,E0,g3,g4⟩|⟨_,_,_,_,g2,_⟩
  ·exact(afa h4 g3 (fun y hy=>(h5 y hy).trans (g4 y hy).symm)).elim
  ·omega
theorem BuiK.ok{w:World}{n:Nat}{H:Md.Rw->Prop}{pv:Value}{ev:Int}(h:BuiK w n H pv ev){E Lf:List (List Int)}(hk:Kept n E Lf)(hh:∀y,Out (n+1) y->(Hld n Lf y↔H y)):∃g,pv=.pointer (some ⟨g,0,none⟩)/\ev=0/\Spn w g n E Lf:=by
 rcases h with⟨_,_,E0,h3,h4⟩|⟨g,E',Lf',h1,h2,h3,h4,h5⟩
 ·exact(afa hk h3 (fun y hy=>(hh y hy).trans (h4 y hy).symm)).elim
 ·obtain⟨rfl,rfl⟩:=afj hk h4 (fun y hy=>(hh y hy).trans (h5 y hy).symm);exact⟨g,h1,h2,h3⟩
theorem BuiK.ev{w:World}{n:Nat}{H:Md.Rw->Prop}{pv:Value}{ev:Int}(h:BuiK w n H pv ev):ev=0\/ev=2:=by
 rcases h with⟨_,h2,_⟩|⟨_,_,_,_,h2,_⟩
 ·exact .inr h2
 ·exact .inl h2
theorem BuiK.span{w:World}{n:Nat}{H:Md.Rw->Prop}{pv:Value}(h:BuiK w n H pv 0):∃g E Lf,pv=.pointer (some ⟨g,0,none⟩)/\Spn w g n E Lf/\Kept n E Lf/\∀y,Out (n+1) y->(Hld n Lf y↔H y):=by
 rcases h with⟨_,h2,_⟩|⟨g,E,Lf,h1,_,h3,h4,h5⟩
 ·exact absurd h2 (by decide)
 ·exact⟨g,E,Lf,h1,h3,h4,h5⟩
theorem ayw{n:Nat}{E Lf E' Lf':List (List Int)}(h:Kept n E Lf)(h':Kept n E' Lf')(y:Md.Rw):HLi n (Lf++Lf') y↔Hld n Lf y/\Hld n Lf' y:=by
 have hv:∀ {E Lf:List (List Int)},Kept n E Lf->(∀z∈Lf,fnR z n=0)->Lf = []:=fun {E Lf} hk hz=>by
  rcases hk with⟨rfl,_⟩|hk
  ·rfl
  ·obtain⟨_,p,St,hm⟩:=hk.mirs;exact absurd (hz _ hm.base.1) hm.base.2
 constructor
 ·rintro (h1|h1)
  ·have e1:=hv h (fun z hz=>h1 z (List.mem_append_left _ hz));have e2:=hv h' (fun z hz=>h1 z (List.mem_append_right _ hz));subst e1 e2;exact⟨fun l hl=>(by cases hl),fun l hl=>(by cases hl)⟩
  ·exact⟨fun l hl=>h1 l (List.mem_append_left _ hl),fun l hl=>h1 l (List.mem_append_right _ hl)⟩
 ·rintro ⟨h1,h2⟩;refine .inr fun l hl=>?_
  rcases List.mem_append.1 hl with hl|hl
  ·exact h1 l hl
  ·exact h2 l hl
theorem adm{n:Nat}{S:List (List Int)}{s:List Int}(h:s∈S):Cls n S (fnR s):=.inr (.mem (List.mem_map.2 ⟨s,h,rfl⟩))
theorem acl{n:Nat}{S T:List (List Int)}(h:∀s∈S,Cls n T (fnR s)){y:Md.Rw}(hy:Cls n S y):Cls n T y:=by
 by_cases hn:RS (T.map fnR) (fnR (noneR n))
 ·exact .inl hn
 ·have hs:∀x∈S.map fnR,RS (T.map fnR) x:=fun x hx=>by
   obtain⟨s,hs,rfl⟩:=List.mem_map.1 hx;exact(h s hs).resolve_left hn
  rcases hy with h1|h1
  ·exact .inl (h1.trans hs)
  ·exact .inr (h1.trans hs)
theorem awh{n:Nat}{E Lf S:List (List Int)}(hk:Kept n E Lf)(hl:∀s∈S,s.length=n+1)(h:∀s∈S,Hld n Lf (fnR s)){y:Md.Rw}(hy:Out (n+1) y)(hc:Cls n S y):Hld n Lf y:=
 (hk.hld hy).2 (acl (fun s hs=>(hk.hld (aar (hl s hs))).1 (h s hs)) hc)
theorem Kept.cls{n:Nat}{E Lf T:List (List Int)}(hk:Kept n E Lf)(hT:∀e∈E,e∈T){y:Md.Rw}(hy:Out (n+1) y)(h:Hld n Lf y):Cls n T y:=acl (fun s hs=>adm (hT s hs)) ((hk.hld hy).1 h)
theorem ad1{n:Nat}{A B:List (List Int)}(h:∀r∈A,r.length=n+1)(h':∀r∈B,r.length=n+1):∀r∈A++B,r.length=n+1:=fun r hr=>by
 rcases List.mem_append.1 hr with hr|hr
 ·exact h r hr
 ·exact h' r hr
theorem ayx{n:Nat}{A B:List (List Int)}{y:Md.Rw}: Cls n (A++B) y↔Cls n (B++A) y:=
 ⟨acl (fun s hs=>adm (by rw[List.mem_append]at hs ⊢;exact hs.symm)),acl (fun s hs=>adm (by rw[List.mem_append]at hs ⊢;exact hs.symm))⟩
def WinB(Lf E':List (List Int))(n:Nat):Bool:=!E'.any (fun r=>!Lf.all (mk0 (n+1) r))
theorem aku{n:Nat}{Lf E':List (List Int)}: WinB Lf E' n=true↔∀e∈E',Hld n Lf (fnR e):=by
 unfold WinB;simp only[Bool.not_eq_true',List.any_eq_false];constructor
 ·intro h e he;have:=h e he;simp only[Bool.not_eq_false]at this;exact aqx.1 this
 ·intro h e he;simp only[Bool.not_eq_false];exact aqx.2 (h e he)
section
variable {n:Nat} {Es Ls Et Lt Eu Lu Ej Lj Em Lm_ Etm Ltm Etu Ltu:List (List Int)}
theorem a3v(ks:Kept n Es Ls)(hm:∀y,Out (n+1) y->(Hld n Lm_ y↔Cls n (Es++Et) y)):∀y,Out (n+1) y->(Hld n Ls y↔Hld n Ls y/\Hld n Lm_ y):=fun y hy=>
 ⟨fun h=>⟨h,(hm y hy).2 (ks.cls (fun _ he=>List.mem_append_left _ he) hy h)⟩,fun h=>h.1⟩
theorem a3w(ks:Kept n Es Ls)(kj:Kept n Ej Lj)(hj:∀y,Out (n+1) y->(Hld n Lj y↔Hld n Ls y/\Hld n Lt y)):∀y,Out (n+1) y->(Hld n Ls y↔Cls n (Es++Ej) y):=fun y hy=>
 ⟨fun h=>ks.cls (fun _ he=>List.mem_append_left _ he) hy h,fun h=>awh ks (ad1 ks.row.1 kj.row.1) (fun s hs=>by
  rcases List.mem_append.1 hs with hs|hs
  ·exact ks.own s hs
  ·exact((hj _ (aar (kj.row.1 s hs))).1 (kj.own s hs)).1) hy h⟩
theorem ayy(ks:Kept n Es Ls)(kt:Kept n Et Lt)(kj:Kept n Ej Lj)(hj:∀y,Out (n+1) y->(Hld n Lj y↔Hld n Ls y/\Hld n Lt y)):WinB Ls Et n=decide (Ej=Et):=by
 rw[Bool.eq_iff_iff,aku,decide_eq_true_iff,apj ks kt];constructor
 ·intro h;exact(afj kj kt (fun y hy=>(hj y hy).trans ⟨fun h=>h.2,fun h2=>⟨h y hy h2,h2⟩⟩)).1
 ·rintro rfl y hy h;have h2:=(kj.hld hy).2 ((kt.hld hy).1 h);exact((hj y hy).1 h2).1
theorem ayz(ks:Kept n Es Ls)(kt:Kept n Et Lt)(km:Kept n Em Lm_)(hm:∀y,Out (n+1) y->(Hld n Lm_ y↔Cls n (Es++Et) y)):WinB Ls Et n=decide (Em=Es):=by
 rw[Bool.eq_iff_iff,aku,decide_eq_true_iff];constructor
 ·intro h;refine(afj km ks (fun y hy=>(hm y hy).trans ⟨fun hc=>awh ks (ad1 ks.row.1 kt.row.1) (fun s hs=>?_) hy hc,fun h2=>ks.cls (fun _ he=>List.mem_append_left _ he) hy h2⟩)).1;rcases List.mem_append.1 hs with hs|hs
  ·exact ks.own s hs
  ·exact h s hs
 ·rintro rfl e he;have ho:=aar (kt.row.1 e he);exact(ks.hld ho).2 ((km.hld ho).1 ((hm _ ho).2 (adm (List.mem_append_right _ he))))
theorem a1p(ks:Kept n Es Ls)(kt:Kept n Et Lt)(hw:WinB Ls Et n=true)(hne:Es≠Et):Ls.length<Lt.length:=by
 have hw:=aku.1 hw;rcases kt with⟨rfl,rfl⟩|kt'
 ·have h1:=hw _ (List.mem_singleton.2 rfl);rcases ks with⟨rfl,rfl⟩|ks
  ·exact absurd rfl hne
  ·exact absurd h1 ks.point
 ·rcases ks with⟨rfl,rfl⟩|ks'
  ·have:=kt'.ne;cases Lt with
   |nil=>exact absurd rfl this
   |cons _ _=>simp
  ·have hs:∀x∈Ls.map fnR,RS (Lt.map fnR) x:=fun x hx=>by
    obtain⟨l,hl,rfl⟩:=List.mem_map.1 hx;refine(kt'.lfs _ (aar (ks'.row l hl))).2 fun e he=>?_
    rw[aax];exact hw e he l hl
   obtain⟨T',h1,h2⟩:=au7 (Kept.ind (.inr ks')) hs;rw[List.length_map,List.length_map]at h1;rcases Nat.lt_or_ge Ls.length Lt.length with h|h
   ·exact h
   ·exfalso;obtain rfl:T' = []:=List.length_eq_zero_iff.1 (by omega);refine hne (afj (.inr ks') (.inr kt') (fun y hy=>⟨fun hh l hl=>?_,fun hh=>?_⟩)).1
    ·rw[aax];refine acs (fun x hx=>?_) (h2 (fnR l) (List.mem_map.2 ⟨l,hl,rfl⟩));rw[List.append_nil]at hx;obtain⟨k,hk,rfl⟩:=List.mem_map.1 hx;rw[aax];exact hh k hk
    ·intro k hk;rw[aax];refine acs (fun x hx=>?_) (hs (fnR k) (List.mem_map.2 ⟨k,hk,rfl⟩));obtain⟨l,hl,rfl⟩:=List.mem_map.1 hx;rw[aax];exact hh l hl
theorem ay0(ks:Kept n Es Ls)(kt:Kept n Et Lt)(ku:Kept n Eu Lu)(km:Kept n Em Lm_)(ktm:Kept n Etm Ltm)(hm:∀y,Out (n+1) y->(Hld n Lm_ y↔Cls n (Es++Et) y))(htm:∀y,Out (n+1) y->(Hld n Ltm y↔Cls n (Et++Eu) y)):∀y,Cls n (Em++Eu) y↔Cls n (Es++Etm) y:=by
 have ct:∀z∈Et++Eu,Cls n (Es++Etm) (fnR z):=fun z hz=>by
  have ho:=aar (ad1 kt.row.1 ku.row.1 z hz);exact ktm.cls (fun _ he=>List.mem_append_right _ he) ho ((htm _ ho).2 (adm hz))
 have cm:∀z∈Es++Et,Cls n (Em++Eu) (fnR z):=fun z hz=>by
  have ho:=aar (ad1 ks.row.1 kt.row.1 z hz);exact km.cls (fun _ he=>List.mem_append_left _ he) ho ((hm _ ho).2 (adm hz))
 refine fun y=>⟨acl (fun x hx=>?_),acl (fun x hx=>?_)⟩
 ·rcases List.mem_append.1 hx with hx|hx
  ·have ho:=aar (km.row.1 x hx);refine acl (fun z hz=>?_) ((hm _ ho).1 (km.own x hx));rcases List.mem_append.1 hz with hz|hz
   ·exact adm (List.mem_append_left _ hz)
   ·exact ct z (List.mem_append_left _ hz)
  ·exact ct x (List.mem_append_right _ hx)
 ·rcases List.mem_append.1 hx with hx|hx
  ·exact cm x (List.mem_append_left _ hx)
  ·have ho:=aar (ktm.row.1 x hx);refine acl (fun z hz=>?_) ((htm _ ho).1 (ktm.own x hx));rcases List.mem_append.1 hz with hz|hz
   ·exact cm z (List.mem_append_right _ hz)
   ·exact adm (List.mem_append_right _ hz)
end
theorem sjoinK(w:World)(g h n:Nat)(E Lf E' Lf':List (List Int))(hS:Spn w g n E Lf)(hO:Spn w h n E' Lf')(k:Kept n E Lf)(k':Kept n E' Lf')(hn:n<=16):
  Calls Tryz.prog 23 #[.pointer (some ⟨g,0,none⟩),.pointer (some ⟨h,0,none⟩)] w fun e w'=>∃pv ev,e=.returned (.tuple #[pv,.int .i64 ev])/\BuiK w' n (fun y=>Hld n Lf y/\Hld n Lf' y) pv ev/\Below w.heap.size w w':=by
 refine(awb w g h n E Lf E' Lf' hS hO (ad1 k.row.2 k'.row.2) hn (by have:=k.len;omega) (by have:=k'.len;omega)).mono ?_;rintro e w' ⟨pv,ev,rfl,h1,hb⟩;exact⟨pv,ev,rfl,h1.congr (fun y _=>ayw k k' y),hb⟩
theorem smeetK(w:World)(g h n:Nat)(E Lf E' Lf':List (List Int))(hS:Spn w g n E Lf)(hO:Spn w h n E' Lf')(k:Kept n E Lf)(k':Kept n E' Lf')(hn:n<=16):
  Calls Tryz.prog 24 #[.pointer (some ⟨g,0,none⟩),.pointer (some ⟨h,0,none⟩)] w fun e w'=>∃pv ev,e=.returned (.tuple #[pv,.int .i64 ev])/\BuiK w' n (Cls n (E++E')) pv ev/\Below w.heap.size w w':=
 awc w g h n E Lf E' Lf' hS hO (ad1 k.row.1 k'.row.1) hn (by have:=k.len;omega) (by have:=k'.len;omega)
theorem swinK(w:World)(g h n:Nat)(E Lf E' Lf':List (List Int))(hS:Spn w g n E Lf)(hO:Spn w h n E' Lf')(k:Kept n E Lf)(k':Kept n E' Lf')(hn:n<=16):
  Calls Tryz.prog 26 #[.pointer (some ⟨g,0,none⟩),.pointer (some ⟨h,0,none⟩)] w fun e w'=>e=.returned (.tuple #[.bool (WinB Lf E' n),.int .i64 0])/\Below w.heap.size w w':=by
 obtain⟨se,sl,hSE,hSe,hSl⟩:=hS.at_;obtain⟨te,tl,hTE,hTe,hTl⟩:=hO.at_;exact apg w g h n se sl te tl Lf E' hSE hTE hSl k.row.2 hTe k'.row.1 hn
theorem sdimK(w:World)(g n:Nat)(E Lf:List (List Int))(hS:Spn w g n E Lf)(k:Kept n E Lf)(hn:n<=16):
  Calls Tryz.prog 12 #[.pointer (some ⟨g,0,none⟩)] w fun e w'=>e=.returned (.int .i64 ((Lf.length:Int)-1))/\Below w.heap.size w w':=by
 obtain⟨se,sl,hSE,hSe,hSl⟩:=hS.at_;obtain⟨al,cl,hal,_⟩:=hSl.parts;exact anw w g n Lf.length se sl al cl hSE hal (by have:=k.len;omega)
theorem afl(w:World)(g n:Nat)(E Lf:List (List Int))(hS:Spn w g n E Lf):
  Calls Tryz.prog 13 #[.pointer (some ⟨g,0,none⟩)] w fun e w'=>e=.returned (.int .i64 (n:Int))/\Below w.heap.size w w':=by
 obtain⟨se,sl,hSE,_,_⟩:=hS.at_;obtain⟨hgl,c0⟩:=hSE.num;clear hS hSE;go_enter Tryz.func13,Tryz.ntmps13
 go_wp2;refine bodyPost_ret (v:=_) (by simp[results,Tryz.results13,go_sem];try rfl) rfl ⟨rfl,Below.refl _ _⟩
theorem ad2(w:World)(ev:Int)(h:ev=0\/ev=2):
  Calls Tryz.prog 25 #[.int .i64 ev] w fun e w'=>e=.returned (.bool true)/\Below w.heap.size w w':=by
 rcases h with rfl|rfl
 ·go_enter Tryz.func25,Tryz.ntmps25
  go_wp2;refine bodyPost_ret (v:=_) (by simp[results,Tryz.results25,go_sem];try rfl) rfl ⟨rfl,Below.refl _ _⟩
 ·go_enter Tryz.func25,Tryz.ntmps25
  go_wp2;refine bodyPost_ret (v:=_) (by simp[results,Tryz.results25,go_sem];try rfl) rfl ⟨rfl,Below.refl _ _⟩
end Lm
namespace Lm
open Go Go.RowKit Md
def AlS(K:Int):Says:=fun v w=>AloO w K v
theorem AlS.mono(K:Int):Mono (AlS K):=fun _ _ _ hb h=>AloO.below h hb
theorem asy:Has Tryz.prog 9:=by unfold Has;kernel_rfl
theorem boolneq(b:Bool):(b != b)=false:=by cases b <;> rfl
section
variable {dst:Option Tmp} {ty:TypeId} {pos:String} {after:Array Edge} {guard:Option (Nat×Bool)} {a:Act} {w:World} {ats:Array TypeId} {i:Nat}
theorem ahs{v:Value}{K:Int}(h1:a.eval (.tmp i)=v)(h:InW w v K):Does Tryz.prog {dst,op:=.call {callee:=.value (.func 9),args:=#[.tmp i],argTypes:=ats},type:=ty,pos,after,guard} a.eval w fun v w'=>Below w.heap.size w w'/\AlS K v w':=
 aag asy #[_] (by simp[h1]) ((asw w v K h).mono fun e w' ⟨pv,he,ha,hb⟩=>⟨pv,he,hb,ha⟩)
theorem aja{g:Nat}{x y:Int}{ao bo:Option Addr}{n c m d:Nat}(hp:a.eval (.tmp i)=.pointer (some ⟨g,0,none⟩))(h:w.heap[g]? = some (.cells #[.int .i64 x,.int .i64 y,.slice ao n c,.slice bo m d] 25 (0,0))):
  Does Tryz.prog {dst,op:=.load 25 (.tmp i),type:=ty,pos,after,guard} a.eval w fun v' w'=>Below w.heap.size w w'/\Eqs (.agg #[.int .i64 x,.int .i64 y,.slice ao n c,.slice bo m d]) v' w':=by
 have h0:w.cell? ⟨g,0,none⟩=some (.int .i64 x):=by rw[cell_of_row _ _ _ _ _ (0,0) h];rfl
 have h1:w.cell? ⟨g,1,none⟩=some (.int .i64 y):=by rw[cell_of_row _ _ _ _ _ (0,0) h];rfl
 have h2:w.cell? ⟨g,2,none⟩=some (.slice ao n c):=by rw[cell_of_row _ _ _ _ _ (0,0) h];rfl
 have h3:w.cell? ⟨g,3,none⟩=some (.slice bo m d):=by rw[cell_of_row _ _ _ _ _ (0,0) h];rfl
 refine aa3 (v:=.agg #[.int .i64 x,.int .i64 y,.slice ao n c,.slice bo m d]) ?_ ⟨Below.refl _ _,rfl⟩;rw[hp];go_simp
end
theorem InW.cells{w:World}{v:Value}{K:Int}(h:InW w v K):∃y ao n c bo m d,v=.agg #[.int .i64 K,.int .i64 y,.slice ao n c,.slice bo m d]:=by
 obtain⟨kind,pv,rv,fss,ess,rfl,h1,_,h3,_⟩:=h;obtain⟨ap,cp,rfl,_⟩:=h1.parts;obtain⟨ar,cr,rfl,_⟩:=h3.parts;exact⟨_,_,_,_,_,_,_,rfl⟩
theorem aj1(w:World)(v0 v1 v2:Value)(K0 K1 K2:Int)(h0:InW w v0 K0)(h1:InW w v1 K1)(h2:InW w v2 K2):
  Calls Tryz.prog 4 #[v0,v1,v2] w fun e w'=>e=.returned (.bool true)/\Below w.heap.size w w':=by
 obtain⟨y0,a0,n0,c0,b0,m0,d0,e0⟩:=h0.cells;obtain⟨y1,a1,n1,c1,b1,m1,d1,e1⟩:=h1.cells;obtain⟨y2,a2,n2,c2,b2,m2,d2,e2⟩:=h2.cells;subst e0 e1 e2;have hA0:=hAl w (.cells #[.int .i64 K0,.int .i64 y0,.slice a0 n0 c0,.slice b0 m0 d0] 25);have hA1:=hAl (w.alloc (.cells #[.int .i64 K0,.int .i64 y0,.slice a0 n0 c0,.slice b0 m0 d0] 25)) (.cells #[.int .i64 K1,.int .i64 y1,.slice a1 n1 c1,.slice b1 m1 d1] 25);have hA2:=hAl ((w.alloc (.cells #[.int .i64 K0,.int .i64 y0,.slice a0 n0 c0,.slice b0 m0 d0] 25)).alloc (.cells #[.int .i64 K1,.int .i64 y1,.slice a1 n1 c1,.slice b1 m1 d1] 25)) (.cells #[.int .i64 K2,.int .i64 y2,.slice a2 n2 c2,.slice b2 m2 d2] 25);have hx:=(hA2.block _ (aaa ((hA1.block _ (aaa (heap_alloc_new w (.cells #[.int .i64 K0,.int .i64 y0,.slice a0 n0 c0,.slice b0 m0 d0] 25)))).trans (heap_alloc_new w _)))).trans ((hA1.block _ (aaa (heap_alloc_new w (.cells #[.int .i64 K0,.int .i64 y0,.slice a0 n0 c0,.slice b0 m0 d0] 25)))).trans (heap_alloc_new w _));have hy:=(hA2.block _ (aaa (heap_alloc_new (w.alloc (.cells #[.int .i64 K0,.int .i64 y0,.slice a0 n0 c0,.slice b0 m0 d0] 25)) (.cells #[.int .i64 K1,.int .i64 y1,.slice a1 n1 c1,.slice b1 m1 d1] 25)))).trans (heap_alloc_new (w.alloc (.cells #[.int .i64 K0,.int .i64 y0,.slice a0 n0 c0,.slice b0 m0 d0] 25)) _);have hz:=heap_alloc_new ((w.alloc (.cells #[.int .i64 K0,.int .i64 y0,.slice a0 n0 c0,.slice b0 m0 d0] 25)).alloc (.cells #[.int .i64 K1,.int .i64 y1,.slice a1 n1 c1,.slice b1 m1 d1] 25)) (.cells #[.int .i64 K2,.int .i64 y2,.slice a2 n2 c2,.slice b2 m2 d2] 25);have hB0:Below w.heap.size w _:=(hA0.trans (hA1.mono hA0.size)).trans (hA2.mono (hA0.trans (hA1.mono hA0.size)).size);obtain⟨gx,hgx⟩:∃g,w.heap.size=g:=⟨_,rfl⟩;obtain⟨gy,hgy⟩:∃g,(w.alloc (.cells #[.int .i64 K0,.int .i64 y0,.slice a0 n0 c0,.slice b0 m0 d0] 25)).heap.size=g:=⟨_,rfl⟩;obtain⟨gz,hgz⟩:∃g,((w.alloc (.cells #[.int .i64 K0,.int .i64 y0,.slice a0 n0 c0,.slice b0 m0 d0] 25)).alloc (.cells #[.int .i64 K1,.int .i64 y1,.slice a1 n1 c1,.slice b1 m1 d1] 25)).heap.size=g:=⟨_,rfl⟩;have hgy2:gy=w.heap.size+1:=by rw[<-hgy];simp
 have hgz2:gz=w.heap.size+1+1:=by rw[<-hgz];simp
 rw[hgy]at hy;rw[hgz]at hz;subst hgy2 hgz2;have K:=hide (a23 (((w.alloc (.cells #[.int .i64 K0,.int .i64 y0,.slice a0 n0 c0,.slice b0 m0 d0] 25)).alloc (.cells #[.int .i64 K1,.int .i64 y1,.slice a1 n1 c1,.slice b1 m1 d1] 25)).alloc (.cells #[.int .i64 K2,.int .i64 y2,.slice a2 n2 c2,.slice b2 m2 d2] 25)));have HX:=hide hx;have HY:=hide hy;have HZ:=hide hz;have HB:=hide hB0;have I0:=hide h0;have I1:=hide h1;have I2:=hide h2;clear hA0 hA1 hA2 hx hy hz hB0 h0 h1 h2 hgx hgy hgz;go_enter Tryz.func4,Tryz.ntmps4
 go_wp2_with fail
 refine K.out.mono ?_;generalize ((w.alloc (.cells #[.int .i64 K0,.int .i64 y0,.slice a0 n0 c0,.slice b0 m0 d0] 25)).alloc (.cells #[.int .i64 K1,.int .i64 y1,.slice a1 n1 c1,.slice b1 m1 d1] 25)).alloc (.cells #[.int .i64 K2,.int .i64 y2,.slice a2 n2 c2,.slice b2 m2 d2] 25)=wq at *
 rintro e w1 ⟨rfl,hb⟩;replace HB:=hide (HB.out.trans (hb.mono HB.out.size));replace HX:=hide ((hb.block _ (aaa HX.out)).trans HX.out);replace HY:=hide ((hb.block _ (aaa HY.out)).trans HY.out);replace HZ:=hide ((hb.block _ (aaa HZ.out)).trans HZ.out);clear hb K;obtain⟨gx,hgx⟩:∃g,w.heap.size=g:=⟨_,rfl⟩;rw[hgx]at HX HY HZ;have HGX:=hide hgx;go_upto_region 3 with fail
 clear hgx;refine acz 6 [38,39,40,41,42,43] [Eqs (.agg #[.int .i64 K0,.int .i64 y0,.slice a0 n0 c0,.slice b0 m0 d0]),(AlS K0),Eqs (.agg #[.int .i64 K1,.int .i64 y1,.slice a1 n1 c1,.slice b1 m1 d1]),(AlS K1),Eqs (.agg #[.int .i64 K2,.int .i64 y2,.slice a2 n2 c2,.slice b2 m2 d2]),(AlS K2)] rfl rfl (by decide) (by kernel_rfl) (by kernel_rfl) (by decide) (by kernel_rfl) ⟨Eqs.mono _,(AlS.mono _),Eqs.mono _,(AlS.mono _),Eqs.mono _,(AlS.mono _),trivial⟩ ?_ ?_
 ·exact⟨⟨rfl,fun a_ w_ _ hB hR hD=>aja ((hR 3 rfl).trans (aab rfl)) ((hB.block _ (aaa HX.out)).trans HX.out)⟩,
    ⟨rfl,fun a_ w_ _ hB hR hD=>ahs (show a_.eval (.tmp 38)=.agg #[.int .i64 K0,.int .i64 y0,.slice a0 n0 c0,.slice b0 m0 d0]from hD 0 rfl) (I0.out.below (HB.out.trans (hB.mono HB.out.size)))⟩,
    ⟨rfl,fun a_ w_ _ hB hR hD=>aja ((hR 4 rfl).trans (aab rfl)) ((hB.block _ (aaa HY.out)).trans HY.out)⟩,
    ⟨rfl,fun a_ w_ _ hB hR hD=>ahs (show a_.eval (.tmp 40)=.agg #[.int .i64 K1,.int .i64 y1,.slice a1 n1 c1,.slice b1 m1 d1]from hD 2 rfl) (I1.out.below (HB.out.trans (hB.mono HB.out.size)))⟩,
    ⟨rfl,fun a_ w_ _ hB hR hD=>aja ((hR 5 rfl).trans (aab rfl)) ((hB.block _ (aaa HZ.out)).trans HZ.out)⟩,
    ⟨rfl,fun a_ w_ _ hB hR hD=>ahs (show a_.eval (.tmp 42)=.agg #[.int .i64 K2,.int .i64 y2,.slice a2 n2 c2,.slice b2 m2 d2]from hD 4 rfl) (I2.out.below (HB.out.trans (hB.mono HB.out.size)))⟩,
    trivial⟩
 ·intro a' w' hn' hd' hB' hR' hP';have e38:a'.eval (.tmp 38)=.agg #[.int .i64 K0,.int .i64 y0,.slice a0 n0 c0,.slice b0 m0 d0]:=hP' 0 (by decide);obtain⟨u39,e39⟩:∃u,a'.eval (.tmp 39)=u:=⟨_,rfl⟩;have hT0:(AlS K0) (a'.eval (.tmp 39)) w':=hP' 1 (by decide);rw[e39]at hT0;have e40:a'.eval (.tmp 40)=.agg #[.int .i64 K1,.int .i64 y1,.slice a1 n1 c1,.slice b1 m1 d1]:=hP' 2 (by decide);obtain⟨u41,e41⟩:∃u,a'.eval (.tmp 41)=u:=⟨_,rfl⟩;have hT1:(AlS K1) (a'.eval (.tmp 41)) w':=hP' 3 (by decide);rw[e41]at hT1;have e42:a'.eval (.tmp 42)=.agg #[.int .i64 K2,.int .i64 y2,.slice a2 n2 c2,.slice b2 m2 d2]:=hP' 4 (by decide);obtain⟨u43,e43⟩:∃u,a'.eval (.tmp 43)=u:=⟨_,rfl⟩;have hT2:(AlS K2) (a'.eval (.tmp 43)) w':=hP' 5 (by decide);rw[e43]at hT2;refine aat hn' hd' hR' (.s16 rfl <| .s16 rfl <| .s4 rfl <| .same rfl <| .same rfl <| .new e38 <| .new e39 <| .new e40 <| .new e41 <| .new e42 <| .new e43 <| .s16 rfl <| .s16 rfl <| .s16 rfl <| .s16 rfl <| .s16 rfl <| .s16 rfl <| .s16 rfl <| .s16 rfl <| .s16 rfl <| .s16 rfl <| .s16 rfl <| .s16 rfl <| .s16 rfl <| .same rfl <| .nil) ?_;clear e38 e39 e40 e41 e42 e43;replace HB:=hide (HB.out.trans (hB'.mono HB.out.size));have HA0:=hide hT0;have HA1:=hide hT1;have HA2:=hide hT2;clear hT0 hT1 hT2 hB' hR' hP' hn' hd' HX HY HZ I0 I1 I2 HGX;rcases HA0.out with rfl|⟨g_s,n,e_s,l_s,_,hn16,rfl,hsp0,hkp0⟩
  ·go_wp2;refine bodyPost_ret (v:=_) (by simp[results,Tryz.results4,go_sem];try rfl) rfl ⟨rfl,HB.out⟩
  rcases HA1.out with rfl|⟨g_t,n_t,e_t,l_t,_,_,rfl,hsp1,hkp1⟩
  ·clear hsp0 hkp0;go_wp2;refine bodyPost_ret (v:=_) (by simp[results,Tryz.results4,go_sem];try rfl) rfl ⟨rfl,HB.out⟩
  rcases HA2.out with rfl|⟨g_u,n_u,e_u,l_u,_,_,rfl,hsp2,hkp2⟩
  ·clear hsp0 hkp0 hsp1 hkp1;go_wp2;refine bodyPost_ret (v:=_) (by simp[results,Tryz.results4,go_sem];try rfl) rfl ⟨rfl,HB.out⟩
  have Ss:=hide hsp0;have ks:=hide hkp0;have St:=hide hsp1;have kt:=hide hkp1;have Su:=hide hsp2;have ku:=hide hkp2;clear hsp0 hkp0 hsp1 hkp1 hsp2 hkp2 HA0 HA1 HA2;have K:=hide (afl w' g_s n e_s l_s Ss.out);go_wp2_with fail
  refine K.out.mono ?_;rintro e w2 ⟨rfl,hb⟩;replace HB:=hide (HB.out.trans (hb.mono HB.out.size));replace Ss:=hide (Ss.out.below hb);replace St:=hide (St.out.below hb);replace Su:=hide (Su.out.below hb);clear hb K;have K:=hide (afl w2 g_t n_t e_t l_t St.out);go_wp2_with fail
  refine K.out.mono ?_;rintro e w3 ⟨rfl,hb⟩;replace HB:=hide (HB.out.trans (hb.mono HB.out.size));replace Ss:=hide (Ss.out.below hb);replace St:=hide (St.out.below hb);replace Su:=hide (Su.out.below hb);clear hb K;by_cases hnt:n=n_t
  case neg=>
   have hn1:¬(n:Int)=(n_t:Int):=by omega
   have hn2:((n:Int) != (n_t:Int))=true:=by simpa using hn1
   go_wp2;refine bodyPost_ret (v:=_) (by simp[results,Tryz.results4,go_sem];try rfl) rfl ⟨rfl,HB.out⟩
  subst hnt;have hnn:((n:Int) != (n:Int))=false:=by simp
  have K:=hide (afl w3 g_s n e_s l_s Ss.out);go_wp2_with fail
  refine K.out.mono ?_;rintro e w4 ⟨rfl,hb⟩;replace HB:=hide (HB.out.trans (hb.mono HB.out.size));replace Ss:=hide (Ss.out.below hb);replace St:=hide (St.out.below hb);replace Su:=hide (Su.out.below hb);clear hb K;have K:=hide (afl w4 g_u n_u e_u l_u Su.out);go_wp2_with fail
  refine K.out.mono ?_;rintro e w5 ⟨rfl,hb⟩;replace HB:=hide (HB.out.trans (hb.mono HB.out.size));replace Ss:=hide (Ss.out.below hb);replace St:=hide (St.out.below hb);replace Su:=hide (Su.out.below hb);clear hb K;by_cases hnu:n=n_u
  case neg=>
   have hn1:¬(n:Int)=(n_u:Int):=by omega
   have hn2:((n:Int) != (n_u:Int))=true:=by simpa using hn1
   go_wp2;refine bodyPost_ret (v:=_) (by simp[results,Tryz.results4,go_sem];try rfl) rfl ⟨rfl,HB.out⟩
  subst hnu;have K:=hide (sjoinK w5 g_s g_t n e_s l_s e_t l_t Ss.out St.out ks.out kt.out hn16);go_wp2_with fail
  refine K.out.mono ?_;rintro e w6 ⟨pv_j,ev_j,rfl,hk,hb⟩;replace HB:=hide (HB.out.trans (hb.mono HB.out.size));replace Ss:=hide (Ss.out.below hb);replace St:=hide (St.out.below hb);replace Su:=hide (Su.out.below hb);have Yj:=hide (hk);clear hk;clear hb K;have K:=hide (sjoinK w6 g_t g_s n e_t l_t e_s l_s St.out Ss.out kt.out ks.out hn16);go_wp2_with fail
  refine K.out.mono ?_;rintro e w7 ⟨pv_k,ev_k,rfl,hk,hb⟩;replace HB:=hide (HB.out.trans (hb.mono HB.out.size));replace Ss:=hide (Ss.out.below hb);replace St:=hide (St.out.below hb);replace Su:=hide (Su.out.below hb);replace Yj:=hide (Yj.out.below hb);have Yk:=hide (hk.congr (fun _ _=>And.comm));clear hk;clear hb K;have K:=hide (smeetK w7 g_s g_t n e_s l_s e_t l_t Ss.out St.out ks.out kt.out hn16);go_wp2_with fail
  refine K.out.mono ?_;rintro e w8 ⟨pv_m,ev_m,rfl,hk,hb⟩;replace HB:=hide (HB.out.trans (hb.mono HB.out.size));replace Ss:=hide (Ss.out.below hb);replace St:=hide (St.out.below hb);replace Su:=hide (Su.out.below hb);replace Yj:=hide (Yj.out.below hb);replace Yk:=hide (Yk.out.below hb);have Ym:=hide (hk);clear hk;clear hb K;have K:=hide (smeetK w8 g_t g_s n e_t l_t e_s l_s St.out Ss.out kt.out ks.out hn16);go_wp2_with fail
  refine K.out.mono ?_;rintro e w9 ⟨pv_o,ev_o,rfl,hk,hb⟩;replace HB:=hide (HB.out.trans (hb.mono HB.out.size));replace Ss:=hide (Ss.out.below hb);replace St:=hide (St.out.below hb);replace Su:=hide (Su.out.below hb);replace Yj:=hide (Yj.out.below hb);replace Yk:=hide (Yk.out.below hb);replace Ym:=hide (Ym.out.below hb);have Yo:=hide (hk.congr (fun _ _=>ayx));clear hk;clear hb K;obtain rfl:=Yj.out.err Yk.out;obtain rfl:=Ym.out.err Yo.out;have hej:=Yj.out.ev;have hem:=Ym.out.ev;rcases hej with rfl|rfl
  case inr=>
   rcases hem with rfl|rfl
   case inl=>
    have K:=hide (ad2 w9 2 (.inr rfl));go_wp2_with fail
    refine K.out.mono ?_;rintro e w10 ⟨rfl,hb⟩;replace HB:=hide (HB.out.trans (hb.mono HB.out.size));replace Ss:=hide (Ss.out.below hb);replace St:=hide (St.out.below hb);replace Su:=hide (Su.out.below hb);replace Yj:=hide (Yj.out.below hb);replace Yk:=hide (Yk.out.below hb);replace Ym:=hide (Ym.out.below hb);replace Yo:=hide (Yo.out.below hb);clear hb K;have K:=hide (ad2 w10 0 (.inl rfl));go_wp2_with fail
    refine K.out.mono ?_;rintro e w11 ⟨rfl,hb⟩;replace HB:=hide (HB.out.trans (hb.mono HB.out.size));replace Ss:=hide (Ss.out.below hb);replace St:=hide (St.out.below hb);replace Su:=hide (Su.out.below hb);replace Yj:=hide (Yj.out.below hb);replace Yk:=hide (Yk.out.below hb);replace Ym:=hide (Ym.out.below hb);replace Yo:=hide (Yo.out.below hb);clear hb K;go_wp2;refine bodyPost_ret (v:=_) (by simp[results,Tryz.results4,go_sem];try rfl) rfl ⟨rfl,HB.out⟩
   case inr=>
    have K:=hide (ad2 w9 2 (.inr rfl));go_wp2_with fail
    refine K.out.mono ?_;rintro e w10 ⟨rfl,hb⟩;replace HB:=hide (HB.out.trans (hb.mono HB.out.size));replace Ss:=hide (Ss.out.below hb);replace St:=hide (St.out.below hb);replace Su:=hide (Su.out.below hb);replace Yj:=hide (Yj.out.below hb);replace Yk:=hide (Yk.out.below hb);replace Ym:=hide (Ym.out.below hb);replace Yo:=hide (Yo.out.below hb);clear hb K;have K:=hide (ad2 w10 2 (.inr rfl));go_wp2_with fail
    refine K.out.mono ?_;rintro e w11 ⟨rfl,hb⟩;replace HB:=hide (HB.out.trans (hb.mono HB.out.size));replace Ss:=hide (Ss.out.below hb);replace St:=hide (St.out.below hb);replace Su:=hide (Su.out.below hb);replace Yj:=hide (Yj.out.below hb);replace Yk:=hide (Yk.out.below hb);replace Ym:=hide (Ym.out.below hb);replace Yo:=hide (Yo.out.below hb);clear hb K;go_wp2;refine bodyPost_ret (v:=_) (by simp[results,Tryz.results4,go_sem];try rfl) rfl ⟨rfl,HB.out⟩
  rcases hem with rfl|rfl
  case inr=>
   have K:=hide (ad2 w9 0 (.inl rfl));go_wp2_with fail
   refine K.out.mono ?_;rintro e w10 ⟨rfl,hb⟩;replace HB:=hide (HB.out.trans (hb.mono HB.out.size));replace Ss:=hide (Ss.out.below hb);replace St:=hide (St.out.below hb);replace Su:=hide (Su.out.below hb);replace Yj:=hide (Yj.out.below hb);replace Yk:=hide (Yk.out.below hb);replace Ym:=hide (Ym.out.below hb);replace Yo:=hide (Yo.out.below hb);clear hb K;have K:=hide (ad2 w10 2 (.inr rfl));go_wp2_with fail
   refine K.out.mono ?_;rintro e w11 ⟨rfl,hb⟩;replace HB:=hide (HB.out.trans (hb.mono HB.out.size));replace Ss:=hide (Ss.out.below hb);replace St:=hide (St.out.below hb);replace Su:=hide (Su.out.below hb);replace Yj:=hide (Yj.out.below hb);replace Yk:=hide (Yk.out.below hb);replace Ym:=hide (Ym.out.below hb);replace Yo:=hide (Yo.out.below hb);clear hb K;go_wp2;refine bodyPost_ret (v:=_) (by simp[results,Tryz.results4,go_sem];try rfl) rfl ⟨rfl,HB.out⟩
  obtain⟨g_j,e_j,l_j,rfl,hsp,hkp,hhj⟩:=Yj.out.span;have Sj:=hide hsp;have kj:=hide hkp;have hj:=hide hhj;clear hsp hkp hhj Yj;obtain⟨g_k,rfl,hev,hsp⟩:=Yk.out.ok kj.out (hj.out);first|subst hev|clear hev
  have Sk:=hide hsp;clear hsp Yk;obtain⟨g_m,e_m,l_m,rfl,hsp,hkp,hhm⟩:=Ym.out.span;have Sm:=hide hsp;have km:=hide hkp;have hm:=hide hhm;clear hsp hkp hhm Ym;obtain⟨g_o,rfl,hev,hsp⟩:=Yo.out.ok km.out (hm.out);first|subst hev|clear hev
  have So:=hide hsp;clear hsp Yo;have K0:=swinK w9 g_s g_t n e_s l_s e_t l_t Ss.out St.out ks.out kt.out hn16;obtain⟨wb,hwb⟩:∃wb,WinB l_s e_t n=wb:=⟨_,rfl⟩;rw[hwb]at K0;have K:=hide K0;have HWB:=hide hwb;clear K0 hwb;go_wp2_with fail
  refine K.out.mono ?_;rintro e w10 ⟨rfl,hb⟩;replace HB:=hide (HB.out.trans (hb.mono HB.out.size));replace Ss:=hide (Ss.out.below hb);replace St:=hide (St.out.below hb);replace Su:=hide (Su.out.below hb);replace Sj:=hide (Sj.out.below hb);replace Sk:=hide (Sk.out.below hb);replace Sm:=hide (Sm.out.below hb);replace So:=hide (So.out.below hb);clear hb K;have K:=hide (sjoinK w10 g_s g_m n e_s l_s e_m l_m Ss.out Sm.out ks.out km.out hn16);go_wp2_with fail
  refine K.out.mono ?_;rintro e w11 ⟨pv_a,ev_a,rfl,hk,hb⟩;replace HB:=hide (HB.out.trans (hb.mono HB.out.size));replace Ss:=hide (Ss.out.below hb);replace St:=hide (St.out.below hb);replace Su:=hide (Su.out.below hb);replace Sj:=hide (Sj.out.below hb);replace Sk:=hide (Sk.out.below hb);replace Sm:=hide (Sm.out.below hb);replace So:=hide (So.out.below hb);have Ya:=hide (hk);clear hk;clear hb K;obtain⟨g_a,rfl,hev,hsp⟩:=Ya.out.ok ks.out (a3v ks.out hm.out);first|subst hev|clear hev
  have Sa:=hide hsp;clear hsp Ya;have K:=hide (smeetK w11 g_s g_j n e_s l_s e_j l_j Ss.out Sj.out ks.out kj.out hn16);go_wp2_with fail
  refine K.out.mono ?_;rintro e w12 ⟨pv_b,ev_b,rfl,hk,hb⟩;replace HB:=hide (HB.out.trans (hb.mono HB.out.size));replace Ss:=hide (Ss.out.below hb);replace St:=hide (St.out.below hb);replace Su:=hide (Su.out.below hb);replace Sj:=hide (Sj.out.below hb);replace Sk:=hide (Sk.out.below hb);replace Sm:=hide (Sm.out.below hb);replace So:=hide (So.out.below hb);replace Sa:=hide (Sa.out.below hb);have Yb:=hide (hk);clear hk;clear hb K;obtain⟨g_b,rfl,hev,hsp⟩:=Yb.out.ok ks.out (a3w ks.out kj.out hj.out);first|subst hev|clear hev
  have Sb:=hide hsp;clear hsp Yb;go_upto_region 17 with fail
  go_cut [189] (fun cv wx=>cv=.bool false/\Below w12.heap.size w12 wx)
  case first=>
   have HC:=hide (Below.refl w12.heap.size w12);have K0:=ab1 w12 g_j g_k n e_j l_j e_j l_j Sj.out Sk.out;rw[decide_eq_true rfl]at K0;have K:=hide K0;clear K0;go_wp2_with fail
   refine K.out.mono ?_;rintro e w13 ⟨rfl,hb⟩;replace HB:=hide (HB.out.trans (hb.mono HB.out.size));replace HC:=hide (HC.out.trans (hb.mono HC.out.size));replace Ss:=hide (Ss.out.below hb);replace St:=hide (St.out.below hb);replace Su:=hide (Su.out.below hb);replace Sj:=hide (Sj.out.below hb);replace Sk:=hide (Sk.out.below hb);replace Sm:=hide (Sm.out.below hb);replace So:=hide (So.out.below hb);replace Sa:=hide (Sa.out.below hb);replace Sb:=hide (Sb.out.below hb);clear hb K;have K0:=ab1 w13 g_m g_o n e_m l_m e_m l_m Sm.out So.out;rw[decide_eq_true rfl]at K0;have K:=hide K0;clear K0;go_wp2_with fail
   refine K.out.mono ?_;rintro e w14 ⟨rfl,hb⟩;replace HB:=hide (HB.out.trans (hb.mono HB.out.size));replace HC:=hide (HC.out.trans (hb.mono HC.out.size));replace Ss:=hide (Ss.out.below hb);replace St:=hide (St.out.below hb);replace Su:=hide (Su.out.below hb);replace Sj:=hide (Sj.out.below hb);replace Sk:=hide (Sk.out.below hb);replace Sm:=hide (Sm.out.below hb);replace So:=hide (So.out.below hb);replace Sa:=hide (Sa.out.below hb);replace Sb:=hide (Sb.out.below hb);clear hb K;have K0:=ab1 w14 g_a g_s n e_s l_s e_s l_s Sa.out Ss.out;rw[decide_eq_true rfl]at K0;have K:=hide K0;clear K0;go_wp2_with fail
   refine K.out.mono ?_;rintro e w15 ⟨rfl,hb⟩;replace HB:=hide (HB.out.trans (hb.mono HB.out.size));replace HC:=hide (HC.out.trans (hb.mono HC.out.size));replace Ss:=hide (Ss.out.below hb);replace St:=hide (St.out.below hb);replace Su:=hide (Su.out.below hb);replace Sj:=hide (Sj.out.below hb);replace Sk:=hide (Sk.out.below hb);replace Sm:=hide (Sm.out.below hb);replace So:=hide (So.out.below hb);replace Sa:=hide (Sa.out.below hb);replace Sb:=hide (Sb.out.below hb);clear hb K;have K0:=ab1 w15 g_b g_s n e_s l_s e_s l_s Sb.out Ss.out;rw[decide_eq_true rfl]at K0;have K:=hide K0;clear K0;go_wp2_with fail
   refine K.out.mono ?_;rintro e w16 ⟨rfl,hb⟩;replace HB:=hide (HB.out.trans (hb.mono HB.out.size));replace HC:=hide (HC.out.trans (hb.mono HC.out.size));replace Ss:=hide (Ss.out.below hb);replace St:=hide (St.out.below hb);replace Su:=hide (Su.out.below hb);replace Sj:=hide (Sj.out.below hb);replace Sk:=hide (Sk.out.below hb);replace Sm:=hide (Sm.out.below hb);replace So:=hide (So.out.below hb);replace Sa:=hide (Sa.out.below hb);replace Sb:=hide (Sb.out.below hb);clear hb K;have K0:=ab1 w16 g_j g_t n e_j l_j e_t l_t Sj.out St.out;rw[<-ayy ks.out kt.out kj.out hj.out,HWB.out]at K0;have K:=hide K0;clear K0;go_wp2_with fail
   refine K.out.mono ?_;rintro e w17 ⟨rfl,hb⟩;replace HB:=hide (HB.out.trans (hb.mono HB.out.size));replace HC:=hide (HC.out.trans (hb.mono HC.out.size));replace Ss:=hide (Ss.out.below hb);replace St:=hide (St.out.below hb);replace Su:=hide (Su.out.below hb);replace Sj:=hide (Sj.out.below hb);replace Sk:=hide (Sk.out.below hb);replace Sm:=hide (Sm.out.below hb);replace So:=hide (So.out.below hb);replace Sa:=hide (Sa.out.below hb);replace Sb:=hide (Sb.out.below hb);clear hb K;have hbn:=boolneq wb;have K0:=ab1 w17 g_m g_s n e_m l_m e_s l_s Sm.out Ss.out;rw[<-ayz ks.out kt.out km.out hm.out,HWB.out]at K0;have K:=hide K0;clear K0;go_wp2_with fail
   refine K.out.mono ?_;rintro e w18 ⟨rfl,hb⟩;replace HB:=hide (HB.out.trans (hb.mono HB.out.size));replace HC:=hide (HC.out.trans (hb.mono HC.out.size));replace Ss:=hide (Ss.out.below hb);replace St:=hide (St.out.below hb);replace Su:=hide (Su.out.below hb);replace Sj:=hide (Sj.out.below hb);replace Sk:=hide (Sk.out.below hb);replace Sm:=hide (Sm.out.below hb);replace So:=hide (So.out.below hb);replace Sa:=hide (Sa.out.below hb);replace Sb:=hide (Sb.out.below hb);clear hb K;cases wb with
   |false=>
    go_wp2_with fail
    go_meet;exact⟨rfl,HC.out⟩
   |true=>
    by_cases hst:e_s=e_t
    case pos=>
     have K0:=ab1 w18 g_s g_t n e_s l_s e_t l_t Ss.out St.out;rw[decide_eq_true hst]at K0;have K:=hide K0;clear K0;go_wp2_with fail
     refine K.out.mono ?_;rintro e w19 ⟨rfl,hb⟩;replace HB:=hide (HB.out.trans (hb.mono HB.out.size));replace HC:=hide (HC.out.trans (hb.mono HC.out.size));replace Ss:=hide (Ss.out.below hb);replace St:=hide (St.out.below hb);replace Su:=hide (Su.out.below hb);replace Sj:=hide (Sj.out.below hb);replace Sk:=hide (Sk.out.below hb);replace Sm:=hide (Sm.out.below hb);replace So:=hide (So.out.below hb);replace Sa:=hide (Sa.out.below hb);replace Sb:=hide (Sb.out.below hb);clear hb K;go_wp2_with fail
     go_meet;exact⟨rfl,HC.out⟩
    case neg=>
     have hlt:=a1p ks.out kt.out HWB.out hst;have K0:=ab1 w18 g_s g_t n e_s l_s e_t l_t Ss.out St.out;rw[decide_eq_false hst]at K0;have K:=hide K0;clear K0;go_wp2_with fail
     refine K.out.mono ?_;rintro e w19 ⟨rfl,hb⟩;replace HB:=hide (HB.out.trans (hb.mono HB.out.size));replace HC:=hide (HC.out.trans (hb.mono HC.out.size));replace Ss:=hide (Ss.out.below hb);replace St:=hide (St.out.below hb);replace Su:=hide (Su.out.below hb);replace Sj:=hide (Sj.out.below hb);replace Sk:=hide (Sk.out.below hb);replace Sm:=hide (Sm.out.below hb);replace So:=hide (So.out.below hb);replace Sa:=hide (Sa.out.below hb);replace Sb:=hide (Sb.out.below hb);clear hb K;have K1:=sdimK w19 g_s n e_s l_s Ss.out ks.out hn16;obtain⟨ds,hds⟩:∃d,l_s.length=d:=⟨_,rfl⟩;obtain⟨dt,hdt⟩:∃d,l_t.length=d:=⟨_,rfl⟩;rw[hds]at K1 hlt;rw[hdt]at hlt;have K:=hide K1;have HDT:=hide hdt;clear K1 hds hdt hst;go_wp2_with fail
     refine K.out.mono ?_;rintro e w20 ⟨rfl,hb⟩;replace HB:=hide (HB.out.trans (hb.mono HB.out.size));replace HC:=hide (HC.out.trans (hb.mono HC.out.size));replace Ss:=hide (Ss.out.below hb);replace St:=hide (St.out.below hb);replace Su:=hide (Su.out.below hb);replace Sj:=hide (Sj.out.below hb);replace Sk:=hide (Sk.out.below hb);replace Sm:=hide (Sm.out.below hb);replace So:=hide (So.out.below hb);replace Sa:=hide (Sa.out.below hb);replace Sb:=hide (Sb.out.below hb);clear hb K;have K1:=sdimK w20 g_t n e_t l_t St.out kt.out hn16;rw[HDT.out]at K1;have K:=hide K1;clear K1;have hge:decide ((dt:Int)-1<=(ds:Int)-1)=false:=by simp;omega
     have hge2:¬((dt:Int)-1<=(ds:Int)-1):=by omega
     go_wp2_with fail
     refine K.out.mono ?_;rintro e w21 ⟨rfl,hb⟩;replace HB:=hide (HB.out.trans (hb.mono HB.out.size));replace HC:=hide (HC.out.trans (hb.mono HC.out.size));replace Ss:=hide (Ss.out.below hb);replace St:=hide (St.out.below hb);replace Su:=hide (Su.out.below hb);replace Sj:=hide (Sj.out.below hb);replace Sk:=hide (Sk.out.below hb);replace Sm:=hide (Sm.out.below hb);replace So:=hide (So.out.below hb);replace Sa:=hide (Sa.out.below hb);replace Sb:=hide (Sb.out.below hb);clear hb K;go_wp2_with fail
     go_meet;exact⟨by rw[decide_eq_false (show ¬dt<=ds by omega)],HC.out⟩
  case rest=>
   obtain⟨rfl,hb⟩:=hcut;replace HB:=hide (HB.out.trans (hb.mono HB.out.size));replace Ss:=hide (Ss.out.below hb);replace St:=hide (St.out.below hb);replace Su:=hide (Su.out.below hb);replace Sj:=hide (Sj.out.below hb);replace Sk:=hide (Sk.out.below hb);replace Sm:=hide (Sm.out.below hb);replace So:=hide (So.out.below hb);replace Sa:=hide (Sa.out.below hb);replace Sb:=hide (Sb.out.below hb);clear hb;have K:=hide (sjoinK wc g_j g_u n e_j l_j e_u l_u Sj.out Su.out kj.out ku.out hn16);go_wp2_with fail
   refine K.out.mono ?_;rintro e w13 ⟨pv_left,ev_left,rfl,hk,hb⟩;replace HB:=hide (HB.out.trans (hb.mono HB.out.size));replace Ss:=hide (Ss.out.below hb);replace St:=hide (St.out.below hb);replace Su:=hide (Su.out.below hb);replace Sj:=hide (Sj.out.below hb);replace Sk:=hide (Sk.out.below hb);replace Sm:=hide (Sm.out.below hb);replace So:=hide (So.out.below hb);replace Sa:=hide (Sa.out.below hb);replace Sb:=hide (Sb.out.below hb);have Yleft:=hide (hk);clear hk;clear hb K;have K:=hide (sjoinK w13 g_t g_u n e_t l_t e_u l_u St.out Su.out kt.out ku.out hn16);go_wp2_with fail
   refine K.out.mono ?_;rintro e w14 ⟨pv_tu,ev_tu,rfl,hk,hb⟩;replace HB:=hide (HB.out.trans (hb.mono HB.out.size));replace Ss:=hide (Ss.out.below hb);replace St:=hide (St.out.below hb);replace Su:=hide (Su.out.below hb);replace Sj:=hide (Sj.out.below hb);replace Sk:=hide (Sk.out.below hb);replace Sm:=hide (Sm.out.below hb);replace So:=hide (So.out.below hb);replace Sa:=hide (Sa.out.below hb);replace Sb:=hide (Sb.out.below hb);replace Yleft:=hide (Yleft.out.below hb);have Ytu:=hide (hk);clear hk;clear hb K;have he1:=Yleft.out.ev;have he2:=Ytu.out.ev;rcases he1 with rfl|rfl
   case inr=>
    go_wp2;refine bodyPost_ret (v:=_) (by simp[results,Tryz.results4,go_sem];try rfl) rfl ⟨rfl,HB.out⟩
   rcases he2 with rfl|rfl
   case inr=>
    go_wp2;refine bodyPost_ret (v:=_) (by simp[results,Tryz.results4,go_sem];try rfl) rfl ⟨rfl,HB.out⟩
   obtain⟨g_left,e_left,l_left,rfl,hsp,hkp,hhleft⟩:=Yleft.out.span;have Sleft:=hide hsp;have kleft:=hide hkp;have hleft:=hide hhleft;clear hsp hkp hhleft Yleft;obtain⟨g_tu,e_tu,l_tu,rfl,hsp,hkp,hhtu⟩:=Ytu.out.span;have Stu:=hide hsp;have ktu:=hide hkp;have htu:=hide hhtu;clear hsp hkp hhtu Ytu;have K:=hide (sjoinK w14 g_s g_tu n e_s l_s e_tu l_tu Ss.out Stu.out ks.out ktu.out hn16);go_wp2_with fail
   refine K.out.mono ?_;rintro e w15 ⟨pv_right,ev_right,rfl,hk,hb⟩;replace HB:=hide (HB.out.trans (hb.mono HB.out.size));replace Ss:=hide (Ss.out.below hb);replace St:=hide (St.out.below hb);replace Su:=hide (Su.out.below hb);replace Sj:=hide (Sj.out.below hb);replace Sk:=hide (Sk.out.below hb);replace Sm:=hide (Sm.out.below hb);replace So:=hide (So.out.below hb);replace Sa:=hide (Sa.out.below hb);replace Sb:=hide (Sb.out.below hb);replace Sleft:=hide (Sleft.out.below hb);replace Stu:=hide (Stu.out.below hb);have Yright:=hide (hk);clear hk;clear hb K;have hHR:∀y,Out (n+1) y->(Hld n l_left y↔Hld n l_s y/\Hld n l_tu y):=fun y hy=>by rw[hleft.out y hy,hj.out y hy,htu.out y hy,and_assoc]
   obtain⟨g_right,rfl,hev,hsp⟩:=Yright.out.ok kleft.out (hHR);first|subst hev|clear hev
   have Sright:=hide hsp;clear hsp Yright;have K:=hide (smeetK w15 g_m g_u n e_m l_m e_u l_u Sm.out Su.out km.out ku.out hn16);go_wp2_with fail
   refine K.out.mono ?_;rintro e w16 ⟨pv_low,ev_low,rfl,hk,hb⟩;replace HB:=hide (HB.out.trans (hb.mono HB.out.size));replace Ss:=hide (Ss.out.below hb);replace St:=hide (St.out.below hb);replace Su:=hide (Su.out.below hb);replace Sj:=hide (Sj.out.below hb);replace Sk:=hide (Sk.out.below hb);replace Sm:=hide (Sm.out.below hb);replace So:=hide (So.out.below hb);replace Sa:=hide (Sa.out.below hb);replace Sb:=hide (Sb.out.below hb);replace Sleft:=hide (Sleft.out.below hb);replace Stu:=hide (Stu.out.below hb);replace Sright:=hide (Sright.out.below hb);have Ylow:=hide (hk);clear hk;clear hb K;have K:=hide (smeetK w16 g_t g_u n e_t l_t e_u l_u St.out Su.out kt.out ku.out hn16);go_wp2_with fail
   refine K.out.mono ?_;rintro e w17 ⟨pv_tm,ev_tm,rfl,hk,hb⟩;replace HB:=hide (HB.out.trans (hb.mono HB.out.size));replace Ss:=hide (Ss.out.below hb);replace St:=hide (St.out.below hb);replace Su:=hide (Su.out.below hb);replace Sj:=hide (Sj.out.below hb);replace Sk:=hide (Sk.out.below hb);replace Sm:=hide (Sm.out.below hb);replace So:=hide (So.out.below hb);replace Sa:=hide (Sa.out.below hb);replace Sb:=hide (Sb.out.below hb);replace Sleft:=hide (Sleft.out.below hb);replace Stu:=hide (Stu.out.below hb);replace Sright:=hide (Sright.out.below hb);replace Ylow:=hide (Ylow.out.below hb);have Ytm:=hide (hk);clear hk;clear hb K;have K0:=ab1 w17 g_left g_right n e_left l_left e_left l_left Sleft.out Sright.out;rw[decide_eq_true rfl]at K0;have K:=hide K0;clear K0;go_wp2_with fail
   refine K.out.mono ?_;rintro e w18 ⟨rfl,hb⟩;replace HB:=hide (HB.out.trans (hb.mono HB.out.size));replace Ss:=hide (Ss.out.below hb);replace St:=hide (St.out.below hb);replace Su:=hide (Su.out.below hb);replace Sj:=hide (Sj.out.below hb);replace Sk:=hide (Sk.out.below hb);replace Sm:=hide (Sm.out.below hb);replace So:=hide (So.out.below hb);replace Sa:=hide (Sa.out.below hb);replace Sb:=hide (Sb.out.below hb);replace Sleft:=hide (Sleft.out.below hb);replace Stu:=hide (Stu.out.below hb);replace Sright:=hide (Sright.out.below hb);replace Ylow:=hide (Ylow.out.below hb);replace Ytm:=hide (Ytm.out.below hb);clear hb K;have he1:=Ylow.out.ev;have he2:=Ytm.out.ev;rcases he1 with rfl|rfl
   case inr=>
    go_wp2;refine bodyPost_ret (v:=_) (by simp[results,Tryz.results4,go_sem];try rfl) rfl ⟨rfl,HB.out⟩
   rcases he2 with rfl|rfl
   case inr=>
    go_wp2;refine bodyPost_ret (v:=_) (by simp[results,Tryz.results4,go_sem];try rfl) rfl ⟨rfl,HB.out⟩
   obtain⟨g_low,e_low,l_low,rfl,hsp,hkp,hhlow⟩:=Ylow.out.span;have Slow:=hide hsp;have klow:=hide hkp;have hlow:=hide hhlow;clear hsp hkp hhlow Ylow;obtain⟨g_tm,e_tm,l_tm,rfl,hsp,hkp,hhtm⟩:=Ytm.out.span;have Stm:=hide hsp;have ktm:=hide hkp;have htm:=hide hhtm;clear hsp hkp hhtm Ytm;have K:=hide (smeetK w18 g_s g_tm n e_s l_s e_tm l_tm Ss.out Stm.out ks.out ktm.out hn16);go_wp2_with fail
   refine K.out.mono ?_;rintro e w19 ⟨pv_deep,ev_deep,rfl,hk,hb⟩;replace HB:=hide (HB.out.trans (hb.mono HB.out.size));replace Ss:=hide (Ss.out.below hb);replace St:=hide (St.out.below hb);replace Su:=hide (Su.out.below hb);replace Sj:=hide (Sj.out.below hb);replace Sk:=hide (Sk.out.below hb);replace Sm:=hide (Sm.out.below hb);replace So:=hide (So.out.below hb);replace Sa:=hide (Sa.out.below hb);replace Sb:=hide (Sb.out.below hb);replace Sleft:=hide (Sleft.out.below hb);replace Stu:=hide (Stu.out.below hb);replace Sright:=hide (Sright.out.below hb);replace Slow:=hide (Slow.out.below hb);replace Stm:=hide (Stm.out.below hb);have Ydeep:=hide (hk);clear hk;clear hb K;have hHD:∀y,Out (n+1) y->(Hld n l_low y↔Cls n (e_s++e_tm) y):=fun y hy=>(hlow.out y hy).trans (ay0 ks.out kt.out ku.out km.out ktm.out hm.out htm.out y)
   obtain⟨g_deep,rfl,hev,hsp⟩:=Ydeep.out.ok klow.out (hHD);first|subst hev|clear hev
   have Sdeep:=hide hsp;clear hsp Ydeep;have K0:=ab1 w19 g_low g_deep n e_low l_low e_low l_low Slow.out Sdeep.out;rw[decide_eq_true rfl]at K0;have K:=hide K0;clear K0;go_wp2_with fail
   refine K.out.mono ?_;rintro e w20 ⟨rfl,hb⟩;replace HB:=hide (HB.out.trans (hb.mono HB.out.size));replace Ss:=hide (Ss.out.below hb);replace St:=hide (St.out.below hb);replace Su:=hide (Su.out.below hb);replace Sj:=hide (Sj.out.below hb);replace Sk:=hide (Sk.out.below hb);replace Sm:=hide (Sm.out.below hb);replace So:=hide (So.out.below hb);replace Sa:=hide (Sa.out.below hb);replace Sb:=hide (Sb.out.below hb);replace Sleft:=hide (Sleft.out.below hb);replace Stu:=hide (Stu.out.below hb);replace Sright:=hide (Sright.out.below hb);replace Slow:=hide (Slow.out.below hb);replace Stm:=hide (Stm.out.below hb);replace Sdeep:=hide (Sdeep.out.below hb);clear hb K;go_wp2;refine bodyPost_ret (v:=_) (by simp[results,Tryz.results4,go_sem];try rfl) rfl ⟨rfl,HB.out⟩
end Lm
namespace Lm
open Go Go.RowKit Go.ChangeShapes Go.WideShapes Go.ChangeAt Go.Deep
theorem aob{cs:Array Value}(h:cs.size=4):∃a b c d,cs = #[a,b,c,d]:=by
 obtain⟨l⟩:=cs
 match l,h with
 | [a,b,c,d],_=>exact⟨a,b,c,d,rfl⟩
theorem apn{H:Type}{enc:TypeId×Value->H}{w:World}{fuel:Nat}{c:Value}{x:DataW H×List MemPlace}(h:DataW.trod enc Tryz.prog w 0 (fun _=>true) true fuel 22 [c]=some x):∃ao n cap,c=.slice ao n cap:=by
 rcases open_slice Tryz.underlying22 h with⟨hcs,_⟩|⟨a,len,cap',_,_,_,_,hcs,_⟩
 ·exact⟨none,0,0,by simpa using hcs⟩
 ·exact⟨some a,len,cap',by simpa using hcs⟩
theorem apo{H:Type}{enc:TypeId×Value->H}{w:World}{fuel:Nat}{c:Value}{x:DataW H×List MemPlace}(h:DataW.trod enc Tryz.prog w 0 (fun _=>true) true fuel 23 [c]=some x):∃ao n cap,c=.slice ao n cap:=by
 rcases open_slice Tryz.underlying23 h with⟨hcs,_⟩|⟨a,len,cap',_,_,_,_,hcs,_⟩
 ·exact⟨none,0,0,by simpa using hcs⟩
 ·exact⟨some a,len,cap',by simpa using hcs⟩
theorem akv{H:Type}{enc:TypeId×Value->H}{w:World}{fuel:Nat}{c0 c1 c2 c3:Value}{x:DataW H×List MemPlace}(h:DataW.trod enc Tryz.prog w 0 (fun _=>true) true fuel 25 [c0,c1,c2,c3]=some x)(hb:Rows.uptoBulk x.1<=1048576):
  ∃K,InW w (.agg #[c0,c1,c2,c3]) K:=by
 have kI:Tryz.prog.cellsOf 3=1:=by kernel_rfl
 have kQ:Tryz.prog.cellsOf 22=1:=by kernel_rfl
 have kM:Tryz.prog.cellsOf 23=1:=by kernel_rfl
 obtain⟨xs,n,_,hx,_,hl,hf⟩:=DataW.trod_struct Tryz.underlying25 h;obtain⟨x0,x1,x2,x3,rfl⟩:∃x0 x1 x2 x3,xs = [x0,x1,x2,x3]:=by
  match xs,hl with
  | [x0,x1,x2,x3],_=>exact⟨x0,x1,x2,x3,rfl⟩
 have f0:=hf 0 _ rfl;have f1:=hf 1 _ rfl;have f2:=hf 2 _ rfl;have f3:=hf 3 _ rfl;have g0:DataW.trod enc Tryz.prog w 0 (fun _=>true) true n 3 [c0]=some x0:=by simpa[kI]using f0
 have g1:DataW.trod enc Tryz.prog w 0 (fun _=>true) true n 3 [c1]=some x1:=by simpa[kI]using f1
 have g2:DataW.trod enc Tryz.prog w 0 (fun _=>true) true n 22 [c2]=some x2:=by simpa[kQ]using f2
 have g3:DataW.trod enc Tryz.prog w 0 (fun _=>true) true n 23 [c3]=some x3:=by simpa[kM]using f3
 have hd:x.1=.agg [x0.1,x1.1,x2.1,x3.1]:=congrArg Prod.fst hx;rw[hd]at hb;simp only[Rows.uptoBulk,Rows.uptoBulkAll]at hb;obtain⟨K,hK,_,hw⟩:=DataW.trod_int Tryz.underlying3 g0;obtain⟨k,hk,_⟩:=DataW.trod_int Tryz.underlying3 g1;obtain rfl:c0=.int .i64 K:=by simpa using hK
 obtain rfl:c1=.int .i64 k:=by simpa using hk
 obtain⟨a2,n2,p2,rfl⟩:=apn g2;obtain⟨a3,n3,p3,rfl⟩:=apo g3;obtain⟨fss,h1,h2⟩:=a1j g2;obtain⟨ess,h3,h4⟩:=au6 g3;have hKb:K<=9223372036854775807:=by
  simp only[Lit.wf,IntKind.min,IntKind.max,IntKind.signed,IntKind.bits]at hw;simp at hw;omega
 exact⟨K,k,_,_,fss,ess,rfl,h1,by omega,h3,by omega,hKb⟩
end Lm
namespace spanLatticeLaw
open Go.ChangeShapes Go.WideShapes Go.ChangeAt Go.RowKit
open Go.ChangeMaps (open_string shut_string)
theorem own:ownKnob Tryz.prog.godebug=none:=by kernel_rfl
theorem laidOut:laidOutB Tryz.prog=true:=by kernel_rfl
set_option linter.unusedVariables false in
set_option maxRecDepth 100000 in
theorem lifted(os:Os)(started:os.Started)(H:Type)(enc:TypeId×Value->H)(F:Stop.Interp):
  ReturnsInHanded {} Tryz.checked os 4 .any ((Rows.OpenSpec.upto Rows.spanLatticeSpec).pre6 enc Tryz.prog Tryz.f4 Rows.spanLatticeUptoRow.domain false) (((Rows.OpenSpec.upto Rows.spanLatticeSpec).at F).post enc Tryz.prog Tryz.f4 false true false false):=by
 refine returnsInHanded_of_cond (C:=Tryz.checked) (s:=Rows.OpenSpec.upto Rows.spanLatticeSpec) (k:=Rows.uptoSmall) rfl own started (by kernel_rfl) Tryz.func4
  (OpenSpec.witness (enc:=enc) (C:=Tryz.checked) (s:=Rows.OpenSpec.upto Rows.spanLatticeSpec) (k:=Rows.uptoSmall) rfl false ⟨#[],#[.agg #[.int .i64 0,.int .i64 0,.slice none 0 0,.slice none 0 0],.agg #[.int .i64 0,.int .i64 0,.slice none 0 0,.slice none 0 0],.agg #[.int .i64 0,.int .i64 0,.slice none 0 0,.slice none 0 0]],[]⟩ 8 (by kernel_rfl) (by kernel_rfl) (by kernel_rfl)
   (x:=([.agg [.lit (.int .i64 0),.lit (.int .i64 0),.nil,.nil],.agg [.lit (.int .i64 0),.lit (.int .i64 0),.nil,.nil],.agg [.lit (.int .i64 0),.lit (.int .i64 0),.nil,.nil]],[],[])) (by kernel_rfl) rfl (by kernel_rfl)) ?_
 intro W base args ds gs before hval0 hW _ hk _;have hval:∀(j:Nat) t v,Tryz.f4.params[j]? = some t->args[j]? = some v->Value.okWide Tryz.prog W .any base t v:=hval0;have hW':=hW;obtain⟨p,q,hA0,hV,rfl,hfz,hnd⟩:=hW;have hA:DataW.TrodAll enc Tryz.prog W 0 (fun _=>true) true Tryz.f4.params.toList args.toList ds p:=hA0;rw[Tryz.params4]at hA hval;obtain⟨v0,vs0,d0,ds0,p0,q0,hargs,rfl,rfl,h0,r_0⟩:=trodAll_cons hA;obtain⟨v1,vs1,d1,ds1,p1,q1,rfl,rfl,rfl,h1,r_1⟩:=trodAll_cons r_0;obtain⟨v2,vs2,d2,ds2,p2,q2,rfl,rfl,rfl,h2,r_2⟩:=trodAll_cons r_1;obtain⟨rfl,rfl,rfl⟩:=trodAll_nil r_2;obtain rfl:args = #[v0,v1,v2]:=by cases args;simp_all
 obtain⟨rfl,rfl⟩:=trodVars_none hV;have hbulk:Rows.uptoBulkAll ([d0,d1,d2]:List (DataW H))<=1048576:=by
  have h:=of_decide_eq_true hk;simpa only[List.append_nil]using h
 simp only[Rows.uptoBulkAll]at hbulk;have k0:=h0;have lt0:∀x∈p0,x.block<W.heap.size:=by obtain⟨m,hm⟩:=k0;exact DataW.trod_lt m _ _ _ hm
 obtain⟨z0,w0⟩:∃K,Lm.InW W v0 K:=by
  obtain⟨cs,hv,hsz2⟩:=okWide_struct Tryz.underlying25 (hval 0 25 v0 rfl rfl);obtain⟨c0,c1,c2,c3,rfl⟩:=Lm.aob (hsz2.trans (by kernel_rfl:Tryz.prog.cellsOf 25=4));subst hv;obtain⟨fuel,hf⟩:=h0;exact Lm.akv (x:=(d0,p0)) (by simpa[Value.cells]using hf) (by show Rows.uptoBulk d0<=1048576;omega)
 have k1:=h1;have lt1:∀x∈p1,x.block<W.heap.size:=by obtain⟨m,hm⟩:=k1;exact DataW.trod_lt m _ _ _ hm
 obtain⟨z1,w1⟩:∃K,Lm.InW W v1 K:=by
  obtain⟨cs,hv,hsz2⟩:=okWide_struct Tryz.underlying25 (hval 1 25 v1 rfl rfl);obtain⟨c0,c1,c2,c3,rfl⟩:=Lm.aob (hsz2.trans (by kernel_rfl:Tryz.prog.cellsOf 25=4));subst hv;obtain⟨fuel,hf⟩:=h1;exact Lm.akv (x:=(d1,p1)) (by simpa[Value.cells]using hf) (by show Rows.uptoBulk d1<=1048576;omega)
 have k2:=h2;have lt2:∀x∈p2,x.block<W.heap.size:=by obtain⟨m,hm⟩:=k2;exact DataW.trod_lt m _ _ _ hm
 obtain⟨z2,w2⟩:∃K,Lm.InW W v2 K:=by
  obtain⟨cs,hv,hsz2⟩:=okWide_struct Tryz.underlying25 (hval 2 25 v2 rfl rfl);obtain⟨c0,c1,c2,c3,rfl⟩:=Lm.aob (hsz2.trans (by kernel_rfl:Tryz.prog.cellsOf 25=4));subst hv;obtain⟨fuel,hf⟩:=h2;exact Lm.akv (x:=(d2,p2)) (by simpa[Value.cells]using hf) (by show Rows.uptoBulk d2<=1048576;omega)
 clear hA0 hval0;refine(Lm.aj1 W v0 v1 v2 z0 z1 z2 w0 w1 w2).mono fun e W' ⟨he,bel⟩=>?_
 subst he;exact⟨_,rfl,_,_,_,[],_,[],hW',trodAll_mk1 (shut_bool Tryz.underlying4 _),(trodAll_cons_mk (Below.trod laidOut (by kernel_rfl) (of_decide_eq_true (by kernel_rfl)) k0 bel lt0) (trodAll_cons_mk (Below.trod laidOut (by kernel_rfl) (of_decide_eq_true (by kernel_rfl)) k1 bel lt1) (trodAll_cons_mk (Below.trod laidOut (by kernel_rfl) (of_decide_eq_true (by kernel_rfl)) k2 bel lt2) trodAll_mk0))),rfl,bel.frame _,fun h=>by cases h⟩
theorem over:Rows.SpanLatticeUptoSaid:=
 OpenClaim.holds_of_cond 4 Tryz.f4 rfl rfl rfl rfl rfl rfl rfl ⟨rfl,rfl,rfl,rfl,rfl⟩ rfl rfl rfl rfl rfl (by kernel_rfl) Tryz.func4 (by kernel_rfl)
  (of_decide_eq_true (by kernel_rfl)) (by unfold Func.isWrapper;first|(rw[if_pos (by decide +kernel)];kernel_rfl)|(rw[if_neg (by decide +kernel)];exact⟨rfl,rfl⟩))
  (fun os started H enc _ F=>lifted os started H enc F)
end spanLatticeLaw
theorem spanLattice_upto:Rows.SpanLatticeUptoSaid:=spanLatticeLaw.over
#print axioms spanLattice_upto
end Go.Proofs.YtpbllidpalgkkaaGreat
