/-
  What the text behind the last one leans on, part 1.
-/
import Derived.Scope
import Derived.Deep.DeepCutAuto
import Derived.Deep.QuietTactic
import Derived.BigQuiet
import Derived.Deep.RegionWith
import Derived.Deep.RegionHeld3
import Derived.Deep.LoopGhost
import Derived.WalkMore
import Derived.Test.YtooefpkhacecnaaGreatDoorXDLawZ0
set_option maxRecDepth 20000
set_option maxHeartbeats 40000000
namespace Go.Proofs.YtooefpkhacecnaaGreatDoor
namespace Lm
open Go Go.RowKit
structure Only (w w':World) (g:Nat):Prop where
 os:w'.os=w.os
 tape:w'.tape=w.tape
 output:w'.output=w.output
 size:w'.heap.size=w.heap.size
 other:∀k,k≠g->w'.heap[k]? = w.heap[k]?
structure BoxTy where
 T:TypeId
 zero:Value
 Cs:Value->Array Value->Prop
def BoxV(τ:BoxTy)(w:World)(g:Nat)(v:Value):Prop:=∃cs,τ.Cs v cs/\w.heap[g]? = some (.cells cs τ.T (0,0))
theorem BoxV.lt{τ:BoxTy}{w:World}{g:Nat}{v:Value}(h:BoxV τ w g v):g<w.heap.size:=by
 obtain⟨cs,_,h⟩:=h;exact aaa h
theorem BoxV.below{τ:BoxTy}{w w':World}{g:Nat}{v:Value}(h:BoxV τ w g v)(hb:Below w.heap.size w w'):BoxV τ w' g v:=by
 obtain⟨cs,hc,h⟩:=h;exact⟨cs,hc,(hb.block g (aaa h)).trans h⟩
theorem BoxV.only{τ:BoxTy}{w w':World}{g k:Nat}{v:Value}(h:BoxV τ w k v)(ho:Only w w' g)(hn:k≠g):BoxV τ w' k v:=by
 obtain⟨cs,hc,h⟩:=h;exact⟨cs,hc,(ho.other k hn).trans h⟩
structure BoxOk (P:Program) (τ:BoxTy):Prop where
 noInt:∀v cs,τ.Cs v cs->∀(i:Nat) (k:IntKind) (z:Int),cs[i]?≠some (.int k z)
 ne:τ.T≠70/\τ.T≠3
 alloc:∀w,∃cs,τ.Cs τ.zero cs/\(Instr.alloc τ.T true (.tuple #[])).run P w=.ok (.pointer (some ⟨w.heap.size,0,none⟩)) (w.alloc (.cells cs τ.T))
 box:∀w v,(∃cs,τ.Cs v cs)->∃cs,τ.Cs v cs/\(Instr.box τ.T v).run P w=.ok (.pointer (some ⟨w.heap.size,0,none⟩)) (w.alloc (.cells cs τ.T))
 store:∀w g v0 v,BoxV τ w g v0->(∃cs,τ.Cs v cs)->∃w',(Instr.storeAt τ.T (.pointer (some ⟨g,0,none⟩)) v).run P w=.ok () w'/\BoxV τ w' g v/\Only w w' g
 load:∀w g v,BoxV τ w g v->(Instr.loadAt τ.T (.pointer (some ⟨g,0,none⟩))).run P w=.ok v w
structure Rl (w w':World):Prop where
 size:w.heap.size<=w'.heap.size
 ints:∀(p:Addr) (k:IntKind) (z:Int),w.cell? p=some (.int k z)->w'.cell? p=some (.int k z)
 rows:∀(g:Nat) (cs:Array Value) (T:TypeId),T=70\/T=3->w.heap[g]? = some (.cells cs T (0,0))->w'.heap[g]? = some (.cells cs T (0,0))
theorem aap{w:World}{p:Addr}{v:Value}(h:w.cell? p=some v):p.block<w.heap.size:=by
 apply Classical.byContradiction;intro hn;have:w.heap[p.block]? = none:=Array.getElem?_eq_none (by omega);simp[World.cell?,this]at h
theorem Rl.of_below{w w':World}(h:Below w.heap.size w w'):Rl w w':=
 ⟨h.size,fun p k z e=>by rw[h.cell (aap e)];exact e,fun g cs T _ e=>(h.block g (aaa e)).trans e⟩
theorem Rl.of_only{P:Program}{τ:BoxTy}{w w':World}{g:Nat}{v:Value}(hτ:BoxOk P τ)(hb:BoxV τ w g v)(h:Only w w' g):Rl w w':=by
 obtain⟨cs,hc,hh⟩:=hb;refine⟨Nat.le_of_eq h.size.symm,fun p k z e=>?_,fun k cs' T hT e=>?_⟩
 ·by_cases hp:p.block=g
  ·exfalso;obtain⟨b,o,m⟩:=p;simp only at hp;subst hp;simp only[World.cell?,hh]at e;cases m with
   |none=>exact hτ.noInt v cs hc o k z (by simpa using e)
   |some m=>simp at e
  ·rw[World.cell?_of_block (w:=w) (h.other p.block hp)];exact e
 ·by_cases hk:k=g
  ·exfalso;subst hk;rw[hh]at e;have:τ.T=T:=by injection e with e;injection e
   rcases hT with rfl|rfl
   ·exact hτ.ne.1 this
   ·exact hτ.ne.2 this
  ·exact(h.other k hk).trans e
theorem Rl.trans{w w' w'':World}(h:Rl w w')(h':Rl w' w''):Rl w w'':=⟨Nat.le_trans h.size h'.size,fun p k z e=>h'.ints p k z (h.ints p k z e),fun g cs T hT e=>h'.rows g cs T hT (h.rows g cs T hT e)⟩
theorem Sl.rl{w w':World}{v:Value}{zs:List Int}(h:Sl w v zs)(hr:Rl w w'):Sl w' v zs:=by
 obtain⟨ao,cap,rfl,h1,h2,h3,h4⟩:=h;refine⟨ao,cap,rfl,h1,h2,h3,?_⟩;rcases h4 with h4|⟨b,off,rfl,hc⟩
 ·exact .inl h4
 ·exact .inr ⟨b,off,rfl,fun i hi=>hr.ints _ _ _ (hc i hi)⟩
structure Bx where
 τ:BoxTy
 ia:Option Nat
 g0:Nat
 d:Nat
 v0:Value
 st:Option (Nat×Nat×Nat)
 wt:List Nat
def flag(l:Array Bool)(j:Nat):Bool:=l.getD j false
theorem adj{l:Array Bool}{i:Nat}(h:i<l.size):flag (l.setIfInBounds i true) i=true:=by
 simp[flag,h]
theorem aar{l:Array Bool}{i j:Nat}(h:j≠i):flag (l.setIfInBounds i true) j=flag l j:=getD_set_ne false (fun e=>h e.symm)
theorem ae5{l:Array Bool}{i j:Nat}(h:flag (l.setIfInBounds i true) j=true):j=i\/(j≠i/\flag l j=true):=by
 by_cases e:j=i
 ·exact .inl e
 ·exact .inr ⟨e,by rwa[aar e]at h⟩
def rd(Ds:List (Option Nat))(a:Act)(j:Nat):Value:=match Ds.getD j none with|some d=>a.eval (.tmp d)|none=>undef
def Rest4(Ds:List (Option Nat))(a0 a:Act):Prop:=∀k,Ds.contains (some k)=false->a.eval (.tmp k)=a0.eval (.tmp k)
def Mono4(p:Says):Prop:=∀v w w',Rl w w'->p v w->p v w'
def Mono4s:List Says->Prop
 | []=>True
 |p::ps=>Mono4 p/\Mono4s ps
theorem Mono4s.at{ps:List Says}(h:Mono4s ps)(j:Nat):Mono4 (ps.getD j (fun _ _=>True)):=by
 induction ps generalizing j with
 |nil=>intro v w w' _ _;simp
 |cons p ps ih=>
  cases j with
  |zero=>simpa using h.1
  |succ j=>simpa using ih h.2 j
def made(l:Array Bool)(b:Bx):Bool:=match b.ia with|some i=>flag l i|none=>true
def filled(l:Array Bool)(b:Bx):Bool:=match b.st with|some q=>flag l q.1|none=>false
def Content(b:Bx)(l:Array Bool)(a:Act)(v:Value):Prop:=(filled l b=false->v=b.v0)/\∀q,b.st=some q->flag l q.1=true->flag l q.2.2=true/\a.eval (.tmp q.2.1)=v
def Boxes(bx:List Bx)(w0:World)(l:Array Bool)(a:Act)(w:World)(gs:Nat->Nat):Prop:=
 (∀k b,bx[k]? = some b->made l b=true->a.eval (.tmp b.d)=.pointer (some ⟨gs k,0,none⟩)/\(b.ia=none->gs k=b.g0)/\(b.ia≠none->w0.heap.size<=gs k)/\∃v,BoxV b.τ w (gs k) v/\Content b l a v) /\
 (∀k k' b b',bx[k]? = some b->bx[k']? = some b'->k≠k'->made l b=true->made l b'=true->gs k≠gs k')
structure But (bx:List Bx) (w0 w:World):Prop where
 os:w.os=w0.os
 tape:w.tape=w0.tape
 output:w.output=w0.output
 size:w0.heap.size<=w.heap.size
 keep:∀m,m<w0.heap.size->(∀b∈bx,b.ia=none->b.g0≠m)->w.heap[m]? = w0.heap[m]?
theorem But.below{bx:List Bx}{w0 w:World}(h:But bx w0 w){B:Nat}(hB:B<=w0.heap.size)(ho:∀b∈bx,b.ia=none->B<=b.g0):Below B w0 w:=
 ⟨h.os,h.tape,h.output,h.size,fun k hk=>h.keep k (by omega) (fun b hb hn=>by have:=ho b hb hn;omega)⟩
def Slots(Ds:List (Option Nat))(a0:Act)(l:Array Bool)(a:Act):Prop:=∀j d,Ds.getD j none=some d->flag l j=false->a.eval (.tmp d)=a0.eval (.tmp d)
def Mid4(n:Nat)(Ds:List (Option Nat))(Ps:List Says)(bx:List Bx)(a0:Act)(w0:World)(l:Array Bool)(a:Act)(w:World):Prop:=
 l.size=Ds.length/\a.tmps.size=n/\a.defers=a0.defers/\But bx w0 w/\Rl w0 w/\Rest4 Ds a0 a/\Slots Ds a0 l a/\(∀j,flag l j=true->Ps.getD j (fun _ _=>True) (rd Ds a j) w)/\∃gs,Boxes bx w0 l a w gs
def Deps4(Ds:List (Option Nat))(Ps:List Says)(o:Oper)(a:Act)(w:World):Prop:=∀j,(o.after.toList.any fun e=>e.on==j&&Region.binds .any e)=true->Ps.getD j (fun _ _=>True) (rd Ds a j) w
def Olds(bx:List Bx)(i:Nat)(w:World):Prop:=∀(k:Nat) (b:Bx),bx[k]? = some b->b.ia=none->b.wt.contains i=true->BoxV b.τ w b.g0 b.v0
inductive Duty4 (P:Program) (n:Nat) (Ds:List (Option Nat)) (Ps:List Says) (bx:List Bx) (Wt:List (Nat×Nat)) (a0:Act) (w0:World) (i:Nat) (o:Oper) (p:Says):Prop
 |norm (d:Nat) (hd:o.dst=some d) (hD:Ds.getD i none=some d) (hb:(bx.all fun b=>b.ia != some i&&b.st.all fun q=>q.1 != i)=true)
   (h:∀a w,a.tmps.size=n->But bx w0 w->Rl w0 w->Rest4 Ds a0 a->Deps4 Ds Ps o a w->Olds bx i w->(∀j d,Wt.contains (j,i)=true->Ds.getD j none=some d->a.eval (.tmp d)=a0.eval (.tmp d)) ->
    match o.guard with
    |none=>Does P o a.eval w fun v w'=>Below w.heap.size w w'/\p v w'
    |some (g,b)=>(∃dg,Ds.getD g none=some dg)/\(rd Ds a g=.bool b->Does P o a.eval w fun v w'=>Below w.heap.size w w'/\p v w')/\(rd Ds a g≠.bool b->p undef w))
 |alloc (k:Nat) (b:Bx) (hk:bx[k]? = some b) (hi:b.ia=some i) (ho:(o.op=.alloc b.τ.T/\b.v0=b.τ.zero)\/∃x,o.op=.box b.τ.T x/\(∃cs,b.τ.Cs b.v0 cs)/\∀a,Rest4 Ds a0 a->a.eval x=b.v0) (hd:o.dst=some b.d) (hg:o.guard=none) (hp:p=fun _ _=>True) (hu:(bx.zipIdx.all fun q=>q.2==k||(q.1.ia != some i))=true) (hs:(bx.all fun b=>b.st.all fun q=>q.1 != i&&q.2.2 != i)=true)
 |store (k:Nat) (b:Bx) (src isrc:Nat) (hk:bx[k]? = some b) (hi:b.st=some (i,src,isrc)) (ho:o.op=.store b.τ.T (.tmp b.d) (.tmp src)) (hd:o.dst=none) (hD:Ds.getD i none=none) (hg:o.guard=none) (hp:p=fun _ _=>True) (ha:∀ia,b.ia=some ia->(o.after.toList.any fun e=>e.on==ia&&Region.binds .any e)=true) (hs:(o.after.toList.any fun e=>e.on==isrc&&Region.binds .any e)=true) (hu:(bx.zipIdx.all fun q=>q.2==k||(q.1.st.all fun q=>q.1 != i))=true) (hn:(bx.all fun b=>b.ia != some i&&b.st.all fun q=>q.2.2 != i)=true)
   (hv:∀v w,Ps.getD isrc (fun _ _=>True) v w->∃cs,b.τ.Cs v cs)
def Duties4(P:Program)(n:Nat)(Ds:List (Option Nat))(Ps:List Says)(bx:List Bx)(Wt:List (Nat×Nat))(a0:Act)(w0:World):Nat->List Oper->List Says->Prop
 |_,[],[]=>True
 |i,o::os,p::ps=>Duty4 P n Ds Ps bx Wt a0 w0 i o p/\Duties4 P n Ds Ps bx Wt a0 w0 (i+1) os ps
 |_,_,_=>False
theorem Duties4.at{P:Program}{n:Nat}{Ds:List (Option Nat)}{Ps:List Says}{bx:List Bx}{Wt:List (Nat×Nat)}{a0:Act}{w0:World}: ∀ {os:List Oper} {ps:List Says} {m:Nat},Duties4 P n Ds Ps bx Wt a0 w0 m os ps->∀i o,os[i]? = some o->Duty4 P n Ds Ps bx Wt a0 w0 (m+i) o (ps.getD i fun _ _=>True)
 | [],[],_,_=>fun i o h=>by simp at h
 |o::os,p::ps,m,h=>fun i o' ho=>by
  obtain⟨h1,h2⟩:=h;cases i with
  |zero=>
   simp only[List.getElem?_cons_zero,Option.some.injEq]at ho;subst ho;simpa using h1
  |succ i=>
   have:=Duties4.at h2 i o' (by simpa using ho);have e:m+1+i=m+(i+1):=by omega
   rw[e]at this;simpa using this
 | [],_::_,_,h=>h.elim
 |_::_,[],_,h=>h.elim
def Inj(Ds:List (Option Nat)):Prop:=∀i j d,Ds.getD i none=some d->Ds.getD j none=some d->i=j
theorem avu{Ds:List (Option Nat)}(h:(Ds.zipIdx.all fun p=>p.1.isNone||Ds.zipIdx.all fun q=>p.1 != q.1||p.2==q.2)=true):Inj Ds:=by
 intro i j d hi hj;have key:∀(k:Nat),Ds.getD k none=some d->(some d,k)∈Ds.zipIdx:=by
  intro k hk;rw[List.getD_eq_getElem?_getD]at hk;rw[List.mem_zipIdx_iff_getElem?];cases he:Ds[k]? with
  |none=>rw[he]at hk;simp at hk
  |some x=>rw[he]at hk;simp at hk;simp[hk]
 have h1:=List.all_eq_true.1 h _ (key i hi);simp only[Option.isNone_some,Bool.false_or]at h1;have h2:=List.all_eq_true.1 h1 _ (key j hj);simpa using h2
def Fits(n:Nat)(Ds:List (Option Nat))(bx:List Bx):Prop:=(∀j d,Ds.getD j none=some d->d<n)/\∀b∈bx,(∀ia,b.ia=some ia->Ds.getD ia none=some b.d/\ia<Ds.length)/\(b.ia=none->Ds.contains (some b.d)=false)/\∀q,b.st=some q->q.1<Ds.length/\Ds.getD q.2.2 none=some q.2.1/\q.2.2<Ds.length
def fitOne(Ds:List (Option Nat))(b:Bx):Bool:=(match b.ia with|some ia=>Ds.getD ia none==some b.d&&decide (ia<Ds.length)|none=>!Ds.contains (some b.d))&&b.st.all fun q=>decide (q.1<Ds.length)&&(Ds.getD q.2.2 none==some q.2.1)&&decide (q.2.2<Ds.length)
theorem aug{n:Nat}{Ds:List (Option Nat)}{bx:List Bx}(h:(Ds.all fun d=>d.all fun d=>decide (d<n))=true)(hb:(bx.all (fitOne Ds))=true):Fits n Ds bx:=by
 refine⟨fun j d hj=>?_,fun b hm=>?_⟩
 ·rw[List.getD_eq_getElem?_getD]at hj;cases he:Ds[j]? with
  |none=>rw[he]at hj;simp at hj
  |some x=>
   rw[he]at hj;simp at hj;subst hj;have:=List.all_eq_true.1 h _ (List.mem_of_getElem? he);simpa using this
 ·have:=List.all_eq_true.1 hb b hm;unfold fitOne at this;simp only[Bool.and_eq_true]at this;obtain⟨h1,h2⟩:=this;refine⟨fun ia e=>?_,fun e=>?_,fun q e=>?_⟩
  ·rw[e]at h1;simpa using h1
  ·rw[e]at h1;simpa using h1
  ·rw[e]at h2;simpa[and_assoc]using h2
theorem ai2{Ds:List (Option Nat)}{a:Act}{i j d:Nat}{v:Value}(hI:Inj Ds)(hi:Ds.getD i none=some d)(hne:j≠i):rd Ds (a.put (some d) v) j=rd Ds a j:=by
 unfold rd;cases hj:Ds.getD j none with
 |none=>rfl
 |some d'=>
  simp only;refine abj (fun e=>hne ?_);subst e;exact hI j i d hj hi
theorem aj4{Ds:List (Option Nat)}{a0 a:Act}{i d:Nat}{v:Value}(h:Rest4 Ds a0 a)(hi:Ds.getD i none=some d):Rest4 Ds a0 (a.put (some d) v):=by
 intro k hk;rw[abj,h k hk];rintro rfl;have:Ds.contains (some d)=true:=by
  rw[List.contains_iff_mem];rw[List.getD_eq_getElem?_getD]at hi;cases he:Ds[i]? with
  |none=>rw[he]at hi;simp at hi
  |some x=>rw[he]at hi;simp at hi;subst hi;exact List.mem_of_getElem? he
 rw[this]at hk;cases hk
section
variable {P:Program} {n:Nat} {Ds:List (Option Nat)} {Ps:List Says} {bx:List Bx} {a0:Act} {w0:World} {l:Array Bool} {a:Act} {w w':World} {i d:Nat} {v:Value}
theorem agq{Ds:List (Option Nat)}{i d:Nat}(hi:Ds.getD i none=some d):Ds.contains (some d)=true:=by
 rw[List.contains_iff_mem];rw[List.getD_eq_getElem?_getD]at hi;cases he:Ds[i]? with
 |none=>rw[he]at hi;simp at hi
 |some x=>rw[he]at hi;simp at hi;subst hi;exact List.mem_of_getElem? he
theorem anj{Ds:List (Option Nat)}{i d:Nat}(hi:Ds.getD i none=some d):i<Ds.length:=by
 apply Classical.byContradiction;intro hn;rw[List.getD_eq_getElem?_getD,List.getElem?_eq_none (by omega)]at hi;simp at hi
theorem Slots.put(h:Slots Ds a0 l a)(hs:l.size=Ds.length)(hI:Inj Ds)(hi:Ds.getD i none=some d)(v:Value):Slots Ds a0 (l.setIfInBounds i true) (a.put (some d) v):=by
 intro j e hj hf;by_cases hji:j=i
 ·subst hji;rw[adj (by rw[hs];exact anj hi)]at hf;cases hf
 ·rw[aar hji]at hf;rw[abj,h j e hj hf];rintro rfl;exact hji (hI _ _ _ hj hi)
theorem Mid4.norm(h:Mid4 n Ds Ps bx a0 w0 l a w)(hF:Fits n Ds bx)(hI:Inj Ds)(hM:Mono4s Ps)(hnd:flag l i=false)(hi:Ds.getD i none=some d)(hb:(bx.all fun b=>b.ia != some i&&b.st.all fun q=>q.1 != i)=true)(hw:Below w.heap.size w w')(hp:Ps.getD i (fun _ _=>True) v w'):
  Mid4 n Ds Ps bx a0 w0 (l.setIfInBounds i true) (a.put (some d) v) w':=by
 obtain⟨h1,h2,h3,h4,hr,h5,hS,h6,gs,h7,h8⟩:=h;have hdn:d<n:=hF.1 i d hi;have hmade:∀b∈bx,made (l.setIfInBounds i true) b=made l b:=by
  intro b hm;have hbb:=List.all_eq_true.1 hb b hm;simp only[Bool.and_eq_true,bne_iff_ne]at hbb;unfold made;cases hia:b.ia with
  |none=>rfl
  |some ia=>exact aar (fun e=>hbb.1 (by rw[hia,e]))
 refine⟨by simp[h1],by rw[ag5];simp[h2],h3,⟨hw.os.trans h4.os,hw.tape.trans h4.tape,hw.output.trans h4.output,Nat.le_trans h4.size hw.size,fun m hm ho=>(hw.block m (Nat.lt_of_lt_of_le hm h4.size)).trans (h4.keep m hm ho)⟩,hr.trans (Rl.of_below hw),aj4 h5 hi,hS.put h1 hI hi v,fun j hj=>?_,gs,fun k b hk hf=>?_,fun k k' b b' hk hk' hne hf hf'=>?_⟩
 ·rcases ae5 hj with rfl|⟨hne,hj⟩
  ·have:rd Ds (a.put (some d) v) j=v:=by
    unfold rd;rw[hi];exact adi (by omega)
   rw[this];exact hp
  ·rw[ai2 hI hi hne];exact hM.at j _ _ _ (Rl.of_below hw) (h6 j hj)
 ·have hm:=List.mem_of_getElem? hk;have hbb:=List.all_eq_true.1 hb b hm;simp only[Bool.and_eq_true,bne_iff_ne]at hbb;obtain⟨hb1,hb2⟩:=hbb;obtain⟨f1,f2,f3⟩:=hF.2 b hm;rw[hmade b hm]at hf;obtain⟨e1,e2,e2',u,e3,e4,e5⟩:=h7 k b hk hf;refine⟨?_,e2,e2',u,e3.below hw,fun hs=>e4 ?_,fun q hq hs=>?_⟩
  ·rw[abj,e1];rintro rfl;cases hia:b.ia with
   |none=>
    have:=f2 hia;rw[agq hi]at this;cases this
   |some ia=>exact hb1 (by rw[hia,hI _ _ _ (f1 ia hia).1 hi])
  ·unfold filled at hs ⊢;cases hst:b.st with
   |none=>rfl
   |some q=>
    rw[hst]at hs hb2;simp only[Option.all_some,bne_iff_ne]at hb2;simp only at hs ⊢;rwa[aar hb2]at hs
  ·rw[hq]at hb2;simp only[Option.all_some,bne_iff_ne]at hb2;rw[aar hb2]at hs;obtain⟨e6,e7⟩:=e5 q hq hs;have hne:q.2.2≠i:=by
    rintro rfl;rw[hnd]at e6;cases e6
   refine⟨by rw[aar hne];exact e6,?_⟩;rw[abj,e7];intro ee;have:=(f3 q hq).2.1;rw[<-ee]at this;exact hne (hI _ _ _ this hi)
 ·rw[hmade b (List.mem_of_getElem? hk)]at hf;rw[hmade b' (List.mem_of_getElem? hk')]at hf';exact h8 k k' b b' hk hk' hne hf hf'
theorem ae6{f:Bx->Bool}{k:Nat}(hu:(bx.zipIdx.all fun q=>q.2==k||f q.1)=true){k':Nat}{b:Bx}(hb:bx[k']? = some b)(hne:k'≠k):f b=true:=by
 have:=List.all_eq_true.1 hu (b,k') (by rw[List.mem_zipIdx_iff_getElem?];simpa using hb);simp only[Bool.or_eq_true,beq_iff_eq]at this;rcases this with h|h
 ·exact absurd h hne
 ·exact h
theorem ahq{b:Bx}(hb:(b.st.all fun q=>q.1 != i)=true):filled (l.setIfInBounds i true) b=filled l b:=by
 unfold filled;cases hst:b.st with
 |none=>rfl
 |some q=>
  rw[hst]at hb;simp only[Option.all_some,bne_iff_ne]at hb;exact aar hb
theorem Mid4.alloc{k:Nat}{b:Bx}{cs:Array Value}(h:Mid4 n Ds Ps bx a0 w0 l a w)(hF:Fits n Ds bx)(hI:Inj Ds)(hM:Mono4s Ps)(hnd:flag l i=false)(hk:bx[k]? = some b)(hia:b.ia=some i)(hu:(bx.zipIdx.all fun q=>q.2==k||(q.1.ia != some i))=true)(hs:(bx.all fun b=>b.st.all fun q=>q.1 != i&&q.2.2 != i)=true)(hp:∀v w,Ps.getD i (fun _ _=>True) v w)(hc:b.τ.Cs b.v0 cs)(hns:∀q,b.st=some q->flag l q.1=false):
  Mid4 n Ds Ps bx a0 w0 (l.setIfInBounds i true) (a.put (some b.d) (.pointer (some ⟨w.heap.size,0,none⟩))) (w.alloc (.cells cs b.τ.T)):=by
 obtain⟨h1,h2,h3,h4,hr,h5,hS,h6,gs,h7,h8⟩:=h;have hm:=List.mem_of_getElem? hk;obtain⟨f1,f3⟩:=(hF.2 b hm).1 i hia;have hdn:b.d<n:=hF.1 i b.d f1;have hw:Below w.heap.size w (w.alloc (.cells cs b.τ.T)):=(Below.refl _ _).alloc (Nat.le_refl _) _;have hs':∀c∈bx,(c.st.all fun q=>q.1 != i)=true/\∀q,c.st=some q->q.2.2≠i:=by
  intro c hc';have:=List.all_eq_true.1 hs c hc';cases hst:c.st with
  |none=>exact⟨rfl,fun q hq=>by cases hq⟩
  |some q=>
   rw[hst]at this;simp only[Option.all_some,Bool.and_eq_true,bne_iff_ne]at this;exact⟨by simpa using this.1,fun q' hq=>by obtain rfl:=Option.some.inj hq;exact this.2⟩
 have hmade:∀q c,q≠k->bx[q]? = some c->made (l.setIfInBounds i true) c=made l c:=by
  intro q c hq hc';have:=ae6 (f:=fun c=>c.ia != some i) hu hc' hq;simp only[bne_iff_ne]at this;unfold made;cases hia':c.ia with
  |none=>rfl
  |some ia=>exact aar (fun e=>this (by rw[hia',e]))
 refine⟨by simp[h1],by rw[ag5];simp[h2],h3,⟨hw.os.trans h4.os,hw.tape.trans h4.tape,hw.output.trans h4.output,Nat.le_trans h4.size hw.size,fun m hm ho=>(hw.block m (Nat.lt_of_lt_of_le hm h4.size)).trans (h4.keep m hm ho)⟩,hr.trans (Rl.of_below hw),aj4 h5 f1,hS.put h1 hI f1 _,fun j hj=>?_,fun q=>if q=k then w.heap.size else gs q,fun q c hq hf=>?_,fun q q' c c' hq hq' hne hf hf'=>?_⟩
 ·rcases ae5 hj with rfl|⟨hne,hj⟩
  ·exact hp _ _
  ·rw[ai2 hI f1 hne];exact hM.at j _ _ _ (Rl.of_below hw) (h6 j hj)
 ·by_cases e:q=k
  ·subst e;rw[hk]at hq;obtain rfl:=Option.some.inj hq;simp only[if_true];refine⟨adi (by omega),fun e=>(by rw[hia]at e;cases e),fun _=>h4.size,b.v0,⟨cs,hc,heap_alloc_new _ _⟩,fun _=>rfl,fun q hq hst=>?_⟩;have hne:=(hs' b hm).1;rw[hq]at hne;simp only[Option.all_some,bne_iff_ne]at hne;rw[aar hne,hns q hq]at hst;cases hst
  ·simp only[if_neg e];have hcm:=List.mem_of_getElem? hq;rw[hmade q c e hq]at hf;obtain⟨e1,e2,e2',u,e3,e4,e5⟩:=h7 q c hq hf;obtain⟨g1,g2,g3⟩:=hF.2 c hcm;have hcne:=ae6 (f:=fun c=>c.ia != some i) hu hq e;simp only[bne_iff_ne]at hcne;refine⟨?_,e2,e2',u,e3.below hw,fun hst=>e4 (by rwa[ahq (hs' c hcm).1]at hst),fun r hr' hst=>?_⟩
   ·rw[abj,e1];intro e';cases hia':c.ia with
    |none=>
     have:=g2 hia';rw[<-e',agq f1]at this;cases this
    |some ia=>
     have:=(g1 ia hia').1;rw[<-e']at this;exact hcne (by rw[hia',hI _ _ _ this f1])
   ·have hne:=(hs' c hcm).1;rw[hr']at hne;simp only[Option.all_some,bne_iff_ne]at hne;rw[aar hne]at hst;obtain⟨e6,e7⟩:=e5 r hr' hst;have hne2:=(hs' c hcm).2 r hr';refine⟨by rw[aar hne2];exact e6,?_⟩;rw[abj,e7];intro e';have:=(g3 r hr').2.1;rw[<-e']at this;exact hne2 (hI _ _ _ this f1)
 ·have lt:∀r c,r≠k->bx[r]? = some c->made (l.setIfInBounds i true) c=true->gs r<w.heap.size:=by
   intro r c hr hc' hf;rw[hmade r c hr hc']at hf;obtain⟨_,_,_,u,e3,_⟩:=h7 r c hc' hf;exact e3.lt
  by_cases e:q=k
  ·have e':q'≠k:=fun x=>hne (e.trans x.symm)
   simp only[if_pos e,if_neg e'];have:=lt q' c' e' hq' hf';omega
  ·by_cases e':q'=k
   ·simp only[if_neg e,if_pos e'];have:=lt q c e hq hf;omega
   ·simp only[if_neg e,if_neg e'];rw[hmade q c e hq]at hf;rw[hmade q' c' e' hq']at hf';exact h8 q q' c c' hq hq' hne hf hf'
theorem Mid4.store{k src isrc:Nat}{b:Bx}{gs:Nat->Nat}(hτ:BoxOk P b.τ)(h1:l.size=Ds.length)(h2:a.tmps.size=n)(h3:a.defers=a0.defers)(h4:But bx w0 w)(hr0:Rl w0 w)(h5:Rest4 Ds a0 a)(hS:Slots Ds a0 l a)(hDi:Ds.getD i none=none)(h6:∀j,flag l j=true->Ps.getD j (fun _ _=>True) (rd Ds a j) w)(h7:Boxes bx w0 l a w gs)(hM:Mono4s Ps)(hil:i<l.size)(hk:bx[k]? = some b)(his:b.st=some (i,src,isrc))(hu:(bx.zipIdx.all fun q=>q.2==k||(q.1.st.all fun q=>q.1 != i))=true)(hn:(bx.all fun b=>b.ia != some i&&b.st.all fun q=>q.2.2 != i)=true)(hp:∀v w,Ps.getD i (fun _ _=>True) v w)(hia:made l b=true)(hisrc:flag l isrc=true)(ho:Only w w' (gs k))(hbv:BoxV b.τ w' (gs k) (a.eval (.tmp src))):
  Mid4 n Ds Ps bx a0 w0 (l.setIfInBounds i true) a w':=by
 obtain⟨h7,h8⟩:=h7;have hm:=List.mem_of_getElem? hk;obtain⟨e1,e2,e2',u,e3,e4⟩:=h7 k b hk hia;have hr:Rl w w':=Rl.of_only hτ e3 ho;have hn':∀c∈bx,made (l.setIfInBounds i true) c=made l c/\∀q,c.st=some q->q.2.2≠i:=by
  intro c hc;have:=List.all_eq_true.1 hn c hc;simp only[Bool.and_eq_true,bne_iff_ne]at this;refine⟨?_,fun q hq=>?_⟩
  ·unfold made;cases hia':c.ia with
   |none=>rfl
   |some ia=>exact aar (fun e=>this.1 (by rw[hia',e]))
  ·have h2:=this.2;rw[hq]at h2;simpa using h2
 refine⟨by simp[h1],h2,h3,⟨ho.os.trans h4.os,ho.tape.trans h4.tape,ho.output.trans h4.output,by rw[ho.size];exact h4.size,fun m hm' hol=>?_⟩,hr0.trans hr,h5,fun j e hj hf=>hS j e hj (by rwa[aar (fun e'=>by rw[e',hDi]at hj;cases hj)]at hf),fun j hj=>?_,gs,fun q c hq hf=>?_,fun q q' c c' hq hq' hne hf hf'=>?_⟩
 ·rw[ho.other m,h4.keep m hm' hol];intro e;subst e;cases hia':b.ia with
  |none=>exact hol b hm hia' (e2 hia').symm
  |some ia=>
   have:=e2' (by rw[hia'];simp);omega
 ·rcases ae5 hj with rfl|⟨hne,hj⟩
  ·exact hp _ _
  ·exact hM.at j _ _ _ hr (h6 j hj)
 ·have hcm:=List.mem_of_getElem? hq;rw[(hn' c hcm).1]at hf;obtain⟨d1,d2,d2',u',d3,d4,d5⟩:=h7 q c hq hf;by_cases e:q=k
  ·subst e;rw[hk]at hq;obtain rfl:=Option.some.inj hq;refine⟨d1,d2,d2',_,hbv,fun hfl=>?_,fun r hr' _=>?_⟩
   ·unfold filled at hfl;rw[his]at hfl;simp only[adj hil]at hfl;cases hfl
   ·rw[his]at hr';obtain rfl:=Option.some.inj hr';exact⟨by rw[aar ((hn' b hm).2 _ his)];exact hisrc,rfl⟩
  ·have hne:=ae6 (f:=fun c=>c.st.all fun q=>q.1 != i) hu hq e;refine⟨d1,d2,d2',u',d3.only ho (h8 q k c b hq hk e hf hia),fun hfl=>d4 (by rwa[ahq hne]at hfl),fun r hr' hst=>?_⟩;rw[hr']at hne;simp only[Option.all_some,bne_iff_ne]at hne;rw[aar hne]at hst;obtain⟨d6,d7⟩:=d5 r hr' hst;exact⟨by rw[aar ((hn' c hcm).2 r hr')];exact d6,d7⟩
 ·rw[(hn' c (List.mem_of_getElem? hq)).1]at hf;rw[(hn' c' (List.mem_of_getElem? hq')).1]at hf';exact h8 q q' c c' hq hq' hne hf hf'
end
theorem ank{P:Program}{ops:Array Oper}{Q:Exit->Act->World->Prop}{n:Nat}{Ds:List (Option Nat)}{Ps:List Says}{bx:List Bx}{Wt:List (Nat×Nat)}{a0:Act}{w0:World}{l:Array Bool}{a:Act}{w:World}{i:Nat}{o:Oper}(hlen:Ds.length=ops.size)(hD:Duties4 P n Ds Ps bx Wt a0 w0 0 ops.toList Ps)(hdst:∀j o,ops[j]? = some o->o.dst=Ds.getD j none)(hF:Fits n Ds bx)(hI:Inj Ds)(hM:Mono4s Ps)(hτ:∀b∈bx,BoxOk P b.τ)(ho:ops[i]? = some o)(hnd:flag l i=false)(hearly:∀b∈bx,∀q ia,b.st=some q->b.ia=some ia->flag l q.1=true->flag l ia=true)(hlateS:∀j,Wt.contains (j,i)=true->flag l j=false)(hlate:∀b∈bx,∀q,b.st=some q->b.wt.contains i=true->flag l q.1=false)(h:Mid4 n Ds Ps bx a0 w0 l a w)(hdeps:∀e∈o.after,Region.binds .any e=true->flag l e.on=true):
  wpOp P ops Q i (fun a' w'=>Mid4 n Ds Ps bx a0 w0 (l.setIfInBounds i true) a' w') a w:=by
 have h':=h;obtain⟨h1,h2,h3,h4,hr,h5,hS,h6,gs,h7⟩:=h;have hio:ops.toList[i]? = some o:=by rw[Array.getElem?_toList];exact ho
 have hduty:=hD.at i o hio;rw[Nat.zero_add]at hduty;have hany:∀j,(o.after.toList.any fun e=>e.on==j&&Region.binds .any e)=true->flag l j=true:=by
  intro j hj;obtain⟨e,he,hj⟩:=List.any_eq_true.1 hj;simp only[Bool.and_eq_true,beq_iff_eq]at hj;obtain⟨rfl,hb⟩:=hj;exact hdeps e (by simpa using he) hb
 have hil:i<l.size:=by
  rw[h1,hlen];exact(Array.getElem?_eq_some_iff.1 ho).1
 refine wpOp_step ho (fun K' hK=>?_);cases hduty with
 |norm d hd hDi hb hduty=>
  have holds:Olds bx i w:=by
   intro k b hk hia hwt;have hmd:made l b=true:=by unfold made;rw[hia]
   obtain⟨_,e2,_,v,e3,e4,_⟩:=h7.1 k b hk hmd;rw[e2 hia]at e3;have:filled l b=false:=by
    unfold filled;cases hst:b.st with
    |none=>rfl
    |some q=>exact hlate b (List.mem_of_getElem? hk) q hst hwt
   rw[e4 this]at e3;exact e3
  have hduty:=hduty a w h2 h4 hr h5 (fun j hj=>h6 j (hany j hj)) holds (fun j d hj hd=>hS j d hd (hlateS j hj));cases hg:o.guard with
  |none=>
   rw[hg]at hduty;simp only[Region.wanted,hg,if_true];exact Does.wp hduty (fun v w' ⟨hw,hp⟩=>by rw[hd];exact hK _ _ (h'.norm hF hI hM hnd hDi hb hw hp))
  |some gb=>
   obtain⟨g,b⟩:=gb;rw[hg]at hduty;simp only at hduty;obtain⟨⟨dg,hdg⟩,hyes,hno⟩:=hduty;have hgo:∃og,ops[g]? = some og:=by
    have:g<ops.size:=by
     rw[<-hlen];apply Classical.byContradiction;intro hn;rw[List.getD_eq_getElem?_getD,List.getElem?_eq_none (by omega)]at hdg;simp at hdg
    exact⟨_,Array.getElem?_eq_getElem this⟩
   obtain⟨og,hog⟩:=hgo;have hgn:dg<n:=hF.1 g dg hdg;have hrd:rd Ds a g=a.eval (.tmp dg):=by unfold rd;rw[hdg]
   have hy:yielded ops a.tmps g=(match a.eval (.tmp dg)with | .bool b=>some b|_=>none):=by
    unfold yielded;rw[hog];simp only[Option.bind_some,hdst g og hog,hdg];have:a.tmps[dg]? = some (a.eval (.tmp dg)):=by
     rw[Array.getElem?_eq_getElem (by omega)];simp only[Act.eval,Array.getD,h2,hgn,dif_pos];rfl
    rw[this];generalize a.eval (.tmp dg)=v;cases v <;> rfl
   rw[hrd]at hyes hno;by_cases hv:a.eval (.tmp dg)=.bool b
   ·have hw:Region.wanted o (yielded ops a.tmps)=true:=by
     simp only[Region.wanted,hg];rw[hy,hv];simp
    rw[if_pos hw];exact Does.wp (hyes hv) (fun v w' ⟨hw,hp⟩=>by rw[hd];exact hK _ _ (h'.norm hF hI hM hnd hDi hb hw hp))
   ·have hw:¬Region.wanted o (yielded ops a.tmps)=true:=by
     simp only[Region.wanted,hg];rw[hy];intro hc;apply hv;generalize a.eval (.tmp dg)=v at *
     cases v <;> simp at hc
     rw[hc]
    rw[if_neg hw,hd];exact hK _ _ (h'.norm hF hI hM hnd hDi hb (Below.refl _ _) (hno hv))
 |alloc k b hk hia hop hd hg hp hu hs=>
  have hm:=List.mem_of_getElem? hk;have hrun:∃cs,b.τ.Cs b.v0 cs/\Does P o a.eval w fun v w'=>v=.pointer (some ⟨w.heap.size,0,none⟩)/\w'=w.alloc (.cells cs b.τ.T):=by
   rcases hop with⟨hop,hz⟩|⟨x,hop,hcs,hx⟩
   ·obtain⟨cs,hc,hrun⟩:=(hτ b hm).alloc w;refine⟨cs,by rw[hz];exact hc,⟨?_⟩⟩;unfold Turns;simp only[execOp,hop];simp[hrun]
   ·obtain⟨cs,hc,hrun⟩:=(hτ b hm).box w b.v0 hcs;refine⟨cs,hc,⟨?_⟩⟩;unfold Turns;simp only[execOp,hop,hx a h5];simp[hrun]
  obtain⟨cs,hc,hdoes⟩:=hrun;simp only[Region.wanted,hg,if_true];have hns:∀q,b.st=some q->flag l q.1=false:=by
   intro q hq;cases hf:flag l q.1 with
   |false=>rfl
   |true=>
    have:=hearly b hm q i hq hia hf;rw[hnd]at this;cases this
  refine Does.wp hdoes (fun v w' ⟨hv,hw⟩=>?_);subst hv hw;rw[hd];exact hK _ _ (h'.alloc hF hI hM hnd hk hia hu hs (fun v w=>by rw[hp];trivial) hc hns)
 |store k b src isrc hk his hop hd hDi hg hp ha hs hu hn hv=>
  have hm:=List.mem_of_getElem? hk;have hia:made l b=true:=by
   unfold made;cases hia:b.ia with
   |none=>rfl
   |some ia=>exact hany _ (ha ia hia)
  have hisrc:=hany _ hs;obtain⟨e1,e2,e2',u,e3,e4⟩:=h7.1 k b hk hia;have f2:=((hF.2 b hm).2.2 _ his).2.1;have hsrc:=h6 _ hisrc;have hrd:rd Ds a isrc=a.eval (.tmp src):=by unfold rd;rw[f2]
  rw[hrd]at hsrc;obtain⟨w',hrun,hbv,honly⟩:=(hτ b hm).store w (gs k) u _ e3 (hv _ _ hsrc);simp only[Region.wanted,hg,if_true];have hdoes:Does P o a.eval w fun v w''=>w''=w':=by
   refine⟨?_⟩;unfold Turns;simp only[execOp,hop,e1];simp[hrun]
  refine Does.wp hdoes (fun v w'' hw=>?_);subst hw;rw[hd];exact hK _ _ (Mid4.store (hτ b hm) h1 h2 h3 h4 hr h5 hS hDi h6 h7 hM hil hk his hu hn (fun v w=>by rw[hp];trivial) hia hisrc honly hbv)
theorem aje{P:Program}{ops:Array Oper}{Q:Exit->Act->World->Prop}{id:Nat}{a:Act}{w:World}(Inv:Array Bool->Act->World->Prop)
  (h0:Inv (Array.replicate ops.size false) a w)
  (hend:∀l a w,Inv l a w->(∀j,j<ops.size->flag l j=true)->Q .normal a w)
  (hstep:∀l a w,Inv l a w->∀i,i<ops.size->flag l i=false->(∀j,j<i->flag l j=true)->wpOp P ops Q i (fun a' w'=>Inv (l.setIfInBounds i true) a' w') a w):(Code.region id ops false).wp P Q a w:=by
 refine wp_region ?_;have key:∀k m (l:Array Bool) a w,m+k=ops.size->l.size=ops.size->(∀j,j<ops.size->flag l j=decide (j<m))->Inv l a w->wpOps P ops Q (List.range' m k) a w:=by
  intro k;induction k with
  |zero=>
   intro m l a w hm hs hl hI;exact hend l a w hI (fun j hj=>by rw[hl j hj];simp;omega)
  |succ k ih=>
   intro m l a w hm hs hl hI;rw[List.range'_succ,wpOps_cons];refine wpOp_mono (fun a' w' h=>ih (m+1) _ a' w' (by omega) (by simp[hs]) (fun j hj=>?_) h) (hstep l a w hI m (by omega) (by rw[hl m (by omega)];simp) (fun j hj=>by rw[hl j (by omega)];simp;omega));by_cases e:j=m
   ·subst e;rw[adj (by omega)];simp
   ·rw[aar e,hl j hj];simp only[decide_eq_decide];omega
 rw[List.range_eq_range'];exact key ops.size 0 _ a w (by omega) (by simp) (fun j hj=>by simp[flag,Array.getElem?_replicate];split <;> rfl) h0
theorem ald{ops:Array Oper}{l:Array Bool}(hd:(ops.toList.zipIdx.all fun p=>p.1.after.all fun e=>!Region.binds .any e||decide (e.on<p.2))=true)(hs:l.size=ops.size)(hr:Region.ready .any ops l = []):∀j,j<ops.size->flag l j=true:=by
 intro j;induction j using Nat.strongRecOn with
 |_ j ih=>
  intro hj;apply Classical.byContradiction;intro hn;have hl:l[j]? = some (l[j]'(by omega)):=Array.getElem?_eq_getElem (by omega);have hf:l[j]'(by omega)=false:=by
   rw[flag,Array.getD_eq_getD_getElem?,hl]at hn;simpa using hn
  have hmem:j∈Region.ready .any ops l:=by
   refine mem_ready.2 ⟨by rw[Array.getD_eq_getD_getElem?,hl,hf];rfl,ops[j],Array.getElem?_eq_getElem hj,fun e he hb=>?_⟩;have h1:=List.all_eq_true.1 hd (ops[j],j) (by
    rw[List.mem_zipIdx_iff_getElem?]
    simp[hj])
   have h2:e.on<j:=by
    have:=Array.all_eq_true_iff_forall_mem.1 h1 e he;rw[hb]at this;simpa using this
   exact ih e.on h2 (by omega)
  rw[hr]at hmem;cases hmem
def waitOne(ops:Array Oper)(b:Bx):Bool:=b.st.all fun q=>((ops[q.1]?).map fun o=>(b.ia.all fun ia=>o.after.toList.any fun e=>e.on==ia&&Region.binds .any e)&&b.wt.all fun i=>o.after.toList.any fun e=>e.on==i&&Region.binds .any e).getD false
theorem aam{P:Program}{ops:Array Oper}{Q:Exit->Act->World->Prop}{id n:Nat}{a:Act}{w:World}{dr:Bool}(Ds:List (Option Nat))(Ps:List Says)(bx:List Bx)(Wt:List (Nat×Nat))(hm:P.follows .mixedOrders=true)(hn:a.tmps.size=n)(hDs:ops.toList.map (·.dst)=Ds)
  (hinj:(Ds.zipIdx.all fun p=>p.1.isNone||Ds.zipIdx.all fun q=>p.1 != q.1||p.2==q.2)=true) (hf1:(Ds.all fun d=>d.all fun d=>decide (d<n))=true) (hf2:(bx.all (fitOne Ds))=true)
  (hdep:(ops.toList.zipIdx.all fun p=>p.1.after.all fun e=>!Region.binds .any e||decide (e.on<p.2))=true)
  (hst:(bx.all (waitOne ops))=true) (hwt:(Wt.all fun p=>((ops[p.1]?).map fun o=>o.after.toList.any fun e=>e.on==p.2&&Region.binds .any e).getD false)=true)
  (hM:Mono4s Ps) (hτ:∀b∈bx,BoxOk P b.τ) (hold:∀b∈bx,b.ia=none->a.eval (.tmp b.d)=.pointer (some ⟨b.g0,0,none⟩)/\BoxV b.τ w b.g0 b.v0) (hdis:∀(k k':Nat) (b b':Bx),bx[k]? = some b->bx[k']? = some b'->k≠k'->b.ia=none->b'.ia=none->b.g0≠b'.g0) (hD:Duties4 P n Ds Ps bx Wt a w 0 ops.toList Ps)
  (hend:∀(a':Act) (w':World) (gs:Nat->Nat),a'.tmps.size=n->a'.defers=a.defers->But bx w w'->Rl w w'->Rest4 Ds a a'->(∀j,j<Ds.length->Ps.getD j (fun _ _=>True) (rd Ds a' j) w') ->
   (∀(k:Nat) (b:Bx),bx[k]? = some b->a'.eval (.tmp b.d)=.pointer (some ⟨gs k,0,none⟩)/\(b.ia=none->gs k=b.g0)/\(b.ia≠none->w.heap.size<=gs k)/\BoxV b.τ w' (gs k) (match b.st with|some q=>a'.eval (.tmp q.2.1)|none=>b.v0))->(∀(k k':Nat),k<bx.length->k'<bx.length->k≠k'->gs k≠gs k')->Q .normal a' w'):(Code.region id ops dr).wp P Q a w:=by
 have hlen:Ds.length=ops.size:=by rw[<-hDs];simp
 have hdst:∀j o,ops[j]? = some o->o.dst=Ds.getD j none:=by
  intro j o ho;rw[<-hDs,List.getD_eq_getElem?_getD,List.getElem?_map,Array.getElem?_toList,ho];rfl
 have hF:=aug hf1 hf2;have hI:=avu hinj
 let Inv:Array Bool->Act->World->Prop:=fun l a' w'=>Mid4 n Ds Ps bx a w l a' w'/\∀j o,ops[j]? = some o->flag l j=true->∀e∈o.after,Region.binds .any e=true->flag l e.on=true
 have hmd:∀l b,b∈bx->(∀j,j<ops.size->flag l j=true)->made l b=true:=by
  intro l b hb hall;unfold made;cases hia:b.ia with
  |none=>rfl
  |some ia=>exact hall _ (by rw[<-hlen];exact((hF.2 b hb).1 ia hia).2)
 have hfin:∀l a' w',Inv l a' w'->(∀j,j<ops.size->flag l j=true)->Q .normal a' w':=by
  rintro l a' w' ⟨⟨h1,h2,h3,h4,hr,h5,_,h6,gs,h7,h8⟩,_⟩ hall;refine hend a' w' gs h2 h3 h4 hr h5 (fun j hj=>h6 j (hall j (by omega))) (fun k b hk=>?_) (fun k k' hk hk' hne=>?_)
  ·have hmem:=List.mem_of_getElem? hk;obtain⟨e1,e2,e2',v,e3,e4,e5⟩:=h7 k b hk (hmd l b hmem hall);refine⟨e1,e2,e2',?_⟩;cases hs:b.st with
   |none=>
    have:filled l b=false:=by unfold filled;rw[hs]
    rw[e4 this]at e3;exact e3
   |some q=>
    obtain⟨_,e6⟩:=e5 q hs (hall _ (by rw[<-hlen];exact((hF.2 b hmem).2.2 q hs).1));simp only;rw[e6];exact e3
  ·exact h8 k k' bx[k] bx[k'] (List.getElem?_eq_getElem hk) (List.getElem?_eq_getElem hk') hne (hmd l _ (List.getElem_mem hk) hall) (hmd l _ (List.getElem_mem hk') hall)
 have hwait:∀l,(∀j o,ops[j]? = some o->flag l j=true->∀e∈o.after,Region.binds .any e=true->flag l e.on=true)->∀b∈bx,∀q,b.st=some q->flag l q.1=true->(∀ia,b.ia=some ia->flag l ia=true)/\∀i,b.wt.contains i=true->flag l i=true:=by
  intro l hcl b hb q hq hfl;have:=List.all_eq_true.1 hst b hb;unfold waitOne at this;rw[hq]at this;simp only[Option.all_some]at this;cases ho':ops[q.1]? with
  |none=>rw[ho']at this;simp at this
  |some o'=>
   rw[ho']at this;simp only[Option.map_some,Option.getD_some,Bool.and_eq_true]at this;have key:∀j,(o'.after.toList.any fun e=>e.on==j&&Region.binds .any e)=true->flag l j=true:=by
    intro j hj;obtain⟨e,he,hj⟩:=List.any_eq_true.1 hj;simp only[Bool.and_eq_true,beq_iff_eq]at hj;obtain⟨hj1,hj2⟩:=hj;have:=hcl q.1 o' ho' hfl e (by simpa using he) hj2;rwa[hj1]at this
   refine⟨fun ia hia=>?_,fun i hi=>?_⟩
   ·have h1:=this.1;rw[hia]at h1;exact key ia (by simpa using h1)
   ·have h2:=List.all_eq_true.1 this.2 i (by simpa using hi);exact key i h2
 have hone:∀l a' w',Inv l a' w'->∀i o,ops[i]? = some o->flag l i=false->(∀e∈o.after,Region.binds .any e=true->flag l e.on=true)->wpOp P ops Q i (fun a'' w''=>Inv (l.setIfInBounds i true) a'' w'') a' w':=by
  rintro l a' w' ⟨hmid,hcl⟩ i o ho hnd hdeps;refine wpOp_mono (fun a'' w'' h=>⟨h,fun j oj hoj hj e he hb=>?_⟩) (ank hlen hD hdst hF hI hM hτ ho hnd (fun b hb q ia hq hia hfl=>(hwait l hcl b hb q hq hfl).1 ia hia) (fun j hj=>?_) (fun b hb q hq hwt=>?_) hmid hdeps)
  ·have keep:∀m,flag l m=true->flag (l.setIfInBounds i true) m=true:=by
    intro m hm';by_cases e':m=i
    ·subst e';rw[hnd]at hm';cases hm'
    ·rw[aar e'];exact hm'
   rcases ae5 hj with rfl|⟨_,hj⟩
   ·rw[ho]at hoj;obtain rfl:=Option.some.inj hoj;exact keep _ (hdeps e he hb)
   ·exact keep _ (hcl j oj hoj hj e he hb)
  ·cases hfl:flag l j with
   |false=>rfl
   |true=>
    have h1:=List.all_eq_true.1 hwt (j,i) (by simpa using hj);cases ho':ops[j]? with
    |none=>rw[ho']at h1;simp at h1
    |some o'=>
     rw[ho']at h1;simp only[Option.map_some,Option.getD_some]at h1;obtain⟨e,he,h2⟩:=List.any_eq_true.1 h1;simp only[Bool.and_eq_true,beq_iff_eq]at h2;have:=hcl j o' ho' hfl e (by simpa using he) h2.2;rw[h2.1,hnd]at this;cases this
  ·cases hfl:flag l q.1 with
   |false=>rfl
   |true=>
    have:=(hwait l hcl b hb q hq hfl).2 i hwt;rw[hnd]at this;cases this
 have h0f:∀j,flag (Array.replicate ops.size false) j=false:=by
  intro j;simp only[flag,Array.getD_eq_getD_getElem?,Array.getElem?_replicate];split <;> rfl
 have hia0:∀b,made (Array.replicate ops.size false) b=true->b.ia=none:=by
  intro b hb;unfold made at hb;cases hia:b.ia with
  |none=>rfl
  |some ia=>rw[hia]at hb;simp only[h0f]at hb;cases hb
 have hstart:∀w',Below w.heap.size w w'->Inv (Array.replicate ops.size false) a w':=by
  intro w' hb;refine⟨⟨by simp[hlen],hn,rfl,⟨hb.os,hb.tape,hb.output,hb.size,fun m hm' _=>hb.block m hm'⟩,Rl.of_below hb,fun _ _=>rfl,fun _ _ _ _=>rfl,fun j hj=>?_,fun k=>(bx[k]?.map (·.g0)).getD 0,fun k b hk hf=>?_,fun k k' b b' hk hk' hne hf hf'=>?_⟩,fun j o _ hj=>?_⟩
  ·rw[h0f]at hj;cases hj
  ·have hia:=hia0 b hf;obtain⟨o1,o2⟩:=hold b (List.mem_of_getElem? hk) hia;simp only[hk,Option.map_some,Option.getD_some];refine⟨o1,fun _=>trivial,fun h=>absurd hia h,b.v0,o2.below hb,fun _=>rfl,fun q _ hfl=>?_⟩;rw[h0f]at hfl;cases hfl
  ·simp only[hk,hk',Option.map_some,Option.getD_some];exact hdis k k' b b' hk hk' hne (hia0 b hf) (hia0 b' hf')
  ·rw[h0f]at hj;cases hj
 cases dr with
 |false=>
  refine aje Inv (hstart w (Below.refl _ _)) hfin (fun l a' w' hI i hi hnd hlow=>?_);have ho:ops[i]? = some ops[i]:=Array.getElem?_eq_getElem hi;refine hone l a' w' hI i _ ho hnd (fun e he hb=>hlow e.on ?_);have h1:=List.all_eq_true.1 hdep (ops[i],i) (by
   rw[List.mem_zipIdx_iff_getElem?]
   simp[hi])
  have:=Array.all_eq_true_iff_forall_mem.1 h1 e he;rw[hb]at this;simpa using this
 |true=>
  refine afi hm Inv (hstart _ (Below.drew (Below.refl _ _))) (fun l a' w' hI hr=>hfin l a' w' hI (fun j hj=>ald hdep (by rw[hI.1.1,hlen]) hr j hj)) (fun l a' w' hI i hi=>?_);obtain⟨h1,o,ho,hdeps⟩:=mem_ready.1 hi;have hnd:flag l i=false:=by
   have hs:i<l.size:=by rw[hI.1.1,hlen];exact(Array.getElem?_eq_some_iff.1 ho).1
   rw[Array.getD_eq_getD_getElem?,Array.getElem?_eq_getElem hs]at h1;simp only[flag,Array.getD_eq_getD_getElem?,Array.getElem?_eq_getElem hs];simpa using h1
  exact hone l a' w' hI i o ho hnd hdeps
def Tt: Says:=fun _ _=>True
def W2:BoxTy:=⟨60,.agg #[.bool false,.slice none 0 0],fun v cs=>∃ng ao n c,v=.agg #[.bool ng,.slice ao n c]/\cs = #[.bool ng,.slice ao n c]⟩
theorem BoxV.box{w:World}{g:Nat}{ng:Bool}{ao:Option Addr}{n c:Nat}(h:BoxV W2 w g (.agg #[.bool ng,.slice ao n c])):Box w g ng (.slice ao n c):=by
 obtain⟨cs,⟨_,_,_,_,e,rfl⟩,h⟩:=h;simp only[Value.agg.injEq]at e;simp only[Array.mk.injEq,List.cons.injEq,Value.bool.injEq,Value.slice.injEq,and_true]at e;obtain⟨rfl,rfl,rfl,rfl⟩:=e;exact h
theorem Box.v{w:World}{g:Nat}{ng:Bool}{ao:Option Addr}{n c:Nat}(h:Box w g ng (.slice ao n c)):BoxV W2 w g (.agg #[.bool ng,.slice ao n c]):=⟨_,⟨_,_,_,_,rfl,rfl⟩,h⟩
theorem W2ok:BoxOk Tryz.prog W2 where
 noInt:=by
  rintro v cs ⟨ng,ao,n,c,rfl,rfl⟩ i k z
  match i with
  |0=>simp
  |1=>simp
  |i+2=>simp
 ne:=by unfold W2;exact⟨by decide,by decide⟩
 alloc:=fun w=>⟨#[.bool false,.slice none 0 0],⟨_,_,_,_,rfl,rfl⟩,by unfold W2;go_simp⟩
 box:=by
  rintro w v ⟨cs,ng,ao,n,c,rfl,rfl⟩;exact⟨_,⟨_,_,_,_,rfl,rfl⟩,by unfold W2;go_simp⟩
 store:=by
  rintro w g v0 v ⟨cs0,⟨m,bo,p,d,rfl,rfl⟩,hh⟩ ⟨cs,ng,ao,n,c,rfl,rfl⟩;have hb:Box w g m (.slice bo p d):=hh;obtain⟨b1,b2,b3,b4⟩:=hb.facts;refine⟨(w.setCell ⟨g,0,none⟩ (.bool ng)).setCell ⟨g,1,none⟩ (.slice ao n c),?_,(hb.set ng (.slice ao n c)).v,⟨rfl,rfl,rfl,by simp[World.setCell],fun k hk=>?_⟩⟩
  ·unfold W2;go_simp
  ·rw[Below.heap_setCell _ _ _ _ (by simpa using hk),Below.heap_setCell _ _ _ _ (by simpa using hk)]
 load:=by
  rintro w g v ⟨cs,⟨ng,ao,n,c,rfl,rfl⟩,hh⟩;exact ahp (show Box w g ng (.slice ao n c)from hh)
theorem Ag.rl{w w':World}{ng:Bool}{ao:Option Addr}{n cap:Nat}{xs:List Int}{z:Int}(h:Ag w ng ao n cap xs z)(hr:Rl w w'):Ag w' ng ao n cap xs z:=⟨h.sl.rl hr,h.worth⟩
theorem Got.rl{w w':World}{ao:Option Addr}{cap:Nat}{rs:List Int}{x:Int}(h:Got w ao cap rs x)(hr:Rl w w'):Got w' ao cap rs x:=⟨h.1.rl hr,h.2⟩
theorem Wh.rl{w w':World}{ng:Bool}{ao:Option Addr}{cap:Nat}{rs:List Int}{z:Int}(h:Wh w ng ao cap rs z)(hr:Rl w w'):Wh w' ng ao cap rs z:=⟨Got.rl h.1 hr,h.2⟩
def NeOld:List Bx->Nat->Prop
 | [],_=>True
 |b::bx,g=>(b.ia=none->b.g0≠g)/\NeOld bx g
theorem NeOld.all:∀ {bx:List Bx} {g:Nat},NeOld bx g->∀b∈bx,b.ia=none->b.g0≠g
 | [],_,_=>fun c hc=>by cases hc
 |b::bx,g,h=>fun c hc=>by
  rcases List.mem_cons.1 hc with rfl|hc
  ·exact h.1
  ·exact NeOld.all h.2 c hc
theorem BoxV.keep{τ:BoxTy}{bx:List Bx}{w w':World}{g:Nat}{v:Value}(h:BoxV τ w g v)(hb:But bx w w')(hn:NeOld bx g):BoxV τ w' g v:=by
 obtain⟨cs,hc,h⟩:=h;exact⟨cs,hc,(hb.keep g (aaa h) hn.all).trans h⟩
def DisOld:List Bx->Prop
 | []=>True
 |b::bx=>(b.ia=none->NeOld bx b.g0)/\DisOld bx
theorem DisOld.all:∀ {bx:List Bx},DisOld bx->∀(k k':Nat) (b b':Bx),bx[k]? = some b->bx[k']? = some b'->k≠k'->b.ia=none->b'.ia=none->b.g0≠b'.g0
 |c::bx,h,k,k',b,b',hk,hk',hne,hi,hi'=>by
  cases k with
  |zero=>
   simp only[List.getElem?_cons_zero,Option.some.injEq]at hk;subst hk;cases k' with
   |zero=>exact absurd rfl hne
   |succ k'=>exact fun e=>NeOld.all (h.1 hi) b' (List.mem_of_getElem? (by simpa using hk')) hi' e.symm
  |succ k=>
   cases k' with
   |zero=>
    simp only[List.getElem?_cons_zero,Option.some.injEq]at hk';subst hk';exact fun e=>NeOld.all (h.1 hi') b (List.mem_of_getElem? (by simpa using hk)) hi e
   |succ k'=>exact DisOld.all h.2 k k' b b' (by simpa using hk) (by simpa using hk') (fun e=>hne (by rw[e])) hi hi'
def UpOld(B:Nat):List Bx->Prop
 | []=>True
 |b::bx=>(b.ia=none->B<=b.g0)/\UpOld B bx
theorem UpOld.all{B:Nat}: ∀ {bx:List Bx},UpOld B bx->∀b∈bx,b.ia=none->B<=b.g0
 | [],_=>fun c hc=>by cases hc
 |b::bx,h=>fun c hc=>by
  rcases List.mem_cons.1 hc with rfl|hc
  ·exact h.1
  ·exact UpOld.all h.2 c hc
def IsOld(a:Act)(w:World):List Bx->Prop
 | []=>True
 |b::bx=>(b.ia=none->a.eval (.tmp b.d)=.pointer (some ⟨b.g0,0,none⟩)/\BoxV b.τ w b.g0 b.v0)/\IsOld a w bx
theorem IsOld.all{a:Act}{w:World}: ∀ {bx:List Bx},IsOld a w bx->∀b∈bx,b.ia=none->a.eval (.tmp b.d)=.pointer (some ⟨b.g0,0,none⟩)/\BoxV b.τ w b.g0 b.v0
 | [],_=>fun c hc=>by cases hc
 |b::bx,h=>fun c hc=>by
  rcases List.mem_cons.1 hc with rfl|hc
  ·exact h.1
  ·exact IsOld.all h.2 c hc
theorem aas{P:Program}: ∀b∈([]:List Bx),BoxOk P b.τ:=fun _ h=>by cases h
theorem ac8{P:Program}{b:Bx}{bx:List Bx}(h:BoxOk P b.τ)(t:∀b∈bx,BoxOk P b.τ):∀b'∈b::bx,BoxOk P b'.τ:=fun b' hm=>by
 rcases List.mem_cons.1 hm with rfl|hm
 ·exact h
 ·exact t b' hm
theorem Eqs.mono4(x:Value):Mono4 (Eqs x):=fun _ _ _ _ h=>h
theorem True.mono4:Mono4 (fun _ _=>True):=fun _ _ _ _ h=>h
theorem OutW.mono4(z:Int)(L:Nat):Mono4 (OutW z L):=fun _ _ _ hb ⟨ng,ao,cap,rs,e,h,l⟩=>⟨ng,ao,cap,rs,e,⟨⟨h.1.1.rl hb,h.1.2⟩,h.2⟩,l⟩
theorem OutW.cs{z:Int}{L:Nat}(v:Value)(w:World)(h:OutW z L v w):∃cs,W2.Cs v cs:=by
 obtain⟨ng,ao,cap,rs,rfl,_⟩:=h;exact⟨_,_,_,_,_,rfl,rfl⟩
section
variable {dst:Option Tmp} {ty:TypeId} {pos:String} {after:Array Edge} {guard:Option (Nat×Bool)} {a:Act} {w:World} {ats:Array TypeId} {i j k g:Nat} {x y z:Int} {L L1 L2:Nat}
theorem ary{P:Program}{τ:BoxTy}{v:Value}(hτ:BoxOk P τ)(hp:a.eval (.tmp k)=.pointer (some ⟨g,0,none⟩))(hb:BoxV τ w g v):
  Does P {dst,op:=.load τ.T (.tmp k),type:=ty,pos,after,guard} a.eval w fun v' w'=>Below w.heap.size w w'/\Eqs v v' w':=
 acf (by rw[hp];exact hτ.load w g v hb) ⟨Below.refl _ _,rfl⟩
theorem af9{f off:Nat}(hf:∀w:World,(Instr.fieldAt 60 (.pointer (some ⟨g,0,none⟩)) f).run Tryz.prog w=.ok (.pointer (some ⟨g,off,none⟩)) w)(hp:a.eval (.tmp k)=.pointer (some ⟨g,0,none⟩)):
  Does Tryz.prog {dst,op:=.fieldAddr 60 (.tmp k) f,type:=ty,pos,after,guard} a.eval w fun v' w'=>Below w.heap.size w w'/\Eqs (.pointer (some ⟨g,off,none⟩)) v' w':=by
 refine⟨?_⟩;unfold Turns;simp only[execOp,hp];simp[hf];exact⟨Below.refl _ _,rfl⟩
theorem apo(w:World):(Instr.fieldAt 60 (.pointer (some ⟨g,0,none⟩)) 0).run Tryz.prog w=.ok (.pointer (some ⟨g,0,none⟩)) w:=by go_simp
theorem ahr(w:World):(Instr.fieldAt 60 (.pointer (some ⟨g,0,none⟩)) 1).run Tryz.prog w=.ok (.pointer (some ⟨g,1,none⟩)) w:=by go_simp
theorem aj5{ng:Bool}{ao:Option Addr}{n c:Nat}(hp:a.eval (.tmp k)=.pointer (some ⟨g,0,none⟩))(hb:BoxV W2 w g (.agg #[.bool ng,.slice ao n c])):
  Does Tryz.prog {dst,op:=.load 4 (.tmp k),type:=ty,pos,after,guard} a.eval w fun v' w'=>Below w.heap.size w w'/\Eqs (.bool ng) v' w':=by
 obtain⟨b1,b2,b3,b4⟩:=hb.box.facts;refine acf (v:=.bool ng) ?_ ⟨Below.refl _ _,rfl⟩;rw[hp];go_simp
theorem aj6{ng:Bool}{ao:Option Addr}{n c:Nat}(hp:a.eval (.tmp k)=.pointer (some ⟨g,1,none⟩))(hb:BoxV W2 w g (.agg #[.bool ng,.slice ao n c])):
  Does Tryz.prog {dst,op:=.load 38 (.tmp k),type:=ty,pos,after,guard} a.eval w fun v' w'=>Below w.heap.size w w'/\Eqs (.slice ao n c) v' w':=by
 obtain⟨b1,b2,b3,b4⟩:=hb.box.facts;refine acf (v:=.slice ao n c) ?_ ⟨Below.refl _ _,rfl⟩;rw[hp];go_simp
theorem aa1{x:Operand}{v:Value}(h:a.eval x=v):Does Tryz.prog {dst,op:=.move x,type:=ty,pos,after,guard} a.eval w fun v' w'=>Below w.heap.size w w'/\Eqs v v' w':=ai1 ⟨Below.refl _ _,h⟩
theorem afu{x:Operand}{p:Says}(h:p (a.eval x) w):Does Tryz.prog {dst,op:=.move x,type:=ty,pos,after,guard} a.eval w fun v' w'=>Below w.heap.size w w'/\p v' w':=ai1 ⟨Below.refl _ _,h⟩
theorem aj7{x:Operand}{p:Says}(h:p (a.eval x) w):Does Tryz.prog {dst,op:=.assign x,type:=ty,pos,after,guard} a.eval w fun v' w'=>Below w.heap.size w w'/\p v' w':=agp ⟨Below.refl _ _,h⟩
theorem avv{t:TypeId}{b:Bool}(h:a.eval (.tmp i)=.bool b):Does Tryz.prog {dst,op:=.unOp .not t (.tmp i),type:=ty,pos,after,guard} a.eval w fun v' w'=>Below w.heap.size w w'/\Eqs (.bool (!b)) v' w':=by
 refine auc (v:=.bool (!b)) ?_ ⟨Below.refl _ _,rfl⟩;rw[h];simp[go_sem]
theorem auh{b c:Bool}(h1:a.eval (.tmp i)=.bool b)(h2:a.eval (.tmp j)=.bool c):
  Does Tryz.prog {dst,op:=.binOp .eql 4 (.tmp i) (.tmp j) 4,type:=ty,pos,after,guard} a.eval w fun v w'=>Below w.heap.size w w'/\Eqs (.bool (b==c)) v w':=by
 refine ac7 (v:=.bool (b==c)) ?_ ?_ ⟨Below.refl _ _,rfl⟩
 ·rw[h1,h2];simp[go_sem]
 ·rw[h1,h2];simp[go_sem]
end
def Tup2(p q:Says):Says:=fun v w=>∃x y,v=.tuple #[x,y]/\p x w/\q y w
theorem Tup2.mono4{p q:Says}(hp:Mono4 p)(hq:Mono4 q):Mono4 (Tup2 p q):=fun _ _ _ hr ⟨x,y,e,h1,h2⟩=>⟨x,y,e,hp _ _ _ hr h1,hq _ _ _ hr h2⟩
def IsL(x:Int)(L:Nat):Says:=fun v w=>∃ao n cap xs,v=.slice ao n cap/\Sl w (.slice ao n cap) xs/\val xs=x/\xs.length<=L
def OutL(x:Int)(L:Nat):Says:=fun v w=>∃ao cap rs,v=.slice ao rs.length cap/\Got w ao cap rs x/\rs.length<=L
theorem OutL.mono4(x:Int)(L:Nat):Mono4 (OutL x L):=fun _ _ _ hr ⟨ao,cap,rs,e,h,l⟩=>⟨ao,cap,rs,e,h.rl hr,l⟩
theorem app{v:Value}{w:World}{ng:Bool}{ao:Option Addr}{n c:Nat}{xs:List Int}{z:Int}{L:Nat}(h:v=.agg #[.bool ng,.slice ao n c])(hA:Ag w ng ao n c xs z)(hl:xs.length<=L):IsW z L v w:=⟨_,_,_,_,_,h,hA,hl⟩
theorem aui{v:Value}{w:World}{ng:Bool}{ao:Option Addr}{c:Nat}{rs:List Int}{z:Int}{L:Nat}(h:v=.agg #[.bool ng,.slice ao rs.length c])(hA:Wh w ng ao c rs z)(hl:rs.length<=L):OutW z L v w:=⟨_,_,_,_,h,hA,hl⟩
theorem auj{v:Value}{w:World}{ao:Option Addr}{c:Nat}{rs:List Int}{z:Int}{L:Nat}(h:v=.slice ao rs.length c)(hA:Got w ao c rs z)(hl:rs.length<=L):OutL z L v w:=⟨_,_,_,h,hA,hl⟩
theorem someNe{α:Type}{x:α}{p:Prop}(h:some x=none):p:=by cases h
theorem ae7{τ:BoxTy}{w:World}{g g0:Nat}{x v:Value}(hg:g=g0)(h:BoxV τ w g x)(e:x=v):BoxV τ w g0 v:=by
 subst hg e;exact h
theorem acg{next:Act->World->Prop}{Q:Exit->Act->World->Prop}{a:Act}{w:World}(h:Q .ret a w):Exit.then next Q .ret a w:=h
section
variable {next:Act->World->Prop} {Q:Exit->Act->World->Prop} {a:Act} {w:World} {id id':Nat}
theorem ab3(h:Q .ret a w):Exit.inBlock id Q .ret a w:=h
theorem abn(h:Q .ret a w):Exit.noGoto Q .ret a w:=h
theorem afv(h:Q .normal a w):Exit.inBlock id Q .normal a w:=h
theorem apq(h:Q (.exit id) a w):Exit.then next Q (.exit id) a w:=h
theorem anl(h:Q (.exit id) a w):Exit.noGoto Q (.exit id) a w:=h
theorem anm(h:Q .normal a w):Exit.inBlock id Q (.exit id) a w:=by
 show(if id=id then _ else _);rw[if_pos rfl];exact h
theorem ann(hn:id'≠id)(h:Q (.exit id') a w):Exit.inBlock id Q (.exit id') a w:=by
 show(if id'=id then _ else _);rw[if_neg hn];exact h
end
theorem aj8{v:Value}{τ:BoxTy}(h:∃cs,τ.Cs v cs):∀(u:Value) (w:World),Eqs v u w->∃cs,τ.Cs u cs:=fun u _ e=>by
 have e:u=v:=e;rw[e];exact h
theorem ahs{ng:Bool}{ao:Option Addr}{n c:Nat}: ∃cs,W2.Cs (.agg #[.bool ng,.slice ao n c]) cs:=⟨_,_,_,_,_,rfl,rfl⟩
section
variable {P:Program} {dst:Option Tmp} {ty:TypeId} {pos:String} {after:Array Edge} {guard:Option (Nat×Bool)} {a:Act} {w:World} {ats:Array TypeId} {i j k g:Nat} {x y z:Int} {L L1 L2:Nat}
theorem aer{p q:Says}(h:Tup2 p q (a.eval (.tmp i)) w):Does P {dst,op:=.extract (.tmp i) 0,type:=ty,pos,after,guard} a.eval w fun v' w'=>Below w.heap.size w w'/\p v' w':=by
 obtain⟨x,y,e,h1,h2⟩:=h;exact aft (v:=x) (by rw[e];simp[go_sem]) ⟨Below.refl _ _,h1⟩
theorem aes{p q:Says}(h:Tup2 p q (a.eval (.tmp i)) w):Does P {dst,op:=.extract (.tmp i) 1,type:=ty,pos,after,guard} a.eval w fun v' w'=>Below w.heap.size w w'/\q v' w':=by
 obtain⟨x,y,e,h1,h2⟩:=h;exact aft (v:=y) (by rw[e];simp[go_sem]) ⟨Below.refl _ _,h2⟩
theorem arz{c x y:Operand}{b:Bool}{v:Value}(hc:a.eval c=.bool b)(h:(if b then a.eval x else a.eval y)=v):Does P {dst,op:=.pick c x y,type:=ty,pos,after,guard} a.eval w fun v' w'=>Below w.heap.size w w'/\Eqs v v' w':=apn hc ⟨Below.refl _ _,h⟩
end
theorem aht{w:World}{g:Nat}{v:Value}(h:BoxV W2 w g v):(loadVar 60 ⟨g,0,none⟩).run Tryz.prog w=.ok v w:=by
 obtain⟨cs,⟨ng,ao,n,c,rfl,rfl⟩,hh⟩:=h;obtain⟨b1,b2,b3,b4⟩:=(show Box w g ng (.slice ao n c)from hh).facts;go_simp
theorem acj{P:Program}{fn:Func}{a:Act}{w:World}{k g:Nat}{T:TypeId}{v:Value}(hr:fn.results = #[.cell k T])(hp:a.eval (.tmp k)=.pointer (some ⟨g,0,none⟩))(hl:(loadVar T ⟨g,0,none⟩).run P w=.ok v w):(results fn a.tmps).run P w=.ok v w:=by
 have hp':a.tmps[k]?.getD undef=.pointer (some ⟨g,0,none⟩):=by simpa[Act.eval]using hp
 simp[results,hr,hp',asAddr,hl]
theorem aef{P:Program}{fn:Func}{a:Act}{w:World}{k:Nat}{v:Value}(hr:fn.results = #[.tmp k])(hp:a.eval (.tmp k)=v):(results fn a.tmps).run P w=.ok v w:=by
 have hp':a.tmps[k]?.getD undef=v:=by simpa[Act.eval]using hp
 simp[results,hr,hp']
theorem apr{P:Program}{fn:Func}{a:Act}{w:World}{k g k' g':Nat}{T T':TypeId}{v v':Value}(hr:fn.results = #[.cell k T,.cell k' T'])(hp:a.eval (.tmp k)=.pointer (some ⟨g,0,none⟩))(hl:(loadVar T ⟨g,0,none⟩).run P w=.ok v w)(hp2:a.eval (.tmp k')=.pointer (some ⟨g',0,none⟩))(hl2:(loadVar T' ⟨g',0,none⟩).run P w=.ok v' w):(results fn a.tmps).run P w=.ok (.tuple #[v,v']) w:=by
 have hp':a.tmps[k]?.getD undef=.pointer (some ⟨g,0,none⟩):=by simpa[Act.eval]using hp
 have hp2':a.tmps[k']?.getD undef=.pointer (some ⟨g',0,none⟩):=by simpa[Act.eval]using hp2
 simp[results,hr,hp',asAddr,hl,hp2',hl2]
theorem ad4{P:Program}{fn:Func}{a:Act}{w:World}{k g k':Nat}{T:TypeId}{v v':Value}(hr:fn.results = #[.cell k T,.tmp k'])(hp:a.eval (.tmp k)=.pointer (some ⟨g,0,none⟩))(hl:(loadVar T ⟨g,0,none⟩).run P w=.ok v w)(hp2:a.eval (.tmp k')=v'):(results fn a.tmps).run P w=.ok (.tuple #[v,v']) w:=by
 have hp':a.tmps[k]?.getD undef=.pointer (some ⟨g,0,none⟩):=by simpa[Act.eval]using hp
 have hp2':a.tmps[k']?.getD undef=v':=by simpa[Act.eval]using hp2
 simp[results,hr,hp',asAddr,hl,hp2']
def R3:BoxTy:=⟨62,.agg #[.bool false,.slice none 0 0,.slice none 0 0],fun v cs=>∃ng ao n c bo m d,v=.agg #[.bool ng,.slice ao n c,.slice bo m d]/\cs = #[.bool ng,.slice ao n c,.slice bo m d]⟩
theorem aj9{w:World}{g:Nat}{x y z:Value}{T:TypeId}(h:w.heap[g]? = some (.cells #[x,y,z] T (0,0))):w.cell? ⟨g,0,none⟩=some x/\w.cell? ⟨g,1,none⟩=some y/\w.cell? ⟨g,2,none⟩=some z/\w.frozen? ⟨g,0,none⟩=false/\w.frozen? ⟨g,1,none⟩=false/\w.frozen? ⟨g,2,none⟩=false:=
 ⟨by rw[cell_of_row _ _ _ _ _ (0,0) h];rfl,by rw[cell_of_row _ _ _ _ _ (0,0) h];rfl,by rw[cell_of_row _ _ _ _ _ (0,0) h];rfl,frozen_of_row _ _ _ _ _ h,frozen_of_row _ _ _ _ _ h,frozen_of_row _ _ _ _ _ h⟩
def IsR(p q:Int)(L:Nat):Says:=fun v w=>∃ng ao n cap xs bo m dap ys,v=.agg #[.bool ng,.slice ao n cap,.slice bo m dap]/\Ag w ng ao n cap xs p/\Sl w (.slice bo m dap) ys/\val ys=q/\xs.length<=L/\ys.length<=L
def OutR(p q:Int)(L:Nat):Says:=fun v w=>∃ng ao cap rs bo dap ss,v=.agg #[.bool ng,.slice ao rs.length cap,.slice bo ss.length dap]/\Wh w ng ao cap rs p/\Got w bo dap ss q/\rs.length<=L/\ss.length<=L
theorem OutR.mono4(p q:Int)(L:Nat):Mono4 (OutR p q L):=fun _ _ _ hr ⟨ng,ao,cap,rs,bo,dap,ss,e,h1,h2,l1,l2⟩=>⟨ng,ao,cap,rs,bo,dap,ss,e,h1.rl hr,h2.rl hr,l1,l2⟩
theorem OutR.is{p q:Int}{L:Nat}{v:Value}{w:World}: OutR p q L v w->IsR p q L v w:=fun⟨ng,ao,cap,rs,bo,dap,ss,e,h1,h2,l1,l2⟩=>⟨ng,ao,rs.length,cap,rs,bo,ss.length,dap,ss,e,h1.ag,h2.1,h2.2.2,l1,l2⟩
theorem OutR.to{p q p' q':Int}{L L':Nat}{v:Value}{w:World}(h:OutR p q L v w)(e1:p=p')(e2:q=q')(hl:L<=L'):OutR p' q' L' v w:=by
 subst e1 e2;obtain⟨ng,ao,cap,rs,bo,dap,ss,e,h1,h2,l1,l2⟩:=h;exact⟨ng,ao,cap,rs,bo,dap,ss,e,h1,h2,Nat.le_trans l1 hl,Nat.le_trans l2 hl⟩
theorem IsW.to{z z':Int}{L L':Nat}{v:Value}{w:World}(h:IsW z L v w)(e:z=z')(hl:L<=L'):IsW z' L' v w:=by
 subst e;obtain⟨ng,ao,n,cap,xs,e',h,l⟩:=h;exact⟨ng,ao,n,cap,xs,e',h,Nat.le_trans l hl⟩
theorem aw9{w:World}{g:Nat}{v:Value}(h:BoxV R3 w g v):(loadVar 62 ⟨g,0,none⟩).run Tryz.prog w=.ok v w:=by
 obtain⟨cs,⟨ng,ao,n,c,bo,m,d,rfl,rfl⟩,hh⟩:=h;obtain⟨b1,b2,b3,b4,b5,b6⟩:=aj9 hh;go_simp
theorem avw{w:World}{g:Nat}{ng:Bool}{ao bo:Option Addr}{n c m d:Nat}(h:BoxV R3 w g (.agg #[.bool ng,.slice ao n c,.slice bo m d])):w.heap[g]? = some (.cells #[.bool ng,.slice ao n c,.slice bo m d] 62 (0,0)):=by
 obtain⟨cs,⟨_,_,_,_,_,_,_,e,rfl⟩,h⟩:=h;simp only[Value.agg.injEq]at e;simp only[Array.mk.injEq,List.cons.injEq,Value.bool.injEq,Value.slice.injEq,and_true]at e;obtain⟨rfl,⟨rfl,rfl,rfl⟩,rfl,rfl,rfl⟩:=e;exact h
section
variable {dst:Option Tmp} {ty:TypeId} {pos:String} {after:Array Edge} {guard:Option (Nat×Bool)} {a:Act} {w:World} {ats:Array TypeId} {i j k g:Nat} {x y z p q:Int} {L L1 L2:Nat}
theorem avx{f off:Nat}(hf:∀w:World,(Instr.fieldAt 62 (.pointer (some ⟨g,0,none⟩)) f).run Tryz.prog w=.ok (.pointer (some ⟨g,off,none⟩)) w)(hp:a.eval (.tmp k)=.pointer (some ⟨g,0,none⟩)):
  Does Tryz.prog {dst,op:=.fieldAddr 62 (.tmp k) f,type:=ty,pos,after,guard} a.eval w fun v' w'=>Below w.heap.size w w'/\Eqs (.pointer (some ⟨g,off,none⟩)) v' w':=by
 refine⟨?_⟩;unfold Turns;simp only[execOp,hp];simp[hf];exact⟨Below.refl _ _,rfl⟩
theorem avy(w:World):(Instr.fieldAt 62 (.pointer (some ⟨g,0,none⟩)) 0).run Tryz.prog w=.ok (.pointer (some ⟨g,0,none⟩)) w:=by go_simp
theorem ar0{ng:Bool}{ao bo:Option Addr}{n c m d:Nat}(hp:a.eval (.tmp k)=.pointer (some ⟨g,0,none⟩))(hb:BoxV R3 w g (.agg #[.bool ng,.slice ao n c,.slice bo m d])):
  Does Tryz.prog {dst,op:=.load 60 (.tmp k),type:=ty,pos,after,guard} a.eval w fun v' w'=>Below w.heap.size w w'/\Eqs (.agg #[.bool ng,.slice ao n c]) v' w':=by
 obtain⟨b1,b2,b3,b4,b5,b6⟩:=aj9 (avw hb);refine acf (v:=.agg #[.bool ng,.slice ao n c]) ?_ ⟨Below.refl _ _,rfl⟩;rw[hp];go_simp
theorem avz:Does Tryz.prog {dst,op:=.build 60 #[],type:=ty,pos,after,guard} a.eval w fun v' w'=>Below w.heap.size w w'/\Eqs (.agg #[.bool false,.slice none 0 0]) v' w':=by
 have e:(execOp a.eval {dst,op:=.build 60 #[],type:=ty,pos,after,guard}).run Tryz.prog w=.ok (.value (.agg #[.bool false,.slice none 0 0])) w:=by
  simp only[execOp,List.map_toArray,List.map_nil];go_simp
 refine⟨?_⟩;unfold Turns;rw[e];exact⟨Below.refl _ _,rfl⟩
end
structure Ru (w w':World):Prop where
 size:w.heap.size<=w'.heap.size
 ints:∀(p:Addr) (z:Int),w.cell? p=some (.int .u32 z)->w'.cell? p=some (.int .u32 z)
 rows:∀(g:Nat) (cs:Array Value),w.heap[g]? = some (.cells cs 70 (0,0))->w'.heap[g]? = some (.cells cs 70 (0,0))
theorem Ru.of_rl{w w':World}(h:Rl w w'):Ru w w':=⟨h.size,fun p z=>h.ints p .u32 z,fun g cs=>h.rows g cs _ (.inl rfl)⟩
theorem Ru.of_below{w w':World}(h:Below w.heap.size w w'):Ru w w':=Ru.of_rl (Rl.of_below h)
theorem Ru.refl(w:World):Ru w w:=⟨Nat.le_refl _,fun _ _ h=>h,fun _ _ h=>h⟩
theorem Ru.trans{w w' w'':World}(h:Ru w w')(h':Ru w' w''):Ru w w'':=⟨Nat.le_trans h.size h'.size,fun p z e=>h'.ints p z (h.ints p z e),fun g cs e=>h'.rows g cs (h.rows g cs e)⟩
theorem Sl.ru{w w':World}{v:Value}{zs:List Int}(h:Sl w v zs)(hr:Ru w w'):Sl w' v zs:=by
 obtain⟨ao,cap,rfl,h1,h2,h3,h4⟩:=h;refine⟨ao,cap,rfl,h1,h2,h3,?_⟩;rcases h4 with h4|⟨b,off,rfl,hc⟩
 ·exact .inl h4
 ·exact .inr ⟨b,off,rfl,fun i hi=>hr.ints _ _ (hc i hi)⟩
def Mono5(p:Says):Prop:=∀v w w',Ru w w'->p v w->p v w'
section
end
theorem Ru.of_one{w w':World}{g:Nat}{cs:Array Value}{T:TypeId}(hh:w.heap[g]? = some (.cells cs T (0,0)))(hT:T≠70)(hc:∀(i:Nat) (z:Int),cs[i]?≠some (.int .u32 z))(hs:w.heap.size<=w'.heap.size)(ho:∀k,k<w.heap.size->k≠g->w'.heap[k]? = w.heap[k]?):Ru w w':=by
 refine⟨hs,fun p z e=>?_,fun k cs' e=>?_⟩
 ·by_cases hp:p.block=g
  ·exfalso;obtain⟨b,o,m⟩:=p;simp only at hp;subst hp;simp only[World.cell?,hh]at e;cases m with
   |none=>exact hc o z (by simpa using e)
   |some m=>simp at e
  ·rw[World.cell?_of_block (w:=w) (ho p.block (aap e) hp)];exact e
 ·by_cases hk:k=g
  ·exfalso;subst hk;rw[hh]at e;injection e with e;injection e with _ e _;exact hT e
  ·exact(ho k (aaa e) hk).trans e
theorem Ag.ru{w w':World}{ng:Bool}{ao:Option Addr}{n cap:Nat}{xs:List Int}{z:Int}(h:Ag w ng ao n cap xs z)(hr:Ru w w'):Ag w' ng ao n cap xs z:=⟨h.sl.ru hr,h.worth⟩
theorem Got.ru{w w':World}{ao:Option Addr}{cap:Nat}{rs:List Int}{x:Int}(h:Got w ao cap rs x)(hr:Ru w w'):Got w' ao cap rs x:=⟨h.1.ru hr,h.2⟩
theorem Wh.ru{w w':World}{ng:Bool}{ao:Option Addr}{cap:Nat}{rs:List Int}{z:Int}(h:Wh w ng ao cap rs z)(hr:Ru w w'):Wh w' ng ao cap rs z:=⟨Got.ru h.1 hr,h.2⟩
theorem IsW.mono5(z:Int)(L:Nat):Mono5 (IsW z L):=fun _ _ _ hb ⟨ng,ao,n,cap,xs,e,h,l⟩=>⟨ng,ao,n,cap,xs,e,h.ru hb,l⟩
theorem OutW.mono5(z:Int)(L:Nat):Mono5 (OutW z L):=fun _ _ _ hb ⟨ng,ao,cap,rs,e,h,l⟩=>⟨ng,ao,cap,rs,e,h.ru hb,l⟩
theorem OutR.mono5(p q:Int)(L:Nat):Mono5 (OutR p q L):=fun _ _ _ hr ⟨ng,ao,cap,rs,bo,dap,ss,e,h1,h2,l1,l2⟩=>⟨ng,ao,cap,rs,bo,dap,ss,e,h1.ru hr,h2.ru hr,l1,l2⟩
theorem acb{W:World}{f:Nat}{ng:Bool}{a:Option Addr}{n c:Nat}(h:W.heap[f]? = some (.cells #[.bool ng,.slice a n c] 60 (0,0)))(u v:Value):Ru W ((W.setCell ⟨f,0,none⟩ u).setCell ⟨f,1,none⟩ v):=by
 refine Ru.of_one h (by decide) ?_ (by simp[World.setCell]) (fun k _ hn=>by rw[heap_setCell_other _ ⟨f,1,none⟩ k _ hn,heap_setCell_other _ ⟨f,0,none⟩ k _ hn]);intro i z
 match i with
 |0=>simp
 |1=>simp
 |i+2=>simp
theorem aeg{W:World}{f:Nat}{ng:Bool}{a d:Option Addr}{n c k e:Nat}(h:W.heap[f]? = some (.cells #[.bool ng,.slice a n c,.slice d k e] 62 (0,0)))(u v x:Value):Ru W (((W.setCell ⟨f,0,none⟩ u).setCell ⟨f,1,none⟩ v).setCell ⟨f,2,none⟩ x):=by
 refine Ru.of_one h (by decide) ?_ (by simp[World.setCell]) (fun k _ hn=>by rw[heap_setCell_other _ ⟨f,2,none⟩ k _ hn,heap_setCell_other _ ⟨f,1,none⟩ k _ hn,heap_setCell_other _ ⟨f,0,none⟩ k _ hn]);intro i z
 match i with
 |0=>simp
 |1=>simp
 |2=>simp
 |i+3=>simp
theorem ab1{W:World}{f:Nat}{x y:Value}{T:TypeId}(h:W.heap[f]? = some (.cells #[x,y] T (0,0)))(u v:Value):((W.setCell ⟨f,0,none⟩ u).setCell ⟨f,1,none⟩ v).heap[f]? = some (.cells #[u,v] T (0,0)):=by
 have s1:=heap_setCell_same W f 0 _ _ u h;have s2:=heap_setCell_same _ f 1 _ _ v s1;rw[s2];simp
theorem aet{W:World}{f:Nat}{x y z:Value}{T:TypeId}(h:W.heap[f]? = some (.cells #[x,y,z] T (0,0)))(u v t:Value):(((W.setCell ⟨f,0,none⟩ u).setCell ⟨f,1,none⟩ v).setCell ⟨f,2,none⟩ t).heap[f]? = some (.cells #[u,v,t] T (0,0)):=by
 have s1:=heap_setCell_same W f 0 _ _ u h;have s2:=heap_setCell_same _ f 1 _ _ v s1;have s3:=heap_setCell_same _ f 2 _ _ t s2;rw[s3];simp
theorem lvw2{W:World}{f:Nat}{ng:Bool}{a:Option Addr}{n c:Nat}(h:W.heap[f]? = some (.cells #[.bool ng,.slice a n c] 60 (0,0))):(loadVar 60 ⟨f,0,none⟩).run Tryz.prog W=.ok (.agg #[.bool ng,.slice a n c]) W:=aht ⟨_,⟨_,_,_,_,rfl,rfl⟩,h⟩
theorem lvr3{W:World}{f:Nat}{ng:Bool}{a d:Option Addr}{n c k e:Nat}(h:W.heap[f]? = some (.cells #[.bool ng,.slice a n c,.slice d k e] 62 (0,0))):(loadVar 62 ⟨f,0,none⟩).run Tryz.prog W=.ok (.agg #[.bool ng,.slice a n c,.slice d k e]) W:=aw9 ⟨_,⟨_,_,_,_,_,_,_,rfl,rfl⟩,h⟩
theorem aah{W:World}{f:Nat}{x y:Value}{T:TypeId}(h:W.heap[f]? = some (.cells #[x,y] T (0,0))):f<W.heap.size/\W.cell? ⟨f,0,none⟩=some x/\W.cell? ⟨f,1,none⟩=some y/\W.frozen? ⟨f,0,none⟩=false/\W.frozen? ⟨f,1,none⟩=false:=⟨aaa h,by rw[cell_of_row _ _ _ _ _ (0,0) h];rfl,by rw[cell_of_row _ _ _ _ _ (0,0) h];rfl,frozen_of_row _ _ _ _ _ h,frozen_of_row _ _ _ _ _ h⟩
theorem aac{W:World}{f:Nat}{x y z:Value}{T:TypeId}(h:W.heap[f]? = some (.cells #[x,y,z] T (0,0))):f<W.heap.size/\W.cell? ⟨f,0,none⟩=some x/\W.cell? ⟨f,1,none⟩=some y/\W.cell? ⟨f,2,none⟩=some z/\W.frozen? ⟨f,0,none⟩=false/\W.frozen? ⟨f,1,none⟩=false/\W.frozen? ⟨f,2,none⟩=false:=⟨aaa h,by rw[cell_of_row _ _ _ _ _ (0,0) h];rfl,by rw[cell_of_row _ _ _ _ _ (0,0) h];rfl,by rw[cell_of_row _ _ _ _ _ (0,0) h];rfl,frozen_of_row _ _ _ _ _ h,frozen_of_row _ _ _ _ _ h,frozen_of_row _ _ _ _ _ h⟩
theorem hAl(W:World)(o:Obj):Below W.heap.size W (W.alloc o):=(Below.refl _ _).alloc (Nat.le_refl _) o
theorem aaq{W:World}{f:Nat}{o o':Obj}(h:W.heap[f]? = some o):(W.alloc o').heap[f]? = some o:=((hAl W o').block f (aaa h)).trans h
def tp(p q:Int):Int:=if q=0 then 0 else p
def tq(q:Int):Int:=if q=0 then 1 else q
theorem axa(w:World):OutW 0 0 (.agg #[.bool false,.slice none 0 0]) w:=⟨false,none,0,[],rfl,⟨⟨afp w,ab2,rfl⟩,rfl⟩,Nat.le_refl _⟩
theorem box3(w:World)(o o' p:Obj):∃w0:World,((w.alloc o).alloc o').alloc p=w0/\w0.heap[w.heap.size]? = some o/\w0.heap[w.heap.size+1]? = some o'/\w0.heap[w.heap.size+1+1]? = some p/\Below w.heap.size w w0:=by
 have h1:=heap_alloc_new w o;have h2:=heap_alloc_new (w.alloc o) o';have h3:=heap_alloc_new ((w.alloc o).alloc o') p;rw[show((w.alloc o).alloc o').heap.size=w.heap.size+1+1 by simp]at h3;rw[show(w.alloc o).heap.size=w.heap.size+1 by simp]at h2;exact⟨_,rfl,aaq (aaq h1),aaq h2,h3,(hAl _ _).trans (((hAl _ _).trans ((hAl _ _).mono (hAl _ _).size)).mono (hAl _ _).size)⟩
theorem auk{n g g':Nat}{w W:World}{n0 n1:Bool}{a0 a1:Option Addr}{k0 c0 k1 c1:Nat}(nx:Bool)(ax:Option Addr)(mx cx:Nat)(ny:Bool)(ay:Option Addr)(my cy:Nat)(hg:n<=g)(hg':n<=g')(hne:g'≠g)(h:W.heap[g]? = some (.cells #[.bool n0,.slice a0 k0 c0] 60 (0,0)))(h':W.heap[g']? = some (.cells #[.bool n1,.slice a1 k1 c1] 60 (0,0)))(hb:Below n w W):
  Ru W ((((W.setCell ⟨g,0,none⟩ (.bool nx)).setCell ⟨g,1,none⟩ (.slice ax mx cx)).setCell ⟨g',0,none⟩ (.bool ny)).setCell ⟨g',1,none⟩ (.slice ay my cy))/\Below n w ((((W.setCell ⟨g,0,none⟩ (.bool nx)).setCell ⟨g,1,none⟩ (.slice ax mx cx)).setCell ⟨g',0,none⟩ (.bool ny)).setCell ⟨g',1,none⟩ (.slice ay my cy))/\(loadVar 60 ⟨g,0,none⟩).run Tryz.prog ((((W.setCell ⟨g,0,none⟩ (.bool nx)).setCell ⟨g,1,none⟩ (.slice ax mx cx)).setCell ⟨g',0,none⟩ (.bool ny)).setCell ⟨g',1,none⟩ (.slice ay my cy))=.ok (.agg #[.bool nx,.slice ax mx cx]) ((((W.setCell ⟨g,0,none⟩ (.bool nx)).setCell ⟨g,1,none⟩ (.slice ax mx cx)).setCell ⟨g',0,none⟩ (.bool ny)).setCell ⟨g',1,none⟩ (.slice ay my cy))/\(loadVar 60 ⟨g',0,none⟩).run Tryz.prog ((((W.setCell ⟨g,0,none⟩ (.bool nx)).setCell ⟨g,1,none⟩ (.slice ax mx cx)).setCell ⟨g',0,none⟩ (.bool ny)).setCell ⟨g',1,none⟩ (.slice ay my cy))=.ok (.agg #[.bool ny,.slice ay my cy]) ((((W.setCell ⟨g,0,none⟩ (.bool nx)).setCell ⟨g,1,none⟩ (.slice ax mx cx)).setCell ⟨g',0,none⟩ (.bool ny)).setCell ⟨g',1,none⟩ (.slice ay my cy)):=by
 have e:((W.setCell ⟨g,0,none⟩ (.bool nx)).setCell ⟨g,1,none⟩ (.slice ax mx cx)).heap[g']? = _:=((heap_setCell_other _ ⟨g,1,none⟩ g' _ hne).trans (heap_setCell_other _ ⟨g,0,none⟩ g' _ hne)).trans h';have s1:=ab1 h (.bool nx) (.slice ax mx cx);have s2:=ab1 e (.bool ny) (.slice ay my cy);exact⟨(acb h _ _).trans (acb e _ _),(((hb.setCell hg _).setCell hg _).setCell hg' _).setCell hg' _,lvw2 (((heap_setCell_other _ ⟨g',1,none⟩ g _ hne.symm).trans (heap_setCell_other _ ⟨g',0,none⟩ g _ hne.symm)).trans s1),lvw2 s2⟩
set_option maxRecDepth 100000 in
theorem aga(w:World)(L:Nat)(hL:L<=100000)(nr:Bool)(ar:Option Addr)(mr cr:Nat)(rs:List Int)(pr:Int)(Ar:Ag w nr ar mr cr rs pr)(Lr:rs.length<=L)(br:Option Addr)(kr dr:Nat)(rt:List Int)(qr:Int)(Sr:Sl w (.slice br kr dr) rt)(Vr:val rt=qr)(Mr:rt.length<=L):
  Calls Tryz.prog 127 #[.agg #[.bool nr,.slice ar mr cr,.slice br kr dr]] w fun e w'=>∃v1 v2,e=.returned (.tuple #[v1,v2])/\IsW (tp pr qr) (L+2) v1 w'/\IsW (tq qr) (L+2) v2 w'/\Below w.heap.size w w':=by
 obtain⟨w0,e0,hx,hy,hz,hb⟩:=box3 w (.cells #[.bool nr,.slice ar mr cr,.slice br kr dr] 62) (.cells #[.bool false,.slice none 0 0] 60) (.cells #[.bool false,.slice br kr dr] 60);obtain⟨_,x0,x1,x2,_,_,_⟩:=aac hx;obtain⟨_,z0,z1,_,_⟩:=aah hz;have E0:=hide e0;have K1:=hide (aho w0 false br kr dr rt qr ⟨Sr.below hb,Vr⟩ (by omega) (Int.sign qr) rfl);have HX:=hide hx;have HY:=hide hy;have HZ:=hide hz;have HB:=hide hb;clear e0 hx hy hz hb;go_enter Tryz.func127,Tryz.ntmps127
 go_upto_region 2 with fail
 rw[E0.out];go_wp2_with fail
 refine K1.out.mono ?_;rintro e w1 ⟨rfl,hb1⟩;have HB1:=hide (HB.out.trans (hb1.mono HB.out.size));have HX1:=hide ((hb1.block _ (aaa HX.out)).trans HX.out);have HY1:=hide ((hb1.block _ (aaa HY.out)).trans HY.out);have HZ1:=hide ((hb1.block _ (aaa HZ.out)).trans HZ.out);replace x0:=(hb1.cell (p:=⟨w.heap.size,0,none⟩) (aap x0)).trans x0;replace x1:=(hb1.cell (p:=⟨w.heap.size,1,none⟩) (aap x1)).trans x1;replace z0:=(hb1.cell (p:=⟨w.heap.size+1+1,0,none⟩) (aap z0)).trans z0;replace z1:=(hb1.cell (p:=⟨w.heap.size+1+1,1,none⟩) (aap z1)).trans z1;have HA:=hide (And.intro (Ar.sl.below HB1.out) (Sr.below HB1.out));clear hb1 K1 HB HX HY HZ E0 x2;by_cases hq:qr=0
 ·have hs:(Int.sign qr==0)=true:=by simp[hq]
  have K2:=hide (ac2 w1 1 (by omega) (by omega));clear HA;go_wp2_with fail
  refine K2.out.mono ?_;rintro e w2 ⟨n2,a2,c2,r2,rfl,G2,l2,hb2⟩;have hy2:=(hb2.block _ (aaa HY1.out)).trans HY1.out;have hz2:=(hb2.block _ (aaa HZ1.out)).trans HZ1.out;obtain⟨_,s0,s1,s2,s3⟩:=aah hy2;obtain⟨_,t0,t1,t2,t3⟩:=aah hz2;have HE:=hide (auk false none 0 0 n2 a2 r2.length c2 (n:=w.heap.size) (by omega) (by omega) (by omega) hy2 hz2 (HB1.out.trans (hb2.mono HB1.out.size)));have HG:=hide (And.intro G2 l2);clear hy2 hz2 hb2 G2 l2 K2 HB1 HY1 HZ1;go_wp2;refine bodyPost_ret (v:=_) (apr (g:=w.heap.size+1) (g':=w.heap.size+1+1) rfl rfl HE.out.2.2.1 rfl HE.out.2.2.2) rfl ⟨_,_,rfl,?_,?_,HE.out.2.1⟩
  ·rw[tp,if_pos hq];exact(axa _).is.to rfl (by omega)
  ·rw[tq,if_pos hq];exact IsW.to (OutW.is ⟨_,_,_,_,rfl,Wh.ru HG.out.1 HE.out.1,HG.out.2⟩) rfl (by omega)
 ·have hs:(Int.sign qr==0)=false:=by simp[hq]
  go_upto_region 4 with fail
  rename_i K hK;have b1:BoxV R3 w1 w.heap.size (.agg #[.bool nr,.slice ar mr cr,.slice br kr dr]):=⟨_,⟨_,_,_,_,_,_,_,rfl,rfl⟩,HX1.out⟩;have b2:BoxV W2 w1 (w.heap.size+1) (.agg #[.bool false,.slice none 0 0]):=⟨_,⟨_,_,_,_,rfl,rfl⟩,HY1.out⟩;have b3:BoxV W2 w1 (w.heap.size+1+1) (.agg #[.bool false,.slice br kr dr]):=⟨_,⟨_,_,_,_,rfl,rfl⟩,HZ1.out⟩;generalize hA:(Act.mk _ _)=aa;have hn:aa.tmps.size=15:=by rw[<-hA];rfl
  have hd:aa.defers = []:=by rw[<-hA]
  have f1:aa.eval (.tmp 1)=.pointer (some ⟨w.heap.size,0,none⟩):=by rw[<-hA];rfl
  have f2:aa.eval (.tmp 2)=.pointer (some ⟨w.heap.size+1,0,none⟩):=by rw[<-hA];rfl
  have f3:aa.eval (.tmp 3)=.pointer (some ⟨w.heap.size+1+1,0,none⟩):=by rw[<-hA];rfl
  clear hA;have ne1_2:w.heap.size≠w.heap.size+1:=by omega
  have ne1_3:w.heap.size≠w.heap.size+1+1:=by omega
  have ne2_3:w.heap.size+1≠w.heap.size+1+1:=by omega
  have u2:w.heap.size<=w.heap.size+1:=by omega
  have u3:w.heap.size<=w.heap.size+1+1:=by omega
  have HB:=HB1.out;have Ar':Ag w1 nr ar mr cr rs pr:=⟨HA.out.1,Ar.worth⟩;have Dr:Ag w1 false br kr dr rt qr:=⟨HA.out.2,Vr⟩;refine aam [some 12,some 13,some 14,none,none] [Eqs (.pointer (some ⟨w.heap.size,0,none⟩)),Eqs (.agg #[.bool nr,.slice ar mr cr]),Eqs (.agg #[.bool false,.slice br kr dr]),Tt,Tt] [⟨W2,none,(w.heap.size+1),2,.agg #[.bool false,.slice none 0 0],some (3,13,1),[]⟩,⟨W2,none,(w.heap.size+1+1),3,.agg #[.bool false,.slice br kr dr],some (4,14,2),[2]⟩] [] (by kernel_rfl) hn rfl (by kernel_rfl) (by kernel_rfl) (by kernel_rfl) (by kernel_rfl) (by kernel_rfl) (by kernel_rfl) ⟨Eqs.mono4 _,Eqs.mono4 _,Eqs.mono4 _,True.mono4,True.mono4,trivial⟩ (ac8 W2ok (ac8 W2ok aas)) (IsOld.all (bx:=[⟨W2,none,(w.heap.size+1),2,.agg #[.bool false,.slice none 0 0],some (3,13,1),[]⟩,⟨W2,none,(w.heap.size+1+1),3,.agg #[.bool false,.slice br kr dr],some (4,14,2),[2]⟩]) ⟨fun _=>⟨f2,b2⟩,fun _=>⟨f3,b3⟩,trivial⟩) (DisOld.all (bx:=[⟨W2,none,(w.heap.size+1),2,.agg #[.bool false,.slice none 0 0],some (3,13,1),[]⟩,⟨W2,none,(w.heap.size+1+1),3,.agg #[.bool false,.slice br kr dr],some (4,14,2),[2]⟩]) ⟨fun _=>⟨fun _=>ne2_3.symm,trivial⟩,fun _=>trivial,trivial⟩) ?_ ?_
  ·exact⟨.norm 12 rfl rfl rfl (fun a_ w_ _ t r R D _ _=>avx avy ((R 1 rfl).trans f1)),.norm 13 rfl rfl rfl (fun a_ w_ _ t r R D _ _=>ar0 (show a_.eval (.tmp 12)=.pointer (some ⟨w.heap.size,0,none⟩)from D 0 rfl) (b1.keep t ⟨fun _=>ne1_2.symm,fun _=>ne1_3.symm,trivial⟩)),.norm 14 rfl rfl rfl (fun a_ w_ _ t r R D hO _=>ary W2ok ((R 3 rfl).trans f3) (hO 1 _ rfl rfl rfl)),.store 0 _ _ _ rfl rfl rfl rfl rfl rfl rfl (fun ia h=>by cases h) rfl rfl rfl (aj8 ahs),.store 1 _ _ _ rfl rfl rfl rfl rfl rfl rfl (fun ia h=>by cases h) rfl rfl rfl (aj8 ahs),trivial⟩
  ·intro a6 w6 gs6 hn6 hd6 hBt hr hR hP hX hU;replace hn:=hn6;replace hd:=hd6.trans hd;have e13:a6.eval (.tmp 13)=.agg #[.bool nr,.slice ar mr cr]:=hP 1 (by decide);have b2:BoxV W2 w6 ((w.heap.size+1)) (.agg #[.bool nr,.slice ar mr cr]):=ae7 ((hX 0 _ rfl).2.1 rfl) (hX 0 _ rfl).2.2.2 e13;replace f2:a6.eval (.tmp 2)=_:=(hR 2 rfl).trans f2;have e14:a6.eval (.tmp 14)=.agg #[.bool false,.slice br kr dr]:=hP 2 (by decide);have b3:BoxV W2 w6 ((w.heap.size+1+1)) (.agg #[.bool false,.slice br kr dr]):=ae7 ((hX 1 _ rfl).2.1 rfl) (hX 1 _ rfl).2.2.2 e14;replace f3:a6.eval (.tmp 3)=_:=(hR 3 rfl).trans f3;replace Ar':=Ar'.rl hr;replace Dr:=Dr.rl hr;replace HB:=HB.trans (hBt.below HB.size (UpOld.all (bx:=[⟨W2,none,(w.heap.size+1),2,.agg #[.bool false,.slice none 0 0],some (3,13,1),[]⟩,⟨W2,none,(w.heap.size+1+1),3,.agg #[.bool false,.slice br kr dr],some (4,14,2),[2]⟩]) ⟨fun _=>u2,fun _=>u3,trivial⟩));clear hBt hr hR hP hX hU;refine hK _ _ (wp_ret ?_);repeat(first|refine acg ?_|refine abn ?_|refine ab3 ?_)
   refine bodyPost_ret (v:=.tuple #[.agg #[.bool nr,.slice ar mr cr],.agg #[.bool false,.slice br kr dr]]) (apr rfl f2 (aht b2) f3 (aht b3)) hd ⟨_,_,rfl,?_,?_,HB⟩
   ·exact IsW.to (app rfl Ar' Lr) (by rw[tp,if_neg hq]) (by omega)
   ·exact IsW.to (app rfl Dr Mr) (by rw[tq,if_neg hq]) (by omega)
end Lm
namespace Lm
open Go.RowKit
theorem ar1{ps Y qs:List Int}{k:Nat}{x y a c b t r:Int}(hk:qs.length=k)(hy:Y.getD k 0=y)(ha:ps.getD k 0=a)(ht:t=x*y+c)(hr:r=a-t%4294967296-b)(h1 : -4294967296<=r)(h2:r<4294967296)(h:val qs-pw k*(c+b)=vf ps k-x*vf Y k):
  val (qs ++ [r%4294967296])-pw (k+1)*(t/4294967296+bor r)=vf ps (k+1)-x*vf Y (k+1):=by
 rw[abf,vf,vf,ha,hy,hk,pw,ajq h1 h2];have e:t=t%4294967296+4294967296*(t/4294967296):=by omega
 have e1:pw k*(r+4294967296*bor r)=pw k*r+4294967296*pw k*bor r:=by rw[Int.mul_add,Int.mul_comm 4294967296 (pw k),Int.mul_assoc]
 have e2:4294967296*pw k*(t/4294967296+bor r)=pw k*(4294967296*(t/4294967296))+4294967296*pw k*bor r:=by rw[Int.mul_add,Int.mul_comm 4294967296 (pw k),Int.mul_assoc]
 have e3:pw k*(4294967296*(t/4294967296))=pw k*t-pw k*(t%4294967296):=by rw[<-Int.mul_sub];congr 1;omega
 have e4:x*(vf Y k+pw k*y)=x*vf Y k+pw k*(x*y):=by rw[Int.mul_add,<-Int.mul_assoc x,Int.mul_comm x (pw k),Int.mul_assoc]
 have e5:pw k*t=pw k*(x*y)+pw k*c:=by rw[ht,Int.mul_add]
 have e6:pw k*r=pw k*a-pw k*(t%4294967296)-pw k*b:=by rw[hr,Int.mul_sub,Int.mul_sub]
 have e7:pw k*(c+b)=pw k*c+pw k*b:=Int.mul_add _ _ _;rw[e1,e2,e3,e4,e5,e6];omega
theorem ano{Y:List Int}{k:Nat}{x y c t:Int}(hy:Y.getD k 0=y)(ht:t=x*y+c)(h:pw k*c<=x*vf Y k):pw (k+1)*(t/4294967296)<=x*vf Y (k+1):=by
 rw[vf,hy,pw];have e1:4294967296*pw k*(t/4294967296)=pw k*(4294967296*(t/4294967296)):=by rw[Int.mul_comm 4294967296 (pw k),Int.mul_assoc]
 have e2:pw k*(4294967296*(t/4294967296))<=pw k*t:=Int.mul_le_mul_of_nonneg_left (by omega) (by have:=aay k;omega);have e3:pw k*t=pw k*(x*y)+pw k*c:=by rw[ht,Int.mul_add]
 have e4:x*(vf Y k+pw k*y)=x*vf Y k+pw k*(x*y):=by rw[Int.mul_add,<-Int.mul_assoc x,Int.mul_comm x (pw k),Int.mul_assoc]
 omega
theorem anp{Y:List Int}{n:Nat}{x c:Int}(hY:Limb Y)(hl:Y.length=n)(hx:0<=x/\x<4294967296)(hc:0<=c)(h:pw (n+1)*c<=x*vf Y (n+1)):c=0:=by
 rw[aa9 Y _ (by omega),pw]at h;have hb:=aab hY;rw[hl]at hb;have h1:x*val Y<=4294967295*val Y:=Int.mul_le_mul_of_nonneg_right (by omega) hb.1;apply Classical.byContradiction;intro hn;have h2:4294967296*pw n*1<=4294967296*pw n*c:=Int.mul_le_mul_of_nonneg_left (by omega) (by have:=aay n;omega);omega
theorem ajf(w:World)(g o n cap c2:Nat)(cur:Array Value)(ps Y:List Int)(a2:Option Addr)(x:Int)(hx:0<=x/\x<4294967296)
  (hh:w.heap[g]? = some (.cells cur 70 (0,0))) (ha:At cur .u32 o ps) (hp:Limb ps) (hpl:ps.length=n+1) (hm:n<=1000000)
  (hY:∀wr cur',Wr w wr g cur' 70->Sl wr (.slice a2 n c2) Y) :
  Calls Tryz.prog 188 #[.slice (some ⟨g,o,none⟩) (n+1) cap,.slice a2 n c2,.int .u32 x] w fun e w'=>∃qs b cur',e=.returned (.bool (b != 0))/\(0<=b/\b<=1)/\val qs-pw (n+1)*b=val ps-x*val Y/\Limb qs/\qs.length=n+1/\Wr w w' g cur' 70/\cur'.size=cur.size/\At cur' .u32 o qs/\(∀i,i<o\/o+(n+1)<=i->cur'[i]? = cur[i]?):=by
 obtain⟨hYl,g1,g2,g3⟩:=(hY _ _ (Wr.refl hh)).parts;have HP:=hide hp;have HY:=hide g3;have HYL:=hide hYl;have HPL:=hide hpl;have HH:=hide hh;have HA:=hide ha;clear hp g3 hYl hpl hh ha;go_enter Tryz.func188,Tryz.ntmps188
 go_wp2;go_loopw [7,8,14] (fun cv bv i wr=>∃(k:Nat) (c b:Int) (qs:List Int) (cur':Array Value),k<=n+1/\cv=.int .u64 c/\bv=.int .i64 b/\i=.int .i64 k/\(0<=c/\c<4294967296)/\(0<=b/\b<=1)/\qs.length=k/\Limb qs/\val qs-pw k*(c+b)=vf ps k-x*vf Y k/\pw k*c<=x*vf Y k/\Wr w wr g cur' 70/\cur'.size=cur.size/\At cur' .u32 o (qs++ps.drop k)/\(∀i,i<o\/o+(n+1)<=i->cur'[i]? = cur[i]?)) (fun _ _ i _=>n+1-(intOf i).toNat)
 case atStart=>exact⟨0,0,0,[],cur,Nat.zero_le _,rfl,rfl,rfl,by omega,by omega,rfl,aag,by simp[val,vf,pw],by simp[vf],Wr.refl HH.out,rfl,by simpa using HA.out,fun _ _=>rfl⟩
 case round=>
  obtain⟨k,c,b,qs,cur',hk,rfl,rfl,rfl,hc,hbb,hql,hq,hval,hcar,hwr,hcs,hat,hout⟩:=hrel;have HQL:=hide hql;have HQ:=hide hq;have HV:=hide hval;have HCar:=hide hcar;have HW:=hide hwr;have HC:=hide hcs;have HT:=hide hat;have HO:=hide hout;clear hql hq hval hcar hwr hcs hat hout;by_cases hlt:k<n+1
  ·have sy:=hY _ _ HW.out;have hlen:(qs++ps.drop k).length=n+1:=by have:=HQL.out;have:=HPL.out;simp;omega
   have co:=HT.out.cell HW.out.here k (by rw[hlen];omega);have e1:(qs++ps.drop k).getD k 0=ps.getD k 0:=by
    rw[List.getD_eq_getElem?_getD,List.getElem?_append_right (by have:=HQL.out;omega),List.getElem?_drop,List.getD_eq_getElem?_getD,HQL.out];congr 2;omega
   rw[e1]at co;have hfree:=HW.out.free (o+k);have by':=aaf HY.out k;have ba:=aaf HP.out k;obtain⟨y,hy⟩:∃y,Y.getD k 0=y:=⟨_,rfl⟩;obtain⟨a,hpa⟩:∃a,ps.getD k 0=a:=⟨_,rfl⟩;have ky:Hid (Calls Tryz.prog 178 #[.slice a2 n c2,.int .i64 k] wr fun e w'=>e=.returned (.int .u32 y)/\w'=wr):=by rw[<-hy];exact abp _ _ Y sy k
   rw[hy]at by';rw[hpa]at co ba;have hxy:=afo hx by';have s0:0<=(x*y+c)%4294967296/\(x*y+c)%4294967296<4294967296:=by omega
   have s1 : -4294967296<=a-(x*y+c)%4294967296-b:=by omega
   have s2:a-(x*y+c)%4294967296-b<4294967296:=by omega
   have hand:=amb s1 s2;have hbo:=aou (a-(x*y+c)%4294967296-b);have HV':=hide (ar1 (x:=x) HQL.out hy hpa rfl rfl s1 s2 HV.out);have HCar':=hide (ano (x:=x) hy rfl HCar.out);have HT':=hide (HT.out.set k ((a-(x*y+c)%4294967296-b)%4294967296));have HW':=hide (HW.out.set (o+k) (.int .u32 ((a-(x*y+c)%4294967296-b)%4294967296)));have d1:(k:Int)<(n:Int)+1:=by omega
   clear hlen e1 hy hpa sy;go_wp2_with fail
   refine(ky.out).mono ?_;rintro e w2 ⟨rfl,rfl⟩;go_wp2;go_roundw
   case rel=>
    refine⟨k+1,(x*y+c)/4294967296,_,qs ++ [(a-(x*y+c)%4294967296-b)%4294967296],_,by omega,rfl,rfl,by go_num,by omega,hbo,by have:=HQL.out;simp;omega,aan.2 ⟨HQ.out,aai.2 ⟨by omega,aag⟩⟩,HV'.out,HCar'.out,HW'.out,by simpa using HC.out,by rw[<-aba qs ps k _ HQL.out (by have:=HPL.out;omega)];exact HT'.out,fun i hi=>?_⟩;rw[Array.getElem?_setIfInBounds,if_neg (by omega)];exact HO.out i hi
   case measure=>simp[intOf];omega
  ·have hkn:k=n+1:=by omega
   subst hkn;have hc0:=anp HY.out HYL.out.symm hx hc.1 HCar.out;have HVf:Hid (val qs-pw (n+1)*b=val ps-x*val Y):=by
    have h9:=HV.out;rw[hc0,Int.zero_add,aa9 ps _ (by have:=HPL.out;omega),aa9 Y _ (by have:=HYL.out;omega)]at h9;exact h9
   have HTf:Hid (At cur' .u32 o qs):=by
    have h9:=HT.out;rwa[List.drop_of_length_le (by have:=HPL.out;omega),List.append_nil]at h9
   clear hc0;go_wp2;go_ret;exact⟨qs,b,cur',rfl,hbb,HVf.out,HQ.out,HQL.out,HW.out,HC.out,HTf.out,HO.out⟩
end Lm
namespace Lm
open Go.RowKit
theorem ale(w:World)(g o n cap c2:Nat)(cur:Array Value)(ps Y:List Int)(a2:Option Addr)
  (hh:w.heap[g]? = some (.cells cur 70 (0,0))) (ha:At cur .u32 o ps) (hp:Limb ps) (hpl:ps.length=n+1) (hm:n<=1000000)
  (hY:∀wr cur',Wr w wr g cur' 70->Sl wr (.slice a2 n c2) Y) :
  Calls Tryz.prog 189 #[.slice (some ⟨g,o,none⟩) (n+1) cap,.slice a2 n c2] w fun e w'=>∃qs c cur',e=.returned (.tuple #[])/\(0<=c/\c<=1)/\val qs+pw (n+1)*c=val ps+val Y/\Limb qs/\qs.length=n+1/\Wr w w' g cur' 70/\cur'.size=cur.size/\At cur' .u32 o qs/\(∀i,i<o\/o+(n+1)<=i->cur'[i]? = cur[i]?):=by
 obtain⟨hYl,g1,g2,g3⟩:=(hY _ _ (Wr.refl hh)).parts;have HP:=hide hp;have HY:=hide g3;have HYL:=hide hYl;have HPL:=hide hpl;have HH:=hide hh;have HA:=hide ha;clear hp g3 hYl hpl hh ha;go_enter Tryz.func189,Tryz.ntmps189
 go_wp2;go_loopw [4,9] (fun cv i wr=>∃(k:Nat) (c:Int) (qs:List Int) (cur':Array Value),k<=n+1/\cv=.int .u64 c/\i=.int .i64 k/\(0<=c/\c<=1)/\qs.length=k/\Limb qs/\val qs+pw k*c=vf ps k+vf Y k/\Wr w wr g cur' 70/\cur'.size=cur.size/\At cur' .u32 o (qs++ps.drop k)/\(∀i,i<o\/o+(n+1)<=i->cur'[i]? = cur[i]?)) (fun _ i _=>n+1-(intOf i).toNat)
 case atStart=>exact⟨0,0,[],cur,Nat.zero_le _,rfl,rfl,by omega,rfl,aag,by simp[val,vf,pw],Wr.refl HH.out,rfl,by simpa using HA.out,fun _ _=>rfl⟩
 case round=>
  obtain⟨k,c,qs,cur',hk,rfl,rfl,hc,hql,hq,hval,hwr,hcs,hat,hout⟩:=hrel;have HQL:=hide hql;have HQ:=hide hq;have HV:=hide hval;have HW:=hide hwr;have HC:=hide hcs;have HT:=hide hat;have HO:=hide hout;clear hql hq hval hwr hcs hat hout;by_cases hlt:k<n+1
  ·have sy:=hY _ _ HW.out;have hlen:(qs++ps.drop k).length=n+1:=by have:=HQL.out;have:=HPL.out;simp;omega
   have co:=HT.out.cell HW.out.here k (by rw[hlen];omega);have e1:(qs++ps.drop k).getD k 0=ps.getD k 0:=by
    rw[List.getD_eq_getElem?_getD,List.getElem?_append_right (by have:=HQL.out;omega),List.getElem?_drop,List.getD_eq_getElem?_getD,HQL.out];congr 2;omega
   rw[e1]at co;have hfree:=HW.out.free (o+k);have by':=aaf HY.out k;have ba:=aaf HP.out k;obtain⟨y,hy⟩:∃y,Y.getD k 0=y:=⟨_,rfl⟩;obtain⟨a,hpa⟩:∃a,ps.getD k 0=a:=⟨_,rfl⟩;have ky:Hid (∀q,Calls Tryz.prog 178 #[.slice a2 n c2,.int .i64 k] (wr.drewN q) fun e w'=>e=.returned (.int .u32 y)/\w'=wr.drewN q):=by
    intro q;rw[<-hy];exact abp _ _ Y (sy.below (below_drewN (Below.refl _ _) q)) k
   rw[hy]at by';rw[hpa]at co ba;have hst:=ag0 ba by' hc rfl;have HV':=hide (aig HQL.out hpa hy rfl HV.out);have HT':=hide (HT.out.set k ((a+y+c)%4294967296));have HW':=hide (HW.out.set (o+k) (.int .u32 ((a+y+c)%4294967296)));have d1:(k:Int)<(n:Int)+1:=by omega
   clear hlen e1 hy hpa sy;go_wp2;go_quiet ((go_at_call 178;exact Calls.quiet_of_same (ky.out _)))
   go_wp2;go_roundw
   case rel=>
    refine⟨k+1,(a+y+c)/4294967296,qs ++ [(a+y+c)%4294967296],_,by omega,rfl,by go_num,by omega,by have:=HQL.out;simp;omega,aan.2 ⟨HQ.out,aai.2 ⟨by omega,aag⟩⟩,HV'.out,HW'.out.drewN _,by simpa using HC.out,by rw[<-aba qs ps k _ HQL.out (by have:=HPL.out;omega)];exact HT'.out,fun i hi=>?_⟩;rw[Array.getElem?_setIfInBounds,if_neg (by omega)];exact HO.out i hi
   case measure=>simp[intOf];omega
  ·have hkn:k=n+1:=by omega
   subst hkn;have HVf:Hid (val qs+pw (n+1)*c=val ps+val Y):=by
    have h9:=HV.out;rw[aa9 ps _ (by have:=HPL.out;omega),aa9 Y _ (by have:=HYL.out;omega)]at h9;exact h9
   have HTf:Hid (At cur' .u32 o qs):=by
    have h9:=HT.out;rwa[List.drop_of_length_le (by have:=HPL.out;omega),List.append_nil]at h9
   go_wp2;go_end0
   exact⟨qs,c,cur',rfl,hc,HVf.out,HQ.out,HQL.out,HW.out,HC.out,HTf.out,HO.out⟩
end Lm
namespace Lm
open Go.RowKit
theorem ar2(x:Int)(w:World)(h0:0<=x)(h1:x<4294967296):
  Calls Tryz.prog 185 #[.int .u32 x] w fun e w'=>e=.returned (.int .i64 (32-(Lib.bitLen x.toNat:Nat)))/\w'=w:=by
 have hl:Lib.bitLen x.toNat<=32:=Lib.bitLen_le _ 32 (by omega) (by omega);have kl:=hide (aiw x w h0 h1);generalize Lib.bitLen x.toNat=l at hl kl;go_enter Tryz.func185,Tryz.ntmps185
 go_wp2_with fail
 refine(kl.out).mono ?_;rintro e w' ⟨rfl,rfl⟩;go_wp2;go_ret;exact⟨rfl,rfl⟩
theorem aka(s:Nat):(2:Int) ^ s=p2 s:=by
 induction s with
 |zero=>rfl
 |succ s ih=>rw[Int.pow_succ,ih,p2];omega
theorem akb(s:Nat):((2 ^ s:Nat):Int)=p2 s:=by
 induction s with
 |zero=>rfl
 |succ s ih=>rw[Nat.pow_succ,p2];omega
theorem akc{x c:Int}{s:Nat}(h1:0<=x)(h2:x<4294967296)(hs:s<=31)(h3:0<=c)(h4:c<p2 s):0<=x*p2 s+c/\x*p2 s+c<4294967296*p2 s/\x*p2 s+c<9223372036854775808/\0<=x*p2 s:=by
 have hp:=abk s;have hp2:=acw (m:=s) (n:=31) hs;rw[show p2 31=2147483648 from by decide]at hp2;have e1:0<=x*p2 s:=Int.mul_nonneg h1 (by omega);have e2:(x+1)*p2 s<=4294967296*p2 s:=Int.mul_le_mul_of_nonneg_right (by omega) (by omega);rw[Int.add_mul]at e2;omega
theorem ar3{x c:Int}{s:Nat}(h1:0<=x)(h2:x<4294967296)(hs:s<=31)(h3:0<=c)(h4:c<p2 s):bits .or .u64 (IntKind.u64.wrap (x*2 ^ s)) c=x*p2 s+c:=by
 have hb:=akc h1 h2 hs h3 h4;have hp:=abk s;rw[aka,IntKind.wrap_u64,Int.emod_eq_of_lt hb.2.2.2 (by omega),u64_or _ _ hb.2.2.2 (by omega) h3 (by omega)];obtain⟨a,rfl⟩:=Int.eq_ofNat_of_zero_le h1;obtain⟨d,rfl⟩:=Int.eq_ofNat_of_zero_le h3;have e1:((a:Int)*p2 s).toNat=2 ^ s*a:=by
  rw[<-akb,Int.mul_comm,<-Int.natCast_mul,Int.toNat_natCast]
 have hd:d<2 ^ s:=by have:=akb s;omega
 rw[e1,Int.toNat_natCast,<-Nat.two_pow_add_eq_or_of_lt hd,Int.natCast_add,Int.natCast_mul,akb,Int.mul_comm]
theorem av0{zs qs:List Int}{k:Nat}{z c m t:Int}(hk:qs.length=k)(hz:zs.getD k 0=z)(hs:t=z*m+c)(h:val qs+pw k*c=vf zs k*m):
  val (qs ++ [t%4294967296])+pw (k+1)*(t/4294967296)=vf zs (k+1)*m:=by
 rw[abf,vf,hz,hk,pw,Int.add_mul];have e:t=t%4294967296+4294967296*(t/4294967296):=by omega
 have e2:pw k*(t%4294967296)+4294967296*pw k*(t/4294967296)=pw k*t:=by
  rw[Int.mul_comm 4294967296 (pw k),Int.mul_assoc,<-Int.mul_add,<-e]
 have e3:pw k*z*m=pw k*(z*m):=by rw[Int.mul_assoc]
 rw[Int.add_assoc,e2,hs,Int.mul_add,e3];omega
theorem ahu(w:World)(ao:Option Addr)(n cap:Nat)(xs:List Int)(hx:Sl w (.slice ao n cap) xs)(s:Nat)(hs:s<=31)(hm:xs.length<=1000000):
  Calls Tryz.prog 186 #[.slice ao n cap,.int .u64 s] w fun e w'=>∃cur qs,e=.returned (.slice (some ⟨w.heap.size,0,none⟩) (n+1) (n+1))/\Limb qs/\qs.length=n+1/\val qs=val xs*p2 s/\w'.heap[w.heap.size]? = some (.cells cur 70 (0,0))/\cur.size=n+1/\At cur .u32 0 qs/\Below w.heap.size w w':=by
 obtain⟨rfl,h1,h2,h3⟩:=hx.parts;obtain⟨i0,hi,hz0,hz1,hz2⟩:=info_parts abw;have H3:=hide h3;have hp:=abk s;have hp2:=acw (m:=s) (n:=31) hs;rw[show p2 31=2147483648 from by decide]at hp2;clear h3;go_enter Tryz.func186,Tryz.ntmps186
 go_wp2_with (refine wpList_make_full _ rfl (.tmp 12) (.tmp 12) 38 rfl w.heap.size 70 i0 (.int .u32 0) 1 Tryz.underlying38 hi hz0 hz1 .i64 .i64 _ _ (xs.length+1) rfl rfl (by omega) (by omega) (by rw[hz2];omega) (by unfold maxLen;omega) (Nat.le_refl _) ?hK)
 case hK=>
  intro w1 hown hgrow;obtain⟨_,cur,hh,hcs,hat⟩:=aa6 hown;have hb1:Below w.heap.size w w1:=(Below.refl w.heap.size w).grown hgrow (Nat.le_refl _) (by simp);have HH:=hide hh;have HS:=hide hcs;have HA:=hide hat;clear hown hgrow hh hcs hat;go_wp2;go_loopw [6,16] (fun cv i wr=>∃(k:Nat) (c:Int) (qs:List Int) (cur':Array Value),k<=xs.length/\cv=.int .u64 c/\i=.int .i64 k/\(0<=c/\c<p2 s)/\qs.length=k/\Limb qs/\val qs+pw k*c=vf xs k*p2 s/\Wr w1 wr w.heap.size cur' 70/\cur'.size=xs.length+1/\At cur' .u32 0 (qs++(List.replicate (xs.length+1) 0).drop k)) (fun _ i _=>xs.length-(intOf i).toNat)
  case atStart=>exact⟨0,0,[],cur,Nat.zero_le _,rfl,rfl,by omega,rfl,aag,by simp[val,vf,pw],Wr.refl HH.out,HS.out,by simpa using HA.out⟩
  case round=>
   obtain⟨k,c,qs,cur',hk,rfl,rfl,hcb,hql,hq,hval,hwr,hcs,hat⟩:=hrel;have HQL:=hide hql;have HQ:=hide hq;have HV:=hide hval;have HW:=hide hwr;have HC:=hide hcs;have HT:=hide hat;clear hql hq hval hwr hcs hat;by_cases hlt:k<xs.length
   ·have sx:=HW.out.sl (Nat.le_refl _) hb1 rfl hx;obtain⟨b,off,rfl,hcx⟩:=sx.cells (by omega);have cx:=hcx k (by omega);have bx:=aaf H3.out k;obtain⟨x,hxk⟩:∃x,xs.getD k 0=x:=⟨_,rfl⟩;rw[hxk]at cx bx;have hlen:(qs++(List.replicate (xs.length+1) (0:Int)).drop k).length=xs.length+1:=by have:=HQL.out;simp;omega
    have hcell:=HT.out.cell HW.out.here k (by rw[hlen];omega);rw[Nat.zero_add]at hcell;generalize (qs++(List.replicate (xs.length+1) (0:Int)).drop k).getD k 0=old at hcell;have hfree:=HW.out.free k;obtain⟨M,hM⟩:∃M,M=x*p2 s+c:=⟨_,rfl⟩;have hor:bits .or .u64 (IntKind.u64.wrap (x*2 ^ s)) c=M:=by rw[hM];exact ar3 bx.1 bx.2 hs hcb.1 hcb.2
    have hmb:=akc bx.1 bx.2 hs hcb.1 hcb.2;rw[<-hM]at hmb;have m1:=hmb.1;have m2:=hmb.2.1;have m3:=hmb.2.2.1;have HV':=hide (av0 HQL.out hxk hM HV.out);have HT':=hide (HT.out.set k (M%4294967296));have HW':=hide (HW.out.set k (.int .u32 (M%4294967296)));clear hlen sx hcx hM hmb hxk;go_wp2;go_roundw
    case rel=>exact⟨k+1,M/4294967296,qs ++ [M%4294967296],_,by omega,rfl,by go_num,by omega,by have:=HQL.out;simp;omega,aan.2 ⟨HQ.out,aai.2 ⟨by omega,aag⟩⟩,HV'.out,HW'.out,by simpa using HC.out,by rw[<-aba qs _ k _ HQL.out (by simp;omega)];simpa using HT'.out⟩
    case measure=>simp[intOf];omega
   ·have hkM:k=xs.length:=by omega
    subst hkM;have hlen:(qs++(List.replicate (xs.length+1) (0:Int)).drop xs.length).length=xs.length+1:=by have:=HQL.out;simp;omega
    have hcell:=HT.out.cell HW.out.here xs.length (by rw[hlen];omega);rw[Nat.zero_add]at hcell;have hfree:=HW.out.free xs.length;generalize hold:(qs++(List.replicate (xs.length+1) (0:Int)).drop xs.length).getD xs.length 0=old at hcell;have hat2:=HT.out.set xs.length c;rw[aba qs _ xs.length c HQL.out (by simp),List.drop_of_length_le (by simp),List.append_nil,Nat.zero_add]at hat2;have hw2:=HW.out.set xs.length (.int .u32 c);have hlr:Limb (qs ++ [c]):=aan.2 ⟨HQ.out,aai.2 ⟨by omega,aag⟩⟩;have R:=hide (And.intro hat2 (And.intro hw2 (And.intro hlr (show val (qs ++ [c])=val xs*p2 s by
     rw[abf,HQL.out,HV.out,aa9 xs _ (Nat.le_refl _)]))))
    have hbel:Below w.heap.size w (wr.setCell ⟨w.heap.size,xs.length,none⟩ (.int .u32 c)):=hb1.trans (hw2.below (Nat.le_refl _));have hc2:c<4294967296:=by omega
    clear hat2 hw2 hlr hlen hold;go_wp2;go_ret;exact⟨_,qs ++ [c],rfl,R.out.2.2.1,by have:=HQL.out;simp;omega,R.out.2.2.2,R.out.2.1.here,by simpa using HC.out,R.out.1,hbel⟩
end Lm
namespace Lm
open Go.RowKit
theorem ar4{s:Nat}(hs:s<=31):p2 s*p2 (32-s)=4294967296:=by
 rw[<-ab0,show s+(32-s)=32 by omega];decide
theorem aps{A C:Int}{s:Nat}(hs:s<=31)(hA:0<=A/\A<4294967296)(hC:0<=C):0<=(C*4294967296+A)/p2 s/\p2 s*(((C*4294967296+A)/p2 s)%4294967296)=A-A%p2 s+C%p2 s*4294967296:=by
 have hP:=abk s;have hR:=abk (32-s);have hPR:=ar4 hs;generalize p2 s=P at *
 generalize p2 (32-s)=R at *
 have e1:C*4294967296+A=A+P*(C*R):=by
  rw[<-hPR,<-Int.mul_assoc C,Int.mul_comm C P,Int.mul_assoc];omega
 have e2:(C*4294967296+A)/P=A/P+C*R:=by rw[e1,Int.add_mul_ediv_left _ _ (by omega)]
 have hq:0<=A/P:=Int.ediv_nonneg hA.1 (by omega);have hc0:0<=C%P/\C%P<P:=⟨Int.emod_nonneg _ (by omega),Int.emod_lt_of_pos _ (by omega)⟩;have ec:=Int.mul_ediv_add_emod C P;have e3:C*R=C%P*R+4294967296*(C/P):=by
  have:C*R=(P*(C/P)+C%P)*R:=by rw[ec]
  rw[this,Int.add_mul,<-hPR,Int.mul_assoc P,Int.mul_comm (C/P) R,<-Int.mul_assoc];omega
 have hCR:0<=C*R:=Int.mul_nonneg hC (by omega);have h0R:0<=C%P*R:=Int.mul_nonneg hc0.1 (by omega);have ea:=Int.mul_ediv_add_emod A P;have ham:0<=A%P:=Int.emod_nonneg _ (by omega);have hAR:A/P<R:=by
  apply Int.ediv_lt_of_lt_mul (by omega);rw[Int.mul_comm,hPR];exact hA.2
 have hlt:A/P+C%P*R<4294967296:=by
  have h1:(C%P+1)*R<=P*R:=Int.mul_le_mul_of_nonneg_right (by omega) (by omega);rw[hPR,Int.add_mul]at h1;omega
 refine⟨by rw[e2];omega,?_⟩;have e4:(A/P+C*R)%4294967296=A/P+C%P*R:=by
  rw[e3,<-Int.add_assoc,Int.add_mul_emod_self_left,Int.emod_eq_of_lt (by omega) hlt]
 rw[e2,e4,Int.mul_add,<-Int.mul_assoc,Int.mul_comm P (C%P),Int.mul_assoc,hPR];omega
theorem ar5{xs qs:List Int}{k:Nat}{P o r0 A C:Int}(hk:qs.length=k)(hA:xs.getD k 0=A)(ho:P*o=A-A%P+C%P*4294967296)(h:P*val qs+r0=vf xs k+pw k*(A%P)):P*val (qs ++ [o])+r0=vf xs (k+1)+pw (k+1)*(C%P):=by
 rw[abf,vf,hA,hk,pw,Int.mul_add];have e1:P*(pw k*o)=pw k*(P*o):=by rw[<-Int.mul_assoc,Int.mul_comm P,Int.mul_assoc]
 have e2:pw k*(P*o)=pw k*A-pw k*(A%P)+4294967296*pw k*(C%P):=by
  rw[ho,Int.mul_add,Int.mul_sub,Int.mul_comm (C%P),<-Int.mul_assoc,Int.mul_comm (pw k) 4294967296]
 omega
theorem akd(w:World)(ao:Option Addr)(n cap:Nat)(xs:List Int)(hx:Sl w (.slice ao n cap) xs)(s:Nat)(hs:s<=31)(hm:xs.length<=1000000):
  Calls Tryz.prog 190 #[.slice ao n cap,.int .u64 s] w fun e w'=>∃v,e=.returned v/\Is w.heap.size w' v (val xs/p2 s)/\Below w.heap.size w w':=by
 obtain⟨rfl,h1,h2,h3⟩:=hx.parts;obtain⟨i0,hi,hz0,hz1,hz2⟩:=info_parts abw;have H3:=hide h3;clear h3;go_enter Tryz.func190,Tryz.ntmps190
 go_wp2_with (refine wpList_make_full _ rfl (.tmp 10) (.tmp 10) 38 rfl w.heap.size 70 i0 (.int .u32 0) 1 Tryz.underlying38 hi hz0 hz1 .i64 .i64 _ _ xs.length rfl rfl (by omega) (by omega) (by rw[hz2];omega) (by unfold maxLen;omega) (Nat.le_refl _) ?hK)
 case hK=>
  intro w1 hown hgrow;obtain⟨_,cur,hh,hcs,hat⟩:=aa6 hown;have hb1:Below w.heap.size w w1:=(Below.refl w.heap.size w).grown hgrow (Nat.le_refl _) (by simp);have HH:=hide hh;have HS:=hide hcs;have HA:=hide hat;clear hown hgrow hh hcs hat;go_wp2;go_loopw [14] (fun i wr=>∃(k:Nat) (qs:List Int) (cur':Array Value),k<=xs.length/\i=.int .i64 k/\qs.length=k/\Limb qs/\p2 s*val qs+xs.getD 0 0%p2 s=vf xs k+pw k*(xs.getD k 0%p2 s)/\Wr w1 wr w.heap.size cur' 70/\cur'.size=xs.length/\At cur' .u32 0 (qs++(List.replicate xs.length 0).drop k)) (fun i _=>xs.length-(intOf i).toNat)
  case atStart=>exact⟨0,[],cur,Nat.zero_le _,rfl,rfl,aag,by simp[val,vf,pw],Wr.refl HH.out,HS.out,by simpa using HA.out⟩
  case round=>
   obtain⟨k,qs,cur',hk,rfl,hql,hq,hval,hwr,hcs,hat⟩:=hrel;have HQL:=hide hql;have HQ:=hide hq;have HV:=hide hval;have HW:=hide hwr;have HC:=hide hcs;have HT:=hide hat;clear hql hq hval hwr hcs hat;by_cases hlt:k<xs.length
   ·have sx:=HW.out.sl (Nat.le_refl _) hb1 rfl hx;obtain⟨b,off,rfl,hcx⟩:=sx.cells (by omega);have cx:=hcx k (by omega);have bx:=aaf H3.out k;have by':=aaf H3.out (k+1);have kl:Hid (Calls Tryz.prog 178 #[.slice (some ⟨b,off,none⟩) xs.length cap,.int .i64 ((k:Int)+1)] wr fun e w'=>e=.returned (.int .u32 (xs.getD (k+1) 0))/\w'=wr):=by
     have h9:=agz wr _ xs sx ((k:Int)+1) (by omega);rwa[show((k:Int)+1).toNat=k+1 by omega]at h9
    have HVn:=hide (fun o ho=>ar5 (o:=o) (C:=xs.getD (k+1) 0) HQL.out rfl ho HV.out);generalize hCe:xs.getD (k+1) 0=C at by' kl HVn;have HCE:=hide hCe;clear hCe;generalize xs.getD k 0=A at cx bx HVn;have hdl:=aps hs bx by'.1;have hor:=adq C A by'.1 by'.2 bx.1 bx.2;have hlen:(qs++(List.replicate xs.length (0:Int)).drop k).length=xs.length:=by have:=HQL.out;simp;omega
    have hcell:=HT.out.cell HW.out.here k (by rw[hlen];omega);rw[Nat.zero_add]at hcell;generalize (qs++(List.replicate xs.length (0:Int)).drop k).getD k 0=old at hcell;have hfree:=HW.out.free k;obtain⟨M,hM⟩:∃M,M=C*4294967296+A:=⟨_,rfl⟩;rw[<-hM]at hor hdl;have hM0:0<=M:=by omega
    have hM1:M<18446744073709551616:=by omega
    have hpw:=aka s;have HVf:=hide (HVn.out _ hdl.2);have hd0:=hdl.1;have HT':=hide (HT.out.set k (M/p2 s%4294967296));have HW':=hide (HW.out.set k (.int .u32 (M/p2 s%4294967296)));have hp1:=abk s;clear hlen sx hcx hM hdl HVn;go_wp2_with fail
    refine(kl.out).mono ?_;rintro e w2 ⟨rfl,rfl⟩;go_wp2;go_roundw
    case rel=>exact⟨k+1,qs ++ [M/p2 s%4294967296],_,by omega,by go_num,by have:=HQL.out;simp;omega,aan.2 ⟨HQ.out,aai.2 ⟨by omega,aag⟩⟩,by rw[HCE.out];exact HVf.out,HW'.out,by simpa using HC.out,by rw[<-aba qs _ k _ HQL.out (by simp;omega)];simpa using HT'.out⟩
    case measure=>simp[intOf];omega
   ·have hkM:k=xs.length:=by omega
    subst hkM;have hat2:=HT.out;rw[List.drop_of_length_le (by simp),List.append_nil]at hat2;have how:Ow w.heap.size wr (.slice (some ⟨w.heap.size,0,none⟩) xs.length xs.length) qs:=by
     have:=HQL.out;exact⟨_,xs.length,by rw[this],by omega,by unfold maxLen;omega,HQ.out,.inr ⟨_,0,_,rfl,Nat.le_refl _,HW.out.here,by rw[HC.out];omega,hat2⟩⟩
    have hbel:Below w.heap.size w wr:=hb1.trans (HW.out.below (Nat.le_refl _));have his:=how.is_cut (x:=val xs/p2 s) (by
     have hv:=HV.out;have hz:xs.getD xs.length 0=0:=by rw[List.getD_eq_getElem?_getD,List.getElem?_eq_none (Nat.le_refl _)];rfl
     rw[hz,Int.zero_emod,Int.mul_zero,Int.add_zero,aa9 xs _ (Nat.le_refl _)]at hv;have hp1:=abk s;have hr:=Int.emod_lt_of_pos (xs.getD 0 0) (show 0<p2 s by omega);have hr0:=Int.emod_nonneg (xs.getD 0 0) (show p2 s≠0 by omega);have:=ad0 (a:=val xs) (b:=p2 s) (q:=val qs) (by omega) (by rw[<-hv,Int.mul_comm]) hr0 hr
     exact this.1.symm)
    clear hat2;go_wp2_with fail
    refine(aal _ _ _ _ _ how.sl).mono ?_;rintro e w2 ⟨rfl,rfl⟩;go_wp2;go_ret;exact⟨_,rfl,his,hbel⟩
end Lm
namespace Lm
open Go.RowKit
theorem alf{v1 v2 u2 U g r:Int}(h2:0<=v2)(h3:u2<4294967296)(hg:U=g*v1+r)(hr:r<v1)(hg0:0<=g):U*4294967296+u2<(g+1)*(v1*4294967296+v2):=by
 have e1:(g+1)*(v1*4294967296+v2)=(g*v1+v1)*4294967296+(g+1)*v2:=by
  rw[Int.mul_add,<-Int.mul_assoc,Int.add_mul,Int.one_mul]
 have e2:0<=(g+1)*v2:=Int.mul_nonneg (by omega) h2;rw[e1];omega
theorem ake{v1 v2 u2 U g r:Int}(hg:g*v1+r=U)(h:g*v2<=r*4294967296+u2):g*(v1*4294967296+v2)<=U*4294967296+u2:=by
 rw[Int.mul_add,<-Int.mul_assoc,<-hg];omega
theorem ar6{v1 v2 u2 U g r:Int}(hg:g*v1+r=U)(h:r*4294967296+u2<g*v2):U*4294967296+u2<g*(v1*4294967296+v2):=by
 rw[Int.mul_add,<-Int.mul_assoc,<-hg];omega
theorem agr{v1 v2 u2 U g r:Int}(hv:0<=v2/\v2<4294967296)(hu:0<=u2)(hg:g*v1+r=U)(hr:4294967296<=r)(hg0:0<=g)(hg1:g<4294967296):g*(v1*4294967296+v2)<=U*4294967296+u2:=by
 apply ake hg;have h1:g*v2<=4294967295*v2:=Int.mul_le_mul_of_nonneg_right (by omega) hv.1;omega
theorem apu{v1 U g r:Int}(hv:2147483648<=v1)(hU:U<=v1*4294967296+4294967295)(hg:g*v1+r=U)(_hr:0<=r)(hb:4294967296<=r+v1):g<=4294967296:=by
 apply Classical.byContradiction;intro hn;have h1:4294967297*v1<=g*v1:=Int.mul_le_mul_of_nonneg_right (by omega) (by omega);omega
theorem apv{v1 U g r:Int}(hv:2147483648<=v1)(hU:U<=v1*4294967296+4294967295)(hg:g*v1+r=U)(hr:0<=r):g<=4294967297:=by
 apply Classical.byContradiction;intro hn;have h1:4294967298*v1<=g*v1:=Int.mul_le_mul_of_nonneg_right (by omega) (by omega);omega
theorem apw(w:World)(a1 a2:Option Addr)(n c1 c2:Nat)(ps Y:List Int)(hp:Sl w (.slice a1 (n+2+1) c1) ps)(hy:Sl w (.slice a2 (n+2) c2) Y)
  (htop:2147483648<=Y.getD (n+1) 0) (hu:ps.getD (n+2) 0<=Y.getD (n+1) 0) :
  Calls Tryz.prog 187 #[.slice a1 (n+2+1) c1,.slice a2 (n+2) c2] w fun e w'=>∃g:Int,e=.returned (.int .u32 g)/\(0<=g/\g<4294967296)/\g*(Y.getD (n+1) 0*4294967296+Y.getD n 0)<=(ps.getD (n+2) 0*4294967296+ps.getD (n+1) 0)*4294967296+ps.getD n 0/\(4294967296<=g+1\/(ps.getD (n+2) 0*4294967296+ps.getD (n+1) 0)*4294967296+ps.getD n 0<(g+1)*(Y.getD (n+1) 0*4294967296+Y.getD n 0))/\∃q,w'=w.drewN q:=by
 obtain⟨hpl,p1,p2,p3⟩:=hp.parts;obtain⟨hyl,y1,y2,y3⟩:=hy.parts;obtain⟨b,off,rfl,hc⟩:=hp.cells (by omega);obtain⟨b',off',rfl,hc'⟩:=hy.cells (by omega);have f0:=hc (n+2) (by omega);have f1:=hc (n+1) (by omega);have f2:=hc n (by omega);have e1:=hc' (n+1) (by omega);have e2:=hc' n (by omega);have bu0:=aaf p3 (n+2);have bu1:=aaf p3 (n+1);have bu2:=aaf p3 n;have bv1:=aaf y3 (n+1);have bv2:=aaf y3 n;generalize ps.getD (n+2) 0=u0 at *
 generalize ps.getD (n+1) 0=u1 at *
 generalize ps.getD n 0=u2 at *
 generalize Y.getD (n+1) 0=v1 at *
 generalize Y.getD n 0=v2 at *
 have hN:n+3<=9223372036854775807:=by omega
 have hor1:=adq u0 u1 bu0.1 bu0.2 bu1.1 bu1.2;obtain⟨U,hU⟩:∃U,U=u0*4294967296+u1:=⟨_,rfl⟩;rw[<-hU]at hor1 ⊢;have hU0:0<=U:=by omega
 have hUb:U<18446744073709551616:=by omega
 have hUm:U<=v1*4294967296+4294967295:=by omega
 have HU:=hide hU;clear hc hc' p3 y3 hpl hyl hU;go_enter Tryz.func187,Tryz.ntmps187
 go_wp2;go_quiet (fail)
 go_wp2;replace f0:(w.drewN nq).cell? _=_:=f0;replace f1:(w.drewN nq).cell? _=_:=f1;replace f2:(w.drewN nq).cell? _=_:=f2;replace e1:(w.drewN nq).cell? _=_:=e1;replace e2:(w.drewN nq).cell? _=_:=e2;generalize hwq:w.drewN nq=wq at f0 f1 f2 e1 e2 ⊢;have HQ:Hid (∃q,wq=w.drewN q):=⟨_,hwq.symm⟩;clear hwq;go_quiet (fail)
 go_wp2;replace f2:(wq.drewN nq).cell? _=_:=f2;replace HQ:Hid (∃q,wq.drewN nq=w.drewN q):=by
  obtain⟨q,hq⟩:=HQ.out;exact⟨q+nq,by rw[hq];simp[World.drewN];omega⟩
 generalize wq.drewN nq=wz at f2 HQ ⊢;have hv0:0<v1:=by omega
 have hq0:0<=U/v1:=Int.ediv_nonneg hU0 (by omega);have hqm:=Int.mul_ediv_add_emod U v1;have hr0:=Int.emod_nonneg U (show v1≠0 by omega);have hr1:=Int.emod_lt_of_pos U hv0;have hq1:U/v1<=4294967297:=apv htop hUm (by rw[Int.mul_comm];exact hqm) hr0;have t1:U.tdiv v1=U/v1:=Int.tdiv_eq_ediv_of_nonneg hU0;have t2:IntKind.u64.wrap (U/v1)=U/v1:=by rw[IntKind.wrap_u64];exact Int.emod_eq_of_lt hq0 (by omega)
 have t3:U.tmod v1=U%v1:=Int.tmod_eq_emod_of_nonneg hU0;have HQM:=hide hqm;clear hqm;go_quiet (fail)
 go_wp2;replace f2:(wz.drewN nq).cell? _=_:=f2;replace HQ:Hid (∃q,wz.drewN nq=w.drewN q):=by
  obtain⟨q,hq⟩:=HQ.out;exact⟨q+nq,by rw[hq];simp[World.drewN];omega⟩
 generalize wz.drewN nq=wl at f2 HQ ⊢;go_loop [9,10] (fun gv rv=>∃gu rs:Int,gv=.int .u64 gu/\rv=.int .u64 rs/\0<=gu/\gu<=4294967297/\0<=rs/\rs<4294967296/\gu*v1+rs=U/\(4294967296<=gu+1\/U*4294967296+u2<(gu+1)*(v1*4294967296+v2))) (fun gv _=>(intOf gv).toNat)
 case atStart=>exact⟨U/v1,U%v1,rfl,rfl,hq0,hq1,hr0,by omega,by rw[Int.mul_comm];exact HQM.out,.inr (alf bv2.1 bu2.2 (by rw[Int.mul_comm];exact HQM.out.symm) hr1 hq0)⟩
 case round=>
  obtain⟨gu,rs,rfl,rfl,hg0,hg1,hs0,hs1,hgs,hgb⟩:=hrel;have HGS:=hide hgs;have HGB:=hide hgb;have hor2:=adq rs u2 hs0 hs1 bu2.1 bu2.2;clear hgs hgb t1 t2 t3 hor1;by_cases hbig:4294967296<=gu
  ·have hne:(gu/4294967296 != 0)=true:=by rw[bne_iff_ne];omega
   have HN:Hid ((gu-1)*v1+(rs+v1)=U):=by have h9:=HGS.out;show _=_;rw[Int.sub_mul];omega
   by_cases hbr:4294967296<=rs+v1
   ·have hne2:((rs+v1)/4294967296 != 0)=true:=by rw[bne_iff_ne];omega
    have hgl:=apu htop hUm HGS.out hs0 hbr;have HF:=hide (agr bv2 bu2.1 HN.out hbr (by omega) (by omega));go_wp2;go_ret;exact⟨gu-1,rfl,by omega,HF.out,.inl (by omega),HQ.out⟩
   ·have hne2:((rs+v1)/4294967296 != 0)=false:=by rw[bne_eq_false_iff_eq];omega
    go_wp2;go_round
    case rel=>exact⟨gu-1,rs+v1,rfl,rfl,by omega,by omega,by omega,by omega,HN.out,.inl (by omega)⟩
    case measure=>simp[intOf];omega
  ·have hne:(gu/4294967296 != 0)=false:=by rw[bne_eq_false_iff_eq];omega
   have hmb:=afo (show 0<=gu/\gu<4294967296 by omega) bv2;by_cases hgt:rs*4294967296+u2<gu*v2
   ·have hd:decide (rs*4294967296+u2<gu*v2)=true:=decide_eq_true hgt;have hgu1:1<=gu:=by
     apply Classical.byContradiction;intro hn;have h0:gu=0:=by omega
     rw[h0,Int.zero_mul]at hgt;omega
    have HN:Hid ((gu-1)*v1+(rs+v1)=U):=by have h9:=HGS.out;show _=_;rw[Int.sub_mul];omega
    have HB2:=hide (ar6 HGS.out hgt);by_cases hbr:4294967296<=rs+v1
    ·have hne2:((rs+v1)/4294967296 != 0)=true:=by rw[bne_iff_ne];omega
     have HF:=hide (agr bv2 bu2.1 HN.out hbr (by omega) (by omega));go_wp2;go_ret;exact⟨gu-1,rfl,by omega,HF.out,.inr (by rw[Int.sub_add_cancel];exact HB2.out),HQ.out⟩
    ·have hne2:((rs+v1)/4294967296 != 0)=false:=by rw[bne_eq_false_iff_eq];omega
     go_wp2;go_round
     case rel=>exact⟨gu-1,rs+v1,rfl,rfl,by omega,by omega,by omega,by omega,HN.out,.inr (by rw[Int.sub_add_cancel];exact HB2.out)⟩
     case measure=>simp[intOf];omega
   ·have hd:decide (rs*4294967296+u2<gu*v2)=false:=decide_eq_false hgt;have HF:=hide (ake HGS.out (show gu*v2<=rs*4294967296+u2 by omega));go_wp2;go_ret;exact⟨gu,rfl,by omega,HF.out,HGB.out,HQ.out⟩
theorem ac9{zs:List Int}{n:Nat}(hl:zs.length=n+1):val zs=val (zs.take n)+pw n*zs.getD n 0:=by
 have e1:zs=zs.take n ++ [zs.getD n 0]:=by
  rw[<-aa3 zs n (by omega),List.take_of_length_le (by omega)]
 have e2:=aa8 (zs.take n) [zs.getD n 0];rw[<-e1,List.length_take,Nat.min_eq_left (by omega)]at e2;rw[e2];simp[val]
theorem akf{zs:List Int}{n:Nat}(hl:zs.length=n+2):val zs=val (zs.take n)+pw n*(zs.getD (n+1) 0*4294967296+zs.getD n 0):=by
 rw[ac9 (n:=n+1) hl,ac9 (zs:=zs.take (n+1)) (n:=n) (by rw[List.length_take];omega),List.take_take,Nat.min_eq_left (by omega)];have e:(zs.take (n+1)).getD n 0=zs.getD n 0:=by
  rw[List.getD_eq_getElem?_getD,List.getD_eq_getElem?_getD,List.getElem?_take,if_pos (by omega)]
 rw[e,pw,Int.mul_add,Int.mul_comm (zs.getD (n+1) 0) 4294967296,<-Int.mul_assoc,Int.mul_comm (pw n) 4294967296];omega
theorem ar7{zs:List Int}{n:Nat}(hl:zs.length=n+3):val zs=val (zs.take n)+pw n*((zs.getD (n+2) 0*4294967296+zs.getD (n+1) 0)*4294967296+zs.getD n 0):=by
 rw[ac9 (n:=n+2) hl,akf (zs:=zs.take (n+2)) (n:=n) (by rw[List.length_take];omega),List.take_take,Nat.min_eq_left (by omega)];have e:∀i,i<n+2->(zs.take (n+2)).getD i 0=zs.getD i 0:=by
  intro i hi;rw[List.getD_eq_getElem?_getD,List.getD_eq_getElem?_getD,List.getElem?_take,if_pos hi]
 rw[e (n+1) (by omega),e n (by omega)];have e2:pw (n+2)=pw n*(4294967296*4294967296):=by
  simp only[pw];rw[Int.mul_comm (pw n),Int.mul_assoc]
 have e3:pw n*((zs.getD (n+2) 0*4294967296+zs.getD (n+1) 0)*4294967296+zs.getD n 0)=pw n*(4294967296*4294967296)*zs.getD (n+2) 0+pw n*(zs.getD (n+1) 0*4294967296+zs.getD n 0):=by
  rw[Int.mul_assoc,<-Int.mul_add];congr 1;omega
 rw[e2,e3];omega
theorem av1{W Y:List Int}{n:Nat}(hW:Limb W)(hY:Limb Y)(h1:W.length=n+1)(h2:Y.length=n+1)(h:val W<val Y):W.getD n 0<=Y.getD n 0:=by
 apply Classical.byContradiction;intro hn;rw[ac9 h1,ac9 h2]at h;have b1:=aab (aak hW n);have b2:=aab (aak hY n);rw[List.length_take,Nat.min_eq_left (by omega)]at b1 b2;have hp:=aay n;have e:pw n*(Y.getD n 0+1)<=pw n*W.getD n 0:=Int.mul_le_mul_of_nonneg_left (by omega) (by omega);rw[Int.mul_add]at e;omega
theorem anq{ps Y:List Int}{n:Nat}{g P U:Int}(hp:Limb ps)(hy:Limb Y)(h1:ps.length=n+3)(h2:Y.length=n+2)(hP:val ps=P)(hU:val Y=U)(htop:1<=Y.getD (n+1) 0)(hlt:P<4294967296*U)(hg:0<=g/\g<4294967296)
  (hA:g*(Y.getD (n+1) 0*4294967296+Y.getD n 0)<=(ps.getD (n+2) 0*4294967296+ps.getD (n+1) 0)*4294967296+ps.getD n 0)
  (hB:4294967296<=g+1\/(ps.getD (n+2) 0*4294967296+ps.getD (n+1) 0)*4294967296+ps.getD n 0<(g+1)*(Y.getD (n+1) 0*4294967296+Y.getD n 0)) :
  P<(g+1)*U/\(g-1)*U<=P:=by
 have eP:=ar7 h1;have eU:=akf h2;have bP:=aab (aak hp n);have bU:=aab (aak hy n);rw[List.length_take,Nat.min_eq_left (by omega)]at bP bU;rw[hP]at eP;rw[hU]at eU;have hv2:=(aaf hy n).1;generalize (ps.getD (n+2) 0*4294967296+ps.getD (n+1) 0)*4294967296+ps.getD n 0=P3 at *
 have hU2:4294967296<=Y.getD (n+1) 0*4294967296+Y.getD n 0:=by omega
 generalize Y.getD (n+1) 0*4294967296+Y.getD n 0=U2 at *
 generalize val (ps.take n)=Pl at *
 generalize val (Y.take n)=Ul at *
 have hp1:=aay n;have hUp:4294967296*pw n<=pw n*U2:=by
  have:pw n*4294967296<=pw n*U2:=Int.mul_le_mul_of_nonneg_left hU2 (by omega);omega
 constructor
 ·rcases hB with hB|hB
  ·have:4294967296*U<=(g+1)*U:=Int.mul_le_mul_of_nonneg_right (by omega) (by omega);omega
  ·have e1:pw n*(P3+1)<=pw n*((g+1)*U2):=Int.mul_le_mul_of_nonneg_left (by omega) (by omega);have e2:(g+1)*U=(g+1)*Ul+pw n*((g+1)*U2):=by
    rw[eU,Int.mul_add,<-Int.mul_assoc (g+1) (pw n),Int.mul_comm (g+1) (pw n),Int.mul_assoc]
   have e3:0<=(g+1)*Ul:=Int.mul_nonneg (by omega) bU.1;rw[Int.mul_add]at e1;omega
 ·have e1:pw n*(g*U2)<=pw n*P3:=Int.mul_le_mul_of_nonneg_left hA (by omega);have e2:g*U=g*Ul+pw n*(g*U2):=by
   rw[eU,Int.mul_add,<-Int.mul_assoc g (pw n),Int.mul_comm g (pw n),Int.mul_assoc]
  have e3:g*Ul<=4294967295*Ul:=Int.mul_le_mul_of_nonneg_right (by omega) bU.1;rw[Int.sub_mul];omega
theorem ai3{P U g A b p A2 c:Int}(_hU:0<U)(_hp:U<p)(hlow:P<(g+1)*U)(hhigh:(g-1)*U<=P)(hA:0<=A/\A<p)(_hb:0<=b/\b<=1)(h:A-p*b=P-g*U):
  (b=0->0<=A/\A<U/\P=g*U+A)/\(b=1->0<=A2/\A2<p->0<=c/\c<=1->A2+p*c=A+U->0<=A2/\A2<U/\P=(g-1)*U+A2):=by
 rw[Int.add_mul]at hlow;rw[Int.sub_mul]at hhigh ⊢;constructor
 ·intro hb0;rw[hb0,Int.mul_zero]at h;omega
 ·intro hb1 hA2 hc hs;rw[hb1,Int.mul_one]at h;have hc01:c=0\/c=1:=by omega
  rcases hc01 with hc0|hc0
  ·rw[hc0,Int.mul_zero]at hs;omega
  ·rw[hc0,Int.mul_one]at hs;omega
theorem aul{W:List Int}{x U:Int}(hx:x<4294967296)(h:val W<U):val (x::W)<4294967296*U:=by
 rw[val];omega
theorem apx{lo W W' Q:List Int}{x q U T:Int}(hinv:val (lo ++ [x])+pw (lo.length+1)*val W+U*(pw (lo.length+1)*val Q)=T)(hp:val (x::W)=q*U+val W'):
  val lo+pw lo.length*val W'+U*(pw lo.length*val (q::Q))=T:=by
 rw[aa8]at hinv;have e1:val [x]=x:=by simp[val]
 rw[e1]at hinv;rw[val]at hp ⊢;rw[pw]at hinv;generalize pw lo.length=p at *
 have e2:p*(x+4294967296*val W)=p*(q*U+val W'):=by rw[hp]
 have e3:4294967296*p*val W=p*(4294967296*val W):=by rw[Int.mul_comm 4294967296 p,Int.mul_assoc]
 have e4:U*(p*(q+4294967296*val Q))=p*(q*U)+U*(4294967296*p*val Q):=by
  rw[Int.mul_add,Int.mul_add,Int.mul_comm 4294967296 p,Int.mul_assoc p 4294967296,<-Int.mul_assoc U p q,Int.mul_comm U p,Int.mul_assoc p U q,Int.mul_comm U q]
 rw[Int.mul_add,Int.mul_add]at e2;omega
theorem akg{W:List Int}{n:Nat}(hW:Limb W)(hl:W.length=n+1)(h:val W<pw n):val (W.take n)=val W/\W.getD n 0=0:=by
 have e:=ac9 hl;have b:=aab (aak hW n);have h0:=(aaf hW n).1;have hp:=aay n;have hz:W.getD n 0=0:=by
  apply Classical.byContradiction;intro hn;have:pw n*1<=pw n*W.getD n 0:=Int.mul_le_mul_of_nonneg_left (by omega) (by omega);omega
 rw[hz,Int.mul_zero]at e;exact⟨by omega,hz⟩
end Lm
namespace Lm
open Go.RowKit
structure Wr2 (w w':World) (g h:Nat) (c d:Array Value) (e:TypeId):Prop where
 os:w'.os=w.os
 tape:w'.tape=w.tape
 output:w'.output=w.output
 size:w'.heap.size=w.heap.size
 here:w'.heap[g]? = some (.cells c e (0,0))
 there:w'.heap[h]? = some (.cells d e (0,0))
 other:∀k,k≠g->k≠h->w'.heap[k]? = w.heap[k]?
theorem Wr2.left{w w' w'':World}{g h:Nat}{c d c':Array Value}{e:TypeId}(H:Wr2 w w' g h c d e)(hn:h≠g)(K:Wr w' w'' g c' e):Wr2 w w'' g h c' d e:=
 ⟨K.os.trans H.os,K.tape.trans H.tape,K.output.trans H.output,K.size.trans H.size,K.here,(K.other h hn).trans H.there,fun k h1 h2=>(K.other k h1).trans (H.other k h1 h2)⟩
theorem Wr2.right{w w' w'':World}{g h:Nat}{c d d':Array Value}{e:TypeId}(H:Wr2 w w' g h c d e)(hn:g≠h)(K:Wr w' w'' h d' e):Wr2 w w'' g h c d' e:=
 ⟨K.os.trans H.os,K.tape.trans H.tape,K.output.trans H.output,K.size.trans H.size,(K.other g hn).trans H.here,K.here,fun k h1 h2=>(K.other k h2).trans (H.other k h1 h2)⟩
theorem Wr2.drewN{w w':World}{g h:Nat}{c d:Array Value}{e:TypeId}(H:Wr2 w w' g h c d e)(n:Nat):Wr2 w (w'.drewN n) g h c d e:=⟨H.os,H.tape,H.output,H.size,H.here,H.there,H.other⟩
theorem Wr2.below{w w':World}{g h:Nat}{c d:Array Value}{e:TypeId}(H:Wr2 w w' g h c d e){B:Nat}(h1:B<=g)(h2:B<=h):Below B w w':=
 ⟨H.os,H.tape,H.output,by rw[H.size];exact Nat.le_refl _,fun k hk=>H.other k (by omega) (by omega)⟩
theorem ag6{w:World}{g o n cap:Nat}{cur:Array Value}{zs:List Int}(hh:w.heap[g]? = some (.cells cur 70 (0,0)))(ha:At cur .u32 o zs)(hz:Limb zs)(hl:zs.length=n)(h1:n<=cap)(h2:cap<=maxLen):Sl w (.slice (some ⟨g,o,none⟩) n cap) zs:=
 ⟨_,cap,by rw[hl],by omega,h2,hz,.inr ⟨g,o,rfl,fun i hi=>ha.cell hh i hi⟩⟩
theorem At.take{cur:Array Value}{k:IntKind}{o:Nat}{zs:List Int}(h:At cur k o zs)(n:Nat):At cur k o (zs.take n):=by
 intro i hi;rw[List.length_take]at hi;rw[h i (by omega),List.getD_eq_getElem?_getD,List.getD_eq_getElem?_getD,List.getElem?_take,if_pos (by omega)]
structure Dv (w3 wr:World) (A q N m n:Nat) (U T:Int) (k:Nat) (lo W rest Q:List Int) (cur d:Array Value):Prop where
 two:Wr2 w3 wr A q cur d 70
 csz:cur.size=N+1
 dsz:d.size=m
 atc:At cur .u32 0 (lo++W++rest)
 atd:At d .u32 0 (List.replicate k 0++Q)
 lol:lo.length=k
 wl:W.length=n+2
 ql:k+Q.length=m
 lil:Limb lo
 liW:Limb W
 liQ:Limb Q
 low:val W<U
 inv:val lo+pw k*val W+U*(pw k*val Q)=T
theorem anr{lo:List Int}{k:Nat}(h:lo.length=k+1):∃lo' x,lo=lo' ++ [x]/\lo'.length=k:=
 ⟨lo.take k,lo.getD k 0,by rw[<-aa3 lo k (by omega),List.take_of_length_le (by omega)],by rw[List.length_take];omega⟩
theorem Dv.mid{w3 wr:World}{A q N m n:Nat}{U T:Int}{k:Nat}{lo W rest Q:List Int}{x:Int}{cur d:Array Value}(D:Dv w3 wr A q N m n U T (k+1) (lo ++ [x]) W rest Q cur d)(hl:lo.length=k):At cur .u32 k (x::W)/\Limb (x::W):=by
 have h1:=D.atc;rw[show lo ++ [x]++W++rest=lo++(x::W)++rest by simp]at h1;have h2:=ajw h1;rw[hl]at h2;have h3:=D.lil;rw[aan]at h3;exact⟨h2,aai.2 ⟨(aai.1 h3.2).1,D.liW⟩⟩
theorem apy(k:Nat)(Q:List Int)(g:Int):(List.replicate (k+1) (0:Int)++Q).set k g=List.replicate k 0++g::Q:=by
 have h:=agx (List.replicate (k+1) (0:Int)) Q k g (by simp);rw[List.take_of_length_le (by simp),List.take_replicate,Nat.min_eq_left (by omega)]at h;exact h
theorem Dv.step{w3 wr w5:World}{A q N m n:Nat}{U T:Int}{k:Nat}{lo W rest Q qs:List Int}{x g:Int}{cur d cur':Array Value}(D:Dv w3 wr A q N m n U T (k+1) (lo ++ [x]) W rest Q cur d)(hl:lo.length=k)(hn:A≠q)
  (two:Wr2 w3 w5 A q cur' d 70) (hcs:cur'.size=cur.size) (hat:At cur' .u32 k qs) (hout:∀i,i<k\/k+(n+2+1)<=i->cur'[i]? = cur[i]?) (hq:Limb qs) (hql:qs.length=n+2+1) (hU:U<=pw (n+2)) (hlt:val qs<U) (hv:val (x::W)=g*U+val qs) (hg:0<=g/\g<4294967296) :
  Dv w3 (w5.setCell ⟨q,k,none⟩ (.int .u32 g)) A q N m n U T k lo (qs.take (n+2)) (qs.drop (n+2)++rest) (g::Q) cur' (d.setIfInBounds k (.int .u32 g)):=by
 have htz:=akg hq hql (by omega);have h3:=D.lil;rw[aan]at h3;have hinv:=D.inv;rw[<-hl]at hinv;have hat1:At cur .u32 0 (lo++(x::W)++rest):=by
  have:=D.atc;rwa[show lo ++ [x]++W++rest=lo++(x::W)++rest by simp]at this
 have hat2:=aix hat1 (by rw[hl];exact hat) (by have:=D.wl;simp;omega) (by
  have e:(x::W).length=n+2+1:=by have:=D.wl;simp;omega
  rw[hl,e];exact hout)
 refine⟨two.right hn ((Wr.refl two.there).set k _),by rw[hcs];exact D.csz,by simpa using D.dsz,?_,?_,hl,by rw[List.length_take];omega,by have:=D.ql;simp;omega,h3.1,aak hq _,aai.2 ⟨hg,D.liQ⟩,by rw[htz.1];exact hlt,?_⟩
 ·rw[List.append_assoc,<-List.append_assoc (qs.take (n+2)),List.take_append_drop,<-List.append_assoc];exact hat2
 ·rw[<-apy];have:=D.atd.set k g;rwa[Nat.zero_add]at this
 ·rw[htz.1];have:=apx (W':=qs) (q:=g) hinv hv;rwa[hl]at this
theorem ans{O:List Int}{m n:Nat}{P:Int}(hO:Limb O)(hm:m<=O.length)(hv:val O<pw m*(pw (n+1)*P)):val (O.drop m)<pw (n+1)*P:=by
 have h1:=aa8 (O.take m) (O.drop m);rw[List.take_append_drop,List.length_take,Nat.min_eq_left hm]at h1;have h2:=(aab (aak hO m)).1;apply Classical.byContradiction;intro hn;have h3:pw m*(pw (n+1)*P)<=pw m*val (O.drop m):=Int.mul_le_mul_of_nonneg_left (by omega) (by have:=aay m;omega);omega
theorem ar8{X Y Q W P:Int}(hP:0<P)(hY:0<Y)(h:W+Y*P*Q=X*P)(h0:0<=W)(h1:W<Y*P):X/Y=Q/\X%Y=W/P:=by
 have e1:W=(X-Q*Y)*P:=by
  have:Y*P*Q=Q*Y*P:=by rw[Int.mul_comm (Y*P),Int.mul_assoc]
  rw[Int.sub_mul];omega
 have e2:W/P=X-Q*Y:=by rw[e1];exact Int.mul_ediv_cancel _ (by omega)
 rw[e2];obtain⟨R,hR⟩:∃R,R=X-Q*Y:=⟨_,rfl⟩;rw[<-hR]at e1 ⊢;have hR0:0<=R:=by
  apply Classical.byContradiction;intro hn;have:R*P<=-1*P:=Int.mul_le_mul_of_nonneg_right (by omega) (by omega);omega
 have hR1:R<Y:=by
  apply Classical.byContradiction;intro hn;have:Y*P<=R*P:=Int.mul_le_mul_of_nonneg_right (by omega) (by omega);omega
 exact ad0 hY (by omega) hR0 hR1
theorem ar9{v:Int}{n l s:Nat}(hb:IsBits v (32*(n+1)+l))(hl:0<l)(hs:s+l=32):v*p2 s<pw (n+2)/\pw (n+1)*2147483648<=v*p2 s:=by
 have hp:=abk s;obtain⟨h1,h2⟩:=hb;have h3:p2 (32*(n+1)+l-1)<=v:=by rcases h2 with h0|h0 <;> omega
 constructor
 ·have:v*p2 s<p2 (32*(n+1)+l)*p2 s:=Int.mul_lt_mul_of_pos_right h1 (by omega);rw[<-ab0,show 32*(n+1)+l+s=32*(n+2) by omega,<-adl]at this;exact this
 ·have:p2 (32*(n+1)+l-1)*p2 s<=v*p2 s:=Int.mul_le_mul_of_nonneg_right h3 (by omega);rw[<-ab0,show 32*(n+1)+l-1+s=32*(n+1)+31 by omega,ab0,<-adl,show p2 31=2147483648 from by decide]at this;exact this
theorem asa{Y:List Int}{n:Nat}(hY:Limb Y)(hl:Y.length=n+2)(h:pw (n+1)*2147483648<=val Y):2147483648<=Y.getD (n+1) 0:=by
 have e:=ac9 (n:=n+1) hl;have b:=aab (aak hY (n+1));rw[List.length_take,Nat.min_eq_left (by omega)]at b;apply Classical.byContradiction;intro hn;have:pw (n+1)*(Y.getD (n+1) 0+1)<=pw (n+1)*2147483648:=Int.mul_le_mul_of_nonneg_left (by omega) (by have:=aay (n+1);omega);rw[Int.mul_add]at this;omega
end Lm
namespace Lm
open Go.RowKit
theorem aii(w:World)(a1 a2:Option Addr)(n1 n2 c1 c2:Nat)(xs ys:List Int)(hx:Sl w (.slice a1 n1 c1) xs)(hy:Sl w (.slice a2 n2 c2) ys)(hm1:xs.length<=500000)(h2:2<=ys.length)(hle:ys.length<=xs.length)(hcan:Canon ys):
  Calls Tryz.prog 177 #[.slice a1 n1 c1,.slice a2 n2 c2] w fun e w'=>∃v1 v2,e=.returned (.tuple #[v1,v2])/\Is w.heap.size w' v1 (val xs/val ys)/\Is w.heap.size w' v2 (val xs%val ys)/\Sep v1 v2/\Below w.heap.size w w':=by
 obtain⟨rfl,x1,x2,x3⟩:=hx.parts;obtain⟨hyl,y1,y2,y3⟩:=hy.parts;obtain⟨n,hn⟩:∃n,ys.length=n+2:=⟨ys.length-2,by omega⟩;have e2:n2=n+2:=by omega
 subst e2;obtain⟨b,off,rfl,hc⟩:=hy.cells (by omega);have hcell:=hc (n+1) (by omega);have hlb:=aaf y3 (n+1);have hpos:0<ys.getD (n+1) 0:=by
  have:ys.getD (n+1) 0≠0:=fun h0=>by
   have:=acn (zs:=ys) (n:=n+1) (by have:=aat ys;omega) h0;have:=hcan.2;omega
  omega
 have hbits:=ago (ys.getD (n+1) 0).toNat (by omega);rw[Int.toNat_of_nonneg hlb.1]at hbits;have hl32:Lib.bitLen (ys.getD (n+1) 0).toNat<=32:=Lib.bitLen_le _ 32 (by omega) (by omega);have hl0:=ae1 hbits hpos;obtain⟨s,hs⟩:∃s:Nat,s+Lib.bitLen (ys.getD (n+1) 0).toNat=32:=⟨32-Lib.bitLen (ys.getD (n+1) 0).toNat,by omega⟩;have NV:=hide (ar9 (ajt hcan hn hbits hpos) hl0 hs);have kl:Hid (∀w:World,Calls Tryz.prog 185 #[.int .u32 (ys.getD (n+1) 0)] w fun e w'=>e=.returned (.int .i64 (s:Nat))/\w'=w):=by
  intro w;have h9:=ar2 (ys.getD (n+1) 0) w hlb.1 hlb.2;rwa[show(32-((Lib.bitLen (ys.getD (n+1) 0).toNat:Nat):Int))=(s:Nat) by omega]at h9
 have hs31:s<=31:=by omega
 have YL:=hide (show pw (n+1)<=val ys by
  have h9:=abr hcan (by intro e;subst e;simp at h2)
  rwa[hn]at h9)
 have HN:=hide hn;have X3:=hide x3;have hxn:n+2<=xs.length:=by omega
 obtain⟨m,hm2,hm3⟩:∃m,m+n+1<=xs.length/\xs.length<=m+n+1:=⟨xs.length-(n+1),by omega,by omega⟩;generalize ys.getD (n+1) 0=top at hcell hlb hpos kl;obtain⟨i0,hi,hz0,hz1,hz2⟩:=info_parts abw;clear hs hl0 hl32 hbits hc y3 hyl hcan h2 hle hn x3;go_enter Tryz.func177,Tryz.ntmps177
 go_wp2_with fail
 refine(kl.out _).mono ?_;rintro e w' ⟨rfl,rfl⟩;go_wp2_with fail
 refine(ahu _ _ _ _ xs hx s hs31 (by omega)).mono ?_;rintro e w1 ⟨cur0,O,rfl,hO,hOl,hOv,hOh,hOs,hOa,hb1⟩;have hy1:=hy.below hb1;have O1:=hide hO;have O2:=hide hOl;have O3:=hide hOv;have O4:=hide hOh;have O5:=hide hOs;have O6:=hide hOa;clear hO hOl hOv hOh hOs hOa;go_wp2_with fail
 refine(ahu _ _ _ _ ys hy1 s hs31 (by have:=HN.out;omega)).mono ?_;rintro e w2 ⟨curY,Y1,rfl,hY,hYl,hYv,hYh,hYs,hYa,hb2⟩;have Q1:=hide hY;have Q2:=hide hYl;have Q3:=hide hYv;have Q4:=hide hYh;have Q5:=hide hYs;have Q6:=hide hYa;clear hY hYl hYv hYh hYs hYa;go_wp2_with (refine wpList_make_full _ rfl (.tmp 34) (.tmp 34) 38 rfl w2.heap.size 70 i0 (.int .u32 0) 1 Tryz.underlying38 hi hz0 hz1 .i64 .i64 _ _ m rfl rfl (by omega) (by omega) (by rw[hz2];omega) (by unfold maxLen;omega) (Nat.le_refl _) ?hK)
 case hK=>
  intro w3 hown hgrow;obtain⟨_,d0,hh,hds,hat⟩:=aa6 hown;have hb3:Below w2.heap.size w2 w3:=(Below.refl w2.heap.size w2).grown hgrow (Nat.le_refl _) (by simp);have s1:=aaa O4.out;have s2:=aaa Q4.out;have s3:=aaa hh;have hU:Hid (val (Y1.take (n+2))=val ys*p2 s/\(Y1.take (n+2)).length=n+2/\Limb (Y1.take (n+2))/\At curY .u32 0 (Y1.take (n+2))):=by
   have h9:=akg Q1.out Q2.out (by rw[Q3.out];exact NV.out.1);exact⟨by rw[h9.1,Q3.out],by rw[List.length_take,Q2.out];omega,aak Q1.out _,Q6.out.take _⟩
  generalize Y1.take (n+2)=Y at hU;have htop:Hid (2147483648<=Y.getD (n+1) 0):=asa hU.out.2.2.1 hU.out.2.1 (by rw[hU.out.1];exact NV.out.2);have U3:Hid (w3.heap[w1.heap.size]? = some (.cells curY 70 (0,0))):=(hb3.block _ s2).trans Q4.out;have hne:w'.heap.size≠w2.heap.size:=by omega
  have hne2:w1.heap.size≠w2.heap.size:=by omega
  have hne3:w1.heap.size≠w'.heap.size:=by omega
  have hstart:Hid (Dv w3 w3 w'.heap.size w2.heap.size xs.length m n (val ys*p2 s) (val xs*p2 s) m (O.take m) (O.drop m) [] [] cur0 d0):=by
   have hp:=abk s;have e9:w3.heap[w'.heap.size]? = some (.cells cur0 70 (0,0)):=(hb3.block _ (by omega)).trans ((hb2.block _ s1).trans O4.out);refine⟨⟨rfl,rfl,rfl,rfl,e9,hh,fun _ _ _=>rfl⟩,O5.out,hds,?_,?_,?_,?_,by simp,aak O1.out _,aiu O1.out _,aag,?_,?_⟩
   ·rw[List.take_append_drop,List.append_nil];exact O6.out
   ·rw[List.append_nil];exact hat
   ·have:=O2.out;rw[List.length_take];omega
   ·have:=O2.out;rw[List.length_drop];omega
   ·have h8:val xs*p2 s<pw xs.length*p2 s:=Int.mul_lt_mul_of_pos_right (aab X3.out).2 (by omega);rw[show xs.length=m+(n+1) by omega,ahj,Int.mul_assoc]at h8;have h9:=ans (m:=m) (n:=n) (P:=p2 s) O1.out (by have:=O2.out;omega) (by rw[O3.out];exact h8);have h10:pw (n+1)*p2 s<=val ys*p2 s:=Int.mul_le_mul_of_nonneg_right YL.out (by omega);omega
   ·have h9:=aa8 (O.take m) (O.drop m);rw[List.take_append_drop,List.length_take,Nat.min_eq_left (by have:=O2.out;omega),O3.out]at h9;rw[h9];simp[val]
  clear hown hgrow hh hds hat;go_wp2;go_loopw [10] (fun i wr=>∃(k:Nat) (lo W rest Q:List Int) (cur d:Array Value),k<=m/\i=.int .i64 ((k:Int)-1)/\Dv w3 wr w'.heap.size w2.heap.size xs.length m n (val ys*p2 s) (val xs*p2 s) k lo W rest Q cur d) (fun i _=>(intOf i+1).toNat)
  case atStart=>exact⟨m,_,_,_,_,_,_,Nat.le_refl _,by first|rfl|(congr 1;omega),hstart.out⟩
  case round=>
   obtain⟨k,lo,W,rest,Q,cur,d,hk,rfl,hD⟩:=hrel;have D:=hide hD;clear hD;cases k with
   |zero=>
    have hlo:lo = []:=List.eq_nil_of_length_eq_zero D.out.lol;subst hlo;have hatQ:At d .u32 0 Q:=by simpa using D.out.atd
    have hatW:At cur .u32 0 W:=ajw (A:=[]) D.out.atc;have hQm:Q.length=m:=by have:=D.out.ql;omega
    have hp:=abk s;have hend:val xs/val ys=val Q/\val xs%val ys=val W/p2 s:=by
     have h9:=D.out.inv;simp only[val,pw,Int.one_mul,Int.zero_add]at h9;have h8:=aay (n+1);exact ar8 (by omega) (by have:=YL.out;omega) h9 (aab D.out.liW).1 D.out.low
    have hbel:Below w'.heap.size w' wr:=hb1.trans ((hb2.mono hb1.size).trans ((hb3.mono (by omega)).trans (D.out.two.below (by omega) (by omega))));have how:Ow w'.heap.size wr (.slice (some ⟨w2.heap.size,0,none⟩) m m) Q:=
     ⟨_,m,by rw[hQm],by omega,by unfold maxLen;omega,D.out.liQ,.inr ⟨_,0,_,rfl,by omega,D.out.two.there,by rw[D.out.dsz];omega,hatQ⟩⟩
    have his:=hide (how.is_cut (x:=val xs/val ys) hend.1.symm);have hWs:Sl wr (.slice (some ⟨w'.heap.size,0,none⟩) (n+2) (xs.length+1)) W:=ag6 D.out.two.here hatW D.out.liW D.out.wl (by omega) (by unfold maxLen;omega);have HE:=hide hend.2;have hWl:W.length<=1000000:=by have:=D.out.wl;omega
    have ht:=aat Q;have htm:tl Q<=m:=by omega
    have HO:=hide how;clear hend hatQ hatW hQm how ht;go_wp2;go_region_with (first
     | (go_at_call 109;refine(aal _ _ _ _ Q (HO.out.sl.below (by repeat(first|exact Below.refl _ _|refine Below.drew ?_)))).mono ?_;rintro e wc ⟨rfl,rfl⟩)
     | (go_at_call 190;refine(akd _ _ _ _ W (hWs.below (by repeat(first|exact Below.refl _ _|refine Below.drew ?_))) s hs31 hWl).mono ?_;rintro e wd ⟨vd,rfl,hi,hbd⟩))
    all_goals
     have hbd':=(show Below wr.heap.size wr _ by repeat(first|exact Below.refl _ _|refine Below.drew ?_)).trans hbd;have his':=his.out.below hbd';have hi':=hi.mono (B':=wr.heap.size) (by first|exact Nat.le_refl _|simp);clear hbd hi;go_wp2;go_ret2
     obtain⟨q1,q2,q3,q4⟩:=his.out;obtain⟨s1,s2,s3,s4⟩:=hi';exact⟨_,_,rfl,his',⟨s1,s2.mono hbel.size,s3,by rw[s4,HE.out]⟩,aox q2 s2 (Nat.le_refl _),hbel.trans (hbd'.mono hbel.size)⟩
   |succ k=>
    obtain⟨lo',x,hlo,hll⟩:=anr D.out.lol;subst hlo;have LL:=hide hll;have MD:=hide (D.out.mid hll);clear hll;have hxW:(x::W).length=n+2+1:=by have:=D.out.wl;simp;omega
    have hPU:val (x::W)<4294967296*(val ys*p2 s):=aul ((aai.1 MD.out.2).1.2) D.out.low;have e0:k+(n+2)+1-k=n+2+1:=by omega
    have hYsl:∀wq cq,Wr wr wq w'.heap.size cq 70->Sl wq (.slice (some ⟨w1.heap.size,0,none⟩) (n+2) (n+2+1)) Y:=by
     intro wq cq hq;refine ag6 (cur:=curY) ?_ hU.out.2.2.2 hU.out.2.2.1 hU.out.2.1 (by omega) (by unfold maxLen;omega);rw[hq.other _ hne3,D.out.two.other _ hne3 hne2];exact U3.out
    have hup:(x::W).getD (n+2) 0<=Y.getD (n+1) 0:=by
     have h9:=av1 (n:=n+1) D.out.liW hU.out.2.2.1 D.out.wl hU.out.2.1 (by rw[hU.out.1];exact D.out.low);simpa using h9
    have kg:Hid (Calls Tryz.prog 187 #[.slice (some ⟨w'.heap.size,k,none⟩) (k+(n+2)+1-k) (xs.length+1-k),.slice (some ⟨w1.heap.size,0,none⟩) (n+2) (n+2+1)] wr fun e wz=>∃g:Int,e=.returned (.int .u32 g)/\(0<=g/\g<4294967296)/\(val (x::W)<(g+1)*(val ys*p2 s)/\(g-1)*(val ys*p2 s)<=val (x::W))/\∃q,wz=wr.drewN q):=by
     rw[e0];refine(apw wr _ _ n _ _ (x::W) Y (ag6 D.out.two.here MD.out.1 MD.out.2 hxW (by omega) (by unfold maxLen;omega)) (hYsl _ _ (Wr.refl D.out.two.here)) htop.out hup).mono ?_;rintro e wq ⟨g,rfl,hg,hA,hB,hq⟩;exact⟨g,rfl,hg,anq MD.out.2 hU.out.2.2.1 hxW hU.out.2.1 rfl hU.out.1 (by have:=htop.out;omega) hPU hg hA hB,hq⟩
    have kt:Hid (∀q g,0<=g/\g<4294967296->Calls Tryz.prog 188 #[.slice (some ⟨w'.heap.size,k,none⟩) (k+(n+2)+1-k) (xs.length+1-k),.slice (some ⟨w1.heap.size,0,none⟩) (n+2) (n+2+1),.int .u32 g] (wr.drewN q) fun e wz=>∃qs b cur',e=.returned (.bool (b != 0))/\(0<=b/\b<=1)/\val qs-pw (n+2+1)*b=val (x::W)-g*val Y/\Limb qs/\qs.length=n+2+1/\Wr (wr.drewN q) wz w'.heap.size cur' 70/\cur'.size=cur.size/\At cur' .u32 k qs/\(∀i,i<k\/k+(n+2+1)<=i->cur'[i]? = cur[i]?)):=by
     intro q g hg;rw[e0];exact ajf (wr.drewN q) _ k (n+2) _ _ cur (x::W) Y _ g hg (D.out.two.drewN q).here MD.out.1 MD.out.2 hxW (by omega) (fun wq cq hq=>hYsl wq cq ⟨hq.os,hq.tape,hq.output,hq.size,hq.here,hq.other⟩)
    have kb:Hid (∀(wq:World) (cq:Array Value) (ps:List Int),Wr wr wq w'.heap.size cq 70->At cq .u32 k ps->Limb ps->ps.length=n+2+1->Calls Tryz.prog 189 #[.slice (some ⟨w'.heap.size,k,none⟩) (k+(n+2)+1-k) (xs.length+1-k),.slice (some ⟨w1.heap.size,0,none⟩) (n+2) (n+2+1)] wq fun e wz=>∃qs c cur',e=.returned (.tuple #[])/\(0<=c/\c<=1)/\val qs+pw (n+2+1)*c=val ps+val Y/\Limb qs/\qs.length=n+2+1/\Wr wq wz w'.heap.size cur' 70/\cur'.size=cq.size/\At cur' .u32 k qs/\(∀i,i<k\/k+(n+2+1)<=i->cur'[i]? = cq[i]?)):=by
     intro wq cq ps hq ha hp hl;rw[e0];exact ale wq _ k (n+2) _ _ cq ps Y _ hq.here ha hp hl (by omega) (fun wz cz hz=>hYsl wz cz (hq.trans hz))
    clear hxW hPU e0 hYsl hup;go_wp2_with fail
    refine(kg.out).mono ?_;rintro e w4 ⟨g,rfl,hg,hnear,q1,rfl⟩;have NR:=hide hnear;clear hnear;go_wp2_with fail
    refine(kt.out q1 g hg).mono ?_;rintro e w5 ⟨qs,bo,cur',rfl,hbo,hv,hq,hql,hwr,hcs,hat,hout⟩;have V1:=hide hv;have V2:=hide hq;have V3:=hide hql;have V4:=hide hwr;have V5:=hide hcs;have V6:=hide hat;have V7:=hide hout;clear hv hq hql hwr hcs hat hout;have hqb:Hid (0<=val qs/\val qs<pw (n+2+1)):=by
     have h9:=aab V2.out;rwa[V3.out]at h9
    have hU0:Hid (0<val ys*p2 s/\val ys*p2 s<pw (n+2+1)/\val ys*p2 s<=pw (n+2)):=by
     have h9:=NV.out;have h8:=aa0 (m:=n+2) (n:=n+2+1) (by omega);have h7:=aay (n+1);exact⟨by omega,by omega,by omega⟩
    have V8:Hid (val qs-pw (n+2+1)*bo=val (x::W)-g*(val ys*p2 s)):=by rw[<-hU.out.1];exact V1.out
    by_cases hb0:bo=0
    ·have two:=hide ((D.out.two.drewN q1).left hne.symm V4.out);have near:=(ai3 (A2:=0) (c:=0) hU0.out.1 hU0.out.2.1 NR.out.1 NR.out.2 hqb.out hbo V8.out).1 hb0;have ST:=hide (D.out.step LL.out hne two.out V5.out V6.out V7.out V2.out V3.out hU0.out.2.2 near.2.1 near.2.2 hg);have hcq:=D.out.atd.cell two.out.there k (by have:=D.out.ql;simp;omega);rw[Nat.zero_add]at hcq;generalize (List.replicate (k+1) (0:Int)++Q).getD k 0=old at hcq;have hfree:=(Wr.refl two.out.there).free k;clear near;subst hb0;go_wp2;go_roundw
     case rel=>exact⟨k,_,_,_,_,_,_,by omega,by first|rfl|go_num,ST.out⟩
     case measure=>simp[intOf]
    ·have hb1':bo=1:=by omega
     subst hb1';have hg1:1<=g:=by
      apply Classical.byContradiction;intro hn;have h9:=V8.out;have h8:=hqb.out;have h7:=(aab MD.out.2).1;rw[show g=0 by omega,Int.zero_mul,Int.mul_one]at h9;omega
     have KB:=hide (kb.out w5 cur' qs ⟨V4.out.os,V4.out.tape,V4.out.output,V4.out.size,V4.out.here,V4.out.other⟩ V6.out V2.out V3.out);go_wp2_with fail
     refine(KB.out).mono ?_;rintro e w6 ⟨q2,c,cur2,rfl,hc,hv,hq,hql,hwr,hcs,hat,hout⟩;have hq2:0<=val q2/\val q2<pw (n+2+1):=by
      have h9:=aab hq;rwa[hql]at h9
     have two:=hide (((D.out.two.drewN q1).left hne.symm V4.out).left hne.symm hwr);have near:=(ai3 (A2:=val q2) (c:=c) hU0.out.1 hU0.out.2.1 NR.out.1 NR.out.2 hqb.out hbo V8.out).2 rfl hq2 hc (by rw[<-hU.out.1];exact hv);have ST:=hide (D.out.step LL.out hne two.out (hcs.trans V5.out) hat (fun i hi=>(hout i hi).trans (V7.out i hi)) hq hql hU0.out.2.2 near.2.1 near.2.2 (by omega));have hcq:=D.out.atd.cell two.out.there k (by have:=D.out.ql;simp;omega);rw[Nat.zero_add]at hcq;generalize (List.replicate (k+1) (0:Int)++Q).getD k 0=old at hcq;have hfree:=(Wr.refl two.out.there).free k;clear near hq2 hv hq hql hwr hcs hat hout;go_wp2;go_roundw
     case rel=>exact⟨k,_,_,_,_,_,_,by omega,by first|rfl|go_num,ST.out⟩
     case measure=>simp[intOf]
end Lm
namespace Lm
open Go.RowKit
theorem alg(w:World)(a1 a2:Option Addr)(n1 n2 c1 c2:Nat)(xs ys:List Int)(hx:Sl w (.slice a1 n1 c1) xs)(hy:Sl w (.slice a2 n2 c2) ys)(hm1:xs.length<=500000)(hle:tl ys<=tl xs)(h2:2<=tl ys):
  Calls Tryz.prog 151 #[.slice a1 n1 c1,.slice a2 n2 c2] w fun e w'=>∃v1 v2,e=.returned (.tuple #[v1,v2,.bool true])/\Is w.heap.size w' v1 (val xs/val ys)/\Is w.heap.size w' v2 (val xs%val ys)/\Sep v1 v2/\Below w.heap.size w w':=by
 obtain⟨rfl,h1,_,h3⟩:=hx.parts;obtain⟨rfl,g1,_,g3⟩:=hy.parts;have t1:=aat xs;have t2:=aat ys;have kd:=aii w a1 a2 (tl xs) (tl ys) c1 c2 _ _ hx.cut hy.cut (by rw[List.length_take];omega) (by rw[List.length_take];omega) (by rw[List.length_take,List.length_take];omega) (aaw g3);rw[aad,aad]at kd;have KD:=hide kd;clear kd h3 g3;have hne:(((tl ys:Nat):Int)==0)=false:=by simp;omega
 have hne1:(((tl ys:Nat):Int)==1)=false:=by simp;omega
 go_enter Tryz.func151,Tryz.ntmps151
 go_wp2_with fail
 refine(aal w a1 _ c1 xs hx).mono ?_;rintro e w' ⟨rfl,rfl⟩;go_wp2_with fail
 refine(aal _ a2 _ c2 ys hy).mono ?_;rintro e w' ⟨rfl,rfl⟩;go_wp2_with fail
 refine(KD.out).mono ?_;rintro e w1 ⟨v1,v2,rfl,hi1,hi2,hsep,hb⟩;go_wp2;go_ret3
 exact⟨_,_,rfl,hi1,hi2,hsep,hb⟩
theorem ae8(w:World)(a1 a2:Option Addr)(n1 n2 c1 c2:Nat)(xs ys:List Int)(hx:Sl w (.slice a1 n1 c1) xs)(hy:Sl w (.slice a2 n2 c2) ys)(hm1:xs.length<=500000)(h0:val ys≠0):
  Calls Tryz.prog 151 #[.slice a1 n1 c1,.slice a2 n2 c2] w fun e w'=>∃v1 v2,e=.returned (.tuple #[v1,v2,.bool true])/\Is w.heap.size w' v1 (val xs/val ys)/\Is w.heap.size w' v2 (val xs%val ys)/\Sep v1 v2/\Below w.heap.size w w':=by
 have hz:0<tl ys:=by
  apply Classical.byContradiction;intro hn;exact h0 (aeo (by omega))
 by_cases h1:tl xs<tl ys
 ·exact ak9 w a1 a2 n1 n2 c1 c2 xs ys hx hy (by omega) h1
 ·by_cases h2:tl ys=1
  ·exact ajr w a1 a2 n1 n2 c1 c2 xs ys hx hy (by omega) (by omega) h2
  ·exact alg w a1 a2 n1 n2 c1 c2 xs ys hx hy hm1 (by omega) (by omega)
theorem ael(w:World)(a1 a2:Option Addr)(n1 n2 c1 c2:Nat)(xs ys:List Int)(hx:Sl w (.slice a1 n1 c1) xs)(hy:Sl w (.slice a2 n2 c2) ys)(h0:val ys=0):
  Calls Tryz.prog 151 #[.slice a1 n1 c1,.slice a2 n2 c2] w fun e w'=>e=.returned (.tuple #[.slice none 0 0,.slice none 0 0,.bool false])/\Below w.heap.size w w':=by
 refine ak8 w a1 a2 n1 n2 c1 c2 xs ys hx hy ?_;apply Classical.byContradiction;intro hn;have:=aez hy.parts.2.2.2 (by omega);omega
theorem ae9(w:World)(a1 a2:Option Addr)(n1 n2 c1 c2:Nat)(xs ys:List Int)(hx:Sl w (.slice a1 n1 c1) xs)(hy:Sl w (.slice a2 n2 c2) ys)(hm1:xs.length<=500000)(h0:val ys≠0):
  Calls Tryz.prog 151 #[.slice a1 n1 c1,.slice a2 n2 c2] w fun e w'=>∃ao cap rs bo dap ss,e=.returned (.tuple #[.slice ao rs.length cap,.slice bo ss.length dap,.bool true])/\Got w' ao cap rs (val xs/val ys)/\Got w' bo dap ss (val xs%val ys)/\rs.length<=xs.length/\ss.length<=ys.length/\Below w.heap.size w w':=by
 refine(ae8 w a1 a2 n1 n2 c1 c2 xs ys hx hy hm1 h0).mono ?_;rintro e w' ⟨v1,v2,rfl,hi1,hi2,_,hb⟩;obtain⟨ao,cap,rs,rfl,hg1⟩:=hi1.got;obtain⟨bo,dap,ss,rfl,hg2⟩:=hi2.got;have bx:=aab hx.parts.2.2.2;have by':=aab hy.parts.2.2.2;refine⟨ao,cap,rs,bo,dap,ss,rfl,hg1,hg2,abt hx.parts.2.2.2 hg1.canon ?_,abt hy.parts.2.2.2 hg2.canon ?_,hb⟩
 ·rw[hg1.val];exact Int.ediv_le_self _ bx.1
 ·rw[hg2.val];have:=Int.emod_lt_of_pos (val xs) (show 0<val ys by omega);omega
end Lm
namespace Lm
open Go.RowKit
theorem ahv(w:World)(nx:Bool)(vx:Value)(ny:Bool)(vy:Value):∃w0:World,(((w.alloc (.cells #[.bool nx,vx] 60)).alloc (.cells #[.bool ny,vy] 60)).alloc (.cells #[.bool false,.slice none 0 0] 60)).alloc (.cells #[.bool false,.slice none 0 0] 60)=w0/\Box w0 w.heap.size nx vx/\Box w0 (w.heap.size+1) ny vy/\Box w0 (w.heap.size+1+1) false (.slice none 0 0)/\Box w0 (w.heap.size+1+1+1) false (.slice none 0 0)/\Below w.heap.size w w0/\w0.heap.size=w.heap.size+4:=by
 obtain⟨w2,e2,b1,b2,b3,hb,hs⟩:=aeq w nx vx ny vy;have h2:=boxed w2 false (.slice none 0 0);rw[e2];refine⟨_,rfl,b1.below h2.2.1,b2.below h2.2.1,b3.below h2.2.1,?_,hb.trans (h2.2.1.mono (by omega)),by rw[h2.2.2,hs]⟩;have h3:=h2.1;rw[hs]at h3;exact h3
theorem aij(ny:Bool)(X Y:Int):X/sg ny Y=sg ny (X/Y)/\X%sg ny Y=X%Y:=by
 cases ny <;> simp[sg,Int.ediv_neg,Int.emod_neg]
theorem ahw{X Y:Int}(hY:0<Y):(X%Y=0->-X/Y = -(X/Y)/\-X%Y=0)/\(X%Y≠0->-X/Y = -(X/Y+1)/\-X%Y=Y-X%Y):=by
 have h1:=Int.mul_ediv_add_emod X Y;have h2:=Int.emod_nonneg X (show Y≠0 by omega);have h3:=Int.emod_lt_of_pos X hY;constructor
 ·intro h0;refine ad0 hY ?_ (Int.le_refl 0) hY;rw[Int.neg_mul,Int.mul_comm (X/Y)];omega
 ·intro h0;refine ad0 hY ?_ (by omega) (by omega);rw[Int.neg_mul,Int.add_mul,Int.mul_comm (X/Y)];omega
theorem Box.other{w:World}{g h:Nat}{ng:Bool}{v:Value}(H:Box w g ng v)(hn:g≠h)(b u:Value):Box ((w.setCell ⟨h,0,none⟩ b).setCell ⟨h,1,none⟩ u) g ng v:=
 (heap_setCell_other _ ⟨h,1,none⟩ g u hn).trans ((heap_setCell_other w ⟨h,0,none⟩ g b hn).trans H)
theorem agb{w:World}{g h:Nat}{n1 n2 nq nr:Bool}{v1 v2 vq vr:Value}(H1:Box w g n1 v1)(H2:Box w h n2 v2)(hn:g≠h):Box ((((w.setCell ⟨g,0,none⟩ (.bool nq)).setCell ⟨g,1,none⟩ vq).setCell ⟨h,0,none⟩ (.bool nr)).setCell ⟨h,1,none⟩ vr) g nq vq/\Box ((((w.setCell ⟨g,0,none⟩ (.bool nq)).setCell ⟨g,1,none⟩ vq).setCell ⟨h,0,none⟩ (.bool nr)).setCell ⟨h,1,none⟩ vr) h nr vr:=
 ⟨(H1.set nq vq).other hn _ _,(H2.other (Ne.symm hn) _ _).set nr vr⟩
theorem akh(ny:Bool)(X Y:Int):sg (false != ny) (X/Y)=sg false X/sg ny Y/\sg false (X%Y)=sg false X%sg ny Y:=by
 have h:=aij ny (sg false X) Y;rw[h.1,h.2];cases ny <;> simp[sg]
theorem apz(nx ny:Bool){X Y:Int}(hY:0<Y)(h0:X%Y=0):sg (nx != ny) (X/Y)=sg nx X/sg ny Y/\sg false (X%Y)=sg nx X%sg ny Y:=by
 cases nx with
 |false=>exact akh ny X Y
 |true=>
  have h:=aij ny (sg true X) Y;have h2:=(ahw (X:=X) hY).1 h0;rw[h.1,h.2,h0];cases ny <;> simp[sg,h2]
theorem asb(ny:Bool){X Y:Int}(hY:0<Y)(h0:X%Y≠0):sg (true != ny) (X/Y+1)=sg true X/sg ny Y/\sg false (Y-X%Y)=sg true X%sg ny Y:=by
 have h:=aij ny (sg true X) Y;have h2:=(ahw (X:=X) hY).2 h0;rw[h.1,h.2];cases ny <;> simp[sg,h2]
theorem aki(w:World)(nx:Bool)(a1:Option Addr)(n1 c1:Nat)(xs:List Int)(hx:Sl w (.slice a1 n1 c1) xs)(ny:Bool)(a2:Option Addr)(n2 c2:Nat)(ys:List Int)(hy:Sl w (.slice a2 n2 c2) ys)(h0:val ys=0):
  Calls Tryz.prog 125 #[.agg #[.bool nx,.slice a1 n1 c1],.agg #[.bool ny,.slice a2 n2 c2]] w fun e w'=>e=.returned (.tuple #[.agg #[.bool false,.slice none 0 0],.agg #[.bool false,.slice none 0 0],.bool false])/\Below w.heap.size w w':=by
 obtain⟨w0,e0,bx,by',bq,br,hb0,hs0⟩:=ahv w nx (.slice a1 n1 c1) ny (.slice a2 n2 c2);have E0:=hide e0;have hx0:=hx.below hb0;have hy0:=hy.below hb0;clear e0 hs0;have H0:=hide h0;clear h0;go_enter Tryz.func125,Tryz.ntmps125
 go_wp2_with fail
 rw[E0.out];obtain⟨ca,cb,cc,cd⟩:=bx.facts;obtain⟨ea,eb,ec,ed⟩:=by'.facts;refine(ael _ _ _ _ _ _ _ xs ys hx0 hy0 H0.out).mono ?_;rintro e w1 ⟨rfl,hb1⟩;have Z:=hide (hb0.trans (hb1.mono hb0.size));obtain⟨qa,qb,qc,qd⟩:=(bq.below hb1).facts;obtain⟨ra,rb,rc,rd⟩:=(br.below hb1).facts;have F:=hide (agb (nq:=false) (vq:=.slice none 0 0) (nr:=false) (vr:=.slice none 0 0) (bq.below hb1) (br.below hb1) (by omega));have Z2:=hide (aaj (aaj Z.out (show w.heap.size<=w.heap.size+1+1 by omega) (.bool false) (.slice none 0 0)) (show w.heap.size<=w.heap.size+1+1+1 by omega) (.bool false) (.slice none 0 0));go_wp2;refine bodyPost_ret (v:=.tuple #[.agg #[.bool false,.slice none 0 0],.agg #[.bool false,.slice none 0 0],.bool false]) ?_ rfl ⟨rfl,Z2.out⟩;simp[results,Tryz.results125,go_sem,F.out.1.facts.1,F.out.1.facts.2.1,F.out.2.facts.1,F.out.2.facts.2.1]
end Lm
namespace Lm
open Go.RowKit
theorem asc{ds:List Int}{x:Int}(h:IsDec ds x){m:Nat}(hm:1<=m)(hx:x<p10 m):ds.length<=m:=by
 obtain⟨h1,h2,h3⟩:=h;rcases h3 with⟨_,rfl⟩|⟨c,cs,rfl,hc⟩
 ·simp;omega
 ·have:=ad1 h1 hc;simp only[List.length_cons];apply Classical.byContradiction;intro hn;have:=abg (m:=m) (n:=cs.length) (by omega);omega
theorem alh(ds:List Int):(⟨#[45]⟩:ByteArray)++strOfNums ds=strOfNums (45::ds):=by
 apply ByteArray.ext;rw[ByteArray.data_append];apply Array.toList_inj.1;simp[strOfNums]
theorem ali(z:Int): -1<=Int.sign z/\Int.sign z<=1:=by
 rcases Int.lt_trichotomy z 0 with h|h|h
 ·rw[Int.sign_eq_neg_one_of_neg h];omega
 ·rw[h];simp
 ·rw[Int.sign_eq_one_of_pos h];omega
theorem ap0(w:World)(ng:Bool)(ao:Option Addr)(n cap:Nat)(zs:List Int)(h:Sl w (.slice ao n cap) zs)(hz:zs.length<=1000000)(hneg:sg ng (val zs)<0):
  Calls Tryz.prog 33 #[.agg #[.bool ng,.slice ao n cap]] w fun e w'=>∃ds,e=.returned (.string (strOfNums (45::ds)))/\IsDec ds (val zs)/\Below w.heap.size w w':=by
 obtain⟨w0,e0,bx,hb0,hs0⟩:=afs w ng (.slice ao n cap);have E0:=hide e0;have h0:=h.below hb0;have HN:=hide hneg;have ks:=adh w0 ng ao n cap zs h0 hz;rw[Int.sign_eq_neg_one_of_neg hneg]at ks;have KS:=hide ks;clear e0 hs0 ks hneg;go_enter Tryz.func33,Tryz.ntmps33
 go_wp2_with fail
 rw[E0.out];refine(KS.out).mono ?_;rintro e w1 ⟨rfl,hb1⟩;obtain⟨xa,xb,xc,xd⟩:=(bx.below hb1).facts;have h1:=h0.below hb1;go_wp2_with fail
 refine(ag3 _ _ _ _ zs h1 hz).mono ?_;rintro e w2 ⟨ds,rfl,hd,hb2⟩;have Z:=hide (hb0.trans ((hb1.trans (hb2.mono hb1.size)).mono hb0.size));have HD:=hide hd;have hcs:¬9223372036854775807<1+(strOfNums ds).size:=by
  have h8:=(aab h.parts.2.2.2).2;have h7:=aed zs.length;have h6:=abg (m:=10*zs.length) (n:=10*zs.length+1) (by omega);have h9:=asc hd (m:=10*zs.length+1) (by omega) (by omega);rw[strOfNums_size];omega
 have MA:=hide (alh ds);clear hd;go_wp2;refine bodyPost_ret (v:=.string (strOfNums (45::ds))) ?_ rfl ⟨ds,rfl,HD.out,Z.out⟩;simp[results,Tryz.results33,go_sem,MA.out]
theorem ap1(w:World)(ng:Bool)(ao:Option Addr)(n cap:Nat)(zs:List Int)(h:Sl w (.slice ao n cap) zs)(hz:zs.length<=1000000)(hpos:¬sg ng (val zs)<0):
  Calls Tryz.prog 33 #[.agg #[.bool ng,.slice ao n cap]] w fun e w'=>∃ds,e=.returned (.string (strOfNums ds))/\IsDec ds (val zs)/\Below w.heap.size w w':=by
 obtain⟨w0,e0,bx,hb0,hs0⟩:=afs w ng (.slice ao n cap);have E0:=hide e0;have h0:=h.below hb0;obtain⟨s,hs,hs1⟩:∃s,Int.sign (sg ng (val zs))=s/\¬s<0:=⟨_,rfl,by
  intro h9;have h8:=Int.sign_eq_neg_one_iff_neg.1 (show Int.sign (sg ng (val zs)) = -1 by have:=ali (sg ng (val zs));omega)
  omega⟩
 have ks:=adh w0 ng ao n cap zs h0 hz;rw[hs]at ks;have KS:=hide ks;clear e0 hs0 ks hpos hs;go_enter Tryz.func33,Tryz.ntmps33
 go_wp2_with fail
 rw[E0.out];refine(KS.out).mono ?_;rintro e w1 ⟨rfl,hb1⟩;obtain⟨xa,xb,xc,xd⟩:=(bx.below hb1).facts;have h1:=h0.below hb1;go_wp2_with fail
 refine(ag3 _ _ _ _ zs h1 hz).mono ?_;rintro e w2 ⟨ds,rfl,hd,hb2⟩;have Z:=hide (hb0.trans ((hb1.trans (hb2.mono hb1.size)).mono hb0.size));have HD:=hide hd;clear hd;go_wp2;go_ret;exact⟨ds,rfl,HD.out,Z.out⟩
end Lm
namespace Lm
open Go.RowKit
theorem ap2{zs:List Int}(hz:Limb zs)(i:Nat):∃t:Int,val zs/pw i=(zs.getD (i+1) 0*4294967296+zs.getD i 0)+18446744073709551616*t:=by
 have h0:val zs/pw i=val (zs.drop i):=by
  by_cases hi:i<=zs.length
  ·have e:=aa8 (zs.take i) (zs.drop i);rw[List.take_append_drop,List.length_take,Nat.min_eq_left hi]at e;have b:=aab (aak hz i);rw[List.length_take,Nat.min_eq_left hi]at b;exact(ad0 (a:=val zs) (b:=pw i) (by have:=aay i;omega) (by rw[e,Int.mul_comm];omega) b.1 b.2).1
  ·rw[List.drop_of_length_le (by omega)];have b:=aab hz;have hm:=aa0 (m:=zs.length) (n:=i) (by omega);exact Int.ediv_eq_zero_of_lt b.1 (by omega)
 refine⟨val (zs.drop (i+2)),?_⟩;rw[h0];by_cases h1:i<zs.length
 ·rw[acd zs i h1,val];by_cases h2:i+1<zs.length
  ·rw[acd zs (i+1) h2,val,show i+2=i+1+1 from rfl];omega
  ·have e1:zs.drop (i+1) = []:=List.drop_of_length_le (by omega);have e2:zs.drop (i+2) = []:=List.drop_of_length_le (by omega);have e3:zs.getD (i+1) 0=0:=by rw[List.getD_eq_getElem?_getD,List.getElem?_eq_none (by omega)];rfl
   rw[e1,e2,e3];simp[val]
 ·have e1:zs.drop i = []:=List.drop_of_length_le (by omega);have e2:zs.drop (i+2) = []:=List.drop_of_length_le (by omega);have e3:zs.getD (i+1) 0=0:=by rw[List.getD_eq_getElem?_getD,List.getElem?_eq_none (by omega)];rfl
  have e4:zs.getD i 0=0:=by rw[List.getD_eq_getElem?_getD,List.getElem?_eq_none (by omega)];rfl
  rw[e1,e2,e3,e4];simp[val]
theorem av2{x:Int}(h0:0<=x)(h1:x<4294967296):bits .and .u32 x 1073741823=x%1073741824:=by
 rw[u32_and _ _ h0 h1 (by omega) (by omega)];have:(1073741823:Int).toNat=2 ^ 30-1:=by decide
 rw[this,Nat.and_two_pow_sub_one_eq_mod];omega
theorem ant{V r t:Int}{s:Nat}(hs:s<=31)(hV:V=r+18446744073709551616*t):r/p2 s%4294967296%1073741824=V/p2 s%1073741824:=by
 have hp:=abk s;have e1:(18446744073709551616:Int)=p2 s*(1073741824*p2 (34-s)):=by
  have h9:p2 s*(p2 30*p2 (34-s))=p2 64:=by rw[<-ab0,<-ab0,show s+(30+(34-s))=64 by omega]
  rw[show p2 30=1073741824 from by decide,show p2 64=18446744073709551616 from by decide]at h9;exact h9.symm
 have e2:V/p2 s=r/p2 s+1073741824*(p2 (34-s)*t):=by
  rw[hV,e1,Int.mul_assoc,Int.add_mul_ediv_left _ _ (by omega),Int.mul_assoc]
 rw[e2,Int.add_mul_emod_self_left];omega
theorem ahx(w:World)(ao:Option Addr)(n cap:Nat)(zs:List Int)(h:Sl w (.slice ao n cap) zs)(low:Nat)(hlow:low<=100000000):
  Calls Tryz.prog 175 #[.slice ao n cap,.int .i64 low] w fun e w'=>e=.returned (.int .u32 (val zs/p2 low%1073741824))/\w'=w:=by
 obtain⟨rfl,x1,x2,x3⟩:=h.parts;obtain⟨i,hi⟩:∃i,i=low/32:=⟨_,rfl⟩;obtain⟨s,hs⟩:∃s,s=low%32:=⟨_,rfl⟩;have e1:(low:Int)/32=(i:Nat):=by omega
 have e2:(low:Int)%32=(s:Nat):=by omega
 have hs31:s<=31:=by omega
 have hib:i<=100000000:=by omega
 have HPL:Hid (p2 low=pw i*p2 s):=by
  show _=_;rw[adl,<-ab0];congr 1;omega
 have bA:=aaf x3 i;have bC:=aaf x3 (i+1);obtain⟨t,ht⟩:=ap2 x3 i;have k1:Hid (∀w':World,Sl w' (.slice ao zs.length cap) zs->Calls Tryz.prog 178 #[.slice ao zs.length cap,.int .i64 ((i:Int)+1)] w' fun e w''=>e=.returned (.int .u32 (zs.getD (i+1) 0))/\w''=w'):=by
  intro w' h';have h9:=agz w' _ zs h' ((i:Int)+1) (by omega);rwa[show((i:Int)+1).toNat=i+1 by omega]at h9
 have k2:Hid (∀w':World,Sl w' (.slice ao zs.length cap) zs->Calls Tryz.prog 178 #[.slice ao zs.length cap,.int .i64 (i:Int)] w' fun e w''=>e=.returned (.int .u32 (zs.getD i 0))/\w''=w'):=fun w' h'=>abp w' _ zs h' i
 have HT:=hide ht;generalize zs.getD (i+1) 0=C at bC k1 HT;generalize zs.getD i 0=A at bA k2 HT;have hor:=adq C A bC.1 bC.2 bA.1 bA.2;obtain⟨M,hM⟩:∃M,M=C*4294967296+A:=⟨_,rfl⟩;rw[<-hM]at hor HT;have hM0:0<=M:=by omega
 have hM1:M<18446744073709551616:=by omega
 have hpw:=aka s;have hp1:=abk s;have hd0:0<=M/p2 s:=Int.ediv_nonneg hM0 (by omega);have hmk:bits .and .u32 (M/p2 s%4294967296) 1073741823=M/p2 s%4294967296%1073741824:=av2 (by omega) (by omega);have HV:Hid (M/p2 s%1073741824=val zs/p2 low%1073741824):=by
  have h9:=ant hs31 HT.out;rw[Int.ediv_ediv_of_nonneg (by have:=aay i;omega),<-HPL.out]at h9;show _=_;omega
 clear x3 ht hM hi hs;go_enter Tryz.func175,Tryz.ntmps175
 go_wp2_with fail
 refine(k1.out _ h).mono ?_;rintro e w1 ⟨rfl,rfl⟩;go_wp2_with fail
 refine(k2.out _ h).mono ?_;rintro e w1 ⟨rfl,rfl⟩;go_wp2;go_ret;exact⟨by rw[<-HV.out];rfl,rfl⟩
end Lm
namespace Lm
open Go.RowKit
theorem aum{xs ys os:List Int}{k:Nat}{p q x y c s:Int}(hk:os.length=k)(hx:xs.getD k 0=x)(hy:ys.getD k 0=y)(hs:s=p*x+q*y+c)(h:val os+pw k*c=p*vf xs k+q*vf ys k):
  val (os ++ [s%4294967296])+pw (k+1)*(s/4294967296)=p*vf xs (k+1)+q*vf ys (k+1):=by
 rw[abf,vf,vf,hx,hy,hk,pw];have e:s=s%4294967296+4294967296*(s/4294967296):=by omega
 have e2:pw k*(s%4294967296)+4294967296*pw k*(s/4294967296)=pw k*s:=by
  rw[Int.mul_comm 4294967296 (pw k),Int.mul_assoc,<-Int.mul_add,<-e]
 have e3:p*(pw k*x)=pw k*(p*x):=by rw[<-Int.mul_assoc,Int.mul_comm p,Int.mul_assoc]
 have e4:q*(pw k*y)=pw k*(q*y):=by rw[<-Int.mul_assoc,Int.mul_comm q,Int.mul_assoc]
 rw[Int.add_assoc,e2,hs,Int.mul_add,Int.mul_add,Int.mul_add,Int.mul_add,e3,e4];omega
theorem aeh{p x:Int}(hp : -1073741824<=p/\p<=1073741824)(hx:0<=x/\x<4294967296): -4611686018427387904<=p*x/\p*x<=4611686018427387904:=by
 have h1:p*x<=1073741824*x:=Int.mul_le_mul_of_nonneg_right hp.2 hx.1;have h2 : -1073741824*x<=p*x:=Int.mul_le_mul_of_nonneg_right hp.1 hx.1;omega
theorem aun{p q x y:Int}(hp : -1073741824<=p/\p<=1073741824)(hq : -1073741824<=q/\q<=1073741824)(hs:(0<=p/\q<=0)\/(p<=0/\0<=q))(hx:0<=x/\x<4294967296)(hy:0<=y/\y<4294967296): -4611686018427387904<=p*x+q*y/\p*x+q*y<=4611686018427387904:=by
 have b1:=aeh hp hx;have b2:=aeh hq hy;rcases hs with⟨h1,h2⟩|⟨h1,h2⟩
 ·have p1:0<=p*x:=Int.mul_nonneg h1 hx.1;have p2:0<=(-q)*y:=Int.mul_nonneg (by omega) hy.1;rw[Int.neg_mul]at p2;omega
 ·have p1:0<=(-p)*x:=Int.mul_nonneg (by omega) hx.1;have p2:0<=q*y:=Int.mul_nonneg h2 hy.1;rw[Int.neg_mul]at p1;omega
theorem ags(w:World)(a1 a2:Option Addr)(n1 n2 c1 c2:Nat)(xs ys:List Int)(hx:Sl w (.slice a1 n1 c1) xs)(hy:Sl w (.slice a2 n2 c2) ys)(hm:xs.length<=1000000)(hl:ys.length<=xs.length)(p q:Int)(hp : -1073741824<=p/\p<=1073741824)(hq : -1073741824<=q/\q<=1073741824)(hs:(0<=p/\q<=0)\/(p<=0/\0<=q))(h0:0<=p*val xs+q*val ys)(h1:p*val xs+q*val ys<pw xs.length):
  Calls Tryz.prog 176 #[.int .i64 p,.slice a1 n1 c1,.int .i64 q,.slice a2 n2 c2] w fun e w'=>∃v,e=.returned v/\Is w.heap.size w' v (p*val xs+q*val ys)/\Below w.heap.size w w':=by
 obtain⟨rfl,x1,x2,x3⟩:=hx.parts;obtain⟨rfl,y1,y2,y3⟩:=hy.parts;obtain⟨i0,hi,hz0,hz1,hz2⟩:=info_parts abw;have X3:=hide x3;have Y3:=hide y3;have H0:=hide h0;have H1:=hide h1;have HP:=hide hp;have HQ:=hide hq;have HS:=hide hs;clear x3 y3 h0 h1 hp hq hs;go_enter Tryz.func176,Tryz.ntmps176
 go_wp2_with (refine wpList_make_full _ rfl (.tmp 14) (.tmp 14) 38 rfl w.heap.size 70 i0 (.int .u32 0) 1 Tryz.underlying38 hi hz0 hz1 .i64 .i64 _ _ xs.length rfl rfl (by omega) (by omega) (by rw[hz2];omega) (by unfold maxLen;omega) (Nat.le_refl _) ?hK)
 case hK=>
  intro w1 hown hgrow;obtain⟨_,cur,hh,hcs,hat⟩:=aa6 hown;have hb1:Below w.heap.size w w1:=(Below.refl w.heap.size w).grown hgrow (Nat.le_refl _) (by simp);have HH:=hide hh;have HC0:=hide hcs;have HA:=hide hat;clear hown hgrow hh hcs hat;go_wp2;go_loopw [10,18] (fun cv i wr=>∃(k:Nat) (c:Int) (os:List Int) (cur':Array Value),k<=xs.length/\cv=.int .i64 c/\i=.int .i64 k/\(-1073741826<=c/\c<=1073741826)/\os.length=k/\Limb os/\val os+pw k*c=p*vf xs k+q*vf ys k/\Wr w1 wr w.heap.size cur' 70/\cur'.size=xs.length/\At cur' .u32 0 (os++(List.replicate xs.length 0).drop k)) (fun _ i _=>xs.length-(intOf i).toNat)
  case atStart=>exact⟨0,0,[],cur,Nat.zero_le _,rfl,rfl,by omega,rfl,aag,by simp[val,vf,pw],Wr.refl HH.out,HC0.out,by simpa using HA.out⟩
  case round=>
   obtain⟨k,c,os,cur',hk,rfl,rfl,hc,hol,ho,hval,hwr,hcs,hat⟩:=hrel;have HOL:=hide hol;have HO:=hide ho;have HV:=hide hval;have HW:=hide hwr;have HC:=hide hcs;have HT:=hide hat;clear hol ho hval hwr hcs hat;by_cases hlt:k<xs.length
   ·have sx:=HW.out.sl (Nat.le_refl _) hb1 rfl hx;have sy:=HW.out.sl (Nat.le_refl _) hb1 rfl hy;obtain⟨b,off,rfl,hcx⟩:=sx.cells (by omega);have cx:=hcx k (by omega);have bx:=aaf X3.out k;have by':=aaf Y3.out k;obtain⟨x,hxk⟩:∃x,xs.getD k 0=x:=⟨_,rfl⟩;obtain⟨y,hyk⟩:∃y,ys.getD k 0=y:=⟨_,rfl⟩;have ky:Hid (∀n,Calls Tryz.prog 178 #[.slice a2 ys.length c2,.int .i64 k] (wr.drewN n) fun e w'=>e=.returned (.int .u32 y)/\w'=wr.drewN n):=by
     intro n;rw[<-hyk];exact abp _ _ ys (sy.below (below_drewN (Below.refl _ _) n)) k
    rw[hxk]at cx bx;rw[hyk]at by';have hpx:=aeh HP.out bx;have hqy:=aeh HQ.out by';have htw:=aun HP.out HQ.out HS.out bx by';obtain⟨P,hP⟩:∃P,P=p*x:=⟨_,rfl⟩;obtain⟨R,hR⟩:∃R,R=q*y:=⟨_,rfl⟩;have HV':=hide (aum (p:=p) (q:=q) HOL.out hxk hyk rfl HV.out);rw[<-hP]at hpx htw HV';rw[<-hR]at hqy htw HV';have ep:p*x=P:=hP.symm;have er:q*y=R:=hR.symm;have hlen:(os++(List.replicate xs.length (0:Int)).drop k).length=xs.length:=by have:=HOL.out;simp;omega
    have hcell:=HT.out.cell HW.out.here k (by rw[hlen];omega);rw[Nat.zero_add]at hcell;generalize (os++(List.replicate xs.length (0:Int)).drop k).getD k 0=old at hcell;have hfree:=HW.out.free k;have HT':=hide (HT.out.set k ((P+R+c)%4294967296));have HW':=hide (HW.out.set k (.int .u32 ((P+R+c)%4294967296)));clear hlen sx sy hcx hxk hyk hP hR;go_wp2;go_quiet ((go_at_call 178;exact Calls.quiet_of_same (ky.out _)))
    go_wp2;go_roundw
    case rel=>exact⟨k+1,(P+R+c)/4294967296,os ++ [(P+R+c)%4294967296],_,by omega,rfl,by go_num,by omega,by have:=HOL.out;simp;omega,aan.2 ⟨HO.out,aai.2 ⟨by omega,aag⟩⟩,HV'.out,HW'.out.drewN _,by simpa using HC.out,by rw[<-aba os _ k _ HOL.out (by simp;omega)];simpa using HT'.out⟩
    case measure=>simp[intOf];omega
   ·have hkn:k=xs.length:=by omega
    subst hkn;have hat2:=HT.out;rw[List.drop_of_length_le (by simp),List.append_nil]at hat2;have how:Ow w.heap.size wr (.slice (some ⟨w.heap.size,0,none⟩) xs.length xs.length) os:=by
     have:=HOL.out;exact⟨_,xs.length,by rw[this],by omega,by unfold maxLen;omega,HO.out,.inr ⟨_,0,_,rfl,Nat.le_refl _,HW.out.here,by rw[HC.out];omega,hat2⟩⟩
    have hbel:Below w.heap.size w wr:=hb1.trans (HW.out.below (Nat.le_refl _));have hfin:val os=p*val xs+q*val ys:=by
     have hv:=HV.out;rw[aa9 xs _ (Nat.le_refl _),aa9 ys _ hl]at hv;have hb:=aab HO.out;rw[HOL.out]at hb;have h0:=H0.out;have h1:=H1.out;have hp:=aay xs.length;have hc0:c=0:=by
      rcases Int.lt_trichotomy c 0 with h|h|h
      ·have:pw xs.length*c<=pw xs.length*(-1):=Int.mul_le_mul_of_nonneg_left (by omega) (by omega);omega
      ·exact h
      ·have:pw xs.length*1<=pw xs.length*c:=Int.mul_le_mul_of_nonneg_left (by omega) (by omega);omega
     rw[hc0,Int.mul_zero,Int.add_zero]at hv;exact hv
    have his:=how.is_cut hfin;clear hat2 hfin;go_wp2_with fail
    refine(aal _ _ _ _ _ how.sl).mono ?_;rintro e w2 ⟨rfl,rfl⟩;go_wp2;go_ret;exact⟨_,rfl,his,hbel⟩
structure Lh (x0 y0 X Y a b c d x y:Int):Prop where
 ex:x=a*x0+b*y0
 ey:y=c*x0+d*y0
 sig:(0<=a/\b<=0/\c<=0/\0<=d/\d*x-b*y=x0/\a*y-c*x=y0)\/(a<=0/\0<=b/\0<=c/\d<=0/\b*y-d*x=x0/\c*x-a*y=y0)
 xa:0<=x+a
 xb:0<=x+b
 yc:0<=y+c
 yd:0<=y+d
 x1:1<=x
 y0':0<=y
 ba : -1073741824<=a/\a<=1073741824
 bb : -1073741824<=b/\b<=1073741824
 bc : -1073741824<=c/\c<=1073741824
 bd : -1073741824<=d/\d<=1073741824
 bx:x<1073741824
 by':y<1073741824
 le:c*X+d*Y<=a*X+b*Y
 nn:0<=c*X+d*Y
 top:a*X+b*Y<=X
 low:c*X+d*Y<=Y
 bz:b≠0->c*X+d*Y<Y
 gcd:Int.gcd (a*X+b*Y) (c*X+d*Y)=Int.gcd X Y
theorem afa{x0 y0 X Y L a b x:Int}(hX:x0*L<=X)(hX2:X<=(x0+1)*L)(hY:y0*L<=Y)(hY2:Y<=(y0+1)*L)(ex:x=a*x0+b*y0)(ha:0<=a)(hb:b<=0):
  (x+b)*L<=a*X+b*Y/\a*X+b*Y<=(x+a)*L:=by
 have e1:a*(x0*L)<=a*X:=Int.mul_le_mul_of_nonneg_left hX ha;have e2:a*X<=a*((x0+1)*L):=Int.mul_le_mul_of_nonneg_left hX2 ha;have e3:(-b)*(y0*L)<=(-b)*Y:=Int.mul_le_mul_of_nonneg_left hY (by omega);have e4:(-b)*Y<=(-b)*((y0+1)*L):=Int.mul_le_mul_of_nonneg_left hY2 (by omega);rw[Int.add_mul,Int.one_mul,Int.mul_add]at e2 e4;rw[Int.neg_mul,Int.neg_mul]at e3;rw[Int.neg_mul,Int.neg_mul,Int.neg_mul]at e4;rw[ex,Int.add_mul,Int.add_mul,Int.add_mul,Int.add_mul,Int.mul_assoc,Int.mul_assoc];constructor <;> omega
theorem agt{x0 y0 X Y L a b x:Int}(hX:x0*L<=X)(hX2:X<=(x0+1)*L)(hY:y0*L<=Y)(hY2:Y<=(y0+1)*L)(ex:x=a*x0+b*y0)(ha:a<=0)(hb:0<=b):
  (x+a)*L<=a*X+b*Y/\a*X+b*Y<=(x+b)*L:=by
 have h:=afa hY hY2 hX hX2 (a:=b) (b:=a) (x:=x) (by omega) hb ha;constructor <;> omega
theorem aeu{L X1 Y1 q u v s t:Int}(hL:0<L)(hu:X1<=u*L)(hv:v*L<=X1)(hs:s*L<=Y1)(ht:Y1<=t*L)(h1:q*t<=v)(h2:u<(q+1)*s)(hq:0<=q):q*Y1<=X1/\X1<(q+1)*Y1:=by
 constructor
 ·have e1:q*Y1<=q*(t*L):=Int.mul_le_mul_of_nonneg_left ht hq;have e2:q*t*L<=v*L:=Int.mul_le_mul_of_nonneg_right h1 (by omega);rw[Int.mul_assoc]at e2;omega
 ·have e1:(q+1)*(s*L)<=(q+1)*Y1:=Int.mul_le_mul_of_nonneg_left hs (by omega);have e2:(u+1)*L<=(q+1)*s*L:=Int.mul_le_mul_of_nonneg_right (by omega) (by omega);rw[Int.mul_assoc,Int.add_mul,Int.one_mul]at e2;omega
theorem ag7(X Y q:Int):Int.gcd Y (X-q*Y)=Int.gcd X Y:=by
 apply Nat.dvd_antisymm
 ·apply Int.dvd_gcd
  ·have h1:=Int.gcd_dvd_left Y (X-q*Y);have h2:=Int.gcd_dvd_right Y (X-q*Y);have h4:=Int.dvd_add h2 (Int.dvd_mul_of_dvd_right (b:=q) h1);have h3:(X-q*Y)+q*Y=X:=by omega
   rw[h3]at h4;exact h4
  ·exact Int.gcd_dvd_left _ _
 ·apply Int.dvd_gcd
  ·exact Int.gcd_dvd_right _ _
  ·exact Int.dvd_sub (Int.gcd_dvd_left _ _) (Int.dvd_mul_of_dvd_right (Int.gcd_dvd_right _ _))
theorem aei{c y x0:Int}(hy:1<=y)(hc:0<=c)(h:c*y<=x0):c<=x0:=by
 have:c*1<=c*y:=Int.mul_le_mul_of_nonneg_left hy hc;omega
theorem Lh.step{x0 y0 X Y L a b c d x y q:Int}(H:Lh x0 y0 X Y a b c d x y)(hL:0<L)(hX:x0*L<=X)(hX2:X<=(x0+1)*L)(hY:y0*L<=Y)(hY2:Y<=(y0+1)*L)(hx0:x0<1073741824)(hy0:y0<1073741824)
  (hc:0<y+c) (hd:0<y+d) (q1:q*(y+c)<=x+a) (q2:x+a<(q+1)*(y+c)) (q3:q*(y+d)<=x+b) (q4:x+b<(q+1)*(y+d)) (hq:0<=q) :
  Lh x0 y0 X Y c d (a-q*c) (b-q*d) y (x-q*y):=by
 have hqy:0<=q*y:=Int.mul_nonneg hq H.y0';have m1:q*(y+c)=q*y+q*c:=Int.mul_add _ _ _;have m2:q*(y+d)=q*y+q*d:=Int.mul_add _ _ _;have eXY:(a-q*c)*X+(b-q*d)*Y=(a*X+b*Y)-q*(c*X+d*Y):=by
  rw[Int.sub_mul,Int.sub_mul,Int.mul_add,Int.mul_assoc,Int.mul_assoc];omega
 have ey':x-q*y=(a-q*c)*x0+(b-q*d)*y0:=by
  rw[Int.sub_mul,Int.sub_mul,Int.mul_assoc,Int.mul_assoc,H.ex,H.ey,Int.mul_add];omega
 have n1:d*(x-q*y)=d*x-q*d*y:=by rw[Int.mul_sub,<-Int.mul_assoc,Int.mul_comm d q]
 have n2:(b-q*d)*y=b*y-q*d*y:=Int.sub_mul _ _ _;have n3:c*(x-q*y)=c*x-q*c*y:=by rw[Int.mul_sub,<-Int.mul_assoc,Int.mul_comm c q]
 have n4:(a-q*c)*y=a*y-q*c*y:=Int.sub_mul _ _ _;have key:q*(c*X+d*Y)<=a*X+b*Y/\a*X+b*Y<(q+1)*(c*X+d*Y):=by
  rcases H.sig with⟨s1,s2,s3,s4,_,_⟩|⟨s1,s2,s3,s4,_,_⟩
  ·have b1:=afa hX hX2 hY hY2 H.ex s1 s2;have b2:=agt hX hX2 hY hY2 H.ey s3 s4;exact aeu hL b1.2 b1.1 b2.1 b2.2 q3 q2 hq
  ·have b1:=agt hX hX2 hY hY2 H.ex s1 s2;have b2:=afa hX hX2 hY hY2 H.ey s3 s4;exact aeu hL b1.2 b1.1 b2.1 b2.2 q1 q4 hq
 have key2:(q+1)*(c*X+d*Y)=q*(c*X+d*Y)+(c*X+d*Y):=by rw[Int.add_mul,Int.one_mul]
 have hle:=H.le;have hnn:=H.nn;have htop:=H.top;have hlow:=H.low;have hg:=ag7 (a*X+b*Y) (c*X+d*Y) q;rw[H.gcd,<-eXY]at hg;have hsig:((0<=c/\d<=0/\a-q*c<=0/\0<=b-q*d/\(b-q*d)*y-d*(x-q*y)=x0/\c*(x-q*y)-(a-q*c)*y=y0)\/(c<=0/\0<=d/\0<=a-q*c/\b-q*d<=0/\d*(x-q*y)-(b-q*d)*y=x0/\(a-q*c)*y-c*(x-q*y)=y0))/\1<=y/\0<=x-q*y:=by
  rcases H.sig with⟨s1,s2,s3,s4,s5,s6⟩|⟨s1,s2,s3,s4,s5,s6⟩
  ·have p1:q*c<=0:=by
    have:q*c<=q*0:=Int.mul_le_mul_of_nonneg_left s3 hq;omega
   have p2:0<=q*d:=Int.mul_nonneg hq s4;exact⟨.inr ⟨s3,s4,by omega,by omega,by omega,by omega⟩,by omega,by omega⟩
  ·have p1:0<=q*c:=Int.mul_nonneg hq s3;have p2:q*d<=0:=by
    have:q*d<=q*0:=Int.mul_le_mul_of_nonneg_left s4 hq;omega
   exact⟨.inl ⟨s3,s4,by omega,by omega,by omega,by omega⟩,by omega,by omega⟩
 obtain⟨hsg,hy1,hyy⟩:=hsig;have hbnd:(-1073741824<=a-q*c/\a-q*c<=1073741824)/\(-1073741824<=b-q*d/\b-q*d<=1073741824):=by
  rcases hsg with⟨s1,s2,s3,s4,s5,s6⟩|⟨s1,s2,s3,s4,s5,s6⟩
  ·have p1:0<=c*(x-q*y):=Int.mul_nonneg s1 hyy;have p2:0<=(-d)*(x-q*y):=Int.mul_nonneg (by omega) hyy;rw[Int.neg_mul]at p2;have f1:=aei (c:=-(a-q*c)) (x0:=y0) hy1 (by omega) (by rw[Int.neg_mul];omega);have f2:=aei (c:=b-q*d) (x0:=x0) hy1 (by omega) (by omega);omega
  ·have p1:0<=(-c)*(x-q*y):=Int.mul_nonneg (by omega) hyy;have p2:0<=d*(x-q*y):=Int.mul_nonneg s2 hyy;rw[Int.neg_mul]at p1;have f1:=aei (c:=a-q*c) (x0:=y0) hy1 (by omega) (by omega);have f2:=aei (c:=-(b-q*d)) (x0:=x0) hy1 (by omega) (by rw[Int.neg_mul];omega);omega
 refine⟨H.ey,ey',?_,H.yc,H.yd,by omega,by omega,hy1,hyy,H.bc,H.bd,hbnd.1,hbnd.2,H.by',?_,?_,?_,?_,?_,?_,hg⟩
 ·rcases hsg with h|h
  ·exact .inl ⟨h.1,h.2.1,h.2.2.1,h.2.2.2.1,h.2.2.2.2.1,h.2.2.2.2.2⟩
  ·exact .inr ⟨h.1,h.2.1,h.2.2.1,h.2.2.2.1,h.2.2.2.2.1,h.2.2.2.2.2⟩
 ·have:=H.bx;omega
 ·rw[eXY];omega
 ·rw[eXY];omega
 ·omega
 ·rw[eXY];omega
 ·intro _;rw[eXY];omega
theorem Lh.start{x0 y0 X Y:Int}(h1:1<=x0)(h2:0<=y0)(h3:x0<1073741824)(h4:y0<1073741824)(hY:0<=Y)(hle:Y<=X):Lh x0 y0 X Y 1 0 0 1 x0 y0:=by
 refine⟨by omega,by omega,.inl ⟨by omega,by omega,by omega,by omega,by omega,by omega⟩,by omega,by omega,by omega,by omega,h1,h2,by omega,by omega,by omega,by omega,h3,h4,by omega,by omega,by omega,by omega,fun h=>absurd rfl h,?_⟩;rw[Int.one_mul,Int.zero_mul,Int.zero_mul,Int.one_mul,Int.add_zero,Int.zero_add]
end Lm
namespace Lm
open Go.RowKit
def Fac(w:World)(g:Nat)(a b c d:Int):Prop:=w.heap[g]? = some (.cells #[.int .i64 a,.int .i64 b,.int .i64 c,.int .i64 d] 216 (0,0))
theorem Fac.facts{w:World}{g:Nat}{a b c d:Int}(h:Fac w g a b c d):(w.cell? ⟨g,0,none⟩=some (.int .i64 a)/\w.cell? ⟨g,1,none⟩=some (.int .i64 b)/\w.cell? ⟨g,2,none⟩=some (.int .i64 c)/\w.cell? ⟨g,3,none⟩=some (.int .i64 d))/\(w.frozen? ⟨g,0,none⟩=false/\w.frozen? ⟨g,1,none⟩=false/\w.frozen? ⟨g,2,none⟩=false/\w.frozen? ⟨g,3,none⟩=false):=
 ⟨⟨by rw[cell_of_row _ _ _ _ _ (0,0) h];rfl,by rw[cell_of_row _ _ _ _ _ (0,0) h];rfl,by rw[cell_of_row _ _ _ _ _ (0,0) h];rfl,by rw[cell_of_row _ _ _ _ _ (0,0) h];rfl⟩,frozen_of_row _ _ _ _ _ h,frozen_of_row _ _ _ _ _ h,frozen_of_row _ _ _ _ _ h,frozen_of_row _ _ _ _ _ h⟩
theorem agc{u s:Int}(hs:0<s):u/s*s<=u/\u<(u/s+1)*s:=by
 have h1:=Int.mul_ediv_add_emod u s;have h2:=Int.emod_nonneg u (show s≠0 by omega);have h3:=Int.emod_lt_of_pos u hs;rw[Int.add_mul,Int.one_mul,Int.mul_comm (u/s) s];omega
theorem ai4{u s:Int}(hu:0<=u)(hs:0<s):0<=u/s/\u/s<=u:=⟨Int.ediv_nonneg hu (by omega),Int.ediv_le_self _ hu⟩
theorem Lh.less{x0 y0 X Y a b c d x y q:Int}(H:Lh x0 y0 X Y a b c d x y)(hq:0<=q)(q2:x+a<(q+1)*(y+c))(q4:x+b<(q+1)*(y+d)):x-q*y<y/\q*y<=q*y:=by
 have m1:(q+1)*(y+c)=q*y+q*c+(y+c):=by rw[Int.add_mul,Int.one_mul,Int.mul_add]
 have m2:(q+1)*(y+d)=q*y+q*d+(y+d):=by rw[Int.add_mul,Int.one_mul,Int.mul_add]
 rcases H.sig with⟨s1,s2,s3,s4,_,_⟩|⟨s1,s2,s3,s4,_,_⟩
 ·have p1:q*c<=0:=by
   have:q*c<=q*0:=Int.mul_le_mul_of_nonneg_left s3 hq;omega
  omega
 ·have p2:q*d<=0:=by
   have:q*d<=q*0:=Int.mul_le_mul_of_nonneg_left s4 hq;omega
  omega
theorem Fac.set{w:World}{g:Nat}{a b c d:Int}(h:Fac w g a b c d)(a' b' c' d':Int):Fac ((((w.setCell ⟨g,0,none⟩ (.int .i64 a')).setCell ⟨g,1,none⟩ (.int .i64 b')).setCell ⟨g,2,none⟩ (.int .i64 c')).setCell ⟨g,3,none⟩ (.int .i64 d')) g a' b' c' d':=by
 have h1:=heap_setCell_same w g 0 _ _ (.int .i64 a') h;have h2:=heap_setCell_same _ g 1 _ _ (.int .i64 b') h1;have h3:=heap_setCell_same _ g 2 _ _ (.int .i64 c') h2;have h4:=heap_setCell_same _ g 3 _ _ (.int .i64 d') h3;exact h4
theorem Fac.other{w:World}{g k:Nat}{a b c d:Int}(H:Fac w g a b c d)(hn:g≠k)(a' b' c' d':Value):Fac ((((w.setCell ⟨k,0,none⟩ a').setCell ⟨k,1,none⟩ b').setCell ⟨k,2,none⟩ c').setCell ⟨k,3,none⟩ d') g a b c d:=
 (heap_setCell_other _ ⟨k,3,none⟩ g d' hn).trans ((heap_setCell_other _ ⟨k,2,none⟩ g c' hn).trans ((heap_setCell_other _ ⟨k,1,none⟩ g b' hn).trans ((heap_setCell_other w ⟨k,0,none⟩ g a' hn).trans H)))
theorem adm{B:Nat}{w w1:World}{g:Nat}(hb:Below B w w1)(hg:B<=g)(a b c d:Value):Below B w ((((w1.setCell ⟨g,0,none⟩ a).setCell ⟨g,1,none⟩ b).setCell ⟨g,2,none⟩ c).setCell ⟨g,3,none⟩ d):=(((hb.setCell hg _).setCell hg _).setCell hg _).setCell hg _
theorem ajg(w:World)(x0 y0 X Y L:Int)(h1:1<=x0)(h2:0<=y0)(h3:x0<1073741824)(h4:y0<1073741824)(hY0:0<=Y)(hle:Y<=X)(hL:0<L)(hX:x0*L<=X)(hX2:X<=(x0+1)*L)(hY:y0*L<=Y)(hY2:Y<=(y0+1)*L):
  Calls Tryz.prog 174 #[.int .i64 x0,.int .i64 y0] w fun e w'=>∃a b c d x y,e=.returned (.agg #[.int .i64 a,.int .i64 b,.int .i64 c,.int .i64 d])/\Lh x0 y0 X Y a b c d x y/\Below w.heap.size w w':=by
 have ST:=hide (Lh.start h1 h2 h3 h4 hY0 hle);have e0:∃w0:World,(w.alloc (.cells #[.int .i64 0,.int .i64 0,.int .i64 0,.int .i64 0] 216)).alloc (.cells #[.int .i64 1,.int .i64 0,.int .i64 0,.int .i64 1] 216)=w0/\Fac w0 w.heap.size 0 0 0 0/\Fac w0 (w.heap.size+1) 1 0 0 1/\Below w.heap.size w w0:=by
  have h1:=heap_alloc_new w (.cells #[.int .i64 0,.int .i64 0,.int .i64 0,.int .i64 0] 216);have b1:Below w.heap.size w (w.alloc (.cells #[.int .i64 0,.int .i64 0,.int .i64 0,.int .i64 0] 216)):=(Below.refl _ _).alloc (Nat.le_refl _) _;have h2:=heap_alloc_new (w.alloc (.cells #[.int .i64 0,.int .i64 0,.int .i64 0,.int .i64 0] 216)) (.cells #[.int .i64 1,.int .i64 0,.int .i64 0,.int .i64 1] 216);have b2:Below (w.alloc (.cells #[.int .i64 0,.int .i64 0,.int .i64 0,.int .i64 0] 216)).heap.size (w.alloc (.cells #[.int .i64 0,.int .i64 0,.int .i64 0,.int .i64 0] 216)) ((w.alloc (.cells #[.int .i64 0,.int .i64 0,.int .i64 0,.int .i64 0] 216)).alloc (.cells #[.int .i64 1,.int .i64 0,.int .i64 0,.int .i64 1] 216)):=(Below.refl _ _).alloc (Nat.le_refl _) _;refine⟨_,rfl,(b2.block _ (by simp)).trans h1,?_,b1.trans (b2.mono b1.size)⟩;have h3:=h2;rw[World.size_alloc]at h3;exact h3
 obtain⟨w0,e0,hR0,hF0,hb0⟩:=e0;have E0:=hide e0;clear e0;go_enter Tryz.func174,Tryz.ntmps174
 go_wp2;rw[E0.out];go_loopw [0,1] (fun xv yv wr=>∃a b c d x y:Int,xv=.int .i64 x/\yv=.int .i64 y/\Lh x0 y0 X Y a b c d x y/\Fac wr (w.heap.size+1) a b c d/\Fac wr w.heap.size 0 0 0 0/\Below w.heap.size w wr) (fun _ yv _=>(intOf yv).toNat)
 case atStart=>exact⟨1,0,0,1,x0,y0,rfl,rfl,ST.out,hF0,hR0,hb0⟩
 case round=>
  obtain⟨a,b,c,d,x,y,rfl,rfl,hD,hF,hR,HB⟩:=hrel;have D:=hide hD;have ba:=hD.ba;have bb:=hD.bb;have bc:=hD.bc;have bd:=hD.bd;have bx:=hD.bx;have by':=hD.by';have x1:=hD.x1;have y1:=hD.y0';have pxa:=hD.xa;have pxb:=hD.xb;have pyc:=hD.yc;have pyd:=hD.yd;clear hD;by_cases hc:y+c=0
  ·have hcb:((y+c) != 0)=false:=by simp[hc]
   have HC:=hide hc;clear hc;obtain⟨⟨fa,fb,fc,fd⟩,_⟩:=hF.facts;obtain⟨⟨ra,rb,rc,rd⟩,re,rf,rg,rh⟩:=hR.facts;have XF:=hide (hR.set a b c d).facts.1;have Z:=hide (adm HB (Nat.le_refl _) (.int .i64 a) (.int .i64 b) (.int .i64 c) (.int .i64 d));go_wp2;refine bodyPost_ret (v:=.agg #[.int .i64 a,.int .i64 b,.int .i64 c,.int .i64 d]) ?_ rfl ⟨a,b,c,d,x,y,rfl,D.out,Z.out⟩;simp[results,Tryz.results174,go_sem,XF.out.1,XF.out.2.1,XF.out.2.2.1,XF.out.2.2.2]
  ·have hcb:((y+c) != 0)=true:=by simp[hc]
   have hcp:0<y+c:=by omega
   clear hc;by_cases hd:y+d=0
   ·have hdb:((y+d) != 0)=false:=by simp[hd]
    have HD:=hide hd;clear hd;obtain⟨⟨fa,fb,fc,fd⟩,_⟩:=hF.facts;obtain⟨⟨ra,rb,rc,rd⟩,re,rf,rg,rh⟩:=hR.facts;have XF:=hide (hR.set a b c d).facts.1;have Z:=hide (adm HB (Nat.le_refl _) (.int .i64 a) (.int .i64 b) (.int .i64 c) (.int .i64 d));go_wp2;refine bodyPost_ret (v:=.agg #[.int .i64 a,.int .i64 b,.int .i64 c,.int .i64 d]) ?_ rfl ⟨a,b,c,d,x,y,rfl,D.out,Z.out⟩;simp[results,Tryz.results174,go_sem,XF.out.1,XF.out.2.1,XF.out.2.2.1,XF.out.2.2.2]
   ·have hdb:((y+d) != 0)=true:=by simp[hd]
    have hdp:0<y+d:=by omega
    clear hd;have f1:=agc (u:=x+a) hcp;have f2:=agc (u:=x+b) hdp;have g1:=ai4 pxa hcp;have g2:=ai4 pxb hdp;have t1:(x+a).tdiv (y+c)=(x+a)/(y+c):=Int.tdiv_eq_ediv_of_nonneg pxa;have t2:(x+b).tdiv (y+d)=(x+b)/(y+d):=Int.tdiv_eq_ediv_of_nonneg pxb;obtain⟨q,hq⟩:∃q,(x+a)/(y+c)=q:=⟨_,rfl⟩;obtain⟨q',hq'⟩:∃q,(x+b)/(y+d)=q:=⟨_,rfl⟩;rw[hq]at f1 g1 t1;rw[hq']at f2 g2 t2;clear hq hq';by_cases hqq:q=q'
    ·subst hqq;have ST':=hide (D.out.step hL hX hX2 hY hY2 h3 h4 hcp hdp f1.1 f1.2 f2.1 f2.2 g1.1);have LS:=(D.out.less g1.1 f1.2 f2.2).1;have bc':=ST'.out.bc;have bd':=ST'.out.bd;have by2:=ST'.out.y0';obtain⟨P1,hP1⟩:∃P,q*c=P:=⟨_,rfl⟩;obtain⟨P2,hP2⟩:∃P,q*d=P:=⟨_,rfl⟩;obtain⟨P3,hP3⟩:∃P,q*y=P:=⟨_,rfl⟩;rw[hP1]at ST' bc';rw[hP2]at ST' bd';rw[hP3]at ST' LS by2;obtain⟨⟨fa,fb,fc,fd⟩,fe,ff,fg,fh⟩:=hF.facts;have HF':=hide (hF.set c d (a-P1) (b-P2));have HR':=hide (hR.other (show w.heap.size≠w.heap.size+1 by omega) (.int .i64 c) (.int .i64 d) (.int .i64 (a-P1)) (.int .i64 (b-P2)));have HB':=hide (adm HB (Nat.le_succ _) (.int .i64 c) (.int .i64 d) (.int .i64 (a-P1)) (.int .i64 (b-P2)));have p3:0<=P3:=by rw[<-hP3];exact Int.mul_nonneg g1.1 y1
     clear f1 f2;go_wp2;go_roundw
     case rel=>exact⟨c,d,a-P1,b-P2,y,x-P3,rfl,rfl,ST'.out,HF'.out,HR'.out,HB'.out⟩
     case measure=>simp[intOf];omega
    ·have hqb:(q != q')=true:=by simp[hqq]
     clear f1 f2;obtain⟨⟨fa,fb,fc,fd⟩,_⟩:=hF.facts;obtain⟨⟨ra,rb,rc,rd⟩,re,rf,rg,rh⟩:=hR.facts;have XF:=hide (hR.set a b c d).facts.1;have Z:=hide (adm HB (Nat.le_refl _) (.int .i64 a) (.int .i64 b) (.int .i64 c) (.int .i64 d));go_wp2;refine bodyPost_ret (v:=.agg #[.int .i64 a,.int .i64 b,.int .i64 c,.int .i64 d]) ?_ rfl ⟨a,b,c,d,x,y,rfl,D.out,Z.out⟩;simp[results,Tryz.results174,go_sem,XF.out.1,XF.out.2.1,XF.out.2.2.1,XF.out.2.2.2]
end Lm
namespace Lm
open Go.RowKit
theorem Fac.below{w w':World}{g:Nat}{a b c d:Int}(h:Fac w g a b c d)(hb:Below w.heap.size w w'):Fac w' g a b c d:=(hb.block g (aaa h)).trans h
theorem ab7{w w' w'':World}(h:Below w.heap.size w w')(h2:Below w'.heap.size w' w''):Below w.heap.size w w'':=h.trans (h2.mono h.size)
theorem ap3{X Y:Int}{l m:Nat}(hX:IsBits X l)(hl:l=m+30)(hY0:0<=Y)(hle:Y<=X):
  X/p2 m%1073741824=X/p2 m/\Y/p2 m%1073741824=Y/p2 m/\1<=X/p2 m/\0<=Y/p2 m/\X/p2 m<1073741824/\Y/p2 m<1073741824/\X/p2 m*p2 m<=X/\X<=(X/p2 m+1)*p2 m/\Y/p2 m*p2 m<=Y/\Y<=(Y/p2 m+1)*p2 m:=by
 have hp:=abk m;have hlow:p2 (l-1)<=X:=by rcases hX.2 with h|h <;> omega
 have h29:p2 (l-1)=p2 m*p2 29:=by rw[<-ab0];congr 1;omega
 have h30:p2 l=p2 m*p2 30:=by rw[<-ab0,hl]
 rw[show p2 29=536870912 from by decide]at h29;rw[show p2 30=1073741824 from by decide]at h30;have hX1:=hX.1;have fx:=agc (u:=X) (s:=p2 m) (by omega);have fy:=agc (u:=Y) (s:=p2 m) (by omega);have x0:0<=X/p2 m:=Int.ediv_nonneg (by omega) (by omega);have y0:0<=Y/p2 m:=Int.ediv_nonneg hY0 (by omega);have xl:X/p2 m<1073741824:=Int.ediv_lt_of_lt_mul (by omega) (by rw[Int.mul_comm];omega);have yl:Y/p2 m<1073741824:=Int.ediv_lt_of_lt_mul (by omega) (by rw[Int.mul_comm];omega);have x1:1<=X/p2 m:=by
  apply Int.le_ediv_of_mul_le (by omega);omega
 refine⟨Int.emod_eq_of_lt x0 xl,Int.emod_eq_of_lt y0 yl,x1,y0,xl,yl,fx.1,by omega,fy.1,by omega⟩
theorem ahy(w:World)(B:Nat)(hB:B<=w.heap.size)(a1 a2:Option Addr)(c1 c2:Nat)(xs ys:List Int)(hx:Ow B w (.slice a1 xs.length c1) xs)(hy:Ow B w (.slice a2 ys.length c2) ys)(hcy:Canon ys)(hm:xs.length<=400000)(h3:2<ys.length)(hle:val ys<=val xs):
  Calls Tryz.prog 150 #[.slice a1 xs.length c1,.slice a2 ys.length c2] w fun e w'=>∃v1 v2 X' Y',e=.returned (.tuple #[v1,v2])/\Is B w' v1 X'/\Is B w' v2 Y'/\Y'<=X'/\Y'<val ys/\X'<=val xs/\Int.gcd X' Y'=Int.gcd (val xs) (val ys)/\Below w.heap.size w w':=by
 obtain⟨_,x1,x2,x3⟩:=hx.sl.parts;obtain⟨_,y1,y2,y3⟩:=hy.sl.parts;have hY0:=(aab y3).1;have hlen:ys.length<=xs.length:=abt x3 hcy hle;have hX64:18446744073709551616<=val xs:=by
  have h9:=abr hcy (by intro e;subst e;simp at h3);have h8:=aa0 (m:=2) (n:=ys.length-1) (by omega);rw[show pw 2=18446744073709551616 from by decide]at h8;omega
 have sx:=hx.sl;have sy:=hy.sl;go_enter Tryz.func150,Tryz.ntmps150
 go_wp2_with fail
 refine(ae2 _ _ _ _ xs sx (by omega)).mono ?_;rintro e w' ⟨l,rfl,t1,rfl⟩;have hl65:65<=l:=by
  apply Classical.byContradiction;intro hn;have h9:=acw (m:=l) (n:=64) (by omega);rw[show p2 64=18446744073709551616 from by decide]at h9;have:=t1.1;omega
 have hlm:l<=32*xs.length:=by
  have h9:=(aab x3).2;rw[adl]at h9;apply Classical.byContradiction;intro hn;have h8:=acw (m:=32*xs.length) (n:=l-1) (by omega);rcases t1.2 with h|h <;> omega
 obtain⟨m,hm'⟩:∃m,l=m+30:=⟨l-30,by omega⟩;have WF:=hide (ap3 t1 hm' hY0 hle);have el:(l:Int)-30=(m:Nat):=by omega
 have kx:Hid (∀w2:World,Sl w2 (.slice a1 xs.length c1) xs->Calls Tryz.prog 175 #[.slice a1 xs.length c1,.int .i64 m] w2 fun e w3=>e=.returned (.int .u32 (val xs/p2 m))/\w3=w2):=by
  intro w2 h2;have h9:=ahx w2 a1 _ c1 xs h2 m (by omega);rwa[WF.out.1]at h9
 have ky:Hid (∀w2:World,Sl w2 (.slice a2 ys.length c2) ys->Calls Tryz.prog 175 #[.slice a2 ys.length c2,.int .i64 m] w2 fun e w3=>e=.returned (.int .u32 (val ys/p2 m))/\w3=w2):=by
  intro w2 h2;have h9:=ahx w2 a2 _ c2 ys h2 m (by omega);rwa[WF.out.2.1]at h9
 obtain⟨u,hu⟩:∃u,val xs/p2 m=u:=⟨_,rfl⟩;obtain⟨v,hv⟩:∃v,val ys/p2 m=v:=⟨_,rfl⟩;rw[hu]at WF kx;rw[hv]at WF ky;have u1:=WF.out.2.2.1;have v1:=WF.out.2.2.2.1;have u2:=WF.out.2.2.2.2.1;have v2:=WF.out.2.2.2.2.2.1;have kl:Hid (∀w2:World,Calls Tryz.prog 174 #[.int .i64 u,.int .i64 v] w2 fun e w3=>∃a b c d x y,e=.returned (.agg #[.int .i64 a,.int .i64 b,.int .i64 c,.int .i64 d])/\Lh u v (val xs) (val ys) a b c d x y/\Below w2.heap.size w2 w3):=by
  intro w2;have hp:=abk m;exact ajg w2 u v (val xs) (val ys) (p2 m) u1 v1 u2 v2 hY0 hle (by omega) WF.out.2.2.2.2.2.2.1 WF.out.2.2.2.2.2.2.2.1 WF.out.2.2.2.2.2.2.2.2.1 WF.out.2.2.2.2.2.2.2.2.2
 clear t1 hm' hu hv x3 y3;go_wp2_with fail
 refine(kx.out _ sx).mono ?_;rintro e w2 ⟨rfl,rfl⟩;go_wp2_with fail
 refine(ky.out _ sy).mono ?_;rintro e w2 ⟨rfl,rfl⟩;go_wp2_with fail
 refine(kl.out _).mono ?_;rintro e w3 ⟨a,b,c,d,x,y,rfl,hD,hb3⟩;have D:=hide hD;have hb4:Below w3.heap.size w3 (w3.alloc (.cells #[.int .i64 a,.int .i64 b,.int .i64 c,.int .i64 d] 216)):=(Below.refl _ _).alloc (Nat.le_refl _) _;have HZ:Below w2.heap.size w2 (w3.alloc (.cells #[.int .i64 a,.int .i64 b,.int .i64 c,.int .i64 d] 216)):=ab7 hb3 hb4;have FZ:Fac (w3.alloc (.cells #[.int .i64 a,.int .i64 b,.int .i64 c,.int .i64 d] 216)) w3.heap.size a b c d:=heap_alloc_new w3 _;obtain⟨w4,e4⟩:∃w4,w3.alloc (.cells #[.int .i64 a,.int .i64 b,.int .i64 c,.int .i64 d] 216)=w4:=⟨_,rfl⟩;rw[e4]at HZ FZ;have E4:=hide e4;clear e4 hD hb4;have hx4:=hx.below HZ;have hy4:=hy.below HZ;by_cases hb:b=0
 ·subst hb;have G:=hide (ag7 (val xs) (val ys) (val xs/val ys));have hpos:0<val ys:=by
   have h9:=abr hcy (by intro e;subst e;simp at h3);have:=aay (ys.length-1);omega
  have hmod:val xs-val xs/val ys*val ys=val xs%val ys:=by
   have:=Int.mul_ediv_add_emod (val xs) (val ys);rw[Int.mul_comm]at this;omega
  rw[hmod]at G;have M:=hide (And.intro (Int.emod_nonneg (val xs) (show val ys≠0 by omega)) (Int.emod_lt_of_pos (val xs) hpos));clear hmod;go_wp2_with fail
  rw[E4.out];refine(ae8 _ _ _ _ _ _ _ xs ys hx4.sl hy4.sl (by omega) (by omega)).mono ?_;rintro e w5 ⟨v1',v2',rfl,i1,i2,_,hb5⟩;have R1:Hid (Is B w5 (.slice a2 ys.length c2) (val ys)):=⟨ys,hy4.below hb5,hcy,rfl⟩;have R2:=hide (i2.mono (B':=B) (by have:=HZ.size;omega));have Z:=hide (ab7 HZ hb5);go_wp2;go_ret2
  exact⟨_,_,val ys,val xs%val ys,rfl,R1.out,R2.out,by have:=M.out;omega,M.out.2,hle,G.out,Z.out⟩
 ·have hbb:(b==0)=false:=by simp[hb]
  obtain⟨⟨fa,fb,fc,fd⟩,fe,ff,fg,fh⟩:=FZ.facts;have VX:=(aab hx.sl.parts.2.2.2).2;have sgn1:(0<=a/\b<=0)\/(a<=0/\0<=b):=by rcases D.out.sig with h|h <;> omega
  have sgn2:(0<=c/\d<=0)\/(c<=0/\0<=d):=by rcases D.out.sig with h|h <;> omega
  have SG1:=hide sgn1;have SG2:=hide sgn2;have P1:Hid (0<=a*val xs+b*val ys/\a*val xs+b*val ys<pw xs.length):=by have h1:=D.out.le;have h2:=D.out.nn;have h4:=D.out.top;show _/\_;omega
  have P2:Hid (0<=c*val xs+d*val ys/\c*val xs+d*val ys<pw xs.length):=by have h1:=D.out.le;have h2:=D.out.nn;have h4:=D.out.top;show _/\_;omega
  have HB0:=hide hb;clear sgn1 sgn2 VX hb;go_wp2;rw[E4.out];go_region_held3 (fun w'=>w'.cell? ⟨w3.heap.size,0,none⟩=some (.int .i64 a)/\w'.cell? ⟨w3.heap.size,1,none⟩=some (.int .i64 b)/\w'.cell? ⟨w3.heap.size,2,none⟩=some (.int .i64 c)/\w'.cell? ⟨w3.heap.size,3,none⟩=some (.int .i64 d)) (go_keep) (first
   | (go_at_call 176;have _hq:=hb5';refine(ags _ _ _ _ _ _ _ xs ys ((hx4.below hb5').sl.below (by repeat(first|exact Below.refl _ _|refine Below.drew ?_))) ((hy4.below hb5').sl.below (by repeat(first|exact Below.refl _ _|refine Below.drew ?_))) (by omega) hlen c d D.out.bc D.out.bd SG2.out P2.out.1 P2.out.2).mono ?_;rintro e w6 ⟨v6,rfl,i6,hb6⟩;have hb6':Below w5.heap.size w5 w6:=(show Below w5.heap.size w5 _ by repeat(first|exact Below.refl _ _|refine Below.drew ?_)).trans hb6;have FZ6:=FZ5.below hb6';obtain⟨⟨ha,hb,hc,hd⟩,he,hf,hg,hh⟩:=FZ6.facts)
   | (go_at_call 176;refine(ags _ _ _ _ _ _ _ xs ys (hx4.sl.below (by repeat(first|exact Below.refl _ _|refine Below.drew ?_))) (hy4.sl.below (by repeat(first|exact Below.refl _ _|refine Below.drew ?_))) (by omega) hlen a b D.out.ba D.out.bb SG1.out P1.out.1 P1.out.2).mono ?_;rintro e w5 ⟨v5,rfl,i5,hb5⟩;have hb5':Below w4.heap.size w4 w5:=(show Below w4.heap.size w4 _ by repeat(first|exact Below.refl _ _|refine Below.drew ?_)).trans hb5;have FZ5:=FZ.below hb5';obtain⟨⟨ga,gb,gc,gd⟩,ge,gf,gg,gh⟩:=FZ5.facts))
  all_goals
   have R1:=hide ((i5.below hb6').mono (B':=B) (show B<=w4.heap.size by have:=HZ.size;omega));have R2:=hide (i6.mono (B':=B) (show B<=w5.heap.size by have:=HZ.size;have:=hb5'.size;omega));have Z:=hide (ab7 HZ (ab7 hb5' hb6'));clear fa fb fc fd fe ff fg fh ga gb gc gd ge gf gg gh ha hb hc hd he hf hg hh;go_wp2;go_ret2
   exact⟨_,_,_,_,rfl,R1.out,R2.out,D.out.le,D.out.bz HB0.out,D.out.top,D.out.gcd,Z.out⟩
end Lm
namespace Lm
open Go.RowKit
theorem asd{rs:List Int}(h:¬2<rs.length):rs.getD 1 0*4294967296+rs.getD 0 0=val rs:=by
 match rs,h with
 | [],_=>rfl
 | [x],_=>simp[val]
 | [x,y],_=>simp[val];omega
 |_::_::_::_,h=>simp at h
theorem ap4{a b:Int}(h:a=b):Ending.returned (.tuple #[.int .u64 a,.bool true])=.returned (.tuple #[.int .u64 b,.bool true]):=by rw[h]
theorem adn{rs:List Int}(h:Limb rs)(h2:rs.length<=2):0<=val rs/\val rs<18446744073709551616:=by
 have h1:=aab h;have h3:=aa0 (m:=rs.length) (n:=2) (by omega);rw[show pw 2=18446744073709551616 from by decide]at h3;omega
theorem ado(w:World)(ao:Option Addr)(n cap:Nat)(xs:List Int)(hx:Sl w (.slice ao n cap) xs)(hs:xs.length<=2):
  Calls Tryz.prog 152 #[.slice ao n cap] w fun e w'=>e=.returned (.tuple #[.int .u64 (val xs),.bool true])/\w'=w:=by
 obtain⟨rfl,h1,h2,h3⟩:=hx.parts;have t1:=aat xs;have kc:=hide (aal w ao _ cap xs hx);have hcn:=aaw h3;have hX:(xs.take (tl xs)).length=tl xs:=by simp;omega
 have h2':¬(2:Int)<((tl xs:Nat):Int):=by omega
 have E3:=hide (asd (rs:=xs.take (tl xs)) (by omega));rw[aad]at E3;have b1:=aaf hcn.1 1;have b0:=aaf hcn.1 0;have k1:=abp w _ _ hx.cut 1;have k0:=abp w _ _ hx.cut 0;generalize (xs.take (tl xs)).getD 1 0=y1 at E3 b1 k1;generalize (xs.take (tl xs)).getD 0 0=y0 at E3 b0 k0;have K1:=hide k1;have K0:=hide k0;have hor:bits .or .u64 (y1*4294967296) y0=y1*4294967296+y0:=adq y1 y0 b1.1 b1.2 b0.1 b0.2;clear hcn hX k1 k0;go_enter Tryz.func152,Tryz.ntmps152
 go_wp2_with fail
 refine(kc.out).mono ?_;rintro e w' ⟨rfl,rfl⟩;go_wp2_with fail
 refine(K1.out).mono ?_;rintro e w' ⟨rfl,rfl⟩;go_wp2_with fail
 refine(K0.out).mono ?_;rintro e w' ⟨rfl,rfl⟩;go_wp2;go_ret2
 exact⟨ap4 E3.out,rfl⟩
theorem aik(m n:Int):Int.gcd n (m%n)=Int.gcd m n:=by
 have h1:=ag7 m n (m/n);have h2:=Int.mul_ediv_add_emod m n;rw[Int.mul_comm]at h2;rw[show m-m/n*n=m%n by omega]at h1;exact h1
theorem auo{a b:Int}(h:a=b):Ending.returned (.int .u64 a)=.returned (.int .u64 b):=by rw[h]
theorem afw(w:World)(m n:Int)(hm:0<=m/\m<18446744073709551616)(hn:0<=n/\n<18446744073709551616):
  Calls Tryz.prog 153 #[.int .u64 m,.int .u64 n] w fun e w'=>e=.returned (.int .u64 (Int.gcd m n))/\Below w.heap.size w w':=by
 go_enter Tryz.func153,Tryz.ntmps153
 go_wp2;go_loopw [0,1] (fun mv nv wr=>∃a b:Int,mv=.int .u64 a/\nv=.int .u64 b/\(0<=a/\a<18446744073709551616)/\(0<=b/\b<18446744073709551616)/\Int.gcd a b=Int.gcd m n/\Below w.heap.size w wr) (fun _ nv _=>(intOf nv).toNat)
 case atStart=>exact⟨m,n,rfl,rfl,hm,hn,rfl,Below.refl _ _⟩
 case round=>
  obtain⟨a,b,rfl,rfl,ha,hb,hg,HB⟩:=hrel;have HG:=hide hg;clear hg;by_cases h0:b=0
  ·subst h0;have HF:Hid (a=(Int.gcd m n:Int)):=by
    show _=_;rw[<-HG.out,Int.gcd_zero_right];omega
   go_wp2;go_ret;exact⟨auo HF.out,HB⟩
  ·have hbb:(b != 0)=true:=by simp[h0]
   have t1:a.tmod b=a%b:=Int.tmod_eq_emod_of_nonneg ha.1;have r0:=Int.emod_nonneg a h0;have r1:=Int.emod_lt_of_pos a (show 0<b by omega);have HG':=hide ((aik a b).trans HG.out);go_wp2;go_quiet (fail)
   go_wp2;go_roundw
   case rel=>exact⟨b,a%b,rfl,rfl,hb,by omega,HG'.out,below_drewN HB _⟩
   case measure=>simp[intOf];omega
theorem Is.ow{B:Nat}{w:World}{v:Value}{x:Int}(h:Is B w v x):∃ao cap rs,v=.slice ao rs.length cap/\Ow B w (.slice ao rs.length cap) rs/\Canon rs/\val rs=x:=by
 obtain⟨rs,ho,hc,hv⟩:=h;obtain⟨ao,cap,rfl,h1,h2,h3,h4⟩:=ho;exact⟨ao,cap,rs,rfl,⟨ao,cap,rfl,h1,h2,h3,h4⟩,hc,hv⟩
theorem akj(w:World)(ao:Option Addr)(n cap:Nat)(zs:List Int)(h:Sl w (.slice ao n cap) zs)(hz:zs.length<=1000000):
  Calls Tryz.prog 108 #[.slice ao n cap] w fun e w'=>∃ao cap rs,e=.returned (.slice ao rs.length cap)/\Ow w.heap.size w' (.slice ao rs.length cap) rs/\Canon rs/\val rs=val zs/\rs.length<=zs.length/\Below w.heap.size w w':=by
 refine(acq w ao n cap zs h hz).mono ?_;rintro e w' ⟨v,rfl,ho,hb⟩;obtain⟨ao',cap',rs,rfl,h1,h2,h3⟩:=Is.ow (B:=w.heap.size) ⟨_,ho,aaw h.parts.2.2.2,aad zs⟩;exact⟨ao',cap',rs,rfl,h1,h2,h3,abt h.parts.2.2.2 h2 (by omega),hb⟩
theorem alj{w:World}{v:Value}{r s:List Int}(h1:Sl w v r)(h2:Sl w v s):r=s:=by
 obtain⟨ao,cap,rfl,_,_,_,h4⟩:=h1;obtain⟨ao',cap',hv,_,_,_,g4⟩:=h2;obtain⟨rfl,hl,rfl⟩:=(Value.slice.injEq .. ▸ hv);apply List.ext_getElem hl;intro i hi1 hi2;rcases h4 with rfl|⟨b,off,rfl,hc⟩
 ·simp at hi1
 rcases g4 with rfl|⟨b',off',e,hc'⟩
 ·simp at hi2
 ·obtain⟨rfl,rfl⟩:b=b'/\off=off':=by simpa using e
  have e1:=hc i hi1;have e2:=hc' i hi2;rw[e1]at e2;simp only[Option.some.injEq,Value.int.injEq,true_and,List.getD_eq_getElem?_getD,List.getElem?_eq_getElem hi1,List.getElem?_eq_getElem hi2,Option.getD_some]at e2;exact e2
open Classical in
noncomputable def worth(w:World)(v:Value):Nat:=if h:∃r,Sl w v r then(val (Classical.choose h)).toNat else 0
theorem afb{w:World}{v:Value}{r:List Int}(h:Sl w v r):worth w v=(val r).toNat:=by
 have hex:∃r,Sl w v r:=⟨r,h⟩;unfold worth;rw[dif_pos hex,alj (Classical.choose_spec hex) h]
theorem amj(w:World)(a1 a2:Option Addr)(n1 n2 c1 c2:Nat)(xs ys:List Int)(hx:Sl w (.slice a1 n1 c1) xs)(hy:Sl w (.slice a2 n2 c2) ys)(hm1:xs.length<=400000)(hm2:ys.length<=400000):
  Calls Tryz.prog 117 #[.slice a1 n1 c1,.slice a2 n2 c2] w fun e w'=>∃v,e=.returned v/\Is w.heap.size w' v (Int.gcd (val xs) (val ys))/\Below w.heap.size w w':=by
 go_enter Tryz.func117,Tryz.ntmps117
 go_wp2_with fail
 refine(akj _ _ _ _ xs hx (by omega)).mono ?_;rintro e w1 ⟨p1,q1,r1,rfl,o1,k1,v1,l1,hb1⟩;go_wp2_with fail
 refine(akj _ _ _ _ ys (hy.below hb1) (by omega)).mono ?_;rintro e w2 ⟨p2,q2,r2,rfl,o2,k2,v2,l2,hb2⟩;replace o1:=o1.below hb2;replace o2:=o2.mono (B':=w.heap.size) hb1.size;have HB2:=ab7 hb1 hb2;have C1:=hide k1;have C2:=hide k2;have V1:=hide v1;have V2:=hide v2;clear k1 k2 v1 v2;have hle:=fun(h:¬val r1<val r2)=>show val r2<=val r1 by omega
 have g0:∀ {a b c d:Int},Int.gcd a b=Int.gcd c d->((Int.gcd a b:Nat):Int)=((Int.gcd c d:Nat):Int):=fun h=>by rw[h]
 have G1:Hid (Int.gcd (val r1) (val r2)=Int.gcd (val xs) (val ys)):=by rw[V1.out,V2.out];rfl
 have G2:Hid (Int.gcd (val r2) (val r1)=Int.gcd (val xs) (val ys)):=by show _=_;rw[Int.gcd_comm];exact G1.out
 clear g0 hle;by_cases hlt:val r1<val r2
 ·have k1:=hide (abq hlt);have HLT:=hide hlt;clear hlt;go_wp2_with fail
  refine(aep _ _ _ _ _ _ _ r1 r2 o1.sl o2.sl).mono ?_;rintro e w3 ⟨rfl,hb3⟩;rw[k1.out];replace o1:=o1.below hb3;replace o2:=o2.below hb3;have HB3:=ab7 HB2 hb3;go_wp2;go_loopw [5,6] (fun xv yv wr=>∃(p p':Option Addr) (q q':Nat) (r r':List Int),xv=.slice p r.length q/\yv=.slice p' r'.length q'/\Ow w.heap.size wr (.slice p r.length q) r/\Canon r/\Ow w.heap.size wr (.slice p' r'.length q') r'/\Canon r'/\val r'<=val r/\r.length<=400000/\Int.gcd (val r) (val r')=Int.gcd (val xs) (val ys)/\Below w.heap.size w wr) (fun _ yv wr=>worth wr yv)
  case atStart=>exact⟨p2,p1,q2,q1,r2,r1,rfl,rfl,o2,C2.out,o1,C1.out,by have:=HLT.out;omega,by omega,G2.out,HB3⟩
  case round=>
   obtain⟨p,p',q,q',r,r',rfl,rfl,hr,hcr,hr',hcr',hle,hlr,hg,HB⟩:=hrel;obtain⟨_,z1,z2,z3⟩:=hr.sl.parts;obtain⟨_,y1,y2,y3⟩:=hr'.sl.parts;have HCR:=hide hcr;have HCR':=hide hcr';have HLE:=hide hle;have HG:=hide hg;have Z3:=hide z3;have Y3:=hide y3;have hrl:r'.length<=r.length:=abt z3 hcr' hle;clear hcr hcr' hle hg z3 y3;by_cases h2:2<r'.length
   ·have h2':(2:Int)<(r'.length:Int):=by omega
    have ks:=hide (ahy wr w.heap.size HB.size p p' q q' r r' hr hr' HCR'.out hlr h2 HLE.out);have MW:=hide (afb hr'.sl);have V0:=hide (aab Y3.out).1;go_wp2_with fail
    refine(ks.out).mono ?_;rintro e w5 ⟨v5,v6,X',Y',rfl,i5,i6,hle5,hlt5,htop5,hg5,hb5⟩;obtain⟨p5,q5,r5,rfl,o5,c5,e5⟩:=i5.ow;obtain⟨p6,q6,r6,rfl,o6,c6,e6⟩:=i6.ow;have MW5:=hide (afb o6.sl);have L5:Hid (r5.length<=400000):=by
     have h9:=abt Z3.out c5 (by rw[e5];exact htop5);show _<=_;omega
    have R:=hide (And.intro e5 (And.intro e6 (And.intro hle5 (And.intro hlt5 hg5))));have C5:=hide c5;have C6:=hide c6;have Z5:=hide (HB.trans (hb5.mono HB.size));clear e5 e6 hle5 hlt5 htop5 hg5 c5 c6;go_wp2;go_roundw
    case rel=>exact⟨p5,p6,q5,q6,r5,r6,rfl,rfl,o5,C5.out,o6,C6.out,by rw[R.out.1,R.out.2.1];exact R.out.2.2.1,L5.out,by rw[R.out.1,R.out.2.1,R.out.2.2.2.2];exact HG.out,Z5.out⟩
    case measure=>
     rw[MW.out,MW5.out,R.out.2.1];have h8:=(aab C6.out.1).1;rw[R.out.2.1]at h8;have h7:=R.out.2.2.2.1;omega
   ·have h2':¬(2:Int)<(r'.length:Int):=by omega
    by_cases h0:val r'=0
    ·have kd:=hide (ael wr _ _ _ _ _ _ r r' hr.sl hr'.sl h0);have F:Hid (Is w.heap.size wr (.slice p r.length q) (Int.gcd (val xs) (val ys))):=by
      refine⟨r,hr,HCR.out,?_⟩;rw[<-HG.out,h0,Int.gcd_zero_right];have:=(aab Z3.out).1;omega
     go_wp2_with fail
     refine(kd.out).mono ?_;rintro e w5 ⟨rfl,hb5⟩;have F5:=hide (F.out.below hb5);have Z5:=hide (HB.trans (hb5.mono HB.size));go_wp2;go_ret;exact⟨_,rfl,F5.out,Z5.out⟩
    ·have kd:=hide (ae9 wr _ _ _ _ _ _ r r' hr.sl hr'.sl (by omega) h0);have GM:=hide ((aik (val r) (val r')).trans HG.out);have sv:=adn Y3.out (by omega);go_wp2_with fail
     refine(kd.out).mono ?_;rintro e w5 ⟨p5,q5,r5,p6,q6,r6,rfl,G5,G6,l5,l6,hb5⟩;have hr5:=hr'.below hb5;have sv6:=adn G6.canon.1 (by omega);have V6:=hide G6.val;have Z5:=HB.trans (hb5.mono HB.size);go_wp2_with fail
     refine(ado _ _ _ _ r' hr5.sl (by omega)).mono ?_;rintro e w6 ⟨rfl,rfl⟩;go_wp2_with fail
     refine(ado _ _ _ _ r6 G6.sl (by omega)).mono ?_;rintro e w6 ⟨rfl,rfl⟩;go_wp2_with fail
     refine(afw _ (val r') (val r6) sv sv6).mono ?_;rintro e w7 ⟨rfl,hb7⟩;have E7:Hid (Int.gcd (val r') (val r6)=Int.gcd (val xs) (val ys)):=by rw[V6.out];exact GM.out
     rw[E7.out];have hgl:Hid (((Int.gcd (val xs) (val ys):Nat):Int)<18446744073709551616):=by
      have h9:Int.gcd (val r') (val r6)<=(val r').natAbs:=Int.gcd_le_natAbs_left _ (by omega);rw[E7.out]at h9;show _<_;omega
     have Z7:=Z5.trans (hb7.mono Z5.size);have hs0:(0:Int)<=((Int.gcd (val xs) (val ys):Nat):Int):=by omega
     obtain⟨GG,hGG⟩:∃G,((Int.gcd (val xs) (val ys):Nat):Int)=G:=⟨_,rfl⟩;rw[hGG]at hgl hs0 ⊢;have HGG:=hide hGG;clear hGG;go_wp2_with fail
     refine(ace _ GG hs0 hgl.out).mono ?_;rintro e w8 ⟨v8,rfl,i8,hb8⟩;have R8:=hide (i8.mono (B':=w.heap.size) Z7.size);have Z8:=hide (Z7.trans (hb8.mono Z7.size));go_wp2;go_ret;exact⟨_,rfl,by rw[HGG.out];exact R8.out,Z8.out⟩
 ·have HK:Hid (∃k,cmpI (val r1) (val r2)=k/\¬k<0):=⟨_,rfl,fun h=>hlt (ag1.1 h)⟩;obtain⟨k,hk,hk0⟩:=HK.out;have k1:=hide hk;have HLT:=hide hlt;clear hlt hk HK;go_wp2_with fail
  refine(aep _ _ _ _ _ _ _ r1 r2 o1.sl o2.sl).mono ?_;rintro e w3 ⟨rfl,hb3⟩;rw[k1.out];replace o1:=o1.below hb3;replace o2:=o2.below hb3;have HB3:=ab7 HB2 hb3;go_wp2;go_loopw [5,6] (fun xv yv wr=>∃(p p':Option Addr) (q q':Nat) (r r':List Int),xv=.slice p r.length q/\yv=.slice p' r'.length q'/\Ow w.heap.size wr (.slice p r.length q) r/\Canon r/\Ow w.heap.size wr (.slice p' r'.length q') r'/\Canon r'/\val r'<=val r/\r.length<=400000/\Int.gcd (val r) (val r')=Int.gcd (val xs) (val ys)/\Below w.heap.size w wr) (fun _ yv wr=>worth wr yv)
  case atStart=>exact⟨p1,p2,q1,q2,r1,r2,rfl,rfl,o1,C1.out,o2,C2.out,by have:=HLT.out;omega,by omega,G1.out,HB3⟩
  case round=>
   obtain⟨p,p',q,q',r,r',rfl,rfl,hr,hcr,hr',hcr',hle,hlr,hg,HB⟩:=hrel;obtain⟨_,z1,z2,z3⟩:=hr.sl.parts;obtain⟨_,y1,y2,y3⟩:=hr'.sl.parts;have HCR:=hide hcr;have HCR':=hide hcr';have HLE:=hide hle;have HG:=hide hg;have Z3:=hide z3;have Y3:=hide y3;have hrl:r'.length<=r.length:=abt z3 hcr' hle;clear hcr hcr' hle hg z3 y3;by_cases h2:2<r'.length
   ·have h2':(2:Int)<(r'.length:Int):=by omega
    have ks:=hide (ahy wr w.heap.size HB.size p p' q q' r r' hr hr' HCR'.out hlr h2 HLE.out);have MW:=hide (afb hr'.sl);have V0:=hide (aab Y3.out).1;go_wp2_with fail
    refine(ks.out).mono ?_;rintro e w5 ⟨v5,v6,X',Y',rfl,i5,i6,hle5,hlt5,htop5,hg5,hb5⟩;obtain⟨p5,q5,r5,rfl,o5,c5,e5⟩:=i5.ow;obtain⟨p6,q6,r6,rfl,o6,c6,e6⟩:=i6.ow;have MW5:=hide (afb o6.sl);have L5:Hid (r5.length<=400000):=by
     have h9:=abt Z3.out c5 (by rw[e5];exact htop5);show _<=_;omega
    have R:=hide (And.intro e5 (And.intro e6 (And.intro hle5 (And.intro hlt5 hg5))));have C5:=hide c5;have C6:=hide c6;have Z5:=hide (HB.trans (hb5.mono HB.size));clear e5 e6 hle5 hlt5 htop5 hg5 c5 c6;go_wp2;go_roundw
    case rel=>exact⟨p5,p6,q5,q6,r5,r6,rfl,rfl,o5,C5.out,o6,C6.out,by rw[R.out.1,R.out.2.1];exact R.out.2.2.1,L5.out,by rw[R.out.1,R.out.2.1,R.out.2.2.2.2];exact HG.out,Z5.out⟩
    case measure=>
     rw[MW.out,MW5.out,R.out.2.1];have h8:=(aab C6.out.1).1;rw[R.out.2.1]at h8;have h7:=R.out.2.2.2.1;omega
   ·have h2':¬(2:Int)<(r'.length:Int):=by omega
    by_cases h0:val r'=0
    ·have kd:=hide (ael wr _ _ _ _ _ _ r r' hr.sl hr'.sl h0);have F:Hid (Is w.heap.size wr (.slice p r.length q) (Int.gcd (val xs) (val ys))):=by
      refine⟨r,hr,HCR.out,?_⟩;rw[<-HG.out,h0,Int.gcd_zero_right];have:=(aab Z3.out).1;omega
     go_wp2_with fail
     refine(kd.out).mono ?_;rintro e w5 ⟨rfl,hb5⟩;have F5:=hide (F.out.below hb5);have Z5:=hide (HB.trans (hb5.mono HB.size));go_wp2;go_ret;exact⟨_,rfl,F5.out,Z5.out⟩
    ·have kd:=hide (ae9 wr _ _ _ _ _ _ r r' hr.sl hr'.sl (by omega) h0);have GM:=hide ((aik (val r) (val r')).trans HG.out);have sv:=adn Y3.out (by omega);go_wp2_with fail
     refine(kd.out).mono ?_;rintro e w5 ⟨p5,q5,r5,p6,q6,r6,rfl,G5,G6,l5,l6,hb5⟩;have hr5:=hr'.below hb5;have sv6:=adn G6.canon.1 (by omega);have V6:=hide G6.val;have Z5:=HB.trans (hb5.mono HB.size);go_wp2_with fail
     refine(ado _ _ _ _ r' hr5.sl (by omega)).mono ?_;rintro e w6 ⟨rfl,rfl⟩;go_wp2_with fail
     refine(ado _ _ _ _ r6 G6.sl (by omega)).mono ?_;rintro e w6 ⟨rfl,rfl⟩;go_wp2_with fail
     refine(afw _ (val r') (val r6) sv sv6).mono ?_;rintro e w7 ⟨rfl,hb7⟩;have E7:Hid (Int.gcd (val r') (val r6)=Int.gcd (val xs) (val ys)):=by rw[V6.out];exact GM.out
     rw[E7.out];have hgl:Hid (((Int.gcd (val xs) (val ys):Nat):Int)<18446744073709551616):=by
      have h9:Int.gcd (val r') (val r6)<=(val r').natAbs:=Int.gcd_le_natAbs_left _ (by omega);rw[E7.out]at h9;show _<_;omega
     have Z7:=Z5.trans (hb7.mono Z5.size);have hs0:(0:Int)<=((Int.gcd (val xs) (val ys):Nat):Int):=by omega
     obtain⟨GG,hGG⟩:∃G,((Int.gcd (val xs) (val ys):Nat):Int)=G:=⟨_,rfl⟩;rw[hGG]at hgl hs0 ⊢;have HGG:=hide hGG;clear hGG;go_wp2_with fail
     refine(ace _ GG hs0 hgl.out).mono ?_;rintro e w8 ⟨v8,rfl,i8,hb8⟩;have R8:=hide (i8.mono (B':=w.heap.size) Z7.size);have Z8:=hide (Z7.trans (hb8.mono Z7.size));go_wp2;go_ret;exact⟨_,rfl,by rw[HGG.out];exact R8.out,Z8.out⟩
end Lm
namespace Lm
open Go.RowKit
theorem av3(nx ny:Bool)(X Y:Int):Int.gcd (sg nx X) (sg ny Y)=Int.gcd X Y:=by
 cases nx <;> cases ny <;> simp[sg]
theorem ai5{X Y:Int}(hX:0<=X)(hY:0<=Y):((Int.gcd X Y:Nat):Int)<=X+Y:=by
 by_cases h:X=0
 ·subst h;rw[Int.gcd_zero_left];omega
 ·have h9:Int.gcd X Y<=X.natAbs:=Int.gcd_le_natAbs_left _ h;omega
theorem axb(w:World)(a1 a2:Option Addr)(n1 n2 c1 c2:Nat)(xs ys:List Int)(hx:Sl w (.slice a1 n1 c1) xs)(hy:Sl w (.slice a2 n2 c2) ys)(hm1:xs.length<=400000)(hm2:ys.length<=400000):
  Calls Tryz.prog 117 #[.slice a1 n1 c1,.slice a2 n2 c2] w fun e w'=>∃ao cap rs,e=.returned (.slice ao rs.length cap)/\Got w' ao cap rs (Int.gcd (val xs) (val ys))/\rs.length<=xs.length+ys.length+1/\Below w.heap.size w w':=by
 refine(amj w a1 a2 n1 n2 c1 c2 xs ys hx hy hm1 hm2).mono ?_;rintro e w' ⟨v,rfl,hi,hb⟩;obtain⟨ao,cap,rs,rfl,hg⟩:=hi.got;refine⟨ao,cap,rs,rfl,hg,aaz hg.canon ?_,hb⟩;rw[hg.val];have b1:=aab hx.parts.2.2.2;have b2:=aab hy.parts.2.2.2;have h1:=ai5 b1.1 b2.1;have m1:=aa0 (m:=xs.length) (n:=xs.length+ys.length) (by omega);have m2:=aa0 (m:=ys.length) (n:=xs.length+ys.length) (by omega);rw[pw];have:=aay (xs.length+ys.length);omega
end Lm
namespace Lm
open Go Go.RowKit
section
variable {dst:Option Tmp} {ty:TypeId} {pos:String} {after:Array Edge} {guard:Option (Nat×Bool)} {a:Act} {w:World} {ats:Array TypeId} {i j:Nat} {x y:Int} {L L1 L2:Nat}
theorem ap5:Has Tryz.prog 108:=by unfold Has;kernel_rfl
theorem akk(h:IsL x L (a.eval (.tmp i)) w)(hL:L<=1000000):
  Does Tryz.prog {dst,op:=.call {callee:=.value (.func 108),args:=#[.tmp i],argTypes:=ats},type:=ty,pos,after,guard} a.eval w fun v w'=>Below w.heap.size w w'/\OutL x L v w':=by
 obtain⟨ao,n,cap,xs,e,S,rfl,l⟩:=h;refine abd ap5 _ (by simp only[List.map_toArray,List.map_cons,List.map_nil,e]) ((ajx w _ _ _ _ S (by omega)).mono ?_);rintro e w' ⟨ao,cap,rs,rfl,G,l',hb⟩;exact⟨_,rfl,hb,_,_,_,rfl,G,by omega⟩
theorem ase{P:Program}{k:Nat}{f:FuncId}{xs:Array Operand}{R:Value->World->Prop}(hk:a.eval (.tmp k)=.func (.func f) #[] #[])(h:Does P {dst,op:=.call {callee:=.value (.func f),args:=xs,argTypes:=ats},type:=ty,pos,after,guard} a.eval w R):
  Does P {dst,op:=.call {callee:=.value (.tmp k),args:=xs,argTypes:=ats},type:=ty,pos,after,guard} a.eval w R:=by
 have e:execOp a.eval {dst,op:=.call {callee:=.value (.tmp k),args:=xs,argTypes:=ats},type:=ty,pos,after,guard}=execOp a.eval {dst,op:=.call {callee:=.value (.func f),args:=xs,argTypes:=ats},type:=ty,pos,after,guard}:=by
  simp only[execOp,resolve,hk];rfl
 refine⟨?_⟩;have h:=h.out;unfold Turns at *
 rw[e];exact h
end
theorem alk{x:Int}{k:Nat}(h:IsBits x k)(hx:0<x):((k:Int)=1↔x=1):=by
 constructor
 ·intro hk;have hk:k=1:=by omega
  subst hk;have:=h.1;simp[p2]at this;omega
 ·intro hx1;subst hx1;have h1:IsBits 1 1:=⟨by simp[p2],.inr (by simp[p2])⟩;have:=am2 h h1;omega
def nm(p q:Int):Int:=Int.sign q*(p/(Int.gcd p q:Int))
def dn(p q:Int):Int:=Int.sign q*(q/(Int.gcd p q:Int))
theorem aco(q:Int):tq q≠0:=by
 unfold tq;split <;> simp_all
theorem av4{p q:Int}(h1:p≠0)(h2:q≠0):p*q≠0:=Int.mul_ne_zero h1 h2
theorem afj{p q:Int}(h:q≠0):(0:Int)<(Int.gcd p q:Int):=by
 have:=Int.gcd_pos_of_ne_zero_right p h;omega
theorem amk(a b:Bool)(x y:Int):Int.gcd (sg a x) (sg b y)=Int.gcd x y:=by
 cases a <;> cases b <;> simp[sg]
theorem axc(a b:Bool){x y:Int}(hy:0<y):nm (sg a x) (sg b y)=sg (a != b) (x/(Int.gcd x y:Int)):=by
 unfold nm;rw[amk];have hd:((Int.gcd x y:Nat):Int) ∣ x:=Int.gcd_dvd_left x y;have hs:Int.sign y=1:=Int.sign_eq_one_of_pos hy;cases a <;> cases b <;> simp[sg,hs,Int.neg_ediv_of_dvd hd]
theorem axd(a b:Bool){x y:Int}(hy:0<y):dn (sg a x) (sg b y)=y/(Int.gcd x y:Int):=by
 unfold dn;rw[amk];have hd:((Int.gcd x y:Nat):Int) ∣ y:=Int.gcd_dvd_right x y;have hs:Int.sign y=1:=Int.sign_eq_one_of_pos hy;cases b <;> simp[sg,hs,Int.neg_ediv_of_dvd hd]
theorem Mono.of4{p:Says}(h:Mono4 p):Mono p:=fun v w w' hb hp=>h v w w' (Rl.of_below hb) hp
def Fits2(D:List Nat)(a:Act):Nat->List Value->List Value->Prop
 |_,[],[]=>True
 |i,x::xs,y::ys=>((x=y/\D.contains i=false)\/a.eval (.tmp i)=y)/\Fits2 D a (i+1) xs ys
 |_,_,_=>False
theorem Fits2.at{D:List Nat}{a:Act}: ∀ {xs ys:List Value} {i:Nat},Fits2 D a i xs ys->xs.length=ys.length/\∀k x y,xs[k]? = some x->ys[k]? = some y->(x=y/\D.contains (i+k)=false)\/a.eval (.tmp (i+k))=y
 | [],[],_,_=>⟨rfl,fun k x y h=>by simp at h⟩
 |x::xs,y::ys,i,h=>by
  obtain⟨h1,h2⟩:=h;obtain⟨hl,h3⟩:=Fits2.at h2;refine⟨by simp[hl],fun k u v hu hv=>?_⟩;cases k with
  |zero=>
   simp only[List.getElem?_cons_zero,Option.some.injEq]at hu hv;subst hu hv;exact h1
  |succ k=>
   have:=h3 k u v (by simpa using hu) (by simpa using hv);have e:i+1+k=i+(k+1):=by omega
   rwa[e]at this
 | [],_::_,_,h=>h.elim
 |_::_,[],_,h=>h.elim
theorem aa7{xs:List Value}{ds:List Deferred}{k:Nat}{x:Value}(h:xs[k]? = some x):(Act.mk xs.toArray ds).eval (.tmp k)=x:=by
 obtain⟨hk,rfl⟩:=List.getElem?_eq_some_iff.1 h;simp[Act.eval,hk]
theorem aup{D:List Nat}{a:Act}{xs ys:List Value}{ds:List Deferred}(hn:a.tmps.size=xs.length)(hd:a.defers=ds)(hR:Rest D ⟨xs.toArray,ds⟩ a)(h:Fits2 D a 0 xs ys):a=⟨ys.toArray,ds⟩:=by
 obtain⟨hl,h2⟩:=h.at;obtain⟨tmps,defers⟩:=a;simp only at hn hd;subst hd;congr 1;refine Array.ext (by simp[hn,hl]) fun i h1 h3=>?_
 have hi:i<ys.length:=by simpa using h3
 obtain⟨x,hx⟩:∃x,xs[i]? = some x:=⟨_,List.getElem?_eq_getElem (by omega)⟩;have hy:ys[i]? = some ys[i]:=List.getElem?_eq_getElem hi;have key:(Act.mk tmps defers).eval (.tmp i)=ys[i]:=by
  rcases h2 i x _ hx hy with⟨e,hc⟩|e
  ·rw[Nat.zero_add]at hc;rw[hR i hc,aa7 hx,e]
  ·rwa[Nat.zero_add]at e
 have:(Act.mk tmps defers).eval (.tmp i)=tmps[i]:=by simp[Act.eval,h1]
 rw[<-this,key];simp
section
variable {dst:Option Tmp} {ty:TypeId} {pos:String} {after:Array Edge} {guard:Option (Nat×Bool)} {a:Act} {w:World} {i j k:Nat}
theorem ac3{g:Nat}{ng:Bool}{ao:Option Addr}{n c:Nat}{p:Says}(hp:a.eval (.tmp k)=.pointer (some ⟨g,0,none⟩))(hb:w.heap[g]? = some (.cells #[.bool ng,.slice ao n c] 60 (0,0)))(hv:p (.agg #[.bool ng,.slice ao n c]) w):
  Does Tryz.prog {dst,op:=.load 60 (.tmp k),type:=ty,pos,after,guard} a.eval w fun v' w'=>Below w.heap.size w w'/\p v' w':=
 acf (by rw[hp];exact ahp hb) ⟨Below.refl _ _,hv⟩
end
theorem Fits2.nil{D:List Nat}{a:Act}{i:Nat}: Fits2 D a i [] []:=trivial
theorem Fits2.same{D:List Nat}{a:Act}{i:Nat}{x:Value}{xs ys:List Value}(hc:D.contains i=false)(h:Fits2 D a (i+1) xs ys):Fits2 D a i (x::xs) (x::ys):=⟨.inl ⟨rfl,hc⟩,h⟩
theorem Fits2.new{D:List Nat}{a:Act}{i:Nat}{x u:Value}{xs ys:List Value}(hu:a.eval (.tmp i)=u)(h:Fits2 D a (i+1) xs ys):Fits2 D a i (x::xs) (u::ys):=⟨.inr hu,h⟩
theorem Fits2.s4{D:List Nat}{a:Act}{i:Nat}{x1 x2 x3 x4:Value}{xs ys:List Value}(hc:(D.contains i||D.contains (i+1)||D.contains (i+2)||D.contains (i+3))=false)(h:Fits2 D a (i+4) xs ys):Fits2 D a i (x1::x2::x3::x4::xs) (x1::x2::x3::x4::ys):=by
 simp only[Bool.or_eq_false_iff]at hc;exact .same hc.1.1.1 <| .same hc.1.1.2 <| .same hc.1.2 <| .same hc.2 h
theorem Fits2.s16{D:List Nat}{a:Act}{i:Nat}{x1 x2 x3 x4 x5 x6 x7 x8 y1 y2 y3 y4 y5 y6 y7 y8:Value}{xs ys:List Value}(hc:((List.range 16).all fun k=>!D.contains (i+k))=true)(h:Fits2 D a (i+16) xs ys):Fits2 D a i (x1::x2::x3::x4::x5::x6::x7::x8::y1::y2::y3::y4::y5::y6::y7::y8::xs) (x1::x2::x3::x4::x5::x6::x7::x8::y1::y2::y3::y4::y5::y6::y7::y8::ys):=by
 have hk:∀k,k<16->D.contains (i+k)=false:=fun k hk=>by simpa using List.all_eq_true.1 hc k (List.mem_range.2 hk)
 have g:∀j,j+3<16->(D.contains (i+j)||D.contains (i+j+1)||D.contains (i+j+2)||D.contains (i+j+3))=false:=fun j hj=>by
  simp only[Bool.or_eq_false_iff];exact⟨⟨⟨hk j (by omega),hk (j+1) (by omega)⟩,hk (j+2) (by omega)⟩,hk (j+3) (by omega)⟩
 exact .s4 (g 0 (by omega)) <| .s4 (g 4 (by omega)) <| .s4 (g 8 (by omega)) <| .s4 (g 12 (by omega)) h
theorem afc{P:Program}{ops:Array Oper}{Q:Exit->Act->World->Prop}{l:List Oper}{w:World}{D:List Nat}{a:Act}{xs ys:List Value}{ds:List Deferred}(hn:a.tmps.size=xs.length)(hd:a.defers=ds)(hR:Rest D ⟨xs.toArray,ds⟩ a)(h:Fits2 D a 0 xs ys)(k:wpList P ops Q l ⟨ys.toArray,ds⟩ w):wpList P ops Q l a w:=by
 rw[aup hn hd hR h];exact k
theorem asf{P:Program}{ops:Array Oper}{Q:Exit->Act->World->Prop}{n:Nat}{Ds:List Nat}{Ps:List Says}{a0:Act}{w0:World}{l:Array Bool}{a:Act}{w:World}{i:Nat}{o:Oper}(hat:∀i o,ops[i]? = some o->i<Ds.length->Duty P n Ds Ps a0 w0 o (Ds.getD i 0) (Ps.getD i fun _ _=>True))(hlo:Ds.length<=ops.size)(hnd:Ds.Nodup)(hlt:(Ds.all fun d=>decide (d<n))=true)(hM:Monos Ps)(ho:ops[i]? = some o)(hil:i<Ds.length)(h:Mid n Ds Ps a0 w0 l a w)(hdeps:∀e∈o.after,Region.binds .any e=true->l.getD e.on false=true):
  wpOp P ops Q i (fun a' w'=>Mid n Ds Ps a0 w0 (l.setIfInBounds i true) a' w') a w:=by
 have h':=h;obtain⟨h1,h2,h3,h4,h5,h6⟩:=h;obtain⟨hdst,hduty⟩:=hat i o ho hil;have hduty:=hduty a w h2 h4 h5 (fun j hj=>by
  obtain⟨e,he,hj⟩:=List.any_eq_true.1 hj;simp only[Bool.and_eq_true,beq_iff_eq]at hj;obtain⟨rfl,hb⟩:=hj
  exact h6 _ (hdeps e (by simpa using he) hb))
 refine wpOp_step ho (fun K' hK=>?_);cases hg:o.guard with
 |none=>
  rw[hg]at hduty;simp only[Region.wanted,hg,if_true];exact Does.wp hduty (fun v w' ⟨hb,hp⟩=>by rw[hdst];exact hK _ _ (h'.put hil hnd hlt hM hb hp))
 |some gb=>
  obtain⟨g,b⟩:=gb;rw[hg]at hduty;simp only at hduty;obtain⟨hgl,hyes,hno⟩:=hduty;obtain⟨og,hog⟩:∃og,ops[g]? = some og:=⟨_,Array.getElem?_eq_getElem (by omega)⟩;have hgd:=(hat g og hog hgl).1;have hgn:Ds.getD g 0<n:=by
   have:=List.all_eq_true.1 hlt (Ds.getD g 0) (by rw[List.getD_eq_getElem?_getD,List.getElem?_eq_getElem hgl];simp);simpa using this
  have hy:yielded ops a.tmps g=(match a.eval (.tmp (Ds.getD g 0))with | .bool b=>some b|_=>none):=by
   unfold yielded;rw[hog];simp only[Option.bind_some,hgd];have:a.tmps[Ds.getD g 0]? = some (a.eval (.tmp (Ds.getD g 0))):=by
    rw[Array.getElem?_eq_getElem (by omega)];simp only[Act.eval,Array.getD,h2,hgn,dif_pos];rfl
   rw[this];generalize a.eval (.tmp (Ds.getD g 0))=v;cases v <;> rfl
  by_cases hv:a.eval (.tmp (Ds.getD g 0))=.bool b
  ·have hw:Region.wanted o (yielded ops a.tmps)=true:=by
    simp only[Region.wanted,hg];rw[hy,hv];simp
   rw[if_pos hw];exact Does.wp (hyes hv) (fun v w' ⟨hb,hp⟩=>by rw[hdst];exact hK _ _ (h'.put hil hnd hlt hM hb hp))
  ·have hw:¬Region.wanted o (yielded ops a.tmps)=true:=by
    simp only[Region.wanted,hg];rw[hy];intro hc;apply hv;generalize a.eval (.tmp (Ds.getD g 0))=v at *
    cases v <;> simp at hc
    rw[hc]
   rw[if_neg hw,hdst];exact hK _ _ (h'.put hil hnd hlt hM (Below.refl _ _) (hno hv))
theorem Duties.take{P:Program}{n:Nat}{Ds:List Nat}{Ps:List Says}{a0:Act}{w0:World}{ops:Array Oper}{m:Nat}(h:Duties P n Ds Ps a0 w0 (ops.toList.take m) Ds Ps)(hm:m<=ops.size):Ds.length=m/\∀i o,ops[i]? = some o->i<Ds.length->Duty P n Ds Ps a0 w0 o (Ds.getD i 0) (Ps.getD i fun _ _=>True):=by
 obtain⟨hl,hat⟩:=h.at;have hl':Ds.length=m:=by rw[hl,List.length_take];simp;omega
 refine⟨hl',fun i o ho hi=>hat i o ?_⟩;rw[List.getElem?_take_of_lt (by omega),Array.getElem?_toList];exact ho
theorem ac4{l:Array Bool}{m j:Nat}(h:j<m)(b:Bool):(l.extract 0 m).getD j b=l.getD j b:=by
 rw[Array.getD_eq_getD_getElem?,Array.getD_eq_getD_getElem?,Array.getElem?_extract];simp only[Nat.sub_zero,Nat.zero_add];by_cases hj:j<min m l.size
 ·rw[if_pos hj]
 ·rw[if_neg hj,Array.getElem?_eq_none (by omega)]
theorem alm{l:Array Bool}{m i:Nat}: (l.setIfInBounds i true).extract 0 m=(l.extract 0 m).setIfInBounds i true:=by
 apply Array.ext_getElem?;intro j;simp only[Array.getElem?_extract,Array.getElem?_setIfInBounds,Array.size_setIfInBounds,Array.size_extract,Nat.sub_zero,Nat.zero_add];by_cases hj:j<min m l.size
 ·rw[if_pos hj,if_pos hj];by_cases e:i=j
  ·subst e;rw[if_pos rfl,if_pos rfl,if_pos (by omega),if_pos hj]
  ·rw[if_neg e,if_neg e]
 ·rw[if_neg hj,if_neg hj];by_cases e:i=j
  ·subst e;rw[if_pos rfl,if_neg hj]
  ·rw[if_neg e]
theorem ade{P:Program}{ops:Array Oper}{Q:Exit->Act->World->Prop}{id n:Nat}{a:Act}{w:World}(m:Nat)(Ds:List Nat)(Ps:List Says)(hm:P.follows .mixedOrders=true)(hn:a.tmps.size=n)(hnd:Ds.Nodup)(hlt:(Ds.all fun d=>decide (d<n))=true)
  (hdep:(ops.toList.zipIdx.all fun p=>p.1.after.all fun e=>decide (e.on<p.2))=true) (hms:m<=ops.size) (hall:(ops.toList.zipIdx.all fun p=>decide (p.2<m)||(List.range p.2).all fun j=>p.1.after.any fun e=>e.on==j&&Region.binds .any e)=true) (hM:Monos Ps) (hD:Duties P n Ds Ps a w (ops.toList.take m) Ds Ps)
  (hend:∀a' w',a'.tmps.size=n->a'.defers=a.defers->Below w.heap.size w w'->Rest Ds a a'->(∀j,j<Ds.length->Ps.getD j (fun _ _=>True) (a'.eval (.tmp (Ds.getD j 0))) w')->wpList P ops Q (ops.toList.drop m) a' w'):(Code.region id ops true).wp P Q a w:=by
 obtain⟨hlen,hat⟩:=hD.take hms;have hL:∀k,k<=ops.size->wpOps P ops Q (List.range' k (ops.size-k))=wpList P ops Q (ops.toList.drop k):=fun k hk=>by
  have:=wpOps_eq_wpList (P:=P) (ops:=ops) (Q:=Q) (ops.toList.drop k) k (fun j=>by rw[List.getElem?_drop,Array.getElem?_toList]);rw[<-this];simp
 have hneed:∀i o,ops[i]? = some o->m<=i->∀l:Array Bool,(∀e∈o.after,Region.binds .any e=true->l.getD e.on false=true)->∀j,j<i->l.getD j false=true:=by
  intro i o ho hi l hl j hj;have h1:=List.all_eq_true.1 hall (o,i) (by rw[List.mem_zipIdx_iff_getElem?];simpa using ho);simp only[Bool.or_eq_true,decide_eq_true_eq]at h1;rcases h1 with h1|h1
  ·omega
  ·have h2:=List.all_eq_true.1 h1 j (List.mem_range.2 hj);rw[<-Array.any_toList]at h2;obtain⟨e,he,h3⟩:=List.any_eq_true.1 h2;replace he:=Array.mem_toList_iff.1 he;simp only[Bool.and_eq_true,beq_iff_eq]at h3;rw[<-h3.1];exact hl e he h3.2
 refine afi hm (fun l a' w'=>l.size=ops.size/\(((∀j,m<=j->l.getD j false=false)/\Mid n Ds Ps a w (l.extract 0 m) a' w')\/∃j,m<j/\j<=ops.size/\(∀k,k<j->l.getD k false=true)/\(∀k,j<=k->l.getD k false=false)/\wpOps P ops Q (List.range' j (ops.size-j)) a' w')) ?_ ?_ ?_
 ·refine⟨by simp,.inl ⟨fun j _=>?_,by simp[hlen];omega,hn,rfl,Below.drew (Below.refl _ _),fun _ _=>rfl,fun j hj=>?_⟩⟩
  ·simp[Array.getElem?_replicate];split <;> simp
  ·exfalso;by_cases hjm:j<m
   ·rw[ac4 hjm]at hj;simp[Array.getElem?_replicate]at hj;split at hj <;> simp at hj
   ·rw[Array.getD_eq_getD_getElem?,Array.getElem?_eq_none (by simp;omega)]at hj;simp at hj
 ·rintro l a' w' ⟨hs,hI⟩ hr;have hal:=ane hdep hs hr;rcases hI with⟨h1,h2,h3,h4,h5,h6,h7⟩|⟨j,hj1,hj2,hj3,hj4,hj5⟩
  ·have hmo:m=ops.size:=by
    apply Classical.byContradiction;intro hne;have:=hal m (by omega);rw[h1 m (Nat.le_refl _)]at this;cases this
   have:=hend a' w' h3 h4 h5 h6 (fun j hj=>h7 j (by rw[ac4 (by omega)];exact hal j (by omega)));rw[List.drop_eq_nil_of_le (by simp;omega)]at this;exact this
  ·have hje:j=ops.size:=by
    apply Classical.byContradiction;intro hne;have:=hal j (by omega);rw[hj4 j (Nat.le_refl _)]at this;cases this
   subst hje;simpa[wpOps]using hj5
 ·rintro l a' w' ⟨hs,hI⟩ i hi;obtain⟨hun,o,ho,hdeps⟩:=mem_ready.1 hi;have hio:i<ops.size:=(Array.getElem?_eq_some_iff.1 ho).1;have hset:∀k,k≠i->(l.setIfInBounds i true).getD k false=l.getD k false:=fun k hk=>getD_set_ne false (fun e=>hk e.symm)
  have hseti:(l.setIfInBounds i true).getD i false=true:=by
   rw[Array.getD_eq_getD_getElem?,Array.getElem?_setIfInBounds_self_of_lt (by omega)];rfl
  have hif:l.getD i false=false:=by
   rw[Array.getD_eq_getD_getElem?]at hun ⊢;cases hc:l[i]? with
   |none=>rfl
   |some b=>rw[hc]at hun;simpa using hun
  have hrun:∀j,j=i->wpOps P ops Q (List.range' j (ops.size-j)) a' w'->m<=j->(∀k,k<j->l.getD k false=true)->(∀k,j<=k->l.getD k false=false)->wpOp P ops Q i (fun a' w'=>(l.setIfInBounds i true).size=ops.size/\(((∀j,m<=j->(l.setIfInBounds i true).getD j false=false)/\Mid n Ds Ps a w ((l.setIfInBounds i true).extract 0 m) a' w')\/∃j,m<j/\j<=ops.size/\(∀k,k<j->(l.setIfInBounds i true).getD k false=true)/\(∀k,j<=k->(l.setIfInBounds i true).getD k false=false)/\wpOps P ops Q (List.range' j (ops.size-j)) a' w')) a' w':=by
   rintro j rfl hw hmj hlo hhi;rw[show ops.size-j=(ops.size-(j+1))+1 by omega,List.range'_succ,wpOps_cons]at hw;refine wpOp_mono (fun a2 w2 h=>⟨by simpa using hs,.inr ⟨j+1,by omega,by omega,fun k hk=>?_,fun k hk=>?_,h⟩⟩) hw
   ·by_cases e:k=j
    ·subst e;exact hseti
    ·rw[hset k e];exact hlo k (by omega)
   ·rw[hset k (by omega)];exact hhi k (by omega)
  rcases hI with⟨h1,hmid⟩|⟨j,hj1,hj2,hj3,hj4,hj5⟩
  ·by_cases him:i<m
   ·have hd':∀e∈o.after,Region.binds .any e=true->(l.extract 0 m).getD e.on false=true:=fun e he hb=>by
     have h2:=List.all_eq_true.1 hdep (o,i) (by rw[List.mem_zipIdx_iff_getElem?];simpa using ho);have h3:e.on<i:=by simpa using Array.all_eq_true_iff_forall_mem.1 h2 e he
     rw[ac4 (by omega)];exact hdeps e he hb
    refine wpOp_mono (fun a2 w2 h=>⟨by simpa using hs,.inl ⟨fun k hk=>?_,?_⟩⟩) (asf hat (by omega) hnd hlt hM ho (by omega) hmid hd')
    ·rw[hset k (by omega)];exact h1 k hk
    ·rw[alm];exact h
   ·have hpre:=hneed i o ho (by omega) l hdeps;have hie:i=m:=by
     apply Classical.byContradiction;intro hne;have:=hpre m (by omega);rw[h1 m (Nat.le_refl _)]at this;cases this
    subst hie;obtain⟨h2,h3,h4,h5,h6,h7⟩:=hmid;have hw:=hend a' w' h3 h4 h5 h6 (fun j hj=>h7 j (by rw[ac4 (by omega)];exact hpre j (by omega)));rw[<-hL _ hms]at hw;exact hrun i rfl hw (Nat.le_refl _) hpre h1
  ·have hij:i=j:=by
    apply Classical.byContradiction;intro hne;by_cases hlt':i<j
    ·rw[hj3 i hlt']at hif;cases hif
    ·have:=hneed i o ho (by omega) l hdeps j (by omega);rw[hj4 j (Nat.le_refl _)]at this;cases this
   exact hrun j hij.symm hj5 (by omega) hj3 hj4
theorem aln{x y:Int}(h:(0:Int)<(Int.gcd x y:Int)):(Int.gcd (x/(Int.gcd x y:Int)) (y/(Int.gcd x y:Int)):Int)=1:=by
 have h1:0<Int.gcd x y:=by omega
 rw[Int.gcd_ediv_gcd_ediv_gcd h1];rfl
theorem ap6{dst:Option Tmp}{ty:TypeId}{pos:String}{after:Array Edge}{guard:Option (Nat×Bool)}{a:Act}{w:World}{i b off n c:Nat}{ao:Option Addr}(hp:a.eval (.tmp i)=.pointer (some ⟨b,off,none⟩))(h:w.cell? ⟨b,off,none⟩=some (.slice ao n c)):
  Does Tryz.prog {dst,op:=.load 38 (.tmp i),type:=ty,pos,after,guard} a.eval w fun v' w'=>Below w.heap.size w w'/\Eqs (.slice ao n c) v' w':=by
 refine acf (v:=.slice ao n c) ?_ ⟨Below.refl _ _,rfl⟩;rw[hp];go_simp
set_option maxRecDepth 100000 in
theorem ag8(w:World)(vp vq:Value)(p q:Int)(L:Nat)(hp:IsW p L vp w)(hq:IsW q L vq w)(h0:q≠0)(hL:L<=100000):
  Calls Tryz.prog 126 #[vp,vq] w fun e w'=>∃v,e=.returned v/\OutR (nm p q) (dn p q) L v w'/\Below w.heap.size w w':=by
 obtain⟨n1,a1,m1,c1,xs,rfl,A1,l1⟩:=hp;obtain⟨n2,a2,m2,c2,ys,rfl,A2,l2⟩:=hq;have hx0:0<=val xs:=(aab A1.sl.parts.2.2.2).1;have hy0:0<val ys:=by
  have h1:=(aab A2.sl.parts.2.2.2).1;have h2:val ys≠0:=fun e=>h0 (by rw[<-A2.worth,e];cases n2 <;> simp[sg])
  omega
 obtain⟨w1,e1,bx,by',hb1,hs1⟩:=ad3 w n1 (.slice a1 m1 c1) n2 (.slice a2 m2 c2);have hb2:=hAl w1 (.cells #[.bool false,.slice none 0 0,.slice none 0 0] 62);have hn2:=heap_alloc_new w1 (.cells #[.bool false,.slice none 0 0,.slice none 0 0] 62);have hs2:(w1.alloc (.cells #[.bool false,.slice none 0 0,.slice none 0 0] 62)).heap.size=w1.heap.size+1:=by simp
 rw[hs1]at hn2 hs2;have hb02:=hb1.trans (hb2.mono hb1.size);obtain⟨_,x0,x1,_,_⟩:=aah ((hb2.block _ (aaa bx)).trans bx);obtain⟨_,y0,y1,_,_⟩:=aah ((hb2.block _ (aaa by')).trans by');have SX:=hide (A1.sl.below hb02);have SY:=hide (A2.sl.below hb02);have HB:=hide hb02;have HN:=hide hn2;have HX:=hide hx0;have HY:=hide hy0;have HP:Hid (p=sg n1 (val xs)/\q=sg n2 (val ys)):=⟨A1.worth.symm,A2.worth.symm⟩;have HL:Hid (xs.length<=L/\ys.length<=L):=⟨l1,l2⟩;have E1:=hide e1;clear hb1 hb2 hb02 hn2 bx by' hs1 e1 A1 A2 hx0 hy0 h0;go_enter Tryz.func126,Tryz.ntmps126
 go_upto_region 1 with fail
 rw[E1.out];generalize w1.alloc (.cells #[.bool false,.slice none 0 0,.slice none 0 0] 62)=w2 at *
 refine wp_scope_straight ?_;go_upto_region 1 with fail
 refine ade 8 [9,10,11,12,13,14,5,6] [Eqs (.pointer (some ⟨w.heap.size,1,none⟩)),Eqs (.slice a1 m1 c1),(OutL (val xs) L),Eqs (.pointer (some ⟨w.heap.size+1,1,none⟩)),Eqs (.slice a2 m2 c2),(OutL (val ys) L),(OutL (val xs) L),(OutL (val ys) L)] rfl rfl (by decide) (by kernel_rfl) (by kernel_rfl) (by decide) (by kernel_rfl) ⟨Eqs.mono _,Eqs.mono _,(Mono.of4 (OutL.mono4 _ _)),Eqs.mono _,Eqs.mono _,(Mono.of4 (OutL.mono4 _ _)),(Mono.of4 (OutL.mono4 _ _)),(Mono.of4 (OutL.mono4 _ _)),trivial⟩ ?_ ?_
 ·exact⟨⟨rfl,fun a_ w_ _ hB hR hD=>af9 ahr ((hR 2 rfl).trans (aa7 rfl))⟩,
    ⟨rfl,fun a_ w_ _ hB hR hD=>ap6 (show a_.eval (.tmp 9)=.pointer (some ⟨w.heap.size,1,none⟩)from hD 0 rfl) ((hB.cell (p:=⟨w.heap.size,1,none⟩) (aap x1)).trans x1)⟩,
    ⟨rfl,fun a_ w_ _ hB hR hD=>akk (L:=L) (by rw[(show a_.eval (.tmp 10)=.slice a1 m1 c1 from hD 1 rfl)];exact⟨_,_,_,_,rfl,(SX.out.below hB),rfl,by omega⟩) (by omega)⟩,
    ⟨rfl,fun a_ w_ _ hB hR hD=>af9 ahr ((hR 3 rfl).trans (aa7 rfl))⟩,
    ⟨rfl,fun a_ w_ _ hB hR hD=>ap6 (show a_.eval (.tmp 12)=.pointer (some ⟨w.heap.size+1,1,none⟩)from hD 3 rfl) ((hB.cell (p:=⟨w.heap.size+1,1,none⟩) (aap y1)).trans y1)⟩,
    ⟨rfl,fun a_ w_ _ hB hR hD=>akk (L:=L) (by rw[(show a_.eval (.tmp 13)=.slice a2 m2 c2 from hD 4 rfl)];exact⟨_,_,_,_,rfl,(SY.out.below hB),rfl,by omega⟩) (by omega)⟩,
    ⟨rfl,fun a_ w_ _ hB hR hD=>aj7 (show(OutL (val xs) L) (a_.eval (.tmp 11)) w_ from hD 2 rfl)⟩,
    ⟨rfl,fun a_ w_ _ hB hR hD=>aj7 (show(OutL (val ys) L) (a_.eval (.tmp 14)) w_ from hD 5 rfl)⟩,trivial⟩
 ·intro a' w' hn' hd' hB' hR' hP';have e9:a'.eval (.tmp 9)=.pointer (some ⟨w.heap.size,1,none⟩):=hP' 0 (by decide);have e10:a'.eval (.tmp 10)=.slice a1 m1 c1:=hP' 1 (by decide);obtain⟨u11,e11⟩:∃u,a'.eval (.tmp 11)=u:=⟨_,rfl⟩;have e12:a'.eval (.tmp 12)=.pointer (some ⟨w.heap.size+1,1,none⟩):=hP' 3 (by decide);have e13:a'.eval (.tmp 13)=.slice a2 m2 c2:=hP' 4 (by decide);obtain⟨u14,e14⟩:∃u,a'.eval (.tmp 14)=u:=⟨_,rfl⟩;obtain⟨u5,e5⟩:∃u,a'.eval (.tmp 5)=u:=⟨_,rfl⟩;have hT1:(OutL (val xs) L) (a'.eval (.tmp 5)) w':=hP' 6 (by decide);rw[e5]at hT1;obtain⟨u6,e6⟩:∃u,a'.eval (.tmp 6)=u:=⟨_,rfl⟩;have hT2:(OutL (val ys) L) (a'.eval (.tmp 6)) w':=hP' 7 (by decide);rw[e6]at hT2;refine afc hn' hd' hR' (.s4 rfl <| .same rfl <| .new e5 <| .new e6 <| .same rfl <| .same rfl <| .new e9 <| .new e10 <| .new e11 <| .new e12 <| .new e13 <| .new e14 <| .s16 rfl <| .s16 rfl <| .s4 rfl <| .nil) ?_;clear e9 e10 e11 e12 e13 e14 e5 e6;obtain⟨a5,c5,r5,rfl,G5,k5⟩:=hT1;obtain⟨a6,c6,r6,rfl,G6,k6⟩:=hT2;have H5:=hide (And.intro G5 k5);have H6:=hide (And.intro G6 k6);have hnr:=(hB'.block _ (aaa HN.out)).trans HN.out;have HNR:=hide hnr;have HBR:=hide (HB.out.trans (hB'.mono HB.out.size));replace x0:=(hB'.cell (p:=⟨w.heap.size,0,none⟩) (aap x0)).trans x0;replace y0:=(hB'.cell (p:=⟨w.heap.size+1,0,none⟩) (aap y0)).trans y0;obtain⟨hg1,hg2⟩:(0:Int)<(Int.gcd (val xs) (val ys):Int)/\True:=⟨afj (by have:=HY.out;omega),trivial⟩;obtain⟨g,hg⟩:∃g:Int,(Int.gcd (val xs) (val ys):Int)=g:=⟨_,rfl⟩;rw[hg]at hg1;have HG:Hid ((Int.gcd (val xs) (val ys):Int)=g/\0<g):=⟨hg,hg1⟩;clear hB' hR' hP' hn' hd' hnr G5 G6 k5 k6 hg hg1 hg2 x1 y1;go_wp2_with fail
  go_step3
  go_wp2_with fail
  go_loopg [5,6] 1 (fun k sx sy wr=>∃(a:Option Addr) (b:Nat) (c:Option Addr) (d:Nat) (rx ry:List Int) (X Y:Int),sx=.slice a rx.length b/\sy=.slice c ry.length d/\Got wr a b rx X/\Got wr c d ry Y/\rx.length<=L/\ry.length<=L/\((k=1/\X=val xs/\Y=val ys)\/(k=0/\X=val xs/g/\Y=val ys/g))/\Below w.heap.size w wr/\wr.heap[w.heap.size+2]? = some (.cells #[.bool false,.slice none 0 0,.slice none 0 0] 62 (0,0))/\wr.cell? ⟨w.heap.size,0,none⟩=some (.bool n1)/\wr.cell? ⟨w.heap.size+1,0,none⟩=some (.bool n2))
  case atStart=>exact⟨a5,c5,a6,c6,r5,r6,_,_,rfl,rfl,H5.out.1,H6.out.1,H5.out.2,H6.out.2,.inl ⟨rfl,rfl,rfl⟩,HBR.out,HNR.out,x0,y0⟩
  case round=>
   obtain⟨a,b,c,d,rx,ry,X,Y,rfl,rfl,GX,GY,lx,ly,hk,hbw,hnr,x0,y0⟩:=hrel;have HGX:=hide GX;have HGY:=hide GY;have HLX:=hide (And.intro lx ly);have HK:=hide hk;have HBW:=hide hbw;have HNR:=hide hnr;have hpos:0<=X/\0<Y:=by
    have hx:=HX.out;have hy:=HY.out;have hg:=HG.out;rcases hk with⟨_,rfl,rfl⟩|⟨_,rfl,rfl⟩
    ·exact⟨hx,hy⟩
    ·refine⟨Int.ediv_nonneg hx (by omega),?_⟩;have hd:g ∣ val ys:=by rw[<-hg.1];exact Int.gcd_dvd_right ..
     exact Int.ediv_pos_of_pos_of_dvd hy (by omega) hd
   have HPOS:=hide hpos;have K1:=hide (axb wr a c _ _ b d rx ry GX.sl GY.sl (by omega) (by omega));rw[GX.val,GY.val]at K1;clear GX GY lx ly hk hbw hnr hpos;go_wp2_with fail
   refine K1.out.mono ?_;rintro e w3 ⟨a7,c7,r7,rfl,G7,k7,hb3⟩;have K2:=hide (ae2 w3 a7 _ c7 r7 G7.sl (by have:=HLX.out;omega));have HG7:=hide G7;have HB3:=hide hb3;have hx0':=(hb3.cell (p:=⟨w.heap.size,0,none⟩) (aap x0)).trans x0;have hy0':=(hb3.cell (p:=⟨w.heap.size+1,0,none⟩) (aap y0)).trans y0;clear G7 hb3 K1 x0 y0 k7;go_wp2_with fail
   refine K2.out.mono ?_;rintro e w4 ⟨kb,rfl,hbits,hw4⟩;subst w4;rw[HG7.out.val]at hbits;have hg1:=alk hbits (afj (by have:=HPOS.out;omega));have HGO:=hide hg1;clear hbits K2 hg1;by_cases hb1:(kb:Int)=1
   ·have hb1':((kb:Int)==1)=true:=by simpa using hb1
    have hgo:=HGO.out.1 hb1;have HXY:Hid (X=val xs/g/\Y=val ys/g):=(show _/\_ by
     rcases HK.out with⟨_,hX,hY⟩|⟨_,hX,hY⟩
     ·have hg:=HG.out.1;rw[<-hX,<-hY,hgo]at hg;rw[<-hX,<-hY,<-hg,Int.ediv_one,Int.ediv_one];exact⟨rfl,rfl⟩
     ·exact⟨hX,hY⟩)
    clear hb1 hgo;have HNR2:=hide ((HB3.out.block _ (aaa HNR.out)).trans HNR.out);obtain⟨_,t0,t1,t2,u0,u1,u2⟩:=aac HNR2.out;have HGX3:=hide (HGX.out.below HB3.out);have HGY3:=hide (HGY.out.below HB3.out);have HBF:=hide (HBW.out.trans (HB3.out.mono HBW.out.size));have HEQ:Hid (nm p q=sg (n1 != n2) X/\dn p q=Y):=(show _/\_ by
     rw[HP.out.1,HP.out.2,axc _ _ HY.out,axd _ _ HY.out,HG.out.1,HXY.out.1,HXY.out.2]
     exact⟨rfl,rfl⟩)
    have fin:∀ng:Bool,ng=((n1 != n2)&&decide (0<rx.length))->OutR (nm p q) (dn p q) L (.agg #[.bool ng,.slice a rx.length b,.slice c ry.length d]) (((w3.setCell ⟨w.heap.size+2,0,none⟩ (.bool ng)).setCell ⟨w.heap.size+2,1,none⟩ (.slice a rx.length b)).setCell ⟨w.heap.size+2,2,none⟩ (.slice c ry.length d))/\Below w.heap.size w (((w3.setCell ⟨w.heap.size+2,0,none⟩ (.bool ng)).setCell ⟨w.heap.size+2,1,none⟩ (.slice a rx.length b)).setCell ⟨w.heap.size+2,2,none⟩ (.slice c ry.length d)):=fun ng hng=>by
     have hr:=aeg HNR2.out (.bool ng) (.slice a rx.length b) (.slice c ry.length d);rw[HEQ.out.1,HEQ.out.2,hng]at *
     exact⟨⟨_,a,b,rx,c,d,ry,rfl,Wh.of (n1 != n2) ⟨HGX3.out.1.ru hr,HGX3.out.2⟩,⟨HGY3.out.1.ru hr,HGY3.out.2⟩,HLX.out.1,HLX.out.2⟩,((HBF.out.setCell (by simp) _).setCell (by simp) _).setCell (by simp) _⟩
    have HF:=hide fin;have HSR:=hide (fun ng:Bool=>aet HNR2.out (.bool ng) (.slice a rx.length b) (.slice c ry.length d));clear fin;obtain⟨lr,hlr⟩:∃lr,rx.length=lr:=⟨_,rfl⟩;rw[hlr]at HF HSR ⊢;clear HEQ HB3 HBF HGX3 HGY3 hlr;by_cases hn:n1=n2
    ·subst hn;have HFF:=hide (And.intro (HF.out false (by simp)) (HSR.out false));clear HF HSR;go_wp2;exact abn (bodyPost_ret (v:=_) (acj (g:=w.heap.size+2) rfl rfl (lvr3 HFF.out.2)) rfl ⟨_,rfl,HFF.out.1.1,HFF.out.1.2⟩)
    ·have HFF:=hide (And.intro (HF.out (!n1==n2&&decide (0<lr)) rfl) (HSR.out (!n1==n2&&decide (0<lr))));clear HF HSR;go_wp2;exact abn (bodyPost_ret (v:=_) (acj (g:=w.heap.size+2) rfl rfl (lvr3 HFF.out.2)) rfl ⟨_,rfl,HFF.out.1.1,HFF.out.1.2⟩)
   ·have hb1':((kb:Int)==1)=false:=by simpa using hb1
    have hgo:¬(Int.gcd X Y:Int)=1:=fun h=>hb1 (HGO.out.2 h)
    have HK1:=hide (HK.out.resolve_right (fun⟨_,hX,hY⟩=>by
     have hg:=HG.out;have:=aln (x:=val xs) (y:=val ys) (by rw[hg.1];exact hg.2);rw[hg.1,<-hX,<-hY]at this
     exact hgo this))
    have HXY:=hide HK1.out.2;have hg7:val r7=g:=by rw[HG7.out.val,HXY.out.1,HXY.out.2];exact HG.out.1
    have K3:=hide (ae9 w3 a a7 _ _ b c7 rx r7 (HGX.out.below HB3.out).sl HG7.out.sl (by have:=HLX.out;omega) (by rw[hg7];have:=HG.out;omega));rw[hg7,HGX.out.val]at K3;have HG7V:=hide hg7;clear hb1 hgo hg7;go_wp2_with fail
    refine K3.out.mono ?_;rintro e w5 ⟨a8,c8,r8,a9,c9,r9,rfl,G8,G9,k8,k9,hb5⟩;have HG8:=hide G8;have H35:=hide (HB3.out.trans (hb5.mono HB3.out.size));have hx5:=(hb5.cell (p:=⟨w.heap.size,0,none⟩) (aap hx0')).trans hx0';have hy5:=(hb5.cell (p:=⟨w.heap.size+1,0,none⟩) (aap hy0')).trans hy0';have K4:=hide (ae9 w5 c a7 _ _ d c7 ry r7 (HGY.out.below H35.out).sl (HG7.out.below hb5).sl (by have:=HLX.out;omega) (by rw[HG7V.out];have:=HG.out;omega));rw[HG7V.out,HGY.out.val]at K4;have HK8:=hide k8;clear G8 G9 k8 k9 hb5 K3 hx0' hy0';go_wp2_with fail
    refine K4.out.mono ?_;rintro e w6 ⟨a10,c10,r10,a11,c11,r11,rfl,G10,G11,k10,k11,hb6⟩;have HG10:=hide G10;have HG8':=hide (HG8.out.below hb6);have H36:=hide (H35.out.trans (hb6.mono H35.out.size));have hx6:=(hb6.cell (p:=⟨w.heap.size,0,none⟩) (aap hx5)).trans hx5;have hy6:=(hb6.cell (p:=⟨w.heap.size+1,0,none⟩) (aap hy5)).trans hy5;have HK10:=hide k10;clear G10 G11 k10 k11 hb6 K4 hx5 hy5;go_wp2;go_roundg 0
    case rel=>exact⟨a8,c8,a10,c10,r8,r10,_,_,rfl,rfl,HG8'.out,HG10.out,Nat.le_trans HK8.out HLX.out.1,Nat.le_trans HK10.out HLX.out.2,.inr ⟨rfl,by rw[HXY.out.1],by rw[HXY.out.2]⟩,HBW.out.trans (H36.out.mono HBW.out.size),(H36.out.block _ (aaa HNR.out)).trans HNR.out,hx6,hy6⟩
    case measure=>have:=HK1.out.1;omega
theorem asg(w:World)(L:Nat)(hL:L<=100000)(nx:Bool)(ax:Option Addr)(mx cx:Nat)(xs:List Int)(zx:Int)(Ax:Ag w nx ax mx cx xs zx)(Lx:xs.length<=L)(ny:Bool)(ay:Option Addr)(my cy:Nat)(ys:List Int)(zy:Int)(Ay:Ag w ny ay my cy ys zy)(Ly:ys.length<=L)(hy:zy≠0):
  Calls Tryz.prog 126 #[.agg #[.bool nx,.slice ax mx cx],.agg #[.bool ny,.slice ay my cy]] w fun e w'=>∃v,e=.returned v/\OutR (nm zx zy) (dn zx zy) L v w'/\Below w.heap.size w w':=
 ag8 w _ _ zx zy L ⟨_,_,_,_,_,rfl,Ax,Lx⟩ ⟨_,_,_,_,_,rfl,Ay,Ly⟩ hy hL
theorem anu:Has Tryz.prog 126:=by unfold Has;kernel_rfl
theorem ai6{dst:Option Tmp}{ty:TypeId}{pos:String}{after:Array Edge}{guard:Option (Nat×Bool)}{a:Act}{w:World}{ats:Array TypeId}{i j:Nat}{p q:Int}{L1 L2:Nat}(h:IsW p L1 (a.eval (.tmp i)) w)(h':IsW q L2 (a.eval (.tmp j)) w)(hL:L1+L2<=100000)(hq:q≠0):
  Does Tryz.prog {dst,op:=.call {callee:=.value (.func 126),args:=#[.tmp i,.tmp j],argTypes:=ats},type:=ty,pos,after,guard} a.eval w fun v w'=>Below w.heap.size w w'/\OutR (nm p q) (dn p q) (L1+L2) v w':=by
 obtain⟨ng,ao,n,cap,xs,e,A,l⟩:=h;obtain⟨ng',ao',n',cap',xs',e',A',l'⟩:=h';refine abd anu _ (by simp only[List.map_toArray,List.map_cons,List.map_nil,e,e']) ((asg w (L1+L2) hL _ _ _ _ _ _ A (by omega) _ _ _ _ _ _ A' (by omega) hq).mono ?_);rintro e w' ⟨v,rfl,h1,hb⟩;exact⟨_,rfl,hb,h1⟩
end Lm
end Go.Proofs.YtooefpkhacecnaaGreatDoor
