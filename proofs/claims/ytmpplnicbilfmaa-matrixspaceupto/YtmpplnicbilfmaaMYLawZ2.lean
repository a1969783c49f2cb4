/-
  What the text behind the last one leans on, part 2.
-/
import Derived.Test.YtmpplnicbilfmaaMYLawZ1
set_option maxRecDepth 20000
set_option maxHeartbeats 40000000
namespace Go.Proofs.Ytmpplnicbilfmaa
namespace Lm
open Go Go.RowKit
def waits(ops:Array Oper):Nat->Nat->Nat->Bool
 |0,_,_=>false
 |f+1,i,j=>match ops[i]? with
  |some o=>o.after.any fun e=>Region.binds .any e&&(e.on==j||waits ops f e.on j)
  |none=>false
def Shut(ops:Array Oper)(l:Array Bool):Prop:=∀j o,ops[j]? = some o->l.getD j false=true->∀e∈o.after,Region.binds .any e=true->l.getD e.on false=true
theorem adu{ops:Array Oper}{l:Array Bool}(hc:Shut ops l):∀f i j o,ops[i]? = some o->(∀e∈o.after,Region.binds .any e=true->l.getD e.on false=true)->waits ops f i j=true->l.getD j false=true
 |0,_,_,_,_,_,h=>by simp[waits]at h
 |f+1,i,j,o,ho,hl,h=>by
  rw[waits,ho]at h;simp only at h;rw[<-Array.any_toList]at h;obtain⟨e,he,h3⟩:=List.any_eq_true.1 h;replace he:=Array.mem_toList_iff.1 he;simp only[Bool.and_eq_true,Bool.or_eq_true,beq_iff_eq]at h3;obtain⟨hb,h3⟩:=h3;have hd:=hl e he hb;rcases h3 with h3|h3
  ·rw[<-h3];exact hd
  ·cases hq:ops[e.on]? with
   |none=>cases f <;> simp[waits,hq]at h3
   |some q=>exact adu hc f e.on j q hq (hc e.on q hq hd) h3
theorem Shut.set{ops:Array Oper}{l:Array Bool}{i:Nat}{o:Oper}(hc:Shut ops l)(ho:ops[i]? = some o)(hd:∀e∈o.after,Region.binds .any e=true->l.getD e.on false=true):Shut ops (l.setIfInBounds i true):=by
 intro j q hq hj e he hb;have up:l.getD e.on false=true->(l.setIfInBounds i true).getD e.on false=true:=fun h=>by
  by_cases hei:e.on=i
  ·have hlt:e.on<l.size:=by
    apply Classical.byContradiction;intro hn;rw[Array.getD_eq_getD_getElem?,Array.getElem?_eq_none (by omega)]at h;cases h
   rw[hei,Array.getD_eq_getD_getElem?,Array.getElem?_setIfInBounds_self_of_lt (by omega)];rfl
  ·rw[getD_set_ne false (fun h=>hei h.symm)];exact h
 by_cases hji:j=i
 ·subst hji;obtain rfl:o=q:=by rw[ho]at hq;exact Option.some.inj hq
  exact up (hd e he hb)
 ·rw[getD_set_ne false (fun h=>hji h.symm)]at hj;exact up (hc j q hq hj e he hb)
theorem acx{P:Program}{ops:Array Oper}{Q:Exit->Act->World->Prop}{id n:Nat}{a:Act}{w:World}(m:Nat)(Ds:List Nat)(Ps:List Says)(hm:P.follows .mixedOrders=true)(hn:a.tmps.size=n)(hnd:Ds.Nodup)(hlt:(Ds.all fun d=>decide (d<n))=true)
  (hdep:(ops.toList.zipIdx.all fun p=>p.1.after.all fun e=>decide (e.on<p.2))=true) (hms:m<=ops.size) (hall:((List.range ops.size).all fun i=>decide (i<m)||(List.range i).all fun j=>waits ops ops.size i j)=true) (hM:Monos Ps) (hD:Duties P n Ds Ps a w (ops.toList.take m) Ds Ps)
  (hend:∀a' w',a'.tmps.size=n->a'.defers=a.defers->Below w.heap.size w w'->Rest Ds a a'->(∀j,j<Ds.length->Ps.getD j (fun _ _=>True) (a'.eval (.tmp (Ds.getD j 0))) w')->wpList P ops Q (ops.toList.drop m) a' w'):(Code.region id ops true).wp P Q a w:=by
 obtain⟨hlen,hat⟩:=hD.take hms;have hL:∀k,k<=ops.size->wpOps P ops Q (List.range' k (ops.size-k))=wpList P ops Q (ops.toList.drop k):=fun k hk=>by
  have:=wpOps_eq_wpList (P:=P) (ops:=ops) (Q:=Q) (ops.toList.drop k) k (fun j=>by rw[List.getElem?_drop,Array.getElem?_toList]);rw[<-this];simp
 have hneed:∀i o,ops[i]? = some o->m<=i->∀l:Array Bool,Shut ops l->(∀e∈o.after,Region.binds .any e=true->l.getD e.on false=true)->∀j,j<i->l.getD j false=true:=by
  intro i o ho hi l hc hl j hj;have hio:i<ops.size:=(Array.getElem?_eq_some_iff.1 ho).1;have h1:=List.all_eq_true.1 hall i (List.mem_range.2 hio);simp only[Bool.or_eq_true,decide_eq_true_eq]at h1;rcases h1 with h1|h1
  ·omega
  ·exact adu hc _ i j o ho hl (List.all_eq_true.1 h1 j (List.mem_range.2 hj))
 refine abm hm (fun l a' w'=>(l.size=ops.size/\Shut ops l)/\(((∀j,m<=j->l.getD j false=false)/\Mid n Ds Ps a w (l.extract 0 m) a' w')\/∃j,m<j/\j<=ops.size/\(∀k,k<j->l.getD k false=true)/\(∀k,j<=k->l.getD k false=false)/\wpOps P ops Q (List.range' j (ops.size-j)) a' w')) ?_ ?_ ?_
 ·refine⟨⟨by simp,fun j o _ hj=>?_⟩,.inl ⟨fun j _=>?_,by simp[hlen];omega,hn,rfl,Below.drew (Below.refl _ _),fun _ _=>rfl,fun j hj=>?_⟩⟩
  ·exfalso;simp[Array.getElem?_replicate]at hj;split at hj <;> simp at hj
  ·simp[Array.getElem?_replicate];split <;> simp
  ·exfalso;by_cases hjm:j<m
   ·rw[aap hjm]at hj;simp[Array.getElem?_replicate]at hj;split at hj <;> simp at hj
   ·rw[Array.getD_eq_getD_getElem?,Array.getElem?_eq_none (by simp;omega)]at hj;simp at hj
 ·rintro l a' w' ⟨⟨hs,hcl⟩,hI⟩ hr;have hal:=acn hdep hs hr;rcases hI with⟨h1,h2,h3,h4,h5,h6,h7⟩|⟨j,hj1,hj2,hj3,hj4,hj5⟩
  ·have hmo:m=ops.size:=by
    apply Classical.byContradiction;intro hne;have:=hal m (by omega);rw[h1 m (Nat.le_refl _)]at this;cases this
   have:=hend a' w' h3 h4 h5 h6 (fun j hj=>h7 j (by rw[aap (by omega)];exact hal j (by omega)));rw[List.drop_eq_nil_of_le (by simp;omega)]at this;exact this
  ·have hje:j=ops.size:=by
    apply Classical.byContradiction;intro hne;have:=hal j (by omega);rw[hj4 j (Nat.le_refl _)]at this;cases this
   subst hje;simpa[wpOps]using hj5
 ·rintro l a' w' ⟨⟨hs,hcl⟩,hI⟩ i hi;obtain⟨hun,o,ho,hdeps⟩:=mem_ready.1 hi;have hio:i<ops.size:=(Array.getElem?_eq_some_iff.1 ho).1;have hset:∀k,k≠i->(l.setIfInBounds i true).getD k false=l.getD k false:=fun k hk=>getD_set_ne false (fun e=>hk e.symm)
  have hseti:(l.setIfInBounds i true).getD i false=true:=by
   rw[Array.getD_eq_getD_getElem?,Array.getElem?_setIfInBounds_self_of_lt (by omega)];rfl
  have hif:l.getD i false=false:=by
   rw[Array.getD_eq_getD_getElem?]at hun ⊢;cases hc:l[i]? with
   |none=>rfl
   |some b=>rw[hc]at hun;simpa using hun
  have hcl':Shut ops (l.setIfInBounds i true):=hcl.set ho hdeps;have hrun:∀j,j=i->wpOps P ops Q (List.range' j (ops.size-j)) a' w'->m<=j->(∀k,k<j->l.getD k false=true)->(∀k,j<=k->l.getD k false=false)->wpOp P ops Q i (fun a' w'=>((l.setIfInBounds i true).size=ops.size/\Shut ops (l.setIfInBounds i true))/\(((∀j,m<=j->(l.setIfInBounds i true).getD j false=false)/\Mid n Ds Ps a w ((l.setIfInBounds i true).extract 0 m) a' w')\/∃j,m<j/\j<=ops.size/\(∀k,k<j->(l.setIfInBounds i true).getD k false=true)/\(∀k,j<=k->(l.setIfInBounds i true).getD k false=false)/\wpOps P ops Q (List.range' j (ops.size-j)) a' w')) a' w':=by
   rintro j rfl hw hmj hlo hhi;rw[show ops.size-j=(ops.size-(j+1))+1 by omega,List.range'_succ,wpOps_cons]at hw;refine wpOp_mono (fun a2 w2 h=>⟨⟨by simpa using hs,hcl'⟩,.inr ⟨j+1,by omega,by omega,fun k hk=>?_,fun k hk=>?_,h⟩⟩) hw
   ·by_cases e:k=j
    ·subst e;exact hseti
    ·rw[hset k e];exact hlo k (by omega)
   ·rw[hset k (by omega)];exact hhi k (by omega)
  rcases hI with⟨h1,hmid⟩|⟨j,hj1,hj2,hj3,hj4,hj5⟩
  ·by_cases him:i<m
   ·have hd':∀e∈o.after,Region.binds .any e=true->(l.extract 0 m).getD e.on false=true:=fun e he hb=>by
     have h2:=List.all_eq_true.1 hdep (o,i) (by rw[List.mem_zipIdx_iff_getElem?];simpa using ho);have h3:e.on<i:=by simpa using Array.all_eq_true_iff_forall_mem.1 h2 e he
     rw[aap (by omega)];exact hdeps e he hb
    refine wpOp_mono (fun a2 w2 h=>⟨⟨by simpa using hs,hcl'⟩,.inl ⟨fun k hk=>?_,?_⟩⟩) (ahe hat (by omega) hnd hlt hM ho (by omega) hmid hd')
    ·rw[hset k (by omega)];exact h1 k hk
    ·rw[ac4];exact h
   ·have hpre:=hneed i o ho (by omega) l hcl hdeps;have hie:i=m:=by
     apply Classical.byContradiction;intro hne;have:=hpre m (by omega);rw[h1 m (Nat.le_refl _)]at this;cases this
    subst hie;obtain⟨h2,h3,h4,h5,h6,h7⟩:=hmid;have hw:=hend a' w' h3 h4 h5 h6 (fun j hj=>h7 j (by rw[aap (by omega)];exact hpre j (by omega)));rw[<-hL _ hms]at hw;exact hrun i rfl hw (Nat.le_refl _) hpre h1
  ·have hij:i=j:=by
    apply Classical.byContradiction;intro hne;by_cases hlt':i<j
    ·rw[hj3 i hlt']at hif;cases hif
    ·have:=hneed i o ho (by omega) l hcl hdeps j (by omega);rw[hj4 j (Nat.le_refl _)]at this;cases this
   exact hrun j hij.symm hj5 (by omega) hj3 hj4
structure Tch (g:Nat) (w w':World):Prop where
 os:w'.os=w.os
 tape:w'.tape=w.tape
 output:w'.output=w.output
 size:w.heap.size<=w'.heap.size
 other:∀k,k<w.heap.size->k≠g->w'.heap[k]? = w.heap[k]?
theorem Tch.of_below{g:Nat}{w w':World}(h:Below w.heap.size w w'):Tch g w w':=⟨h.os,h.tape,h.output,h.size,fun k hk _=>h.block k hk⟩
theorem Tch.of_grown{g:Nat}{w w':World}{r:Option Nat}(h:w.grownBy w' r)(hr:∀k,r=some k->k=g):Tch g w w':=⟨h.os,h.tape,h.output,h.size,fun k hk hn=>h.block k hk (fun e=>hn (hr k e.symm))⟩
theorem Tch.trans{g:Nat}{w w' w'':World}(h:Tch g w w')(h':Tch g w' w''):Tch g w w'':=⟨h'.os.trans h.os,h'.tape.trans h.tape,h'.output.trans h.output,Nat.le_trans h.size h'.size,fun k hk hn=>(h'.other k (Nat.lt_of_lt_of_le hk h.size) hn).trans (h.other k hk hn)⟩
theorem Tch.below{g B:Nat}{w w':World}(h:Tch g w w')(hB:B<=w.heap.size)(hg:B<=g):Below B w w':=⟨h.os,h.tape,h.output,h.size,fun k hk=>h.other k (by omega) (by omega)⟩
def Mid3(n g ix:Nat)(Ds:List Nat)(Ps:List Says)(a0:Act)(w0:World)(l:Array Bool)(a:Act)(w:World):Prop:=
 l.size=Ds.length/\a.tmps.size=n/\a.defers=a0.defers/\Tch g w0 w/\Rest Ds a0 a/\(∀j,l.getD j false=true->Ps.getD j (fun _ _=>True) (a.eval (.tmp (Ds.getD j 0))) w)/\(l.getD ix false=false->w.heap[g]? = w0.heap[g]?)
def MonosT(g ix:Nat)(Ps:List Says):Prop:=∀j,j≠ix->∀v w w',Tch g w w'->Ps.getD j (fun _ _=>True) v w->Ps.getD j (fun _ _=>True) v w'
def Duty3(P:Program)(n g ix:Nat)(Ds:List Nat)(Ps:List Says)(a0:Act)(w0:World)(i:Nat)(o:Oper)(d:Nat)(p:Says):Prop:=
 o.dst=some d/\o.guard=none/\∀a w,a.tmps.size=n->Tch g w0 w->Rest Ds a0 a->Deps Ds Ps o a w->(i≠ix->Does P o a.eval w fun v w'=>Below w.heap.size w w'/\p v w')/\(i=ix->w.heap[g]? = w0.heap[g]?->Does P o a.eval w fun v w'=>Tch g w w'/\p v w')
def Duties3(P:Program)(n g ix:Nat)(Ds:List Nat)(Ps:List Says)(a0:Act)(w0:World):Nat->List Oper->List Nat->List Says->Prop
 |_,[],[],[]=>True
 |i,o::os,d::ds,p::ps=>Duty3 P n g ix Ds Ps a0 w0 i o d p/\Duties3 P n g ix Ds Ps a0 w0 (i+1) os ds ps
 |_,_,_,_=>False
theorem Duties3.at{P:Program}{n g ix:Nat}{Ds:List Nat}{Ps:List Says}{a0:Act}{w0:World}: ∀ {m:Nat} {os:List Oper} {ds:List Nat} {ps:List Says},Duties3 P n g ix Ds Ps a0 w0 m os ds ps->ds.length=os.length/\∀i o,os[i]? = some o->Duty3 P n g ix Ds Ps a0 w0 (m+i) o (ds.getD i 0) (ps.getD i fun _ _=>True)
 |_,[],[],[],_=>⟨rfl,fun i o h=>by simp at h⟩
 |m,o::os,d::ds,p::ps,h=>by
  obtain⟨h1,h2⟩:=h;obtain⟨hl,h3⟩:=Duties3.at h2;refine⟨by simp[hl],fun i o' ho=>?_⟩;cases i with
  |zero=>
   simp only[List.getElem?_cons_zero,Option.some.injEq]at ho;subst ho;simpa using h1
  |succ i=>
   have:=h3 i o' (by simpa using ho);rw[show m+1+i=m+(i+1) by omega]at this;simpa using this
 |_,[],_::_,_,h=>h.elim
 |_,[],[],_::_,h=>h.elim
 |_,_::_,[],_,h=>h.elim
 |_,_::_,_::_,[],h=>h.elim
theorem Duties3.take{P:Program}{n g ix:Nat}{Ds:List Nat}{Ps:List Says}{a0:Act}{w0:World}{ops:Array Oper}{m:Nat}(h:Duties3 P n g ix Ds Ps a0 w0 0 (ops.toList.take m) Ds Ps)(hm:m<=ops.size):Ds.length=m/\∀i o,ops[i]? = some o->i<Ds.length->Duty3 P n g ix Ds Ps a0 w0 i o (Ds.getD i 0) (Ps.getD i fun _ _=>True):=by
 obtain⟨hl,hat⟩:=h.at;have hl':Ds.length=m:=by rw[hl,List.length_take];simp;omega
 refine⟨hl',fun i o ho hi=>?_⟩;have:=hat i o (by rw[List.getElem?_take_of_lt (by omega),Array.getElem?_toList];exact ho);rwa[Nat.zero_add]at this
theorem Mid3.put{n g ix:Nat}{Ds:List Nat}{Ps:List Says}{a0:Act}{w0:World}{l:Array Bool}{a:Act}{w w':World}{i:Nat}{v:Value}(h:Mid3 n g ix Ds Ps a0 w0 l a w)(hi:i<Ds.length)(hnd:Ds.Nodup)(hlt:(Ds.all fun d=>decide (d<n))=true)(ht:Tch g w w')(hk:∀j,j≠i->l.getD j false=true->∀u,Ps.getD j (fun _ _=>True) u w->Ps.getD j (fun _ _=>True) u w')(hI:(l.setIfInBounds i true).getD ix false=false->w'.heap[g]? = w.heap[g]?)(hp:Ps.getD i (fun _ _=>True) v w'):
  Mid3 n g ix Ds Ps a0 w0 (l.setIfInBounds i true) (a.put (some (Ds.getD i 0)) v) w':=by
 obtain⟨h1,h2,h3,h4,h5,h6,h7⟩:=h;have hd:Ds.getD i 0<n:=by
  have:=List.all_eq_true.1 hlt (Ds.getD i 0) (by rw[List.getD_eq_getElem?_getD,List.getElem?_eq_getElem hi];simp);simpa using this
 refine⟨by simp[h1],by rw[adh];simp[h2],h3,h4.trans ht,fun k hk=>?_,fun j hj=>?_,fun hx=>?_⟩
 ·rw[aav,h5 k hk];rintro rfl;have:Ds.contains (Ds.getD i 0)=true:=by
   rw[List.contains_iff_mem,List.getD_eq_getElem?_getD,List.getElem?_eq_getElem hi];simp
  rw[this]at hk;cases hk
 ·by_cases e:j=i
  ·subst e;rw[abw (by omega)];exact hp
  ·rw[getD_set_ne false (fun h=>e h.symm)]at hj;have hjl:j<Ds.length:=by
    rw[Array.getD_eq_getD_getElem?]at hj;cases hc:l[j]? with
    |none=>rw[hc]at hj;simp at hj
    |some b=>rw[<-h1];exact(Array.getElem?_eq_some_iff.1 hc).1
   rw[aav (ae6 hnd hi hjl (fun h=>e h.symm))];exact hk j e hj _ (h6 j hj)
 ·refine(hI hx).trans (h7 ?_);by_cases e:ix=i
  ·subst e;rw[Array.getD_eq_getD_getElem?,Array.getElem?_setIfInBounds_self_of_lt (by omega)]at hx;cases hx
  ·rwa[getD_set_ne false (fun h=>e h.symm)]at hx
theorem ak6{P:Program}{ops:Array Oper}{Q:Exit->Act->World->Prop}{n g ix:Nat}{Ds:List Nat}{Ps:List Says}{a0:Act}{w0:World}{l:Array Bool}{a:Act}{w:World}{i:Nat}{o:Oper}(hgw:g<w0.heap.size)(hat:∀i o,ops[i]? = some o->i<Ds.length->Duty3 P n g ix Ds Ps a0 w0 i o (Ds.getD i 0) (Ps.getD i fun _ _=>True))(hnd:Ds.Nodup)(hlt:(Ds.all fun d=>decide (d<n))=true)(hM:Monos Ps)(hT:MonosT g ix Ps)(ho:ops[i]? = some o)(hil:i<Ds.length)(hun:l.getD i false=false)(h:Mid3 n g ix Ds Ps a0 w0 l a w)(hdeps:∀e∈o.after,Region.binds .any e=true->l.getD e.on false=true):
  wpOp P ops Q i (fun a' w'=>Mid3 n g ix Ds Ps a0 w0 (l.setIfInBounds i true) a' w') a w:=by
 have h':=h;obtain⟨h1,h2,h3,h4,h5,h6,h7⟩:=h;obtain⟨hdst,hgd,hduty⟩:=hat i o ho hil;obtain⟨hd1,hd2⟩:=hduty a w h2 h4 h5 (fun j hj=>by
  obtain⟨e,he,hj⟩:=List.any_eq_true.1 hj;simp only[Bool.and_eq_true,beq_iff_eq]at hj;obtain⟨rfl,hb⟩:=hj
  exact h6 _ (hdeps e (by simpa using he) hb))
 refine wpOp_step ho (fun K' hK=>?_);simp only[Region.wanted,hgd,if_true];by_cases hix:i=ix
 ·subst hix;refine Does.wp (hd2 rfl (h7 hun)) (fun v w' ⟨hb,hp⟩=>?_);rw[hdst];refine hK _ _ (h'.put hil hnd hlt hb (fun j hj _ u hu=>hT j hj u w w' hb hu) (fun hx=>?_) hp);rw[Array.getD_eq_getD_getElem?,Array.getElem?_setIfInBounds_self_of_lt (by omega)]at hx;cases hx
 ·refine Does.wp (hd1 hix) (fun v w' ⟨hb,hp⟩=>?_);rw[hdst];exact hK _ _ (h'.put hil hnd hlt (.of_below hb) (fun j _ _ u hu=>hM.at j u w w' hb hu) (fun _=>hb.block g (Nat.lt_of_lt_of_le hgw h4.size)) hp)
theorem ad8{P:Program}{ops:Array Oper}{Q:Exit->Act->World->Prop}{id n:Nat}{a:Act}{w:World}(g ix m:Nat)(Ds:List Nat)(Ps:List Says)(hgw:g<w.heap.size)(hm:P.follows .mixedOrders=true)(hn:a.tmps.size=n)(hnd:Ds.Nodup)(hlt:(Ds.all fun d=>decide (d<n))=true)
  (hdep:(ops.toList.zipIdx.all fun p=>p.1.after.all fun e=>decide (e.on<p.2))=true) (hms:m<=ops.size) (hall:((List.range ops.size).all fun i=>decide (i<m)||(List.range i).all fun j=>waits ops ops.size i j)=true) (hM:Monos Ps) (hT:MonosT g ix Ps) (hD:Duties3 P n g ix Ds Ps a w 0 (ops.toList.take m) Ds Ps)
  (hend:∀a' w',a'.tmps.size=n->a'.defers=a.defers->Tch g w w'->Rest Ds a a'->(∀j,j<Ds.length->Ps.getD j (fun _ _=>True) (a'.eval (.tmp (Ds.getD j 0))) w')->wpList P ops Q (ops.toList.drop m) a' w'):(Code.region id ops true).wp P Q a w:=by
 obtain⟨hlen,hat⟩:=hD.take hms;have hL:∀k,k<=ops.size->wpOps P ops Q (List.range' k (ops.size-k))=wpList P ops Q (ops.toList.drop k):=fun k hk=>by
  have:=wpOps_eq_wpList (P:=P) (ops:=ops) (Q:=Q) (ops.toList.drop k) k (fun j=>by rw[List.getElem?_drop,Array.getElem?_toList]);rw[<-this];simp
 have hneed:∀i o,ops[i]? = some o->m<=i->∀l:Array Bool,Shut ops l->(∀e∈o.after,Region.binds .any e=true->l.getD e.on false=true)->∀j,j<i->l.getD j false=true:=by
  intro i o ho hi l hc hl j hj;have hio:i<ops.size:=(Array.getElem?_eq_some_iff.1 ho).1;have h1:=List.all_eq_true.1 hall i (List.mem_range.2 hio);simp only[Bool.or_eq_true,decide_eq_true_eq]at h1;rcases h1 with h1|h1
  ·omega
  ·exact adu hc _ i j o ho hl (List.all_eq_true.1 h1 j (List.mem_range.2 hj))
 refine abm hm (fun l a' w'=>(l.size=ops.size/\Shut ops l)/\(((∀j,m<=j->l.getD j false=false)/\Mid3 n g ix Ds Ps a w (l.extract 0 m) a' w')\/∃j,m<j/\j<=ops.size/\(∀k,k<j->l.getD k false=true)/\(∀k,j<=k->l.getD k false=false)/\wpOps P ops Q (List.range' j (ops.size-j)) a' w')) ?_ ?_ ?_
 ·refine⟨⟨by simp,fun j o _ hj=>?_⟩,.inl ⟨fun j _=>?_,by simp[hlen];omega,hn,rfl,.of_below (Below.drew (Below.refl _ _)),fun _ _=>rfl,fun j hj=>?_,fun _=>rfl⟩⟩
  ·exfalso;simp[Array.getElem?_replicate]at hj;split at hj <;> simp at hj
  ·simp[Array.getElem?_replicate];split <;> simp
  ·exfalso;by_cases hjm:j<m
   ·rw[aap hjm]at hj;simp[Array.getElem?_replicate]at hj;split at hj <;> simp at hj
   ·rw[Array.getD_eq_getD_getElem?,Array.getElem?_eq_none (by simp;omega)]at hj;simp at hj
 ·rintro l a' w' ⟨⟨hs,hcl⟩,hI⟩ hr;have hal:=acn hdep hs hr;rcases hI with⟨h1,h2,h3,h4,h5,h6,h7⟩|⟨j,hj1,hj2,hj3,hj4,hj5⟩
  ·have hmo:m=ops.size:=by
    apply Classical.byContradiction;intro hne;have:=hal m (by omega);rw[h1 m (Nat.le_refl _)]at this;cases this
   have:=hend a' w' h3 h4 h5 h6 (fun j hj=>h7.1 j (by rw[aap (by omega)];exact hal j (by omega)));rw[List.drop_eq_nil_of_le (by simp;omega)]at this;exact this
  ·have hje:j=ops.size:=by
    apply Classical.byContradiction;intro hne;have:=hal j (by omega);rw[hj4 j (Nat.le_refl _)]at this;cases this
   subst hje;simpa[wpOps]using hj5
 ·rintro l a' w' ⟨⟨hs,hcl⟩,hI⟩ i hi;obtain⟨hun,o,ho,hdeps⟩:=mem_ready.1 hi;have hio:i<ops.size:=(Array.getElem?_eq_some_iff.1 ho).1;have hset:∀k,k≠i->(l.setIfInBounds i true).getD k false=l.getD k false:=fun k hk=>getD_set_ne false (fun e=>hk e.symm)
  have hseti:(l.setIfInBounds i true).getD i false=true:=by
   rw[Array.getD_eq_getD_getElem?,Array.getElem?_setIfInBounds_self_of_lt (by omega)];rfl
  have hif:l.getD i false=false:=by
   rw[Array.getD_eq_getD_getElem?]at hun ⊢;cases hc:l[i]? with
   |none=>rfl
   |some b=>rw[hc]at hun;simpa using hun
  have hcl':Shut ops (l.setIfInBounds i true):=hcl.set ho hdeps;have hrun:∀j,j=i->wpOps P ops Q (List.range' j (ops.size-j)) a' w'->m<=j->(∀k,k<j->l.getD k false=true)->(∀k,j<=k->l.getD k false=false)->wpOp P ops Q i (fun a' w'=>((l.setIfInBounds i true).size=ops.size/\Shut ops (l.setIfInBounds i true))/\(((∀j,m<=j->(l.setIfInBounds i true).getD j false=false)/\Mid3 n g ix Ds Ps a w ((l.setIfInBounds i true).extract 0 m) a' w')\/∃j,m<j/\j<=ops.size/\(∀k,k<j->(l.setIfInBounds i true).getD k false=true)/\(∀k,j<=k->(l.setIfInBounds i true).getD k false=false)/\wpOps P ops Q (List.range' j (ops.size-j)) a' w')) a' w':=by
   rintro j rfl hw hmj hlo hhi;rw[show ops.size-j=(ops.size-(j+1))+1 by omega,List.range'_succ,wpOps_cons]at hw;refine wpOp_mono (fun a2 w2 h=>⟨⟨by simpa using hs,hcl'⟩,.inr ⟨j+1,by omega,by omega,fun k hk=>?_,fun k hk=>?_,h⟩⟩) hw
   ·by_cases e:k=j
    ·subst e;exact hseti
    ·rw[hset k e];exact hlo k (by omega)
   ·rw[hset k (by omega)];exact hhi k (by omega)
  rcases hI with⟨h1,hmid⟩|⟨j,hj1,hj2,hj3,hj4,hj5⟩
  ·by_cases him:i<m
   ·have hd':∀e∈o.after,Region.binds .any e=true->(l.extract 0 m).getD e.on false=true:=fun e he hb=>by
     have h2:=List.all_eq_true.1 hdep (o,i) (by rw[List.mem_zipIdx_iff_getElem?];simpa using ho);have h3:e.on<i:=by simpa using Array.all_eq_true_iff_forall_mem.1 h2 e he
     rw[aap (by omega)];exact hdeps e he hb
    refine wpOp_mono (fun a2 w2 h=>⟨⟨by simpa using hs,hcl'⟩,.inl ⟨fun k hk=>?_,?_⟩⟩) (ak6 hgw hat hnd hlt hM hT ho (by omega) (by rw[aap him];exact hif) hmid hd')
    ·rw[hset k (by omega)];exact h1 k hk
    ·rw[ac4];exact h
   ·have hpre:=hneed i o ho (by omega) l hcl hdeps;have hie:i=m:=by
     apply Classical.byContradiction;intro hne;have:=hpre m (by omega);rw[h1 m (Nat.le_refl _)]at this;cases this
    subst hie;obtain⟨h2,h3,h4,h5,h6,h7⟩:=hmid;have hw:=hend a' w' h3 h4 h5 h6 (fun j hj=>h7.1 j (by rw[aap (by omega)];exact hpre j (by omega)));rw[<-hL _ hms]at hw;exact hrun i rfl hw (Nat.le_refl _) hpre h1
  ·have hij:i=j:=by
    apply Classical.byContradiction;intro hne;by_cases hlt':i<j
    ·rw[hj3 i hlt']at hif;cases hif
    ·have:=hneed i o ho (by omega) l hcl hdeps j (by omega);rw[hj4 j (Nat.le_refl _)]at this;cases this
   exact hrun j hij.symm hj5 (by omega) hj3 hj4
end Lm
namespace Md
abbrev Rw:=Nat->Int
def w(x:Rw):(List Nat->Int)->List Nat->Int
 |_,[]=>0
 |g,c::cs=>x c*g cs-w x (fun l=>g (c::l)) cs
theorem aei(x:Rw){g h:List Nat->Int}(e:∀l,g l=h l)(cs:List Nat):w x g cs=w x h cs:=by
 rw[show g=h from funext e]
theorem ap7(x:Rw)(g h:List Nat->Int)(cs:List Nat):w x (fun l=>g l+h l) cs=w x g cs+w x h cs:=by
 induction cs generalizing g h with
 |nil=>simp[w]
 |cons c cs ih=>simp only[w,ih];grind
theorem ajo(x:Rw)(a:Int)(g:List Nat->Int)(cs:List Nat):w x (fun l=>a*g l) cs=a*w x g cs:=by
 induction cs generalizing g with
 |nil=>simp[w]
 |cons c cs ih=>simp only[w,ih];grind
theorem ajp(x:Rw)(g:List Nat->Int)(cs:List Nat):w x (fun l=>-g l) cs = -w x g cs:=by
 have:=ajo x (-1) g cs;rw[show(fun l=>-g l)=fun l=>-1*g l from funext fun l=>by omega,this];omega
theorem ap8(x:Rw)(g h:List Nat->Int)(cs:List Nat):w x (fun l=>g l-h l) cs=w x g cs-w x h cs:=by
 have:=ap7 x g (fun l=>-h l) cs;rw[ajp]at this;rw[show(fun l=>g l-h l)=fun l=>g l+-h l from funext fun l=>by omega,this];omega
theorem apu(x:Rw)(cs:List Nat):w x (fun _=>0) cs=0:=by
 have:=ajo x 0 (fun _=>0) cs;simpa using this
theorem ak7(x y:Rw)(g:List Nat->Int)(cs:List Nat):w x (w y g) cs = -w y (w x g) cs:=by
 induction cs generalizing g with
 |nil=>simp[w]
 |cons c cs ih=>
  have h1:∀(x y:Rw),w x (fun l=>w y g (c::l)) cs=y c*w x g cs-w x (w y (fun l=>g (c::l))) cs:=by
   intro x y;rw[<-ajo,<-ap8];exact aei x (fun l=>by rw[w]) cs
  rw[w,w,h1 x y,h1 y x,ih];omega
theorem ane(x y:Rw)(a b:Int)(g:List Nat->Int)(cs:List Nat):w (fun c=>a*x c+b*y c) g cs=a*w x g cs+b*w y g cs:=by
 induction cs generalizing g with
 |nil=>simp[w]
 |cons c cs ih=>simp only[w,ih];grind
theorem ak8{x:Rw}(g:List Nat->Int)(cs:List Nat)(h:∀c∈cs,x c=0):w x g cs=0:=by
 induction cs generalizing g with
 |nil=>rfl
 |cons c cs ih=>rw[w,h c (by simp),ih _ (fun d hd=>h d (by simp[hd]))];omega
def Alt(g:List Nat->Int):Prop:=∀(p:List Nat) (a b:Nat) (q:List Nat),g (p++a::b::q) = -g (p++b::a::q)
theorem Alt.pre{g:List Nat->Int}(h:Alt g)(u:List Nat):Alt (fun l=>g (u++l)):=fun p a b q=>by
 have:=h (u++p) a b q;simpa using this
theorem Alt.cons{g:List Nat->Int}(h:Alt g)(u:Nat):Alt (fun l=>g (u::l)):=h.pre [u]
theorem Alt.w{g:List Nat->Int}(h:Alt g)(x:Rw):Alt (Md.w x g):=by
 intro p;induction p generalizing g with
 |nil=>
  intro a b q;simp only[List.nil_append,Md.w];have h1:=aei x (g:=fun l=>g (a::b::l)) (h:=fun l=>-g (b::a::l)) (fun l=>h [] a b l) q;rw[ajp]at h1;omega
 |cons c p ih=>
  intro a b q;simp only[List.cons_append,Md.w];have h1:=ih (h.cons c) a b q;have h2:=h p a b q;rw[h1,h2]
  grind
theorem Alt.two{g:List Nat->Int}(h:Alt g)(a:Nat)(p q:List Nat):g (a::(p++a::q))=0:=by
 induction p generalizing g with
 |nil=>have:=h [] a a q;simp only[List.nil_append]at this ⊢;omega
 |cons b p ih=>
  have h1:=h [] a b (p++a::q);have h2:=ih (h.cons b);simp only[List.nil_append,List.cons_append]at h1 h2 ⊢;omega
theorem Alt.dup{g:List Nat->Int}(h:Alt g){l:List Nat}(hl:¬l.Nodup):g l=0:=by
 induction l generalizing g with
 |nil=>exact absurd List.nodup_nil hl
 |cons a l ih=>
  by_cases ha:a∈l
  ·obtain⟨p,q,rfl⟩:=List.append_of_mem ha;exact h.two a p q
  ·exact ih (h.cons a) (fun hn=>hl (List.nodup_cons.2 ⟨ha,hn⟩))
def sgn:Nat->Int
 |0=>1
 |n+1=>-sgn n
theorem ahl(n:Nat):sgn n*sgn n=1:=by
 induction n with
 |zero=>rfl
 |succ n ih=>rw[sgn,Int.neg_mul_neg,ih]
theorem apv(n:Nat):sgn n=if n%2=1 then -1 else 1:=by
 induction n with
 |zero=>rfl
 |succ n ih=>
  rw[sgn,ih];split <;> split <;> omega
theorem Alt.move{g:List Nat->Int}(h:Alt g)(c:Nat)(p q:List Nat):g (c::(p++q))=sgn p.length*g (p++c::q):=by
 induction p generalizing g with
 |nil=>simp[sgn]
 |cons b p ih=>
  have h1:=h [] c b (p++q);have h2:=ih (h.cons b);simp only[List.nil_append,List.cons_append,List.length_cons,sgn]at h1 h2 ⊢;rw[h1,h2]
  grind
def sub(p k:Nat)(l:List Nat):List Nat:=l.map (fun q=>if q=p then k else q)
theorem sub_self(p:Nat)(l:List Nat):sub p p l=l:=by
 unfold sub;conv=>rhs;rw[<-List.map_id l]
 apply List.map_congr_left;intro q _;split
 ·next h=>rw[h];rfl
 ·rfl
theorem adf{p:Nat}{l:List Nat}(h:p∉l)(k:Nat):sub p k l=l:=by
 unfold sub;conv=>rhs;rw[<-List.map_id l]
 apply List.map_congr_left;intro q hq;rw[if_neg (fun e:q=p=>h (by rw[<-e];exact hq))];rfl
theorem adv(p k q:Nat)(l:List Nat):sub p k (q::l)=(if q=p then k else q)::sub p k l:=rfl
theorem afj(p k:Nat)(l m:List Nat):sub p k (l++m)=sub p k l++sub p k m:=by simp[sub]
theorem adg{p k:Nat}{l:List Nat}(hp:p∈l)(hk:k∈l)(hne:k≠p):¬(sub p k l).Nodup:=by
 intro hn;obtain⟨i,hi,hi'⟩:=List.mem_iff_getElem.1 hp;obtain⟨j,hj,hj'⟩:=List.mem_iff_getElem.1 hk;have hij:i≠j:=fun e=>by subst e;exact hne (hj'.symm.trans hi')
 have h1:(sub p k l)[i]'(by simpa[sub]using hi)=k:=by simp[sub,hi']
 have h2:(sub p k l)[j]'(by simpa[sub]using hj)=k:=by simp[sub,hj',hne]
 exact hij ((List.getElem_inj hn).1 (h1.trans h2.symm))
def sumL(f:Nat->Int):List Nat->Int
 | []=>0
 |q::l=>f q+sumL f l
theorem ajq{f h:Nat->Int}{l:List Nat}(e:∀q∈l,f q=h q):sumL f l=sumL h l:=by
 induction l with
 |nil=>rfl
 |cons q l ih=>rw[sumL,sumL,e q (by simp),ih (fun r hr=>e r (by simp[hr]))]
theorem Alt.expand{g:List Nat->Int}(h:Alt g)(x:Rw)(k:Nat){Q:List Nat}(hn:Q.Nodup):Md.w x (fun l=>g (k::l)) Q=sumL (fun p=>x p*g (sub p k Q)) Q:=by
 induction Q generalizing g with
 |nil=>rfl
 |cons q Q ih=>
  obtain⟨h1,h2⟩:=List.nodup_cons.1 hn;rw[Md.w,sumL,adv,if_pos rfl,adf h1];have e:Md.w x (fun l=>g (k::q::l)) Q = -Md.w x (fun l=>g (q::k::l)) Q:=by
   rw[<-ajp];exact aei x (fun l=>h [] k q l) Q
  rw[e,ih (h.cons q) h2];have:sumL (fun p=>x p*g (q::sub p k Q)) Q=sumL (fun p=>x p*g (sub p k (q::Q))) Q:=by
   apply ajq;intro p hp;rw[adv,if_neg (fun e:q=p=>h1 (by rw[e];exact hp))]
  rw[this];omega
def D:List Rw->List Nat->Int
 | []=>fun l=>if l = []then 1 else 0
 |x::R=>w x (D R)
theorem acs(R:List Rw):Alt (D R):=by
 induction R with
 |nil=>
  intro p a b q;have:∀l:List Nat,l≠[]->D [] l=0:=fun l h=>if_neg h
  rw[this _ (by simp),this _ (by simp)];rfl
 |cons x R ih=>exact ih.w x
inductive Sp (R:List Rw):Rw->Prop
 |zero:Sp R (fun _=>0)
 |add (a:Int) (x y:Rw) (hx:x∈R) (hy:Sp R y):Sp R (fun c=>a*x c+y c)
theorem Sp.mono{R S:List Rw}{x:Rw}(h:Sp R x)(hs:∀y∈R,y∈S):Sp S x:=by
 induction h with
 |zero=>exact .zero
 |add a x y hx _ ih=>exact .add a x y (hs x hx) ih
theorem Sp.lin{R:List Rw}{x y:Rw}(hx:Sp R x)(hy:Sp R y)(a b:Int):Sp R (fun c=>a*x c+b*y c):=by
 induction hx with
 |zero=>
  induction hy with
  |zero=>simpa using Sp.zero
  |add e u v hu _ ih=>
   have:=Sp.add (b*e) u _ hu ih;refine cast (congrArg (Sp R) (funext fun c=>?_)) this
   grind
 |add e u v hu _ ih=>
  have:=Sp.add (a*e) u _ hu ih;refine cast (congrArg (Sp R) (funext fun c=>?_)) this
  grind
theorem Sp.mem{R:List Rw}{x:Rw}(h:x∈R):Sp R x:=by
 have:=Sp.add 1 x _ h Sp.zero;refine cast (congrArg (Sp R) (funext fun c=>?_)) this
 grind
theorem Sp.smul{R:List Rw}{x:Rw}(h:Sp R x)(a:Int):Sp R (fun c=>a*x c):=by
 have:=h.lin Sp.zero a 0;refine cast (congrArg (Sp R) (funext fun c=>?_)) this
 grind
theorem sp_w{R:List Rw}(x:Rw)(g:Nat->List Nat->Int)(h:∀l,Sp R (fun c=>g c l))(cs:List Nat):Sp R (fun c=>w x (g c) cs):=by
 induction cs generalizing g with
 |nil=>exact .zero
 |cons d cs ih=>
  have:=(h cs).lin (ih (fun c l=>g c (d::l)) (fun l=>h (d::l))) (x d) (-1);refine cast (congrArg (Sp R) (funext fun c=>?_)) this;rw[w]
  grind
theorem afv(R:List Rw)(cs:List Nat):Sp R (fun c=>D R (c::cs)):=by
 induction R generalizing cs with
 |nil=>exact Sp.zero
 |cons x R ih=>
  have h1:=(sp_w x (fun c l=>D R (c::l)) (fun l=>ih l) cs).mono (S:=x::R) (fun y hy=>by simp[hy]);have:=(Sp.mem (R:=x::R) (x:=x) (by simp)).lin h1 (D R cs) (-1);refine cast (congrArg (Sp (x::R)) (funext fun c=>?_)) this;rw[D,w]
  grind
theorem ak9{p:Nat}{Q:List Nat}(hn:Q.Nodup)(hp:p∈Q):∃a b,Q=a++p::b/\∀k,sub p k Q=a++k::b:=by
 obtain⟨a,b,rfl⟩:=List.append_of_mem hp;refine⟨a,b,rfl,fun k=>?_⟩;have h1:=List.nodup_append.1 hn;have h2:=(List.nodup_cons.1 h1.2.1).1;have h3:p∉a:=fun h=>h1.2.2 p h p (by simp) rfl
 rw[afj,adv,if_pos rfl,adf h3,adf h2]
theorem ad9(R:List Rw){p:Nat}{Q:List Nat}(hn:Q.Nodup)(hp:p∈Q):Sp R (fun k=>D R (sub p k Q)):=by
 obtain⟨a,b,_,h⟩:=ak9 hn hp;have h1:=(afv R (a++b)).smul (sgn a.length);refine cast (congrArg (Sp R) (funext fun c=>?_)) h1;rw[h c,(acs R).move c a b,<-Int.mul_assoc,ahl,Int.one_mul]
theorem ap9{R:List Rw}{r:Rw}(h:r∈R)(cs:List Nat):w r (D R) cs=0:=by
 induction R generalizing cs with
 |nil=>cases h
 |cons y R ih=>
  have h1:=ak7 r y (D R) cs;rw[show D (y::R)=w y (D R)from rfl,h1];rcases List.mem_cons.1 h with rfl|h
  ·have:=ak7 r r (D R) cs;omega
  ·rw[aei y (fun l=>ih h l) cs,apu];rfl
theorem D_sp{R:List Rw}{x:Rw}(h:Sp R x)(cs:List Nat):w x (D R) cs=0:=by
 induction h with
 |zero=>exact ak8 _ _ (fun _ _=>rfl)
 |add a x y hx _ ih=>
  have:=ane x y a 1 (D R) cs;rw[show(fun c=>a*x c+y c)=fun c=>a*x c+1*y c from funext fun c=>by omega,this,ih,ap9 hx];omega
theorem aoh{R:List Rw}{x:Rw}(h:Sp R x){Q:List Nat}(hd:D R Q≠0)(hz:∀q∈Q,x q=0)(k:Nat):x k=0:=by
 have h1:=D_sp h (k::Q);rw[w,ak8 _ Q hz]at h1;have h2:x k*D R Q=0:=by omega
 rcases Int.mul_eq_zero.1 h2 with h|h
 ·exact h
 ·exact absurd h hd
theorem afw(R:List Rw)(x:Rw){Q:List Nat}(hn:Q.Nodup)(k:Nat):D (x::R) (k::Q)=D R Q*x k-sumL (fun p=>x p*D R (sub p k Q)) Q:=by
 rw[D,w,(acs R).expand x k hn]
 grind
theorem agc(R:List Rw){Q:List Nat}{k:Nat}(hk:k∈Q):D R (k::Q)=0:=(acs R).dup (fun hn=>(List.nodup_cons.1 hn).1 hk)
theorem aoi(R:List Rw)(x:Rw){Q a b:List Nat}{c:Nat}(hQ:Q=a++b)(hn:(a++c::b).Nodup)(h1:D (x::R) (a++c::b)≠0){p:Nat}(hp:p∈Q)(k:Nat):
  D R Q*D (x::R) (sub p k (a++c::b))=D (x::R) (a++c::b)*D R (sub p k Q)-D R (sub p c Q)*D (x::R) (sub c k (a++c::b)):=by
 have hc:c∈a++c::b:=by simp
 have hp':p∈a++c::b:=by rw[hQ]at hp;simp at hp ⊢;rcases hp with h|h <;> simp[h]
 have hnQ:Q.Nodup:=by rw[hQ];exact hn.sublist (by simp)
 have hcQ:c∉Q:=by
  have h2:=List.nodup_append.1 hn;rw[hQ,List.mem_append,not_or];exact⟨fun h=>h2.2.2 c h c (by simp) rfl,(List.nodup_cons.1 h2.2.1).1⟩
 have hcp:c≠p:=fun e=>hcQ (e▸hp)
 have s1:=(ad9 (x::R) hn hp').smul (D R Q);have s2:=((ad9 R hnQ hp).mono (S:=x::R) (fun y hy=>by simp[hy]));have s3:=(ad9 (x::R) hn hc);have s4:=s2.lin s3 (-D (x::R) (a++c::b)) (D R (sub p c Q));have s5:=s1.lin s4 1 1;have key:=aoh s5 h1 (fun q hq=>?_) k
 ·grind
 ·by_cases e1:q=p
  ·subst e1;rw[sub_self,sub_self,(acs (x::R)).dup (adg hc hp' (fun e=>hcp e.symm))]
   grind
  ·rw[(acs (x::R)).dup (adg hp' hq e1)];by_cases e2:q=c
   ·subst e2;rw[sub_self]
    grind
   ·have hqQ:q∈Q:=by
     rw[hQ];simp only[List.mem_append,List.mem_cons]at hq ⊢;rcases hq with h|h|h
     ·exact .inl h
     ·exact absurd h e2
     ·exact .inr h
    rw[(acs R).dup (adg hp hqQ e1),(acs (x::R)).dup (adg hc hq e2)]
    grind
theorem w_le{x:Rw}{g:List Nat->Int}{X G:Int}(N:Nat)(hX:0<=X)(hG:0<=G)(cs:List Nat)(hx:∀c∈cs,(x c).natAbs<=X)(hg:∀l,(∀c∈l,c∈cs)->(g l).natAbs<=G)(hN:cs.length<=N):((w x g cs).natAbs:Int)<=N*(X*G):=by
 have hXG:0<=X*G:=Int.mul_nonneg hX hG;induction cs generalizing g N with
 |nil=>simp[w];exact Int.mul_nonneg (by omega) hXG
 |cons c cs ih=>
  match N,hN with
  |N+1,hN=>
   have h1:=ih (g:=fun l=>g (c::l)) N (fun d hd=>hx d (by simp[hd])) (fun l hl=>hg (c::l) (fun d hd=>by
    rcases List.mem_cons.1 hd with rfl|h
    ·simp
    ·simp[hl d h])) (by simp at hN;omega)
   have h2:((x c*g cs).natAbs:Int)<=X*G:=by
    rw[Int.natAbs_mul,Int.natCast_mul];exact Int.mul_le_mul (hx c (by simp)) (hg cs (fun d hd=>by simp[hd])) (by omega) hX
   have h3:(((x c*g cs)-w x (fun l=>g (c::l)) cs).natAbs:Int)<=((x c*g cs).natAbs:Int)+((w x (fun l=>g (c::l)) cs).natAbs:Int):=by omega
   rw[w,Int.natCast_add,Int.add_mul];omega
end Md
namespace Md
structure Gat (cols:Nat) (R:List Rw) (Q:List Nat):Prop where
 desc:Q.Pairwise (· > ·)
 lt:∀q∈Q,q<cols
 ne:D R Q≠0
 led:∀p∈Q,∀k,k<p->D R (sub p k Q)=0
theorem aoj(cols:Nat):Gat cols [] []:=⟨.nil,fun q hq=>(by cases hq),by decide,fun p hp=>(by cases hp)⟩
theorem ab9{Q:List Nat}(h:Q.Pairwise (· > ·)):Q.Nodup:=h.imp (fun h=>by omega)
theorem Gat.not_mem{R:List Rw}{Q:List Nat}{x:Rw}{c:Nat}(h:D (x::R) (c::Q)≠0):c∉Q:=fun hc=>h (agc (x::R) hc)
theorem Gat.take{cols:Nat}{R:List Rw}{Q a b:List Nat}(G:Gat cols R Q){x:Rw}{c:Nat}(hc:c<cols)(h0:∀k,k<c->D (x::R) (k::Q)=0)(hne:D (x::R) (c::Q)≠0)(hQ:Q=a++b)(ha:∀x∈a,c<x)(hb:∀x∈b,x<c):
  Gat cols (x::R) (a++c::b)/\(∀k,D (x::R) (sub c k (a++c::b))=sgn a.length*D (x::R) (k::Q))/\D (x::R) (a++c::b)=sgn a.length*D (x::R) (c::Q)/\∀p∈Q,∀k,D R Q*D (x::R) (sub p k (a++c::b))=D (x::R) (a++c::b)*D R (sub p k Q)-D R (sub p c Q)*D (x::R) (sub c k (a++c::b)):=by
 have hd:(a++c::b).Pairwise (· > ·):=by
  have h1:=G.desc;rw[hQ,List.pairwise_append]at h1;rw[List.pairwise_append,List.pairwise_cons];refine⟨h1.1,⟨fun y hy=>hb y hy,h1.2.1⟩,fun u hu v hv=>?_⟩;rcases List.mem_cons.1 hv with rfl|hv
  ·exact ha u hu
  ·exact h1.2.2 u hu v hv
 have hn:=ab9 hd;have hca:c∉a:=fun h=>by have:=ha c h;omega
 have hcb:c∉b:=fun h=>by have:=hb c h;omega
 have hsub:∀k,sub c k (a++c::b)=a++k::b:=fun k=>by rw[afj,adv,if_pos rfl,adf hca,adf hcb]
 have hmove:∀k,D (x::R) (a++k::b)=sgn a.length*D (x::R) (k::Q):=fun k=>by
  rw[hQ,(acs (x::R)).move k a b,<-Int.mul_assoc,ahl,Int.one_mul]
 have hne':D (x::R) (a++c::b)≠0:=by
  rw[hmove];intro e;rcases Int.mul_eq_zero.1 e with e|e
  ·have:=ahl a.length;rw[e]at this;simp at this
  ·exact hne e
 have hstep:∀p∈Q,∀k,D R Q*D (x::R) (sub p k (a++c::b))=D (x::R) (a++c::b)*D R (sub p k Q)-D R (sub p c Q)*D (x::R) (sub c k (a++c::b)):=fun p hp k=>aoi R x hQ hn hne' hp k
 have hz:∀k,k<c->D (x::R) (sub c k (a++c::b))=0:=fun k hk=>by rw[hsub,hmove,h0 k hk,Int.mul_zero]
 refine⟨⟨hd,fun q hq=>?_,hne',fun p hp k hk=>?_⟩,fun k=>by rw[hsub,hmove],hmove c,hstep⟩
 ·rcases List.mem_append.1 hq with h|h
  ·exact G.lt q (by rw[hQ];simp[h])
  ·rcases List.mem_cons.1 h with rfl|h
   ·exact hc
   ·exact G.lt q (by rw[hQ];simp[h])
 ·by_cases hpc:p=c
  ·subst hpc;exact hz k hk
  ·have hpQ:p∈Q:=by
    rw[hQ];rcases List.mem_append.1 hp with h|h
    ·simp[h]
    ·rcases List.mem_cons.1 h with h|h
     ·exact absurd h hpc
     ·simp[h]
   have h1:=hstep p hpQ k;rw[G.led p hpQ k hk]at h1;by_cases hcp:c<p
   ·rw[G.led p hpQ c hcp]at h1;have h2:D R Q*D (x::R) (sub p k (a++c::b))=0:=by rw[h1];simp
    rcases Int.mul_eq_zero.1 h2 with h|h
    ·exact absurd h G.ne
    ·exact h
   ·rw[hz k (by omega)]at h1;have h2:D R Q*D (x::R) (sub p k (a++c::b))=0:=by rw[h1];simp
    rcases Int.mul_eq_zero.1 h2 with h|h
    ·exact absurd h G.ne
    ·exact h
def RS(S:List Rw)(x:Rw):Prop:=∃a:Int,a≠0/\Sp S (fun c=>a*x c)
theorem RS.of{S:List Rw}{x:Rw}(h:Sp S x):RS S x:=⟨1,by decide,by simpa using h⟩
theorem RS.mem{S:List Rw}{x:Rw}(h:x∈S):RS S x:=.of (.mem h)
theorem aqa{R S:List Rw}(hs:∀y∈S,RS R y){x:Rw}(h:Sp S x):RS R x:=by
 induction h with
 |zero=>exact .of .zero
 |add a x y hx _ ih=>
  obtain⟨b,hb,h1⟩:=hs x hx;obtain⟨c,hc,h2⟩:=ih;refine⟨b*c,Int.mul_ne_zero hb hc,?_⟩;have:=h1.lin h2 (a*c) b;refine cast (congrArg (Sp R) (funext fun k=>?_)) this
  grind
theorem RS.trans{R S:List Rw}{x:Rw}(h:RS S x)(hs:∀y∈S,RS R y):RS R x:=by
 obtain⟨a,ha,h1⟩:=h;obtain⟨b,hb,h2⟩:=aqa hs h1;refine⟨b*a,Int.mul_ne_zero hb ha,?_⟩;refine cast (congrArg (Sp R) (funext fun k=>?_)) h2
 grind
theorem aok{R:List Rw}{Q:List Nat}(hn:Q.Nodup)(hd:D R Q≠0){x:Rw}(h:∀k,D (x::R) (k::Q)=0):RS R x:=by
 refine⟨D R Q,hd,?_⟩;have key:∀l:List Nat,(∀p∈l,p∈Q)->Sp R (fun k=>sumL (fun p=>x p*D R (sub p k Q)) l):=by
  intro l;induction l with
  |nil=>intro _;exact .zero
  |cons p l ih=>
   intro hl;have:=(ad9 R hn (hl p (by simp))).lin (ih (fun q hq=>hl q (by simp[hq]))) (x p) 1;refine cast (congrArg (Sp R) (funext fun k=>?_)) this;rw[sumL]
   grind
 have:=key Q (fun _ h=>h);refine cast (congrArg (Sp R) (funext fun k=>?_)) this;have h1:=afw R x hn k;rw[h k]at h1
 grind
theorem aol{R:List Rw}{x:Rw}(h:RS R x)(cs:List Nat):D (x::R) cs=0:=by
 obtain⟨a,ha,h1⟩:=h;have h2:=D_sp h1 cs;have h3:=ane x x a 0 (D R) cs;rw[show(fun c=>a*x c+0*x c)=fun c=>a*x c from funext fun c=>by omega,h2]at h3;have h4:a*w x (D R) cs=0:=by omega
 rcases Int.mul_eq_zero.1 h4 with h|h
 ·exact absurd h ha
 ·exact h
structure EF (E:List (Nat×Rw)):Prop where
 asc:E.Pairwise (fun a b=>a.1<b.1)
 ne:∀e∈E,e.2 e.1≠0
 oth:∀e∈E,∀f∈E,e.1≠f.1->e.2 f.1=0
 led:∀e∈E,∀k,k<e.1->e.2 k=0
def rowsE(E:List (Nat×Rw)):List Rw:=E.map Prod.snd
def sumE(f:Nat->Int):List (Nat×Rw)->Nat->Int
 | [],_=>0
 |e::E,k=>f e.1*e.2 k+sumE f E k
theorem afk{f g:Nat->Int}: ∀ {E:List (Nat×Rw)},(∀e∈E,f e.1=g e.1)->∀k,sumE f E k=sumE g E k
 | [],_,_=>rfl
 |e::E,h,k=>by rw[sumE,sumE,h e (by simp),afk (fun x hx=>h x (by simp[hx]))]
theorem ae1{a:Int}{e:Nat×Rw}(f:Nat->Int):∀ {E:List (Nat×Rw)},E.Pairwise (fun a b=>a.1<b.1)->e∈E->∀k,sumE (fun p=>if p=e.1 then f p+a else f p) E k=sumE f E k+a*e.2 k
 |x::E,hp,he,k=>by
  obtain⟨h1,h2⟩:=List.pairwise_cons.1 hp;rw[sumE,sumE];rcases List.mem_cons.1 he with rfl|he
  ·have:sumE (fun p=>if p=e.1 then f p+a else f p) E k=sumE f E k:=afk (fun y hy=>if_neg (by have:=h1 y hy;omega)) k;rw[this,if_pos rfl]
   grind
  ·rw[ae1 f h2 he k,if_neg (by have:=h1 e he;omega)];omega
theorem ain{E:List (Nat×Rw)}(hp:E.Pairwise (fun a b=>a.1<b.1)){y:Rw}(h:Sp (rowsE E) y):∃f,∀k,y k=sumE f E k:=by
 induction h with
 |zero=>
  refine⟨fun _=>0,fun k=>?_⟩;have:∀E:List (Nat×Rw),sumE (fun _=>0) E k=0:=by
   intro E;induction E with
   |nil=>rfl
   |cons e E ih=>rw[sumE,ih];simp
  rw[this]
 |add a x y hx _ ih=>
  obtain⟨e,he,rfl⟩:=List.mem_map.1 hx;obtain⟨f,hf⟩:=ih;exact⟨_,fun k=>by show a*e.2 k+y k=_;rw[ae1 (a:=a) f hp he k,hf k];omega⟩
theorem afx{f:Nat->Int}{E:List (Nat×Rw)}{k:Nat}(h:∀e∈E,f e.1*e.2 k=0):sumE f E k=0:=by
 induction E with
 |nil=>rfl
 |cons e E ih=>rw[sumE,h e (by simp),ih (fun x hx=>h x (by simp[hx]))];rfl
theorem EF.pivot{E:List (Nat×Rw)}(hE:EF E)(f:Nat->Int){e:Nat×Rw}(he:e∈E):sumE f E e.1=f e.1*e.2 e.1:=by
 have h:=ae1 (a:=-f e.1) f hE.asc he e.1;have h0:sumE (fun p=>if p=e.1 then f p+-f e.1 else f p) E e.1=0:=by
  apply afx;intro x hx;by_cases hxe:x.1=e.1
  ·show(if x.1=e.1 then f x.1+-f e.1 else f x.1)*x.2 e.1=0;rw[if_pos hxe,hxe,Int.add_right_neg,Int.zero_mul]
  ·rw[hE.oth x hx e he hxe,Int.mul_zero]
 rw[h0]at h
 grind
theorem EF.zero{E:List (Nat×Rw)}(hE:EF E){x:Rw}(h:RS (rowsE E) x)(hz:∀e∈E,x e.1=0)(k:Nat):x k=0:=by
 obtain⟨a,ha,h1⟩:=h;obtain⟨f,hf⟩:=ain hE.asc h1;have h2:a*x k=0:=by
  rw[hf k];apply afx;intro e he;have h3:=hf e.1;rw[hE.pivot f he,hz e he,Int.mul_zero]at h3;rcases Int.mul_eq_zero.1 h3.symm with h|h
  ·rw[h,Int.zero_mul]
  ·exact absurd h (hE.ne e he)
 rcases Int.mul_eq_zero.1 h2 with h|h
 ·exact absurd h ha
 ·exact h
theorem EF.first{E:List (Nat×Rw)}(hE:EF E){x:Rw}(h:RS (rowsE E) x){k:Nat}(hk:x k≠0)(hz:∀j,j<k->x j=0):∃e∈E,e.1=k:=by
 apply Classical.byContradiction;intro hno;obtain⟨a,ha,h1⟩:=h;obtain⟨f,hf⟩:=ain hE.asc h1;have h2:a*x k=0:=by
  rw[hf k];apply afx;intro e he;by_cases hlt:k<e.1
  ·rw[hE.led e he k hlt,Int.mul_zero]
  ·have hne:e.1≠k:=fun e'=>hno ⟨e,he,e'⟩
   have h3:=hf e.1;rw[hE.pivot f he,hz e.1 (by omega),Int.mul_zero]at h3;rcases Int.mul_eq_zero.1 h3.symm with h|h
   ·rw[h,Int.zero_mul]
   ·exact absurd h (hE.ne e he)
 rcases Int.mul_eq_zero.1 h2 with h|h
 ·exact ha h
 ·exact hk h
theorem aio:∀ {l m:List Nat},l.Pairwise (·<·)->m.Pairwise (·<·)->(∀x,x∈l↔x∈m)->l=m
 | [],[],_,_,_=>rfl
 | [],y::m,_,_,h=>by have:=(h y).2 (by simp);cases this
 |x::l,[],_,_,h=>by have:=(h x).1 (by simp);cases this
 |x::l,y::m,hl,hm,h=>by
  obtain⟨h1,h2⟩:=List.pairwise_cons.1 hl;obtain⟨h3,h4⟩:=List.pairwise_cons.1 hm;have hxy:x=y:=by
   rcases List.mem_cons.1 ((h x).1 (by simp))with e|e
   ·exact e
   ·rcases List.mem_cons.1 ((h y).2 (by simp))with e'|e'
    ·exact e'.symm
    ·have:=h1 y e';have:=h3 x e;omega
  subst hxy;rw[aio h2 h4 (fun z=>?_)];constructor
  ·intro hz;rcases List.mem_cons.1 ((h z).1 (by simp[hz]))with e|e
   ·subst e;have:=h1 z hz;omega
   ·exact e
  ·intro hz;rcases List.mem_cons.1 ((h z).2 (by simp[hz]))with e|e
   ·subst e;have:=h3 z hz;omega
   ·exact e
theorem aom{E F:List (Nat×Rw)}(hE:EF E)(hF:EF F)(h1:∀e∈E,RS (rowsE F) e.2)(h2:∀f∈F,RS (rowsE E) f.2):E.map Prod.fst=F.map Prod.fst/\∀e∈E,∀f∈F,e.1=f.1->∀k,f.2 f.1*e.2 k=e.2 e.1*f.2 k:=by
 have he:∀e∈E,∃f∈F,f.1=e.1:=fun e he=>hF.first (h1 e he) (hE.ne e he) (hE.led e he)
 have hf:∀f∈F,∃e∈E,e.1=f.1:=fun f hf=>hE.first (h2 f hf) (hF.ne f hf) (hF.led f hf)
 refine⟨aio (by rw[List.pairwise_map];exact hE.asc) (by rw[List.pairwise_map];exact hF.asc) (fun x=>?_),fun e hem f hfm hef k=>?_⟩
 ·simp only[List.mem_map];constructor
  ·rintro ⟨e,h,rfl⟩;obtain⟨f,h3,h4⟩:=he e h;exact⟨f,h3,h4⟩
  ·rintro ⟨f,h,rfl⟩;obtain⟨e,h3,h4⟩:=hf f h;exact⟨e,h3,h4⟩
 ·obtain⟨a,ha,h3⟩:=h1 e hem;have h4:RS (rowsE F) (fun c=>f.2 f.1*e.2 c-e.2 e.1*f.2 c):=by
   refine⟨a,ha,?_⟩;have:=h3.lin (Sp.mem (R:=rowsE F) (x:=f.2) (List.mem_map.2 ⟨f,hfm,rfl⟩)) (f.2 f.1) (-(a*e.2 e.1));refine cast (congrArg (Sp (rowsE F)) (funext fun c=>?_)) this
   grind
  have h5:f.2 f.1*e.2 k-e.2 e.1*f.2 k=0:=hF.zero h4 (fun g hg=>?_) k
  ·omega
  ·obtain⟨e',he',hg'⟩:=hf g hg;show f.2 f.1*e.2 g.1-e.2 e.1*f.2 g.1=0;by_cases hgf:g.1=f.1
   ·rw[hgf,hef,Int.mul_comm,Int.sub_self]
   ·rw[hF.oth f hfm g hg (fun h=>hgf h.symm),<-hg',hE.oth e hem e' he' (by omega)];omega
def efOf(R:List Rw)(Q:List Nat):List (Nat×Rw):=Q.reverse.map (fun p=>(p,fun k=>D R (sub p k Q)))
theorem Gat.ef{cols:Nat}{R:List Rw}{Q:List Nat}(G:Gat cols R Q):EF (efOf R Q):=by
 have hm:∀e,e∈efOf R Q->e.1∈Q/\e.2=fun k=>D R (sub e.1 k Q):=by
  intro e he;obtain⟨p,hp,rfl⟩:=List.mem_map.1 he;exact⟨List.mem_reverse.1 hp,rfl⟩
 refine⟨?_,fun e he=>?_,fun e he f hf hne=>?_,fun e he k hk=>?_⟩
 ·unfold efOf;rw[List.pairwise_map,List.pairwise_reverse];exact G.desc.imp (fun h=>h)
 ·obtain⟨h1,h2⟩:=hm e he;rw[h2];show D R (sub e.1 e.1 Q)≠0;rw[sub_self];exact G.ne
 ·obtain⟨h1,h2⟩:=hm e he;obtain⟨h3,_⟩:=hm f hf;rw[h2];exact(acs R).dup (adg h1 h3 (fun h=>hne h.symm))
 ·obtain⟨h1,h2⟩:=hm e he;rw[h2];exact G.led e.1 h1 k hk
theorem Gat.ef_in{cols:Nat}{R:List Rw}{Q:List Nat}(G:Gat cols R Q):∀e∈efOf R Q,Sp R e.2:=by
 intro e he;obtain⟨p,hp,rfl⟩:=List.mem_map.1 he;exact ad9 R (ab9 G.desc) (List.mem_reverse.1 hp)
theorem Gat.in_ef{cols:Nat}{R:List Rw}{Q:List Nat}(G:Gat cols R Q){x:Rw}(h:RS R x):RS (rowsE (efOf R Q)) x:=by
 refine⟨D R Q,G.ne,?_⟩;have key:∀l:List Nat,(∀p∈l,p∈Q)->Sp (rowsE (efOf R Q)) (fun k=>sumL (fun p=>x p*D R (sub p k Q)) l):=by
  intro l;induction l with
  |nil=>intro _;exact .zero
  |cons p l ih=>
   intro hl;have hp:(fun k=>D R (sub p k Q))∈rowsE (efOf R Q):=List.mem_map.2 ⟨(p,fun k=>D R (sub p k Q)),List.mem_map.2 ⟨p,List.mem_reverse.2 (hl p (by simp)),rfl⟩,rfl⟩;have:=(Sp.mem hp).lin (ih (fun q hq=>hl q (by simp[hq]))) (x p) 1;refine cast (congrArg (Sp _) (funext fun k=>?_)) this;rw[sumL]
   grind
 have:=key Q (fun _ h=>h);refine cast (congrArg (Sp _) (funext fun k=>?_)) this;have h1:=afw R x (ab9 G.desc) k;rw[aol h]at h1
 grind
end Md
namespace Lm
open Go Go.RowKit
theorem ahm{zs:List Int}: ∀z∈zs,gcdL zs ∣ z:=by
 have key:∀(l:List Int) (c:Int),l.foldl (fun c z=>((Int.gcd c z:Nat):Int)) c ∣ c/\∀z∈l,l.foldl (fun c z=>((Int.gcd c z:Nat):Int)) c ∣ z:=by
  intro l;induction l with
  |nil=>intro c;exact⟨Int.dvd_refl _,fun z hz=>by cases hz⟩
  |cons x l ih=>
   intro c;obtain⟨h1,h2⟩:=ih ((Int.gcd c x:Nat):Int);refine⟨Int.dvd_trans h1 (Int.gcd_dvd_left ..),fun z hz=>?_⟩;rcases List.mem_cons.1 hz with rfl|hz
   ·exact Int.dvd_trans h1 (Int.gcd_dvd_right ..)
   ·exact h2 z hz
 exact fun z hz=>(key zs 0).2 z hz
theorem aon{zs:List Int}: ∀z∈zs,dvs zs ∣ z:=by
 intro z hz;unfold dvs;split
 ·exact Int.neg_dvd.2 (ahm z hz)
 ·exact ahm z hz
theorem ala{zs:List Int}(h:∀z∈zs,z=0):gcdL zs=0:=by
 have key:∀l:List Int,(∀z∈l,z=0)->l.foldl (fun c z=>((Int.gcd c z:Nat):Int)) 0=0:=by
  intro l;induction l with
  |nil=>intro _;rfl
  |cons x l ih=>
   intro hl;rw[List.foldl_cons,hl x (by simp)];exact ih (fun z hz=>hl z (by simp[hz]))
 exact key zs h
theorem ajr(k:Int)(zs:List Int):gcdL (zs.map (k*·))=(k.natAbs:Int)*gcdL zs:=by
 have key:∀(l:List Int) (c:Int),(l.map (k*·)).foldl (fun c z=>((Int.gcd c z:Nat):Int)) ((k.natAbs:Int)*c)=(k.natAbs:Int)*l.foldl (fun c z=>((Int.gcd c z:Nat):Int)) c:=by
  intro l;induction l with
  |nil=>intro c;rfl
  |cons z l ih=>
   intro c;rw[List.map_cons,List.foldl_cons,List.foldl_cons,<-ih];congr 1;rw[Int.gcd,Int.natAbs_mul,Int.natAbs_mul,Int.natAbs_natCast,Nat.gcd_mul_left,Int.gcd,Int.natCast_mul]
 have:=key zs 0;rwa[Int.mul_zero]at this
theorem ajs(k:Int)(hk:k≠0)(zs:List Int):sgnL (zs.map (k*·))=Int.sign k*sgnL zs:=by
 have hs:Int.sign k≠0:=fun h=>hk (Int.sign_eq_zero_iff_zero.1 h)
 have key:∀(l:List Int) (s:Int),(l.map (k*·)).foldl (fun s z=>if s=0 then Int.sign z else s) (Int.sign k*s)=Int.sign k*l.foldl (fun s z=>if s=0 then Int.sign z else s) s:=by
  intro l;induction l with
  |nil=>intro s;rfl
  |cons z l ih=>
   intro s;rw[List.map_cons,List.foldl_cons,List.foldl_cons,<-ih];congr 1;by_cases h:s=0
   ·rw[if_pos h,if_pos (by rw[h,Int.mul_zero]),Int.sign_mul]
   ·rw[if_neg h,if_neg (fun e=>(Int.mul_eq_zero.1 e).elim hs h)]
 have:=key zs 0;rwa[Int.mul_zero]at this
theorem alb{zs:List Int}(h:sgnL zs=0):∀z∈zs,z=0:=by
 have stay:∀(l:List Int) (s:Int),s≠0->l.foldl (fun s z=>if s=0 then Int.sign z else s) s=s:=by
  intro l;induction l with
  |nil=>intro s _;rfl
  |cons z l ih=>intro s hs;rw[List.foldl_cons,if_neg hs];exact ih s hs
 induction zs with
 |nil=>simp
 |cons z l ih=>
  unfold sgnL at h;rw[List.foldl_cons,if_pos rfl]at h;by_cases hz:Int.sign z=0
  ·rw[hz]at h;intro y hy;rcases List.mem_cons.1 hy with rfl|hy
   ·exact Int.sign_eq_zero_iff_zero.1 hz
   ·exact ih h y hy
  ·rw[stay l _ hz]at h;exact absurd h hz
theorem alc(k:Int)(hk:k≠0)(zs:List Int):dvs (zs.map (k*·))=k*dvs zs:=by
 unfold dvs;rw[ajr,ajs k hk];by_cases h0:sgnL zs=0
 ·rw[h0,ala (alb h0)];simp
 ·rcases Int.lt_or_gt_of_ne hk with hk'|hk'
  ·rw[Int.sign_eq_neg_one_of_neg hk',show(k.natAbs:Int) = -k by omega];by_cases h1:sgnL zs<0
   ·rw[if_neg (by omega),if_pos h1,Int.neg_mul,Int.mul_neg]
   ·rw[if_pos (by omega),if_neg h1,Int.neg_mul,Int.neg_neg]
  ·rw[Int.sign_eq_one_of_pos hk',show(k.natAbs:Int)=k by omega,Int.one_mul];split
   ·rw[Int.mul_neg]
   ·rfl
theorem agd(k:Int)(hk:k≠0)(zs:List Int):red (zs.map (k*·))=red zs:=by
 unfold red;rw[alc k hk,List.map_map];refine List.map_congr_left fun z hz=>?_
 show k*z/(k*dvs zs)=z/dvs zs;obtain⟨q,hq⟩:=aon z hz;by_cases hd:dvs zs=0
 ·rw[hd,Int.mul_zero,Int.ediv_zero,Int.ediv_zero]
 ·have h1:z/dvs zs=q:=by rw[hq];exact Int.mul_ediv_cancel_left q hd
  have h2:k*z=k*dvs zs*q:=by rw[Int.mul_assoc,<-hq]
  rw[h1,h2];exact Int.mul_ediv_cancel_left q (fun e=>(Int.mul_eq_zero.1 e).elim hk hd)
theorem limbsF(w:World)(z:Int)(L:Nat)(v:Value)(h:IsW z L v w)(hL:L<=400000):
  Calls Try.prog 19 #[v] w fun e w'=>∃m:Nat,e=.returned (.int .i64 (m:Int))/\(m<=32↔(z.natAbs:Int)<pw 32)/\Below w.heap.size w w':=by
 obtain⟨ng,ao,n,cap,xs,rfl,hA,hl⟩:=h;obtain⟨m,hm⟩:=amn hA;have hv:val xs=(z.natAbs:Int):=by
  obtain⟨_,_,_,_,_,hb,_⟩:=hA.sl;have h1:=aab hb;have h4:=hA.worth;rw[<-h4];cases ng
  ·simp only[sg];rw[if_neg (by decide)];omega
  ·simp only[sg];rw[if_pos trivial];omega
 refine(ajf w ng ao n cap xs hA.sl (by omega) m (by rw[hv];exact hm)).mono ?_;rintro e w' ⟨rfl,hb⟩;refine⟨m,rfl,?_,hb⟩;obtain⟨rs,hc,hv',rfl⟩:=hm;constructor
 ·intro h;have h1:=(aab hc.1).2;have h2:=abc h;omega
 ·intro h;exact aa8 hc (by rw[hv'];exact h)
theorem IsRow.wide{w:World}{v:Value}{zs:List Int}{L L':Nat}(h:IsRow w v zs L)(hl:L<=L'):IsRow w v zs L':=by
 obtain⟨es,h1,h2,h3⟩:=h;exact⟨es,h1,h2,fun e he=>Nat.le_trans (h3 e he) hl⟩
def Asks(w:World)(f:FuncId)(cap:Array Value)(zs:List Int)(L:Nat)(p:Int->Bool):Prop:=∀(W:World) (z:Int) (xv:Value),Below w.heap.size w W->z∈zs->IsW z L xv W->Calls Try.prog f (#[xv]++cap) W fun e W'=>e=.returned (.bool (p z))/\Below W.heap.size W W'
def AsksR(w:World)(f:FuncId)(cap:Array Value)(rows:List (List Int))(L:Nat)(p:List Int->Bool):Prop:=∀(W:World) (z:List Int) (xv:Value),Below w.heap.size w W->z∈rows->IsRow W xv z L->Calls Try.prog f (#[xv]++cap) W fun e W'=>e=.returned (.bool (p z))/\Below W.heap.size W W'
theorem ahn{α:Type}{p:α->Bool}{zs:List α}{k:Nat}{z:α}(h:zs[k]? = some z)(h1:(zs.take k).any p=false)(h2:p z=false):(zs.take (k+1)).any p=false:=by
 rw[List.take_add_one,h,List.any_append,h1];simp[h2]
theorem ajt(w:World)(v:Value)(zs:List Int)(L:Nat)(h:IsRow w v zs L)(f:FuncId)(hf:Has Try.prog f)(cap:Array Value)(p:Int->Bool)(hA:Asks w f cap zs L p):
  Calls Try.prog 63 #[v,.func (.func f) #[] cap] w fun e w'=>(∃r:Int,e=.returned (.int .i64 r)/\decide (0<=r)=zs.any p)/\Below w.heap.size w w':=by
 obtain⟨ao,cp,rfl,hn⟩:=h.parts;have H:=hide h;have HA:=hide hA;clear h hA;obtain⟨n,hnn⟩:∃n,zs.length=n:=⟨_,rfl⟩;rw[hnn]at H hn ⊢;have HN:=hide hnn;clear hnn;go_enter Try.func63,Try.ntmps63
 go_wp2;go_loopw [5,8] (fun _ iv wr=>∃(k:Nat),iv=.int .i64 k/\k<=n/\(zs.take k).any p=false/\Below w.heap.size w wr) (fun _ iv _=>n-(intOf iv).toNat)
 case atStart=>exact⟨0,rfl,Nat.zero_le _,by simp,Below.refl _ _⟩
 case round=>
  obtain⟨k,rfl,hk,hany,hbw⟩:=hrel;have HW:=hide hbw;have HY:=hide hany;by_cases hlt:k<n
  ·obtain⟨z,hz⟩:∃z,zs[k]? = some z:=⟨_,List.getElem?_eq_getElem (by have:=HN.out;omega)⟩;obtain⟨b,off,ngx,ax,mx,cx,rfl,hbl,x0,x1,hx⟩:=H.out.cell hz;replace x0:=(hbw.cell (p:=⟨b,off+k*2,none⟩) hbl).trans x0;replace x1:=(hbw.cell (p:=⟨b,off+k*2+1,none⟩) hbl).trans x1;have hlt':(k:Int)<(n:Int):=by omega
   have KC:=hide (HA.out wr z (.agg #[.bool ngx,.slice ax mx cx]) hbw (List.mem_of_getElem? hz) (hx.ru (Ru.of_below hbw)));have HZ:=hide hz;clear hbw hany hx hz;have hE:∀args w,(callFunc f args).run Try.prog w=.ok (.enter f args) w:=fun args w=>hf.enter args w
   go_wp2_with fail
   refine KC.out.mono ?_;rintro e w3 ⟨rfl,hb3⟩;have HB3:=hide (HW.out.trans (hb3.mono HW.out.size));clear hb3 KC hE x0 x1;obtain⟨pz,hpz⟩:∃b,p z=b:=⟨_,rfl⟩;rw[hpz];have HPZ:=hide hpz;clear hpz;cases pz with
   |true=>
    go_wp2;go_ret;exact⟨⟨k,rfl,by rw[decide_eq_true (by omega),eq_comm,List.any_eq_true];exact⟨z,List.mem_of_getElem? HZ.out,HPZ.out⟩⟩,HB3.out⟩
   |false=>
    go_wp2;go_roundw
    case rel=>exact⟨k+1,by go_num,by omega,ahn HZ.out HY.out HPZ.out,HB3.out⟩
    case measure=>simp[intOf];omega
  ·have hlt':decide ((k:Int)<(n:Int))=false:=by simp;omega
   clear hbw hany;go_wp2;go_ret;refine⟨⟨-1,rfl,?_⟩,HW.out⟩;have:=HY.out;rw[List.take_of_length_le (by have:=HN.out;omega)]at this;rw[this];rfl
theorem adz(w:World)(v:Value)(zs:List Int)(L:Nat)(h:IsRow w v zs L)(f:FuncId)(hf:Has Try.prog f)(cap:Array Value)(p:Int->Bool)(hA:Asks w f cap zs L p):
  Calls Try.prog 44 #[v,.func (.func f) #[] cap] w fun e w'=>e=.returned (.bool (zs.any p))/\Below w.heap.size w w':=by
 have K:=hide (ajt w v zs L h f hf cap p hA);obtain⟨ao,cp,rfl,hn⟩:=h.parts;clear h hA;go_enter Try.func44,Try.ntmps44
 go_wp2_with fail
 refine K.out.mono ?_;rintro e w1 ⟨⟨r,rfl,hr⟩,hb⟩;have HB:=hide hb;have HR:=hide hr;clear hb K hr;go_wp2;refine bodyPost_ret (v:=_) (by simp[results,Try.results44,go_sem];try rfl) rfl ⟨by rw[<-HR.out],HB.out⟩
theorem aju(w:World)(v:Value)(rows:List (List Int))(L:Nat)(h:IsM w v rows L)(f:FuncId)(hf:Has Try.prog f)(cap:Array Value)(p:List Int->Bool)(hA:AsksR w f cap rows L p):
  Calls Try.prog 54 #[v,.func (.func f) #[] cap] w fun e w'=>(∃r:Int,e=.returned (.int .i64 r)/\decide (0<=r)=rows.any p)/\Below w.heap.size w w':=by
 obtain⟨ao,cp,rfl,hn⟩:=h.parts;have H:=hide h;have HA:=hide hA;clear h hA;obtain⟨n,hnn⟩:∃n,rows.length=n:=⟨_,rfl⟩;rw[hnn]at H hn ⊢;have HN:=hide hnn;clear hnn;go_enter Try.func54,Try.ntmps54
 go_wp2;go_loopw [5,8] (fun _ iv wr=>∃(k:Nat),iv=.int .i64 k/\k<=n/\(rows.take k).any p=false/\Below w.heap.size w wr) (fun _ iv _=>n-(intOf iv).toNat)
 case atStart=>exact⟨0,rfl,Nat.zero_le _,by simp,Below.refl _ _⟩
 case round=>
  obtain⟨k,rfl,hk,hany,hbw⟩:=hrel;have HW:=hide hbw;have HY:=hide hany;by_cases hlt:k<n
  ·obtain⟨z,hz⟩:∃z,rows[k]? = some z:=⟨_,List.getElem?_eq_getElem (by have:=HN.out;omega)⟩;obtain⟨b,off,u,rfl,hbl,x0,hx⟩:=H.out.cell hz;replace x0:=(hbw.cell (p:=⟨b,off+k,none⟩) hbl).trans x0;have hlt':(k:Int)<(n:Int):=by omega
   have KC:=hide (HA.out wr z u hbw (List.mem_of_getElem? hz) (hx.below hbw));obtain⟨ua,uc,rfl,_⟩:=hx.parts;have HZ:=hide hz;clear hbw hany hx hz;have hE:∀args w,(callFunc f args).run Try.prog w=.ok (.enter f args) w:=fun args w=>hf.enter args w
   go_wp2_with fail
   refine KC.out.mono ?_;rintro e w3 ⟨rfl,hb3⟩;have HB3:=hide (HW.out.trans (hb3.mono HW.out.size));clear hb3 KC hE x0;obtain⟨pz,hpz⟩:∃b,p z=b:=⟨_,rfl⟩;rw[hpz];have HPZ:=hide hpz;clear hpz;cases pz with
   |true=>
    go_wp2;go_ret;exact⟨⟨k,rfl,by rw[decide_eq_true (by omega),eq_comm,List.any_eq_true];exact⟨z,List.mem_of_getElem? HZ.out,HPZ.out⟩⟩,HB3.out⟩
   |false=>
    go_wp2;go_roundw
    case rel=>exact⟨k+1,by go_num,by omega,ahn HZ.out HY.out HPZ.out,HB3.out⟩
    case measure=>simp[intOf];omega
  ·have hlt':decide ((k:Int)<(n:Int))=false:=by simp;omega
   clear hbw hany;go_wp2;go_ret;refine⟨⟨-1,rfl,?_⟩,HW.out⟩;have:=HY.out;rw[List.take_of_length_le (by have:=HN.out;omega)]at this;rw[this];rfl
theorem agk(w:World)(v:Value)(rows:List (List Int))(L:Nat)(h:IsM w v rows L)(f:FuncId)(hf:Has Try.prog f)(cap:Array Value)(p:List Int->Bool)(hA:AsksR w f cap rows L p):
  Calls Try.prog 40 #[v,.func (.func f) #[] cap] w fun e w'=>e=.returned (.bool (rows.any p))/\Below w.heap.size w w':=by
 have K:=hide (aju w v rows L h f hf cap p hA);obtain⟨ao,cp,rfl,hn⟩:=h.parts;clear h hA;go_enter Try.func40,Try.ntmps40
 go_wp2_with fail
 refine K.out.mono ?_;rintro e w1 ⟨⟨r,rfl,hr⟩,hb⟩;have HB:=hide hb;have HR:=hide hr;clear hb K hr;go_wp2;refine bodyPost_ret (v:=_) (by simp[results,Try.results40,go_sem];try rfl) rfl ⟨by rw[<-HR.out],HB.out⟩
theorem ald:Has Try.prog 66:=by unfold Has;kernel_rfl
theorem ale:Has Try.prog 19:=by unfold Has;kernel_rfl
def big(z:Int):Bool:=decide (¬(z.natAbs:Int)<pw 32)
theorem alf(W:World)(z:Int)(L:Nat)(xv:Value)(g:Nat)(T:TypeId)(hg:W.heap[g]? = some (.cells #[.func (.func 19) #[] #[]] T (0,0)))(hx:IsW z L xv W)(hL:L<=400000):
  Calls Try.prog 66 #[xv,.pointer (some ⟨g,0,none⟩)] W fun e W'=>e=.returned (.bool (big z))/\Below W.heap.size W W':=by
 obtain⟨ng,ao,n,cap,xs,rfl,_⟩:=id hx;have hb:=hAl W (.cells #[.bool ng,.slice ao n cap] 30);obtain⟨hgl,c0,_⟩:=aam hg;replace c0:=(hb.cell (p:=⟨g,0,none⟩) hgl).trans c0;have K:=hide (limbsF _ z L _ (hx.ru (Ru.of_below hb)) hL);have hE:∀args w,(callFunc 19 args).run Try.prog w=.ok (.enter 19 args) w:=fun args w=>ale.enter args w
 clear hx hg;go_enter Try.func66,Try.ntmps66
 go_wp2_with fail
 refine K.out.mono ?_;rintro e w1 ⟨m,rfl,hm,hb1⟩;have HB:=hide (hb.trans (hb1.mono hb.size));have hbg:decide ((m:Int) > 32)=big z:=by
  unfold big;by_cases h:m<=32
  ·rw[decide_eq_false (by omega),decide_eq_false (not_not_intro (hm.1 h))]
  ·rw[decide_eq_true (by omega),decide_eq_true (p:=¬(z.natAbs:Int)<pw 32) (fun e=>h (hm.2 e))]
 clear hb hb1 K hm;go_wp2;refine bodyPost_ret (v:=_) (by simp[results,Try.results66,go_sem];try rfl) rfl ⟨by rw[<-hbg],HB.out⟩
theorem amu(w:World)(v:Value)(zs:List Int)(L:Nat)(h:IsRow w v zs L)(hL:L<=400000):
  Calls Try.prog 49 #[v,.func (.func 19) #[] #[]] w fun e w'=>e=.returned (.bool (zs.any big))/\Below w.heap.size w w':=by
 obtain⟨ao,cp,rfl,hn⟩:=h.parts;have key:∀T:TypeId,Hid (Calls Try.prog 44 #[.slice ao zs.length cp,.func (.func 66) #[] #[.pointer (some ⟨w.heap.size,0,none⟩)]] (w.alloc (.cells #[.func (.func 19) #[] #[]] T)) fun e w'=>e=.returned (.bool (zs.any big))/\Below w.heap.size w w'):=fun T=>by
  have hb:=hAl w (.cells #[.func (.func 19) #[] #[]] T);have hnew:=heap_alloc_new w (.cells #[.func (.func 19) #[] #[]] T);refine(adz _ _ zs L (h.below hb) _ ald _ big (fun W z xv hbW hz hx=>?_)).mono ?_
  ·exact alf W z L xv w.heap.size T ((hbW.block _ (aaa hnew)).trans hnew) hx hL
  ·rintro e w' ⟨rfl,hb'⟩;exact⟨rfl,hb.trans (hb'.mono hb.size)⟩
 clear h;have hmf:∀(fn:Fn) (first cap:Array Value) (w:World),(Instr.makeFunc fn first cap).run Try.prog w=.ok (.func fn first cap) w:=fun _ _ _ _=>rfl
 go_enter Try.func49,Try.ntmps49
 go_wp2_with fail
 refine(key _).out.mono ?_;rintro e w1 ⟨rfl,hb⟩;have HB:=hide hb;clear hb key;go_wp2;refine bodyPost_ret (v:=_) (by simp[results,Try.results49,go_sem];try rfl) rfl ⟨rfl,HB.out⟩
theorem ah7:Has Try.prog 39:=by unfold Has;kernel_rfl
theorem ah8(W:World)(z:List Int)(L:Nat)(xv:Value)(g:Nat)(cols:Int)(hg:W.heap[g]? = some (.cells #[.int .i64 cols] 3 (0,0)))(hx:IsRow W xv z L):
  Calls Try.prog 39 #[xv,.pointer (some ⟨g,0,none⟩)] W fun e W'=>e=.returned (.bool (decide ((z.length:Int)≠cols)))/\Below W.heap.size W W':=by
 obtain⟨ua,uc,rfl,hn⟩:=hx.parts;obtain⟨hgl,c0,_⟩:=aam hg;clear hx hg;go_enter Try.func39,Try.ntmps39
 go_wp2;refine bodyPost_ret (v:=_) (by simp[results,Try.results39,go_sem];try rfl) rfl ⟨by congr 2;rw[bne];by_cases h:(z.length:Int)=cols <;> simp[h],Below.refl _ _⟩
theorem wofF(w:World)(v:Int)(h1 : -9223372036854775808<=v)(h2:v<=9223372036854775807):
  Calls Try.prog 9 #[.int .i64 v] w fun e w'=>∃r,e=.returned r/\FrW w.heap.size v 2 r w'/\Below w.heap.size w w':=by
 have hb0:=hAl w (.cells #[.bool false,.slice none 0 0] 30);have hn0:=heap_alloc_new w (.cells #[.bool false,.slice none 0 0] 30);obtain⟨w0,e0⟩:∃w0,w.alloc (.cells #[.bool false,.slice none 0 0] 30)=w0:=⟨_,rfl⟩;rw[e0]at hb0 hn0;have key:∀(ng:Bool) (x:Int),0<=x->x<18446744073709551616->sg ng x=v->Hid (Calls Try.prog 24 #[.int .u64 x] w0 fun e w1=>∃ao cap n,e=.returned (.slice ao n cap)/\Hid (Calls Try.prog 22 #[.bool ng,.slice ao n cap] w1 fun e w2=>∃ng2,e=.returned (.agg #[.bool ng2,.slice ao n cap])/\FrW w.heap.size v 2 (.agg #[.bool ng2,.slice ao n cap]) w2/\Below w.heap.size w w2/\w2.heap[w.heap.size]? = some (.cells #[.bool false,.slice none 0 0] 30 (0,0)))):=fun ng x hx0 hx1 hs=>by
  refine(acj w0 x hx0 hx1).mono ?_;rintro e w1 ⟨v1,rfl,hi1,hb1⟩;obtain⟨ao,cap,rs,rfl,hf⟩:=hi1.fr;obtain⟨_,_,_,e2,G1,l1⟩:=af6 hi1 hx1;have e2':=e2;rw[Value.slice.injEq]at e2';obtain⟨rfl,e3,rfl⟩:=e2';obtain⟨ow1,cn1,vl1,ls1⟩:=hf;refine⟨ao,cap,rs.length,rfl,(aaz _ ng _ _ rs x ⟨ow1.sl,cn1,vl1⟩ (by omega)).mono ?_⟩;rintro e w2 ⟨ng2,rfl,G2,hb2⟩;have hb3:=hb0.trans ((hb1.trans (hb2.mono hb1.size)).mono hb0.size);rw[hs]at G2;refine⟨ng2,rfl,(FrW.of_li (T:=w1.heap.size) G2 ⟨ow1.below hb2,ls1⟩ hb2.size (by omega)).low hb0.size,hb3,?_⟩;exact((hb1.trans (hb2.mono hb1.size)).block _ (aaa hn0)).trans hn0
 have E0:=hide e0;have fin:∀(w2:World) (ng2:Bool) (ao:Option Addr) (n cap:Nat),FrW w.heap.size v 2 (.agg #[.bool ng2,.slice ao n cap]) w2->Below w.heap.size w w2->w2.heap[w.heap.size]? = some (.cells #[.bool false,.slice none 0 0] 30 (0,0))->Hid ((loadVar 30 ⟨w.heap.size,0,none⟩).run Try.prog ((w2.setCell ⟨w.heap.size,0,none⟩ (.bool ng2)).setCell ⟨w.heap.size,1,none⟩ (.slice ao n cap))=.ok (.agg #[.bool ng2,.slice ao n cap]) ((w2.setCell ⟨w.heap.size,0,none⟩ (.bool ng2)).setCell ⟨w.heap.size,1,none⟩ (.slice ao n cap))/\FrW w.heap.size v 2 (.agg #[.bool ng2,.slice ao n cap]) ((w2.setCell ⟨w.heap.size,0,none⟩ (.bool ng2)).setCell ⟨w.heap.size,1,none⟩ (.slice ao n cap))/\Below w.heap.size w ((w2.setCell ⟨w.heap.size,0,none⟩ (.bool ng2)).setCell ⟨w.heap.size,1,none⟩ (.slice ao n cap))):=fun w2 ng2 ao n cap hF hB hN=>
  ⟨lvw2 (abi hN _ _),hF.ru (acg hN _ _),(hB.setCell (Nat.le_refl _) _).setCell (Nat.le_refl _) _⟩
 clear hb0 hn0 e0;by_cases h0:v<0
 ·have hw:IntKind.u64.wrap (-IntKind.u64.wrap v) = -v:=by rw[IntKind.wrap_u64,IntKind.wrap_u64];omega
  have K1:=key true (-v) (by omega) (by omega) (by simp[sg]);clear key;go_enter Try.func9,Try.ntmps9
  go_wp2_with fail
  rw[E0.out];refine K1.out.mono ?_;rintro e w1 ⟨ao,cap,n,rfl,K2⟩;clear K1;go_wp2_with fail
  refine K2.out.mono ?_;rintro e w2 ⟨ng2,rfl,hF,hB,hN⟩;obtain⟨hl2,y0,y1,yf0,yf1⟩:=aal hN;have X:=fin w2 ng2 ao n cap hF hB hN;clear hF hB hN K2 fin;go_wp2;exact bodyPost_ret (v:=.agg #[.bool ng2,.slice ao n cap]) (aby (g:=w.heap.size) rfl rfl X.out.1) rfl ⟨_,rfl,X.out.2.1,X.out.2.2⟩
 ·have K1:=key false v (by omega) (by omega) (by simp[sg]);clear key;go_enter Try.func9,Try.ntmps9
  go_wp2_with fail
  rw[E0.out];refine K1.out.mono ?_;rintro e w1 ⟨ao,cap,n,rfl,K2⟩;clear K1;go_wp2_with fail
  refine K2.out.mono ?_;rintro e w2 ⟨ng2,rfl,hF,hB,hN⟩;obtain⟨hl2,y0,y1,yf0,yf1⟩:=aal hN;have X:=fin w2 ng2 ao n cap hF hB hN;clear hF hB hN K2 fin;go_wp2;exact bodyPost_ret (v:=.agg #[.bool ng2,.slice ao n cap]) (aby (g:=w.heap.size) rfl rfl X.out.1) rfl ⟨_,rfl,X.out.2.1,X.out.2.2⟩
end Lm
namespace Lm
open Go Go.RowKit
open Dm (WFr)
def CanRow(w:World)(v:Value)(zs:List Int)(L:Nat):Prop:=∃es:List WE,Rw w v es/\es.length=zs.length/\∀(k:Nat) (e:WE) (z:Int),es[k]? = some e->zs[k]? = some z->Canon e.zs/\val e.zs=(z.natAbs:Int)/\e.ng=decide (z<0)/\e.zs.length<=L
theorem CanRow.below{w w':World}{v:Value}{zs:List Int}{L:Nat}(h:CanRow w v zs L)(hb:Below w.heap.size w w'):CanRow w' v zs L:=by
 obtain⟨es,h1,h2,h3⟩:=h;exact⟨es,h1.below hb,h2,h3⟩
theorem CanRow.is{w:World}{v:Value}{zs:List Int}{L:Nat}(h:CanRow w v zs L):IsRow w v zs L:=by
 obtain⟨es,h1,h2,h3⟩:=h;refine⟨es,h1,?_,?_⟩
 ·apply List.ext_getElem?;intro k;rw[List.getElem?_map];cases hk:es[k]? with
  |none=>
   rw[List.getElem?_eq_none_iff]at hk;rw[Option.map_none,eq_comm,List.getElem?_eq_none_iff];omega
  |some e=>
   have hkl:=(List.getElem?_eq_some_iff.1 hk).1;obtain⟨z,hz⟩:∃z,zs[k]? = some z:=⟨_,List.getElem?_eq_getElem (by omega)⟩;obtain⟨c1,c2,c3,_⟩:=h3 k e z hk hz;rw[hz,Option.map_some];congr 1;unfold WE.z sg;rw[c2,c3];by_cases hn:z<0
   ·rw[if_pos (decide_eq_true hn)];omega
   ·rw[if_neg (by simpa using hn)];omega
 ·intro e he;obtain⟨k,hk⟩:=List.mem_iff_getElem?.1 he;have hkl:=(List.getElem?_eq_some_iff.1 hk).1;obtain⟨z,hz⟩:∃z,zs[k]? = some z:=⟨_,List.getElem?_eq_getElem (by omega)⟩;exact(h3 k e z hk hz).2.2.2
theorem ORow.can{K:Nat}{w:World}{v:Value}{zs:List Int}{L:Nat}(h:ORow K w v zs L):CanRow w v zs L:=by
 obtain⟨bv,rfl,_,h,hl⟩:=h;obtain⟨es,B,T,e1,e2,e3,e4,e5⟩:=h;refine⟨es,⟨⟨_,_,by rw[e1],by omega,by omega,abv es,.inr ⟨bv,0,rfl,aaa e2,fun j u hu=>?_⟩⟩,?_⟩,e1,?_⟩
 ·rw[Nat.zero_add,cell_of_row _ _ _ _ _ (0,0) e2,List.getElem?_toArray];exact hu
 ·intro e he;obtain⟨k,hk⟩:=List.mem_iff_getElem?.1 he;have hkl:=(List.getElem?_eq_some_iff.1 hk).1;obtain⟨z,hz⟩:∃z,zs[k]? = some z:=⟨_,List.getElem?_eq_getElem (by omega)⟩;obtain⟨g1,g2,_⟩:=e4 k e z (by omega) hk hz;have:=g1.wh.sl;rwa[<-g2]at this
 ·intro k e z hk hz;have hkl:=(List.getElem?_eq_some_iff.1 hk).1;obtain⟨g1,g2,g3,_⟩:=e4 k e z (by omega) hk hz;exact⟨g1.fr.canon,g1.fr.val,g1.sgn,g3⟩
theorem ah9(w:World)(v v':Value)(zs:List Int)(L M:Nat)(h:CanRow w v zs L)(h':CanRow w v' zs M):
  Calls Try.prog 29 #[v,v'] w fun e w'=>e=.returned (.bool true)/\Below w.heap.size w w':=by
 obtain⟨es,h1,h2,h3⟩:=h;obtain⟨fs,g1,g2,g3⟩:=h';obtain⟨a,c,rfl,_⟩:=id h1.cl;obtain⟨a',c',rfl,_⟩:=id g1.cl;refine ak0 w a _ c es h1 a' _ c' fs g1 ?_;unfold SameR;apply List.ext_getElem?;intro k;rw[List.getElem?_map,List.getElem?_map];cases hk:es[k]? with
 |none=>
  rw[List.getElem?_eq_none_iff]at hk;rw[(List.getElem?_eq_none_iff (l:=fs)).2 (by omega)]
 |some e=>
  have hkl:=(List.getElem?_eq_some_iff.1 hk).1;obtain⟨z,hz⟩:∃z,zs[k]? = some z:=⟨_,List.getElem?_eq_getElem (by omega)⟩;obtain⟨f,hf⟩:∃f,fs[k]? = some f:=⟨_,List.getElem?_eq_getElem (by omega)⟩;obtain⟨c1,c2,c3,_⟩:=h3 k e z hk hz;obtain⟨d1,d2,d3,_⟩:=g3 k f z hf hz;rw[hf,Option.map_some,Option.map_some,WE.raw,WE.raw,c3,d3,af2 c1 d1 (c2.trans d2.symm)]
theorem ac6{ops:Array Oper}{rest:List Oper}{o:Oper}{a:Act}{w:World}{Q:Exit->Act->World->Prop}{R:Value->World->Prop}(hg:o.guard=none)(h:Does Try.prog o a.eval w R)(hK:∀v w',R v w'->wpList Try.prog ops Q rest (a.put o.dst v) w'):wpList Try.prog ops Q (o::rest) a w:=by
 refine wpList_plain hg fun K hK'=>?_
 exact Does.wp h (fun v w' hr=>hK' _ _ (hK v w' hr))
theorem aia(w:World)(v:Int)(h1 : -9223372036854775808<=v)(h2:v<=9223372036854775807)(h0:v<0):
  Calls Try.prog 33 #[.int .i64 v] w fun e w'=>∃r,e=.returned r/\FrW w.heap.size v 2 r w'/\Below w.heap.size w w':=by
 obtain⟨i0,hi,hz0,hz1,hz2⟩:=info_parts abo;have hf0:=heap_alloc_new w (.cells #[.bool false,.slice none 0 0] 30);have hb0:=hAl w (.cells #[.bool false,.slice none 0 0] 30);generalize hE:w.alloc (.cells #[.bool false,.slice none 0 0] 30)=w0 at *
 have E0:=hide hE;have HF0:=hide hf0;have HB0:=hide hb0;clear hE hf0 hb0;have hw:IntKind.u64.wrap (-IntKind.u64.wrap v) = -v:=by rw[IntKind.wrap_u64,IntKind.wrap_u64];omega
 go_enter Try.func33,Try.ntmps33
 go_wp2;rw[E0.out];clear hw;go_loopw [3,4] (fun uv mv wr=>∃(u:Int) (ls:List Int),uv=.int .u64 u/\0<=u/\u<18446744073709551616/\Limb ls/\val ls+pw ls.length*u = -v/\(u=0->tl ls=ls.length)/\wr.ownsRow w0.heap.size 62 1 mv ls.length (ls.map (Value.int .u32))/\Below w0.heap.size w0 wr) (fun uv _ _=>(intOf uv).toNat)
 case atStart=>exact⟨-v,[],rfl,by omega,by omega,aaf,by simp[val,pw],fun _=>rfl,World.ownsRow_nil _ _ _ _,Below.refl _ _⟩
 case round=>
  obtain⟨u,ls,rfl,hu0,hu1,hls,hv,htop,hown,hbel⟩:=hrel;have HL:=hide hls;have HV:=hide hv;have HT:=hide htop;clear hls hv htop;by_cases hu:0<u
  ·have hroom:=aka HL.out hu (by rw[HV.out];omega);have HV':=hide (aj9 HV.out);have HT':Hid (u/4294967296=0->tl (ls ++ [u%4294967296])=(ls ++ [u%4294967296]).length):=fun h=>ana hu h
   go_wp2_with (at_builtin;refine wpList_append_own _ rfl (.tmp 13) (.tmp 16) 28 rfl w0.heap.size 62 i0 (.int .u32 0) 1 4 Try.underlying28 hi hz0 hz1 hz2 rfl (by decide) _ _ _ rfl (hown.alloc _) ⟨wr.heap.size,0,none⟩ 1 1 [.int .u32 (u%4294967296)] rfl rfl (cell_one_new _ _ _) ?c2 ?c3 ?c4 ?c5 ?_)
   case c2=>first|rfl|(intro x hx;simp at hx;subst hx;rfl)
   case c3=>unfold maxLen;omega
   case c4=>omega
   case c5=>have:=hbel.size;first|omega|(simp;omega)
   intro v4 w4 hown4 hgrow4 _;have R:=agx hown4 hgrow4 hbel hbel.size hown.lt;clear hown4 hgrow4 hown;go_wp2;go_roundw
   case rel=>exact⟨u/4294967296,ls ++ [u%4294967296],rfl,by omega,by omega,aaj.2 ⟨HL.out,aag.2 ⟨by omega,aaf⟩⟩,HV'.out,HT'.out,by simpa using R.1,R.2⟩
   case measure=>simp[intOf];omega
  ·have hu':u=0:=by omega
   subst hu';have hval:val ls = -v:=by have:=HV.out;rwa[Int.mul_zero,Int.add_zero]at this
   have hcan:Canon ls:=⟨HL.out,HT.out rfl⟩;have hlen:ls.length<=2:=aa8 hcan (m:=2) (by rw[hval,show pw 2=18446744073709551616 from by decide];omega);have how:=ad2 hown HL.out;obtain⟨ao,cap,hmv,_⟩:=id how;subst hmv;have hfr:FrW w0.heap.size v 2 (.agg #[.bool true,.slice ao ls.length cap]) wr:=by
    refine⟨_,_,_,_,w0.heap.size,wr.heap.size,rfl,⟨⟨how,hcan,by rw[hval];omega,fun hc g off hg=>?_⟩,by simp;omega⟩,Nat.le_refl _,Nat.le_refl _,hlen⟩;subst hg;obtain⟨ao',cap',e1,_,_,_,e4⟩:=how;simp only[Value.slice.injEq]at e1;obtain⟨rfl,_,rfl⟩:=e1;rcases e4 with e4|⟨g',off',cur,e5,hB',hh,_⟩
    ·omega
    ·simp only[Option.some.injEq,Addr.mk.injEq]at e5;obtain⟨rfl,_,_⟩:=e5;exact⟨hB',aaa hh⟩
   have HFR:=hide (hfr.low HB0.out.size);have HFx:=hide ((hbel.block _ (aaa HF0.out)).trans HF0.out);have HBx:=hide (HB0.out.trans (hbel.mono HB0.out.size));obtain⟨hfl,c0,c1,fr0,fr1⟩:=aal HFx.out;have hd:decide (v<0)=true:=by simp;omega
   clear hval hown how hfr hbel hcan;go_wp2;exact bodyPost_ret (v:=.agg #[.bool true,.slice ao ls.length cap]) (aby (g:=w.heap.size) rfl rfl (lvw2 (abi HFx.out _ _))) rfl ⟨_,rfl,HFR.out.ru (acg HFx.out _ _),(HBx.out.setCell (Nat.le_refl _) _).setCell (Nat.le_refl _) _⟩
theorem aib(w:World)(v:Int)(h1 : -9223372036854775808<=v)(h2:v<=9223372036854775807)(h0:¬v<0):
  Calls Try.prog 33 #[.int .i64 v] w fun e w'=>∃r,e=.returned r/\FrW w.heap.size v 2 r w'/\Below w.heap.size w w':=by
 obtain⟨i0,hi,hz0,hz1,hz2⟩:=info_parts abo;have hf0:=heap_alloc_new w (.cells #[.bool false,.slice none 0 0] 30);have hb0:=hAl w (.cells #[.bool false,.slice none 0 0] 30);generalize hE:w.alloc (.cells #[.bool false,.slice none 0 0] 30)=w0 at *
 have E0:=hide hE;have HF0:=hide hf0;have HB0:=hide hb0;clear hE hf0 hb0;have hw:True:=trivial;go_enter Try.func33,Try.ntmps33
 go_wp2;rw[E0.out];clear hw;go_loopw [3,4] (fun uv mv wr=>∃(u:Int) (ls:List Int),uv=.int .u64 u/\0<=u/\u<18446744073709551616/\Limb ls/\val ls+pw ls.length*u=v/\(u=0->tl ls=ls.length)/\wr.ownsRow w0.heap.size 62 1 mv ls.length (ls.map (Value.int .u32))/\Below w0.heap.size w0 wr) (fun uv _ _=>(intOf uv).toNat)
 case atStart=>exact⟨v,[],rfl,by omega,by omega,aaf,by simp[val,pw],fun _=>rfl,World.ownsRow_nil _ _ _ _,Below.refl _ _⟩
 case round=>
  obtain⟨u,ls,rfl,hu0,hu1,hls,hv,htop,hown,hbel⟩:=hrel;have HL:=hide hls;have HV:=hide hv;have HT:=hide htop;clear hls hv htop;by_cases hu:0<u
  ·have hroom:=aka HL.out hu (by rw[HV.out];omega);have HV':=hide (aj9 HV.out);have HT':Hid (u/4294967296=0->tl (ls ++ [u%4294967296])=(ls ++ [u%4294967296]).length):=fun h=>ana hu h
   go_wp2_with (at_builtin;refine wpList_append_own _ rfl (.tmp 13) (.tmp 16) 28 rfl w0.heap.size 62 i0 (.int .u32 0) 1 4 Try.underlying28 hi hz0 hz1 hz2 rfl (by decide) _ _ _ rfl (hown.alloc _) ⟨wr.heap.size,0,none⟩ 1 1 [.int .u32 (u%4294967296)] rfl rfl (cell_one_new _ _ _) ?c2 ?c3 ?c4 ?c5 ?_)
   case c2=>first|rfl|(intro x hx;simp at hx;subst hx;rfl)
   case c3=>unfold maxLen;omega
   case c4=>omega
   case c5=>have:=hbel.size;first|omega|(simp;omega)
   intro v4 w4 hown4 hgrow4 _;have R:=agx hown4 hgrow4 hbel hbel.size hown.lt;clear hown4 hgrow4 hown;go_wp2;go_roundw
   case rel=>exact⟨u/4294967296,ls ++ [u%4294967296],rfl,by omega,by omega,aaj.2 ⟨HL.out,aag.2 ⟨by omega,aaf⟩⟩,HV'.out,HT'.out,by simpa using R.1,R.2⟩
   case measure=>simp[intOf];omega
  ·have hu':u=0:=by omega
   subst hu';have hval:val ls=v:=by have:=HV.out;rwa[Int.mul_zero,Int.add_zero]at this
   have hcan:Canon ls:=⟨HL.out,HT.out rfl⟩;have hlen:ls.length<=2:=aa8 hcan (m:=2) (by rw[hval,show pw 2=18446744073709551616 from by decide];omega);have how:=ad2 hown HL.out;obtain⟨ao,cap,hmv,_⟩:=id how;subst hmv;have hfr:FrW w0.heap.size v 2 (.agg #[.bool false,.slice ao ls.length cap]) wr:=by
    refine⟨_,_,_,_,w0.heap.size,wr.heap.size,rfl,⟨⟨how,hcan,by rw[hval];omega,fun hc g off hg=>?_⟩,by simp;omega⟩,Nat.le_refl _,Nat.le_refl _,hlen⟩;subst hg;obtain⟨ao',cap',e1,_,_,_,e4⟩:=how;simp only[Value.slice.injEq]at e1;obtain⟨rfl,_,rfl⟩:=e1;rcases e4 with e4|⟨g',off',cur,e5,hB',hh,_⟩
    ·omega
    ·simp only[Option.some.injEq,Addr.mk.injEq]at e5;obtain⟨rfl,_,_⟩:=e5;exact⟨hB',aaa hh⟩
   have HFR:=hide (hfr.low HB0.out.size);have HFx:=hide ((hbel.block _ (aaa HF0.out)).trans HF0.out);have HBx:=hide (HB0.out.trans (hbel.mono HB0.out.size));obtain⟨hfl,c0,c1,fr0,fr1⟩:=aal HFx.out;have hd:decide (v<0)=false:=by simp;omega
   clear hval hown how hfr hbel hcan;go_wp2;exact bodyPost_ret (v:=.agg #[.bool false,.slice ao ls.length cap]) (aby (g:=w.heap.size) rfl rfl (lvw2 (abi HFx.out _ _))) rfl ⟨_,rfl,HFR.out.ru (acg HFx.out _ _),(HBx.out.setCell (Nat.le_refl _) _).setCell (Nat.le_refl _) _⟩
theorem amv(w:World)(v:Int)(h1 : -9223372036854775808<=v)(h2:v<=9223372036854775807):
  Calls Try.prog 33 #[.int .i64 v] w fun e w'=>∃r,e=.returned r/\FrW w.heap.size v 2 r w'/\Below w.heap.size w w':=by
 by_cases h0:v<0
 ·exact aia w v h1 h2 h0
 ·exact aib w v h1 h2 h0
theorem aoo(w:World)(v:Value)(zs:List Int)(h:Nums w v zs)(hz:∀z∈zs,-9223372036854775808<=z/\z<=9223372036854775807)(hl:zs.length<=1000):
  Calls Try.prog 20 #[v] w fun e w'=>∃r,e=.returned r/\CanRow w' r zs 2/\Below w.heap.size w w':=by
 obtain⟨ao,cap,rfl,_⟩:=id h;have H:=hide h;have HZ:=hide hz;clear h hz;obtain⟨n,hn⟩:∃n,zs.length=n:=⟨_,rfl⟩;rw[hn]at H hl ⊢;have HN:=hide hn;clear hn;go_enter Try.func20,Try.ntmps20
 go_wp2_with fail
 go_loopw [3,4] (fun ov iv wr=>∃(k:Nat) (es:List WE),iv=.int .i64 k/\k<=n/\Below w.heap.size w wr/\es.length=k/\RwO w.heap.size wr ov es/\∀(j:Nat) (e:WE) (z:Int),es[j]? = some e->zs[j]? = some z->Canon e.zs/\val e.zs=(z.natAbs:Int)/\e.ng=decide (z<0)/\e.zs.length<=2) (fun _ iv _=>n-(intOf iv).toNat)
 case atStart=>exact⟨0,[],rfl,Nat.zero_le _,Below.refl _ _,rfl,aft _ _,fun j e z he=>(by simp at he)⟩
 case round=>
  obtain⟨k,es,rfl,hk,hbw,hes,hown,hall⟩:=hrel;have HW:=hide hbw;have HES:=hide hes;have HOWN:=hide hown;have HALL:=hide hall;by_cases hlt:k<n
  ·obtain⟨b,off,rfl,hc⟩:=(show Nums wr (.slice ao n cap) zs from Ce.below H.out hbw).cell (i:=k) (by have:=HN.out;omega);have hget:zs[k]? = some (zs[k]'(by have:=HN.out;omega)):=List.getElem?_eq_getElem _;generalize zs[k]'(by have:=HN.out;omega)=z at hc hget;have HG:=hide hget;have hzb:=HZ.out z (List.mem_of_getElem? hget);have hlt':(k:Int)<(n:Int):=by omega
   obtain⟨aov,capv,hov,_⟩:=Cl.own hown.own;subst hov;clear hbw hes hown hall hget;go_wp2_with fail
   refine(amv wr z hzb.1 hzb.2).mono ?_;rintro e w2 ⟨r2,rfl,hf2,hb2⟩;obtain⟨ng2,ao2,cap2,rs2,B2,T2,rfl,hwf,hB2,hT2,hl2⟩:=hf2;have hA:=hAl w2 (.cells #[.bool ng2,.slice ao2 rs2.length cap2] 30);have hb2':=hb2.trans (hA.mono hb2.size);have hR2:=HOWN.out.below hb2';have hO2:One _ w2.heap.size ng2 ao2 rs2.length cap2:=heap_alloc_new w2 (.cells #[.bool ng2,.slice ao2 rs2.length cap2] 30);have hS2:Ow w.heap.size _ (.slice ao2 rs2.length cap2) rs2:=(hwf.fr.ow.mono (Nat.le_trans HW.out.size hB2)).below hA;have hsz:w.heap.size<=(w2.alloc (.cells #[.bool ng2,.slice ao2 rs2.length cap2] 30)).heap.size:=Nat.le_trans HW.out.size hb2'.size;go_wp2_with (at_builtin;refine ac6 rfl (aoc (i:=11) (j:=17) rfl rfl hR2 hO2 hS2 (by rw[HES.out];omega) hsz) ?_)
   intro v3 w3 hR3 hb3;obtain⟨aov3,capv3,hov3,_⟩:=Cl.own hR3.own;subst hov3;have HR3:=hide hR3;have HB3:=hide ((HW.out.trans (hb2'.mono HW.out.size)).trans hb3);have HWF:=hide hwf;clear hR3 hb3 hR2 hO2 hS2 hsz hA hb2 hb2' hwf hB2 hT2;go_wp2;go_roundw
   case rel=>
    refine⟨k+1,es ++ [⟨ng2,ao2,rs2.length,cap2,rs2⟩],by go_num,by omega,HB3.out,by simp[HES.out],HR3.out,fun j e y he hy=>?_⟩;by_cases hj:j<es.length
    ·rw[List.getElem?_append_left hj]at he;exact HALL.out j e y he hy
    ·have hjl:=(List.getElem?_eq_some_iff.1 he).1;simp at hjl;obtain rfl:j=es.length:=by omega
     rw[List.getElem?_append_right (Nat.le_refl _)]at he;simp at he;subst he;rw[HES.out,HG.out]at hy;obtain rfl:=Option.some.inj hy;exact⟨HWF.out.fr.canon,HWF.out.fr.val,HWF.out.sgn,hl2⟩
   case measure=>simp[intOf];omega
  ·have hlt':decide ((k:Int)<(n:Int))=false:=by simp;omega
   have hkn:k=n:=by omega
   subst hkn;clear hbw hes hown hall;go_wp2;refine bodyPost_ret (v:=_) (agn rfl rfl) rfl ⟨_,rfl,⟨es,HOWN.out.rw,by rw[HES.out,HN.out],HALL.out⟩,HW.out⟩
end Lm
namespace Lm
open Go Go.RowKit
theorem amw(w:World)(ax:Option Addr)(mx cx:Nat)(xs:List WE)(R:Rw w (.slice ax mx cx) xs)(hl:lenW xs<=35184372088832):
  Calls Try.prog 21 #[.slice ax mx cx] w fun e w'=>e=.returned (.int .i64 (lenW xs:Int))/\Below w.heap.size w w':=by
 have hll:=ah5 xs;have HX:=hide R;have HNx:Hid (mx=xs.length):=R.parts.1;have HL:Hid (lenW xs<=35184372088832/\mx<=lenW xs):=(show _/\_ from⟨hl,by rw[HNx.out];exact hll⟩);have hm:mx<=35184372088832:=by have:=HL.out;omega
 clear R hl hll;go_enter Try.func21,Try.ntmps21
 go_wp2_with fail
 go_loopw [3,4] (fun sv iv wr=>∃k:Nat,iv=.int .i64 k/\k<=mx/\sv=.int .i64 (lenW (xs.take k):Int)/\Below w.heap.size w wr) (fun _ iv _=>mx-(intOf iv).toNat)
 case atStart=>exact⟨0,rfl,Nat.zero_le _,rfl,Below.refl _ _⟩
 case round=>
  obtain⟨k,rfl,hk,rfl,hbw⟩:=hrel;by_cases hlt:k<mx
  ·have hlt':(k:Int)<(mx:Int):=by omega
   obtain⟨ex,hex⟩:∃e,xs[k]? = some e:=⟨_,List.getElem?_eq_getElem (by have:=HNx.out;omega)⟩;obtain⟨bx,ox,hAx,hlx0,hcx⟩:=HX.out.cells (by have:=HNx.out;omega);subst hAx;have hlx:bx<wr.heap.size:=Nat.lt_of_lt_of_le hlx0 hbw.size;have x0:=(hbw.cell (p:=⟨bx,ox+k*2,none⟩) hlx0).trans (hcx _ _ (ab4 hex).1);have x1:wr.cell? ⟨bx,ox+k*2+1,none⟩=some (.slice ex.a ex.m ex.c):=(hbw.cell (p:=⟨bx,ox+k*2+1,none⟩) hlx0).trans (hcx _ _ (ab4 hex).2);have hs:=akw hex;have hle:=ahh xs (k+1);have hm2:=HL.out;have HW:=hide hbw;have K1:=hide (al5 wr ex.ng ex.a ex.m ex.c (by omega));obtain⟨s,hsv⟩:∃s,lenW (xs.take k)=s:=⟨_,rfl⟩;rw[hsv]at hs ⊢;have hadd:IntKind.i64.wrap ((s:Int)+(1+(ex.m:Int)))=(s:Int)+(1+(ex.m:Int)):=by rw[IntKind.wrap_i64];omega
   have HSV:=hide hs;clear hbw hs hle hsv hm2 hex hcx hlx;go_wp2_with fail
   refine K1.out.mono ?_;rintro e w2 ⟨rfl,hb2⟩;have HB2:=hide (HW.out.trans (hb2.mono HW.out.size));clear hb2 x0 x1 hlx0;go_wp2;go_roundw
   case rel=>exact⟨k+1,by go_num,by omega,by rw[HSV.out];simp,HB2.out⟩
   case measure=>simp[intOf];omega
  ·have hlt':decide ((k:Int)<(mx:Int))=false:=by simp;omega
   have hkn:k=mx:=by omega
   subst hkn;have HW:=hide hbw;clear hbw;go_wp2;refine bodyPost_ret (v:=_) (agn rfl rfl) rfl ⟨by rw[List.take_of_length_le (by have:=HNx.out;omega)];rfl,HW.out⟩
end Lm
end Go.Proofs.Ytmpplnicbilfmaa
