/-
  What the text behind the last one leans on, part 3.
-/
import Derived.Test.YtpccfkdcpjplgaaGreatMKsLawZ2
set_option maxRecDepth 20000
set_option maxHeartbeats 40000000
namespace Go.Proofs.YtpccfkdcpjplgaaGreat
namespace Lm
open Go Go.RowKit
def waits(ops:Array Oper):Nat->Nat->Nat->Bool
 |0,_,_=>false
 |f+1,i,j=>match ops[i]? with
  |some o=>o.after.any fun e=>Region.binds .any e&&(e.on==j||waits ops f e.on j)
  |none=>false
def Shut(ops:Array Oper)(l:Array Bool):Prop:=∀j o,ops[j]? = some o->l.getD j false=true->∀e∈o.after,Region.binds .any e=true->l.getD e.on false=true
theorem afw{ops:Array Oper}{l:Array Bool}(hc:Shut ops l):∀f i j o,ops[i]? = some o->(∀e∈o.after,Region.binds .any e=true->l.getD e.on false=true)->waits ops f i j=true->l.getD j false=true
 |0,_,_,_,_,_,h=>by simp[waits]at h
 |f+1,i,j,o,ho,hl,h=>by
  rw[waits,ho]at h;simp only at h;rw[<-Array.any_toList]at h;obtain⟨e,he,h3⟩:=List.any_eq_true.1 h;replace he:=Array.mem_toList_iff.1 he;simp only[Bool.and_eq_true,Bool.or_eq_true,beq_iff_eq]at h3;obtain⟨hb,h3⟩:=h3;have hd:=hl e he hb;rcases h3 with h3|h3
  ·rw[<-h3];exact hd
  ·cases hq:ops[e.on]? with
   |none=>cases f <;> simp[waits,hq]at h3
   |some q=>exact afw hc f e.on j q hq (hc e.on q hq hd) h3
theorem Shut.set{ops:Array Oper}{l:Array Bool}{i:Nat}{o:Oper}(hc:Shut ops l)(ho:ops[i]? = some o)(hd:∀e∈o.after,Region.binds .any e=true->l.getD e.on false=true):Shut ops (l.setIfInBounds i true):=by
 intro j q hq hj e he hb;have up:l.getD e.on false=true->(l.setIfInBounds i true).getD e.on false=true:=fun h=>by
  by_cases hei:e.on=i
  ·have hlt:e.on<l.size:=by
    apply Classical.byContradiction;intro hn;rw[Array.getD_eq_getD_getElem?,Array.getElem?_eq_none (by omega)]at h;cases h
   rw[hei,Array.getD_eq_getD_getElem?,Array.getElem?_setIfInBounds_self_of_lt (by omega)];rfl
  ·rw[getD_set_ne false (fun h=>hei h.symm)];exact h
 by_cases hji:j=i
 ·subst hji;obtain rfl:o=q:=by rw[ho]at hq;exact Option.some.inj hq
  exact up (hd e he hb)
 ·rw[getD_set_ne false (fun h=>hji h.symm)]at hj;exact up (hc j q hq hj e he hb)
theorem acy{P:Program}{ops:Array Oper}{Q:Exit->Act->World->Prop}{id n:Nat}{a:Act}{w:World}(m:Nat)(Ds:List Nat)(Ps:List Says)(hm:P.follows .mixedOrders=true)(hn:a.tmps.size=n)(hnd:Ds.Nodup)(hlt:(Ds.all fun d=>decide (d<n))=true)
  (hdep:(ops.toList.zipIdx.all fun p=>p.1.after.all fun e=>decide (e.on<p.2))=true) (hms:m<=ops.size) (hall:((List.range ops.size).all fun i=>decide (i<m)||(List.range i).all fun j=>waits ops ops.size i j)=true) (hM:Monos Ps) (hD:Duties P n Ds Ps a w (ops.toList.take m) Ds Ps)
  (hend:∀a' w',a'.tmps.size=n->a'.defers=a.defers->Below w.heap.size w w'->Rest Ds a a'->(∀j,j<Ds.length->Ps.getD j (fun _ _=>True) (a'.eval (.tmp (Ds.getD j 0))) w')->wpList P ops Q (ops.toList.drop m) a' w'):(Code.region id ops true).wp P Q a w:=by
 obtain⟨hlen,hat⟩:=hD.take hms;have hL:∀k,k<=ops.size->wpOps P ops Q (List.range' k (ops.size-k))=wpList P ops Q (ops.toList.drop k):=fun k hk=>by
  have:=wpOps_eq_wpList (P:=P) (ops:=ops) (Q:=Q) (ops.toList.drop k) k (fun j=>by rw[List.getElem?_drop,Array.getElem?_toList]);rw[<-this];simp
 have hneed:∀i o,ops[i]? = some o->m<=i->∀l:Array Bool,Shut ops l->(∀e∈o.after,Region.binds .any e=true->l.getD e.on false=true)->∀j,j<i->l.getD j false=true:=by
  intro i o ho hi l hc hl j hj;have hio:i<ops.size:=(Array.getElem?_eq_some_iff.1 ho).1;have h1:=List.all_eq_true.1 hall i (List.mem_range.2 hio);simp only[Bool.or_eq_true,decide_eq_true_eq]at h1;rcases h1 with h1|h1
  ·omega
  ·exact afw hc _ i j o ho hl (List.all_eq_true.1 h1 j (List.mem_range.2 hj))
 refine ack hm (fun l a' w'=>(l.size=ops.size/\Shut ops l)/\(((∀j,m<=j->l.getD j false=false)/\Mid n Ds Ps a w (l.extract 0 m) a' w')\/∃j,m<j/\j<=ops.size/\(∀k,k<j->l.getD k false=true)/\(∀k,j<=k->l.getD k false=false)/\wpOps P ops Q (List.range' j (ops.size-j)) a' w')) ?_ ?_ ?_
 ·refine⟨⟨by simp,fun j o _ hj=>?_⟩,.inl ⟨fun j _=>?_,by simp[hlen];omega,hn,rfl,Below.drew (Below.refl _ _),fun _ _=>rfl,fun j hj=>?_⟩⟩
  ·exfalso;simp[Array.getElem?_replicate]at hj;split at hj <;> simp at hj
  ·simp[Array.getElem?_replicate];split <;> simp
  ·exfalso;by_cases hjm:j<m
   ·rw[aa9 hjm]at hj;simp[Array.getElem?_replicate]at hj;split at hj <;> simp at hj
   ·rw[Array.getD_eq_getD_getElem?,Array.getElem?_eq_none (by simp;omega)]at hj;simp at hj
 ·rintro l a' w' ⟨⟨hs,hcl⟩,hI⟩ hr;have hal:=aea hdep hs hr;rcases hI with⟨h1,h2,h3,h4,h5,h6,h7⟩|⟨j,hj1,hj2,hj3,hj4,hj5⟩
  ·have hmo:m=ops.size:=by
    apply Classical.byContradiction;intro hne;have:=hal m (by omega);rw[h1 m (Nat.le_refl _)]at this;cases this
   have:=hend a' w' h3 h4 h5 h6 (fun j hj=>h7 j (by rw[aa9 (by omega)];exact hal j (by omega)));rw[List.drop_eq_nil_of_le (by simp;omega)]at this;exact this
  ·have hje:j=ops.size:=by
    apply Classical.byContradiction;intro hne;have:=hal j (by omega);rw[hj4 j (Nat.le_refl _)]at this;cases this
   subst hje;simpa[wpOps]using hj5
 ·rintro l a' w' ⟨⟨hs,hcl⟩,hI⟩ i hi;obtain⟨hun,o,ho,hdeps⟩:=mem_ready.1 hi;have hio:i<ops.size:=(Array.getElem?_eq_some_iff.1 ho).1;have hset:∀k,k≠i->(l.setIfInBounds i true).getD k false=l.getD k false:=fun k hk=>getD_set_ne false (fun e=>hk e.symm)
  have hseti:(l.setIfInBounds i true).getD i false=true:=by
   rw[Array.getD_eq_getD_getElem?,Array.getElem?_setIfInBounds_self_of_lt (by omega)];rfl
  have hif:l.getD i false=false:=by
   rw[Array.getD_eq_getD_getElem?]at hun ⊢;cases hc:l[i]? with
   |none=>rfl
   |some b=>rw[hc]at hun;simpa using hun
  have hcl':Shut ops (l.setIfInBounds i true):=hcl.set ho hdeps;have hrun:∀j,j=i->wpOps P ops Q (List.range' j (ops.size-j)) a' w'->m<=j->(∀k,k<j->l.getD k false=true)->(∀k,j<=k->l.getD k false=false)->wpOp P ops Q i (fun a' w'=>((l.setIfInBounds i true).size=ops.size/\Shut ops (l.setIfInBounds i true))/\(((∀j,m<=j->(l.setIfInBounds i true).getD j false=false)/\Mid n Ds Ps a w ((l.setIfInBounds i true).extract 0 m) a' w')\/∃j,m<j/\j<=ops.size/\(∀k,k<j->(l.setIfInBounds i true).getD k false=true)/\(∀k,j<=k->(l.setIfInBounds i true).getD k false=false)/\wpOps P ops Q (List.range' j (ops.size-j)) a' w')) a' w':=by
   rintro j rfl hw hmj hlo hhi;rw[show ops.size-j=(ops.size-(j+1))+1 by omega,List.range'_succ,wpOps_cons]at hw;refine wpOp_mono (fun a2 w2 h=>⟨⟨by simpa using hs,hcl'⟩,.inr ⟨j+1,by omega,by omega,fun k hk=>?_,fun k hk=>?_,h⟩⟩) hw
   ·by_cases e:k=j
    ·subst e;exact hseti
    ·rw[hset k e];exact hlo k (by omega)
   ·rw[hset k (by omega)];exact hhi k (by omega)
  rcases hI with⟨h1,hmid⟩|⟨j,hj1,hj2,hj3,hj4,hj5⟩
  ·by_cases him:i<m
   ·have hd':∀e∈o.after,Region.binds .any e=true->(l.extract 0 m).getD e.on false=true:=fun e he hb=>by
     have h2:=List.all_eq_true.1 hdep (o,i) (by rw[List.mem_zipIdx_iff_getElem?];simpa using ho);have h3:e.on<i:=by simpa using Array.all_eq_true_iff_forall_mem.1 h2 e he
     rw[aa9 (by omega)];exact hdeps e he hb
    refine wpOp_mono (fun a2 w2 h=>⟨⟨by simpa using hs,hcl'⟩,.inl ⟨fun k hk=>?_,?_⟩⟩) (ali hat (by omega) hnd hlt hM ho (by omega) hmid hd')
    ·rw[hset k (by omega)];exact h1 k hk
    ·rw[ae2];exact h
   ·have hpre:=hneed i o ho (by omega) l hcl hdeps;have hie:i=m:=by
     apply Classical.byContradiction;intro hne;have:=hpre m (by omega);rw[h1 m (Nat.le_refl _)]at this;cases this
    subst hie;obtain⟨h2,h3,h4,h5,h6,h7⟩:=hmid;have hw:=hend a' w' h3 h4 h5 h6 (fun j hj=>h7 j (by rw[aa9 (by omega)];exact hpre j (by omega)));rw[<-hL _ hms]at hw;exact hrun i rfl hw (Nat.le_refl _) hpre h1
  ·have hij:i=j:=by
    apply Classical.byContradiction;intro hne;by_cases hlt':i<j
    ·rw[hj3 i hlt']at hif;cases hif
    ·have:=hneed i o ho (by omega) l hcl hdeps j (by omega);rw[hj4 j (Nat.le_refl _)]at this;cases this
   exact hrun j hij.symm hj5 (by omega) hj3 hj4
structure Tch (g:Nat) (w w':World):Prop where
 os:w'.os=w.os
 tape:w'.tape=w.tape
 output:w'.output=w.output
 size:w.heap.size<=w'.heap.size
 other:∀k,k<w.heap.size->k≠g->w'.heap[k]? = w.heap[k]?
theorem Tch.of_below{g:Nat}{w w':World}(h:Below w.heap.size w w'):Tch g w w':=⟨h.os,h.tape,h.output,h.size,fun k hk _=>h.block k hk⟩
theorem Tch.of_grown{g:Nat}{w w':World}{r:Option Nat}(h:w.grownBy w' r)(hr:∀k,r=some k->k=g):Tch g w w':=⟨h.os,h.tape,h.output,h.size,fun k hk hn=>h.block k hk (fun e=>hn (hr k e.symm))⟩
theorem Tch.trans{g:Nat}{w w' w'':World}(h:Tch g w w')(h':Tch g w' w''):Tch g w w'':=⟨h'.os.trans h.os,h'.tape.trans h.tape,h'.output.trans h.output,Nat.le_trans h.size h'.size,fun k hk hn=>(h'.other k (Nat.lt_of_lt_of_le hk h.size) hn).trans (h.other k hk hn)⟩
theorem Tch.below{g B:Nat}{w w':World}(h:Tch g w w')(hB:B<=w.heap.size)(hg:B<=g):Below B w w':=⟨h.os,h.tape,h.output,h.size,fun k hk=>h.other k (by omega) (by omega)⟩
def Mid3(n g ix:Nat)(Ds:List Nat)(Ps:List Says)(a0:Act)(w0:World)(l:Array Bool)(a:Act)(w:World):Prop:=
 l.size=Ds.length/\a.tmps.size=n/\a.defers=a0.defers/\Tch g w0 w/\Rest Ds a0 a/\(∀j,l.getD j false=true->Ps.getD j (fun _ _=>True) (a.eval (.tmp (Ds.getD j 0))) w)/\(l.getD ix false=false->w.heap[g]? = w0.heap[g]?)
def MonosT(g ix:Nat)(Ps:List Says):Prop:=∀j,j≠ix->∀v w w',Tch g w w'->Ps.getD j (fun _ _=>True) v w->Ps.getD j (fun _ _=>True) v w'
def Duty3(P:Program)(n g ix:Nat)(Ds:List Nat)(Ps:List Says)(a0:Act)(w0:World)(i:Nat)(o:Oper)(d:Nat)(p:Says):Prop:=
 o.dst=some d/\o.guard=none/\∀a w,a.tmps.size=n->Tch g w0 w->Rest Ds a0 a->Deps Ds Ps o a w->(i≠ix->Does P o a.eval w fun v w'=>Below w.heap.size w w'/\p v w')/\(i=ix->w.heap[g]? = w0.heap[g]?->Does P o a.eval w fun v w'=>Tch g w w'/\p v w')
def Duties3(P:Program)(n g ix:Nat)(Ds:List Nat)(Ps:List Says)(a0:Act)(w0:World):Nat->List Oper->List Nat->List Says->Prop
 |_,[],[],[]=>True
 |i,o::os,d::ds,p::ps=>Duty3 P n g ix Ds Ps a0 w0 i o d p/\Duties3 P n g ix Ds Ps a0 w0 (i+1) os ds ps
 |_,_,_,_=>False
theorem Duties3.at{P:Program}{n g ix:Nat}{Ds:List Nat}{Ps:List Says}{a0:Act}{w0:World}: ∀ {m:Nat} {os:List Oper} {ds:List Nat} {ps:List Says},Duties3 P n g ix Ds Ps a0 w0 m os ds ps->ds.length=os.length/\∀i o,os[i]? = some o->Duty3 P n g ix Ds Ps a0 w0 (m+i) o (ds.getD i 0) (ps.getD i fun _ _=>True)
 |_,[],[],[],_=>⟨rfl,fun i o h=>by simp at h⟩
 |m,o::os,d::ds,p::ps,h=>by
  obtain⟨h1,h2⟩:=h;obtain⟨hl,h3⟩:=Duties3.at h2;refine⟨by simp[hl],fun i o' ho=>?_⟩;cases i with
  |zero=>
   simp only[List.getElem?_cons_zero,Option.some.injEq]at ho;subst ho;simpa using h1
  |succ i=>
   have:=h3 i o' (by simpa using ho);rw[show m+1+i=m+(i+1) by omega]at this;simpa using this
 |_,[],_::_,_,h=>h.elim
 |_,[],[],_::_,h=>h.elim
 |_,_::_,[],_,h=>h.elim
 |_,_::_,_::_,[],h=>h.elim
theorem Duties3.take{P:Program}{n g ix:Nat}{Ds:List Nat}{Ps:List Says}{a0:Act}{w0:World}{ops:Array Oper}{m:Nat}(h:Duties3 P n g ix Ds Ps a0 w0 0 (ops.toList.take m) Ds Ps)(hm:m<=ops.size):Ds.length=m/\∀i o,ops[i]? = some o->i<Ds.length->Duty3 P n g ix Ds Ps a0 w0 i o (Ds.getD i 0) (Ps.getD i fun _ _=>True):=by
 obtain⟨hl,hat⟩:=h.at;have hl':Ds.length=m:=by rw[hl,List.length_take];simp;omega
 refine⟨hl',fun i o ho hi=>?_⟩;have:=hat i o (by rw[List.getElem?_take_of_lt (by omega),Array.getElem?_toList];exact ho);rwa[Nat.zero_add]at this
theorem Mid3.put{n g ix:Nat}{Ds:List Nat}{Ps:List Says}{a0:Act}{w0:World}{l:Array Bool}{a:Act}{w w':World}{i:Nat}{v:Value}(h:Mid3 n g ix Ds Ps a0 w0 l a w)(hi:i<Ds.length)(hnd:Ds.Nodup)(hlt:(Ds.all fun d=>decide (d<n))=true)(ht:Tch g w w')(hk:∀j,j≠i->l.getD j false=true->∀u,Ps.getD j (fun _ _=>True) u w->Ps.getD j (fun _ _=>True) u w')(hI:(l.setIfInBounds i true).getD ix false=false->w'.heap[g]? = w.heap[g]?)(hp:Ps.getD i (fun _ _=>True) v w'):
  Mid3 n g ix Ds Ps a0 w0 (l.setIfInBounds i true) (a.put (some (Ds.getD i 0)) v) w':=by
 obtain⟨h1,h2,h3,h4,h5,h6,h7⟩:=h;have hd:Ds.getD i 0<n:=by
  have:=List.all_eq_true.1 hlt (Ds.getD i 0) (by rw[List.getD_eq_getElem?_getD,List.getElem?_eq_getElem hi];simp);simpa using this
 refine⟨by simp[h1],by rw[afg];simp[h2],h3,h4.trans ht,fun k hk=>?_,fun j hj=>?_,fun hx=>?_⟩
 ·rw[abk,h5 k hk];rintro rfl;have:Ds.contains (Ds.getD i 0)=true:=by
   rw[List.contains_iff_mem,List.getD_eq_getElem?_getD,List.getElem?_eq_getElem hi];simp
  rw[this]at hk;cases hk
 ·by_cases e:j=i
  ·subst e;rw[ac5 (by omega)];exact hp
  ·rw[getD_set_ne false (fun h=>e h.symm)]at hj;have hjl:j<Ds.length:=by
    rw[Array.getD_eq_getD_getElem?]at hj;cases hc:l[j]? with
    |none=>rw[hc]at hj;simp at hj
    |some b=>rw[<-h1];exact(Array.getElem?_eq_some_iff.1 hc).1
   rw[abk (ah3 hnd hi hjl (fun h=>e h.symm))];exact hk j e hj _ (h6 j hj)
 ·refine(hI hx).trans (h7 ?_);by_cases e:ix=i
  ·subst e;rw[Array.getD_eq_getD_getElem?,Array.getElem?_setIfInBounds_self_of_lt (by omega)]at hx;cases hx
  ·rwa[getD_set_ne false (fun h=>e h.symm)]at hx
theorem asd{P:Program}{ops:Array Oper}{Q:Exit->Act->World->Prop}{n g ix:Nat}{Ds:List Nat}{Ps:List Says}{a0:Act}{w0:World}{l:Array Bool}{a:Act}{w:World}{i:Nat}{o:Oper}(hgw:g<w0.heap.size)(hat:∀i o,ops[i]? = some o->i<Ds.length->Duty3 P n g ix Ds Ps a0 w0 i o (Ds.getD i 0) (Ps.getD i fun _ _=>True))(hnd:Ds.Nodup)(hlt:(Ds.all fun d=>decide (d<n))=true)(hM:Monos Ps)(hT:MonosT g ix Ps)(ho:ops[i]? = some o)(hil:i<Ds.length)(hun:l.getD i false=false)(h:Mid3 n g ix Ds Ps a0 w0 l a w)(hdeps:∀e∈o.after,Region.binds .any e=true->l.getD e.on false=true):
  wpOp P ops Q i (fun a' w'=>Mid3 n g ix Ds Ps a0 w0 (l.setIfInBounds i true) a' w') a w:=by
 have h':=h;obtain⟨h1,h2,h3,h4,h5,h6,h7⟩:=h;obtain⟨hdst,hgd,hduty⟩:=hat i o ho hil;obtain⟨hd1,hd2⟩:=hduty a w h2 h4 h5 (fun j hj=>by
  obtain⟨e,he,hj⟩:=List.any_eq_true.1 hj;simp only[Bool.and_eq_true,beq_iff_eq]at hj;obtain⟨rfl,hb⟩:=hj
  exact h6 _ (hdeps e (by simpa using he) hb))
 refine wpOp_step ho (fun K' hK=>?_);simp only[Region.wanted,hgd,if_true];by_cases hix:i=ix
 ·subst hix;refine Does.wp (hd2 rfl (h7 hun)) (fun v w' ⟨hb,hp⟩=>?_);rw[hdst];refine hK _ _ (h'.put hil hnd hlt hb (fun j hj _ u hu=>hT j hj u w w' hb hu) (fun hx=>?_) hp);rw[Array.getD_eq_getD_getElem?,Array.getElem?_setIfInBounds_self_of_lt (by omega)]at hx;cases hx
 ·refine Does.wp (hd1 hix) (fun v w' ⟨hb,hp⟩=>?_);rw[hdst];exact hK _ _ (h'.put hil hnd hlt (.of_below hb) (fun j _ _ u hu=>hM.at j u w w' hb hu) (fun _=>hb.block g (Nat.lt_of_lt_of_le hgw h4.size)) hp)
theorem agh{P:Program}{ops:Array Oper}{Q:Exit->Act->World->Prop}{id n:Nat}{a:Act}{w:World}(g ix m:Nat)(Ds:List Nat)(Ps:List Says)(hgw:g<w.heap.size)(hm:P.follows .mixedOrders=true)(hn:a.tmps.size=n)(hnd:Ds.Nodup)(hlt:(Ds.all fun d=>decide (d<n))=true)
  (hdep:(ops.toList.zipIdx.all fun p=>p.1.after.all fun e=>decide (e.on<p.2))=true) (hms:m<=ops.size) (hall:((List.range ops.size).all fun i=>decide (i<m)||(List.range i).all fun j=>waits ops ops.size i j)=true) (hM:Monos Ps) (hT:MonosT g ix Ps) (hD:Duties3 P n g ix Ds Ps a w 0 (ops.toList.take m) Ds Ps)
  (hend:∀a' w',a'.tmps.size=n->a'.defers=a.defers->Tch g w w'->Rest Ds a a'->(∀j,j<Ds.length->Ps.getD j (fun _ _=>True) (a'.eval (.tmp (Ds.getD j 0))) w')->wpList P ops Q (ops.toList.drop m) a' w'):(Code.region id ops true).wp P Q a w:=by
 obtain⟨hlen,hat⟩:=hD.take hms;have hL:∀k,k<=ops.size->wpOps P ops Q (List.range' k (ops.size-k))=wpList P ops Q (ops.toList.drop k):=fun k hk=>by
  have:=wpOps_eq_wpList (P:=P) (ops:=ops) (Q:=Q) (ops.toList.drop k) k (fun j=>by rw[List.getElem?_drop,Array.getElem?_toList]);rw[<-this];simp
 have hneed:∀i o,ops[i]? = some o->m<=i->∀l:Array Bool,Shut ops l->(∀e∈o.after,Region.binds .any e=true->l.getD e.on false=true)->∀j,j<i->l.getD j false=true:=by
  intro i o ho hi l hc hl j hj;have hio:i<ops.size:=(Array.getElem?_eq_some_iff.1 ho).1;have h1:=List.all_eq_true.1 hall i (List.mem_range.2 hio);simp only[Bool.or_eq_true,decide_eq_true_eq]at h1;rcases h1 with h1|h1
  ·omega
  ·exact afw hc _ i j o ho hl (List.all_eq_true.1 h1 j (List.mem_range.2 hj))
 refine ack hm (fun l a' w'=>(l.size=ops.size/\Shut ops l)/\(((∀j,m<=j->l.getD j false=false)/\Mid3 n g ix Ds Ps a w (l.extract 0 m) a' w')\/∃j,m<j/\j<=ops.size/\(∀k,k<j->l.getD k false=true)/\(∀k,j<=k->l.getD k false=false)/\wpOps P ops Q (List.range' j (ops.size-j)) a' w')) ?_ ?_ ?_
 ·refine⟨⟨by simp,fun j o _ hj=>?_⟩,.inl ⟨fun j _=>?_,by simp[hlen];omega,hn,rfl,.of_below (Below.drew (Below.refl _ _)),fun _ _=>rfl,fun j hj=>?_,fun _=>rfl⟩⟩
  ·exfalso;simp[Array.getElem?_replicate]at hj;split at hj <;> simp at hj
  ·simp[Array.getElem?_replicate];split <;> simp
  ·exfalso;by_cases hjm:j<m
   ·rw[aa9 hjm]at hj;simp[Array.getElem?_replicate]at hj;split at hj <;> simp at hj
   ·rw[Array.getD_eq_getD_getElem?,Array.getElem?_eq_none (by simp;omega)]at hj;simp at hj
 ·rintro l a' w' ⟨⟨hs,hcl⟩,hI⟩ hr;have hal:=aea hdep hs hr;rcases hI with⟨h1,h2,h3,h4,h5,h6,h7⟩|⟨j,hj1,hj2,hj3,hj4,hj5⟩
  ·have hmo:m=ops.size:=by
    apply Classical.byContradiction;intro hne;have:=hal m (by omega);rw[h1 m (Nat.le_refl _)]at this;cases this
   have:=hend a' w' h3 h4 h5 h6 (fun j hj=>h7.1 j (by rw[aa9 (by omega)];exact hal j (by omega)));rw[List.drop_eq_nil_of_le (by simp;omega)]at this;exact this
  ·have hje:j=ops.size:=by
    apply Classical.byContradiction;intro hne;have:=hal j (by omega);rw[hj4 j (Nat.le_refl _)]at this;cases this
   subst hje;simpa[wpOps]using hj5
 ·rintro l a' w' ⟨⟨hs,hcl⟩,hI⟩ i hi;obtain⟨hun,o,ho,hdeps⟩:=mem_ready.1 hi;have hio:i<ops.size:=(Array.getElem?_eq_some_iff.1 ho).1;have hset:∀k,k≠i->(l.setIfInBounds i true).getD k false=l.getD k false:=fun k hk=>getD_set_ne false (fun e=>hk e.symm)
  have hseti:(l.setIfInBounds i true).getD i false=true:=by
   rw[Array.getD_eq_getD_getElem?,Array.getElem?_setIfInBounds_self_of_lt (by omega)];rfl
  have hif:l.getD i false=false:=by
   rw[Array.getD_eq_getD_getElem?]at hun ⊢;cases hc:l[i]? with
   |none=>rfl
   |some b=>rw[hc]at hun;simpa using hun
  have hcl':Shut ops (l.setIfInBounds i true):=hcl.set ho hdeps;have hrun:∀j,j=i->wpOps P ops Q (List.range' j (ops.size-j)) a' w'->m<=j->(∀k,k<j->l.getD k false=true)->(∀k,j<=k->l.getD k false=false)->wpOp P ops Q i (fun a' w'=>((l.setIfInBounds i true).size=ops.size/\Shut ops (l.setIfInBounds i true))/\(((∀j,m<=j->(l.setIfInBounds i true).getD j false=false)/\Mid3 n g ix Ds Ps a w ((l.setIfInBounds i true).extract 0 m) a' w')\/∃j,m<j/\j<=ops.size/\(∀k,k<j->(l.setIfInBounds i true).getD k false=true)/\(∀k,j<=k->(l.setIfInBounds i true).getD k false=false)/\wpOps P ops Q (List.range' j (ops.size-j)) a' w')) a' w':=by
   rintro j rfl hw hmj hlo hhi;rw[show ops.size-j=(ops.size-(j+1))+1 by omega,List.range'_succ,wpOps_cons]at hw;refine wpOp_mono (fun a2 w2 h=>⟨⟨by simpa using hs,hcl'⟩,.inr ⟨j+1,by omega,by omega,fun k hk=>?_,fun k hk=>?_,h⟩⟩) hw
   ·by_cases e:k=j
    ·subst e;exact hseti
    ·rw[hset k e];exact hlo k (by omega)
   ·rw[hset k (by omega)];exact hhi k (by omega)
  rcases hI with⟨h1,hmid⟩|⟨j,hj1,hj2,hj3,hj4,hj5⟩
  ·by_cases him:i<m
   ·have hd':∀e∈o.after,Region.binds .any e=true->(l.extract 0 m).getD e.on false=true:=fun e he hb=>by
     have h2:=List.all_eq_true.1 hdep (o,i) (by rw[List.mem_zipIdx_iff_getElem?];simpa using ho);have h3:e.on<i:=by simpa using Array.all_eq_true_iff_forall_mem.1 h2 e he
     rw[aa9 (by omega)];exact hdeps e he hb
    refine wpOp_mono (fun a2 w2 h=>⟨⟨by simpa using hs,hcl'⟩,.inl ⟨fun k hk=>?_,?_⟩⟩) (asd hgw hat hnd hlt hM hT ho (by omega) (by rw[aa9 him];exact hif) hmid hd')
    ·rw[hset k (by omega)];exact h1 k hk
    ·rw[ae2];exact h
   ·have hpre:=hneed i o ho (by omega) l hcl hdeps;have hie:i=m:=by
     apply Classical.byContradiction;intro hne;have:=hpre m (by omega);rw[h1 m (Nat.le_refl _)]at this;cases this
    subst hie;obtain⟨h2,h3,h4,h5,h6,h7⟩:=hmid;have hw:=hend a' w' h3 h4 h5 h6 (fun j hj=>h7.1 j (by rw[aa9 (by omega)];exact hpre j (by omega)));rw[<-hL _ hms]at hw;exact hrun i rfl hw (Nat.le_refl _) hpre h1
  ·have hij:i=j:=by
    apply Classical.byContradiction;intro hne;by_cases hlt':i<j
    ·rw[hj3 i hlt']at hif;cases hif
    ·have:=hneed i o ho (by omega) l hcl hdeps j (by omega);rw[hj4 j (Nat.le_refl _)]at this;cases this
   exact hrun j hij.symm hj5 (by omega) hj3 hj4
end Lm
namespace Md
abbrev Rw:=Nat->Int
def w(x:Rw):(List Nat->Int)->List Nat->Int
 |_,[]=>0
 |g,c::cs=>x c*g cs-w x (fun l=>g (c::l)) cs
theorem agy(x:Rw){g h:List Nat->Int}(e:∀l,g l=h l)(cs:List Nat):w x g cs=w x h cs:=by
 rw[show g=h from funext e]
theorem az7(x:Rw)(g h:List Nat->Int)(cs:List Nat):w x (fun l=>g l+h l) cs=w x g cs+w x h cs:=by
 induction cs generalizing g h with
 |nil=>simp[w]
 |cons c cs ih=>simp only[w,ih];grind
theorem apx(x:Rw)(a:Int)(g:List Nat->Int)(cs:List Nat):w x (fun l=>a*g l) cs=a*w x g cs:=by
 induction cs generalizing g with
 |nil=>simp[w]
 |cons c cs ih=>simp only[w,ih];grind
theorem apy(x:Rw)(g:List Nat->Int)(cs:List Nat):w x (fun l=>-g l) cs = -w x g cs:=by
 have:=apx x (-1) g cs;rw[show(fun l=>-g l)=fun l=>-1*g l from funext fun l=>by omega,this];omega
theorem az8(x:Rw)(g h:List Nat->Int)(cs:List Nat):w x (fun l=>g l-h l) cs=w x g cs-w x h cs:=by
 have:=az7 x g (fun l=>-h l) cs;rw[apy]at this;rw[show(fun l=>g l-h l)=fun l=>g l+-h l from funext fun l=>by omega,this];omega
theorem azh(x:Rw)(cs:List Nat):w x (fun _=>0) cs=0:=by
 have:=apx x 0 (fun _=>0) cs;simpa using this
theorem ase(x y:Rw)(g:List Nat->Int)(cs:List Nat):w x (w y g) cs = -w y (w x g) cs:=by
 induction cs generalizing g with
 |nil=>simp[w]
 |cons c cs ih=>
  have h1:∀(x y:Rw),w x (fun l=>w y g (c::l)) cs=y c*w x g cs-w x (w y (fun l=>g (c::l))) cs:=by
   intro x y;rw[<-apx,<-az8];exact agy x (fun l=>by rw[w]) cs
  rw[w,w,h1 x y,h1 y x,ih];omega
theorem awf(x y:Rw)(a b:Int)(g:List Nat->Int)(cs:List Nat):w (fun c=>a*x c+b*y c) g cs=a*w x g cs+b*w y g cs:=by
 induction cs generalizing g with
 |nil=>simp[w]
 |cons c cs ih=>simp only[w,ih];grind
theorem asf{x:Rw}(g:List Nat->Int)(cs:List Nat)(h:∀c∈cs,x c=0):w x g cs=0:=by
 induction cs generalizing g with
 |nil=>rfl
 |cons c cs ih=>rw[w,h c (by simp),ih _ (fun d hd=>h d (by simp[hd]))];omega
def Alt(g:List Nat->Int):Prop:=∀(p:List Nat) (a b:Nat) (q:List Nat),g (p++a::b::q) = -g (p++b::a::q)
theorem Alt.pre{g:List Nat->Int}(h:Alt g)(u:List Nat):Alt (fun l=>g (u++l)):=fun p a b q=>by
 have:=h (u++p) a b q;simpa using this
theorem Alt.cons{g:List Nat->Int}(h:Alt g)(u:Nat):Alt (fun l=>g (u::l)):=h.pre [u]
theorem Alt.w{g:List Nat->Int}(h:Alt g)(x:Rw):Alt (Md.w x g):=by
 intro p;induction p generalizing g with
 |nil=>
  intro a b q;simp only[List.nil_append,Md.w];have h1:=agy x (g:=fun l=>g (a::b::l)) (h:=fun l=>-g (b::a::l)) (fun l=>h [] a b l) q;rw[apy]at h1;omega
 |cons c p ih=>
  intro a b q;simp only[List.cons_append,Md.w];have h1:=ih (h.cons c) a b q;have h2:=h p a b q;rw[h1,h2]
  grind
theorem Alt.two{g:List Nat->Int}(h:Alt g)(a:Nat)(p q:List Nat):g (a::(p++a::q))=0:=by
 induction p generalizing g with
 |nil=>have:=h [] a a q;simp only[List.nil_append]at this ⊢;omega
 |cons b p ih=>
  have h1:=h [] a b (p++a::q);have h2:=ih (h.cons b);simp only[List.nil_append,List.cons_append]at h1 h2 ⊢;omega
theorem Alt.dup{g:List Nat->Int}(h:Alt g){l:List Nat}(hl:¬l.Nodup):g l=0:=by
 induction l generalizing g with
 |nil=>exact absurd List.nodup_nil hl
 |cons a l ih=>
  by_cases ha:a∈l
  ·obtain⟨p,q,rfl⟩:=List.append_of_mem ha;exact h.two a p q
  ·exact ih (h.cons a) (fun hn=>hl (List.nodup_cons.2 ⟨ha,hn⟩))
def sgn:Nat->Int
 |0=>1
 |n+1=>-sgn n
theorem alw(n:Nat):sgn n*sgn n=1:=by
 induction n with
 |zero=>rfl
 |succ n ih=>rw[sgn,Int.neg_mul_neg,ih]
theorem azi(n:Nat):sgn n=if n%2=1 then -1 else 1:=by
 induction n with
 |zero=>rfl
 |succ n ih=>
  rw[sgn,ih];split <;> split <;> omega
theorem Alt.move{g:List Nat->Int}(h:Alt g)(c:Nat)(p q:List Nat):g (c::(p++q))=sgn p.length*g (p++c::q):=by
 induction p generalizing g with
 |nil=>simp[sgn]
 |cons b p ih=>
  have h1:=h [] c b (p++q);have h2:=ih (h.cons b);simp only[List.nil_append,List.cons_append,List.length_cons,sgn]at h1 h2 ⊢;rw[h1,h2]
  grind
def sub(p k:Nat)(l:List Nat):List Nat:=l.map (fun q=>if q=p then k else q)
theorem sub_self(p:Nat)(l:List Nat):sub p p l=l:=by
 unfold sub;conv=>rhs;rw[<-List.map_id l]
 apply List.map_congr_left;intro q _;split
 ·next h=>rw[h];rfl
 ·rfl
theorem afb{p:Nat}{l:List Nat}(h:p∉l)(k:Nat):sub p k l=l:=by
 unfold sub;conv=>rhs;rw[<-List.map_id l]
 apply List.map_congr_left;intro q hq;rw[if_neg (fun e:q=p=>h (by rw[<-e];exact hq))];rfl
theorem afx(p k q:Nat)(l:List Nat):sub p k (q::l)=(if q=p then k else q)::sub p k l:=rfl
theorem ain(p k:Nat)(l m:List Nat):sub p k (l++m)=sub p k l++sub p k m:=by simp[sub]
theorem ael{p k:Nat}{l:List Nat}(hp:p∈l)(hk:k∈l)(hne:k≠p):¬(sub p k l).Nodup:=by
 intro hn;obtain⟨i,hi,hi'⟩:=List.mem_iff_getElem.1 hp;obtain⟨j,hj,hj'⟩:=List.mem_iff_getElem.1 hk;have hij:i≠j:=fun e=>by subst e;exact hne (hj'.symm.trans hi')
 have h1:(sub p k l)[i]'(by simpa[sub]using hi)=k:=by simp[sub,hi']
 have h2:(sub p k l)[j]'(by simpa[sub]using hj)=k:=by simp[sub,hj',hne]
 exact hij ((List.getElem_inj hn).1 (h1.trans h2.symm))
def sumL(f:Nat->Int):List Nat->Int
 | []=>0
 |q::l=>f q+sumL f l
theorem aeh{f h:Nat->Int}{l:List Nat}(e:∀q∈l,f q=h q):sumL f l=sumL h l:=by
 induction l with
 |nil=>rfl
 |cons q l ih=>rw[sumL,sumL,e q (by simp),ih (fun r hr=>e r (by simp[hr]))]
theorem Alt.expand{g:List Nat->Int}(h:Alt g)(x:Rw)(k:Nat){Q:List Nat}(hn:Q.Nodup):Md.w x (fun l=>g (k::l)) Q=sumL (fun p=>x p*g (sub p k Q)) Q:=by
 induction Q generalizing g with
 |nil=>rfl
 |cons q Q ih=>
  obtain⟨h1,h2⟩:=List.nodup_cons.1 hn;rw[Md.w,sumL,afx,if_pos rfl,afb h1];have e:Md.w x (fun l=>g (k::q::l)) Q = -Md.w x (fun l=>g (q::k::l)) Q:=by
   rw[<-apy];exact agy x (fun l=>h [] k q l) Q
  rw[e,ih (h.cons q) h2];have:sumL (fun p=>x p*g (q::sub p k Q)) Q=sumL (fun p=>x p*g (sub p k (q::Q))) Q:=by
   apply aeh;intro p hp;rw[afx,if_neg (fun e:q=p=>h1 (by rw[e];exact hp))]
  rw[this];omega
def D:List Rw->List Nat->Int
 | []=>fun l=>if l = []then 1 else 0
 |x::R=>w x (D R)
theorem adu(R:List Rw):Alt (D R):=by
 induction R with
 |nil=>
  intro p a b q;have:∀l:List Nat,l≠[]->D [] l=0:=fun l h=>if_neg h
  rw[this _ (by simp),this _ (by simp)];rfl
 |cons x R ih=>exact ih.w x
inductive Sp (R:List Rw):Rw->Prop
 |zero:Sp R (fun _=>0)
 |add (a:Int) (x y:Rw) (hx:x∈R) (hy:Sp R y):Sp R (fun c=>a*x c+y c)
theorem Sp.mono{R S:List Rw}{x:Rw}(h:Sp R x)(hs:∀y∈R,y∈S):Sp S x:=by
 induction h with
 |zero=>exact .zero
 |add a x y hx _ ih=>exact .add a x y (hs x hx) ih
theorem Sp.lin{R:List Rw}{x y:Rw}(hx:Sp R x)(hy:Sp R y)(a b:Int):Sp R (fun c=>a*x c+b*y c):=by
 induction hx with
 |zero=>
  induction hy with
  |zero=>simpa using Sp.zero
  |add e u v hu _ ih=>
   have:=Sp.add (b*e) u _ hu ih;refine cast (congrArg (Sp R) (funext fun c=>?_)) this
   grind
 |add e u v hu _ ih=>
  have:=Sp.add (a*e) u _ hu ih;refine cast (congrArg (Sp R) (funext fun c=>?_)) this
  grind
theorem Sp.mem{R:List Rw}{x:Rw}(h:x∈R):Sp R x:=by
 have:=Sp.add 1 x _ h Sp.zero;refine cast (congrArg (Sp R) (funext fun c=>?_)) this
 grind
theorem Sp.smul{R:List Rw}{x:Rw}(h:Sp R x)(a:Int):Sp R (fun c=>a*x c):=by
 have:=h.lin Sp.zero a 0;refine cast (congrArg (Sp R) (funext fun c=>?_)) this
 grind
theorem sp_w{R:List Rw}(x:Rw)(g:Nat->List Nat->Int)(h:∀l,Sp R (fun c=>g c l))(cs:List Nat):Sp R (fun c=>w x (g c) cs):=by
 induction cs generalizing g with
 |nil=>exact .zero
 |cons d cs ih=>
  have:=(h cs).lin (ih (fun c l=>g c (d::l)) (fun l=>h (d::l))) (x d) (-1);refine cast (congrArg (Sp R) (funext fun c=>?_)) this;rw[w]
  grind
theorem agz(R:List Rw)(cs:List Nat):Sp R (fun c=>D R (c::cs)):=by
 induction R generalizing cs with
 |nil=>exact Sp.zero
 |cons x R ih=>
  have h1:=(sp_w x (fun c l=>D R (c::l)) (fun l=>ih l) cs).mono (S:=x::R) (fun y hy=>by simp[hy]);have:=(Sp.mem (R:=x::R) (x:=x) (by simp)).lin h1 (D R cs) (-1);refine cast (congrArg (Sp (x::R)) (funext fun c=>?_)) this;rw[D,w]
  grind
theorem asg{p:Nat}{Q:List Nat}(hn:Q.Nodup)(hp:p∈Q):∃a b,Q=a++p::b/\∀k,sub p k Q=a++k::b:=by
 obtain⟨a,b,rfl⟩:=List.append_of_mem hp;refine⟨a,b,rfl,fun k=>?_⟩;have h1:=List.nodup_append.1 hn;have h2:=(List.nodup_cons.1 h1.2.1).1;have h3:p∉a:=fun h=>h1.2.2 p h p (by simp) rfl
 rw[ain,afx,if_pos rfl,afb h3,afb h2]
theorem afc(R:List Rw){p:Nat}{Q:List Nat}(hn:Q.Nodup)(hp:p∈Q):Sp R (fun k=>D R (sub p k Q)):=by
 obtain⟨a,b,_,h⟩:=asg hn hp;have h1:=(agz R (a++b)).smul (sgn a.length);refine cast (congrArg (Sp R) (funext fun c=>?_)) h1;rw[h c,(adu R).move c a b,<-Int.mul_assoc,alw,Int.one_mul]
theorem az9{R:List Rw}{r:Rw}(h:r∈R)(cs:List Nat):w r (D R) cs=0:=by
 induction R generalizing cs with
 |nil=>cases h
 |cons y R ih=>
  have h1:=ase r y (D R) cs;rw[show D (y::R)=w y (D R)from rfl,h1];rcases List.mem_cons.1 h with rfl|h
  ·have:=ase r r (D R) cs;omega
  ·rw[agy y (fun l=>ih h l) cs,azh];rfl
theorem D_sp{R:List Rw}{x:Rw}(h:Sp R x)(cs:List Nat):w x (D R) cs=0:=by
 induction h with
 |zero=>exact asf _ _ (fun _ _=>rfl)
 |add a x y hx _ ih=>
  have:=awf x y a 1 (D R) cs;rw[show(fun c=>a*x c+y c)=fun c=>a*x c+1*y c from funext fun c=>by omega,this,ih,az9 hx];omega
theorem axq{R:List Rw}{x:Rw}(h:Sp R x){Q:List Nat}(hd:D R Q≠0)(hz:∀q∈Q,x q=0)(k:Nat):x k=0:=by
 have h1:=D_sp h (k::Q);rw[w,asf _ Q hz]at h1;have h2:x k*D R Q=0:=by omega
 rcases Int.mul_eq_zero.1 h2 with h|h
 ·exact h
 ·exact absurd h hd
theorem adm(R:List Rw)(x:Rw){Q:List Nat}(hn:Q.Nodup)(k:Nat):D (x::R) (k::Q)=D R Q*x k-sumL (fun p=>x p*D R (sub p k Q)) Q:=by
 rw[D,w,(adu R).expand x k hn]
 grind
theorem agi(R:List Rw){Q:List Nat}{k:Nat}(hk:k∈Q):D R (k::Q)=0:=(adu R).dup (fun hn=>(List.nodup_cons.1 hn).1 hk)
theorem axr(R:List Rw)(x:Rw){Q a b:List Nat}{c:Nat}(hQ:Q=a++b)(hn:(a++c::b).Nodup)(h1:D (x::R) (a++c::b)≠0){p:Nat}(hp:p∈Q)(k:Nat):
  D R Q*D (x::R) (sub p k (a++c::b))=D (x::R) (a++c::b)*D R (sub p k Q)-D R (sub p c Q)*D (x::R) (sub c k (a++c::b)):=by
 have hc:c∈a++c::b:=by simp
 have hp':p∈a++c::b:=by rw[hQ]at hp;simp at hp ⊢;rcases hp with h|h <;> simp[h]
 have hnQ:Q.Nodup:=by rw[hQ];exact hn.sublist (by simp)
 have hcQ:c∉Q:=by
  have h2:=List.nodup_append.1 hn;rw[hQ,List.mem_append,not_or];exact⟨fun h=>h2.2.2 c h c (by simp) rfl,(List.nodup_cons.1 h2.2.1).1⟩
 have hcp:c≠p:=fun e=>hcQ (e▸hp)
 have s1:=(afc (x::R) hn hp').smul (D R Q);have s2:=((afc R hnQ hp).mono (S:=x::R) (fun y hy=>by simp[hy]));have s3:=(afc (x::R) hn hc);have s4:=s2.lin s3 (-D (x::R) (a++c::b)) (D R (sub p c Q));have s5:=s1.lin s4 1 1;have key:=axq s5 h1 (fun q hq=>?_) k
 ·grind
 ·by_cases e1:q=p
  ·subst e1;rw[sub_self,sub_self,(adu (x::R)).dup (ael hc hp' (fun e=>hcp e.symm))]
   grind
  ·rw[(adu (x::R)).dup (ael hp' hq e1)];by_cases e2:q=c
   ·subst e2;rw[sub_self]
    grind
   ·have hqQ:q∈Q:=by
     rw[hQ];simp only[List.mem_append,List.mem_cons]at hq ⊢;rcases hq with h|h|h
     ·exact .inl h
     ·exact absurd h e2
     ·exact .inr h
    rw[(adu R).dup (ael hp hqQ e1),(adu (x::R)).dup (ael hc hq e2)]
    grind
theorem w_le{x:Rw}{g:List Nat->Int}{X G:Int}(N:Nat)(hX:0<=X)(hG:0<=G)(cs:List Nat)(hx:∀c∈cs,(x c).natAbs<=X)(hg:∀l,(∀c∈l,c∈cs)->(g l).natAbs<=G)(hN:cs.length<=N):((w x g cs).natAbs:Int)<=N*(X*G):=by
 have hXG:0<=X*G:=Int.mul_nonneg hX hG;induction cs generalizing g N with
 |nil=>simp[w];exact Int.mul_nonneg (by omega) hXG
 |cons c cs ih=>
  match N,hN with
  |N+1,hN=>
   have h1:=ih (g:=fun l=>g (c::l)) N (fun d hd=>hx d (by simp[hd])) (fun l hl=>hg (c::l) (fun d hd=>by
    rcases List.mem_cons.1 hd with rfl|h
    ·simp
    ·simp[hl d h])) (by simp at hN;omega)
   have h2:((x c*g cs).natAbs:Int)<=X*G:=by
    rw[Int.natAbs_mul,Int.natCast_mul];exact Int.mul_le_mul (hx c (by simp)) (hg cs (fun d hd=>by simp[hd])) (by omega) hX
   have h3:(((x c*g cs)-w x (fun l=>g (c::l)) cs).natAbs:Int)<=((x c*g cs).natAbs:Int)+((w x (fun l=>g (c::l)) cs).natAbs:Int):=by omega
   rw[w,Int.natCast_add,Int.add_mul];omega
end Md
namespace Md
structure Gat (cols:Nat) (R:List Rw) (Q:List Nat):Prop where
 desc:Q.Pairwise (· > ·)
 lt:∀q∈Q,q<cols
 ne:D R Q≠0
 led:∀p∈Q,∀k,k<p->D R (sub p k Q)=0
theorem anv(cols:Nat):Gat cols [] []:=⟨.nil,fun q hq=>(by cases hq),by decide,fun p hp=>(by cases hp)⟩
theorem abl{Q:List Nat}(h:Q.Pairwise (· > ·)):Q.Nodup:=h.imp (fun h=>by omega)
theorem Gat.not_mem{R:List Rw}{Q:List Nat}{x:Rw}{c:Nat}(h:D (x::R) (c::Q)≠0):c∉Q:=fun hc=>h (agi (x::R) hc)
theorem Gat.take{cols:Nat}{R:List Rw}{Q a b:List Nat}(G:Gat cols R Q){x:Rw}{c:Nat}(hc:c<cols)(h0:∀k,k<c->D (x::R) (k::Q)=0)(hne:D (x::R) (c::Q)≠0)(hQ:Q=a++b)(ha:∀x∈a,c<x)(hb:∀x∈b,x<c):
  Gat cols (x::R) (a++c::b)/\(∀k,D (x::R) (sub c k (a++c::b))=sgn a.length*D (x::R) (k::Q))/\D (x::R) (a++c::b)=sgn a.length*D (x::R) (c::Q)/\∀p∈Q,∀k,D R Q*D (x::R) (sub p k (a++c::b))=D (x::R) (a++c::b)*D R (sub p k Q)-D R (sub p c Q)*D (x::R) (sub c k (a++c::b)):=by
 have hd:(a++c::b).Pairwise (· > ·):=by
  have h1:=G.desc;rw[hQ,List.pairwise_append]at h1;rw[List.pairwise_append,List.pairwise_cons];refine⟨h1.1,⟨fun y hy=>hb y hy,h1.2.1⟩,fun u hu v hv=>?_⟩;rcases List.mem_cons.1 hv with rfl|hv
  ·exact ha u hu
  ·exact h1.2.2 u hu v hv
 have hn:=abl hd;have hca:c∉a:=fun h=>by have:=ha c h;omega
 have hcb:c∉b:=fun h=>by have:=hb c h;omega
 have hsub:∀k,sub c k (a++c::b)=a++k::b:=fun k=>by rw[ain,afx,if_pos rfl,afb hca,afb hcb]
 have hmove:∀k,D (x::R) (a++k::b)=sgn a.length*D (x::R) (k::Q):=fun k=>by
  rw[hQ,(adu (x::R)).move k a b,<-Int.mul_assoc,alw,Int.one_mul]
 have hne':D (x::R) (a++c::b)≠0:=by
  rw[hmove];intro e;rcases Int.mul_eq_zero.1 e with e|e
  ·have:=alw a.length;rw[e]at this;simp at this
  ·exact hne e
 have hstep:∀p∈Q,∀k,D R Q*D (x::R) (sub p k (a++c::b))=D (x::R) (a++c::b)*D R (sub p k Q)-D R (sub p c Q)*D (x::R) (sub c k (a++c::b)):=fun p hp k=>axr R x hQ hn hne' hp k
 have hz:∀k,k<c->D (x::R) (sub c k (a++c::b))=0:=fun k hk=>by rw[hsub,hmove,h0 k hk,Int.mul_zero]
 refine⟨⟨hd,fun q hq=>?_,hne',fun p hp k hk=>?_⟩,fun k=>by rw[hsub,hmove],hmove c,hstep⟩
 ·rcases List.mem_append.1 hq with h|h
  ·exact G.lt q (by rw[hQ];simp[h])
  ·rcases List.mem_cons.1 h with rfl|h
   ·exact hc
   ·exact G.lt q (by rw[hQ];simp[h])
 ·by_cases hpc:p=c
  ·subst hpc;exact hz k hk
  ·have hpQ:p∈Q:=by
    rw[hQ];rcases List.mem_append.1 hp with h|h
    ·simp[h]
    ·rcases List.mem_cons.1 h with h|h
     ·exact absurd h hpc
     ·simp[h]
   have h1:=hstep p hpQ k;rw[G.led p hpQ k hk]at h1;by_cases hcp:c<p
   ·rw[G.led p hpQ c hcp]at h1;have h2:D R Q*D (x::R) (sub p k (a++c::b))=0:=by rw[h1];simp
    rcases Int.mul_eq_zero.1 h2 with h|h
    ·exact absurd h G.ne
    ·exact h
   ·rw[hz k (by omega)]at h1;have h2:D R Q*D (x::R) (sub p k (a++c::b))=0:=by rw[h1];simp
    rcases Int.mul_eq_zero.1 h2 with h|h
    ·exact absurd h G.ne
    ·exact h
def RS(S:List Rw)(x:Rw):Prop:=∃a:Int,a≠0/\Sp S (fun c=>a*x c)
theorem RS.of{S:List Rw}{x:Rw}(h:Sp S x):RS S x:=⟨1,by decide,by simpa using h⟩
theorem RS.mem{S:List Rw}{x:Rw}(h:x∈S):RS S x:=.of (.mem h)
theorem a0a{R S:List Rw}(hs:∀y∈S,RS R y){x:Rw}(h:Sp S x):RS R x:=by
 induction h with
 |zero=>exact .of .zero
 |add a x y hx _ ih=>
  obtain⟨b,hb,h1⟩:=hs x hx;obtain⟨c,hc,h2⟩:=ih;refine⟨b*c,Int.mul_ne_zero hb hc,?_⟩;have:=h1.lin h2 (a*c) b;refine cast (congrArg (Sp R) (funext fun k=>?_)) this
  grind
theorem RS.trans{R S:List Rw}{x:Rw}(h:RS S x)(hs:∀y∈S,RS R y):RS R x:=by
 obtain⟨a,ha,h1⟩:=h;obtain⟨b,hb,h2⟩:=a0a hs h1;refine⟨b*a,Int.mul_ne_zero hb ha,?_⟩;refine cast (congrArg (Sp R) (funext fun k=>?_)) h2
 grind
theorem anw{R:List Rw}{Q:List Nat}(hn:Q.Nodup)(hd:D R Q≠0){x:Rw}(h:∀k,D (x::R) (k::Q)=0):RS R x:=by
 refine⟨D R Q,hd,?_⟩;have key:∀l:List Nat,(∀p∈l,p∈Q)->Sp R (fun k=>sumL (fun p=>x p*D R (sub p k Q)) l):=by
  intro l;induction l with
  |nil=>intro _;exact .zero
  |cons p l ih=>
   intro hl;have:=(afc R hn (hl p (by simp))).lin (ih (fun q hq=>hl q (by simp[hq]))) (x p) 1;refine cast (congrArg (Sp R) (funext fun k=>?_)) this;rw[sumL]
   grind
 have:=key Q (fun _ h=>h);refine cast (congrArg (Sp R) (funext fun k=>?_)) this;have h1:=adm R x hn k;rw[h k]at h1
 grind
theorem ajh{R:List Rw}{x:Rw}(h:RS R x)(cs:List Nat):D (x::R) cs=0:=by
 obtain⟨a,ha,h1⟩:=h;have h2:=D_sp h1 cs;have h3:=awf x x a 0 (D R) cs;rw[show(fun c=>a*x c+0*x c)=fun c=>a*x c from funext fun c=>by omega,h2]at h3;have h4:a*w x (D R) cs=0:=by omega
 rcases Int.mul_eq_zero.1 h4 with h|h
 ·exact absurd h ha
 ·exact h
structure EF (E:List (Nat×Rw)):Prop where
 asc:E.Pairwise (fun a b=>a.1<b.1)
 ne:∀e∈E,e.2 e.1≠0
 oth:∀e∈E,∀f∈E,e.1≠f.1->e.2 f.1=0
 led:∀e∈E,∀k,k<e.1->e.2 k=0
def rowsE(E:List (Nat×Rw)):List Rw:=E.map Prod.snd
def sumE(f:Nat->Int):List (Nat×Rw)->Nat->Int
 | [],_=>0
 |e::E,k=>f e.1*e.2 k+sumE f E k
theorem aio{f g:Nat->Int}: ∀ {E:List (Nat×Rw)},(∀e∈E,f e.1=g e.1)->∀k,sumE f E k=sumE g E k
 | [],_,_=>rfl
 |e::E,h,k=>by rw[sumE,sumE,h e (by simp),aio (fun x hx=>h x (by simp[hx]))]
theorem ahu{a:Int}{e:Nat×Rw}(f:Nat->Int):∀ {E:List (Nat×Rw)},E.Pairwise (fun a b=>a.1<b.1)->e∈E->∀k,sumE (fun p=>if p=e.1 then f p+a else f p) E k=sumE f E k+a*e.2 k
 |x::E,hp,he,k=>by
  obtain⟨h1,h2⟩:=List.pairwise_cons.1 hp;rw[sumE,sumE];rcases List.mem_cons.1 he with rfl|he
  ·have:sumE (fun p=>if p=e.1 then f p+a else f p) E k=sumE f E k:=aio (fun y hy=>if_neg (by have:=h1 y hy;omega)) k;rw[this,if_pos rfl]
   grind
  ·rw[ahu f h2 he k,if_neg (by have:=h1 e he;omega)];omega
theorem anx{E:List (Nat×Rw)}(hp:E.Pairwise (fun a b=>a.1<b.1)){y:Rw}(h:Sp (rowsE E) y):∃f,∀k,y k=sumE f E k:=by
 induction h with
 |zero=>
  refine⟨fun _=>0,fun k=>?_⟩;have:∀E:List (Nat×Rw),sumE (fun _=>0) E k=0:=by
   intro E;induction E with
   |nil=>rfl
   |cons e E ih=>rw[sumE,ih];simp
  rw[this]
 |add a x y hx _ ih=>
  obtain⟨e,he,rfl⟩:=List.mem_map.1 hx;obtain⟨f,hf⟩:=ih;exact⟨_,fun k=>by show a*e.2 k+y k=_;rw[ahu (a:=a) f hp he k,hf k];omega⟩
theorem aji{f:Nat->Int}{E:List (Nat×Rw)}{k:Nat}(h:∀e∈E,f e.1*e.2 k=0):sumE f E k=0:=by
 induction E with
 |nil=>rfl
 |cons e E ih=>rw[sumE,h e (by simp),ih (fun x hx=>h x (by simp[hx]))];rfl
theorem EF.pivot{E:List (Nat×Rw)}(hE:EF E)(f:Nat->Int){e:Nat×Rw}(he:e∈E):sumE f E e.1=f e.1*e.2 e.1:=by
 have h:=ahu (a:=-f e.1) f hE.asc he e.1;have h0:sumE (fun p=>if p=e.1 then f p+-f e.1 else f p) E e.1=0:=by
  apply aji;intro x hx;by_cases hxe:x.1=e.1
  ·show(if x.1=e.1 then f x.1+-f e.1 else f x.1)*x.2 e.1=0;rw[if_pos hxe,hxe,Int.add_right_neg,Int.zero_mul]
  ·rw[hE.oth x hx e he hxe,Int.mul_zero]
 rw[h0]at h
 grind
theorem EF.zero{E:List (Nat×Rw)}(hE:EF E){x:Rw}(h:RS (rowsE E) x)(hz:∀e∈E,x e.1=0)(k:Nat):x k=0:=by
 obtain⟨a,ha,h1⟩:=h;obtain⟨f,hf⟩:=anx hE.asc h1;have h2:a*x k=0:=by
  rw[hf k];apply aji;intro e he;have h3:=hf e.1;rw[hE.pivot f he,hz e he,Int.mul_zero]at h3;rcases Int.mul_eq_zero.1 h3.symm with h|h
  ·rw[h,Int.zero_mul]
  ·exact absurd h (hE.ne e he)
 rcases Int.mul_eq_zero.1 h2 with h|h
 ·exact absurd h ha
 ·exact h
theorem EF.first{E:List (Nat×Rw)}(hE:EF E){x:Rw}(h:RS (rowsE E) x){k:Nat}(hk:x k≠0)(hz:∀j,j<k->x j=0):∃e∈E,e.1=k:=by
 apply Classical.byContradiction;intro hno;obtain⟨a,ha,h1⟩:=h;obtain⟨f,hf⟩:=anx hE.asc h1;have h2:a*x k=0:=by
  rw[hf k];apply aji;intro e he;by_cases hlt:k<e.1
  ·rw[hE.led e he k hlt,Int.mul_zero]
  ·have hne:e.1≠k:=fun e'=>hno ⟨e,he,e'⟩
   have h3:=hf e.1;rw[hE.pivot f he,hz e.1 (by omega),Int.mul_zero]at h3;rcases Int.mul_eq_zero.1 h3.symm with h|h
   ·rw[h,Int.zero_mul]
   ·exact absurd h (hE.ne e he)
 rcases Int.mul_eq_zero.1 h2 with h|h
 ·exact ha h
 ·exact hk h
theorem anz:∀ {l m:List Nat},l.Pairwise (·<·)->m.Pairwise (·<·)->(∀x,x∈l↔x∈m)->l=m
 | [],[],_,_,_=>rfl
 | [],y::m,_,_,h=>by have:=(h y).2 (by simp);cases this
 |x::l,[],_,_,h=>by have:=(h x).1 (by simp);cases this
 |x::l,y::m,hl,hm,h=>by
  obtain⟨h1,h2⟩:=List.pairwise_cons.1 hl;obtain⟨h3,h4⟩:=List.pairwise_cons.1 hm;have hxy:x=y:=by
   rcases List.mem_cons.1 ((h x).1 (by simp))with e|e
   ·exact e
   ·rcases List.mem_cons.1 ((h y).2 (by simp))with e'|e'
    ·exact e'.symm
    ·have:=h1 y e';have:=h3 x e;omega
  subst hxy;rw[anz h2 h4 (fun z=>?_)];constructor
  ·intro hz;rcases List.mem_cons.1 ((h z).1 (by simp[hz]))with e|e
   ·subst e;have:=h1 z hz;omega
   ·exact e
  ·intro hz;rcases List.mem_cons.1 ((h z).2 (by simp[hz]))with e|e
   ·subst e;have:=h3 z hz;omega
   ·exact e
theorem an0{E F:List (Nat×Rw)}(hE:EF E)(hF:EF F)(h1:∀e∈E,RS (rowsE F) e.2)(h2:∀f∈F,RS (rowsE E) f.2):E.map Prod.fst=F.map Prod.fst/\∀e∈E,∀f∈F,e.1=f.1->∀k,f.2 f.1*e.2 k=e.2 e.1*f.2 k:=by
 have he:∀e∈E,∃f∈F,f.1=e.1:=fun e he=>hF.first (h1 e he) (hE.ne e he) (hE.led e he)
 have hf:∀f∈F,∃e∈E,e.1=f.1:=fun f hf=>hE.first (h2 f hf) (hF.ne f hf) (hF.led f hf)
 refine⟨anz (by rw[List.pairwise_map];exact hE.asc) (by rw[List.pairwise_map];exact hF.asc) (fun x=>?_),fun e hem f hfm hef k=>?_⟩
 ·simp only[List.mem_map];constructor
  ·rintro ⟨e,h,rfl⟩;obtain⟨f,h3,h4⟩:=he e h;exact⟨f,h3,h4⟩
  ·rintro ⟨f,h,rfl⟩;obtain⟨e,h3,h4⟩:=hf f h;exact⟨e,h3,h4⟩
 ·obtain⟨a,ha,h3⟩:=h1 e hem;have h4:RS (rowsE F) (fun c=>f.2 f.1*e.2 c-e.2 e.1*f.2 c):=by
   refine⟨a,ha,?_⟩;have:=h3.lin (Sp.mem (R:=rowsE F) (x:=f.2) (List.mem_map.2 ⟨f,hfm,rfl⟩)) (f.2 f.1) (-(a*e.2 e.1));refine cast (congrArg (Sp (rowsE F)) (funext fun c=>?_)) this
   grind
  have h5:f.2 f.1*e.2 k-e.2 e.1*f.2 k=0:=hF.zero h4 (fun g hg=>?_) k
  ·omega
  ·obtain⟨e',he',hg'⟩:=hf g hg;show f.2 f.1*e.2 g.1-e.2 e.1*f.2 g.1=0;by_cases hgf:g.1=f.1
   ·rw[hgf,hef,Int.mul_comm,Int.sub_self]
   ·rw[hF.oth f hfm g hg (fun h=>hgf h.symm),<-hg',hE.oth e hem e' he' (by omega)];omega
def efOf(R:List Rw)(Q:List Nat):List (Nat×Rw):=Q.reverse.map (fun p=>(p,fun k=>D R (sub p k Q)))
theorem Gat.ef{cols:Nat}{R:List Rw}{Q:List Nat}(G:Gat cols R Q):EF (efOf R Q):=by
 have hm:∀e,e∈efOf R Q->e.1∈Q/\e.2=fun k=>D R (sub e.1 k Q):=by
  intro e he;obtain⟨p,hp,rfl⟩:=List.mem_map.1 he;exact⟨List.mem_reverse.1 hp,rfl⟩
 refine⟨?_,fun e he=>?_,fun e he f hf hne=>?_,fun e he k hk=>?_⟩
 ·unfold efOf;rw[List.pairwise_map,List.pairwise_reverse];exact G.desc.imp (fun h=>h)
 ·obtain⟨h1,h2⟩:=hm e he;rw[h2];show D R (sub e.1 e.1 Q)≠0;rw[sub_self];exact G.ne
 ·obtain⟨h1,h2⟩:=hm e he;obtain⟨h3,_⟩:=hm f hf;rw[h2];exact(adu R).dup (ael h1 h3 (fun h=>hne h.symm))
 ·obtain⟨h1,h2⟩:=hm e he;rw[h2];exact G.led e.1 h1 k hk
theorem Gat.ef_in{cols:Nat}{R:List Rw}{Q:List Nat}(G:Gat cols R Q):∀e∈efOf R Q,Sp R e.2:=by
 intro e he;obtain⟨p,hp,rfl⟩:=List.mem_map.1 he;exact afc R (abl G.desc) (List.mem_reverse.1 hp)
theorem Gat.in_ef{cols:Nat}{R:List Rw}{Q:List Nat}(G:Gat cols R Q){x:Rw}(h:RS R x):RS (rowsE (efOf R Q)) x:=by
 refine⟨D R Q,G.ne,?_⟩;have key:∀l:List Nat,(∀p∈l,p∈Q)->Sp (rowsE (efOf R Q)) (fun k=>sumL (fun p=>x p*D R (sub p k Q)) l):=by
  intro l;induction l with
  |nil=>intro _;exact .zero
  |cons p l ih=>
   intro hl;have hp:(fun k=>D R (sub p k Q))∈rowsE (efOf R Q):=List.mem_map.2 ⟨(p,fun k=>D R (sub p k Q)),List.mem_map.2 ⟨p,List.mem_reverse.2 (hl p (by simp)),rfl⟩,rfl⟩;have:=(Sp.mem hp).lin (ih (fun q hq=>hl q (by simp[hq]))) (x p) 1;refine cast (congrArg (Sp _) (funext fun k=>?_)) this;rw[sumL]
   grind
 have:=key Q (fun _ h=>h);refine cast (congrArg (Sp _) (funext fun k=>?_)) this;have h1:=adm R x (abl G.desc) k;rw[ajh h]at h1
 grind
end Md
namespace Lm
open Go Go.RowKit
theorem afy{zs:List Int}: ∀z∈zs,gcdL zs ∣ z:=by
 have key:∀(l:List Int) (c:Int),l.foldl (fun c z=>((Int.gcd c z:Nat):Int)) c ∣ c/\∀z∈l,l.foldl (fun c z=>((Int.gcd c z:Nat):Int)) c ∣ z:=by
  intro l;induction l with
  |nil=>intro c;exact⟨Int.dvd_refl _,fun z hz=>by cases hz⟩
  |cons x l ih=>
   intro c;obtain⟨h1,h2⟩:=ih ((Int.gcd c x:Nat):Int);refine⟨Int.dvd_trans h1 (Int.gcd_dvd_left ..),fun z hz=>?_⟩;rcases List.mem_cons.1 hz with rfl|hz
   ·exact Int.dvd_trans h1 (Int.gcd_dvd_right ..)
   ·exact h2 z hz
 exact fun z hz=>(key zs 0).2 z hz
theorem ash{zs:List Int}(h:∀z∈zs,z=0):sgnL zs=0:=by
 have key:∀l:List Int,(∀z∈l,z=0)->l.foldl (fun s z=>if s=0 then Int.sign z else s) 0=0:=by
  intro l;induction l with
  |nil=>intro _;rfl
  |cons x l ih=>
   intro hl;rw[List.foldl_cons,hl x (by simp)];exact ih (fun z hz=>hl z (by simp[hz]))
 exact key zs h
theorem ag0{zs:List Int}: ∀z∈zs,dvs zs ∣ z:=by
 intro z hz;unfold dvs;split
 ·exact Int.neg_dvd.2 (afy z hz)
 ·exact afy z hz
theorem asi{zs:List Int}(h:∀z∈zs,z=0):gcdL zs=0:=by
 have key:∀l:List Int,(∀z∈l,z=0)->l.foldl (fun c z=>((Int.gcd c z:Nat):Int)) 0=0:=by
  intro l;induction l with
  |nil=>intro _;rfl
  |cons x l ih=>
   intro hl;rw[List.foldl_cons,hl x (by simp)];exact ih (fun z hz=>hl z (by simp[hz]))
 exact key zs h
theorem aip(k:Int)(zs:List Int):gcdL (zs.map (k*·))=(k.natAbs:Int)*gcdL zs:=by
 have key:∀(l:List Int) (c:Int),(l.map (k*·)).foldl (fun c z=>((Int.gcd c z:Nat):Int)) ((k.natAbs:Int)*c)=(k.natAbs:Int)*l.foldl (fun c z=>((Int.gcd c z:Nat):Int)) c:=by
  intro l;induction l with
  |nil=>intro c;rfl
  |cons z l ih=>
   intro c;rw[List.map_cons,List.foldl_cons,List.foldl_cons,<-ih];congr 1;rw[Int.gcd,Int.natAbs_mul,Int.natAbs_mul,Int.natAbs_natCast,Nat.gcd_mul_left,Int.gcd,Int.natCast_mul]
 have:=key zs 0;rwa[Int.mul_zero]at this
theorem apz(k:Int)(hk:k≠0)(zs:List Int):sgnL (zs.map (k*·))=Int.sign k*sgnL zs:=by
 have hs:Int.sign k≠0:=fun h=>hk (Int.sign_eq_zero_iff_zero.1 h)
 have key:∀(l:List Int) (s:Int),(l.map (k*·)).foldl (fun s z=>if s=0 then Int.sign z else s) (Int.sign k*s)=Int.sign k*l.foldl (fun s z=>if s=0 then Int.sign z else s) s:=by
  intro l;induction l with
  |nil=>intro s;rfl
  |cons z l ih=>
   intro s;rw[List.map_cons,List.foldl_cons,List.foldl_cons,<-ih];congr 1;by_cases h:s=0
   ·rw[if_pos h,if_pos (by rw[h,Int.mul_zero]),Int.sign_mul]
   ·rw[if_neg h,if_neg (fun e=>(Int.mul_eq_zero.1 e).elim hs h)]
 have:=key zs 0;rwa[Int.mul_zero]at this
theorem asj{zs:List Int}(h:sgnL zs=0):∀z∈zs,z=0:=by
 have stay:∀(l:List Int) (s:Int),s≠0->l.foldl (fun s z=>if s=0 then Int.sign z else s) s=s:=by
  intro l;induction l with
  |nil=>intro s _;rfl
  |cons z l ih=>intro s hs;rw[List.foldl_cons,if_neg hs];exact ih s hs
 induction zs with
 |nil=>simp
 |cons z l ih=>
  unfold sgnL at h;rw[List.foldl_cons,if_pos rfl]at h;by_cases hz:Int.sign z=0
  ·rw[hz]at h;intro y hy;rcases List.mem_cons.1 hy with rfl|hy
   ·exact Int.sign_eq_zero_iff_zero.1 hz
   ·exact ih h y hy
  ·rw[stay l _ hz]at h;exact absurd h hz
theorem asl(k:Int)(hk:k≠0)(zs:List Int):dvs (zs.map (k*·))=k*dvs zs:=by
 unfold dvs;rw[aip,apz k hk];by_cases h0:sgnL zs=0
 ·rw[h0,asi (asj h0)];simp
 ·rcases Int.lt_or_gt_of_ne hk with hk'|hk'
  ·rw[Int.sign_eq_neg_one_of_neg hk',show(k.natAbs:Int) = -k by omega];by_cases h1:sgnL zs<0
   ·rw[if_neg (by omega),if_pos h1,Int.neg_mul,Int.mul_neg]
   ·rw[if_pos (by omega),if_neg h1,Int.neg_mul,Int.neg_neg]
  ·rw[Int.sign_eq_one_of_pos hk',show(k.natAbs:Int)=k by omega,Int.one_mul];split
   ·rw[Int.mul_neg]
   ·rfl
theorem ad2(k:Int)(hk:k≠0)(zs:List Int):red (zs.map (k*·))=red zs:=by
 unfold red;rw[asl k hk,List.map_map];refine List.map_congr_left fun z hz=>?_
 show k*z/(k*dvs zs)=z/dvs zs;obtain⟨q,hq⟩:=ag0 z hz;by_cases hd:dvs zs=0
 ·rw[hd,Int.mul_zero,Int.ediv_zero,Int.ediv_zero]
 ·have h1:z/dvs zs=q:=by rw[hq];exact Int.mul_ediv_cancel_left q hd
  have h2:k*z=k*dvs zs*q:=by rw[Int.mul_assoc,<-hq]
  rw[h1,h2];exact Int.mul_ediv_cancel_left q (fun e=>(Int.mul_eq_zero.1 e).elim hk hd)
theorem azj{zs:List Int}{N:Int}(h:∀z∈zs,(z.natAbs:Int)<N)(hN:0<N):∀z∈red zs,(z.natAbs:Int)<N:=by
 intro z hz;obtain⟨x,hx,rfl⟩:=List.mem_map.1 hz;obtain⟨q,hq⟩:=ag0 x hx;by_cases h0:dvs zs=0
 ·rw[h0,Int.ediv_zero];exact hN
 ·have h4:x/dvs zs=q:=by
   conv=>lhs;rw[hq]
   exact Int.mul_ediv_cancel_left q h0
  rw[h4];have h5:q.natAbs<=x.natAbs:=by
   rw[hq,Int.natAbs_mul];exact Nat.le_mul_of_pos_left _ (by omega)
  have:=h x hx;omega
theorem limbsF(w:World)(z:Int)(L:Nat)(v:Value)(h:IsW z L v w)(hL:L<=400000):
  Calls Tryz.prog 59 #[v] w fun e w'=>∃m:Nat,e=.returned (.int .i64 (m:Int))/\(m<=32↔(z.natAbs:Int)<pw 32)/\Below w.heap.size w w':=by
 obtain⟨ng,ao,n,cap,xs,rfl,hA,hl⟩:=h;obtain⟨m,hm⟩:=aur hA;have hv:val xs=(z.natAbs:Int):=by
  obtain⟨_,_,_,_,_,hb,_⟩:=hA.sl;have h1:=aac hb;have h4:=hA.worth;rw[<-h4];cases ng
  ·simp only[sg];rw[if_neg (by decide)];omega
  ·simp only[sg];rw[if_pos trivial];omega
 refine(apj w ng ao n cap xs hA.sl (by omega) m (by rw[hv];exact hm)).mono ?_;rintro e w' ⟨rfl,hb⟩;refine⟨m,rfl,?_,hb⟩;obtain⟨rs,hc,hv',rfl⟩:=hm;constructor
 ·intro h;have h1:=(aac hc.1).2;have h2:=aaw h;omega
 ·intro h;exact aay hc (by rw[hv'];exact h)
theorem IsRow.wide{w:World}{v:Value}{zs:List Int}{L L':Nat}(h:IsRow w v zs L)(hl:L<=L'):IsRow w v zs L':=by
 obtain⟨es,h1,h2,h3⟩:=h;exact⟨es,h1,h2,fun e he=>Nat.le_trans (h3 e he) hl⟩
def Asks(w:World)(f:FuncId)(cap:Array Value)(zs:List Int)(L:Nat)(p:Int->Bool):Prop:=∀(W:World) (z:Int) (xv:Value),Below w.heap.size w W->z∈zs->IsW z L xv W->Calls Tryz.prog f (#[xv]++cap) W fun e W'=>e=.returned (.bool (p z))/\Below W.heap.size W W'
def AsksR(w:World)(f:FuncId)(cap:Array Value)(rows:List (List Int))(L:Nat)(p:List Int->Bool):Prop:=∀(W:World) (z:List Int) (xv:Value),Below w.heap.size w W->z∈rows->IsRow W xv z L->Calls Tryz.prog f (#[xv]++cap) W fun e W'=>e=.returned (.bool (p z))/\Below W.heap.size W W'
theorem alx{α:Type}{p:α->Bool}{zs:List α}{k:Nat}{z:α}(h:zs[k]? = some z)(h1:(zs.take k).any p=false)(h2:p z=false):(zs.take (k+1)).any p=false:=by
 rw[List.take_add_one,h,List.any_append,h1];simp[h2]
theorem ap0(w:World)(v:Value)(zs:List Int)(L:Nat)(h:IsRow w v zs L)(f:FuncId)(hf:Has Tryz.prog f)(cap:Array Value)(p:Int->Bool)(hA:Asks w f cap zs L p):
  Calls Tryz.prog 75 #[v,.func (.func f) #[] cap] w fun e w'=>(∃r:Int,e=.returned (.int .i64 r)/\decide (0<=r)=zs.any p)/\Below w.heap.size w w':=by
 obtain⟨ao,cp,rfl,hn⟩:=h.parts;have H:=hide h;have HA:=hide hA;clear h hA;obtain⟨n,hnn⟩:∃n,zs.length=n:=⟨_,rfl⟩;rw[hnn]at H hn ⊢;have HN:=hide hnn;clear hnn;go_enter Tryz.func75,Tryz.ntmps75
 go_wp2;go_loopw [5,8] (fun _ iv wr=>∃(k:Nat),iv=.int .i64 k/\k<=n/\(zs.take k).any p=false/\Below w.heap.size w wr) (fun _ iv _=>n-(intOf iv).toNat)
 case atStart=>exact⟨0,rfl,Nat.zero_le _,by simp,Below.refl _ _⟩
 case round=>
  obtain⟨k,rfl,hk,hany,hbw⟩:=hrel;have HW:=hide hbw;have HY:=hide hany;by_cases hlt:k<n
  ·obtain⟨z,hz⟩:∃z,zs[k]? = some z:=⟨_,List.getElem?_eq_getElem (by have:=HN.out;omega)⟩;obtain⟨b,off,ngx,ax,mx,cx,rfl,hbl,x0,x1,hx⟩:=H.out.cell hz;replace x0:=(hbw.cell (p:=⟨b,off+k*2,none⟩) hbl).trans x0;replace x1:=(hbw.cell (p:=⟨b,off+k*2+1,none⟩) hbl).trans x1;have hlt':(k:Int)<(n:Int):=by omega
   have KC:=hide (HA.out wr z (.agg #[.bool ngx,.slice ax mx cx]) hbw (List.mem_of_getElem? hz) (hx.ru (Ru.of_below hbw)));have HZ:=hide hz;clear hbw hany hx hz;have hE:∀args w,(callFunc f args).run Tryz.prog w=.ok (.enter f args) w:=fun args w=>hf.enter args w
   go_wp2_with fail
   refine KC.out.mono ?_;rintro e w3 ⟨rfl,hb3⟩;have HB3:=hide (HW.out.trans (hb3.mono HW.out.size));clear hb3 KC hE x0 x1;obtain⟨pz,hpz⟩:∃b,p z=b:=⟨_,rfl⟩;rw[hpz];have HPZ:=hide hpz;clear hpz;cases pz with
   |true=>
    go_wp2;go_ret;exact⟨⟨k,rfl,by rw[decide_eq_true (by omega),eq_comm,List.any_eq_true];exact⟨z,List.mem_of_getElem? HZ.out,HPZ.out⟩⟩,HB3.out⟩
   |false=>
    go_wp2;go_roundw
    case rel=>exact⟨k+1,by go_num,by omega,alx HZ.out HY.out HPZ.out,HB3.out⟩
    case measure=>simp[intOf];omega
  ·have hlt':decide ((k:Int)<(n:Int))=false:=by simp;omega
   clear hbw hany;go_wp2;go_ret;refine⟨⟨-1,rfl,?_⟩,HW.out⟩;have:=HY.out;rw[List.take_of_length_le (by have:=HN.out;omega)]at this;rw[this];rfl
theorem af5(w:World)(v:Value)(zs:List Int)(L:Nat)(h:IsRow w v zs L)(f:FuncId)(hf:Has Tryz.prog f)(cap:Array Value)(p:Int->Bool)(hA:Asks w f cap zs L p):
  Calls Tryz.prog 37 #[v,.func (.func f) #[] cap] w fun e w'=>e=.returned (.bool (zs.any p))/\Below w.heap.size w w':=by
 have K:=hide (ap0 w v zs L h f hf cap p hA);obtain⟨ao,cp,rfl,hn⟩:=h.parts;clear h hA;go_enter Tryz.func37,Tryz.ntmps37
 go_wp2_with fail
 refine K.out.mono ?_;rintro e w1 ⟨⟨r,rfl,hr⟩,hb⟩;have HB:=hide hb;have HR:=hide hr;clear hb K hr;go_wp2;refine bodyPost_ret (v:=_) (by simp[results,Tryz.results37,go_sem];try rfl) rfl ⟨by rw[<-HR.out],HB.out⟩
theorem ap1(w:World)(v:Value)(rows:List (List Int))(L:Nat)(h:IsM w v rows L)(f:FuncId)(hf:Has Tryz.prog f)(cap:Array Value)(p:List Int->Bool)(hA:AsksR w f cap rows L p):
  Calls Tryz.prog 88 #[v,.func (.func f) #[] cap] w fun e w'=>(∃r:Int,e=.returned (.int .i64 r)/\decide (0<=r)=rows.any p)/\Below w.heap.size w w':=by
 obtain⟨ao,cp,rfl,hn⟩:=h.parts;have H:=hide h;have HA:=hide hA;clear h hA;obtain⟨n,hnn⟩:∃n,rows.length=n:=⟨_,rfl⟩;rw[hnn]at H hn ⊢;have HN:=hide hnn;clear hnn;go_enter Tryz.func88,Tryz.ntmps88
 go_wp2;go_loopw [5,8] (fun _ iv wr=>∃(k:Nat),iv=.int .i64 k/\k<=n/\(rows.take k).any p=false/\Below w.heap.size w wr) (fun _ iv _=>n-(intOf iv).toNat)
 case atStart=>exact⟨0,rfl,Nat.zero_le _,by simp,Below.refl _ _⟩
 case round=>
  obtain⟨k,rfl,hk,hany,hbw⟩:=hrel;have HW:=hide hbw;have HY:=hide hany;by_cases hlt:k<n
  ·obtain⟨z,hz⟩:∃z,rows[k]? = some z:=⟨_,List.getElem?_eq_getElem (by have:=HN.out;omega)⟩;obtain⟨b,off,u,rfl,hbl,x0,hx⟩:=H.out.cell hz;replace x0:=(hbw.cell (p:=⟨b,off+k,none⟩) hbl).trans x0;have hlt':(k:Int)<(n:Int):=by omega
   have KC:=hide (HA.out wr z u hbw (List.mem_of_getElem? hz) (hx.below hbw));obtain⟨ua,uc,rfl,_⟩:=hx.parts;have HZ:=hide hz;clear hbw hany hx hz;have hE:∀args w,(callFunc f args).run Tryz.prog w=.ok (.enter f args) w:=fun args w=>hf.enter args w
   go_wp2_with fail
   refine KC.out.mono ?_;rintro e w3 ⟨rfl,hb3⟩;have HB3:=hide (HW.out.trans (hb3.mono HW.out.size));clear hb3 KC hE x0;obtain⟨pz,hpz⟩:∃b,p z=b:=⟨_,rfl⟩;rw[hpz];have HPZ:=hide hpz;clear hpz;cases pz with
   |true=>
    go_wp2;go_ret;exact⟨⟨k,rfl,by rw[decide_eq_true (by omega),eq_comm,List.any_eq_true];exact⟨z,List.mem_of_getElem? HZ.out,HPZ.out⟩⟩,HB3.out⟩
   |false=>
    go_wp2;go_roundw
    case rel=>exact⟨k+1,by go_num,by omega,alx HZ.out HY.out HPZ.out,HB3.out⟩
    case measure=>simp[intOf];omega
  ·have hlt':decide ((k:Int)<(n:Int))=false:=by simp;omega
   clear hbw hany;go_wp2;go_ret;refine⟨⟨-1,rfl,?_⟩,HW.out⟩;have:=HY.out;rw[List.take_of_length_le (by have:=HN.out;omega)]at this;rw[this];rfl
theorem aks(w:World)(v:Value)(rows:List (List Int))(L:Nat)(h:IsM w v rows L)(f:FuncId)(hf:Has Tryz.prog f)(cap:Array Value)(p:List Int->Bool)(hA:AsksR w f cap rows L p):
  Calls Tryz.prog 51 #[v,.func (.func f) #[] cap] w fun e w'=>e=.returned (.bool (rows.any p))/\Below w.heap.size w w':=by
 have K:=hide (ap1 w v rows L h f hf cap p hA);obtain⟨ao,cp,rfl,hn⟩:=h.parts;clear h hA;go_enter Tryz.func51,Tryz.ntmps51
 go_wp2_with fail
 refine K.out.mono ?_;rintro e w1 ⟨⟨r,rfl,hr⟩,hb⟩;have HB:=hide hb;have HR:=hide hr;clear hb K hr;go_wp2;refine bodyPost_ret (v:=_) (by simp[results,Tryz.results51,go_sem];try rfl) rfl ⟨by rw[<-HR.out],HB.out⟩
theorem asm:Has Tryz.prog 98:=by unfold Has;kernel_rfl
theorem asn:Has Tryz.prog 59:=by unfold Has;kernel_rfl
def big(z:Int):Bool:=decide (¬(z.natAbs:Int)<pw 32)
theorem aso(W:World)(z:Int)(L:Nat)(xv:Value)(g:Nat)(T:TypeId)(hg:W.heap[g]? = some (.cells #[.func (.func 59) #[] #[]] T (0,0)))(hx:IsW z L xv W)(hL:L<=400000):
  Calls Tryz.prog 98 #[xv,.pointer (some ⟨g,0,none⟩)] W fun e W'=>e=.returned (.bool (big z))/\Below W.heap.size W W':=by
 obtain⟨ng,ao,n,cap,xs,rfl,_⟩:=id hx;have hb:=hAl W (.cells #[.bool ng,.slice ao n cap] 60);obtain⟨hgl,c0,_⟩:=aav hg;replace c0:=(hb.cell (p:=⟨g,0,none⟩) hgl).trans c0;have K:=hide (limbsF _ z L _ (hx.ru (Ru.of_below hb)) hL);have hE:∀args w,(callFunc 59 args).run Tryz.prog w=.ok (.enter 59 args) w:=fun args w=>asn.enter args w
 clear hx hg;go_enter Tryz.func98,Tryz.ntmps98
 go_wp2_with fail
 refine K.out.mono ?_;rintro e w1 ⟨m,rfl,hm,hb1⟩;have HB:=hide (hb.trans (hb1.mono hb.size));have hbg:decide ((m:Int) > 32)=big z:=by
  unfold big;by_cases h:m<=32
  ·rw[decide_eq_false (by omega),decide_eq_false (not_not_intro (hm.1 h))]
  ·rw[decide_eq_true (by omega),decide_eq_true (p:=¬(z.natAbs:Int)<pw 32) (fun e=>h (hm.2 e))]
 clear hb hb1 K hm;go_wp2;refine bodyPost_ret (v:=_) (by simp[results,Tryz.results98,go_sem];try rfl) rfl ⟨by rw[<-hbg],HB.out⟩
theorem aly(w:World)(v:Value)(zs:List Int)(L:Nat)(h:IsRow w v zs L)(hL:L<=400000):
  Calls Tryz.prog 58 #[v,.func (.func 59) #[] #[]] w fun e w'=>e=.returned (.bool (zs.any big))/\Below w.heap.size w w':=by
 obtain⟨ao,cp,rfl,hn⟩:=h.parts;have key:∀T:TypeId,Hid (Calls Tryz.prog 37 #[.slice ao zs.length cp,.func (.func 98) #[] #[.pointer (some ⟨w.heap.size,0,none⟩)]] (w.alloc (.cells #[.func (.func 59) #[] #[]] T)) fun e w'=>e=.returned (.bool (zs.any big))/\Below w.heap.size w w'):=fun T=>by
  have hb:=hAl w (.cells #[.func (.func 59) #[] #[]] T);have hnew:=heap_alloc_new w (.cells #[.func (.func 59) #[] #[]] T);refine(af5 _ _ zs L (h.below hb) _ asm _ big (fun W z xv hbW hz hx=>?_)).mono ?_
  ·exact aso W z L xv w.heap.size T ((hbW.block _ (aaa hnew)).trans hnew) hx hL
  ·rintro e w' ⟨rfl,hb'⟩;exact⟨rfl,hb.trans (hb'.mono hb.size)⟩
 clear h;have hmf:∀(fn:Fn) (first cap:Array Value) (w:World),(Instr.makeFunc fn first cap).run Tryz.prog w=.ok (.func fn first cap) w:=fun _ _ _ _=>rfl
 go_enter Tryz.func58,Tryz.ntmps58
 go_wp2_with fail
 refine(key _).out.mono ?_;rintro e w1 ⟨rfl,hb⟩;have HB:=hide hb;clear hb key;go_wp2;refine bodyPost_ret (v:=_) (by simp[results,Tryz.results58,go_sem];try rfl) rfl ⟨rfl,HB.out⟩
theorem am8:Has Tryz.prog 50:=by unfold Has;kernel_rfl
theorem am9(W:World)(z:List Int)(L:Nat)(xv:Value)(g:Nat)(cols:Int)(hg:W.heap[g]? = some (.cells #[.int .i64 cols] 3 (0,0)))(hx:IsRow W xv z L):
  Calls Tryz.prog 50 #[xv,.pointer (some ⟨g,0,none⟩)] W fun e W'=>e=.returned (.bool (decide ((z.length:Int)≠cols)))/\Below W.heap.size W W':=by
 obtain⟨ua,uc,rfl,hn⟩:=hx.parts;obtain⟨hgl,c0,_⟩:=aav hg;clear hx hg;go_enter Tryz.func50,Tryz.ntmps50
 go_wp2;refine bodyPost_ret (v:=_) (by simp[results,Tryz.results50,go_sem];try rfl) rfl ⟨by congr 2;rw[bne];by_cases h:(z.length:Int)=cols <;> simp[h],Below.refl _ _⟩
theorem wofF(w:World)(v:Int)(h1 : -9223372036854775808<=v)(h2:v<=9223372036854775807):
  Calls Tryz.prog 52 #[.int .i64 v] w fun e w'=>∃r,e=.returned r/\FrW w.heap.size v 2 r w'/\Below w.heap.size w w':=by
 have hb0:=hAl w (.cells #[.bool false,.slice none 0 0] 60);have hn0:=heap_alloc_new w (.cells #[.bool false,.slice none 0 0] 60);obtain⟨w0,e0⟩:∃w0,w.alloc (.cells #[.bool false,.slice none 0 0] 60)=w0:=⟨_,rfl⟩;rw[e0]at hb0 hn0;have key:∀(ng:Bool) (x:Int),0<=x->x<18446744073709551616->sg ng x=v->Hid (Calls Tryz.prog 90 #[.int .u64 x] w0 fun e w1=>∃ao cap n,e=.returned (.slice ao n cap)/\Hid (Calls Tryz.prog 89 #[.bool ng,.slice ao n cap] w1 fun e w2=>∃ng2,e=.returned (.agg #[.bool ng2,.slice ao n cap])/\FrW w.heap.size v 2 (.agg #[.bool ng2,.slice ao n cap]) w2/\Below w.heap.size w w2/\w2.heap[w.heap.size]? = some (.cells #[.bool false,.slice none 0 0] 60 (0,0)))):=fun ng x hx0 hx1 hs=>by
  refine(ab4 w0 x hx0 hx1).mono ?_;rintro e w1 ⟨v1,rfl,hi1,hb1⟩;obtain⟨ao,cap,rs,rfl,hf⟩:=hi1.fr;obtain⟨_,_,_,e2,G1,l1⟩:=aj1 hi1 hx1;have e2':=e2;rw[Value.slice.injEq]at e2';obtain⟨rfl,e3,rfl⟩:=e2';obtain⟨ow1,cn1,vl1,ls1⟩:=hf;refine⟨ao,cap,rs.length,rfl,(abw _ ng _ _ rs x ⟨ow1.sl,cn1,vl1⟩ (by omega)).mono ?_⟩;rintro e w2 ⟨ng2,rfl,G2,hb2⟩;have hb3:=hb0.trans ((hb1.trans (hb2.mono hb1.size)).mono hb0.size);rw[hs]at G2;refine⟨ng2,rfl,(FrW.of_li (T:=w1.heap.size) G2 ⟨ow1.below hb2,ls1⟩ hb2.size (by omega)).low hb0.size,hb3,?_⟩;exact((hb1.trans (hb2.mono hb1.size)).block _ (aaa hn0)).trans hn0
 have E0:=hide e0;have fin:∀(w2:World) (ng2:Bool) (ao:Option Addr) (n cap:Nat),FrW w.heap.size v 2 (.agg #[.bool ng2,.slice ao n cap]) w2->Below w.heap.size w w2->w2.heap[w.heap.size]? = some (.cells #[.bool false,.slice none 0 0] 60 (0,0))->Hid ((loadVar 60 ⟨w.heap.size,0,none⟩).run Tryz.prog ((w2.setCell ⟨w.heap.size,0,none⟩ (.bool ng2)).setCell ⟨w.heap.size,1,none⟩ (.slice ao n cap))=.ok (.agg #[.bool ng2,.slice ao n cap]) ((w2.setCell ⟨w.heap.size,0,none⟩ (.bool ng2)).setCell ⟨w.heap.size,1,none⟩ (.slice ao n cap))/\FrW w.heap.size v 2 (.agg #[.bool ng2,.slice ao n cap]) ((w2.setCell ⟨w.heap.size,0,none⟩ (.bool ng2)).setCell ⟨w.heap.size,1,none⟩ (.slice ao n cap))/\Below w.heap.size w ((w2.setCell ⟨w.heap.size,0,none⟩ (.bool ng2)).setCell ⟨w.heap.size,1,none⟩ (.slice ao n cap))):=fun w2 ng2 ao n cap hF hB hN=>
  ⟨lvw2 (acf hN _ _),hF.ru (ads hN _ _),(hB.setCell (Nat.le_refl _) _).setCell (Nat.le_refl _) _⟩
 clear hb0 hn0 e0;by_cases h0:v<0
 ·have hw:IntKind.u64.wrap (-IntKind.u64.wrap v) = -v:=by rw[IntKind.wrap_u64,IntKind.wrap_u64];omega
  have K1:=key true (-v) (by omega) (by omega) (by simp[sg]);clear key;go_enter Tryz.func52,Tryz.ntmps52
  go_wp2_with fail
  rw[E0.out];refine K1.out.mono ?_;rintro e w1 ⟨ao,cap,n,rfl,K2⟩;clear K1;go_wp2_with fail
  refine K2.out.mono ?_;rintro e w2 ⟨ng2,rfl,hF,hB,hN⟩;obtain⟨hl2,y0,y1,yf0,yf1⟩:=aan hN;have X:=fin w2 ng2 ao n cap hF hB hN;clear hF hB hN K2 fin;go_wp2;exact bodyPost_ret (v:=.agg #[.bool ng2,.slice ao n cap]) (acc (g:=w.heap.size) rfl rfl X.out.1) rfl ⟨_,rfl,X.out.2.1,X.out.2.2⟩
 ·have K1:=key false v (by omega) (by omega) (by simp[sg]);clear key;go_enter Tryz.func52,Tryz.ntmps52
  go_wp2_with fail
  rw[E0.out];refine K1.out.mono ?_;rintro e w1 ⟨ao,cap,n,rfl,K2⟩;clear K1;go_wp2_with fail
  refine K2.out.mono ?_;rintro e w2 ⟨ng2,rfl,hF,hB,hN⟩;obtain⟨hl2,y0,y1,yf0,yf1⟩:=aan hN;have X:=fin w2 ng2 ao n cap hF hB hN;clear hF hB hN K2 fin;go_wp2;exact bodyPost_ret (v:=.agg #[.bool ng2,.slice ao n cap]) (acc (g:=w.heap.size) rfl rfl X.out.1) rfl ⟨_,rfl,X.out.2.1,X.out.2.2⟩
end Lm
namespace Lm
open Go Go.RowKit
open Dm (WFr)
def CanRow(w:World)(v:Value)(zs:List Int)(L:Nat):Prop:=∃es:List WE,Rw w v es/\es.length=zs.length/\∀(k:Nat) (e:WE) (z:Int),es[k]? = some e->zs[k]? = some z->Canon e.zs/\val e.zs=(z.natAbs:Int)/\e.ng=decide (z<0)/\e.zs.length<=L
theorem CanRow.below{w w':World}{v:Value}{zs:List Int}{L:Nat}(h:CanRow w v zs L)(hb:Below w.heap.size w w'):CanRow w' v zs L:=by
 obtain⟨es,h1,h2,h3⟩:=h;exact⟨es,h1.below hb,h2,h3⟩
theorem CanRow.is{w:World}{v:Value}{zs:List Int}{L:Nat}(h:CanRow w v zs L):IsRow w v zs L:=by
 obtain⟨es,h1,h2,h3⟩:=h;refine⟨es,h1,?_,?_⟩
 ·apply List.ext_getElem?;intro k;rw[List.getElem?_map];cases hk:es[k]? with
  |none=>
   rw[List.getElem?_eq_none_iff]at hk;rw[Option.map_none,eq_comm,List.getElem?_eq_none_iff];omega
  |some e=>
   have hkl:=(List.getElem?_eq_some_iff.1 hk).1;obtain⟨z,hz⟩:∃z,zs[k]? = some z:=⟨_,List.getElem?_eq_getElem (by omega)⟩;obtain⟨c1,c2,c3,_⟩:=h3 k e z hk hz;rw[hz,Option.map_some];congr 1;unfold WE.z sg;rw[c2,c3];by_cases hn:z<0
   ·rw[if_pos (decide_eq_true hn)];omega
   ·rw[if_neg (by simpa using hn)];omega
 ·intro e he;obtain⟨k,hk⟩:=List.mem_iff_getElem?.1 he;have hkl:=(List.getElem?_eq_some_iff.1 hk).1;obtain⟨z,hz⟩:∃z,zs[k]? = some z:=⟨_,List.getElem?_eq_getElem (by omega)⟩;exact(h3 k e z hk hz).2.2.2
theorem ORow.can{K:Nat}{w:World}{v:Value}{zs:List Int}{L:Nat}(h:ORow K w v zs L):CanRow w v zs L:=by
 obtain⟨bv,rfl,_,h,hl⟩:=h;obtain⟨es,B,T,e1,e2,e3,e4,e5⟩:=h;refine⟨es,⟨⟨_,_,by rw[e1],by omega,by omega,aax es,.inr ⟨bv,0,rfl,aaa e2,fun j u hu=>?_⟩⟩,?_⟩,e1,?_⟩
 ·rw[Nat.zero_add,cell_of_row _ _ _ _ _ (0,0) e2,List.getElem?_toArray];exact hu
 ·intro e he;obtain⟨k,hk⟩:=List.mem_iff_getElem?.1 he;have hkl:=(List.getElem?_eq_some_iff.1 hk).1;obtain⟨z,hz⟩:∃z,zs[k]? = some z:=⟨_,List.getElem?_eq_getElem (by omega)⟩;obtain⟨g1,g2,_⟩:=e4 k e z (by omega) hk hz;have:=g1.wh.sl;rwa[<-g2]at this
 ·intro k e z hk hz;have hkl:=(List.getElem?_eq_some_iff.1 hk).1;obtain⟨g1,g2,g3,_⟩:=e4 k e z (by omega) hk hz;exact⟨g1.fr.canon,g1.fr.val,g1.sgn,g3⟩
theorem ana(w:World)(v v':Value)(zs:List Int)(L M:Nat)(h:CanRow w v zs L)(h':CanRow w v' zs M):
  Calls Tryz.prog 31 #[v,v'] w fun e w'=>e=.returned (.bool true)/\Below w.heap.size w w':=by
 obtain⟨es,h1,h2,h3⟩:=h;obtain⟨fs,g1,g2,g3⟩:=h';obtain⟨a,c,rfl,_⟩:=id h1.cl;obtain⟨a',c',rfl,_⟩:=id g1.cl;refine ar2 w a _ c es h1 a' _ c' fs g1 ?_;unfold SameR;apply List.ext_getElem?;intro k;rw[List.getElem?_map,List.getElem?_map];cases hk:es[k]? with
 |none=>
  rw[List.getElem?_eq_none_iff]at hk;rw[(List.getElem?_eq_none_iff (l:=fs)).2 (by omega)]
 |some e=>
  have hkl:=(List.getElem?_eq_some_iff.1 hk).1;obtain⟨z,hz⟩:∃z,zs[k]? = some z:=⟨_,List.getElem?_eq_getElem (by omega)⟩;obtain⟨f,hf⟩:∃f,fs[k]? = some f:=⟨_,List.getElem?_eq_getElem (by omega)⟩;obtain⟨c1,c2,c3,_⟩:=h3 k e z hk hz;obtain⟨d1,d2,d3,_⟩:=g3 k f z hf hz;rw[hf,Option.map_some,Option.map_some,WE.raw,WE.raw,c3,d3,adx c1 d1 (c2.trans d2.symm)]
theorem abd{ops:Array Oper}{rest:List Oper}{o:Oper}{a:Act}{w:World}{Q:Exit->Act->World->Prop}{R:Value->World->Prop}(hg:o.guard=none)(h:Does Tryz.prog o a.eval w R)(hK:∀v w',R v w'->wpList Tryz.prog ops Q rest (a.put o.dst v) w'):wpList Tryz.prog ops Q (o::rest) a w:=by
 refine wpList_plain hg fun K hK'=>?_
 exact Does.wp h (fun v w' hr=>hK' _ _ (hK v w' hr))
theorem anb(w:World)(v:Int)(h1 : -9223372036854775808<=v)(h2:v<=9223372036854775807)(h0:v<0):
  Calls Tryz.prog 43 #[.int .i64 v] w fun e w'=>∃r,e=.returned r/\FrW w.heap.size v 2 r w'/\Below w.heap.size w w':=by
 obtain⟨i0,hi,hz0,hz1,hz2⟩:=info_parts abt;have hf0:=heap_alloc_new w (.cells #[.bool false,.slice none 0 0] 60);have hb0:=hAl w (.cells #[.bool false,.slice none 0 0] 60);generalize hE:w.alloc (.cells #[.bool false,.slice none 0 0] 60)=w0 at *
 have E0:=hide hE;have HF0:=hide hf0;have HB0:=hide hb0;clear hE hf0 hb0;have hw:IntKind.u64.wrap (-IntKind.u64.wrap v) = -v:=by rw[IntKind.wrap_u64,IntKind.wrap_u64];omega
 go_enter Tryz.func43,Tryz.ntmps43
 go_wp2;rw[E0.out];clear hw;go_loopw [3,4] (fun uv mv wr=>∃(u:Int) (ls:List Int),uv=.int .u64 u/\0<=u/\u<18446744073709551616/\Limb ls/\val ls+pw ls.length*u = -v/\(u=0->tl ls=ls.length)/\wr.ownsRow w0.heap.size 68 1 mv ls.length (ls.map (Value.int .u32))/\Below w0.heap.size w0 wr) (fun uv _ _=>(intOf uv).toNat)
 case atStart=>exact⟨-v,[],rfl,by omega,by omega,aad,by simp[val,pw],fun _=>rfl,World.ownsRow_nil _ _ _ _,Below.refl _ _⟩
 case round=>
  obtain⟨u,ls,rfl,hu0,hu1,hls,hv,htop,hown,hbel⟩:=hrel;have HL:=hide hls;have HV:=hide hv;have HT:=hide htop;clear hls hv htop;by_cases hu:0<u
  ·have hroom:=aqx HL.out hu (by rw[HV.out];omega);have HV':=hide (aqw HV.out);have HT':Hid (u/4294967296=0->tl (ls ++ [u%4294967296])=(ls ++ [u%4294967296]).length):=fun h=>av9 hu h
   go_wp2_with (at_builtin;refine wpList_append_own _ rfl (.tmp 13) (.tmp 16) 27 rfl w0.heap.size 68 i0 (.int .u32 0) 1 4 Tryz.underlying27 hi hz0 hz1 hz2 rfl (by decide) _ _ _ rfl (hown.alloc _) ⟨wr.heap.size,0,none⟩ 1 1 [.int .u32 (u%4294967296)] rfl rfl (cell_one_new _ _ _) ?c2 ?c3 ?c4 ?c5 ?_)
   case c2=>first|rfl|(intro x hx;simp at hx;subst hx;rfl)
   case c3=>unfold maxLen;omega
   case c4=>omega
   case c5=>have:=hbel.size;first|omega|(simp;omega)
   intro v4 w4 hown4 hgrow4 _;have R:=ak2 hown4 hgrow4 hbel hbel.size hown.lt;clear hown4 hgrow4 hown;go_wp2;go_roundw
   case rel=>exact⟨u/4294967296,ls ++ [u%4294967296],rfl,by omega,by omega,aah.2 ⟨HL.out,aaf.2 ⟨by omega,aad⟩⟩,HV'.out,HT'.out,by simpa using R.1,R.2⟩
   case measure=>simp[intOf];omega
  ·have hu':u=0:=by omega
   subst hu';have hval:val ls = -v:=by have:=HV.out;rwa[Int.mul_zero,Int.add_zero]at this
   have hcan:Canon ls:=⟨HL.out,HT.out rfl⟩;have hlen:ls.length<=2:=aay hcan (m:=2) (by rw[hval,show pw 2=18446744073709551616 from by decide];omega);have how:=abo hown HL.out;obtain⟨ao,cap,hmv,_⟩:=id how;subst hmv;have hfr:FrW w0.heap.size v 2 (.agg #[.bool true,.slice ao ls.length cap]) wr:=by
    refine⟨_,_,_,_,w0.heap.size,wr.heap.size,rfl,⟨⟨how,hcan,by rw[hval];omega,fun hc g off hg=>?_⟩,by simp;omega⟩,Nat.le_refl _,Nat.le_refl _,hlen⟩;subst hg;obtain⟨ao',cap',e1,_,_,_,e4⟩:=how;simp only[Value.slice.injEq]at e1;obtain⟨rfl,_,rfl⟩:=e1;rcases e4 with e4|⟨g',off',cur,e5,hB',hh,_⟩
    ·omega
    ·simp only[Option.some.injEq,Addr.mk.injEq]at e5;obtain⟨rfl,_,_⟩:=e5;exact⟨hB',aaa hh⟩
   have HFR:=hide (hfr.low HB0.out.size);have HFx:=hide ((hbel.block _ (aaa HF0.out)).trans HF0.out);have HBx:=hide (HB0.out.trans (hbel.mono HB0.out.size));obtain⟨hfl,c0,c1,fr0,fr1⟩:=aan HFx.out;have hd:decide (v<0)=true:=by simp;omega
   clear hval hown how hfr hbel hcan;go_wp2;exact bodyPost_ret (v:=.agg #[.bool true,.slice ao ls.length cap]) (acc (g:=w.heap.size) rfl rfl (lvw2 (acf HFx.out _ _))) rfl ⟨_,rfl,HFR.out.ru (ads HFx.out _ _),(HBx.out.setCell (Nat.le_refl _) _).setCell (Nat.le_refl _) _⟩
theorem anc(w:World)(v:Int)(h1 : -9223372036854775808<=v)(h2:v<=9223372036854775807)(h0:¬v<0):
  Calls Tryz.prog 43 #[.int .i64 v] w fun e w'=>∃r,e=.returned r/\FrW w.heap.size v 2 r w'/\Below w.heap.size w w':=by
 obtain⟨i0,hi,hz0,hz1,hz2⟩:=info_parts abt;have hf0:=heap_alloc_new w (.cells #[.bool false,.slice none 0 0] 60);have hb0:=hAl w (.cells #[.bool false,.slice none 0 0] 60);generalize hE:w.alloc (.cells #[.bool false,.slice none 0 0] 60)=w0 at *
 have E0:=hide hE;have HF0:=hide hf0;have HB0:=hide hb0;clear hE hf0 hb0;have hw:True:=trivial;go_enter Tryz.func43,Tryz.ntmps43
 go_wp2;rw[E0.out];clear hw;go_loopw [3,4] (fun uv mv wr=>∃(u:Int) (ls:List Int),uv=.int .u64 u/\0<=u/\u<18446744073709551616/\Limb ls/\val ls+pw ls.length*u=v/\(u=0->tl ls=ls.length)/\wr.ownsRow w0.heap.size 68 1 mv ls.length (ls.map (Value.int .u32))/\Below w0.heap.size w0 wr) (fun uv _ _=>(intOf uv).toNat)
 case atStart=>exact⟨v,[],rfl,by omega,by omega,aad,by simp[val,pw],fun _=>rfl,World.ownsRow_nil _ _ _ _,Below.refl _ _⟩
 case round=>
  obtain⟨u,ls,rfl,hu0,hu1,hls,hv,htop,hown,hbel⟩:=hrel;have HL:=hide hls;have HV:=hide hv;have HT:=hide htop;clear hls hv htop;by_cases hu:0<u
  ·have hroom:=aqx HL.out hu (by rw[HV.out];omega);have HV':=hide (aqw HV.out);have HT':Hid (u/4294967296=0->tl (ls ++ [u%4294967296])=(ls ++ [u%4294967296]).length):=fun h=>av9 hu h
   go_wp2_with (at_builtin;refine wpList_append_own _ rfl (.tmp 13) (.tmp 16) 27 rfl w0.heap.size 68 i0 (.int .u32 0) 1 4 Tryz.underlying27 hi hz0 hz1 hz2 rfl (by decide) _ _ _ rfl (hown.alloc _) ⟨wr.heap.size,0,none⟩ 1 1 [.int .u32 (u%4294967296)] rfl rfl (cell_one_new _ _ _) ?c2 ?c3 ?c4 ?c5 ?_)
   case c2=>first|rfl|(intro x hx;simp at hx;subst hx;rfl)
   case c3=>unfold maxLen;omega
   case c4=>omega
   case c5=>have:=hbel.size;first|omega|(simp;omega)
   intro v4 w4 hown4 hgrow4 _;have R:=ak2 hown4 hgrow4 hbel hbel.size hown.lt;clear hown4 hgrow4 hown;go_wp2;go_roundw
   case rel=>exact⟨u/4294967296,ls ++ [u%4294967296],rfl,by omega,by omega,aah.2 ⟨HL.out,aaf.2 ⟨by omega,aad⟩⟩,HV'.out,HT'.out,by simpa using R.1,R.2⟩
   case measure=>simp[intOf];omega
  ·have hu':u=0:=by omega
   subst hu';have hval:val ls=v:=by have:=HV.out;rwa[Int.mul_zero,Int.add_zero]at this
   have hcan:Canon ls:=⟨HL.out,HT.out rfl⟩;have hlen:ls.length<=2:=aay hcan (m:=2) (by rw[hval,show pw 2=18446744073709551616 from by decide];omega);have how:=abo hown HL.out;obtain⟨ao,cap,hmv,_⟩:=id how;subst hmv;have hfr:FrW w0.heap.size v 2 (.agg #[.bool false,.slice ao ls.length cap]) wr:=by
    refine⟨_,_,_,_,w0.heap.size,wr.heap.size,rfl,⟨⟨how,hcan,by rw[hval];omega,fun hc g off hg=>?_⟩,by simp;omega⟩,Nat.le_refl _,Nat.le_refl _,hlen⟩;subst hg;obtain⟨ao',cap',e1,_,_,_,e4⟩:=how;simp only[Value.slice.injEq]at e1;obtain⟨rfl,_,rfl⟩:=e1;rcases e4 with e4|⟨g',off',cur,e5,hB',hh,_⟩
    ·omega
    ·simp only[Option.some.injEq,Addr.mk.injEq]at e5;obtain⟨rfl,_,_⟩:=e5;exact⟨hB',aaa hh⟩
   have HFR:=hide (hfr.low HB0.out.size);have HFx:=hide ((hbel.block _ (aaa HF0.out)).trans HF0.out);have HBx:=hide (HB0.out.trans (hbel.mono HB0.out.size));obtain⟨hfl,c0,c1,fr0,fr1⟩:=aan HFx.out;have hd:decide (v<0)=false:=by simp;omega
   clear hval hown how hfr hbel hcan;go_wp2;exact bodyPost_ret (v:=.agg #[.bool false,.slice ao ls.length cap]) (acc (g:=w.heap.size) rfl rfl (lvw2 (acf HFx.out _ _))) rfl ⟨_,rfl,HFR.out.ru (ads HFx.out _ _),(HBx.out.setCell (Nat.le_refl _) _).setCell (Nat.le_refl _) _⟩
theorem au2(w:World)(v:Int)(h1 : -9223372036854775808<=v)(h2:v<=9223372036854775807):
  Calls Tryz.prog 43 #[.int .i64 v] w fun e w'=>∃r,e=.returned r/\FrW w.heap.size v 2 r w'/\Below w.heap.size w w':=by
 by_cases h0:v<0
 ·exact anb w v h1 h2 h0
 ·exact anc w v h1 h2 h0
theorem axs(w:World)(v:Value)(zs:List Int)(h:Nums w v zs)(hz:∀z∈zs,-9223372036854775808<=z/\z<=9223372036854775807)(hl:zs.length<=1000):
  Calls Tryz.prog 23 #[v] w fun e w'=>∃r,e=.returned r/\CanRow w' r zs 2/\Below w.heap.size w w':=by
 obtain⟨ao,cap,rfl,_⟩:=id h;have H:=hide h;have HZ:=hide hz;clear h hz;obtain⟨n,hn⟩:∃n,zs.length=n:=⟨_,rfl⟩;rw[hn]at H hl ⊢;have HN:=hide hn;clear hn;go_enter Tryz.func23,Tryz.ntmps23
 go_wp2_with fail
 go_loopw [3,4] (fun ov iv wr=>∃(k:Nat) (es:List WE),iv=.int .i64 k/\k<=n/\Below w.heap.size w wr/\es.length=k/\RwO w.heap.size wr ov es/\∀(j:Nat) (e:WE) (z:Int),es[j]? = some e->zs[j]? = some z->Canon e.zs/\val e.zs=(z.natAbs:Int)/\e.ng=decide (z<0)/\e.zs.length<=2) (fun _ iv _=>n-(intOf iv).toNat)
 case atStart=>exact⟨0,[],rfl,Nat.zero_le _,Below.refl _ _,rfl,ajf _ _,fun j e z he=>(by simp at he)⟩
 case round=>
  obtain⟨k,es,rfl,hk,hbw,hes,hown,hall⟩:=hrel;have HW:=hide hbw;have HES:=hide hes;have HOWN:=hide hown;have HALL:=hide hall;by_cases hlt:k<n
  ·obtain⟨b,off,rfl,hc⟩:=(show Nums wr (.slice ao n cap) zs from Ce.below H.out hbw).cell (i:=k) (by have:=HN.out;omega);have hget:zs[k]? = some (zs[k]'(by have:=HN.out;omega)):=List.getElem?_eq_getElem _;generalize zs[k]'(by have:=HN.out;omega)=z at hc hget;have HG:=hide hget;have hzb:=HZ.out z (List.mem_of_getElem? hget);have hlt':(k:Int)<(n:Int):=by omega
   obtain⟨aov,capv,hov,_⟩:=Cl.own hown.own;subst hov;clear hbw hes hown hall hget;go_wp2_with fail
   refine(au2 wr z hzb.1 hzb.2).mono ?_;rintro e w2 ⟨r2,rfl,hf2,hb2⟩;obtain⟨ng2,ao2,cap2,rs2,B2,T2,rfl,hwf,hB2,hT2,hl2⟩:=hf2;have hA:=hAl w2 (.cells #[.bool ng2,.slice ao2 rs2.length cap2] 60);have hb2':=hb2.trans (hA.mono hb2.size);have hR2:=HOWN.out.below hb2';have hO2:One _ w2.heap.size ng2 ao2 rs2.length cap2:=heap_alloc_new w2 (.cells #[.bool ng2,.slice ao2 rs2.length cap2] 60);have hS2:Ow w.heap.size _ (.slice ao2 rs2.length cap2) rs2:=(hwf.fr.ow.mono (Nat.le_trans HW.out.size hB2)).below hA;have hsz:w.heap.size<=(w2.alloc (.cells #[.bool ng2,.slice ao2 rs2.length cap2] 60)).heap.size:=Nat.le_trans HW.out.size hb2'.size;go_wp2_with (at_builtin;refine abd rfl (ans (i:=11) (j:=17) rfl rfl hR2 hO2 hS2 (by rw[HES.out];omega) hsz) ?_)
   intro v3 w3 hR3 hb3;obtain⟨aov3,capv3,hov3,_⟩:=Cl.own hR3.own;subst hov3;have HR3:=hide hR3;have HB3:=hide ((HW.out.trans (hb2'.mono HW.out.size)).trans hb3);have HWF:=hide hwf;clear hR3 hb3 hR2 hO2 hS2 hsz hA hb2 hb2' hwf hB2 hT2;go_wp2;go_roundw
   case rel=>
    refine⟨k+1,es ++ [⟨ng2,ao2,rs2.length,cap2,rs2⟩],by go_num,by omega,HB3.out,by simp[HES.out],HR3.out,fun j e y he hy=>?_⟩;by_cases hj:j<es.length
    ·rw[List.getElem?_append_left hj]at he;exact HALL.out j e y he hy
    ·have hjl:=(List.getElem?_eq_some_iff.1 he).1;simp at hjl;obtain rfl:j=es.length:=by omega
     rw[List.getElem?_append_right (Nat.le_refl _)]at he;simp at he;subst he;rw[HES.out,HG.out]at hy;obtain rfl:=Option.some.inj hy;exact⟨HWF.out.fr.canon,HWF.out.fr.val,HWF.out.sgn,hl2⟩
   case measure=>simp[intOf];omega
  ·have hlt':decide ((k:Int)<(n:Int))=false:=by simp;omega
   have hkn:k=n:=by omega
   subst hkn;clear hbw hes hown hall;go_wp2;refine bodyPost_ret (v:=_) (acd rfl rfl) rfl ⟨_,rfl,⟨es,HOWN.out.rw,by rw[HES.out,HN.out],HALL.out⟩,HW.out⟩
end Lm
namespace Lm
open Go Go.RowKit
theorem asp(w:World)(ax:Option Addr)(mx cx:Nat)(xs:List WE)(Rx:Rw w (.slice ax mx cx) xs)(ay:Option Addr)(my cy:Nat)(ys:List WE)(Ry:Rw w (.slice ay my cy) ys)(hS:SameR xs ys):
  Calls Tryz.prog 31 #[.slice ax mx cx,.slice ay my cy] w fun e w'=>e=.returned (.bool true)/\Below w.heap.size w w':=by
 obtain⟨rfl,hx2,hx3⟩:=Rx.parts;obtain⟨rfl,_,_⟩:=Ry.parts;have HX:=hide Rx;have HY:=hide Ry;have HS:=hide hS;have hlen:=hS.len;rw[<-hlen]at HY ⊢;obtain⟨n,hn⟩:∃n,xs.length=n:=⟨_,rfl⟩;rw[hn]at HX HY hx2 ⊢;have HNx:Hid (xs.length=n):=hn;have HNy:Hid (ys.length=n):=hlen.symm.trans hn;have hnn:((n:Int) != (n:Int))=false:=by simp
 clear Rx Ry hS hlen hn;go_enter Tryz.func31,Tryz.ntmps31
 go_wp2_with fail
 go_loopw [5] (fun iv wr=>∃k:Nat,iv=.int .i64 k/\k<=n/\Below w.heap.size w wr) (fun iv _=>n-(intOf iv).toNat)
 case atStart=>exact⟨0,rfl,Nat.zero_le _,Below.refl _ _⟩
 case round=>
  obtain⟨k,rfl,hk,hbw⟩:=hrel;have HW:=hide hbw;by_cases hlt:k<n
  ·have hlt':(k:Int)<(n:Int):=by omega
   obtain⟨ex,hex⟩:∃e,xs[k]? = some e:=⟨_,List.getElem?_eq_getElem (by have:=HNx.out;omega)⟩;obtain⟨bx,ox,hAx,hlx0,hcx⟩:=HX.out.cells (by have:=HNx.out;omega);subst hAx;have hlx:bx<wr.heap.size:=Nat.lt_of_lt_of_le hlx0 hbw.size;have x0:=(hbw.cell (p:=⟨bx,ox+k*2,none⟩) hlx0).trans (hcx _ _ (aau hex).1);have x1:wr.cell? ⟨bx,ox+k*2+1,none⟩=some (.slice ex.a ex.m ex.c):=(hbw.cell (p:=⟨bx,ox+k*2+1,none⟩) hlx0).trans (hcx _ _ (aau hex).2);obtain⟨ey,hey⟩:∃e,ys[k]? = some e:=⟨_,List.getElem?_eq_getElem (by have:=HNy.out;omega)⟩;obtain⟨by_,oy,hAy,hly0,hcy⟩:=HY.out.cells (by have:=HNy.out;omega);subst hAy;have hly:by_<wr.heap.size:=Nat.lt_of_lt_of_le hly0 hbw.size;have y0:=(hbw.cell (p:=⟨by_,oy+k*2,none⟩) hly0).trans (hcy _ _ (aau hey).1);have y1:wr.cell? ⟨by_,oy+k*2+1,none⟩=some (.slice ey.a ey.m ey.c):=(hbw.cell (p:=⟨by_,oy+k*2+1,none⟩) hly0).trans (hcy _ _ (aau hey).2);have S1:=(HX.out.sl ex (List.mem_of_getElem? hex)).below hbw;have S2:=(HY.out.sl ey (List.mem_of_getElem? hey)).below hbw;have hq:=HS.out.at hex hey;clear hbw hex hey hcx hcy;go_upto_region 6 with fail
   go_cut [26] (fun cv wx=>cv=.bool false/\Below wr.heap.size wr wx)
   case first=>
    refine ai9 [17,18,19,20,21,22,23,24,25,26] [Eqs (.slice (some ⟨bx,ox,none⟩) n cx),Eqs (.int .i64 (k:Int)),Eqs (.pointer (some ⟨bx,ox+k*2,none⟩)),Eqs (.agg #[.bool ex.ng,.slice ex.a ex.m ex.c]),Eqs (.slice (some ⟨by_,oy,none⟩) n cy),Eqs (.int .i64 (k:Int)),Eqs (.pointer (some ⟨by_,oy+k*2,none⟩)),Eqs (.agg #[.bool ey.ng,.slice ey.a ey.m ey.c]),Eqs (.bool true),Eqs (.bool false)] (by assumption) (by assumption) rfl (by decide) (by kernel_rfl) (by kernel_rfl) ⟨Eqs.mono _,Eqs.mono _,Eqs.mono _,Eqs.mono _,Eqs.mono _,Eqs.mono _,Eqs.mono _,Eqs.mono _,Eqs.mono _,Eqs.mono _,trivial⟩ ?_ ?_
    ·exact⟨⟨rfl,fun a_ w_ _ hB hR hD=>aai ((hR 0 rfl).trans (aab rfl))⟩,
      ⟨rfl,fun a_ w_ _ hB hR hD=>aai ((hR 5 rfl).trans (aab rfl))⟩,
      ⟨rfl,fun a_ w_ _ hB hR hD=>act (show a_.eval (.tmp 17)=.slice (some ⟨bx,ox,none⟩) n cx from hD 0 rfl) rfl (show a_.eval (.tmp 18)=.int .i64 (k:Int)from hD 1 rfl) (by omega)⟩,
      ⟨rfl,fun a_ w_ _ hB hR hD=>ac3 (p:=Eqs _) (show a_.eval (.tmp 19)=.pointer (some ⟨bx,ox+k*2,none⟩)from hD 2 rfl) ((hB.cell (p:=⟨bx,ox+k*2,none⟩) hlx).trans x0) ((hB.cell (p:=⟨bx,ox+k*2+1,none⟩) hlx).trans x1) rfl⟩,
      ⟨rfl,fun a_ w_ _ hB hR hD=>aai ((hR 1 rfl).trans (aab rfl))⟩,
      ⟨rfl,fun a_ w_ _ hB hR hD=>aai ((hR 5 rfl).trans (aab rfl))⟩,
      ⟨rfl,fun a_ w_ _ hB hR hD=>act (show a_.eval (.tmp 21)=.slice (some ⟨by_,oy,none⟩) n cy from hD 4 rfl) rfl (show a_.eval (.tmp 22)=.int .i64 (k:Int)from hD 5 rfl) (by omega)⟩,
      ⟨rfl,fun a_ w_ _ hB hR hD=>ac3 (p:=Eqs _) (show a_.eval (.tmp 23)=.pointer (some ⟨by_,oy+k*2,none⟩)from hD 6 rfl) ((hB.cell (p:=⟨by_,oy+k*2,none⟩) hly).trans y0) ((hB.cell (p:=⟨by_,oy+k*2+1,none⟩) hly).trans y1) rfl⟩,
      ⟨rfl,fun a_ w_ _ hB hR hD=>aik (show a_.eval (.tmp 20)=.agg #[.bool ex.ng,.slice ex.a ex.m ex.c]from hD 3 rfl) (show a_.eval (.tmp 24)=.agg #[.bool ey.ng,.slice ey.a ey.m ey.c]from hD 7 rfl) (S1.below hB) (S2.below hB) hq.1 hq.2⟩,
      ⟨rfl,fun a_ w_ _ hB hR hD=>aic (show a_.eval (.tmp 25)=.bool true from hD 8 rfl)⟩,
      trivial⟩
    ·intro a' w' hn' hd' hB' hR' hP'
     (repeat apply Exists.intro)
     refine⟨?rel,agt hn' hd' hR' ?fit⟩
     case fit=>repeat' (first|exact trivial|refine⟨(by first|exact .inl ⟨rfl,rfl⟩|exact .inr rfl),?_⟩)
     case rel=>exact⟨(show _=_ from hP' 9 (by decide)),hB'⟩
   case rest=>
    obtain⟨hc26,hbx⟩:=hcut;subst hc26;have HB2:=hide (HW.out.trans (hbx.mono HW.out.size));clear hbx x0 x1 y0 y1 S1 S2 hq;go_wp2;go_roundw
    case rel=>exact⟨k+1,by go_num,by omega,HB2.out⟩
    case measure=>simp[intOf];omega
  ·have hlt':decide ((k:Int)<(n:Int))=false:=by simp;omega
   clear hbw;go_wp2;refine bodyPost_ret (v:=_) (by simp[results,Tryz.results31,go_sem];try rfl) rfl ⟨rfl,HW.out⟩
end Lm
namespace Md
def dotN(n:Nat)(x y:Rw):Int:=sumL (fun k=>x k*y k) (List.range n)
theorem adn(f g:Nat->Int):∀l:List Nat,sumL (fun k=>f k+g k) l=sumL f l+sumL g l
 | []=>rfl
 |x::l=>by rw[sumL,sumL,sumL,adn f g l];omega
theorem ad3{f:Nat->Int}{l:List Nat}(h:∀k∈l,f k=0):sumL f l=0:=by
 induction l with
 |nil=>rfl
 |cons x l ih=>rw[sumL,h x (by simp),ih (fun k hk=>h k (by simp[hk]))];rfl
theorem aep(a:Int)(f:Nat->Int):∀l:List Nat,sumL (fun k=>a*f k) l=a*sumL f l
 | []=>by simp[sumL]
 |x::l=>by rw[sumL,sumL,aep a f l];grind
theorem aeq{f:Nat->Int}{q:Nat}: ∀ {l:List Nat},l.Nodup->q∈l->sumL (fun k=>if k=q then f k else 0) l=f q
 |x::l,hn,hq=>by
  obtain⟨h1,h2⟩:=List.nodup_cons.1 hn;rw[sumL];by_cases e:x=q
  ·subst e;rw[if_pos rfl,ad3 (fun k hk=>if_neg (fun e=>h1 (by rw[<-e];exact hk)))];omega
  ·rw[if_neg e,aeq h2 (by rcases List.mem_cons.1 hq with h|h;exact absurd h.symm e;exact h)];omega
theorem afz{g:Nat->Int}{l:List Nat}(hl:l.Nodup):∀ {Q:List Nat},Q.Nodup->(∀q∈Q,q∈l)->sumL (fun k=>if k∈Q then g k else 0) l=sumL g Q
 | [],_,_=>ad3 (fun k _=>if_neg (by simp))
 |q::Q,hn,hs=>by
  obtain⟨h1,h2⟩:=List.nodup_cons.1 hn;have e:(fun k=>if k∈q::Q then g k else 0)=fun k=>(if k=q then g k else 0)+(if k∈Q then g k else 0):=by
   funext k;by_cases hk:k=q
   ·subst hk;rw[if_pos (by simp),if_pos rfl,if_neg h1];omega
   ·by_cases hk':k∈Q
    ·rw[if_pos (by simp[hk']),if_neg hk,if_pos hk'];omega
    ·rw[if_neg (by simp[hk,hk']),if_neg hk,if_neg hk'];rfl
  rw[e,adn,aeq hl (hs q (by simp)),afz hl h2 (fun x hx=>hs x (by simp[hx])),sumL]
def acr(R:List Rw)(Q:List Nat)(c:Nat):Rw:=fun k=>if k=c then D R Q else if k∈Q then -D R (sub k c Q)else 0
theorem an1{n:Nat}{R:List Rw}{Q:List Nat}{c:Nat}(hn:Q.Nodup)(hQ:∀q∈Q,q<n)(hc:c<n)(hcQ:c∉Q)(x:Rw):dotN n x (acr R Q c)=D (x::R) (c::Q):=by
 have e:(fun k=>x k*acr R Q c k)=fun k=>(if k=c then x k*D R Q else 0)+(if k∈Q then -(x k*D R (sub k c Q))else 0):=by
  funext k;unfold acr;by_cases hk:k=c
  ·subst hk;rw[if_pos rfl,if_pos rfl,if_neg hcQ];omega
  ·rw[if_neg hk,if_neg hk];by_cases hk':k∈Q
   ·rw[if_pos hk',if_pos hk',Int.mul_neg];omega
   ·rw[if_neg hk',if_neg hk',Int.mul_zero];rfl
 unfold dotN;rw[e,adn,aeq (f:=fun k=>x k*D R Q) List.nodup_range (List.mem_range.2 hc),afz List.nodup_range hn (fun q hq=>List.mem_range.2 (hQ q hq)),adm R x hn c];have h:sumL (fun k=>-(x k*D R (sub k c Q))) Q = -sumL (fun p=>x p*D R (sub p c Q)) Q:=by
  have:=aep (-1) (fun p=>x p*D R (sub p c Q)) Q;rw[show(fun k=>-1*(x k*D R (sub k c Q)))=fun k=>-(x k*D R (sub k c Q))from funext fun k=>by omega]at this;rw[this];omega
 rw[h]
 grind
theorem an2(n:Nat)(a b:Int)(x y z:Rw):dotN n (fun k=>a*x k+b*y k) z=a*dotN n x z+b*dotN n y z:=by
 unfold dotN;rw[<-aep,<-aep,<-adn];congr 1
 funext k
 grind
theorem alz(n:Nat)(x y:Rw):dotN n x y=dotN n y x:=by
 unfold dotN;congr 1
 funext k;rw[Int.mul_comm]
theorem asq{n:Nat}{R:List Rw}{y:Rw}(h:∀x∈R,dotN n x y=0){x:Rw}(hx:RS R x):dotN n x y=0:=by
 obtain⟨a,ha,h1⟩:=hx;have key:∀ {z:Rw},Sp R z->dotN n z y=0:=fun {z} hz=>by
  induction hz with
  |zero=>unfold dotN;exact ad3 (fun k _=>by simp)
  |add b u v hu _ ih=>
   have:=an2 n b 1 u v y;rw[show(fun k=>b*u k+1*v k)=fun k=>b*u k+v k from funext fun k=>by omega]at this;rw[this,h u hu,ih];simp
 have h2:=key h1;have h3:=an2 n a 0 x x y;rw[show(fun k=>a*x k+0*x k)=fun k=>a*x k from funext fun k=>by omega,h2]at h3;have h4:a*dotN n x y=0:=by omega
 rcases Int.mul_eq_zero.1 h4 with h|h
 ·exact absurd h ha
 ·exact h
def free(n:Nat)(Q:List Nat):List Nat:=(List.range n).filter (fun c=>decide (c∉Q))
theorem ab1{n:Nat}{Q:List Nat}{c:Nat}: c∈free n Q↔c<n/\c∉Q:=by simp[free]
theorem aiq(n:Nat)(Q:List Nat):(free n Q).Nodup:=List.nodup_range.filter _
theorem asr{n:Nat}{R:List Rw}{Q:List Nat}(hn:Q.Nodup)(hd:D R Q≠0)(hQ:∀q∈Q,q<n){y:Rw}(hv:∀c,n<=c->y c=0)(h:∀x∈R,dotN n x y=0):RS ((free n Q).map (acr R Q)) y:=by
 refine⟨D R Q,hd,?_⟩;have key:∀l:List Nat,(∀c∈l,c∈free n Q)->Sp ((free n Q).map (acr R Q)) (fun k=>sumL (fun c=>y c*acr R Q c k) l):=by
  intro l;induction l with
  |nil=>intro _;exact .zero
  |cons c l ih=>
   intro hl;have:=(Sp.mem (List.mem_map.2 ⟨c,hl c (by simp),rfl⟩)).lin (ih (fun q hq=>hl q (by simp[hq]))) (y c) 1;refine cast (congrArg (Sp _) (funext fun k=>?_)) this;rw[sumL]
   grind
 refine cast (congrArg (Sp _) (funext fun k=>?_)) (key (free n Q) (fun _ h=>h));by_cases hk:k<n
 ·by_cases hkQ:k∈Q
  ·have h1:∀c∈free n Q,y c*acr R Q c k = -1*(y c*D R (sub k c Q)):=fun c hc=>by
    have:=ab1.1 hc;unfold acr;rw[if_neg (fun e=>this.2 (by rw[<-e];exact hkQ)),if_pos hkQ]
    grind
   rw[aeh h1,aep];have h2:dotN n (fun c=>D R (sub k c Q)) y=0:=asq h (.of (afc R hn hkQ));have e:(fun c=>D R (sub k c Q)*y c)=fun c=>(if c=k then D R Q*y c else 0)+(if c∈free n Q then y c*D R (sub k c Q)else 0)+(if c∈free n Q\/c=k then 0 else D R (sub k c Q)*y c):=by
    funext c;by_cases hc:c=k
    ·subst hc;rw[if_pos rfl,if_neg (fun h=>(ab1.1 h).2 hkQ),if_pos (.inr rfl),sub_self];omega
    ·by_cases hc':c∈free n Q
     ·rw[if_neg hc,if_pos hc',if_pos (.inl hc'),Int.mul_comm];omega
     ·rw[if_neg hc,if_neg hc',if_neg (fun h=>h.elim hc' hc)];omega
   unfold dotN at h2;rw[e,adn,adn,aeq (f:=fun c=>D R Q*y c) List.nodup_range (List.mem_range.2 hk),afz List.nodup_range (aiq n Q) (fun q hq=>List.mem_range.2 (ab1.1 hq).1),ad3 (f:=fun c=>if c∈free n Q\/c=k then 0 else D R (sub k c Q)*y c) (fun c hc=>?_)]at h2
   ·omega
   ·by_cases hc':c∈free n Q\/c=k
    ·rw[if_pos hc']
    ·rw[if_neg hc'];have hcQ:c∈Q:=by
      apply Classical.byContradiction;intro hno;exact hc' (.inl (ab1.2 ⟨List.mem_range.1 hc,hno⟩))
     rw[(adu R).dup (ael hkQ hcQ (fun e=>hc' (.inr e))),Int.zero_mul]
  ·have hf:k∈free n Q:=ab1.2 ⟨hk,hkQ⟩;have h1:∀c∈free n Q,y c*acr R Q c k=if c=k then y c*D R Q else 0:=fun c hc=>by
    unfold acr;by_cases e:k=c
    ·rw[if_pos e,if_pos e.symm]
    ·rw[if_neg e,if_neg hkQ,if_neg (fun h=>e h.symm),Int.mul_zero]
   rw[aeh h1,aeq (f:=fun c=>y c*D R Q) (aiq n Q) hf,Int.mul_comm]
 ·rw[hv k (by omega),Int.mul_zero];refine(ad3 (fun c hc=>?_));have:=ab1.1 hc;unfold acr;rw[if_neg (by omega),if_neg (fun h=>hk (hQ k h)),Int.mul_zero]
def rev(n:Nat)(x:Rw):Rw:=fun c=>if c<n then x (n-1-c)else 0
theorem ajj{n:Nat}{x:Rw}(h:∀c,n<=c->x c=0):rev n (rev n x)=x:=by
 funext c;unfold rev;by_cases hc:c<n
 ·rw[if_pos hc,if_pos (by omega)];congr 1;omega
 ·rw[if_neg hc,h c (by omega)]
theorem azk{n:Nat}{R:List Rw}{y:Rw}(h:Sp R y):Sp (R.map (rev n)) (rev n y):=by
 induction h with
 |zero=>exact cast (congrArg (Sp _) (funext fun c=>by unfold rev;split <;> rfl)) (Sp.zero (R:=R.map (rev n)))
 |add a x y hx _ ih=>
  have:=Sp.add (R:=R.map (rev n)) a (rev n x) (rev n y) (List.mem_map.2 ⟨x,hx,rfl⟩) ih;refine cast (congrArg (Sp _) (funext fun c=>?_)) this;unfold rev;split <;> simp
theorem azl{n:Nat}{R:List Rw}{y:Rw}(h:RS R y):RS (R.map (rev n)) (rev n y):=by
 obtain⟨a,ha,h1⟩:=h;refine⟨a,ha,?_⟩;refine cast (congrArg (Sp _) (funext fun c=>?_)) (azk (n:=n) h1);unfold rev;split <;> simp
def kerE(n:Nat)(R:List Rw)(Q:List Nat):List (Nat×Rw):=(free n Q).reverse.map (fun c=>(n-1-c,rev n (acr R Q c)))
theorem au3(n:Nat)(Q:List Nat):(free n Q).Pairwise (·<·):=List.pairwise_lt_range.filter _
theorem Gat.kerEF{n:Nat}{R:List Rw}{Q:List Nat}(G:Gat n R Q):EF (kerE n R Q):=by
 have hm:∀e,e∈kerE n R Q->∃c,c<n/\c∉Q/\e=(n-1-c,rev n (acr R Q c)):=by
  intro e he;obtain⟨c,hc,rfl⟩:=List.mem_map.1 he;have:=ab1.1 (List.mem_reverse.1 hc);exact⟨c,this.1,this.2,rfl⟩
 have hat:∀c k,k<n->rev n (acr R Q c) k=acr R Q c (n-1-k):=fun c k hk=>if_pos hk
 refine⟨?_,fun e he=>?_,fun e he f hf hne=>?_,fun e he k hk=>?_⟩
 ·unfold kerE;rw[List.pairwise_map,List.pairwise_reverse];refine List.Pairwise.imp_of_mem ?_ (au3 n Q);intro a b ha hb hab;have:=(ab1.1 ha).1;have:=(ab1.1 hb).1;show n-1-b<n-1-a;omega
 ·obtain⟨c,h1,h2,rfl⟩:=hm e he;show rev n (acr R Q c) (n-1-c)≠0;rw[hat _ _ (by omega),show n-1-(n-1-c)=c by omega];unfold acr;rw[if_pos rfl];exact G.ne
 ·obtain⟨c,h1,h2,rfl⟩:=hm e he;obtain⟨d,h3,h4,rfl⟩:=hm f hf;show rev n (acr R Q c) (n-1-d)=0;rw[hat _ _ (by omega),show n-1-(n-1-d)=d by omega];unfold acr;have hcd:d≠c:=fun e=>hne (by rw[e])
  rw[if_neg hcd,if_neg h4]
 ·obtain⟨c,h1,h2,rfl⟩:=hm e he;have hk':k<n-1-c:=hk;show rev n (acr R Q c) k=0;rw[hat _ _ (by omega)];unfold acr;rw[if_neg (by omega)];by_cases hq:n-1-k∈Q
  ·rw[if_pos hq,G.led _ hq c (by omega)];rfl
  ·rw[if_neg hq]
end Md
namespace Lm
open Go Go.RowKit
theorem azm(p:Int){q:Int}(_h:q≠0):nm p q=(Rat.divInt p q).num:=by
 rw[Rat.num_divInt,nm,Int.gcd_comm];rw[Int.mul_ediv_assoc _ (Int.gcd_dvd_right ..)]
theorem azn(p:Int){q:Int}(h:q≠0):dn p q=((Rat.divInt p q).den:Int):=by
 rw[Rat.den_divInt,if_neg h,dn,Int.gcd_comm,Int.natCast_ediv];rcases Int.lt_or_gt_of_ne h with h1|h1
 ·rw[Int.sign_eq_neg_one_of_neg h1,show((q.natAbs:Nat):Int) = -q from by omega,Int.neg_ediv_of_dvd (Int.gcd_dvd_left ..)];omega
 ·rw[Int.sign_eq_one_of_pos h1,show((q.natAbs:Nat):Int)=q from by omega];omega
def comR(rs:List Rat):Int:=rs.foldl (fun c r=>c*((r.den:Int)/((Int.gcd c r.den:Nat):Int))) 1
def clr(rs:List Rat):List Int:=rs.map (fun r=>r.num*(comR rs/r.den))
theorem OutN.fit{z:Int}{L M:Nat}{v:Value}{w:World}(h:OutN z L v w)(hz:(z.natAbs:Int)<pw M):OutN z (3*M) v w:=by
 obtain⟨ng,ao,cap,rs,e,W,l⟩:=h;exact⟨ng,ao,cap,rs,e,W,W.len (Int.lt_of_lt_of_le hz (Dm.alk M))⟩
theorem OutN.rl{z:Int}{L:Nat}{v:Value}{w w':World}(h:OutN z L v w)(hr:Rl w w'):OutN z L v w':=OutN.mono4 z L _ _ _ hr h
theorem OutN.agg{z:Int}{L:Nat}{v:Value}{w:World}(h:OutN z L v w):∃ng ao n cap,v=.agg #[.bool ng,.slice ao n cap]:=by
 obtain⟨ng,ao,cap,rs,rfl,_⟩:=h;exact⟨ng,ao,_,cap,rfl⟩
def NRow(w:World)(v:Value)(zs:List Int)(L:Nat):Prop:=∃fs:List WE,Cl w v 2 fs.length (flat fs)/\fs.length=zs.length/\∀(k:Nat) (f:WE) (z:Int),fs[k]? = some f->zs[k]? = some z->OutN z L f.v w
theorem NRow.below{w w':World}{v:Value}{zs:List Int}{L:Nat}(h:NRow w v zs L)(hb:Below w.heap.size w w'):NRow w' v zs L:=by
 obtain⟨fs,h1,h2,h3⟩:=h;exact⟨fs,h1.below hb,h2,fun k f z hf hz=>(h3 k f z hf hz).rl (Rl.of_below hb)⟩
theorem NRow.parts{w:World}{v:Value}{zs:List Int}{L:Nat}(h:NRow w v zs L):∃ao cap,v=.slice ao zs.length cap/\zs.length<=9223372036854775807:=by
 obtain⟨fs,⟨ao,cap,rfl,h1,h2,_⟩,h3,_⟩:=h;exact⟨ao,cap,by rw[h3],by omega⟩
theorem NRow.cell{w:World}{ao:Option Addr}{n cap:Nat}{zs:List Int}{L k:Nat}{z:Int}(h:NRow w (.slice ao n cap) zs L)(hz:zs[k]? = some z):∃b off ng a m c,ao=some ⟨b,off,none⟩/\b<w.heap.size/\w.cell? ⟨b,off+k*2,none⟩=some (.bool ng)/\w.cell? ⟨b,off+k*2+1,none⟩=some (.slice a m c)/\OutN z L (.agg #[.bool ng,.slice a m c]) w:=by
 obtain⟨fs,⟨ao',cap',hv,h1,h2,h3,h4⟩,h5,h6⟩:=h;simp only[Value.slice.injEq]at hv;obtain⟨rfl,rfl,rfl⟩:=hv;have hk:=(List.getElem?_eq_some_iff.1 hz).1;obtain⟨f,hf⟩:∃f,fs[k]? = some f:=⟨_,List.getElem?_eq_getElem (by omega)⟩;obtain⟨f1,f2⟩:=aau hf;rcases h4 with h4|⟨b,off,rfl,hb,hc⟩
 ·omega
 ·exact⟨b,off,f.ng,f.a,f.m,f.c,rfl,hb,hc _ _ f1,by rw[Nat.add_assoc];exact hc _ _ f2,h6 k f z hf hz⟩
def isI:Value->Bool
 |.int _ _=>true
 |_=>false
def NoI(w:World)(v:Value):Prop:=∀g cs T,v.ownBlock=some g->w.heap[g]? = some (.cells cs T (0,0))->∀x∈cs.toList,isI x=false
theorem NoI.below{w w':World}{v:Value}(h:NoI w v)(hl:∀k,v.ownBlock=some k->k<w.heap.size)(hb:Below w.heap.size w w'):NoI w' v:=fun g cs T hg hh=>h g cs T hg ((hb.block g (hl g hg)).symm.trans hh)
theorem al0{z:Array Value}(hz:∀x∈z.toList,isI x=false)(n:Nat):∀x∈(Builtin.zeroCells z n).toList,isI x=false:=by
 intro x hx;simp only[Builtin.zeroCells,Array.toList_map,List.mem_map]at hx;obtain⟨j,_,rfl⟩:=hx;by_cases h:j%z.size<z.size
 ·rw[getElem!_pos z _ h];exact hz _ (by simp)
 ·rw[getElem!_neg z _ h];rfl
theorem an3{P:Program}(w:World)(base:Nat)(t ty e:TypeId)(i:TypeInfo)(z:Value)(bytes:Nat)(ht:P.underlying t=some (.slice e))(hi:P.info? e=some i)(hz:i.zero=some z)(hby:i.bytes=bytes)(_hsz:0<i.size)
  (v:Value) (n:Nat) (xs:List Value) (hown:w.ownsRow base e i.size v n xs) (a:Addr) (c:Nat) (news:List Value) (hl:news.length=i.size) (hnews:∀j u,news[j]? = some u->w.cell? (a.add j)=some u) (h1:∀u∈news,u.oneCell'=true)
  (h63:n+1<=maxLen) (hbytes:(n+1)*bytes<=140737488355328) (hI:NoI w v) (hN:∀u∈news,isI u=false) (hZ:∀u∈z.cells.toList,isI u=false) {v':Value} {w':World} (hr:(Builtin.append_ #[t,t] ty #[v,.slice (some a) 1 c]).run P w=.ok v' w'):NoI w' v':=by
 subst hby;have hl':news.length=1*i.size:=by omega
 have hsmall:n+1<=9223372036854775807:=by simp only[maxLen]at h63;omega
 rcases hown.2 with⟨rfl,rfl⟩|⟨g,cap,cur,rfl,hbg,hg,hnc,hcm,hcs,htake⟩
 ·have hr':=run_append_nil (P:=P) w t ty e i z ht hi hz a 1 c news hl' hnews (by omega) (by omega) (by omega);rw[hr]at hr';injection hr' with e1 e2;subst e1 e2;intro g cs T hg hh x hx;simp only[Value.ownBlock,Option.some.injEq]at hg;subst hg;rw[show(w.drew.alloc (Obj.cells (news.toArray++Builtin.zeroCells z.cells (grownCap w 1 0 e-1)) e)).heap[w.heap.size]? = _ from heap_alloc_new w.drew _]at hh;injection hh with hh;injection hh with hh;subst hh;simp only[Array.toList_append,List.mem_append]at hx;rcases hx with hx|hx
  ·exact hN x hx
  ·exact al0 hZ _ x hx
 ·have hcur:=hI g cur e rfl hg;by_cases hroom:n+1<=cap
  ·have hfit:n*i.size+news.length<=cur.size:=by rw[hl',hcs,<-Nat.add_mul];exact Nat.mul_le_mul_right _ hroom
   have hr':=run_append_room (P:=P) w t ty e i ht hi g n cap cur hg a 1 c news hl' hnews h1 hroom hfit;rw[hr]at hr';injection hr' with e1 e2;subst e1 e2;intro g' cs T hg' hh x hx;simp only[Value.ownBlock,Option.some.injEq]at hg';subst hg';rw[setRow_heap w g cur _ e _ hg]at hh;injection hh with hh;injection hh with hh;subst hh;simp only[List.mem_append]at hx;rcases hx with(hx|hx)|hx
   ·exact hcur x (List.mem_of_mem_take hx)
   ·exact hN x hx
   ·exact hcur x (List.mem_of_mem_drop hx)
  ·have hr':=run_append_grow (P:=P) w t ty e i z ht hi hz ⟨g,0,none⟩ n cap xs hown.1 (hown.cells (g:=g) rfl) a 1 c news hl' hnews (by omega) (by omega) (growslice_fits (by omega) hbytes);rw[hr]at hr';injection hr' with e1 e2;subst e1 e2;intro g' cs T hg' hh x hx;simp only[Value.ownBlock,Option.some.injEq]at hg';subst hg';rw[show(w.drew.alloc (Obj.cells (xs.toArray++news.toArray++Builtin.zeroCells z.cells (grownCap w (n+1) cap e-(n+1))) e)).heap[w.heap.size]? = _ from heap_alloc_new w.drew _]at hh;injection hh with hh;injection hh with hh;subst hh;simp only[Array.toList_append,List.mem_append]at hx;rcases hx with(hx|hx)|hx
   ·rw[<-htake]at hx;exact hcur x (List.mem_of_mem_take hx)
   ·exact hN x hx
   ·exact al0 hZ _ x hx
structure RnO (B:Nat) (w:World) (v:Value) (fs:List WE) (zs:List Int) (L:Nat):Prop where
 own:w.ownsRow B 83 2 v fs.length (flat fs)
 noi:NoI w v
 len:fs.length=zs.length
 out:∀(k:Nat) (f:WE) (z:Int),fs[k]? = some f->zs[k]? = some z->OutN z L f.v w
theorem RnO.below{B:Nat}{w w':World}{v:Value}{fs:List WE}{zs:List Int}{L:Nat}(h:RnO B w v fs zs L)(hb:Below w.heap.size w w'):RnO B w' v fs zs L:=
 ⟨h.own.kept (row:=none) ⟨hb.os,hb.tape,hb.output,hb.size,fun k hk _=>hb.block k hk⟩ (by cases hv:v.ownBlock <;> simp),h.noi.below (fun k hk=>(h.own.lt k hk).2) hb,h.len,fun k f z hf hz=>(h.out k f z hf hz).rl (Rl.of_below hb)⟩
theorem RnO.nrow{B:Nat}{w:World}{v:Value}{fs:List WE}{zs:List Int}{L:Nat}(h:RnO B w v fs zs L):NRow w v zs L:=⟨fs,Cl.own h.own,h.len,h.out⟩
theorem ajk(B:Nat)(w:World)(L:Nat):RnO B w (.slice none 0 0) [] [] L:=⟨World.ownsRow_nil w B _ 2,fun g cs T hg=>by simp[Value.ownBlock]at hg,rfl,fun k f z hf=>by simp at hf⟩
section
variable {dst:Option Tmp} {ty:TypeId} {pos:String} {after:Array Edge} {guard:Option (Nat×Bool)} {a:Act} {w:World} {ats:Array TypeId} {i j:Nat}
theorem infoN:(Tryz.prog.info? 83).map (fun i=>(i.zero,i.size,i.bytes))=some (some (.agg #[.bool false,.slice none 0 0]),2,32):=by kernel_rfl
theorem ajl{B g:Nat}{v:Value}{es:List WE}{zs:List Int}{L:Nat}{z:Int}{ng:Bool}{ao:Option Addr}{n c:Nat}(h1:a.eval (.tmp i)=v)(h2:a.eval (.tmp j)=.slice (some ⟨g,0,none⟩) 1 1)(R:RnO B w v es zs L)(O:w.heap[g]? = some (.cells #[.bool ng,.slice ao n c] 83 (0,0)))(S:OutN z L (.agg #[.bool ng,.slice ao n c]) w)(hn:es.length<=1000000)(hB:B<=w.heap.size):
  Does Tryz.prog {dst,op:=.call {callee:=.builtin .append,args:=#[.tmp i,.tmp j],argTypes:=#[76,76]},type:=ty,pos,after,guard} a.eval w fun v' w'=>RnO B w' v' (es ++ [⟨ng,ao,n,c,[]⟩]) (zs ++ [z]) L/\Below B w w':=by
 obtain⟨i0,hi,hz0,hz1,hz2⟩:=info_parts infoN;have hfl:flat (es ++ [⟨ng,ao,n,c,[]⟩])=flat es ++ [.bool ng,.slice ao n c]:=by rw[ae3];rfl
 have hcl:∀(k:Nat) (u:Value),[Value.bool ng,.slice ao n c][k]? = some u->w.cell? ((⟨g,0,none⟩:Addr).add k)=some u:=fun k u hu=>by
  have hc:∀k,w.cell? ⟨g,k,none⟩ = #[Value.bool ng,.slice ao n c][k]? :=fun k=>cell_of_row w g k _ _ (0,0) O
  have ha:(⟨g,0,none⟩:Addr).add k=⟨g,k,none⟩:=by unfold Addr.add;split <;> simp_all
  rw[ha,hc];simpa using hu
 obtain⟨v',w',hr,ho,hgr,_⟩:=run_append_own (P:=Tryz.prog) w B 76 ty 83 i0 _ 2 32 Tryz.underlying76 hi hz0 hz1 hz2 rfl (by decide) v es.length (flat es) R.own ⟨g,0,none⟩ 1 1 [.bool ng,.slice ao n c] rfl hcl (by simp[Value.oneCell']) (by simp[maxLen];omega) (by omega) hB;have e:(execOp a.eval {dst,op:=.call {callee:=.builtin .append,args:=#[.tmp i,.tmp j],argTypes:=#[76,76]},type:=ty,pos,after,guard}).run Tryz.prog w=.ok (.value v') w':=by
  simp only[execOp,resolve,invoke,builtin,Sem.run_bind,Sem.run_pure,Result.andThen_ok,List.map_toArray,List.map_cons,List.map_nil,h1,h2,hr]
 refine⟨?_⟩;unfold Turns;rw[e];have hrl:Rl w w':=by
  refine⟨hgr.size,fun p k z e=>?_,fun k cs T hT e=>?_⟩
  ·rw[World.cell?_of_block (w:=w) (hgr.block p.block (ac2 e) fun hb=>?_)]
   ·exact e
   ·rcases R.own.2 with⟨rfl,_⟩|⟨g',cap,cur,rfl,_,hh,h5,h6,h7,h8⟩
    ·simp[Value.ownBlock]at hb
    ·simp only[Value.ownBlock,Option.some.injEq]at hb;obtain⟨pb,po,pm⟩:=p;simp only at hb;subst hb;simp only[World.cell?,hh]at e;cases pm with
     |some m=>simp at e
     |none=>
      have hm:=R.noi _ cur _ rfl hh (.int k z) (Array.mem_toList_iff.2 (Array.mem_of_getElem? (i:=po) (by simpa using e)));exact absurd hm (by simp[isI])
  ·refine(hgr.block k (aaa e) fun hb=>?_).trans e;rcases R.own.2 with⟨rfl,_⟩|⟨g',cap,cur,rfl,_,hh,_⟩
   ·simp[Value.ownBlock]at hb
   ·simp only[Value.ownBlock,Option.some.injEq]at hb;subst hb;rw[hh]at e;injection e with e;injection e with _ e _;rcases hT with rfl|rfl
    ·exact absurd e (by decide)
    ·exact absurd e (by decide)
 have hni:NoI w' v':=by
  have hown:=R.own;rw[<-hz1]at hown;exact an3 (P:=Tryz.prog) w B 76 ty 83 i0 _ 32 Tryz.underlying76 hi hz0 hz2 (by omega) v es.length (flat es) hown ⟨g,0,none⟩ 1 [.bool ng,.slice ao n c] (by rw[hz1];rfl) hcl (by simp[Value.oneCell']) (by simp[maxLen];omega) (by omega) R.noi (by simp[isI]) (by simp[Value.cells,isI]) hr
 refine⟨⟨by rw[hfl,List.length_append];exact ho,hni,by simp[R.len],fun k f y hf hy=>?_⟩,⟨hgr.os,hgr.tape,hgr.output,hgr.size,fun k hk=>hgr.block k (by omega) (fun e=>?_)⟩⟩
 ·by_cases hk:k<es.length
  ·rw[List.getElem?_append_left hk]at hf;rw[List.getElem?_append_left (by rw[<-R.len];exact hk)]at hy;exact(R.out k f y hf hy).rl hrl
  ·have hkl:=(List.getElem?_eq_some_iff.1 hf).1;simp at hkl;obtain rfl:k=es.length:=by omega
   rw[List.getElem?_append_right (Nat.le_refl _)]at hf;rw[List.getElem?_append_right (by rw[R.len];exact Nat.le_refl _)]at hy;simp[R.len]at hf hy;subst hf hy;exact S.rl hrl
 ·have:=R.own.lt k e.symm;omega
end
theorem nofF(w:World)(x:Int)(v:Value)(L:Nat)(hx:IsW x L v w)(hL:L<=100000):
  Calls Tryz.prog 81 #[v] w fun e w'=>∃r,e=.returned r/\OutN x (3*L) r w'/\Below w.heap.size w w':=by
 obtain⟨n1,a1,m1,c1,xs,rfl,A1,l1⟩:=hx;refine(Dm.az5 w _ _ _ _ xs x A1 (by omega)).mono ?_;rintro e w' ⟨ng,ao,cap,rs,rfl,G,l,hb⟩;exact⟨_,rfl,⟨_,_,_,_,rfl,G,by omega⟩,hb⟩
theorem au4(w:World)(v:Value)(zs:List Int)(L:Nat)(h:IsRow w v zs L)(hl:zs.length<=100001)(hL:L<=100000):
  Calls Tryz.prog 42 #[v] w fun e w'=>∃r,e=.returned r/\NRow w' r zs (3*L)/\Below w.heap.size w w':=by
 obtain⟨ao,cap,rfl,_⟩:=h.parts;have H:=hide h;clear h;obtain⟨n,hn⟩:∃n,zs.length=n:=⟨_,rfl⟩;rw[hn]at H hl ⊢;have HN:=hide hn;clear hn;go_enter Tryz.func42,Tryz.ntmps42
 go_wp2_with fail
 go_loopw [3,4] (fun ov iv wr=>∃(k:Nat) (fs:List WE),iv=.int .i64 k/\k<=n/\Below w.heap.size w wr/\RnO w.heap.size wr ov fs (zs.take k) (3*L)) (fun _ iv _=>n-(intOf iv).toNat)
 case atStart=>exact⟨0,[],rfl,Nat.zero_le _,Below.refl _ _,ajk _ _ _⟩
 case round=>
  obtain⟨k,fs,rfl,hk,hbw,hown⟩:=hrel;have HW:=hide hbw;have HOWN:=hide hown;by_cases hlt:k<n
  ·obtain⟨z,hz⟩:∃z,zs[k]? = some z:=⟨_,List.getElem?_eq_getElem (by have:=HN.out;omega)⟩;obtain⟨b,off,ng,a,m,c,rfl,hbl,x0,x1,hxw⟩:=(H.out.below hbw).cell hz;have HZ:=hide hz;have K1:=hide (nofF wr z _ L hxw hL);have hlt':(k:Int)<(n:Int):=by omega
   obtain⟨aov,capv,hov,_⟩:=Cl.own hown.own;subst hov;clear hbw hown hz hxw;go_wp2_with fail
   refine K1.out.mono ?_;rintro e w2 ⟨r2,rfl,hf2,hb2⟩;obtain⟨ng2,ao2,n2,cap2,rfl⟩:=hf2.agg;have hA:=hAl w2 (.cells #[.bool ng2,.slice ao2 n2 cap2] 83);have hb2':=hb2.trans (hA.mono hb2.size);have hR2:=HOWN.out.below hb2';have hO2:=heap_alloc_new w2 (.cells #[.bool ng2,.slice ao2 n2 cap2] 83);have hS2:=hf2.rl (Rl.of_below hA);have hsz:w.heap.size<=(w2.alloc (.cells #[.bool ng2,.slice ao2 n2 cap2] 83)).heap.size:=Nat.le_trans HW.out.size hb2'.size;have hfl:fs.length<=1000000:=by rw[HOWN.out.len,List.length_take];omega
   go_wp2_with (at_builtin;refine abd rfl (ajl (i:=11) (j:=17) rfl rfl hR2 hO2 hS2 hfl hsz) ?_)
   intro v3 w3 hR3 hb3;obtain⟨aov3,capv3,hov3,_⟩:=Cl.own hR3.own;subst hov3;have HR3:=hide hR3;have HB3:=hide ((HW.out.trans (hb2'.mono HW.out.size)).trans hb3);clear hR3 hb3 hR2 hO2 hS2 hsz hA hb2 hb2' hf2 hfl;go_wp2;go_roundw
   case rel=>
    refine⟨k+1,fs ++ [⟨ng2,ao2,n2,cap2,[]⟩],by go_num,by omega,HB3.out,?_⟩;rw[List.take_add_one,HZ.out];exact HR3.out
   case measure=>simp[intOf];omega
  ·have hlt':decide ((k:Int)<(n:Int))=false:=by simp;omega
   have hkn:k=n:=by omega
   subst hkn;obtain⟨aov,capv,hov,_⟩:=Cl.own hown.own;subst hov;clear hbw hown;go_wp2;refine bodyPost_ret (v:=_) (acd rfl rfl) rfl ⟨_,rfl,(by have h:=HOWN.out.nrow;rw[List.take_of_length_le (by have:=HN.out;omega)]at h;exact h),HW.out⟩
theorem NRow.len{w:World}{ao:Option Addr}{n cap:Nat}{zs:List Int}{L:Nat}(h:NRow w (.slice ao n cap) zs L):n=zs.length/\zs.length<=9223372036854775807:=by
 obtain⟨a,c,e,h2⟩:=h.parts;simp only[Value.slice.injEq]at e;exact⟨e.2.1,h2⟩
theorem NRow.some{w:World}{ao:Option Addr}{n cap:Nat}{zs:List Int}{L:Nat}(h:NRow w (.slice ao n cap) zs L)(hn:0<n):∃b off,ao=some ⟨b,off,none⟩:=by
 have:=h.len.1;obtain⟨b,off,_,_,_,_,e,_⟩:=h.cell (k:=0) (List.getElem?_eq_getElem (by omega));exact⟨b,off,e⟩
theorem aez(w:World)(L:Nat):OutN 0 L (.agg #[.bool false,.slice none 0 0]) w:=⟨false,none,0,[],rfl,⟨⟨Dm.ad0 w,Dm.ab8,rfl⟩,rfl⟩,by simp⟩
section
variable {dst:Option Tmp} {ty:TypeId} {pos:String} {after:Array Edge} {guard:Option (Nat×Bool)} {a:Act} {w:World} {ats:Array TypeId} {i j:Nat}
theorem adb{b off n c k:Nat}{ao:Option Addr}(h:a.eval (.tmp i)=.slice ao n c)(hao:ao=some ⟨b,off,none⟩)(hk:a.eval (.tmp j)=.int .i64 (k:Int))(hl:k<n):Does Tryz.prog {dst,op:=.indexAddr 76 (.tmp i) (.tmp j),type:=ty,pos,after,guard} a.eval w fun v' w'=>Below w.heap.size w w'/\Eqs (.pointer (some ⟨b,off+k*2,none⟩)) v' w':=by
 subst hao;have hl':(k:Int)<(n:Int):=by omega
 refine⟨?_⟩;unfold Turns;simp only[execOp,h,hk];go_simp;exact⟨Below.refl _ _,rfl⟩
theorem ass{b off k:Nat}{ao:Option Addr}{n cap:Nat}{zs:List Int}{L:Nat}{z:Int}(hp:a.eval (.tmp i)=.pointer (some ⟨b,off+k*2,none⟩))(hao:ao=some ⟨b,off,none⟩)(hR:NRow w (.slice ao n cap) zs L)(hz:zs[k]? = some z):Does Tryz.prog {dst,op:=.load 83 (.tmp i),type:=ty,pos,after,guard} a.eval w fun v' w'=>Below w.heap.size w w'/\OutN z L v' w':=by
 obtain⟨b',off',ng,a',m,c,e,_,h0,h1,ho⟩:=hR.cell hz;rw[hao]at e;simp only[Option.some.injEq,Addr.mk.injEq,and_true]at e;obtain⟨rfl,rfl⟩:=e;refine aba (v:=.agg #[.bool ng,.slice a' m c]) ?_ ⟨Below.refl _ _,ho⟩;rw[hp];go_simp
end
theorem al3(es:List WE)(i:Nat)(k:IntKind)(z:Int):(flat es).toArray[i]?≠some (.int k z):=by
 intro h;rw[List.getElem?_toArray]at h;have hlt:=(List.getElem?_eq_some_iff.1 h).1;rw[aax]at hlt;obtain⟨e,he⟩:∃e,es[i/2]? = some e:=⟨_,List.getElem?_eq_getElem (by omega)⟩;obtain⟨f1,f2⟩:=aau he;rcases(by omega:i=i/2*2\/i=i/2*2+1)with e1|e1
 ·rw[e1,f1]at h;simp at h
 ·rw[e1,f2]at h;simp at h
def PN(w:World)(bv n i:Nat)(zs:List Int)(L:Nat):Prop:=
 ∃es:List WE,es.length=n/\w.heap[bv]? = some (.cells (flat es).toArray 83 (0,0))/\∀(k:Nat) (e:WE) (z:Int),k<i->es[k]? = some e->zs[k]? = some z->OutN z L e.v w
theorem PN.lt{w:World}{bv n i:Nat}{zs:List Int}{L:Nat}(h:PN w bv n i zs L):bv<w.heap.size:=by
 obtain⟨es,h1,h2,_⟩:=h;exact aaa h2
theorem PN.cells{w:World}{bv n i:Nat}{zs:List Int}{L:Nat}(h:PN w bv n i zs L){k:Nat}(hk:k<n):(∃ng a m c,w.cell? ⟨bv,k*2,none⟩=some (.bool ng)/\w.cell? ⟨bv,k*2+1,none⟩=some (.slice a m c))/\w.frozen? ⟨bv,k*2,none⟩=false/\w.frozen? ⟨bv,k*2+1,none⟩=false:=by
 obtain⟨es,h1,h2,_⟩:=h;obtain⟨e,he⟩:∃e,es[k]? = some e:=⟨_,List.getElem?_eq_getElem (by omega)⟩;obtain⟨f1,f2⟩:=aau he;exact⟨⟨e.ng,e.a,e.m,e.c,by rw[cell_of_row _ _ _ _ _ (0,0) h2,List.getElem?_toArray];exact f1,by rw[cell_of_row _ _ _ _ _ (0,0) h2,List.getElem?_toArray];exact f2⟩,frozen_of_row _ _ _ _ _ h2,frozen_of_row _ _ _ _ _ h2⟩
theorem PN.at{w:World}{bv n i:Nat}{zs:List Int}{L:Nat}(h:PN w bv n i zs L){k:Nat}{z:Int}(hk:k<i)(hi:i<=n)(hz:zs[k]? = some z):∃ng a m c,w.cell? ⟨bv,0+k*2,none⟩=some (.bool ng)/\w.cell? ⟨bv,0+k*2+1,none⟩=some (.slice a m c)/\OutN z L (.agg #[.bool ng,.slice a m c]) w:=by
 obtain⟨es,h1,h2,h3⟩:=h;obtain⟨e,he⟩:∃e,es[k]? = some e:=⟨_,List.getElem?_eq_getElem (by omega)⟩;obtain⟨f1,f2⟩:=aau he;refine⟨e.ng,e.a,e.m,e.c,?_,?_,h3 k e z hk he hz⟩
 ·rw[Nat.zero_add,cell_of_row _ _ _ _ _ (0,0) h2,List.getElem?_toArray];exact f1
 ·rw[Nat.zero_add,cell_of_row _ _ _ _ _ (0,0) h2,List.getElem?_toArray];exact f2
theorem PN.nrow{w:World}{bv n:Nat}{zs:List Int}{L:Nat}(h:PN w bv n n zs L)(hl:zs.length=n)(hn:n<=1000000):NRow w (.slice (some ⟨bv,0,none⟩) n n) zs L:=by
 have hlt:=h.lt;obtain⟨es,h1,h2,h4⟩:=h;refine⟨es,⟨some ⟨bv,0,none⟩,n,by rw[h1],by omega,by omega,aax _,.inr ⟨bv,0,rfl,hlt,fun j u hu=>?_⟩⟩,by omega,fun k f z hf hz=>h4 k f z (by have:=(List.getElem?_eq_some_iff.1 hf).1;omega) hf hz⟩;rw[Nat.zero_add,cell_of_row _ _ _ _ _ (0,0) h2,List.getElem?_toArray];exact hu
section
variable {dst:Option Tmp} {ty:TypeId} {pos:String} {after:Array Edge} {guard:Option (Nat×Bool)} {a:Act} {w:World} {ats:Array TypeId} {i j:Nat}
theorem abr{b off:Nat}{ng:Bool}{ao:Option Addr}{n c:Nat}{q:Says}(hp:a.eval (.tmp i)=.pointer (some ⟨b,off,none⟩))(h0:w.cell? ⟨b,off,none⟩=some (.bool ng))(h1:w.cell? ⟨b,off+1,none⟩=some (.slice ao n c))(hv:q (.agg #[.bool ng,.slice ao n c]) w):
  Does Tryz.prog {dst,op:=.load 83 (.tmp i),type:=ty,pos,after,guard} a.eval w fun v' w'=>Below w.heap.size w w'/\q v' w':=by
 refine aba (v:=.agg #[.bool ng,.slice ao n c]) ?_ ⟨Below.refl _ _,hv⟩;rw[hp];go_simp
end
theorem agj(p:Int){q:Int}(hq:q≠0):∃g a b:Int,0<g/\p=g*a/\q=g*b/\b≠0/\Int.gcd a b=1/\nm p q=Int.sign b*a/\dn p q=Int.sign b*b:=by
 have hg:=ad9 (p:=p) hq;obtain⟨a,ha⟩:((Int.gcd p q:Nat):Int) ∣ p:=Int.gcd_dvd_left p q;obtain⟨b,hb⟩:((Int.gcd p q:Nat):Int) ∣ q:=Int.gcd_dvd_right p q;have ea:p/((Int.gcd p q:Nat):Int)=a:=by
  conv=>lhs;lhs;rw[ha]
  exact Int.mul_ediv_cancel_left _ (by omega)
 have eb:q/((Int.gcd p q:Nat):Int)=b:=by
  conv=>lhs;lhs;rw[hb]
  exact Int.mul_ediv_cancel_left _ (by omega)
 have hs:Int.sign q=Int.sign b:=by
  rw[hb,Int.sign_mul,Int.sign_eq_one_of_pos hg,Int.one_mul]
 have hc:Int.gcd a b=1:=by
  have:=Int.gcd_ediv_gcd_ediv_gcd (i:=p) (j:=q) (by omega);rwa[ea,eb]at this
 refine⟨_,a,b,hg,ha,hb,?_,hc,?_,?_⟩
 ·rintro rfl;rw[Int.mul_zero]at hb;exact hq hb
 ·unfold nm;rw[ea,hs]
 ·unfold dn;rw[eb,hs]
theorem akt{b:Int}(h:b≠0):0<Int.sign b*b:=by
 rcases Int.lt_trichotomy b 0 with h1|h1|h1
 ·rw[Int.sign_eq_neg_one_of_neg h1];omega
 ·exact absurd h1 h
 ·rw[Int.sign_eq_one_of_pos h1];omega
theorem ast(p:Int){q:Int}(hq:q≠0):0<dn p q:=by
 obtain⟨g,a,b,_,_,_,hb,_,_,e⟩:=agj p hq;rw[e];exact akt hb
theorem akc(p:Int){q:Int}(hq:q≠0):nm p q*q=p*dn p q:=by
 obtain⟨g,a,b,_,hp,hq',_,_,e1,e2⟩:=agj p hq;rw[e1,e2]
 grind
theorem an4(p:Int){q:Int}(hq:q≠0):Int.gcd (nm p q) (dn p q)=1:=by
 obtain⟨g,a,b,_,_,_,hb,hc,e1,e2⟩:=agj p hq;rw[e1,e2];rcases Int.lt_trichotomy b 0 with h1|h1|h1
 ·rw[Int.sign_eq_neg_one_of_neg h1];simpa using hc
 ·exact absurd h1 hb
 ·rw[Int.sign_eq_one_of_pos h1];simpa using hc
theorem an5{n d k:Int}(hc:Int.gcd n d=1)(h:d ∣ n*k):d ∣ k:=by
 have h1:d.natAbs ∣ n.natAbs*k.natAbs:=by rw[<-Int.natAbs_mul];exact Int.natAbs_dvd_natAbs.2 h
 have hc':Nat.Coprime d.natAbs n.natAbs:=by
  unfold Nat.Coprime;rw[Nat.gcd_comm];exact hc
 exact Int.natAbs_dvd_natAbs.1 (hc'.dvd_of_dvd_mul_left h1)
theorem azo{p q p' q':Int}(hq:q≠0)(hq':q'≠0)(h:p*q'=p'*q):nm p q=nm p' q'/\dn p q=dn p' q':=by
 have c1:=akc p hq;have c2:=akc p' hq';have d1:=ast p hq;have d2:=ast p' hq';have hx:nm p q*dn p' q'=nm p' q'*dn p q:=by
  apply Int.eq_of_mul_eq_mul_right (Int.mul_ne_zero hq hq')
  grind
 have e1:dn p q ∣ dn p' q':=an5 (an4 p hq) ⟨nm p' q',by rw[hx,Int.mul_comm]⟩;have e2:dn p' q' ∣ dn p q:=an5 (an4 p' hq') ⟨nm p q,by rw[<-hx,Int.mul_comm]⟩;have e:dn p q=dn p' q':=Int.dvd_antisymm (by omega) (by omega) e1 e2;refine⟨?_,e⟩;rw[e]at hx;exact Int.eq_of_mul_eq_mul_right (by omega) hx
end Lm
namespace Lm
open Go Go.RowKit
def ov(x y:Int):Int:=sg (decide (x<0) != decide (y<0)) ((x.natAbs:Int)/(y.natAbs:Int))
theorem air(x:Int){y:Int}(h:y≠0):((Int.gcd x y:Nat):Int)≠0:=by
 have:=ad9 (p:=x) h;omega
theorem ahv{x g:Int}(hg:0<g)(hd:g ∣ x):ov x g=x/g:=by
 obtain⟨k,rfl⟩:=hd;have h1:decide (g<0)=false:=decide_eq_false (by omega);have h2:((g.natAbs:Nat):Int)=g:=by omega
 rw[Int.mul_ediv_cancel_left _ (by omega)];unfold ov;rw[h1,h2,Int.natAbs_mul];have h3:((g.natAbs*k.natAbs:Nat):Int)=g*(k.natAbs:Int):=by
  rw[Int.natCast_mul,h2]
 rw[h3,Int.mul_ediv_cancel_left _ (by omega)];by_cases hk:k<0
 ·have:g*k<0:=Int.mul_neg_of_pos_of_neg hg hk;simp[sg,this];omega
 ·have:¬g*k<0:=by
   have:=Int.mul_nonneg (show 0<=g by omega) (show 0<=k by omega);omega
  simp[sg,this];omega
theorem al4{x y:Int}(hy:0<y):ov x ((Int.gcd x y:Nat):Int)=nm x y/\ov y ((Int.gcd x y:Nat):Int)=dn x y:=by
 have hg:=ad9 (p:=x) (show y≠0 by omega);rw[ahv hg (Int.gcd_dvd_left x y),ahv hg (Int.gcd_dvd_right x y),nm,dn,Int.sign_eq_one_of_pos hy];simp
theorem asu{x y:Int}(hy:y<0):ov (-x) ((Int.gcd (-x) (-y):Nat):Int)=nm x y/\ov (-y) ((Int.gcd (-x) (-y):Nat):Int)=dn x y:=by
 have h:=al4 (x:=-x) (y:=-y) (by omega);rw[h.1,h.2];exact azo (by omega) (by omega) (by grind)
section
end
theorem axt(w:World)(Bx:Nat)(nx:Bool)(ax:Option Addr)(cx:Nat)(xs:List Int)(zx:Int)(Gx:Dm.Wh w nx ax cx xs zx)(Lx:xs.length<=Bx)(By:Nat)(ny:Bool)(ay:Option Addr)(cy:Nat)(ys:List Int)(zy:Int)(Gy:Dm.Wh w ny ay cy ys zy)(Ly:ys.length<=By)(hL:Bx<=300000)(hL2:By<=300000)(hy:zy≠0):
  Calls Tryz.prog 83 #[.agg #[.bool nx,.slice ax xs.length cx],.agg #[.bool ny,.slice ay ys.length cy]] w fun e w'=>∃v,e=.returned v/\(OutN (ov zx zy) Bx) v w'/\Below w.heap.size w w':=by
 go_enter Tryz.func83,Tryz.ntmps83
 generalize hA:(Act.mk _ _)=aa;have hn:aa.tmps.size=21:=by rw[<-hA];rfl
 have hd:aa.defers = []:=by rw[<-hA]
 have f0:aa.eval (.tmp 0)=.agg #[.bool nx,.slice ax xs.length cx]:=by rw[<-hA];rfl
 have f1:aa.eval (.tmp 1)=.agg #[.bool ny,.slice ay ys.length cy]:=by rw[<-hA];rfl
 clear hA;have HB:Below w.heap.size w w:=Below.refl _ _;refine wp_seq ?_;refine aaq [some 2,some 3,some 4] [Tt,Tt,Tt] [⟨N2,some 0,0,2,.agg #[.bool nx,.slice ax xs.length cx],none,[]⟩,⟨N2,some 1,0,3,.agg #[.bool ny,.slice ay ys.length cy],none,[]⟩,⟨N2,some 2,0,4,.agg #[.bool false,.slice none 0 0],none,[]⟩] [] (by kernel_rfl) hn rfl (by kernel_rfl) (by kernel_rfl) (by kernel_rfl) (by kernel_rfl) (by kernel_rfl) (by kernel_rfl) ⟨True.mono4,True.mono4,True.mono4,trivial⟩ (aa8 N2ok (aa8 N2ok (aa8 N2ok aaz))) (IsOld.all (bx:=[⟨N2,some 0,0,2,.agg #[.bool nx,.slice ax xs.length cx],none,[]⟩,⟨N2,some 1,0,3,.agg #[.bool ny,.slice ay ys.length cy],none,[]⟩,⟨N2,some 2,0,4,.agg #[.bool false,.slice none 0 0],none,[]⟩]) ⟨someNe,someNe,someNe,trivial⟩) (DisOld.all (bx:=[⟨N2,some 0,0,2,.agg #[.bool nx,.slice ax xs.length cx],none,[]⟩,⟨N2,some 1,0,3,.agg #[.bool ny,.slice ay ys.length cy],none,[]⟩,⟨N2,some 2,0,4,.agg #[.bool false,.slice none 0 0],none,[]⟩]) ⟨someNe,someNe,someNe,trivial⟩) ?_ ?_
 ·exact⟨.alloc 0 _ rfl rfl (.inr ⟨_,rfl,afu,fun a_ hR=>(hR 0 rfl).trans f0⟩) rfl rfl rfl rfl rfl,.alloc 1 _ rfl rfl (.inr ⟨_,rfl,afu,fun a_ hR=>(hR 1 rfl).trans f1⟩) rfl rfl rfl rfl rfl,.alloc 2 _ rfl rfl (.inl ⟨rfl,rfl⟩) rfl rfl rfl rfl rfl,trivial⟩
 ·intro a1 w1 gs1 hn1 hd1 hBt hr hR hP hX hU;replace hn:=hn1;replace hd:=hd1.trans hd;have ne2_4:gs1 0≠gs1 2:=hU 0 2 (by simp) (by simp) (by decide);have ne3_4:gs1 1≠gs1 2:=hU 1 2 (by simp) (by simp) (by decide);have b2:BoxV N2 w1 (gs1 0) (.agg #[.bool nx,.slice ax xs.length cx]):=(hX 0 _ rfl).2.2.2;have f2:=(hX 0 _ rfl).1;have u2:w.heap.size<=gs1 0:=Nat.le_trans HB.size ((hX 0 _ rfl).2.2.1 (by simp));have b3:BoxV N2 w1 (gs1 1) (.agg #[.bool ny,.slice ay ys.length cy]):=(hX 1 _ rfl).2.2.2;have f3:=(hX 1 _ rfl).1;have u3:w.heap.size<=gs1 1:=Nat.le_trans HB.size ((hX 1 _ rfl).2.2.1 (by simp));have b4:BoxV N2 w1 (gs1 2) (.agg #[.bool false,.slice none 0 0]):=(hX 2 _ rfl).2.2.2;have f4:=(hX 2 _ rfl).1;have u4:w.heap.size<=gs1 2:=Nat.le_trans HB.size ((hX 2 _ rfl).2.2.1 (by simp));replace Gx:=Gx.rl hr;replace Gy:=Gy.rl hr;replace HB:=HB.trans (hBt.below HB.size (UpOld.all (bx:=[⟨N2,some 0,0,2,.agg #[.bool nx,.slice ax xs.length cx],none,[]⟩,⟨N2,some 1,0,3,.agg #[.bool ny,.slice ay ys.length cy],none,[]⟩,⟨N2,some 2,0,4,.agg #[.bool false,.slice none 0 0],none,[]⟩]) ⟨someNe,someNe,someNe,trivial⟩));clear hBt hr hR hP hX hU;refine wp_seq ?_;refine aaq [some 8,some 9,some 10,some 7,some 11,some 12,some 5,some 6,none,none] [Eqs (.agg #[.bool nx,.slice ax xs.length cx]),Eqs (.agg #[.bool ny,.slice ay ys.length cy]),Tup2 (OutN ((((zx).natAbs:Int)/((zy).natAbs:Int))) (Bx)) (OutN ((((zx).natAbs:Int)%((zy).natAbs:Int))) (By)),Tup2 (OutN ((((zx).natAbs:Int)/((zy).natAbs:Int))) (Bx)) (OutN ((((zx).natAbs:Int)%((zy).natAbs:Int))) (By)),OutN ((((zx).natAbs:Int)/((zy).natAbs:Int))) (Bx),OutN ((((zx).natAbs:Int)%((zy).natAbs:Int))) (By),Tt,Tt,Tt,Tt] [⟨N2,some 6,0,5,.agg #[.bool false,.slice none 0 0],some (8,11,4),[]⟩,⟨N2,some 7,0,6,.agg #[.bool false,.slice none 0 0],some (9,12,5),[]⟩] [] (by kernel_rfl) hn rfl (by kernel_rfl) (by kernel_rfl) (by kernel_rfl) (by kernel_rfl) (by kernel_rfl) (by kernel_rfl) ⟨Eqs.mono4 _,Eqs.mono4 _,Tup2.mono4 (OutN.mono4 _ _) (OutN.mono4 _ _),Tup2.mono4 (OutN.mono4 _ _) (OutN.mono4 _ _),OutN.mono4 _ _,OutN.mono4 _ _,True.mono4,True.mono4,True.mono4,True.mono4,trivial⟩ (aa8 N2ok (aa8 N2ok aaz)) (IsOld.all (bx:=[⟨N2,some 6,0,5,.agg #[.bool false,.slice none 0 0],some (8,11,4),[]⟩,⟨N2,some 7,0,6,.agg #[.bool false,.slice none 0 0],some (9,12,5),[]⟩]) ⟨someNe,someNe,trivial⟩) (DisOld.all (bx:=[⟨N2,some 6,0,5,.agg #[.bool false,.slice none 0 0],some (8,11,4),[]⟩,⟨N2,some 7,0,6,.agg #[.bool false,.slice none 0 0],some (9,12,5),[]⟩]) ⟨someNe,someNe,trivial⟩) ?_ ?_
  ·exact⟨.norm 8 rfl rfl rfl (fun a_ w_ _ t r R D _ _=>aa0 N2ok ((R 2 rfl).trans f2) (b2.keep t ⟨someNe,someNe,trivial⟩)),.norm 9 rfl rfl rfl (fun a_ w_ _ t r R D _ _=>aa0 N2ok ((R 3 rfl).trans f3) (b3.keep t ⟨someNe,someNe,trivial⟩)),.norm 10 rfl rfl rfl (fun a_ w_ _ t r R D _ _=>am7 (abc (show a_.eval (.tmp 8)=.agg #[.bool nx,.slice ax xs.length cx]from D 0 rfl) (Gx.rl r) Lx) (abc (show a_.eval (.tmp 9)=.agg #[.bool ny,.slice ay ys.length cy]from D 1 rfl) (Gy.rl r) Ly) (by omega) (by omega) hy),.norm 7 rfl rfl rfl (fun a_ w_ _ t r R D _ _=>ayu (p:=Tup2 (OutN ((((zx).natAbs:Int)/((zy).natAbs:Int))) (Bx)) (OutN ((((zx).natAbs:Int)%((zy).natAbs:Int))) (By))) (show Tup2 (OutN ((((zx).natAbs:Int)/((zy).natAbs:Int))) (Bx)) (OutN ((((zx).natAbs:Int)%((zy).natAbs:Int))) (By)) (a_.eval (.tmp 10)) w_ from D 2 rfl)),.norm 11 rfl rfl rfl (fun a_ w_ _ t r R D _ _=>awz (show Tup2 (OutN ((((zx).natAbs:Int)/((zy).natAbs:Int))) (Bx)) (OutN ((((zx).natAbs:Int)%((zy).natAbs:Int))) (By)) (a_.eval (.tmp 7)) w_ from D 3 rfl)),.norm 12 rfl rfl rfl (fun a_ w_ _ t r R D _ _=>aw0 (show Tup2 (OutN ((((zx).natAbs:Int)/((zy).natAbs:Int))) (Bx)) (OutN ((((zx).natAbs:Int)%((zy).natAbs:Int))) (By)) (a_.eval (.tmp 7)) w_ from D 3 rfl)),.alloc 0 _ rfl rfl (.inl ⟨rfl,rfl⟩) rfl rfl rfl rfl rfl,.alloc 1 _ rfl rfl (.inl ⟨rfl,rfl⟩) rfl rfl rfl rfl rfl,.store 0 _ _ _ rfl rfl rfl rfl rfl rfl rfl (fun ia h=>by cases h;rfl) rfl rfl rfl OutN.cs,.store 1 _ _ _ rfl rfl rfl rfl rfl rfl rfl (fun ia h=>by cases h;rfl) rfl rfl rfl OutN.cs,trivial⟩
  ·intro a2 w2 gs2 hn2 hd2 hBt hr hR hP hX hU;replace hn:=hn2;replace hd:=hd2.trans hd;have ne2_5:(gs1 0)≠gs2 0:=by have h1:=b2.lt;have h2:=(hX 0 _ rfl).2.2.1 (by simp);omega
   have ne3_5:(gs1 1)≠gs2 0:=by have h1:=b3.lt;have h2:=(hX 0 _ rfl).2.2.1 (by simp);omega
   have ne4_5:(gs1 2)≠gs2 0:=by have h1:=b4.lt;have h2:=(hX 0 _ rfl).2.2.1 (by simp);omega
   replace b2:=b2.keep hBt ⟨someNe,someNe,trivial⟩;replace b3:=b3.keep hBt ⟨someNe,someNe,trivial⟩;replace b4:=b4.keep hBt ⟨someNe,someNe,trivial⟩;obtain⟨n_3,a_3,c_3,r_3,e11,G3,l3⟩:OutN ((((zx).natAbs:Int)/((zy).natAbs:Int))) (Bx) (a2.eval (.tmp 11)) w2:=hP 4 (by decide);have b5:BoxV N2 w2 (gs2 0) (.agg #[.bool n_3,.slice a_3 r_3.length c_3]):=ai5 (hX 0 _ rfl).2.2.2 e11;have f5:=(hX 0 _ rfl).1;have u5:w.heap.size<=gs2 0:=Nat.le_trans HB.size ((hX 0 _ rfl).2.2.1 (by simp));replace f2:=(hR 2 rfl).trans f2;replace f3:=(hR 3 rfl).trans f3;replace f4:=(hR 4 rfl).trans f4;replace Gx:=Gx.rl hr;replace Gy:=Gy.rl hr;replace HB:=HB.trans (hBt.below HB.size (UpOld.all (bx:=[⟨N2,some 6,0,5,.agg #[.bool false,.slice none 0 0],some (8,11,4),[]⟩,⟨N2,some 7,0,6,.agg #[.bool false,.slice none 0 0],some (9,12,5),[]⟩]) ⟨someNe,someNe,trivial⟩));clear hBt hr hR hP hX hU;refine wp_seq ?_;refine wp_seq ?_;refine aaq [some 13,some 14,some 15,some 16,some 17] [Eqs (.pointer (some ⟨gs1 0,0,none⟩)),Eqs (.bool nx),Eqs (.pointer (some ⟨gs1 1,0,none⟩)),Eqs (.bool ny),Eqs (.bool (nx != ny))] [] [] (by kernel_rfl) hn rfl (by kernel_rfl) (by kernel_rfl) (by kernel_rfl) (by kernel_rfl) (by kernel_rfl) (by kernel_rfl) ⟨Eqs.mono4 _,Eqs.mono4 _,Eqs.mono4 _,Eqs.mono4 _,Eqs.mono4 _,trivial⟩ aaz (IsOld.all (bx:=[]) trivial) (DisOld.all (bx:=[]) trivial) ?_ ?_
   ·exact⟨.norm 13 rfl rfl rfl (fun a_ w_ _ t r R D _ _=>ail aje ((R 2 rfl).trans f2)),.norm 14 rfl rfl rfl (fun a_ w_ _ t r R D _ _=>agb (show a_.eval (.tmp 13)=.pointer (some ⟨gs1 0,0,none⟩)from D 0 rfl) (b2.keep t trivial)),.norm 15 rfl rfl rfl (fun a_ w_ _ t r R D _ _=>ail aje ((R 3 rfl).trans f3)),.norm 16 rfl rfl rfl (fun a_ w_ _ t r R D _ _=>agb (show a_.eval (.tmp 15)=.pointer (some ⟨gs1 1,0,none⟩)from D 2 rfl) (b3.keep t trivial)),.norm 17 rfl rfl rfl (fun a_ w_ _ t r R D _ _=>aw1 (show a_.eval (.tmp 14)=.bool nx from D 1 rfl) (show a_.eval (.tmp 16)=.bool ny from D 3 rfl)),trivial⟩
   ·intro a4 w4 gs4 hn4 hd4 hBt hr hR hP hX hU;replace hn:=hn4;replace hd:=hd4.trans hd;replace b4:=b4.keep hBt trivial;replace b5:=b5.keep hBt trivial;replace f4:=(hR 4 rfl).trans f4;replace f5:=(hR 5 rfl).trans f5;have e17:a4.eval (.tmp 17)=.bool (nx != ny):=hP 4 (by decide);have f17:=e17;replace Gx:=Gx.rl hr;replace Gy:=Gy.rl hr;replace G3:=G3.rl hr;replace HB:=HB.trans (hBt.below HB.size (UpOld.all (bx:=[]) trivial));clear hBt hr hR hP hX hU;refine wp_cond_split f17 (fun hc17=>?_) (fun hc17=>?_)
    ·skip;refine aaq [some 18,some 19,none] [Eqs (.agg #[.bool n_3,.slice a_3 r_3.length c_3]),OutN ((-(((zx).natAbs:Int)/((zy).natAbs:Int)))) (Bx),Tt] [⟨N2,none,(gs2 0),5,.agg #[.bool n_3,.slice a_3 r_3.length c_3],some (2,19,1),[0]⟩] [] (by kernel_rfl) hn rfl (by kernel_rfl) (by kernel_rfl) (by kernel_rfl) (by kernel_rfl) (by kernel_rfl) (by kernel_rfl) ⟨Eqs.mono4 _,OutN.mono4 _ _,True.mono4,trivial⟩ (aa8 N2ok aaz) (IsOld.all (bx:=[⟨N2,none,(gs2 0),5,.agg #[.bool n_3,.slice a_3 r_3.length c_3],some (2,19,1),[0]⟩]) ⟨fun _=>⟨f5,b5⟩,trivial⟩) (DisOld.all (bx:=[⟨N2,none,(gs2 0),5,.agg #[.bool n_3,.slice a_3 r_3.length c_3],some (2,19,1),[0]⟩]) ⟨fun _=>trivial,trivial⟩) ?_ ?_
     ·exact⟨.norm 18 rfl rfl rfl (fun a_ w_ _ t r R D hO _=>aa0 N2ok ((R 5 rfl).trans f5) (hO 0 _ rfl rfl rfl)),.norm 19 rfl rfl rfl (fun a_ w_ _ t r R D _ _=>aey (abc (show a_.eval (.tmp 18)=.agg #[.bool n_3,.slice a_3 r_3.length c_3]from D 0 rfl) (G3.rl r) l3) (by omega)),.store 0 _ _ _ rfl rfl rfl rfl rfl rfl rfl (fun ia h=>by cases h) rfl rfl rfl OutN.cs,trivial⟩
     ·intro a5 w5 gs5 hn5 hd5 hBt hr hR hP hX hU;replace hn:=hn5;replace hd:=hd5.trans hd;replace b4:=b4.keep hBt ⟨fun _=>ne4_5.symm,trivial⟩;obtain⟨n_6,a_6,c_6,r_6,e19,G6,l6⟩:OutN ((-(((zx).natAbs:Int)/((zy).natAbs:Int)))) (Bx) (a5.eval (.tmp 19)) w5:=hP 1 (by decide);have b5:BoxV N2 w5 ((gs2 0)) (.agg #[.bool n_6,.slice a_6 r_6.length c_6]):=acw ((hX 0 _ rfl).2.1 rfl) (hX 0 _ rfl).2.2.2 e19;replace f5:a5.eval (.tmp 5)=_:=(hR 5 rfl).trans f5;replace f4:=(hR 4 rfl).trans f4;replace Gx:=Gx.rl hr;replace Gy:=Gy.rl hr;replace G3:=G3.rl hr;replace HB:=HB.trans (hBt.below HB.size (UpOld.all (bx:=[⟨N2,none,(gs2 0),5,.agg #[.bool n_3,.slice a_3 r_3.length c_3],some (2,19,1),[0]⟩]) ⟨fun _=>u5,trivial⟩));clear hBt hr hR hP hX hU;refine wp_seq ?_;refine aaq [some 20,none] [Eqs (.agg #[.bool n_6,.slice a_6 r_6.length c_6]),Tt] [⟨N2,none,(gs1 2),4,.agg #[.bool false,.slice none 0 0],some (1,20,0),[]⟩] [] (by kernel_rfl) hn rfl (by kernel_rfl) (by kernel_rfl) (by kernel_rfl) (by kernel_rfl) (by kernel_rfl) (by kernel_rfl) ⟨Eqs.mono4 _,True.mono4,trivial⟩ (aa8 N2ok aaz) (IsOld.all (bx:=[⟨N2,none,(gs1 2),4,.agg #[.bool false,.slice none 0 0],some (1,20,0),[]⟩]) ⟨fun _=>⟨f4,b4⟩,trivial⟩) (DisOld.all (bx:=[⟨N2,none,(gs1 2),4,.agg #[.bool false,.slice none 0 0],some (1,20,0),[]⟩]) ⟨fun _=>trivial,trivial⟩) ?_ ?_
      ·exact⟨.norm 20 rfl rfl rfl (fun a_ w_ _ t r R D _ _=>aa0 N2ok ((R 5 rfl).trans f5) (b5.keep t ⟨fun _=>ne4_5,trivial⟩)),.store 0 _ _ _ rfl rfl rfl rfl rfl rfl rfl (fun ia h=>by cases h) rfl rfl rfl (aq0 afu),trivial⟩
      ·intro a7 w7 gs7 hn7 hd7 hBt hr hR hP hX hU;replace hn:=hn7;replace hd:=hd7.trans hd;have e20:a7.eval (.tmp 20)=.agg #[.bool n_6,.slice a_6 r_6.length c_6]:=hP 0 (by decide);have b4:BoxV N2 w7 ((gs1 2)) (.agg #[.bool n_6,.slice a_6 r_6.length c_6]):=acw ((hX 0 _ rfl).2.1 rfl) (hX 0 _ rfl).2.2.2 e20;replace f4:a7.eval (.tmp 4)=_:=(hR 4 rfl).trans f4;replace Gx:=Gx.rl hr;replace Gy:=Gy.rl hr;replace G3:=G3.rl hr;replace G6:=G6.rl hr;replace HB:=HB.trans (hBt.below HB.size (UpOld.all (bx:=[⟨N2,none,(gs1 2),4,.agg #[.bool false,.slice none 0 0],some (1,20,0),[]⟩]) ⟨fun _=>u4,trivial⟩));clear hBt hr hR hP hX hU;refine wp_ret ?_;repeat(first|refine ach ?_|refine acb ?_|refine aca ?_)
       exact bodyPost_ret (v:=.agg #[.bool n_6,.slice a_6 r_6.length c_6]) (acc rfl f4 (awc b4)) hd ⟨_,rfl,OutN.to (abc rfl G6 l6) (by rw[ov,<-Gx.2,<-Gy.2,hc17];rfl) (by omega),HB⟩
    ·skip;refine wp_skip ?_;refine wp_seq ?_;refine aaq [some 20,none] [Eqs (.agg #[.bool n_3,.slice a_3 r_3.length c_3]),Tt] [⟨N2,none,(gs1 2),4,.agg #[.bool false,.slice none 0 0],some (1,20,0),[]⟩] [] (by kernel_rfl) hn rfl (by kernel_rfl) (by kernel_rfl) (by kernel_rfl) (by kernel_rfl) (by kernel_rfl) (by kernel_rfl) ⟨Eqs.mono4 _,True.mono4,trivial⟩ (aa8 N2ok aaz) (IsOld.all (bx:=[⟨N2,none,(gs1 2),4,.agg #[.bool false,.slice none 0 0],some (1,20,0),[]⟩]) ⟨fun _=>⟨f4,b4⟩,trivial⟩) (DisOld.all (bx:=[⟨N2,none,(gs1 2),4,.agg #[.bool false,.slice none 0 0],some (1,20,0),[]⟩]) ⟨fun _=>trivial,trivial⟩) ?_ ?_
     ·exact⟨.norm 20 rfl rfl rfl (fun a_ w_ _ t r R D _ _=>aa0 N2ok ((R 5 rfl).trans f5) (b5.keep t ⟨fun _=>ne4_5,trivial⟩)),.store 0 _ _ _ rfl rfl rfl rfl rfl rfl rfl (fun ia h=>by cases h) rfl rfl rfl (aq0 afu),trivial⟩
     ·intro a8 w8 gs8 hn8 hd8 hBt hr hR hP hX hU;replace hn:=hn8;replace hd:=hd8.trans hd;have e20:a8.eval (.tmp 20)=.agg #[.bool n_3,.slice a_3 r_3.length c_3]:=hP 0 (by decide);have b4:BoxV N2 w8 ((gs1 2)) (.agg #[.bool n_3,.slice a_3 r_3.length c_3]):=acw ((hX 0 _ rfl).2.1 rfl) (hX 0 _ rfl).2.2.2 e20;replace f4:a8.eval (.tmp 4)=_:=(hR 4 rfl).trans f4;replace Gx:=Gx.rl hr;replace Gy:=Gy.rl hr;replace G3:=G3.rl hr;replace HB:=HB.trans (hBt.below HB.size (UpOld.all (bx:=[⟨N2,none,(gs1 2),4,.agg #[.bool false,.slice none 0 0],some (1,20,0),[]⟩]) ⟨fun _=>u4,trivial⟩));clear hBt hr hR hP hX hU;refine wp_ret ?_;repeat(first|refine ach ?_|refine acb ?_|refine aca ?_)
      exact bodyPost_ret (v:=.agg #[.bool n_3,.slice a_3 r_3.length c_3]) (acc rfl f4 (awc b4)) hd ⟨_,rfl,OutN.to (abc rfl G3 l3) (by rw[ov,<-Gx.2,<-Gy.2,hc17];rfl) (by omega),HB⟩
theorem asv:Has Tryz.prog 83:=by unfold Has;kernel_rfl
theorem ac6{dst:Option Tmp}{ty:TypeId}{pos:String}{after:Array Edge}{guard:Option (Nat×Bool)}{a:Act}{w:World}{ats:Array TypeId}{i j:Nat}{Bx:Nat}{zx:Int}(Hx:OutN zx Bx (a.eval (.tmp i)) w){By:Nat}{zy:Int}(Hy:OutN zy By (a.eval (.tmp j)) w)(hL:Bx<=300000)(hL2:By<=300000)(hy:zy≠0):
  Does Tryz.prog {dst,op:=.call {callee:=.value (.func 83),args:=#[.tmp i,.tmp j],argTypes:=ats},type:=ty,pos,after,guard} a.eval w fun v w'=>Below w.heap.size w w'/\(OutN (ov zx zy) Bx) v w':=by
 obtain⟨nx,ax,cx,xs,ex,Gx,Lx⟩:=Hx;obtain⟨ny,ay,cy,ys,ey,Gy,Ly⟩:=Hy;refine aas asv _ (by simp only[List.map_toArray,List.map_cons,List.map_nil,ex,ey]) ((axt w Bx _ _ _ _ _ Gx Lx By _ _ _ _ _ Gy Ly hL hL2 hy).mono ?_);rintro e w' ⟨v,rfl,h1,hb⟩;exact⟨_,rfl,hb,h1⟩
theorem axu(w:World)(Bx:Nat)(nx:Bool)(ax:Option Addr)(cx:Nat)(xs:List Int)(zx:Int)(Gx:Dm.Wh w nx ax cx xs zx)(Lx:xs.length<=Bx)(By:Nat)(ny:Bool)(ay:Option Addr)(cy:Nat)(ys:List Int)(zy:Int)(Gy:Dm.Wh w ny ay cy ys zy)(Ly:ys.length<=By)(hL:Bx+By<=300000)(hy:zy≠0):
  Calls Tryz.prog 65 #[.agg #[.bool nx,.slice ax xs.length cx],.agg #[.bool ny,.slice ay ys.length cy]] w fun e w'=>∃v,e=.returned v/\(OutQ (nm zx zy) (dn zx zy) (Bx+By)) v w'/\Below w.heap.size w w':=by
 go_enter Tryz.func65,Tryz.ntmps65
 generalize hA:(Act.mk _ _)=aa;have hn:aa.tmps.size=22:=by rw[<-hA];rfl
 have hd:aa.defers = []:=by rw[<-hA]
 have f0:aa.eval (.tmp 0)=.agg #[.bool nx,.slice ax xs.length cx]:=by rw[<-hA];rfl
 have f1:aa.eval (.tmp 1)=.agg #[.bool ny,.slice ay ys.length cy]:=by rw[<-hA];rfl
 clear hA;have HB:Below w.heap.size w w:=Below.refl _ _;refine wp_seq ?_;refine aaq [some 2,some 3,some 4] [Tt,Tt,Tt] [⟨N2,some 0,0,2,.agg #[.bool nx,.slice ax xs.length cx],none,[]⟩,⟨N2,some 1,0,3,.agg #[.bool ny,.slice ay ys.length cy],none,[]⟩,⟨Q4,some 2,0,4,.agg #[.bool false,.slice none 0 0,.bool false,.slice none 0 0],none,[]⟩] [] (by kernel_rfl) hn rfl (by kernel_rfl) (by kernel_rfl) (by kernel_rfl) (by kernel_rfl) (by kernel_rfl) (by kernel_rfl) ⟨True.mono4,True.mono4,True.mono4,trivial⟩ (aa8 N2ok (aa8 N2ok (aa8 Q4ok aaz))) (IsOld.all (bx:=[⟨N2,some 0,0,2,.agg #[.bool nx,.slice ax xs.length cx],none,[]⟩,⟨N2,some 1,0,3,.agg #[.bool ny,.slice ay ys.length cy],none,[]⟩,⟨Q4,some 2,0,4,.agg #[.bool false,.slice none 0 0,.bool false,.slice none 0 0],none,[]⟩]) ⟨someNe,someNe,someNe,trivial⟩) (DisOld.all (bx:=[⟨N2,some 0,0,2,.agg #[.bool nx,.slice ax xs.length cx],none,[]⟩,⟨N2,some 1,0,3,.agg #[.bool ny,.slice ay ys.length cy],none,[]⟩,⟨Q4,some 2,0,4,.agg #[.bool false,.slice none 0 0,.bool false,.slice none 0 0],none,[]⟩]) ⟨someNe,someNe,someNe,trivial⟩) ?_ ?_
 ·exact⟨.alloc 0 _ rfl rfl (.inr ⟨_,rfl,afu,fun a_ hR=>(hR 0 rfl).trans f0⟩) rfl rfl rfl rfl rfl,.alloc 1 _ rfl rfl (.inr ⟨_,rfl,afu,fun a_ hR=>(hR 1 rfl).trans f1⟩) rfl rfl rfl rfl rfl,.alloc 2 _ rfl rfl (.inl ⟨rfl,rfl⟩) rfl rfl rfl rfl rfl,trivial⟩
 ·intro a1 w1 gs1 hn1 hd1 hBt hr hR hP hX hU;replace hn:=hn1;replace hd:=hd1.trans hd;have ne2_3:gs1 0≠gs1 1:=hU 0 1 (by simp) (by simp) (by decide);have ne2_4:gs1 0≠gs1 2:=hU 0 2 (by simp) (by simp) (by decide);have ne3_4:gs1 1≠gs1 2:=hU 1 2 (by simp) (by simp) (by decide);have b2:BoxV N2 w1 (gs1 0) (.agg #[.bool nx,.slice ax xs.length cx]):=(hX 0 _ rfl).2.2.2;have f2:=(hX 0 _ rfl).1;have u2:w.heap.size<=gs1 0:=Nat.le_trans HB.size ((hX 0 _ rfl).2.2.1 (by simp));have b3:BoxV N2 w1 (gs1 1) (.agg #[.bool ny,.slice ay ys.length cy]):=(hX 1 _ rfl).2.2.2;have f3:=(hX 1 _ rfl).1;have u3:w.heap.size<=gs1 1:=Nat.le_trans HB.size ((hX 1 _ rfl).2.2.1 (by simp));have b4:BoxV Q4 w1 (gs1 2) (.agg #[.bool false,.slice none 0 0,.bool false,.slice none 0 0]):=(hX 2 _ rfl).2.2.2;have f4:=(hX 2 _ rfl).1;have u4:w.heap.size<=gs1 2:=Nat.le_trans HB.size ((hX 2 _ rfl).2.2.1 (by simp));replace Gx:=Gx.rl hr;replace Gy:=Gy.rl hr;replace HB:=HB.trans (hBt.below HB.size (UpOld.all (bx:=[⟨N2,some 0,0,2,.agg #[.bool nx,.slice ax xs.length cx],none,[]⟩,⟨N2,some 1,0,3,.agg #[.bool ny,.slice ay ys.length cy],none,[]⟩,⟨Q4,some 2,0,4,.agg #[.bool false,.slice none 0 0,.bool false,.slice none 0 0],none,[]⟩]) ⟨someNe,someNe,someNe,trivial⟩));clear hBt hr hR hP hX hU;refine wp_seq ?_;refine wp_seq ?_;refine aaq [some 6,some 7] [Eqs (.pointer (some ⟨gs1 1,0,none⟩)),Eqs (.bool ny)] [] [] (by kernel_rfl) hn rfl (by kernel_rfl) (by kernel_rfl) (by kernel_rfl) (by kernel_rfl) (by kernel_rfl) (by kernel_rfl) ⟨Eqs.mono4 _,Eqs.mono4 _,trivial⟩ aaz (IsOld.all (bx:=[]) trivial) (DisOld.all (bx:=[]) trivial) ?_ ?_
  ·exact⟨.norm 6 rfl rfl rfl (fun a_ w_ _ t r R D _ _=>ail aje ((R 3 rfl).trans f3)),.norm 7 rfl rfl rfl (fun a_ w_ _ t r R D _ _=>agb (show a_.eval (.tmp 6)=.pointer (some ⟨gs1 1,0,none⟩)from D 0 rfl) (b3.keep t trivial)),trivial⟩
  ·intro a2 w2 gs2 hn2 hd2 hBt hr hR hP hX hU;replace hn:=hn2;replace hd:=hd2.trans hd;replace b2:=b2.keep hBt trivial;replace b3:=b3.keep hBt trivial;replace b4:=b4.keep hBt trivial;replace f2:=(hR 2 rfl).trans f2;replace f3:=(hR 3 rfl).trans f3;replace f4:=(hR 4 rfl).trans f4;have e7:a2.eval (.tmp 7)=.bool ny:=hP 1 (by decide);have f7:=e7;replace Gx:=Gx.rl hr;replace Gy:=Gy.rl hr;replace HB:=HB.trans (hBt.below HB.size (UpOld.all (bx:=[]) trivial));clear hBt hr hR hP hX hU;refine wp_cond_split f7 (fun hc7=>?_) (fun hc7=>?_)
   ·skip;have hc7':zy<0:=by have h:=Gy.2;rw[hc7]at h;exact of_decide_eq_true h.symm
    refine wp_seq ?_;refine aaq [some 8,some 9,none] [Eqs (.agg #[.bool nx,.slice ax xs.length cx]),OutN ((-zx)) (Bx),Tt] [⟨N2,none,(gs1 0),2,.agg #[.bool nx,.slice ax xs.length cx],some (2,9,1),[0]⟩] [] (by kernel_rfl) hn rfl (by kernel_rfl) (by kernel_rfl) (by kernel_rfl) (by kernel_rfl) (by kernel_rfl) (by kernel_rfl) ⟨Eqs.mono4 _,OutN.mono4 _ _,True.mono4,trivial⟩ (aa8 N2ok aaz) (IsOld.all (bx:=[⟨N2,none,(gs1 0),2,.agg #[.bool nx,.slice ax xs.length cx],some (2,9,1),[0]⟩]) ⟨fun _=>⟨f2,b2⟩,trivial⟩) (DisOld.all (bx:=[⟨N2,none,(gs1 0),2,.agg #[.bool nx,.slice ax xs.length cx],some (2,9,1),[0]⟩]) ⟨fun _=>trivial,trivial⟩) ?_ ?_
    ·exact⟨.norm 8 rfl rfl rfl (fun a_ w_ _ t r R D hO _=>aa0 N2ok ((R 2 rfl).trans f2) (hO 0 _ rfl rfl rfl)),.norm 9 rfl rfl rfl (fun a_ w_ _ t r R D _ _=>aey (abc (show a_.eval (.tmp 8)=.agg #[.bool nx,.slice ax xs.length cx]from D 0 rfl) (Gx.rl r) Lx) (by omega)),.store 0 _ _ _ rfl rfl rfl rfl rfl rfl rfl (fun ia h=>by cases h) rfl rfl rfl OutN.cs,trivial⟩
    ·intro a3 w3 gs3 hn3 hd3 hBt hr hR hP hX hU;replace hn:=hn3;replace hd:=hd3.trans hd;replace b3:=b3.keep hBt ⟨fun _=>ne2_3,trivial⟩;replace b4:=b4.keep hBt ⟨fun _=>ne2_4,trivial⟩;obtain⟨n_4,a_4,c_4,r_4,e9,G4,l4⟩:OutN ((-zx)) (Bx) (a3.eval (.tmp 9)) w3:=hP 1 (by decide);have b2:BoxV N2 w3 ((gs1 0)) (.agg #[.bool n_4,.slice a_4 r_4.length c_4]):=acw ((hX 0 _ rfl).2.1 rfl) (hX 0 _ rfl).2.2.2 e9;replace f2:a3.eval (.tmp 2)=_:=(hR 2 rfl).trans f2;replace f3:=(hR 3 rfl).trans f3;replace f4:=(hR 4 rfl).trans f4;replace Gx:=Gx.rl hr;replace Gy:=Gy.rl hr;replace HB:=HB.trans (hBt.below HB.size (UpOld.all (bx:=[⟨N2,none,(gs1 0),2,.agg #[.bool nx,.slice ax xs.length cx],some (2,9,1),[0]⟩]) ⟨fun _=>u2,trivial⟩));clear hBt hr hR hP hX hU;refine aaq [some 10,some 11,none] [Eqs (.agg #[.bool ny,.slice ay ys.length cy]),OutN ((-zy)) (By),Tt] [⟨N2,none,(gs1 1),3,.agg #[.bool ny,.slice ay ys.length cy],some (2,11,1),[0]⟩] [] (by kernel_rfl) hn rfl (by kernel_rfl) (by kernel_rfl) (by kernel_rfl) (by kernel_rfl) (by kernel_rfl) (by kernel_rfl) ⟨Eqs.mono4 _,OutN.mono4 _ _,True.mono4,trivial⟩ (aa8 N2ok aaz) (IsOld.all (bx:=[⟨N2,none,(gs1 1),3,.agg #[.bool ny,.slice ay ys.length cy],some (2,11,1),[0]⟩]) ⟨fun _=>⟨f3,b3⟩,trivial⟩) (DisOld.all (bx:=[⟨N2,none,(gs1 1),3,.agg #[.bool ny,.slice ay ys.length cy],some (2,11,1),[0]⟩]) ⟨fun _=>trivial,trivial⟩) ?_ ?_
     ·exact⟨.norm 10 rfl rfl rfl (fun a_ w_ _ t r R D hO _=>aa0 N2ok ((R 3 rfl).trans f3) (hO 0 _ rfl rfl rfl)),.norm 11 rfl rfl rfl (fun a_ w_ _ t r R D _ _=>aey (abc (show a_.eval (.tmp 10)=.agg #[.bool ny,.slice ay ys.length cy]from D 0 rfl) (Gy.rl r) Ly) (by omega)),.store 0 _ _ _ rfl rfl rfl rfl rfl rfl rfl (fun ia h=>by cases h) rfl rfl rfl OutN.cs,trivial⟩
     ·intro a5 w5 gs5 hn5 hd5 hBt hr hR hP hX hU;replace hn:=hn5;replace hd:=hd5.trans hd;replace b2:=b2.keep hBt ⟨fun _=>ne2_3.symm,trivial⟩;replace b4:=b4.keep hBt ⟨fun _=>ne3_4,trivial⟩;obtain⟨n_6,a_6,c_6,r_6,e11,G6,l6⟩:OutN ((-zy)) (By) (a5.eval (.tmp 11)) w5:=hP 1 (by decide);have b3:BoxV N2 w5 ((gs1 1)) (.agg #[.bool n_6,.slice a_6 r_6.length c_6]):=acw ((hX 0 _ rfl).2.1 rfl) (hX 0 _ rfl).2.2.2 e11;replace f3:a5.eval (.tmp 3)=_:=(hR 3 rfl).trans f3;replace f2:=(hR 2 rfl).trans f2;replace f4:=(hR 4 rfl).trans f4;replace Gx:=Gx.rl hr;replace Gy:=Gy.rl hr;replace G4:=G4.rl hr;replace HB:=HB.trans (hBt.below HB.size (UpOld.all (bx:=[⟨N2,none,(gs1 1),3,.agg #[.bool ny,.slice ay ys.length cy],some (2,11,1),[0]⟩]) ⟨fun _=>u3,trivial⟩));clear hBt hr hR hP hX hU;refine wp_seq ?_;refine aaq [some 12,some 13,some 14,some 5,none] [Eqs (.agg #[.bool n_4,.slice a_4 r_4.length c_4]),Eqs (.agg #[.bool n_6,.slice a_6 r_6.length c_6]),OutN (((Int.gcd (-zx) (-zy):Nat):Int)) ((Bx)+(By)),Tt,Tt] [⟨N2,some 3,0,5,.agg #[.bool false,.slice none 0 0],some (4,14,2),[]⟩] [] (by kernel_rfl) hn rfl (by kernel_rfl) (by kernel_rfl) (by kernel_rfl) (by kernel_rfl) (by kernel_rfl) (by kernel_rfl) ⟨Eqs.mono4 _,Eqs.mono4 _,OutN.mono4 _ _,True.mono4,True.mono4,trivial⟩ (aa8 N2ok aaz) (IsOld.all (bx:=[⟨N2,some 3,0,5,.agg #[.bool false,.slice none 0 0],some (4,14,2),[]⟩]) ⟨someNe,trivial⟩) (DisOld.all (bx:=[⟨N2,some 3,0,5,.agg #[.bool false,.slice none 0 0],some (4,14,2),[]⟩]) ⟨someNe,trivial⟩) ?_ ?_
      ·exact⟨.norm 12 rfl rfl rfl (fun a_ w_ _ t r R D _ _=>aa0 N2ok ((R 2 rfl).trans f2) (b2.keep t ⟨someNe,trivial⟩)),.norm 13 rfl rfl rfl (fun a_ w_ _ t r R D _ _=>aa0 N2ok ((R 3 rfl).trans f3) (b3.keep t ⟨someNe,trivial⟩)),.norm 14 rfl rfl rfl (fun a_ w_ _ t r R D _ _=>agu (L1:=Bx) (L2:=By) (abc (show a_.eval (.tmp 12)=.agg #[.bool n_4,.slice a_4 r_4.length c_4]from D 0 rfl) (G4.rl r) l4) (abc (show a_.eval (.tmp 13)=.agg #[.bool n_6,.slice a_6 r_6.length c_6]from D 1 rfl) (G6.rl r) l6) (by omega) (by omega)),.alloc 0 _ rfl rfl (.inl ⟨rfl,rfl⟩) rfl rfl rfl rfl rfl,.store 0 _ _ _ rfl rfl rfl rfl rfl rfl rfl (fun ia h=>by cases h;rfl) rfl rfl rfl OutN.cs,trivial⟩
      ·intro a7 w7 gs7 hn7 hd7 hBt hr hR hP hX hU;replace hn:=hn7;replace hd:=hd7.trans hd;have ne4_5:(gs1 2)≠gs7 0:=by have h1:=b4.lt;have h2:=(hX 0 _ rfl).2.2.1 (by simp);omega
       replace b2:=b2.keep hBt ⟨someNe,trivial⟩;replace b3:=b3.keep hBt ⟨someNe,trivial⟩;replace b4:=b4.keep hBt ⟨someNe,trivial⟩;obtain⟨n_8,a_8,c_8,r_8,e14,G8,l8⟩:OutN (((Int.gcd (-zx) (-zy):Nat):Int)) ((Bx)+(By)) (a7.eval (.tmp 14)) w7:=hP 2 (by decide);have b5:BoxV N2 w7 (gs7 0) (.agg #[.bool n_8,.slice a_8 r_8.length c_8]):=ai5 (hX 0 _ rfl).2.2.2 e14;have f5:=(hX 0 _ rfl).1;have u5:w.heap.size<=gs7 0:=Nat.le_trans HB.size ((hX 0 _ rfl).2.2.1 (by simp));replace f2:=(hR 2 rfl).trans f2;replace f3:=(hR 3 rfl).trans f3;replace f4:=(hR 4 rfl).trans f4;replace Gx:=Gx.rl hr;replace Gy:=Gy.rl hr;replace G4:=G4.rl hr;replace G6:=G6.rl hr;replace HB:=HB.trans (hBt.below HB.size (UpOld.all (bx:=[⟨N2,some 3,0,5,.agg #[.bool false,.slice none 0 0],some (4,14,2),[]⟩]) ⟨someNe,trivial⟩));clear hBt hr hR hP hX hU;refine wp_seq ?_;refine aaq [some 15,some 16,some 17,some 18,some 19,some 20,some 21,none] [Eqs (.agg #[.bool n_4,.slice a_4 r_4.length c_4]),Eqs (.agg #[.bool n_8,.slice a_8 r_8.length c_8]),OutN ((ov (-zx) ((Int.gcd (-zx) (-zy):Nat):Int))) (Bx),Eqs (.agg #[.bool n_6,.slice a_6 r_6.length c_6]),Eqs (.agg #[.bool n_8,.slice a_8 r_8.length c_8]),OutN ((ov (-zy) ((Int.gcd (-zx) (-zy):Nat):Int))) (By),OutQ ((ov (-zx) ((Int.gcd (-zx) (-zy):Nat):Int))) ((ov (-zy) ((Int.gcd (-zx) (-zy):Nat):Int))) ((Bx)+(By)),Tt] [⟨Q4,none,(gs1 2),4,.agg #[.bool false,.slice none 0 0,.bool false,.slice none 0 0],some (7,21,6),[]⟩] [] (by kernel_rfl) hn rfl (by kernel_rfl) (by kernel_rfl) (by kernel_rfl) (by kernel_rfl) (by kernel_rfl) (by kernel_rfl) ⟨Eqs.mono4 _,Eqs.mono4 _,OutN.mono4 _ _,Eqs.mono4 _,Eqs.mono4 _,OutN.mono4 _ _,OutQ.mono4 _ _ _,True.mono4,trivial⟩ (aa8 Q4ok aaz) (IsOld.all (bx:=[⟨Q4,none,(gs1 2),4,.agg #[.bool false,.slice none 0 0,.bool false,.slice none 0 0],some (7,21,6),[]⟩]) ⟨fun _=>⟨f4,b4⟩,trivial⟩) (DisOld.all (bx:=[⟨Q4,none,(gs1 2),4,.agg #[.bool false,.slice none 0 0,.bool false,.slice none 0 0],some (7,21,6),[]⟩]) ⟨fun _=>trivial,trivial⟩) ?_ ?_
       ·exact⟨.norm 15 rfl rfl rfl (fun a_ w_ _ t r R D _ _=>aa0 N2ok ((R 2 rfl).trans f2) (b2.keep t ⟨fun _=>ne2_4.symm,trivial⟩)),.norm 16 rfl rfl rfl (fun a_ w_ _ t r R D _ _=>aa0 N2ok ((R 5 rfl).trans f5) (b5.keep t ⟨fun _=>ne4_5,trivial⟩)),.norm 17 rfl rfl rfl (fun a_ w_ _ t r R D _ _=>ac6 (abc (show a_.eval (.tmp 15)=.agg #[.bool n_4,.slice a_4 r_4.length c_4]from D 0 rfl) (G4.rl r) l4) (abc (show a_.eval (.tmp 16)=.agg #[.bool n_8,.slice a_8 r_8.length c_8]from D 1 rfl) (G8.rl r) l8) (by omega) (by omega) (air _ (by omega))),.norm 18 rfl rfl rfl (fun a_ w_ _ t r R D _ _=>aa0 N2ok ((R 3 rfl).trans f3) (b3.keep t ⟨fun _=>ne3_4.symm,trivial⟩)),.norm 19 rfl rfl rfl (fun a_ w_ _ t r R D _ _=>aa0 N2ok ((R 5 rfl).trans f5) (b5.keep t ⟨fun _=>ne4_5,trivial⟩)),.norm 20 rfl rfl rfl (fun a_ w_ _ t r R D _ _=>ac6 (abc (show a_.eval (.tmp 18)=.agg #[.bool n_6,.slice a_6 r_6.length c_6]from D 3 rfl) (G6.rl r) l6) (abc (show a_.eval (.tmp 19)=.agg #[.bool n_8,.slice a_8 r_8.length c_8]from D 4 rfl) (G8.rl r) l8) (by omega) (by omega) (air _ (by omega))),.norm 21 rfl rfl rfl (fun a_ w_ _ t r R D _ _=>awe (L:=(Bx)+(By)) ((show OutN ((ov (-zx) ((Int.gcd (-zx) (-zy):Nat):Int))) (Bx) (a_.eval (.tmp 17)) w_ from D 2 rfl).to rfl (by omega)) ((show OutN ((ov (-zy) ((Int.gcd (-zx) (-zy):Nat):Int))) (By) (a_.eval (.tmp 20)) w_ from D 5 rfl).to rfl (by omega))),.store 0 _ _ _ rfl rfl rfl rfl rfl rfl rfl (fun ia h=>by cases h) rfl rfl rfl OutQ.cs,trivial⟩
       ·intro a9 w9 gs9 hn9 hd9 hBt hr hR hP hX hU;replace hn:=hn9;replace hd:=hd9.trans hd;obtain⟨n_10,a_10,c_10,r_10,o_10,b_10,d_10,s_10,e21,G10,K10,l10,k10⟩:OutQ ((ov (-zx) ((Int.gcd (-zx) (-zy):Nat):Int))) ((ov (-zy) ((Int.gcd (-zx) (-zy):Nat):Int))) ((Bx)+(By)) (a9.eval (.tmp 21)) w9:=hP 6 (by decide);have b4:BoxV Q4 w9 ((gs1 2)) (.agg #[.bool n_10,.slice a_10 r_10.length c_10,.bool o_10,.slice b_10 s_10.length d_10]):=acw ((hX 0 _ rfl).2.1 rfl) (hX 0 _ rfl).2.2.2 e21;replace f4:a9.eval (.tmp 4)=_:=(hR 4 rfl).trans f4;replace Gx:=Gx.rl hr;replace Gy:=Gy.rl hr;replace G4:=G4.rl hr;replace G6:=G6.rl hr;replace G8:=G8.rl hr;replace HB:=HB.trans (hBt.below HB.size (UpOld.all (bx:=[⟨Q4,none,(gs1 2),4,.agg #[.bool false,.slice none 0 0,.bool false,.slice none 0 0],some (7,21,6),[]⟩]) ⟨fun _=>u4,trivial⟩));clear hBt hr hR hP hX hU;refine wp_ret ?_;repeat(first|refine ach ?_|refine acb ?_|refine aca ?_)
        exact bodyPost_ret (v:=.agg #[.bool n_10,.slice a_10 r_10.length c_10,.bool o_10,.slice b_10 s_10.length d_10]) (acc rfl f4 (awd b4)) hd ⟨_,rfl,OutQ.to (ajd rfl G10 K10 l10 k10) (asu hc7').1 (asu hc7').2 (by omega),HB⟩
   ·skip;have hc7':0<zy:=by have h:=Gy.2;rw[hc7]at h;have h2:=of_decide_eq_false h.symm;omega
    refine wp_skip ?_;refine wp_seq ?_;refine aaq [some 12,some 13,some 14,some 5,none] [Eqs (.agg #[.bool nx,.slice ax xs.length cx]),Eqs (.agg #[.bool ny,.slice ay ys.length cy]),OutN (((Int.gcd zx zy:Nat):Int)) ((Bx)+(By)),Tt,Tt] [⟨N2,some 3,0,5,.agg #[.bool false,.slice none 0 0],some (4,14,2),[]⟩] [] (by kernel_rfl) hn rfl (by kernel_rfl) (by kernel_rfl) (by kernel_rfl) (by kernel_rfl) (by kernel_rfl) (by kernel_rfl) ⟨Eqs.mono4 _,Eqs.mono4 _,OutN.mono4 _ _,True.mono4,True.mono4,trivial⟩ (aa8 N2ok aaz) (IsOld.all (bx:=[⟨N2,some 3,0,5,.agg #[.bool false,.slice none 0 0],some (4,14,2),[]⟩]) ⟨someNe,trivial⟩) (DisOld.all (bx:=[⟨N2,some 3,0,5,.agg #[.bool false,.slice none 0 0],some (4,14,2),[]⟩]) ⟨someNe,trivial⟩) ?_ ?_
    ·exact⟨.norm 12 rfl rfl rfl (fun a_ w_ _ t r R D _ _=>aa0 N2ok ((R 2 rfl).trans f2) (b2.keep t ⟨someNe,trivial⟩)),.norm 13 rfl rfl rfl (fun a_ w_ _ t r R D _ _=>aa0 N2ok ((R 3 rfl).trans f3) (b3.keep t ⟨someNe,trivial⟩)),.norm 14 rfl rfl rfl (fun a_ w_ _ t r R D _ _=>agu (L1:=Bx) (L2:=By) (abc (show a_.eval (.tmp 12)=.agg #[.bool nx,.slice ax xs.length cx]from D 0 rfl) (Gx.rl r) Lx) (abc (show a_.eval (.tmp 13)=.agg #[.bool ny,.slice ay ys.length cy]from D 1 rfl) (Gy.rl r) Ly) (by omega) (by omega)),.alloc 0 _ rfl rfl (.inl ⟨rfl,rfl⟩) rfl rfl rfl rfl rfl,.store 0 _ _ _ rfl rfl rfl rfl rfl rfl rfl (fun ia h=>by cases h;rfl) rfl rfl rfl OutN.cs,trivial⟩
    ·intro a11 w11 gs11 hn11 hd11 hBt hr hR hP hX hU;replace hn:=hn11;replace hd:=hd11.trans hd;have ne4_5:(gs1 2)≠gs11 0:=by have h1:=b4.lt;have h2:=(hX 0 _ rfl).2.2.1 (by simp);omega
     replace b2:=b2.keep hBt ⟨someNe,trivial⟩;replace b3:=b3.keep hBt ⟨someNe,trivial⟩;replace b4:=b4.keep hBt ⟨someNe,trivial⟩;obtain⟨n_12,a_12,c_12,r_12,e14,G12,l12⟩:OutN (((Int.gcd zx zy:Nat):Int)) ((Bx)+(By)) (a11.eval (.tmp 14)) w11:=hP 2 (by decide);have b5:BoxV N2 w11 (gs11 0) (.agg #[.bool n_12,.slice a_12 r_12.length c_12]):=ai5 (hX 0 _ rfl).2.2.2 e14;have f5:=(hX 0 _ rfl).1;have u5:w.heap.size<=gs11 0:=Nat.le_trans HB.size ((hX 0 _ rfl).2.2.1 (by simp));replace f2:=(hR 2 rfl).trans f2;replace f3:=(hR 3 rfl).trans f3;replace f4:=(hR 4 rfl).trans f4;replace Gx:=Gx.rl hr;replace Gy:=Gy.rl hr;replace HB:=HB.trans (hBt.below HB.size (UpOld.all (bx:=[⟨N2,some 3,0,5,.agg #[.bool false,.slice none 0 0],some (4,14,2),[]⟩]) ⟨someNe,trivial⟩));clear hBt hr hR hP hX hU;refine wp_seq ?_;refine aaq [some 15,some 16,some 17,some 18,some 19,some 20,some 21,none] [Eqs (.agg #[.bool nx,.slice ax xs.length cx]),Eqs (.agg #[.bool n_12,.slice a_12 r_12.length c_12]),OutN ((ov zx ((Int.gcd zx zy:Nat):Int))) (Bx),Eqs (.agg #[.bool ny,.slice ay ys.length cy]),Eqs (.agg #[.bool n_12,.slice a_12 r_12.length c_12]),OutN ((ov zy ((Int.gcd zx zy:Nat):Int))) (By),OutQ ((ov zx ((Int.gcd zx zy:Nat):Int))) ((ov zy ((Int.gcd zx zy:Nat):Int))) ((Bx)+(By)),Tt] [⟨Q4,none,(gs1 2),4,.agg #[.bool false,.slice none 0 0,.bool false,.slice none 0 0],some (7,21,6),[]⟩] [] (by kernel_rfl) hn rfl (by kernel_rfl) (by kernel_rfl) (by kernel_rfl) (by kernel_rfl) (by kernel_rfl) (by kernel_rfl) ⟨Eqs.mono4 _,Eqs.mono4 _,OutN.mono4 _ _,Eqs.mono4 _,Eqs.mono4 _,OutN.mono4 _ _,OutQ.mono4 _ _ _,True.mono4,trivial⟩ (aa8 Q4ok aaz) (IsOld.all (bx:=[⟨Q4,none,(gs1 2),4,.agg #[.bool false,.slice none 0 0,.bool false,.slice none 0 0],some (7,21,6),[]⟩]) ⟨fun _=>⟨f4,b4⟩,trivial⟩) (DisOld.all (bx:=[⟨Q4,none,(gs1 2),4,.agg #[.bool false,.slice none 0 0,.bool false,.slice none 0 0],some (7,21,6),[]⟩]) ⟨fun _=>trivial,trivial⟩) ?_ ?_
     ·exact⟨.norm 15 rfl rfl rfl (fun a_ w_ _ t r R D _ _=>aa0 N2ok ((R 2 rfl).trans f2) (b2.keep t ⟨fun _=>ne2_4.symm,trivial⟩)),.norm 16 rfl rfl rfl (fun a_ w_ _ t r R D _ _=>aa0 N2ok ((R 5 rfl).trans f5) (b5.keep t ⟨fun _=>ne4_5,trivial⟩)),.norm 17 rfl rfl rfl (fun a_ w_ _ t r R D _ _=>ac6 (abc (show a_.eval (.tmp 15)=.agg #[.bool nx,.slice ax xs.length cx]from D 0 rfl) (Gx.rl r) Lx) (abc (show a_.eval (.tmp 16)=.agg #[.bool n_12,.slice a_12 r_12.length c_12]from D 1 rfl) (G12.rl r) l12) (by omega) (by omega) (air _ (by omega))),.norm 18 rfl rfl rfl (fun a_ w_ _ t r R D _ _=>aa0 N2ok ((R 3 rfl).trans f3) (b3.keep t ⟨fun _=>ne3_4.symm,trivial⟩)),.norm 19 rfl rfl rfl (fun a_ w_ _ t r R D _ _=>aa0 N2ok ((R 5 rfl).trans f5) (b5.keep t ⟨fun _=>ne4_5,trivial⟩)),.norm 20 rfl rfl rfl (fun a_ w_ _ t r R D _ _=>ac6 (abc (show a_.eval (.tmp 18)=.agg #[.bool ny,.slice ay ys.length cy]from D 3 rfl) (Gy.rl r) Ly) (abc (show a_.eval (.tmp 19)=.agg #[.bool n_12,.slice a_12 r_12.length c_12]from D 4 rfl) (G12.rl r) l12) (by omega) (by omega) (air _ (by omega))),.norm 21 rfl rfl rfl (fun a_ w_ _ t r R D _ _=>awe (L:=(Bx)+(By)) ((show OutN ((ov zx ((Int.gcd zx zy:Nat):Int))) (Bx) (a_.eval (.tmp 17)) w_ from D 2 rfl).to rfl (by omega)) ((show OutN ((ov zy ((Int.gcd zx zy:Nat):Int))) (By) (a_.eval (.tmp 20)) w_ from D 5 rfl).to rfl (by omega))),.store 0 _ _ _ rfl rfl rfl rfl rfl rfl rfl (fun ia h=>by cases h) rfl rfl rfl OutQ.cs,trivial⟩
     ·intro a13 w13 gs13 hn13 hd13 hBt hr hR hP hX hU;replace hn:=hn13;replace hd:=hd13.trans hd;obtain⟨n_14,a_14,c_14,r_14,o_14,b_14,d_14,s_14,e21,G14,K14,l14,k14⟩:OutQ ((ov zx ((Int.gcd zx zy:Nat):Int))) ((ov zy ((Int.gcd zx zy:Nat):Int))) ((Bx)+(By)) (a13.eval (.tmp 21)) w13:=hP 6 (by decide);have b4:BoxV Q4 w13 ((gs1 2)) (.agg #[.bool n_14,.slice a_14 r_14.length c_14,.bool o_14,.slice b_14 s_14.length d_14]):=acw ((hX 0 _ rfl).2.1 rfl) (hX 0 _ rfl).2.2.2 e21;replace f4:a13.eval (.tmp 4)=_:=(hR 4 rfl).trans f4;replace Gx:=Gx.rl hr;replace Gy:=Gy.rl hr;replace G12:=G12.rl hr;replace HB:=HB.trans (hBt.below HB.size (UpOld.all (bx:=[⟨Q4,none,(gs1 2),4,.agg #[.bool false,.slice none 0 0,.bool false,.slice none 0 0],some (7,21,6),[]⟩]) ⟨fun _=>u4,trivial⟩));clear hBt hr hR hP hX hU;refine wp_ret ?_;repeat(first|refine ach ?_|refine acb ?_|refine aca ?_)
      exact bodyPost_ret (v:=.agg #[.bool n_14,.slice a_14 r_14.length c_14,.bool o_14,.slice b_14 s_14.length d_14]) (acc rfl f4 (awd b4)) hd ⟨_,rfl,OutQ.to (ajd rfl G14 K14 l14 k14) (al4 hc7').1 (al4 hc7').2 (by omega),HB⟩
theorem asw:Has Tryz.prog 65:=by unfold Has;kernel_rfl
theorem au5{dst:Option Tmp}{ty:TypeId}{pos:String}{after:Array Edge}{guard:Option (Nat×Bool)}{a:Act}{w:World}{ats:Array TypeId}{i j:Nat}{Bx:Nat}{zx:Int}(Hx:OutN zx Bx (a.eval (.tmp i)) w){By:Nat}{zy:Int}(Hy:OutN zy By (a.eval (.tmp j)) w)(hL:Bx+By<=300000)(hy:zy≠0):
  Does Tryz.prog {dst,op:=.call {callee:=.value (.func 65),args:=#[.tmp i,.tmp j],argTypes:=ats},type:=ty,pos,after,guard} a.eval w fun v w'=>Below w.heap.size w w'/\(OutQ (nm zx zy) (dn zx zy) (Bx+By)) v w':=by
 obtain⟨nx,ax,cx,xs,ex,Gx,Lx⟩:=Hx;obtain⟨ny,ay,cy,ys,ey,Gy,Ly⟩:=Hy;refine aas asw _ (by simp only[List.map_toArray,List.map_cons,List.map_nil,ex,ey]) ((axu w Bx _ _ _ _ _ Gx Lx By _ _ _ _ _ Gy Ly hL hy).mono ?_);rintro e w' ⟨v,rfl,h1,hb⟩;exact⟨_,rfl,hb,h1⟩
theorem nset{w2:World}{bv i:Nat}{es:List WE}{ng:Bool}{a:Option Addr}{m c:Nat}(e2:w2.heap[bv]? = some (.cells (flat es).toArray 83 (0,0)))(hi:i<es.length):∃W,W=((w2.setCell ⟨bv,i*2,none⟩ (.bool ng)).setCell ⟨bv,i*2+1,none⟩ (.slice a m c))/\W.heap[bv]? = some (.cells (flat (es.set i ⟨ng,a,m,c,[]⟩)).toArray 83 (0,0))/\Rl w2 W/\∀B,B<=bv->Below B w2 W:=by
 refine⟨_,rfl,?_⟩;generalize hW:((w2.setCell ⟨bv,i*2,none⟩ (.bool ng)).setCell ⟨bv,i*2+1,none⟩ (.slice a m c))=W;have hbW:W.heap[bv]? = some (.cells (flat (es.set i ⟨ng,a,m,c,[]⟩)).toArray 83 (0,0)):=by
  rw[<-hW,aeo es i _ hi];have s1:=heap_setCell_same w2 bv (i*2) _ _ (.bool ng) e2;have s2:=heap_setCell_same _ bv (i*2+1) _ _ (.slice a m c) s1;rw[s2];simp
 have hot:∀k,k≠bv->W.heap[k]? = w2.heap[k]? :=fun k hn=>by rw[<-hW,heap_setCell_other _ ⟨bv,i*2+1,none⟩ k _ hn,heap_setCell_other _ ⟨bv,i*2,none⟩ k _ hn]
 have hsz:W.heap.size=w2.heap.size:=by rw[<-hW];simp[World.setCell]
 have hou:W.os=w2.os/\W.tape=w2.tape/\W.output=w2.output:=by rw[<-hW];exact⟨rfl,rfl,rfl⟩
 refine⟨hbW,⟨Nat.le_of_eq hsz.symm,fun q k y e=>?_,fun k cs T hT e=>?_⟩,fun B hB=>⟨hou.1,hou.2.1,hou.2.2,Nat.le_of_eq hsz.symm,fun k hk=>hot k (by omega)⟩⟩
 ·by_cases hq:q.block=bv
  ·exfalso;obtain⟨qb,qo,qm⟩:=q;simp only at hq;subst hq;simp only[World.cell?,e2]at e;cases qm with
   |none=>exact al3 es qo k y (by simpa using e)
   |some m=>simp at e
  ·rw[World.cell?_of_block (w:=w2) (hot q.block hq)];exact e
 ·by_cases hk:k=bv
  ·exfalso;subst hk;rw[e2]at e;injection e with e;injection e with _ e _;rcases hT with rfl|rfl
   ·exact absurd e (by decide)
   ·exact absurd e (by decide)
  ·exact(hot k hk).trans e
theorem awg{w2:World}{g:Nat}{ng0:Bool}{a0:Option Addr}{m0 c0:Nat}(ng:Bool)(a:Option Addr)(m c:Nat)(e2:w2.heap[g]? = some (.cells #[.bool ng0,.slice a0 m0 c0] 83 (0,0))):((w2.setCell ⟨g,0,none⟩ (.bool ng)).setCell ⟨g,1,none⟩ (.slice a m c)).heap[g]? = some (.cells #[.bool ng,.slice a m c] 83 (0,0))/\Rl w2 ((w2.setCell ⟨g,0,none⟩ (.bool ng)).setCell ⟨g,1,none⟩ (.slice a m c))/\∀B,B<=g->Below B w2 ((w2.setCell ⟨g,0,none⟩ (.bool ng)).setCell ⟨g,1,none⟩ (.slice a m c)):=by
 obtain⟨W,hW,h1,h2,h3⟩:=nset (w2:=w2) (bv:=g) (i:=0) (es:=[⟨ng0,a0,m0,c0,[]⟩]) (ng:=ng) (a:=a) (m:=m) (c:=c) e2 (by simp);simp only[Nat.zero_mul,Nat.zero_add]at hW;rw[<-hW];exact⟨h1,h2,h3⟩
theorem nsignF(w:World)(z:Int)(v:Value)(L:Nat)(h:OutN z L v w):
  Calls Tryz.prog 46 #[v] w fun e w'=>e=.returned (.int .i64 (Int.sign z))/\Below w.heap.size w w':=by
 obtain⟨ng,ao,cap,rs,rfl,W,l⟩:=h;exact Dm.axe w _ _ _ _ _ W
theorem nminusF(w:World)(z:Int)(v:Value)(L:Nat)(h:OutN z L v w)(hL:L<=1000000):
  Calls Tryz.prog 66 #[v] w fun e w'=>∃r,e=.returned r/\OutN (-z) L r w'/\Below w.heap.size w w':=by
 obtain⟨ng,ao,cap,rs,rfl,W,l⟩:=h;refine(Dm.aja w _ _ _ _ _ W (by omega)).mono ?_;rintro e w' ⟨ng,ao,cap,rs,rfl,G,l,hb⟩;exact⟨_,rfl,⟨_,_,_,_,rfl,G,by omega⟩,hb⟩
def PZ(w:World)(bv n i:Nat)(zs:List Int)(L:Nat):Prop:=
 ∃es:List WE,es.length=n/\w.heap[bv]? = some (.cells (flat es).toArray 83 (0,0))/\(∀(k:Nat) (e:WE) (z:Int),k<i->es[k]? = some e->zs[k]? = some z->OutN z L e.v w)/\∀(k:Nat) (e:WE),i<=k->es[k]? = some e->e=⟨false,none,0,0,[]⟩
theorem PZ.pn{w:World}{bv n i:Nat}{zs:List Int}{L:Nat}(h:PZ w bv n i zs L):PN w bv n i zs L:=by
 obtain⟨es,h1,h2,h3,_⟩:=h;exact⟨es,h1,h2,h3⟩
theorem PZ.below{w w':World}{bv n i:Nat}{zs:List Int}{L:Nat}(h:PZ w bv n i zs L)(hb:Below w.heap.size w w'):PZ w' bv n i zs L:=by
 have hl:=h.pn.lt;obtain⟨es,h1,h2,h3,h4⟩:=h;exact⟨es,h1,(hb.block bv hl).trans h2,fun k e z hk he hz=>(h3 k e z hk he hz).rl (Rl.of_below hb),h4⟩
theorem PZ.start{w:World}{bv n:Nat}{zs:List Int}{L:Nat}(h:w.heap[bv]? = some (.cells (flat (List.replicate n ⟨false,none,0,0,[]⟩)).toArray 83 (0,0))):PZ w bv n 0 zs L:=⟨_,by simp,h,fun k e z hk=>(by omega),fun k e _ he=>List.eq_of_mem_replicate (List.mem_of_getElem? he)⟩
theorem PZ.zero{w:World}{bv n i:Nat}{zs:List Int}{L:Nat}(h:PZ w bv n i zs L)(hz:zs[i]? = some 0):PZ w bv n (i+1) zs L:=by
 obtain⟨es,h1,h2,h3,h4⟩:=h;refine⟨es,h1,h2,fun k e z hk he hz'=>?_,fun k e hk he=>h4 k e (by omega) he⟩;by_cases hki:k=i
 ·subst hki;rw[hz]at hz';obtain rfl:=Option.some.inj hz';rw[h4 k e (Nat.le_refl _) he];exact aez _ _
 ·exact h3 k e z (by omega) he hz'
theorem PZ.put{w1 w2:World}{bv n i:Nat}{zs:List Int}{L:Nat}{z:Int}{ng:Bool}{a:Option Addr}{m c:Nat}(h:PZ w1 bv n i zs L)(hb:Below w1.heap.size w1 w2)(hi:i<n)(hz:zs[i]? = some z)(hv:OutN z L (.agg #[.bool ng,.slice a m c]) w2):
  PZ ((w2.setCell ⟨bv,i*2,none⟩ (.bool ng)).setCell ⟨bv,i*2+1,none⟩ (.slice a m c)) bv n (i+1) zs L/\∀B,B<=bv->B<=w1.heap.size->Below B w1 ((w2.setCell ⟨bv,i*2,none⟩ (.bool ng)).setCell ⟨bv,i*2+1,none⟩ (.slice a m c)):=by
 have hlt:=h.pn.lt;obtain⟨es,e1,e2,e4,e5⟩:=h;obtain⟨W,hW,hbW,hrl,hbl⟩:=nset (ng:=ng) (a:=a) (m:=m) (c:=c) (i:=i) ((hb.block bv hlt).trans e2) (by omega);rw[<-hW];refine⟨⟨es.set i ⟨ng,a,m,c,[]⟩,by simp[e1],hbW,fun k e z' hk he hz'=>?_,fun k e hk he=>?_⟩,fun B hB hB1=>(hb.mono hB1).trans (hbl B hB)⟩
 ·by_cases hki:k=i
  ·subst hki;rw[List.getElem?_set_self (by omega)]at he;obtain rfl:=Option.some.inj he;rw[hz]at hz';obtain rfl:=Option.some.inj hz';exact hv.rl hrl
  ·rw[List.getElem?_set_ne (fun h=>hki h.symm)]at he;exact((e4 k e z' (by omega) he hz').rl (Rl.of_below hb)).rl hrl
 ·rw[List.getElem?_set_ne (by omega)]at he;exact e5 k e (by omega) he
theorem PZ.over{w1 w2:World}{bv n i:Nat}{zs:List Int}{L:Nat}{y z:Int}{ng:Bool}{a:Option Addr}{m c:Nat}(h:PZ w1 bv n (i+1) (zs.set i y) L)(hb:Below w1.heap.size w1 w2)(hi:i<n)(hz:zs[i]? = some z)(hv:OutN z L (.agg #[.bool ng,.slice a m c]) w2):
  PZ ((w2.setCell ⟨bv,i*2,none⟩ (.bool ng)).setCell ⟨bv,i*2+1,none⟩ (.slice a m c)) bv n (i+1) zs L/\∀B,B<=bv->B<=w1.heap.size->Below B w1 ((w2.setCell ⟨bv,i*2,none⟩ (.bool ng)).setCell ⟨bv,i*2+1,none⟩ (.slice a m c)):=by
 have hlt:=h.pn.lt;obtain⟨es,e1,e2,e4,e5⟩:=h;obtain⟨W,hW,hbW,hrl,hbl⟩:=nset (ng:=ng) (a:=a) (m:=m) (c:=c) (i:=i) ((hb.block bv hlt).trans e2) (by omega);rw[<-hW];refine⟨⟨es.set i ⟨ng,a,m,c,[]⟩,by simp[e1],hbW,fun k e z' hk he hz'=>?_,fun k e hk he=>?_⟩,fun B hB hB1=>(hb.mono hB1).trans (hbl B hB)⟩
 ·by_cases hki:k=i
  ·subst hki;rw[List.getElem?_set_self (by omega)]at he;obtain rfl:=Option.some.inj he;rw[hz]at hz';obtain rfl:=Option.some.inj hz';exact hv.rl hrl
  ·rw[List.getElem?_set_ne (fun h=>hki h.symm)]at he;exact((e4 k e z' (by omega) he (by rw[List.getElem?_set_ne (fun h=>hki h.symm)];exact hz')).rl (Rl.of_below hb)).rl hrl
 ·rw[List.getElem?_set_ne (by omega)]at he;exact e5 k e (by omega) he
theorem axv{zs:List Int}{N:Int}(hN:0<N)(h:∀z∈zs,(z.natAbs:Int)<N):∀k,((gcdL (zs.take k)).natAbs:Int)<N:=by
 intro k;induction k with
 |zero=>simpa[gcdL]using hN
 |succ k ih=>
  by_cases hk:k<zs.length
  ·obtain⟨z,hz⟩:∃z,zs[k]? = some z:=⟨_,List.getElem?_eq_getElem hk⟩;unfold gcdL at ih ⊢;rw[acj _ _ hz];exact ar5 ih (h z (List.mem_of_getElem? hz))
  ·rw[List.take_of_length_le (by omega)];rwa[List.take_of_length_le (by omega)]at ih
set_option maxRecDepth 100000 in
theorem af0(w:World)(v:Value)(zs:List Int)(L:Nat)(h:NRow w v zs (3*L))(hn:zs.length<=100000)(hL:L<=100000)(hb0:∀z∈zs,(z.natAbs:Int)<pw L)(h0:zs≠[]):
  Calls Tryz.prog 45 #[v] w fun e w'=>∃r,e=.returned r/\NRow w' r (red zs) (3*L)/\Below w.heap.size w w':=by
 obtain⟨ar,cr,rfl,_⟩:=h.parts;have hpos:0<zs.length:=List.length_pos_iff.2 h0;have HR:=hide h;have HBZ:=hide hb0;obtain⟨n,hnn⟩:∃n,zs.length=n:=⟨_,rfl⟩;rw[hnn]at HR hn hpos ⊢;obtain⟨b,off,har⟩:=HR.out.some hpos;subst har;have HN:=hide hnn;have hba:=hAl w (.cells #[.bool false,.slice none 0 0] 83);have hna:=heap_alloc_new w (.cells #[.bool false,.slice none 0 0] 83);have HBA:=hide hba;have HNA:=hide hna;clear h h0 hb0 hnn hba hna;obtain⟨iN,hi',hz0',hz1',hz2'⟩:=info_parts infoN;go_enter Tryz.func45,Tryz.ntmps45
 go_wp2_with fail
 generalize w.alloc (.cells #[.bool false,.slice none 0 0] 83)=wa at *
 go_loopw [4,5] (fun sv iv wr=>∃(k:Nat),iv=.int .i64 k/\k<=n/\sv=.int .i64 (sgnL (zs.take k))/\Below w.heap.size w wr/\∃ng a m c,wr.heap[w.heap.size]? = some (.cells #[.bool ng,.slice a m c] 83 (0,0))/\OutN (gcdL (zs.take k)) (3*L) (.agg #[.bool ng,.slice a m c]) wr) (fun _ iv _=>n-(intOf iv).toNat)
 case atStart=>exact⟨0,rfl,Nat.zero_le _,rfl,HBA.out,false,none,0,0,HNA.out,aez _ _⟩
 case round=>
  obtain⟨k,rfl,hk,rfl,hbw,ngg,ag,mg,cg,hgb,hgo⟩:=hrel;have HW:=hide hbw;have HRr:=hide (HR.out.below hbw);have HG:=hide hgo;have HGB:=hide hgb;obtain⟨hgl,g0,g1,gf0,gf1⟩:=aan hgb;by_cases hlt:k<n
  ·have hlt':(k:Int)<(n:Int):=by omega
   obtain⟨z,hz⟩:∃z,zs[k]? = some z:=⟨_,List.getElem?_eq_getElem (by have:=HN.out;omega)⟩;have HZ:=hide hz;have hgs:gcdL (zs.take (k+1))=((Int.gcd (gcdL (zs.take k)) z:Nat):Int):=acj _ _ hz;have hss:sgnL (zs.take (k+1))=if sgnL (zs.take k)=0 then Int.sign z else sgnL (zs.take k):=acj _ _ hz
   have HGS:=hide hgs;have HSS:=hide hss;have HFIT:Hid (((((Int.gcd (gcdL (zs.take k)) z:Nat):Int)).natAbs:Int)<pw L):=(show _<_ by rw[<-hgs];exact axv (ant L) HBZ.out (k+1));obtain⟨sk,hsk⟩:∃s,sgnL (zs.take k)=s:=⟨_,rfl⟩;have HSK:=hide hsk;rw[hsk]at HSS ⊢;clear hbw hgo hgb hz hgs hss hsk;go_upto_region 6 with fail
   refine ab5 6 [15,16,17,18,19,20] [(OutN (gcdL (zs.take k)) (3*L)),Eqs (.slice (some ⟨b,off,none⟩) n cr),Eqs (.int .i64 (k:Int)),Eqs (.pointer (some ⟨b,off+k*2,none⟩)),(OutN z (3*L)),(OutN (((Int.gcd (gcdL (zs.take k)) z:Nat):Int)) (3*L))] rfl rfl (by decide) (by kernel_rfl) (by kernel_rfl) (by decide) (by kernel_rfl) ⟨(Mono.of4 (OutN.mono4 _ _)),Eqs.mono _,Eqs.mono _,Eqs.mono _,(Mono.of4 (OutN.mono4 _ _)),(Mono.of4 (OutN.mono4 _ _)),trivial⟩ ?_ ?_
   ·exact⟨⟨rfl,fun a_ w_ _ hB hR hD=>abr ((hR 3 rfl).trans (aab rfl)) ((hB.cell (p:=⟨w.heap.size,0,none⟩) hgl).trans g0) ((hB.cell (p:=⟨w.heap.size,0+1,none⟩) hgl).trans g1) (Mono.of4 (OutN.mono4 _ _) _ _ _ hB HG.out)⟩,
      ⟨rfl,fun a_ w_ _ hB hR hD=>aai ((hR 0 rfl).trans (aab rfl))⟩,
      ⟨rfl,fun a_ w_ _ hB hR hD=>aai ((hR 5 rfl).trans (aab rfl))⟩,
      ⟨rfl,fun a_ w_ _ hB hR hD=>adb (show a_.eval (.tmp 16)=.slice (some ⟨b,off,none⟩) n cr from hD 1 rfl) rfl (show a_.eval (.tmp 17)=.int .i64 (k:Int)from hD 2 rfl) (by omega)⟩,
      ⟨rfl,fun a_ w_ _ hB hR hD=>ass (show a_.eval (.tmp 18)=.pointer (some ⟨b,off+k*2,none⟩)from hD 3 rfl) rfl (HRr.out.below hB) HZ.out⟩,
      ⟨rfl,fun a_ w_ _ hB hR hD=>(agu (L1:=3*L) (L2:=3*L) (show(OutN (gcdL (zs.take k)) (3*L)) (a_.eval (.tmp 15)) w_ from hD 0 rfl) (show(OutN z (3*L)) (a_.eval (.tmp 19)) w_ from hD 4 rfl) (by omega) (by omega)).mono (fun _ _ h_=>⟨h_.1,h_.2.fit HFIT.out⟩)⟩,
      trivial⟩
   ·intro a' w' hn' hd' hB' hR' hP';obtain⟨u15,e15⟩:∃u,a'.eval (.tmp 15)=u:=⟨_,rfl⟩;have e16:a'.eval (.tmp 16)=.slice (some ⟨b,off,none⟩) n cr:=hP' 1 (by decide);have e17:a'.eval (.tmp 17)=.int .i64 (k:Int):=hP' 2 (by decide);have e18:a'.eval (.tmp 18)=.pointer (some ⟨b,off+k*2,none⟩):=hP' 3 (by decide);obtain⟨u19,e19⟩:∃u,a'.eval (.tmp 19)=u:=⟨_,rfl⟩;obtain⟨u20,e20⟩:∃u,a'.eval (.tmp 20)=u:=⟨_,rfl⟩;have hT:(OutN (((Int.gcd (gcdL (zs.take k)) z:Nat):Int)) (3*L)) (a'.eval (.tmp 20)) w':=hP' 5 (by decide);rw[e20]at hT;refine abn hn' hd' hR' (.same rfl <| .same rfl <| .same rfl <| .same rfl <| .same rfl <| .same rfl <| .same rfl <| .same rfl <| .same rfl <| .same rfl <| .same rfl <| .same rfl <| .same rfl <| .same rfl <| .same rfl <| .new e15 <| .new e16 <| .new e17 <| .new e18 <| .new e19 <| .new e20 <| .same rfl <| .same rfl <| .same rfl <| .same rfl <| .same rfl <| .same rfl <| .same rfl <| .same rfl <| .same rfl <| .same rfl <| .same rfl <| .same rfl <| .same rfl <| .same rfl <| .same rfl <| .same rfl <| .same rfl <| .same rfl <| .same rfl <| .same rfl <| .same rfl <| .same rfl <| .same rfl <| .same rfl <| .same rfl <| .same rfl <| .same rfl <| .same rfl <| .same rfl <| .same rfl <| .same rfl <| .same rfl <| .same rfl <| .same rfl <| .same rfl <| .same rfl <| .same rfl <| .same rfl <| .same rfl <| .nil) ?_;clear e15 e16 e17 e18 e19 e20;obtain⟨ng1,a1,m1,c1,rfl⟩:=hT.agg;have hgb':=(hB'.block _ (aaa HGB.out)).trans HGB.out;obtain⟨_,c0',c1',f0,f1⟩:=aan hgb';obtain⟨s1,s2,s3⟩:=awg ng1 a1 m1 c1 hgb';have HT:=hide (hT.rl s2);have HNB:=hide s1;have HBW2:=hide ((HW.out.trans (hB'.mono HW.out.size)).trans (s3 _ (Nat.le_refl _)));clear hB' hR' hP' hn' hd' hT hgb' g0 g1 gf0 gf1 hgl s1 s2 s3;by_cases hs0:sk=0
    ·have hs0':(sk==0)=true:=by simpa using hs0
     clear hs0;go_upto_region 8 with fail
     generalize ((w'.setCell ⟨w.heap.size,0,none⟩ (.bool ng1)).setCell ⟨w.heap.size,1,none⟩ (.slice a1 m1 c1))=w2 at *
     obtain⟨b5,o5,ngx,ax,mx,cx,hbb,hbl,x0,x1,hxo⟩:=(HR.out.below HBW2.out).cell HZ.out;simp only[Option.some.injEq,Addr.mk.injEq,and_true]at hbb;obtain⟨rfl,rfl⟩:=hbb;have K1:=hide (nsignF w2 z _ _ hxo);clear c0' c1' f0 f1 hxo;go_wp2_with fail
     refine K1.out.mono ?_;rintro e w3 ⟨rfl,hb3⟩;have HB3:=hide (HBW2.out.trans (hb3.mono HBW2.out.size));have HT3:=hide (HT.out.rl (Rl.of_below hb3));have HN3:=hide ((hb3.block _ (aaa HNB.out)).trans HNB.out);clear hb3 K1 x0 x1 hbl;go_wp2;go_roundw
     case rel=>exact⟨k+1,by go_num,by omega,by rw[HSS.out,if_pos (by simpa using hs0')],HB3.out,ng1,a1,m1,c1,HN3.out,by rw[HGS.out];exact HT3.out⟩
     case measure=>simp[intOf];omega
    ·have hs0':(sk==0)=false:=by simpa using hs0
     clear hs0;go_wp2;go_roundw
     case rel=>exact⟨k+1,by go_num,by omega,by rw[HSS.out,if_neg (by simpa using hs0')],HBW2.out,ng1,a1,m1,c1,HNB.out,by rw[HGS.out];exact HT.out⟩
     case measure=>simp[intOf];omega
  ·have hlt':decide ((k:Int)<(n:Int))=false:=by simp;omega
   obtain rfl:k=n:=by omega
   rw[List.take_of_length_le (by have:=HN.out;omega)]at HG ⊢;clear hlt hbw hgo hgb;have HZL:Hid ((red zs).length=k):=(show _=_ by rw[red,List.length_map];exact HN.out);obtain⟨sk,hsk⟩:∃s,sgnL zs=s:=⟨_,rfl⟩;have HSK:=hide hsk;rw[hsk];clear hsk;go_wp2_with (refine wpList_make_full _ rfl (.tmp 29) (.tmp 29) 76 rfl _ 83 iN (.agg #[.bool false,.slice none 0 0]) 2 Tryz.underlying76 hi' hz0' hz1' .i64 .i64 _ _ k rfl rfl (by omega) (by omega) (by rw[hz2'];omega) (by unfold maxLen;omega) (Nat.le_refl _) ?hK)
   case hK=>
    intro w1 hown hgrow;have hb1:Below wr.heap.size wr w1:=(Below.refl _ _).grown hgrow (Nat.le_refl _) (by simp);obtain⟨_,hmb⟩:=ade hown;rw[afv]at hmb;obtain⟨bv,hbv⟩:∃bv,wr.heap.size=bv:=⟨_,rfl⟩;have HBV:Hid (w.heap.size<bv):=(show w.heap.size<bv by rw[<-hbv];exact hgl);rw[hbv]at hmb ⊢;have HP0:=hide (PZ.start (zs:=red zs) (L:=3*L) hmb);have HB1:=hide (HW.out.trans (hb1.mono HW.out.size));have HG1:=hide ((hb1.block _ hgl).trans HGB.out);have HGO1:=hide (HG.out.rl (Rl.of_below hb1));clear hown hgrow hb1 hmb hbv g0 g1 gf0 gf1 hgl HRr HW HGB HG;go_wp2_with fail
    go_loopw [7] (fun iv wr=>∃(j:Nat),iv=.int .i64 j/\j<=k/\Below w.heap.size w wr/\PZ wr bv k j (red zs) (3*L)/\wr.heap[w.heap.size]? = some (.cells #[.bool ngg,.slice ag mg cg] 83 (0,0))/\OutN (gcdL zs) (3*L) (.agg #[.bool ngg,.slice ag mg cg]) wr) (fun iv _=>k-(intOf iv).toNat)
    case atStart=>exact⟨0,rfl,Nat.zero_le _,HB1.out,HP0.out,HG1.out,HGO1.out⟩
    case round=>
     obtain⟨j,rfl,hj,hbw,hp,hgb,hgo⟩:=hrel;have HW:=hide hbw;have HP:=hide hp;have HGB:=hide hgb;have HG:=hide hgo;obtain⟨hgl,g0,g1,gf0,gf1⟩:=aan hgb;by_cases hlt:j<k
     ·have hlt':(j:Int)<(k:Int):=by omega
      obtain⟨z,hz⟩:∃z,zs[j]? = some z:=⟨_,List.getElem?_eq_getElem (by have:=HN.out;omega)⟩;have HZ:=hide hz;have HRD:Hid ((red zs)[j]? = some (z/dvs zs)):=(show _=_ by rw[red,List.getElem?_map,hz];rfl);have K1:=hide (nsignF wr _ _ _ hgo);clear hbw hp hgb hgo hz;by_cases hg0:gcdL zs=0
      ·have hall:∀y∈zs,y=0:=fun y hy=>by have:=afy y hy;rw[hg0]at this;exact Int.zero_dvd.1 this
       have hsg:=ash hall;have hsk:=HSK.out;rw[hsg]at hsk;subst hsk;have hzd:z/dvs zs=0:=by rw[hall z (List.mem_of_getElem? HZ.out)];exact Int.zero_ediv _
       rw[hzd]at HRD;rw[hg0]at K1;clear hall hsg hzd hg0;go_wp2_with fail
       refine K1.out.mono ?_;rintro e w2 ⟨rfl,hb2⟩;have HB2:=hide (HW.out.trans (hb2.mono HW.out.size));have HP2:=hide ((HP.out.below hb2).zero HRD.out);have HG2:=hide (HG.out.rl (Rl.of_below hb2));have HGB2:=hide ((hb2.block _ hgl).trans HGB.out);clear hb2 K1 g0 g1 gf0 gf1 hgl;go_wp2;go_roundw
       case rel=>exact⟨j+1,by go_num,by omega,HB2.out,HP2.out,HGB2.out,HG2.out⟩
       case measure=>simp[intOf];omega
      ·have hgp:0<gcdL zs:=by have:=ae4 zs;omega
       rw[Int.sign_eq_one_of_pos hgp]at K1;have HNE:Hid (gcdL zs≠0):=hg0;have HOV:Hid (ov z (gcdL zs)=z/gcdL zs):=ahv hgp (afy z (List.mem_of_getElem? HZ.out));clear hg0 hgp;go_wp2_with fail
       refine K1.out.mono ?_;rintro e w2 ⟨rfl,hb2⟩;have HW2:=hide (HW.out.trans (hb2.mono HW.out.size));have HPw:=hide (HP.out.below hb2);have HRr:=hide (HR.out.below HW2.out);have HGB2:=hide ((hb2.block _ hgl).trans HGB.out);have HG2:=hide (HG.out.rl (Rl.of_below hb2));clear hb2 K1 g0 g1 gf0 gf1 hgl;obtain⟨hgl,g0,g1,gf0,gf1⟩:=aan HGB2.out;go_upto_region 14 with fail
       refine ab5 8 [40,41,42,43,44,45,46,47] [Eqs (.slice (some ⟨bv,0,none⟩) k k),Eqs (.int .i64 (j:Int)),Eqs (.slice (some ⟨b,off,none⟩) k cr),Eqs (.int .i64 (j:Int)),Eqs (.pointer (some ⟨b,off+j*2,none⟩)),(OutN z (3*L)),(OutN (gcdL zs) (3*L)),(OutN (z/gcdL zs) (3*L))] rfl rfl (by decide) (by kernel_rfl) (by kernel_rfl) (by decide) (by kernel_rfl) ⟨Eqs.mono _,Eqs.mono _,Eqs.mono _,Eqs.mono _,Eqs.mono _,(Mono.of4 (OutN.mono4 _ _)),(Mono.of4 (OutN.mono4 _ _)),(Mono.of4 (OutN.mono4 _ _)),trivial⟩ ?_ ?_
       ·exact⟨⟨rfl,fun a_ w_ _ hB hR hD=>aai ((hR 6 rfl).trans (aab rfl))⟩,
          ⟨rfl,fun a_ w_ _ hB hR hD=>aai ((hR 7 rfl).trans (aab rfl))⟩,
          ⟨rfl,fun a_ w_ _ hB hR hD=>aai ((hR 0 rfl).trans (aab rfl))⟩,
          ⟨rfl,fun a_ w_ _ hB hR hD=>aai ((hR 7 rfl).trans (aab rfl))⟩,
          ⟨rfl,fun a_ w_ _ hB hR hD=>adb (show a_.eval (.tmp 42)=.slice (some ⟨b,off,none⟩) k cr from hD 2 rfl) rfl (show a_.eval (.tmp 43)=.int .i64 (j:Int)from hD 3 rfl) (by omega)⟩,
          ⟨rfl,fun a_ w_ _ hB hR hD=>ass (show a_.eval (.tmp 44)=.pointer (some ⟨b,off+j*2,none⟩)from hD 4 rfl) rfl (HRr.out.below hB) HZ.out⟩,
          ⟨rfl,fun a_ w_ _ hB hR hD=>abr ((hR 3 rfl).trans (aab rfl)) ((hB.cell (p:=⟨w.heap.size,0,none⟩) hgl).trans g0) ((hB.cell (p:=⟨w.heap.size,0+1,none⟩) hgl).trans g1) (Mono.of4 (OutN.mono4 _ _) _ _ _ hB HG2.out)⟩,
          ⟨rfl,fun a_ w_ _ hB hR hD=>(ac6 (Bx:=3*L) (By:=3*L) (show(OutN z (3*L)) (a_.eval (.tmp 45)) w_ from hD 5 rfl) (show(OutN (gcdL zs) (3*L)) (a_.eval (.tmp 46)) w_ from hD 6 rfl) (by omega) (by omega) HNE.out).mono (fun _ _ h_=>⟨h_.1,h_.2.to HOV.out (Nat.le_refl _)⟩)⟩,
          trivial⟩
       ·intro a' w' hn' hd' hB' hR' hP';have e40:a'.eval (.tmp 40)=.slice (some ⟨bv,0,none⟩) k k:=hP' 0 (by decide);have e41:a'.eval (.tmp 41)=.int .i64 (j:Int):=hP' 1 (by decide);have e42:a'.eval (.tmp 42)=.slice (some ⟨b,off,none⟩) k cr:=hP' 2 (by decide);have e43:a'.eval (.tmp 43)=.int .i64 (j:Int):=hP' 3 (by decide);have e44:a'.eval (.tmp 44)=.pointer (some ⟨b,off+j*2,none⟩):=hP' 4 (by decide);obtain⟨u45,e45⟩:∃u,a'.eval (.tmp 45)=u:=⟨_,rfl⟩;obtain⟨u46,e46⟩:∃u,a'.eval (.tmp 46)=u:=⟨_,rfl⟩;obtain⟨u47,e47⟩:∃u,a'.eval (.tmp 47)=u:=⟨_,rfl⟩;have hT:(OutN (z/gcdL zs) (3*L)) (a'.eval (.tmp 47)) w':=hP' 7 (by decide);rw[e47]at hT;refine abn hn' hd' hR' (.same rfl <| .same rfl <| .same rfl <| .same rfl <| .same rfl <| .same rfl <| .same rfl <| .same rfl <| .same rfl <| .same rfl <| .same rfl <| .same rfl <| .same rfl <| .same rfl <| .same rfl <| .same rfl <| .same rfl <| .same rfl <| .same rfl <| .same rfl <| .same rfl <| .same rfl <| .same rfl <| .same rfl <| .same rfl <| .same rfl <| .same rfl <| .same rfl <| .same rfl <| .same rfl <| .same rfl <| .same rfl <| .same rfl <| .same rfl <| .same rfl <| .same rfl <| .same rfl <| .same rfl <| .same rfl <| .same rfl <| .new e40 <| .new e41 <| .new e42 <| .new e43 <| .new e44 <| .new e45 <| .new e46 <| .new e47 <| .same rfl <| .same rfl <| .same rfl <| .same rfl <| .same rfl <| .same rfl <| .same rfl <| .same rfl <| .same rfl <| .same rfl <| .same rfl <| .same rfl <| .nil) ?_;clear e40 e41 e42 e43 e44 e45 e46 e47;obtain⟨ng1,a1,m1,c1,rfl⟩:=hT.agg;obtain⟨⟨ngq,aq,mq,cq,c0',c1'⟩,f0,f1⟩:=(HPw.out.below hB').pn.cells (k:=j) (by omega);have hbv:=HBV.out;by_cases hs:sk<0
        ·have hs':decide (sk<0)=true:=by simpa using hs
         have hset:((red zs).set j (z/gcdL zs))[j]? = some (z/gcdL zs):=by rw[List.getElem?_set_self (by have:=HZL.out;omega)]
         obtain⟨hp2,hbl⟩:=(show PZ w2 bv k j ((red zs).set j (z/gcdL zs)) (3*L)from by obtain⟨es,q1,q2,q3,q4⟩:=HPw.out;exact⟨es,q1,q2,fun i e y hi he hy=>q3 i e y hi he (by rwa[List.getElem?_set_ne (by omega)]at hy),q4⟩).put hB' (by omega) hset hT;have HP3:=hide hp2;have HW3:=hide (HW2.out.trans (hbl w.heap.size (by omega) HW2.out.size));have hgl3:=hbl (w.heap.size+1) (by omega) (by omega);have HGB3:=hide ((hgl3.block _ (by omega)).trans HGB2.out);have HG3:=hide (HG2.out.rl ((Rl.of_below hB').trans (show Rl w' ((w'.setCell ⟨bv,j*2,none⟩ (.bool ng1)).setCell ⟨bv,j*2+1,none⟩ (.slice a1 m1 c1)) by obtain⟨es,q1,q2,_⟩:=HPw.out;obtain⟨W,hW,_,hr,_⟩:=nset (ng:=ng1) (a:=a1) (m:=m1) (c:=c1) (i:=j) ((hB'.block bv HPw.out.pn.lt).trans q2) (by omega);rw[<-hW];exact hr)));have HT3:Hid (z/dvs zs = -(z/gcdL zs)):=(show _=_ by rw[dvs,if_pos (by rw[HSK.out];exact hs),Int.ediv_neg]);clear hB' hR' hP' hn' hd' hT hset hp2 hbl hgl3 g0 g1 gf0 gf1 hgl hs;go_upto_region 16 with fail
         generalize ((w'.setCell ⟨bv,j*2,none⟩ (.bool ng1)).setCell ⟨bv,j*2+1,none⟩ (.slice a1 m1 c1))=w3 at *
         obtain⟨ngd,ad,md,cd,d0,d1,hd⟩:=HP3.out.pn.at (k:=j) (by omega) (by omega) (by rw[List.getElem?_set_self (by have:=HZL.out;omega)]);rw[Nat.zero_add]at d0 d1;have K2:=hide (nminusF w3 _ _ _ hd (by omega));clear c0' c1' f0 f1 hd;go_wp2_with fail
         refine K2.out.mono ?_;rintro e w4 ⟨r4,rfl,hr4,hb4⟩;obtain⟨ng4,a4,m4,c4,rfl⟩:=hr4.agg;obtain⟨⟨ngq,aq,mq,cq,c0',c1'⟩,f0,f1⟩:=(HP3.out.below hb4).pn.cells (k:=j) (by omega);rw[<-HT3.out]at hr4;obtain⟨hp5,hbl⟩:=HP3.out.over hb4 (by omega) HRD.out hr4;have HP5:=hide hp5;have HW5:=hide (HW3.out.trans (hbl w.heap.size (by omega) HW3.out.size));have hl3:=aaa HGB3.out;have hgl5:=hbl (w.heap.size+1) (by omega) (by omega);have HGB5:=hide ((hgl5.block _ (by omega)).trans HGB3.out);have HG5:=hide (HG3.out.rl ((Rl.of_below hb4).trans (show Rl w4 ((w4.setCell ⟨bv,j*2,none⟩ (.bool ng4)).setCell ⟨bv,j*2+1,none⟩ (.slice a4 m4 c4)) by obtain⟨es,q1,q2,_⟩:=HP3.out;obtain⟨W,hW,_,hr,_⟩:=nset (ng:=ng4) (a:=a4) (m:=m4) (c:=c4) (i:=j) ((hb4.block bv HP3.out.pn.lt).trans q2) (by omega);rw[<-hW];exact hr)));clear d0 d1 hr4 hb4 hp5 hbl hl3 hgl5 K2;go_wp2;go_roundw
         case rel=>exact⟨j+1,by go_num,by omega,HW5.out,HP5.out,HGB5.out,HG5.out⟩
         case measure=>simp[intOf];omega
        ·have hs':decide (sk<0)=false:=by simpa using hs
         have HT3:Hid (z/dvs zs=z/gcdL zs):=(show _=_ by rw[dvs,if_neg (by rw[HSK.out];exact hs)]);rw[<-HT3.out]at hT;obtain⟨hp2,hbl⟩:=HPw.out.put hB' (by omega) HRD.out hT;have HP3:=hide hp2;have HW3:=hide (HW2.out.trans (hbl w.heap.size (by omega) HW2.out.size));have hgl3:=hbl (w.heap.size+1) (by omega) (by omega);have HGB3:=hide ((hgl3.block _ (by omega)).trans HGB2.out);have HG3:=hide (HG2.out.rl ((Rl.of_below hB').trans (show Rl w' ((w'.setCell ⟨bv,j*2,none⟩ (.bool ng1)).setCell ⟨bv,j*2+1,none⟩ (.slice a1 m1 c1)) by obtain⟨es,q1,q2,_⟩:=HPw.out;obtain⟨W,hW,_,hr,_⟩:=nset (ng:=ng1) (a:=a1) (m:=m1) (c:=c1) (i:=j) ((hB'.block bv HPw.out.pn.lt).trans q2) (by omega);rw[<-hW];exact hr)));clear hB' hR' hP' hn' hd' hT hp2 hbl hgl3 g0 g1 gf0 gf1 hgl hs;go_wp2;go_roundw
         case rel=>exact⟨j+1,by go_num,by omega,HW3.out,HP3.out,HGB3.out,HG3.out⟩
         case measure=>simp[intOf];omega
     ·have hlt':decide ((j:Int)<(k:Int))=false:=by simp;omega
      obtain rfl:j=k:=by omega
      clear hlt hbw hp hgb hgo g0 g1 gf0 gf1 hgl;go_wp2;refine bodyPost_ret (v:=_) (acd rfl rfl) rfl ⟨_,rfl,HP.out.pn.nrow HZL.out (by omega),HW.out⟩
section
variable {dst:Option Tmp} {ty:TypeId} {pos:String} {after:Array Edge} {guard:Option (Nat×Bool)} {a:Act} {w:World} {ats:Array TypeId} {i k g:Nat} {x z u v:Int} {L:Nat}
theorem ais(h:OutN z L (a.eval (.tmp i)) w)(hL:L<=1000000):
  Does Tryz.prog {dst,op:=.call {callee:=.value (.func 132),args:=#[.tmp i],argTypes:=ats},type:=ty,pos,after,guard} a.eval w fun v w'=>Below w.heap.size w w'/\OutL (z.natAbs:Int) L v w':=by
 obtain⟨ng,ao,cap,rs,e1,W,l⟩:=h;have hb:=W.bound l;refine aas apq _ (by simp only[List.map_toArray,List.map_cons,List.map_nil,e1]) ((Dm.aj7 w ng ao cap rs _ W.1 L hb hL (by omega)).mono ?_);rintro e w' ⟨v,rfl,I,hb'⟩;obtain⟨ao,cap,rs,rfl,G⟩:=I.got;exact⟨_,rfl,hb',_,_,_,rfl,G,aay G.canon (by rw[G.val];exact hb)⟩
theorem axw(w:World):(Instr.fieldAt 83 (.pointer (some ⟨g,0,none⟩)) 1).run Tryz.prog w=.ok (.pointer (some ⟨g,1,none⟩)) w:=by go_simp
theorem asx{ng:Bool}{ao:Option Addr}{n c:Nat}(hp:a.eval (.tmp k)=.pointer (some ⟨g,1,none⟩))(hb:BoxV N2 w g (.agg #[.bool ng,.slice ao n c])):
  Does Tryz.prog {dst,op:=.load 54 (.tmp k),type:=ty,pos,after,guard} a.eval w fun v' w'=>Below w.heap.size w w'/\Eqs (.slice ao n c) v' w':=by
 obtain⟨b1,b2,b3,b4⟩:=(ar3 hb).facts;refine aba (v:=.slice ao n c) ?_ ⟨Below.refl _ _,rfl⟩;rw[hp];go_simp
theorem axy{ao:Option Addr}{n c:Nat}(h:a.eval (.tmp i)=.slice ao n c):Does Tryz.prog {dst,op:=.call {callee:=.builtin .len,args:=#[.tmp i],argTypes:=#[54]},type:=ty,pos,after,guard} a.eval w fun v' w'=>Below w.heap.size w w'/\Eqs (.int .i64 n) v' w':=by
 have e:(execOp a.eval {dst,op:=.call {callee:=.builtin .len,args:=#[.tmp i],argTypes:=#[54]},type:=ty,pos,after,guard}).run Tryz.prog w=.ok (.value (.int .i64 n)) w:=by
  have h':a.tmps[i]?.getD undef=.slice ao n c:=by simpa[Act.eval]using h
  simp[go_sem,h']
 refine⟨?_⟩;unfold Turns;rw[e];exact⟨Below.refl _ _,rfl⟩
theorem an6{m:Nat}(h:OutL x L (a.eval (.tmp i)) w)(hm:IsLen x m):Does Tryz.prog {dst,op:=.call {callee:=.builtin .len,args:=#[.tmp i],argTypes:=#[27]},type:=ty,pos,after,guard} a.eval w fun v' w'=>Below w.heap.size w w'/\Eqs (.int .i64 m) v' w':=by
 obtain⟨ao,cap,rs,e,G,l⟩:=h;have hl:rs.length=m:=arn ⟨rs,G.canon,G.val,rfl⟩ hm;exact(ayv e).mono (fun v' w' ⟨hb,e⟩=>⟨hb,by rw[Eqs,show v'=_ from e,hl]⟩)
theorem axz(h1:a.eval (.tmp i)=.int .i64 u):
  Does Tryz.prog {dst,op:=.binOp .lss 3 (.tmp i) (.const (.int .i64 v)) 3,type:=ty,pos,after,guard} a.eval w fun v' w'=>Below w.heap.size w w'/\Eqs (.bool (decide (u<v))) v' w':=by
 refine adi (v:=.bool (decide (u<v))) ?_ ?_ ⟨Below.refl _ _,rfl⟩
 ·rw[h1];simp[go_sem,Act.eval]
 ·rw[h1];simp[go_sem,Act.eval]
end
theorem ax0(w:World)(Bx:Nat)(nx:Bool)(ax:Option Addr)(cx:Nat)(xs:List Int)(zx:Int)(Gx:Dm.Wh w nx ax cx xs zx)(Lx:xs.length<=Bx)(hL:Bx<=1000000)(m:Nat)(hm:IsLen (zx.natAbs:Int) m):
  Calls Tryz.prog 131 #[.agg #[.bool nx,.slice ax xs.length cx]] w fun e w'=>∃v,e=.returned v/\(Eqs (.int .i64 (m:Int))) v w'/\Below w.heap.size w w':=by
 go_enter Tryz.func131,Tryz.ntmps131
 generalize hA:(Act.mk _ _)=aa;have hn:aa.tmps.size=13:=by rw[<-hA];rfl
 have hd:aa.defers = []:=by rw[<-hA]
 have f0:aa.eval (.tmp 0)=.agg #[.bool nx,.slice ax xs.length cx]:=by rw[<-hA];rfl
 clear hA;have HB:Below w.heap.size w w:=Below.refl _ _;refine wp_seq ?_;refine aaq [some 1,some 2] [(fun _ _=>True),Eqs ((.int .i64 0))] [⟨N2,some 0,0,1,.agg #[.bool nx,.slice ax xs.length cx],none,[]⟩] [] (by kernel_rfl) hn rfl (by kernel_rfl) (by kernel_rfl) (by kernel_rfl) (by kernel_rfl) (by kernel_rfl) (by kernel_rfl) ⟨True.mono4,Eqs.mono4 _,trivial⟩ (aa8 N2ok aaz) (IsOld.all (bx:=[⟨N2,some 0,0,1,.agg #[.bool nx,.slice ax xs.length cx],none,[]⟩]) ⟨someNe,trivial⟩) (DisOld.all (bx:=[⟨N2,some 0,0,1,.agg #[.bool nx,.slice ax xs.length cx],none,[]⟩]) ⟨someNe,trivial⟩) ?_ ?_
 ·exact⟨.alloc 0 _ rfl rfl (.inr ⟨_,rfl,afu,fun a_ hR=>(hR 0 rfl).trans f0⟩) rfl rfl rfl rfl rfl,
   .norm 2 rfl rfl rfl (fun a_ w_ hn_ hBt hr hR hD hO hS=>ab9 rfl),
   trivial⟩
 ·intro a1 w1 gs1 hn1 hd1 hBt hr hR hP hX hU;replace hn:=hn1;replace hd:=hd1.trans hd;have b1:BoxV N2 w1 (gs1 0) (.agg #[.bool nx,.slice ax xs.length cx]):=(hX 0 _ rfl).2.2.2;have f1:=(hX 0 _ rfl).1;have u1:w.heap.size<=gs1 0:=Nat.le_trans HB.size ((hX 0 _ rfl).2.2.1 (by simp));have e2:a1.eval (.tmp 2)=(.int .i64 0):=hP 1 (by decide);have f2:=e2;replace Gx:=Gx.rl hr;replace HB:=HB.trans (hBt.below HB.size (UpOld.all (bx:=[⟨N2,some 0,0,1,.agg #[.bool nx,.slice ax xs.length cx],none,[]⟩]) ⟨someNe,trivial⟩));clear hBt hr hR hP hX hU;refine wp_seq ?_;refine wp_seq ?_;refine aaq [some 3,some 4,some 5,some 6] [Eqs (.pointer (some ⟨gs1 0,1,none⟩)),Eqs (.slice ax xs.length cx),Eqs (.int .i64 (xs.length:Int)),Eqs (.bool (decide ((xs.length:Int)<3)))] [] [] (by kernel_rfl) hn rfl (by kernel_rfl) (by kernel_rfl) (by kernel_rfl) (by kernel_rfl) (by kernel_rfl) (by kernel_rfl) ⟨Eqs.mono4 _,Eqs.mono4 _,Eqs.mono4 _,Eqs.mono4 _,trivial⟩ aaz (IsOld.all (bx:=[]) trivial) (DisOld.all (bx:=[]) trivial) ?_ ?_
  ·exact⟨.norm 3 rfl rfl rfl (fun a_ w_ hn_ hBt hr hR hD hO hS=>ail axw ((hR 1 rfl).trans f1)),
    .norm 4 rfl rfl rfl (fun a_ w_ hn_ hBt hr hR hD hO hS=>asx (show a_.eval (.tmp 3)=.pointer (some ⟨gs1 0,1,none⟩)from hD 0 rfl) (b1.keep hBt trivial)),
    .norm 5 rfl rfl rfl (fun a_ w_ hn_ hBt hr hR hD hO hS=>axy (show a_.eval (.tmp 4)=.slice ax xs.length cx from hD 1 rfl)),
    .norm 6 rfl rfl rfl (fun a_ w_ hn_ hBt hr hR hD hO hS=>axz (show a_.eval (.tmp 5)=.int .i64 (xs.length:Int)from hD 2 rfl)),
    trivial⟩
  ·intro a2 w2 gs2 hn2 hd2 hBt hr hR hP hX hU;replace hn:=hn2;replace hd:=hd2.trans hd;replace b1:=b1.keep hBt trivial;replace f1:=(hR 1 rfl).trans f1;replace f2:=(hR 2 rfl).trans f2;have e6:a2.eval (.tmp 6)=.bool (decide ((xs.length:Int)<3)):=hP 3 (by decide);have f6:=e6;replace Gx:=Gx.rl hr;replace HB:=HB.trans (hBt.below HB.size (UpOld.all (bx:=[]) trivial));clear hBt hr hR hP hX hU;refine wp_cond_split f6 (fun hc6=>?_) (fun hc6=>?_)
   ·skip;refine wp_seq ?_;refine aaq [some 7,some 8,some 9,some 2] [Eqs (.agg #[.bool nx,.slice ax xs.length cx]),OutL (((zx).natAbs:Int)) (Bx),Eqs (.int .i64 (m:Int)),Eqs (.int .i64 (m:Int))] [] [] (by kernel_rfl) hn rfl (by kernel_rfl) (by kernel_rfl) (by kernel_rfl) (by kernel_rfl) (by kernel_rfl) (by kernel_rfl) ⟨Eqs.mono4 _,OutL.mono4 _ _,Eqs.mono4 _,Eqs.mono4 _,trivial⟩ aaz (IsOld.all (bx:=[]) trivial) (DisOld.all (bx:=[]) trivial) ?_ ?_
    ·exact⟨.norm 7 rfl rfl rfl (fun a_ w_ hn_ hBt hr hR hD hO hS=>aa0 N2ok ((hR 1 rfl).trans f1) (b1.keep hBt trivial)),
      .norm 8 rfl rfl rfl (fun a_ w_ hn_ hBt hr hR hD hO hS=>ais (abc (show a_.eval (.tmp 7)=.agg #[.bool nx,.slice ax xs.length cx]from hD 0 rfl) (Gx.rl hr) Lx) (by omega)),
      .norm 9 rfl rfl rfl (fun a_ w_ hn_ hBt hr hR hD hO hS=>an6 (show OutL (((zx).natAbs:Int)) (Bx) (a_.eval (.tmp 8)) w_ from hD 1 rfl) hm),
      .norm 2 rfl rfl rfl (fun a_ w_ hn_ hBt hr hR hD hO hS=>ab9 (show a_.eval (.tmp 9)=.int .i64 (m:Int)from hD 2 rfl)),
      trivial⟩
    ·intro a3 w3 gs3 hn3 hd3 hBt hr hR hP hX hU;replace hn:=hn3;replace hd:=hd3.trans hd;replace b1:=b1.keep hBt trivial;replace f1:=(hR 1 rfl).trans f1;have e2:a3.eval (.tmp 2)=.int .i64 (m:Int):=hP 3 (by decide);have f2:=e2;replace Gx:=Gx.rl hr;replace HB:=HB.trans (hBt.below HB.size (UpOld.all (bx:=[]) trivial));clear hBt hr hR hP hX hU;refine wp_ret ?_;repeat(first|refine ach ?_|refine acb ?_|refine aca ?_)
     exact bodyPost_ret (v:=.int .i64 (m:Int)) (acd rfl f2) hd ⟨_,rfl,rfl,HB⟩
   ·skip;refine wp_skip ?_;refine wp_seq ?_;refine aaq [some 10,some 11,some 12,some 2] [Eqs (.agg #[.bool nx,.slice ax xs.length cx]),OutL (((zx).natAbs:Int)) (Bx),Eqs (.int .i64 (m:Int)),Eqs (.int .i64 (m:Int))] [] [] (by kernel_rfl) hn rfl (by kernel_rfl) (by kernel_rfl) (by kernel_rfl) (by kernel_rfl) (by kernel_rfl) (by kernel_rfl) ⟨Eqs.mono4 _,OutL.mono4 _ _,Eqs.mono4 _,Eqs.mono4 _,trivial⟩ aaz (IsOld.all (bx:=[]) trivial) (DisOld.all (bx:=[]) trivial) ?_ ?_
    ·exact⟨.norm 10 rfl rfl rfl (fun a_ w_ hn_ hBt hr hR hD hO hS=>aa0 N2ok ((hR 1 rfl).trans f1) (b1.keep hBt trivial)),
      .norm 11 rfl rfl rfl (fun a_ w_ hn_ hBt hr hR hD hO hS=>ais (abc (show a_.eval (.tmp 10)=.agg #[.bool nx,.slice ax xs.length cx]from hD 0 rfl) (Gx.rl hr) Lx) (by omega)),
      .norm 12 rfl rfl rfl (fun a_ w_ hn_ hBt hr hR hD hO hS=>an6 (show OutL (((zx).natAbs:Int)) (Bx) (a_.eval (.tmp 11)) w_ from hD 1 rfl) hm),
      .norm 2 rfl rfl rfl (fun a_ w_ hn_ hBt hr hR hD hO hS=>ab9 (show a_.eval (.tmp 12)=.int .i64 (m:Int)from hD 2 rfl)),
      trivial⟩
    ·intro a4 w4 gs4 hn4 hd4 hBt hr hR hP hX hU;replace hn:=hn4;replace hd:=hd4.trans hd;have e2:a4.eval (.tmp 2)=.int .i64 (m:Int):=hP 3 (by decide);have f2:=e2;replace Gx:=Gx.rl hr;replace HB:=HB.trans (hBt.below HB.size (UpOld.all (bx:=[]) trivial));clear hBt hr hR hP hX hU;refine wp_ret ?_;repeat(first|refine ach ?_|refine acb ?_|refine aca ?_)
     exact bodyPost_ret (v:=.int .i64 (m:Int)) (acd rfl f2) hd ⟨_,rfl,rfl,HB⟩
theorem infoQ:(Tryz.prog.info? 99).map (fun i=>(i.zero,i.size,i.bytes))=some (some (.agg #[.bool false,.slice none 0 0,.bool false,.slice none 0 0]),4,64):=by kernel_rfl
def QOut(w:World)(fs:List WE)(rs:List Rat)(L:Nat):Prop:=fs.length=2*rs.length/\∀(k:Nat) (r:Rat),rs[k]? = some r->∃f g,fs[2*k]? = some f/\fs[2*k+1]? = some g/\OutN r.num L f.v w/\OutN (r.den:Int) L g.v w
def QRow(w:World)(v:Value)(rs:List Rat)(L:Nat):Prop:=∃fs:List WE,Ce w v 4 rs.length (flat fs)/\QOut w fs rs L
theorem QOut.rl{w w':World}{fs:List WE}{rs:List Rat}{L:Nat}(h:QOut w fs rs L)(hr:Rl w w'):QOut w' fs rs L:=
 ⟨h.1,fun k r hk=>by obtain⟨f,g,h1,h2,h3,h4⟩:=h.2 k r hk;exact⟨f,g,h1,h2,h3.rl hr,h4.rl hr⟩⟩
theorem QRow.below{w w':World}{v:Value}{rs:List Rat}{L:Nat}(h:QRow w v rs L)(hb:Below w.heap.size w w'):QRow w' v rs L:=by
 obtain⟨fs,h1,h2⟩:=h;exact⟨fs,h1.below hb,h2.rl (Rl.of_below hb)⟩
theorem QRow.parts{w:World}{v:Value}{rs:List Rat}{L:Nat}(h:QRow w v rs L):∃ao cap,v=.slice ao rs.length cap/\rs.length<=9223372036854775807:=by
 obtain⟨fs,⟨ao,cap,rfl,h1,h2,_⟩,_⟩:=h;exact⟨ao,cap,rfl,by omega⟩
theorem QRow.cell{w:World}{ao:Option Addr}{n cap:Nat}{rs:List Rat}{L k:Nat}{r:Rat}(h:QRow w (.slice ao n cap) rs L)(hr:rs[k]? = some r):∃b off ng a m c mg d e f,ao=some ⟨b,off,none⟩/\b<w.heap.size/\w.cell? ⟨b,off+k*4,none⟩=some (.bool ng)/\w.cell? ⟨b,off+k*4+1,none⟩=some (.slice a m c)/\w.cell? ⟨b,off+k*4+2,none⟩=some (.bool mg)/\w.cell? ⟨b,off+k*4+2+1,none⟩=some (.slice d e f)/\OutN r.num L (.agg #[.bool ng,.slice a m c]) w/\OutN (r.den:Int) L (.agg #[.bool mg,.slice d e f]) w:=by
 obtain⟨fs,⟨ao',cap',hv,h1,h2,h3,h4⟩,h5⟩:=h;simp only[Value.slice.injEq]at hv;obtain⟨rfl,rfl,rfl⟩:=hv;have hk:=(List.getElem?_eq_some_iff.1 hr).1;obtain⟨f,g,f1,g1,o1,o2⟩:=h5.2 k r hr;obtain⟨c0,c1⟩:=aau f1;obtain⟨c2,c3⟩:=aau g1;rcases h4 with h4|⟨b,off,rfl,hb,hc⟩
 ·omega
 ·refine⟨b,off,f.ng,f.a,f.m,f.c,g.ng,g.a,g.m,g.c,rfl,hb,?_,?_,?_,?_,o1,o2⟩
  ·rw[show k*4=2*k*2 by omega];exact hc _ _ c0
  ·rw[show off+k*4+1=off+(2*k*2+1) by omega];exact hc _ _ c1
  ·rw[show off+k*4+2=off+(2*k+1)*2 by omega];exact hc _ _ c2
  ·rw[show off+k*4+2+1=off+((2*k+1)*2+1) by omega];exact hc _ _ c3
end Lm
namespace Lm
open Go Go.RowKit
open Dm (WFr)
def canonZ(rs:List Rat):List Int:=red (clr rs)
end Lm
namespace Lm
open Go Go.RowKit
theorem asy{x y:Int}(hx:0<=x)(hy:0<y):ov x y=x/y:=by
 unfold ov;rw[decide_eq_false (by omega),decide_eq_false (by omega)];show sg false _=_;simp only[sg];rw[if_neg (by decide),show(x.natAbs:Int)=x by omega,show(y.natAbs:Int)=y by omega]
theorem den_pos(r:Rat):(0:Int)<(r.den:Int):=by have:=r.den_pos;omega
theorem al5(rs:List Rat):0<comR rs:=by
 have key:∀(l:List Rat) (c:Int),0<c->0<l.foldl (fun c r=>c*((r.den:Int)/((Int.gcd c r.den:Nat):Int))) c:=by
  intro l;induction l with
  |nil=>exact fun c h=>h
  |cons x l ih=>
   intro c hc;refine ih _ (Int.mul_pos hc ?_);have h1:=den_pos x;have h2:((Int.gcd c x.den:Nat):Int) ∣ (x.den:Int):=Int.gcd_dvd_right ..;have h3:(0:Int)<((Int.gcd c x.den:Nat):Int):=by
    have:=Int.gcd_pos_of_ne_zero_left (x.den:Int) (show c≠0 by omega);omega
   exact Int.ediv_pos_of_pos_of_dvd h1 (by omega) h2
 exact key rs 1 (by decide)
def OneN(z:Int)(L:Nat):Says:=fun v w=>∃g ng a m c,v=.slice (some ⟨g,0,none⟩) 1 1/\w.heap[g]? = some (.cells #[.bool ng,.slice a m c] 83 (0,0))/\OutN z L (.agg #[.bool ng,.slice a m c]) w
theorem OneN.mono(z:Int)(L:Nat):Mono (OneN z L):=fun _ _ _ hb ⟨g,ng,a,m,c,e,h,o⟩=>⟨g,ng,a,m,c,e,(hb.block g (aaa h)).trans h,o.rl (Rl.of_below hb)⟩
section
variable {dst:Option Tmp} {ty:TypeId} {pos:String} {after:Array Edge} {guard:Option (Nat×Bool)} {a:Act} {w:World} {ats:Array TypeId} {i j:Nat}
theorem ag1{b off n c k:Nat}{ao:Option Addr}(h:a.eval (.tmp i)=.slice ao n c)(hao:ao=some ⟨b,off,none⟩)(hk:a.eval (.tmp j)=.int .i64 (k:Int))(hl:k<n):Does Tryz.prog {dst,op:=.indexAddr 97 (.tmp i) (.tmp j),type:=ty,pos,after,guard} a.eval w fun v' w'=>Below w.heap.size w w'/\Eqs (.pointer (some ⟨b,off+k*4,none⟩)) v' w':=by
 subst hao;have hl':(k:Int)<(n:Int):=by omega
 refine⟨?_⟩;unfold Turns;simp only[execOp,h,hk];go_simp;exact⟨Below.refl _ _,rfl⟩
theorem ax1{b o:Nat}(h:a.eval (.tmp i)=.pointer (some ⟨b,o,none⟩)):Does Tryz.prog {dst,op:=.fieldAddr 99 (.tmp i) 0,type:=ty,pos,after,guard} a.eval w fun v' w'=>Below w.heap.size w w'/\Eqs (.pointer (some ⟨b,o,none⟩)) v' w':=by
 refine⟨?_⟩;unfold Turns;simp only[execOp,h];go_simp;exact⟨Below.refl _ _,rfl⟩
theorem ajm{b o:Nat}(h:a.eval (.tmp i)=.pointer (some ⟨b,o,none⟩)):Does Tryz.prog {dst,op:=.fieldAddr 99 (.tmp i) 1,type:=ty,pos,after,guard} a.eval w fun v' w'=>Below w.heap.size w w'/\Eqs (.pointer (some ⟨b,o+2,none⟩)) v' w':=by
 refine⟨?_⟩;unfold Turns;simp only[execOp,h];go_simp;exact⟨Below.refl _ _,rfl⟩
theorem an7{z:Int}{L:Nat}(h:OutN z L (a.eval (.tmp i)) w):
  Does Tryz.prog {dst,op:=.buildSlice 76 1 #[(0,.tmp i)],type:=ty,pos,after,guard} a.eval w fun v w'=>Below w.heap.size w w'/\OneN z L v w':=by
 obtain⟨ng,ao,n,c,e⟩:=h.agg;rw[e]at h;have hb:=hAl w (.cells #[.bool ng,.slice ao n c] 83);refine adc (v:=.slice (some ⟨w.heap.size,0,none⟩) 1 1) (w':=w.alloc (.cells #[.bool ng,.slice ao n c] 83)) ?_ ⟨hb,_,_,_,_,_,rfl,heap_alloc_new _ _,h.rl (Rl.of_below hb)⟩;simp only[List.map_toArray,List.map_cons,List.map_nil,e];go_simp
end
set_option maxRecDepth 100000 in
theorem al6(w:World)(v:Value)(rs:List Rat)(D M:Nat)(h:QRow w v rs D)(hD:D<=100000)(hM:M<=10000)(hM1:2<=M)(hl:rs.length<=100000)(hne:rs≠[])(hC:∀k,k<=rs.length->((comR (rs.take k)).natAbs:Int)<pw M)(hZ:∀z∈clr rs,(z.natAbs:Int)<pw M):
  Calls Tryz.prog 67 #[v] w fun e w'=>∃r,e=.returned r/\NRow w' r (canonZ rs) (3*M)/\Below w.heap.size w w':=by
 obtain⟨ar,cr,rfl,_⟩:=h.parts;have hpos:0<rs.length:=List.length_pos_iff.2 hne;obtain⟨n,hnn⟩:∃n,rs.length=n:=⟨_,rfl⟩;obtain⟨b,off,_,_,_,_,_,_,_,_,har,_⟩:=h.cell (k:=0) (List.getElem?_eq_getElem hpos);subst har;have HR:=hide h;rw[hnn]at HR hl hC hpos ⊢;have HN:=hide hnn;have HC:=hide hC;have HZ:=hide hZ;have HNE0:=hide hne;have K0:=hide (Dm.afs w 1 (by decide) (by decide));clear h hne hC hZ hnn;go_enter Tryz.func67,Tryz.ntmps67
 go_wp2_with fail
 refine K0.out.mono ?_;rintro e w1 ⟨ng0,ao0,cap0,rs0,rfl,G0,l0,hb1⟩;have hA:=hAl w1 (.cells #[.bool ng0,.slice ao0 rs0.length cap0] 83);have hnw:=heap_alloc_new w1 (.cells #[.bool ng0,.slice ao0 rs0.length cap0] 83);have HB1:=hide (hb1.trans (hA.mono hb1.size));have hsz1:=hb1.size;have HO1:Hid (OutN (comR (rs.take 0)) (3*M) (.agg #[.bool ng0,.slice ao0 rs0.length cap0]) (w1.alloc (.cells #[.bool ng0,.slice ao0 rs0.length cap0] 83))):=(show OutN 1 (3*M) _ _ from OutN.rl (⟨_,_,_,_,rfl,G0,by omega⟩:OutN 1 (3*M) _ w1) (Rl.of_below hA));clear hb1 hA G0 l0 K0;go_wp2_with fail
 generalize (w1.alloc (.cells #[.bool ng0,.slice ao0 rs0.length cap0] 83))=wa at *
 generalize w1.heap.size=f3 at *
 have HNW:=hide hnw;clear hnw;go_loopw [4] (fun iv wr=>∃(k:Nat),iv=.int .i64 k/\k<=n/\Below w.heap.size w wr/\∃ng a m c,wr.heap[f3]? = some (.cells #[.bool ng,.slice a m c] 83 (0,0))/\OutN (comR (rs.take k)) (3*M) (.agg #[.bool ng,.slice a m c]) wr) (fun iv _=>n-(intOf iv).toNat)
 case atStart=>exact⟨0,rfl,Nat.zero_le _,HB1.out,_,_,_,_,HNW.out,HO1.out⟩
 case round=>
  obtain⟨k,rfl,hk,hbw,ngg,ag,mg,cg,hgb,hgo⟩:=hrel;have HW:=hide hbw;have HG:=hide hgo;have HGB:=hide hgb;obtain⟨hgl,g0,g1,gf0,gf1⟩:=aan hgb;by_cases hlt:k<n
  ·have hlt':(k:Int)<(n:Int):=by omega
   obtain⟨r,hr⟩:∃r,rs[k]? = some r:=⟨_,List.getElem?_eq_getElem (by have:=HN.out;omega)⟩;obtain⟨b',off',_,_,_,_,_,_,_,_,hao,hbl,q0,q1,q2,q3,hq1,hq2⟩:=(HR.out.below hbw).cell hr;obtain⟨rfl,rfl⟩:b=b'/\off=off':=by simpa using hao
   have HQ2:=hide hq2;have hgp:(0:Int)<((Int.gcd (comR (rs.take k)) (r.den:Int):Nat):Int):=by
    have:=Int.gcd_pos_of_ne_zero_right (comR (rs.take k)) (show(r.den:Int)≠0 by have:=den_pos r;omega);omega
   have HNE:Hid (((Int.gcd (comR (rs.take k)) (r.den:Int):Nat):Int)≠0):=(show _≠_ by omega);have HOV:Hid (ov (r.den:Int) ((Int.gcd (comR (rs.take k)) (r.den:Int):Nat):Int)=(r.den:Int)/((Int.gcd (comR (rs.take k)) (r.den:Int):Nat):Int)):=asy (Int.le_of_lt (den_pos r)) hgp;have HCS:Hid (comR (rs.take (k+1))=comR (rs.take k)*((r.den:Int)/((Int.gcd (comR (rs.take k)) (r.den:Int):Nat):Int))):=acj _ _ hr;have HFIT:Hid (((comR (rs.take (k+1))).natAbs:Int)<pw M):=HC.out (k+1) (by omega);clear hbw hgo hgb hr hao hq1 hq2 hgp q0 q1;go_upto_region 5 with fail
   refine ab5 15 [14,15,16,17,18,19,20,21,22,23,24,25,26,27,28] [(OutN (comR (rs.take k)) (3*M)),Eqs (.slice (some ⟨b,off,none⟩) n cr),Eqs (.int .i64 (k:Int)),Eqs (.pointer (some ⟨b,off+k*4,none⟩)),Eqs (.pointer (some ⟨b,off+k*4+2,none⟩)),(OutN ((r.den:Int)) D),(OutN (comR (rs.take k)) (3*M)),Eqs (.slice (some ⟨b,off,none⟩) n cr),Eqs (.int .i64 (k:Int)),Eqs (.pointer (some ⟨b,off+k*4,none⟩)),Eqs (.pointer (some ⟨b,off+k*4+2,none⟩)),(OutN ((r.den:Int)) D),(OutN (((Int.gcd (comR (rs.take k)) (r.den:Int):Nat):Int)) (3*M+D)),(OutN ((r.den:Int)/((Int.gcd (comR (rs.take k)) (r.den:Int):Nat):Int)) D),(OutN (comR (rs.take (k+1))) (3*M))] rfl rfl (by decide) (by kernel_rfl) (by kernel_rfl) (by decide) (by kernel_rfl) ⟨(Mono.of4 (OutN.mono4 _ _)),Eqs.mono _,Eqs.mono _,Eqs.mono _,Eqs.mono _,(Mono.of4 (OutN.mono4 _ _)),(Mono.of4 (OutN.mono4 _ _)),Eqs.mono _,Eqs.mono _,Eqs.mono _,Eqs.mono _,(Mono.of4 (OutN.mono4 _ _)),(Mono.of4 (OutN.mono4 _ _)),(Mono.of4 (OutN.mono4 _ _)),(Mono.of4 (OutN.mono4 _ _)),trivial⟩ ?_ ?_
   ·exact⟨⟨rfl,fun a_ w_ _ hB hR hD=>abr ((hR 3 rfl).trans (aab rfl)) ((hB.cell (p:=⟨f3,0,none⟩) hgl).trans g0) ((hB.cell (p:=⟨f3,0+1,none⟩) hgl).trans g1) (Mono.of4 (OutN.mono4 _ _) _ _ _ hB HG.out)⟩,
      ⟨rfl,fun a_ w_ _ hB hR hD=>aai ((hR 0 rfl).trans (aab rfl))⟩,
      ⟨rfl,fun a_ w_ _ hB hR hD=>aai ((hR 4 rfl).trans (aab rfl))⟩,
      ⟨rfl,fun a_ w_ _ hB hR hD=>ag1 (show a_.eval (.tmp 15)=.slice (some ⟨b,off,none⟩) n cr from hD 1 rfl) rfl (show a_.eval (.tmp 16)=.int .i64 (k:Int)from hD 2 rfl) (by omega)⟩,
      ⟨rfl,fun a_ w_ _ hB hR hD=>ajm (show a_.eval (.tmp 17)=.pointer (some ⟨b,off+k*4,none⟩)from hD 3 rfl)⟩,
      ⟨rfl,fun a_ w_ _ hB hR hD=>abr (show a_.eval (.tmp 18)=.pointer (some ⟨b,off+k*4+2,none⟩)from hD 4 rfl) ((hB.cell (p:=⟨b,off+k*4+2,none⟩) hbl).trans q2) ((hB.cell (p:=⟨b,off+k*4+2+1,none⟩) hbl).trans q3) (Mono.of4 (OutN.mono4 _ _) _ _ _ hB HQ2.out)⟩,
      ⟨rfl,fun a_ w_ _ hB hR hD=>abr ((hR 3 rfl).trans (aab rfl)) ((hB.cell (p:=⟨f3,0,none⟩) hgl).trans g0) ((hB.cell (p:=⟨f3,0+1,none⟩) hgl).trans g1) (Mono.of4 (OutN.mono4 _ _) _ _ _ hB HG.out)⟩,
      ⟨rfl,fun a_ w_ _ hB hR hD=>aai ((hR 0 rfl).trans (aab rfl))⟩,
      ⟨rfl,fun a_ w_ _ hB hR hD=>aai ((hR 4 rfl).trans (aab rfl))⟩,
      ⟨rfl,fun a_ w_ _ hB hR hD=>ag1 (show a_.eval (.tmp 21)=.slice (some ⟨b,off,none⟩) n cr from hD 7 rfl) rfl (show a_.eval (.tmp 22)=.int .i64 (k:Int)from hD 8 rfl) (by omega)⟩,
      ⟨rfl,fun a_ w_ _ hB hR hD=>ajm (show a_.eval (.tmp 23)=.pointer (some ⟨b,off+k*4,none⟩)from hD 9 rfl)⟩,
      ⟨rfl,fun a_ w_ _ hB hR hD=>abr (show a_.eval (.tmp 24)=.pointer (some ⟨b,off+k*4+2,none⟩)from hD 10 rfl) ((hB.cell (p:=⟨b,off+k*4+2,none⟩) hbl).trans q2) ((hB.cell (p:=⟨b,off+k*4+2+1,none⟩) hbl).trans q3) (Mono.of4 (OutN.mono4 _ _) _ _ _ hB HQ2.out)⟩,
      ⟨rfl,fun a_ w_ _ hB hR hD=>agu (L1:=3*M) (L2:=D) (show(OutN (comR (rs.take k)) (3*M)) (a_.eval (.tmp 20)) w_ from hD 6 rfl) (show(OutN ((r.den:Int)) D) (a_.eval (.tmp 25)) w_ from hD 11 rfl) (by omega) (by omega)⟩,
      ⟨rfl,fun a_ w_ _ hB hR hD=>(ac6 (Bx:=D) (By:=3*M+D) (show(OutN ((r.den:Int)) D) (a_.eval (.tmp 19)) w_ from hD 5 rfl) (show(OutN (((Int.gcd (comR (rs.take k)) (r.den:Int):Nat):Int)) (3*M+D)) (a_.eval (.tmp 26)) w_ from hD 12 rfl) (by omega) (by omega) HNE.out).mono (fun _ _ h_=>⟨h_.1,h_.2.to HOV.out (Nat.le_refl _)⟩)⟩,
      ⟨rfl,fun a_ w_ _ hB hR hD=>(agv (L1:=3*M) (L2:=D) (show(OutN (comR (rs.take k)) (3*M)) (a_.eval (.tmp 14)) w_ from hD 0 rfl) (show(OutN ((r.den:Int)/((Int.gcd (comR (rs.take k)) (r.den:Int):Nat):Int)) D) (a_.eval (.tmp 27)) w_ from hD 13 rfl) (by omega) (by omega)).mono (fun _ _ h_=>⟨h_.1,(h_.2.to HCS.out.symm (Nat.le_refl _)).fit HFIT.out⟩)⟩,
      trivial⟩
   ·intro a' w' hn' hd' hB' hR' hP';obtain⟨u14,e14⟩:∃u,a'.eval (.tmp 14)=u:=⟨_,rfl⟩;have e15:a'.eval (.tmp 15)=.slice (some ⟨b,off,none⟩) n cr:=hP' 1 (by decide);have e16:a'.eval (.tmp 16)=.int .i64 (k:Int):=hP' 2 (by decide);have e17:a'.eval (.tmp 17)=.pointer (some ⟨b,off+k*4,none⟩):=hP' 3 (by decide);have e18:a'.eval (.tmp 18)=.pointer (some ⟨b,off+k*4+2,none⟩):=hP' 4 (by decide);obtain⟨u19,e19⟩:∃u,a'.eval (.tmp 19)=u:=⟨_,rfl⟩;obtain⟨u20,e20⟩:∃u,a'.eval (.tmp 20)=u:=⟨_,rfl⟩;have e21:a'.eval (.tmp 21)=.slice (some ⟨b,off,none⟩) n cr:=hP' 7 (by decide);have e22:a'.eval (.tmp 22)=.int .i64 (k:Int):=hP' 8 (by decide);have e23:a'.eval (.tmp 23)=.pointer (some ⟨b,off+k*4,none⟩):=hP' 9 (by decide);have e24:a'.eval (.tmp 24)=.pointer (some ⟨b,off+k*4+2,none⟩):=hP' 10 (by decide);obtain⟨u25,e25⟩:∃u,a'.eval (.tmp 25)=u:=⟨_,rfl⟩;obtain⟨u26,e26⟩:∃u,a'.eval (.tmp 26)=u:=⟨_,rfl⟩;obtain⟨u27,e27⟩:∃u,a'.eval (.tmp 27)=u:=⟨_,rfl⟩;obtain⟨u28,e28⟩:∃u,a'.eval (.tmp 28)=u:=⟨_,rfl⟩;have hT:(OutN (comR (rs.take (k+1))) (3*M)) (a'.eval (.tmp 28)) w':=hP' 14 (by decide);rw[e28]at hT;refine abn hn' hd' hR' (.s4 rfl <| .s4 rfl <| .s4 rfl <| .same rfl <| .same rfl <| .new e14 <| .new e15 <| .new e16 <| .new e17 <| .new e18 <| .new e19 <| .new e20 <| .new e21 <| .new e22 <| .new e23 <| .new e24 <| .new e25 <| .new e26 <| .new e27 <| .new e28 <| .s16 rfl <| .s4 rfl <| .s4 rfl <| .nil) ?_;clear e14 e15 e16 e17 e18 e19 e20 e21 e22 e23 e24 e25 e26 e27 e28;obtain⟨ng1,a1,m1,c1,rfl⟩:=hT.agg;have hgb':=(hB'.block _ (aaa HGB.out)).trans HGB.out;obtain⟨_,c0',c1',f0,f1⟩:=aan hgb';obtain⟨s1,s2,s3⟩:=awg ng1 a1 m1 c1 hgb';have HT:=hide (hT.rl s2);have HNB:=hide s1;have HBW2:=hide ((HW.out.trans (hB'.mono HW.out.size)).trans (s3 _ hsz1));clear hB' hR' hP' hn' hd' hT hgb' g0 g1 gf0 gf1 hgl s1 s2 s3 q2 q3 hbl;go_wp2;go_roundw
    case rel=>exact⟨k+1,by go_num,by omega,HBW2.out,_,_,_,_,HNB.out,HT.out⟩
    case measure=>simp[intOf];omega
  ·have hlt':decide ((k:Int)<(n:Int))=false:=by simp;omega
   obtain rfl:k=n:=by omega
   have hall:rs.take k=rs:=List.take_of_length_le (by have:=HN.out;omega);rw[hall]at HG;clear hgo hall;obtain⟨wo,hwo⟩:∃wo,wo=wr:=⟨_,rfl⟩;subst hwo;go_wp2_with fail
   go_loopw [5,6] (fun ov iv wr=>∃(j:Nat) (fs:List WE),iv=.int .i64 j/\j<=k/\Below wo.heap.size wo wr/\RnO wo.heap.size wr ov fs ((clr rs).take j) (3*M)) (fun _ iv _=>k-(intOf iv).toNat)
   case atStart=>exact⟨0,[],rfl,Nat.zero_le _,Below.refl _ _,ajk _ _ _⟩
   case round=>
    obtain⟨j,fs,rfl,hj,hbj,hown⟩:=hrel;obtain⟨aov,capv,hov,_⟩:=Cl.own hown.own;subst hov;have HJ:=hide hbj;have HOWN:=hide hown;by_cases hltj:j<k
    ·have hlt':(j:Int)<(k:Int):=by omega
     obtain⟨r,hr⟩:∃r,rs[j]? = some r:=⟨_,List.getElem?_eq_getElem (by have:=HN.out;omega)⟩;have hW2:=HW.out.trans (hbj.mono HW.out.size);obtain⟨b',off',_,_,_,_,_,_,_,_,hao,hbl,q0,q1,q2,q3,hq1,hq2⟩:=(HR.out.below hW2).cell hr;obtain⟨rfl,rfl⟩:b=b'/\off=off':=by simpa using hao
     have hgb2:=(hbj.block _ (aaa HGB.out)).trans HGB.out;obtain⟨hgl2,g02,g12,_,_⟩:=aan hgb2;have HG2:=hide (HG.out.rl (Rl.of_below hbj));have HQ1:=hide hq1;have HQ2:=hide hq2;have HNE:Hid ((r.den:Int)≠0):=(show _≠_ by have:=den_pos r;omega);have HOV:Hid (ov (comR rs) (r.den:Int)=comR rs/(r.den:Int)):=asy (Int.le_of_lt (al5 rs)) (den_pos r);have hcl:(clr rs)[j]? = some (r.num*(comR rs/(r.den:Int))):=by unfold clr;rw[List.getElem?_map,hr];rfl
     have HCL:=hide hcl;have HFIT:Hid (((r.num*(comR rs/(r.den:Int))).natAbs:Int)<pw M):=HZ.out _ (List.mem_of_getElem? hcl);clear hbj hown hr hao hq1 hq2 hgb2 hcl hW2 hgb g0 g1 gf0 gf1 hgl hbw;have hgl:=hgl2;have g0:=g02;have g1:=g12;have HG:=HG2;clear hgl2 g02 g12 HG2;go_upto_region 10 with fail
     refine acy 15 [35,36,37,38,39,40,41,42,43,44,45,46,47,48,49] [Eqs (.slice aov fs.length capv),Eqs (.slice (some ⟨b,off,none⟩) k cr),Eqs (.int .i64 (j:Int)),Eqs (.pointer (some ⟨b,off+j*4,none⟩)),Eqs (.pointer (some ⟨b,off+j*4,none⟩)),(OutN (r.num) D),(OutN (comR rs) (3*M)),Eqs (.slice (some ⟨b,off,none⟩) k cr),Eqs (.int .i64 (j:Int)),Eqs (.pointer (some ⟨b,off+j*4,none⟩)),Eqs (.pointer (some ⟨b,off+j*4+2,none⟩)),(OutN ((r.den:Int)) D),(OutN (comR rs/(r.den:Int)) (3*M)),(OutN (r.num*(comR rs/(r.den:Int))) (3*M)),(OneN (r.num*(comR rs/(r.den:Int))) (3*M))] rfl rfl (by decide) (by kernel_rfl) (by kernel_rfl) (by decide) (by kernel_rfl) ⟨Eqs.mono _,Eqs.mono _,Eqs.mono _,Eqs.mono _,Eqs.mono _,(Mono.of4 (OutN.mono4 _ _)),(Mono.of4 (OutN.mono4 _ _)),Eqs.mono _,Eqs.mono _,Eqs.mono _,Eqs.mono _,(Mono.of4 (OutN.mono4 _ _)),(Mono.of4 (OutN.mono4 _ _)),(Mono.of4 (OutN.mono4 _ _)),(OneN.mono _ _),trivial⟩ ?_ ?_
     ·exact⟨⟨rfl,fun a_ w_ _ hB hR hD=>aai ((hR 5 rfl).trans (aab rfl))⟩,
        ⟨rfl,fun a_ w_ _ hB hR hD=>aai ((hR 0 rfl).trans (aab rfl))⟩,
        ⟨rfl,fun a_ w_ _ hB hR hD=>aai ((hR 6 rfl).trans (aab rfl))⟩,
        ⟨rfl,fun a_ w_ _ hB hR hD=>ag1 (show a_.eval (.tmp 36)=.slice (some ⟨b,off,none⟩) k cr from hD 1 rfl) rfl (show a_.eval (.tmp 37)=.int .i64 (j:Int)from hD 2 rfl) (by omega)⟩,
        ⟨rfl,fun a_ w_ _ hB hR hD=>ax1 (show a_.eval (.tmp 38)=.pointer (some ⟨b,off+j*4,none⟩)from hD 3 rfl)⟩,
        ⟨rfl,fun a_ w_ _ hB hR hD=>abr (show a_.eval (.tmp 39)=.pointer (some ⟨b,off+j*4,none⟩)from hD 4 rfl) ((hB.cell (p:=⟨b,off+j*4,none⟩) hbl).trans q0) ((hB.cell (p:=⟨b,off+j*4+1,none⟩) hbl).trans q1) (Mono.of4 (OutN.mono4 _ _) _ _ _ hB HQ1.out)⟩,
        ⟨rfl,fun a_ w_ _ hB hR hD=>abr ((hR 3 rfl).trans (aab rfl)) ((hB.cell (p:=⟨f3,0,none⟩) hgl).trans g0) ((hB.cell (p:=⟨f3,0+1,none⟩) hgl).trans g1) (Mono.of4 (OutN.mono4 _ _) _ _ _ hB HG.out)⟩,
        ⟨rfl,fun a_ w_ _ hB hR hD=>aai ((hR 0 rfl).trans (aab rfl))⟩,
        ⟨rfl,fun a_ w_ _ hB hR hD=>aai ((hR 6 rfl).trans (aab rfl))⟩,
        ⟨rfl,fun a_ w_ _ hB hR hD=>ag1 (show a_.eval (.tmp 42)=.slice (some ⟨b,off,none⟩) k cr from hD 7 rfl) rfl (show a_.eval (.tmp 43)=.int .i64 (j:Int)from hD 8 rfl) (by omega)⟩,
        ⟨rfl,fun a_ w_ _ hB hR hD=>ajm (show a_.eval (.tmp 44)=.pointer (some ⟨b,off+j*4,none⟩)from hD 9 rfl)⟩,
        ⟨rfl,fun a_ w_ _ hB hR hD=>abr (show a_.eval (.tmp 45)=.pointer (some ⟨b,off+j*4+2,none⟩)from hD 10 rfl) ((hB.cell (p:=⟨b,off+j*4+2,none⟩) hbl).trans q2) ((hB.cell (p:=⟨b,off+j*4+2+1,none⟩) hbl).trans q3) (Mono.of4 (OutN.mono4 _ _) _ _ _ hB HQ2.out)⟩,
        ⟨rfl,fun a_ w_ _ hB hR hD=>(ac6 (Bx:=3*M) (By:=D) (show(OutN (comR rs) (3*M)) (a_.eval (.tmp 41)) w_ from hD 6 rfl) (show(OutN ((r.den:Int)) D) (a_.eval (.tmp 46)) w_ from hD 11 rfl) (by omega) (by omega) HNE.out).mono (fun _ _ h_=>⟨h_.1,h_.2.to HOV.out (Nat.le_refl _)⟩)⟩,
        ⟨rfl,fun a_ w_ _ hB hR hD=>(agv (L1:=D) (L2:=3*M) (show(OutN (r.num) D) (a_.eval (.tmp 40)) w_ from hD 5 rfl) (show(OutN (comR rs/(r.den:Int)) (3*M)) (a_.eval (.tmp 47)) w_ from hD 12 rfl) (by omega) (by omega)).mono (fun _ _ h_=>⟨h_.1,h_.2.fit HFIT.out⟩)⟩,
        ⟨rfl,fun a_ w_ _ hB hR hD=>an7 (show(OutN (r.num*(comR rs/(r.den:Int))) (3*M)) (a_.eval (.tmp 48)) w_ from hD 13 rfl)⟩,
        trivial⟩
     ·intro a' w' hn' hd' hB' hR' hP';have e35:a'.eval (.tmp 35)=.slice aov fs.length capv:=hP' 0 (by decide);have e36:a'.eval (.tmp 36)=.slice (some ⟨b,off,none⟩) k cr:=hP' 1 (by decide);have e37:a'.eval (.tmp 37)=.int .i64 (j:Int):=hP' 2 (by decide);have e38:a'.eval (.tmp 38)=.pointer (some ⟨b,off+j*4,none⟩):=hP' 3 (by decide);have e39:a'.eval (.tmp 39)=.pointer (some ⟨b,off+j*4,none⟩):=hP' 4 (by decide);obtain⟨u40,e40⟩:∃u,a'.eval (.tmp 40)=u:=⟨_,rfl⟩;obtain⟨u41,e41⟩:∃u,a'.eval (.tmp 41)=u:=⟨_,rfl⟩;have e42:a'.eval (.tmp 42)=.slice (some ⟨b,off,none⟩) k cr:=hP' 7 (by decide);have e43:a'.eval (.tmp 43)=.int .i64 (j:Int):=hP' 8 (by decide);have e44:a'.eval (.tmp 44)=.pointer (some ⟨b,off+j*4,none⟩):=hP' 9 (by decide);have e45:a'.eval (.tmp 45)=.pointer (some ⟨b,off+j*4+2,none⟩):=hP' 10 (by decide);obtain⟨u46,e46⟩:∃u,a'.eval (.tmp 46)=u:=⟨_,rfl⟩;obtain⟨u47,e47⟩:∃u,a'.eval (.tmp 47)=u:=⟨_,rfl⟩;obtain⟨u48,e48⟩:∃u,a'.eval (.tmp 48)=u:=⟨_,rfl⟩;obtain⟨u49,e49⟩:∃u,a'.eval (.tmp 49)=u:=⟨_,rfl⟩;have hT:(OneN (r.num*(comR rs/(r.den:Int))) (3*M)) (a'.eval (.tmp 49)) w':=hP' 14 (by decide);rw[e49]at hT;refine abn hn' hd' hR' (.s16 rfl <| .s16 rfl <| .same rfl <| .same rfl <| .same rfl <| .new e35 <| .new e36 <| .new e37 <| .new e38 <| .new e39 <| .new e40 <| .new e41 <| .new e42 <| .new e43 <| .new e44 <| .new e45 <| .new e46 <| .new e47 <| .new e48 <| .new e49 <| .same rfl <| .same rfl <| .same rfl <| .nil) ?_;clear e35 e36 e37 e38 e39 e40 e41 e42 e43 e44 e45 e46 e47 e48 e49;obtain⟨gN,ng1,a1,m1,c1,rfl,hO2,hS2⟩:=hT;have hR2:=HOWN.out.below hB';have hsz:wo.heap.size<=w'.heap.size:=Nat.le_trans HJ.out.size hB'.size;have hfl:fs.length<=1000000:=by rw[HOWN.out.len,List.length_take];omega
      have HJB:=hide (HJ.out.trans (hB'.mono HJ.out.size));clear hR' hP' hn' hd' g0 g1 hgl q0 q1 q2 q3 hbl hB';refine abd rfl (ajl (i:=35) (j:=49) rfl rfl hR2 hO2 hS2 hfl hsz) ?_;rintro v3 w3 ⟨hR3,hb3⟩;obtain⟨aov3,capv3,hov3,_⟩:=Cl.own hR3.own;subst hov3;have HR3:=hide hR3;have HB3:=hide (HJB.out.trans hb3);clear hR3 hb3 hR2 hO2 hS2 hsz hfl;go_wp2;go_roundw
      case rel=>exact⟨j+1,fs ++ [⟨ng1,a1,m1,c1,[]⟩],by go_num,by omega,HB3.out,by have h:=HR3.out;rw[List.length_append]at h;rw[List.take_add_one,HCL.out];exact h⟩
      case measure=>simp[intOf];omega
    ·have hlt':decide ((j:Int)<(k:Int))=false:=by simp;omega
     obtain rfl:j=k:=by omega
     have hall:(clr rs).take j=clr rs:=List.take_of_length_le (by have:=HN.out;unfold clr;rw[List.length_map];omega);have hNR:NRow wr (.slice aov fs.length capv) (clr rs) (3*M):=by have:=HOWN.out.nrow;rwa[hall]at this
     have hne2:clr rs≠[]:=fun e=>HNE0.out (by unfold clr at e;simpa using e)
     have K9:=hide (af0 wr _ (clr rs) M hNR (by have:=HN.out;unfold clr;rw[List.length_map];omega) (by omega) HZ.out hne2);have HBJ:=hide (HW.out.trans (hbj.mono HW.out.size));clear hbj hown hall hNR hne2 hbw hgb g0 g1 gf0 gf1 hgl;go_wp2_with fail
     refine K9.out.mono ?_;rintro e w9 ⟨r9,rfl,h9,hb9⟩;obtain⟨a9,c9,hv9,_⟩:=id h9.parts;subst hv9;have H9:=hide h9;have HB9:=hide (HBJ.out.trans (hb9.mono HBJ.out.size));clear h9 hb9 K9;go_wp2;refine bodyPost_ret (v:=_) (acd rfl rfl) rfl ⟨_,rfl,H9.out,HB9.out⟩
def joinZ(p:Int)(us:List Int)(q:Int)(ys:List Int):List Int:=List.zipWith (fun x y=>p*x-q*y) us ys
set_option maxRecDepth 100000 in
theorem ap2(w:World)(p q:Int)(us ys:List Int)(vp va vq vb:Value)(M N:Nat)(hp:OutN p (3*M) vp w)(ha:NRow w va us (3*M))(hq:OutN q (3*M) vq w)(hb:NRow w vb ys (3*M))(hab:us.length=ys.length)(hn:us.length<=100000)(hM:M<=60000)(hN:N<=100000)(hne:us≠[])(hz:∀z∈joinZ p us q ys,(z.natAbs:Int)<pw N):
  Calls Tryz.prog 47 #[vp,va,vq,vb] w fun e w'=>∃r,e=.returned r/\NRow w' r (red (joinZ p us q ys)) (3*N)/\Below w.heap.size w w':=by
 obtain⟨aa,ca,rfl,_⟩:=ha.parts;obtain⟨ab,cb,rfl,_⟩:=hb.parts;obtain⟨ngp,ap,np,cp,rfl⟩:=hp.agg;obtain⟨ngq,aq,nq,cq,rfl⟩:=hq.agg;have hpos:0<us.length:=List.length_pos_iff.2 hne;obtain⟨ba,oa,_,_,_,_,haa,-⟩:=ha.cell (k:=0) (List.getElem?_eq_getElem hpos);subst haa;obtain⟨bb,ob,_,_,_,_,hbb,-⟩:=hb.cell (k:=0) (List.getElem?_eq_getElem (by omega));subst hbb;obtain⟨n,hnn⟩:∃n,us.length=n:=⟨_,rfl⟩;have hnb:ys.length=n:=by omega
 have hA:=hAl w (.cells #[.bool ngp,.slice ap np cp] 83);have hA':=hAl (w.alloc (.cells #[.bool ngp,.slice ap np cp] 83)) (.cells #[.bool ngq,.slice aq nq cq] 83);have h4:=heap_alloc_new w (.cells #[.bool ngp,.slice ap np cp] 83);have h6:=heap_alloc_new (w.alloc (.cells #[.bool ngp,.slice ap np cp] 83)) (.cells #[.bool ngq,.slice aq nq cq] 83);rw[show(w.alloc (.cells #[.bool ngp,.slice ap np cp] 83)).heap.size=w.heap.size+1 from Array.size_push ..]at h6;have h4':=(hA'.block _ (aaa h4)).trans h4;have hBB:=hA.trans (hA'.mono hA.size);have HP:=hide (hp.rl (Rl.of_below hBB));have HQ:=hide (hq.rl (Rl.of_below hBB));have HA:=hide (ha.below hBB);have HB:=hide (hb.below hBB);have HBB:=hide hBB;rw[hnn]at HA hn hpos ⊢;rw[hnb]at HB ⊢;have HNA:=hide hnn;have HNB:=hide hnb;have HZ:=hide hz;have HNE:=hide hne;have H4:=hide h4';have H6:=hide h6;clear hp ha hq hb hab hnn hnb hne hz hA hA' h4 h6 h4' hBB;go_enter Tryz.func47,Tryz.ntmps47
 go_wp2_with fail
 generalize ew:(w.alloc (.cells #[.bool ngp,.slice ap np cp] 83)).alloc (.cells #[.bool ngq,.slice aq nq cq] 83)=wa at *
 clear ew;go_loopw [9,10] (fun ov iv wr=>∃(k:Nat) (fs:List WE),iv=.int .i64 k/\k<=n/\Below wa.heap.size wa wr/\RnO wa.heap.size wr ov fs ((joinZ p us q ys).take k) (3*N)) (fun _ iv _=>n-(intOf iv).toNat)
 case atStart=>exact⟨0,[],rfl,Nat.zero_le _,Below.refl _ _,ajk _ _ _⟩
 case round=>
  obtain⟨k,fs,rfl,hk,hbw,hown⟩:=hrel;obtain⟨aov,capv,hov,_⟩:=Cl.own hown.own;subst hov;have HW:=hide hbw;have HOWN:=hide hown;by_cases hlt:k<n
  ·have hlt':(k:Int)<(n:Int):=by omega
   obtain⟨x,hx⟩:∃x,us[k]? = some x:=⟨_,List.getElem?_eq_getElem (by have:=HNA.out;omega)⟩;obtain⟨y,hy⟩:∃y,ys[k]? = some y:=⟨_,List.getElem?_eq_getElem (by have:=HNB.out;omega)⟩;have hzk:(joinZ p us q ys)[k]? = some (p*x-q*y):=by unfold joinZ;rw[List.getElem?_zipWith,hx,hy]
   have HZK:=hide hzk;have HFIT:Hid (((p*x-q*y).natAbs:Int)<pw N):=HZ.out _ (List.mem_of_getElem? hzk);obtain⟨ba',oa',_,_,_,_,e1,hbla,xa0,xa1,hxv⟩:=(HA.out.below hbw).cell hx;obtain⟨rfl,rfl⟩:ba=ba'/\oa=oa':=by simpa using e1
   obtain⟨bb',ob',_,_,_,_,e2,hblb,xb0,xb1,hyv⟩:=(HB.out.below hbw).cell hy;obtain⟨rfl,rfl⟩:bb=bb'/\ob=ob':=by simpa using e2
   have HX:=hide hxv;have HY:=hide hyv;obtain⟨hl4,c40,c41,_,_⟩:=aan ((hbw.block _ (aaa H4.out)).trans H4.out);obtain⟨hl6,c60,c61,_,_⟩:=aan ((hbw.block _ (aaa H6.out)).trans H6.out);have HP:=hide (HP.out.rl (Rl.of_below hbw));have HQ:=hide (HQ.out.rl (Rl.of_below hbw));clear hbw hown hx hy hzk e1 e2 hxv hyv;go_upto_region 5 with fail
   refine acy 15 [17,18,19,20,21,22,23,24,25,26,27,28,29,30,31] [Eqs (.slice aov fs.length capv),(OutN (p) (3*M)),Eqs (.slice (some ⟨ba,oa,none⟩) n ca),Eqs (.int .i64 (k:Int)),Eqs (.pointer (some ⟨ba,oa+k*2,none⟩)),(OutN (x) (3*M)),(OutN (p*x) (3*M+3*M+1)),(OutN (q) (3*M)),Eqs (.slice (some ⟨bb,ob,none⟩) n cb),Eqs (.int .i64 (k:Int)),Eqs (.pointer (some ⟨bb,ob+k*2,none⟩)),(OutN (y) (3*M)),(OutN (q*y) (3*M+3*M+1)),(OutN (p*x-q*y) (3*N)),(OneN (p*x-q*y) (3*N))] rfl rfl (by decide) (by kernel_rfl) (by kernel_rfl) (by decide) (by kernel_rfl) ⟨Eqs.mono _,(Mono.of4 (OutN.mono4 _ _)),Eqs.mono _,Eqs.mono _,Eqs.mono _,(Mono.of4 (OutN.mono4 _ _)),(Mono.of4 (OutN.mono4 _ _)),(Mono.of4 (OutN.mono4 _ _)),Eqs.mono _,Eqs.mono _,Eqs.mono _,(Mono.of4 (OutN.mono4 _ _)),(Mono.of4 (OutN.mono4 _ _)),(Mono.of4 (OutN.mono4 _ _)),(OneN.mono _ _),trivial⟩ ?_ ?_
   ·exact⟨⟨rfl,fun a_ w_ _ hB hR hD=>aai ((hR 9 rfl).trans (aab rfl))⟩,
      ⟨rfl,fun a_ w_ _ hB hR hD=>abr ((hR 4 rfl).trans (aab rfl)) ((hB.cell (p:=⟨w.heap.size,0,none⟩) hl4).trans c40) ((hB.cell (p:=⟨w.heap.size,0+1,none⟩) hl4).trans c41) (Mono.of4 (OutN.mono4 _ _) _ _ _ hB HP.out)⟩,
      ⟨rfl,fun a_ w_ _ hB hR hD=>aai ((hR 1 rfl).trans (aab rfl))⟩,
      ⟨rfl,fun a_ w_ _ hB hR hD=>aai ((hR 10 rfl).trans (aab rfl))⟩,
      ⟨rfl,fun a_ w_ _ hB hR hD=>adb (show a_.eval (.tmp 19)=.slice (some ⟨ba,oa,none⟩) n ca from hD 2 rfl) rfl (show a_.eval (.tmp 20)=.int .i64 (k:Int)from hD 3 rfl) (by omega)⟩,
      ⟨rfl,fun a_ w_ _ hB hR hD=>abr (show a_.eval (.tmp 21)=.pointer (some ⟨ba,oa+k*2,none⟩)from hD 4 rfl) ((hB.cell (p:=⟨ba,oa+k*2,none⟩) hbla).trans xa0) ((hB.cell (p:=⟨ba,oa+k*2+1,none⟩) hbla).trans xa1) (Mono.of4 (OutN.mono4 _ _) _ _ _ hB HX.out)⟩,
      ⟨rfl,fun a_ w_ _ hB hR hD=>agv (L1:=3*M) (L2:=3*M) (show(OutN (p) (3*M)) (a_.eval (.tmp 18)) w_ from hD 1 rfl) (show(OutN (x) (3*M)) (a_.eval (.tmp 22)) w_ from hD 5 rfl) (by omega) (by omega)⟩,
      ⟨rfl,fun a_ w_ _ hB hR hD=>abr ((hR 6 rfl).trans (aab rfl)) ((hB.cell (p:=⟨w.heap.size+1,0,none⟩) hl6).trans c60) ((hB.cell (p:=⟨w.heap.size+1,0+1,none⟩) hl6).trans c61) (Mono.of4 (OutN.mono4 _ _) _ _ _ hB HQ.out)⟩,
      ⟨rfl,fun a_ w_ _ hB hR hD=>aai ((hR 3 rfl).trans (aab rfl))⟩,
      ⟨rfl,fun a_ w_ _ hB hR hD=>aai ((hR 10 rfl).trans (aab rfl))⟩,
      ⟨rfl,fun a_ w_ _ hB hR hD=>adb (show a_.eval (.tmp 25)=.slice (some ⟨bb,ob,none⟩) n cb from hD 8 rfl) rfl (show a_.eval (.tmp 26)=.int .i64 (k:Int)from hD 9 rfl) (by omega)⟩,
      ⟨rfl,fun a_ w_ _ hB hR hD=>abr (show a_.eval (.tmp 27)=.pointer (some ⟨bb,ob+k*2,none⟩)from hD 10 rfl) ((hB.cell (p:=⟨bb,ob+k*2,none⟩) hblb).trans xb0) ((hB.cell (p:=⟨bb,ob+k*2+1,none⟩) hblb).trans xb1) (Mono.of4 (OutN.mono4 _ _) _ _ _ hB HY.out)⟩,
      ⟨rfl,fun a_ w_ _ hB hR hD=>agv (L1:=3*M) (L2:=3*M) (show(OutN (q) (3*M)) (a_.eval (.tmp 24)) w_ from hD 7 rfl) (show(OutN (y) (3*M)) (a_.eval (.tmp 28)) w_ from hD 11 rfl) (by omega) (by omega)⟩,
      ⟨rfl,fun a_ w_ _ hB hR hD=>(axk (L1:=3*M+3*M+1) (L2:=3*M+3*M+1) (show(OutN (p*x) (3*M+3*M+1)) (a_.eval (.tmp 23)) w_ from hD 6 rfl) (show(OutN (q*y) (3*M+3*M+1)) (a_.eval (.tmp 29)) w_ from hD 12 rfl) (by omega) (by omega)).mono (fun _ _ h_=>⟨h_.1,h_.2.fit HFIT.out⟩)⟩,
      ⟨rfl,fun a_ w_ _ hB hR hD=>an7 (show(OutN (p*x-q*y) (3*N)) (a_.eval (.tmp 30)) w_ from hD 13 rfl)⟩,
      trivial⟩
   ·intro a' w' hn' hd' hB' hR' hP';have e17:a'.eval (.tmp 17)=.slice aov fs.length capv:=hP' 0 (by decide);obtain⟨u18,e18⟩:∃u,a'.eval (.tmp 18)=u:=⟨_,rfl⟩;have e19:a'.eval (.tmp 19)=.slice (some ⟨ba,oa,none⟩) n ca:=hP' 2 (by decide);have e20:a'.eval (.tmp 20)=.int .i64 (k:Int):=hP' 3 (by decide);have e21:a'.eval (.tmp 21)=.pointer (some ⟨ba,oa+k*2,none⟩):=hP' 4 (by decide);obtain⟨u22,e22⟩:∃u,a'.eval (.tmp 22)=u:=⟨_,rfl⟩;obtain⟨u23,e23⟩:∃u,a'.eval (.tmp 23)=u:=⟨_,rfl⟩;obtain⟨u24,e24⟩:∃u,a'.eval (.tmp 24)=u:=⟨_,rfl⟩;have e25:a'.eval (.tmp 25)=.slice (some ⟨bb,ob,none⟩) n cb:=hP' 8 (by decide);have e26:a'.eval (.tmp 26)=.int .i64 (k:Int):=hP' 9 (by decide);have e27:a'.eval (.tmp 27)=.pointer (some ⟨bb,ob+k*2,none⟩):=hP' 10 (by decide);obtain⟨u28,e28⟩:∃u,a'.eval (.tmp 28)=u:=⟨_,rfl⟩;obtain⟨u29,e29⟩:∃u,a'.eval (.tmp 29)=u:=⟨_,rfl⟩;obtain⟨u30,e30⟩:∃u,a'.eval (.tmp 30)=u:=⟨_,rfl⟩;obtain⟨u31,e31⟩:∃u,a'.eval (.tmp 31)=u:=⟨_,rfl⟩;have hT:(OneN (p*x-q*y) (3*N)) (a'.eval (.tmp 31)) w':=hP' 14 (by decide);rw[e31]at hT;refine abn hn' hd' hR' (.s16 rfl <| .same rfl <| .new e17 <| .new e18 <| .new e19 <| .new e20 <| .new e21 <| .new e22 <| .new e23 <| .new e24 <| .new e25 <| .new e26 <| .new e27 <| .new e28 <| .new e29 <| .new e30 <| .new e31 <| .same rfl <| .same rfl <| .same rfl <| .nil) ?_;clear e17 e18 e19 e20 e21 e22 e23 e24 e25 e26 e27 e28 e29 e30 e31;obtain⟨gN,ng1,a1,m1,c1,rfl,hO2,hS2⟩:=hT;have hR2:=HOWN.out.below hB';have hsz:wa.heap.size<=w'.heap.size:=Nat.le_trans HW.out.size hB'.size;have hfl:fs.length<=1000000:=by rw[HOWN.out.len,List.length_take];omega
    have HJB:=hide (HW.out.trans (hB'.mono HW.out.size));clear hR' hP' hn' hd' hB' xa0 xa1 xb0 xb1 hbla hblb c40 c41 c60 c61 hl4 hl6;refine abd rfl (ajl (i:=17) (j:=31) rfl rfl hR2 hO2 hS2 hfl hsz) ?_;rintro v3 w3 ⟨hR3,hb3⟩;obtain⟨aov3,capv3,hov3,_⟩:=Cl.own hR3.own;subst hov3;have HR3:=hide hR3;have HB3:=hide (HJB.out.trans hb3);clear hR3 hb3 hR2 hO2 hS2 hsz hfl;go_wp2;go_roundw
    case rel=>exact⟨k+1,fs ++ [⟨ng1,a1,m1,c1,[]⟩],by go_num,by omega,HB3.out,by have h:=HR3.out;rw[List.length_append]at h;rw[List.take_add_one,HZK.out];exact h⟩
    case measure=>simp[intOf];omega
  ·have hlt':decide ((k:Int)<(n:Int))=false:=by simp;omega
   obtain rfl:k=n:=by omega
   have hjl:(joinZ p us q ys).length=k:=by unfold joinZ;rw[List.length_zipWith];have:=HNA.out;have:=HNB.out;omega
   have hall:(joinZ p us q ys).take k=joinZ p us q ys:=List.take_of_length_le (by omega);have hNR:NRow wr (.slice aov fs.length capv) (joinZ p us q ys) (3*N):=by have:=HOWN.out.nrow;rwa[hall]at this
   have hne2:joinZ p us q ys≠[]:=fun e=>by rw[e]at hjl;simp at hjl;omega
   have K9:=hide (af0 wr _ (joinZ p us q ys) N hNR (by omega) hN HZ.out hne2);have HBJ:=hide (HBB.out.trans (HW.out.mono HBB.out.size));clear hbw hown hall hNR hne2 hjl;go_wp2_with fail
   refine K9.out.mono ?_;rintro e w9 ⟨r9,rfl,h9,hb9⟩;obtain⟨a9,c9,hv9,_⟩:=id h9.parts;subst hv9;have H9:=hide h9;have HB9:=hide (HBJ.out.trans (hb9.mono HBJ.out.size));clear h9 hb9 K9;go_wp2;refine bodyPost_ret (v:=_) (acd rfl rfl) rfl ⟨_,rfl,H9.out,HB9.out⟩
def isB:Value->Bool
 |.bool _=>true
 |_=>false
def NoB(w:World)(v:Value):Prop:=∀g cs T,v.ownBlock=some g->w.heap[g]? = some (.cells cs T (0,0))->∀x∈cs.toList,isB x=false
theorem NoB.below{w w':World}{v:Value}(h:NoB w v)(hl:∀k,v.ownBlock=some k->k<w.heap.size)(hb:Below w.heap.size w w'):NoB w' v:=fun g cs T hg hh=>h g cs T hg ((hb.block g (hl g hg)).symm.trans hh)
theorem al7{z:Array Value}(hz:∀x∈z.toList,isB x=false)(n:Nat):∀x∈(Builtin.zeroCells z n).toList,isB x=false:=by
 intro x hx;simp only[Builtin.zeroCells,Array.toList_map,List.mem_map]at hx;obtain⟨j,hj,rfl⟩:=hx;by_cases h:j%z.size<z.size
 ·rw[getElem!_pos z _ h];exact hz _ (by simp)
 ·exfalso;have h0:z.size=0:=Classical.byContradiction fun h1=>h (Nat.mod_lt _ (by omega))
  rw[h0,Nat.mul_zero]at hj;simp at hj
theorem ax2{P:Program}(w:World)(base:Nat)(t ty e:TypeId)(i:TypeInfo)(z:Value)(bytes:Nat)(ht:P.underlying t=some (.slice e))(hi:P.info? e=some i)(hz:i.zero=some z)(hby:i.bytes=bytes)(_hsz:0<i.size)
  (v:Value) (n:Nat) (xs:List Value) (hown:w.ownsRow base e i.size v n xs) (a:Addr) (c:Nat) (news:List Value) (hl:news.length=i.size) (hnews:∀j u,news[j]? = some u->w.cell? (a.add j)=some u) (h1:∀u∈news,u.oneCell'=true)
  (h63:n+1<=maxLen) (hbytes:(n+1)*bytes<=140737488355328) (hI:NoB w v) (hN:∀u∈news,isB u=false) (hZ:∀u∈z.cells.toList,isB u=false) {v':Value} {w':World} (hr:(Builtin.append_ #[t,t] ty #[v,.slice (some a) 1 c]).run P w=.ok v' w'):NoB w' v':=by
 subst hby;have hl':news.length=1*i.size:=by omega
 have hsmall:n+1<=9223372036854775807:=by simp only[maxLen]at h63;omega
 rcases hown.2 with⟨rfl,rfl⟩|⟨g,cap,cur,rfl,hbg,hg,hnc,hcm,hcs,htake⟩
 ·have hr':=run_append_nil (P:=P) w t ty e i z ht hi hz a 1 c news hl' hnews (by omega) (by omega) (by omega);rw[hr]at hr';injection hr' with e1 e2;subst e1 e2;intro g cs T hg hh x hx;simp only[Value.ownBlock,Option.some.injEq]at hg;subst hg;rw[show(w.drew.alloc (Obj.cells (news.toArray++Builtin.zeroCells z.cells (grownCap w 1 0 e-1)) e)).heap[w.heap.size]? = _ from heap_alloc_new w.drew _]at hh;injection hh with hh;injection hh with hh;subst hh;simp only[Array.toList_append,List.mem_append]at hx;rcases hx with hx|hx
  ·exact hN x hx
  ·exact al7 hZ _ x hx
 ·have hcur:=hI g cur e rfl hg;by_cases hroom:n+1<=cap
  ·have hfit:n*i.size+news.length<=cur.size:=by rw[hl',hcs,<-Nat.add_mul];exact Nat.mul_le_mul_right _ hroom
   have hr':=run_append_room (P:=P) w t ty e i ht hi g n cap cur hg a 1 c news hl' hnews h1 hroom hfit;rw[hr]at hr';injection hr' with e1 e2;subst e1 e2;intro g' cs T hg' hh x hx;simp only[Value.ownBlock,Option.some.injEq]at hg';subst hg';rw[setRow_heap w g cur _ e _ hg]at hh;injection hh with hh;injection hh with hh;subst hh;simp only[List.mem_append]at hx;rcases hx with(hx|hx)|hx
   ·exact hcur x (List.mem_of_mem_take hx)
   ·exact hN x hx
   ·exact hcur x (List.mem_of_mem_drop hx)
  ·have hr':=run_append_grow (P:=P) w t ty e i z ht hi hz ⟨g,0,none⟩ n cap xs hown.1 (hown.cells (g:=g) rfl) a 1 c news hl' hnews (by omega) (by omega) (growslice_fits (by omega) hbytes);rw[hr]at hr';injection hr' with e1 e2;subst e1 e2;intro g' cs T hg' hh x hx;simp only[Value.ownBlock,Option.some.injEq]at hg';subst hg';rw[show(w.drew.alloc (Obj.cells (xs.toArray++news.toArray++Builtin.zeroCells z.cells (grownCap w (n+1) cap e-(n+1))) e)).heap[w.heap.size]? = _ from heap_alloc_new w.drew _]at hh;injection hh with hh;injection hh with hh;subst hh;simp only[Array.toList_append,List.mem_append]at hx;rcases hx with(hx|hx)|hx
   ·rw[<-htake]at hx;exact hcur x (List.mem_of_mem_take hx)
   ·exact hN x hx
   ·exact al7 hZ _ x hx
theorem akd:∀(es:List WE) (u:Value),u∈flat es->u.oneCell'=true
 | [],_,hu=>by cases hu
 |e::es,u,hu=>by
  simp only[flat,List.mem_cons]at hu;rcases hu with rfl|rfl|hu
  ·rfl
  ·rfl
  ·exact akd es u hu
def NM(w:World)(v:Value)(rows:List (List Int))(L:Nat):Prop:=∃vs:List Value,Ce w v 1 rows.length vs/\∀(i:Nat) (u:Value) (z:List Int),vs[i]? = some u->rows[i]? = some z->NRow w u z L
theorem au6{w w':World}{g:Nat}{cs:Array Value}(hg:w.heap[g]? = some (.cells cs 76 (0,0)))(hI:∀x∈cs.toList,isI x=false)(hs:w.heap.size<=w'.heap.size)(hk:∀k,k<w.heap.size->k≠g->w'.heap[k]? = w.heap[k]?):Rl w w':=by
 refine⟨hs,fun p k z e=>?_,fun k cs T hT e=>?_⟩
 ·rw[World.cell?_of_block (w:=w) (hk p.block (ac2 e) fun hb=>?_)]
  ·exact e
  ·obtain⟨pb,po,pm⟩:=p;simp only at hb;subst hb;simp only[World.cell?,hg]at e;cases pm with
   |some m=>simp at e
   |none=>
    have hm:=hI (.int k z) (Array.mem_toList_iff.2 (Array.mem_of_getElem? (i:=po) (by simpa using e)));exact absurd hm (by simp[isI])
 ·refine(hk k (aaa e) fun hb=>?_).trans e;subst hb;rw[hg]at e;injection e with e;injection e with _ e _;rcases hT with rfl|rfl
  ·exact absurd e (by decide)
  ·exact absurd e (by decide)
theorem NRow.other{w w':World}{u:Value}{zs:List Int}{L g:Nat}{cs:Array Value}(h:NRow w u zs L)(hg:w.heap[g]? = Option.some (.cells cs 76 (0,0)))(hI:∀x∈cs.toList,isI x=false)(hB:∀x∈cs.toList,isB x=false)(hs:w.heap.size<=w'.heap.size)(hk:∀k,k<w.heap.size->k≠g->w'.heap[k]? = w.heap[k]?):NRow w' u zs L:=by
 obtain⟨fs,⟨ao,cap,rfl,h1,h2,h3,h4⟩,h5,h6⟩:=h;refine⟨fs,⟨ao,cap,rfl,h1,h2,h3,?_⟩,h5,fun k f z hf hz=>(h6 k f z hf hz).rl (au6 hg hI hs hk)⟩;rcases h4 with h4|⟨b,off,rfl,hl,hc⟩
 ·exact .inl h4
 ·by_cases h0:fs.length=0
  ·exact .inl h0
  ·obtain⟨f,hf⟩:∃f,fs[0]? = Option.some f:=⟨_,List.getElem?_eq_getElem (by omega)⟩;have c0:=hc _ _ (aau hf).1;have hne:b≠g:=fun e=>by
    subst e;simp only[World.cell?,hg]at c0;have:=hB (.bool f.ng) (Array.mem_toList_iff.2 (Array.mem_of_getElem? (i:=off+0*2) (by simpa using c0)));exact absurd this (by simp[isB])
   exact .inr ⟨b,off,rfl,Nat.lt_of_lt_of_le hl hs,fun j u hu=>by
    rw[World.cell?_of_block (w:=w) (hk b hl hne)]
    exact hc j u hu⟩
structure RmO (B:Nat) (w:World) (v:Value) (vs:List Value) (rows:List (List Int)) (L:Nat):Prop where
 own:w.ownsRow B 76 1 v vs.length vs
 noi:NoI w v
 nob:NoB w v
 len:vs.length=rows.length
 out:∀(k:Nat) (u:Value) (z:List Int),vs[k]? = some u->rows[k]? = some z->NRow w u z L
theorem RmO.below{B:Nat}{w w':World}{v:Value}{vs:List Value}{rows:List (List Int)}{L:Nat}(h:RmO B w v vs rows L)(hb:Below w.heap.size w w'):RmO B w' v vs rows L:=
 ⟨h.own.kept (row:=none) ⟨hb.os,hb.tape,hb.output,hb.size,fun k hk _=>hb.block k hk⟩ (by cases hv:v.ownBlock <;> simp),h.noi.below (fun k hk=>(h.own.lt k hk).2) hb,h.nob.below (fun k hk=>(h.own.lt k hk).2) hb,h.len,fun k u z hu hz=>(h.out k u z hu hz).below hb⟩
theorem ajn(B:Nat)(w:World)(L:Nat):RmO B w (.slice none 0 0) [] [] L:=⟨World.ownsRow_nil w B _ 1,fun g cs T hg=>by simp[Value.ownBlock]at hg,fun g cs T hg=>by simp[Value.ownBlock]at hg,rfl,fun k f z hf=>by simp at hf⟩
theorem RmO.nm{B:Nat}{w:World}{v:Value}{vs:List Value}{rows:List (List Int)}{L:Nat}(h:RmO B w v vs rows L):NM w v rows L:=⟨vs,by rw[<-h.len];exact Ce.own h.own,h.out⟩
section
variable {dst:Option Tmp} {ty:TypeId} {pos:String} {after:Array Edge} {guard:Option (Nat×Bool)} {a:Act} {w:World} {ats:Array TypeId} {i j:Nat}
theorem infoSn:(Tryz.prog.info? 76).map (fun i=>(i.zero,i.size,i.bytes))=some (some (.slice none 0 0),1,24):=by kernel_rfl
theorem ajo{B g:Nat}{v:Value}{vs:List Value}{rows:List (List Int)}{L:Nat}{z:List Int}{u:Value}(h1:a.eval (.tmp i)=v)(h2:a.eval (.tmp j)=.slice (some ⟨g,0,none⟩) 1 1)(R:RmO B w v vs rows L)(O:w.heap[g]? = some (.cells #[u] 76 (0,0)))(S:NRow w u z L)(hn:vs.length<=1000000)(hB:B<=w.heap.size):
  Does Tryz.prog {dst,op:=.call {callee:=.builtin .append,args:=#[.tmp i,.tmp j],argTypes:=#[53,53]},type:=ty,pos,after,guard} a.eval w fun v' w'=>RmO B w' v' (vs ++ [u]) (rows ++ [z]) L/\Below B w w':=by
 obtain⟨i0,hi,hz0,hz1,hz2⟩:=info_parts infoSn;obtain⟨ua,uc,hu,_⟩:=S.parts;have hcl:∀(k:Nat) (x:Value),[u][k]? = some x->w.cell? ((⟨g,0,none⟩:Addr).add k)=some x:=fun k x hx=>by
  have hc:∀k,w.cell? ⟨g,k,none⟩ = #[u][k]? :=fun k=>cell_of_row w g k _ _ (0,0) O
  have ha:(⟨g,0,none⟩:Addr).add k=⟨g,k,none⟩:=by unfold Addr.add;split <;> simp_all
  rw[ha,hc];simpa using hx
 have h1c:∀x ∈ [u],x.oneCell'=true:=fun x hx=>by obtain rfl:=List.mem_singleton.1 hx;rw[hu];rfl
 obtain⟨v',w',hr,ho,hgr,_⟩:=run_append_own (P:=Tryz.prog) w B 53 ty 76 i0 _ 1 24 Tryz.underlying53 hi hz0 hz1 hz2 rfl (by decide) v vs.length vs R.own ⟨g,0,none⟩ 1 1 [u] rfl hcl h1c (by simp[maxLen];omega) (by omega) hB;have e:(execOp a.eval {dst,op:=.call {callee:=.builtin .append,args:=#[.tmp i,.tmp j],argTypes:=#[53,53]},type:=ty,pos,after,guard}).run Tryz.prog w=.ok (.value v') w':=by
  simp only[execOp,resolve,invoke,builtin,Sem.run_bind,Sem.run_pure,Result.andThen_ok,List.map_toArray,List.map_cons,List.map_nil,h1,h2,hr]
 refine⟨?_⟩;unfold Turns;rw[e];have hkeep:∀ {x:Value} {y:List Int},NRow w x y L->NRow w' x y L:=fun {x y} hx=>by
  rcases R.own.2 with⟨rfl,_⟩|⟨g',cap,cur,rfl,_,hh,h5,h6,h7,h8⟩
  ·exact hx.below ⟨hgr.os,hgr.tape,hgr.output,hgr.size,fun k hk=>hgr.block k hk (by simp[Value.ownBlock])⟩
  ·exact hx.other hh (R.noi _ cur _ rfl hh) (R.nob _ cur _ rfl hh) hgr.size (fun k hk hne=>hgr.block k hk (by simp[Value.ownBlock];exact fun h=>hne h))
 have hown:=R.own;rw[<-hz1]at hown;have hni:NoI w' v':=an3 (P:=Tryz.prog) w B 53 ty 76 i0 _ 24 Tryz.underlying53 hi hz0 hz2 (by omega) v vs.length vs hown ⟨g,0,none⟩ 1 [u] (by rw[hz1];rfl) hcl h1c (by simp[maxLen];omega) (by omega) R.noi (by rw[hu];simp[isI]) (by simp[Value.cells,isI]) hr;have hnb:NoB w' v':=ax2 (P:=Tryz.prog) w B 53 ty 76 i0 _ 24 Tryz.underlying53 hi hz0 hz2 (by omega) v vs.length vs hown ⟨g,0,none⟩ 1 [u] (by rw[hz1];rfl) hcl h1c (by simp[maxLen];omega) (by omega) R.nob (by rw[hu];simp[isB]) (by simp[Value.cells,isB]) hr;refine⟨⟨by rw[List.length_append];exact ho,hni,hnb,by simp[R.len],fun k x y hx hy=>?_⟩,⟨hgr.os,hgr.tape,hgr.output,hgr.size,fun k hk=>hgr.block k (by omega) (fun e=>?_)⟩⟩
 ·by_cases hk:k<vs.length
  ·rw[List.getElem?_append_left hk]at hx;rw[List.getElem?_append_left (by rw[<-R.len];exact hk)]at hy;exact hkeep (R.out k x y hx hy)
  ·have hkl:=(List.getElem?_eq_some_iff.1 hx).1;simp at hkl;obtain rfl:k=vs.length:=by omega
   rw[List.getElem?_append_right (Nat.le_refl _)]at hx;rw[List.getElem?_append_right (by rw[R.len];exact Nat.le_refl _)]at hy;simp[R.len]at hx hy;subst hx hy;exact hkeep S
 ·have:=R.own.lt k e.symm;omega
theorem au7{m c0:Nat}{a0:Option Addr}{zs:List Int}{L:Nat}(h:a.eval (.tmp i)=.slice a0 m c0)(hR:NRow w (.slice a0 m c0) zs L)(hm:m<=1000000):
  Does Tryz.prog {dst,op:=.call {callee:=.builtin .append,args:=#[.const (.slice none 0 0),.tmp i],argTypes:=#[76,76]},type:=ty,pos,after,guard} a.eval w fun v w'=>NRow w' v zs L/\Below w.heap.size w w':=by
 obtain⟨iW,hi,hz0,hz1,hz2⟩:=info_parts infoN;obtain⟨fs,hC,hl,ho⟩:=hR;obtain⟨ao',cap',hv,h1,h2,h3,h4⟩:=hC;obtain⟨rfl,hme,rfl⟩:=(Value.slice.injEq .. ▸ hv);have h0:a.eval (.const (.slice none 0 0))=.slice none 0 0:=rfl;have key:∃v' w',(Builtin.append_ #[76,76] ty #[.slice none 0 0,.slice a0 m c0]).run Tryz.prog w=.ok v' w'/\w'.ownsRow w.heap.size 83 2 v' m (flat fs)/\Below w.heap.size w w':=by
  cases a0 with
  |none=>
   have hm0:fs.length=0:=by
    rcases h4 with h4|⟨b,off,e,_⟩
    ·exact h4
    ·cases e
   obtain rfl:fs = []:=List.length_eq_zero_iff.1 hm0;obtain rfl:m=0:=hme;exact⟨.slice none 0 0,w,by simp[Builtin.append_,run_underlying Tryz.underlying76,sizeOf,typeInfo,hi,Builtin.lenOf,Builtin.firstCells],World.ownsRow_nil _ _ _ _,Below.refl _ _⟩
  |some ad=>
   obtain⟨v',w',hr,ho,hgr,_⟩:=run_append_own (P:=Tryz.prog) w w.heap.size 76 ty 83 iW _ 2 32 Tryz.underlying76 hi hz0 hz1 hz2 rfl (by decide) (.slice none 0 0) 0 [] (World.ownsRow_nil _ _ _ _) ad m c0 (flat fs) (by rw[aax];omega) (fun j u hu=>by
    rcases h4 with h4|⟨b,off,e,_,hc⟩
    ·rw[List.getElem?_eq_none (by rw[aax];omega)]at hu;cases hu
    ·obtain rfl:=Option.some.inj e;rw[Addr.add_lit]
     exact hc j u hu) (akd fs) (by simp[maxLen];omega) (by omega) (Nat.le_refl _)
   exact⟨v',w',hr,by simpa using ho,(Below.refl _ _).grown hgr (Nat.le_refl _) (fun k hk=>by cases hk)⟩
 obtain⟨v',w',hr,how,hb⟩:=key;have e:(execOp a.eval {dst,op:=.call {callee:=.builtin .append,args:=#[.const (.slice none 0 0),.tmp i],argTypes:=#[76,76]},type:=ty,pos,after,guard}).run Tryz.prog w=.ok (.value v') w':=by
  simp only[execOp,resolve,invoke,builtin,Sem.run_bind,Sem.run_pure,Result.andThen_ok,List.map_toArray,List.map_cons,List.map_nil,h,h0,hr]
 refine⟨?_⟩;unfold Turns;rw[e];exact⟨⟨fs,by rw[<-hme];exact Cl.own how,hl,fun k f z hf hz=>(ho k f z hf hz).rl (Rl.of_below hb)⟩,hb⟩
end
theorem NM.below{w w':World}{v:Value}{rows:List (List Int)}{L:Nat}(h:NM w v rows L)(hb:Below w.heap.size w w'):NM w' v rows L:=by
 obtain⟨vs,h1,h2⟩:=h;exact⟨vs,h1.below hb,fun i u z hu hz=>(h2 i u z hu hz).below hb⟩
theorem NM.parts{w:World}{v:Value}{rows:List (List Int)}{L:Nat}(h:NM w v rows L):∃ao cap,v=.slice ao rows.length cap/\rows.length<=9223372036854775807:=by
 obtain⟨vs,⟨ao,cap,rfl,h1,h2,_⟩,_⟩:=h;exact⟨ao,cap,rfl,by omega⟩
theorem NM.cell{w:World}{ao:Option Addr}{n cap:Nat}{rows:List (List Int)}{L k:Nat}{z:List Int}(h:NM w (.slice ao n cap) rows L)(hz:rows[k]? = some z):∃b off u,ao=some ⟨b,off,none⟩/\b<w.heap.size/\w.cell? ⟨b,off+k,none⟩=some u/\NRow w u z L:=by
 obtain⟨vs,⟨ao',cap',hv,h1,h2,h3,h4⟩,h6⟩:=h;obtain⟨rfl,hn,rfl⟩:=(Value.slice.injEq .. ▸ hv);have hk:=(List.getElem?_eq_some_iff.1 hz).1;obtain⟨u,hu⟩:∃u,vs[k]? = some u:=⟨_,List.getElem?_eq_getElem (by omega)⟩;rcases h4 with h4|⟨b,off,rfl,hb,hc⟩
 ·omega
 ·exact⟨b,off,u,rfl,hb,hc k u hu,h6 k u z hu hz⟩
set_option maxRecDepth 100000 in
theorem ap3(w:World)(v:Value)(rows:List (List Int))(L:Nat)(h:NM w v rows L)(hl:rows.length<=100000)(hr:∀r∈rows,r.length<=1000000):
  Calls Tryz.prog 44 #[v] w fun e w'=>∃r vs,e=.returned r/\RmO w.heap.size w' r vs rows L/\Below w.heap.size w w':=by
 obtain⟨ao,cap,rfl,_⟩:=h.parts;have H:=hide h;have HR:=hide hr;clear h hr;obtain⟨n,hn⟩:∃n,rows.length=n:=⟨_,rfl⟩;rw[hn]at H hl ⊢;have HN:=hide hn;clear hn;go_enter Tryz.func44,Tryz.ntmps44
 go_wp2_with fail
 go_loopw [3,4] (fun ov iv wr=>∃(k:Nat) (vs:List Value),iv=.int .i64 k/\k<=n/\Below w.heap.size w wr/\RmO w.heap.size wr ov vs (rows.take k) L) (fun _ iv _=>n-(intOf iv).toNat)
 case atStart=>exact⟨0,[],rfl,Nat.zero_le _,Below.refl _ _,ajn _ _ _⟩
 case round=>
  obtain⟨k,vs,rfl,hk,hbw,hown⟩:=hrel;have HW:=hide hbw;have HOWN:=hide hown;obtain⟨aov,capv,hov,-⟩:=Ce.own hown.own;subst hov;by_cases hlt:k<n
  ·obtain⟨z,hz⟩:∃z,rows[k]? = some z:=⟨_,List.getElem?_eq_getElem (by have:=HN.out;omega)⟩;obtain⟨b,off,u,rfl,hbl,x0,hu⟩:=(H.out.below hbw).cell hz;obtain⟨ua,uc,rfl,_⟩:=id hu.parts;have HZ:=hide hz;have hm:z.length<=1000000:=HR.out z (List.mem_of_getElem? hz);obtain⟨m,hzm⟩:∃m,z.length=m:=⟨_,rfl⟩;rw[hzm]at hm hu x0;have HU:=hide hu;have hlt':(k:Int)<(n:Int):=by omega
   clear hbw hown hz hu hzm;go_wp2_with (at_builtin;refine abd rfl (au7 (i:=15) rfl HU.out hm) ?_)
   intro v2 w2 hR2 hb2;have HR2:=hide hR2;obtain⟨a2,c2,rfl,_⟩:=id hR2.parts;have hA:=hAl w2 (.cells #[.slice a2 z.length c2] 76);have hO:=heap_alloc_new w2 (.cells #[.slice a2 z.length c2] 76);have hb2':=hb2.trans (hA.mono hb2.size);have hRm:=HOWN.out.below hb2';have hS:=hR2.below hA;have hsz:w.heap.size<=(w2.alloc (.cells #[.slice a2 z.length c2] 76)).heap.size:=Nat.le_trans HW.out.size hb2'.size;have hfl:vs.length<=1000000:=by rw[HOWN.out.len,List.length_take];omega
   go_wp2_with (at_builtin;refine abd rfl (ajo (i:=11) (j:=17) rfl rfl hRm hO hS hfl hsz) ?_)
   intro v3 w3 hR3 hb3;obtain⟨aov3,capv3,hov3,-⟩:=Ce.own hR3.own;subst hov3;have HR3:=hide hR3;have HB3:=hide ((HW.out.trans (hb2'.mono HW.out.size)).trans hb3);clear hR3 hb3 hR2 hO hRm hS hsz hA hb2 hb2' hfl;go_wp2;go_roundw
   case rel=>
    refine⟨k+1,vs ++ [.slice a2 z.length c2],by go_num,by omega,HB3.out,?_⟩;rw[List.take_add_one,HZ.out];exact HR3.out
   case measure=>simp[intOf];omega
  ·have hlt':decide ((k:Int)<(n:Int))=false:=by simp;omega
   have hkn:k=n:=by omega
   subst hkn;clear hbw hown;go_wp2;refine bodyPost_ret (v:=_) (acd rfl rfl) rfl ⟨_,vs,rfl,(by have h:=HOWN.out;rw[List.take_of_length_le (by have:=HN.out;omega)]at h;exact h),HW.out⟩
end Lm
end Go.Proofs.YtpccfkdcpjplgaaGreat
