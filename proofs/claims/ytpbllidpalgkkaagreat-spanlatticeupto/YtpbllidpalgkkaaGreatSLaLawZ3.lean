/-
  What the text behind the last one leans on, part 3.
-/
import Derived.Test.YtpbllidpalgkkaaGreatSLaLawZ2
set_option maxRecDepth 20000
set_option maxHeartbeats 40000000
namespace Go.Proofs.YtpbllidpalgkkaaGreat
namespace Lm
open Go Go.RowKit
theorem alt{P:Program}{ops:Array Oper}{Q:Exit->Act->World->Prop}{id n:Nat}{a:Act}{w:World}(m u:Nat){om ou:Oper}(Ds:List Nat)(Ps:List Says)(hm:P.follows .mixedOrders=true)(hn:a.tmps.size=n)(hnd:Ds.Nodup)(hlt:(Ds.all fun d=>decide (d<n))=true)
  (hdep:(ops.toList.zipIdx.all fun p=>p.1.after.all fun e=>!Region.binds .any e||decide (e.on<p.2))=true) (hms:m+1<=ops.size) (hum:u<m) (hom:ops[m]? = some om) (hou:ops[u]? = some ou) (hall:((List.range m).all fun j=>j==u||waits ops ops.size m j)=true) (hall2:((List.range ops.size).all fun i=>decide (i<=m)||(List.range i).all fun j=>waits ops ops.size i j)=true) (hM:Monos Ps) (hD:Duties P n Ds Ps a w (ops.toList.take m) Ds Ps)
  (hend:∀a' w',a'.tmps.size=n->a'.defers=a.defers->Below w.heap.size w w'->Rest Ds a a'->(∀j,j<Ds.length->Ps.getD j (fun _ _=>True) (a'.eval (.tmp (Ds.getD j 0))) w')->wpList P ops Q (ops.toList.drop m) a' w')
  (hend2:∀a' w',a'.tmps.size=n->a'.defers=a.defers->Below w.heap.size w w'->Rest Ds a a'->(∀j,j<Ds.length->j≠u->Ps.getD j (fun _ _=>True) (a'.eval (.tmp (Ds.getD j 0))) w')->wpList P ops Q (om::ou::ops.toList.drop (m+1)) a' w'):(Code.region id ops true).wp P Q a w:=by
 obtain⟨hlen,hat⟩:=hD.take (by omega);have hL:∀k,k<=ops.size->wpOps P ops Q (List.range' k (ops.size-k))=wpList P ops Q (ops.toList.drop k):=fun k hk=>by
  have:=wpOps_eq_wpList (P:=P) (ops:=ops) (Q:=Q) (ops.toList.drop k) k (fun j=>by rw[List.getElem?_drop,Array.getElem?_toList]);rw[<-this];simp
 have h2L:wpOps P ops Q (m::u::List.range' (m+1) (ops.size-(m+1)))=wpList P ops Q (om::ou::ops.toList.drop (m+1)):=by
  funext a w;simp only[wpOps,wpList,hom,hou,hL (m+1) hms]
 have hneed:∀i o,ops[i]? = some o->m<i->∀l:Array Bool,Shut ops l->(∀e∈o.after,Region.binds .any e=true->l.getD e.on false=true)->∀j,j<i->l.getD j false=true:=by
  intro i o ho hi l hc hl j hj;have hio:i<ops.size:=(Array.getElem?_eq_some_iff.1 ho).1;have h1:=List.all_eq_true.1 hall2 i (List.mem_range.2 hio);simp only[Bool.or_eq_true,decide_eq_true_eq]at h1;rcases h1 with h1|h1
  ·omega
  ·exact acb hc _ i j o ho hl (List.all_eq_true.1 h1 j (List.mem_range.2 hj))
 refine abg hm (fun l a' w'=>(l.size=ops.size/\Shut ops l)/\(((∀j,m<=j->l.getD j false=false)/\Mid n Ds Ps a w (l.extract 0 m) a' w')\/(∃j,m<j/\j<=ops.size/\(∀k,k<j->l.getD k false=true)/\(∀k,j<=k->l.getD k false=false)/\wpOps P ops Q (List.range' j (ops.size-j)) a' w')\/(l.getD u false=false/\(∀k,k<=m->k≠u->l.getD k false=true)/\(∀k,m<k->l.getD k false=false)/\wpOps P ops Q (u::List.range' (m+1) (ops.size-(m+1))) a' w'))) ?_ ?_ ?_
 ·refine⟨⟨by simp,fun j o _ hj=>?_⟩,.inl ⟨fun j _=>?_,by simp[hlen];omega,hn,rfl,Below.drew (Below.refl _ _),fun _ _=>rfl,fun j hj=>?_⟩⟩
  ·exfalso;simp[Array.getElem?_replicate]at hj;split at hj <;> simp at hj
  ·simp[Array.getElem?_replicate];split <;> simp
  ·exfalso;by_cases hjm:j<m
   ·rw[aae hjm]at hj;simp[Array.getElem?_replicate]at hj;split at hj <;> simp at hj
   ·rw[Array.getD_eq_getD_getElem?,Array.getElem?_eq_none (by simp;omega)]at hj;simp at hj
 ·rintro l a' w' ⟨⟨hs,hcl⟩,hI⟩ hr;have hal:=ad8 hdep hs hr;rcases hI with⟨h1,_⟩|⟨j,hj1,hj2,hj3,hj4,hj5⟩|⟨h1,_⟩
  ·have:=hal m (by omega);rw[h1 m (Nat.le_refl _)]at this;cases this
  ·have hje:j=ops.size:=by
    apply Classical.byContradiction;intro hne;have:=hal j (by omega);rw[hj4 j (Nat.le_refl _)]at this;cases this
   subst hje;simpa[wpOps]using hj5
  ·have:=hal u (by omega);rw[h1]at this;cases this
 ·rintro l a' w' ⟨⟨hs,hcl⟩,hI⟩ i hi;obtain⟨hun,o,ho,hdeps⟩:=mem_ready.1 hi;have hio:i<ops.size:=(Array.getElem?_eq_some_iff.1 ho).1;have hset:∀k,k≠i->(l.setIfInBounds i true).getD k false=l.getD k false:=fun k hk=>getD_set_ne false (fun e=>hk e.symm)
  have hseti:(l.setIfInBounds i true).getD i false=true:=by
   rw[Array.getD_eq_getD_getElem?,Array.getElem?_setIfInBounds_self_of_lt (by omega)];rfl
  have hif:l.getD i false=false:=by
   rw[Array.getD_eq_getD_getElem?]at hun ⊢;cases hc:l[i]? with
   |none=>rfl
   |some b=>rw[hc]at hun;simpa using hun
  have hcl':Shut ops (l.setIfInBounds i true):=hcl.set ho hdeps;have hs':(l.setIfInBounds i true).size=ops.size:=by simpa using hs
  rcases hI with⟨h1,hmid⟩|⟨j,hj1,hj2,hj3,hj4,hj5⟩|⟨h1,h2,h3,h4⟩
  ·by_cases him:i<m
   ·have hd':∀e∈o.after,Region.binds .any e=true->(l.extract 0 m).getD e.on false=true:=fun e he hb=>by
     have h2:=List.all_eq_true.1 hdep (o,i) (by rw[List.mem_zipIdx_iff_getElem?];simpa using ho);have h3:e.on<i:=by have h4:=Array.all_eq_true_iff_forall_mem.1 h2 e he;simpa[hb]using h4
     rw[aae (by omega)];exact hdeps e he hb
    refine wpOp_mono (fun a2 w2 h=>⟨⟨hs',hcl'⟩,.inl ⟨fun k hk=>?_,?_⟩⟩) (ae1 hat (by omega) hnd hlt hM ho (by omega) hmid hd')
    ·rw[hset k (by omega)];exact h1 k hk
    ·rw[ace];exact h
   ·have him2:i=m:=by
     apply Classical.byContradiction;intro hne;have:=hneed i o ho (by omega) l hcl hdeps m (by omega);rw[h1 m (Nat.le_refl _)]at this;cases this
    subst him2;have hpre:∀j,j<i->j≠u->l.getD j false=true:=fun j hj hju=>by
     have h2:=List.all_eq_true.1 hall j (List.mem_range.2 hj);simp only[Bool.or_eq_true,beq_iff_eq]at h2;rcases h2 with h2|h2
     ·exact absurd h2 hju
     ·exact acb hcl _ i j o ho hdeps h2
    obtain⟨h2,h3,h4,h5,h6,h7⟩:=hmid;by_cases hu:l.getD u false=true
    ·have hw:=hend a' w' h3 h4 h5 h6 (fun j hj=>h7 j (by
      rw[aae (by omega)];by_cases hju:j=u
      ·rw[hju];exact hu
      ·exact hpre j (by omega) hju))
     rw[<-hL _ (by omega),show ops.size-i=(ops.size-(i+1))+1 by omega,List.range'_succ,wpOps_cons]at hw;refine wpOp_mono (fun a2 w2 h=>⟨⟨hs',hcl'⟩,.inr (.inl ⟨i+1,by omega,by omega,fun k hk=>?_,fun k hk=>?_,h⟩)⟩) hw
     ·by_cases e:k=i
      ·subst e;exact hseti
      ·rw[hset k e];by_cases hku:k=u
       ·rw[hku];exact hu
       ·exact hpre k (by omega) hku
     ·rw[hset k (by omega)];exact h1 k (by omega)
    ·have hw:=hend2 a' w' h3 h4 h5 h6 (fun j hj hju=>h7 j (by rw[aae (by omega)];exact hpre j (by omega) hju));rw[<-h2L,wpOps_cons]at hw;refine wpOp_mono (fun a2 w2 h=>⟨⟨hs',hcl'⟩,.inr (.inr ⟨?_,fun k hk hku=>?_,fun k hk=>?_,h⟩)⟩) hw
     ·rw[hset u (by omega)];simpa using hu
     ·by_cases hki:k=i
      ·rw[hki];exact hseti
      ·rw[hset k hki];exact hpre k (by omega) hku
     ·rw[hset k (by omega)];exact h1 k (by omega)
  ·have hij:i=j:=by
    apply Classical.byContradiction;intro hne;by_cases hlt':i<j
    ·rw[hj3 i hlt']at hif;cases hif
    ·have:=hneed i o ho (by omega) l hcl hdeps j (by omega);rw[hj4 j (Nat.le_refl _)]at this;cases this
   subst hij;rw[show ops.size-i=(ops.size-(i+1))+1 by omega,List.range'_succ,wpOps_cons]at hj5;refine wpOp_mono (fun a2 w2 h=>⟨⟨hs',hcl'⟩,.inr (.inl ⟨i+1,by omega,by omega,fun k hk=>?_,fun k hk=>?_,h⟩)⟩) hj5
   ·by_cases e:k=i
    ·subst e;exact hseti
    ·rw[hset k e];exact hj3 k (by omega)
   ·rw[hset k (by omega)];exact hj4 k (by omega)
  ·have hiu:i=u:=by
    apply Classical.byContradiction;intro hne;by_cases him:i<=m
    ·rw[h2 i him hne]at hif;cases hif
    ·have:=hneed i o ho (by omega) l hcl hdeps u (by omega);rw[h1]at this;cases this
   subst hiu;rw[wpOps_cons]at h4;refine wpOp_mono (fun a2 w2 h=>⟨⟨hs',hcl'⟩,.inr (.inl ⟨m+1,by omega,by omega,fun k hk=>?_,fun k hk=>?_,h⟩)⟩) h4
   ·by_cases e:k=i
    ·subst e;exact hseti
    ·rw[hset k e];exact h2 k (by omega) e
   ·rw[hset k (by omega)];exact h3 k (by omega)
theorem OutQr.ru{r:Rat}{L:Nat}{v:Value}{w w':World}(h:OutQr r L v w)(hr:Ru w w'):OutQr r L v w':=OutR.mono5 _ _ L _ _ _ hr h
def ov(x y:Int):Int:=sg (decide (x<0) != decide (y<0)) ((x.natAbs:Int)/(y.natAbs:Int))
section
end
def DutiesX(P:Program)(n:Nat)(Ds:List Nat)(Ps:List Says)(a0:Act)(w0:World)(x:Nat):Nat->List Oper->Prop
 |_,[]=>True
 |i,o::os=>((i==x)=true\/(o.guard=none/\Duty P n Ds Ps a0 w0 o (Ds.getD i 0) (Ps.getD i fun _ _=>True)))/\DutiesX P n Ds Ps a0 w0 x (i+1) os
theorem DutiesX.at{P:Program}{n:Nat}{Ds:List Nat}{Ps:List Says}{a0:Act}{w0:World}{x:Nat}: ∀ {os:List Oper} {m:Nat},DutiesX P n Ds Ps a0 w0 x m os->∀i o,os[i]? = some o->m+i≠x->o.guard=none/\Duty P n Ds Ps a0 w0 o (Ds.getD (m+i) 0) (Ps.getD (m+i) fun _ _=>True)
 | [],_,_=>fun i o h=>by simp at h
 |o::os,m,h=>fun i o' ho hne=>by
  obtain⟨h1,h2⟩:=h;cases i with
  |zero=>
   simp only[List.getElem?_cons_zero,Option.some.injEq]at ho;subst ho;rcases h1 with h1|h1
   ·simp at h1;exact absurd h1 (by simpa using hne)
   ·simpa using h1
  |succ i=>
   have:=DutiesX.at h2 i o' (by simpa using ho) (by omega);rwa[show m+1+i=m+(i+1) by omega]at this
theorem auv{P:Program}{ops:Array Oper}{Q:Exit->Act->World->Prop}{n:Nat}{Ds:List Nat}{Ps:List Says}{a0:Act}{w0:World}{l:Array Bool}{a:Act}{w:World}{i:Nat}{o:Oper}(hd:o.guard=none/\Duty P n Ds Ps a0 w0 o (Ds.getD i 0) (Ps.getD i fun _ _=>True))(hnd:Ds.Nodup)(hlt:(Ds.all fun d=>decide (d<n))=true)(hM:Monos Ps)(ho:ops[i]? = some o)(hil:i<Ds.length)(h:Mid n Ds Ps a0 w0 l a w)(hdeps:∀e∈o.after,Region.binds .any e=true->l.getD e.on false=true):
  wpOp P ops Q i (fun a' w'=>Mid n Ds Ps a0 w0 (l.setIfInBounds i true) a' w') a w:=by
 have h':=h;obtain⟨h1,h2,h3,h4,h5,h6⟩:=h;obtain⟨hg,hdst,hduty⟩:=hd;have hduty:=hduty a w h2 h4 h5 (fun j hj=>by
  obtain⟨e,he,hj⟩:=List.any_eq_true.1 hj;simp only[Bool.and_eq_true,beq_iff_eq]at hj;obtain⟨rfl,hb⟩:=hj
  exact h6 _ (hdeps e (by simpa using he) hb))
 refine wpOp_step ho (fun K' hK=>?_);rw[hg]at hduty;simp only[Region.wanted,hg,if_true];exact Does.wp hduty (fun v w' ⟨hb,hp⟩=>by rw[hdst];exact hK _ _ (h'.put hil hnd hlt hM hb hp))
theorem aoy{P:Program}{ops:Array Oper}{Q:Exit->Act->World->Prop}{id n:Nat}{a:Act}{w:World}(m:Nat){om:Oper}(Ds:List Nat)(Ps:List Says)(hm:P.follows .mixedOrders=true)(hn:a.tmps.size=n)(hnd:Ds.Nodup)(hlt:(Ds.all fun d=>decide (d<n))=true)(hdl:Ds.length=m+2)
  (hdep:(ops.toList.zipIdx.all fun p=>p.1.after.all fun e=>!Region.binds .any e||decide (e.on<p.2))=true) (hms:m+2<=ops.size) (hom:ops[m]? = some om) (hall:((List.range ops.size).all fun i=>decide (i<m)||i==m+1||(List.range i).all fun j=>waits ops ops.size i j)=true) (hM:Monos Ps) (hD:DutiesX P n Ds Ps a w m 0 (ops.toList.take (m+2)))
  (hend:∀a' w',a'.tmps.size=n->a'.defers=a.defers->Below w.heap.size w w'->Rest Ds a a'->(∀j,j<m->Ps.getD j (fun _ _=>True) (a'.eval (.tmp (Ds.getD j 0))) w')->wpList P ops Q (ops.toList.drop m) a' w')
  (hend2:∀a' w',a'.tmps.size=n->a'.defers=a.defers->Below w.heap.size w w'->Rest Ds a a'->(∀j,j<m+2->j≠m->Ps.getD j (fun _ _=>True) (a'.eval (.tmp (Ds.getD j 0))) w')->wpList P ops Q (om::ops.toList.drop (m+2)) a' w'):(Code.region id ops true).wp P Q a w:=by
 have hat:∀i o,ops[i]? = some o->i<m+2->i≠m->o.guard=none/\Duty P n Ds Ps a w o (Ds.getD i 0) (Ps.getD i fun _ _=>True):=fun i o ho hi hne=>by
  have:=hD.at i o (by rw[List.getElem?_take_of_lt hi,Array.getElem?_toList];exact ho) (by omega);simpa using this
 have hL:∀k,k<=ops.size->wpOps P ops Q (List.range' k (ops.size-k))=wpList P ops Q (ops.toList.drop k):=fun k hk=>by
  have:=wpOps_eq_wpList (P:=P) (ops:=ops) (Q:=Q) (ops.toList.drop k) k (fun j=>by rw[List.getElem?_drop,Array.getElem?_toList]);rw[<-this];simp
 have h2L:wpOps P ops Q (m::List.range' (m+2) (ops.size-(m+2)))=wpList P ops Q (om::ops.toList.drop (m+2)):=by
  funext a w;simp only[wpOps,wpList,hom,hL (m+2) hms]
 have hneed:∀i o,ops[i]? = some o->m<=i->i≠m+1->∀l:Array Bool,Shut ops l->(∀e∈o.after,Region.binds .any e=true->l.getD e.on false=true)->∀j,j<i->waits ops ops.size i j=true->l.getD j false=true:=by
  intro i o ho hi hne l hc hl j hj hw;exact acb hc _ i j o ho hl hw
 have hw1:∀i,i<ops.size->m<=i->i≠m+1->∀j,j<i->waits ops ops.size i j=true:=fun i hio hi hne j hj=>by
  have h1:=List.all_eq_true.1 hall i (List.mem_range.2 hio);simp only[Bool.or_eq_true,decide_eq_true_eq,beq_iff_eq]at h1;rcases h1 with(h1|h1)|h1
  ·omega
  ·omega
  ·exact List.all_eq_true.1 h1 j (List.mem_range.2 hj)
 refine abg hm (fun l a' w'=>(l.size=ops.size/\Shut ops l)/\((l.getD m false=false/\(∀j,m+2<=j->l.getD j false=false)/\Mid n Ds Ps a w (l.extract 0 (m+2)) a' w')\/(∃j,m<j/\j<=ops.size/\(∀k,k<j->l.getD k false=true)/\(∀k,j<=k->l.getD k false=false)/\wpOps P ops Q (List.range' j (ops.size-j)) a' w'))) ?_ ?_ ?_
 ·have hz:∀j,(Array.replicate ops.size false).getD j false=false:=fun j=>by
   simp[Array.getElem?_replicate];split <;> simp
  refine⟨⟨by simp,fun j o _ hj=>?_⟩,.inl ⟨hz m,fun j _=>hz j,by simp[hdl];omega,hn,rfl,Below.drew (Below.refl _ _),fun _ _=>rfl,fun j hj=>?_⟩⟩
  ·rw[hz]at hj;cases hj
  ·exfalso;by_cases hjm:j<m+2
   ·rw[aae hjm,hz]at hj;cases hj
   ·rw[Array.getD_eq_getD_getElem?,Array.getElem?_eq_none (by simp;omega)]at hj;simp at hj
 ·rintro l a' w' ⟨⟨hs,hcl⟩,hI⟩ hr;have hal:=ad8 hdep hs hr;rcases hI with⟨h1,_⟩|⟨j,hj1,hj2,hj3,hj4,hj5⟩
  ·have:=hal m (by omega);rw[h1]at this;cases this
  ·have hje:j=ops.size:=by
    apply Classical.byContradiction;intro hne;have:=hal j (by omega);rw[hj4 j (Nat.le_refl _)]at this;cases this
   subst hje;simpa[wpOps]using hj5
 ·rintro l a' w' ⟨⟨hs,hcl⟩,hI⟩ i hi;obtain⟨hun,o,ho,hdeps⟩:=mem_ready.1 hi;have hio:i<ops.size:=(Array.getElem?_eq_some_iff.1 ho).1;have hset:∀k,k≠i->(l.setIfInBounds i true).getD k false=l.getD k false:=fun k hk=>getD_set_ne false (fun e=>hk e.symm)
  have hseti:(l.setIfInBounds i true).getD i false=true:=by
   rw[Array.getD_eq_getD_getElem?,Array.getElem?_setIfInBounds_self_of_lt (by omega)];rfl
  have hif:l.getD i false=false:=by
   rw[Array.getD_eq_getD_getElem?]at hun ⊢;cases hc:l[i]? with
   |none=>rfl
   |some b=>rw[hc]at hun;simpa using hun
  have hcl':Shut ops (l.setIfInBounds i true):=hcl.set ho hdeps;have hs':(l.setIfInBounds i true).size=ops.size:=by simpa using hs
  rcases hI with⟨h0,h1,hmid⟩|⟨j,hj1,hj2,hj3,hj4,hj5⟩
  ·by_cases him:i=m
   ·subst him;have hpre:∀j,j<i->l.getD j false=true:=fun j hj=>hneed i o ho (Nat.le_refl _) (by omega) l hcl hdeps j hj (hw1 i hio (Nat.le_refl _) (by omega) j hj)
    obtain⟨h2,h3,h4,h5,h6,h7⟩:=hmid;by_cases hu:l.getD (i+1) false=true
    ·have hw:=hend2 a' w' h3 h4 h5 h6 (fun j hj hjm=>h7 j (by
      rw[aae hj];by_cases hju:j=i+1
      ·rw[hju];exact hu
      ·exact hpre j (by omega)))
     rw[<-h2L,wpOps_cons]at hw;refine wpOp_mono (fun a2 w2 h=>⟨⟨hs',hcl'⟩,.inr ⟨i+2,by omega,by omega,fun k hk=>?_,fun k hk=>?_,h⟩⟩) hw
     ·by_cases e:k=i
      ·subst e;exact hseti
      ·rw[hset k e];by_cases hku:k=i+1
       ·rw[hku];exact hu
       ·exact hpre k (by omega)
     ·rw[hset k (by omega)];exact h1 k (by omega)
    ·have hw:=hend a' w' h3 h4 h5 h6 (fun j hj=>h7 j (by rw[aae (by omega)];exact hpre j hj));rw[<-hL _ (by omega),show ops.size-i=(ops.size-(i+1))+1 by omega,List.range'_succ,wpOps_cons]at hw;refine wpOp_mono (fun a2 w2 h=>⟨⟨hs',hcl'⟩,.inr ⟨i+1,by omega,by omega,fun k hk=>?_,fun k hk=>?_,h⟩⟩) hw
     ·by_cases e:k=i
      ·subst e;exact hseti
      ·rw[hset k e];exact hpre k (by omega)
     ·rw[hset k (by omega)];by_cases hku:k=i+1
      ·rw[hku];simpa using hu
      ·exact h1 k (by omega)
   ·by_cases hilt:i<m+2
    ·have hd':∀e∈o.after,Region.binds .any e=true->(l.extract 0 (m+2)).getD e.on false=true:=fun e he hb=>by
      have h2:=List.all_eq_true.1 hdep (o,i) (by rw[List.mem_zipIdx_iff_getElem?];simpa using ho);have h3:e.on<i:=by have h4:=Array.all_eq_true_iff_forall_mem.1 h2 e he;simpa[hb]using h4
      rw[aae (by omega)];exact hdeps e he hb
     refine wpOp_mono (fun a2 w2 h=>⟨⟨hs',hcl'⟩,.inl ⟨?_,fun k hk=>?_,?_⟩⟩) (auv (hat i o ho hilt him) hnd hlt hM ho (by omega) hmid hd')
     ·rw[hset m (fun e=>him e.symm)];exact h0
     ·rw[hset k (by omega)];exact h1 k hk
     ·rw[ace];exact h
    ·have:=hneed i o ho (by omega) (by omega) l hcl hdeps m (by omega) (hw1 i hio (by omega) (by omega) m (by omega));rw[h0]at this;cases this
  ·have hij:i=j:=by
    apply Classical.byContradiction;intro hne;by_cases hlt':i<j
    ·rw[hj3 i hlt']at hif;cases hif
    ·have:=hneed i o ho (by omega) (by omega) l hcl hdeps j (by omega) (hw1 i hio (by omega) (by omega) j (by omega));rw[hj4 j (Nat.le_refl _)]at this;cases this
   subst hij;rw[show ops.size-i=(ops.size-(i+1))+1 by omega,List.range'_succ,wpOps_cons]at hj5;refine wpOp_mono (fun a2 w2 h=>⟨⟨hs',hcl'⟩,.inr ⟨i+1,by omega,by omega,fun k hk=>?_,fun k hk=>?_,h⟩⟩) hj5
   ·by_cases e:k=i
    ·subst e;exact hseti
    ·rw[hset k e];exact hj3 k (by omega)
   ·rw[hset k (by omega)];exact hj4 k (by omega)
end Lm
end Go.Proofs.YtpbllidpalgkkaaGreat
