/-
  What the text behind the last one leans on, part 3.
-/
import Derived.Deep.RegionLaw
import Derived.Test.YtjogfjgkabjcfaaGreatSLdLawZ2
set_option maxRecDepth 20000
set_option maxHeartbeats 40000000
namespace Go.Proofs.YtjogfjgkabjcfaaGreat
namespace Lm
open Go Go.RowKit
theorem al4{P:Program}{ops:Array Oper}{Q:Exit->Act->World->Prop}{id n:Nat}{a:Act}{w:World}(m u:Nat){om ou:Oper}(Ds:List Nat)(Ps:List Says)(hm:P.follows .mixedOrders=true)(hn:a.tmps.size=n)(hnd:Ds.Nodup)(hlt:(Ds.all fun d=>decide (d<n))=true)
  (hdep:(ops.toList.zipIdx.all fun p=>p.1.after.all fun e=>!Region.binds .any e||decide (e.on<p.2))=true) (hms:m+1<=ops.size) (hum:u<m) (hom:ops[m]? = some om) (hou:ops[u]? = some ou) (hall:((List.range m).all fun j=>j==u||waits ops ops.size m j)=true) (hall2:((List.range ops.size).all fun i=>decide (i<=m)||(List.range i).all fun j=>waits ops ops.size i j)=true) (hM:Monos Ps) (hD:Duties P n Ds Ps a w (ops.toList.take m) Ds Ps)
  (hend:∀a' w',a'.tmps.size=n->a'.defers=a.defers->Below w.heap.size w w'->Rest Ds a a'->(∀j,j<Ds.length->Ps.getD j (fun _ _=>True) (a'.eval (.tmp (Ds.getD j 0))) w')->wpList P ops Q (ops.toList.drop m) a' w')
  (hend2:∀a' w',a'.tmps.size=n->a'.defers=a.defers->Below w.heap.size w w'->Rest Ds a a'->(∀j,j<Ds.length->j≠u->Ps.getD j (fun _ _=>True) (a'.eval (.tmp (Ds.getD j 0))) w')->wpList P ops Q (om::ou::ops.toList.drop (m+1)) a' w'):(Code.region id ops true).wp P Q a w:=by
 obtain⟨hlen,hat⟩:=hD.take (by omega);have hL:∀k,k<=ops.size->wpOps P ops Q (List.range' k (ops.size-k))=wpList P ops Q (ops.toList.drop k):=fun k hk=>by
  have:=wpOps_eq_wpList (P:=P) (ops:=ops) (Q:=Q) (ops.toList.drop k) k (fun j=>by rw[List.getElem?_drop,Array.getElem?_toList]);rw[<-this];simp
 have h2L:wpOps P ops Q (m::u::List.range' (m+1) (ops.size-(m+1)))=wpList P ops Q (om::ou::ops.toList.drop (m+1)):=by
  funext a w;simp only[wpOps,wpList,hom,hou,hL (m+1) hms]
 have hneed:∀i o,ops[i]? = some o->m<i->∀l:Array Bool,Shut ops l->(∀e∈o.after,Region.binds .any e=true->l.getD e.on false=true)->∀j,j<i->l.getD j false=true:=by
  intro i o ho hi l hc hl j hj;have hio:i<ops.size:=(Array.getElem?_eq_some_iff.1 ho).1;have h1:=List.all_eq_true.1 hall2 i (List.mem_range.2 hio);simp only[Bool.or_eq_true,decide_eq_true_eq]at h1;rcases h1 with h1|h1
  ·omega
  ·exact abr hc _ i j o ho hl (List.all_eq_true.1 h1 j (List.mem_range.2 hj))
 refine abf hm (fun l a' w'=>(l.size=ops.size/\Shut ops l)/\(((∀j,m<=j->l.getD j false=false)/\Mid n Ds Ps a w (l.extract 0 m) a' w')\/(∃j,m<j/\j<=ops.size/\(∀k,k<j->l.getD k false=true)/\(∀k,j<=k->l.getD k false=false)/\wpOps P ops Q (List.range' j (ops.size-j)) a' w')\/(l.getD u false=false/\(∀k,k<=m->k≠u->l.getD k false=true)/\(∀k,m<k->l.getD k false=false)/\wpOps P ops Q (u::List.range' (m+1) (ops.size-(m+1))) a' w'))) ?_ ?_ ?_
 ·refine⟨⟨by simp,fun j o _ hj=>?_⟩,.inl ⟨fun j _=>?_,by simp[hlen];omega,hn,rfl,Below.drew (Below.refl _ _),fun _ _=>rfl,fun j hj=>?_⟩⟩
  ·exfalso;simp[Array.getElem?_replicate]at hj;split at hj <;> simp at hj
  ·simp[Array.getElem?_replicate];split <;> simp
  ·exfalso;by_cases hjm:j<m
   ·rw[aad hjm]at hj;simp[Array.getElem?_replicate]at hj;split at hj <;> simp at hj
   ·rw[Array.getD_eq_getD_getElem?,Array.getElem?_eq_none (by simp;omega)]at hj;simp at hj
 ·rintro l a' w' ⟨⟨hs,hcl⟩,hI⟩ hr;have hal:=aea hdep hs hr;rcases hI with⟨h1,_⟩|⟨j,hj1,hj2,hj3,hj4,hj5⟩|⟨h1,_⟩
  ·have:=hal m (by omega);rw[h1 m (Nat.le_refl _)]at this;cases this
  ·have hje:j=ops.size:=by
    apply Classical.byContradiction;intro hne;have:=hal j (by omega);rw[hj4 j (Nat.le_refl _)]at this;cases this
   subst hje;simpa[wpOps]using hj5
  ·have:=hal u (by omega);rw[h1]at this;cases this
 ·rintro l a' w' ⟨⟨hs,hcl⟩,hI⟩ i hi;obtain⟨hun,o,ho,hdeps⟩:=mem_ready.1 hi;have hio:i<ops.size:=(Array.getElem?_eq_some_iff.1 ho).1;have hset:∀k,k≠i->(l.setIfInBounds i true).getD k false=l.getD k false:=fun k hk=>getD_set_ne false (fun e=>hk e.symm)
  have hseti:(l.setIfInBounds i true).getD i false=true:=by
   rw[Array.getD_eq_getD_getElem?,Array.getElem?_setIfInBounds_self_of_lt (by omega)];rfl
  have hif:l.getD i false=false:=by
   rw[Array.getD_eq_getD_getElem?]at hun ⊢;cases hc:l[i]? with
   |none=>rfl
   |some b=>rw[hc]at hun;simpa using hun
  have hcl':Shut ops (l.setIfInBounds i true):=hcl.set ho hdeps;have hs':(l.setIfInBounds i true).size=ops.size:=by simpa using hs
  rcases hI with⟨h1,hmid⟩|⟨j,hj1,hj2,hj3,hj4,hj5⟩|⟨h1,h2,h3,h4⟩
  ·by_cases him:i<m
   ·have hd':∀e∈o.after,Region.binds .any e=true->(l.extract 0 m).getD e.on false=true:=fun e he hb=>by
     have h2:=List.all_eq_true.1 hdep (o,i) (by rw[List.mem_zipIdx_iff_getElem?];simpa using ho);have h3:e.on<i:=by have h4:=Array.all_eq_true_iff_forall_mem.1 h2 e he;simpa[hb]using h4
     rw[aad (by omega)];exact hdeps e he hb
    refine wpOp_mono (fun a2 w2 h=>⟨⟨hs',hcl'⟩,.inl ⟨fun k hk=>?_,?_⟩⟩) (ae6 hat (by omega) hnd hlt hM ho (by omega) hmid hd')
    ·rw[hset k (by omega)];exact h1 k hk
    ·rw[ab5];exact h
   ·have him2:i=m:=by
     apply Classical.byContradiction;intro hne;have:=hneed i o ho (by omega) l hcl hdeps m (by omega);rw[h1 m (Nat.le_refl _)]at this;cases this
    subst him2;have hpre:∀j,j<i->j≠u->l.getD j false=true:=fun j hj hju=>by
     have h2:=List.all_eq_true.1 hall j (List.mem_range.2 hj);simp only[Bool.or_eq_true,beq_iff_eq]at h2;rcases h2 with h2|h2
     ·exact absurd h2 hju
     ·exact abr hcl _ i j o ho hdeps h2
    obtain⟨h2,h3,h4,h5,h6,h7⟩:=hmid;by_cases hu:l.getD u false=true
    ·have hw:=hend a' w' h3 h4 h5 h6 (fun j hj=>h7 j (by
      rw[aad (by omega)];by_cases hju:j=u
      ·rw[hju];exact hu
      ·exact hpre j (by omega) hju))
     rw[<-hL _ (by omega),show ops.size-i=(ops.size-(i+1))+1 by omega,List.range'_succ,wpOps_cons]at hw;refine wpOp_mono (fun a2 w2 h=>⟨⟨hs',hcl'⟩,.inr (.inl ⟨i+1,by omega,by omega,fun k hk=>?_,fun k hk=>?_,h⟩)⟩) hw
     ·by_cases e:k=i
      ·subst e;exact hseti
      ·rw[hset k e];by_cases hku:k=u
       ·rw[hku];exact hu
       ·exact hpre k (by omega) hku
     ·rw[hset k (by omega)];exact h1 k (by omega)
    ·have hw:=hend2 a' w' h3 h4 h5 h6 (fun j hj hju=>h7 j (by rw[aad (by omega)];exact hpre j (by omega) hju));rw[<-h2L,wpOps_cons]at hw;refine wpOp_mono (fun a2 w2 h=>⟨⟨hs',hcl'⟩,.inr (.inr ⟨?_,fun k hk hku=>?_,fun k hk=>?_,h⟩)⟩) hw
     ·rw[hset u (by omega)];simpa using hu
     ·by_cases hki:k=i
      ·rw[hki];exact hseti
      ·rw[hset k hki];exact hpre k (by omega) hku
     ·rw[hset k (by omega)];exact h1 k (by omega)
  ·have hij:i=j:=by
    apply Classical.byContradiction;intro hne;by_cases hlt':i<j
    ·rw[hj3 i hlt']at hif;cases hif
    ·have:=hneed i o ho (by omega) l hcl hdeps j (by omega);rw[hj4 j (Nat.le_refl _)]at this;cases this
   subst hij;rw[show ops.size-i=(ops.size-(i+1))+1 by omega,List.range'_succ,wpOps_cons]at hj5;refine wpOp_mono (fun a2 w2 h=>⟨⟨hs',hcl'⟩,.inr (.inl ⟨i+1,by omega,by omega,fun k hk=>?_,fun k hk=>?_,h⟩)⟩) hj5
   ·by_cases e:k=i
    ·subst e;exact hseti
    ·rw[hset k e];exact hj3 k (by omega)
   ·rw[hset k (by omega)];exact hj4 k (by omega)
  ·have hiu:i=u:=by
    apply Classical.byContradiction;intro hne;by_cases him:i<=m
    ·rw[h2 i him hne]at hif;cases hif
    ·have:=hneed i o ho (by omega) l hcl hdeps u (by omega);rw[h1]at this;cases this
   subst hiu;rw[wpOps_cons]at h4;refine wpOp_mono (fun a2 w2 h=>⟨⟨hs',hcl'⟩,.inr (.inl ⟨m+1,by omega,by omega,fun k hk=>?_,fun k hk=>?_,h⟩)⟩) h4
   ·by_cases e:k=i
    ·subst e;exact hseti
    ·rw[hset k e];exact h2 k (by omega) e
   ·rw[hset k (by omega)];exact h3 k (by omega)
theorem OutQr.ru{r:Rat}{L:Nat}{v:Value}{w w':World}(h:OutQr r L v w)(hr:Ru w w'):OutQr r L v w':=OutR.mono5 _ _ L _ _ _ hr h
theorem ai5:Has Tryz.prog 87:=by unfold Has;kernel_rfl
theorem asq{a b:Int}{L:Nat}(ha:(a.natAbs:Int)<pw L)(hb:(b.natAbs:Int)<pw L):((a*b).natAbs:Int)<=pw (2*L)-1:=by
 rw[Int.natAbs_mul,show 2*L=L+L from by omega,ab1];have h1:(a.natAbs:Int)<=pw L-1:=by omega
 have h2:(b.natAbs:Int)<=pw L-1:=by omega
 have h3:((a.natAbs*b.natAbs:Nat):Int)<=(pw L-1)*(pw L-1):=by
  rw[Int.natCast_mul];exact Int.mul_le_mul h1 h2 (by omega) (by omega)
 have h4:(pw L-1)*(pw L-1)=pw L*pw L-pw L-pw L+1:=by
  rw[Int.sub_mul,Int.mul_sub];omega
 have:=adw L;omega
theorem axu:Has Tryz.prog 56:=by unfold Has;kernel_rfl
theorem axv:Has Tryz.prog 101:=by unfold Has;kernel_rfl
end Lm
namespace Lm
open Go Go.RowKit
open Dm (WFr)
def PW(K:Nat)(w:World)(bv n i:Nat)(zs:List Int)(L:Nat):Prop:=
 ∃(es:List WE) (B T:Nat->Nat),es.length=n/\w.heap[bv]? = some (.cells (flat es).toArray 45 (0,0))/\(∀(k:Nat) (e:WE) (z:Int),k<i->es[k]? = some e->zs[k]? = some z->WFr (B k) (T k) w e.ng e.a e.c e.zs z/\e.m=e.zs.length/\e.zs.length<=L/\K<=B k/\T k<=w.heap.size)/\(∀k k':Nat,k<k'->k'<i->T k<=B k')
theorem PRow.pw{K:Nat}{w:World}{bv n i:Nat}{zs:List Int}{L:Nat}(h:PRow K w bv n i zs L):PW K w bv n i zs L:=by
 obtain⟨es,B,T,h1,h2,_,h4,h5⟩:=h;exact⟨es,B,T,h1,h2,h4,h5⟩
theorem PW.full{K:Nat}{w:World}{bv n:Nat}{zs:List Int}{L:Nat}(h:PW K w bv n n zs L):PRow K w bv n n zs L:=by
 obtain⟨es,B,T,h1,h2,h4,h5⟩:=h;exact⟨es,B,T,h1,h2,fun k e hk he=>(by have:=(List.getElem?_eq_some_iff.1 he).1;omega),h4,h5⟩
theorem PW.lt{K:Nat}{w:World}{bv n i:Nat}{zs:List Int}{L:Nat}(h:PW K w bv n i zs L):bv<w.heap.size:=by
 obtain⟨es,B,T,h1,h2,_⟩:=h;exact aaa h2
theorem PW.ru{K:Nat}{w w':World}{bv n i:Nat}{zs:List Int}{L:Nat}(h:PW K w bv n i zs L)(hr:Ru w w')(hb:w'.heap[bv]? = w.heap[bv]?):PW K w' bv n i zs L:=by
 obtain⟨es,B,T,h1,h2,h4,h5⟩:=h;refine⟨es,B,T,h1,hb.trans h2,fun k e z hk he hz=>?_,h5⟩;obtain⟨g1,g2,g3,g4,g5⟩:=h4 k e z hk he hz;exact⟨g1.ru hr,g2,g3,g4,Nat.le_trans g5 hr.size⟩
theorem PW.below{K:Nat}{w w':World}{bv n i:Nat}{zs:List Int}{L:Nat}(h:PW K w bv n i zs L)(hb:Below w.heap.size w w'):PW K w' bv n i zs L:=h.ru (Ru.of_below hb) (hb.block bv h.lt)
theorem PW.cells{K:Nat}{w:World}{bv n i:Nat}{zs:List Int}{L:Nat}(h:PW K w bv n i zs L){k:Nat}(hk:k<n):(∃ng a m c,w.cell? ⟨bv,k*2,none⟩=some (.bool ng)/\w.cell? ⟨bv,k*2+1,none⟩=some (.slice a m c))/\w.frozen? ⟨bv,k*2,none⟩=false/\w.frozen? ⟨bv,k*2+1,none⟩=false:=by
 obtain⟨es,B,T,h1,h2,_⟩:=h;obtain⟨e,he⟩:∃e,es[k]? = some e:=⟨_,List.getElem?_eq_getElem (by omega)⟩;obtain⟨f1,f2⟩:=ab7 he;exact⟨⟨e.ng,e.a,e.m,e.c,by rw[cell_of_row _ _ _ _ _ (0,0) h2,List.getElem?_toArray];exact f1,by rw[cell_of_row _ _ _ _ _ (0,0) h2,List.getElem?_toArray];exact f2⟩,frozen_of_row _ _ _ _ _ h2,frozen_of_row _ _ _ _ _ h2⟩
theorem PW.put{K S:Nat}{w1 w2:World}{bv n i:Nat}{zs:List Int}{L:Nat}{z:Int}{ng:Bool}{a:Option Addr}{m c:Nat}(h:PW K w1 bv n i zs L)(hS:w1.heap.size<=S)(hb:Below w1.heap.size w1 w2)(hi:i<n)(hz:zs[i]? = some z)(hK:K<=S)(hv:FrW S z L (.agg #[.bool ng,.slice a m c]) w2):
  PW K ((w2.setCell ⟨bv,i*2,none⟩ (.bool ng)).setCell ⟨bv,i*2+1,none⟩ (.slice a m c)) bv n (i+1) zs L/\Rc bv bv w1 ((w2.setCell ⟨bv,i*2,none⟩ (.bool ng)).setCell ⟨bv,i*2+1,none⟩ (.slice a m c)):=by
 have hlt:=h.lt;obtain⟨es,B,T,e1,e2,e4,e5⟩:=h;replace e2:=(hb.block bv hlt).trans e2;obtain⟨ng',ao',cap',rs,B',T',hv1,hv2,hv3,hv4,hv5⟩:=hv;simp only[Value.agg.injEq,Array.mk.injEq,List.cons.injEq,Value.bool.injEq,Value.slice.injEq,and_true]at hv1;obtain⟨rfl,rfl,rfl,rfl⟩:=hv1;generalize hW:((w2.setCell ⟨bv,i*2,none⟩ (.bool ng)).setCell ⟨bv,i*2+1,none⟩ (.slice a rs.length c))=W;have hbW:W.heap[bv]? = some (.cells (flat (es.set i ⟨ng,a,rs.length,c,rs⟩)).toArray 45 (0,0)):=by
  rw[<-hW,agm es i _ (by omega)];have s1:=heap_setCell_same w2 bv (i*2) _ _ (.bool ng) e2;have s2:=heap_setCell_same _ bv (i*2+1) _ _ (.slice a rs.length c) s1;rw[s2];simp
 have hot:∀k,k≠bv->W.heap[k]? = w2.heap[k]? :=fun k hn=>by rw[<-hW,heap_setCell_other _ ⟨bv,i*2+1,none⟩ k _ hn,heap_setCell_other _ ⟨bv,i*2,none⟩ k _ hn]
 have hsz:w2.heap.size<=W.heap.size:=by rw[<-hW];simp[World.setCell]
 have hru:Ru w2 W:=Ru.of_one e2 (by decide) (aqn es) hsz (fun k _ hn=>hot k hn);have hrc:Rc bv bv w2 W:=⟨by rw[<-hW];rfl,by rw[<-hW];rfl,by rw[<-hW];rfl,hsz,fun k _ hn _=>hot k hn,hru⟩;refine⟨⟨es.set i ⟨ng,a,rs.length,c,rs⟩,fun k=>if k=i then B' else B k,fun k=>if k=i then T' else T k,by simp[e1],hbW,?_,?_⟩,(Rc.of_below hb).trans hrc⟩
 ·intro k e z' hk he hz';by_cases hki:k=i
  ·subst hki;rw[List.getElem?_set_self (by omega)]at he;obtain rfl:=Option.some.inj he;rw[hz]at hz';obtain rfl:=Option.some.inj hz';simp only[if_true];exact⟨hv2.ru hru,trivial,hv5,by omega,Nat.le_trans hv4 hsz⟩
  ·rw[List.getElem?_set_ne (fun h=>hki h.symm)]at he;simp only[if_neg hki];obtain⟨g1,g2,g3,g4,g5⟩:=e4 k e z' (by omega) he hz';exact⟨(g1.ru (Ru.of_below hb)).ru hru,g2,g3,g4,Nat.le_trans g5 (Nat.le_trans hb.size hsz)⟩
 ·intro k k' hkk hk';by_cases hki:k'=i
  ·subst hki;simp only[if_true,if_neg (show k≠k' by omega)];obtain⟨e,he⟩:∃e,es[k]? = some e:=⟨_,List.getElem?_eq_getElem (by omega)⟩;obtain⟨z',hz'⟩:∃z',zs[k]? = some z':=⟨_,List.getElem?_eq_getElem (by have:=(List.getElem?_eq_some_iff.1 hz).1;omega)⟩;have:=(e4 k e z' hkk he hz').2.2.2.2;omega
  ·simp only[if_neg hki,if_neg (show k≠i by omega)];exact e5 k k' hkk (by omega)
theorem PW.back{K:Nat}{w:World}{bv n i:Nat}{zs:List Int}{L:Nat}{z:Int}(h:PW K w bv n (i+1) (zs.set i z) L):PW K w bv n i zs L:=by
 obtain⟨es,B,T,h1,h2,h4,h5⟩:=h;refine⟨es,B,T,h1,h2,fun k e y hk he hy=>h4 k e y (by omega) he ?_,fun k k' hkk hk'=>h5 k k' hkk (by omega)⟩;rw[List.getElem?_set_ne (by omega)];exact hy
theorem PW.fore{K:Nat}{w:World}{bv n i:Nat}{zs:List Int}{L:Nat}{z:Int}(h:PW K w bv n i zs L):PW K w bv n i (zs.set i z) L:=by
 obtain⟨es,B,T,h1,h2,h4,h5⟩:=h;refine⟨es,B,T,h1,h2,fun k e y hk he hy=>h4 k e y hk he ?_,h5⟩;rwa[List.getElem?_set_ne (by omega)]at hy
end Lm
namespace Lm
open Go Go.RowKit
def putZ(rs:List Int)(v:Nat)(fs:List Int):List Int:=(List.range rs.length).map fun i=>if i+1=rs.length then rs[i]?.getD 0-rs[v]?.getD 0*fs[i]?.getD 0 else if i=v then rs[v]?.getD 0*fs[i]?.getD 0 else rs[i]?.getD 0+rs[v]?.getD 0*fs[i]?.getD 0
theorem abp(rs:List Int)(v:Nat)(fs:List Int):(putZ rs v fs).length=rs.length:=by simp[putZ]
theorem akn{rs:List Int}{v:Nat}{fs:List Int}{i:Nat}(h:i<rs.length):(putZ rs v fs)[i]? = some (if i+1=rs.length then rs[i]?.getD 0-rs[v]?.getD 0*fs[i]?.getD 0 else if i=v then rs[v]?.getD 0*fs[i]?.getD 0 else rs[i]?.getD 0+rs[v]?.getD 0*fs[i]?.getD 0):=by
 rw[putZ,List.getElem?_map,List.getElem?_range h];rfl
theorem PW.at{K:Nat}{w:World}{bv n i:Nat}{zs:List Int}{L:Nat}(h:PW K w bv n i zs L){k:Nat}{z:Int}(hk:k<i)(hi:i<=n)(hz:zs[k]? = some z):∃ng a m c,w.cell? ⟨bv,k*2,none⟩=some (.bool ng)/\w.cell? ⟨bv,k*2+1,none⟩=some (.slice a m c)/\FrW K z L (.agg #[.bool ng,.slice a m c]) w:=by
 obtain⟨es,B,T,h1,h2,h4,_⟩:=h;obtain⟨e,he⟩:∃e,es[k]? = some e:=⟨_,List.getElem?_eq_getElem (by omega)⟩;obtain⟨f1,f2⟩:=ab7 he;obtain⟨g1,g2,g3,g4,g5⟩:=h4 k e z hk he hz;exact⟨e.ng,e.a,e.m,e.c,by rw[cell_of_row _ _ _ _ _ (0,0) h2,List.getElem?_toArray];exact f1,by rw[cell_of_row _ _ _ _ _ (0,0) h2,List.getElem?_toArray];exact f2,by rw[g2];exact⟨_,_,_,_,_,_,rfl,g1,g4,g5,g3⟩⟩
theorem azo(a b:Nat):pw a<=pw (a+b):=by
 rw[ab1];have h1:=adw a;have h2:=adw b;have:pw a*1<=pw a*pw b:=Int.mul_le_mul_of_nonneg_left (by omega) (by omega);omega
theorem aqs{x y z:Int}{L:Nat}(hx:(x.natAbs:Int)<pw L)(hy:(y.natAbs:Int)<pw L)(hz:(z.natAbs:Int)<pw L):((x+y*z).natAbs:Int)<pw (3*L+2)/\((x-y*z).natAbs:Int)<pw (3*L+2)/\((y*z).natAbs:Int)<pw (3*L+2):=by
 have h1:=asq hy hz;have h2:=Int.natAbs_add_le x (y*z);have h3:=Int.natAbs_sub_le x (y*z);have h4:=azo L L;have h5:=azo (2*L+1) (L+1);rw[show 2*L+1+(L+1)=3*L+2 from by omega,ab1 (2*L) 1,show pw 1=4294967296 from by decide]at h5;rw[show L+L=2*L from by omega]at h4;have:=adw (2*L);omega
theorem a01(w:World)(vr vf:Value)(rs fs:List Int)(v:Nat)(L:Nat)(hr:IsRow w vr rs L)(hf:IsRow w vf fs L)(hl:fs.length=rs.length)(hv:v+1<rs.length)(hn:rs.length<=1000000000)(hL:L<=20000000):
  Calls Tryz.prog 74 #[vr,.int .i64 (v:Int),vf] w fun e w'=>∃r,e=.returned (.tuple #[r,.int .i64 0])/\ORow w.heap.size w' r (putZ rs v fs) (3*L+2)/\Below w.heap.size w w':=by
 obtain⟨ar,cr,rfl,_⟩:=hr.parts;obtain⟨af,cf,rfl,_⟩:=hf.parts;have HR:=hide hr;have HF:=hide hf;clear hr hf;obtain⟨n,hnn⟩:∃n,rs.length=n:=⟨_,rfl⟩;have HLF:Hid (fs.length=n):=hl.trans hnn;rw[hl]at HF ⊢;rw[hnn]at HR HF hv hn ⊢;have HN:=hide hnn;clear hnn hl;obtain⟨q,hq⟩:∃q:Nat,n=q+1:=⟨n-1,by omega⟩;have hsub:IntKind.i64.wrap ((n:Int)-1)=(q:Int):=by rw[IntKind.wrap_i64];omega
 have hnq:((n:Int)-1)=(q:Int):=by omega
 have HQ:=hide hq;have hne:((n:Int) != (n:Int))=false:=by simp
 have hv0:decide ((v:Int)<0)=false:=by simp
 have hvq:decide ((q:Int)<=(v:Int))=false:=by simp;omega
 have hqn:q<n:=by omega
 clear hq;obtain⟨y,hy⟩:∃y,rs[v]? = some y:=⟨_,List.getElem?_eq_getElem (by have:=HN.out;omega)⟩;obtain⟨b,off,ngv,av,mv,cv,rfl,hbl,xv0,xv1,hxv⟩:=HR.out.cell hy;have HXV:=hide hxv;have HY:=hide hy;clear hxv hy;obtain⟨iW,hi',hz0',hz1',hz2'⟩:=info_parts infoWz;go_enter Tryz.func74,Tryz.ntmps74
 go_wp2_with (refine wpList_make_full _ rfl (.tmp 29) (.tmp 29) 39 rfl w.heap.size 45 iW (.agg #[.bool false,.slice none 0 0]) 2 Tryz.underlying39 hi' hz0' hz1' .i64 .i64 _ _ n rfl rfl (by omega) (by omega) (by rw[hz2'];omega) (by unfold maxLen;omega) (Nat.le_refl _) ?hK)
 case hK=>
  intro w1 hown hgrow;have hb1:Below w.heap.size w w1:=(Below.refl _ _).grown hgrow (Nat.le_refl _) (by simp);obtain⟨_,hmb⟩:=acn hown;rw[acy]at hmb;have HP0:=hide (PRow.pw (PRow.start (K:=w.heap.size) (zs:=putZ rs v fs) (L:=3*L+2) hmb));have HB1:=hide hb1;clear hown hgrow hb1 hmb;go_wp2_with fail
  go_loopw [10,32] (fun _ iv wr=>∃(k:Nat),iv=.int .i64 k/\k<=q/\Below w.heap.size w wr/\PW w.heap.size wr w.heap.size n k (putZ rs v fs) (3*L+2)) (fun _ iv _=>q-(intOf iv).toNat)
  case atStart=>exact⟨0,rfl,Nat.zero_le _,HB1.out,HP0.out⟩
  case round=>
   obtain⟨k,rfl,hk,hbw,hp⟩:=hrel;have HW:=hide hbw;have HP:=hide hp;replace xv0:=(hbw.cell (p:=⟨b,off+v*2,none⟩) hbl).trans xv0;replace xv1:=(hbw.cell (p:=⟨b,off+v*2+1,none⟩) hbl).trans xv1;have HXr:=hide (HXV.out.ru (Ru.of_below hbw));have hvn:(v:Int)<(n:Int):=by omega
   by_cases hlt:k<q
   ·obtain⟨z,hz⟩:∃z,fs[k]? = some z:=⟨_,List.getElem?_eq_getElem (by have:=HLF.out;omega)⟩;obtain⟨bf,of,ngf,axf,mxf,cxf,rfl,hblf,p0,p1,hxf⟩:=HF.out.cell hz;replace p0:=(hbw.cell (p:=⟨bf,of+k*2,none⟩) hblf).trans p0;replace p1:=(hbw.cell (p:=⟨bf,of+k*2+1,none⟩) hblf).trans p1;have HXF:=hide (hxf.ru (Ru.of_below hbw));have hlt':(k:Int)<(q:Int):=by omega
    have hltn:(k:Int)<(n:Int):=by omega
    have hkn:k<n:=by omega
    have HZ:=hide hz;have hszw:=hbw.size;have hbwr:b<wr.heap.size:=Nat.lt_of_lt_of_le hbl hszw;have hbfr:bf<wr.heap.size:=Nat.lt_of_lt_of_le hblf hszw;have HFT:=hide (fun(x:Int) (hx:(x.natAbs:Int)<pw L)=>aqs hx (acz HXr.out) (acz HXF.out));have HPK:=hide (akn (rs:=rs) (v:=v) (fs:=fs) (show k<rs.length by have:=HN.out;omega));clear hbw hp hxf hz;by_cases hkv:k=v
    ·have hkv':((k:Int) != (v:Int))=false:=by simp;omega
     have HKV:=hide hkv;have HPZ:Hid ((putZ rs v fs)[k]? = some (y*z)):=(show(putZ rs v fs)[k]? = some (y*z) by
      have h:=HPK.out;rw[if_neg (by have:=HN.out;omega),if_pos hkv,HY.out,HZ.out]at h
      exact h)
     clear hkv;go_wp2_with fail
     go_region_law (refine adk rfl 87 #[.tmp 40,.tmp 44] #[45,45] rfl ai5 #[.agg #[.bool ngv,.slice av mv cv],.agg #[.bool ngf,.slice axf mxf cxf]] (by simp[Act.eval]) (mulF _ y z _ _ L L (HXr.out.ru (Ru.of_below (show Below wr.heap.size wr _ by(repeat' first|with_reducible(first|exact Below.refl _ _|assumption|refine gdrewN ?_ _|refine Below.alloc ?_ ?_ _|refine Below.drew ?_|refine Below.setCell ?_ ?_ _)|go_size)))) (HXF.out.ru (Ru.of_below (show Below wr.heap.size wr _ by(repeat' first|with_reducible(first|exact Below.refl _ _|assumption|refine gdrewN ?_ _|refine Below.alloc ?_ ?_ _|refine Below.drew ?_|refine Below.setCell ?_ ?_ _)|go_size)))) (by omega) (by omega)) ?_;rintro e w7 ⟨v7,rfl,h7,hb7⟩;obtain⟨ng7,ao7,k7,cap7,rfl⟩:=h7.agg;have hb57:Below wr.heap.size wr w7:=(show Below wr.heap.size wr _ by(repeat' first|with_reducible(first|exact Below.refl _ _|assumption|refine gdrewN ?_ _|refine Below.alloc ?_ ?_ _|refine Below.drew ?_|refine Below.setCell ?_ ?_ _)|go_size)).trans (hb7.mono (by simp));have HB57:=hide hb57;have H7:=hide (h7.low (show wr.heap.size<=_ from(show Below wr.heap.size wr _ by(repeat' first|with_reducible(first|exact Below.refl _ _|assumption|refine gdrewN ?_ _|refine Below.alloc ?_ ?_ _|refine Below.drew ?_|refine Below.setCell ?_ ?_ _)|go_size)).size));have hpc:=(HP.out.below hb57).cells hkn;obtain⟨⟨ngp,ap,mp,cp,c0,c1⟩,cf0,cf1⟩:=hpc;have hpl:=(HP.out.below hb57).lt;clear h7 hb7 hb57;refine⟨_,rfl,?_⟩)
     all_goals (
      go_wp2;obtain⟨q1,q2⟩:=HP.out.put (Nat.le_refl _) HB57.out hkn HPZ.out HW.out.size (H7.out.fit (HFT.out 0 (by simpa using adw L)).2.2);go_roundw
      case rel=>exact⟨k+1,by go_num,by omega,HW.out.trans (q2.below HW.out.size (Nat.le_refl _) (Nat.le_refl _)),q1⟩
      case measure=>simp[intOf];omega)
    ·have hkv':((k:Int) != (v:Int))=true:=by simp;omega
     obtain⟨x,hx⟩:∃x,rs[k]? = some x:=⟨_,List.getElem?_eq_getElem (by have:=HN.out;omega)⟩;obtain⟨bx,ofx,ngx,ax,mx,cx,hbe,hblx,x0,x1,hxx⟩:=HR.out.cell hx;cases hbe
     have HXX:=hide hxx;have HX0:=hide x0;have HX1:=hide x1;have HPZ:Hid ((putZ rs v fs)[k]? = some (x+y*z)):=(show(putZ rs v fs)[k]? = some (x+y*z) by
      have h:=HPK.out;rw[if_neg (by have:=HN.out;omega),if_neg hkv,HY.out,HZ.out,hx]at h
      exact h)
     clear hkv hx hxx x0 x1;go_wp2_with fail
     go_region_law (refine adk rfl 87 #[.tmp 40,.tmp 44] #[45,45] rfl ai5 #[.agg #[.bool ngv,.slice av mv cv],.agg #[.bool ngf,.slice axf mxf cxf]] (by simp[Act.eval]) (mulF _ y z _ _ L L (HXr.out.ru (Ru.of_below (show Below wr.heap.size wr _ by(repeat' first|with_reducible(first|exact Below.refl _ _|assumption|refine gdrewN ?_ _|refine Below.alloc ?_ ?_ _|refine Below.drew ?_|refine Below.setCell ?_ ?_ _)|go_size)))) (HXF.out.ru (Ru.of_below (show Below wr.heap.size wr _ by(repeat' first|with_reducible(first|exact Below.refl _ _|assumption|refine gdrewN ?_ _|refine Below.alloc ?_ ?_ _|refine Below.drew ?_|refine Below.setCell ?_ ?_ _)|go_size)))) (by omega) (by omega)) ?_;rintro e w7 ⟨v7,rfl,h7,hb7⟩;obtain⟨ng7,ao7,k7,cap7,rfl⟩:=h7.agg;have hb57:Below wr.heap.size wr w7:=(show Below wr.heap.size wr _ by(repeat' first|with_reducible(first|exact Below.refl _ _|assumption|refine gdrewN ?_ _|refine Below.alloc ?_ ?_ _|refine Below.drew ?_|refine Below.setCell ?_ ?_ _)|go_size)).trans (hb7.mono (by simp));have HB57:=hide hb57;have H7:=hide (h7.low (show wr.heap.size<=_ from(show Below wr.heap.size wr _ by(repeat' first|with_reducible(first|exact Below.refl _ _|assumption|refine gdrewN ?_ _|refine Below.alloc ?_ ?_ _|refine Below.drew ?_|refine Below.setCell ?_ ?_ _)|go_size)).size));have hpc:=(HP.out.below hb57).cells hkn;obtain⟨⟨ngp,ap,mp,cp,c0,c1⟩,cf0,cf1⟩:=hpc;have hpl:=(HP.out.below hb57).lt;clear h7 hb7 hb57;refine⟨_,rfl,?_⟩)
     all_goals (
      go_wp2_with fail
      obtain⟨q1,q2⟩:=(HP.out.fore (z:=y*z)).put (Nat.le_refl _) HB57.out hkn (show((putZ rs v fs).set k (y*z))[k]? = some (y*z) by rw[List.getElem?_set_self (by rw[abp];have:=HN.out;omega)]) HW.out.size (H7.out.fit (HFT.out 0 (by simpa using adw L)).2.2);generalize ((w7.setCell ⟨w.heap.size,k*2,none⟩ (.bool ng7)).setCell ⟨w.heap.size,k*2+1,none⟩ (.slice ao7 k7 cap7))=w8 at *
      have hbW:Below w.heap.size w w8:=HW.out.trans (q2.below HW.out.size (Nat.le_refl _) (Nat.le_refl _));have HBW:=hide hbW;obtain⟨ng9,a9,m9,c9,d0,d1,hd⟩:=q1.at (k:=k) (z:=y*z) (Nat.lt_succ_self _) (by omega) (by rw[List.getElem?_set_self (by rw[abp];have:=HN.out;omega)]);have x0:=(hbW.cell (p:=⟨b,off+k*2,none⟩) hblx).trans HX0.out;have x1:=(hbW.cell (p:=⟨b,off+k*2+1,none⟩) hblx).trans HX1.out;have HXW:=hide (HXX.out.ru (Ru.of_below hbW));have HD:=hide hd;have HQ1:=hide q1.back;have hq1l:=q1.lt;have hbx8:b<w8.heap.size:=Nat.lt_of_lt_of_le hblx hbW.size;clear q1 q2 hbW hd xv0 xv1 p0 p1 c0 c1 cf0 cf1;go_wp2_with fail
      go_region_law (refine adk rfl 56 #[.tmp 55,.tmp 59] #[45,45] rfl axu #[.agg #[.bool ngx,.slice ax mx cx],.agg #[.bool ng9,.slice a9 m9 c9]] (by simp[Act.eval]) (addF _ x (y*z) _ _ L (3*L+2) (HXW.out.ru (Ru.of_below (show Below w8.heap.size w8 _ by(repeat' first|with_reducible(first|exact Below.refl _ _|assumption|refine gdrewN ?_ _|refine Below.alloc ?_ ?_ _|refine Below.drew ?_|refine Below.setCell ?_ ?_ _)|go_size)))) (HD.out.is.ru (Ru.of_below (show Below w8.heap.size w8 _ by(repeat' first|with_reducible(first|exact Below.refl _ _|assumption|refine gdrewN ?_ _|refine Below.alloc ?_ ?_ _|refine Below.drew ?_|refine Below.setCell ?_ ?_ _)|go_size)))) (by omega) (by omega)) ?_;rintro e w9 ⟨v9,rfl,h9,hb9⟩;obtain⟨nga,aoa,ka,capa,rfl⟩:=h9.agg;have hb89:Below w8.heap.size w8 w9:=(show Below w8.heap.size w8 _ by(repeat' first|with_reducible(first|exact Below.refl _ _|assumption|refine gdrewN ?_ _|refine Below.alloc ?_ ?_ _|refine Below.drew ?_|refine Below.setCell ?_ ?_ _)|go_size)).trans (hb9.mono (by simp));have HB9:=hide hb89;have H9:=hide (h9.low (show w8.heap.size<=_ from(show Below w8.heap.size w8 _ by(repeat' first|with_reducible(first|exact Below.refl _ _|assumption|refine gdrewN ?_ _|refine Below.alloc ?_ ?_ _|refine Below.drew ?_|refine Below.setCell ?_ ?_ _)|go_size)).size));have hpc:=(HQ1.out.below hb89).cells hkn;obtain⟨⟨ngp,ap,mp,cp,c0,c1⟩,cf0,cf1⟩:=hpc;have hpl:=(HQ1.out.below hb89).lt;clear h9 hb9 hb89;refine⟨_,rfl,?_⟩)
      all_goals (
       go_wp2;obtain⟨q1,q2⟩:=HQ1.out.put (Nat.le_refl _) HB9.out hkn HPZ.out HBW.out.size (H9.out.fit (HFT.out x (acz HXX.out)).1);go_roundw
       case rel=>exact⟨k+1,by go_num,by omega,HBW.out.trans (q2.below HBW.out.size (Nat.le_refl _) (Nat.le_refl _)),q1⟩
       case measure=>simp[intOf];omega))
   ·have hlt':decide ((k:Int)<(q:Int))=false:=by simp;omega
    have hkq:k=q:=by omega
    subst hkq;obtain⟨z,hz⟩:∃z,fs[k]? = some z:=⟨_,List.getElem?_eq_getElem (by have:=HLF.out;omega)⟩;obtain⟨bf,of,ngf,axf,mxf,cxf,rfl,hblf,p0,p1,hxf⟩:=HF.out.cell hz;replace p0:=(hbw.cell (p:=⟨bf,of+k*2,none⟩) hblf).trans p0;replace p1:=(hbw.cell (p:=⟨bf,of+k*2+1,none⟩) hblf).trans p1;have HXF:=hide (hxf.ru (Ru.of_below hbw));obtain⟨x,hx⟩:∃x,rs[k]? = some x:=⟨_,List.getElem?_eq_getElem (by have:=HN.out;omega)⟩;obtain⟨bx,ofx,ngx,ax,mx,cx,hbe,hblx,x0,x1,hxx⟩:=HR.out.cell hx;cases hbe
    replace x0:=(hbw.cell (p:=⟨b,off+k*2,none⟩) hblx).trans x0;replace x1:=(hbw.cell (p:=⟨b,off+k*2+1,none⟩) hblx).trans x1;have HXX:=hide (hxx.ru (Ru.of_below hbw));have hltn:(k:Int)<(n:Int):=by omega
    have hkn:k<n:=by omega
    have hszw:=hbw.size;have hbwr:b<wr.heap.size:=Nat.lt_of_lt_of_le hbl hszw;have hbfr:bf<wr.heap.size:=Nat.lt_of_lt_of_le hblf hszw;have HFT:=hide (aqs (acz HXX.out) (acz HXr.out) (acz HXF.out));have HPZ:Hid ((putZ rs v fs)[k]? = some (x-y*z)):=(show(putZ rs v fs)[k]? = some (x-y*z) by
      have h:=akn (rs:=rs) (v:=v) (fs:=fs) (show k<rs.length by have:=HN.out;omega);rw[if_pos (by have:=HN.out;have:=HQ.out;omega),HY.out,hz,hx]at h
      exact h)
    clear hbw hp hxf hz hx hxx;go_wp2_with fail
    go_region_law (first|(refine adk rfl 87 #[.tmp 72,.tmp 76] #[45,45] rfl ai5 #[.agg #[.bool ngv,.slice av mv cv],.agg #[.bool ngf,.slice axf mxf cxf]] (by simp[Act.eval]) (mulF _ y z _ _ L L (HXr.out.ru (Ru.of_below (show Below wr.heap.size wr _ by(repeat' first|with_reducible(first|exact Below.refl _ _|assumption|refine gdrewN ?_ _|refine Below.alloc ?_ ?_ _|refine Below.drew ?_|refine Below.setCell ?_ ?_ _)|go_size)))) (HXF.out.ru (Ru.of_below (show Below wr.heap.size wr _ by(repeat' first|with_reducible(first|exact Below.refl _ _|assumption|refine gdrewN ?_ _|refine Below.alloc ?_ ?_ _|refine Below.drew ?_|refine Below.setCell ?_ ?_ _)|go_size)))) (by omega) (by omega)) ?_;rintro e w7 ⟨v7,rfl,h7,hb7⟩;obtain⟨ng7,ao7,k7,cap7,rfl⟩:=h7.agg;have hb57:Below wr.heap.size wr w7:=(show Below wr.heap.size wr _ by(repeat' first|with_reducible(first|exact Below.refl _ _|assumption|refine gdrewN ?_ _|refine Below.alloc ?_ ?_ _|refine Below.drew ?_|refine Below.setCell ?_ ?_ _)|go_size)).trans (hb7.mono (by simp));have HB57:=hide hb57;have H7:=hide h7;have x07:=(hb57.cell (p:=⟨b,off+k*2,none⟩) hbwr).trans x0;have x17:=(hb57.cell (p:=⟨b,off+k*2+1,none⟩) hbwr).trans x1;have hb7s:=Nat.lt_of_lt_of_le hbwr hb57.size;clear h7 hb7 hb57;refine⟨_,rfl,?_⟩)|(refine adk rfl 101 #[.tmp 68,.tmp 77] #[45,45] rfl axv #[.agg #[.bool ngx,.slice ax mx cx],.agg #[.bool ng7,.slice ao7 k7 cap7]] (by simp[Act.eval]) (subF _ x (y*z) _ _ L (L+L) (HXX.out.ru (Ru.of_below (HB57.out.trans ((show Below w7.heap.size w7 _ by(repeat' first|with_reducible(first|exact Below.refl _ _|assumption|refine gdrewN ?_ _|refine Below.alloc ?_ ?_ _|refine Below.drew ?_|refine Below.setCell ?_ ?_ _)|go_size)).mono HB57.out.size)))) (H7.out.is.ru (Ru.of_below (show Below w7.heap.size w7 _ by(repeat' first|with_reducible(first|exact Below.refl _ _|assumption|refine gdrewN ?_ _|refine Below.alloc ?_ ?_ _|refine Below.drew ?_|refine Below.setCell ?_ ?_ _)|go_size)))) (by omega) (by omega)) ?_;rintro e w9 ⟨v9,rfl,h9,hb9⟩;obtain⟨nga,aoa,ka,capa,rfl⟩:=h9.agg;have hb79:Below w7.heap.size w7 w9:=(show Below w7.heap.size w7 _ by(repeat' first|with_reducible(first|exact Below.refl _ _|assumption|refine gdrewN ?_ _|refine Below.alloc ?_ ?_ _|refine Below.drew ?_|refine Below.setCell ?_ ?_ _)|go_size)).trans (hb9.mono (by simp));have hb89:Below wr.heap.size wr w9:=HB57.out.trans (hb79.mono HB57.out.size);have HB9:=hide hb89;have H9:=hide (h9.low (show wr.heap.size<=_ from Nat.le_trans HB57.out.size (show Below w7.heap.size w7 _ by(repeat' first|with_reducible(first|exact Below.refl _ _|assumption|refine gdrewN ?_ _|refine Below.alloc ?_ ?_ _|refine Below.drew ?_|refine Below.setCell ?_ ?_ _)|go_size)).size));have hpc:=(HP.out.below hb89).cells hkn;obtain⟨⟨ngp,ap,mp,cp,c0,c1⟩,cf0,cf1⟩:=hpc;have hpl:=(HP.out.below hb89).lt;clear h9 hb9 hb89 hb79;refine⟨_,rfl,?_⟩))
    all_goals (
     go_wp2;obtain⟨q1,q2⟩:=HP.out.put (Nat.le_refl _) HB9.out hkn HPZ.out HW.out.size (H9.out.fit HFT.out.2.1);rw[show k+1=n from HQ.out.symm]at q1
     refine bodyPost_ret (v:=_) (by simp[results,Tryz.results74,go_sem];try rfl) rfl ⟨_,rfl,⟨w.heap.size,by rw[abp,HN.out],Nat.le_refl _,by rw[abp,HN.out];exact q1.full,by rw[abp,HN.out];exact hn⟩,HW.out.trans (q2.below HW.out.size (Nat.le_refl _) (Nat.le_refl _))⟩)
def ov(x y:Int):Int:=sg (decide (x<0) != decide (y<0)) ((x.natAbs:Int)/(y.natAbs:Int))
section
end
def DutiesX(P:Program)(n:Nat)(Ds:List Nat)(Ps:List Says)(a0:Act)(w0:World)(x:Nat):Nat->List Oper->Prop
 |_,[]=>True
 |i,o::os=>((i==x)=true\/(o.guard=none/\Duty P n Ds Ps a0 w0 o (Ds.getD i 0) (Ps.getD i fun _ _=>True)))/\DutiesX P n Ds Ps a0 w0 x (i+1) os
theorem DutiesX.at{P:Program}{n:Nat}{Ds:List Nat}{Ps:List Says}{a0:Act}{w0:World}{x:Nat}: ∀ {os:List Oper} {m:Nat},DutiesX P n Ds Ps a0 w0 x m os->∀i o,os[i]? = some o->m+i≠x->o.guard=none/\Duty P n Ds Ps a0 w0 o (Ds.getD (m+i) 0) (Ps.getD (m+i) fun _ _=>True)
 | [],_,_=>fun i o h=>by simp at h
 |o::os,m,h=>fun i o' ho hne=>by
  obtain⟨h1,h2⟩:=h;cases i with
  |zero=>
   simp only[List.getElem?_cons_zero,Option.some.injEq]at ho;subst ho;rcases h1 with h1|h1
   ·simp at h1;exact absurd h1 (by simpa using hne)
   ·simpa using h1
  |succ i=>
   have:=DutiesX.at h2 i o' (by simpa using ho) (by omega);rwa[show m+1+i=m+(i+1) by omega]at this
theorem avc{P:Program}{ops:Array Oper}{Q:Exit->Act->World->Prop}{n:Nat}{Ds:List Nat}{Ps:List Says}{a0:Act}{w0:World}{l:Array Bool}{a:Act}{w:World}{i:Nat}{o:Oper}(hd:o.guard=none/\Duty P n Ds Ps a0 w0 o (Ds.getD i 0) (Ps.getD i fun _ _=>True))(hnd:Ds.Nodup)(hlt:(Ds.all fun d=>decide (d<n))=true)(hM:Monos Ps)(ho:ops[i]? = some o)(hil:i<Ds.length)(h:Mid n Ds Ps a0 w0 l a w)(hdeps:∀e∈o.after,Region.binds .any e=true->l.getD e.on false=true):
  wpOp P ops Q i (fun a' w'=>Mid n Ds Ps a0 w0 (l.setIfInBounds i true) a' w') a w:=by
 have h':=h;obtain⟨h1,h2,h3,h4,h5,h6⟩:=h;obtain⟨hg,hdst,hduty⟩:=hd;have hduty:=hduty a w h2 h4 h5 (fun j hj=>by
  obtain⟨e,he,hj⟩:=List.any_eq_true.1 hj;simp only[Bool.and_eq_true,beq_iff_eq]at hj;obtain⟨rfl,hb⟩:=hj
  exact h6 _ (hdeps e (by simpa using he) hb))
 refine wpOp_step ho (fun K' hK=>?_);rw[hg]at hduty;simp only[Region.wanted,hg,if_true];exact Does.wp hduty (fun v w' ⟨hb,hp⟩=>by rw[hdst];exact hK _ _ (h'.put hil hnd hlt hM hb hp))
theorem api{P:Program}{ops:Array Oper}{Q:Exit->Act->World->Prop}{id n:Nat}{a:Act}{w:World}(m:Nat){om:Oper}(Ds:List Nat)(Ps:List Says)(hm:P.follows .mixedOrders=true)(hn:a.tmps.size=n)(hnd:Ds.Nodup)(hlt:(Ds.all fun d=>decide (d<n))=true)(hdl:Ds.length=m+2)
  (hdep:(ops.toList.zipIdx.all fun p=>p.1.after.all fun e=>!Region.binds .any e||decide (e.on<p.2))=true) (hms:m+2<=ops.size) (hom:ops[m]? = some om) (hall:((List.range ops.size).all fun i=>decide (i<m)||i==m+1||(List.range i).all fun j=>waits ops ops.size i j)=true) (hM:Monos Ps) (hD:DutiesX P n Ds Ps a w m 0 (ops.toList.take (m+2)))
  (hend:∀a' w',a'.tmps.size=n->a'.defers=a.defers->Below w.heap.size w w'->Rest Ds a a'->(∀j,j<m->Ps.getD j (fun _ _=>True) (a'.eval (.tmp (Ds.getD j 0))) w')->wpList P ops Q (ops.toList.drop m) a' w')
  (hend2:∀a' w',a'.tmps.size=n->a'.defers=a.defers->Below w.heap.size w w'->Rest Ds a a'->(∀j,j<m+2->j≠m->Ps.getD j (fun _ _=>True) (a'.eval (.tmp (Ds.getD j 0))) w')->wpList P ops Q (om::ops.toList.drop (m+2)) a' w'):(Code.region id ops true).wp P Q a w:=by
 have hat:∀i o,ops[i]? = some o->i<m+2->i≠m->o.guard=none/\Duty P n Ds Ps a w o (Ds.getD i 0) (Ps.getD i fun _ _=>True):=fun i o ho hi hne=>by
  have:=hD.at i o (by rw[List.getElem?_take_of_lt hi,Array.getElem?_toList];exact ho) (by omega);simpa using this
 have hL:∀k,k<=ops.size->wpOps P ops Q (List.range' k (ops.size-k))=wpList P ops Q (ops.toList.drop k):=fun k hk=>by
  have:=wpOps_eq_wpList (P:=P) (ops:=ops) (Q:=Q) (ops.toList.drop k) k (fun j=>by rw[List.getElem?_drop,Array.getElem?_toList]);rw[<-this];simp
 have h2L:wpOps P ops Q (m::List.range' (m+2) (ops.size-(m+2)))=wpList P ops Q (om::ops.toList.drop (m+2)):=by
  funext a w;simp only[wpOps,wpList,hom,hL (m+2) hms]
 have hneed:∀i o,ops[i]? = some o->m<=i->i≠m+1->∀l:Array Bool,Shut ops l->(∀e∈o.after,Region.binds .any e=true->l.getD e.on false=true)->∀j,j<i->waits ops ops.size i j=true->l.getD j false=true:=by
  intro i o ho hi hne l hc hl j hj hw;exact abr hc _ i j o ho hl hw
 have hw1:∀i,i<ops.size->m<=i->i≠m+1->∀j,j<i->waits ops ops.size i j=true:=fun i hio hi hne j hj=>by
  have h1:=List.all_eq_true.1 hall i (List.mem_range.2 hio);simp only[Bool.or_eq_true,decide_eq_true_eq,beq_iff_eq]at h1;rcases h1 with(h1|h1)|h1
  ·omega
  ·omega
  ·exact List.all_eq_true.1 h1 j (List.mem_range.2 hj)
 refine abf hm (fun l a' w'=>(l.size=ops.size/\Shut ops l)/\((l.getD m false=false/\(∀j,m+2<=j->l.getD j false=false)/\Mid n Ds Ps a w (l.extract 0 (m+2)) a' w')\/(∃j,m<j/\j<=ops.size/\(∀k,k<j->l.getD k false=true)/\(∀k,j<=k->l.getD k false=false)/\wpOps P ops Q (List.range' j (ops.size-j)) a' w'))) ?_ ?_ ?_
 ·have hz:∀j,(Array.replicate ops.size false).getD j false=false:=fun j=>by
   simp[Array.getElem?_replicate];split <;> simp
  refine⟨⟨by simp,fun j o _ hj=>?_⟩,.inl ⟨hz m,fun j _=>hz j,by simp[hdl];omega,hn,rfl,Below.drew (Below.refl _ _),fun _ _=>rfl,fun j hj=>?_⟩⟩
  ·rw[hz]at hj;cases hj
  ·exfalso;by_cases hjm:j<m+2
   ·rw[aad hjm,hz]at hj;cases hj
   ·rw[Array.getD_eq_getD_getElem?,Array.getElem?_eq_none (by simp;omega)]at hj;simp at hj
 ·rintro l a' w' ⟨⟨hs,hcl⟩,hI⟩ hr;have hal:=aea hdep hs hr;rcases hI with⟨h1,_⟩|⟨j,hj1,hj2,hj3,hj4,hj5⟩
  ·have:=hal m (by omega);rw[h1]at this;cases this
  ·have hje:j=ops.size:=by
    apply Classical.byContradiction;intro hne;have:=hal j (by omega);rw[hj4 j (Nat.le_refl _)]at this;cases this
   subst hje;simpa[wpOps]using hj5
 ·rintro l a' w' ⟨⟨hs,hcl⟩,hI⟩ i hi;obtain⟨hun,o,ho,hdeps⟩:=mem_ready.1 hi;have hio:i<ops.size:=(Array.getElem?_eq_some_iff.1 ho).1;have hset:∀k,k≠i->(l.setIfInBounds i true).getD k false=l.getD k false:=fun k hk=>getD_set_ne false (fun e=>hk e.symm)
  have hseti:(l.setIfInBounds i true).getD i false=true:=by
   rw[Array.getD_eq_getD_getElem?,Array.getElem?_setIfInBounds_self_of_lt (by omega)];rfl
  have hif:l.getD i false=false:=by
   rw[Array.getD_eq_getD_getElem?]at hun ⊢;cases hc:l[i]? with
   |none=>rfl
   |some b=>rw[hc]at hun;simpa using hun
  have hcl':Shut ops (l.setIfInBounds i true):=hcl.set ho hdeps;have hs':(l.setIfInBounds i true).size=ops.size:=by simpa using hs
  rcases hI with⟨h0,h1,hmid⟩|⟨j,hj1,hj2,hj3,hj4,hj5⟩
  ·by_cases him:i=m
   ·subst him;have hpre:∀j,j<i->l.getD j false=true:=fun j hj=>hneed i o ho (Nat.le_refl _) (by omega) l hcl hdeps j hj (hw1 i hio (Nat.le_refl _) (by omega) j hj)
    obtain⟨h2,h3,h4,h5,h6,h7⟩:=hmid;by_cases hu:l.getD (i+1) false=true
    ·have hw:=hend2 a' w' h3 h4 h5 h6 (fun j hj hjm=>h7 j (by
      rw[aad hj];by_cases hju:j=i+1
      ·rw[hju];exact hu
      ·exact hpre j (by omega)))
     rw[<-h2L,wpOps_cons]at hw;refine wpOp_mono (fun a2 w2 h=>⟨⟨hs',hcl'⟩,.inr ⟨i+2,by omega,by omega,fun k hk=>?_,fun k hk=>?_,h⟩⟩) hw
     ·by_cases e:k=i
      ·subst e;exact hseti
      ·rw[hset k e];by_cases hku:k=i+1
       ·rw[hku];exact hu
       ·exact hpre k (by omega)
     ·rw[hset k (by omega)];exact h1 k (by omega)
    ·have hw:=hend a' w' h3 h4 h5 h6 (fun j hj=>h7 j (by rw[aad (by omega)];exact hpre j hj));rw[<-hL _ (by omega),show ops.size-i=(ops.size-(i+1))+1 by omega,List.range'_succ,wpOps_cons]at hw;refine wpOp_mono (fun a2 w2 h=>⟨⟨hs',hcl'⟩,.inr ⟨i+1,by omega,by omega,fun k hk=>?_,fun k hk=>?_,h⟩⟩) hw
     ·by_cases e:k=i
      ·subst e;exact hseti
      ·rw[hset k e];exact hpre k (by omega)
     ·rw[hset k (by omega)];by_cases hku:k=i+1
      ·rw[hku];simpa using hu
      ·exact h1 k (by omega)
   ·by_cases hilt:i<m+2
    ·have hd':∀e∈o.after,Region.binds .any e=true->(l.extract 0 (m+2)).getD e.on false=true:=fun e he hb=>by
      have h2:=List.all_eq_true.1 hdep (o,i) (by rw[List.mem_zipIdx_iff_getElem?];simpa using ho);have h3:e.on<i:=by have h4:=Array.all_eq_true_iff_forall_mem.1 h2 e he;simpa[hb]using h4
      rw[aad (by omega)];exact hdeps e he hb
     refine wpOp_mono (fun a2 w2 h=>⟨⟨hs',hcl'⟩,.inl ⟨?_,fun k hk=>?_,?_⟩⟩) (avc (hat i o ho hilt him) hnd hlt hM ho (by omega) hmid hd')
     ·rw[hset m (fun e=>him e.symm)];exact h0
     ·rw[hset k (by omega)];exact h1 k hk
     ·rw[ab5];exact h
    ·have:=hneed i o ho (by omega) (by omega) l hcl hdeps m (by omega) (hw1 i hio (by omega) (by omega) m (by omega));rw[h0]at this;cases this
  ·have hij:i=j:=by
    apply Classical.byContradiction;intro hne;by_cases hlt':i<j
    ·rw[hj3 i hlt']at hif;cases hif
    ·have:=hneed i o ho (by omega) (by omega) l hcl hdeps j (by omega) (hw1 i hio (by omega) (by omega) j (by omega));rw[hj4 j (Nat.le_refl _)]at this;cases this
   subst hij;rw[show ops.size-i=(ops.size-(i+1))+1 by omega,List.range'_succ,wpOps_cons]at hj5;refine wpOp_mono (fun a2 w2 h=>⟨⟨hs',hcl'⟩,.inr ⟨i+1,by omega,by omega,fun k hk=>?_,fun k hk=>?_,h⟩⟩) hj5
   ·by_cases e:k=i
    ·subst e;exact hseti
    ·rw[hset k e];exact hj3 k (by omega)
   ·rw[hset k (by omega)];exact hj4 k (by omega)
def MidK(n ix:Nat)(keep:Nat->Bool)(Ds:List Nat)(Ps:List Says)(a0:Act)(w0:World)(l:Array Bool)(a:Act)(w:World):Prop:=
 l.size=Ds.length/\a.tmps.size=n/\a.defers=a0.defers/\Below w0.heap.size w0 w/\Rest Ds a0 a/\(∀j,l.getD j false=true->(l.getD ix false=false\/keep j=true)->Ps.getD j (fun _ _=>True) (a.eval (.tmp (Ds.getD j 0))) w)
def MonosK(ops:Array Oper)(ix:Nat)(keep:Nat->Bool)(B:Nat)(Ps:List Says):Prop:=∀j,j≠ix->keep j=true->waits ops ops.size j ix=false->∀v w w',Below B w w'->Ps.getD j (fun _ _=>True) v w->Ps.getD j (fun _ _=>True) v w'
def DutyK(P:Program)(n ix:Nat)(Ds:List Nat)(Ps:List Says)(a0:Act)(w0:World)(i:Nat)(o:Oper)(d:Nat)(p:Says):Prop:=
 o.dst=some d/\o.guard=none/\∀a w,a.tmps.size=n->Below w0.heap.size w0 w->Rest Ds a0 a->Deps Ds Ps o a w->(i≠ix->Does P o a.eval w fun v w'=>Below w.heap.size w w'/\p v w')/\(i=ix->Does P o a.eval w fun v w'=>Below w0.heap.size w w'/\p v w')
def DutiesK(P:Program)(n ix:Nat)(Ds:List Nat)(Ps:List Says)(a0:Act)(w0:World):Nat->List Oper->List Nat->List Says->Prop
 |_,[],[],[]=>True
 |i,o::os,d::ds,p::ps=>DutyK P n ix Ds Ps a0 w0 i o d p/\DutiesK P n ix Ds Ps a0 w0 (i+1) os ds ps
 |_,_,_,_=>False
theorem DutiesK.at{P:Program}{n ix:Nat}{Ds:List Nat}{Ps:List Says}{a0:Act}{w0:World}: ∀ {m:Nat} {os:List Oper} {ds:List Nat} {ps:List Says},DutiesK P n ix Ds Ps a0 w0 m os ds ps->ds.length=os.length/\∀i o,os[i]? = some o->DutyK P n ix Ds Ps a0 w0 (m+i) o (ds.getD i 0) (ps.getD i fun _ _=>True)
 |_,[],[],[],_=>⟨rfl,fun i o h=>by simp at h⟩
 |m,o::os,d::ds,p::ps,h=>by
  obtain⟨h1,h2⟩:=h;obtain⟨hl,h3⟩:=DutiesK.at h2;refine⟨by simp[hl],fun i o' ho=>?_⟩;cases i with
  |zero=>
   simp only[List.getElem?_cons_zero,Option.some.injEq]at ho;subst ho;simpa using h1
  |succ i=>
   have:=h3 i o' (by simpa using ho);rw[show m+1+i=m+(i+1) by omega]at this;simpa using this
 |_,[],_::_,_,h=>h.elim
 |_,[],[],_::_,h=>h.elim
 |_,_::_,[],_,h=>h.elim
 |_,_::_,_::_,[],h=>h.elim
theorem DutiesK.take{P:Program}{n ix:Nat}{Ds:List Nat}{Ps:List Says}{a0:Act}{w0:World}{ops:Array Oper}{m:Nat}(h:DutiesK P n ix Ds Ps a0 w0 0 (ops.toList.take m) Ds Ps)(hm:m<=ops.size):Ds.length=m/\∀i o,ops[i]? = some o->i<Ds.length->DutyK P n ix Ds Ps a0 w0 i o (Ds.getD i 0) (Ps.getD i fun _ _=>True):=by
 obtain⟨hl,hat⟩:=h.at;have hl':Ds.length=m:=by rw[hl,List.length_take];simp;omega
 refine⟨hl',fun i o ho hi=>?_⟩;have:=hat i o (by rw[List.getElem?_take_of_lt (by omega),Array.getElem?_toList];exact ho);rwa[Nat.zero_add]at this
theorem MidK.put{n ix:Nat}{keep:Nat->Bool}{Ds:List Nat}{Ps:List Says}{a0:Act}{w0:World}{l:Array Bool}{a:Act}{w w':World}{i:Nat}{v:Value}(h:MidK n ix keep Ds Ps a0 w0 l a w)(hi:i<Ds.length)(hnd:Ds.Nodup)(hlt:(Ds.all fun d=>decide (d<n))=true)(ht:Below w0.heap.size w w')(hk:∀j,j≠i->l.getD j false=true->((l.setIfInBounds i true).getD ix false=false\/keep j=true)->∀u,((l.getD ix false=false\/keep j=true)->Ps.getD j (fun _ _=>True) u w)->Ps.getD j (fun _ _=>True) u w')(hp:Ps.getD i (fun _ _=>True) v w'):
  MidK n ix keep Ds Ps a0 w0 (l.setIfInBounds i true) (a.put (some (Ds.getD i 0)) v) w':=by
 obtain⟨h1,h2,h3,h4,h5,h6⟩:=h;have hd:Ds.getD i 0<n:=by
  have:=List.all_eq_true.1 hlt (Ds.getD i 0) (by rw[List.getD_eq_getElem?_getD,List.getElem?_eq_getElem hi];simp);simpa using this
 refine⟨by simp[h1],by rw[ae1];simp[h2],h3,h4.trans ht,fun k hk=>?_,fun j hj hjk=>?_⟩
 ·rw[aa9,h5 k hk];rintro rfl;have:Ds.contains (Ds.getD i 0)=true:=by
   rw[List.contains_iff_mem,List.getD_eq_getElem?_getD,List.getElem?_eq_getElem hi];simp
  rw[this]at hk;cases hk
 ·by_cases e:j=i
  ·subst e;rw[act (by omega)];exact hp
  ·rw[getD_set_ne false (fun h=>e h.symm)]at hj;have hjl:j<Ds.length:=by
    rw[Array.getD_eq_getD_getElem?]at hj;cases hc:l[j]? with
    |none=>rw[hc]at hj;simp at hj
    |some b=>rw[<-h1];exact(Array.getElem?_eq_some_iff.1 hc).1
   rw[aa9 (af8 hnd hi hjl (fun h=>e h.symm))];exact hk j e hj hjk _ (fun hh=>h6 j hj hh)
theorem avd{P:Program}{ops:Array Oper}{Q:Exit->Act->World->Prop}{n ix:Nat}{keep:Nat->Bool}{Ds:List Nat}{Ps:List Says}{a0:Act}{w0:World}{l:Array Bool}{a:Act}{w:World}{i:Nat}{o:Oper}(hat:∀i o,ops[i]? = some o->i<Ds.length->DutyK P n ix Ds Ps a0 w0 i o (Ds.getD i 0) (Ps.getD i fun _ _=>True))(hnd:Ds.Nodup)(hlt:(Ds.all fun d=>decide (d<n))=true)(hM:Monos Ps)(hT:MonosK ops ix keep w0.heap.size Ps)(hsh:∀j,l.getD j false=true->waits ops ops.size j ix=true->l.getD ix false=true)(ho:ops[i]? = some o)(hil:i<Ds.length)(hun:l.getD i false=false)(h:MidK n ix keep Ds Ps a0 w0 l a w)(hdeps:∀e∈o.after,Region.binds .any e=true->l.getD e.on false=true)(hkp:l.getD ix false=false\/∀e∈o.after,Region.binds .any e=true->keep e.on=true):
  wpOp P ops Q i (fun a' w'=>MidK n ix keep Ds Ps a0 w0 (l.setIfInBounds i true) a' w') a w:=by
 have h':=h;obtain⟨h1,h2,h3,h4,h5,h6⟩:=h;obtain⟨hdst,hgd,hduty⟩:=hat i o ho hil;obtain⟨hd1,hd2⟩:=hduty a w h2 h4 h5 (fun j hj=>by
  obtain⟨e,he,hj⟩:=List.any_eq_true.1 hj;simp only[Bool.and_eq_true,beq_iff_eq]at hj;obtain⟨rfl,hb⟩:=hj
  exact h6 _ (hdeps e (by simpa using he) hb) (hkp.elim .inl (fun h=>.inr (h e (by simpa using he) hb))))
 refine wpOp_step ho (fun K' hK=>?_);simp only[Region.wanted,hgd,if_true];by_cases hix:i=ix
 ·subst hix;refine Does.wp (hd2 rfl) (fun v w' ⟨hb,hp⟩=>?_);rw[hdst];refine hK _ _ (h'.put hil hnd hlt hb (fun j hj hlj hjk u hu=>?_) hp);rcases hjk with hjk|hjk
  ·rw[Array.getD_eq_getD_getElem?,Array.getElem?_setIfInBounds_self_of_lt (by omega)]at hjk;cases hjk
  ·refine hT j hj hjk ?_ u w w' hb (hu (.inl hun));cases hw:waits ops ops.size j i with
   |false=>rfl
   |true=>
    have:=hsh j hlj hw;rw[hun]at this;cases this
 ·refine Does.wp (hd1 hix) (fun v w' ⟨hb,hp⟩=>?_);rw[hdst];refine hK _ _ (h'.put hil hnd hlt (hb.mono h4.size) (fun j _ _ hjk u hu=>hM.at j u w w' hb (hu ?_)) hp);rwa[getD_set_ne false hix]at hjk
theorem anj{P:Program}{ops:Array Oper}{Q:Exit->Act->World->Prop}{id n:Nat}{a:Act}{w:World}(ix m:Nat)(keep:Nat->Bool)(Ds:List Nat)(Ps:List Says)(hm:P.follows .mixedOrders=true)(hn:a.tmps.size=n)(hnd:Ds.Nodup)(hlt:(Ds.all fun d=>decide (d<n))=true)
  (hdep:(ops.toList.zipIdx.all fun p=>p.1.after.all fun e=>decide (e.on<p.2))=true) (hms:m<=ops.size) (hall:((List.range ops.size).all fun i=>decide (i<m)||(List.range i).all fun j=>waits ops ops.size i j)=true) (hkp:((List.range m).all fun i=>i==ix||waits ops ops.size ix i||(match ops[i]? with|some o=>o.after.all (fun e=>!Region.binds .any e||keep e.on)|none=>true))=true) (hM:Monos Ps) (hT:MonosK ops ix keep w.heap.size Ps) (hD:DutiesK P n ix Ds Ps a w 0 (ops.toList.take m) Ds Ps) (hixm:ix<m)
  (hend:∀a' w',a'.tmps.size=n->a'.defers=a.defers->Below w.heap.size w w'->Rest Ds a a'->(∀j,j<Ds.length->keep j=true->Ps.getD j (fun _ _=>True) (a'.eval (.tmp (Ds.getD j 0))) w')->wpList P ops Q (ops.toList.drop m) a' w'):(Code.region id ops true).wp P Q a w:=by
 obtain⟨hlen,hat⟩:=hD.take hms;have hL:∀k,k<=ops.size->wpOps P ops Q (List.range' k (ops.size-k))=wpList P ops Q (ops.toList.drop k):=fun k hk=>by
  have:=wpOps_eq_wpList (P:=P) (ops:=ops) (Q:=Q) (ops.toList.drop k) k (fun j=>by rw[List.getElem?_drop,Array.getElem?_toList]);rw[<-this];simp
 have hneed:∀i o,ops[i]? = some o->m<=i->∀l:Array Bool,Shut ops l->(∀e∈o.after,Region.binds .any e=true->l.getD e.on false=true)->∀j,j<i->l.getD j false=true:=by
  intro i o ho hi l hc hl j hj;have hio:i<ops.size:=(Array.getElem?_eq_some_iff.1 ho).1;have h1:=List.all_eq_true.1 hall i (List.mem_range.2 hio);simp only[Bool.or_eq_true,decide_eq_true_eq]at h1;rcases h1 with h1|h1
  ·omega
  ·exact abr hc _ i j o ho hl (List.all_eq_true.1 h1 j (List.mem_range.2 hj))
 have hkp':∀i o,ops[i]? = some o->i<m->∀l:Array Bool,l.getD i false=false->Shut ops l->(l.extract 0 m).getD ix false=false\/∀e∈o.after,Region.binds .any e=true->keep e.on=true:=by
  intro i o ho him l hun hcl;cases hx:(l.extract 0 m).getD ix false with
  |false=>exact .inl rfl
  |true=>
   refine .inr fun e he hb=>?_
   rw[aad hixm]at hx;have h1:=List.all_eq_true.1 hkp i (List.mem_range.2 him);simp only[Bool.or_eq_true,beq_iff_eq]at h1;rcases h1 with(h1|h1)|h1
   ·subst h1;rw[hun]at hx;cases hx
   ·exfalso;obtain⟨ox,hox⟩:∃ox,ops[ix]? = some ox:=⟨_,Array.getElem?_eq_getElem (by omega)⟩;have:=abr hcl _ ix i ox hox (hcl ix ox hox hx) h1;rw[hun]at this;cases this
   ·rw[ho]at h1;have h2:=Array.all_eq_true_iff_forall_mem.1 h1 e he;simp only[hb,Bool.not_true,Bool.false_or]at h2;exact h2
 have hsh':∀l:Array Bool,Shut ops l->∀j,(l.extract 0 m).getD j false=true->waits ops ops.size j ix=true->(l.extract 0 m).getD ix false=true:=by
  intro l hcl j hj hw;have hjm:j<m:=by
   apply Classical.byContradiction;intro hno;rw[Array.getD_eq_getD_getElem?,Array.getElem?_eq_none (by simp;omega)]at hj;cases hj
  rw[aad hjm]at hj;rw[aad hixm];obtain⟨oj,hoj⟩:∃oj,ops[j]? = some oj:=⟨_,Array.getElem?_eq_getElem (by omega)⟩;exact abr hcl _ j ix oj hoj (hcl j oj hoj hj) hw
 refine abf hm (fun l a' w'=>(l.size=ops.size/\Shut ops l)/\(((∀j,m<=j->l.getD j false=false)/\MidK n ix keep Ds Ps a w (l.extract 0 m) a' w')\/∃j,m<j/\j<=ops.size/\(∀k,k<j->l.getD k false=true)/\(∀k,j<=k->l.getD k false=false)/\wpOps P ops Q (List.range' j (ops.size-j)) a' w')) ?_ ?_ ?_
 ·refine⟨⟨by simp,fun j o _ hj=>?_⟩,.inl ⟨fun j _=>?_,by simp[hlen];omega,hn,rfl,Below.drew (Below.refl _ _),fun _ _=>rfl,fun j hj _=>?_⟩⟩
  ·exfalso;simp[Array.getElem?_replicate]at hj;split at hj <;> simp at hj
  ·simp[Array.getElem?_replicate];split <;> simp
  ·exfalso;by_cases hjm:j<m
   ·rw[aad hjm]at hj;simp[Array.getElem?_replicate]at hj;split at hj <;> simp at hj
   ·rw[Array.getD_eq_getD_getElem?,Array.getElem?_eq_none (by simp;omega)]at hj;simp at hj
 ·rintro l a' w' ⟨⟨hs,hcl⟩,hI⟩ hr;have hal:=adn hdep hs hr;rcases hI with⟨h1,h2,h3,h4,h5,h6,h7⟩|⟨j,hj1,hj2,hj3,hj4,hj5⟩
  ·have hmo:m=ops.size:=by
    apply Classical.byContradiction;intro hne;have:=hal m (by omega);rw[h1 m (Nat.le_refl _)]at this;cases this
   have:=hend a' w' h3 h4 h5 h6 (fun j hj hkj=>h7 j (by rw[aad (by omega)];exact hal j (by omega)) (.inr hkj));rw[List.drop_eq_nil_of_le (by simp;omega)]at this;exact this
  ·have hje:j=ops.size:=by
    apply Classical.byContradiction;intro hne;have:=hal j (by omega);rw[hj4 j (Nat.le_refl _)]at this;cases this
   subst hje;simpa[wpOps]using hj5
 ·rintro l a' w' ⟨⟨hs,hcl⟩,hI⟩ i hi;obtain⟨hun,o,ho,hdeps⟩:=mem_ready.1 hi;have hio:i<ops.size:=(Array.getElem?_eq_some_iff.1 ho).1;have hset:∀k,k≠i->(l.setIfInBounds i true).getD k false=l.getD k false:=fun k hk=>getD_set_ne false (fun e=>hk e.symm)
  have hseti:(l.setIfInBounds i true).getD i false=true:=by
   rw[Array.getD_eq_getD_getElem?,Array.getElem?_setIfInBounds_self_of_lt (by omega)];rfl
  have hif:l.getD i false=false:=by
   rw[Array.getD_eq_getD_getElem?]at hun ⊢;cases hc:l[i]? with
   |none=>rfl
   |some b=>rw[hc]at hun;simpa using hun
  have hcl':Shut ops (l.setIfInBounds i true):=hcl.set ho hdeps;have hrun:∀j,j=i->wpOps P ops Q (List.range' j (ops.size-j)) a' w'->m<=j->(∀k,k<j->l.getD k false=true)->(∀k,j<=k->l.getD k false=false)->wpOp P ops Q i (fun a' w'=>((l.setIfInBounds i true).size=ops.size/\Shut ops (l.setIfInBounds i true))/\(((∀j,m<=j->(l.setIfInBounds i true).getD j false=false)/\MidK n ix keep Ds Ps a w ((l.setIfInBounds i true).extract 0 m) a' w')\/∃j,m<j/\j<=ops.size/\(∀k,k<j->(l.setIfInBounds i true).getD k false=true)/\(∀k,j<=k->(l.setIfInBounds i true).getD k false=false)/\wpOps P ops Q (List.range' j (ops.size-j)) a' w')) a' w':=by
   rintro j rfl hw hmj hlo hhi;rw[show ops.size-j=(ops.size-(j+1))+1 by omega,List.range'_succ,wpOps_cons]at hw;refine wpOp_mono (fun a2 w2 h=>⟨⟨by simpa using hs,hcl'⟩,.inr ⟨j+1,by omega,by omega,fun k hk=>?_,fun k hk=>?_,h⟩⟩) hw
   ·by_cases e:k=j
    ·subst e;exact hseti
    ·rw[hset k e];exact hlo k (by omega)
   ·rw[hset k (by omega)];exact hhi k (by omega)
  rcases hI with⟨h1,hmid⟩|⟨j,hj1,hj2,hj3,hj4,hj5⟩
  ·by_cases him:i<m
   ·have hd':∀e∈o.after,Region.binds .any e=true->(l.extract 0 m).getD e.on false=true:=fun e he hb=>by
     have h2:=List.all_eq_true.1 hdep (o,i) (by rw[List.mem_zipIdx_iff_getElem?];simpa using ho);have h3:e.on<i:=by simpa using Array.all_eq_true_iff_forall_mem.1 h2 e he
     rw[aad (by omega)];exact hdeps e he hb
    refine wpOp_mono (fun a2 w2 h=>⟨⟨by simpa using hs,hcl'⟩,.inl ⟨fun k hk=>?_,?_⟩⟩) (avd hat hnd hlt hM hT (hsh' l hcl) ho (by omega) (by rw[aad him];exact hif) hmid hd' (hkp' i o ho him l hif hcl))
    ·rw[hset k (by omega)];exact h1 k hk
    ·rw[ab5];exact h
   ·have hpre:=hneed i o ho (by omega) l hcl hdeps;have hie:i=m:=by
     apply Classical.byContradiction;intro hne;have:=hpre m (by omega);rw[h1 m (Nat.le_refl _)]at this;cases this
    subst hie;obtain⟨h2,h3,h4,h5,h6,h7⟩:=hmid;have hw:=hend a' w' h3 h4 h5 h6 (fun j hj hkj=>h7 j (by rw[aad (by omega)];exact hpre j (by omega)) (.inr hkj));rw[<-hL _ hms]at hw;exact hrun i rfl hw (Nat.le_refl _) hpre h1
  ·have hij:i=j:=by
    apply Classical.byContradiction;intro hne;by_cases hlt':i<j
    ·rw[hj3 i hlt']at hif;cases hif
    ·have:=hneed i o ho (by omega) l hcl hdeps j (by omega);rw[hj4 j (Nat.le_refl _)]at this;cases this
   exact hrun j hij.symm hj5 (by omega) hj3 hj4
end Lm
end Go.Proofs.YtjogfjgkabjcfaaGreat
