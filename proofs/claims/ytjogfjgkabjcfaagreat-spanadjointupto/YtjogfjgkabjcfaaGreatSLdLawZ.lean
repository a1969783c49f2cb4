/-
  The given statement on SpanAdjoint, for every input of bulk at most 1048576: the call answers true, and each argument reads behind it as it read before. Its condition: that bulk, and no other. Beside it: Echelon forms that are kept, and what a point and steps out of equations make. No program is named here. A point and steps that equations in echelon form tell make 0 with them. No call is walked here. What is kept of a span, as equations and as lifts: what holds on it says it all. No call is walked here. Where a span is too big, it is so whatever it was made of. No call is walked here. The span of three points that the laws of span ask first: what is kept of it. No call is walked here. Package span: copied; rows that are told, in a list that grows. Package span: what a span tells: Rows, Steps, Base. Rows of fractions that are handed in: what they read as, how long they are together. The laws' Point: a point of whole numbers. What the laws of span ask first. Package span: Join, Meet. Package span: knows, moves, Every's closure. Spans that are made, as what holds on them; what SpanLeast compares. The laws' alone: a span that is made of what is handed in. Package span: Empty in words of what holds, Every. Package span: Clone of lifts, Any. Package span: Before. Package span: a number is stored into a row of one's own. Package span: a clone of a row, told by its numbers; the images of Set while their list grows. Package span: Set. Package span: what holds on the images of Set. The law SpanLattice: what it compares. Join and Meet by what holds. Package span: what Set makes lies in it, where it lies in what Before makes. Package span: what Any makes lies in it, where it lies in what Every makes. The laws SpanTwo and SpanAdjoint: what they call, by what holds. The laws SpanTwo and SpanAdjoint: what comes in, alone; the forms 0 and 1, as a law makes them. The law SpanAdjoint: its walk. How a span is made, as it is handed in: what it reads as.
-/
import Derived.Test.YtjogfjgkabjcfaaGreatRows
import Derived.ProofKit
import Derived.OpenShut
import Derived.ShutString
import Derived.ChangeOld
import Derived.JoinedCond
import Derived.Test.YtjogfjgkabjcfaaGreatSLdLawZ5
set_option maxRecDepth 20000
set_option maxHeartbeats 40000000
namespace Go.Proofs.YtjogfjgkabjcfaaGreat
namespace Lm
open Go Go.RowKit Md
def CnE(N:Nat)(A:List (List Int)):Prop:=∃F:List (Nat×Md.Rw),EF F/\(∀e∈F,e.1<N)/\(∀e∈F,∀c,N<=c->e.2 c=0)/\A=elR N F
theorem aoc{N:Nat}{F:List (Nat×Md.Rw)}(hE:EF F)(hn:∀e∈F,e.1<N)(ho:∀e∈F,∀c,N<=c->e.2 c=0)(x:Md.Rw):RS ((elR N F).map fnR) x↔RS (rowsE F) x:=by
 constructor
 ·intro h;refine h.trans fun y hy=>?_
  obtain⟨r,hr,rfl⟩:=List.mem_map.1 hy;obtain⟨e,he,rfl⟩:=List.mem_map.1 hr;obtain⟨d,hd,_,hk⟩:=ahm hE hn ho he;exact(RS.mem (List.mem_map.2 ⟨e,he,rfl⟩)).div hd hk
 ·intro h;refine h.trans fun y hy=>?_
  obtain⟨e,he,rfl⟩:=List.mem_map.1 hy;obtain⟨d,hd,hm,hk⟩:=ahm hE hn ho he;exact(RS.mem (List.mem_map.2 ⟨_,hm,rfl⟩)).smul d (fun k=>(hk k).symm)
theorem afg{N:Nat}{A B:List (List Int)}(hA:CnE N A)(hB:CnE N B)(h1:∀a∈A,RS (B.map fnR) (fnR a))(h2:∀b∈B,RS (A.map fnR) (fnR b)):A=B:=by
 obtain⟨F,f1,f2,f3,rfl⟩:=hA;obtain⟨G,g1,g2,g3,rfl⟩:=hB;refine avo f1 g1 (fun e he=>?_) (fun e he=>?_)
 ·obtain⟨d,hd,hm,hk⟩:=ahm f1 f2 f3 he;exact((aoc g1 g2 g3 _).1 (h1 _ hm)).smul d (fun k=>(hk k).symm)
 ·obtain⟨d,hd,hm,hk⟩:=ahm g1 g2 g3 he;exact((aoc f1 f2 f3 _).1 (h2 _ hm)).smul d (fun k=>(hk k).symm)
theorem CnE.row{N:Nat}{A:List (List Int)}(h:CnE N A):∀r∈A,r.length=N:=by
 obtain⟨F,_,_,_,rfl⟩:=h;exact ad2
theorem CnE.el{N:Nat}{A:List (List Int)}(h:CnE N A):∃P,EL N P A:=by
 obtain⟨F,h1,h2,_,rfl⟩:=h;exact⟨_,EF.el h1 h2⟩
theorem CnE.lead{N:Nat}{A:List (List Int)}(h:CnE N A):∀r∈A,∃p,p<N/\Lead r p:=fun r hr=>by
 obtain⟨P,hP⟩:=h.el;exact(EL.lead hP r hr).2
theorem CnE.oth{N:Nat}{A:List (List Int)}(h:CnE N A){i k:Nat}{r s:List Int}{p:Nat}(hr:A[i]? = some r)(hs:A[k]? = some s)(hne:k≠i)(hp:Lead r p):fnR s p=0:=by
 obtain⟨P,hP⟩:=h.el;have hi:=(List.getElem?_eq_some_iff.1 hr).1;obtain⟨q,hq⟩:∃q,P[i]? = some q:=⟨_,List.getElem?_eq_getElem (by rw[hP.len];exact hi)⟩;obtain⟨_,_,h3,h4,_⟩:=hP.row i r q hr hq;have hl:Lead r q:=⟨by show r.getD q 0≠0;omega,fun k hk=>h3 k hk⟩;obtain rfl:=hp.one hl;exact hP.oth i k s _ hq hs hne
end Lm
namespace Lm
open Go Go.RowKit Md
theorem CnE.asc{N:Nat}{A:List (List Int)}(h:CnE N A):A.length<=N:=by
 obtain⟨P,hP⟩:=h.el;have h3:=af7 hP.asc (fun p hp=>by
  obtain⟨i,hi⟩:=List.mem_iff_getElem?.1 hp;have hil:=(List.getElem?_eq_some_iff.1 hi).1;obtain⟨r,hr⟩:∃r,A[i]? = some r:=⟨_,List.getElem?_eq_getElem (by rw[<-hP.len];exact hil)⟩
  exact(hP.row i r p hr hi).2.1)
 rw[hP.len]at h3;exact h3
theorem CnE.leadN{N:Nat}{A:List (List Int)}(h:CnE N A){r:List Int}(hr:r∈A):Lead r (leadN r)/\leadN r<N:=by
 obtain⟨p,hp,hl⟩:=h.lead r hr;rw[hl.n];exact⟨hl,hp⟩
theorem CnE.dif{N:Nat}{A:List (List Int)}(h:CnE N A):A.Pairwise (fun a b=>Lm.leadN a≠Lm.leadN b):=by
 rw[List.pairwise_iff_getElem];intro i j hi hj hij he;have h1:A[i]? = some A[i]:=List.getElem?_eq_getElem hi;have h2:A[j]? = some A[j]:=List.getElem?_eq_getElem hj;have h3:=h.oth h1 h2 (by omega) (h.leadN (List.mem_of_getElem? h1)).1;have h4:=(h.leadN (List.mem_of_getElem? h2)).1;rw[<-he]at h4;exact h4.1 h3
theorem ajc{n k:Nat}: ∀(rows:List (List Int)) (ps:List Rat),(∀r∈rows,leadN r≠k)->(rows.foldl (fun ps r=>ps.set (leadN r) (Rat.divInt (fnR r n) (fnR r (leadN r)))) ps)[k]? = ps[k]?
 | [],_,_=>rfl
 |r::rs,ps,h=>by
  rw[List.foldl_cons,ajc rs _ (fun x hx=>h x (List.mem_cons_of_mem _ hx)),List.getElem?_set_ne (h r (List.mem_cons_self ..))]
theorem awa{n k:Nat}{rows:List (List Int)}(h:∀r∈rows,leadN r≠k)(hk:k<n):(ptQ n rows)[k]? = some 0:=by
 unfold ptQ;rw[ajc rows _ h,List.getElem?_replicate,if_pos hk]
theorem ay3{n:Nat}{rows:List (List Int)}(hd:rows.Pairwise (fun a b=>leadN a≠leadN b)){r:List Int}(hr:r∈rows)(hlt:leadN r<n):(ptQ n rows)[leadN r]? = some (Rat.divInt (fnR r n) (fnR r (leadN r))):=by
 obtain⟨A,B,rfl⟩:=List.append_of_mem hr;have hlen:(ptQ n A).length=n:=aif n A;unfold ptQ at *
 rw[List.foldl_append,List.foldl_cons,ajc B _ (fun x hx=>?_),List.getElem?_set_self (by rw[hlen];exact hlt)];have h2:=(List.pairwise_append.1 hd).2.1;exact fun e=>(List.pairwise_cons.1 h2).1 x hx e.symm
theorem as4{ps:List Rat}{k:Nat}(h:ps[k]? = some 0):fnR (liftZ ps) k=0:=by
 have h1:=ai9 ps h;rw[Rat.mul_zero]at h1
 exact_mod_cast h1
theorem a3l{n:Nat}{E:List (List Int)}(hE:CnE (n+1) E)(hl:∀r∈E,leadN r<n):∀e∈E,dotN (n+1) (fnR (liftZ (ptQ n E))) (fnR e)=0:=by
 intro e he;have hp:=(hE.leadN he).1;have hpn:=hl e he;have hat:=ay3 hE.dif he hpn;generalize leadN e=p at *
 have h1:=ai9 _ hat;have h2:=ags (ptQ n E);rw[aif]at h2;have h3:dotN n (fnR (liftZ (ptQ n E))) (fnR e)=fnR (liftZ (ptQ n E)) p*fnR e p:=by
  unfold dotN;rw[<-adz (f:=fun k=>fnR (liftZ (ptQ n E)) k*fnR e k) (q:=p) List.nodup_range (List.mem_range.2 hpn)];refine ac5 fun k hk=>?_
  have hkn:=List.mem_range.1 hk;by_cases hkp:k=p
  ·rw[if_pos hkp]
  ·rw[if_neg hkp];by_cases hx:∃s∈E,leadN s=k
   ·obtain⟨s,hs,rfl⟩:=hx;obtain⟨i,hi⟩:=List.mem_iff_getElem?.1 hs;obtain⟨j,hj⟩:=List.mem_iff_getElem?.1 he;have hij:j≠i:=fun h=>by
     subst h;rw[hi]at hj;obtain rfl:=Option.some.inj hj;exact hkp (hp.n)
    rw[hE.oth hi hj hij (hE.leadN hs).1,Int.mul_zero]
   ·rw[as4 (awa (fun r hr h=>hx ⟨r,hr,h⟩) hkn),Int.zero_mul]
 rw[aa4,h3,h2];have h4:((fnR e p:Int):Rat)≠0:=by exact_mod_cast hp.1
 rw[Rat.divInt_eq_div]at h1;have h5:((fnR (liftZ (ptQ n E)) p*fnR e p+-(wOf 1 (ptQ n E))*fnR e n:Int):Rat)=0:=by
  push_cast;rw[h1];generalize ((fnR e p:Int):Rat)=a at *
  generalize ((fnR e n:Int):Rat)=b at *
  generalize ((wOf 1 (ptQ n E):Int):Rat)=w at *
  grind
 exact_mod_cast h5
theorem a1v{n p:Nat}{z s:List Int}{e:Md.Rw}(hz:dotN (n+1) (fnR z) e=0)(hs:dotN (n+1) (fnR s) e=0):dotN (n+1) (fnR (clrZ z s p (n+1))) e=0:=by
 rw[aeq (x:=fnR (clrZ z s p (n+1))) (u:=fun k=>fnR s p*fnR z k+(-(fnR z p))*fnR s k) (y:=e) (v:=e) (fun k hk=>by rw[akz hk,Int.sub_eq_add_neg,Int.neg_mul]) (fun _ _=>rfl),ad0,hz,hs];omega
theorem aq8{n:Nat}{e:Md.Rw}: ∀(steps:List (List Int)) {z:List Int},dotN (n+1) (fnR z) e=0->(∀s∈steps,dotN (n+1) (fnR s) e=0)->dotN (n+1) (fnR (basZ z n steps)) e=0
 | [],_,h,_=>h
 |s::ss,_,h,hs=>aq8 ss (a1v h (hs s (List.mem_cons_self ..))) (fun x hx=>hs x (List.mem_cons_of_mem _ hx))
theorem a1w{z:List Int}{n k:Nat}(h:k<n):(lowQ z n)[k]? = some (Rat.divInt (-(fnR z k)) (fnR z n)):=by simp[lowQ,qRow,h]
theorem ay4{n:Nat}{z:List Int}(hn:fnR z n≠0)(k:Nat)(hk:k<n+1):fnR z n*fnR (liftZ (lowQ z n)) k = -(wOf 1 (lowQ z n))*fnR z k:=by
 rcases Nat.lt_or_ge k n with h|h
 ·have h1:=ai9 _ (a1w (z:=z) h);rw[Rat.divInt_eq_div]at h1;have h4:((fnR z n:Int):Rat)≠0:=by exact_mod_cast hn
  have h5:((fnR z n*fnR (liftZ (lowQ z n)) k:Int):Rat)=((-(wOf 1 (lowQ z n))*fnR z k:Int):Rat):=by
   push_cast;rw[h1]
   push_cast;generalize ((fnR z n:Int):Rat)=a at *
   generalize ((fnR z k:Int):Rat)=b at *
   generalize ((wOf 1 (lowQ z n):Int):Rat)=w at *
   grind
  exact_mod_cast h5
 ·obtain rfl:k=n:=by omega
  have h2:=ags (lowQ z k);rw[ad3]at h2;rw[h2]
  grind
theorem a1x{n:Nat}{z:List Int}{e:Md.Rw}(hn:fnR z n≠0)(h:dotN (n+1) (fnR z) e=0):dotN (n+1) (fnR (liftZ (lowQ z n))) e=0:=by
 have h1:=ad0 (n+1) (fnR z n) 0 (fnR (liftZ (lowQ z n))) (fnR z) e;rw[aeq (x:=fun k=>fnR z n*fnR (liftZ (lowQ z n)) k+0*fnR z k) (u:=fun k=>-(wOf 1 (lowQ z n))*fnR z k+0*fnR z k) (y:=e) (v:=e) (fun k hk=>by show fnR z n*fnR (liftZ (lowQ z n)) k+0*fnR z k=_;rw[ay4 hn k hk]) (fun _ _=>rfl),ad0,h]at h1;have h2:fnR z n*dotN (n+1) (fnR (liftZ (lowQ z n))) e=0:=by omega
 rcases Int.mul_eq_zero.1 h2 with h|h
 ·exact absurd h hn
 ·exact h
theorem ac6{n:Nat}{rows:List (List Int)}{R:List Md.Rw}{Q:List Nat}(h:Ech n rows R Q):CnE n (elR n (kerE n R Q)):=⟨kerE n R Q,h.gat.kerEF,akt,ai8,rfl⟩
theorem ak2{n:Nat}{rows:List (List Int)}{R:List Md.Rw}{Q:List Nat}(h:Ech n rows R Q)(hrn:∀r∈rows,r.length=n):CnE n ((baR R Q n).map red):=⟨efOf R Q,h.gat.ef,aku h.gat.lt,h.ef_out hrn,(anp R Q n).symm⟩
theorem aod{n:Nat}{rows:List (List Int)}{R:List Md.Rw}{Q:List Nat}(h:Ech n rows R Q)(hrn:∀r∈rows,r.length=n)(x:Md.Rw):RS (((baR R Q n).map red).map fnR) x↔RS (rows.map fnR) x:=by
 rw[<-anp,aoc h.gat.ef (aku h.gat.lt) (h.ef_out hrn)];constructor
 ·intro hx;refine hx.trans fun y hy=>?_
  obtain⟨e,he,rfl⟩:=List.mem_map.1 hy;refine RS.trans (S:=R) (.of (h.gat.ef_in e he)) fun y hy=>?_
  obtain⟨r,hr,rfl⟩:=h.mem hy;exact .mem (List.mem_map.2 ⟨r,hr,rfl⟩)
 ·intro hx;refine h.gat.in_ef (hx.trans fun y hy=>?_);obtain⟨r,hr,rfl⟩:=List.mem_map.1 hy;exact h.rows_in hr
theorem a1y{n:Nat}{St:List (List Int)}(h:∀s∈St,s.length=n):∀l∈zro St,l.length=n+1:=fun l hl=>by
 obtain⟨s,hs,rfl⟩:=List.mem_map.1 hl;simp[h s hs]
structure Mirs (n:Nat) (E Lf:List (List Int)) (p:List Rat) (St:List (List Int)):Prop where
 lf:Lf=liftZ p::zro St
 pl:p.length=n
 can:CnE n St
 fst:Perp n (fac n E) St
 snd:Perp n St (fac n E)
 perp:Perp (n+1) Lf E
 sml:∀r∈St,r.any big=false
 fit:∀q∈p,Fit q 32
theorem ag0{n:Nat}{E Lf:List (List Int)}(hE:CnE (n+1) E)(hM:MirR n E Lf)(hne:Lf≠[]):(∀r∈E,leadN r<n)/\∃p St,Mirs n E Lf p St:=by
 rcases hM with⟨_,h⟩|⟨hl,R,Q,hR,hb,hf,rfl⟩
 ·exact absurd h hne
 ·have hfl:∀r∈fac n E,r.length=n:=fun r hr=>by
   obtain⟨e,he,rfl⟩:=List.mem_map.1 hr;rw[List.length_take,hE.row e he];omega
  obtain⟨k1,k2⟩:=aco hR hfl;have hc:=ac6 hR;generalize elR n (kerE n R Q)=St at *
  have hsl:=hc.row;have hzl:=agx (n:=n) (St:=St) (fun r hr=>⟨hsl r hr,hc.lead r hr⟩);have hb0:fnR (basZ (liftZ (ptQ n E)) n (zro St)) n≠0:=by
   refine ahs _ _ (fun s hs=>(hzl s hs).2) ?_;have:=afd (ptQ n E);rwa[aif]at this
  have hzd:∀e∈E,∀s∈zro St,dotN (n+1) (fnR s) (fnR e)=0:=fun e he s hs=>by
   have h0:=(hzl s hs).2.2;obtain⟨t,ht,rfl⟩:=List.mem_map.1 hs;rw[aa4,h0,Int.zero_mul,Int.add_zero,aic (hsl t ht),aeq (fun _ _=>rfl) (fun k hk=>(ans hk).symm)];exact k2.dot hsl t ht _ (List.mem_map.2 ⟨e,he,rfl⟩)
  refine⟨hl,_,St,⟨rfl,by rw[mPt,ad3],hc,k1,k2,?_,hb,hf⟩⟩;refine apm (by rw[abn,mPt,ad3]) hsl (fun e he=>?_) ?_ k2
  ·exact a1x hb0 (aq8 _ (a3l hE hl e he) (hzd e he))
  ·have:=afd (mPt n E St);rwa[mPt,ad3,<-mPt]at this
end Lm
namespace Lm
open Go Go.RowKit Md
def Out(n:Nat)(y:Md.Rw):Prop:=∀c,n<=c->y c=0
def Hld(n:Nat)(Lf:List (List Int))(y:Md.Rw):Prop:=∀l∈Lf,dotN (n+1) y (fnR l)=0
def Cls(n:Nat)(E:List (List Int))(y:Md.Rw):Prop:=RS (E.map fnR) (fnR (noneR n))\/RS (E.map fnR) y
theorem ak3(n k:Nat):fnR (noneR n) k=if k=n then 1 else 0:=by
 rcases Nat.lt_trichotomy k n with h|h|h
 ·rw[if_neg (by omega)];exact(agz n).2 k h
 ·subst h;rw[if_pos rfl];exact acq (by rw[noneR,List.getElem?_append_right (by simp)];simp)
 ·rw[if_neg (by omega)];exact acc (by rw[ac0];omega)
theorem ag1(n:Nat)(y:Md.Rw):dotN (n+1) (fnR (noneR n)) y=y n:=by
 rw[aa4,ak3,if_pos rfl];have h:dotN n (fnR (noneR n)) y=0:=adl fun k hk=>by
  have:=List.mem_range.1 hk;rw[ak3,if_neg (by omega),Int.zero_mul]
 rw[h];omega
theorem ade(n:Nat):Out (n+1) (fnR (noneR n)):=aau (ac0 n)
theorem alt{n:Nat}{E:List (List Int)}(hE:CnE (n+1) E){r:List Int}(hr:r∈E)(h:leadN r=n):RS (E.map fnR) (fnR (noneR n)):=by
 have h1:=(hE.leadN hr).1;rw[h]at h1;refine(RS.mem (List.mem_map.2 ⟨r,hr,rfl⟩)).div h1.1 (fun k=>?_);rw[ak3];rcases Nat.lt_trichotomy k n with hk|hk|hk
 ·rw[if_neg (by omega),h1.2 k hk,Int.mul_zero]
 ·rw[if_pos hk,hk,Int.mul_one]
 ·rw[if_neg (by omega),aau (hE.row r hr) k hk,Int.mul_zero]
def stepsOf(n:Nat)(low:List (List Int)):List (List Int):=(low.drop 1).map (List.take n)
structure KeptF (n:Nat) (E Lf:List (List Int)):Prop where
 can:CnE (n+1) E
 small:∀r∈E,r.any big=false
 mir:MirR n E Lf
 ne:Lf≠[]
 eqs:Perp (n+1) E Lf
 lfs:Perp (n+1) Lf E
def Kept(n:Nat)(E Lf:List (List Int)):Prop:=(Lf = []/\E = [noneR n])\/KeptF n E Lf
theorem KeptF.mirs{n:Nat}{E Lf:List (List Int)}(h:KeptF n E Lf):(∀r∈E,leadN r<n)/\∃p St,Mirs n E Lf p St:=ag0 h.can h.mir h.ne
theorem Mirs.row{n:Nat}{E Lf:List (List Int)}{p:List Rat}{St:List (List Int)}(h:Mirs n E Lf p St):∀l∈Lf,l.length=n+1:=by
 rw[h.lf];intro l hl;rcases List.mem_cons.1 hl with rfl|hl
 ·rw[abn,h.pl]
 ·exact a1y h.can.row l hl
theorem Mirs.base{n:Nat}{E Lf:List (List Int)}{p:List Rat}{St:List (List Int)}(h:Mirs n E Lf p St):liftZ p∈Lf/\fnR (liftZ p) n≠0:=by
 refine⟨by rw[h.lf];exact List.mem_cons_self ..,?_⟩;have:=afd p;rwa[h.pl]at this
theorem KeptF.row{n:Nat}{E Lf:List (List Int)}(h:KeptF n E Lf):∀l∈Lf,l.length=n+1:=by
 obtain⟨_,p,St,hm⟩:=h.mirs;exact hm.row
theorem KeptF.point{n:Nat}{E Lf:List (List Int)}(h:KeptF n E Lf):¬Hld n Lf (fnR (noneR n)):=fun hh=>by
 obtain⟨_,p,St,hm⟩:=h.mirs;have h1:=hh _ hm.base.1;rw[ag1]at h1;exact hm.base.2 h1
theorem Kept.row{n:Nat}{E Lf:List (List Int)}(h:Kept n E Lf):(∀e∈E,e.length=n+1)/\∀l∈Lf,l.length=n+1:=by
 rcases h with⟨rfl,rfl⟩|h
 ·exact⟨fun e he=>by rw[List.mem_singleton.1 he,ac0],fun l hl=>by cases hl⟩
 ·exact⟨h.can.row,h.row⟩
theorem Kept.hld{n:Nat}{E Lf:List (List Int)}(h:Kept n E Lf){y:Md.Rw}(hy:Out (n+1) y):Hld n Lf y↔Cls n E y:=by
 rcases h with⟨rfl,rfl⟩|h
 ·exact⟨fun _=>.inl (.mem (List.mem_map.2 ⟨_,List.mem_singleton.2 rfl,rfl⟩)),fun _ l hl=>by cases hl⟩
 ·constructor
  ·intro h1;exact .inr ((h.eqs y hy).2 h1)
  ·rintro (h1|h1)
   ·exact absurd ((h.eqs _ (ade n)).1 h1) h.point
   ·exact(h.eqs y hy).1 h1
theorem ay5{n:Nat}{rows:List (List Int)}{R R':List Md.Rw}{Q Q':List Nat}(h:Ech n (mir rows) R Q)(h':Ech n (mir rows) R' Q')(hrn:∀r∈rows,r.length=n):elR n (kerE n R Q)=elR n (kerE n R' Q'):=by
 obtain⟨k1,k2⟩:=aco h hrn;obtain⟨j1,j2⟩:=aco h' hrn;refine afg (ac6 h) (ac6 h') (fun a ha=>(j2 _ (aau (ad2 a ha))).2 (fun b hb=>?_)) (fun a ha=>(k2 _ (aau (ad2 a ha))).2 (fun b hb=>?_))
 ·exact k2.dot (fun a ha=>ad2 a ha) a ha b hb
 ·exact j2.dot (fun a ha=>ad2 a ha) a ha b hb
theorem aq9{n:Nat}{E:List (List Int)}(h:∀e∈E,e.length=n+1):∀r∈fac n E,r.length=n:=fun r hr=>by
 obtain⟨e,he,rfl⟩:=List.mem_map.1 hr;rw[List.length_take,h e he];omega
theorem awb{n:Nat}{Lf S:List (List Int)}(h:∀s∈S,Hld n Lf (fnR s)){y:Md.Rw}(hy:RS (S.map fnR) y):Hld n Lf y:=fun l hl=>ac9 (fun x hx=>by
 obtain⟨s,hs,rfl⟩:=List.mem_map.1 hx
 exact h s hs l hl) hy
theorem aec{n:Nat}{E Lf E' Lf':List (List Int)}(h:Kept n E Lf)(h':Kept n E' Lf'):(∀e∈E',Hld n Lf (fnR e))↔∀y,Out (n+1) y->Hld n Lf' y->Hld n Lf y:=by
 constructor
 ·intro he y hy hh;rcases(h'.hld hy).1 hh with h1|h1
  ·have h2:=awb he h1;rcases h with⟨rfl,_⟩|h
   ·exact fun l hl=>by cases hl
   ·exact absurd h2 h.point
  ·exact awb he h1
 ·intro ha e he;have ho:=aau (h'.row.1 e he);exact ha _ ho ((h'.hld ho).2 (.inr (.mem (List.mem_map.2 ⟨e,he,rfl⟩))))
theorem ara{n:Nat}{ls low E0 E1:List (List Int)}{p:List Rat}{St:List (List Int)}(hl:∀z∈ls,z.length=n+1)(c0:CnE (n+1) E0)(k2:Perp (n+1) E0 ls)(hm:Mirs n E0 low p St)(c1:CnE (n+1) E1)(j2:Perp (n+1) E1 low):E0=E1:=by
 have hlow:∀z∈ls,RS (low.map fnR) (fnR z):=fun z hz=>(hm.perp _ (aau (hl z hz))).2 fun b hb=>by
  rw[aa1];exact(k2 _ (aau (c0.row b hb))).1 (.mem (List.mem_map.2 ⟨b,hb,rfl⟩)) z hz
 refine afg c0 c1 (fun a ha=>(j2 _ (aau (c0.row a ha))).2 fun l hll=>?_) (fun b hb=>(k2 _ (aau (c1.row b hb))).2 fun z hz=>?_)
 ·rw[aa1];exact hm.perp.dot hm.row l hll a ha
 ·rw[aa1];refine ac9 (fun x hx=>?_) (hlow z hz);obtain⟨l,hll,rfl⟩:=List.mem_map.1 hx;rw[aa1];exact j2.dot c1.row b hb l hll
theorem afo{n:Nat}{ls low eqs:List (List Int)}(hl:∀z∈ls,z.length=n+1)(h:LowR n ls low)(ht:TwiR n low eqs):Kept n eqs low/\(∀l∈low,RS (ls.map fnR) (fnR l))/\∀y,Out (n+1) y->(Hld n low y↔(∀z∈ls,fnR z n=0)\/Hld n ls y):=by
 rcases h with⟨h1,rfl⟩|⟨⟨z,hz,hz0⟩,R,Q,hE,hbig,hM⟩
 ·rcases ht with⟨_,rfl⟩|⟨h2,_⟩
  ·exact⟨.inl ⟨rfl,rfl⟩,fun l hl=>(by cases hl),fun y _=>⟨fun _=>.inl h1,fun _ l hl=>by cases hl⟩⟩
  ·exact absurd rfl h2
 ·have c0:=ac6 hE;obtain⟨k1,k2⟩:=aco hE hl;generalize elR (n+1) (kerE (n+1) R Q)=E0 at *
  have hno:¬RS (E0.map fnR) (fnR (noneR n)):=fun hr=>by
   have h1:=(k2 _ (ade n)).1 hr z hz;rw[ag1]at h1;exact hz0 h1
  have hne:low≠[]:=by
   rcases hM with⟨⟨r,hr,h1⟩,_⟩|⟨_,R2,Q2,_,_,_,rfl⟩
   ·exact absurd (alt c0 hr h1) hno
   ·simp
  obtain⟨_,p,St,hm⟩:=ag0 c0 hM hne;rcases ht with⟨h2,_⟩|⟨_,R2,Q2,hE2,hb2,rfl⟩
  ·exact absurd h2 hne
  obtain⟨j1,j2⟩:=aco hE2 hm.row;have c1:=ac6 hE2;generalize elR (n+1) (kerE (n+1) R2 Q2)=E1 at *
  have he:=ara hl c0 k2 hm c1 j2;subst he;refine⟨.inr ⟨c0,hbig,hM,hne,j2,hm.perp⟩,fun l hll=>(k1 _ (aau (hm.row l hll))).2 fun b hb=>hm.perp.dot hm.row l hll b hb,fun y hy=>?_⟩;constructor
  ·intro hh;exact .inr ((k2 y hy).1 ((j2 y hy).2 hh))
  ·rintro (hh|hh)
   ·exact absurd (hh z hz) hz0
   ·exact(j2 y hy).1 ((k2 y hy).2 hh)
theorem ais(n:Nat):leadN (noneR n)=n:=(agz n).n
theorem alu{n:Nat}{rows low lf:List (List Int)}(hl:∀z∈rows,z.length=n+1)(h:LowRE n rows low)(hM:MirR n low lf):Kept n low lf/\∀y,Out (n+1) y->(Hld n lf y↔Cls n rows y):=by
 rcases h with⟨h1,rfl⟩|⟨hno,R,Q,hE,hbig,rfl⟩
 ·rcases hM with⟨_,rfl⟩|⟨h2,_⟩
  ·exact⟨.inl ⟨rfl,rfl⟩,fun y _=>⟨fun _=>.inl h1,fun _ l hl=>by cases hl⟩⟩
  ·have:=h2 _ (List.mem_singleton.2 rfl);rw[ais]at this;omega
 ·have c0:=ak2 hE hl;have hrs:=aod hE hl;generalize (baR R Q (n+1)).map red=E0 at *
  have hne:lf≠[]:=by
   rcases hM with⟨⟨r,hr,h1⟩,_⟩|⟨_,R2,Q2,_,_,_,rfl⟩
   ·exact absurd ((hrs _).1 (alt c0 hr h1)) hno
   ·simp
  obtain⟨_,p,St,hm⟩:=ag0 c0 hM hne;have hp:Perp (n+1) lf rows:=fun y hy=>by
   rw[hm.perp y hy];constructor
   ·intro h r hr;rw[aa1];refine ac9 (fun x hx=>?_) ((hrs _).2 (.mem (List.mem_map.2 ⟨r,hr,rfl⟩)));obtain⟨e,he,rfl⟩:=List.mem_map.1 hx;rw[aa1];exact h e he
   ·intro h e he;rw[aa1];refine ac9 (fun x hx=>?_) ((hrs _).1 (.mem (List.mem_map.2 ⟨e,he,rfl⟩)));obtain⟨r,hr,rfl⟩:=List.mem_map.1 hx;rw[aa1];exact h r hr
  have hq:=avp hE hl hm.row hp;refine⟨.inr ⟨c0,hbig,hM,hne,fun y hy=>(hrs y).trans (hq y hy),hm.perp⟩,fun y hy=>?_⟩;constructor
  ·intro hh;exact .inr ((hq y hy).2 hh)
  ·rintro (hh|hh)
   ·exact absurd hh hno
   ·exact(hq y hy).1 hh
end Lm
namespace Lm
open Go Go.RowKit Md
structure BigF (n:Nat) (E0:List (List Int)):Prop where
 can:CnE (n+1) E0
 pt:¬RS (E0.map fnR) (fnR (noneR n))
 why:(∃r∈E0,r.any big=true)\/MirBig n E0
theorem errL{n:Nat}{ls:List (List Int)}(hl:∀z∈ls,z.length=n+1)(h:BErrL n ls):∃E0,BigF n E0/\∀y,Out (n+1) y->(RS (E0.map fnR) y↔(∀z∈ls,fnR z n=0)\/Hld n ls y):=by
 have hcore:∀ {R:List Md.Rw} {Q:List Nat},Ech (n+1) (mir ls) R Q->(∃z∈ls,fnR z n≠0)->((∃r∈elR (n+1) (kerE (n+1) R Q),r.any big=true)\/MirBig n (elR (n+1) (kerE (n+1) R Q)))->∃E0,BigF n E0/\∀y,Out (n+1) y->(RS (E0.map fnR) y↔(∀z∈ls,fnR z n=0)\/Hld n ls y):=by
  rintro R Q hE ⟨z,hz,hz0⟩ hw;obtain⟨k1,k2⟩:=aco hE hl;refine⟨_,⟨ac6 hE,fun hr=>?_,hw⟩,fun y hy=>⟨fun h=>.inr ((k2 y hy).1 h),fun h=>?_⟩⟩
  ·have h1:=(k2 _ (ade n)).1 hr z hz;rw[ag1]at h1;exact hz0 h1
  ·rcases h with h|h
   ·exact absurd (h z hz) hz0
   ·exact(k2 y hy).2 h
 rcases h with⟨hz,R,Q,hE,hw⟩|⟨low,h,hne,R2,Q2,hE2,hb⟩
 ·exact hcore hE hz hw
 ·rcases h with⟨_,rfl⟩|⟨⟨z,hz,hz0⟩,R,Q,hE,hbig,hM⟩
  ·exact absurd rfl hne
  ·have c0:=ac6 hE;obtain⟨k1,k2⟩:=aco hE hl;obtain⟨_,p,St,hm⟩:=ag0 c0 hM hne;obtain⟨j1,j2⟩:=aco hE2 hm.row;have he:=ara hl c0 k2 hm (ac6 hE2) j2;rw[<-he]at hb;obtain⟨r,hr,h1⟩:=hb;rw[hbig r hr]at h1;cases h1
theorem errE{n:Nat}{rows:List (List Int)}(hl:∀z∈rows,z.length=n+1)(h:BErrE n rows):∃E0,BigF n E0/\∀y,Out (n+1) y->(RS (E0.map fnR) y↔Cls n rows y):=by
 rcases h with⟨hno,R,Q,hE,hb⟩|⟨low,h,hM⟩
 ·have hrs:=aod hE hl;refine⟨_,⟨ak2 hE hl,fun h=>hno ((hrs _).1 h),.inl hb⟩,fun y _=>⟨fun h=>.inr ((hrs y).1 h),fun h=>?_⟩⟩;rcases h with h|h
  ·exact absurd h hno
  ·exact(hrs y).2 h
 ·rcases h with⟨h1,rfl⟩|⟨hno,R,Q,hE,hbig,rfl⟩
  ·have:=hM.1 _ (List.mem_singleton.2 rfl);rw[ais]at this;omega
  ·have hrs:=aod hE hl;refine⟨_,⟨ak2 hE hl,fun h=>hno ((hrs _).1 h),.inr hM⟩,fun y _=>⟨fun h=>.inr ((hrs y).1 h),fun h=>?_⟩⟩;rcases h with h|h
   ·exact absurd h hno
   ·exact(hrs y).2 h
theorem aoe{n:Nat}{E Lf E0:List (List Int)}(h:Kept n E Lf)(hb:BigF n E0)(hs:∀y,Out (n+1) y->(Hld n Lf y↔RS (E0.map fnR) y)):False:=by
 rcases h with⟨rfl,rfl⟩|h
 ·exact hb.pt ((hs _ (ade n)).1 (fun l hl=>by cases hl))
 ·have he:E=E0:=by
   refine afg h.can hb.can (fun a ha=>?_) (fun a ha=>?_)
   ·have ho:=aau (h.can.row a ha);exact(hs _ ho).1 ((h.eqs _ ho).1 (.mem (List.mem_map.2 ⟨a,ha,rfl⟩)))
   ·have ho:=aau (hb.can.row a ha);exact(h.eqs _ ho).2 ((hs _ ho).2 (.mem (List.mem_map.2 ⟨a,ha,rfl⟩)))
  subst he;rcases hb.why with⟨r,hr,h1⟩|⟨h1,R,Q,hR,hw⟩
  ·rw[h.small r hr]at h1;cases h1
  ·rcases h.mir with⟨⟨r,hr,h2⟩,_⟩|⟨_,R',Q',hR',hb2,hf,_⟩
   ·have:=h1 r hr;omega
   ·rw[ay5 hR hR' (aq9 h.can.row)]at hw;rcases hw with⟨r,hr,h2⟩|⟨q,hq,h2⟩
    ·rw[hb2 r hr]at h2;cases h2
    ·rw[(agu q).2 (hf q hq)]at h2;cases h2
end Lm
namespace Lm
open Go Go.RowKit Md
theorem arb{N:Nat}{r:List Int}{p:Nat}(hp:p<N)(hl:Lead r p)(hn:r.length=N)(hr:red r=r):CnE N [r]:=by
 refine⟨[(p,fnR r)],⟨List.pairwise_singleton ..,fun e he=>?_,fun e he f hf hne=>?_,fun e he k hk=>?_⟩,fun e he=>?_,fun e he c hc=>?_,?_⟩
 ·obtain rfl:=List.mem_singleton.1 he;exact hl.1
 ·obtain rfl:=List.mem_singleton.1 he;obtain rfl:=List.mem_singleton.1 hf;exact absurd rfl hne
 ·obtain rfl:=List.mem_singleton.1 he;exact hl.2 k hk
 ·obtain rfl:=List.mem_singleton.1 he;exact hp
 ·obtain rfl:=List.mem_singleton.1 he;exact aau hn c hc
 ·show [r] = [red (gRow (fnR r) N)];rw[ayz hn,hr]
def awP:List (List Rat):=[[0,0],[1,2],[2,4]]
theorem ag2:awP.map liftZ = [[0,0,-1],[1,2,-1],[2,4,-1]]:=by decide +kernel
theorem awc:Lead [2,-1,0] 0:=⟨by decide,fun k hk=>by omega⟩
theorem a3m:Lead [1,2] 0:=⟨by decide,fun k hk=>by omega⟩
theorem a3n:Lead [1,2,0] 0:=⟨by decide,fun k hk=>by omega⟩
theorem a4k:CnE 3 [[2,-1,0]]:=arb (by decide) awc rfl (by decide +kernel)
theorem a4l:CnE 2 [[1,2]]:=arb (by decide) a3m rfl (by decide +kernel)
theorem dot3(x y:Md.Rw):dotN 3 x y=x 0*y 0+x 1*y 1+x 2*y 2:=by
 rw[aa4,aa4,aa4];simp[dotN,sumL]
theorem dot2(x y:Md.Rw):dotN 2 x y=x 0*y 0+x 1*y 1:=by
 rw[aa4,aa4];simp[dotN,sumL]
theorem awd{E0:List (List Int)}(hc:CnE 3 E0)(h:∀y,Out 3 y->(RS (E0.map fnR) y↔Hld 2 (awP.map liftZ) y)):E0 = [[2,-1,0]]:=by
 rw[ag2]at h;refine afg hc a4k (fun a ha=>?_) (fun b hb=>?_)
 ·have ho:=aau (hc.row a ha);have h1:=(h _ ho).1 (.mem (List.mem_map.2 ⟨a,ha,rfl⟩));have g0:=h1 [0,0,-1] (by simp);have g1:=h1 [1,2,-1] (by simp);rw[dot3]at g0 g1;have e0:fnR a 0*0+fnR a 1*0+fnR a 2*-1=0:=g0;have e1:fnR a 0*1+fnR a 1*2+fnR a 2*-1=0:=g1;refine(RS.mem (x:=fnR [2,-1,0]) (by simp)).smul (-(fnR a 1)) (fun k=>?_)
  match k with
  |0=>show fnR a 0 = -(fnR a 1)*2;omega
  |1=>show fnR a 1 = -(fnR a 1)*-1;omega
  |2=>show fnR a 2 = -(fnR a 1)*0;omega
  |k+3=>
   rw[ho (k+3) (by omega),acc (zs:=[2,-1,0]) (by simp)];omega
 ·obtain rfl:=List.mem_singleton.1 hb;refine(h _ (aau rfl)).2 (fun l hl=>?_);rw[dot3];simp only[List.mem_cons,List.not_mem_nil,or_false]at hl;rcases hl with rfl|rfl|rfl <;> decide
theorem aof{St:List (List Int)}(hc:CnE 2 St)(h:Perp 2 St (fac 2 [[2,-1,0]])):St = [[1,2]]:=by
 refine afg hc a4l (fun a ha=>?_) (fun b hb=>?_)
 ·have ho:=aau (hc.row a ha);have h1:=(h _ ho).1 (.mem (List.mem_map.2 ⟨a,ha,rfl⟩)) [2,-1] (by simp[fac]);rw[dot2]at h1;have e1:fnR a 0*2+fnR a 1*-1=0:=h1;refine(RS.mem (x:=fnR [1,2]) (by simp)).smul (fnR a 0) (fun k=>?_)
  match k with
  |0=>show fnR a 0=fnR a 0*1;omega
  |1=>show fnR a 1=fnR a 0*2;omega
  |k+2=>
   rw[ho (k+2) (by omega),acc (zs:=[1,2]) (by simp)];omega
 ·obtain rfl:=List.mem_singleton.1 hb;refine(h _ (aau rfl)).2 (fun l hl=>?_);have hl:l = [2,-1]:=by simpa[fac]using hl
  subst hl;rw[dot2];decide
theorem as5:¬∀z∈awP.map liftZ,fnR z 2=0:=by
 rw[ag2];intro h;have:=h [0,0,-1] (by simp);exact absurd this (by decide)
theorem aog:∀z∈awP.map liftZ,z.length=3:=by
 rw[ag2];decide
theorem a3o(h:BErrL 2 (awP.map liftZ)):False:=by
 obtain⟨E0,hb,hr⟩:=errL aog h;have he:=awd hb.can (fun y hy=>(hr y hy).trans ⟨fun h=>h.resolve_left as5,.inr⟩);subst he;rcases hb.why with⟨r,hr,h1⟩|⟨_,R,Q,hR,hw⟩
 ·obtain rfl:=List.mem_singleton.1 hr
  revert h1;decide +kernel
 ·have hs:=aof (ac6 hR) (aco hR (aq9 (E:=[[2,-1,0]]) (by decide))).2;rw[hs]at hw;rcases hw with⟨r,hr,h1⟩|⟨q,hq,h1⟩
  ·obtain rfl:=List.mem_singleton.1 hr
   revert h1;decide +kernel
  ·have e:mPt 2 [[2,-1,0]] [[1,2]] = [0,0]:=by
    unfold mPt ptQ;simp only[List.foldl_cons,List.foldl_nil,zro,List.map_cons,List.map_nil,basZ,awc.n,List.cons_append,List.nil_append,a3n.n];decide +kernel
   rw[e]at hq;simp only[List.mem_cons,List.not_mem_nil,or_false,or_self]at hq;subst hq
   revert h1;decide +kernel
theorem a1z{E Lf:List (List Int)}(hl:LowR 2 (awP.map liftZ) Lf)(ht:TwiR 2 Lf E):E = [[2,-1,0]]/\stepsOf 2 Lf = [[1,2]]/\Lf.length=2:=by
 obtain⟨hk,_,hh⟩:=afo aog hl ht;rcases hk with⟨rfl,_⟩|hk
 ·have h1:=(hh _ (ade 2)).1 (fun l hl=>by cases hl);rcases h1 with h1|h1
  ·exact absurd h1 as5
  ·rw[ag2]at h1;have h2:=h1 [0,0,-1] (by simp);rw[ag1]at h2;exact absurd h2 (by decide)
 ·have he:=awd hk.can (fun y hy=>(hk.eqs y hy).trans ((hh y hy).trans ⟨fun h=>h.resolve_left as5,.inr⟩));subst he;obtain⟨_,p,St,hm⟩:=hk.mirs;have hs:=aof hm.can hm.snd;subst hs;rw[hm.lf];exact⟨rfl,rfl,rfl⟩
end Lm
namespace Lm
open Go Go.RowKit Md
theorem trimF(w:World)(x:Int)(vx:Value)(L:Nat)(hx:IsW x L vx w)(hL:L<=400000000):
  Calls Tryz.prog 57 #[vx] w fun e w'=>∃v,e=.returned v/\FrW w.heap.size x L v w'/\Below w.heap.size w w':=by
 obtain⟨n1,a1,m1,c1,xs,rfl,A1,l1⟩:=hx;refine(a0p w n1 a1 m1 c1 xs A1.sl (by omega)).mono ?_;rintro e w' ⟨ng,ao,cap,rs,rfl,hw,hl,hli,hb⟩;rw[A1.worth]at hw;exact⟨_,rfl,FrW.of_li hw hli (Nat.le_refl _) (by omega),hb⟩
theorem ait(w:World)(v:Value)(zs:List Int)(L n:Nat)(h:IsRow w v zs L)(hln:zs.length=n)(hn:n<=100000)(hL:L<=20000000):
  Calls Tryz.prog 44 #[v] w fun e w'=>∃r,e=.returned r/\ORow w.heap.size w' r zs L/\Below w.heap.size w w':=by
 have hzb:=abe h;obtain⟨al,cl,rfl,_⟩:=h.parts;rw[hln]at h ⊢;have HL:=hide h;have HLN:=hide hln;obtain⟨iW,hi,hz0,hz1,hz2⟩:=info_parts infoWz;clear h hln hzb;go_enter Tryz.func44,Tryz.ntmps44
 go_wp2_with (refine wpList_make_full _ rfl (.tmp 7) (.tmp 7) 39 rfl w.heap.size 45 iW (.agg #[.bool false,.slice none 0 0]) 2 Tryz.underlying39 hi hz0 hz1 .i64 .i64 _ _ n rfl rfl (by omega) (by omega) (by rw[hz2];omega) (by unfold maxLen;omega) (Nat.le_refl _) ?hK)
 case hK=>
  intro w2 hown hgrow;have hb2:Below w.heap.size w w2:=(Below.refl _ _).grown hgrow (Nat.le_refl _) (by simp);obtain⟨_,hmb⟩:=acn hown;rw[acy]at hmb;obtain⟨bv,hbv⟩:∃bv,w.heap.size=bv:=⟨_,rfl⟩;rw[hbv]at hmb;have HBV:Hid (w.heap.size<=bv):=(show _<=_ by omega);have HP0:=hide (PRow.start (K:=w.heap.size) (zs:=zs) (L:=L) hmb);have HB:=hide hb2;clear hown hgrow hmb hb2;rw[hbv];go_wp2;go_loopw [11] (fun iv wr=>∃(k:Nat),iv=.int .i64 k/\k<=n/\Below w.heap.size w wr/\PRow w.heap.size wr bv n k zs L) (fun iv _=>n-(intOf iv).toNat)
  case atStart=>exact⟨0,rfl,Nat.zero_le _,HB.out,HP0.out⟩
  case round=>
   obtain⟨k,rfl,hk,hbw,hpr⟩:=hrel;by_cases hlt:k<n
   ·have hlt':(k:Int)<(n:Int):=by omega
    obtain⟨zk,hzk⟩:∃z,zs[k]? = some z:=⟨_,List.getElem?_eq_getElem (by have:=HLN.out;omega)⟩;obtain⟨bl,ol,ng1,a1,m1,c1,rfl,hll,x0,x1,hx⟩:=HL.out.cell (k:=k) (z:=zk) hzk;have HZK:=hide hzk;have x0':=(hbw.cell (p:=⟨bl,ol+k*2,none⟩) hll).trans x0;have x1':=(hbw.cell (p:=⟨bl,ol+k*2+1,none⟩) hll).trans x1;have hA:=hAl wr (.cells #[.bool ng1,.slice a1 m1 c1] 45);have hall:=hbw.trans (hA.mono hbw.size);have K1:=hide (trimF (wr.alloc (.cells #[.bool ng1,.slice a1 m1 c1] 45)) zk _ L (hx.ru (Ru.of_below hall)) (by omega));have HW:=hide hall;have HPR:=hide (hpr.below hA);clear hbw hpr hx hzk x0 x1 hA hall;go_wp2_with fail
    refine K1.out.mono ?_;rintro e w3 ⟨vt,rfl,hT,hb3⟩;obtain⟨ng5,a5,m5,c5,rfl⟩:=hT.agg;obtain⟨⟨ngp,ap,mp,cp',e0,e1⟩,pf0,pf1⟩:=(HPR.out.below hb3).cells hlt;obtain⟨t1,t2⟩:=HPR.out.put (Nat.le_refl _) hb3 hlt HZK.out HW.out.size hT;have HT1:=hide t1;have HT2:=hide (HW.out.trans (t2.below HW.out.size HBV.out HBV.out));clear t1 t2 hT hb3 K1 x0' x1';go_wp2;go_roundw
    case rel=>exact⟨k+1,by go_num,by omega,HT2.out,HT1.out⟩
    case measure=>simp[intOf];omega
   ·have hlt':decide ((k:Int)<(n:Int))=false:=by simp;omega
    obtain rfl:n=k:=by omega
    have HW:=hide hbw;have HPR:=hide hpr;clear hbw hpr;go_wp2;refine bodyPost_ret (v:=_) (by simp[results,Tryz.results44,go_sem];try rfl) rfl ⟨_,rfl,⟨_,by rw[HLN.out],HBV.out,by rw[HLN.out];exact HPR.out,by rw[HLN.out];omega⟩,HW.out⟩
def GrC(K:Nat)(zs:List Int)(L:Nat):Says:=fun v w=>∃es,RwO K w v es/\es.length=zs.length/\∀(k:Nat) (e:WE) (z:Int),es[k]? = some e->zs[k]? = some z->Canon e.zs/\val e.zs=(z.natAbs:Int)/\e.ng=decide (z<0)/\e.zs.length<=L
theorem ORow.grc{K:Nat}{w:World}{v:Value}{zs:List Int}{L:Nat}(h:ORow K w v zs L):GrC 0 zs L v w:=by
 obtain⟨bv,rfl,hK,⟨es,B,T,e1,e2,e3,e4,e5⟩,hl⟩:=h;refine⟨es,⟨⟨aas es,.inr ⟨bv,zs.length,_,by rw[e1],Nat.zero_le _,e2,by omega,by unfold maxLen;omega,?_,?_⟩⟩,fun e he=>?_⟩,e1,fun k e z hk hz=>?_⟩
 ·simp[aas,e1]
 ·rw[<-aas];simp
 ·obtain⟨k,hk⟩:=List.mem_iff_getElem?.1 he;have hkl:=(List.getElem?_eq_some_iff.1 hk).1;obtain⟨z,hz⟩:∃z,zs[k]? = some z:=⟨_,List.getElem?_eq_getElem (by omega)⟩;obtain⟨g1,g2,_,g4,_⟩:=e4 k e z (by omega) hk hz;have:=g1.fr.ow.mono (Nat.zero_le _);rwa[<-g2]at this
 ·have hkl:=(List.getElem?_eq_some_iff.1 hk).1;obtain⟨g1,g2,g3,_⟩:=e4 k e z (by omega) hk hz;exact⟨g1.fr.canon,g1.fr.val,g1.sgn,g3⟩
theorem GrC.mono(K:Nat)(zs:List Int)(L:Nat):Mono (GrC K zs L):=fun _ _ _ hb ⟨es,h1,h2⟩=>⟨es,h1.below hb,h2⟩
theorem GrC.can{K:Nat}{zs:List Int}{L:Nat}{v:Value}{w:World}(h:GrC K zs L v w):CanRow w v zs L:=by
 obtain⟨es,h1,h2⟩:=h;exact⟨es,h1.rw,h2⟩
theorem GrC.keep{K K' L:Nat}{z:List Int}{u v:Value}{w w':World}{n:Nat}{xs:List Value}(h:GrC K' z L u w)(hv:w.ownsRow K 39 1 v n xs)(hg:w.grownBy w' v.ownBlock):GrC K' z L u w':=by
 obtain⟨es,h1,h2⟩:=h;obtain⟨c,hc⟩:=agw hv;refine⟨es,h1.keep hg hc (by decide) (fun g hg1 hg2=>?_),h2⟩;obtain⟨c',hc'⟩:=h1.row;exact aav (hc g hg1) (hc' g hg2) (by decide) rfl
def LsC(w0 wr:World)(v:Value)(k:Nat)(rows:List (List Int))(L:Nat):Prop:=Below w0.heap.size w0 wr/\rows.length=k/\∃vs:List Value,wr.ownsRow w0.heap.size 39 1 v k vs/\∀(i:Nat) (u:Value) (z:List Int),vs[i]? = some u->rows[i]? = some z->GrC 0 z L u wr
theorem LsC.below{w0 wr w':World}{v:Value}{k:Nat}{rows:List (List Int)}{L:Nat}(h:LsC w0 wr v k rows L)(hb:Below wr.heap.size wr w'):LsC w0 w' v k rows L:=by
 obtain⟨h1,h2,vs,h3,h4⟩:=h;exact⟨h1.trans (hb.mono h1.size),h2,vs,ab0 h3 hb,fun i u z a b=>GrC.mono _ _ _ _ _ _ hb (h4 i u z a b)⟩
theorem LsC.canM{w0 wr:World}{v:Value}{k:Nat}{rows:List (List Int)}{L:Nat}(h:LsC w0 wr v k rows L):CanM wr v rows L:=by
 obtain⟨h1,h2,vs,h3,h4⟩:=h;exact⟨vs,by rw[h2];exact Ce.own h3,fun i u z a b=>(h4 i u z a b).can⟩
section
variable {dst:Option Tmp} {ty:TypeId} {pos:String} {after:Array Edge} {guard:Option (Nat×Bool)} {a:Act} {w:World} {i j:Nat}
theorem arc{g k L:Nat}{w0:World}{lw u:Value}{rows:List (List Int)}{z:List Int}{au:Option Addr}{nu cu:Nat}(h1:a.eval (.tmp i)=lw)(hS:LsC w0 w lw k rows L)(h2:a.eval (.tmp j)=.slice (some ⟨g,0,none⟩) 1 1)(hg:w.heap[g]? = some (.cells #[u] 39 (0,0)))(hu:GrC 0 z L u w)(hus:u=.slice au nu cu)(hk:k<=1000):
  Does Tryz.prog {dst,op:=.call {callee:=.builtin .append,args:=#[.tmp i,.tmp j],argTypes:=#[23,23]},type:=ty,pos,after,guard} a.eval w fun v' w'=>LsC w0 w' v' (k+1) (rows ++ [z]) L:=by
 obtain⟨i0,hi,hz0,hz1,hz2⟩:=info_parts afc;have hnew:∀k x,[u][k]? = some x->w.cell? ((⟨g,0,none⟩:Addr).add k)=some x:=fun k x hx=>by
  have hc:∀k,w.cell? ⟨g,k,none⟩ = #[u][k]? :=fun k=>cell_of_row w g k _ _ (0,0) hg
  have ha:(⟨g,0,none⟩:Addr).add k=⟨g,k,none⟩:=by unfold Addr.add;split <;> simp_all
  rw[ha,hc];simpa using hx
 have h1u:∀x ∈ [u],x.oneCell'=true:=fun x hx=>by
  obtain rfl:=List.mem_singleton.1 hx;subst hus;rfl
 obtain⟨hb,hl,vs,hown,hrows⟩:=hS;have hvl:vs.length=k:=by have:=hown.1;simp at this;omega
 obtain⟨v',w',hr,ho,hgr,_⟩:=run_append_own (P:=Tryz.prog) w w0.heap.size 23 ty 39 i0 _ 1 24 Tryz.underlying23 hi hz0 hz1 hz2 rfl (by decide) _ k _ hown ⟨g,0,none⟩ 1 1 [u] rfl hnew h1u (by simp[maxLen];omega) (by omega) hb.size;have e:(execOp a.eval {dst,op:=.call {callee:=.builtin .append,args:=#[.tmp i,.tmp j],argTypes:=#[23,23]},type:=ty,pos,after,guard}).run Tryz.prog w=.ok (.value v') w':=by
  simp only[execOp,resolve,invoke,builtin,Sem.run_bind,Sem.run_pure,Result.andThen_ok,List.map_toArray,List.map_cons,List.map_nil,h1,h2,hr]
 refine⟨?_⟩;unfold Turns;rw[e];refine⟨hb.grown hgr hb.size (fun q hq=>?_),by simp[hl],vs ++ [u],ho,fun i x y hx hy=>?_⟩
 ·rcases hown.2 with⟨rfl,_⟩|⟨g',cap,cur,rfl,hg',_⟩
  ·simp[Value.ownBlock]at hq
  ·simp only[Value.ownBlock,Option.some.injEq]at hq;omega
 ·by_cases hi:i<k
  ·rw[List.getElem?_append_left (by omega)]at hx hy;exact(hrows i x y hx hy).keep hown hgr
  ·rw[List.getElem?_append_right (by omega)]at hx hy;rw[hvl]at hx;rw[hl]at hy
   match hm:i-k with
   |0=>
    rw[hm]at hx hy;simp at hx hy;subst hx hy;exact hu.keep hown hgr
   |m+1=>
    rw[hm]at hx;simp at hx
end
end Lm
namespace Lm
open Go Go.RowKit Md
theorem al5(w:World)(g n:Nat)(se sl:Value)(eqs:List (List Int))(L:Nat)(hS:SpanEL w g n se sl)(hE:IsM w se eqs L)(hel:∀r∈eqs,r.length=n+1)(hn:n<=16)(hm:eqs.length<=100)(hL:L<=1000):
  Calls Tryz.prog 10 #[.pointer (some ⟨g,0,none⟩)] w fun e w'=>∃v,e=.returned v/\CanM w' v eqs L/\Below w.heap.size w w':=by
 have K1:=hide (aff hS);have HE:=hide hE;have HEL:=hide hel;obtain⟨ae,ce,rfl,_⟩:=hE.parts;obtain⟨m,hmm⟩:∃m,eqs.length=m:=⟨_,rfl⟩;rw[hmm]at HE hm K1;have HM:=hide hmm;clear hS hE hel hmm;go_enter Tryz.func10,Tryz.ntmps10
 go_wp2_with fail
 refine K1.out.mono ?_;rintro e w1 ⟨rfl,hb1⟩;have HB1:=hide hb1;clear hb1 K1;go_wp2;go_loopw [3,9] (fun lw iv wr=>∃(k:Nat),iv=.int .i64 k/\k<=m/\LsC w wr lw k (eqs.take k) L) (fun _ iv _=>m-(intOf iv).toNat)
 case atStart=>exact⟨0,rfl,Nat.zero_le _,HB1.out,rfl,[],World.ownsRow_nil _ _ _ _,fun i u z hu=>by simp at hu⟩
 case round=>
  obtain⟨k,rfl,hk,hst⟩:=hrel;by_cases hlt:k<m
  ·have hlt':(k:Int)<(m:Int):=by omega
   obtain⟨z,hz⟩:∃z,eqs[k]? = some z:=⟨_,List.getElem?_eq_getElem (by have:=HM.out;omega)⟩;obtain⟨b,off,u,rfl,hbl,hu,hur⟩:=(HE.out.below hst.1).cell hz;have hzl:=HEL.out z (List.mem_of_getElem? hz);have K:=hide (ait wr u z L (n+1) hur hzl (by omega) (by omega));obtain⟨au,cu,rfl,_⟩:=hur.parts;have HST:=hide hst;have HGZ:Hid (eqs.take (k+1)=eqs.take k ++ [z]):=(show _=_ by rw[List.take_add_one,hz];simp);have HZL:=hide hzl;clear hst hur hz hzl;go_wp2_with fail
   refine K.out.mono ?_;rintro e w3 ⟨r,rfl,hor,hb3⟩;have hst3:=HST.out.below hb3;have hgs:=hor.grc;obtain⟨bv,rfl,_⟩:=hor;rw[HZL.out]at hgs;have hA3:=hAl w3 (.cells #[.slice (some ⟨bv,0,none⟩) (n+1) (n+1)] 39);have hn3:=heap_alloc_new w3 (.cells #[.slice (some ⟨bv,0,none⟩) (n+1) (n+1)] 39);have hst4:=hst3.below hA3;have hgs4:=GrC.mono _ _ _ _ _ _ hA3 hgs;clear hst3 hgs hA3 hb3 K;rw[HZL.out];go_wp2_with (at_builtin;refine abo rfl (arc (i:=13) (j:=16) rfl hst4 rfl hn3 hgs4 rfl (by omega)) ?_)
   intro v2 w4 hst5;have HS5:=hide hst5;clear hst4 hn3 hgs4 hst5;go_wp2;go_roundw
   case rel=>exact⟨k+1,by go_num,by omega,by rw[HGZ.out];exact HS5.out⟩
   case measure=>simp[intOf];omega
  ·have hlt':decide ((k:Int)<(m:Int))=false:=by simp;omega
   obtain rfl:m=k:=by omega
   rw[List.take_of_length_le (by have:=HM.out;omega)]at hst;have HC:=hide hst.canM;have HW:=hide hst.1;obtain⟨ao,cp,rfl,_⟩:=HC.out.parts;clear hst;go_wp2;refine bodyPost_ret (v:=_) (by simp[results,Tryz.results10,go_sem];try rfl) rfl ⟨_,rfl,HC.out,HW.out⟩
theorem as6(w:World)(g n:Nat)(se sl:Value)(low:List (List Int))(L:Nat)(hS:SpanEL w g n se sl)(hE:IsM w sl low L)(hel:∀r∈low,r.length=n+1)(hn:n<=16)(hm:low.length<=100)(hL:L<=1000):
  Calls Tryz.prog 15 #[.pointer (some ⟨g,0,none⟩)] w fun e w'=>∃v,e=.returned v/\CanM w' v (stepsOf n low) L/\Below w.heap.size w w':=by
 have K1:=hide (adt hS);have HE:=hide hE;have HEL:=hide hel;have HS:=hide hS;obtain⟨ae,ce,rfl,_⟩:=hE.parts;obtain⟨m,hmm⟩:∃m,low.length=m:=⟨_,rfl⟩;rw[hmm]at HE hm K1;have HM:=hide hmm;obtain⟨hgl,c0⟩:=hS.num;have HC0:=hide c0;clear hS hE hel hmm c0;go_enter Tryz.func15,Tryz.ntmps15
 go_wp2_with fail
 refine K1.out.mono ?_;rintro e w1 ⟨rfl,hb1⟩;have HB1:=hide hb1;clear hb1 K1;go_wp2;go_loopw [3,9] (fun lw iv wr=>∃(k:Nat),iv=.int .i64 k/\k<=m/\LsC w wr lw (k-1) (stepsOf n (low.take k)) L) (fun _ iv _=>m-(intOf iv).toNat)
 case atStart=>exact⟨0,rfl,Nat.zero_le _,HB1.out,rfl,[],World.ownsRow_nil _ _ _ _,fun i u z hu=>by simp at hu⟩
 case round=>
  obtain⟨k,rfl,hk,hst⟩:=hrel;by_cases hlt:k<m
  ·have hlt':(k:Int)<(m:Int):=by omega
   obtain⟨z,hz⟩:∃z,low[k]? = some z:=⟨_,List.getElem?_eq_getElem (by have:=HM.out;omega)⟩;obtain⟨b,off,u,rfl,hbl,hu,hur⟩:=(HE.out.below hst.1).cell hz;have hzl:=HEL.out z (List.mem_of_getElem? hz);have c0:wr.cell? ⟨g,0,none⟩=some (.int .i64 (n:Int)):=(hst.1.cell (p:=⟨g,0,none⟩) hgl).trans HC0.out;have hglr:g<wr.heap.size:=Nat.lt_of_lt_of_le hgl hst.1.size;obtain⟨au,cu,rfl,hzc⟩:=hur.parts;obtain⟨hcap,hcm⟩:=hur.cap;rw[hzl]at hur hcap hu;have hpre:=hur.pre (n:=n) (by omega);have HST:=hide hst;by_cases hk0:k=0
   ·subst hk0;rw[Nat.add_zero]at hu;clear hst hur hz hzl hpre;go_wp2;go_roundw
    case rel=>exact⟨1,by go_num,by omega,by
     have h1:=HST.out;have e:stepsOf n (low.take 1)=stepsOf n (low.take 0):=by
      unfold stepsOf;cases low <;> rfl
     rw[e]
     exact h1⟩
    case measure=>simp[intOf];omega
   ·have K:=hide (ait wr (.slice au n cu) (z.take n) L n hpre (by rw[List.length_take];omega) (by omega) (by omega));have HGZ:Hid (stepsOf n (low.take (k+1))=stepsOf n (low.take k) ++ [z.take n]):=(show _=_ by
     unfold stepsOf;rw[List.take_add_one,hz];rw[List.drop_append_of_le_length (by rw[List.length_take];have:=HM.out;omega)]
     simp)
    have HZL:Hid ((z.take n).length=n):=(show _=_ by rw[List.length_take];omega);have hk0':(k:Int) > 0:=by omega
    have HK1:Hid (k-1+1=k):=(show k-1+1=k by omega);obtain⟨k1,hk1⟩:∃k1,k-1=k1:=⟨_,rfl⟩;rw[hk1]at HST HK1;have hk1le:k1<=100:=by omega
    clear hst hur hz hzl hpre hk1;go_wp2_with fail
    refine K.out.mono ?_;rintro e w3 ⟨r,rfl,hor,hb3⟩;have hst3:=HST.out.below hb3;have hgs:=hor.grc;obtain⟨bv,rfl,_⟩:=hor;rw[HZL.out]at hgs;have hA3:=hAl w3 (.cells #[.slice (some ⟨bv,0,none⟩) n n] 39);have hn3:=heap_alloc_new w3 (.cells #[.slice (some ⟨bv,0,none⟩) n n] 39);have hst4:=hst3.below hA3;have hgs4:=GrC.mono _ _ _ _ _ _ hA3 hgs;clear hst3 hgs hA3 hb3 K c0;rw[HZL.out];go_wp2_with (at_builtin;refine abo rfl (arc (i:=16) (j:=24) rfl hst4 rfl hn3 hgs4 rfl (by omega)) ?_)
    intro v2 w4 hst5;rw[HK1.out]at hst5;have HS5:=hide hst5;clear hst4 hn3 hgs4 hst5;go_wp2;go_roundw
    case rel=>exact⟨k+1,by go_num,by omega,by rw[HGZ.out];exact HS5.out⟩
    case measure=>simp[intOf];omega
  ·have hlt':decide ((k:Int)<(m:Int))=false:=by simp;omega
   obtain rfl:m=k:=by omega
   rw[List.take_of_length_le (by have:=HM.out;omega)]at hst;have HC:=hide hst.canM;have HW:=hide hst.1;obtain⟨ao,cp,rfl,_⟩:=HC.out.parts;clear hst;go_wp2;refine bodyPost_ret (v:=_) (by simp[results,Tryz.results15,go_sem];try rfl) rfl ⟨_,rfl,HC.out,HW.out⟩
end Lm
namespace Lm
open Go Go.RowKit
structure FQ where
 r:FE
 zs:List Int
 ys:List Int
def FQ.p(e:FQ):Int:=sg e.r.ng (val e.zs)
def FQ.q(e:FQ):Int:=val e.ys
def FQ.w(e:FQ):Rat:=Rat.divInt e.p e.q
structure Rfq (w:World) (v:Value) (es:List FQ):Prop where
 ce:Ce w v 3 es.length (f3 (es.map FQ.r))
 s1:∀e∈es,Sl w (.slice e.r.a e.r.m e.r.c) e.zs
 s2:∀e∈es,Sl w (.slice e.r.d e.r.k e.r.e) e.ys
theorem Rfq.below{w w':World}{v:Value}{es:List FQ}(h:Rfq w v es)(hb:Below w.heap.size w w'):Rfq w' v es:=⟨h.ce.below hb,fun e he=>(h.s1 e he).below hb,fun e he=>(h.s2 e he).below hb⟩
theorem Rfq.isq{w:World}{v:Value}{es:List FQ}(h:Rfq w v es){L:Nat}(hl:∀e∈es,e.zs.length<=L/\e.ys.length<=L):IsQs w v (es.map FQ.w) L:=by
 refine⟨es.map FQ.r,by simpa using h.ce,by simp,fun k e r he hr=>?_⟩;simp only[List.getElem?_map,Option.map_eq_some_iff]at he hr;obtain⟨x,hx,rfl⟩:=he;obtain⟨y,hy,rfl⟩:=hr;obtain rfl:x=y:=by rw[hx]at hy;exact Option.some.inj hy
 have hm:=List.mem_of_getElem? hx;exact⟨x.p,x.q,⟨_,_,_,_,x.zs,_,_,_,x.ys,rfl,⟨h.s1 x hm,rfl⟩,h.s2 x hm,rfl,(hl x hm).1,(hl x hm).2⟩,rfl⟩
def lenFQ:List FQ->Nat
 | []=>0
 |e::es=>1+e.r.m+e.r.k+lenFQ es
theorem ahu(es fs:List FQ):lenFQ (es++fs)=lenFQ es+lenFQ fs:=by
 induction es with
 |nil=>simp[lenFQ]
 |cons e es ih=>simp only[List.cons_append,lenFQ,ih];omega
theorem awe{es:List FQ}{e:FQ}(h:e∈es):1+e.r.m+e.r.k<=lenFQ es:=by
 induction es with
 |nil=>cases h
 |cons x es ih=>
  rcases List.mem_cons.1 h with rfl|h
  ·simp only[lenFQ];omega
  ·have:=ih h;simp only[lenFQ];omega
open Go.ChangeShapes Go.WideShapes Go.ChangeAt Go.Deep
instance:Inhabited FQ:=⟨⟨⟨false,none,0,0,none,0,0⟩,[],[]⟩⟩
theorem aiu{H:Type}{enc:TypeId×Value->H}{w:World}{fuel:Nat}{v:Value}{x:DataW H×List MemPlace}(h:DataW.trod enc Tryz.prog w 0 (fun _=>true) true fuel 43 [v]=some x):∃a l c zs,v=.slice a l c/\Sl w v zs/\l+1<=Rows.uptoBulk x.1:=by
 rcases open_ints Tryz.underlying43 Tryz.underlying86 (by kernel_rfl) h with⟨hcs,hx⟩|⟨a,l,c,zs,hcs,_,hl,hm,hz,hx,hcell,hwz⟩
 ·obtain rfl:v=.slice none 0 0:=by simpa using hcs
  exact⟨none,0,0,[],rfl,⟨none,0,rfl,Nat.le_refl _,by simp[maxLen],aak,.inl rfl⟩,by rw[hx];simp[Rows.uptoBulk]⟩
 ·obtain rfl:v=.slice (some a) l c:=by simpa using hcs
  have hz':zs.length=c:=by simpa using hz
  refine⟨some a,l,c,zs.take l,rfl,aqm hl hm hz' hcell hwz,?_⟩;have hd:x.1=.slice (lits .u32 (zs.take l)) (lits .u32 (zs.drop l)):=congrArg Prod.fst hx;have hll:(zs.take l).length=l:=by rw[List.length_take];omega
  simp only[Rows.uptoBulk,hd,ali,hll];omega
theorem a3p(E:Nat->FQ)(n:Nat):∀j u,(f3 (((List.range n).map E).map FQ.r))[j]? = some u->j/3<n/\u=(if j%3=0 then .bool (E (j/3)).r.ng else if j%3=1 then .slice (E (j/3)).r.a (E (j/3)).r.m (E (j/3)).r.c else .slice (E (j/3)).r.d (E (j/3)).r.k (E (j/3)).r.e):=by
 intro j u hu;have hj:j<(f3 (((List.range n).map E).map FQ.r)).length:=(List.getElem?_eq_some_iff.1 hu).1;rw[aeh,List.length_map,List.length_map,List.length_range]at hj;have hk:j/3<n:=by omega
 have he:(((List.range n).map E).map FQ.r)[j/3]? = some (E (j/3)).r:=by simp[hk]
 obtain⟨h1,h2,h3⟩:=aj1 he;refine⟨hk,?_⟩;by_cases h0:j%3=0
 ·rw[if_pos h0];rw[show j/3*3=j by omega,hu]at h1;exact Option.some.inj h1
 ·rw[if_neg h0];by_cases h4:j%3=1
  ·rw[if_pos h4];rw[show j/3*3+1=j by omega,hu]at h2;exact Option.some.inj h2
  ·rw[if_neg h4];rw[show j/3*3+2=j by omega,hu]at h3;exact Option.some.inj h3
theorem awf{H:Type}{enc:TypeId×Value->H}{w:World}{fuel:Nat}{ao:Option Addr}{n cap:Nat}{x:DataW H×List MemPlace}(h:DataW.trod enc Tryz.prog w 0 (fun _=>true) true fuel 31 [.slice ao n cap]=some x):
  ∃es,Rfq w (.slice ao n cap) es/\lenFQ es+1<=Rows.uptoBulk x.1:=by
 have kR:Tryz.prog.cellsOf 47=3:=by kernel_rfl
 have kW:Tryz.prog.cellsOf 45=2:=by kernel_rfl
 have kS:Tryz.prog.cellsOf 43=1:=by kernel_rfl
 have kB:Tryz.prog.cellsOf 4=1:=by kernel_rfl
 rcases open_slice Tryz.underlying31 h with⟨hcs,rfl⟩|⟨a,len,cap',m,k,D,Pl,hcs,_,hl,hm,hmm,rfl,hall⟩
 ·obtain⟨rfl,rfl,rfl⟩:ao=none/\n=0/\cap=0:=by simpa using hcs
  exact⟨[],⟨⟨none,0,rfl,Nat.le_refl _,by omega,rfl,.inl rfl⟩,(fun e he=>by cases he),(fun e he=>by cases he)⟩,by simp[lenFQ,Rows.uptoBulk]⟩
 obtain⟨rfl,rfl,rfl⟩:ao=some a/\n=len/\cap=cap':=by simpa using hcs
 simp only[if_true]at hmm;subst hmm;have each:∀i,i<m->∃e:FQ,w.cell? (a.add (i*3))=some (.bool e.r.ng)/\w.cell? (a.add (i*3+1))=some (.slice e.r.a e.r.m e.r.c)/\w.cell? (a.add (i*3+2))=some (.slice e.r.d e.r.k e.r.e)/\Sl w (.slice e.r.a e.r.m e.r.c) e.zs/\Sl w (.slice e.r.d e.r.k e.r.e) e.ys/\1+e.r.m+e.r.k<=Rows.uptoBulk (D i):=by
  intro i hi;obtain⟨cs,h1,h2⟩:=hall i hi;rw[kR]at h1;obtain⟨_,hlen,hcell⟩:=World.cells?_some h1
  match cs,hlen with
  | [c0,c1,c2],_=>
   have e0:=hcell 0 (by omega);have e1:=hcell 1 (by omega);have e2:=hcell 2 (by omega);rw[add_add]at e0 e1 e2;obtain⟨y0,y1,n1,hx,_,t0,t1⟩:=trod_struct2 Tryz.underlying47 h2;obtain⟨z0,z1,n2,hx2,_,s0,s1⟩:=trod_struct2 Tryz.underlying45 t0;have s0':DataW.trod enc Tryz.prog w 0 (fun _=>true) true n2 4 [c0]=some z0:=by simpa[kW,kB]using s0
   have s1':DataW.trod enc Tryz.prog w 0 (fun _=>true) true n2 43 [c1]=some z1:=by simpa[kW,kS]using s1
   have t1':DataW.trod enc Tryz.prog w 0 (fun _=>true) true n1 43 [c2]=some y1:=by simpa[kS]using t1
   have hd:D i=.agg [.agg [z0.1,z1.1],y1.1]:=by
    have h1:=congrArg Prod.fst hx;have h2:=congrArg Prod.fst hx2;simp only at h1 h2;rw[h1,h2]
   clear s0 s1 t1 t0 hx hx2;obtain⟨b,hb0,_⟩:=DataW.trod_bool Tryz.underlying4 s0';obtain rfl:c0=.bool b:=by simpa using hb0
   obtain⟨a1,l1,q1,zs,rfl,hs1,hb1⟩:=aiu s1';obtain⟨a2,l2,q2,ys,rfl,hs2,hb2⟩:=aiu t1';refine⟨⟨⟨b,a1,l1,q1,a2,l2,q2⟩,zs,ys⟩,by simpa using e0,by simpa using e1,by simpa using e2,hs1,hs2,?_⟩;rw[hd];simp only[Rows.uptoBulk,Rows.uptoBulkAll];omega
 obtain⟨E,hE⟩:=choose_lt each;refine⟨(List.range n).map E,⟨⟨some a,m,by rw[List.length_map,List.length_range],by rw[List.length_map,List.length_range];exact hl,by simpa[maxLen]using hm,by rw[aeh];simp,?_⟩,fun e he=>?_,fun e he=>?_⟩,?_⟩
 ·by_cases h0:n=0
  ·exact .inl (by rw[List.length_map,List.length_range];exact h0)
  ·obtain⟨b,off,spot⟩:=a;have h1:=(hE 0 (by omega)).1;have hspot:spot=none:=by simpa[Addr.add]using World.cell?_spot h1
   subst hspot;have hadd:∀i,(⟨b,off,none⟩:Addr).add i=⟨b,off+i,none⟩:=fun i=>by
    by_cases hi0:i=0
    ·subst hi0;simp[Addr.add]
    ·simp[Addr.add,hi0]
   refine .inr ⟨b,off,rfl,aba (off:=off+0*3) (by rw[<-hadd];exact h1),fun j u hu=>?_⟩;obtain⟨hj,rfl⟩:=a3p E n j u hu;obtain⟨c0,c1,c2,_⟩:=hE (j/3) (by omega);rw[hadd]at c0 c1 c2;by_cases hj0:j%3=0
   ·rw[show off+j/3*3=off+j by omega]at c0;rw[if_pos hj0];exact c0
   ·rw[if_neg hj0];by_cases hj1:j%3=1
    ·rw[show off+(j/3*3+1)=off+j by omega]at c1;rw[if_pos hj1];exact c1
    ·rw[show off+(j/3*3+2)=off+j by omega]at c2;rw[if_neg hj1];exact c2
 ·obtain⟨i,hi,rfl⟩:=List.mem_map.1 he;exact(hE i (by have:=List.mem_range.1 hi;omega)).2.2.2.1
 ·obtain⟨i,hi,rfl⟩:=List.mem_map.1 he;exact(hE i (by have:=List.mem_range.1 hi;omega)).2.2.2.2.1
 ·have key:∀k,k<=n->lenFQ ((List.range k).map E)<=Rows.uptoBulkAll ((List.range k).map D):=by
   intro k hk;induction k with
   |zero=>simp[lenFQ]
   |succ k ih=>
    have h1:=ih (by omega);have h2:=(hE k (by omega)).2.2.2.2.2;rw[List.range_succ,List.map_append,List.map_append,ahu,ad7];simp only[List.map_cons,List.map_nil,lenFQ,Rows.uptoBulkAll]at h1 h2 ⊢;omega
  have:=key n (Nat.le_refl _);simp only[Rows.uptoBulk];omega
def RfM(w:World)(v:Value)(ess:List (List FQ)):Prop:=∃vs:List Value,Ce w v 1 ess.length vs/\∀(i:Nat) (u:Value) (es:List FQ),vs[i]? = some u->ess[i]? = some es->Rfq w u es
def lenFM:List (List FQ)->Nat
 | []=>0
 |es::ess=>1+lenFQ es+lenFM ess
theorem aoh(es fs:List (List FQ)):lenFM (es++fs)=lenFM es+lenFM fs:=by
 induction es with
 |nil=>simp[lenFM]
 |cons e es ih=>simp only[List.cons_append,lenFM,ih];omega
theorem alv{es:List (List FQ)}{e:List FQ}(h:e∈es):1+lenFQ e<=lenFM es:=by
 induction es with
 |nil=>cases h
 |cons x es ih=>
  rcases List.mem_cons.1 h with rfl|h
  ·simp only[lenFM];omega
  ·have:=ih h;simp only[lenFM];omega
theorem RfM.below{w w':World}{v:Value}{ess:List (List FQ)}(h:RfM w v ess)(hb:Below w.heap.size w w'):RfM w' v ess:=by
 obtain⟨vs,h1,h2⟩:=h;exact⟨vs,h1.below hb,fun i u z hu hz=>(h2 i u z hu hz).below hb⟩
theorem RfM.parts{w:World}{v:Value}{ess:List (List FQ)}(h:RfM w v ess):∃ao cap,v=.slice ao ess.length cap/\ess.length<=9223372036854775807:=by
 obtain⟨vs,⟨ao,cap,rfl,h1,h2,_⟩,_⟩:=h;exact⟨ao,cap,rfl,by omega⟩
theorem Rfq.fit{w:World}{v:Value}{es:List FQ}(h:Rfq w v es){L:Nat}(hl:lenFQ es<=L):∀e∈es,e.zs.length<=L/\e.ys.length<=L:=fun e he=>by
 have h1:=awe he;obtain⟨_,_,g1,_⟩:=h.s1 e he;obtain⟨_,_,g2,_⟩:=h.s2 e he;have g1:=(Value.slice.injEq .. ▸ g1);have g2:=(Value.slice.injEq .. ▸ g2);omega
def zsF(ess:List (List FQ)):List (List Rat):=ess.map (List.map FQ.w)
theorem RfM.isQM{w:World}{v:Value}{ess:List (List FQ)}(h:RfM w v ess){L:Nat}(hl:lenFM ess<=L):IsQM w v (zsF ess) L:=by
 obtain⟨vs,h1,h2⟩:=h;refine⟨vs,by simpa[zsF]using h1,fun i u z hu hz=>?_⟩;unfold zsF at hz;rw[List.getElem?_map]at hz;obtain⟨es,he,rfl⟩:=Option.map_eq_some_iff.1 hz;have hR:=h2 i u es hu he;exact hR.isq (hR.fit (by have:=alv (List.mem_of_getElem? he);omega))
theorem a12{H:Type}{enc:TypeId×Value->H}{w:World}{fuel:Nat}{ao:Option Addr}{n cap:Nat}{x:DataW H×List MemPlace}(h:DataW.trod enc Tryz.prog w 0 (fun _=>true) true fuel 22 [.slice ao n cap]=some x):
  ∃ess,RfM w (.slice ao n cap) ess/\lenFM ess+1<=Rows.uptoBulk x.1:=by
 rcases open_slice1 Tryz.underlying22 (by kernel_rfl) h with⟨hcs,rfl⟩|⟨a,len,cap',m,k,V,D,Pl,hcs,_,hl,hm,hmm,rfl,hall⟩
 ·obtain⟨rfl,rfl,rfl⟩:ao=none/\n=0/\cap=0:=by simpa using hcs
  exact⟨[],⟨[],⟨none,0,rfl,Nat.le_refl _,by omega,rfl,.inl rfl⟩,fun i u es hu=>by simp at hu⟩,by simp[lenFM,Rows.uptoBulk]⟩
 obtain⟨rfl,rfl,rfl⟩:ao=some a/\n=len/\cap=cap':=by simpa using hcs
 simp only[if_true]at hmm;subst hmm;have each:∀i,i<m->∃es:List FQ,Rfq w (V i) es/\lenFQ es+1<=Rows.uptoBulk (D i):=by
  intro i hi;have t:=(hall i hi).2;have hv:∃b l c,V i=.slice b l c:=by
   rcases open_slice Tryz.underlying31 t with⟨hcs,_⟩|⟨a,len,cap',_,_,_,_,hcs,_⟩
   ·exact⟨none,0,0,by simpa using hcs⟩
   ·exact⟨some a,len,cap',by simpa using hcs⟩
  obtain⟨b,l,c,hv⟩:=hv;rw[hv]at t ⊢;exact awf (x:=(D i,Pl i)) t
 obtain⟨E,hE⟩:=choose_lt each;have hlen:((List.range n).map E).length=n:=by simp
 refine⟨(List.range n).map E,⟨(List.range n).map V,⟨some a,m,by rw[hlen],by rw[hlen];exact hl,by simpa[maxLen]using hm,by simp,?_⟩,fun i u es hu he=>?_⟩,?_⟩
 ·by_cases h0:n=0
  ·exact .inl (by rw[hlen];exact h0)
  ·obtain⟨b,off,spot⟩:=a;have h1:=(hall 0 (by omega)).1;have hspot:spot=none:=by simpa[Addr.add]using World.cell?_spot h1
   subst hspot;rw[agr]at h1;refine .inr ⟨b,off,rfl,aba h1,fun j u hu=>?_⟩;have hj:j<n:=by have:=(List.getElem?_eq_some_iff.1 hu).1;simpa using this
   have h2:=(hall j (by omega)).1;rw[agr]at h2;rw[h2];simpa[hj]using hu
 ·have hi:i<n:=by have:=(List.getElem?_eq_some_iff.1 hu).1;simpa using this
  obtain rfl:V i=u:=by simpa[hi]using hu
  obtain rfl:E i=es:=by simpa[hi]using he
  exact(hE i (by omega)).1
 ·have key:∀k,k<=n->lenFM ((List.range k).map E)<=Rows.uptoBulkAll ((List.range k).map D):=by
   intro k hk;induction k with
   |zero=>simp[lenFM]
   |succ k ih=>
    have h1:=ih (by omega);have h2:=(hE k (by omega)).2;rw[List.range_succ,List.map_append,List.map_append,aoh,ad7];simp only[List.map_cons,List.map_nil,lenFM,Rows.uptoBulkAll]at h1 h2 ⊢;omega
  have:=key n (Nat.le_refl _);simp only[Rows.uptoBulk];omega
end Lm
namespace Lm
open Go Go.RowKit
theorem awg(es fs:List FE):f3 (es++fs)=f3 es++f3 fs:=by
 induction es with
 |nil=>rfl
 |cons e es ih=>simp[f3,ih]
structure RfO (B:Nat) (w:World) (v:Value) (es:List FQ):Prop where
 own:w.ownsRow B 47 3 v es.length (f3 (es.map FQ.r))
 o1:∀e∈es,Ow B w (.slice e.r.a e.r.m e.r.c) e.zs
 o2:∀e∈es,Ow B w (.slice e.r.d e.r.k e.r.e) e.ys
theorem RfO.below{B:Nat}{w w':World}{v:Value}{es:List FQ}(h:RfO B w v es)(hb:Below w.heap.size w w'):RfO B w' v es:=
 ⟨h.own.kept (row:=none) ⟨hb.os,hb.tape,hb.output,hb.size,fun k hk _=>hb.block k hk⟩ (by cases hv:v.ownBlock <;> simp),fun e he=>(h.o1 e he).below hb,fun e he=>(h.o2 e he).below hb⟩
theorem RfO.rfq{B:Nat}{w:World}{v:Value}{es:List FQ}(h:RfO B w v es):Rfq w v es:=⟨Ce.own h.own,fun e he=>(h.o1 e he).sl,fun e he=>(h.o2 e he).sl⟩
theorem a13(B:Nat)(w:World):RfO B w (.slice none 0 0) []:=⟨World.ownsRow_nil w B _ 3,fun e he=>(by cases he),fun e he=>(by cases he)⟩
theorem Ow.grownf{B:Nat}{w w':World}{v:Value}{zs:List Int}{row:Option Nat}{cur:Nat->Array Value}(h:Ow B w v zs)(hg:w.grownBy w' row)(hr:∀k,row=some k->w.heap[k]? = some (.cells (cur k) 47 (0,0))):Ow B w' v zs:=by
 obtain⟨ao,cap,rfl,h1,h2,h3,h4⟩:=h;refine⟨ao,cap,rfl,h1,h2,h3,?_⟩;rcases h4 with h4|⟨g,off,c,rfl,hB,hh,h5,h6⟩
 ·exact .inl h4
 ·refine .inr ⟨g,off,c,rfl,hB,(hg.block g (aaa hh) (fun e=>?_)).trans hh,h5,h6⟩;have:=hr g e.symm;rw[hh]at this;injection this with this;injection this with _ this;exact absurd this (by decide)
theorem a14{dst:Option Tmp}{ty:TypeId}{pos:String}{after:Array Edge}{guard:Option (Nat×Bool)}{a:Act}{w:World}{i j:Nat}{B g:Nat}{v:Value}{es:List FQ}{x:FE}{zs ys:List Int}(h1:a.eval (.tmp i)=v)(h2:a.eval (.tmp j)=.slice (some ⟨g,0,none⟩) 1 1)(R:RfO B w v es)(O:w.heap[g]? = some (.cells #[.bool x.ng,.slice x.a x.m x.c,.slice x.d x.k x.e] 47 (0,0)))(S1:Ow B w (.slice x.a x.m x.c) zs)(S2:Ow B w (.slice x.d x.k x.e) ys)(hn:es.length<=1000000000)(hB:B<=w.heap.size):
  Does Tryz.prog {dst,op:=.call {callee:=.builtin .append,args:=#[.tmp i,.tmp j],argTypes:=#[31,31]},type:=ty,pos,after,guard} a.eval w fun v' w'=>RfO B w' v' (es ++ [⟨x,zs,ys⟩])/\Below B w w':=by
 obtain⟨i0,hi,hz0,hz1,hz2⟩:=info_parts infoRz;have hfl:f3 ((es++([⟨x,zs,ys⟩]:List FQ)).map FQ.r)=f3 (es.map FQ.r) ++ [.bool x.ng,.slice x.a x.m x.c,.slice x.d x.k x.e]:=by rw[List.map_append,awg];rfl
 obtain⟨v',w',hr,ho,hgr,_⟩:=run_append_own (P:=Tryz.prog) w B 31 ty 47 i0 _ 3 56 Tryz.underlying31 hi hz0 hz1 hz2 rfl (by decide) v es.length (f3 (es.map FQ.r)) R.own ⟨g,0,none⟩ 1 1 [.bool x.ng,.slice x.a x.m x.c,.slice x.d x.k x.e] rfl (fun k u hu=>by
  have hc:∀k,w.cell? ⟨g,k,none⟩ = #[Value.bool x.ng,.slice x.a x.m x.c,.slice x.d x.k x.e][k]? :=fun k=>cell_of_row w g k _ _ (0,0) O
  have ha:(⟨g,0,none⟩:Addr).add k=⟨g,k,none⟩:=by unfold Addr.add;split <;> simp_all
  rw[ha,hc]
  simpa using hu) (by simp[Value.oneCell']) (by simp[maxLen];omega) (by omega) hB
 have e:(execOp a.eval {dst,op:=.call {callee:=.builtin .append,args:=#[.tmp i,.tmp j],argTypes:=#[31,31]},type:=ty,pos,after,guard}).run Tryz.prog w=.ok (.value v') w':=by
  simp only[execOp,resolve,invoke,builtin,Sem.run_bind,Sem.run_pure,Result.andThen_ok,List.map_toArray,List.map_cons,List.map_nil,h1,h2,hr]
 refine⟨?_⟩;unfold Turns;rw[e];have hrow:∃cur:Nat->Array Value,∀k,v.ownBlock=some k->w.heap[k]? = some (.cells (cur k) 47 (0,0)):=by
  rcases R.own.2 with⟨rfl,_⟩|⟨g',cap,cur,rfl,_,hh,_⟩
  ·exact⟨fun _=>#[],fun k hk=>by simp[Value.ownBlock]at hk⟩
  ·refine⟨fun _=>cur,fun k hk=>?_⟩;simp only[Value.ownBlock,Option.some.injEq]at hk;subst hk;exact hh
 obtain⟨cur,hcur⟩:=hrow;refine⟨⟨by rw[hfl,List.length_append];exact ho,fun e he=>?_,fun e he=>?_⟩,⟨hgr.os,hgr.tape,hgr.output,hgr.size,fun k hk=>hgr.block k (by omega) (fun e=>?_)⟩⟩
 ·rcases List.mem_append.1 he with he|he
  ·exact(R.o1 e he).grownf hgr hcur
  ·obtain rfl:=List.mem_singleton.1 he;exact S1.grownf hgr hcur
 ·rcases List.mem_append.1 he with he|he
  ·exact(R.o2 e he).grownf hgr hcur
  ·obtain rfl:=List.mem_singleton.1 he;exact S2.grownf hgr hcur
 ·have:=R.own.lt k e.symm;omega
theorem a3q(w:World){K:Nat}(hK:K<=w.heap.size):Ow K (w.alloc (.cells #[.int .u32 1] 86)) (.slice (some ⟨w.heap.size,0,none⟩) 1 1) [1]:=by
 refine⟨_,1,rfl,Nat.le_refl _,by decide,?_,.inr ⟨w.heap.size,0,_,rfl,hK,heap_alloc_new w _,by decide,?_⟩⟩
 ·refine aan.2 ⟨by omega,aak⟩
 ·intro k hk
  match k with
  |0=>rfl
  |k+1=>simp at hk
theorem as7(w:World)(v:Value)(zs:List Int)(h:Nums w v zs)(hz:∀z∈zs,-9223372036854775808<=z/\z<=9223372036854775807)(hl:zs.length<=1000):
  Calls Tryz.prog 38 #[v] w fun e w'=>∃r es,e=.returned r/\Rfq w' r es/\es.map FQ.w=zs.map (fun z:Int=>(z:Rat))/\lenFQ es<=4*zs.length/\Below w.heap.size w w':=by
 obtain⟨ao,cap,rfl,_⟩:=id h;have H:=hide h;have HZ:=hide hz;clear h hz;obtain⟨n,hn⟩:∃n,zs.length=n:=⟨_,rfl⟩;rw[hn]at H hl ⊢;have HN:=hide hn;clear hn;go_enter Tryz.func38,Tryz.ntmps38
 go_wp2_with fail
 go_loopw [3,4] (fun ov iv wr=>∃(k:Nat) (es:List FQ),iv=.int .i64 k/\k<=n/\Below w.heap.size w wr/\es.length=k/\RfO w.heap.size wr ov es/\es.map FQ.w=(zs.take k).map (fun z:Int=>(z:Rat))/\lenFQ es<=4*k) (fun _ iv _=>n-(intOf iv).toNat)
 case atStart=>exact⟨0,[],rfl,Nat.zero_le _,Below.refl _ _,rfl,a13 _ _,rfl,Nat.le_refl _⟩
 case round=>
  obtain⟨k,es,rfl,hk,hbw,hes,hown,hall,hlq⟩:=hrel;have HW:=hide hbw;have HES:=hide hes;have HOWN:=hide hown;have HALL:=hide hall;have HLQ:=hide hlq;by_cases hlt:k<n
  ·obtain⟨b,off,rfl,hc⟩:=(show Nums wr (.slice ao n cap) zs from Ce.below H.out hbw).cell (i:=k) (by have:=HN.out;omega);have hget:zs[k]? = some (zs[k]'(by have:=HN.out;omega)):=List.getElem?_eq_getElem _;generalize zs[k]'(by have:=HN.out;omega)=z at hc hget;have HG:=hide hget;have hzb:=HZ.out z (List.mem_of_getElem? hget);have hlt':(k:Int)<(n:Int):=by omega
   obtain⟨aov,capv,hov,_⟩:=Ce.own hown.own;subst hov;have K1:=hide (anc wr z hzb.1 hzb.2);clear hbw hes hown hall hget hlq;go_wp2_with fail
   refine K1.out.mono ?_;rintro e w2 ⟨r2,rfl,hf2,hb2⟩;obtain⟨ng2,ao2,cap2,rs2,B2,T2,rfl,hwf,hB2,hT2,hl2⟩:=hf2;have hA1:=hAl w2 (.cells #[.int .u32 1] 86);have hO1:=a3q w2 (K:=w.heap.size) (Nat.le_trans HW.out.size hb2.size);generalize hw3:w2.alloc (.cells #[.int .u32 1] 86)=w3 at *
   have hA2:=hAl w3 (.cells #[.bool ng2,.slice ao2 rs2.length cap2,.slice (some ⟨w2.heap.size,0,none⟩) 1 1] 47);have hO2:=heap_alloc_new w3 (.cells #[.bool ng2,.slice ao2 rs2.length cap2,.slice (some ⟨w2.heap.size,0,none⟩) 1 1] 47);have hA12:=hA1.trans (hA2.mono hA1.size);have hb2':=hb2.trans (hA12.mono hb2.size);have hR2:=HOWN.out.below hb2';have hS1:Ow w.heap.size _ (.slice ao2 rs2.length cap2) rs2:=(hwf.fr.ow.mono (Nat.le_trans HW.out.size hB2)).below hA12;have hS2:=hO1.below hA2;have hsz:w.heap.size<=(w3.alloc (.cells #[.bool ng2,.slice ao2 rs2.length cap2,.slice (some ⟨w2.heap.size,0,none⟩) 1 1] 47)).heap.size:=Nat.le_trans HW.out.size hb2'.size;have HW3:=hide hw3;go_wp2_with (at_builtin;refine abo rfl (a14 (i:=11) (j:=19) (x:=⟨ng2,ao2,rs2.length,cap2,some ⟨w2.heap.size,0,none⟩,1,1⟩) (zs:=rs2) (ys:=[1]) rfl rfl hR2 hO2 hS1 hS2 (by rw[HES.out];omega) hsz) ?_)
   intro v3 w4 hR3 hb3;obtain⟨aov3,capv3,hov3,_⟩:=Ce.own hR3.own;subst hov3;have HR3:=hide hR3;have HB3:=hide ((HW.out.trans (hb2'.mono HW.out.size)).trans hb3);have HWF:=hide hwf;clear hR3 hb3 hR2 hO2 hS1 hS2 hsz hA1 hA2 hA12 hb2 hb2' hwf hB2 hT2;go_wp2;go_roundw
   case rel=>
    refine⟨k+1,es ++ [⟨⟨ng2,ao2,rs2.length,cap2,some ⟨w2.heap.size,0,none⟩,1,1⟩,rs2,[1]⟩],by go_num,by omega,HB3.out,by simp[HES.out],HR3.out,?_,?_⟩
    ·rw[List.map_append,HALL.out,List.take_add_one,HG.out,List.map_append];congr 1;have h1:=HWF.out.wh.ag.worth;show [Rat.divInt (sg ng2 (val rs2)) (val [1])] = [(z:Rat)];rw[h1];congr 1;rw[show val [1]=1 by decide];exact(Rat.divInt_ofNat _ 1).trans (Rat.mkRat_one _)
    ·rw[ahu];have:=HLQ.out;simp only[lenFQ];omega
   case measure=>simp[intOf];omega
  ·have hlt':decide ((k:Int)<(n:Int))=false:=by simp;omega
   have hkn:k=n:=by omega
   subst hkn;clear hbw hes hown hall hlq;obtain⟨aov3,capv3,hov3,_⟩:=Ce.own HOWN.out.own;subst hov3;go_wp2;refine bodyPost_ret (v:=_) (ah1 rfl rfl) rfl ⟨_,es,rfl,HOWN.out.rfq,by rw[HALL.out,List.take_of_length_le (by rw[HN.out];exact Nat.le_refl _)],HLQ.out,HW.out⟩
end Lm
namespace Lm
open Go Go.RowKit Md
theorem aoi{w:World}{u:Value}{z:List Int}{L:Nat}(T:TypeId)(h:CanRow w u z L):CanM (w.alloc (.cells #[u] T)) (.slice (some ⟨w.heap.size,0,none⟩) 1 1) [z] L:=by
 have hb:=hAl w (.cells #[u] T);have hn:=heap_alloc_new w (.cells #[u] T);refine⟨[u],⟨_,_,rfl,Nat.le_refl _,by omega,rfl,.inr ⟨w.heap.size,0,rfl,aaa hn,fun j x hx=>?_⟩⟩,fun i x y hx hy=>?_⟩
 ·rw[Nat.zero_add,cell_of_row _ _ _ _ _ (0,0) hn];simpa using hx
 ·match i with
  |0=>simp at hx hy;subst hx hy;exact h.below hb
  |i+1=>simp at hx
theorem azq(w:World)(a b:Int)(e:TypeId):Nums (w.alloc (.cells #[.int .i64 a,.int .i64 b] e)) (.slice (some ⟨w.heap.size,0,none⟩) 2 2) [a,b]:=by
 have hn:=heap_alloc_new w (.cells #[.int .i64 a,.int .i64 b] e);refine⟨_,_,rfl,Nat.le_refl _,by simp,rfl,.inr ⟨w.heap.size,0,rfl,aaa hn,fun j x hx=>?_⟩⟩;rw[Nat.zero_add,cell_of_row _ _ _ _ _ (0,0) hn];simpa using hx
theorem row2(w:World)(a b:Int)(h:∀z ∈ [a,b],-9223372036854775808<=z/\z<=9223372036854775807):Calls Tryz.prog 40 #[.slice (some ⟨w.heap.size,0,none⟩) 2 2] (w.alloc (.cells #[.int .i64 a,.int .i64 b] 3)) fun e w'=>∃ra rc,e=.returned (.slice ra 2 rc)/\CanRow w' (.slice ra 2 rc) [a,b] 2/\Below w.heap.size w w':=by
 have hb:=hAl w (.cells #[.int .i64 a,.int .i64 b] 3);refine(aqr _ _ [a,b] (azq w a b 3) h (by simp)).mono ?_;rintro e w' ⟨r,rfl,hc,hb'⟩;obtain⟨ra,rc,rfl⟩:=hc.slc;exact⟨ra,rc,rfl,hc,hb.trans (hb'.mono hb.size)⟩
theorem aoj(w:World)(a b:Int)(h:∀z ∈ [a,b],-9223372036854775808<=z/\z<=9223372036854775807):Calls Tryz.prog 38 #[.slice (some ⟨w.heap.size,0,none⟩) 2 2] (w.alloc (.cells #[.int .i64 a,.int .i64 b] 3)) fun e w'=>∃ra rc,e=.returned (.slice ra 2 rc)/\IsQs w' (.slice ra 2 rc) [(a:Rat),(b:Rat)] 8/\Below w.heap.size w w':=by
 have hb:=hAl w (.cells #[.int .i64 a,.int .i64 b] 3);refine(as7 _ _ [a,b] (azq w a b 3) h (by simp)).mono ?_;rintro e w' ⟨r,es,rfl,hR,hm,hl,hb'⟩;have hQ:=hR.isq (hR.fit (L:=8) (by simpa using hl));rw[hm]at hQ;obtain⟨ra,rc,rfl,_⟩:=hQ.parts;exact⟨ra,rc,rfl,hQ,hb.trans (hb'.mono hb.size)⟩
theorem as8{w:World}{u1 u2 u3:Value}{p1 p2 p3:List Rat}{L:Nat}(T:TypeId)(h1:IsQs w u1 p1 L)(h2:IsQs w u2 p2 L)(h3:IsQs w u3 p3 L):IsQM (w.alloc (.cells #[u1,u2,u3] T)) (.slice (some ⟨w.heap.size,0,none⟩) 3 3) [p1,p2,p3] L:=by
 have hb:=hAl w (.cells #[u1,u2,u3] T);have hn:=heap_alloc_new w (.cells #[u1,u2,u3] T);refine⟨[u1,u2,u3],⟨_,_,rfl,Nat.le_refl _,by omega,rfl,.inr ⟨w.heap.size,0,rfl,aaa hn,fun j x hx=>?_⟩⟩,fun i x y hx hy=>?_⟩
 ·rw[Nat.zero_add,cell_of_row _ _ _ _ _ (0,0) hn];simpa using hx
 ·match i with
  |0=>simp at hx hy;subst hx hy;exact h1.below hb
  |1=>simp at hx hy;subst hx hy;exact h2.below hb
  |2=>simp at hx hy;subst hx hy;exact h3.below hb
  |i+3=>simp at hx
structure Spn (w:World) (g n:Nat) (E Lf:List (List Int)):Prop where
 at_:∃se sl,SpanEL w g n se sl/\IsM w se E 32/\IsM w sl Lf 600
theorem Spn.below{w w':World}{g n:Nat}{E Lf:List (List Int)}(h:Spn w g n E Lf)(hb:Below w.heap.size w w'):Spn w' g n E Lf:=by
 obtain⟨se,sl,h1,h2,h3⟩:=h.at_;exact⟨se,sl,h1.below hb,h2.below hb,h3.below hb⟩
theorem a3r(w:World):Calls Tryz.prog 8 #[] w fun r w'=>r=.returned (.bool true)/\Below w.heap.size w w':=by
 have K1:=hide (aoj w 0 0 (by decide));go_enter Tryz.func8,Tryz.ntmps8
 go_wp2_with fail
 refine K1.out.mono ?_;rintro e w1 ⟨ra,rc,rfl,h1,hb1⟩;have H1:=hide h1;have HB1:=hide hb1;have K2:=hide (aoj w1 1 2 (by decide));clear h1 hb1 K1;go_wp2_with fail
 refine K2.out.mono ?_;rintro e w2 ⟨sa,sc,rfl,h2,hb2⟩;have H1:=hide (H1.out.below hb2);have H2:=hide h2;have HB2:=hide (HB1.out.trans (hb2.mono HB1.out.size));have K3:=hide (aoj w2 2 4 (by decide));clear h2 hb2 K2;go_wp2_with fail
 refine K3.out.mono ?_;rintro e w3 ⟨ta,tc,rfl,h3,hb3⟩;have hM:=as8 31 (H1.out.below hb3) (H2.out.below hb3) h3;have hba:=hAl w3 (.cells #[.slice ra 2 rc,.slice sa 2 sc,.slice ta 2 tc] 31);have HB3:=hide ((HB2.out.trans (hb3.mono HB2.out.size)).trans (hba.mono (Nat.le_trans HB2.out.size hb3.size)));have eP : [[((0:Int):Rat),((0:Int):Rat)],[((1:Int):Rat),((2:Int):Rat)],[((2:Int):Rat),((4:Int):Rat)]]=awP:=rfl;rw[eP]at hM;have K4:=hide (apv _ _ awP 8 2 hM (by omega) (by omega) (by omega));clear h3 hb3 hba hM K3 H1 H2 eP;go_wp2_with fail
 refine K4.out.mono ?_;rintro e w4 ⟨ho,hb4⟩;have HB4:=hide (HB3.out.trans (hb4.mono HB3.out.size));rcases ho with⟨hs,_⟩|⟨_,ho⟩
 ·exact absurd hs (by decide)
 rcases ho with⟨hbg,_⟩|⟨g,made,twin,low,eqs,rfl,hat,hli,heq,hlo,htw⟩
 ·exact(a3o hbg).elim
 obtain⟨sl,rfl,hsl⟩:=hli;obtain⟨se,rfl,hse⟩:=heq;obtain⟨rfl,hst,hll⟩:=a1z hlo htw;have hrow:∀l∈low,l.length=2+1:=((afo aog hlo htw).1.row).2;have HAT:=hide (SpanEL.below (w':=w4) (.inl hat) (Below.refl _ _));have HSL:=hide hsl;have HSE:=hide hse;have HST:=hide hst;have HLL:=hide hll;have HROW:=hide hrow;obtain⟨al,cl,hal,_⟩:=hsl.parts;rw[hll]at hal;have K5:=ay1 w4 g 2 2 se sl al cl (.inl hat) hal (by omega);have e1:((2:Nat):Int)-1=1:=rfl;rw[e1]at K5;have K5:=hide K5;clear hat hsl hse hst hll hrow hlo htw hb4 K4 hal e1;go_wp2_with fail
 refine K5.out.mono ?_;rintro e w5 ⟨rfl,hb5⟩;have HB5:=hide (HB4.out.trans (hb5.mono HB4.out.size));have K6:=hide (al5 w5 g 2 se sl [[2,-1,0]] 32 (HAT.out.below hb5) (HSE.out.below hb5) (by decide) (by omega) (by decide) (by omega));have HAT5:=hide (HAT.out.below hb5);have HSL5:=hide (HSL.out.below hb5);clear hb5 K5;go_wp2_with fail
 refine K6.out.mono ?_;rintro e w6 ⟨v6,rfl,hc6,hb6⟩;obtain⟨a6,c6,rfl,_⟩:=hc6.parts;have HB6:=hide (HB5.out.trans (hb6.mono HB5.out.size));have HC6:=hide hc6;have HAT6:=hide (HAT5.out.below hb6);have HSL6:=hide (HSL5.out.below hb6);have K7:=hide (row3 w6 2 (-1) 0 (by decide));clear hb6 hc6 K6;go_wp2_with fail
 refine K7.out.mono ?_;rintro e w7 ⟨pa,pc,rfl,h7,hb7⟩;have hba:=hAl w7 (.cells #[.slice pa 3 pc] 39);have hM:=aoi 39 h7;have hb67:=hb7.trans (hba.mono hb7.size);have K8:=hide (ahl _ _ _ [[2,-1,0]] _ _ (HC6.out.below hb67) hM);have HB7:=hide (HB6.out.trans (hb67.mono HB6.out.size));have HAT7:=hide (HAT6.out.below hb67);have HSL7:=hide (HSL6.out.below hb67);clear h7 hb7 hba hM hb67 K7;go_wp2_with fail
 refine K8.out.mono ?_;rintro e w8 ⟨rfl,hb8⟩;have HB8:=hide (HB7.out.trans (hb8.mono HB7.out.size));have K9:=as6 w8 g 2 se sl low 600 (HAT7.out.below hb8) (HSL7.out.below hb8) HROW.out (by omega) (by rw[HLL.out];omega) (by omega);rw[HST.out]at K9;have K9:=hide K9;clear hb8 K8;go_wp2_with fail
 refine K9.out.mono ?_;rintro e w9 ⟨v9,rfl,hc9,hb9⟩;obtain⟨a9,c9,rfl,_⟩:=hc9.parts;have HB9:=hide (HB8.out.trans (hb9.mono HB8.out.size));have HC9:=hide hc9;have K10:=hide (row2 w9 1 2 (by decide));clear hb9 hc9 K9;go_wp2_with fail
 refine K10.out.mono ?_;rintro e w10 ⟨qa,qc,rfl,h10,hb10⟩;have hba:=hAl w10 (.cells #[.slice qa 2 qc] 39);have hM:=aoi 39 h10;have hb910:=hb10.trans (hba.mono hb10.size);have K11:=hide (ahl _ _ _ [[1,2]] _ _ (HC9.out.below hb910) hM);have HB10:=hide (HB9.out.trans (hb910.mono HB9.out.size));clear h10 hb10 hba hM hb910 K10;go_wp2_with fail
 refine K11.out.mono ?_;rintro e w11 ⟨rfl,hb11⟩;have HB11:=hide (HB10.out.trans (hb11.mono HB10.out.size));clear hb11 K11;go_wp2;refine bodyPost_ret (v:=_) (by simp[results,Tryz.results8,go_sem];try rfl) rfl ⟨rfl,HB11.out⟩
end Lm
namespace Lm
open Go Go.RowKit Md
def CatS(rows:List (List Int))(L:Nat):Says:=fun v w=>IsM w v rows L
theorem CatS.mono(rows:List (List Int))(L:Nat):Mono (CatS rows L):=fun _ _ _ hb h=>IsM.below h hb
def LiS(rows:List (List Int))(L:Nat):Says:=fun v w=>IsLi w v rows L
theorem LiS.mono(rows:List (List Int))(L:Nat):Mono (LiS rows L):=fun _ _ _ hb h=>IsLi.below h hb
def EqS(rows:List (List Int))(L:Nat):Says:=fun v w=>IsEq w v rows L
theorem EqS.mono(rows:List (List Int))(L:Nat):Mono (EqS rows L):=fun _ _ _ hb h=>IsEq.below h hb
theorem as9:Has Tryz.prog 45:=by unfold Has;kernel_rfl
theorem ay6:Has Tryz.prog 43:=by unfold Has;kernel_rfl
def BuiK(w:World)(n:Nat)(H:Md.Rw->Prop)(pv:Value)(ev:Int):Prop:=
 (pv=.pointer none/\ev=2/\∃E0,BigF n E0/\∀y,Out (n+1) y->(RS (E0.map fnR) y↔H y)) \/
 ∃g E Lf,pv=.pointer (some ⟨g,0,none⟩)/\ev=0/\Spn w g n E Lf/\Kept n E Lf/\∀y,Out (n+1) y->(Hld n Lf y↔H y)
theorem BuiK.below{w w':World}{n:Nat}{H:Md.Rw->Prop}{pv:Value}{ev:Int}(h:BuiK w n H pv ev)(hb:Below w.heap.size w w'):BuiK w' n H pv ev:=by
 rcases h with h|⟨g,E,Lf,h1,h2,h3,h4⟩
 ·exact .inl h
 ·exact .inr ⟨g,E,Lf,h1,h2,h3.below hb,h4⟩
def BuiV(n:Nat)(H:Md.Rw->Prop):Says:=fun v w=>∃pv ev,v=.tuple #[pv,.int .i64 ev]/\BuiK w n H pv ev
def BuiX0(n:Nat)(H:Md.Rw->Prop):Says:=fun v w=>∃ev,BuiK w n H v ev
def BuiX1(n:Nat)(H:Md.Rw->Prop):Says:=fun v w=>∃pv ev,v=.int .i64 ev/\BuiK w n H pv ev
theorem BuiV.mono(n:Nat)(H:Md.Rw->Prop):Mono (BuiV n H):=fun _ _ _ hb ⟨pv,ev,e,h⟩=>⟨pv,ev,e,h.below hb⟩
theorem BuiX0.mono(n:Nat)(H:Md.Rw->Prop):Mono (BuiX0 n H):=fun _ _ _ hb ⟨ev,h⟩=>⟨ev,h.below hb⟩
theorem BuiX1.mono(n:Nat)(H:Md.Rw->Prop):Mono (BuiX1 n H):=fun _ _ _ hb ⟨pv,ev,e,h⟩=>⟨pv,ev,e,h.below hb⟩
theorem alw{w:World}{n:Nat}{H:Md.Rw->Prop}{pv pv':Value}{ev ev':Int}(h:BuiK w n H pv ev)(h':BuiK w n H pv' ev'):BuiK w n H pv ev':=by
 rcases h with⟨h1,h2,E0,h3,h4⟩|⟨g,E,Lf,h1,h2,h3,h4,h5⟩
 ·rcases h' with⟨_,g2,_⟩|⟨_,E',Lf',_,_,_,g4,g5⟩
  ·exact .inl ⟨h1,g2,E0,h3,h4⟩
  ·exact(aoe g4 h3 (fun y hy=>(g5 y hy).trans (h4 y hy).symm)).elim
 ·rcases h' with⟨_,_,E0,g3,g4⟩|⟨_,_,_,_,g2,_⟩
  ·exact(aoe h4 g3 (fun y hy=>(h5 y hy).trans (g4 y hy).symm)).elim
  ·exact .inr ⟨g,E,Lf,h1,g2,h3,h4,h5⟩
def HLi(n:Nat)(ls:List (List Int))(y:Md.Rw):Prop:=(∀z∈ls,fnR z n=0)\/Hld n ls y
theorem BuiL.k{w':World}{n:Nat}{ls:List (List Int)}{e:Ending}(hl:∀z∈ls,z.length=n+1)(h:BuiL w' n ls e):∃pv ev,e=.returned (.tuple #[pv,.int .i64 ev])/\BuiK w' n (HLi n ls) pv ev:=by
 rcases h with⟨hb,rfl⟩|⟨g,made,twin,low,eqs,rfl,hat,hli,heq,hlo,htw⟩
 ·exact⟨_,_,rfl,.inl ⟨rfl,rfl,errL hl hb⟩⟩
 ·obtain⟨sl,rfl,hsl⟩:=hli;obtain⟨se,rfl,hse⟩:=heq;obtain⟨h1,_,h3⟩:=afo hl hlo htw;exact⟨_,_,rfl,.inr ⟨g,eqs,low,rfl,rfl,⟨se,sl,.inl hat,hse,hsl⟩,h1,h3⟩⟩
theorem BuiE.k{w':World}{n:Nat}{rows:List (List Int)}{e:Ending}(hl:∀z∈rows,z.length=n+1)(h:BuiE w' n rows e):∃pv ev,e=.returned (.tuple #[pv,.int .i64 ev])/\BuiK w' n (Cls n rows) pv ev:=by
 rcases h with⟨hb,rfl⟩|⟨g,made,twin,low,eqs,rfl,hat,heq,hli,hlo,htw⟩
 ·exact⟨_,_,rfl,.inl ⟨rfl,rfl,errE hl hb⟩⟩
 ·obtain⟨sl,rfl,hsl⟩:=hli;obtain⟨se,rfl,hse⟩:=heq;obtain⟨h1,h2⟩:=alu hl hlo htw;exact⟨_,_,rfl,.inr ⟨g,low,eqs,rfl,rfl,⟨se,sl,.inr hat,hse,hsl⟩,h1,h2⟩⟩
theorem aj4:Has Tryz.prog 61:=by unfold Has;kernel_rfl
section
variable {dst:Option Tmp} {ty:TypeId} {pos:String} {after:Array Edge} {guard:Option (Nat×Bool)} {a:Act} {w:World} {ats:Array TypeId} {i j:Nat}
theorem ag3{p:Addr}(hp:a.eval (.tmp i)=.pointer (some p)):
  Does Tryz.prog {dst,op:=.nilCheck (.tmp i),type:=ty,pos,after,guard} a.eval w fun v' w'=>Below w.heap.size w w'/\Eqs (.pointer (some p)) v' w':=by
 have e:(execOp a.eval {dst,op:=.nilCheck (.tmp i),type:=ty,pos,after,guard}).run Tryz.prog w=.ok (.value (.pointer (some p))) w:=by
  simp only[execOp,hp];go_simp
 refine⟨?_⟩;unfold Turns;rw[e];exact⟨Below.refl _ _,rfl⟩
theorem aj5{g:Nat}(hp:a.eval (.tmp i)=.pointer (some ⟨g,0,none⟩)):
  Does Tryz.prog {dst,op:=.fieldAddr 81 (.tmp i) 0,type:=ty,pos,after,guard} a.eval w fun v' w'=>Below w.heap.size w w'/\Eqs (.pointer (some ⟨g,0,none⟩)) v' w':=by
 have hf:∀w:World,(Instr.fieldAt 81 (.pointer (some ⟨g,0,none⟩)) 0).run Tryz.prog w=.ok (.pointer (some ⟨g,0,none⟩)) w:=fun w=>by go_simp
 refine⟨?_⟩;unfold Turns;simp only[execOp,hp];simp[hf];exact⟨Below.refl _ _,rfl⟩
theorem ag4{g:Nat}{z:Int}(hp:a.eval (.tmp i)=.pointer (some ⟨g,0,none⟩))(h0:w.cell? ⟨g,0,none⟩=some (.int .i64 z)):
  Does Tryz.prog {dst,op:=.load 3 (.tmp i),type:=ty,pos,after,guard} a.eval w fun v' w'=>Below w.heap.size w w'/\Eqs (.int .i64 z) v' w':=by
 refine aa3 (v:=.int .i64 z) ?_ ⟨Below.refl _ _,rfl⟩;rw[hp];go_simp
theorem a3s{g n:Nat}{se sl:Value}(h1:a.eval (.tmp i)=.pointer (some ⟨g,0,none⟩))(h:SpanEL w g n se sl):
  Does Tryz.prog {dst,op:=.call {callee:=.value (.func 45),args:=#[.tmp i],argTypes:=ats},type:=ty,pos,after,guard} a.eval w fun v w'=>Below w.heap.size w w'/\Eqs sl v w':=
 aah as9 #[_] (by simp[h1]) ((adt h).mono fun e w' ⟨he,hb⟩=>⟨_,he,hb,rfl⟩)
theorem a3t{g n:Nat}{se sl:Value}(h1:a.eval (.tmp i)=.pointer (some ⟨g,0,none⟩))(h:SpanEL w g n se sl):
  Does Tryz.prog {dst,op:=.call {callee:=.value (.func 43),args:=#[.tmp i],argTypes:=ats},type:=ty,pos,after,guard} a.eval w fun v w'=>Below w.heap.size w w'/\Eqs se v w':=
 aah ay6 #[_] (by simp[h1]) ((aff h).mono fun e w' ⟨he,hb⟩=>⟨_,he,hb,rfl⟩)
theorem a3u{rows:List (List Int)}{L:Nat}(h:CatS rows L (a.eval (.tmp i)) w):
  Does Tryz.prog {dst,op:=.makeInterface 75 (.tmp i),type:=ty,pos,after,guard} a.eval w fun v w'=>Below w.heap.size w w'/\LiS rows L v w':=by
 have e:(execOp a.eval {dst,op:=.makeInterface 75 (.tmp i),type:=ty,pos,after,guard}).run Tryz.prog w=.ok (.value (.iface 75 (a.eval (.tmp i)))) w:=by
  simp only[execOp];go_simp
 refine⟨?_⟩;unfold Turns;rw[e];exact⟨Below.refl _ _,_,rfl,h⟩
theorem a3v{rows:List (List Int)}{L:Nat}(h:CatS rows L (a.eval (.tmp i)) w):
  Does Tryz.prog {dst,op:=.makeInterface 72 (.tmp i),type:=ty,pos,after,guard} a.eval w fun v w'=>Below w.heap.size w w'/\EqS rows L v w':=by
 have e:(execOp a.eval {dst,op:=.makeInterface 72 (.tmp i),type:=ty,pos,after,guard}).run Tryz.prog w=.ok (.value (.iface 72 (a.eval (.tmp i)))) w:=by
  simp only[execOp];go_simp
 refine⟨?_⟩;unfold Turns;rw[e];exact⟨Below.refl _ _,_,rfl,h⟩
theorem awh{n:Nat}{H:Md.Rw->Prop}(h:BuiV n H (a.eval (.tmp i)) w):Does Tryz.prog {dst,op:=.extract (.tmp i) 0,type:=ty,pos,after,guard} a.eval w fun v w'=>Below w.heap.size w w'/\BuiX0 n H v w':=by
 obtain⟨pv,ev,e,hk⟩:=h;have e1:(execOp a.eval {dst,op:=.extract (.tmp i) 0,type:=ty,pos,after,guard}).run Tryz.prog w=.ok (.value pv) w:=by
  simp only[execOp,e];go_simp
 refine⟨?_⟩;unfold Turns;rw[e1];exact⟨Below.refl _ _,ev,hk⟩
theorem awi{n:Nat}{H:Md.Rw->Prop}(h:BuiV n H (a.eval (.tmp i)) w):Does Tryz.prog {dst,op:=.extract (.tmp i) 1,type:=ty,pos,after,guard} a.eval w fun v w'=>Below w.heap.size w w'/\BuiX1 n H v w':=by
 obtain⟨pv,ev,e,hk⟩:=h;have e1:(execOp a.eval {dst,op:=.extract (.tmp i) 1,type:=ty,pos,after,guard}).run Tryz.prog w=.ok (.value (.int .i64 ev)) w:=by
  simp only[execOp,e];go_simp
 refine⟨?_⟩;unfold Turns;rw[e1];exact⟨Below.refl _ _,pv,ev,rfl,hk⟩
theorem awj{ls:List (List Int)}{L n:Nat}(h1:a.eval (.tmp i)=.int .i64 (n:Int))(h:LiS ls L (a.eval (.tmp j)) w)(hs:Shaped ls ((n+1:Nat):Int))(hn:n<=16)(hL:L<=1510000):
  Does Tryz.prog {dst,op:=.call {callee:=.value (.func 61),args:=#[.tmp i,.tmp j],argTypes:=ats},type:=ty,pos,after,guard} a.eval w fun v w'=>Below w.heap.size w w'/\BuiV n (HLi n ls) v w':=by
 obtain⟨s,e,h2⟩:=h;refine aah aj4 #[_,_] (by simp[h1,e]) ((afw w s ls L n h2 hs hn hL).mono fun e w' ⟨h3,hb⟩=>?_);obtain⟨pv,ev,rfl,hk⟩:=h3.k (fun z hz=>by have:=hs.2.2.2 z hz;omega);exact⟨_,rfl,hb,pv,ev,rfl,hk⟩
theorem awk{ls:List (List Int)}{L n:Nat}(h1:a.eval (.tmp i)=.int .i64 (n:Int))(h:EqS ls L (a.eval (.tmp j)) w)(hs:Shaped ls ((n+1:Nat):Int))(hn:n<=16)(hL0:1<=L)(hL:L<=1510000):
  Does Tryz.prog {dst,op:=.call {callee:=.value (.func 61),args:=#[.tmp i,.tmp j],argTypes:=ats},type:=ty,pos,after,guard} a.eval w fun v w'=>Below w.heap.size w w'/\BuiV n (Cls n ls) v w':=by
 obtain⟨s,e,h2⟩:=h;refine aah aj4 #[_,_] (by simp[h1,e]) ((afx w s ls L n h2 hs hn hL0 hL).mono fun e w' ⟨h3,hb⟩=>?_);obtain⟨pv,ev,rfl,hk⟩:=h3.k (fun z hz=>by have:=hs.2.2.2 z hz;omega);exact⟨_,rfl,hb,pv,ev,rfl,hk⟩
end
end Lm
namespace Lm
open Go Go.RowKit Md
theorem ag5(w:World)(g n v:Nat)(se sl:Value)(hS:SpanEL w g n se sl)(hv:v<n):
  Calls Tryz.prog 75 #[.pointer (some ⟨g,0,none⟩),.int .i64 (v:Int)] w fun e w'=>e=.returned (.bool true)/\Below w.heap.size w w':=by
 obtain⟨hgl,c0⟩:=hS.num;have e1:decide ((v:Int)≥0)=true:=by simp
 have e2:decide ((v:Int)<(n:Int))=true:=by simpa using hv
 have hB:Below w.heap.size w w:=Below.refl _ _;clear hS;go_enter Tryz.func75,Tryz.ntmps75
 go_wp2;refine bodyPost_ret (v:=_) (by simp[results,Tryz.results75,go_sem];try rfl) rfl ⟨rfl,hB⟩
theorem aj6(w:World)(g n v:Nat)(se sl:Value)(ao:Option Addr)(cp:Nat)(hS:SpanEL w g n se sl)(hv:v<n)(hn:n<=1000):
  Calls Tryz.prog 71 #[.pointer (some ⟨g,0,none⟩),.int .i64 (v:Int),.slice ao (n+1) cp] w fun e w'=>e=.returned (.bool true)/\Below w.heap.size w w':=by
 have K1:=hide (ag5 w g n v se sl hS hv);obtain⟨hgl,c0⟩:=hS.num;have HC:=hide c0;have hnn:(((n+1:Nat):Int)==IntKind.i64.wrap ((n:Int)+1))=true:=by rw[IntKind.wrap_i64];simp;omega
 clear hS c0;go_enter Tryz.func71,Tryz.ntmps71
 go_wp2_with fail
 refine K1.out.mono ?_;rintro e w1 ⟨rfl,hb1⟩;have HB1:=hide hb1;have c1:=(hb1.cell (p:=⟨g,0,none⟩) hgl).trans HC.out;have hgl1:=Nat.lt_of_lt_of_le hgl hb1.size;clear hb1 K1 hgl HC;go_wp2;refine bodyPost_ret (v:=_) (by simp[results,Tryz.results71,go_sem];try rfl) rfl ⟨rfl,HB1.out⟩
theorem apz:Has Tryz.prog 77:=by unfold Has;kernel_rfl
theorem ap0(w:World)(gb v:Nat)(pv:Value)(row:List Int)(z:Int)(L:Nat)(T:TypeId)(hg:w.heap[gb]? = some (.cells #[.int .i64 (v:Int)] T (0,0)))(hp:IsRow w pv row L)(hz:row[v]? = some z)(hL:L<=400000000):
  Calls Tryz.prog 77 (#[pv] ++ #[.pointer (some ⟨gb,0,none⟩)]) w fun e w'=>e=.returned (.bool (decide (z≠0)))/\Below w.heap.size w w':=by
 obtain⟨hgl,c0,_⟩:=aae hg;obtain⟨ao,cp,rfl,hl⟩:=hp.parts;obtain⟨b,off,ng,x,m,c,rfl,hbl,c1,c2,hw⟩:=hp.cell hz;have hvl:v<row.length:=(List.getElem?_eq_some_iff.1 hz).1;generalize hrl:row.length=rl at *
 have K1:=hide (aer w z L _ hw hL);clear hg hp hz hrl hw;go_enter Tryz.func77,Tryz.ntmps77
 go_wp2_with fail
 refine K1.out.mono ?_;rintro e w1 ⟨rfl,hb1⟩;have HB1:=hide hb1;clear hb1 K1;generalize hbb:decide (z≠0)=bb at *
 go_wp2;refine bodyPost_ret (v:=_) (by simp[results,Tryz.results77,go_sem];try rfl) rfl ⟨by rw[hbb],HB1.out⟩
end Lm
namespace Lm
open Go Go.RowKit Md
def PtsK(w':World)(n:Nat)(pts:List (List Rat))(pv:Value)(ev:Int):Prop:=
 (ShpQ pts n 0=false/\pv=.pointer none/\ev=1) \/
 (ShpQ pts n 0=true/\((pv=.pointer none/\ev=2/\∃E0,BigF n E0/\∀y,Out (n+1) y->(RS (E0.map fnR) y↔(∀z∈pts.map liftZ,fnR z n=0)\/Hld n (pts.map liftZ) y)) \/
  ∃g E Lf,pv=.pointer (some ⟨g,0,none⟩)/\ev=0/\Spn w' g n E Lf/\Kept n E Lf/\(∀l∈Lf,RS ((pts.map liftZ).map fnR) (fnR l))/\∀y,Out (n+1) y->(Hld n Lf y↔(∀z∈pts.map liftZ,fnR z n=0)\/Hld n (pts.map liftZ) y)))
theorem awl{pts:List (List Rat)}{n:Nat}(h:ShpQ pts n 0=true):∀z∈pts.map liftZ,z.length=n+1:=fun z hz=>by
 obtain⟨ps,hp,rfl⟩:=List.mem_map.1 hz;have:=(of_decide_eq_true h).2.2 ps hp;rw[abn];omega
theorem BuiL.spn{w':World}{n:Nat}{ls:List (List Int)}{e:Ending}(hl:∀z∈ls,z.length=n+1)(h:BuiL w' n ls e):
  (e=.returned (.tuple #[.pointer none,.int .i64 2])/\∃E0,BigF n E0/\∀y,Out (n+1) y->(RS (E0.map fnR) y↔(∀z∈ls,fnR z n=0)\/Hld n ls y)) \/
  ∃g E Lf,e=.returned (.tuple #[.pointer (some ⟨g,0,none⟩),.int .i64 0])/\Spn w' g n E Lf/\Kept n E Lf/\(∀l∈Lf,RS (ls.map fnR) (fnR l))/\∀y,Out (n+1) y->(Hld n Lf y↔(∀z∈ls,fnR z n=0)\/Hld n ls y):=by
 rcases h with⟨hb,rfl⟩|⟨g,made,twin,low,eqs,rfl,hat,hli,heq,hlo,htw⟩
 ·exact .inl ⟨rfl,errL hl hb⟩
 ·obtain⟨sl,rfl,hsl⟩:=hli;obtain⟨se,rfl,hse⟩:=heq;obtain⟨h1,h2,h3⟩:=afo hl hlo htw;exact .inr ⟨g,eqs,low,rfl,⟨se,sl,.inl hat,hse,hsl⟩,h1,h2,h3⟩
theorem BuiE.spn{w':World}{n:Nat}{rows:List (List Int)}{e:Ending}(hl:∀z∈rows,z.length=n+1)(h:BuiE w' n rows e):
  (e=.returned (.tuple #[.pointer none,.int .i64 2])/\∃E0,BigF n E0/\∀y,Out (n+1) y->(RS (E0.map fnR) y↔Cls n rows y)) \/
  ∃g E Lf,e=.returned (.tuple #[.pointer (some ⟨g,0,none⟩),.int .i64 0])/\Spn w' g n E Lf/\Kept n E Lf/\∀y,Out (n+1) y->(Hld n Lf y↔Cls n rows y):=by
 rcases h with⟨hb,rfl⟩|⟨g,made,twin,low,eqs,rfl,hat,heq,hli,hlo,htw⟩
 ·exact .inl ⟨rfl,errE hl hb⟩
 ·obtain⟨sl,rfl,hsl⟩:=hli;obtain⟨se,rfl,hse⟩:=heq;obtain⟨h1,h2⟩:=alu hl hlo htw;exact .inr ⟨g,low,eqs,rfl,⟨se,sl,.inr hat,hse,hsl⟩,h1,h2⟩
theorem PtsO.k{w':World}{n:Nat}{pts:List (List Rat)}{e:Ending}(h:PtsO w' n pts e):∃pv ev,e=.returned (.tuple #[pv,.int .i64 ev])/\PtsK w' n pts pv ev:=by
 rcases h with⟨h1,rfl⟩|⟨h1,h2⟩
 ·exact⟨_,_,rfl,.inl ⟨h1,rfl,rfl⟩⟩
 ·rcases h2.spn (awl h1) with⟨rfl,h3⟩|⟨g,E,Lf,rfl,h3⟩
  ·exact⟨_,_,rfl,.inr ⟨h1,.inl ⟨rfl,rfl,h3⟩⟩⟩
  ·exact⟨_,_,rfl,.inr ⟨h1,.inr ⟨g,E,Lf,rfl,rfl,h3⟩⟩⟩
def RowsK(w':World)(n:Nat)(rows:List (List Int))(pv:Value)(ev:Int):Prop:=
 (ShpB rows n 1=false/\pv=.pointer none/\ev=1) \/
 (ShpB rows n 1=true/\((pv=.pointer none/\ev=2/\∃E0,BigF n E0/\∀y,Out (n+1) y->(RS (E0.map fnR) y↔Cls n rows y)) \/
  ∃g E Lf,pv=.pointer (some ⟨g,0,none⟩)/\ev=0/\Spn w' g n E Lf/\Kept n E Lf/\∀y,Out (n+1) y->(Hld n Lf y↔Cls n rows y)))
theorem RowsO.k{w':World}{n:Nat}{rows:List (List Int)}{e:Ending}(h:RowsO w' n rows e):∃pv ev,e=.returned (.tuple #[pv,.int .i64 ev])/\RowsK w' n rows pv ev:=by
 rcases h with⟨h1,rfl⟩|⟨h1,h2⟩
 ·exact⟨_,_,rfl,.inl ⟨h1,rfl,rfl⟩⟩
 ·rcases h2.spn (of_decide_eq_true h1).2.2 with⟨rfl,h3⟩|⟨g,E,Lf,rfl,h3⟩
  ·exact⟨_,_,rfl,.inr ⟨h1,.inl ⟨rfl,rfl,h3⟩⟩⟩
  ·exact⟨_,_,rfl,.inr ⟨h1,.inr ⟨g,E,Lf,rfl,rfl,h3⟩⟩⟩
theorem ard{n:Nat}{x l:List Int}: mk0 n x l=true↔dotN n (fnR l) (fnR x)=0:=by
 unfold mk0;rw[decide_eq_true_iff]
theorem arf{n:Nat}{Lf:List (List Int)}{row:List Int}: Lf.all (mk0 (n+1) row)=true↔Hld n Lf (fnR row):=by
 rw[List.all_eq_true];constructor
 ·intro h l hl;rw[aa1];exact ard.1 (h l hl)
 ·intro h l hl;rw[ard,aa1];exact h l hl
section
end
end Lm
namespace Lm
open Go Go.RowKit Md
theorem FQ.parts{w:World}{e:FQ}(h1:Sl w (.slice e.r.a e.r.m e.r.c) e.zs)(h2:Sl w (.slice e.r.d e.r.k e.r.e) e.ys):(e.w.num.natAbs:Int)<pw (e.r.m+1)/\(e.w.den:Int)<pw (e.r.k+1):=by
 have l1:e.zs.length=e.r.m:=by
  obtain⟨_,_,g,_⟩:=h1;have g:=(Value.slice.injEq .. ▸ g);omega
 have l2:e.ys.length=e.r.k:=by
  obtain⟨_,_,g,_⟩:=h2;have g:=(Value.slice.injEq .. ▸ g);omega
 have b1:=aac h1.parts.2.2.2;have b2:=aac h2.parts.2.2.2;rw[l1]at b1;rw[l2]at b2;have m1:pw (e.r.m+1)=4294967296*pw e.r.m:=rfl;have m2:pw (e.r.k+1)=4294967296*pw e.r.k:=rfl;have p1:=aag e.r.m;have p2:=aag e.r.k;have hp:(e.p.natAbs:Int)=val e.zs:=by
  unfold FQ.p sg;split <;> omega
 by_cases hq:e.q=0
 ·have hw:e.w=0:=by
   unfold FQ.w;rw[hq,Rat.divInt_zero]
  rw[hw];refine⟨?_,?_⟩
  ·show((0:Int).natAbs:Int)<_;omega
  ·show((1:Nat):Int)<_;omega
 ·obtain⟨h3,h4⟩:=aes (z:=e.p) hq;have hq2:(e.q.natAbs:Int)=val e.ys:=by
   unfold FQ.q;omega
  have h5:e.w=Rat.divInt e.p e.q:=rfl;rw[<-h5]at h3 h4;exact⟨by omega,by omega⟩
def denQ:List FQ->Nat
 | []=>0
 |e::es=>e.r.k+1+denQ es
theorem awm(es:List FQ)(k:Nat):denQ (es.take k)<=denQ es:=by
 induction es generalizing k with
 |nil=>simp[denQ]
 |cons e es ih=>
  cases k with
  |zero=>simp[denQ]
  |succ k=>
   have:=ih k;simp only[List.take_succ_cons,denQ];omega
theorem ay7{es:List FQ}{e:FQ}(h:e∈es):e.r.m+denQ es<=lenFQ es:=by
 have hd:∀es:List FQ,denQ es<=lenFQ es:=fun es=>by
  induction es with
  |nil=>simp[denQ,lenFQ]
  |cons e es ih=>simp only[denQ,lenFQ];omega
 induction es with
 |nil=>cases h
 |cons x es ih=>
  simp only[denQ,lenFQ];rcases List.mem_cons.1 h with rfl|h
  ·have:=hd es;omega
  ·have:=ih h;omega
theorem ay8(es:List FQ):denQ es<=lenFQ es:=by
 induction es with
 |nil=>simp[denQ,lenFQ]
 |cons e es ih=>simp only[denQ,lenFQ];omega
theorem arg:∀(es:List FQ) (z:Int) (A:Nat),(∀e∈es,(e.w.den:Int)<pw (e.r.k+1))->(z.natAbs:Int)<pw A->((wOf z (es.map FQ.w)).natAbs:Int)<pw (A+denQ es)
 | [],z,A,_,h=>by simpa[wOf,denQ]using h
 |e::es,z,A,hr,h=>by
  have h1:=aq5 z e.w;have h2:=hr e (List.mem_cons_self ..);have h3:((((z:Rat)*e.w).den:Int).natAbs:Int)<pw (e.r.k+1):=by omega
  have h4:=arg es (z*(((z:Rat)*e.w).den:Int)) (A+(e.r.k+1)) (fun r hr'=>hr r (List.mem_cons_of_mem _ hr')) (aez h h3);rw[show A+denQ (e::es)=A+(e.r.k+1)+denQ es by simp only[denQ];omega];exact h4
theorem ay9{es:List FQ}(h:∀e∈es,(e.w.num.natAbs:Int)<pw (e.r.m+1)/\(e.w.den:Int)<pw (e.r.k+1)):(∀k,((wOf 1 ((es.map FQ.w).take k)).natAbs:Int)<pw (lenFQ es+3))/\∀z∈liftZ (es.map FQ.w),(z.natAbs:Int)<pw (lenFQ es+3):=by
 have hw:∀k,((wOf 1 ((es.map FQ.w).take k)).natAbs:Int)<pw (1+denQ es):=fun k=>by
  rw[<-List.map_take];have h1:=arg (es.take k) 1 1 (fun e he=>(h e (List.mem_of_mem_take he)).2) (by decide);have h2:pw (1+denQ (es.take k))<=pw (1+denQ es):=aap (by have:=awm es k;omega);omega
 have hl:=ay8 es;refine⟨fun k=>?_,fun z hz=>?_⟩
 ·have h1:=hw k;have h2:pw (1+denQ es)<=pw (lenFQ es+3):=aap (by omega);omega
 ·have h0:=hw (es.map FQ.w).length;rw[List.take_length]at h0;rcases List.mem_append.1 hz with hz|hz
  ·obtain⟨r,hr,rfl⟩:=List.mem_map.1 hz;obtain⟨e,he,rfl⟩:=List.mem_map.1 hr;obtain⟨h1,h2⟩:=h e he;have hm:=ay7 he;have hn:((((wOf 1 (es.map FQ.w):Int):Rat)*e.w).num.natAbs:Int)<pw (1+denQ es+(e.r.m+1)):=by
    have e1:((wOf 1 (es.map FQ.w):Int):Rat)*e.w=Rat.divInt (wOf 1 (es.map FQ.w)*e.w.num) (1*e.w.den):=by
     conv=>lhs;rw[alo ((wOf 1 (es.map FQ.w):Int):Rat),alo e.w,Rat.divInt_mul_divInt]
     simp
    obtain⟨h3,_⟩:=aes (z:=wOf 1 (es.map FQ.w)*e.w.num) (u:=1*e.w.den) (by have:=ahp e.w;omega);rw[<-e1]at h3;have h4:=aez h0 h1;omega
   have h5:pw (1+denQ es+(e.r.m+1))<=pw (lenFQ es+3):=aap (by omega);omega
  ·obtain rfl:=List.mem_singleton.1 hz;have h2:pw (1+denQ es)<=pw (lenFQ es+3):=aap (by omega);rw[Int.natAbs_neg];omega
theorem aj7(w:World)(v:Value)(fss:List (List FQ))(n:Nat)(h:RfM w v fss)(hb:lenFM fss<=1048576)(hn:n<=9223372036854775807):
  Calls Tryz.prog 35 #[.int .i64 (n:Int),v] w fun e w'=>PtsO w' n (zsF fss) e/\Below w.heap.size w w':=by
 refine air w v (zsF fss) 1048577 1048579 n (h.isQM (by omega)) hn (by omega) (by omega) (by omega) (fun ps hps _=>?_);obtain⟨es,hes,rfl⟩:=List.mem_map.1 hps;obtain⟨vs,h1,h2⟩:=h;obtain⟨i,hi⟩:=List.mem_iff_getElem?.1 hes;have hil:=(List.getElem?_eq_some_iff.1 hi).1;obtain⟨_,_,_,_,_,hvl,_⟩:=h1;obtain⟨u,hu⟩:∃u,vs[i]? = some u:=⟨_,List.getElem?_eq_getElem (by omega)⟩;have hR:=h2 i u es hu hi;have hm:=alv hes;obtain⟨k1,k2⟩:=ay9 (es:=es) (fun e he=>FQ.parts (hR.s1 e he) (hR.s2 e he));have hp:pw (lenFQ es+3)<=pw 1048579:=aap (by omega);exact⟨fun k=>by have:=k1 k;omega,fun z hz=>by have:=k2 z hz;omega⟩
theorem aok(w:World)(v:Value)(K more:Int)(hK:K<0):
  Calls Tryz.prog 80 #[.int .i64 K,v,.int .i64 more] w fun e w'=>e=.returned (.bool false)/\Below w.heap.size w w':=by
 have hb1:=hAl w (.cells #[.int .i64 K] 3);have hb2:=hAl (w.alloc (.cells #[.int .i64 K] 3)) (.cells #[.int .i64 more] 3);have HB:=hide (hb1.trans (hb2.mono hb1.size));clear hb1 hb2;go_enter Tryz.func80,Tryz.ntmps80
 go_wp2;refine bodyPost_ret (v:=_) (by simp[results,Tryz.results80,go_sem];try rfl) rfl ⟨rfl,HB.out⟩
theorem aol(w:World)(v:Value)(K more:Int)(hK:K<0):
  Calls Tryz.prog 81 #[.int .i64 K,v,.int .i64 more] w fun e w'=>e=.returned (.bool false)/\Below w.heap.size w w':=by
 have hb1:=hAl w (.cells #[.int .i64 K] 3);have hb2:=hAl (w.alloc (.cells #[.int .i64 K] 3)) (.cells #[.int .i64 more] 3);have HB:=hide (hb1.trans (hb2.mono hb1.size));clear hb1 hb2;go_enter Tryz.func81,Tryz.ntmps81
 go_wp2;refine bodyPost_ret (v:=_) (by simp[results,Tryz.results81,go_sem];try rfl) rfl ⟨rfl,HB.out⟩
theorem ap1(w:World)(v:Value)(K:Int)(hK:K<0):
  Calls Tryz.prog 35 #[.int .i64 K,v] w fun e w'=>e=.returned (.tuple #[.pointer none,.int .i64 1])/\Below w.heap.size w w':=by
 have K1:=hide (aok w v K 0 hK);go_enter Tryz.func35,Tryz.ntmps35
 go_wp2_with fail
 refine K1.out.mono ?_;rintro e w1 ⟨rfl,hb⟩;have HB:=hide hb;clear hb K1;go_wp2;refine bodyPost_ret (v:=_) (by simp[results,Tryz.results35,go_sem];try rfl) rfl ⟨rfl,HB.out⟩
theorem awn(w:World)(v:Value)(K:Int)(hK:K<0):
  Calls Tryz.prog 36 #[.int .i64 K,v] w fun e w'=>e=.returned (.tuple #[.pointer none,.int .i64 1])/\Below w.heap.size w w':=by
 have K1:=hide (aol w v K 1 hK);go_enter Tryz.func36,Tryz.ntmps36
 go_wp2_with fail
 refine K1.out.mono ?_;rintro e w1 ⟨rfl,hb⟩;have HB:=hide hb;clear hb K1;go_wp2;refine bodyPost_ret (v:=_) (by simp[results,Tryz.results36,go_sem];try rfl) rfl ⟨rfl,HB.out⟩
def AloO(w:World)(K:Int)(pv:Value):Prop:=pv=.pointer none\/∃g n E Lf,K=((n:Nat):Int)/\n<=16/\pv=.pointer (some ⟨g,0,none⟩)/\Spn w g n E Lf/\Kept n E Lf
theorem AloO.below{w w':World}{K:Int}{pv:Value}(h:AloO w K pv)(hb:Below w.heap.size w w'):AloO w' K pv:=by
 rcases h with h|⟨g,n,E,Lf,h1,h2,h3,h4,h5⟩
 ·exact .inl h
 ·exact .inr ⟨g,n,E,Lf,h1,h2,h3,h4.below hb,h5⟩
theorem spointsI(w:World)(v:Value)(fss:List (List FQ))(K:Int)(h:RfM w v fss)(hb:lenFM fss<=1048576)(hn:K<=9223372036854775807):
  Calls Tryz.prog 35 #[.int .i64 K,v] w fun e w'=>∃pv ev,e=.returned (.tuple #[pv,.int .i64 ev])/\AloO w' K pv/\Below w.heap.size w w':=by
 by_cases hK:K<0
 ·refine(ap1 w v K hK).mono ?_;rintro e w' ⟨rfl,hb⟩;exact⟨_,_,rfl,.inl rfl,hb⟩
 ·obtain⟨n,rfl⟩:∃n:Nat,K=n:=⟨K.toNat,by omega⟩;refine(aj7 w v fss n h hb (by omega)).mono ?_;rintro e w' ⟨ho,hb⟩;obtain⟨pv,ev,rfl,hk⟩:=ho.k;refine⟨pv,ev,rfl,?_,hb⟩;rcases hk with⟨_,rfl,_⟩|⟨hs,⟨rfl,_⟩|⟨g,E,Lf,rfl,_,h1,h2,_⟩⟩
  ·exact .inl rfl
  ·exact .inl rfl
  ·exact .inr ⟨g,n,E,Lf,rfl,(of_decide_eq_true hs).1,rfl,h1,h2⟩
theorem srowsI(w:World)(v:Value)(rows:List (List Int))(K:Int)(h:IsM w v rows 1048577)(hn:K<=9223372036854775807):
  Calls Tryz.prog 36 #[.int .i64 K,v] w fun e w'=>∃pv ev,e=.returned (.tuple #[pv,.int .i64 ev])/\AloO w' K pv/\Below w.heap.size w w':=by
 by_cases hK:K<0
 ·refine(awn w v K hK).mono ?_;rintro e w' ⟨rfl,hb⟩;exact⟨_,_,rfl,.inl rfl,hb⟩
 ·obtain⟨n,rfl⟩:∃n:Nat,K=n:=⟨K.toNat,by omega⟩;refine(av5 w v rows 1048577 n h (by omega) (by omega) (by omega)).mono ?_;rintro e w' ⟨ho,hb⟩;obtain⟨pv,ev,rfl,hk⟩:=ho.k;refine⟨pv,ev,rfl,?_,hb⟩;rcases hk with⟨_,rfl,_⟩|⟨hs,⟨rfl,_⟩|⟨g,E,Lf,rfl,_,h1,h2,_⟩⟩
  ·exact .inl rfl
  ·exact .inl rfl
  ·exact .inr ⟨g,n,E,Lf,rfl,(of_decide_eq_true hs).1,rfl,h1,h2⟩
theorem arh(w:World):RfM w (.slice none 0 0) []:=⟨[],⟨_,_,rfl,Nat.le_refl _,by decide,rfl,.inl rfl⟩,fun i u z hu=>by simp at hu⟩
theorem semptyI(w:World)(K:Int)(hn:K<=9223372036854775807):
  Calls Tryz.prog 42 #[.int .i64 K] w fun e w'=>∃pv ev,e=.returned (.tuple #[pv,.int .i64 ev])/\AloO w' K pv/\Below w.heap.size w w':=by
 have K1:=hide (spointsI w _ [] K (arh w) (by decide) hn);go_enter Tryz.func42,Tryz.ntmps42
 go_wp2_with fail
 refine K1.out.mono ?_;rintro e w1 ⟨pv,ev,rfl,ha,hb⟩;have HA:=hide (And.intro ha hb);clear ha hb K1;go_wp2;refine bodyPost_ret (v:=_) (by simp[results,Tryz.results42,go_sem];try rfl) rfl ⟨_,_,rfl,HA.out⟩
theorem sallI(w:World)(K:Int)(hn:K<=9223372036854775807):
  Calls Tryz.prog 41 #[.int .i64 K] w fun e w'=>∃pv ev,e=.returned (.tuple #[pv,.int .i64 ev])/\AloO w' K pv/\Below w.heap.size w w':=by
 have K1:=hide (srowsI w _ [] K (ajb w none 1048577) hn);go_enter Tryz.func41,Tryz.ntmps41
 go_wp2_with fail
 refine K1.out.mono ?_;rintro e w1 ⟨pv,ev,rfl,ha,hb⟩;have HA:=hide (And.intro ha hb);clear ha hb K1;go_wp2;refine bodyPost_ret (v:=_) (by simp[results,Tryz.results41,go_sem];try rfl) rfl ⟨_,_,rfl,HA.out⟩
def InW(w:World)(v:Value)(K:Int):Prop:=∃kind pv rv fss ess,v=.agg #[.int .i64 K,.int .i64 kind,pv,rv]/\RfM w pv fss/\lenFM fss<=1048576/\RwM w rv ess/\lenM ess<=1048576/\K<=9223372036854775807
theorem InW.below{w w':World}{v:Value}{K:Int}(h:InW w v K)(hb:Below w.heap.size w w'):InW w' v K:=by
 obtain⟨kind,pv,rv,fss,ess,e,h1,h2,h3,h4,h5⟩:=h;exact⟨kind,pv,rv,fss,ess,e,h1.below hb,h2,h3.below hb,h4,h5⟩
theorem ata(w:World)(v:Value)(K:Int)(h:InW w v K):
  Calls Tryz.prog 9 #[v] w fun e w'=>∃pv,e=.returned pv/\AloO w' K pv/\Below w.heap.size w w':=by
 obtain⟨kind,pv,rv,fss,ess,rfl,h1,h2,h3,h4,h5⟩:=h;obtain⟨ap,cp,hp,_⟩:=h1.parts;obtain⟨ar,cr,hr,_⟩:=h3.parts;subst hp hr;have hb:=hAl w (.cells #[.int .i64 K,.int .i64 kind,.slice ap fss.length cp,.slice ar ess.length cr] 25);have KP:=hide (spointsI _ _ fss K (h1.below hb) h2 h5);have KR:=hide (srowsI _ _ (zsM ess) K ((h3.below hb).isM (by omega)) h5);have KA:=hide (sallI (w.alloc (.cells #[.int .i64 K,.int .i64 kind,.slice ap fss.length cp,.slice ar ess.length cr] 25)) K h5);have KE:=hide (semptyI (w.alloc (.cells #[.int .i64 K,.int .i64 kind,.slice ap fss.length cp,.slice ar ess.length cr] 25)) K h5);have HB:=hide hb;generalize fss.length=n1 at *
 generalize ess.length=n2 at *
 clear h1 h2 h3 h4 h5 hb;go_enter Tryz.func9,Tryz.ntmps9
 by_cases k0:kind=0
 ·subst k0;go_wp2_with fail
  refine KP.out.mono ?_;rintro e w1 ⟨pv,ev,rfl,ha,hb⟩;have HA:=hide (And.intro ha (HB.out.trans (hb.mono HB.out.size)));clear ha hb KP KR KA KE;go_wp2;refine bodyPost_ret (v:=_) (by simp[results,Tryz.results9,go_sem];try rfl) rfl ⟨_,rfl,HA.out⟩
 have k0':(kind==0)=false:=by simpa using k0
 by_cases k1:kind=1
 ·subst k1;go_wp2_with fail
  refine KR.out.mono ?_;rintro e w1 ⟨pv,ev,rfl,ha,hb⟩;have HA:=hide (And.intro ha (HB.out.trans (hb.mono HB.out.size)));clear ha hb KP KR KA KE;go_wp2;refine bodyPost_ret (v:=_) (by simp[results,Tryz.results9,go_sem];try rfl) rfl ⟨_,rfl,HA.out⟩
 have k1':(kind==1)=false:=by simpa using k1
 by_cases k2:kind=2
 ·subst k2;go_wp2_with fail
  refine KA.out.mono ?_;rintro e w1 ⟨pv,ev,rfl,ha,hb⟩;have HA:=hide (And.intro ha (HB.out.trans (hb.mono HB.out.size)));clear ha hb KP KR KA KE;go_wp2;refine bodyPost_ret (v:=_) (by simp[results,Tryz.results9,go_sem];try rfl) rfl ⟨_,rfl,HA.out⟩
 have k2':(kind==2)=false:=by simpa using k2
 by_cases k3:kind=3
 ·subst k3;go_wp2_with fail
  refine KE.out.mono ?_;rintro e w1 ⟨pv,ev,rfl,ha,hb⟩;have HA:=hide (And.intro ha (HB.out.trans (hb.mono HB.out.size)));clear ha hb KP KR KA KE;go_wp2;refine bodyPost_ret (v:=_) (by simp[results,Tryz.results9,go_sem];try rfl) rfl ⟨_,rfl,HA.out⟩
 have k3':(kind==3)=false:=by simpa using k3
 clear KP KR KA KE;go_wp2;refine bodyPost_ret (v:=_) (by simp[results,Tryz.results9,go_sem];try rfl) rfl ⟨_,rfl,.inl rfl,HB.out⟩
end Lm
namespace Lm
open Go Go.RowKit Md
theorem BuiK.congr'{w:World}{n:Nat}{H H':Md.Rw->Prop}{pv:Value}{ev:Int}(h:BuiK w n H pv ev)(hh:∀y,Out (n+1) y->(H y↔H' y)):BuiK w n H' pv ev:=by
 rcases h with⟨h1,h2,E0,h3,h4⟩|⟨g,E,Lf,h1,h2,h3,h4,h5⟩
 ·exact .inl ⟨h1,h2,E0,h3,fun y hy=>(h4 y hy).trans (hh y hy)⟩
 ·exact .inr ⟨g,E,Lf,h1,h2,h3,h4,fun y hy=>(h5 y hy).trans (hh y hy)⟩
theorem semptyK(w:World)(n:Nat)(hn:n<=16):
  Calls Tryz.prog 42 #[.int .i64 (n:Int)] w fun e w'=>∃pv ev,e=.returned (.tuple #[pv,.int .i64 ev])/\BuiK w' n (fun _=>True) pv ev/\Below w.heap.size w w':=by
 have K1:=hide (aj7 w _ [] n (arh w) (by decide) (by omega));go_enter Tryz.func42,Tryz.ntmps42
 go_wp2_with fail
 refine K1.out.mono ?_;rintro e w1 ⟨ho,hb⟩;obtain⟨pv,ev,rfl,hk⟩:=ho.k;have hk2:BuiK w1 n (fun _=>True) pv ev:=by
  rcases hk with⟨h0,_⟩|⟨_,⟨h1,h2,E0,h3,h4⟩|⟨g,E,Lf,h1,h2,h3,h4,_,h5⟩⟩
  ·exact absurd h0 (by simp[ShpQ,zsF];omega)
  ·exact .inl ⟨h1,h2,E0,h3,fun y hy=>(h4 y hy).trans ⟨fun _=>trivial,fun _=>.inl (by simp[zsF])⟩⟩
  ·exact .inr ⟨g,E,Lf,h1,h2,h3,h4,fun y hy=>(h5 y hy).trans ⟨fun _=>trivial,fun _=>.inl (by simp[zsF])⟩⟩
 have HA:=hide (And.intro hk2 hb);clear ho hk hk2 hb K1;go_wp2;refine bodyPost_ret (v:=_) (by simp[results,Tryz.results42,go_sem];try rfl) rfl ⟨_,_,rfl,HA.out⟩
def EvyH(n v:Nat)(E:List (List Int))(y:Md.Rw):Prop:=(∃e∈E,fnR e v≠0)\/Cls n E y
theorem azr{v:Nat}{E:List (List Int)}: (E.any fun r=>decide (r[v]?.getD 0≠0))=true↔∃e∈E,fnR e v≠0:=by
 rw[List.any_eq_true];exact⟨fun⟨e,h,h1⟩=>⟨e,h,of_decide_eq_true h1⟩,fun⟨e,h,h1⟩=>⟨e,h,decide_eq_true h1⟩⟩
theorem atb(w:World)(g n v:Nat)(E Lf:List (List Int))(hS:Spn w g n E Lf)(hr:∀l∈E,l.length=n+1)(hn:n<=16)(hv:v<n)(hl1:E.length<=17):
  Calls Tryz.prog 32 #[.pointer (some ⟨g,0,none⟩),.int .i64 (v:Int)] w fun e w'=>∃pv ev,e=.returned (.tuple #[pv,.int .i64 ev])/\BuiK w' n (EvyH n v E) pv ev/\Below w.heap.size w w':=by
 obtain⟨se,sl,hSE,hSe,_⟩:=hS.at_;have hb:=hAl w (.cells #[.int .i64 (v:Int)] 3);have hnw:=heap_alloc_new w (.cells #[.int .i64 (v:Int)] 3);obtain⟨hgb,c0,_⟩:=aae hnw;have hw:=hSe.wide (M:=600) (by omega);have K1:=hide (ag5 _ g n v se sl (hSE.below hb) hv);have K2:Hid (∀w1,Below w.heap.size w w1->_):=(fun w1 hb=>aff (hSE.below hb));have K3:Hid (∀w1,Below w.heap.size w w1->w1.heap[w.heap.size]? = some (.cells #[.int .i64 (v:Int)] 3 (0,0))->_):=(fun w1 hb1 hw1=>af4 w1 se E 600 (hw.below hb1) _ apz #[.pointer (some ⟨w.heap.size,0,none⟩)] (fun r=>decide (r[v]?.getD 0≠0)) (fun W z xv hW hz hx=>ap0 W w.heap.size v xv z _ 600 _ ((hW.block _ (aaa hw1)).trans hw1) hx (by rw[List.getElem?_eq_getElem (by rw[hr z hz];omega)];rfl) (by omega)));have HSH:Hid (Shaped E ((n+1:Nat):Int)):=(show Shaped _ _ from⟨by omega,by omega,by omega,fun r hr'=>by rw[hr r hr']⟩);have HS:=hide hSE;have HX:=hide hw;have HB:=hide hb;have HN:=hide hnw;have hmf:∀(fn:Fn) (first cap:Array Value) (w:World),(Instr.makeFunc fn first cap).run Tryz.prog w=.ok (.func fn first cap) w:=fun _ _ _ _=>rfl
 obtain⟨ae,ce,hee,_⟩:=hw.parts;obtain⟨hgl,cn⟩:=hSE.num;have HC0:=hide cn;subst hee;clear hS hSE hSe hb hnw hw hr cn;go_enter Tryz.func32,Tryz.ntmps32
 go_wp2_with fail
 refine K1.out.mono ?_;rintro e w1 ⟨rfl,hb1⟩;have HB1:=hide (HB.out.trans (hb1.mono HB.out.size));have HN1:=hide ((hb1.block _ (aaa HN.out)).trans HN.out);have c1:=(hb1.cell (p:=⟨w.heap.size,0,none⟩) (aaa HN.out)).trans c0;have K2':=hide (K2.out w1 HB1.out);clear hb1 K1 K2 c0 HN HB;go_wp2_with fail
 refine K2'.out.mono ?_;rintro e w2 ⟨rfl,hb2⟩;have HB2:=hide (HB1.out.trans (hb2.mono HB1.out.size));have HN2:=hide ((hb2.block _ (aaa HN1.out)).trans HN1.out);have K3':=hide (K3.out w2 HB2.out HN2.out);clear hb2 K2' K3;go_wp2_with fail
 refine K3'.out.mono ?_;rintro e w3 ⟨rfl,hb3⟩;have HB3:=hide (HB2.out.trans (hb3.mono HB2.out.size));have hgl3:=Nat.lt_of_lt_of_le hgl HB3.out.size;have hc3:=(HB3.out.cell (p:=⟨g,0,none⟩) hgl).trans HC0.out;have HC3:=hide hc3;have HS3:=hide (HS.out.below HB3.out);have HX3:=hide (HX.out.below HB3.out);clear hb3 K3' HB1 HB2 HN1 HN2 HS HX c1 HC0;obtain⟨bb,hbb⟩:∃bb,(E.any fun r=>decide (r[v]?.getD 0≠0))=bb:=⟨_,rfl⟩;rw[hbb];cases bb with
 |true=>
  have K4:=hide (semptyK w3 n hn);have hT:=azr.1 hbb;have HT:=hide hT;clear hT hbb;go_wp2_with fail
  refine K4.out.mono ?_;rintro e w4 ⟨pv,ev,rfl,hk,hb4⟩;have HK:=hide (hk.congr' (H':=EvyH n v E) (fun y _=>⟨fun _=>.inl HT.out,fun _=>trivial⟩));have HB4:=hide (HB3.out.trans (hb4.mono HB3.out.size));clear hk hb4 K4 hc3;go_wp2;refine bodyPost_ret (v:=_) (by simp[results,Tryz.results32,go_sem];try rfl) rfl ⟨_,_,rfl,HK.out,HB4.out⟩
 |false=>
  have HT:Hid (¬∃e∈E,fnR e v≠0):=(fun h=>by have:=azr.2 h;rw[hbb]at this;exact absurd this (by simp));clear hbb hc3;go_upto_region 5 with fail
  refine adq 10 [21,22,23,24,25,26,27,28,29,30] [Eqs (.pointer (some ⟨g,0,none⟩)),Eqs (.pointer (some ⟨g,0,none⟩)),Eqs (.pointer (some ⟨g,0,none⟩)),Eqs (.int .i64 (n:Int)),Eqs (.pointer (some ⟨g,0,none⟩)),Eqs (.slice ae E.length ce),(EqS E 600),(BuiV n (Cls n E)),(BuiX0 n (Cls n E)),(BuiX1 n (Cls n E))] rfl rfl (by decide) (by kernel_rfl) (by kernel_rfl) (by decide) (by kernel_rfl) ⟨Eqs.mono _,Eqs.mono _,Eqs.mono _,Eqs.mono _,Eqs.mono _,Eqs.mono _,(EqS.mono _ _),(BuiV.mono _ _),(BuiX0.mono _ _),(BuiX1.mono _ _),trivial⟩ ?_ ?_
  ·exact⟨⟨rfl,fun a_ w_ _ hB hR hD=>aal ((hR 0 rfl).trans (aab rfl))⟩,
     ⟨rfl,fun a_ w_ _ hB hR hD=>ag3 (show a_.eval (.tmp 21)=.pointer (some ⟨g,0,none⟩)from hD 0 rfl)⟩,
     ⟨rfl,fun a_ w_ _ hB hR hD=>aj5 (show a_.eval (.tmp 22)=.pointer (some ⟨g,0,none⟩)from hD 1 rfl)⟩,
     ⟨rfl,fun a_ w_ _ hB hR hD=>ag4 (show a_.eval (.tmp 23)=.pointer (some ⟨g,0,none⟩)from hD 2 rfl) ((hB.cell (p:=⟨g,0,none⟩) hgl3).trans HC3.out)⟩,
     ⟨rfl,fun a_ w_ _ hB hR hD=>aal ((hR 0 rfl).trans (aab rfl))⟩,
     ⟨rfl,fun a_ w_ _ hB hR hD=>a3t (show a_.eval (.tmp 25)=.pointer (some ⟨g,0,none⟩)from hD 4 rfl) (HS3.out.below hB)⟩,
     ⟨rfl,fun a_ w_ _ hB hR hD=>a3v (show CatS E 600 (a_.eval (.tmp 26)) w_ from(show a_.eval (.tmp 26)=.slice ae E.length ce from hD 5 rfl)▸HX3.out.below hB)⟩,
     ⟨rfl,fun a_ w_ _ hB hR hD=>awk (show a_.eval (.tmp 24)=.int .i64 (n:Int)from hD 3 rfl) (show(EqS E 600) (a_.eval (.tmp 27)) w_ from hD 6 rfl) HSH.out hn (by omega) (by omega)⟩,
     ⟨rfl,fun a_ w_ _ hB hR hD=>awh (show(BuiV n (Cls n E)) (a_.eval (.tmp 28)) w_ from hD 7 rfl)⟩,
     ⟨rfl,fun a_ w_ _ hB hR hD=>awi (show(BuiV n (Cls n E)) (a_.eval (.tmp 28)) w_ from hD 7 rfl)⟩,
     trivial⟩
  ·intro a' w' hn' hd' hB' hR' hP';have e21:a'.eval (.tmp 21)=.pointer (some ⟨g,0,none⟩):=hP' 0 (by decide);have e22:a'.eval (.tmp 22)=.pointer (some ⟨g,0,none⟩):=hP' 1 (by decide);have e23:a'.eval (.tmp 23)=.pointer (some ⟨g,0,none⟩):=hP' 2 (by decide);have e24:a'.eval (.tmp 24)=.int .i64 (n:Int):=hP' 3 (by decide);have e25:a'.eval (.tmp 25)=.pointer (some ⟨g,0,none⟩):=hP' 4 (by decide);have e26:a'.eval (.tmp 26)=.slice ae E.length ce:=hP' 5 (by decide);obtain⟨u27,e27⟩:∃u,a'.eval (.tmp 27)=u:=⟨_,rfl⟩;obtain⟨u28,e28⟩:∃u,a'.eval (.tmp 28)=u:=⟨_,rfl⟩;obtain⟨u29,e29⟩:∃u,a'.eval (.tmp 29)=u:=⟨_,rfl⟩;have hT0:(BuiX0 n (Cls n E)) (a'.eval (.tmp 29)) w':=hP' 8 (by decide);rw[e29]at hT0;obtain⟨u30,e30⟩:∃u,a'.eval (.tmp 30)=u:=⟨_,rfl⟩;have hT1:(BuiX1 n (Cls n E)) (a'.eval (.tmp 30)) w':=hP' 9 (by decide);rw[e30]at hT1;refine aat hn' hd' hR' (.s16 rfl <| .s4 rfl <| .same rfl <| .new e21 <| .new e22 <| .new e23 <| .new e24 <| .new e25 <| .new e26 <| .new e27 <| .new e28 <| .new e29 <| .new e30 <| .nil) ?_;clear e21 e22 e23 e24 e25 e26 e27 e28 e29 e30;have HB4:=hide (HB3.out.trans (hB'.mono HB3.out.size));obtain⟨ev0,hk0⟩:=hT0;obtain⟨pv1,ev1,rfl,hk1⟩:=hT1;have HK:=hide ((alw hk0 hk1).congr' (H':=EvyH n v E) (fun y _=>⟨fun h=>.inr h,fun h=>h.resolve_left HT.out⟩));clear hk0 hk1 hB' hR' hP' hn' hd';go_wp2;refine bodyPost_ret (v:=_) (by simp[results,Tryz.results32,go_sem];try rfl) rfl ⟨_,_,rfl,HK.out,HB4.out⟩
end Lm
namespace Lm
open Go Go.RowKit Md
theorem PRow.pad{K:Nat}{w:World}{bv n i:Nat}{zs:List Int}{L:Nat}(h:PRow K w bv n i zs L)(hz:∀k z,i<=k->zs[k]? = some z->z=0)(hl:n<=zs.length)(hK:K<=w.heap.size):PRow K w bv n n zs L:=by
 obtain⟨es,B,T,h1,h2,h3,h4,h5⟩:=h;refine⟨es,fun k=>if k<i then B k else w.heap.size,fun k=>if k<i then T k else w.heap.size,h1,h2,fun k e hk he=>?_,fun k e z hk he hz'=>?_,fun k k' hk hk'=>?_⟩
 ·exact absurd (List.getElem?_eq_some_iff.1 he).1 (by omega)
 ·by_cases hki:k<i
  ·simp only[hki,if_true];exact h4 k e z hki he hz'
  ·simp only[hki,if_false];obtain rfl:=h3 k e (by omega) he;obtain rfl:=hz k z (by omega) hz';exact⟨ahq _ w,rfl,Nat.zero_le _,hK,Nat.le_refl _⟩
 ·simp only;by_cases hki:k'<i
  ·rw[if_pos (by omega),if_pos hki];exact h5 k k' hk hki
  ·rw[if_neg hki];by_cases hk2:k<i
   ·rw[if_pos hk2];obtain⟨e,he⟩:∃e,es[k]? = some e:=⟨_,List.getElem?_eq_getElem (by omega)⟩;exact(h4 k e _ hk2 he (List.getElem?_eq_getElem (by omega))).2.2.2.2
   ·rw[if_neg hk2];exact Nat.le_refl _
def unitR(n v:Nat):List Int:=(List.range (n+1)).map fun k=>if k=v then 1 else 0
theorem ac1(n v:Nat):(unitR n v).length=n+1:=by simp[unitR]
theorem ajd{n v k:Nat}(hk:k<n+1):(unitR n v)[k]? = some (if k=v then 1 else 0):=by
 rw[unitR,List.getElem?_map,List.getElem?_range hk];rfl
theorem alx{n v k:Nat}{z:Int}(h:(unitR n v)[k]? = some z):z=if k=v then 1 else 0:=by
 have hk:=(List.getElem?_eq_some_iff.1 h).1;rw[ac1]at hk;rw[ajd hk]at h;exact(Option.some.inj h).symm
theorem ate(w:World)(a0:Option Addr)(m0 c0:Nat)(X:List Value)(h:MCells w (.slice a0 m0 c0) m0 X)(hl:m0<=1000):
  Calls Tryz.prog 76 #[.slice a0 m0 c0] w fun e w'=>∃r,e=.returned r/\w'.ownsRow w.heap.size 39 1 r m0 X/\Below w.heap.size w w':=by
 obtain⟨ao',cap',hv,h1,h2,h3,h4⟩:=id h.1;obtain⟨rfl,_,rfl⟩:=(Value.slice.injEq .. ▸ hv);have hq0:∀(n c:Nat) (w:World),(Go.binOp .eql 75 (.slice none n c) (.slice none 0 0)).run Tryz.prog w=.ok (.bool true) w:=fun n c w=>by kernel_rfl
 have hq1:∀(ad:Addr) (n c:Nat) (w:World),(Go.binOp .eql 75 (.slice (some ad) n c) (.slice none 0 0)).run Tryz.prog w=.ok (.bool false) w:=fun ad n c w=>by kernel_rfl
 cases a0 with
 |none=>
  have hm0:m0=0:=by
   rcases h4 with h4|⟨b,off,e,_⟩
   ·exact h4
   ·cases e
  subst hm0;obtain rfl:X = []:=List.length_eq_zero_iff.1 (by omega);have HO:=hide (World.ownsRow_nil w w.heap.size 39 1);clear h h4 h3;go_enter Tryz.func76,Tryz.ntmps76
  go_wp2;refine bodyPost_ret (v:=_) (by simp[results,Tryz.results76,go_sem];try rfl) rfl ⟨_,rfl,HO.out,Below.refl _ _⟩
 |some ad=>
  have hb0:=hAl w (.cells #[] 39);have hown:=World.ownsRow_made (base:=w.heap.size) (e:=39) (size:=1) w #[] 0 (Nat.le_refl _) (by unfold maxLen;omega) rfl;have hR:=h.below hb0;clear h h4 h3;go_enter Tryz.func76,Tryz.ntmps76
  go_wp2_with (at_builtin;refine ak1 rfl (.tmp 5) (.tmp 6) rfl rfl hown rfl hR (by omega) hb0.size ?_)
  intro v5 w5 hown5 hgrow5;have hb5:Below w.heap.size w w5:=hb0.trans ((Below.refl _ _).grown hgrow5 hb0.size (fun j hj=>(hown.lt j hj).1));obtain⟨va,vc,hv5,_⟩:=Ce.own hown5;have HX:=hide (And.intro hown5 hb5);subst hv5;clear hown hown5 hgrow5 hR hb5 hb0;go_wp2;refine bodyPost_ret (v:=_) (by simp[results,Tryz.results76,go_sem];try rfl) rfl ⟨_,rfl,by simpa using HX.out.1,HX.out.2⟩
theorem atf:Has Tryz.prog 76:=by unfold Has;kernel_rfl
def ClS(w0:World)(rows:List (List Int))(L:Nat):Says:=fun v w=>∃X,w.ownsRow w0.heap.size 39 1 v rows.length X/\X.length=rows.length/\∀(i:Nat) (u:Value) (z:List Int),X[i]? = some u->rows[i]? = some z->IsRow w0 u z L
theorem ClS.mono(w0:World)(rows:List (List Int))(L:Nat):Mono (ClS w0 rows L):=fun _ _ _ hb ⟨X,h1,h2,h3⟩=>⟨X,ab0 h1 hb,h2,h3⟩
def OneS(u:Value):Says:=fun v w=>∃g,v=.slice (some ⟨g,0,none⟩) 1 1/\w.heap[g]? = some (.cells #[u] 39 (0,0))
theorem OneS.mono(u:Value):Mono (OneS u):=fun _ _ _ hb ⟨g,e,h⟩=>⟨g,e,(hb.block _ (aaa h)).trans h⟩
section
variable {dst:Option Tmp} {ty:TypeId} {pos:String} {after:Array Edge} {guard:Option (Nat×Bool)} {a:Act} {w:World} {ats:Array TypeId} {i j:Nat}
theorem awo{w0:World}{ao:Option Addr}{c:Nat}{rows:List (List Int)}{L:Nat}(h1:a.eval (.tmp i)=.slice ao rows.length c)(hM:IsM w0 (.slice ao rows.length c) rows L)(hB:Below w0.heap.size w0 w)(hl:rows.length<=1000):
  Does Tryz.prog {dst,op:=.call {callee:=.value (.func 76),args:=#[.tmp i],argTypes:=ats},type:=ty,pos,after,guard} a.eval w fun v w'=>Below w.heap.size w w'/\ClS w0 rows L v w':=by
 obtain⟨X,hX,hX2⟩:=hM.cellsM;have hXl:X.length=rows.length:=by
  obtain⟨_,_,_,_,_,h,_⟩:=hX.1;omega
 exact aah atf #[_] (by simp[h1]) ((ate w ao rows.length c X (hX.below hB) hl).mono fun e w' ⟨r,he,ho,hb⟩=>⟨r,he,hb,X,⟨ho.1,ho.2.imp id (fun⟨g,cap,cur,e,hg,r⟩=>⟨g,cap,cur,e,Nat.le_trans hB.size hg,r⟩)⟩,hXl,hX2⟩)
theorem a15{ao:Option Addr}{n c:Nat}(h1:a.eval (.tmp i)=.slice ao n c):
  Does Tryz.prog {dst,op:=.buildSlice 75 1 #[(0,.tmp i)],type:=ty,pos,after,guard} a.eval w fun v w'=>Below w.heap.size w w'/\OneS (.slice ao n c) v w':=by
 have hb:=hAl w (.cells #[.slice ao n c] 39);refine ado (v:=.slice (some ⟨w.heap.size,0,none⟩) 1 1) (w':=w.alloc (.cells #[.slice ao n c] 39)) ?_ ⟨hb,_,rfl,heap_alloc_new _ _⟩;simp only[List.map_toArray,List.map_cons,List.map_nil,h1];go_simp
theorem aza{w0:World}{rows:List (List Int)}{z:List Int}{L:Nat}{ao:Option Addr}{n c:Nat}(h1:ClS w0 rows L (a.eval (.tmp i)) w)(h2:OneS (.slice ao n c) (a.eval (.tmp j)) w)(hu:IsRow w0 (.slice ao n c) z L)(hB:Below w0.heap.size w0 w)(hk:rows.length<=1000):
  Does Tryz.prog {dst,op:=.call {callee:=.builtin .append,args:=#[.tmp i,.tmp j],argTypes:=#[75,75]},type:=ty,pos,after,guard} a.eval w fun v' w'=>Below w0.heap.size w w'/\CatS (rows ++ [z]) L v' w':=by
 obtain⟨X,hown,hXl,hX2⟩:=h1;obtain⟨g,h2,hg⟩:=h2;obtain⟨v0,hv0⟩:∃v,a.eval (.tmp i)=v:=⟨_,rfl⟩;rw[hv0]at hown;obtain⟨i0,hi,hz0,hz1,hz2⟩:=info_parts afc;have hnew:∀k x,[Value.slice ao n c][k]? = some x->w.cell? ((⟨g,0,none⟩:Addr).add k)=some x:=fun k x hx=>by
  have hc:∀k,w.cell? ⟨g,k,none⟩ = #[Value.slice ao n c][k]? :=fun k=>cell_of_row w g k _ _ (0,0) hg
  have ha:(⟨g,0,none⟩:Addr).add k=⟨g,k,none⟩:=by unfold Addr.add;split <;> simp_all
  rw[ha,hc];simpa using hx
 have h1u:∀x ∈ [Value.slice ao n c],x.oneCell'=true:=fun x hx=>by
  obtain rfl:=List.mem_singleton.1 hx;rfl
 obtain⟨v',w',hr,ho,hgr,_⟩:=run_append_own (P:=Tryz.prog) w w0.heap.size 75 ty 39 i0 _ 1 24 Tryz.underlying75 hi hz0 hz1 hz2 rfl (by decide) _ rows.length _ hown ⟨g,0,none⟩ 1 1 [.slice ao n c] rfl hnew h1u (by simp[maxLen];omega) (by omega) hB.size;have e:(execOp a.eval {dst,op:=.call {callee:=.builtin .append,args:=#[.tmp i,.tmp j],argTypes:=#[75,75]},type:=ty,pos,after,guard}).run Tryz.prog w=.ok (.value v') w':=by
  simp only[execOp,resolve,invoke,builtin,Sem.run_bind,Sem.run_pure,Result.andThen_ok,List.map_toArray,List.map_cons,List.map_nil,hv0,h2,hr]
 have hbb:Below w0.heap.size w w':=(Below.refl _ _).grown hgr hB.size (fun q hq=>(hown.lt q hq).1);refine⟨?_⟩;unfold Turns;rw[e];refine⟨hbb,?_⟩;have hb2:=hB.trans hbb;exact a1u (rows:=rows) (rows':=[z]) ho hb2 hXl hX2 (fun q x y hx hy=>by
  match q with
  |0=>simp at hx hy;subst hx hy;exact hu
  |q+1=>simp at hx)
end
theorem azb(w:World)(g n v:Nat)(E Lf:List (List Int))(hS:Spn w g n E Lf)(hr:∀l∈Lf,l.length=n+1)(hn:n<=16)(hv:v<n)(hl1:Lf.length<=17):
  Calls Tryz.prog 31 #[.pointer (some ⟨g,0,none⟩),.int .i64 (v:Int)] w fun e w'=>∃pv ev,e=.returned (.tuple #[pv,.int .i64 ev])/\BuiK w' n (HLi n (Lf ++ [unitR n v])) pv ev/\Below w.heap.size w w':=by
 obtain⟨se,sl,hSE,_,hSl⟩:=hS.at_;have K1:=hide (ag5 _ g n v se sl hSE hv);have HS:=hide hSE;have HX:=hide hSl;have HSH:Hid (Shaped (Lf ++ [unitR n v]) ((n+1:Nat):Int)):=(show Shaped _ _ from⟨by omega,by omega,by rw[List.length_append,List.length_singleton];omega,fun r hr'=>by
  rcases List.mem_append.1 hr' with h|h
  ·rw[hr r h]
  ·rw[List.mem_singleton.1 h,ac1]⟩)
 obtain⟨hgl,c0⟩:=hSE.num;obtain⟨al,cl,hel,_⟩:=hSl.parts;subst hel;have HC0:=hide c0;obtain⟨iW,hi,hz0,hz1,hz2⟩:=info_parts infoWz;have hadd:IntKind.i64.wrap ((n:Int)+1)=((n+1:Nat):Int):=by rw[IntKind.wrap_i64];omega
 clear hS hSE hSl hr c0;go_enter Tryz.func31,Tryz.ntmps31
 go_wp2_with fail
 refine K1.out.mono ?_;rintro e wk ⟨rfl,hb1⟩;have c1:=(hb1.cell (p:=⟨g,0,none⟩) hgl).trans HC0.out;have HB0:=hide hb1;have hglk:=Nat.lt_of_lt_of_le hgl hb1.size;clear hb1 K1;go_wp2_with (refine ads _ rfl (.tmp 15) (.tmp 15) 39 rfl 45 iW (.agg #[.bool false,.slice none 0 0]) 2 Tryz.underlying39 hi hz0 hz1 .i64 .i64 _ _ (n+1) (n+1) rfl rfl (by omega) (by omega) (by omega) (by rw[hz2];omega) (by omega) ?_)
 have hA:=hAl wk (.cells (madeCells #[.bool false,.slice none 0 0] ((n+1)*2)) 45);have hnb:=heap_alloc_new wk (.cells (madeCells #[.bool false,.slice none 0 0] ((n+1)*2)) 45);have hflat:madeCells #[.bool false,.slice none 0 0] ((n+1)*2)=(flat (List.replicate (n+1) ⟨false,none,0,0,[]⟩)).toArray:=by
  apply Array.toList_inj.1;exact acy (n+1)
 have hpr:PRow wk.heap.size (wk.alloc (.cells (madeCells #[.bool false,.slice none 0 0] ((n+1)*2)) 45)) wk.heap.size (n+1) v (unitR n v) 1:=PRow.zeros (by rw[hnb,hflat]) (fun k z hk hz=>by
  rw[alx hz,if_neg (by omega)]) hA.size
 have HB:=hide hA;have HPR:=hide hpr;clear hA hnb hflat hpr c1;generalize (wk.alloc (.cells (madeCells #[.bool false,.slice none 0 0] ((n+1)*2)) 45))=wa at *
 have K1:=hide (wofF wa 1 (by decide) (by decide));go_wp2_with fail
 refine K1.out.mono ?_;rintro e w1 ⟨r1,rfl,hF1,hb1⟩;obtain⟨ng1,a1,m1,cc1,rfl⟩:=hF1.agg;obtain⟨⟨ngp,ap,mp,cp',e0,e1⟩,pf0,pf1⟩:=(HPR.out.below hb1).cells (k:=v) (by omega);obtain⟨t1,t2⟩:=HPR.out.put (Nat.le_refl _) hb1 (by omega) (by rw[ajd (by omega),if_pos rfl]) HB.out.size (hF1.fit (L':=1) (by decide));have hsz:((w1.setCell ⟨wk.heap.size,v*2,none⟩ (.bool ng1)).setCell ⟨wk.heap.size,v*2+1,none⟩ (.slice a1 m1 cc1)).heap.size=w1.heap.size:=by simp[World.setCell]
 have t3:=HB.out.trans (t2.below HB.out.size (Nat.le_refl _) (Nat.le_refl _));have hpd:=t1.pad (fun k z hk hz=>by rw[alx hz,if_neg (by omega)]) (by rw[ac1];omega) t3.size;have hfull:=PRow.full (zs:=unitR n v) (by rw[ac1];exact hpd) (by rw[ac1];omega);rw[ac1]at hfull;have HU:=hide (hfull.wide (L':=600) (by omega));have HT2:=hide (HB0.out.trans (t3.mono HB0.out.size));have hlt:v<n+1:=by omega
 clear t1 t2 t3 hpd hfull hF1 hb1 K1 HB HB0 HPR;generalize hWW:((w1.setCell ⟨wk.heap.size,v*2,none⟩ (.bool ng1)).setCell ⟨wk.heap.size,v*2+1,none⟩ (.slice a1 m1 cc1))=W at *
 have HC5:=hide ((HT2.out.cell (p:=⟨g,0,none⟩) hgl).trans HC0.out);have hgl5:=Nat.lt_of_lt_of_le hgl HT2.out.size;have HS5:=hide (HS.out.below HT2.out);have HX5:=hide (HX.out.below HT2.out);have HW:=hide hWW;clear hWW hsz;go_upto_region 5 with fail
 rw[HW.out];refine anj 9 14 (fun j=>j==0||j==1||j==2||j==3||j==4||j==5||j==7||j==9||j==10||j==11||j==12||j==13) [21,22,23,24,25,26,27,28,29,30,31,32,33,34] [Eqs (.pointer (some ⟨g,0,none⟩)),Eqs (.pointer (some ⟨g,0,none⟩)),Eqs (.pointer (some ⟨g,0,none⟩)),Eqs (.int .i64 (n:Int)),Eqs (.pointer (some ⟨g,0,none⟩)),Eqs (.slice al Lf.length cl),(ClS W Lf 600),Eqs (.slice (some ⟨wk.heap.size,0,none⟩) (n+1) (n+1)),(OneS (.slice (some ⟨wk.heap.size,0,none⟩) (n+1) (n+1))),(CatS (Lf ++ [unitR n v]) 600),(LiS (Lf ++ [unitR n v]) 600),(BuiV n (HLi n (Lf ++ [unitR n v]))),(BuiX0 n (HLi n (Lf ++ [unitR n v]))),(BuiX1 n (HLi n (Lf ++ [unitR n v])))] rfl rfl (by decide) (by kernel_rfl) (by kernel_rfl) (by decide) (by kernel_rfl) (by kernel_rfl) ⟨Eqs.mono _,Eqs.mono _,Eqs.mono _,Eqs.mono _,Eqs.mono _,Eqs.mono _,(ClS.mono _ _ _),Eqs.mono _,(OneS.mono _),(CatS.mono _ _),(LiS.mono _ _),(BuiV.mono _ _),(BuiX0.mono _ _),(BuiX1.mono _ _),trivial⟩ ?_ ?_ (by decide) ?_
 ·intro j_ hj_ hk_ hw_ v_ w1_ w2_ hb_ hp_;simp only[Bool.or_eq_true,beq_iff_eq]at hk_;rcases hk_ with((((((((((rfl|rfl)|rfl)|rfl)|rfl)|rfl)|rfl)|rfl)|rfl)|rfl)|rfl)|rfl
  ·exact hp_
  ·exact hp_
  ·exact hp_
  ·exact hp_
  ·exact hp_
  ·exact hp_
  ·exact hp_
  ·exact absurd rfl hj_
  ·exact absurd hw_ (by rw[Bool.not_eq_false];kernel_rfl)
  ·exact absurd hw_ (by rw[Bool.not_eq_false];kernel_rfl)
  ·exact absurd hw_ (by rw[Bool.not_eq_false];kernel_rfl)
  ·exact absurd hw_ (by rw[Bool.not_eq_false];kernel_rfl)
 ·exact⟨⟨rfl,rfl,fun a_ w_ _ hB hR hD=>⟨fun _=>aal ((hR 0 rfl).trans (aab rfl)),fun h=>absurd h (by decide)⟩⟩,
    ⟨rfl,rfl,fun a_ w_ _ hB hR hD=>⟨fun _=>ag3 (show a_.eval (.tmp 21)=.pointer (some ⟨g,0,none⟩)from hD 0 rfl),fun h=>absurd h (by decide)⟩⟩,
    ⟨rfl,rfl,fun a_ w_ _ hB hR hD=>⟨fun _=>aj5 (show a_.eval (.tmp 22)=.pointer (some ⟨g,0,none⟩)from hD 1 rfl),fun h=>absurd h (by decide)⟩⟩,
    ⟨rfl,rfl,fun a_ w_ _ hB hR hD=>⟨fun _=>ag4 (show a_.eval (.tmp 23)=.pointer (some ⟨g,0,none⟩)from hD 2 rfl) ((hB.cell (p:=⟨g,0,none⟩) hgl5).trans HC5.out),fun h=>absurd h (by decide)⟩⟩,
    ⟨rfl,rfl,fun a_ w_ _ hB hR hD=>⟨fun _=>aal ((hR 0 rfl).trans (aab rfl)),fun h=>absurd h (by decide)⟩⟩,
    ⟨rfl,rfl,fun a_ w_ _ hB hR hD=>⟨fun _=>a3s (show a_.eval (.tmp 25)=.pointer (some ⟨g,0,none⟩)from hD 4 rfl) (HS5.out.below hB),fun h=>absurd h (by decide)⟩⟩,
    ⟨rfl,rfl,fun a_ w_ _ hB hR hD=>⟨fun _=>awo (show a_.eval (.tmp 26)=.slice al Lf.length cl from hD 5 rfl) HX5.out hB (by omega),fun h=>absurd h (by decide)⟩⟩,
    ⟨rfl,rfl,fun a_ w_ _ hB hR hD=>⟨fun _=>aal ((hR 6 rfl).trans (aab rfl)),fun h=>absurd h (by decide)⟩⟩,
    ⟨rfl,rfl,fun a_ w_ _ hB hR hD=>⟨fun _=>a15 (show a_.eval (.tmp 28)=.slice (some ⟨wk.heap.size,0,none⟩) (n+1) (n+1)from hD 7 rfl),fun h=>absurd h (by decide)⟩⟩,
    ⟨rfl,rfl,fun a_ w_ _ hB hR hD=>⟨fun h=>absurd rfl h,fun _=>aza (show(ClS W Lf 600) (a_.eval (.tmp 27)) w_ from hD 6 rfl) (show(OneS (.slice (some ⟨wk.heap.size,0,none⟩) (n+1) (n+1))) (a_.eval (.tmp 29)) w_ from hD 8 rfl) HU.out hB (by omega)⟩⟩,
    ⟨rfl,rfl,fun a_ w_ _ hB hR hD=>⟨fun _=>a3u (show(CatS (Lf ++ [unitR n v]) 600) (a_.eval (.tmp 30)) w_ from hD 9 rfl),fun h=>absurd h (by decide)⟩⟩,
    ⟨rfl,rfl,fun a_ w_ _ hB hR hD=>⟨fun _=>awj (show a_.eval (.tmp 24)=.int .i64 (n:Int)from hD 3 rfl) (show(LiS (Lf ++ [unitR n v]) 600) (a_.eval (.tmp 31)) w_ from hD 10 rfl) HSH.out hn (by omega),fun h=>absurd h (by decide)⟩⟩,
    ⟨rfl,rfl,fun a_ w_ _ hB hR hD=>⟨fun _=>awh (show(BuiV n (HLi n (Lf ++ [unitR n v]))) (a_.eval (.tmp 32)) w_ from hD 11 rfl),fun h=>absurd h (by decide)⟩⟩,
    ⟨rfl,rfl,fun a_ w_ _ hB hR hD=>⟨fun _=>awi (show(BuiV n (HLi n (Lf ++ [unitR n v]))) (a_.eval (.tmp 32)) w_ from hD 11 rfl),fun h=>absurd h (by decide)⟩⟩,
    trivial⟩
 ·intro a' w' hn' hd' hB' hR' hP';have e21:a'.eval (.tmp 21)=.pointer (some ⟨g,0,none⟩):=hP' 0 (by decide) rfl;have e22:a'.eval (.tmp 22)=.pointer (some ⟨g,0,none⟩):=hP' 1 (by decide) rfl;have e23:a'.eval (.tmp 23)=.pointer (some ⟨g,0,none⟩):=hP' 2 (by decide) rfl;have e24:a'.eval (.tmp 24)=.int .i64 (n:Int):=hP' 3 (by decide) rfl;have e25:a'.eval (.tmp 25)=.pointer (some ⟨g,0,none⟩):=hP' 4 (by decide) rfl;have e26:a'.eval (.tmp 26)=.slice al Lf.length cl:=hP' 5 (by decide) rfl;obtain⟨u27,e27⟩:∃u,a'.eval (.tmp 27)=u:=⟨_,rfl⟩;have e28:a'.eval (.tmp 28)=.slice (some ⟨wk.heap.size,0,none⟩) (n+1) (n+1):=hP' 7 (by decide) rfl;obtain⟨u29,e29⟩:∃u,a'.eval (.tmp 29)=u:=⟨_,rfl⟩;obtain⟨u30,e30⟩:∃u,a'.eval (.tmp 30)=u:=⟨_,rfl⟩;obtain⟨u31,e31⟩:∃u,a'.eval (.tmp 31)=u:=⟨_,rfl⟩;obtain⟨u32,e32⟩:∃u,a'.eval (.tmp 32)=u:=⟨_,rfl⟩;obtain⟨u33,e33⟩:∃u,a'.eval (.tmp 33)=u:=⟨_,rfl⟩;have hT0:(BuiX0 n (HLi n (Lf ++ [unitR n v]))) (a'.eval (.tmp 33)) w':=hP' 12 (by decide) rfl;rw[e33]at hT0;obtain⟨u34,e34⟩:∃u,a'.eval (.tmp 34)=u:=⟨_,rfl⟩;have hT1:(BuiX1 n (HLi n (Lf ++ [unitR n v]))) (a'.eval (.tmp 34)) w':=hP' 13 (by decide) rfl;rw[e34]at hT1;refine aat hn' hd' hR' (.s16 rfl <| .s4 rfl <| .same rfl <| .new e21 <| .new e22 <| .new e23 <| .new e24 <| .new e25 <| .new e26 <| .new e27 <| .new e28 <| .new e29 <| .new e30 <| .new e31 <| .new e32 <| .new e33 <| .new e34 <| .nil) ?_;clear e21 e22 e23 e24 e25 e26 e27 e28 e29 e30 e31 e32 e33 e34;have HB4:=hide (HT2.out.trans (hB'.mono HT2.out.size));obtain⟨ev0,hk0⟩:=hT0;obtain⟨pv1,ev1,rfl,hk1⟩:=hT1;have HK:=hide (alw hk0 hk1);clear hk0 hk1 hB' hR' hP' hn' hd';go_wp2;refine bodyPost_ret (v:=_) (by simp[results,Tryz.results31,go_sem];try rfl) rfl ⟨_,_,rfl,HK.out,HB4.out⟩
end Lm
namespace Lm
open Go Go.RowKit Md
section
variable {dst:Option Tmp} {ty:TypeId} {pos:String} {after:Array Edge} {guard:Option (Nat×Bool)} {a:Act} {w:World} {i j:Nat}
theorem azc{g k L:Nat}{w0:World}{lw u:Value}{rows:List (List Int)}{z:List Int}{au:Option Addr}{nu cu:Nat}(h1:a.eval (.tmp i)=lw)(hS:LsP w0 w lw k rows L)(h2:a.eval (.tmp j)=.slice (some ⟨g,0,none⟩) 1 1)(hg:w.heap[g]? = some (.cells #[u] 39 (0,0)))(hu:GrS 0 z L u w)(hus:u=.slice au nu cu)(hk:k<=1000):
  Does Tryz.prog {dst,op:=.call {callee:=.builtin .append,args:=#[.tmp i,.tmp j],argTypes:=#[72,72]},type:=ty,pos,after,guard} a.eval w fun v' w'=>LsP w0 w' v' (k+1) (rows ++ [z]) L:=by
 obtain⟨i0,hi,hz0,hz1,hz2⟩:=info_parts afc;have hnew:∀k x,[u][k]? = some x->w.cell? ((⟨g,0,none⟩:Addr).add k)=some x:=fun k x hx=>by
  have hc:∀k,w.cell? ⟨g,k,none⟩ = #[u][k]? :=fun k=>cell_of_row w g k _ _ (0,0) hg
  have ha:(⟨g,0,none⟩:Addr).add k=⟨g,k,none⟩:=by unfold Addr.add;split <;> simp_all
  rw[ha,hc];simpa using hx
 have h1u:∀x ∈ [u],x.oneCell'=true:=fun x hx=>by
  obtain rfl:=List.mem_singleton.1 hx;subst hus;rfl
 obtain⟨hb,hl,vs,hown,hrows⟩:=hS;have hvl:vs.length=k:=by have:=hown.1;simp at this;omega
 obtain⟨v',w',hr,ho,hgr,_⟩:=run_append_own (P:=Tryz.prog) w w0.heap.size 72 ty 39 i0 _ 1 24 Tryz.underlying72 hi hz0 hz1 hz2 rfl (by decide) _ k _ hown ⟨g,0,none⟩ 1 1 [u] rfl hnew h1u (by simp[maxLen];omega) (by omega) hb.size;have e:(execOp a.eval {dst,op:=.call {callee:=.builtin .append,args:=#[.tmp i,.tmp j],argTypes:=#[72,72]},type:=ty,pos,after,guard}).run Tryz.prog w=.ok (.value v') w':=by
  simp only[execOp,resolve,invoke,builtin,Sem.run_bind,Sem.run_pure,Result.andThen_ok,List.map_toArray,List.map_cons,List.map_nil,h1,h2,hr]
 refine⟨?_⟩;unfold Turns;rw[e];refine⟨hb.grown hgr hb.size (fun q hq=>?_),by simp[hl],vs ++ [u],ho,fun i x y hx hy=>?_⟩
 ·rcases hown.2 with⟨rfl,_⟩|⟨g',cap,cur,rfl,hg',_⟩
  ·simp[Value.ownBlock]at hq
  ·simp only[Value.ownBlock,Option.some.injEq]at hq;omega
 ·by_cases hi:i<k
  ·rw[List.getElem?_append_left (by omega)]at hx hy;exact(hrows i x y hx hy).keep hown hgr
  ·rw[List.getElem?_append_right (by omega)]at hx hy;rw[hvl]at hx;rw[hl]at hy
   match hm:i-k with
   |0=>
    rw[hm]at hx hy;simp at hx hy;subst hx hy;exact hu.keep hown hgr
   |m+1=>
    rw[hm]at hx;simp at hx
end
theorem ap2(w:World)(g n v:Nat)(E Lf:List (List Int))(vf:Value)(fs:List Int)(L M:Nat)(hS:Spn w g n E Lf)(hr:∀l∈E,l.length=n+1)(hn:n<=16)(hv:v<n)(hl1:E.length<=17)(hf:IsRow w vf fs L)(hfl:fs.length=n+1)(hL0:32<=L)(hL:L<=20000000)(hM:∀e∈E,∀z∈putZ e v fs,(z.natAbs:Int)<pw M)(hM1:1<=M)(hM2:M<=1510000):
  Calls Tryz.prog 30 #[.pointer (some ⟨g,0,none⟩),.int .i64 (v:Int),vf] w fun e w'=>∃pv ev,e=.returned (.tuple #[pv,.int .i64 ev])/\BuiK w' n (Cls n (E.map fun r=>putZ r v fs)) pv ev/\Below w.heap.size w w':=by
 obtain⟨se,sl,hSE,hSe,_⟩:=hS.at_;obtain⟨af,cf,rfl,_⟩:=hf.parts;rw[hfl]at hf ⊢;have K1:=hide (aj6 w g n v se sl af cf hSE hv (by omega));have K2:Hid (∀w1,Below w.heap.size w w1->_):=(fun w1 hb=>aff (hSE.below hb));have HSH:Hid (Shaped (E.map fun r=>putZ r v fs) ((n+1:Nat):Int)):=(show Shaped _ _ from⟨by omega,by omega,by rw[List.length_map];omega,fun r hr'=>by
  obtain⟨e,he,rfl⟩:=List.mem_map.1 hr'
  rw[abp,hr e he]⟩)
 have HR:=hide hr;have HM:=hide hM;have HS:=hide hSE;have HF:=hide hf;have HFL:=hide hfl;have HX:=hide (hSe.wide (M:=L) (by omega));obtain⟨ae,ce,hee,_⟩:=hSe.parts;obtain⟨m,hm'⟩:∃m,E.length=m:=⟨_,rfl⟩;rw[hm']at hee hl1;have HMM:=hide hm';obtain⟨hgl,cn⟩:=hSE.num;have HC0:=hide cn;subst hee;clear hS hSE hSe hr hM hf hfl hm' cn;go_enter Tryz.func30,Tryz.ntmps30
 go_wp2_with fail
 refine K1.out.mono ?_;rintro e w1 ⟨rfl,hb1⟩;have HB1:=hide hb1;have K2':=hide (K2.out w1 hb1);clear hb1 K1 K2;go_wp2_with fail
 refine K2'.out.mono ?_;rintro e w2 ⟨rfl,hb2⟩;have HB2:=hide (HB1.out.trans (hb2.mono HB1.out.size));clear hb2 K2';go_wp2;go_loopw [8,21] (fun lw iv wr=>∃(k:Nat),iv=.int .i64 k/\k<=m/\LsP w wr lw k ((E.take k).map fun r=>putZ r v fs) M) (fun _ iv _=>m-(intOf iv).toNat)
 case atStart=>exact⟨0,rfl,Nat.zero_le _,HB2.out,rfl,[],World.ownsRow_nil _ _ _ _,fun i u z hu=>by simp at hu⟩
 case round=>
  obtain⟨k,rfl,hk,hst⟩:=hrel;by_cases hlt:k<m
  ·have hlt':(k:Int)<(m:Int):=by omega
   obtain⟨row,hrow⟩:∃r,E[k]? = some r:=⟨_,List.getElem?_eq_getElem (by have:=HMM.out;omega)⟩;obtain⟨b,off,u,rfl,hbl0,hu0,hur⟩:=HX.out.cell hrow;have hbl:=Nat.lt_of_lt_of_le hbl0 hst.1.size;have hu:=(hst.1.cell (p:=⟨b,off+k,none⟩) hbl0).trans hu0;have hrl:=HR.out row (List.mem_of_getElem? hrow);have K:=hide (a01 wr u _ row fs v L (hur.below hst.1) (HF.out.below hst.1) (by rw[hrl,HFL.out]) (by omega) (by omega) hL);have HMF:=hide (HM.out row (List.mem_of_getElem? hrow));obtain⟨au,cu,rfl,_⟩:=hur.parts;have HST:=hide hst;have HGZ:Hid ((E.take (k+1)).map (fun r=>putZ r v fs)=(E.take k).map (fun r=>putZ r v fs) ++ [putZ row v fs]):=(show _=_ by rw[List.take_add_one,hrow];simp);have HLL:Hid ((putZ row v fs).length=n+1):=(show _=_ by rw[abp,hrl]);clear hst hur hrow hu0;rw[hrl]at hu K;clear hrl;go_wp2_with fail
   refine K.out.mono ?_;rintro e w3 ⟨r,rfl,hor,hb3⟩;have hst3:=HST.out.below hb3;have hgs:=(hor.fit HMF.out).grs;obtain⟨bv,rfl,_⟩:=hor;rw[HLL.out]at hgs;have hA3:=hAl w3 (.cells #[.slice (some ⟨bv,0,none⟩) (n+1) (n+1)] 39);have hn3:=heap_alloc_new w3 (.cells #[.slice (some ⟨bv,0,none⟩) (n+1) (n+1)] 39);have hst4:=hst3.below hA3;have hgs4:=GrS.mono _ _ _ _ _ _ hA3 hgs;clear hst3 hgs hA3 hb3 K;rw[HLL.out];go_wp2_with (at_builtin;refine abo rfl (azc (i:=32) (j:=34) rfl hst4 rfl hn3 hgs4 rfl (by omega)) ?_)
   intro v2 w4 hst5;have HS5:=hide hst5;clear hst4 hn3 hgs4 hst5;go_wp2;go_roundw
   case rel=>exact⟨k+1,by go_num,by omega,by rw[HGZ.out,List.map_take];exact HS5.out⟩
   case measure=>simp[intOf];omega
  ·have hlt':decide ((k:Int)<(m:Int))=false:=by simp;omega
   obtain rfl:m=k:=by omega
   rw[List.take_of_length_le (by have:=HMM.out;omega)]at hst;have K:=hide (afx wr _ (E.map fun r=>putZ r v fs) M n hst.isM HSH.out hn hM1 hM2);have HW:=hide hst.1;have cw:=(hst.1.cell (p:=⟨g,0,none⟩) hgl).trans HC0.out;have hglw:=Nat.lt_of_lt_of_le hgl hst.1.size;clear hst;go_wp2_with fail
   refine K.out.mono ?_;rintro e w5 ⟨hB,hb⟩;obtain⟨pv,ev,rfl,hk5⟩:=hB.k (fun z hz=>by have:=HSH.out.2.2.2 z hz;omega);have HB5:=hide (HW.out.trans (hb.mono HW.out.size));have HK:=hide hk5;clear hB hb K hk5;go_wp2;refine bodyPost_ret (v:=_) (by simp[results,Tryz.results30,go_sem];try rfl) rfl ⟨_,_,rfl,HK.out,HB5.out⟩
end Lm
namespace Lm
open Go Go.RowKit Md
theorem XRow.cells{K:Nat}{w:World}{v:Value}{zs:List Int}{L k:Nat}(h:XRow K w v zs L)(hk:k<zs.length):∃g cap,v=.slice (some ⟨g,0,none⟩) zs.length cap/\K<=g/\g<w.heap.size/\(∃x,w.cell? ⟨g,k*2,none⟩=some (.bool x))/\(∃a m c,w.cell? ⟨g,k*2+1,none⟩=some (.slice a m c))/\w.frozen? ⟨g,k*2,none⟩=false/\w.frozen? ⟨g,k*2+1,none⟩=false /\
  ∀(w2:World) (ng:Bool) (a:Option Addr) (m c:Nat) (z:Int),Below w.heap.size w w2->IsW z L (.agg #[.bool ng,.slice a m c]) w2->XRow K ((w2.setCell ⟨g,k*2,none⟩ (.bool ng)).setCell ⟨g,k*2+1,none⟩ (.slice a m c)) v (zs.set k z) L/\Below K w2 ((w2.setCell ⟨g,k*2,none⟩ (.bool ng)).setCell ⟨g,k*2+1,none⟩ (.slice a m c))/\Ru w2 ((w2.setCell ⟨g,k*2,none⟩ (.bool ng)).setCell ⟨g,k*2+1,none⟩ (.slice a m c))/\Tch g w2 ((w2.setCell ⟨g,k*2,none⟩ (.bool ng)).setCell ⟨g,k*2+1,none⟩ (.slice a m c)):=by
 obtain⟨es,h1,h2,⟨rfl,_⟩|⟨g,cap,rfl,hK,hO⟩⟩:=h
 ·subst h1;simp at hk
 ·have hel:es.length=zs.length:=by rw[<-h1];simp
  obtain⟨e,he⟩:∃e,es[k]? = some e:=⟨_,List.getElem?_eq_getElem (by omega)⟩;obtain⟨c1,c2,f1,f2⟩:=hO.cell he;refine⟨g,cap,by rw[hel],hK,hO.lt,⟨_,c1⟩,⟨_,_,_,c2⟩,f1,f2,fun w2 ng a m c z hb hw=>?_⟩;have hO2:=hO.keep (hb.block g hO.lt);obtain⟨ng',a',m',c',xs,e1,hAg,hl⟩:=hw;simp only[Value.agg.injEq,Array.mk.injEq,List.cons.injEq,Value.bool.injEq,Value.slice.injEq]at e1;obtain⟨rfl,⟨rfl,rfl,rfl⟩,_⟩:=e1;have hP:=hO2.put (i:=k) (by omega) ⟨ng,a,m,c,xs⟩;have hR:=akw hO2 (i:=k) (by omega) ⟨ng,a,m,c,xs⟩;have hT:=afb w2 g k ⟨ng,a,m,c,xs⟩;refine⟨⟨es.set k ⟨ng,a,m,c,xs⟩,?_,fun x hx=>?_,.inr ⟨g,cap,by rw[List.length_set],hK,hP⟩⟩,hT.below (Nat.le_trans (Nat.le_of_lt (Nat.lt_of_le_of_lt hK hO.lt)) hb.size) hK,hR,hT⟩
  ·rw[List.map_set,h1];congr 1;exact hAg.worth
  ·rcases List.mem_or_eq_of_mem_set hx with hx|rfl
   ·exact⟨((h2 x hx).1.below hb).ru hR,(h2 x hx).2⟩
   ·exact⟨hAg.sl.ru hR,hl⟩
end Lm
namespace Lm
open Go Go.RowKit Md
def ClE(K:Nat)(w:World)(v:Value)(es:List WE):Prop:=(es = []/\∃ao cap,v=.slice ao 0 cap/\cap<=9223372036854775807)\/∃g cap,v=.slice (some ⟨g,0,none⟩) es.length cap/\K<=g/\OE w g cap es
theorem atg(w:World)(v:Value)(es:List WE)(hR:Rw w v es)(hl:es.length<=1000000000):
  Calls Tryz.prog 72 #[v] w fun e w'=>∃r,e=.returned r/\ClE w.heap.size w' r es/\Below w.heap.size w w':=by
 obtain⟨ao,cap,rfl,c1,c2,c3,c4⟩:=hR.cl;obtain⟨iW,hi,hz0,hz1,hz2⟩:=info_parts infoWz;have hq0:∀(n c:Nat) (w:World),(Go.binOp .eql 39 (.slice none n c) (.slice none 0 0)).run Tryz.prog w=.ok (.bool true) w:=fun n c w=>by kernel_rfl
 have hq1:∀(ad:Addr) (n c:Nat) (w:World),(Go.binOp .eql 39 (.slice (some ad) n c) (.slice none 0 0)).run Tryz.prog w=.ok (.bool false) w:=fun ad n c w=>by kernel_rfl
 cases ao with
 |none=>
  have h0:es.length=0:=by
   rcases c4 with c4|⟨b,off,e,_⟩
   ·exact c4
   ·cases e
  obtain rfl:=List.length_eq_zero_iff.1 h0;clear hR c3 c4 hi hz0 hz1 hz2;go_enter Tryz.func72,Tryz.ntmps72
  go_wp2;refine bodyPost_ret (v:=_) (by simp[results,Tryz.results72,go_sem];try rfl) rfl ⟨_,rfl,.inl ⟨rfl,none,0,rfl,by omega⟩,Below.refl _ _⟩
 |some ad=>
  have hnew:∀j u,(flat es)[j]? = some u->(w.alloc (.cells #[] 45)).cell? (ad.add j)=some u:=by
   intro j u hu;rcases c4 with c4|⟨b,off,e,hlt,hc⟩
   ·rw[List.getElem?_eq_none (by rw[aas];omega)]at hu;cases hu
   ·obtain rfl:=Option.some.inj e;rw[Addr.add_lit];exact((hAl w (.cells #[] 45)).cell (p:=⟨b,off+j,none⟩) hlt).trans (hc j u hu)
  have h1c:∀u∈flat es,u.oneCell'=true:=by
   intro u hu;clear c4 hR hnew c3 hl c1;induction es with
   |nil=>cases hu
   |cons e es ih=>
    simp only[flat,List.mem_cons]at hu;rcases hu with rfl|rfl|hu
    ·rfl
    ·rfl
    ·exact ih hu
  have hb0:=hAl w (.cells #[] 45);have hown:=World.ownsRow_made (base:=w.heap.size) (e:=45) (size:=2) w #[] 0 (Nat.le_refl _) (by unfold maxLen;omega) rfl;clear hR c4;go_enter Tryz.func72,Tryz.ntmps72
  go_wp2_with (at_builtin;refine wpList_append_own _ rfl (.tmp 5) (.tmp 6) 39 rfl w.heap.size 45 iW (.agg #[.bool false,.slice none 0 0]) 2 32 Tryz.underlying39 hi hz0 hz1 hz2 rfl (by decide) _ _ _ rfl hown ad es.length cap (flat es) rfl (aas es) hnew h1c ?c3 ?c4 ?c5 ?_)
  case c3=>unfold maxLen;omega
  case c4=>omega
  case c5=>simp
  intro v5 w5 hown5 hgrow5 _;have hb5:Below w.heap.size w w5:=hb0.trans ((Below.refl _ _).grown hgrow5 hb0.size (fun j hj=>(hown.lt j hj).1));have hX:ClE w.heap.size w5 v5 es:=by
   obtain⟨h1,⟨h2,h3⟩|⟨g,cap',cur,rfl,hg,hh,h3,h4,h5,h6⟩⟩:=hown5
   ·exact .inl ⟨List.length_eq_zero_iff.1 h3,none,0,h2,by omega⟩
   ·exact .inr ⟨g,cap',rfl,hg,cur,hh,h5,h3,by unfold maxLen at h4;omega,h6⟩
  have HX:=hide (And.intro hX hb5);clear hown5 hgrow5 hb5 hX;go_wp2;refine bodyPost_ret (v:=_) (by simp[results,Tryz.results72,go_sem];try rfl) rfl ⟨_,rfl,HX.out.1,HX.out.2⟩
def ImR(w0:World)(zs:List Int)(L:Nat):Says:=fun u w=>∃(g cap:Nat) (es:List WE),u=.slice (some ⟨g,0,none⟩) es.length cap/\w0.heap.size<=g/\OE w g cap es/\es.map WE.z=zs/\∀e∈es,(Sl w0 (.slice e.a e.m e.c) e.zs\/Ow w0.heap.size w (.slice e.a e.m e.c) e.zs)/\e.zs.length<=L
theorem ImR.mono(w0:World)(zs:List Int)(L:Nat):Mono (ImR w0 zs L):=fun _ _ _ hb ⟨g,cap,es,h1,h2,h3,h4,h5⟩=>⟨g,cap,es,h1,h2,h3.keep (hb.block g h3.lt),h4,fun e he=>⟨(h5 e he).1.imp id (fun h=>h.below hb),(h5 e he).2⟩⟩
theorem ImR.is{w0 w:World}{zs:List Int}{L:Nat}{u:Value}(h:ImR w0 zs L u w)(hb:Below w0.heap.size w0 w):IsRow w u zs L:=by
 obtain⟨g,cap,es,rfl,h2,h3,h4,h5⟩:=h;refine⟨es,⟨?_,fun e he=>(h5 e he).1.elim (fun h=>h.below hb) (fun h=>h.sl)⟩,h4,fun e he=>(h5 e he).2⟩;obtain⟨cur,c1,c2,c3,c4,c5⟩:=h3;refine⟨_,cap,rfl,c3,c4,aas es,.inr ⟨g,0,rfl,aaa c1,fun j u hu=>?_⟩⟩;rw[Nat.zero_add,cell_of_row _ _ _ _ _ (0,0) c1];have hj:=(List.getElem?_eq_some_iff.1 hu).1;rw[aas]at hj;rw[<-c5,List.getElem?_take_of_lt hj]at hu;simpa using hu
theorem Ow.keepG{B:Nat}{w w':World}{u v:Value}{zs:List Int}{E:TypeId}{c:Nat->Array Value}(h:Ow B w v zs)(hg:w.grownBy w' u.ownBlock)(hc:∀k,u.ownBlock=some k->w.heap[k]? = some (.cells (c k) E (0,0)))(hE:E≠86):Ow B w' v zs:=by
 obtain⟨ao,cap,hv,h1,h2,h3,h4⟩:=h;refine⟨ao,cap,hv,h1,h2,h3,?_⟩;rcases h4 with h4|⟨k,off,cur,rfl,hB,hh,h5,h6⟩
 ·exact .inl h4
 ·exact .inr ⟨k,off,cur,rfl,hB,(hg.block k (aaa hh) (fun e=>aav (hc k e.symm) hh hE rfl)).trans hh,h5,h6⟩
theorem ImR.keep{K L:Nat}{w0:World}{z:List Int}{u v:Value}{w w':World}{n:Nat}{xs:List Value}(h:ImR w0 z L u w)(hv:w.ownsRow K 39 1 v n xs)(hg:w.grownBy w' v.ownBlock):ImR w0 z L u w':=by
 obtain⟨g,cap,es,h1,h2,h3,h4,h5⟩:=h;obtain⟨c,hc⟩:=agw hv;obtain⟨cur,k1,k2⟩:=id h3;refine⟨g,cap,es,h1,h2,h3.keep (hg.block g (aaa k1) (fun e=>aav (hc g e.symm) k1 (by decide) rfl)),h4,fun e he=>⟨(h5 e he).1.imp id (fun h=>h.keepG hg hc (by decide)),(h5 e he).2⟩⟩
def LsI(w0 wr:World)(v:Value)(k:Nat)(rows:List (List Int))(L:Nat):Prop:=Below w0.heap.size w0 wr/\rows.length=k/\∃vs:List Value,wr.ownsRow w0.heap.size 39 1 v k vs/\∀(i:Nat) (u:Value) (z:List Int),vs[i]? = some u->rows[i]? = some z->ImR w0 z L u wr
theorem LsI.below{w0 wr w':World}{v:Value}{k:Nat}{rows:List (List Int)}{L:Nat}(h:LsI w0 wr v k rows L)(hb:Below wr.heap.size wr w'):LsI w0 w' v k rows L:=by
 obtain⟨h1,h2,vs,h3,h4⟩:=h;exact⟨h1.trans (hb.mono h1.size),h2,vs,ab0 h3 hb,fun i u z a b=>ImR.mono _ _ _ _ _ _ hb (h4 i u z a b)⟩
theorem LsI.isM{w0 wr:World}{v:Value}{k:Nat}{rows:List (List Int)}{L:Nat}(h:LsI w0 wr v k rows L):IsM wr v rows L:=by
 obtain⟨h1,h2,vs,h3,h4⟩:=h;exact⟨vs,by rw[h2];exact Ce.own h3,fun i u z a b=>(h4 i u z a b).is h1⟩
section
variable {dst:Option Tmp} {ty:TypeId} {pos:String} {after:Array Edge} {guard:Option (Nat×Bool)} {a:Act} {w:World} {i j:Nat}
theorem a16{g k L:Nat}{w0:World}{lw u:Value}{rows:List (List Int)}{z:List Int}{au:Option Addr}{nu cu:Nat}(h1:a.eval (.tmp i)=lw)(hS:LsI w0 w lw k rows L)(h2:a.eval (.tmp j)=.slice (some ⟨g,0,none⟩) 1 1)(hg:w.heap[g]? = some (.cells #[u] 39 (0,0)))(hu:ImR w0 z L u w)(hus:u=.slice au nu cu)(hk:k<=1000):
  Does Tryz.prog {dst,op:=.call {callee:=.builtin .append,args:=#[.tmp i,.tmp j],argTypes:=#[75,75]},type:=ty,pos,after,guard} a.eval w fun v' w'=>LsI w0 w' v' (k+1) (rows ++ [z]) L:=by
 obtain⟨i0,hi,hz0,hz1,hz2⟩:=info_parts afc;have hnew:∀k x,[u][k]? = some x->w.cell? ((⟨g,0,none⟩:Addr).add k)=some x:=fun k x hx=>by
  have hc:∀k,w.cell? ⟨g,k,none⟩ = #[u][k]? :=fun k=>cell_of_row w g k _ _ (0,0) hg
  have ha:(⟨g,0,none⟩:Addr).add k=⟨g,k,none⟩:=by unfold Addr.add;split <;> simp_all
  rw[ha,hc];simpa using hx
 have h1u:∀x ∈ [u],x.oneCell'=true:=fun x hx=>by
  obtain rfl:=List.mem_singleton.1 hx;subst hus;rfl
 obtain⟨hb,hl,vs,hown,hrows⟩:=hS;have hvl:vs.length=k:=by have:=hown.1;simp at this;omega
 obtain⟨v',w',hr,ho,hgr,_⟩:=run_append_own (P:=Tryz.prog) w w0.heap.size 75 ty 39 i0 _ 1 24 Tryz.underlying75 hi hz0 hz1 hz2 rfl (by decide) _ k _ hown ⟨g,0,none⟩ 1 1 [u] rfl hnew h1u (by simp[maxLen];omega) (by omega) hb.size;have e:(execOp a.eval {dst,op:=.call {callee:=.builtin .append,args:=#[.tmp i,.tmp j],argTypes:=#[75,75]},type:=ty,pos,after,guard}).run Tryz.prog w=.ok (.value v') w':=by
  simp only[execOp,resolve,invoke,builtin,Sem.run_bind,Sem.run_pure,Result.andThen_ok,List.map_toArray,List.map_cons,List.map_nil,h1,h2,hr]
 refine⟨?_⟩;unfold Turns;rw[e];refine⟨hb.grown hgr hb.size (fun q hq=>?_),by simp[hl],vs ++ [u],ho,fun i x y hx hy=>?_⟩
 ·rcases hown.2 with⟨rfl,_⟩|⟨g',cap,cur,rfl,hg',_⟩
  ·simp[Value.ownBlock]at hq
  ·simp only[Value.ownBlock,Option.some.injEq]at hq;omega
 ·by_cases hi:i<k
  ·rw[List.getElem?_append_left (by omega)]at hx hy;exact(hrows i x y hx hy).keep hown hgr
  ·rw[List.getElem?_append_right (by omega)]at hx hy;rw[hvl]at hx;rw[hl]at hy
   match hm:i-k with
   |0=>
    rw[hm]at hx hy;simp at hx hy;subst hx hy;exact hu.keep hown hgr
   |m+1=>
    rw[hm]at hx;simp at hx
end
theorem ClE.img{w0 w w2:World}{K k L:Nat}{v:Value}{es:List WE}{zs:List Int}(h:ClE K w v es)(hK:w0.heap.size<=K)(h0:∀e∈es,Sl w0 (.slice e.a e.m e.c) e.zs/\e.zs.length<=L)(hz:es.map WE.z=zs)(hk:k<zs.length)(hb:Below w.heap.size w w2):
  ∃g cap,v=.slice (some ⟨g,0,none⟩) zs.length cap/\K<=g/\g<w2.heap.size/\(∃x,w2.cell? ⟨g,k*2,none⟩=some (.bool x))/\(∃a m c,w2.cell? ⟨g,k*2+1,none⟩=some (.slice a m c))/\w2.frozen? ⟨g,k*2,none⟩=false/\w2.frozen? ⟨g,k*2+1,none⟩=false /\
  ∀(ng:Bool) (a:Option Addr) (m c:Nat) (z:Int),FrW w0.heap.size z L (.agg #[.bool ng,.slice a m c]) w2->ImR w0 (zs.set k z) L v ((w2.setCell ⟨g,k*2,none⟩ (.bool ng)).setCell ⟨g,k*2+1,none⟩ (.slice a m c))/\Tch g w2 ((w2.setCell ⟨g,k*2,none⟩ (.bool ng)).setCell ⟨g,k*2+1,none⟩ (.slice a m c)):=by
 have hel:es.length=zs.length:=by rw[<-hz];simp
 rcases h with⟨rfl,_⟩|⟨g,cap,rfl,hKg,hO⟩
 ·simp at hel;omega
 ·have hO2:=hO.keep (hb.block g hO.lt);obtain⟨e,he⟩:∃e,es[k]? = some e:=⟨_,List.getElem?_eq_getElem (by omega)⟩;obtain⟨c1,c2,f1,f2⟩:=hO2.cell he;refine⟨g,cap,by rw[hel],hKg,hO2.lt,⟨_,c1⟩,⟨_,_,_,c2⟩,f1,f2,fun ng a m c z hw=>?_⟩;obtain⟨ng',ao,cap',rs,B,T,e1,hW,hKB,_,hl⟩:=hw;simp only[Value.agg.injEq,Array.mk.injEq,List.cons.injEq,Value.bool.injEq,Value.slice.injEq]at e1;obtain⟨rfl,⟨rfl,rfl,rfl⟩,_⟩:=e1;have hP:=hO2.put (i:=k) (by omega) ⟨ng,a,rs.length,c,rs⟩;have hT:=afb w2 g k ⟨ng,a,rs.length,c,rs⟩;obtain⟨cur,k1,_⟩:=id hO2;refine⟨⟨g,cap,es.set k ⟨ng,a,rs.length,c,rs⟩,by rw[List.length_set],by omega,hP,?_,fun x hx=>?_⟩,hT⟩
  ·rw[List.map_set,hz];congr 1;exact hW.wh.worth
  ·rcases List.mem_or_eq_of_mem_set hx with hx|rfl
   ·exact⟨.inl (h0 x hx).1,(h0 x hx).2⟩
   ·exact⟨.inr ((hW.fr.ow.mono hKB).tch hT k1 (by decide)),hl⟩
end Lm
namespace Lm
open Go Go.RowKit Md
def turnZ(n:Nat)(fs:List Int):List Int:=fs.set n (-(fnR fs n))
def imgZ(n v:Nat)(ts l:List Int):List Int:=l.set v (dotN (n+1) (fnR ts) (fnR l))
theorem azd(w:World)(g n v:Nat)(E Lf:List (List Int))(vf:Value)(fs:List Int)(L M:Nat)(hS:Spn w g n E Lf)(hr:∀l∈Lf,l.length=n+1)(hn:n<=16)(hv:v<n)(hl1:Lf.length<=17)(hf:IsRow w vf fs L)(hfl:fs.length=n+1)(hL0:600<=L)(hL:L<=50000000)(hM:∀l∈Lf,((dotN (n+1) (fnR (turnZ n fs)) (fnR l)).natAbs:Int)<pw M)(hM1:600<=M)(hM2:M<=1510000):
  Calls Tryz.prog 29 #[.pointer (some ⟨g,0,none⟩),.int .i64 (v:Int),vf] w fun e w'=>∃pv ev,e=.returned (.tuple #[pv,.int .i64 ev])/\BuiK w' n (HLi n (Lf.map (imgZ n v (turnZ n fs)))) pv ev/\Below w.heap.size w w':=by
 obtain⟨se,sl,hSE,_,hSl⟩:=hS.at_;obtain⟨af,cf,rfl,_⟩:=hf.parts;obtain⟨bf,off,ngf,xf,mf,cff,rfl,hbf,f0,f1,hwf⟩:=hf.cell (k:=n) (z:=fnR fs n) (acd (by rw[hfl];omega));rw[hfl]at hf ⊢;have K1:=hide (aj6 w g n v se sl (some ⟨bf,off,none⟩) cf hSE hv (by omega));have K2:Hid (∀w1,Below w.heap.size w w1->_):=(fun w1 hb=>ajz w1 (.slice (some ⟨bf,off,none⟩) (n+1) cf) fs L (hf.below hb) (by rw[hfl];omega));have K3:Hid (∀w1,Below w.heap.size w w1->_):=(fun w1 hb=>adt (hSE.below hb));have HSH:Hid (Shaped (Lf.map (imgZ n v (turnZ n fs))) ((n+1:Nat):Int)):=(show Shaped _ _ from⟨by omega,by omega,by rw[List.length_map];omega,fun r hr'=>by
  obtain⟨e,he,rfl⟩:=List.mem_map.1 hr'
  rw[imgZ,List.length_set,hr e he]⟩)
 have HR:=hide hr;have HM:=hide hM;have HFL:=hide hfl;have HTL:Hid ((turnZ n fs).length=n+1):=(show _=_ by rw[turnZ,List.length_set,hfl]);have HX:=hide hSl;have HF0:=hide f0;have HF1:=hide f1;have HWF:=hide hwf;obtain⟨al,cl,hel,_⟩:=hSl.parts;obtain⟨m,hm'⟩:∃m,Lf.length=m:=⟨_,rfl⟩;rw[hm']at hel hl1;have HMM:=hide hm';obtain⟨hgl,cn⟩:=hSE.num;have HC0:=hide cn;subst hel;clear hS hSE hSl hr hM hf hfl hm' cn f0 f1 hwf;go_enter Tryz.func29,Tryz.ntmps29
 go_wp2_with fail
 refine K1.out.mono ?_;rintro e w1 ⟨rfl,hb1⟩;have HB1:=hide hb1;have K2':=hide (K2.out w1 hb1);clear hb1 K1 K2;go_wp2_with fail
 refine K2'.out.mono ?_;rintro e w2 ⟨r,rfl,hx,hb2⟩;obtain⟨g1,cap1,hre,hKg,hg1l,_⟩:=hx.cells (k:=n) (by rw[HFL.out];omega);rw[HFL.out]at hre;subst hre;have HXR:=hide hx;have HB12:=hide hb2;have HB2:=hide (HB1.out.trans (hb2.mono HB1.out.size));have hgl2:=Nat.lt_of_lt_of_le hgl HB2.out.size;have HC2:=hide ((HB2.out.cell (p:=⟨g,0,none⟩) hgl).trans HC0.out);have hbf2:=Nat.lt_of_lt_of_le hbf HB2.out.size;have HF02:=hide ((HB2.out.cell (p:=⟨bf,off+n*2,none⟩) hbf).trans HF0.out);have HF12:=hide ((HB2.out.cell (p:=⟨bf,off+n*2+1,none⟩) hbf).trans HF1.out);have HWF2:=hide (HWF.out.ru (Ru.of_below HB2.out));have hlt:n<n+1:=by omega
 clear hx hb2 K2';go_upto_region 4 with fail
 refine aby 13 [20,21,22,23,24,25,26,27,28,29,30,31,32] [Eqs (.slice (some ⟨g1,0,none⟩) (n+1) cap1),Eqs (.pointer (some ⟨g,0,none⟩)),Eqs (.pointer (some ⟨g,0,none⟩)),Eqs (.pointer (some ⟨g,0,none⟩)),Eqs (.int .i64 (n:Int)),Eqs (.slice (some ⟨bf,off,none⟩) (n+1) cf),Eqs (.pointer (some ⟨g,0,none⟩)),Eqs (.pointer (some ⟨g,0,none⟩)),Eqs (.pointer (some ⟨g,0,none⟩)),Eqs (.int .i64 (n:Int)),Eqs (.pointer (some ⟨bf,off+n*2,none⟩)),(IsW (fnR fs n) L),(FrW w2.heap.size (-(fnR fs n)) L)] rfl rfl (by decide) (by kernel_rfl) (by kernel_rfl) (by decide) (by kernel_rfl) ⟨Eqs.mono _,Eqs.mono _,Eqs.mono _,Eqs.mono _,Eqs.mono _,Eqs.mono _,Eqs.mono _,Eqs.mono _,Eqs.mono _,Eqs.mono _,Eqs.mono _,(Mono.of4 (IsW.mono4 _ _)),(Mono.of4 (FrW.mono4 _ _ _)),trivial⟩ ?_ ?_
 ·exact⟨⟨rfl,fun a_ w_ _ hB hR hD=>aal ((hR 8 rfl).trans (aab rfl))⟩,
    ⟨rfl,fun a_ w_ _ hB hR hD=>aal ((hR 0 rfl).trans (aab rfl))⟩,
    ⟨rfl,fun a_ w_ _ hB hR hD=>ag3 (show a_.eval (.tmp 21)=.pointer (some ⟨g,0,none⟩)from hD 1 rfl)⟩,
    ⟨rfl,fun a_ w_ _ hB hR hD=>aj5 (show a_.eval (.tmp 22)=.pointer (some ⟨g,0,none⟩)from hD 2 rfl)⟩,
    ⟨rfl,fun a_ w_ _ hB hR hD=>ag4 (show a_.eval (.tmp 23)=.pointer (some ⟨g,0,none⟩)from hD 3 rfl) ((hB.cell (p:=⟨g,0,none⟩) hgl2).trans HC2.out)⟩,
    ⟨rfl,fun a_ w_ _ hB hR hD=>aal ((hR 2 rfl).trans (aab rfl))⟩,
    ⟨rfl,fun a_ w_ _ hB hR hD=>aal ((hR 0 rfl).trans (aab rfl))⟩,
    ⟨rfl,fun a_ w_ _ hB hR hD=>ag3 (show a_.eval (.tmp 26)=.pointer (some ⟨g,0,none⟩)from hD 6 rfl)⟩,
    ⟨rfl,fun a_ w_ _ hB hR hD=>aj5 (show a_.eval (.tmp 27)=.pointer (some ⟨g,0,none⟩)from hD 7 rfl)⟩,
    ⟨rfl,fun a_ w_ _ hB hR hD=>ag4 (show a_.eval (.tmp 28)=.pointer (some ⟨g,0,none⟩)from hD 8 rfl) ((hB.cell (p:=⟨g,0,none⟩) hgl2).trans HC2.out)⟩,
    ⟨rfl,fun a_ w_ _ hB hR hD=>abm (show a_.eval (.tmp 25)=.slice (some ⟨bf,off,none⟩) (n+1) cf from hD 5 rfl) rfl (show a_.eval (.tmp 29)=.int .i64 (n:Int)from hD 9 rfl) hlt⟩,
    ⟨rfl,fun a_ w_ _ hB hR hD=>ab3 (show a_.eval (.tmp 30)=.pointer (some ⟨bf,off+n*2,none⟩)from hD 10 rfl) ((hB.cell (p:=⟨bf,off+n*2,none⟩) hbf2).trans HF02.out) ((hB.cell (p:=⟨bf,off+n*2+1,none⟩) hbf2).trans HF12.out) (Mono.of4 (IsW.mono4 _ _) _ _ _ hB HWF2.out)⟩,
    ⟨rfl,fun a_ w_ _ hB hR hD=>aq0 (show(IsW (fnR fs n) L) (a_.eval (.tmp 31)) w_ from hD 11 rfl) (by omega) hB.size⟩,
    trivial⟩
 ·intro a' w' hn' hd' hB' hR' hP';have e20:a'.eval (.tmp 20)=.slice (some ⟨g1,0,none⟩) (n+1) cap1:=hP' 0 (by decide);have e21:a'.eval (.tmp 21)=.pointer (some ⟨g,0,none⟩):=hP' 1 (by decide);have e22:a'.eval (.tmp 22)=.pointer (some ⟨g,0,none⟩):=hP' 2 (by decide);have e23:a'.eval (.tmp 23)=.pointer (some ⟨g,0,none⟩):=hP' 3 (by decide);have e24:a'.eval (.tmp 24)=.int .i64 (n:Int):=hP' 4 (by decide);have e25:a'.eval (.tmp 25)=.slice (some ⟨bf,off,none⟩) (n+1) cf:=hP' 5 (by decide);have e26:a'.eval (.tmp 26)=.pointer (some ⟨g,0,none⟩):=hP' 6 (by decide);have e27:a'.eval (.tmp 27)=.pointer (some ⟨g,0,none⟩):=hP' 7 (by decide);have e28:a'.eval (.tmp 28)=.pointer (some ⟨g,0,none⟩):=hP' 8 (by decide);have e29:a'.eval (.tmp 29)=.int .i64 (n:Int):=hP' 9 (by decide);have e30:a'.eval (.tmp 30)=.pointer (some ⟨bf,off+n*2,none⟩):=hP' 10 (by decide);obtain⟨u31,e31⟩:∃u,a'.eval (.tmp 31)=u:=⟨_,rfl⟩;obtain⟨u32,e32⟩:∃u,a'.eval (.tmp 32)=u:=⟨_,rfl⟩;have hT0:(FrW w2.heap.size (-(fnR fs n)) L) (a'.eval (.tmp 32)) w':=hP' 12 (by decide);rw[e32]at hT0;refine aat hn' hd' hR' (.s16 rfl <| .s4 rfl <| .new e20 <| .new e21 <| .new e22 <| .new e23 <| .new e24 <| .new e25 <| .new e26 <| .new e27 <| .new e28 <| .new e29 <| .new e30 <| .new e31 <| .new e32 <| .s16 rfl <| .s4 rfl <| .s4 rfl <| .s4 rfl <| .same rfl <| .same rfl <| .nil) ?_;clear e20 e21 e22 e23 e24 e25 e26 e27 e28 e29 e30 e31 e32;have HB3:=hide (HB2.out.trans (hB'.mono HB2.out.size));obtain⟨ng1,a1,m1,c1,rfl⟩:=hT0.agg;obtain⟨g2,cap2,hre2,_,_,⟨x0,q0⟩,⟨y1,y2,y3,q1⟩,pf0,pf1,hput⟩:=(HXR.out.below hB').cells (k:=n) (by rw[HFL.out];omega);rw[HFL.out]at hre2;simp only[Value.slice.injEq,Option.some.injEq,Addr.mk.injEq]at hre2;obtain⟨⟨rfl,_⟩,_,rfl⟩:=hre2;obtain⟨hx3,hb3,_,_⟩:=hput w' ng1 a1 m1 c1 _ (Below.refl _ _) hT0.is;have HX3:=hide hx3;have HBW:=hide (HB1.out.trans (((HB12.out.trans (hB'.mono HB12.out.size)).trans hb3).mono HB1.out.size));clear hx3 hb3 hput hT0 hB' hR' hP' hn' hd' HXR HB12;generalize hWW:((w'.setCell ⟨g1,n*2,none⟩ (.bool ng1)).setCell ⟨g1,n*2+1,none⟩ (.slice a1 m1 c1))=W at *
  have K3':=hide (K3.out W HBW.out);have HWW:=hide hWW;clear hWW K3;go_wp2_with fail
  rw[HWW.out];refine K3'.out.mono ?_;rintro e w4 ⟨rfl,hb4⟩;have HB4:=hide (HBW.out.trans (hb4.mono HBW.out.size));have HTR:Hid (IsRow w4 (.slice (some ⟨g1,0,none⟩) (n+1) cap1) (turnZ n fs) L):=(show IsRow _ _ _ _ from HX3.out.is.below hb4);have HX4:=hide (HX.out.below HB4.out);clear hb4 K3' HX3 q0 q1 pf0 pf1;go_wp2;go_loopw [9,37] (fun lw iv wr=>∃(k:Nat),iv=.int .i64 k/\k<=m/\LsI w4 wr lw k ((Lf.take k).map (imgZ n v (turnZ n fs))) M) (fun _ iv _=>m-(intOf iv).toNat)
  case atStart=>exact⟨0,rfl,Nat.zero_le _,Below.refl _ _,rfl,[],World.ownsRow_nil _ _ _ _,fun i u z hu=>by simp at hu⟩
  case round=>
   obtain⟨k,rfl,hk,hst⟩:=hrel;by_cases hlt2:k<m
   ·have hlt':(k:Int)<(m:Int):=by omega
    obtain⟨row,hrow⟩:∃r,Lf[k]? = some r:=⟨_,List.getElem?_eq_getElem (by have:=HMM.out;omega)⟩;obtain⟨b,of2,u,rfl,hbl0,hu0,hur⟩:=HX4.out.cell hrow;have hbl:=Nat.lt_of_lt_of_le hbl0 hst.1.size;have hu:=(hst.1.cell (p:=⟨b,of2+k,none⟩) hbl0).trans hu0;have hrl:=HR.out row (List.mem_of_getElem? hrow);have K6:Hid (∀w5,Below w4.heap.size w4 w5->_):=(fun w5 hb=>aj0 w5 _ u (turnZ n fs) row L (n+1) (HTR.out.below hb) ((hur.below hb).wide (by omega)) HTL.out hrl (by omega) hL);have HMF:=hide (HM.out row (List.mem_of_getElem? hrow));obtain⟨au,cu,rfl,_⟩:=hur.parts;obtain⟨es,hRw,hez,hel⟩:=hur;have hesl:es.length=n+1:=by rw[<-hrl,<-hez];simp
    have K5:=hide (atg wr _ es (hRw.below hst.1) (by omega));have H0:Hid (∀e∈es,Sl w4 (.slice e.a e.m e.c) e.zs/\e.zs.length<=M):=(fun e he=>⟨hRw.sl e he,by have:=hel e he;omega⟩);have HEZ:=hide hez;have HST:=hide hst;have HRL:=hide hrl;have HGZ:Hid ((Lf.take (k+1)).map (imgZ n v (turnZ n fs))=(Lf.take k).map (imgZ n v (turnZ n fs)) ++ [imgZ n v (turnZ n fs) row]):=(show _=_ by rw[List.take_add_one,hrow];simp);rw[hrl]at hu K5 K6;clear hst hrow hu0 hRw hez hel hesl hrl;go_wp2_with fail
    refine K5.out.mono ?_;rintro e w5 ⟨r5,rfl,hE,hb5⟩;have hb45:=HST.out.1.trans (hb5.mono HST.out.1.size);obtain⟨g5,cap5,hr5,_⟩:=hE.img (w0:=w4) (w2:=w5) (k:=v) HST.out.1.size H0.out HEZ.out (by rw[HRL.out];omega) (Below.refl _ _);rw[HRL.out]at hr5;subst hr5;have HE:=hide hE;have HB5:=hide hb5;have K6':=hide (K6.out w5 hb45);have HB45:=hide hb45;clear hE hb5 hb45 K5 K6;go_wp2_with fail
    refine K6'.out.mono ?_;rintro e w6 ⟨r6,rfl,hF,hb6⟩;obtain⟨ng6,a6,m6,c6,rfl⟩:=hF.agg;obtain⟨g6,cap6,hr6,hKg6,hg6l,⟨x0,q0⟩,⟨y1,y2,y3,q1⟩,pf0,pf1,hput⟩:=HE.out.img (w0:=w4) (w2:=w6) (k:=v) HST.out.1.size H0.out HEZ.out (by rw[HRL.out];omega) hb6;rw[HRL.out]at hr6;simp only[Value.slice.injEq,Option.some.injEq,Addr.mk.injEq]at hr6;obtain⟨⟨rfl,_⟩,_,rfl⟩:=hr6;obtain⟨hI,hT⟩:=hput ng6 a6 m6 c6 _ ((hF.fit HMF.out).low HB45.out.size);have hb56:=HB5.out.trans (hb6.mono HB5.out.size);have hb7:=hb56.trans (hT.below hb56.size hKg6);have hst7:=HST.out.below hb7;have hI7:ImR w4 (imgZ n v (turnZ n fs) row) M _ _:=hI;have hA8:=hAl ((w6.setCell ⟨g5,v*2,none⟩ (.bool ng6)).setCell ⟨g5,v*2+1,none⟩ (.slice a6 m6 c6)) (.cells #[.slice (some ⟨g5,0,none⟩) (n+1) cap5] 39);have hn8:=heap_alloc_new ((w6.setCell ⟨g5,v*2,none⟩ (.bool ng6)).setCell ⟨g5,v*2+1,none⟩ (.slice a6 m6 c6)) (.cells #[.slice (some ⟨g5,0,none⟩) (n+1) cap5] 39);have hst8:=hst7.below hA8;rw[show((w6.setCell ⟨g5,v*2,none⟩ (.bool ng6)).setCell ⟨g5,v*2+1,none⟩ (.slice a6 m6 c6)).heap.size=w6.heap.size by simp[World.setCell]]at hn8;have hI8:=ImR.mono _ _ _ _ _ _ hA8 hI7;have hlv:v<n+1:=by omega
    clear hI hI7 hst7 hA8 hb56 hb7 hb6 hF hput hT K6';go_wp2_with (at_builtin;refine abo rfl (a16 (i:=49) (j:=51) rfl hst8 rfl hn8 hI8 rfl (by omega)) ?_)
    intro v2 w9 hst9;have HS9:=hide hst9;clear hst8 hn8 hI8 hst9 q0 q1 pf0 pf1;go_wp2;go_roundw
    case rel=>exact⟨k+1,by go_num,by omega,by rw[HGZ.out,List.map_take];exact HS9.out⟩
    case measure=>simp[intOf];omega
   ·have hlt':decide ((k:Int)<(m:Int))=false:=by simp;omega
    obtain rfl:m=k:=by omega
    rw[List.take_of_length_le (by have:=HMM.out;omega)]at hst;have K:=hide (afw wr _ (Lf.map (imgZ n v (turnZ n fs))) M n hst.isM HSH.out hn hM2);have HW:=hide (HB4.out.trans (hst.1.mono HB4.out.size));have cw:=(HW.out.cell (p:=⟨g,0,none⟩) hgl).trans HC0.out;have hglw:=Nat.lt_of_lt_of_le hgl HW.out.size;clear hst;go_wp2_with fail
    refine K.out.mono ?_;rintro e w5 ⟨hB,hb⟩;obtain⟨pv,ev,rfl,hk5⟩:=hB.k (fun z hz=>by have:=HSH.out.2.2.2 z hz;omega);have HB5:=hide (HW.out.trans (hb.mono HW.out.size));have HK:=hide hk5;clear hB hb K hk5;go_wp2;refine bodyPost_ret (v:=_) (by simp[results,Tryz.results29,go_sem];try rfl) rfl ⟨_,_,rfl,HK.out,HB5.out⟩
end Lm
namespace Lm
open Go Go.RowKit Md
theorem aig(y f:Md.Rw)(v:Nat)(x:Int):∀m,dotN m y (fun k=>if k=v then x else f k)=dotN m y f+if v<m then y v*(x-f v)else 0
 |0=>by simp[dotN,sumL]
 |m+1=>by
  rw[aa4,aa4,aig y f v x m];by_cases h:m=v
  ·subst h;simp only[if_true,Nat.lt_irrefl,if_false,Nat.lt_succ_self];rw[Int.mul_sub];omega
  ·rw[if_neg h];by_cases h2:v<m
   ·rw[if_pos h2,if_pos (by omega)];omega
   ·rw[if_neg h2,if_neg (by omega)];omega
theorem ak4{l:List Int}{v:Nat}{x:Int}(hv:v<l.length):fnR (l.set v x)=fun k=>if k=v then x else fnR l k:=by
 funext k;unfold fnR;rw[List.getD_eq_getElem?_getD,List.getD_eq_getElem?_getD];by_cases h:k=v
 ·subst h;rw[if_pos rfl,List.getElem?_set_self hv];rfl
 ·rw[if_neg h,List.getElem?_set_ne (fun e=>h e.symm)]
theorem a17{n v:Nat}{l:List Int}{x:Int}(hl:l.length=n+1)(hv:v<n+1)(y:Md.Rw):dotN (n+1) y (fnR (l.set v x))=dotN (n+1) y (fnR l)+y v*(x-fnR l v):=by
 rw[ak4 (by omega),aig,if_pos hv]
theorem ari{n v:Nat}(hv:v<n+1):fnR (unitR n v)=fun k=>if k=v then 1 else 0:=by
 funext k;by_cases hk:k<n+1
 ·exact acq (ajd hk)
 ·rw[aau (ac1 n v) k (by omega),if_neg (by omega)]
theorem aom(y:Md.Rw):∀m,dotN m y (fun _=>0)=0
 |0=>by simp[dotN,sumL]
 |m+1=>by rw[aa4,aom y m];simp
theorem aon{n v:Nat}(hv:v<n+1)(y:Md.Rw):dotN (n+1) y (fnR (unitR n v))=y v:=by
 rw[ari hv,aig y (fun _=>0) v 1,if_pos hv,aom];simp
theorem ak5{n v:Nat}{l:List Int}(fs:List Int)(hl:l.length=n+1)(hv:v<n+1)(y:Md.Rw):dotN (n+1) y (fnR (imgZ n v fs l))=dotN (n+1) y (fnR l)+y v*(dotN (n+1) (fnR fs) (fnR l)-fnR l v):=a17 hl hv y
theorem aoo{n v:Nat}{l:List Int}(fs:List Int)(hl:l.length=n+1)(hv:v<n):fnR (imgZ n v fs l) n=fnR l n:=by
 rw[imgZ,ak4 (by omega)];simp only;rw[if_neg (by omega)]
theorem aze{n v:Nat}{Lf:List (List Int)}(fs:List Int)(hl:∀l∈Lf,l.length=n+1)(hv:v<n):(∀z∈Lf.map (imgZ n v fs),fnR z n=0)↔∀z∈Lf,fnR z n=0:=by
 constructor
 ·intro h z hz;rw[<-aoo fs (hl z hz) hv];exact h _ (List.mem_map.2 ⟨z,hz,rfl⟩)
 ·intro h z hz;obtain⟨l,h1,rfl⟩:=List.mem_map.1 hz;rw[aoo fs (hl l h1) hv];exact h l h1
theorem a4n{n v:Nat}{Lf:List (List Int)}(fs:List Int)(hl:∀l∈Lf,l.length=n+1)(hv:v<n)(y:Md.Rw):Hld n (Lf.map (imgZ n v fs)) y↔∀l∈Lf,dotN (n+1) y (fnR l)+y v*(dotN (n+1) (fnR fs) (fnR l)-fnR l v)=0:=by
 constructor
 ·intro h l h1;rw[<-ak5 fs (hl l h1) (by omega)];exact h _ (List.mem_map.2 ⟨l,h1,rfl⟩)
 ·intro h z hz;obtain⟨l,h1,rfl⟩:=List.mem_map.1 hz;rw[ak5 fs (hl l h1) (by omega)];exact h l h1
theorem azf{n v:Nat}{Lf:List (List Int)}(hv:v<n):(∀z∈Lf ++ [unitR n v],fnR z n=0)↔∀z∈Lf,fnR z n=0:=by
 constructor
 ·exact fun h z hz=>h z (List.mem_append_left _ hz)
 ·intro h z hz;rcases List.mem_append.1 hz with h1|h1
  ·exact h z h1
  ·rw[List.mem_singleton.1 h1,ari (by omega)];simp only;rw[if_neg (by omega)]
theorem a18{n v:Nat}{Lf:List (List Int)}(hv:v<n)(y:Md.Rw):Hld n (Lf ++ [unitR n v]) y↔Hld n Lf y/\y v=0:=by
 constructor
 ·exact fun h=>⟨fun l hl=>h l (List.mem_append_left _ hl),by rw[<-aon (n:=n) (v:=v) (by omega) y];exact h _ (List.mem_append_right _ (List.mem_singleton.2 rfl))⟩
 ·rintro ⟨h1,h2⟩ l hl;rcases List.mem_append.1 hl with h|h
  ·exact h1 l h
  ·rw[List.mem_singleton.1 h,aon (by omega),h2]
end Lm
namespace Lm
open Go Go.RowKit Md
theorem Kept.len{n:Nat}{E Lf:List (List Int)}(h:Kept n E Lf):E.length<=n+1/\Lf.length<=n+1:=by
 rcases h with⟨rfl,rfl⟩|h
 ·exact⟨by simp,by simp⟩
 ·obtain⟨_,p,St,hm⟩:=h.mirs;refine⟨h.can.asc,?_⟩;rw[hm.lf];have:=hm.can.asc;simp[zro];omega
theorem BuiK.ev{w:World}{n:Nat}{H:Md.Rw->Prop}{pv:Value}{ev:Int}(h:BuiK w n H pv ev):ev=0\/ev=2:=by
 rcases h with⟨_,h2,_⟩|⟨_,_,_,_,h2,_⟩
 ·exact .inr h2
 ·exact .inl h2
theorem BuiK.span{w:World}{n:Nat}{H:Md.Rw->Prop}{pv:Value}(h:BuiK w n H pv 0):∃g E Lf,pv=.pointer (some ⟨g,0,none⟩)/\Spn w g n E Lf/\Kept n E Lf/\∀y,Out (n+1) y->(Hld n Lf y↔H y):=by
 rcases h with⟨_,h2,_⟩|⟨g,E,Lf,h1,_,h3,h4,h5⟩
 ·exact absurd h2 (by decide)
 ·exact⟨g,E,Lf,h1,h3,h4,h5⟩
theorem arj{n:Nat}{S:List (List Int)}{s:List Int}(h:s∈S):Cls n S (fnR s):=.inr (.mem (List.mem_map.2 ⟨s,h,rfl⟩))
theorem awp{n:Nat}{S T:List (List Int)}(h:∀s∈S,Cls n T (fnR s)){y:Md.Rw}(hy:Cls n S y):Cls n T y:=by
 by_cases hn:RS (T.map fnR) (fnR (noneR n))
 ·exact .inl hn
 ·have hs:∀x∈S.map fnR,RS (T.map fnR) x:=fun x hx=>by
   obtain⟨s,hs,rfl⟩:=List.mem_map.1 hx;exact(h s hs).resolve_left hn
  rcases hy with h1|h1
  ·exact .inl (h1.trans hs)
  ·exact .inr (h1.trans hs)
theorem awq{n:Nat}{E Lf S:List (List Int)}(hk:Kept n E Lf)(hl:∀s∈S,s.length=n+1)(h:∀s∈S,Hld n Lf (fnR s)){y:Md.Rw}(hy:Out (n+1) y)(hc:Cls n S y):Hld n Lf y:=
 (hk.hld hy).2 (awp (fun s hs=>(hk.hld (aau (hl s hs))).1 (h s hs)) hc)
def WinB(Lf E':List (List Int))(n:Nat):Bool:=!E'.any (fun r=>!Lf.all (mk0 (n+1) r))
theorem ae0{n:Nat}{Lf E':List (List Int)}: WinB Lf E' n=true↔∀e∈E',Hld n Lf (fnR e):=by
 unfold WinB;simp only[Bool.not_eq_true',List.any_eq_false];constructor
 ·intro h e he;have:=h e he;simp only[Bool.not_eq_false]at this;exact arf.1 this
 ·intro h e he;simp only[Bool.not_eq_false];exact arf.2 (h e he)
section
end
theorem swinK(w:World)(g h n:Nat)(E Lf E' Lf':List (List Int))(hS:Spn w g n E Lf)(hO:Spn w h n E' Lf')(k:Kept n E Lf)(k':Kept n E' Lf')(hn:n<=16):
  Calls Tryz.prog 26 #[.pointer (some ⟨g,0,none⟩),.pointer (some ⟨h,0,none⟩)] w fun e w'=>e=.returned (.tuple #[.bool (WinB Lf E' n),.int .i64 0])/\Below w.heap.size w w':=by
 obtain⟨se,sl,hSE,hSe,hSl⟩:=hS.at_;obtain⟨te,tl,hTE,hTe,hTl⟩:=hO.at_;exact apy w g h n se sl te tl Lf E' hSE hTE hSl k.row.2 hTe k'.row.1 hn
theorem aei(w:World)(g n:Nat)(E Lf:List (List Int))(hS:Spn w g n E Lf):
  Calls Tryz.prog 13 #[.pointer (some ⟨g,0,none⟩)] w fun e w'=>e=.returned (.int .i64 (n:Int))/\Below w.heap.size w w':=by
 obtain⟨se,sl,hSE,_,_⟩:=hS.at_;obtain⟨hgl,c0⟩:=hSE.num;clear hS hSE;go_enter Tryz.func13,Tryz.ntmps13
 go_wp2;refine bodyPost_ret (v:=_) (by simp[results,Tryz.results13,go_sem];try rfl) rfl ⟨rfl,Below.refl _ _⟩
theorem ad4(w:World)(ev:Int)(h:ev=0\/ev=2):
  Calls Tryz.prog 25 #[.int .i64 ev] w fun e w'=>e=.returned (.bool true)/\Below w.heap.size w w':=by
 rcases h with rfl|rfl
 ·go_enter Tryz.func25,Tryz.ntmps25
  go_wp2;refine bodyPost_ret (v:=_) (by simp[results,Tryz.results25,go_sem];try rfl) rfl ⟨rfl,Below.refl _ _⟩
 ·go_enter Tryz.func25,Tryz.ntmps25
  go_wp2;refine bodyPost_ret (v:=_) (by simp[results,Tryz.results25,go_sem];try rfl) rfl ⟨rfl,Below.refl _ _⟩
end Lm
namespace Lm
open Go Go.RowKit Md
theorem a19{n v:Nat}{E Lf:List (List Int)}(k:Kept n E Lf)(fs:List Int)(hv:v<n)(y:Md.Rw):HLi n (Lf.map (imgZ n v fs)) y↔Hld n (Lf.map (imgZ n v fs)) y:=by
 refine⟨fun h=>h.elim (fun h0=>?_) id,.inr⟩;rw[aze fs k.row.2 hv]at h0;rcases k with⟨rfl,_⟩|k
 ·intro l hl;simp at hl
 ·obtain⟨_,p,St,hm⟩:=k.mirs;exact absurd (h0 _ hm.base.1) hm.base.2
theorem ark{n:Nat}{fs:List Int}(hf:fs.length=n+1)(k:Nat):fnR (turnZ n fs) k=if k=n then-fnR fs n else fnR fs k:=by
 rw[turnZ,ak4 (by omega)]
theorem a2a{n v:Nat}{e fs:List Int}(he:e.length=n+1)(hf:fs.length=n+1)(hv:v<n)(k:Nat):fnR (putZ e v fs) k=(if k=v then 0 else fnR e k)+fnR e v*fnR (turnZ n fs) k:=by
 rw[ark hf];by_cases hk:k<n+1
 ·have h:=acq (akn (rs:=e) (v:=v) (fs:=fs) (i:=k) (by omega));rw[h,he];simp only[<-List.getD_eq_getElem?_getD];show(if k+1=n+1 then fnR e k-fnR e v*fnR fs k else if k=v then fnR e v*fnR fs k else fnR e k+fnR e v*fnR fs k)=_;by_cases h1:k=n
  ·subst h1;rw[if_pos rfl,if_neg (by omega),if_pos rfl,Int.mul_neg];omega
  ·rw[if_neg (by omega),if_neg h1];split <;> simp
 ·rw[aau (by rw[abp,he]) k (by omega),if_neg (by omega),if_neg (by omega),aau he k (by omega),aau hf k (by omega)];simp
theorem aop(f g l:Md.Rw)(c:Int):∀m,dotN m (fun k=>f k+c*g k) l=dotN m f l+c*dotN m g l
 |0=>by simp[dotN,sumL]
 |m+1=>by
  rw[aa4,aa4,aa4,aop f g l c m]
  grind
theorem arl{n v:Nat}{e fs l:List Int}(he:e.length=n+1)(hf:fs.length=n+1)(hl:l.length=n+1)(hv:v<n):dotN (n+1) (fnR (putZ e v fs)) (fnR l)=dotN (n+1) (fnR e) (fnR (imgZ n v (turnZ n fs) l)):=by
 have h:fnR (putZ e v fs)=fun k=>(fun k=>if k=v then 0 else fnR e k) k+fnR e v*fnR (turnZ n fs) k:=funext fun k=>a2a he hf hv k
 rw[h,aop,ak5 _ hl (by omega),aa1 (n+1) (fun k=>if k=v then 0 else fnR e k),aig,if_pos (by omega),aa1 (n+1) (fnR l)]
 grind
theorem a2b{n v:Nat}{fs:List Int}{Es Ls Et Lt La Eb Lb:List (List Int)}(ks:Kept n Es Ls)(kt:Kept n Et Lt)(kb:Kept n Eb Lb)(hf:fs.length=n+1)(hv:v<n)(ha:∀y,Out (n+1) y->(Hld n La y↔HLi n (Ls.map (imgZ n v (turnZ n fs))) y))(hb:∀y,Out (n+1) y->(Hld n Lb y↔Cls n (Et.map fun r=>putZ r v fs) y)):
  WinB La Et n=WinB Ls Eb n:=by
 rw[Bool.eq_iff_iff,ae0,ae0,aec ks kb];constructor
 ·intro h y hy hby;refine awq ks (fun s hs=>?_) (fun s hs=>?_) hy ((hb y hy).1 hby)
  ·obtain⟨e,he,rfl⟩:=List.mem_map.1 hs;rw[abp,kt.row.1 e he]
  ·obtain⟨e,he,rfl⟩:=List.mem_map.1 hs;have h1:=(a19 ks _ hv _).1 ((ha _ (aau (kt.row.1 e he))).1 (h e he));intro l hl;rw[arl (kt.row.1 e he) hf (ks.row.2 l hl) hv];exact h1 _ (List.mem_map.2 ⟨l,hl,rfl⟩)
 ·intro h e he;have ho:=aau (kt.row.1 e he);refine(ha _ ho).2 (.inr fun z hz=>?_);obtain⟨l,hl,rfl⟩:=List.mem_map.1 hz;rw[<-arl (kt.row.1 e he) hf (ks.row.2 l hl) hv];have hpo:Out (n+1) (fnR (putZ e v fs)):=aau (by rw[abp,kt.row.1 e he]);exact h _ hpo ((hb _ hpo).2 (arj (List.mem_map.2 ⟨e,he,rfl⟩))) l hl
end Lm
namespace Lm
open Go Go.RowKit Md
theorem ak6{n v:Nat}{E Lf:List (List Int)}(k:Kept n E Lf)(hv:v<n)(y:Md.Rw):HLi n (Lf ++ [unitR n v]) y↔(Lf = []\/Hld n Lf y/\y v=0):=by
 unfold HLi;rw[azf hv,a18 hv];constructor
 ·rintro (h|h)
  ·rcases k with⟨rfl,_⟩|k
   ·exact .inl rfl
   ·obtain⟨_,p,St,hm⟩:=k.mirs;exact absurd (h _ hm.base.1) hm.base.2
  ·exact .inr h
 ·rintro (rfl|h)
  ·exact .inl (fun z hz=>by cases hz)
  ·exact .inr h
theorem awr{n v:Nat}{Es Ls Ec Lc:List (List Int)}(ks:Kept n Es Ls)(kc:Kept n Ec Lc)(hv:v<n)(hc:∀y,Out (n+1) y->(Hld n Lc y↔HLi n (Ls ++ [unitR n v]) y)):WinB Ls Ec n=true:=by
 rw[ae0,aec ks kc];intro y hy h;rcases(ak6 ks hv y).1 ((hc y hy).1 h)with rfl|h
 ·exact fun l hl=>(by cases hl)
 ·exact h.1
theorem aws{n v:Nat}{Et Lt Ed Ld:List (List Int)}(kt:Kept n Et Lt)(kd:Kept n Ed Ld)(hd:∀y,Out (n+1) y->(Hld n Ld y↔EvyH n v Et y)):WinB Ld Et n=true:=by
 rw[ae0,aec kd kt];exact fun y hy h=>(hd y hy).2 (.inr ((kt.hld hy).1 h))
theorem a2c{n v:Nat}{Es Ls Et Lt Lc Ed Ld:List (List Int)}(ks:Kept n Es Ls)(kt:Kept n Et Lt)(kd:Kept n Ed Ld)(hv:v<n)(hc:∀y,Out (n+1) y->(Hld n Lc y↔HLi n (Ls ++ [unitR n v]) y))(hd:∀y,Out (n+1) y->(Hld n Ld y↔EvyH n v Et y)):WinB Lc Et n=WinB Ls Ed n:=by
 rw[Bool.eq_iff_iff,ae0,ae0,aec ks kd];constructor
 ·intro h y hy hdy;have hs:∀e∈Et,Ls = []\/Hld n Ls (fnR e)/\fnR e v=0:=fun e he=>(ak6 ks hv _).1 ((hc _ (aau (kt.row.1 e he))).1 (h e he))
  by_cases h0:Ls = []
  ·rw[h0];exact fun l hl=>(by cases hl)
  ·rcases(hd y hy).1 hdy with⟨e,he,hne⟩|hcl
   ·exact absurd ((hs e he).resolve_left h0).2 hne
   ·exact awq ks (fun s hs'=>kt.row.1 s hs') (fun s hs'=>((hs s hs').resolve_left h0).1) hy hcl
 ·intro h e he;have ho:=aau (kt.row.1 e he);refine(hc _ ho).2 ((ak6 ks hv _).2 ?_);by_cases h0:Ls = []
  ·exact .inl h0
  ·refine .inr ⟨h _ ho ((hd _ ho).2 (.inr (arj he))),Classical.byContradiction fun hne=>?_⟩;rcases ks with⟨h1,_⟩|k
   ·exact h0 h1
   ·exact k.point (h _ (ade n) ((hd _ (ade n)).2 (.inl ⟨e,he,hne⟩)))
end Lm
namespace Lm
open Go Go.RowKit Md
theorem aoq{x y:Md.Rw}{A B:Nat}(hx:∀c,((x c).natAbs:Int)<pw A)(hy:∀c,((y c).natAbs:Int)<pw B):∀n:Nat,((dotN n x y).natAbs:Int)<=n*(pw A*pw B)
 |0=>by simp[dotN,sumL]
 |n+1=>by
  rw[aa4];have h1:=aoq hx hy n;have h2:((x n*y n).natAbs:Int)<=pw A*pw B:=by
   rw[Int.natAbs_mul,Int.natCast_mul];exact Int.mul_le_mul (by have:=hx n;omega) (by have:=hy n;omega) (by omega) (by have:=aag A;omega)
  rw[Int.natCast_add,Int.add_mul];omega
theorem awt(A B:Nat):pw (A+B+1)=4294967296*(pw A*pw B):=by rw[<-ab1];rfl
theorem arm(A B:Nat):1<=pw A*pw B:=by rw[<-ab1];exact aag _
theorem a2d(A B:Nat):pw A<=pw A*pw B:=by rw[<-ab1];exact aap (by omega)
theorem a3w{e fs:List Int}{v A B:Nat}(he:∀z∈e,(z.natAbs:Int)<pw A)(hf:∀z∈fs,(z.natAbs:Int)<pw B):∀z∈putZ e v fs,(z.natAbs:Int)<pw (A+B+1):=by
 intro z hz;have g1:∀k:Nat,((e[k]?.getD 0).natAbs:Int)<pw A:=fun k=>by
  have h:=acg he (by have:=aag A;omega) k;rwa[fnR,List.getD_eq_getElem?_getD]at h
 have g2:∀k:Nat,((fs[k]?.getD 0).natAbs:Int)<pw B:=fun k=>by
  have h:=acg hf (by have:=aag B;omega) k;rwa[fnR,List.getD_eq_getElem?_getD]at h
 have g3:∀k:Nat,((e[v]?.getD 0*fs[k]?.getD 0).natAbs:Int)<=pw A*pw B:=fun k=>by
  rw[Int.natAbs_mul,Int.natCast_mul];exact Int.mul_le_mul (by have:=g1 v;omega) (by have:=g2 k;omega) (by omega) (by have:=aag A;omega)
 have h1:=awt A B;have h2:=arm A B;have h3:=a2d A B;obtain⟨i,_,rfl⟩:=List.mem_map.1 hz;have:=g1 i;have:=g3 i;split
 ·omega
 ·split <;> omega
theorem a2e{n L:Nat}{fs:List Int}(hf:∀z∈fs,(z.natAbs:Int)<pw L)(hn:fs.length=n+1)(k:Nat):((fnR (turnZ n fs) k).natAbs:Int)<pw L:=by
 have h:=acg hf (by have:=aag L;omega);rw[ark hn];split
 ·rw[Int.natAbs_neg];exact h n
 ·exact h k
theorem sAnyK(w:World)(g n v:Nat)(E Lf:List (List Int))(hS:Spn w g n E Lf)(k:Kept n E Lf)(hn:n<=16)(hv:v<n):
  Calls Tryz.prog 31 #[.pointer (some ⟨g,0,none⟩),.int .i64 (v:Int)] w fun e w'=>∃pv ev,e=.returned (.tuple #[pv,.int .i64 ev])/\BuiK w' n (HLi n (Lf ++ [unitR n v])) pv ev/\Below w.heap.size w w':=
 azb w g n v E Lf hS k.row.2 hn hv (by have:=k.len;omega)
theorem sEveryK(w:World)(g n v:Nat)(E Lf:List (List Int))(hS:Spn w g n E Lf)(k:Kept n E Lf)(hn:n<=16)(hv:v<n):
  Calls Tryz.prog 32 #[.pointer (some ⟨g,0,none⟩),.int .i64 (v:Int)] w fun e w'=>∃pv ev,e=.returned (.tuple #[pv,.int .i64 ev])/\BuiK w' n (EvyH n v E) pv ev/\Below w.heap.size w w':=
 atb w g n v E Lf hS k.row.1 hn hv (by have:=k.len;omega)
theorem sSetK(w:World)(g n v:Nat)(E Lf:List (List Int))(vf:Value)(fs:List Int)(L:Nat)(hS:Spn w g n E Lf)(k:Kept n E Lf)(hn:n<=16)(hv:v<n)(hf:IsRow w vf fs L)(hfl:fs.length=n+1)(hL:L<=1100000):
  Calls Tryz.prog 29 #[.pointer (some ⟨g,0,none⟩),.int .i64 (v:Int),vf] w fun e w'=>∃pv ev,e=.returned (.tuple #[pv,.int .i64 ev])/\BuiK w' n (HLi n (Lf.map (imgZ n v (turnZ n fs)))) pv ev/\Below w.heap.size w w':=by
 obtain⟨se,sl,_,_,hSl⟩:=hS.at_;have hb:∀l∈Lf,((dotN (n+1) (fnR (turnZ n fs)) (fnR l)).natAbs:Int)<pw (L+600+1):=fun l hl=>by
  have h1:=aoq (a2e (abe hf) hfl) (fun c=>acg (hSl.lts l hl) (by have:=aag 600;omega) c) (n+1);have h2:=awt L 600;have h3:=arm L 600;have h4:((n+1:Nat):Int)*(pw L*pw 600)<=17*(pw L*pw 600):=Int.mul_le_mul_of_nonneg_right (by omega) (by omega);omega
 exact azd w g n v E Lf vf fs (L+600) (L+600+1) hS k.row.2 hn hv (by have:=k.len;omega) (hf.wide (by omega)) hfl (by omega) (by omega) hb (by omega) (by omega)
theorem sBeforeK(w:World)(g n v:Nat)(E Lf:List (List Int))(vf:Value)(fs:List Int)(L:Nat)(hS:Spn w g n E Lf)(k:Kept n E Lf)(hn:n<=16)(hv:v<n)(hf:IsRow w vf fs L)(hfl:fs.length=n+1)(hL:L<=1100000):
  Calls Tryz.prog 30 #[.pointer (some ⟨g,0,none⟩),.int .i64 (v:Int),vf] w fun e w'=>∃pv ev,e=.returned (.tuple #[pv,.int .i64 ev])/\BuiK w' n (Cls n (E.map fun r=>putZ r v fs)) pv ev/\Below w.heap.size w w':=by
 obtain⟨se,sl,_,hSe,_⟩:=hS.at_;exact ap2 w g n v E Lf vf fs (L+32) (32+L+1) hS k.row.1 hn hv (by have:=k.len;omega) (hf.wide (by omega)) hfl (by omega) (by omega) (fun e he=>a3w (hSe.lts e he) (abe hf)) (by omega) (by omega)
end Lm
namespace Lm
open Go Go.RowKit Md
def AlQ(K:Int):Says:=fun v w=>AloO w K v
theorem AlQ.mono(K:Int):Mono (AlQ K):=fun _ _ _ hb h=>AloO.below h hb
theorem ap3:Has Tryz.prog 9:=by unfold Has;kernel_rfl
section
variable {dst:Option Tmp} {ty:TypeId} {pos:String} {after:Array Edge} {guard:Option (Nat×Bool)} {a:Act} {w:World} {ats:Array TypeId} {i:Nat}
theorem aj8{v:Value}{K:Int}(h1:a.eval (.tmp i)=v)(h:InW w v K):Does Tryz.prog {dst,op:=.call {callee:=.value (.func 9),args:=#[.tmp i],argTypes:=ats},type:=ty,pos,after,guard} a.eval w fun v w'=>Below w.heap.size w w'/\AlQ K v w':=
 aah ap3 #[_] (by simp[h1]) ((ata w v K h).mono fun e w' ⟨pv,he,ha,hb⟩=>⟨pv,he,hb,ha⟩)
theorem aor{g:Nat}{x y:Int}{ao bo:Option Addr}{n c m d:Nat}(hp:a.eval (.tmp i)=.pointer (some ⟨g,0,none⟩))(h:w.heap[g]? = some (.cells #[.int .i64 x,.int .i64 y,.slice ao n c,.slice bo m d] 25 (0,0))):
  Does Tryz.prog {dst,op:=.load 25 (.tmp i),type:=ty,pos,after,guard} a.eval w fun v' w'=>Below w.heap.size w w'/\Eqs (.agg #[.int .i64 x,.int .i64 y,.slice ao n c,.slice bo m d]) v' w':=by
 have h0:w.cell? ⟨g,0,none⟩=some (.int .i64 x):=by rw[cell_of_row _ _ _ _ _ (0,0) h];rfl
 have h1:w.cell? ⟨g,1,none⟩=some (.int .i64 y):=by rw[cell_of_row _ _ _ _ _ (0,0) h];rfl
 have h2:w.cell? ⟨g,2,none⟩=some (.slice ao n c):=by rw[cell_of_row _ _ _ _ _ (0,0) h];rfl
 have h3:w.cell? ⟨g,3,none⟩=some (.slice bo m d):=by rw[cell_of_row _ _ _ _ _ (0,0) h];rfl
 refine aa3 (v:=.agg #[.int .i64 x,.int .i64 y,.slice ao n c,.slice bo m d]) ?_ ⟨Below.refl _ _,rfl⟩;rw[hp];go_simp
end
theorem InW.row{w:World}{v:Value}{K:Int}(h:InW w v K):∃y ao n c bo m d,v=.agg #[.int .i64 K,.int .i64 y,.slice ao n c,.slice bo m d]:=by
 obtain⟨kind,pv,rv,fss,ess,rfl,h1,_,h3,_⟩:=h;obtain⟨ap,cp,rfl,_⟩:=h1.parts;obtain⟨ar,cr,rfl,_⟩:=h3.parts;exact⟨_,_,_,_,_,_,_,rfl⟩
end Lm
namespace Lm
open Go Go.RowKit Md
theorem azg(b:Bool):(b != b)=false:=by cases b <;> rfl
theorem aj9(w:World)(v0 v1:Value)(v:Int)(vf:Value)(K0 K1:Int)(es:List WE)(h0:InW w v0 K0)(h1:InW w v1 K1)(hf:Rw w vf es)(hfl:lenW es<=1048576):
  Calls Tryz.prog 5 #[v0,v1,.int .i64 v,vf] w fun e w'=>e=.returned (.bool true)/\Below w.heap.size w w':=by
 obtain⟨y0,a0,n0,c0,b0,m0,d0,e0⟩:=h0.row;obtain⟨y1,a1,n1,c1,b1,m1,d1,e1⟩:=h1.row;subst e0 e1;have hA0:=hAl w (.cells #[.int .i64 K0,.int .i64 y0,.slice a0 n0 c0,.slice b0 m0 d0] 25);have hA1:=hAl (w.alloc (.cells #[.int .i64 K0,.int .i64 y0,.slice a0 n0 c0,.slice b0 m0 d0] 25)) (.cells #[.int .i64 K1,.int .i64 y1,.slice a1 n1 c1,.slice b1 m1 d1] 25);have hx:=(hA1.block _ (aaa (heap_alloc_new w (.cells #[.int .i64 K0,.int .i64 y0,.slice a0 n0 c0,.slice b0 m0 d0] 25)))).trans (heap_alloc_new w (.cells #[.int .i64 K0,.int .i64 y0,.slice a0 n0 c0,.slice b0 m0 d0] 25));have hy:=heap_alloc_new (w.alloc (.cells #[.int .i64 K0,.int .i64 y0,.slice a0 n0 c0,.slice b0 m0 d0] 25)) (.cells #[.int .i64 K1,.int .i64 y1,.slice a1 n1 c1,.slice b1 m1 d1] 25);have hB0:Below w.heap.size w ((w.alloc (.cells #[.int .i64 K0,.int .i64 y0,.slice a0 n0 c0,.slice b0 m0 d0] 25)).alloc (.cells #[.int .i64 K1,.int .i64 y1,.slice a1 n1 c1,.slice b1 m1 d1] 25)):=hA0.trans (hA1.mono hA0.size);have hgy:(w.alloc (.cells #[.int .i64 K0,.int .i64 y0,.slice a0 n0 c0,.slice b0 m0 d0] 25)).heap.size=w.heap.size+1:=by simp
 rw[hgy]at hy;have hfr:IsRow w vf (es.map WE.z) 1048576:=⟨es,hf,rfl,fun e he=>by have:=am6 he;have:=(hf.sl e he).parts.1;omega⟩;obtain⟨af,cf,rfl,hfn⟩:=hfr.parts;rw[List.length_map]at hf hfr hfn ⊢;have K:=hide (a3r ((w.alloc (.cells #[.int .i64 K0,.int .i64 y0,.slice a0 n0 c0,.slice b0 m0 d0] 25)).alloc (.cells #[.int .i64 K1,.int .i64 y1,.slice a1 n1 c1,.slice b1 m1 d1] 25)));have HX:=hide hx;have HY:=hide hy;have HB:=hide hB0;have I0:=hide h0;have I1:=hide h1;have HF:=hide hf;have HFR:=hide hfr;have HFL:=hide hfl;obtain⟨nf,hnf⟩:∃k,es.length=k:=⟨_,rfl⟩;obtain⟨lf,hlf⟩:∃k,lenW es=k:=⟨_,rfl⟩;have HNF:Hid ((es.map WE.z).length=nf):=(show _=_ by rw[List.length_map,hnf]);have HLF:=hide hlf;rw[hnf]at HF HFR hfn ⊢;rw[hlf]at HFL;clear hA0 hA1 hx hy hB0 h0 h1 hgy hf hfr hfl hnf hlf;go_enter Tryz.func5,Tryz.ntmps5
 go_wp2_with fail
 refine K.out.mono ?_;generalize ((w.alloc (.cells #[.int .i64 K0,.int .i64 y0,.slice a0 n0 c0,.slice b0 m0 d0] 25)).alloc (.cells #[.int .i64 K1,.int .i64 y1,.slice a1 n1 c1,.slice b1 m1 d1] 25))=wq at *
 rintro e w1 ⟨rfl,hb⟩;replace HB:=hide (HB.out.trans (hb.mono HB.out.size));replace HX:=hide ((hb.block _ (aaa HX.out)).trans HX.out);replace HY:=hide ((hb.block _ (aaa HY.out)).trans HY.out);clear hb K;have K0:=axq w1 af nf cf es (HF.out.below HB.out) (by have:=HLF.out;have:=HFL.out;omega);rw[HLF.out]at K0;have K:=hide K0;clear K0;go_wp2_with fail
 refine K.out.mono ?_;rintro e w2 ⟨rfl,hb⟩;replace HB:=hide (HB.out.trans (hb.mono HB.out.size));replace HX:=hide ((hb.block _ (aaa HX.out)).trans HX.out);replace HY:=hide ((hb.block _ (aaa HY.out)).trans HY.out);clear hb K HF HLF;by_cases hlong:1500<lf
 case pos=>
  have hlong1:(1500:Int)<(lf:Int):=by omega
  have hlong2:decide ((1500:Int)<(lf:Int))=true:=by simpa using hlong1
  go_wp2;refine bodyPost_ret (v:=_) (by simp[results,Tryz.results5,go_sem];try rfl) rfl ⟨rfl,HB.out⟩
 have hlong1:¬(1500:Int)<(lf:Int):=by omega
 have hlong2:decide ((1500:Int)<(lf:Int))=false:=by simpa using hlong1
 go_upto_region 5 with fail
 clear hlong hlong1 hlong2 HFL;refine adq 4 [36,37,38,39] [Eqs (.agg #[.int .i64 K0,.int .i64 y0,.slice a0 n0 c0,.slice b0 m0 d0]),(AlQ K0),Eqs (.agg #[.int .i64 K1,.int .i64 y1,.slice a1 n1 c1,.slice b1 m1 d1]),(AlQ K1)] rfl rfl (by decide) (by kernel_rfl) (by kernel_rfl) (by decide) (by kernel_rfl) ⟨Eqs.mono _,(AlQ.mono _),Eqs.mono _,(AlQ.mono _),trivial⟩ ?_ ?_
 ·exact⟨⟨rfl,fun a_ w_ _ hB hR hD=>aor ((hR 4 rfl).trans (aab rfl)) ((hB.block _ (aaa HX.out)).trans HX.out)⟩,
    ⟨rfl,fun a_ w_ _ hB hR hD=>aj8 (show a_.eval (.tmp 36)=.agg #[.int .i64 K0,.int .i64 y0,.slice a0 n0 c0,.slice b0 m0 d0]from hD 0 rfl) (I0.out.below (HB.out.trans (hB.mono HB.out.size)))⟩,
    ⟨rfl,fun a_ w_ _ hB hR hD=>aor ((hR 5 rfl).trans (aab rfl)) ((hB.block _ (aaa HY.out)).trans HY.out)⟩,
    ⟨rfl,fun a_ w_ _ hB hR hD=>aj8 (show a_.eval (.tmp 38)=.agg #[.int .i64 K1,.int .i64 y1,.slice a1 n1 c1,.slice b1 m1 d1]from hD 2 rfl) (I1.out.below (HB.out.trans (hB.mono HB.out.size)))⟩,
    trivial⟩
 ·intro a' w' hn' hd' hB' hR' hP';have e36:a'.eval (.tmp 36)=.agg #[.int .i64 K0,.int .i64 y0,.slice a0 n0 c0,.slice b0 m0 d0]:=hP' 0 (by decide);obtain⟨u37,e37⟩:∃u,a'.eval (.tmp 37)=u:=⟨_,rfl⟩;have hT0:(AlQ K0) (a'.eval (.tmp 37)) w':=hP' 1 (by decide);rw[e37]at hT0;have e38:a'.eval (.tmp 38)=.agg #[.int .i64 K1,.int .i64 y1,.slice a1 n1 c1,.slice b1 m1 d1]:=hP' 2 (by decide);obtain⟨u39,e39⟩:∃u,a'.eval (.tmp 39)=u:=⟨_,rfl⟩;have hT1:(AlQ K1) (a'.eval (.tmp 39)) w':=hP' 3 (by decide);rw[e39]at hT1;refine aat hn' hd' hR' (.s16 rfl <| .s16 rfl <| .s4 rfl <| .new e36 <| .new e37 <| .new e38 <| .new e39 <| .s16 rfl <| .s16 rfl <| .s16 rfl <| .s16 rfl <| .s16 rfl <| .s16 rfl <| .s16 rfl <| .s4 rfl <| .s4 rfl <| .same rfl <| .same rfl <| .same rfl <| .nil) ?_;clear e36 e37 e38 e39;replace HB:=hide (HB.out.trans (hB'.mono HB.out.size));have HA0:=hide hT0;have HA1:=hide hT1;have R0:=hide (HFR.out.below HB.out);clear hT0 hT1 hB' hR' hP' hn' hd' HX HY I0 I1 HFR;rcases HA0.out with rfl|⟨g_s,n,e_s,l_s,_,hn16,rfl,hsp0,hkp0⟩
  ·go_wp2;refine bodyPost_ret (v:=_) (by simp[results,Tryz.results5,go_sem];try rfl) rfl ⟨rfl,HB.out⟩
  rcases HA1.out with rfl|⟨g_t,n_t,e_t,l_t,_,_,rfl,hsp1,hkp1⟩
  ·clear hsp0 hkp0;go_wp2;refine bodyPost_ret (v:=_) (by simp[results,Tryz.results5,go_sem];try rfl) rfl ⟨rfl,HB.out⟩
  have Ss:=hide hsp0;have ks:=hide hkp0;have St:=hide hsp1;have kt:=hide hkp1;clear hsp0 hkp0 hsp1 hkp1 HA0 HA1;have K:=hide (aei w' g_s n e_s l_s Ss.out);go_wp2_with fail
  refine K.out.mono ?_;rintro e w3 ⟨rfl,hb⟩;replace HB:=hide (HB.out.trans (hb.mono HB.out.size));replace Ss:=hide (Ss.out.below hb);replace St:=hide (St.out.below hb);replace R0:=hide (R0.out.below hb);clear hb K;have K:=hide (aei w3 g_t n_t e_t l_t St.out);go_wp2_with fail
  refine K.out.mono ?_;rintro e w4 ⟨rfl,hb⟩;replace HB:=hide (HB.out.trans (hb.mono HB.out.size));replace Ss:=hide (Ss.out.below hb);replace St:=hide (St.out.below hb);replace R0:=hide (R0.out.below hb);clear hb K;by_cases hnt:n=n_t
  case neg=>
   have hn1:¬(n:Int)=(n_t:Int):=by omega
   have hn2:((n:Int) != (n_t:Int))=true:=by simpa using hn1
   go_wp2;refine bodyPost_ret (v:=_) (by simp[results,Tryz.results5,go_sem];try rfl) rfl ⟨rfl,HB.out⟩
  subst hnt;have hnn:((n:Int) != (n:Int))=false:=by simp
  have K:=hide (aei w4 g_s n e_s l_s Ss.out);go_wp2_with fail
  refine K.out.mono ?_;rintro e w5 ⟨rfl,hb⟩;replace HB:=hide (HB.out.trans (hb.mono HB.out.size));replace Ss:=hide (Ss.out.below hb);replace St:=hide (St.out.below hb);replace R0:=hide (R0.out.below hb);clear hb K;by_cases hn0:n=0
  case pos=>
   subst hn0;go_wp2;refine bodyPost_ret (v:=_) (by simp[results,Tryz.results5,go_sem];try rfl) rfl ⟨rfl,HB.out⟩
  have hn1:((n:Int)==0)=false:=by simpa using hn0
  have hn2:¬(n:Int)=0:=by omega
  have hadd:IntKind.i64.wrap ((n:Int)+1)=((n+1:Nat):Int):=by rw[IntKind.wrap_i64];omega
  have K:=hide (aei w5 g_s n e_s l_s Ss.out);go_wp2_with fail
  refine K.out.mono ?_;rintro e w6 ⟨rfl,hb⟩;replace HB:=hide (HB.out.trans (hb.mono HB.out.size));replace Ss:=hide (Ss.out.below hb);replace St:=hide (St.out.below hb);replace R0:=hide (R0.out.below hb);clear hb K;by_cases hnl:nf=n+1
  case neg=>
   have hl1:¬(nf:Int)=((n+1:Nat):Int):=by omega
   have hl2:((nf:Int) != ((n+1:Nat):Int))=true:=by simpa using hl1
   have hl3:((nf:Int) != (n:Int)+1)=true:=by simp;omega
   go_wp2;refine bodyPost_ret (v:=_) (by simp[results,Tryz.results5,go_sem];try rfl) rfl ⟨rfl,HB.out⟩
  subst hnl;have hnn3:(((n+1:Nat):Int) != ((n+1:Nat):Int))=false:=by simp
  have hnn4:((n:Int)+1 != (n:Int)+1)=false:=by simp
  obtain⟨V,hV,hVn⟩:=a29 v n hn0;have HV:=hide hVn;clear hVn hn1;have K:=hide (aei w6 g_s n e_s l_s Ss.out);go_wp2_with fail
  refine K.out.mono ?_;rintro e w7 ⟨rfl,hb⟩;replace HB:=hide (HB.out.trans (hb.mono HB.out.size));replace Ss:=hide (Ss.out.below hb);replace St:=hide (St.out.below hb);replace R0:=hide (R0.out.below hb);clear hb K;have K:=hide (sSetK w7 g_s n V e_s l_s (.slice af (n+1) cf) (es.map WE.z) 1048576 Ss.out ks.out hn16 HV.out R0.out HNF.out (by omega));go_wp2_with fail
  refine K.out.mono ?_;rintro e w8 ⟨pv_a,ev_a,rfl,hk,hb⟩;replace HB:=hide (HB.out.trans (hb.mono HB.out.size));replace Ss:=hide (Ss.out.below hb);replace St:=hide (St.out.below hb);replace R0:=hide (R0.out.below hb);have Ya:=hide (hk);clear hk;clear hb K;have K:=hide (sBeforeK w8 g_t n V e_t l_t (.slice af (n+1) cf) (es.map WE.z) 1048576 St.out kt.out hn16 HV.out R0.out HNF.out (by omega));go_wp2_with fail
  refine K.out.mono ?_;rintro e w9 ⟨pv_b,ev_b,rfl,hk,hb⟩;replace HB:=hide (HB.out.trans (hb.mono HB.out.size));replace Ss:=hide (Ss.out.below hb);replace St:=hide (St.out.below hb);replace Ya:=hide (Ya.out.below hb);replace R0:=hide (R0.out.below hb);have Yb:=hide (hk);clear hk;clear hb K;have heva:=Ya.out.ev;have hevb:=Yb.out.ev;obtain⟨bq,hbq⟩:∃b,decide (ev_a=0/\ev_b=0)=b:=⟨_,rfl⟩;have HBQ:=hide hbq;clear hbq R0;go_upto_region 11 with fail
  go_cut [90] (fun cv wx=>cv=.bool bq/\Below w9.heap.size w9 wx)
  case first=>
   rcases heva with rfl|rfl <;> rcases hevb with rfl|rfl <;> (have hbq:=HBQ.out;simp at hbq;subst hbq;go_wp2_with fail;go_meet;exact⟨rfl,Below.refl _ _⟩)
  case rest=>
   obtain⟨rfl,hb⟩:=hcut;replace HB:=hide (HB.out.trans (hb.mono HB.out.size));replace Ss:=hide (Ss.out.below hb);replace St:=hide (St.out.below hb);replace Ya:=hide (Ya.out.below hb);replace Yb:=hide (Yb.out.below hb);clear hb;go_upto_if 90 with fail
   go_cut [8] (fun cv wx=>cv=.bool false/\Below wc.heap.size wc wx)
   case first=>
    have HC:=hide (Below.refl wc.heap.size wc);cases bq with
    |false=>
     go_wp2_with fail
     go_meet;exact⟨rfl,HC.out⟩
    |true=>
     obtain⟨rfl,rfl⟩:=of_decide_eq_true HBQ.out;clear heva hevb HBQ;obtain⟨g_a,e_a,l_a,rfl,hsp,hkp,hha⟩:=Ya.out.span;have Sa:=hide hsp;have ka:=hide hkp;have Ha:=hide hha;clear hsp hkp hha Ya;obtain⟨g_b,e_b,l_b,rfl,hsp,hkp,hhb⟩:=Yb.out.span;have Sb:=hide hsp;have kb:=hide hkp;have Hb:=hide hhb;clear hsp hkp hhb Yb;obtain⟨wb,hwb⟩:∃wb,WinB l_s e_b n=wb:=⟨_,rfl⟩;have HWB:=hide hwb;clear hwb;have HAD:=hide (a2b ks.out kt.out kb.out HNF.out HV.out Ha.out Hb.out);have hbn:=azg wb;have K0:=swinK wc g_a g_t n e_a l_a e_t l_t Sa.out St.out ka.out kt.out hn16;rw[HAD.out,HWB.out]at K0;have K:=hide K0;clear K0;go_wp2_with fail
     refine K.out.mono ?_;rintro e w10 ⟨rfl,hb⟩;replace HB:=hide (HB.out.trans (hb.mono HB.out.size));replace HC:=hide (HC.out.trans (hb.mono HC.out.size));replace Ss:=hide (Ss.out.below hb);replace St:=hide (St.out.below hb);replace Sa:=hide (Sa.out.below hb);replace Sb:=hide (Sb.out.below hb);clear hb K;have K0:=swinK w10 g_s g_b n e_s l_s e_b l_b Ss.out Sb.out ks.out kb.out hn16;rw[HWB.out]at K0;have K:=hide K0;clear K0;go_wp2_with fail
     refine K.out.mono ?_;rintro e w11 ⟨rfl,hb⟩;replace HB:=hide (HB.out.trans (hb.mono HB.out.size));replace HC:=hide (HC.out.trans (hb.mono HC.out.size));replace Ss:=hide (Ss.out.below hb);replace St:=hide (St.out.below hb);replace Sa:=hide (Sa.out.below hb);replace Sb:=hide (Sb.out.below hb);clear hb K;go_wp2_with fail
     go_meet;exact⟨rfl,HC.out⟩
   case rest=>
    clear heva hevb Ya Yb HBQ HNF;obtain⟨rfl,hb⟩:=hcut;replace HB:=hide (HB.out.trans (hb.mono HB.out.size));replace Ss:=hide (Ss.out.below hb);replace St:=hide (St.out.below hb);clear hb;have K:=hide (sAnyK wc g_s n V e_s l_s Ss.out ks.out hn16 HV.out);go_wp2_with fail
    refine K.out.mono ?_;rintro e w10 ⟨pv_c,ev_c,rfl,hk,hb⟩;replace HB:=hide (HB.out.trans (hb.mono HB.out.size));replace Ss:=hide (Ss.out.below hb);replace St:=hide (St.out.below hb);have Yc:=hide (hk);clear hk;clear hb K;have K:=hide (sEveryK w10 g_t n V e_t l_t St.out kt.out hn16 HV.out);go_wp2_with fail
    refine K.out.mono ?_;rintro e w11 ⟨pv_d,ev_d,rfl,hk,hb⟩;replace HB:=hide (HB.out.trans (hb.mono HB.out.size));replace Ss:=hide (Ss.out.below hb);replace St:=hide (St.out.below hb);replace Yc:=hide (Yc.out.below hb);have Yd:=hide (hk);clear hk;clear hb K;have hevc:=Yc.out.ev;have hevd:=Yd.out.ev;rcases hevc with rfl|rfl
    case inr=>
     rcases hevd with rfl|rfl
     case inl=>
      have K:=hide (ad4 w11 2 (.inr rfl));go_wp2_with fail
      refine K.out.mono ?_;rintro e w12 ⟨rfl,hb⟩;replace HB:=hide (HB.out.trans (hb.mono HB.out.size));replace Ss:=hide (Ss.out.below hb);replace St:=hide (St.out.below hb);replace Yc:=hide (Yc.out.below hb);replace Yd:=hide (Yd.out.below hb);clear hb K;have K:=hide (ad4 w12 0 (.inl rfl));go_wp2_with fail
      refine K.out.mono ?_;rintro e w13 ⟨rfl,hb⟩;replace HB:=hide (HB.out.trans (hb.mono HB.out.size));replace Ss:=hide (Ss.out.below hb);replace St:=hide (St.out.below hb);replace Yc:=hide (Yc.out.below hb);replace Yd:=hide (Yd.out.below hb);clear hb K;go_wp2;refine bodyPost_ret (v:=_) (by simp[results,Tryz.results5,go_sem];try rfl) rfl ⟨rfl,HB.out⟩
     case inr=>
      have K:=hide (ad4 w11 2 (.inr rfl));go_wp2_with fail
      refine K.out.mono ?_;rintro e w12 ⟨rfl,hb⟩;replace HB:=hide (HB.out.trans (hb.mono HB.out.size));replace Ss:=hide (Ss.out.below hb);replace St:=hide (St.out.below hb);replace Yc:=hide (Yc.out.below hb);replace Yd:=hide (Yd.out.below hb);clear hb K;have K:=hide (ad4 w12 2 (.inr rfl));go_wp2_with fail
      refine K.out.mono ?_;rintro e w13 ⟨rfl,hb⟩;replace HB:=hide (HB.out.trans (hb.mono HB.out.size));replace Ss:=hide (Ss.out.below hb);replace St:=hide (St.out.below hb);replace Yc:=hide (Yc.out.below hb);replace Yd:=hide (Yd.out.below hb);clear hb K;go_wp2;refine bodyPost_ret (v:=_) (by simp[results,Tryz.results5,go_sem];try rfl) rfl ⟨rfl,HB.out⟩
    rcases hevd with rfl|rfl
    case inr=>
     have K:=hide (ad4 w11 0 (.inl rfl));go_wp2_with fail
     refine K.out.mono ?_;rintro e w12 ⟨rfl,hb⟩;replace HB:=hide (HB.out.trans (hb.mono HB.out.size));replace Ss:=hide (Ss.out.below hb);replace St:=hide (St.out.below hb);replace Yc:=hide (Yc.out.below hb);replace Yd:=hide (Yd.out.below hb);clear hb K;have K:=hide (ad4 w12 2 (.inr rfl));go_wp2_with fail
     refine K.out.mono ?_;rintro e w13 ⟨rfl,hb⟩;replace HB:=hide (HB.out.trans (hb.mono HB.out.size));replace Ss:=hide (Ss.out.below hb);replace St:=hide (St.out.below hb);replace Yc:=hide (Yc.out.below hb);replace Yd:=hide (Yd.out.below hb);clear hb K;go_wp2;refine bodyPost_ret (v:=_) (by simp[results,Tryz.results5,go_sem];try rfl) rfl ⟨rfl,HB.out⟩
    obtain⟨g_c,e_c,l_c,rfl,hsp,hkp,hhc⟩:=Yc.out.span;have Sc:=hide hsp;have kc:=hide hkp;have Hc:=hide hhc;clear hsp hkp hhc Yc;obtain⟨g_d,e_d,l_d,rfl,hsp,hkp,hhd⟩:=Yd.out.span;have Sd:=hide hsp;have kd:=hide hkp;have Hd:=hide hhd;clear hsp hkp hhd Yd;obtain⟨wb,hwb⟩:∃wb,WinB l_s e_d n=wb:=⟨_,rfl⟩;have HWB:=hide hwb;clear hwb;have HAD:=hide (a2c ks.out kt.out kd.out HV.out Hc.out Hd.out);have HGR:=hide (awr ks.out kc.out HV.out Hc.out);have HFA:=hide (aws kt.out kd.out Hd.out);have hbe:(wb==wb)=true:=beq_self_eq_true wb;have K0:=swinK w11 g_c g_t n e_c l_c e_t l_t Sc.out St.out kc.out kt.out hn16;rw[HAD.out,HWB.out]at K0;have K:=hide K0;clear K0;go_wp2_with fail
    refine K.out.mono ?_;rintro e w12 ⟨rfl,hb⟩;replace HB:=hide (HB.out.trans (hb.mono HB.out.size));replace Ss:=hide (Ss.out.below hb);replace St:=hide (St.out.below hb);replace Sc:=hide (Sc.out.below hb);replace Sd:=hide (Sd.out.below hb);clear hb K;have K0:=swinK w12 g_s g_d n e_s l_s e_d l_d Ss.out Sd.out ks.out kd.out hn16;rw[HWB.out]at K0;have K:=hide K0;clear K0;go_wp2_with fail
    refine K.out.mono ?_;rintro e w13 ⟨rfl,hb⟩;replace HB:=hide (HB.out.trans (hb.mono HB.out.size));replace Ss:=hide (Ss.out.below hb);replace St:=hide (St.out.below hb);replace Sc:=hide (Sc.out.below hb);replace Sd:=hide (Sd.out.below hb);clear hb K;have K0:=swinK w13 g_s g_c n e_s l_s e_c l_c Ss.out Sc.out ks.out kc.out hn16;rw[HGR.out]at K0;have K:=hide K0;clear K0;go_wp2_with fail
    refine K.out.mono ?_;rintro e w14 ⟨rfl,hb⟩;replace HB:=hide (HB.out.trans (hb.mono HB.out.size));replace Ss:=hide (Ss.out.below hb);replace St:=hide (St.out.below hb);replace Sc:=hide (Sc.out.below hb);replace Sd:=hide (Sd.out.below hb);clear hb K;have K0:=swinK w14 g_d g_t n e_d l_d e_t l_t Sd.out St.out kd.out kt.out hn16;rw[HFA.out]at K0;have K:=hide K0;clear K0;go_wp2_with fail
    refine K.out.mono ?_;rintro e w15 ⟨rfl,hb⟩;replace HB:=hide (HB.out.trans (hb.mono HB.out.size));replace Ss:=hide (Ss.out.below hb);replace St:=hide (St.out.below hb);replace Sc:=hide (Sc.out.below hb);replace Sd:=hide (Sd.out.below hb);clear hb K;go_wp2;refine bodyPost_ret (v:=_) (by simp[results,Tryz.results5,go_sem];try rfl) rfl ⟨rfl,HB.out⟩
end Lm
namespace Lm
open Go Go.RowKit Go.ChangeShapes Go.WideShapes Go.ChangeAt Go.Deep
theorem awu{cs:Array Value}(h:cs.size=4):∃a b c d,cs = #[a,b,c,d]:=by
 obtain⟨l⟩:=cs
 match l,h with
 | [a,b,c,d],_=>exact⟨a,b,c,d,rfl⟩
theorem ap4{H:Type}{enc:TypeId×Value->H}{w:World}{fuel:Nat}{c:Value}{x:DataW H×List MemPlace}(h:DataW.trod enc Tryz.prog w 0 (fun _=>true) true fuel 22 [c]=some x):∃ao n cap,c=.slice ao n cap:=by
 rcases open_slice Tryz.underlying22 h with⟨hcs,_⟩|⟨a,len,cap',_,_,_,_,hcs,_⟩
 ·exact⟨none,0,0,by simpa using hcs⟩
 ·exact⟨some a,len,cap',by simpa using hcs⟩
theorem ap5{H:Type}{enc:TypeId×Value->H}{w:World}{fuel:Nat}{c:Value}{x:DataW H×List MemPlace}(h:DataW.trod enc Tryz.prog w 0 (fun _=>true) true fuel 23 [c]=some x):∃ao n cap,c=.slice ao n cap:=by
 rcases open_slice Tryz.underlying23 h with⟨hcs,_⟩|⟨a,len,cap',_,_,_,_,hcs,_⟩
 ·exact⟨none,0,0,by simpa using hcs⟩
 ·exact⟨some a,len,cap',by simpa using hcs⟩
theorem arn{H:Type}{enc:TypeId×Value->H}{w:World}{fuel:Nat}{c0 c1 c2 c3:Value}{x:DataW H×List MemPlace}(h:DataW.trod enc Tryz.prog w 0 (fun _=>true) true fuel 25 [c0,c1,c2,c3]=some x)(hb:Rows.uptoBulk x.1<=1048576):
  ∃K,InW w (.agg #[c0,c1,c2,c3]) K:=by
 have kI:Tryz.prog.cellsOf 3=1:=by kernel_rfl
 have kQ:Tryz.prog.cellsOf 22=1:=by kernel_rfl
 have kM:Tryz.prog.cellsOf 23=1:=by kernel_rfl
 obtain⟨xs,n,_,hx,_,hl,hf⟩:=DataW.trod_struct Tryz.underlying25 h;obtain⟨x0,x1,x2,x3,rfl⟩:∃x0 x1 x2 x3,xs = [x0,x1,x2,x3]:=by
  match xs,hl with
  | [x0,x1,x2,x3],_=>exact⟨x0,x1,x2,x3,rfl⟩
 have f0:=hf 0 _ rfl;have f1:=hf 1 _ rfl;have f2:=hf 2 _ rfl;have f3:=hf 3 _ rfl;have g0:DataW.trod enc Tryz.prog w 0 (fun _=>true) true n 3 [c0]=some x0:=by simpa[kI]using f0
 have g1:DataW.trod enc Tryz.prog w 0 (fun _=>true) true n 3 [c1]=some x1:=by simpa[kI]using f1
 have g2:DataW.trod enc Tryz.prog w 0 (fun _=>true) true n 22 [c2]=some x2:=by simpa[kQ]using f2
 have g3:DataW.trod enc Tryz.prog w 0 (fun _=>true) true n 23 [c3]=some x3:=by simpa[kM]using f3
 have hd:x.1=.agg [x0.1,x1.1,x2.1,x3.1]:=congrArg Prod.fst hx;rw[hd]at hb;simp only[Rows.uptoBulk,Rows.uptoBulkAll]at hb;obtain⟨K,hK,_,hw⟩:=DataW.trod_int Tryz.underlying3 g0;obtain⟨k,hk,_⟩:=DataW.trod_int Tryz.underlying3 g1;obtain rfl:c0=.int .i64 K:=by simpa using hK
 obtain rfl:c1=.int .i64 k:=by simpa using hk
 obtain⟨a2,n2,p2,rfl⟩:=ap4 g2;obtain⟨a3,n3,p3,rfl⟩:=ap5 g3;obtain⟨fss,h1,h2⟩:=a12 g2;obtain⟨ess,h3,h4⟩:=avn g3;have hKb:K<=9223372036854775807:=by
  simp only[Lit.wf,IntKind.min,IntKind.max,IntKind.signed,IntKind.bits]at hw;simp at hw;omega
 exact⟨K,k,_,_,fss,ess,rfl,h1,by omega,h3,by omega,hKb⟩
end Lm
namespace spanAdjointLaw
open Go.ChangeShapes Go.WideShapes Go.ChangeAt Go.RowKit
open Go.ChangeMaps (open_string shut_string)
theorem own:ownKnob Tryz.prog.godebug=none:=by kernel_rfl
theorem laidOut:laidOutB Tryz.prog=true:=by kernel_rfl
set_option linter.unusedVariables false in
set_option maxRecDepth 100000 in
theorem lifted(os:Os)(started:os.Started)(H:Type)(enc:TypeId×Value->H)(F:Stop.Interp):
  ReturnsInHanded {} Tryz.checked os 5 .any ((Rows.OpenSpec.upto Rows.spanAdjointSpec).pre6 enc Tryz.prog Tryz.f5 Rows.spanAdjointUptoRow.domain false) (((Rows.OpenSpec.upto Rows.spanAdjointSpec).at F).post enc Tryz.prog Tryz.f5 false true false false):=by
 refine returnsInHanded_of_cond (C:=Tryz.checked) (s:=Rows.OpenSpec.upto Rows.spanAdjointSpec) (k:=Rows.uptoSmall) rfl own started (by kernel_rfl) Tryz.func5
  (OpenSpec.witness (enc:=enc) (C:=Tryz.checked) (s:=Rows.OpenSpec.upto Rows.spanAdjointSpec) (k:=Rows.uptoSmall) rfl false ⟨#[],#[.agg #[.int .i64 0,.int .i64 0,.slice none 0 0,.slice none 0 0],.agg #[.int .i64 0,.int .i64 0,.slice none 0 0,.slice none 0 0],.int .i64 0,.slice none 0 0],[]⟩ 8 (by kernel_rfl) (by kernel_rfl) (by kernel_rfl)
   (x:=([.agg [.lit (.int .i64 0),.lit (.int .i64 0),.nil,.nil],.agg [.lit (.int .i64 0),.lit (.int .i64 0),.nil,.nil],.lit (.int .i64 0),.nil],[],[])) (by kernel_rfl) rfl (by kernel_rfl)) ?_
 intro W base args ds gs before hval0 hW _ hk _;have hval:∀(j:Nat) t v,Tryz.f5.params[j]? = some t->args[j]? = some v->Value.okWide Tryz.prog W .any base t v:=hval0;have hW':=hW;obtain⟨p,q,hA0,hV,rfl,hfz,hnd⟩:=hW;have hA:DataW.TrodAll enc Tryz.prog W 0 (fun _=>true) true Tryz.f5.params.toList args.toList ds p:=hA0;rw[Tryz.params5]at hA hval;obtain⟨v0,vs0,d0,ds0,p0,q0,hargs,rfl,rfl,h0,r_0⟩:=trodAll_cons hA;obtain⟨v1,vs1,d1,ds1,p1,q1,rfl,rfl,rfl,h1,r_1⟩:=trodAll_cons r_0;obtain⟨v2,vs2,d2,ds2,p2,q2,rfl,rfl,rfl,h2,r_2⟩:=trodAll_cons r_1;obtain⟨v3,vs3,d3,ds3,p3,q3,rfl,rfl,rfl,h3,r_3⟩:=trodAll_cons r_2;obtain⟨rfl,rfl,rfl⟩:=trodAll_nil r_3;obtain rfl:args = #[v0,v1,v2,v3]:=by cases args;simp_all
 obtain⟨rfl,rfl⟩:=trodVars_none hV;have hbulk:Rows.uptoBulkAll ([d0,d1,d2,d3]:List (DataW H))<=1048576:=by
  have h:=of_decide_eq_true hk;simpa only[List.append_nil]using h
 simp only[Rows.uptoBulkAll]at hbulk;have k0:=h0;have lt0:∀x∈p0,x.block<W.heap.size:=by obtain⟨m,hm⟩:=k0;exact DataW.trod_lt m _ _ _ hm
 obtain⟨z0,w0⟩:∃K,Lm.InW W v0 K:=by
  obtain⟨cs,hv,hsz2⟩:=okWide_struct Tryz.underlying25 (hval 0 25 v0 rfl rfl);obtain⟨c0,c1,c2,c3,rfl⟩:=Lm.awu (hsz2.trans (by kernel_rfl:Tryz.prog.cellsOf 25=4));subst hv;obtain⟨fuel,hf⟩:=h0;exact Lm.arn (x:=(d0,p0)) (by simpa[Value.cells]using hf) (by show Rows.uptoBulk d0<=1048576;omega)
 have k1:=h1;have lt1:∀x∈p1,x.block<W.heap.size:=by obtain⟨m,hm⟩:=k1;exact DataW.trod_lt m _ _ _ hm
 obtain⟨z1,w1⟩:∃K,Lm.InW W v1 K:=by
  obtain⟨cs,hv,hsz2⟩:=okWide_struct Tryz.underlying25 (hval 1 25 v1 rfl rfl);obtain⟨c0,c1,c2,c3,rfl⟩:=Lm.awu (hsz2.trans (by kernel_rfl:Tryz.prog.cellsOf 25=4));subst hv;obtain⟨fuel,hf⟩:=h1;exact Lm.arn (x:=(d1,p1)) (by simpa[Value.cells]using hf) (by show Rows.uptoBulk d1<=1048576;omega)
 obtain⟨a2,rfl,rfl,rfl,w2⟩:=open_int Tryz.underlying3 (hval 2 3 v2 rfl rfl) h2;obtain⟨a3,len3,cap3,rfl⟩:=okWide_slice Tryz.underlying39 (hval 3 39 v3 rfl rfl);have k3:=h3;have lt3:∀x∈p3,x.block<W.heap.size:=by obtain⟨m,hm⟩:=k3;exact DataW.trod_lt m _ _ _ hm
 obtain⟨z3,w3,b3⟩:∃es,Lm.Rw W (.slice a3 len3 cap3) es/\Lm.lenW es+1<=Rows.uptoBulk d3:=by
  obtain⟨fuel,hf⟩:=h3;exact Lm.am7 (x:=(d3,p3)) (by simpa[Value.cells]using hf)
 clear hA0 hval0;refine(Lm.aj9 W v0 v1 a2 (.slice a3 len3 cap3) z0 z1 z3 w0 w1 w3 (by omega)).mono fun e W' ⟨he,bel⟩=>?_
 subst he;exact⟨_,rfl,_,_,_,[],_,[],hW',trodAll_mk1 (shut_bool Tryz.underlying4 _),(trodAll_cons_mk (Below.trod laidOut (by kernel_rfl) (of_decide_eq_true (by kernel_rfl)) k0 bel lt0) (trodAll_cons_mk (Below.trod laidOut (by kernel_rfl) (of_decide_eq_true (by kernel_rfl)) k1 bel lt1) (trodAll_cons_mk (shut_int Tryz.underlying3 w2) (trodAll_cons_mk (Below.trod laidOut (by kernel_rfl) (of_decide_eq_true (by kernel_rfl)) k3 bel lt3) trodAll_mk0)))),rfl,bel.frame _,fun h=>by cases h⟩
theorem over:Rows.SpanAdjointUptoSaid:=
 OpenClaim.holds_of_cond 5 Tryz.f5 rfl rfl rfl rfl rfl rfl rfl ⟨rfl,rfl,rfl,rfl,rfl⟩ rfl rfl rfl rfl rfl (by kernel_rfl) Tryz.func5 (by kernel_rfl)
  (of_decide_eq_true (by kernel_rfl)) (by unfold Func.isWrapper;first|(rw[if_pos (by decide +kernel)];kernel_rfl)|(rw[if_neg (by decide +kernel)];exact⟨rfl,rfl⟩))
  (fun os started H enc _ F=>lifted os started H enc F)
end spanAdjointLaw
theorem spanAdjoint_upto:Rows.SpanAdjointUptoSaid:=spanAdjointLaw.over
#print axioms spanAdjoint_upto
end Go.Proofs.YtjogfjgkabjcfaaGreat
