/-
  The given statement on SpanTwice, for every input of bulk at most 1048576: the call answers true, and each argument reads behind it as it read before. Its condition: that bulk, and no other. Beside it: Echelon forms that are kept, and what a point and steps out of equations make. No program is named here. A point and steps that equations in echelon form tell make 0 with them. No call is walked here. What is kept of a span, as equations and as lifts: what holds on it says it all. No call is walked here. Where a span is too big, it is so whatever it was made of. No call is walked here. The span of three points that the laws of span ask first: what is kept of it. No call is walked here. Package span: copied; rows that are told, in a list that grows. Package span: what a span tells: Rows, Steps, Base. Rows of fractions that are handed in: what they read as, how long they are together. The laws' Point: a point of whole numbers. What the laws of span ask first. The laws' meets: does a point meet a row? Spans that are made, as what holds on them; what SpanLeast compares. The laws' alone: a span that is made of what is handed in. The law SpanLattice: what it compares. Join and Meet by what holds. Rows and steps of a span are together as many as variables; and a point that is walked to along the steps meets the rows. No call is walked here. Package span: Base. The law's walked: from a span's own point along its steps. The law's walked: from a span's own point along its steps; its walk. Single operations on texts, in regions over frames that are not written out. A row is canonical: the program's Canonical, where no text is read. Package span: Clone of lifts, Any. Package span: what holds on the images of Set. The laws SpanTwo and SpanAdjoint: what comes in, alone; the forms 0 and 1, as a law makes them. The law SpanTwice: what it asks of a span, by what is kept; the point that it moves off a row. The law SpanTwice: its walk. How a span is made, as it is handed in: what it reads as.
-/
import Derived.Shelf.Unicode.DecodeSlow
import Derived.Test.YtjogfjgkabjcfaaGreatRows
import Derived.ProofKit
import Derived.OpenShut
import Derived.ShutString
import Derived.ChangeOld
import Derived.JoinedCond
import Derived.Test.YtjogfjgkabjcfaaGreatSLwLawZ5
set_option maxRecDepth 20000
set_option maxHeartbeats 40000000
namespace Go.Proofs.YtjogfjgkabjcfaaGreat
namespace Lm
open Go Go.RowKit Md
def CnE(N:Nat)(A:List (List Int)):Prop:=∃F:List (Nat×Md.Rw),EF F/\(∀e∈F,e.1<N)/\(∀e∈F,∀c,N<=c->e.2 c=0)/\A=elR N F
theorem aoe{N:Nat}{F:List (Nat×Md.Rw)}(hE:EF F)(hn:∀e∈F,e.1<N)(ho:∀e∈F,∀c,N<=c->e.2 c=0)(x:Md.Rw):RS ((elR N F).map fnR) x↔RS (rowsE F) x:=by
 constructor
 ·intro h;refine h.trans fun y hy=>?_
  obtain⟨r,hr,rfl⟩:=List.mem_map.1 hy;obtain⟨e,he,rfl⟩:=List.mem_map.1 hr;obtain⟨d,hd,_,hk⟩:=ahs hE hn ho he;exact(RS.mem (List.mem_map.2 ⟨e,he,rfl⟩)).div hd hk
 ·intro h;refine h.trans fun y hy=>?_
  obtain⟨e,he,rfl⟩:=List.mem_map.1 hy;obtain⟨d,hd,hm,hk⟩:=ahs hE hn ho he;exact(RS.mem (List.mem_map.2 ⟨_,hm,rfl⟩)).smul d (fun k=>(hk k).symm)
theorem ajk{N:Nat}{A B:List (List Int)}(hA:CnE N A)(hB:CnE N B)(h1:∀a∈A,RS (B.map fnR) (fnR a))(h2:∀b∈B,RS (A.map fnR) (fnR b)):A=B:=by
 obtain⟨F,f1,f2,f3,rfl⟩:=hA;obtain⟨G,g1,g2,g3,rfl⟩:=hB;refine avd f1 g1 (fun e he=>?_) (fun e he=>?_)
 ·obtain⟨d,hd,hm,hk⟩:=ahs f1 f2 f3 he;exact((aoe g1 g2 g3 _).1 (h1 _ hm)).smul d (fun k=>(hk k).symm)
 ·obtain⟨d,hd,hm,hk⟩:=ahs g1 g2 g3 he;exact((aoe f1 f2 f3 _).1 (h2 _ hm)).smul d (fun k=>(hk k).symm)
theorem CnE.row{N:Nat}{A:List (List Int)}(h:CnE N A):∀r∈A,r.length=N:=by
 obtain⟨F,_,_,_,rfl⟩:=h;exact akv
theorem CnE.el{N:Nat}{A:List (List Int)}(h:CnE N A):∃P,EL N P A:=by
 obtain⟨F,h1,h2,_,rfl⟩:=h;exact⟨_,EF.el h1 h2⟩
theorem CnE.lead{N:Nat}{A:List (List Int)}(h:CnE N A):∀r∈A,∃p,p<N/\Lead r p:=fun r hr=>by
 obtain⟨P,hP⟩:=h.el;exact(EL.lead hP r hr).2
theorem CnE.ef{N:Nat}{A:List (List Int)}(h:CnE N A):∃F:List (Nat×Md.Rw),EF F/\(∀e∈F,e.1<N)/\rowsE F=A.map fnR:=by
 obtain⟨F,h1,h2,h3,rfl⟩:=h;have hd:∀e∈F,dvs (gRow e.2 N)≠0/\∀k,dvs (gRow e.2 N)*fnR (red (gRow e.2 N)) k=e.2 k:=fun e he=>⟨ahr (List.mem_of_getElem? (abd (g:=e.2) (h2 e he))) (h1.ne e he),fun k=>by rw[aih,ano (h3 e he)]⟩
 have hz:∀e∈F,∀k,e.2 k=0->fnR (red (gRow e.2 N)) k=0:=fun e he k hk=>by
  have h4:=(hd e he).2 k;rw[hk]at h4;rcases Int.mul_eq_zero.1 h4 with h|h
  ·exact absurd h (hd e he).1
  ·exact h
 refine⟨F.map (fun e=>(e.1,fnR (red (gRow e.2 N)))),⟨?_,fun e he=>?_,fun e he f hf hne=>?_,fun e he k hk=>?_⟩,fun e he=>?_,?_⟩
 ·rw[List.pairwise_map];exact h1.asc
 ·obtain⟨g,hg,rfl⟩:=List.mem_map.1 he;intro h4;have h4:fnR (red (gRow g.2 N)) g.1=0:=h4;have h5:=(hd g hg).2 g.1;rw[h4,Int.mul_zero]at h5;exact h1.ne g hg h5.symm
 ·obtain⟨g,hg,rfl⟩:=List.mem_map.1 he;obtain⟨g',hg',rfl⟩:=List.mem_map.1 hf;exact hz g hg _ (h1.oth g hg g' hg' hne)
 ·obtain⟨g,hg,rfl⟩:=List.mem_map.1 he;exact hz g hg _ (h1.led g hg k hk)
 ·obtain⟨g,hg,rfl⟩:=List.mem_map.1 he;exact h2 g hg
 ·unfold rowsE elR;rw[List.map_map,List.map_map];rfl
theorem CnE.oth{N:Nat}{A:List (List Int)}(h:CnE N A){i k:Nat}{r s:List Int}{p:Nat}(hr:A[i]? = some r)(hs:A[k]? = some s)(hne:k≠i)(hp:Lead r p):fnR s p=0:=by
 obtain⟨P,hP⟩:=h.el;have hi:=(List.getElem?_eq_some_iff.1 hr).1;obtain⟨q,hq⟩:∃q,P[i]? = some q:=⟨_,List.getElem?_eq_getElem (by rw[hP.len];exact hi)⟩;obtain⟨_,_,h3,h4,_⟩:=hP.row i r q hr hq;have hl:Lead r q:=⟨by show r.getD q 0≠0;omega,fun k hk=>h3 k hk⟩;obtain rfl:=hp.one hl;exact hP.oth i k s _ hq hs hne
end Lm
namespace Lm
open Go Go.RowKit Md
theorem CnE.asc{N:Nat}{A:List (List Int)}(h:CnE N A):A.length<=N:=by
 obtain⟨P,hP⟩:=h.el;have h3:=agc hP.asc (fun p hp=>by
  obtain⟨i,hi⟩:=List.mem_iff_getElem?.1 hp;have hil:=(List.getElem?_eq_some_iff.1 hi).1;obtain⟨r,hr⟩:∃r,A[i]? = some r:=⟨_,List.getElem?_eq_getElem (by rw[<-hP.len];exact hil)⟩
  exact(hP.row i r p hr hi).2.1)
 rw[hP.len]at h3;exact h3
theorem CnE.leadN{N:Nat}{A:List (List Int)}(h:CnE N A){r:List Int}(hr:r∈A):Lead r (leadN r)/\leadN r<N:=by
 obtain⟨p,hp,hl⟩:=h.lead r hr;rw[hl.n];exact⟨hl,hp⟩
theorem CnE.dif{N:Nat}{A:List (List Int)}(h:CnE N A):A.Pairwise (fun a b=>Lm.leadN a≠Lm.leadN b):=by
 rw[List.pairwise_iff_getElem];intro i j hi hj hij he;have h1:A[i]? = some A[i]:=List.getElem?_eq_getElem hi;have h2:A[j]? = some A[j]:=List.getElem?_eq_getElem hj;have h3:=h.oth h1 h2 (by omega) (h.leadN (List.mem_of_getElem? h1)).1;have h4:=(h.leadN (List.mem_of_getElem? h2)).1;rw[<-he]at h4;exact h4.1 h3
theorem ajl{n k:Nat}: ∀(rows:List (List Int)) (ps:List Rat),(∀r∈rows,leadN r≠k)->(rows.foldl (fun ps r=>ps.set (leadN r) (Rat.divInt (fnR r n) (fnR r (leadN r)))) ps)[k]? = ps[k]?
 | [],_,_=>rfl
 |r::rs,ps,h=>by
  rw[List.foldl_cons,ajl rs _ (fun x hx=>h x (List.mem_cons_of_mem _ hx)),List.getElem?_set_ne (h r (List.mem_cons_self ..))]
theorem avy{n k:Nat}{rows:List (List Int)}(h:∀r∈rows,leadN r≠k)(hk:k<n):(ptQ n rows)[k]? = some 0:=by
 unfold ptQ;rw[ajl rows _ h,List.getElem?_replicate,if_pos hk]
theorem ayq{n:Nat}{rows:List (List Int)}(hd:rows.Pairwise (fun a b=>leadN a≠leadN b)){r:List Int}(hr:r∈rows)(hlt:leadN r<n):(ptQ n rows)[leadN r]? = some (Rat.divInt (fnR r n) (fnR r (leadN r))):=by
 obtain⟨A,B,rfl⟩:=List.append_of_mem hr;have hlen:(ptQ n A).length=n:=aim n A;unfold ptQ at *
 rw[List.foldl_append,List.foldl_cons,ajl B _ (fun x hx=>?_),List.getElem?_set_self (by rw[hlen];exact hlt)];have h2:=(List.pairwise_append.1 hd).2.1;exact fun e=>(List.pairwise_cons.1 h2).1 x hx e.symm
theorem asr{ps:List Rat}{k:Nat}(h:ps[k]? = some 0):fnR (liftZ ps) k=0:=by
 have h1:=agw ps h;rw[Rat.mul_zero]at h1
 exact_mod_cast h1
theorem a28{n:Nat}{E:List (List Int)}(hE:CnE (n+1) E)(hl:∀r∈E,leadN r<n):∀e∈E,dotN (n+1) (fnR (liftZ (ptQ n E))) (fnR e)=0:=by
 intro e he;have hp:=(hE.leadN he).1;have hpn:=hl e he;have hat:=ayq hE.dif he hpn;generalize leadN e=p at *
 have h1:=agw _ hat;have h2:=adw (ptQ n E);rw[aim]at h2;have h3:dotN n (fnR (liftZ (ptQ n E))) (fnR e)=fnR (liftZ (ptQ n E)) p*fnR e p:=by
  unfold dotN;rw[<-ad4 (f:=fun k=>fnR (liftZ (ptQ n E)) k*fnR e k) (q:=p) List.nodup_range (List.mem_range.2 hpn)];refine ac7 fun k hk=>?_
  have hkn:=List.mem_range.1 hk;by_cases hkp:k=p
  ·rw[if_pos hkp]
  ·rw[if_neg hkp];by_cases hx:∃s∈E,leadN s=k
   ·obtain⟨s,hs,rfl⟩:=hx;obtain⟨i,hi⟩:=List.mem_iff_getElem?.1 hs;obtain⟨j,hj⟩:=List.mem_iff_getElem?.1 he;have hij:j≠i:=fun h=>by
     subst h;rw[hi]at hj;obtain rfl:=Option.some.inj hj;exact hkp (hp.n)
    rw[hE.oth hi hj hij (hE.leadN hs).1,Int.mul_zero]
   ·rw[asr (avy (fun r hr h=>hx ⟨r,hr,h⟩) hkn),Int.zero_mul]
 rw[aa2,h3,h2];have h4:((fnR e p:Int):Rat)≠0:=by exact_mod_cast hp.1
 rw[Rat.divInt_eq_div]at h1;have h5:((fnR (liftZ (ptQ n E)) p*fnR e p+-(wOf 1 (ptQ n E))*fnR e n:Int):Rat)=0:=by
  push_cast;rw[h1];generalize ((fnR e p:Int):Rat)=a at *
  generalize ((fnR e n:Int):Rat)=b at *
  generalize ((wOf 1 (ptQ n E):Int):Rat)=w at *
  grind
 exact_mod_cast h5
theorem a1k{n p:Nat}{z s:List Int}{e:Md.Rw}(hz:dotN (n+1) (fnR z) e=0)(hs:dotN (n+1) (fnR s) e=0):dotN (n+1) (fnR (clrZ z s p (n+1))) e=0:=by
 rw[aex (x:=fnR (clrZ z s p (n+1))) (u:=fun k=>fnR s p*fnR z k+(-(fnR z p))*fnR s k) (y:=e) (v:=e) (fun k hk=>by rw[ak2 hk,Int.sub_eq_add_neg,Int.neg_mul]) (fun _ _=>rfl),ad5,hz,hs];omega
theorem aqz{n:Nat}{e:Md.Rw}: ∀(steps:List (List Int)) {z:List Int},dotN (n+1) (fnR z) e=0->(∀s∈steps,dotN (n+1) (fnR s) e=0)->dotN (n+1) (fnR (basZ z n steps)) e=0
 | [],_,h,_=>h
 |s::ss,_,h,hs=>aqz ss (a1k h (hs s (List.mem_cons_self ..))) (fun x hx=>hs x (List.mem_cons_of_mem _ hx))
theorem a1l{z:List Int}{n k:Nat}(h:k<n):(lowQ z n)[k]? = some (Rat.divInt (-(fnR z k)) (fnR z n)):=by simp[lowQ,qRow,h]
theorem ayr{n:Nat}{z:List Int}(hn:fnR z n≠0)(k:Nat)(hk:k<n+1):fnR z n*fnR (liftZ (lowQ z n)) k = -(wOf 1 (lowQ z n))*fnR z k:=by
 rcases Nat.lt_or_ge k n with h|h
 ·have h1:=agw _ (a1l (z:=z) h);rw[Rat.divInt_eq_div]at h1;have h4:((fnR z n:Int):Rat)≠0:=by exact_mod_cast hn
  have h5:((fnR z n*fnR (liftZ (lowQ z n)) k:Int):Rat)=((-(wOf 1 (lowQ z n))*fnR z k:Int):Rat):=by
   push_cast;rw[h1]
   push_cast;generalize ((fnR z n:Int):Rat)=a at *
   generalize ((fnR z k:Int):Rat)=b at *
   generalize ((wOf 1 (lowQ z n):Int):Rat)=w at *
   grind
  exact_mod_cast h5
 ·obtain rfl:k=n:=by omega
  have h2:=adw (lowQ z k);rw[ac3]at h2;rw[h2]
  grind
theorem aq0{n:Nat}{z:List Int}{e:Md.Rw}(hn:fnR z n≠0)(h:dotN (n+1) (fnR z) e=0):dotN (n+1) (fnR (liftZ (lowQ z n))) e=0:=by
 have h1:=ad5 (n+1) (fnR z n) 0 (fnR (liftZ (lowQ z n))) (fnR z) e;rw[aex (x:=fun k=>fnR z n*fnR (liftZ (lowQ z n)) k+0*fnR z k) (u:=fun k=>-(wOf 1 (lowQ z n))*fnR z k+0*fnR z k) (y:=e) (v:=e) (fun k hk=>by show fnR z n*fnR (liftZ (lowQ z n)) k+0*fnR z k=_;rw[ayr hn k hk]) (fun _ _=>rfl),ad5,h]at h1;have h2:fnR z n*dotN (n+1) (fnR (liftZ (lowQ z n))) e=0:=by omega
 rcases Int.mul_eq_zero.1 h2 with h|h
 ·exact absurd h hn
 ·exact h
theorem aea{n:Nat}{rows:List (List Int)}{R:List Md.Rw}{Q:List Nat}(h:Ech n rows R Q):CnE n (elR n (kerE n R Q)):=⟨kerE n R Q,h.gat.kerEF,akw,ajd,rfl⟩
theorem ak4{n:Nat}{rows:List (List Int)}{R:List Md.Rw}{Q:List Nat}(h:Ech n rows R Q)(hrn:∀r∈rows,r.length=n):CnE n ((baR R Q n).map red):=⟨efOf R Q,h.gat.ef,akx h.gat.lt,h.ef_out hrn,(anp R Q n).symm⟩
theorem aof{n:Nat}{rows:List (List Int)}{R:List Md.Rw}{Q:List Nat}(h:Ech n rows R Q)(hrn:∀r∈rows,r.length=n)(x:Md.Rw):RS (((baR R Q n).map red).map fnR) x↔RS (rows.map fnR) x:=by
 rw[<-anp,aoe h.gat.ef (akx h.gat.lt) (h.ef_out hrn)];constructor
 ·intro hx;refine hx.trans fun y hy=>?_
  obtain⟨e,he,rfl⟩:=List.mem_map.1 hy;refine RS.trans (S:=R) (.of (h.gat.ef_in e he)) fun y hy=>?_
  obtain⟨r,hr,rfl⟩:=h.mem hy;exact .mem (List.mem_map.2 ⟨r,hr,rfl⟩)
 ·intro hx;refine h.gat.in_ef (hx.trans fun y hy=>?_);obtain⟨r,hr,rfl⟩:=List.mem_map.1 hy;exact h.rows_in hr
theorem a1m{n:Nat}{St:List (List Int)}(h:∀s∈St,s.length=n):∀l∈zro St,l.length=n+1:=fun l hl=>by
 obtain⟨s,hs,rfl⟩:=List.mem_map.1 hl;simp[h s hs]
structure Mirs (n:Nat) (E Lf:List (List Int)) (p:List Rat) (St:List (List Int)):Prop where
 lf:Lf=liftZ p::zro St
 pl:p.length=n
 can:CnE n St
 fst:Perp n (fac n E) St
 snd:Perp n St (fac n E)
 perp:Perp (n+1) Lf E
 sml:∀r∈St,r.any big=false
 fit:∀q∈p,Fit q 32
theorem ag4{n:Nat}{E Lf:List (List Int)}(hE:CnE (n+1) E)(hM:MirR n E Lf)(hne:Lf≠[]):(∀r∈E,leadN r<n)/\∃p St,Mirs n E Lf p St:=by
 rcases hM with⟨_,h⟩|⟨hl,R,Q,hR,hb,hf,rfl⟩
 ·exact absurd h hne
 ·have hfl:∀r∈fac n E,r.length=n:=fun r hr=>by
   obtain⟨e,he,rfl⟩:=List.mem_map.1 hr;rw[List.length_take,hE.row e he];omega
  obtain⟨k1,k2⟩:=adj hR hfl;have hc:=aea hR;generalize elR n (kerE n R Q)=St at *
  have hsl:=hc.row;have hzl:=ag2 (n:=n) (St:=St) (fun r hr=>⟨hsl r hr,hc.lead r hr⟩);have hb0:fnR (basZ (liftZ (ptQ n E)) n (zro St)) n≠0:=by
   refine ahx _ _ (fun s hs=>(hzl s hs).2) ?_;have:=afg (ptQ n E);rwa[aim]at this
  have hzd:∀e∈E,∀s∈zro St,dotN (n+1) (fnR s) (fnR e)=0:=fun e he s hs=>by
   have h0:=(hzl s hs).2.2;obtain⟨t,ht,rfl⟩:=List.mem_map.1 hs;rw[aa2,h0,Int.zero_mul,Int.add_zero,aga (hsl t ht),aex (fun _ _=>rfl) (fun k hk=>(aje hk).symm)];exact k2.dot hsl t ht _ (List.mem_map.2 ⟨e,he,rfl⟩)
  refine⟨hl,_,St,⟨rfl,by rw[mPt,ac3],hc,k1,k2,?_,hb,hf⟩⟩;refine apj (by rw[abl,mPt,ac3]) hsl (fun e he=>?_) ?_ k2
  ·exact aq0 hb0 (aqz _ (a28 hE hl e he) (hzd e he))
  ·have:=afg (mPt n E St);rwa[mPt,ac3,<-mPt]at this
end Lm
namespace Lm
open Go Go.RowKit Md
def Out(n:Nat)(y:Md.Rw):Prop:=∀c,n<=c->y c=0
def Hld(n:Nat)(Lf:List (List Int))(y:Md.Rw):Prop:=∀l∈Lf,dotN (n+1) y (fnR l)=0
def Cls(n:Nat)(E:List (List Int))(y:Md.Rw):Prop:=RS (E.map fnR) (fnR (noneR n))\/RS (E.map fnR) y
theorem ak5(n k:Nat):fnR (noneR n) k=if k=n then 1 else 0:=by
 rcases Nat.lt_trichotomy k n with h|h|h
 ·rw[if_neg (by omega)];exact(aey n).2 k h
 ·subst h;rw[if_pos rfl];exact adb (by rw[noneR,List.getElem?_append_right (by simp)];simp)
 ·rw[if_neg (by omega)];exact acc (by rw[acu];omega)
theorem ag5(n:Nat)(y:Md.Rw):dotN (n+1) (fnR (noneR n)) y=y n:=by
 rw[aa2,ak5,if_pos rfl];have h:dotN n (fnR (noneR n)) y=0:=ado fun k hk=>by
  have:=List.mem_range.1 hk;rw[ak5,if_neg (by omega),Int.zero_mul]
 rw[h];omega
theorem ajm(n:Nat):Out (n+1) (fnR (noneR n)):=abi (acu n)
theorem alx{n:Nat}{E:List (List Int)}(hE:CnE (n+1) E){r:List Int}(hr:r∈E)(h:leadN r=n):RS (E.map fnR) (fnR (noneR n)):=by
 have h1:=(hE.leadN hr).1;rw[h]at h1;refine(RS.mem (List.mem_map.2 ⟨r,hr,rfl⟩)).div h1.1 (fun k=>?_);rw[ak5];rcases Nat.lt_trichotomy k n with hk|hk|hk
 ·rw[if_neg (by omega),h1.2 k hk,Int.mul_zero]
 ·rw[if_pos hk,hk,Int.mul_one]
 ·rw[if_neg (by omega),abi (hE.row r hr) k hk,Int.mul_zero]
def stepsOf(n:Nat)(low:List (List Int)):List (List Int):=(low.drop 1).map (List.take n)
structure KeptF (n:Nat) (E Lf:List (List Int)):Prop where
 can:CnE (n+1) E
 small:∀r∈E,r.any big=false
 mir:MirR n E Lf
 ne:Lf≠[]
 eqs:Perp (n+1) E Lf
 lfs:Perp (n+1) Lf E
def Kept(n:Nat)(E Lf:List (List Int)):Prop:=(Lf = []/\E = [noneR n])\/KeptF n E Lf
theorem KeptF.mirs{n:Nat}{E Lf:List (List Int)}(h:KeptF n E Lf):(∀r∈E,leadN r<n)/\∃p St,Mirs n E Lf p St:=ag4 h.can h.mir h.ne
theorem Mirs.row{n:Nat}{E Lf:List (List Int)}{p:List Rat}{St:List (List Int)}(h:Mirs n E Lf p St):∀l∈Lf,l.length=n+1:=by
 rw[h.lf];intro l hl;rcases List.mem_cons.1 hl with rfl|hl
 ·rw[abl,h.pl]
 ·exact a1m h.can.row l hl
theorem Mirs.base{n:Nat}{E Lf:List (List Int)}{p:List Rat}{St:List (List Int)}(h:Mirs n E Lf p St):liftZ p∈Lf/\fnR (liftZ p) n≠0:=by
 refine⟨by rw[h.lf];exact List.mem_cons_self ..,?_⟩;have:=afg p;rwa[h.pl]at this
theorem KeptF.row{n:Nat}{E Lf:List (List Int)}(h:KeptF n E Lf):∀l∈Lf,l.length=n+1:=by
 obtain⟨_,p,St,hm⟩:=h.mirs;exact hm.row
theorem Kept.row{n:Nat}{E Lf:List (List Int)}(h:Kept n E Lf):(∀e∈E,e.length=n+1)/\∀l∈Lf,l.length=n+1:=by
 rcases h with⟨rfl,rfl⟩|h
 ·exact⟨fun e he=>by rw[List.mem_singleton.1 he,acu],fun l hl=>by cases hl⟩
 ·exact⟨h.can.row,h.row⟩
theorem a1n{n:Nat}{E:List (List Int)}(h:∀e∈E,e.length=n+1):∀r∈fac n E,r.length=n:=fun r hr=>by
 obtain⟨e,he,rfl⟩:=List.mem_map.1 hr;rw[List.length_take,h e he];omega
theorem aq1{n:Nat}{ls low E0 E1:List (List Int)}{p:List Rat}{St:List (List Int)}(hl:∀z∈ls,z.length=n+1)(c0:CnE (n+1) E0)(k2:Perp (n+1) E0 ls)(hm:Mirs n E0 low p St)(c1:CnE (n+1) E1)(j2:Perp (n+1) E1 low):E0=E1:=by
 have hlow:∀z∈ls,RS (low.map fnR) (fnR z):=fun z hz=>(hm.perp _ (abi (hl z hz))).2 fun b hb=>by
  rw[aa7];exact(k2 _ (abi (c0.row b hb))).1 (.mem (List.mem_map.2 ⟨b,hb,rfl⟩)) z hz
 refine ajk c0 c1 (fun a ha=>(j2 _ (abi (c0.row a ha))).2 fun l hll=>?_) (fun b hb=>(k2 _ (abi (c1.row b hb))).2 fun z hz=>?_)
 ·rw[aa7];exact hm.perp.dot hm.row l hll a ha
 ·rw[aa7];refine adu (fun x hx=>?_) (hlow z hz);obtain⟨l,hll,rfl⟩:=List.mem_map.1 hx;rw[aa7];exact j2.dot c1.row b hb l hll
theorem ahz{n:Nat}{ls low eqs:List (List Int)}(hl:∀z∈ls,z.length=n+1)(h:LowR n ls low)(ht:TwiR n low eqs):Kept n eqs low/\(∀l∈low,RS (ls.map fnR) (fnR l))/\∀y,Out (n+1) y->(Hld n low y↔(∀z∈ls,fnR z n=0)\/Hld n ls y):=by
 rcases h with⟨h1,rfl⟩|⟨⟨z,hz,hz0⟩,R,Q,hE,hbig,hM⟩
 ·rcases ht with⟨_,rfl⟩|⟨h2,_⟩
  ·exact⟨.inl ⟨rfl,rfl⟩,fun l hl=>(by cases hl),fun y _=>⟨fun _=>.inl h1,fun _ l hl=>by cases hl⟩⟩
  ·exact absurd rfl h2
 ·have c0:=aea hE;obtain⟨k1,k2⟩:=adj hE hl;generalize elR (n+1) (kerE (n+1) R Q)=E0 at *
  have hno:¬RS (E0.map fnR) (fnR (noneR n)):=fun hr=>by
   have h1:=(k2 _ (ajm n)).1 hr z hz;rw[ag5]at h1;exact hz0 h1
  have hne:low≠[]:=by
   rcases hM with⟨⟨r,hr,h1⟩,_⟩|⟨_,R2,Q2,_,_,_,rfl⟩
   ·exact absurd (alx c0 hr h1) hno
   ·simp
  obtain⟨_,p,St,hm⟩:=ag4 c0 hM hne;rcases ht with⟨h2,_⟩|⟨_,R2,Q2,hE2,hb2,rfl⟩
  ·exact absurd h2 hne
  obtain⟨j1,j2⟩:=adj hE2 hm.row;have c1:=aea hE2;generalize elR (n+1) (kerE (n+1) R2 Q2)=E1 at *
  have he:=aq1 hl c0 k2 hm c1 j2;subst he;refine⟨.inr ⟨c0,hbig,hM,hne,j2,hm.perp⟩,fun l hll=>(k1 _ (abi (hm.row l hll))).2 fun b hb=>hm.perp.dot hm.row l hll b hb,fun y hy=>?_⟩;constructor
  ·intro hh;exact .inr ((k2 y hy).1 ((j2 y hy).2 hh))
  ·rintro (hh|hh)
   ·exact absurd (hh z hz) hz0
   ·exact(j2 y hy).1 ((k2 y hy).2 hh)
theorem aiz(n:Nat):leadN (noneR n)=n:=(aey n).n
theorem avz{n:Nat}{rows low lf:List (List Int)}(hl:∀z∈rows,z.length=n+1)(h:LowRE n rows low)(hM:MirR n low lf):Kept n low lf/\∀y,Out (n+1) y->(Hld n lf y↔Cls n rows y):=by
 rcases h with⟨h1,rfl⟩|⟨hno,R,Q,hE,hbig,rfl⟩
 ·rcases hM with⟨_,rfl⟩|⟨h2,_⟩
  ·exact⟨.inl ⟨rfl,rfl⟩,fun y _=>⟨fun _=>.inl h1,fun _ l hl=>by cases hl⟩⟩
  ·have:=h2 _ (List.mem_singleton.2 rfl);rw[aiz]at this;omega
 ·have c0:=ak4 hE hl;have hrs:=aof hE hl;generalize (baR R Q (n+1)).map red=E0 at *
  have hne:lf≠[]:=by
   rcases hM with⟨⟨r,hr,h1⟩,_⟩|⟨_,R2,Q2,_,_,_,rfl⟩
   ·exact absurd ((hrs _).1 (alx c0 hr h1)) hno
   ·simp
  obtain⟨_,p,St,hm⟩:=ag4 c0 hM hne;have hp:Perp (n+1) lf rows:=fun y hy=>by
   rw[hm.perp y hy];constructor
   ·intro h r hr;rw[aa7];refine adu (fun x hx=>?_) ((hrs _).2 (.mem (List.mem_map.2 ⟨r,hr,rfl⟩)));obtain⟨e,he,rfl⟩:=List.mem_map.1 hx;rw[aa7];exact h e he
   ·intro h e he;rw[aa7];refine adu (fun x hx=>?_) ((hrs _).1 (.mem (List.mem_map.2 ⟨e,he,rfl⟩)));obtain⟨r,hr,rfl⟩:=List.mem_map.1 hx;rw[aa7];exact h r hr
  have hq:=ave hE hl hm.row hp;refine⟨.inr ⟨c0,hbig,hM,hne,fun y hy=>(hrs y).trans (hq y hy),hm.perp⟩,fun y hy=>?_⟩;constructor
  ·intro hh;exact .inr ((hq y hy).2 hh)
  ·rintro (hh|hh)
   ·exact absurd hh hno
   ·exact(hq y hy).1 hh
end Lm
namespace Lm
open Go Go.RowKit Md
structure BigF (n:Nat) (E0:List (List Int)):Prop where
 can:CnE (n+1) E0
 pt:¬RS (E0.map fnR) (fnR (noneR n))
 why:(∃r∈E0,r.any big=true)\/MirBig n E0
theorem errL{n:Nat}{ls:List (List Int)}(hl:∀z∈ls,z.length=n+1)(h:BErrL n ls):∃E0,BigF n E0/\∀y,Out (n+1) y->(RS (E0.map fnR) y↔(∀z∈ls,fnR z n=0)\/Hld n ls y):=by
 have hcore:∀ {R:List Md.Rw} {Q:List Nat},Ech (n+1) (mir ls) R Q->(∃z∈ls,fnR z n≠0)->((∃r∈elR (n+1) (kerE (n+1) R Q),r.any big=true)\/MirBig n (elR (n+1) (kerE (n+1) R Q)))->∃E0,BigF n E0/\∀y,Out (n+1) y->(RS (E0.map fnR) y↔(∀z∈ls,fnR z n=0)\/Hld n ls y):=by
  rintro R Q hE ⟨z,hz,hz0⟩ hw;obtain⟨k1,k2⟩:=adj hE hl;refine⟨_,⟨aea hE,fun hr=>?_,hw⟩,fun y hy=>⟨fun h=>.inr ((k2 y hy).1 h),fun h=>?_⟩⟩
  ·have h1:=(k2 _ (ajm n)).1 hr z hz;rw[ag5]at h1;exact hz0 h1
  ·rcases h with h|h
   ·exact absurd (h z hz) hz0
   ·exact(k2 y hy).2 h
 rcases h with⟨hz,R,Q,hE,hw⟩|⟨low,h,hne,R2,Q2,hE2,hb⟩
 ·exact hcore hE hz hw
 ·rcases h with⟨_,rfl⟩|⟨⟨z,hz,hz0⟩,R,Q,hE,hbig,hM⟩
  ·exact absurd rfl hne
  ·have c0:=aea hE;obtain⟨k1,k2⟩:=adj hE hl;obtain⟨_,p,St,hm⟩:=ag4 c0 hM hne;obtain⟨j1,j2⟩:=adj hE2 hm.row;have he:=aq1 hl c0 k2 hm (aea hE2) j2;rw[<-he]at hb;obtain⟨r,hr,h1⟩:=hb;rw[hbig r hr]at h1;cases h1
theorem errE{n:Nat}{rows:List (List Int)}(hl:∀z∈rows,z.length=n+1)(h:BErrE n rows):∃E0,BigF n E0/\∀y,Out (n+1) y->(RS (E0.map fnR) y↔Cls n rows y):=by
 rcases h with⟨hno,R,Q,hE,hb⟩|⟨low,h,hM⟩
 ·have hrs:=aof hE hl;refine⟨_,⟨ak4 hE hl,fun h=>hno ((hrs _).1 h),.inl hb⟩,fun y _=>⟨fun h=>.inr ((hrs y).1 h),fun h=>?_⟩⟩;rcases h with h|h
  ·exact absurd h hno
  ·exact(hrs y).2 h
 ·rcases h with⟨h1,rfl⟩|⟨hno,R,Q,hE,hbig,rfl⟩
  ·have:=hM.1 _ (List.mem_singleton.2 rfl);rw[aiz]at this;omega
  ·have hrs:=aof hE hl;refine⟨_,⟨ak4 hE hl,fun h=>hno ((hrs _).1 h),.inr hM⟩,fun y _=>⟨fun h=>.inr ((hrs y).1 h),fun h=>?_⟩⟩;rcases h with h|h
   ·exact absurd h hno
   ·exact(hrs y).2 h
theorem aq2{S T:List Md.Rw}(h:Ind S)(hs:∀s∈S,RS T s):S.length<=T.length:=by
 obtain⟨T',h1,_⟩:=ann h hs;omega
end Lm
namespace Lm
open Go Go.RowKit Md
theorem aq3{N:Nat}{r:List Int}{p:Nat}(hp:p<N)(hl:Lead r p)(hn:r.length=N)(hr:red r=r):CnE N [r]:=by
 refine⟨[(p,fnR r)],⟨List.pairwise_singleton ..,fun e he=>?_,fun e he f hf hne=>?_,fun e he k hk=>?_⟩,fun e he=>?_,fun e he c hc=>?_,?_⟩
 ·obtain rfl:=List.mem_singleton.1 he;exact hl.1
 ·obtain rfl:=List.mem_singleton.1 he;obtain rfl:=List.mem_singleton.1 hf;exact absurd rfl hne
 ·obtain rfl:=List.mem_singleton.1 he;exact hl.2 k hk
 ·obtain rfl:=List.mem_singleton.1 he;exact hp
 ·obtain rfl:=List.mem_singleton.1 he;exact abi hn c hc
 ·show [r] = [red (gRow (fnR r) N)];rw[ayn hn,hr]
def awP:List (List Rat):=[[0,0],[1,2],[2,4]]
theorem ag6:awP.map liftZ = [[0,0,-1],[1,2,-1],[2,4,-1]]:=by decide +kernel
theorem av0:Lead [2,-1,0] 0:=⟨by decide,fun k hk=>by omega⟩
theorem a29:Lead [1,2] 0:=⟨by decide,fun k hk=>by omega⟩
theorem a3a:Lead [1,2,0] 0:=⟨by decide,fun k hk=>by omega⟩
theorem a37:CnE 3 [[2,-1,0]]:=aq3 (by decide) av0 rfl (by decide +kernel)
theorem a38:CnE 2 [[1,2]]:=aq3 (by decide) a29 rfl (by decide +kernel)
theorem dot3(x y:Md.Rw):dotN 3 x y=x 0*y 0+x 1*y 1+x 2*y 2:=by
 rw[aa2,aa2,aa2];simp[dotN,sumL]
theorem dot2(x y:Md.Rw):dotN 2 x y=x 0*y 0+x 1*y 1:=by
 rw[aa2,aa2];simp[dotN,sumL]
theorem av1{E0:List (List Int)}(hc:CnE 3 E0)(h:∀y,Out 3 y->(RS (E0.map fnR) y↔Hld 2 (awP.map liftZ) y)):E0 = [[2,-1,0]]:=by
 rw[ag6]at h;refine ajk hc a37 (fun a ha=>?_) (fun b hb=>?_)
 ·have ho:=abi (hc.row a ha);have h1:=(h _ ho).1 (.mem (List.mem_map.2 ⟨a,ha,rfl⟩));have g0:=h1 [0,0,-1] (by simp);have g1:=h1 [1,2,-1] (by simp);rw[dot3]at g0 g1;have e0:fnR a 0*0+fnR a 1*0+fnR a 2*-1=0:=g0;have e1:fnR a 0*1+fnR a 1*2+fnR a 2*-1=0:=g1;refine(RS.mem (x:=fnR [2,-1,0]) (by simp)).smul (-(fnR a 1)) (fun k=>?_)
  match k with
  |0=>show fnR a 0 = -(fnR a 1)*2;omega
  |1=>show fnR a 1 = -(fnR a 1)*-1;omega
  |2=>show fnR a 2 = -(fnR a 1)*0;omega
  |k+3=>
   rw[ho (k+3) (by omega),acc (zs:=[2,-1,0]) (by simp)];omega
 ·obtain rfl:=List.mem_singleton.1 hb;refine(h _ (abi rfl)).2 (fun l hl=>?_);rw[dot3];simp only[List.mem_cons,List.not_mem_nil,or_false]at hl;rcases hl with rfl|rfl|rfl <;> decide
theorem aog{St:List (List Int)}(hc:CnE 2 St)(h:Perp 2 St (fac 2 [[2,-1,0]])):St = [[1,2]]:=by
 refine ajk hc a38 (fun a ha=>?_) (fun b hb=>?_)
 ·have ho:=abi (hc.row a ha);have h1:=(h _ ho).1 (.mem (List.mem_map.2 ⟨a,ha,rfl⟩)) [2,-1] (by simp[fac]);rw[dot2]at h1;have e1:fnR a 0*2+fnR a 1*-1=0:=h1;refine(RS.mem (x:=fnR [1,2]) (by simp)).smul (fnR a 0) (fun k=>?_)
  match k with
  |0=>show fnR a 0=fnR a 0*1;omega
  |1=>show fnR a 1=fnR a 0*2;omega
  |k+2=>
   rw[ho (k+2) (by omega),acc (zs:=[1,2]) (by simp)];omega
 ·obtain rfl:=List.mem_singleton.1 hb;refine(h _ (abi rfl)).2 (fun l hl=>?_);have hl:l = [2,-1]:=by simpa[fac]using hl
  subst hl;rw[dot2];decide
theorem ass:¬∀z∈awP.map liftZ,fnR z 2=0:=by
 rw[ag6];intro h;have:=h [0,0,-1] (by simp);exact absurd this (by decide)
theorem aoh:∀z∈awP.map liftZ,z.length=3:=by
 rw[ag6];decide
theorem a3b(h:BErrL 2 (awP.map liftZ)):False:=by
 obtain⟨E0,hb,hr⟩:=errL aoh h;have he:=av1 hb.can (fun y hy=>(hr y hy).trans ⟨fun h=>h.resolve_left ass,.inr⟩);subst he;rcases hb.why with⟨r,hr,h1⟩|⟨_,R,Q,hR,hw⟩
 ·obtain rfl:=List.mem_singleton.1 hr
  revert h1;decide +kernel
 ·have hs:=aog (aea hR) (adj hR (a1n (E:=[[2,-1,0]]) (by decide))).2;rw[hs]at hw;rcases hw with⟨r,hr,h1⟩|⟨q,hq,h1⟩
  ·obtain rfl:=List.mem_singleton.1 hr
   revert h1;decide +kernel
  ·have e:mPt 2 [[2,-1,0]] [[1,2]] = [0,0]:=by
    unfold mPt ptQ;simp only[List.foldl_cons,List.foldl_nil,zro,List.map_cons,List.map_nil,basZ,av0.n,List.cons_append,List.nil_append,a3a.n];decide +kernel
   rw[e]at hq;simp only[List.mem_cons,List.not_mem_nil,or_false,or_self]at hq;subst hq
   revert h1;decide +kernel
theorem a1o{E Lf:List (List Int)}(hl:LowR 2 (awP.map liftZ) Lf)(ht:TwiR 2 Lf E):E = [[2,-1,0]]/\stepsOf 2 Lf = [[1,2]]/\Lf.length=2:=by
 obtain⟨hk,_,hh⟩:=ahz aoh hl ht;rcases hk with⟨rfl,_⟩|hk
 ·have h1:=(hh _ (ajm 2)).1 (fun l hl=>by cases hl);rcases h1 with h1|h1
  ·exact absurd h1 ass
  ·rw[ag6]at h1;have h2:=h1 [0,0,-1] (by simp);rw[ag5]at h2;exact absurd h2 (by decide)
 ·have he:=av1 hk.can (fun y hy=>(hk.eqs y hy).trans ((hh y hy).trans ⟨fun h=>h.resolve_left ass,.inr⟩));subst he;obtain⟨_,p,St,hm⟩:=hk.mirs;have hs:=aog hm.can hm.snd;subst hs;rw[hm.lf];exact⟨rfl,rfl,rfl⟩
end Lm
namespace Lm
open Go Go.RowKit Md
theorem trimF(w:World)(x:Int)(vx:Value)(L:Nat)(hx:IsW x L vx w)(hL:L<=400000000):
  Calls Tryz.prog 57 #[vx] w fun e w'=>∃v,e=.returned v/\FrW w.heap.size x L v w'/\Below w.heap.size w w':=by
 obtain⟨n1,a1,m1,c1,xs,rfl,A1,l1⟩:=hx;refine(a0d w n1 a1 m1 c1 xs A1.sl (by omega)).mono ?_;rintro e w' ⟨ng,ao,cap,rs,rfl,hw,hl,hli,hb⟩;rw[A1.worth]at hw;exact⟨_,rfl,FrW.of_li hw hli (Nat.le_refl _) (by omega),hb⟩
theorem afx(w:World)(v:Value)(zs:List Int)(L n:Nat)(h:IsRow w v zs L)(hln:zs.length=n)(hn:n<=100000)(hL:L<=20000000):
  Calls Tryz.prog 44 #[v] w fun e w'=>∃r,e=.returned r/\ORow w.heap.size w' r zs L/\Below w.heap.size w w':=by
 have hzb:=abh h;obtain⟨al,cl,rfl,_⟩:=h.parts;rw[hln]at h ⊢;have HL:=hide h;have HLN:=hide hln;obtain⟨iW,hi,hz0,hz1,hz2⟩:=info_parts infoWz;clear h hln hzb;go_enter Tryz.func44,Tryz.ntmps44
 go_wp2_with (refine wpList_make_full _ rfl (.tmp 7) (.tmp 7) 39 rfl w.heap.size 45 iW (.agg #[.bool false,.slice none 0 0]) 2 Tryz.underlying39 hi hz0 hz1 .i64 .i64 _ _ n rfl rfl (by omega) (by omega) (by rw[hz2];omega) (by unfold maxLen;omega) (Nat.le_refl _) ?hK)
 case hK=>
  intro w2 hown hgrow;have hb2:Below w.heap.size w w2:=(Below.refl _ _).grown hgrow (Nat.le_refl _) (by simp);obtain⟨_,hmb⟩:=ac5 hown;rw[ad1]at hmb;obtain⟨bv,hbv⟩:∃bv,w.heap.size=bv:=⟨_,rfl⟩;rw[hbv]at hmb;have HBV:Hid (w.heap.size<=bv):=(show _<=_ by omega);have HP0:=hide (PRow.start (K:=w.heap.size) (zs:=zs) (L:=L) hmb);have HB:=hide hb2;clear hown hgrow hmb hb2;rw[hbv];go_wp2;go_loopw [11] (fun iv wr=>∃(k:Nat),iv=.int .i64 k/\k<=n/\Below w.heap.size w wr/\PRow w.heap.size wr bv n k zs L) (fun iv _=>n-(intOf iv).toNat)
  case atStart=>exact⟨0,rfl,Nat.zero_le _,HB.out,HP0.out⟩
  case round=>
   obtain⟨k,rfl,hk,hbw,hpr⟩:=hrel;by_cases hlt:k<n
   ·have hlt':(k:Int)<(n:Int):=by omega
    obtain⟨zk,hzk⟩:∃z,zs[k]? = some z:=⟨_,List.getElem?_eq_getElem (by have:=HLN.out;omega)⟩;obtain⟨bl,ol,ng1,a1,m1,c1,rfl,hll,x0,x1,hx⟩:=HL.out.cell (k:=k) (z:=zk) hzk;have HZK:=hide hzk;have x0':=(hbw.cell (p:=⟨bl,ol+k*2,none⟩) hll).trans x0;have x1':=(hbw.cell (p:=⟨bl,ol+k*2+1,none⟩) hll).trans x1;have hA:=hAl wr (.cells #[.bool ng1,.slice a1 m1 c1] 45);have hall:=hbw.trans (hA.mono hbw.size);have K1:=hide (trimF (wr.alloc (.cells #[.bool ng1,.slice a1 m1 c1] 45)) zk _ L (hx.ru (Ru.of_below hall)) (by omega));have HW:=hide hall;have HPR:=hide (hpr.below hA);clear hbw hpr hx hzk x0 x1 hA hall;go_wp2_with fail
    refine K1.out.mono ?_;rintro e w3 ⟨vt,rfl,hT,hb3⟩;obtain⟨ng5,a5,m5,c5,rfl⟩:=hT.agg;obtain⟨⟨ngp,ap,mp,cp',e0,e1⟩,pf0,pf1⟩:=(HPR.out.below hb3).cells hlt;obtain⟨t1,t2⟩:=HPR.out.put (Nat.le_refl _) hb3 hlt HZK.out HW.out.size hT;have HT1:=hide t1;have HT2:=hide (HW.out.trans (t2.below HW.out.size HBV.out HBV.out));clear t1 t2 hT hb3 K1 x0' x1';go_wp2;go_roundw
    case rel=>exact⟨k+1,by go_num,by omega,HT2.out,HT1.out⟩
    case measure=>simp[intOf];omega
   ·have hlt':decide ((k:Int)<(n:Int))=false:=by simp;omega
    obtain rfl:n=k:=by omega
    have HW:=hide hbw;have HPR:=hide hpr;clear hbw hpr;go_wp2;refine bodyPost_ret (v:=_) (by simp[results,Tryz.results44,go_sem];try rfl) rfl ⟨_,rfl,⟨_,by rw[HLN.out],HBV.out,by rw[HLN.out];exact HPR.out,by rw[HLN.out];omega⟩,HW.out⟩
def GrC(K:Nat)(zs:List Int)(L:Nat):Says:=fun v w=>∃es,RwO K w v es/\es.length=zs.length/\∀(k:Nat) (e:WE) (z:Int),es[k]? = some e->zs[k]? = some z->Canon e.zs/\val e.zs=(z.natAbs:Int)/\e.ng=decide (z<0)/\e.zs.length<=L
theorem ORow.grc{K:Nat}{w:World}{v:Value}{zs:List Int}{L:Nat}(h:ORow K w v zs L):GrC 0 zs L v w:=by
 obtain⟨bv,rfl,hK,⟨es,B,T,e1,e2,e3,e4,e5⟩,hl⟩:=h;refine⟨es,⟨⟨aa0 es,.inr ⟨bv,zs.length,_,by rw[e1],Nat.zero_le _,e2,by omega,by unfold maxLen;omega,?_,?_⟩⟩,fun e he=>?_⟩,e1,fun k e z hk hz=>?_⟩
 ·simp[aa0,e1]
 ·rw[<-aa0];simp
 ·obtain⟨k,hk⟩:=List.mem_iff_getElem?.1 he;have hkl:=(List.getElem?_eq_some_iff.1 hk).1;obtain⟨z,hz⟩:∃z,zs[k]? = some z:=⟨_,List.getElem?_eq_getElem (by omega)⟩;obtain⟨g1,g2,_,g4,_⟩:=e4 k e z (by omega) hk hz;have:=g1.fr.ow.mono (Nat.zero_le _);rwa[<-g2]at this
 ·have hkl:=(List.getElem?_eq_some_iff.1 hk).1;obtain⟨g1,g2,g3,_⟩:=e4 k e z (by omega) hk hz;exact⟨g1.fr.canon,g1.fr.val,g1.sgn,g3⟩
theorem GrC.mono(K:Nat)(zs:List Int)(L:Nat):Mono (GrC K zs L):=fun _ _ _ hb ⟨es,h1,h2⟩=>⟨es,h1.below hb,h2⟩
theorem GrC.can{K:Nat}{zs:List Int}{L:Nat}{v:Value}{w:World}(h:GrC K zs L v w):CanRow w v zs L:=by
 obtain⟨es,h1,h2⟩:=h;exact⟨es,h1.rw,h2⟩
theorem GrC.keep{K K' L:Nat}{z:List Int}{u v:Value}{w w':World}{n:Nat}{xs:List Value}(h:GrC K' z L u w)(hv:w.ownsRow K 39 1 v n xs)(hg:w.grownBy w' v.ownBlock):GrC K' z L u w':=by
 obtain⟨es,h1,h2⟩:=h;obtain⟨c,hc⟩:=akc hv;refine⟨es,h1.keep hg hc (by decide) (fun g hg1 hg2=>?_),h2⟩;obtain⟨c',hc'⟩:=h1.row;exact aau (hc g hg1) (hc' g hg2) (by decide) rfl
def LsC(w0 wr:World)(v:Value)(k:Nat)(rows:List (List Int))(L:Nat):Prop:=Below w0.heap.size w0 wr/\rows.length=k/\∃vs:List Value,wr.ownsRow w0.heap.size 39 1 v k vs/\∀(i:Nat) (u:Value) (z:List Int),vs[i]? = some u->rows[i]? = some z->GrC 0 z L u wr
theorem LsC.below{w0 wr w':World}{v:Value}{k:Nat}{rows:List (List Int)}{L:Nat}(h:LsC w0 wr v k rows L)(hb:Below wr.heap.size wr w'):LsC w0 w' v k rows L:=by
 obtain⟨h1,h2,vs,h3,h4⟩:=h;exact⟨h1.trans (hb.mono h1.size),h2,vs,ab9 h3 hb,fun i u z a b=>GrC.mono _ _ _ _ _ _ hb (h4 i u z a b)⟩
theorem LsC.canM{w0 wr:World}{v:Value}{k:Nat}{rows:List (List Int)}{L:Nat}(h:LsC w0 wr v k rows L):CanM wr v rows L:=by
 obtain⟨h1,h2,vs,h3,h4⟩:=h;exact⟨vs,by rw[h2];exact Ce.own h3,fun i u z a b=>(h4 i u z a b).can⟩
section
variable {dst:Option Tmp} {ty:TypeId} {pos:String} {after:Array Edge} {guard:Option (Nat×Bool)} {a:Act} {w:World} {i j:Nat}
theorem ak6{g k L:Nat}{w0:World}{lw u:Value}{rows:List (List Int)}{z:List Int}{au:Option Addr}{nu cu:Nat}(h1:a.eval (.tmp i)=lw)(hS:LsC w0 w lw k rows L)(h2:a.eval (.tmp j)=.slice (some ⟨g,0,none⟩) 1 1)(hg:w.heap[g]? = some (.cells #[u] 39 (0,0)))(hu:GrC 0 z L u w)(hus:u=.slice au nu cu)(hk:k<=1000):
  Does Tryz.prog {dst,op:=.call {callee:=.builtin .append,args:=#[.tmp i,.tmp j],argTypes:=#[23,23]},type:=ty,pos,after,guard} a.eval w fun v' w'=>LsC w0 w' v' (k+1) (rows ++ [z]) L:=by
 obtain⟨i0,hi,hz0,hz1,hz2⟩:=info_parts an8;have hnew:∀k x,[u][k]? = some x->w.cell? ((⟨g,0,none⟩:Addr).add k)=some x:=fun k x hx=>by
  have hc:∀k,w.cell? ⟨g,k,none⟩ = #[u][k]? :=fun k=>cell_of_row w g k _ _ (0,0) hg
  have ha:(⟨g,0,none⟩:Addr).add k=⟨g,k,none⟩:=by unfold Addr.add;split <;> simp_all
  rw[ha,hc];simpa using hx
 have h1u:∀x ∈ [u],x.oneCell'=true:=fun x hx=>by
  obtain rfl:=List.mem_singleton.1 hx;subst hus;rfl
 obtain⟨hb,hl,vs,hown,hrows⟩:=hS;have hvl:vs.length=k:=by have:=hown.1;simp at this;omega
 obtain⟨v',w',hr,ho,hgr,_⟩:=run_append_own (P:=Tryz.prog) w w0.heap.size 23 ty 39 i0 _ 1 24 Tryz.underlying23 hi hz0 hz1 hz2 rfl (by decide) _ k _ hown ⟨g,0,none⟩ 1 1 [u] rfl hnew h1u (by simp[maxLen];omega) (by omega) hb.size;have e:(execOp a.eval {dst,op:=.call {callee:=.builtin .append,args:=#[.tmp i,.tmp j],argTypes:=#[23,23]},type:=ty,pos,after,guard}).run Tryz.prog w=.ok (.value v') w':=by
  simp only[execOp,resolve,invoke,builtin,Sem.run_bind,Sem.run_pure,Result.andThen_ok,List.map_toArray,List.map_cons,List.map_nil,h1,h2,hr]
 refine⟨?_⟩;unfold Turns;rw[e];refine⟨hb.grown hgr hb.size (fun q hq=>?_),by simp[hl],vs ++ [u],ho,fun i x y hx hy=>?_⟩
 ·rcases hown.2 with⟨rfl,_⟩|⟨g',cap,cur,rfl,hg',_⟩
  ·simp[Value.ownBlock]at hq
  ·simp only[Value.ownBlock,Option.some.injEq]at hq;omega
 ·by_cases hi:i<k
  ·rw[List.getElem?_append_left (by omega)]at hx hy;exact(hrows i x y hx hy).keep hown hgr
  ·rw[List.getElem?_append_right (by omega)]at hx hy;rw[hvl]at hx;rw[hl]at hy
   match hm:i-k with
   |0=>
    rw[hm]at hx hy;simp at hx hy;subst hx hy;exact hu.keep hown hgr
   |m+1=>
    rw[hm]at hx;simp at hx
end
end Lm
namespace Lm
open Go Go.RowKit Md
theorem ag9(w:World)(g n:Nat)(se sl:Value)(eqs:List (List Int))(L:Nat)(hS:SpanEL w g n se sl)(hE:IsM w se eqs L)(hel:∀r∈eqs,r.length=n+1)(hn:n<=16)(hm:eqs.length<=100)(hL:L<=1000):
  Calls Tryz.prog 10 #[.pointer (some ⟨g,0,none⟩)] w fun e w'=>∃v,e=.returned v/\CanM w' v eqs L/\Below w.heap.size w w':=by
 have K1:=hide (aoc hS);have HE:=hide hE;have HEL:=hide hel;obtain⟨ae,ce,rfl,_⟩:=hE.parts;obtain⟨m,hmm⟩:∃m,eqs.length=m:=⟨_,rfl⟩;rw[hmm]at HE hm K1;have HM:=hide hmm;clear hS hE hel hmm;go_enter Tryz.func10,Tryz.ntmps10
 go_wp2_with fail
 refine K1.out.mono ?_;rintro e w1 ⟨rfl,hb1⟩;have HB1:=hide hb1;clear hb1 K1;go_wp2;go_loopw [3,9] (fun lw iv wr=>∃(k:Nat),iv=.int .i64 k/\k<=m/\LsC w wr lw k (eqs.take k) L) (fun _ iv _=>m-(intOf iv).toNat)
 case atStart=>exact⟨0,rfl,Nat.zero_le _,HB1.out,rfl,[],World.ownsRow_nil _ _ _ _,fun i u z hu=>by simp at hu⟩
 case round=>
  obtain⟨k,rfl,hk,hst⟩:=hrel;by_cases hlt:k<m
  ·have hlt':(k:Int)<(m:Int):=by omega
   obtain⟨z,hz⟩:∃z,eqs[k]? = some z:=⟨_,List.getElem?_eq_getElem (by have:=HM.out;omega)⟩;obtain⟨b,off,u,rfl,hbl,hu,hur⟩:=(HE.out.below hst.1).cell hz;have hzl:=HEL.out z (List.mem_of_getElem? hz);have K:=hide (afx wr u z L (n+1) hur hzl (by omega) (by omega));obtain⟨au,cu,rfl,_⟩:=hur.parts;have HST:=hide hst;have HGZ:Hid (eqs.take (k+1)=eqs.take k ++ [z]):=(show _=_ by rw[List.take_add_one,hz];simp);have HZL:=hide hzl;clear hst hur hz hzl;go_wp2_with fail
   refine K.out.mono ?_;rintro e w3 ⟨r,rfl,hor,hb3⟩;have hst3:=HST.out.below hb3;have hgs:=hor.grc;obtain⟨bv,rfl,_⟩:=hor;rw[HZL.out]at hgs;have hA3:=hAl w3 (.cells #[.slice (some ⟨bv,0,none⟩) (n+1) (n+1)] 39);have hn3:=heap_alloc_new w3 (.cells #[.slice (some ⟨bv,0,none⟩) (n+1) (n+1)] 39);have hst4:=hst3.below hA3;have hgs4:=GrC.mono _ _ _ _ _ _ hA3 hgs;clear hst3 hgs hA3 hb3 K;rw[HZL.out];go_wp2_with (at_builtin;refine ab4 rfl (ak6 (i:=13) (j:=16) rfl hst4 rfl hn3 hgs4 rfl (by omega)) ?_)
   intro v2 w4 hst5;have HS5:=hide hst5;clear hst4 hn3 hgs4 hst5;go_wp2;go_roundw
   case rel=>exact⟨k+1,by go_num,by omega,by rw[HGZ.out];exact HS5.out⟩
   case measure=>simp[intOf];omega
  ·have hlt':decide ((k:Int)<(m:Int))=false:=by simp;omega
   obtain rfl:m=k:=by omega
   rw[List.take_of_length_le (by have:=HM.out;omega)]at hst;have HC:=hide hst.canM;have HW:=hide hst.1;obtain⟨ao,cp,rfl,_⟩:=HC.out.parts;clear hst;go_wp2;refine bodyPost_ret (v:=_) (by simp[results,Tryz.results10,go_sem];try rfl) rfl ⟨_,rfl,HC.out,HW.out⟩
theorem ake(w:World)(g n:Nat)(se sl:Value)(low:List (List Int))(L:Nat)(hS:SpanEL w g n se sl)(hE:IsM w sl low L)(hel:∀r∈low,r.length=n+1)(hn:n<=16)(hm:low.length<=100)(hL:L<=1000):
  Calls Tryz.prog 15 #[.pointer (some ⟨g,0,none⟩)] w fun e w'=>∃v,e=.returned v/\CanM w' v (stepsOf n low) L/\Below w.heap.size w w':=by
 have K1:=hide (aez hS);have HE:=hide hE;have HEL:=hide hel;have HS:=hide hS;obtain⟨ae,ce,rfl,_⟩:=hE.parts;obtain⟨m,hmm⟩:∃m,low.length=m:=⟨_,rfl⟩;rw[hmm]at HE hm K1;have HM:=hide hmm;obtain⟨hgl,c0⟩:=hS.num;have HC0:=hide c0;clear hS hE hel hmm c0;go_enter Tryz.func15,Tryz.ntmps15
 go_wp2_with fail
 refine K1.out.mono ?_;rintro e w1 ⟨rfl,hb1⟩;have HB1:=hide hb1;clear hb1 K1;go_wp2;go_loopw [3,9] (fun lw iv wr=>∃(k:Nat),iv=.int .i64 k/\k<=m/\LsC w wr lw (k-1) (stepsOf n (low.take k)) L) (fun _ iv _=>m-(intOf iv).toNat)
 case atStart=>exact⟨0,rfl,Nat.zero_le _,HB1.out,rfl,[],World.ownsRow_nil _ _ _ _,fun i u z hu=>by simp at hu⟩
 case round=>
  obtain⟨k,rfl,hk,hst⟩:=hrel;by_cases hlt:k<m
  ·have hlt':(k:Int)<(m:Int):=by omega
   obtain⟨z,hz⟩:∃z,low[k]? = some z:=⟨_,List.getElem?_eq_getElem (by have:=HM.out;omega)⟩;obtain⟨b,off,u,rfl,hbl,hu,hur⟩:=(HE.out.below hst.1).cell hz;have hzl:=HEL.out z (List.mem_of_getElem? hz);have c0:wr.cell? ⟨g,0,none⟩=some (.int .i64 (n:Int)):=(hst.1.cell (p:=⟨g,0,none⟩) hgl).trans HC0.out;have hglr:g<wr.heap.size:=Nat.lt_of_lt_of_le hgl hst.1.size;obtain⟨au,cu,rfl,hzc⟩:=hur.parts;obtain⟨hcap,hcm⟩:=hur.cap;rw[hzl]at hur hcap hu;have hpre:=hur.pre (n:=n) (by omega);have HST:=hide hst;by_cases hk0:k=0
   ·subst hk0;rw[Nat.add_zero]at hu;clear hst hur hz hzl hpre;go_wp2;go_roundw
    case rel=>exact⟨1,by go_num,by omega,by
     have h1:=HST.out;have e:stepsOf n (low.take 1)=stepsOf n (low.take 0):=by
      unfold stepsOf;cases low <;> rfl
     rw[e]
     exact h1⟩
    case measure=>simp[intOf];omega
   ·have K:=hide (afx wr (.slice au n cu) (z.take n) L n hpre (by rw[List.length_take];omega) (by omega) (by omega));have HGZ:Hid (stepsOf n (low.take (k+1))=stepsOf n (low.take k) ++ [z.take n]):=(show _=_ by
     unfold stepsOf;rw[List.take_add_one,hz];rw[List.drop_append_of_le_length (by rw[List.length_take];have:=HM.out;omega)]
     simp)
    have HZL:Hid ((z.take n).length=n):=(show _=_ by rw[List.length_take];omega);have hk0':(k:Int) > 0:=by omega
    have HK1:Hid (k-1+1=k):=(show k-1+1=k by omega);obtain⟨k1,hk1⟩:∃k1,k-1=k1:=⟨_,rfl⟩;rw[hk1]at HST HK1;have hk1le:k1<=100:=by omega
    clear hst hur hz hzl hpre hk1;go_wp2_with fail
    refine K.out.mono ?_;rintro e w3 ⟨r,rfl,hor,hb3⟩;have hst3:=HST.out.below hb3;have hgs:=hor.grc;obtain⟨bv,rfl,_⟩:=hor;rw[HZL.out]at hgs;have hA3:=hAl w3 (.cells #[.slice (some ⟨bv,0,none⟩) n n] 39);have hn3:=heap_alloc_new w3 (.cells #[.slice (some ⟨bv,0,none⟩) n n] 39);have hst4:=hst3.below hA3;have hgs4:=GrC.mono _ _ _ _ _ _ hA3 hgs;clear hst3 hgs hA3 hb3 K c0;rw[HZL.out];go_wp2_with (at_builtin;refine ab4 rfl (ak6 (i:=16) (j:=24) rfl hst4 rfl hn3 hgs4 rfl (by omega)) ?_)
    intro v2 w4 hst5;rw[HK1.out]at hst5;have HS5:=hide hst5;clear hst4 hn3 hgs4 hst5;go_wp2;go_roundw
    case rel=>exact⟨k+1,by go_num,by omega,by rw[HGZ.out];exact HS5.out⟩
    case measure=>simp[intOf];omega
  ·have hlt':decide ((k:Int)<(m:Int))=false:=by simp;omega
   obtain rfl:m=k:=by omega
   rw[List.take_of_length_le (by have:=HM.out;omega)]at hst;have HC:=hide hst.canM;have HW:=hide hst.1;obtain⟨ao,cp,rfl,_⟩:=HC.out.parts;clear hst;go_wp2;refine bodyPost_ret (v:=_) (by simp[results,Tryz.results15,go_sem];try rfl) rfl ⟨_,rfl,HC.out,HW.out⟩
end Lm
namespace Lm
open Go Go.RowKit
structure FQ where
 r:FE
 zs:List Int
 ys:List Int
def FQ.p(e:FQ):Int:=sg e.r.ng (val e.zs)
def FQ.q(e:FQ):Int:=val e.ys
def FQ.w(e:FQ):Rat:=Rat.divInt e.p e.q
structure Rfq (w:World) (v:Value) (es:List FQ):Prop where
 ce:Ce w v 3 es.length (f3 (es.map FQ.r))
 s1:∀e∈es,Sl w (.slice e.r.a e.r.m e.r.c) e.zs
 s2:∀e∈es,Sl w (.slice e.r.d e.r.k e.r.e) e.ys
theorem Rfq.below{w w':World}{v:Value}{es:List FQ}(h:Rfq w v es)(hb:Below w.heap.size w w'):Rfq w' v es:=⟨h.ce.below hb,fun e he=>(h.s1 e he).below hb,fun e he=>(h.s2 e he).below hb⟩
theorem Rfq.isq{w:World}{v:Value}{es:List FQ}(h:Rfq w v es){L:Nat}(hl:∀e∈es,e.zs.length<=L/\e.ys.length<=L):IsQs w v (es.map FQ.w) L:=by
 refine⟨es.map FQ.r,by simpa using h.ce,by simp,fun k e r he hr=>?_⟩;simp only[List.getElem?_map,Option.map_eq_some_iff]at he hr;obtain⟨x,hx,rfl⟩:=he;obtain⟨y,hy,rfl⟩:=hr;obtain rfl:x=y:=by rw[hx]at hy;exact Option.some.inj hy
 have hm:=List.mem_of_getElem? hx;exact⟨x.p,x.q,⟨_,_,_,_,x.zs,_,_,_,x.ys,rfl,⟨h.s1 x hm,rfl⟩,h.s2 x hm,rfl,(hl x hm).1,(hl x hm).2⟩,rfl⟩
def lenFQ:List FQ->Nat
 | []=>0
 |e::es=>1+e.r.m+e.r.k+lenFQ es
theorem ah0(es fs:List FQ):lenFQ (es++fs)=lenFQ es+lenFQ fs:=by
 induction es with
 |nil=>simp[lenFQ]
 |cons e es ih=>simp only[List.cons_append,lenFQ,ih];omega
theorem av2{es:List FQ}{e:FQ}(h:e∈es):1+e.r.m+e.r.k<=lenFQ es:=by
 induction es with
 |nil=>cases h
 |cons x es ih=>
  rcases List.mem_cons.1 h with rfl|h
  ·simp only[lenFQ];omega
  ·have:=ih h;simp only[lenFQ];omega
open Go.ChangeShapes Go.WideShapes Go.ChangeAt Go.Deep
instance:Inhabited FQ:=⟨⟨⟨false,none,0,0,none,0,0⟩,[],[]⟩⟩
theorem ai0{H:Type}{enc:TypeId×Value->H}{w:World}{fuel:Nat}{v:Value}{x:DataW H×List MemPlace}(h:DataW.trod enc Tryz.prog w 0 (fun _=>true) true fuel 43 [v]=some x):∃a l c zs,v=.slice a l c/\Sl w v zs/\l+1<=Rows.uptoBulk x.1:=by
 rcases open_ints Tryz.underlying43 Tryz.underlying86 (by kernel_rfl) h with⟨hcs,hx⟩|⟨a,l,c,zs,hcs,_,hl,hm,hz,hx,hcell,hwz⟩
 ·obtain rfl:v=.slice none 0 0:=by simpa using hcs
  exact⟨none,0,0,[],rfl,⟨none,0,rfl,Nat.le_refl _,by simp[maxLen],aak,.inl rfl⟩,by rw[hx];simp[Rows.uptoBulk]⟩
 ·obtain rfl:v=.slice (some a) l c:=by simpa using hcs
  have hz':zs.length=c:=by simpa using hz
  refine⟨some a,l,c,zs.take l,rfl,aqg hl hm hz' hcell hwz,?_⟩;have hd:x.1=.slice (lits .u32 (zs.take l)) (lits .u32 (zs.drop l)):=congrArg Prod.fst hx;have hll:(zs.take l).length=l:=by rw[List.length_take];omega
  simp only[Rows.uptoBulk,hd,aln,hll];omega
theorem a3c(E:Nat->FQ)(n:Nat):∀j u,(f3 (((List.range n).map E).map FQ.r))[j]? = some u->j/3<n/\u=(if j%3=0 then .bool (E (j/3)).r.ng else if j%3=1 then .slice (E (j/3)).r.a (E (j/3)).r.m (E (j/3)).r.c else .slice (E (j/3)).r.d (E (j/3)).r.k (E (j/3)).r.e):=by
 intro j u hu;have hj:j<(f3 (((List.range n).map E).map FQ.r)).length:=(List.getElem?_eq_some_iff.1 hu).1;rw[adr,List.length_map,List.length_map,List.length_range]at hj;have hk:j/3<n:=by omega
 have he:(((List.range n).map E).map FQ.r)[j/3]? = some (E (j/3)).r:=by simp[hk]
 obtain⟨h1,h2,h3⟩:=aka he;refine⟨hk,?_⟩;by_cases h0:j%3=0
 ·rw[if_pos h0];rw[show j/3*3=j by omega,hu]at h1;exact Option.some.inj h1
 ·rw[if_neg h0];by_cases h4:j%3=1
  ·rw[if_pos h4];rw[show j/3*3+1=j by omega,hu]at h2;exact Option.some.inj h2
  ·rw[if_neg h4];rw[show j/3*3+2=j by omega,hu]at h3;exact Option.some.inj h3
theorem av3{H:Type}{enc:TypeId×Value->H}{w:World}{fuel:Nat}{ao:Option Addr}{n cap:Nat}{x:DataW H×List MemPlace}(h:DataW.trod enc Tryz.prog w 0 (fun _=>true) true fuel 31 [.slice ao n cap]=some x):
  ∃es,Rfq w (.slice ao n cap) es/\lenFQ es+1<=Rows.uptoBulk x.1:=by
 have kR:Tryz.prog.cellsOf 47=3:=by kernel_rfl
 have kW:Tryz.prog.cellsOf 45=2:=by kernel_rfl
 have kS:Tryz.prog.cellsOf 43=1:=by kernel_rfl
 have kB:Tryz.prog.cellsOf 4=1:=by kernel_rfl
 rcases open_slice Tryz.underlying31 h with⟨hcs,rfl⟩|⟨a,len,cap',m,k,D,Pl,hcs,_,hl,hm,hmm,rfl,hall⟩
 ·obtain⟨rfl,rfl,rfl⟩:ao=none/\n=0/\cap=0:=by simpa using hcs
  exact⟨[],⟨⟨none,0,rfl,Nat.le_refl _,by omega,rfl,.inl rfl⟩,(fun e he=>by cases he),(fun e he=>by cases he)⟩,by simp[lenFQ,Rows.uptoBulk]⟩
 obtain⟨rfl,rfl,rfl⟩:ao=some a/\n=len/\cap=cap':=by simpa using hcs
 simp only[if_true]at hmm;subst hmm;have each:∀i,i<m->∃e:FQ,w.cell? (a.add (i*3))=some (.bool e.r.ng)/\w.cell? (a.add (i*3+1))=some (.slice e.r.a e.r.m e.r.c)/\w.cell? (a.add (i*3+2))=some (.slice e.r.d e.r.k e.r.e)/\Sl w (.slice e.r.a e.r.m e.r.c) e.zs/\Sl w (.slice e.r.d e.r.k e.r.e) e.ys/\1+e.r.m+e.r.k<=Rows.uptoBulk (D i):=by
  intro i hi;obtain⟨cs,h1,h2⟩:=hall i hi;rw[kR]at h1;obtain⟨_,hlen,hcell⟩:=World.cells?_some h1
  match cs,hlen with
  | [c0,c1,c2],_=>
   have e0:=hcell 0 (by omega);have e1:=hcell 1 (by omega);have e2:=hcell 2 (by omega);rw[add_add]at e0 e1 e2;obtain⟨y0,y1,n1,hx,_,t0,t1⟩:=trod_struct2 Tryz.underlying47 h2;obtain⟨z0,z1,n2,hx2,_,s0,s1⟩:=trod_struct2 Tryz.underlying45 t0;have s0':DataW.trod enc Tryz.prog w 0 (fun _=>true) true n2 4 [c0]=some z0:=by simpa[kW,kB]using s0
   have s1':DataW.trod enc Tryz.prog w 0 (fun _=>true) true n2 43 [c1]=some z1:=by simpa[kW,kS]using s1
   have t1':DataW.trod enc Tryz.prog w 0 (fun _=>true) true n1 43 [c2]=some y1:=by simpa[kS]using t1
   have hd:D i=.agg [.agg [z0.1,z1.1],y1.1]:=by
    have h1:=congrArg Prod.fst hx;have h2:=congrArg Prod.fst hx2;simp only at h1 h2;rw[h1,h2]
   clear s0 s1 t1 t0 hx hx2;obtain⟨b,hb0,_⟩:=DataW.trod_bool Tryz.underlying4 s0';obtain rfl:c0=.bool b:=by simpa using hb0
   obtain⟨a1,l1,q1,zs,rfl,hs1,hb1⟩:=ai0 s1';obtain⟨a2,l2,q2,ys,rfl,hs2,hb2⟩:=ai0 t1';refine⟨⟨⟨b,a1,l1,q1,a2,l2,q2⟩,zs,ys⟩,by simpa using e0,by simpa using e1,by simpa using e2,hs1,hs2,?_⟩;rw[hd];simp only[Rows.uptoBulk,Rows.uptoBulkAll];omega
 obtain⟨E,hE⟩:=choose_lt each;refine⟨(List.range n).map E,⟨⟨some a,m,by rw[List.length_map,List.length_range],by rw[List.length_map,List.length_range];exact hl,by simpa[maxLen]using hm,by rw[adr];simp,?_⟩,fun e he=>?_,fun e he=>?_⟩,?_⟩
 ·by_cases h0:n=0
  ·exact .inl (by rw[List.length_map,List.length_range];exact h0)
  ·obtain⟨b,off,spot⟩:=a;have h1:=(hE 0 (by omega)).1;have hspot:spot=none:=by simpa[Addr.add]using World.cell?_spot h1
   subst hspot;have hadd:∀i,(⟨b,off,none⟩:Addr).add i=⟨b,off+i,none⟩:=fun i=>by
    by_cases hi0:i=0
    ·subst hi0;simp[Addr.add]
    ·simp[Addr.add,hi0]
   refine .inr ⟨b,off,rfl,aba (off:=off+0*3) (by rw[<-hadd];exact h1),fun j u hu=>?_⟩;obtain⟨hj,rfl⟩:=a3c E n j u hu;obtain⟨c0,c1,c2,_⟩:=hE (j/3) (by omega);rw[hadd]at c0 c1 c2;by_cases hj0:j%3=0
   ·rw[show off+j/3*3=off+j by omega]at c0;rw[if_pos hj0];exact c0
   ·rw[if_neg hj0];by_cases hj1:j%3=1
    ·rw[show off+(j/3*3+1)=off+j by omega]at c1;rw[if_pos hj1];exact c1
    ·rw[show off+(j/3*3+2)=off+j by omega]at c2;rw[if_neg hj1];exact c2
 ·obtain⟨i,hi,rfl⟩:=List.mem_map.1 he;exact(hE i (by have:=List.mem_range.1 hi;omega)).2.2.2.1
 ·obtain⟨i,hi,rfl⟩:=List.mem_map.1 he;exact(hE i (by have:=List.mem_range.1 hi;omega)).2.2.2.2.1
 ·have key:∀k,k<=n->lenFQ ((List.range k).map E)<=Rows.uptoBulkAll ((List.range k).map D):=by
   intro k hk;induction k with
   |zero=>simp[lenFQ]
   |succ k ih=>
    have h1:=ih (by omega);have h2:=(hE k (by omega)).2.2.2.2.2;rw[List.range_succ,List.map_append,List.map_append,ah0,aed];simp only[List.map_cons,List.map_nil,lenFQ,Rows.uptoBulkAll]at h1 h2 ⊢;omega
  have:=key n (Nat.le_refl _);simp only[Rows.uptoBulk];omega
def RfM(w:World)(v:Value)(ess:List (List FQ)):Prop:=∃vs:List Value,Ce w v 1 ess.length vs/\∀(i:Nat) (u:Value) (es:List FQ),vs[i]? = some u->ess[i]? = some es->Rfq w u es
def lenFM:List (List FQ)->Nat
 | []=>0
 |es::ess=>1+lenFQ es+lenFM ess
theorem aoi(es fs:List (List FQ)):lenFM (es++fs)=lenFM es+lenFM fs:=by
 induction es with
 |nil=>simp[lenFM]
 |cons e es ih=>simp only[List.cons_append,lenFM,ih];omega
theorem aly{es:List (List FQ)}{e:List FQ}(h:e∈es):1+lenFQ e<=lenFM es:=by
 induction es with
 |nil=>cases h
 |cons x es ih=>
  rcases List.mem_cons.1 h with rfl|h
  ·simp only[lenFM];omega
  ·have:=ih h;simp only[lenFM];omega
theorem RfM.below{w w':World}{v:Value}{ess:List (List FQ)}(h:RfM w v ess)(hb:Below w.heap.size w w'):RfM w' v ess:=by
 obtain⟨vs,h1,h2⟩:=h;exact⟨vs,h1.below hb,fun i u z hu hz=>(h2 i u z hu hz).below hb⟩
theorem RfM.parts{w:World}{v:Value}{ess:List (List FQ)}(h:RfM w v ess):∃ao cap,v=.slice ao ess.length cap/\ess.length<=9223372036854775807:=by
 obtain⟨vs,⟨ao,cap,rfl,h1,h2,_⟩,_⟩:=h;exact⟨ao,cap,rfl,by omega⟩
theorem Rfq.fit{w:World}{v:Value}{es:List FQ}(h:Rfq w v es){L:Nat}(hl:lenFQ es<=L):∀e∈es,e.zs.length<=L/\e.ys.length<=L:=fun e he=>by
 have h1:=av2 he;obtain⟨_,_,g1,_⟩:=h.s1 e he;obtain⟨_,_,g2,_⟩:=h.s2 e he;have g1:=(Value.slice.injEq .. ▸ g1);have g2:=(Value.slice.injEq .. ▸ g2);omega
def zsF(ess:List (List FQ)):List (List Rat):=ess.map (List.map FQ.w)
theorem RfM.isQM{w:World}{v:Value}{ess:List (List FQ)}(h:RfM w v ess){L:Nat}(hl:lenFM ess<=L):IsQM w v (zsF ess) L:=by
 obtain⟨vs,h1,h2⟩:=h;refine⟨vs,by simpa[zsF]using h1,fun i u z hu hz=>?_⟩;unfold zsF at hz;rw[List.getElem?_map]at hz;obtain⟨es,he,rfl⟩:=Option.map_eq_some_iff.1 hz;have hR:=h2 i u es hu he;exact hR.isq (hR.fit (by have:=aly (List.mem_of_getElem? he);omega))
theorem a1p{H:Type}{enc:TypeId×Value->H}{w:World}{fuel:Nat}{ao:Option Addr}{n cap:Nat}{x:DataW H×List MemPlace}(h:DataW.trod enc Tryz.prog w 0 (fun _=>true) true fuel 22 [.slice ao n cap]=some x):
  ∃ess,RfM w (.slice ao n cap) ess/\lenFM ess+1<=Rows.uptoBulk x.1:=by
 rcases open_slice1 Tryz.underlying22 (by kernel_rfl) h with⟨hcs,rfl⟩|⟨a,len,cap',m,k,V,D,Pl,hcs,_,hl,hm,hmm,rfl,hall⟩
 ·obtain⟨rfl,rfl,rfl⟩:ao=none/\n=0/\cap=0:=by simpa using hcs
  exact⟨[],⟨[],⟨none,0,rfl,Nat.le_refl _,by omega,rfl,.inl rfl⟩,fun i u es hu=>by simp at hu⟩,by simp[lenFM,Rows.uptoBulk]⟩
 obtain⟨rfl,rfl,rfl⟩:ao=some a/\n=len/\cap=cap':=by simpa using hcs
 simp only[if_true]at hmm;subst hmm;have each:∀i,i<m->∃es:List FQ,Rfq w (V i) es/\lenFQ es+1<=Rows.uptoBulk (D i):=by
  intro i hi;have t:=(hall i hi).2;have hv:∃b l c,V i=.slice b l c:=by
   rcases open_slice Tryz.underlying31 t with⟨hcs,_⟩|⟨a,len,cap',_,_,_,_,hcs,_⟩
   ·exact⟨none,0,0,by simpa using hcs⟩
   ·exact⟨some a,len,cap',by simpa using hcs⟩
  obtain⟨b,l,c,hv⟩:=hv;rw[hv]at t ⊢;exact av3 (x:=(D i,Pl i)) t
 obtain⟨E,hE⟩:=choose_lt each;have hlen:((List.range n).map E).length=n:=by simp
 refine⟨(List.range n).map E,⟨(List.range n).map V,⟨some a,m,by rw[hlen],by rw[hlen];exact hl,by simpa[maxLen]using hm,by simp,?_⟩,fun i u es hu he=>?_⟩,?_⟩
 ·by_cases h0:n=0
  ·exact .inl (by rw[hlen];exact h0)
  ·obtain⟨b,off,spot⟩:=a;have h1:=(hall 0 (by omega)).1;have hspot:spot=none:=by simpa[Addr.add]using World.cell?_spot h1
   subst hspot;rw[ad6]at h1;refine .inr ⟨b,off,rfl,aba h1,fun j u hu=>?_⟩;have hj:j<n:=by have:=(List.getElem?_eq_some_iff.1 hu).1;simpa using this
   have h2:=(hall j (by omega)).1;rw[ad6]at h2;rw[h2];simpa[hj]using hu
 ·have hi:i<n:=by have:=(List.getElem?_eq_some_iff.1 hu).1;simpa using this
  obtain rfl:V i=u:=by simpa[hi]using hu
  obtain rfl:E i=es:=by simpa[hi]using he
  exact(hE i (by omega)).1
 ·have key:∀k,k<=n->lenFM ((List.range k).map E)<=Rows.uptoBulkAll ((List.range k).map D):=by
   intro k hk;induction k with
   |zero=>simp[lenFM]
   |succ k ih=>
    have h1:=ih (by omega);have h2:=(hE k (by omega)).2;rw[List.range_succ,List.map_append,List.map_append,aoi,aed];simp only[List.map_cons,List.map_nil,lenFM,Rows.uptoBulkAll]at h1 h2 ⊢;omega
  have:=key n (Nat.le_refl _);simp only[Rows.uptoBulk];omega
end Lm
namespace Lm
open Go Go.RowKit
theorem av4(es fs:List FE):f3 (es++fs)=f3 es++f3 fs:=by
 induction es with
 |nil=>rfl
 |cons e es ih=>simp[f3,ih]
structure RfO (B:Nat) (w:World) (v:Value) (es:List FQ):Prop where
 own:w.ownsRow B 47 3 v es.length (f3 (es.map FQ.r))
 o1:∀e∈es,Ow B w (.slice e.r.a e.r.m e.r.c) e.zs
 o2:∀e∈es,Ow B w (.slice e.r.d e.r.k e.r.e) e.ys
theorem RfO.below{B:Nat}{w w':World}{v:Value}{es:List FQ}(h:RfO B w v es)(hb:Below w.heap.size w w'):RfO B w' v es:=
 ⟨h.own.kept (row:=none) ⟨hb.os,hb.tape,hb.output,hb.size,fun k hk _=>hb.block k hk⟩ (by cases hv:v.ownBlock <;> simp),fun e he=>(h.o1 e he).below hb,fun e he=>(h.o2 e he).below hb⟩
theorem RfO.rfq{B:Nat}{w:World}{v:Value}{es:List FQ}(h:RfO B w v es):Rfq w v es:=⟨Ce.own h.own,fun e he=>(h.o1 e he).sl,fun e he=>(h.o2 e he).sl⟩
theorem a1q(B:Nat)(w:World):RfO B w (.slice none 0 0) []:=⟨World.ownsRow_nil w B _ 3,fun e he=>(by cases he),fun e he=>(by cases he)⟩
theorem Ow.grownf{B:Nat}{w w':World}{v:Value}{zs:List Int}{row:Option Nat}{cur:Nat->Array Value}(h:Ow B w v zs)(hg:w.grownBy w' row)(hr:∀k,row=some k->w.heap[k]? = some (.cells (cur k) 47 (0,0))):Ow B w' v zs:=by
 obtain⟨ao,cap,rfl,h1,h2,h3,h4⟩:=h;refine⟨ao,cap,rfl,h1,h2,h3,?_⟩;rcases h4 with h4|⟨g,off,c,rfl,hB,hh,h5,h6⟩
 ·exact .inl h4
 ·refine .inr ⟨g,off,c,rfl,hB,(hg.block g (aaa hh) (fun e=>?_)).trans hh,h5,h6⟩;have:=hr g e.symm;rw[hh]at this;injection this with this;injection this with _ this;exact absurd this (by decide)
theorem a1r{dst:Option Tmp}{ty:TypeId}{pos:String}{after:Array Edge}{guard:Option (Nat×Bool)}{a:Act}{w:World}{i j:Nat}{B g:Nat}{v:Value}{es:List FQ}{x:FE}{zs ys:List Int}(h1:a.eval (.tmp i)=v)(h2:a.eval (.tmp j)=.slice (some ⟨g,0,none⟩) 1 1)(R:RfO B w v es)(O:w.heap[g]? = some (.cells #[.bool x.ng,.slice x.a x.m x.c,.slice x.d x.k x.e] 47 (0,0)))(S1:Ow B w (.slice x.a x.m x.c) zs)(S2:Ow B w (.slice x.d x.k x.e) ys)(hn:es.length<=1000000000)(hB:B<=w.heap.size):
  Does Tryz.prog {dst,op:=.call {callee:=.builtin .append,args:=#[.tmp i,.tmp j],argTypes:=#[31,31]},type:=ty,pos,after,guard} a.eval w fun v' w'=>RfO B w' v' (es ++ [⟨x,zs,ys⟩])/\Below B w w':=by
 obtain⟨i0,hi,hz0,hz1,hz2⟩:=info_parts infoRz;have hfl:f3 ((es++([⟨x,zs,ys⟩]:List FQ)).map FQ.r)=f3 (es.map FQ.r) ++ [.bool x.ng,.slice x.a x.m x.c,.slice x.d x.k x.e]:=by rw[List.map_append,av4];rfl
 obtain⟨v',w',hr,ho,hgr,_⟩:=run_append_own (P:=Tryz.prog) w B 31 ty 47 i0 _ 3 56 Tryz.underlying31 hi hz0 hz1 hz2 rfl (by decide) v es.length (f3 (es.map FQ.r)) R.own ⟨g,0,none⟩ 1 1 [.bool x.ng,.slice x.a x.m x.c,.slice x.d x.k x.e] rfl (fun k u hu=>by
  have hc:∀k,w.cell? ⟨g,k,none⟩ = #[Value.bool x.ng,.slice x.a x.m x.c,.slice x.d x.k x.e][k]? :=fun k=>cell_of_row w g k _ _ (0,0) O
  have ha:(⟨g,0,none⟩:Addr).add k=⟨g,k,none⟩:=by unfold Addr.add;split <;> simp_all
  rw[ha,hc]
  simpa using hu) (by simp[Value.oneCell']) (by simp[maxLen];omega) (by omega) hB
 have e:(execOp a.eval {dst,op:=.call {callee:=.builtin .append,args:=#[.tmp i,.tmp j],argTypes:=#[31,31]},type:=ty,pos,after,guard}).run Tryz.prog w=.ok (.value v') w':=by
  simp only[execOp,resolve,invoke,builtin,Sem.run_bind,Sem.run_pure,Result.andThen_ok,List.map_toArray,List.map_cons,List.map_nil,h1,h2,hr]
 refine⟨?_⟩;unfold Turns;rw[e];have hrow:∃cur:Nat->Array Value,∀k,v.ownBlock=some k->w.heap[k]? = some (.cells (cur k) 47 (0,0)):=by
  rcases R.own.2 with⟨rfl,_⟩|⟨g',cap,cur,rfl,_,hh,_⟩
  ·exact⟨fun _=>#[],fun k hk=>by simp[Value.ownBlock]at hk⟩
  ·refine⟨fun _=>cur,fun k hk=>?_⟩;simp only[Value.ownBlock,Option.some.injEq]at hk;subst hk;exact hh
 obtain⟨cur,hcur⟩:=hrow;refine⟨⟨by rw[hfl,List.length_append];exact ho,fun e he=>?_,fun e he=>?_⟩,⟨hgr.os,hgr.tape,hgr.output,hgr.size,fun k hk=>hgr.block k (by omega) (fun e=>?_)⟩⟩
 ·rcases List.mem_append.1 he with he|he
  ·exact(R.o1 e he).grownf hgr hcur
  ·obtain rfl:=List.mem_singleton.1 he;exact S1.grownf hgr hcur
 ·rcases List.mem_append.1 he with he|he
  ·exact(R.o2 e he).grownf hgr hcur
  ·obtain rfl:=List.mem_singleton.1 he;exact S2.grownf hgr hcur
 ·have:=R.own.lt k e.symm;omega
theorem a3d(w:World){K:Nat}(hK:K<=w.heap.size):Ow K (w.alloc (.cells #[.int .u32 1] 86)) (.slice (some ⟨w.heap.size,0,none⟩) 1 1) [1]:=by
 refine⟨_,1,rfl,Nat.le_refl _,by decide,?_,.inr ⟨w.heap.size,0,_,rfl,hK,heap_alloc_new w _,by decide,?_⟩⟩
 ·refine aao.2 ⟨by omega,aak⟩
 ·intro k hk
  match k with
  |0=>rfl
  |k+1=>simp at hk
theorem ast(w:World)(v:Value)(zs:List Int)(h:Nums w v zs)(hz:∀z∈zs,-9223372036854775808<=z/\z<=9223372036854775807)(hl:zs.length<=1000):
  Calls Tryz.prog 38 #[v] w fun e w'=>∃r es,e=.returned r/\Rfq w' r es/\es.map FQ.w=zs.map (fun z:Int=>(z:Rat))/\lenFQ es<=4*zs.length/\Below w.heap.size w w':=by
 obtain⟨ao,cap,rfl,_⟩:=id h;have H:=hide h;have HZ:=hide hz;clear h hz;obtain⟨n,hn⟩:∃n,zs.length=n:=⟨_,rfl⟩;rw[hn]at H hl ⊢;have HN:=hide hn;clear hn;go_enter Tryz.func38,Tryz.ntmps38
 go_wp2_with fail
 go_loopw [3,4] (fun ov iv wr=>∃(k:Nat) (es:List FQ),iv=.int .i64 k/\k<=n/\Below w.heap.size w wr/\es.length=k/\RfO w.heap.size wr ov es/\es.map FQ.w=(zs.take k).map (fun z:Int=>(z:Rat))/\lenFQ es<=4*k) (fun _ iv _=>n-(intOf iv).toNat)
 case atStart=>exact⟨0,[],rfl,Nat.zero_le _,Below.refl _ _,rfl,a1q _ _,rfl,Nat.le_refl _⟩
 case round=>
  obtain⟨k,es,rfl,hk,hbw,hes,hown,hall,hlq⟩:=hrel;have HW:=hide hbw;have HES:=hide hes;have HOWN:=hide hown;have HALL:=hide hall;have HLQ:=hide hlq;by_cases hlt:k<n
  ·obtain⟨b,off,rfl,hc⟩:=(show Nums wr (.slice ao n cap) zs from Ce.below H.out hbw).cell (i:=k) (by have:=HN.out;omega);have hget:zs[k]? = some (zs[k]'(by have:=HN.out;omega)):=List.getElem?_eq_getElem _;generalize zs[k]'(by have:=HN.out;omega)=z at hc hget;have HG:=hide hget;have hzb:=HZ.out z (List.mem_of_getElem? hget);have hlt':(k:Int)<(n:Int):=by omega
   obtain⟨aov,capv,hov,_⟩:=Ce.own hown.own;subst hov;have K1:=hide (ane wr z hzb.1 hzb.2);clear hbw hes hown hall hget hlq;go_wp2_with fail
   refine K1.out.mono ?_;rintro e w2 ⟨r2,rfl,hf2,hb2⟩;obtain⟨ng2,ao2,cap2,rs2,B2,T2,rfl,hwf,hB2,hT2,hl2⟩:=hf2;have hA1:=hAl w2 (.cells #[.int .u32 1] 86);have hO1:=a3d w2 (K:=w.heap.size) (Nat.le_trans HW.out.size hb2.size);generalize hw3:w2.alloc (.cells #[.int .u32 1] 86)=w3 at *
   have hA2:=hAl w3 (.cells #[.bool ng2,.slice ao2 rs2.length cap2,.slice (some ⟨w2.heap.size,0,none⟩) 1 1] 47);have hO2:=heap_alloc_new w3 (.cells #[.bool ng2,.slice ao2 rs2.length cap2,.slice (some ⟨w2.heap.size,0,none⟩) 1 1] 47);have hA12:=hA1.trans (hA2.mono hA1.size);have hb2':=hb2.trans (hA12.mono hb2.size);have hR2:=HOWN.out.below hb2';have hS1:Ow w.heap.size _ (.slice ao2 rs2.length cap2) rs2:=(hwf.fr.ow.mono (Nat.le_trans HW.out.size hB2)).below hA12;have hS2:=hO1.below hA2;have hsz:w.heap.size<=(w3.alloc (.cells #[.bool ng2,.slice ao2 rs2.length cap2,.slice (some ⟨w2.heap.size,0,none⟩) 1 1] 47)).heap.size:=Nat.le_trans HW.out.size hb2'.size;have HW3:=hide hw3;go_wp2_with (at_builtin;refine ab4 rfl (a1r (i:=11) (j:=19) (x:=⟨ng2,ao2,rs2.length,cap2,some ⟨w2.heap.size,0,none⟩,1,1⟩) (zs:=rs2) (ys:=[1]) rfl rfl hR2 hO2 hS1 hS2 (by rw[HES.out];omega) hsz) ?_)
   intro v3 w4 hR3 hb3;obtain⟨aov3,capv3,hov3,_⟩:=Ce.own hR3.own;subst hov3;have HR3:=hide hR3;have HB3:=hide ((HW.out.trans (hb2'.mono HW.out.size)).trans hb3);have HWF:=hide hwf;clear hR3 hb3 hR2 hO2 hS1 hS2 hsz hA1 hA2 hA12 hb2 hb2' hwf hB2 hT2;go_wp2;go_roundw
   case rel=>
    refine⟨k+1,es ++ [⟨⟨ng2,ao2,rs2.length,cap2,some ⟨w2.heap.size,0,none⟩,1,1⟩,rs2,[1]⟩],by go_num,by omega,HB3.out,by simp[HES.out],HR3.out,?_,?_⟩
    ·rw[List.map_append,HALL.out,List.take_add_one,HG.out,List.map_append];congr 1;have h1:=HWF.out.wh.ag.worth;show [Rat.divInt (sg ng2 (val rs2)) (val [1])] = [(z:Rat)];rw[h1];congr 1;rw[show val [1]=1 by decide];exact(Rat.divInt_ofNat _ 1).trans (Rat.mkRat_one _)
    ·rw[ah0];have:=HLQ.out;simp only[lenFQ];omega
   case measure=>simp[intOf];omega
  ·have hlt':decide ((k:Int)<(n:Int))=false:=by simp;omega
   have hkn:k=n:=by omega
   subst hkn;clear hbw hes hown hall hlq;obtain⟨aov3,capv3,hov3,_⟩:=Ce.own HOWN.out.own;subst hov3;go_wp2;refine bodyPost_ret (v:=_) (aet rfl rfl) rfl ⟨_,es,rfl,HOWN.out.rfq,by rw[HALL.out,List.take_of_length_le (by rw[HN.out];exact Nat.le_refl _)],HLQ.out,HW.out⟩
end Lm
namespace Lm
open Go Go.RowKit Md
theorem aoj{w:World}{u:Value}{z:List Int}{L:Nat}(T:TypeId)(h:CanRow w u z L):CanM (w.alloc (.cells #[u] T)) (.slice (some ⟨w.heap.size,0,none⟩) 1 1) [z] L:=by
 have hb:=hAl w (.cells #[u] T);have hn:=heap_alloc_new w (.cells #[u] T);refine⟨[u],⟨_,_,rfl,Nat.le_refl _,by omega,rfl,.inr ⟨w.heap.size,0,rfl,aaa hn,fun j x hx=>?_⟩⟩,fun i x y hx hy=>?_⟩
 ·rw[Nat.zero_add,cell_of_row _ _ _ _ _ (0,0) hn];simpa using hx
 ·match i with
  |0=>simp at hx hy;subst hx hy;exact h.below hb
  |i+1=>simp at hx
theorem azd(w:World)(a b:Int)(e:TypeId):Nums (w.alloc (.cells #[.int .i64 a,.int .i64 b] e)) (.slice (some ⟨w.heap.size,0,none⟩) 2 2) [a,b]:=by
 have hn:=heap_alloc_new w (.cells #[.int .i64 a,.int .i64 b] e);refine⟨_,_,rfl,Nat.le_refl _,by simp,rfl,.inr ⟨w.heap.size,0,rfl,aaa hn,fun j x hx=>?_⟩⟩;rw[Nat.zero_add,cell_of_row _ _ _ _ _ (0,0) hn];simpa using hx
theorem row2(w:World)(a b:Int)(h:∀z ∈ [a,b],-9223372036854775808<=z/\z<=9223372036854775807):Calls Tryz.prog 40 #[.slice (some ⟨w.heap.size,0,none⟩) 2 2] (w.alloc (.cells #[.int .i64 a,.int .i64 b] 3)) fun e w'=>∃ra rc,e=.returned (.slice ra 2 rc)/\CanRow w' (.slice ra 2 rc) [a,b] 2/\Below w.heap.size w w':=by
 have hb:=hAl w (.cells #[.int .i64 a,.int .i64 b] 3);refine(aqk _ _ [a,b] (azd w a b 3) h (by simp)).mono ?_;rintro e w' ⟨r,rfl,hc,hb'⟩;obtain⟨ra,rc,rfl⟩:=hc.slc;exact⟨ra,rc,rfl,hc,hb.trans (hb'.mono hb.size)⟩
theorem aok(w:World)(a b:Int)(h:∀z ∈ [a,b],-9223372036854775808<=z/\z<=9223372036854775807):Calls Tryz.prog 38 #[.slice (some ⟨w.heap.size,0,none⟩) 2 2] (w.alloc (.cells #[.int .i64 a,.int .i64 b] 3)) fun e w'=>∃ra rc,e=.returned (.slice ra 2 rc)/\IsQs w' (.slice ra 2 rc) [(a:Rat),(b:Rat)] 8/\Below w.heap.size w w':=by
 have hb:=hAl w (.cells #[.int .i64 a,.int .i64 b] 3);refine(ast _ _ [a,b] (azd w a b 3) h (by simp)).mono ?_;rintro e w' ⟨r,es,rfl,hR,hm,hl,hb'⟩;have hQ:=hR.isq (hR.fit (L:=8) (by simpa using hl));rw[hm]at hQ;obtain⟨ra,rc,rfl,_⟩:=hQ.parts;exact⟨ra,rc,rfl,hQ,hb.trans (hb'.mono hb.size)⟩
theorem asu{w:World}{u1 u2 u3:Value}{p1 p2 p3:List Rat}{L:Nat}(T:TypeId)(h1:IsQs w u1 p1 L)(h2:IsQs w u2 p2 L)(h3:IsQs w u3 p3 L):IsQM (w.alloc (.cells #[u1,u2,u3] T)) (.slice (some ⟨w.heap.size,0,none⟩) 3 3) [p1,p2,p3] L:=by
 have hb:=hAl w (.cells #[u1,u2,u3] T);have hn:=heap_alloc_new w (.cells #[u1,u2,u3] T);refine⟨[u1,u2,u3],⟨_,_,rfl,Nat.le_refl _,by omega,rfl,.inr ⟨w.heap.size,0,rfl,aaa hn,fun j x hx=>?_⟩⟩,fun i x y hx hy=>?_⟩
 ·rw[Nat.zero_add,cell_of_row _ _ _ _ _ (0,0) hn];simpa using hx
 ·match i with
  |0=>simp at hx hy;subst hx hy;exact h1.below hb
  |1=>simp at hx hy;subst hx hy;exact h2.below hb
  |2=>simp at hx hy;subst hx hy;exact h3.below hb
  |i+3=>simp at hx
structure Spn (w:World) (g n:Nat) (E Lf:List (List Int)):Prop where
 at_:∃se sl,SpanEL w g n se sl/\IsM w se E 32/\IsM w sl Lf 600
theorem Spn.below{w w':World}{g n:Nat}{E Lf:List (List Int)}(h:Spn w g n E Lf)(hb:Below w.heap.size w w'):Spn w' g n E Lf:=by
 obtain⟨se,sl,h1,h2,h3⟩:=h.at_;exact⟨se,sl,h1.below hb,h2.below hb,h3.below hb⟩
theorem a3e(w:World):Calls Tryz.prog 8 #[] w fun r w'=>r=.returned (.bool true)/\Below w.heap.size w w':=by
 have K1:=hide (aok w 0 0 (by decide));go_enter Tryz.func8,Tryz.ntmps8
 go_wp2_with fail
 refine K1.out.mono ?_;rintro e w1 ⟨ra,rc,rfl,h1,hb1⟩;have H1:=hide h1;have HB1:=hide hb1;have K2:=hide (aok w1 1 2 (by decide));clear h1 hb1 K1;go_wp2_with fail
 refine K2.out.mono ?_;rintro e w2 ⟨sa,sc,rfl,h2,hb2⟩;have H1:=hide (H1.out.below hb2);have H2:=hide h2;have HB2:=hide (HB1.out.trans (hb2.mono HB1.out.size));have K3:=hide (aok w2 2 4 (by decide));clear h2 hb2 K2;go_wp2_with fail
 refine K3.out.mono ?_;rintro e w3 ⟨ta,tc,rfl,h3,hb3⟩;have hM:=asu 31 (H1.out.below hb3) (H2.out.below hb3) h3;have hba:=hAl w3 (.cells #[.slice ra 2 rc,.slice sa 2 sc,.slice ta 2 tc] 31);have HB3:=hide ((HB2.out.trans (hb3.mono HB2.out.size)).trans (hba.mono (Nat.le_trans HB2.out.size hb3.size)));have eP : [[((0:Int):Rat),((0:Int):Rat)],[((1:Int):Rat),((2:Int):Rat)],[((2:Int):Rat),((4:Int):Rat)]]=awP:=rfl;rw[eP]at hM;have K4:=hide (apu _ _ awP 8 2 hM (by omega) (by omega) (by omega));clear h3 hb3 hba hM K3 H1 H2 eP;go_wp2_with fail
 refine K4.out.mono ?_;rintro e w4 ⟨ho,hb4⟩;have HB4:=hide (HB3.out.trans (hb4.mono HB3.out.size));rcases ho with⟨hs,_⟩|⟨_,ho⟩
 ·exact absurd hs (by decide)
 rcases ho with⟨hbg,_⟩|⟨g,made,twin,low,eqs,rfl,hat,hli,heq,hlo,htw⟩
 ·exact(a3b hbg).elim
 obtain⟨sl,rfl,hsl⟩:=hli;obtain⟨se,rfl,hse⟩:=heq;obtain⟨rfl,hst,hll⟩:=a1o hlo htw;have hrow:∀l∈low,l.length=2+1:=((ahz aoh hlo htw).1.row).2;have HAT:=hide (SpanEL.below (w':=w4) (.inl hat) (Below.refl _ _));have HSL:=hide hsl;have HSE:=hide hse;have HST:=hide hst;have HLL:=hide hll;have HROW:=hide hrow;obtain⟨al,cl,hal,_⟩:=hsl.parts;rw[hll]at hal;have K5:=aod w4 g 2 2 se sl al cl (.inl hat) hal (by omega);have e1:((2:Nat):Int)-1=1:=rfl;rw[e1]at K5;have K5:=hide K5;clear hat hsl hse hst hll hrow hlo htw hb4 K4 hal e1;go_wp2_with fail
 refine K5.out.mono ?_;rintro e w5 ⟨rfl,hb5⟩;have HB5:=hide (HB4.out.trans (hb5.mono HB4.out.size));have K6:=hide (ag9 w5 g 2 se sl [[2,-1,0]] 32 (HAT.out.below hb5) (HSE.out.below hb5) (by decide) (by omega) (by decide) (by omega));have HAT5:=hide (HAT.out.below hb5);have HSL5:=hide (HSL.out.below hb5);clear hb5 K5;go_wp2_with fail
 refine K6.out.mono ?_;rintro e w6 ⟨v6,rfl,hc6,hb6⟩;obtain⟨a6,c6,rfl,_⟩:=hc6.parts;have HB6:=hide (HB5.out.trans (hb6.mono HB5.out.size));have HC6:=hide hc6;have HAT6:=hide (HAT5.out.below hb6);have HSL6:=hide (HSL5.out.below hb6);have K7:=hide (row3 w6 2 (-1) 0 (by decide));clear hb6 hc6 K6;go_wp2_with fail
 refine K7.out.mono ?_;rintro e w7 ⟨pa,pc,rfl,h7,hb7⟩;have hba:=hAl w7 (.cells #[.slice pa 3 pc] 39);have hM:=aoj 39 h7;have hb67:=hb7.trans (hba.mono hb7.size);have K8:=hide (ahq _ _ _ [[2,-1,0]] _ _ (HC6.out.below hb67) hM);have HB7:=hide (HB6.out.trans (hb67.mono HB6.out.size));have HAT7:=hide (HAT6.out.below hb67);have HSL7:=hide (HSL6.out.below hb67);clear h7 hb7 hba hM hb67 K7;go_wp2_with fail
 refine K8.out.mono ?_;rintro e w8 ⟨rfl,hb8⟩;have HB8:=hide (HB7.out.trans (hb8.mono HB7.out.size));have K9:=ake w8 g 2 se sl low 600 (HAT7.out.below hb8) (HSL7.out.below hb8) HROW.out (by omega) (by rw[HLL.out];omega) (by omega);rw[HST.out]at K9;have K9:=hide K9;clear hb8 K8;go_wp2_with fail
 refine K9.out.mono ?_;rintro e w9 ⟨v9,rfl,hc9,hb9⟩;obtain⟨a9,c9,rfl,_⟩:=hc9.parts;have HB9:=hide (HB8.out.trans (hb9.mono HB8.out.size));have HC9:=hide hc9;have K10:=hide (row2 w9 1 2 (by decide));clear hb9 hc9 K9;go_wp2_with fail
 refine K10.out.mono ?_;rintro e w10 ⟨qa,qc,rfl,h10,hb10⟩;have hba:=hAl w10 (.cells #[.slice qa 2 qc] 39);have hM:=aoj 39 h10;have hb910:=hb10.trans (hba.mono hb10.size);have K11:=hide (ahq _ _ _ [[1,2]] _ _ (HC9.out.below hb910) hM);have HB10:=hide (HB9.out.trans (hb910.mono HB9.out.size));clear h10 hb10 hba hM hb910 K10;go_wp2_with fail
 refine K11.out.mono ?_;rintro e w11 ⟨rfl,hb11⟩;have HB11:=hide (HB10.out.trans (hb11.mono HB10.out.size));clear hb11 K11;go_wp2;refine bodyPost_ret (v:=_) (by simp[results,Tryz.results8,go_sem];try rfl) rfl ⟨rfl,HB11.out⟩
end Lm
namespace Lm
open Go Go.RowKit Md
def sQ(row:List Int)(n:Nat)(ps:List Rat):Nat->Rat
 |0=>((-(fnR row n):Int):Rat)
 |k+1=>sQ row n ps k+((fnR row k:Int):Rat)*ps.getD k 0
theorem ajn{z:Int}{L:Nat}(h:(z.natAbs:Int)<pw L):Fit2 (z:Rat) L 1:=by
 refine⟨h,?_⟩;show((1:Nat):Int)<pw 1;decide
theorem Fit.two{r:Rat}{L:Nat}(h:Fit r L):Fit2 r L L:=h
theorem av5{row:List Int}{n L:Nat}{ps:List Rat}(hr:∀z∈row,(z.natAbs:Int)<pw L)(hp:∀r∈ps,Fit r L)(hl:ps.length=n):∀k,k<=n->Fit2 (sQ row n ps k) ((L+1)*(k+1)) (1+k*L)
 |0,_=>by
  have h0:((fnR row n).natAbs:Int)<pw L:=ab8 hr (by have:=aaf L;omega) n;have h1:((-(fnR row n)).natAbs:Int)<pw L:=by rw[Int.natAbs_neg];exact h0
  refine(ajn h1).mono ?_ (by omega);rw[Nat.zero_add,Nat.mul_one];omega
 |k+1,hk=>by
  have ih:=av5 hr hp hl k (by omega);have h0:((fnR row k).natAbs:Int)<pw L:=ab8 hr (by have:=aaf L;omega) k;have h2:Fit (ps.getD k 0) L:=by
   rw[List.getD_eq_getElem?_getD,List.getElem?_eq_getElem (by omega)];exact hp _ (List.getElem_mem _)
  have e1:(L+1)*(k+1+1)=(L+1)*(k+1)+(L+1):=by rw[Nat.mul_add (L+1) (k+1) 1,Nat.mul_one]
  have e2:(k+1)*L=k*L+L:=by rw[Nat.add_mul,Nat.one_mul]
  have e3:(L+1)*(k+1)=k*L+k+L+1:=by rw[Nat.add_mul,Nat.mul_add,Nat.mul_comm L k];omega
  have h3:=ajg ih (agy h0 h2.two) (by rw[e3];omega);exact h3.mono (by rw[e1];omega) (by rw[e2];omega)
theorem av6{row:List Int}{n:Nat}{ps:List Rat}(hl:ps.length=n):∀k,k<=n->((wOf 1 ps:Int):Rat)*sQ row n ps k=((dotN k (fnR row) (fnR (liftZ ps))-wOf 1 ps*fnR row n:Int):Rat)
 |0,_=>by
  show((wOf 1 ps:Int):Rat)*((-(fnR row n):Int):Rat)=_;have h:dotN 0 (fnR row) (fnR (liftZ ps))=0:=rfl;rw[h]
  push_cast
  grind
 |k+1,hk=>by
  have ih:=av6 hl k (by omega) (row:=row);have hg:ps[k]? = some (ps.getD k 0):=by rw[List.getD_eq_getElem?_getD,List.getElem?_eq_getElem (by omega)];rfl
  have h1:=agw ps hg;show((wOf 1 ps:Int):Rat)*(sQ row n ps k+((fnR row k:Int):Rat)*ps.getD k 0)=_;rw[aa2];generalize ps.getD k 0=q at *
  generalize sQ row n ps k=s at *
  push_cast at ih ⊢;generalize ((wOf 1 ps:Int):Rat)=w at *
  generalize ((fnR row k:Int):Rat)=a at *
  rw[h1];generalize ((dotN k (fnR row) (fnR (liftZ ps)):Int):Rat)=d at *
  generalize ((fnR row n:Int):Rat)=c at *
  grind
theorem ain{row:List Int}{n:Nat}{ps:List Rat}(hl:ps.length=n):sQ row n ps n=0↔dotN (n+1) (fnR row) (fnR (liftZ ps))=0:=by
 have h:=av6 hl n (Nat.le_refl n) (row:=row);have h2:=adw ps;rw[hl]at h2;have hw:=aij ps (w:=1) (by decide);have e:dotN n (fnR row) (fnR (liftZ ps))-wOf 1 ps*fnR row n=dotN (n+1) (fnR row) (fnR (liftZ ps)):=by
  rw[aa2,h2]
  grind
 rw[e]at h;generalize dotN (n+1) (fnR row) (fnR (liftZ ps))=d at *
 generalize sQ row n ps n=s at *
 constructor
 ·intro hs;rw[hs,Rat.mul_zero]at h
  exact_mod_cast h.symm
 ·intro hd;rw[hd]at h;have hw2:((wOf 1 ps:Int):Rat)≠0:=by exact_mod_cast (show wOf 1 ps≠0 by omega)
  have h3:((wOf 1 ps:Int):Rat)*s=0:=h;exact(Rat.mul_eq_zero.1 h3).resolve_left hw2
theorem av7(w:World)(x:Value)(r:Rat)(L:Nat)(hx:IsQ r L x w)(hL:2*(L+2)<=100000000):
  Calls Tryz.prog 53 #[x] w fun e w'=>∃s:Int,e=.returned (.int .i64 s)/\(s=0↔r=0)/\Below w.heap.size w w':=by
 obtain⟨ng,ao,n,cap,xs,bo,m,dap,ys,p,q,rfl,h2,h3,h4,h5,h6,h7⟩:=hx.open;refine(a0c w L ng ao n cap xs p h2 h5 bo m dap ys q h3 h4 h6 (by omega)).mono ?_;rintro e w' ⟨v,rfl,ho,hb⟩;refine⟨Int.sign (tp p q),by rw[show v=.int .i64 _ from ho],?_,hb⟩;rw[Int.sign_eq_zero_iff_zero,<-h7,<-ac9];constructor
 ·intro h;rw[h,Rat.zero_divInt]
 ·intro h;have:=(Rat.divInt_eq_divInt_iff (aci q) (by decide:(1:Int)≠0)).1 (h.trans (Rat.zero_divInt 1).symm);omega
theorem aol(r:Rat)(L:Nat):Mono (IsQ r L):=fun _ _ _ hb h=>h.below hb
theorem aa3(r:Rat)(L:Nat):Mono4 (OutQr r L):=OutR.mono4 _ _ _
theorem OutQr.fe{r:Rat}{L:Nat}{v:Value}{w:World}(h:OutQr r L v w):∃x:FE,v=x.v:=by
 obtain⟨ng,ao,cap,rs,bo,dap,ss,rfl,_⟩:=h;exact⟨⟨ng,ao,_,cap,bo,_,dap⟩,rfl⟩
section
variable {dst:Option Tmp} {ty:TypeId} {pos:String} {after:Array Edge} {guard:Option (Nat×Bool)} {a:Act} {w:World} {ats:Array TypeId} {i j:Nat}
theorem ays{b off n c k:Nat}(h:a.eval (.tmp i)=.slice (some ⟨b,off,none⟩) n c)(hk:a.eval (.tmp j)=.int .i64 (k:Int))(hl:k<n):Does Tryz.prog {dst,op:=.indexAddr 31 (.tmp i) (.tmp j),type:=ty,pos,after,guard} a.eval w fun v' w'=>Below w.heap.size w w'/\Eqs (.pointer (some ⟨b,off+k*3,none⟩)) v' w':=by
 have hl':(k:Int)<(n:Int):=by omega
 refine⟨?_⟩;unfold Turns;simp only[execOp,h,hk];go_simp;exact⟨Below.refl _ _,rfl⟩
theorem ak7{b off:Nat}{x:FE}{p:Says}(hp:a.eval (.tmp i)=.pointer (some ⟨b,off,none⟩))(h0:w.cell? ⟨b,off,none⟩=some (.bool x.ng))(h1:w.cell? ⟨b,off+1,none⟩=some (.slice x.a x.m x.c))(h2:w.cell? ⟨b,off+2,none⟩=some (.slice x.d x.k x.e))(hv:p x.v w):
  Does Tryz.prog {dst,op:=.load 47 (.tmp i),type:=ty,pos,after,guard} a.eval w fun v' w'=>Below w.heap.size w w'/\p v' w':=by
 refine aa5 (v:=x.v) ?_ ⟨Below.refl _ _,hv⟩;rw[hp];unfold FE.v;go_simp
theorem av8:Has Tryz.prog 20:=by unfold Has;kernel_rfl
theorem ajo{r s:Rat}{L M N:Nat}(h1:OutQr r L (a.eval (.tmp i)) w)(h2:OutQr s M (a.eval (.tmp j)) w)(hL:3*(L+M+4)+1<=100000000)(hf:Fit (r+s) N):
  Does Tryz.prog {dst,op:=.call {callee:=.value (.func 20),args:=#[.tmp i,.tmp j],argTypes:=ats},type:=ty,pos,after,guard} a.eval w fun v w'=>Below w.heap.size w w'/\OutQr (r+s) N v w':=
 aal av8 #[_,_] (by simp) ((a2w w _ _ r s L M N h1.is h2.is hL hf).mono fun e w' ⟨v,h,hf,hb⟩=>⟨v,h,hb,hf⟩)
end
theorem asv(w:World)(v pv:Value)(row:List Int)(ps:List Rat)(L n:Nat)(h:IsRow w v row L)(hl:row.length=n+1)(hp:IsQs w pv ps L)(hpl:ps.length=n)(hn:n<=16)(hL1:1<=L)(hL:L<=100000):
  Calls Tryz.prog 18 #[v,pv] w fun e w'=>e=.returned (.bool (mk0 (n+1) (liftZ ps) row))/\Below w.heap.size w w':=by
 have HFIT:=hide (av5 (abh h) (hp.fit hL1) hpl);have HZB:=hide (abh h);have HQB:=hide (hp.fit hL1);have HMK:Hid (mk0 (n+1) (liftZ ps) row=decide (sQ row n ps n=0)):=(show _=_ from decide_eq_decide.2 (ain hpl).symm);obtain⟨ar,cr,rfl,_⟩:=h.parts;obtain⟨ap,cp,rfl,_⟩:=hp.parts;rw[hl]at h ⊢;rw[hpl]at hp ⊢;have HR:=hide h;have HP:=hide hp;have HLN:=hide (And.intro hl hpl);obtain⟨b,off,ng1,a1,m1,c1,rfl,hbl,x0,x1,hx⟩:=h.cell (k:=n) (z:=fnR row n) (abv (by omega));have K1:=hide (negF w _ _ L hx (by omega));clear h hp hl hpl hx;go_enter Tryz.func18,Tryz.ntmps18
 go_wp2_with fail
 refine K1.out.mono ?_;rintro e w1 ⟨v1,rfl,hf1,hb1⟩;obtain⟨ng2,a2,m2,c2,rfl⟩:=hf1.agg;have K2:=hide (akr w1 _ _ L hf1.is (by omega));have HB1:=hide hb1;clear hf1 hb1 K1 x0 x1;go_wp2_with fail
 refine K2.out.mono ?_;rintro e w2 ⟨v2,rfl,hq2,hb2⟩;obtain⟨x2,rfl⟩:=hq2.fe;have hA:=hAl w2 (.cells #[.bool x2.ng,.slice x2.a x2.m x2.c,.slice x2.d x2.k x2.e] 47);have hn2:=heap_alloc_new w2 (.cells #[.bool x2.ng,.slice x2.a x2.m x2.c,.slice x2.d x2.k x2.e] 47);have hb02:=HB1.out.trans (hb2.mono HB1.out.size);have HGS:Hid (w.heap.size<=w2.heap.size):=(show _<=_ from hb02.size);have HB2:=hide (hb02.trans (hA.mono hb02.size));have HQ2:=hide (aa3 _ _ _ _ _ (Rl.of_below hA) (hq2.fit (L':=(L+1)*(0+1)) ((HFIT.out 0 (Nat.zero_le _)).fit (Nat.le_refl _) (by rw[Nat.zero_mul,Nat.zero_add,Nat.mul_one];omega))));have HN2:=hide hn2;clear hA hn2 hb02 hb2 hq2 K2;obtain⟨gq,hgq⟩:∃g,w2.heap.size=g:=⟨_,rfl⟩;have HGQ:=hide hgq;unfold FE.v;go_wp2;rw[hgq]at HGS HN2;clear hgq;go_loopw [6] (fun iv wr=>∃(k:Nat) (x:FE),iv=.int .i64 (k:Int)/\k<=n/\Below w.heap.size w wr/\wr.heap[gq]? = some (.cells #[.bool x.ng,.slice x.a x.m x.c,.slice x.d x.k x.e] 47 (0,0))/\OutQr (sQ row n ps k) ((L+1)*(k+1)) x.v wr) (fun iv _=>n-(intOf iv).toNat)
 case atStart=>exact⟨0,x2,rfl,Nat.zero_le _,HB2.out,HN2.out,HQ2.out⟩
 case round=>
  obtain⟨k,x,rfl,hk,hbw,hgx,hqx⟩:=hrel;by_cases hlt:k<n
  ·have hlt':(k:Int)<(n:Int):=by omega
   obtain⟨b',off',ng3,a3,m3,c3,hbe,hbl',x0,x1,hx⟩:=HR.out.cell (k:=k) (z:=fnR row k) (abv (by rw[HLN.out.1];omega));obtain⟨rfl,rfl⟩:b=b'/\off=off':=by simpa using hbe
   obtain⟨q,hq⟩:∃q,ps[k]? = some q:=⟨_,List.getElem?_eq_getElem (by rw[HLN.out.2];omega)⟩;obtain⟨b2,off2,y,rfl,hb2l,y0,y1,y2,hy⟩:=HP.out.cell hq;have HX0:=hide ((hbw.cell (p:=⟨b,off+k*2,none⟩) hbl).trans x0);have HX1:=hide ((hbw.cell (p:=⟨b,off+k*2+1,none⟩) hbl).trans x1);have HY0:=hide ((hbw.cell (p:=⟨b2,off2+k*3,none⟩) hb2l).trans y0);have HY1:=hide ((hbw.cell (p:=⟨b2,off2+k*3+1,none⟩) hb2l).trans y1);have HY2:=hide ((hbw.cell (p:=⟨b2,off2+k*3+2,none⟩) hb2l).trans y2);have hblr:=Nat.lt_of_lt_of_le hbl hbw.size;have hb2r:=Nat.lt_of_lt_of_le hb2l hbw.size;have HXW:=hide (hx.ru (Ru.of_below hbw));have HYQ:=hide (hy.below hbw);have hnx:sQ row n ps (k+1)=sQ row n ps k+((fnR row k:Int):Rat)*q:=by
    show sQ row n ps k+((fnR row k:Int):Rat)*ps.getD k 0=_;rw[List.getD_eq_getElem?_getD,hq];rfl
   have hfz:((fnR row k).natAbs:Int)<pw L:=ab8 HZB.out (by have:=aaf L;omega) k;have hfm:Fit (((fnR row k:Int):Rat)*q) (2*L):=by
    have h1:=agy hfz (HQB.out q (List.mem_of_getElem? hq)).two;exact h1.fit (by omega) (by omega)
   obtain⟨nn1,hnn1⟩:∃N,(L+1)*(k+1)=N:=⟨_,rfl⟩;obtain⟨nn2,hnn2⟩:∃N,(L+1)*(k+1+1)=N:=⟨_,rfl⟩;have hN12:nn2=nn1+(L+1):=by rw[<-hnn1,<-hnn2,Nat.mul_add (L+1) (k+1) 1,Nat.mul_one]
   have hNB:nn1<=100001*17:=by rw[<-hnn1];exact Nat.mul_le_mul (by omega) (by omega)
   have hfs:Fit (sQ row n ps k+((fnR row k:Int):Rat)*q) nn2:=by
    have h1:=HFIT.out (k+1) (by omega);rw[hnx,hnn2]at h1;refine h1.fit (Nat.le_refl _) ?_;have e2:(k+1)*L=k*L+L:=by rw[Nat.add_mul,Nat.one_mul]
    have e3:(L+1)*(k+1)=k*L+k+L+1:=by rw[Nat.add_mul,Nat.mul_add,Nat.mul_comm L k];omega
    rw[e2];omega
   rw[hnn1]at hqx;have HNX:Hid (sQ row n ps (k+1)=sQ row n ps k+((fnR row k:Int):Rat)*q):=hnx;have HFM:=hide hfm;have HFS:=hide hfs;obtain⟨s0,hs0⟩:∃s,sQ row n ps k=s:=⟨_,rfl⟩;obtain⟨zk,hzk⟩:∃z,fnR row k=z:=⟨_,rfl⟩;rw[hs0]at hqx HNX HFS;rw[hzk]at HXW HNX HFM HFS;have HQB2:=hide hgx;have HSV:=hide hqx;have HW:=hide hbw;have HNN:Hid (nn2=(L+1)*(k+1+1)):=hnn2.symm;have hNL:3*(nn1+2*L+4)+1<=100000000:=by omega
   have HLE:Hid (k+1<=n):=(show k+1<=n by omega);clear hbw hgx hqx hx hy hq hnx hfz hfm hfs hnn1 hnn2 hN12 hNB hs0 hzk x0 x1 y0 y1 y2 hbe hbl' hbl hb2l;go_upto_region 5 with fail
   refine ac2 12 [20,21,22,23,24,25,26,27,28,29,30,31] [(OutQr s0 nn1),Eqs (.slice (some ⟨b,off,none⟩) (n+1) cr),Eqs (.int .i64 (k:Int)),Eqs (.pointer (some ⟨b,off+k*2,none⟩)),(IsW zk L),(OutQr (zk:Rat) (L+2)),Eqs (.slice (some ⟨b2,off2,none⟩) n cp),Eqs (.int .i64 (k:Int)),Eqs (.pointer (some ⟨b2,off2+k*3,none⟩)),(IsQ q L),(OutQr ((zk:Rat)*q) (2*L)),(OutQr (s0+(zk:Rat)*q) nn2)] rfl rfl (by decide) (by kernel_rfl) (by kernel_rfl) (by decide) (by kernel_rfl) ⟨(Mono.of4 (aa3 _ _)),Eqs.mono _,Eqs.mono _,Eqs.mono _,(Mono.of4 (IsW.mono4 _ _)),(Mono.of4 (aa3 _ _)),Eqs.mono _,Eqs.mono _,Eqs.mono _,(aol _ _),(Mono.of4 (aa3 _ _)),(Mono.of4 (aa3 _ _)),trivial⟩ ?_ ?_
   ·exact⟨⟨rfl,fun a_ w_ _ hB hR hD=>aik ((hR 5 rfl).trans (aab rfl)) ((hB.block _ (aaa HQB2.out)).trans HQB2.out) (aa3 _ _ _ _ _ (Rl.of_below hB) HSV.out)⟩,
      ⟨rfl,fun a_ w_ _ hB hR hD=>aag ((hR 0 rfl).trans (aab rfl))⟩,
      ⟨rfl,fun a_ w_ _ hB hR hD=>aag ((hR 6 rfl).trans (aab rfl))⟩,
      ⟨rfl,fun a_ w_ _ hB hR hD=>abm (show a_.eval (.tmp 21)=.slice (some ⟨b,off,none⟩) (n+1) cr from hD 1 rfl) rfl (show a_.eval (.tmp 22)=.int .i64 (k:Int)from hD 2 rfl) (by omega)⟩,
      ⟨rfl,fun a_ w_ _ hB hR hD=>ab7 (show a_.eval (.tmp 23)=.pointer (some ⟨b,off+k*2,none⟩)from hD 3 rfl) ((hB.cell (p:=⟨b,off+k*2,none⟩) hblr).trans HX0.out) ((hB.cell (p:=⟨b,off+k*2+1,none⟩) hblr).trans HX1.out) (Mono.of4 (IsW.mono4 _ _) _ _ _ hB HXW.out)⟩,
      ⟨rfl,fun a_ w_ _ hB hR hD=>aem (show(IsW zk L) (a_.eval (.tmp 24)) w_ from hD 4 rfl) (by omega)⟩,
      ⟨rfl,fun a_ w_ _ hB hR hD=>aag ((hR 1 rfl).trans (aab rfl))⟩,
      ⟨rfl,fun a_ w_ _ hB hR hD=>aag ((hR 6 rfl).trans (aab rfl))⟩,
      ⟨rfl,fun a_ w_ _ hB hR hD=>ays (show a_.eval (.tmp 26)=.slice (some ⟨b2,off2,none⟩) n cp from hD 6 rfl) (show a_.eval (.tmp 27)=.int .i64 (k:Int)from hD 7 rfl) (by omega)⟩,
      ⟨rfl,fun a_ w_ _ hB hR hD=>ak7 (show a_.eval (.tmp 28)=.pointer (some ⟨b2,off2+k*3,none⟩)from hD 8 rfl) ((hB.cell (p:=⟨b2,off2+k*3,none⟩) hb2r).trans HY0.out) ((hB.cell (p:=⟨b2,off2+k*3+1,none⟩) hb2r).trans HY1.out) ((hB.cell (p:=⟨b2,off2+k*3+2,none⟩) hb2r).trans HY2.out) (HYQ.out.below hB)⟩,
      ⟨rfl,fun a_ w_ _ hB hR hD=>ag0 (OutQr.is (show(OutQr (zk:Rat) (L+2)) (a_.eval (.tmp 25)) w_ from hD 5 rfl)) (show(IsQ q L) (a_.eval (.tmp 29)) w_ from hD 9 rfl) (by omega) HFM.out⟩,
      ⟨rfl,fun a_ w_ _ hB hR hD=>ajo (show(OutQr s0 nn1) (a_.eval (.tmp 20)) w_ from hD 0 rfl) (show(OutQr ((zk:Rat)*q) (2*L)) (a_.eval (.tmp 30)) w_ from hD 10 rfl) (by omega) HFS.out⟩,
      trivial⟩
   ·intro a' w' hn' hd' hB' hR' hP';obtain⟨u20,e20⟩:∃u,a'.eval (.tmp 20)=u:=⟨_,rfl⟩;have e21:a'.eval (.tmp 21)=.slice (some ⟨b,off,none⟩) (n+1) cr:=hP' 1 (by decide);have e22:a'.eval (.tmp 22)=.int .i64 (k:Int):=hP' 2 (by decide);have e23:a'.eval (.tmp 23)=.pointer (some ⟨b,off+k*2,none⟩):=hP' 3 (by decide);obtain⟨u24,e24⟩:∃u,a'.eval (.tmp 24)=u:=⟨_,rfl⟩;obtain⟨u25,e25⟩:∃u,a'.eval (.tmp 25)=u:=⟨_,rfl⟩;have e26:a'.eval (.tmp 26)=.slice (some ⟨b2,off2,none⟩) n cp:=hP' 6 (by decide);have e27:a'.eval (.tmp 27)=.int .i64 (k:Int):=hP' 7 (by decide);have e28:a'.eval (.tmp 28)=.pointer (some ⟨b2,off2+k*3,none⟩):=hP' 8 (by decide);obtain⟨u29,e29⟩:∃u,a'.eval (.tmp 29)=u:=⟨_,rfl⟩;obtain⟨u30,e30⟩:∃u,a'.eval (.tmp 30)=u:=⟨_,rfl⟩;obtain⟨u31,e31⟩:∃u,a'.eval (.tmp 31)=u:=⟨_,rfl⟩;have hT:(OutQr (s0+(zk:Rat)*q) nn2) (a'.eval (.tmp 31)) w':=hP' 11 (by decide);rw[e31]at hT;refine aaq hn' hd' hR' (.s16 rfl <| .s4 rfl <| .new e20 <| .new e21 <| .new e22 <| .new e23 <| .new e24 <| .new e25 <| .new e26 <| .new e27 <| .new e28 <| .new e29 <| .new e30 <| .new e31 <| .same rfl <| .same rfl <| .same rfl <| .nil) ?_;clear e20 e21 e22 e23 e24 e25 e26 e27 e28 e29 e30 e31;obtain⟨x5,rfl⟩:=hT.fe;have hgx':=(hB'.block _ (aaa HQB2.out)).trans HQB2.out;obtain⟨_,c0,c1,c2',g0,g1,g2⟩:=aaz hgx';have HT2:=hide (OutR.mono5 _ _ _ _ _ _ (al8 hgx' (.bool x5.ng) (.slice x5.a x5.m x5.c) (.slice x5.d x5.k x5.e)) hT);have HG2:=hide (ajw hgx' (.bool x5.ng) (.slice x5.a x5.m x5.c) (.slice x5.d x5.k x5.e));have HB5:=hide (((HW.out.trans (hB'.mono HW.out.size)).setCell (p:=⟨gq,0,none⟩) HGS.out (.bool x5.ng) |>.setCell (p:=⟨gq,1,none⟩) HGS.out (.slice x5.a x5.m x5.c)).setCell (p:=⟨gq,2,none⟩) HGS.out (.slice x5.d x5.k x5.e));clear hT hgx' hB' hR' hP' hn' hd';unfold FE.v;go_wp2;go_roundw
    case rel=>exact⟨k+1,x5,by go_num,HLE.out,HB5.out,HG2.out,by rw[HNX.out,<-HNN.out];exact HT2.out⟩
    case measure=>have:=HLE.out;simp[intOf];omega
  ·have hlt':decide ((k:Int)<(n:Int))=false:=by simp;omega
   obtain rfl:n=k:=by omega
   have K:=hide (av7 wr x.v _ _ hqx.is (by
    have h1:(L+1)*(n+1)<=100001*17:=Nat.mul_le_mul (by omega) (by omega)
    omega))
   obtain⟨_,c0,c1,c2',_⟩:=aaz hgx;have HW:=hide hbw;clear hbw hqx hgx;unfold FE.v at K;go_wp2_with fail
   refine K.out.mono ?_;rintro e w5 ⟨s,rfl,hs,hb5⟩;have HB5:=hide (HW.out.trans (hb5.mono HW.out.size));have HS:=hide hs;clear hb5 hs K;by_cases h0:s=0
   ·have hd:decide (sQ row n ps n=0)=true:=decide_eq_true (HS.out.1 h0);rw[hd]at HMK;subst h0;go_wp2;refine bodyPost_ret (v:=_) (by simp[results,Tryz.results18,go_sem];try rfl) rfl ⟨by rw[HMK.out],HB5.out⟩
   ·have hd:decide (sQ row n ps n=0)=false:=decide_eq_false (fun h=>h0 (HS.out.2 h));rw[hd]at HMK;have h0':(s==0)=false:=by simpa using h0
    go_wp2;refine bodyPost_ret (v:=_) (by simp[results,Tryz.results18,go_sem];try rfl) rfl ⟨by rw[HMK.out],HB5.out⟩
end Lm
namespace Lm
open Go Go.RowKit Md
def PtsK(w':World)(n:Nat)(pts:List (List Rat))(pv:Value)(ev:Int):Prop:=
 (ShpQ pts n 0=false/\pv=.pointer none/\ev=1) \/
 (ShpQ pts n 0=true/\((pv=.pointer none/\ev=2/\∃E0,BigF n E0/\∀y,Out (n+1) y->(RS (E0.map fnR) y↔(∀z∈pts.map liftZ,fnR z n=0)\/Hld n (pts.map liftZ) y)) \/
  ∃g E Lf,pv=.pointer (some ⟨g,0,none⟩)/\ev=0/\Spn w' g n E Lf/\Kept n E Lf/\(∀l∈Lf,RS ((pts.map liftZ).map fnR) (fnR l))/\∀y,Out (n+1) y->(Hld n Lf y↔(∀z∈pts.map liftZ,fnR z n=0)\/Hld n (pts.map liftZ) y)))
theorem av9{pts:List (List Rat)}{n:Nat}(h:ShpQ pts n 0=true):∀z∈pts.map liftZ,z.length=n+1:=fun z hz=>by
 obtain⟨ps,hp,rfl⟩:=List.mem_map.1 hz;have:=(of_decide_eq_true h).2.2 ps hp;rw[abl];omega
theorem BuiL.spn{w':World}{n:Nat}{ls:List (List Int)}{e:Ending}(hl:∀z∈ls,z.length=n+1)(h:BuiL w' n ls e):
  (e=.returned (.tuple #[.pointer none,.int .i64 2])/\∃E0,BigF n E0/\∀y,Out (n+1) y->(RS (E0.map fnR) y↔(∀z∈ls,fnR z n=0)\/Hld n ls y)) \/
  ∃g E Lf,e=.returned (.tuple #[.pointer (some ⟨g,0,none⟩),.int .i64 0])/\Spn w' g n E Lf/\Kept n E Lf/\(∀l∈Lf,RS (ls.map fnR) (fnR l))/\∀y,Out (n+1) y->(Hld n Lf y↔(∀z∈ls,fnR z n=0)\/Hld n ls y):=by
 rcases h with⟨hb,rfl⟩|⟨g,made,twin,low,eqs,rfl,hat,hli,heq,hlo,htw⟩
 ·exact .inl ⟨rfl,errL hl hb⟩
 ·obtain⟨sl,rfl,hsl⟩:=hli;obtain⟨se,rfl,hse⟩:=heq;obtain⟨h1,h2,h3⟩:=ahz hl hlo htw;exact .inr ⟨g,eqs,low,rfl,⟨se,sl,.inl hat,hse,hsl⟩,h1,h2,h3⟩
theorem BuiE.spn{w':World}{n:Nat}{rows:List (List Int)}{e:Ending}(hl:∀z∈rows,z.length=n+1)(h:BuiE w' n rows e):
  (e=.returned (.tuple #[.pointer none,.int .i64 2])/\∃E0,BigF n E0/\∀y,Out (n+1) y->(RS (E0.map fnR) y↔Cls n rows y)) \/
  ∃g E Lf,e=.returned (.tuple #[.pointer (some ⟨g,0,none⟩),.int .i64 0])/\Spn w' g n E Lf/\Kept n E Lf/\∀y,Out (n+1) y->(Hld n Lf y↔Cls n rows y):=by
 rcases h with⟨hb,rfl⟩|⟨g,made,twin,low,eqs,rfl,hat,heq,hli,hlo,htw⟩
 ·exact .inl ⟨rfl,errE hl hb⟩
 ·obtain⟨sl,rfl,hsl⟩:=hli;obtain⟨se,rfl,hse⟩:=heq;obtain⟨h1,h2⟩:=avz hl hlo htw;exact .inr ⟨g,low,eqs,rfl,⟨se,sl,.inr hat,hse,hsl⟩,h1,h2⟩
theorem PtsO.k{w':World}{n:Nat}{pts:List (List Rat)}{e:Ending}(h:PtsO w' n pts e):∃pv ev,e=.returned (.tuple #[pv,.int .i64 ev])/\PtsK w' n pts pv ev:=by
 rcases h with⟨h1,rfl⟩|⟨h1,h2⟩
 ·exact⟨_,_,rfl,.inl ⟨h1,rfl,rfl⟩⟩
 ·rcases h2.spn (av9 h1) with⟨rfl,h3⟩|⟨g,E,Lf,rfl,h3⟩
  ·exact⟨_,_,rfl,.inr ⟨h1,.inl ⟨rfl,rfl,h3⟩⟩⟩
  ·exact⟨_,_,rfl,.inr ⟨h1,.inr ⟨g,E,Lf,rfl,rfl,h3⟩⟩⟩
def RowsK(w':World)(n:Nat)(rows:List (List Int))(pv:Value)(ev:Int):Prop:=
 (ShpB rows n 1=false/\pv=.pointer none/\ev=1) \/
 (ShpB rows n 1=true/\((pv=.pointer none/\ev=2/\∃E0,BigF n E0/\∀y,Out (n+1) y->(RS (E0.map fnR) y↔Cls n rows y)) \/
  ∃g E Lf,pv=.pointer (some ⟨g,0,none⟩)/\ev=0/\Spn w' g n E Lf/\Kept n E Lf/\∀y,Out (n+1) y->(Hld n Lf y↔Cls n rows y)))
theorem RowsO.k{w':World}{n:Nat}{rows:List (List Int)}{e:Ending}(h:RowsO w' n rows e):∃pv ev,e=.returned (.tuple #[pv,.int .i64 ev])/\RowsK w' n rows pv ev:=by
 rcases h with⟨h1,rfl⟩|⟨h1,h2⟩
 ·exact⟨_,_,rfl,.inl ⟨h1,rfl,rfl⟩⟩
 ·rcases h2.spn (of_decide_eq_true h1).2.2 with⟨rfl,h3⟩|⟨g,E,Lf,rfl,h3⟩
  ·exact⟨_,_,rfl,.inr ⟨h1,.inl ⟨rfl,rfl,h3⟩⟩⟩
  ·exact⟨_,_,rfl,.inr ⟨h1,.inr ⟨g,E,Lf,rfl,rfl,h3⟩⟩⟩
section
end
end Lm
namespace Lm
open Go Go.RowKit Md
theorem FQ.parts{w:World}{e:FQ}(h1:Sl w (.slice e.r.a e.r.m e.r.c) e.zs)(h2:Sl w (.slice e.r.d e.r.k e.r.e) e.ys):(e.w.num.natAbs:Int)<pw (e.r.m+1)/\(e.w.den:Int)<pw (e.r.k+1):=by
 have l1:e.zs.length=e.r.m:=by
  obtain⟨_,_,g,_⟩:=h1;have g:=(Value.slice.injEq .. ▸ g);omega
 have l2:e.ys.length=e.r.k:=by
  obtain⟨_,_,g,_⟩:=h2;have g:=(Value.slice.injEq .. ▸ g);omega
 have b1:=aac h1.parts.2.2.2;have b2:=aac h2.parts.2.2.2;rw[l1]at b1;rw[l2]at b2;have m1:pw (e.r.m+1)=4294967296*pw e.r.m:=rfl;have m2:pw (e.r.k+1)=4294967296*pw e.r.k:=rfl;have p1:=aaf e.r.m;have p2:=aaf e.r.k;have hp:(e.p.natAbs:Int)=val e.zs:=by
  unfold FQ.p sg;split <;> omega
 by_cases hq:e.q=0
 ·have hw:e.w=0:=by
   unfold FQ.w;rw[hq,Rat.divInt_zero]
  rw[hw];refine⟨?_,?_⟩
  ·show((0:Int).natAbs:Int)<_;omega
  ·show((1:Nat):Int)<_;omega
 ·obtain⟨h3,h4⟩:=ada (z:=e.p) hq;have hq2:(e.q.natAbs:Int)=val e.ys:=by
   unfold FQ.q;omega
  have h5:e.w=Rat.divInt e.p e.q:=rfl;rw[<-h5]at h3 h4;exact⟨by omega,by omega⟩
def denQ:List FQ->Nat
 | []=>0
 |e::es=>e.r.k+1+denQ es
theorem awa(es:List FQ)(k:Nat):denQ (es.take k)<=denQ es:=by
 induction es generalizing k with
 |nil=>simp[denQ]
 |cons e es ih=>
  cases k with
  |zero=>simp[denQ]
  |succ k=>
   have:=ih k;simp only[List.take_succ_cons,denQ];omega
theorem ayt{es:List FQ}{e:FQ}(h:e∈es):e.r.m+denQ es<=lenFQ es:=by
 have hd:∀es:List FQ,denQ es<=lenFQ es:=fun es=>by
  induction es with
  |nil=>simp[denQ,lenFQ]
  |cons e es ih=>simp only[denQ,lenFQ];omega
 induction es with
 |nil=>cases h
 |cons x es ih=>
  simp only[denQ,lenFQ];rcases List.mem_cons.1 h with rfl|h
  ·have:=hd es;omega
  ·have:=ih h;omega
theorem ayu(es:List FQ):denQ es<=lenFQ es:=by
 induction es with
 |nil=>simp[denQ,lenFQ]
 |cons e es ih=>simp only[denQ,lenFQ];omega
theorem aq4:∀(es:List FQ) (z:Int) (A:Nat),(∀e∈es,(e.w.den:Int)<pw (e.r.k+1))->(z.natAbs:Int)<pw A->((wOf z (es.map FQ.w)).natAbs:Int)<pw (A+denQ es)
 | [],z,A,_,h=>by simpa[wOf,denQ]using h
 |e::es,z,A,hr,h=>by
  have h1:=aqw z e.w;have h2:=hr e (List.mem_cons_self ..);have h3:((((z:Rat)*e.w).den:Int).natAbs:Int)<pw (e.r.k+1):=by omega
  have h4:=aq4 es (z*(((z:Rat)*e.w).den:Int)) (A+(e.r.k+1)) (fun r hr'=>hr r (List.mem_cons_of_mem _ hr')) (ae6 h h3);rw[show A+denQ (e::es)=A+(e.r.k+1)+denQ es by simp only[denQ];omega];exact h4
theorem ayv{es:List FQ}(h:∀e∈es,(e.w.num.natAbs:Int)<pw (e.r.m+1)/\(e.w.den:Int)<pw (e.r.k+1)):(∀k,((wOf 1 ((es.map FQ.w).take k)).natAbs:Int)<pw (lenFQ es+3))/\∀z∈liftZ (es.map FQ.w),(z.natAbs:Int)<pw (lenFQ es+3):=by
 have hw:∀k,((wOf 1 ((es.map FQ.w).take k)).natAbs:Int)<pw (1+denQ es):=fun k=>by
  rw[<-List.map_take];have h1:=aq4 (es.take k) 1 1 (fun e he=>(h e (List.mem_of_mem_take he)).2) (by decide);have h2:pw (1+denQ (es.take k))<=pw (1+denQ es):=aam (by have:=awa es k;omega);omega
 have hl:=ayu es;refine⟨fun k=>?_,fun z hz=>?_⟩
 ·have h1:=hw k;have h2:pw (1+denQ es)<=pw (lenFQ es+3):=aam (by omega);omega
 ·have h0:=hw (es.map FQ.w).length;rw[List.take_length]at h0;rcases List.mem_append.1 hz with hz|hz
  ·obtain⟨r,hr,rfl⟩:=List.mem_map.1 hz;obtain⟨e,he,rfl⟩:=List.mem_map.1 hr;obtain⟨h1,h2⟩:=h e he;have hm:=ayt he;have hn:((((wOf 1 (es.map FQ.w):Int):Rat)*e.w).num.natAbs:Int)<pw (1+denQ es+(e.r.m+1)):=by
    have e1:((wOf 1 (es.map FQ.w):Int):Rat)*e.w=Rat.divInt (wOf 1 (es.map FQ.w)*e.w.num) (1*e.w.den):=by
     conv=>lhs;rw[adq ((wOf 1 (es.map FQ.w):Int):Rat),adq e.w,Rat.divInt_mul_divInt]
     simp
    obtain⟨h3,_⟩:=ada (z:=wOf 1 (es.map FQ.w)*e.w.num) (u:=1*e.w.den) (by have:=adf e.w;omega);rw[<-e1]at h3;have h4:=ae6 h0 h1;omega
   have h5:pw (1+denQ es+(e.r.m+1))<=pw (lenFQ es+3):=aam (by omega);omega
  ·obtain rfl:=List.mem_singleton.1 hz;have h2:pw (1+denQ es)<=pw (lenFQ es+3):=aam (by omega);rw[Int.natAbs_neg];omega
theorem asw(w:World)(v:Value)(fss:List (List FQ))(n:Nat)(h:RfM w v fss)(hb:lenFM fss<=1048576)(hn:n<=9223372036854775807):
  Calls Tryz.prog 35 #[.int .i64 (n:Int),v] w fun e w'=>PtsO w' n (zsF fss) e/\Below w.heap.size w w':=by
 refine aiy w v (zsF fss) 1048577 1048579 n (h.isQM (by omega)) hn (by omega) (by omega) (by omega) (fun ps hps _=>?_);obtain⟨es,hes,rfl⟩:=List.mem_map.1 hps;obtain⟨vs,h1,h2⟩:=h;obtain⟨i,hi⟩:=List.mem_iff_getElem?.1 hes;have hil:=(List.getElem?_eq_some_iff.1 hi).1;obtain⟨_,_,_,_,_,hvl,_⟩:=h1;obtain⟨u,hu⟩:∃u,vs[i]? = some u:=⟨_,List.getElem?_eq_getElem (by omega)⟩;have hR:=h2 i u es hu hi;have hm:=aly hes;obtain⟨k1,k2⟩:=ayv (es:=es) (fun e he=>FQ.parts (hR.s1 e he) (hR.s2 e he));have hp:pw (lenFQ es+3)<=pw 1048579:=aam (by omega);exact⟨fun k=>by have:=k1 k;omega,fun z hz=>by have:=k2 z hz;omega⟩
theorem aom(w:World)(v:Value)(K more:Int)(hK:K<0):
  Calls Tryz.prog 80 #[.int .i64 K,v,.int .i64 more] w fun e w'=>e=.returned (.bool false)/\Below w.heap.size w w':=by
 have hb1:=hAl w (.cells #[.int .i64 K] 3);have hb2:=hAl (w.alloc (.cells #[.int .i64 K] 3)) (.cells #[.int .i64 more] 3);have HB:=hide (hb1.trans (hb2.mono hb1.size));clear hb1 hb2;go_enter Tryz.func80,Tryz.ntmps80
 go_wp2;refine bodyPost_ret (v:=_) (by simp[results,Tryz.results80,go_sem];try rfl) rfl ⟨rfl,HB.out⟩
theorem aon(w:World)(v:Value)(K more:Int)(hK:K<0):
  Calls Tryz.prog 81 #[.int .i64 K,v,.int .i64 more] w fun e w'=>e=.returned (.bool false)/\Below w.heap.size w w':=by
 have hb1:=hAl w (.cells #[.int .i64 K] 3);have hb2:=hAl (w.alloc (.cells #[.int .i64 K] 3)) (.cells #[.int .i64 more] 3);have HB:=hide (hb1.trans (hb2.mono hb1.size));clear hb1 hb2;go_enter Tryz.func81,Tryz.ntmps81
 go_wp2;refine bodyPost_ret (v:=_) (by simp[results,Tryz.results81,go_sem];try rfl) rfl ⟨rfl,HB.out⟩
theorem apx(w:World)(v:Value)(K:Int)(hK:K<0):
  Calls Tryz.prog 35 #[.int .i64 K,v] w fun e w'=>e=.returned (.tuple #[.pointer none,.int .i64 1])/\Below w.heap.size w w':=by
 have K1:=hide (aom w v K 0 hK);go_enter Tryz.func35,Tryz.ntmps35
 go_wp2_with fail
 refine K1.out.mono ?_;rintro e w1 ⟨rfl,hb⟩;have HB:=hide hb;clear hb K1;go_wp2;refine bodyPost_ret (v:=_) (by simp[results,Tryz.results35,go_sem];try rfl) rfl ⟨rfl,HB.out⟩
theorem awb(w:World)(v:Value)(K:Int)(hK:K<0):
  Calls Tryz.prog 36 #[.int .i64 K,v] w fun e w'=>e=.returned (.tuple #[.pointer none,.int .i64 1])/\Below w.heap.size w w':=by
 have K1:=hide (aon w v K 1 hK);go_enter Tryz.func36,Tryz.ntmps36
 go_wp2_with fail
 refine K1.out.mono ?_;rintro e w1 ⟨rfl,hb⟩;have HB:=hide hb;clear hb K1;go_wp2;refine bodyPost_ret (v:=_) (by simp[results,Tryz.results36,go_sem];try rfl) rfl ⟨rfl,HB.out⟩
def AloO(w:World)(K:Int)(pv:Value):Prop:=pv=.pointer none\/∃g n E Lf,K=((n:Nat):Int)/\n<=16/\pv=.pointer (some ⟨g,0,none⟩)/\Spn w g n E Lf/\Kept n E Lf
theorem spointsI(w:World)(v:Value)(fss:List (List FQ))(K:Int)(h:RfM w v fss)(hb:lenFM fss<=1048576)(hn:K<=9223372036854775807):
  Calls Tryz.prog 35 #[.int .i64 K,v] w fun e w'=>∃pv ev,e=.returned (.tuple #[pv,.int .i64 ev])/\AloO w' K pv/\Below w.heap.size w w':=by
 by_cases hK:K<0
 ·refine(apx w v K hK).mono ?_;rintro e w' ⟨rfl,hb⟩;exact⟨_,_,rfl,.inl rfl,hb⟩
 ·obtain⟨n,rfl⟩:∃n:Nat,K=n:=⟨K.toNat,by omega⟩;refine(asw w v fss n h hb (by omega)).mono ?_;rintro e w' ⟨ho,hb⟩;obtain⟨pv,ev,rfl,hk⟩:=ho.k;refine⟨pv,ev,rfl,?_,hb⟩;rcases hk with⟨_,rfl,_⟩|⟨hs,⟨rfl,_⟩|⟨g,E,Lf,rfl,_,h1,h2,_⟩⟩
  ·exact .inl rfl
  ·exact .inl rfl
  ·exact .inr ⟨g,n,E,Lf,rfl,(of_decide_eq_true hs).1,rfl,h1,h2⟩
theorem srowsI(w:World)(v:Value)(rows:List (List Int))(K:Int)(h:IsM w v rows 1048577)(hn:K<=9223372036854775807):
  Calls Tryz.prog 36 #[.int .i64 K,v] w fun e w'=>∃pv ev,e=.returned (.tuple #[pv,.int .i64 ev])/\AloO w' K pv/\Below w.heap.size w w':=by
 by_cases hK:K<0
 ·refine(awb w v K hK).mono ?_;rintro e w' ⟨rfl,hb⟩;exact⟨_,_,rfl,.inl rfl,hb⟩
 ·obtain⟨n,rfl⟩:∃n:Nat,K=n:=⟨K.toNat,by omega⟩;refine(avt w v rows 1048577 n h (by omega) (by omega) (by omega)).mono ?_;rintro e w' ⟨ho,hb⟩;obtain⟨pv,ev,rfl,hk⟩:=ho.k;refine⟨pv,ev,rfl,?_,hb⟩;rcases hk with⟨_,rfl,_⟩|⟨hs,⟨rfl,_⟩|⟨g,E,Lf,rfl,_,h1,h2,_⟩⟩
  ·exact .inl rfl
  ·exact .inl rfl
  ·exact .inr ⟨g,n,E,Lf,rfl,(of_decide_eq_true hs).1,rfl,h1,h2⟩
theorem a1s(w:World):RfM w (.slice none 0 0) []:=⟨[],⟨_,_,rfl,Nat.le_refl _,by decide,rfl,.inl rfl⟩,fun i u z hu=>by simp at hu⟩
theorem semptyI(w:World)(K:Int)(hn:K<=9223372036854775807):
  Calls Tryz.prog 42 #[.int .i64 K] w fun e w'=>∃pv ev,e=.returned (.tuple #[pv,.int .i64 ev])/\AloO w' K pv/\Below w.heap.size w w':=by
 have K1:=hide (spointsI w _ [] K (a1s w) (by decide) hn);go_enter Tryz.func42,Tryz.ntmps42
 go_wp2_with fail
 refine K1.out.mono ?_;rintro e w1 ⟨pv,ev,rfl,ha,hb⟩;have HA:=hide (And.intro ha hb);clear ha hb K1;go_wp2;refine bodyPost_ret (v:=_) (by simp[results,Tryz.results42,go_sem];try rfl) rfl ⟨_,_,rfl,HA.out⟩
theorem sallI(w:World)(K:Int)(hn:K<=9223372036854775807):
  Calls Tryz.prog 41 #[.int .i64 K] w fun e w'=>∃pv ev,e=.returned (.tuple #[pv,.int .i64 ev])/\AloO w' K pv/\Below w.heap.size w w':=by
 have K1:=hide (srowsI w _ [] K (ajj w none 1048577) hn);go_enter Tryz.func41,Tryz.ntmps41
 go_wp2_with fail
 refine K1.out.mono ?_;rintro e w1 ⟨pv,ev,rfl,ha,hb⟩;have HA:=hide (And.intro ha hb);clear ha hb K1;go_wp2;refine bodyPost_ret (v:=_) (by simp[results,Tryz.results41,go_sem];try rfl) rfl ⟨_,_,rfl,HA.out⟩
def InW(w:World)(v:Value)(K:Int):Prop:=∃kind pv rv fss ess,v=.agg #[.int .i64 K,.int .i64 kind,pv,rv]/\RfM w pv fss/\lenFM fss<=1048576/\RwM w rv ess/\lenM ess<=1048576/\K<=9223372036854775807
theorem InW.below{w w':World}{v:Value}{K:Int}(h:InW w v K)(hb:Below w.heap.size w w'):InW w' v K:=by
 obtain⟨kind,pv,rv,fss,ess,e,h1,h2,h3,h4,h5⟩:=h;exact⟨kind,pv,rv,fss,ess,e,h1.below hb,h2,h3.below hb,h4,h5⟩
theorem asy(w:World)(v:Value)(K:Int)(h:InW w v K):
  Calls Tryz.prog 9 #[v] w fun e w'=>∃pv,e=.returned pv/\AloO w' K pv/\Below w.heap.size w w':=by
 obtain⟨kind,pv,rv,fss,ess,rfl,h1,h2,h3,h4,h5⟩:=h;obtain⟨ap,cp,hp,_⟩:=h1.parts;obtain⟨ar,cr,hr,_⟩:=h3.parts;subst hp hr;have hb:=hAl w (.cells #[.int .i64 K,.int .i64 kind,.slice ap fss.length cp,.slice ar ess.length cr] 25);have KP:=hide (spointsI _ _ fss K (h1.below hb) h2 h5);have KR:=hide (srowsI _ _ (zsM ess) K ((h3.below hb).isM (by omega)) h5);have KA:=hide (sallI (w.alloc (.cells #[.int .i64 K,.int .i64 kind,.slice ap fss.length cp,.slice ar ess.length cr] 25)) K h5);have KE:=hide (semptyI (w.alloc (.cells #[.int .i64 K,.int .i64 kind,.slice ap fss.length cp,.slice ar ess.length cr] 25)) K h5);have HB:=hide hb;generalize fss.length=n1 at *
 generalize ess.length=n2 at *
 clear h1 h2 h3 h4 h5 hb;go_enter Tryz.func9,Tryz.ntmps9
 by_cases k0:kind=0
 ·subst k0;go_wp2_with fail
  refine KP.out.mono ?_;rintro e w1 ⟨pv,ev,rfl,ha,hb⟩;have HA:=hide (And.intro ha (HB.out.trans (hb.mono HB.out.size)));clear ha hb KP KR KA KE;go_wp2;refine bodyPost_ret (v:=_) (by simp[results,Tryz.results9,go_sem];try rfl) rfl ⟨_,rfl,HA.out⟩
 have k0':(kind==0)=false:=by simpa using k0
 by_cases k1:kind=1
 ·subst k1;go_wp2_with fail
  refine KR.out.mono ?_;rintro e w1 ⟨pv,ev,rfl,ha,hb⟩;have HA:=hide (And.intro ha (HB.out.trans (hb.mono HB.out.size)));clear ha hb KP KR KA KE;go_wp2;refine bodyPost_ret (v:=_) (by simp[results,Tryz.results9,go_sem];try rfl) rfl ⟨_,rfl,HA.out⟩
 have k1':(kind==1)=false:=by simpa using k1
 by_cases k2:kind=2
 ·subst k2;go_wp2_with fail
  refine KA.out.mono ?_;rintro e w1 ⟨pv,ev,rfl,ha,hb⟩;have HA:=hide (And.intro ha (HB.out.trans (hb.mono HB.out.size)));clear ha hb KP KR KA KE;go_wp2;refine bodyPost_ret (v:=_) (by simp[results,Tryz.results9,go_sem];try rfl) rfl ⟨_,rfl,HA.out⟩
 have k2':(kind==2)=false:=by simpa using k2
 by_cases k3:kind=3
 ·subst k3;go_wp2_with fail
  refine KE.out.mono ?_;rintro e w1 ⟨pv,ev,rfl,ha,hb⟩;have HA:=hide (And.intro ha (HB.out.trans (hb.mono HB.out.size)));clear ha hb KP KR KA KE;go_wp2;refine bodyPost_ret (v:=_) (by simp[results,Tryz.results9,go_sem];try rfl) rfl ⟨_,rfl,HA.out⟩
 have k3':(kind==3)=false:=by simpa using k3
 clear KP KR KA KE;go_wp2;refine bodyPost_ret (v:=_) (by simp[results,Tryz.results9,go_sem];try rfl) rfl ⟨_,rfl,.inl rfl,HB.out⟩
end Lm
namespace Lm
open Go Go.RowKit Md
theorem Kept.len{n:Nat}{E Lf:List (List Int)}(h:Kept n E Lf):E.length<=n+1/\Lf.length<=n+1:=by
 rcases h with⟨rfl,rfl⟩|h
 ·exact⟨by simp,by simp⟩
 ·obtain⟨_,p,St,hm⟩:=h.mirs;refine⟨h.can.asc,?_⟩;rw[hm.lf];have:=hm.can.asc;simp[zro];omega
section
end
theorem sdimK(w:World)(g n:Nat)(E Lf:List (List Int))(hS:Spn w g n E Lf)(k:Kept n E Lf)(hn:n<=16):
  Calls Tryz.prog 12 #[.pointer (some ⟨g,0,none⟩)] w fun e w'=>e=.returned (.int .i64 ((Lf.length:Int)-1))/\Below w.heap.size w w':=by
 obtain⟨se,sl,hSE,hSe,hSl⟩:=hS.at_;obtain⟨al,cl,hal,_⟩:=hSl.parts;exact aod w g n Lf.length se sl al cl hSE hal (by have:=k.len;omega)
theorem alz(w:World)(g n:Nat)(E Lf:List (List Int))(hS:Spn w g n E Lf):
  Calls Tryz.prog 13 #[.pointer (some ⟨g,0,none⟩)] w fun e w'=>e=.returned (.int .i64 (n:Int))/\Below w.heap.size w w':=by
 obtain⟨se,sl,hSE,_,_⟩:=hS.at_;obtain⟨hgl,c0⟩:=hSE.num;clear hS hSE;go_enter Tryz.func13,Tryz.ntmps13
 go_wp2;refine bodyPost_ret (v:=_) (by simp[results,Tryz.results13,go_sem];try rfl) rfl ⟨rfl,Below.refl _ _⟩
end Lm
namespace Lm
open Go Go.RowKit Md
theorem akf:∀ {Q:List Nat} {c:Nat},Q.Pairwise (· > ·)->c∉Q->∃a b,Q=a++b/\(∀x∈a,c<x)/\∀x∈b,x<c
 | [],_,_,_=>⟨[],[],rfl,fun x hx=>(by cases hx),fun x hx=>(by cases hx)⟩
 |q::Q,c,hd,hc=>by
  rcases Nat.lt_trichotomy c q with h|h|h
  ·obtain⟨a,b,rfl,ha,hb⟩:=akf (List.pairwise_cons.1 hd).2 (fun hm=>hc (List.mem_cons_of_mem _ hm));exact⟨q::a,b,rfl,fun x hx=>by
    rcases List.mem_cons.1 hx with rfl|hx
    ·exact h
    ·exact ha x hx,hb⟩
  ·exact absurd (List.mem_cons.2 (.inl h)) hc
  ·refine⟨[],q::Q,rfl,fun x hx=>(by cases hx),fun x hx=>?_⟩;rcases List.mem_cons.1 hx with rfl|hx
   ·exact h
   ·have:=(List.pairwise_cons.1 hd).1 x hx;omega
theorem aq5(p:Nat->Prop):∀n,(∃c,c<n/\p c)->∃c,c<n/\p c/\∀k,k<c->¬p k
 |0,⟨_,h,_⟩=>by omega
 |n+1,⟨c,h,hp⟩=>by
  by_cases hx:∃c,c<n/\p c
  ·obtain⟨c,h1,h2,h3⟩:=aq5 p n hx;exact⟨c,by omega,h2,h3⟩
  ·obtain rfl:c=n:=by
    rcases Nat.lt_or_ge c n with h|h
    ·exact absurd ⟨c,h,hp⟩ hx
    ·omega
   exact⟨c,by omega,hp,fun k hk hpk=>hx ⟨k,hk,hpk⟩⟩
theorem a3f{n:Nat}{rows:List (List Int)}(hrn:∀r∈rows,r.length=n):∃R Q,Ech n rows R Q:=by
 have key:∀k,k<=rows.length->∃R Q,GatI n n rows k R Q false:=by
  intro k;induction k with
  |zero=>exact fun _=>⟨[],[],GatI.start n n rows⟩
  |succ k ih=>
   intro hk;obtain⟨R,Q,h⟩:=ih (by omega);have hr:rows[k]? = some rows[k]:=List.getElem?_eq_getElem (by omega);by_cases hx:∃c,c<n/\D (fnR rows[k]::R) (c::Q)≠0
   ·obtain⟨c,hc,hne,h0⟩:=aq5 _ n hx;obtain⟨a,b,hQ,ha,hb⟩:=akf h.gat.desc (Gat.not_mem hne);obtain⟨hG,_⟩:=h.gat.take hc (fun k hk=>Decidable.of_not_not (h0 k hk)) hne hQ ha hb;exact⟨_,_,h.add hr hG (by rw[hQ];simp;omega)⟩
   ·have hz:∀c,c<n->D (fnR rows[k]::R) (c::Q)=0:=fun c hc=>Decidable.of_not_not fun hne=>hx ⟨c,hc,hne⟩
    have hp:=h.pass hr hrn hz;have ht:(gRow (fun c=>D (fnR rows[k]::R) (c::Q)) n).any (fun z=>decide (z≠0))=false:=by
     rw[List.any_eq_false];intro z hzm;obtain⟨c,hc,rfl⟩:=List.mem_map.1 hzm;rw[hz c (List.mem_range.1 hc)];decide
    rw[ht]at hp;exact⟨R,Q,hp⟩
 exact key rows.length (Nat.le_refl _)
theorem a1t{n:Nat}{E:List (List Int)}(hE:CnE (n+1) E)(hl:∀r∈E,leadN r<n):Ind ((fac n E).map fnR):=by
 obtain⟨F,h1,h2,h3⟩:=hE.ef;have hlt:∀e∈F,e.1<n:=fun e he=>by
  have hm:e.2∈E.map fnR:=h3▸List.mem_map.2 ⟨e,he,rfl⟩;obtain⟨r,hr,hre⟩:=List.mem_map.1 hm;have hn:=h1.ne e he;have hz:=h1.led e he;rw[<-hre]at hn hz;have:leadN r=e.1:=Lead.n ⟨hn,hz⟩;have:=hl r hr;omega
 have hef:EF (F.map (fun e=>(e.1,fun k=>if k<n then e.2 k else 0))):=by
  refine⟨?_,fun e he=>?_,fun e he f hf hne=>?_,fun e he k hk=>?_⟩
  ·rw[List.pairwise_map];exact h1.asc
  ·obtain⟨g,hg,rfl⟩:=List.mem_map.1 he;show(if g.1<n then g.2 g.1 else 0)≠0;rw[if_pos (hlt g hg)];exact h1.ne g hg
  ·obtain⟨g,hg,rfl⟩:=List.mem_map.1 he;obtain⟨g',hg',rfl⟩:=List.mem_map.1 hf;show(if g'.1<n then g.2 g'.1 else 0)=0;rw[if_pos (hlt g' hg')];exact h1.oth g hg g' hg' hne
  ·obtain⟨g,hg,rfl⟩:=List.mem_map.1 he;show(if k<n then g.2 k else 0)=0;split
   ·exact h1.led g hg k hk
   ·rfl
 have hi:=ant hef;have e:(fac n E).map fnR=rowsE (F.map (fun e=>(e.1,fun k=>if k<n then e.2 k else 0))):=by
  have e1:(fac n E).map fnR=(E.map fnR).map (fun y k=>if k<n then y k else 0):=by
   unfold fac;rw[List.map_map,List.map_map];refine List.map_congr_left fun r hr=>?_
   funext k;show fnR (r.take n) k=if k<n then fnR r k else 0
   split
   ·next h=>exact aje h
   ·exact acc (by rw[List.length_take];omega)
  rw[e1,<-h3];unfold rowsE;rw[List.map_map,List.map_map];rfl
 rw[e];exact hi
theorem a1u{n:Nat}{rows:List (List Int)}{R:List Md.Rw}{Q:List Nat}(h:Ech n rows R Q)(hi:Ind (rows.map fnR)):Q.length=rows.length:=by
 have h1:=aq2 hi (T:=R) (fun s hs=>by
  obtain⟨r,hr,rfl⟩:=List.mem_map.1 hs
  exact h.rows_in hr)
 have h2:=aq2 (ant h.gat.ef) (T:=rows.map fnR) (fun s hs=>by
  obtain⟨e,he,rfl⟩:=List.mem_map.1 hs;refine RS.trans (S:=R) (.of (h.gat.ef_in e he)) fun y hy=>?_
  obtain⟨r,hr,rfl⟩:=h.mem hy
  exact .mem (List.mem_map.2 ⟨r,hr,rfl⟩))
 have h3:(rowsE (efOf R Q)).length=Q.length:=by rw[rowsE,List.length_map,an0]
 rw[h3,List.length_map]at h2;rw[List.length_map,GatI.len h]at h1;omega
theorem ayw{n:Nat}{E Lf:List (List Int)}(h:KeptF n E Lf):E.length+(Lf.length-1)=n:=by
 have hl:=h.mirs.1;rcases h.mir with⟨_,h0⟩|⟨_,R,Q,hR,_,_,hlf⟩
 ·exact absurd h0 h.ne
 ·have hfl:∀r∈fac n E,r.length=n:=fun r hr=>by
   obtain⟨e,he,rfl⟩:=List.mem_map.1 hr;rw[List.length_take,h.can.row e he];omega
  obtain⟨R1,Q1,h1⟩:=a3f hfl;have h2:=a06 h1 hR hfl;rw[a1u h1 (a1t h.can hl)]at h2;have h3:(fac n E).length=E.length:=by simp[fac]
  rw[hlf,List.length_cons,zro,List.length_map];omega
theorem ak8{row:List Int}{n:Nat}{ps qs:List Rat}{st:List Int}{c:Rat}(h:∀k,k<n->qs.getD k 0=ps.getD k 0+c*((fnR st k:Int):Rat)):∀k,k<=n->sQ row n qs k=sQ row n ps k+c*((dotN k (fnR row) (fnR st):Int):Rat)
 |0,_=>by
  show((-(fnR row n):Int):Rat)=((-(fnR row n):Int):Rat)+c*((dotN 0 (fnR row) (fnR st):Int):Rat);have h0:dotN 0 (fnR row) (fnR st)=0:=rfl;rw[h0]
  push_cast
  grind
 |k+1,hk=>by
  have ih:=ak8 h k (by omega) (row:=row);show sQ row n qs k+((fnR row k:Int):Rat)*qs.getD k 0=sQ row n ps k+((fnR row k:Int):Rat)*ps.getD k 0+_;rw[ih,h k (by omega),aa2]
  push_cast;generalize ((fnR row k:Int):Rat)=a at *
  generalize ((fnR st k:Int):Rat)=b at *
  generalize ((dotN k (fnR row) (fnR st):Int):Rat)=d at *
  generalize sQ row n ps k=s at *
  generalize ps.getD k 0=q at *
  grind
def MeetsQ(n:Nat)(E:List (List Int))(ps:List Rat):Prop:=∀e∈E,sQ e n ps n=0
theorem MeetsQ.mk{n:Nat}{E:List (List Int)}{ps:List Rat}(h:MeetsQ n E ps)(hl:ps.length=n):∀e∈E,mk0 (n+1) (liftZ ps) e=true:=fun e he=>decide_eq_true ((ain hl).1 (h e he))
theorem KeptF.base{n:Nat}{E Lf:List (List Int)}(h:KeptF n E Lf):∃p St,Lf=liftZ p::zro St/\p.length=n/\MeetsQ n E (lowQ (liftZ p) n)/\(∀q∈p,Fit q 32)/\fnR (liftZ p) n≠0/\∀s∈St,s.length=n/\(∀z∈s,(z.natAbs:Int)<pw 32)/\∀e∈E,dotN n (fnR e) (fnR s)=0:=by
 obtain⟨_,p,St,hm⟩:=h.mirs;have hd:∀e∈E,∀l∈Lf,dotN (n+1) (fnR e) (fnR l)=0:=fun e he l hl=>by
  have:=h.eqs.dot h.can.row e he l hl;exact this
 refine⟨p,St,hm.lf,hm.pl,fun e he=>(ain (ac3 _ _)).2 ?_,hm.fit,hm.base.2,fun s hs=>⟨hm.can.row s hs,fun z hz=>?_,fun e he=>?_⟩⟩
 ·rw[aa7];refine aq0 hm.base.2 ?_;rw[aa7];exact hd e he _ hm.base.1
 ·have:=hm.sml s hs;rw[List.any_eq_false]at this;exact Decidable.of_not_not fun hn=>this z hz (decide_eq_true hn)
 ·have h1:=hd e he (s ++ [0]) (by rw[hm.lf];exact List.mem_cons_of_mem _ (List.mem_map.2 ⟨s,hs,rfl⟩));have hsl:=hm.can.row s hs;rw[aa2,aga hsl,abi hsl n (Nat.le_refl n),Int.mul_zero,Int.add_zero]at h1;exact h1
end Lm
namespace Lm
open Go Go.RowKit Md
theorem Kept.head{n:Nat}{E ls:List (List Int)}{l:List Int}(k:Kept n E (l::ls)):fnR l n≠0/\KeptF n E (l::ls):=by
 rcases k with⟨h,_⟩|k
 ·cases h
 ·obtain⟨_,p,St,hm⟩:=k.mirs;have h:=hm.lf;rw[List.cons.injEq]at h;exact⟨by rw[h.1];exact hm.base.2,k⟩
theorem sBaseK(w:World)(g n:Nat)(E Lf:List (List Int))(hS:Spn w g n E Lf)(k:Kept n E Lf)(hn:n<=16):
  Calls Tryz.prog 11 #[.pointer (some ⟨g,0,none⟩)] w fun e w'=>((Lf = []/\e=.returned (.tuple #[.slice none 0 0,.bool false]))\/∃l ls bv,Lf=l::ls/\e=.returned (.tuple #[.slice (some ⟨bv,0,none⟩) n n,.bool true])/\w.heap.size<=bv/\QRw3 w' bv n n (lowQ l n) 1200)/\Below w.heap.size w w':=by
 obtain⟨se,sl,hSE,_,hSl⟩:=hS.at_;have K1:=hide (aez hSE);obtain⟨al,cl,rfl,_⟩:=hSl.parts;have hlen:=k.len.2;rcases Lf with _|⟨l,ls⟩
 ·clear hS hSE hSl k hlen;go_enter Tryz.func11,Tryz.ntmps11
  go_wp2_with fail
  refine K1.out.mono ?_;rintro e w1 ⟨rfl,hb1⟩;have HB1:=hide hb1;clear hb1 K1;rw[List.length_nil];go_wp2;refine bodyPost_ret (v:=_) (by simp[results,Tryz.results11,go_sem];try rfl) rfl ⟨.inl (by simp),HB1.out⟩
 ·obtain⟨b,off,u,rfl,hbl,hu,hur⟩:=hSl.cell (i:=0) rfl;obtain⟨ao,cap,rfl,_⟩:=hur.parts;have hll:=k.row.2 l (List.mem_cons_self ..);have K2:Hid (∀w1,Below w.heap.size w w1->_):=(fun w1 hb=>ahv w1 _ l 600 n (hur.below hb) hll k.head.1 (by omega) (by omega));have HU:=hide hu;obtain⟨m,hm⟩:∃m,(l::ls).length=m:=⟨_,rfl⟩;have hm1:0<m:=by rw[<-hm];simp
  have hmm:m<=17:=by omega
  rw[hm]at K1;rw[hll]at hu HU K2;clear hS hSE hSl k hlen hur hm hu;have hne:((m:Int)==0)=false:=by simp;omega
  have hne2:¬(m:Int)=0:=by omega
  go_enter Tryz.func11,Tryz.ntmps11
  go_wp2_with fail
  refine K1.out.mono ?_;rintro e w1 ⟨rfl,hb1⟩;have HB1:=hide hb1;have hu1:=(hb1.cell (p:=⟨b,off+0,none⟩) hbl).trans HU.out;have hu2:w1.cell? ⟨b,off,none⟩=some (.slice ao (n+1) cap):=hu1;have K2':=hide (K2.out w1 hb1);clear hb1 K1 K2 HU hu1;go_wp2_with fail
  refine K2'.out.mono ?_;rintro e w2 ⟨bv,rfl,hbv,hq,hb2⟩;have HB2:=hide (HB1.out.trans (hb2.mono HB1.out.size));have HQ:=hide hq;have HBV:=hide (Nat.le_trans HB1.out.size hbv);clear hq hb2 K2' hbv HB1;go_wp2;refine bodyPost_ret (v:=_) (by simp[results,Tryz.results11,go_sem];try rfl) rfl ⟨.inr ⟨l,ls,bv,by simp,rfl,HBV.out,HQ.out⟩,HB2.out⟩
end Lm
namespace Lm
open Go Go.RowKit Md
theorem QRw3.set{w:World}{bv n k:Nat}{rs:List Rat}{L:Nat}{r:Rat}{x:FE}(h:QRw3 w bv n n rs L)(hk:k<n)(hl:rs.length=n)(hx:OutQr r L x.v w):
  QRw3 (((w.setCell ⟨bv,k*3,none⟩ (.bool x.ng)).setCell ⟨bv,k*3+1,none⟩ (.slice x.a x.m x.c)).setCell ⟨bv,k*3+2,none⟩ (.slice x.d x.k x.e)) bv n n (rs.set k r) L/\Tch bv w (((w.setCell ⟨bv,k*3,none⟩ (.bool x.ng)).setCell ⟨bv,k*3+1,none⟩ (.slice x.a x.m x.c)).setCell ⟨bv,k*3+2,none⟩ (.slice x.d x.k x.e)):=by
 obtain⟨fs,h1,h2,h3⟩:=h;have ht:Tch bv w (((w.setCell ⟨bv,k*3,none⟩ (.bool x.ng)).setCell ⟨bv,k*3+1,none⟩ (.slice x.a x.m x.c)).setCell ⟨bv,k*3+2,none⟩ (.slice x.d x.k x.e)):=((abw w bv (k*3) _).trans (abw _ bv (k*3+1) _)).trans (abw _ bv (k*3+2) _);have s1:=heap_setCell_same w bv (k*3) _ _ (.bool x.ng) h2;have s2:=heap_setCell_same _ bv (k*3+1) _ _ (.slice x.a x.m x.c) s1;have s3:=heap_setCell_same _ bv (k*3+2) _ _ (.slice x.d x.k x.e) s2;have hru:Ru w (((w.setCell ⟨bv,k*3,none⟩ (.bool x.ng)).setCell ⟨bv,k*3+1,none⟩ (.slice x.a x.m x.c)).setCell ⟨bv,k*3+2,none⟩ (.slice x.d x.k x.e)):=Ru.of_one h2 (by decide) (al9 fs) ht.size (fun k hk hn=>ht.other k hk hn);refine⟨⟨fs.set k x,by simp[h1],?_,fun i f r' hi hf hr'=>?_⟩,ht⟩
 ·rw[s3,an1 fs k x (by omega)];simp
 ·by_cases e:k=i
  ·subst e;rw[List.getElem?_set_self (by omega)]at hf hr';obtain rfl:=Option.some.inj hf;obtain rfl:=Option.some.inj hr';exact hx.ru hru
  ·rw[List.getElem?_set_ne e]at hf hr';exact(h3 i f r' hi hf hr').ru hru
theorem a3g{w:World}{ng:Bool}{ao:Option Addr}{m c g:Nat}(h:IsW 1 1 (.agg #[.bool ng,.slice ao m c]) w)(hg:w.heap[g]? = some (.cells #[.int .u32 2] 86 (0,0))):IsQ (Rat.divInt 1 2) 1 (.agg #[.bool ng,.slice ao m c,.slice (some ⟨g,0,none⟩) 1 1]) w:=by
 obtain⟨ng',ao',n',cap',xs,e,h1,h2⟩:=h;simp only[Value.agg.injEq,Array.mk.injEq,List.cons.injEq,Value.bool.injEq,Value.slice.injEq,and_true]at e;obtain⟨rfl,rfl,rfl,rfl⟩:=e;refine⟨1,2,⟨ng,ao,m,c,xs,_,_,_,[2],rfl,h1,⟨_,_,rfl,Nat.le_refl _,by decide,fun z hz=>?_,.inr ⟨g,0,rfl,fun i hi=>?_⟩⟩,rfl,h2,by decide⟩,rfl⟩
 ·rw[List.mem_singleton.1 hz];decide
 ·obtain rfl:i=0:=by simp at hi;omega
  rw[cell_of_row _ _ _ _ _ (0,0) hg];rfl
def mixQ(qs:List Rat)(c:Rat)(st:List Int)(n v:Nat):List Rat:=qRow (fun j=>if j<v then qs.getD j 0+c*((fnR st j:Int):Rat)else qs.getD j 0) n
theorem aeb(qs:List Rat)(c:Rat)(st:List Int)(n v:Nat):(mixQ qs c st n v).length=n:=by simp[mixQ,qRow]
theorem awc{qs:List Rat}{c:Rat}{st:List Int}{n:Nat}(h:qs.length=n):mixQ qs c st n 0=qs:=by
 apply List.ext_getElem?;intro k;by_cases hk:k<n
 ·rw[mixQ,ad9 hk,if_neg (by omega),List.getD_eq_getElem?_getD,List.getElem?_eq_getElem (by omega)];rfl
 ·rw[List.getElem?_eq_none (by rw[aeb];omega),List.getElem?_eq_none (by omega)]
theorem awd{qs:List Rat}{c:Rat}{st:List Int}{n v:Nat}: (mixQ qs c st n v).set v (qs.getD v 0+c*((fnR st v:Int):Rat))=mixQ qs c st n (v+1):=by
 apply List.ext_getElem?;intro k;by_cases hk:k<n
 ·by_cases e:v=k
  ·subst e;rw[List.getElem?_set_self (by rw[aeb];exact hk),mixQ,ad9 hk,if_pos (by omega)]
  ·rw[List.getElem?_set_ne e,mixQ,ad9 hk,mixQ,ad9 hk];by_cases h:k<v
   ·rw[if_pos h,if_pos (by omega)]
   ·rw[if_neg h,if_neg (by omega)]
 ·rw[List.getElem?_eq_none (by rw[List.length_set,aeb];omega),List.getElem?_eq_none (by rw[aeb];omega)]
theorem a1v{qs:List Rat}{c:Rat}{st:List Int}{n v:Nat}(hv:v<n):(mixQ qs c st n v)[v]? = some (qs.getD v 0):=by
 rw[mixQ,ad9 hv,if_neg (by omega)]
theorem asz{n:Nat}{E:List (List Int)}{qs:List Rat}{c:Rat}{st:List Int}(h:MeetsQ n E qs)(hs:∀e∈E,dotN n (fnR e) (fnR st)=0):MeetsQ n E (mixQ qs c st n n):=fun e he=>by
 rw[ak8 (ps:=qs) (c:=c) (st:=st) (fun k hk=>?_) n (Nat.le_refl n),h e he,hs e he]
 ·push_cast
  grind
 ·rw[List.getD_eq_getElem?_getD,mixQ,ad9 hk,if_pos hk];rfl
def FitQ(i:Nat)(qs:List Rat):Prop:=∀r∈qs,Fit2 r (700+4*i) (600+3*i)
theorem aoo{i:Nat}{r c:Rat}{z:Int}(h:Fit2 r (700+4*i) (600+3*i))(hc:Fit c 3)(hz:(z.natAbs:Int)<pw 32):Fit2 (r+c*(z:Rat)) (700+4*(i+1)) (600+3*(i+1)):=by
 rw[Rat.mul_comm c];exact(ajg h (agy hz hc.two) (by omega)).mono (by omega) (by omega)
theorem ayx{c:Rat}{z:Int}(hc:Fit c 3)(hz:(z.natAbs:Int)<pw 32):Fit (c*(z:Rat)) 40:=by
 rw[Rat.mul_comm c];exact(agy hz hc.two).fit (by omega) (by omega)
theorem awe{i n:Nat}{qs:List Rat}{c:Rat}{st:List Int}(h:FitQ i qs)(hl:qs.length=n)(hc:Fit c 3)(hs:∀z∈st,(z.natAbs:Int)<pw 32):FitQ (i+1) (mixQ qs c st n n):=fun r hr=>by
 obtain⟨k,hk,rfl⟩:=List.mem_map.1 hr;have hkn:=List.mem_range.1 hk;rw[if_pos hkn];refine aoo (h _ ?_) hc (ab8 hs (by have:=aaf 32;omega) k);rw[List.getD_eq_getElem?_getD,List.getElem?_eq_getElem (by omega)];exact List.getElem_mem _
def WkS(w wr:World)(bv n i:Nat)(E:List (List Int))(qs:List Rat):Prop:=Below w.heap.size w wr/\w.heap.size<=bv/\qs.length=n/\QRw3 wr bv n n qs 1200/\MeetsQ n E qs/\FitQ i qs
theorem IsQ.le{r:Rat}{L M:Nat}{v:Value}{w:World}(h:IsQ r L v w)(hl:L<=M):IsQ r M v w:=by
 obtain⟨p,q,⟨ng,ao,n,cap,xs,bo,m,dap,ys,e,h1,h2,h3,h4,h5⟩,h6⟩:=h;exact⟨p,q,⟨ng,ao,n,cap,xs,bo,m,dap,ys,e,h1,h2,h3,by omega,by omega⟩,h6⟩
theorem RwO.tchQ{B g:Nat}{w w':World}{v:Value}{es:List WE}{c:Array Value}(h:RwO B w v es)(ht:Tch g w w')(hg:w.heap[g]? = some (.cells c 47 (0,0))):RwO B w' v es:=by
 refine⟨?_,fun e he=>(h.ow e he).tch ht hg (by decide)⟩;obtain⟨h1,h2|⟨k,cap,cur,rfl,hk,hh,h3⟩⟩:=h.own
 ·exact⟨h1,.inl h2⟩
 ·exact⟨h1,.inr ⟨k,cap,cur,rfl,hk,ht.blk hh (aau hg hh (by decide)),h3⟩⟩
def StO(w:World)(v:Value)(rows:List (List Int))(L:Nat):Prop:=∃K,∃vs:List Value,w.ownsRow K 39 1 v rows.length vs/\∀(i:Nat) (u:Value) (z:List Int),vs[i]? = some u->rows[i]? = some z->GrC 0 z L u w
theorem StO.below{w w':World}{v:Value}{rows:List (List Int)}{L:Nat}(h:StO w v rows L)(hb:Below w.heap.size w w'):StO w' v rows L:=by
 obtain⟨K,vs,h3,h4⟩:=h;exact⟨K,vs,ab9 h3 hb,fun i u z a b=>GrC.mono _ _ _ _ _ _ hb (h4 i u z a b)⟩
theorem StO.canM{w:World}{v:Value}{rows:List (List Int)}{L:Nat}(h:StO w v rows L):CanM w v rows L:=by
 obtain⟨K,vs,h3,h4⟩:=h;exact⟨vs,Ce.own h3,fun i u z a b=>(h4 i u z a b).can⟩
theorem StO.tch{w w':World}{g:Nat}{c:Array Value}{v:Value}{rows:List (List Int)}{L:Nat}(h:StO w v rows L)(ht:Tch g w w')(hg:w.heap[g]? = some (.cells c 47 (0,0))):StO w' v rows L:=by
 obtain⟨K,vs,⟨h1,h2⟩,h4⟩:=h;refine⟨K,vs,⟨h1,?_⟩,fun i u z a b=>?_⟩
 ·rcases h2 with h2|⟨k,cap,cur,rfl,hk,hh,h3⟩
  ·exact .inl h2
  ·exact .inr ⟨k,cap,cur,rfl,hk,ht.blk hh (aau hg hh (by decide)),h3⟩
 ·obtain⟨es,e1,e2⟩:=h4 i u z a b;exact⟨es,e1.tchQ ht hg,e2⟩
theorem LsC.sto{w0 wr:World}{v:Value}{k:Nat}{rows:List (List Int)}{L:Nat}(h:LsC w0 wr v k rows L):StO wr v rows L:=by
 obtain⟨_,h2,vs,h3,h4⟩:=h;exact⟨_,vs,by rw[h2];exact h3,h4⟩
theorem ayy(w:World)(g n:Nat)(se sl:Value)(low:List (List Int))(L:Nat)(hS:SpanEL w g n se sl)(hE:IsM w sl low L)(hel:∀r∈low,r.length=n+1)(hn:n<=16)(hm:low.length<=100)(hL:L<=1000):
  Calls Tryz.prog 15 #[.pointer (some ⟨g,0,none⟩)] w fun e w'=>∃v,e=.returned v/\StO w' v (stepsOf n low) L/\Below w.heap.size w w':=by
 have K1:=hide (aez hS);have HE:=hide hE;have HEL:=hide hel;have HS:=hide hS;obtain⟨ae,ce,rfl,_⟩:=hE.parts;obtain⟨m,hmm⟩:∃m,low.length=m:=⟨_,rfl⟩;rw[hmm]at HE hm K1;have HM:=hide hmm;obtain⟨hgl,c0⟩:=hS.num;have HC0:=hide c0;clear hS hE hel hmm c0;go_enter Tryz.func15,Tryz.ntmps15
 go_wp2_with fail
 refine K1.out.mono ?_;rintro e w1 ⟨rfl,hb1⟩;have HB1:=hide hb1;clear hb1 K1;go_wp2;go_loopw [3,9] (fun lw iv wr=>∃(k:Nat),iv=.int .i64 k/\k<=m/\LsC w wr lw (k-1) (stepsOf n (low.take k)) L) (fun _ iv _=>m-(intOf iv).toNat)
 case atStart=>exact⟨0,rfl,Nat.zero_le _,HB1.out,rfl,[],World.ownsRow_nil _ _ _ _,fun i u z hu=>by simp at hu⟩
 case round=>
  obtain⟨k,rfl,hk,hst⟩:=hrel;by_cases hlt:k<m
  ·have hlt':(k:Int)<(m:Int):=by omega
   obtain⟨z,hz⟩:∃z,low[k]? = some z:=⟨_,List.getElem?_eq_getElem (by have:=HM.out;omega)⟩;obtain⟨b,off,u,rfl,hbl,hu,hur⟩:=(HE.out.below hst.1).cell hz;have hzl:=HEL.out z (List.mem_of_getElem? hz);have c0:wr.cell? ⟨g,0,none⟩=some (.int .i64 (n:Int)):=(hst.1.cell (p:=⟨g,0,none⟩) hgl).trans HC0.out;have hglr:g<wr.heap.size:=Nat.lt_of_lt_of_le hgl hst.1.size;obtain⟨au,cu,rfl,hzc⟩:=hur.parts;obtain⟨hcap,hcm⟩:=hur.cap;rw[hzl]at hur hcap hu;have hpre:=hur.pre (n:=n) (by omega);have HST:=hide hst;by_cases hk0:k=0
   ·subst hk0;rw[Nat.add_zero]at hu;clear hst hur hz hzl hpre;go_wp2;go_roundw
    case rel=>exact⟨1,by go_num,by omega,by
     have h1:=HST.out;have e:stepsOf n (low.take 1)=stepsOf n (low.take 0):=by
      unfold stepsOf;cases low <;> rfl
     rw[e]
     exact h1⟩
    case measure=>simp[intOf];omega
   ·have K:=hide (afx wr (.slice au n cu) (z.take n) L n hpre (by rw[List.length_take];omega) (by omega) (by omega));have HGZ:Hid (stepsOf n (low.take (k+1))=stepsOf n (low.take k) ++ [z.take n]):=(show _=_ by
     unfold stepsOf;rw[List.take_add_one,hz];rw[List.drop_append_of_le_length (by rw[List.length_take];have:=HM.out;omega)]
     simp)
    have HZL:Hid ((z.take n).length=n):=(show _=_ by rw[List.length_take];omega);have hk0':(k:Int) > 0:=by omega
    have HK1:Hid (k-1+1=k):=(show k-1+1=k by omega);obtain⟨k1,hk1⟩:∃k1,k-1=k1:=⟨_,rfl⟩;rw[hk1]at HST HK1;have hk1le:k1<=100:=by omega
    clear hst hur hz hzl hpre hk1;go_wp2_with fail
    refine K.out.mono ?_;rintro e w3 ⟨r,rfl,hor,hb3⟩;have hst3:=HST.out.below hb3;have hgs:=hor.grc;obtain⟨bv,rfl,_⟩:=hor;rw[HZL.out]at hgs;have hA3:=hAl w3 (.cells #[.slice (some ⟨bv,0,none⟩) n n] 39);have hn3:=heap_alloc_new w3 (.cells #[.slice (some ⟨bv,0,none⟩) n n] 39);have hst4:=hst3.below hA3;have hgs4:=GrC.mono _ _ _ _ _ _ hA3 hgs;clear hst3 hgs hA3 hb3 K c0;rw[HZL.out];go_wp2_with (at_builtin;refine ab4 rfl (ak6 (i:=16) (j:=24) rfl hst4 rfl hn3 hgs4 rfl (by omega)) ?_)
    intro v2 w4 hst5;rw[HK1.out]at hst5;have HS5:=hide hst5;clear hst4 hn3 hgs4 hst5;go_wp2;go_roundw
    case rel=>exact⟨k+1,by go_num,by omega,by rw[HGZ.out];exact HS5.out⟩
    case measure=>simp[intOf];omega
  ·have hlt':decide ((k:Int)<(m:Int))=false:=by simp;omega
   obtain rfl:m=k:=by omega
   rw[List.take_of_length_le (by have:=HM.out;omega)]at hst;have HC:=hide hst.sto;have HW:=hide hst.1;obtain⟨ao,cp,rfl,_⟩:=HC.out.canM.parts;clear hst;go_wp2;refine bodyPost_ret (v:=_) (by simp[results,Tryz.results15,go_sem];try rfl) rfl ⟨_,rfl,HC.out,HW.out⟩
def InS(w wz:World)(bv gk n j:Nat)(qs:List Rat)(c:Rat)(st:List Int)(x:FE)(vs:Value)(St:List (List Int)):Prop:=Below w.heap.size w wz/\QRw3 wz bv n n (mixQ qs c st n j) 1200/\StO wz vs St 600/\IsQ c 3 x.v wz/\wz.heap[gk]? = some (.cells #[.bool x.ng,.slice x.a x.m x.c,.slice x.d x.k x.e] 47 (0,0))
theorem InS.below{w wz w':World}{bv gk n j:Nat}{qs:List Rat}{c:Rat}{st:List Int}{x:FE}{vs:Value}{St:List (List Int)}(h:InS w wz bv gk n j qs c st x vs St)(hb:Below wz.heap.size wz w'):InS w w' bv gk n j qs c st x vs St:=
 ⟨h.1.trans (hb.mono h.1.size),h.2.1.below hb,h.2.2.1.below hb,h.2.2.2.1.below hb,(hb.block _ (aaa h.2.2.2.2)).trans h.2.2.2.2⟩
theorem InS.next{w wz:World}{bv gk n j:Nat}{qs:List Rat}{c:Rat}{st:List Int}{x y:FE}{vs:Value}{St:List (List Int)}(h:InS w wz bv gk n j qs c st x vs St)(hj:j<n)(hw:w.heap.size<=bv)(hg:bv<gk)(hy:OutQr (qs.getD j 0+c*((fnR st j:Int):Rat)) 1200 y.v wz):
  InS w (((wz.setCell ⟨bv,j*3,none⟩ (.bool y.ng)).setCell ⟨bv,j*3+1,none⟩ (.slice y.a y.m y.c)).setCell ⟨bv,j*3+2,none⟩ (.slice y.d y.k y.e)) bv gk n (j+1) qs c st x vs St:=by
 obtain⟨h1,h2,h3,h4,h5⟩:=h;obtain⟨s1,s2⟩:=h2.set hj (aeb ..) hy;obtain⟨fs,f1,f2,_⟩:=h2;have hru:Ru wz _:=Ru.of_one f2 (by decide) (al9 fs) s2.size (fun k hk hn=>s2.other k hk hn);rw[awd]at s1;exact⟨h1.trans (s2.below h1.size hw),s1,h3.tch s2 f2,h4.ru hru,s2.blk h5 (by omega)⟩
end Lm
namespace Lm
open Go Go.RowKit Md
theorem ayz:Fit (Rat.divInt 1 2) 3:=adx (by decide) (by decide) (by decide)
theorem aq6{z:Int}(h1 : -9223372036854775808<=z)(h2:z<=9223372036854775807):Fit (z:Rat) 3:=by
 have h:pw 3=79228162514264337593543950336:=by decide
 exact(ajn (L:=3) (by omega)).fit (by omega) (by omega)
theorem apy{n:Nat}{p:List Int}{St:List (List Int)}(h:∀s∈St,s.length=n):stepsOf n (p::zro St)=St:=by
 unfold stepsOf zro;rw[List.drop_one,List.tail_cons,List.map_map];conv=>rhs;rw[<-List.map_id St]
 refine List.map_congr_left fun s hs=>?_
 show(s ++ [0]).take n=s;rw[List.take_append_of_le_length (by rw[h s hs];exact Nat.le_refl n),List.take_of_length_le (by rw[h s hs];exact Nat.le_refl n)]
theorem WkS.below{w wr wr':World}{bv n i:Nat}{E:List (List Int)}{qs:List Rat}(h:WkS w wr bv n i E qs)(hb:Below wr.heap.size wr wr'):WkS w wr' bv n i E qs:=⟨h.1.trans (hb.mono h.1.size),h.2.1,h.2.2.1,h.2.2.2.1.below hb,h.2.2.2.2.1,h.2.2.2.2.2⟩
theorem apz(w:World)(g n:Nat)(E Lf:List (List Int))(vb:Value)(bs:List Int)(hS:Spn w g n E Lf)(k:KeptF n E Lf)(hn:n<=16)(hb:Nums w vb bs)(hbr:∀z∈bs,-9223372036854775808<=z/\z<=9223372036854775807):
  Calls Tryz.prog 17 #[.pointer (some ⟨g,0,none⟩),vb] w fun e w'=>∃bv qs i,e=.returned (.slice (some ⟨bv,0,none⟩) n n)/\WkS w w' bv n i E qs/\i<=16:=by
 obtain⟨p,St,hlf,hpl,hmt,hft,hp0,hst⟩:=k.base;have K1:=hide (sBaseK w g n E Lf hS (.inr k) hn);have hlen:=(Kept.len (.inr k)).2;have hso:stepsOf n Lf=St:=by rw[hlf];exact apy (fun s hs=>(hst s hs).1)
 have hsl:St.length<=16:=by rw[hlf]at hlen;simp[zro]at hlen;omega
 obtain⟨se,sl,hSE,hSe,hSl⟩:=hS.at_;have K2:Hid (∀w1,Below w.heap.size w w1->_):=(fun w1 hb=>ayy w1 g n se sl Lf 600 (hSE.below hb) (hSl.below hb) k.row hn (by omega) (by omega));rw[hso]at K2;have hne:Lf≠[]:=k.ne;have hlp:∀l ls,Lf=l::ls->l=liftZ p:=fun l ls e=>by rw[hlf]at e;exact(List.cons.inj e).1.symm
 have hb0:=hb;obtain⟨ab,cb,rfl,-⟩:=hb0;have HLP:=hide hlp;have HMT:=hide hmt;have hfit:FitQ 0 (lowQ (liftZ p) n):=fun r hr=>by
  obtain⟨c,hc,rfl⟩:=List.mem_map.1 hr;have hpz:=hSl.lts (liftZ p) (by rw[hlf];exact List.mem_cons_self ..);have h1:=ab8 hpz (by have:=aaf 600;omega);exact Fit2.mono (Fit.two (adx hp0 (by rw[Int.natAbs_neg];exact h1 c) (h1 n))) (by omega) (by omega)
 have HFT:=hide hfit;have HST:=hide hst;have HNB:=hide hb;have HBR:=hide hbr;obtain⟨nb,hnb⟩:∃m,bs.length=m:=⟨_,rfl⟩;have HNBL:=hide hnb;rw[hnb]at HNB ⊢;obtain⟨m,hm⟩:∃m,St.length=m:=⟨_,rfl⟩;have HMM:=hide hm;rw[hm]at hsl;clear hS hSE hSe hSl hlf hpl hmt hft hst hlen hso hlp hb hbr hfit hp0 k hnb hm;go_enter Tryz.func17,Tryz.ntmps17
 go_wp2_with fail
 refine K1.out.mono ?_;rintro e w1 ⟨⟨h,_⟩|⟨l,ls,bv,hl,rfl,hbv,hq⟩,hb1⟩
 case inl=>exact absurd h hne
 obtain rfl:=HLP.out l ls hl;have K2':=hide (K2.out w1 hb1);have hw0:WkS w w1 bv n 0 E (lowQ (liftZ p) n):=⟨hb1,hbv,ac3 _ _,hq,HMT.out,HFT.out⟩;have HW0:=hide hw0;clear hl hbv hq hb1 K1 K2 hne HLP HMT HFT hw0;go_wp2_with fail
 refine K2'.out.mono ?_;rintro e w2 ⟨vs,rfl,hcm,hb2⟩;obtain⟨as_,cs_,rfl,-⟩:=hcm.canM.parts;have HW2:=hide (HW0.out.below hb2);have HCM:=hide hcm;rw[HMM.out]at HCM ⊢;clear hcm hb2 K2' HW0;go_wp2;go_loopw [8] (fun iv wr=>∃(i:Nat) (qs:List Rat),iv=.int .i64 (i:Int)/\i<=m/\WkS w wr bv n i E qs/\StO wr (.slice as_ m cs_) St 600) (fun iv _=>m-(intOf iv).toNat)
 case atStart=>exact⟨0,_,rfl,Nat.zero_le _,HW2.out,HCM.out⟩
 case round=>
  obtain⟨i,qs,rfl,hi,hst,hso⟩:=hrel;by_cases hlt:i<m
  ·have hlt':(i:Int)<(m:Int):=by omega
   have HS:=hide hst;have HSO:=hide hso;have K:=hide (wofF wr 1 (by decide) (by decide));clear hst hso;go_wp2_with fail
   refine K.out.mono ?_;rintro e w3 ⟨r1,rfl,hF1,hb3⟩;obtain⟨ng1,a1,m1,c1,rfl⟩:=hF1.agg;have HF1:=hide (hF1.fit (L':=1) (by decide));have HB3:=hide hb3;clear hF1 hb3 K;have hgw:bv<wr.heap.size:=HS.out.2.2.2.1.lt;have hA1:=hAl w3 (.cells #[.int .u32 2] 86);have hn1:=heap_alloc_new w3 (.cells #[.int .u32 2] 86);have hA2:=hAl (w3.alloc (.cells #[.int .u32 2] 86)) (.cells #[.bool ng1,.slice a1 m1 c1,.slice (some ⟨w3.heap.size,0,none⟩) 1 1] 47);have hn2:=heap_alloc_new (w3.alloc (.cells #[.int .u32 2] 86)) (.cells #[.bool ng1,.slice a1 m1 c1,.slice (some ⟨w3.heap.size,0,none⟩) 1 1] 47);have hsz:(w3.alloc (.cells #[.int .u32 2] 86)).heap.size=w3.heap.size+1:=by simp
   rw[hsz]at hn2;have hq0:=a3g (HF1.out.is.ru (Ru.of_below (hA1.trans (hA2.mono hA1.size)))) ((hA2.block _ (aaa hn1)).trans hn1);have hb4:=HB3.out.trans ((hA1.trans (hA2.mono hA1.size)).mono HB3.out.size);have hgk:wr.heap.size<=w3.heap.size+1:=by have:=HB3.out.size;omega
   go_upto_if 29 with fail
   generalize (w3.alloc (.cells #[.int .u32 2] 86)).alloc (.cells #[.bool ng1,.slice a1 m1 c1,.slice (some ⟨w3.heap.size,0,none⟩) 1 1] 47)=w4 at *
   have HQ0:=hide hq0;have HB4:=hide hb4;have HN4:=hide hn2;have HGK:=hide hgk;have HGW:=hide hgw;clear hA1 hn1 hA2 hn2 hsz hq0 hb4 hgk hgw HF1 HB3;obtain⟨gd,hgd⟩:∃g,w3.heap.size=g:=⟨_,rfl⟩;rw[hgd]at HQ0 HN4 HGK ⊢;clear hgd;go_cut [] (fun wx=>∃(c:Rat) (x:FE),Fit c 3/\IsQ c 3 x.v wx/\wx.heap[gd+1]? = some (.cells #[.bool x.ng,.slice x.a x.m x.c,.slice x.d x.k x.e] 47 (0,0))/\Below wr.heap.size wr wx)
   case first=>
    by_cases hnb:nb=0
    ·have hd0:decide (0<nb)=false:=by simp;omega
     have hd1:decide ((0:Int)<(nb:Int))=false:=by simp;omega
     go_wp2_with fail
     go_meet;exact⟨_,⟨ng1,a1,m1,c1,some ⟨gd,0,none⟩,1,1⟩,ayz,IsQ.le HQ0.out (by decide),HN4.out,HB4.out⟩
    ·have hd0:decide (0<nb)=true:=by simp;omega
     have hd1:decide ((0:Int)<(nb:Int))=true:=by simp;omega
     have hmod:(i:Int).tmod (nb:Int)=((i%nb:Nat):Int):=by rw[Int.ofNat_tmod]
     have hml:i%nb<nb:=Nat.mod_lt _ (by omega);have hnz:((nb:Int)==0)=false:=by simp;omega
     have hnz2:¬(nb:Int)=0:=by omega
     obtain⟨bb,ob,hbe,hbz⟩:=(show Nums w4 _ bs from Ce.below HNB.out (HS.out.1.trans (HB4.out.mono HS.out.1.size))).cell (i:=i%nb) (by rw[HNBL.out];exact hml);subst hbe;obtain⟨z,hz⟩:∃z,bs[i%nb]'(by rw[HNBL.out];exact hml)=z:=⟨_,rfl⟩;rw[hz]at hbz;have hzr:=HBR.out z (hz▸List.getElem_mem _);have K:=hide (wofF w4 z hzr.1 hzr.2);have HZR:=hide hzr;clear hz hzr;go_wp2_with fail
     refine K.out.mono ?_;rintro e w5 ⟨r5,rfl,hF5,hb5⟩;obtain⟨ng5,a5,m5,c5,rfl⟩:=hF5.agg;have K5:=hide (akr w5 _ z _ hF5.is (by decide));have HB5:=hide hb5;clear hF5 hb5 K hbz;go_wp2_with fail
     refine K5.out.mono ?_;rintro e w6 ⟨v6,rfl,hq6,hb6⟩;obtain⟨x6,rfl⟩:=hq6.fe;have hb46:=HB5.out.trans (hb6.mono HB5.out.size);have hgx:=(hb46.block _ (aaa HN4.out)).trans HN4.out;obtain⟨_,c0,c1',c2',g0,g1,g2⟩:=aaz hgx;have HT2:=hide (OutR.mono5 _ _ _ _ _ _ (al8 hgx (.bool x6.ng) (.slice x6.a x6.m x6.c) (.slice x6.d x6.k x6.e)) (hq6.fit (L':=3) (aq6 HZR.out.1 HZR.out.2)));have HG2:=hide (ajw hgx (.bool x6.ng) (.slice x6.a x6.m x6.c) (.slice x6.d x6.k x6.e));have HB6:=hide ((((HB4.out.trans (hb46.mono HB4.out.size)).setCell (p:=⟨gd+1,0,none⟩) HGK.out (.bool x6.ng)).setCell (p:=⟨gd+1,1,none⟩) HGK.out (.slice x6.a x6.m x6.c)).setCell (p:=⟨gd+1,2,none⟩) HGK.out (.slice x6.d x6.k x6.e));clear hq6 hgx hb46 hb6 K5;unfold FE.v;go_wp2_with fail
     go_meet;exact⟨_,x6,aq6 HZR.out.1 HZR.out.2,OutQr.is HT2.out,HG2.out,HB6.out⟩
   case rest=>
    obtain⟨c,x,hcf,hcq,hgx,hbw⟩:=hcut;obtain⟨st,hst⟩:∃s,St[i]? = some s:=⟨_,List.getElem?_eq_getElem (by have:=HMM.out;omega)⟩;obtain⟨hsl1,hsl2,hsl3⟩:=HST.out st (List.mem_of_getElem? hst);have hin:InS w wc bv (gd+1) n 0 qs c st x (.slice as_ m cs_) St:=⟨HS.out.1.trans (hbw.mono HS.out.1.size),by rw[awc HS.out.2.2.1];exact HS.out.2.2.2.1.below hbw,HSO.out.below hbw,hcq,hgx⟩;have HIN:=hide hin;have HCF:=hide hcf;have HSI:=hide hst;have HSL:=hide (And.intro hsl1 (And.intro hsl2 hsl3));have HGG:Hid (bv<gd+1):=(show bv<gd+1 by have:=HGK.out;have:=HGW.out;omega);clear hcf hcq hgx hbw hst hsl1 hsl2 hsl3 hin HQ0 HB4 HN4 HGK HGW HSO;go_wp2;go_loopw [10] (fun jv wz=>∃(j:Nat),jv=.int .i64 (j:Int)/\j<=n/\InS w wz bv (gd+1) n j qs c st x (.slice as_ m cs_) St) (fun jv _=>n-(intOf jv).toNat)
    case atStart=>exact⟨0,rfl,Nat.zero_le _,HIN.out⟩
    case round=>
     obtain⟨j,rfl,hj,hin⟩:=hrel;by_cases hjn:j<n
     ·have hjn':(j:Int)<(n:Int):=by omega
      obtain⟨yq,y0,y1,y2,⟨f0,f1,f2⟩,hyq⟩:=hin.2.1.cells hjn;have hyo:=hyq hjn _ (a1v hjn);obtain⟨br,of_,u,hbre,hbrl,hu,hur⟩:=hin.2.2.1.canM.isM.cell HSI.out;obtain⟨au,cu,rfl,_⟩:=hur.parts;rw[HSL.out.1]at hur hu;obtain⟨bu,ou,ngu,axu,mxu,cxu,rfl,hbul,xu0,xu1,hxu⟩:=hur.cell (k:=j) (z:=fnR st j) (abv (by rw[HSL.out.1];exact hjn));obtain⟨rq,hrq⟩:∃r,qs.getD j 0=r:=⟨_,rfl⟩;obtain⟨zk,hzk⟩:∃z,fnR st j=z:=⟨_,rfl⟩;have hfr:Fit2 rq (700+4*i) (600+3*i):=by
       rw[<-hrq];refine HS.out.2.2.2.2.2 _ ?_;rw[List.getD_eq_getElem?_getD,List.getElem?_eq_getElem (by rw[HS.out.2.2.1];exact hjn)];exact List.getElem_mem _
      have hzb:(zk.natAbs:Int)<pw 32:=by rw[<-hzk];exact ab8 HSL.out.2.1 (by have:=aaf 32;omega) j
      have HFM:=hide (ayx HCF.out hzb);have HFS:=hide ((aoo hfr HCF.out hzb).fit (L:=1200) (by omega) (by omega));rw[hrq]at hyo;rw[hzk]at hxu;have HIN:=hide hin;have HY0:=hide y0;have HY1:=hide y1;have HY2:=hide y2;have HYO:=hide hyo;have HU:=hide hu;have HXU:=hide (And.intro xu0 (And.intro xu1 hxu));have HRQ:=hide hrq;have HZK:=hide hzk;have hbvl:=HIN.out.2.1.lt;subst hbre;clear hin y0 y1 y2 f0 f1 f2 hyq hyo hu hur xu0 xu1 hxu hrq hzk hfr hzb;go_upto_region 12 with fail
      refine ac2 17 [45,46,47,48,49,50,51,52,53,54,55,56,57,58,59,60,61] [Eqs (.slice (some ⟨bv,0,none⟩) n n),Eqs (.int .i64 (j:Int)),Eqs (.slice (some ⟨bv,0,none⟩) n n),Eqs (.int .i64 (j:Int)),Eqs (.pointer (some ⟨bv,j*3,none⟩)),(OutQr rq 1200),(IsQ c 3),Eqs (.slice (some ⟨br,of_,none⟩) m cs_),Eqs (.int .i64 (i:Int)),Eqs (.pointer (some ⟨br,of_+i,none⟩)),Eqs (.slice (some ⟨bu,ou,none⟩) n cu),Eqs (.int .i64 (j:Int)),Eqs (.pointer (some ⟨bu,ou+j*2,none⟩)),(IsW zk 600),(OutQr (zk:Rat) 602),(OutQr (c*(zk:Rat)) 40),(OutQr (rq+c*(zk:Rat)) 1200)] rfl rfl (by decide) (by kernel_rfl) (by kernel_rfl) (by decide) (by kernel_rfl) ⟨Eqs.mono _,Eqs.mono _,Eqs.mono _,Eqs.mono _,Eqs.mono _,(Mono.of4 (aa3 _ _)),(aol _ _),Eqs.mono _,Eqs.mono _,Eqs.mono _,Eqs.mono _,Eqs.mono _,Eqs.mono _,(Mono.of4 (IsW.mono4 _ _)),(Mono.of4 (aa3 _ _)),(Mono.of4 (aa3 _ _)),(Mono.of4 (aa3 _ _)),trivial⟩ ?_ ?_
      ·exact⟨⟨rfl,fun a_ w_ _ hB hR hD=>aag ((hR 5 rfl).trans (aab rfl))⟩,
         ⟨rfl,fun a_ w_ _ hB hR hD=>aag ((hR 10 rfl).trans (aab rfl))⟩,
         ⟨rfl,fun a_ w_ _ hB hR hD=>aag ((hR 5 rfl).trans (aab rfl))⟩,
         ⟨rfl,fun a_ w_ _ hB hR hD=>aag ((hR 10 rfl).trans (aab rfl))⟩,
         ⟨rfl,fun a_ w_ _ hB hR hD=>agz (show a_.eval (.tmp 47)=.slice (some ⟨bv,0,none⟩) n n from hD 2 rfl) (show a_.eval (.tmp 48)=.int .i64 (j:Int)from hD 3 rfl) hjn⟩,
         ⟨rfl,fun a_ w_ _ hB hR hD=>ak7 (show a_.eval (.tmp 49)=.pointer (some ⟨bv,j*3,none⟩)from hD 4 rfl) ((hB.cell (p:=⟨bv,j*3,none⟩) hbvl).trans HY0.out) ((hB.cell (p:=⟨bv,j*3+1,none⟩) hbvl).trans HY1.out) ((hB.cell (p:=⟨bv,j*3+2,none⟩) hbvl).trans HY2.out) (Mono.of4 (aa3 _ _) _ _ _ hB HYO.out)⟩,
         ⟨rfl,fun a_ w_ _ hB hR hD=>aik ((hR 9 rfl).trans (aab rfl)) ((hB.block _ (aaa HIN.out.2.2.2.2)).trans HIN.out.2.2.2.2) (HIN.out.2.2.2.1.below hB)⟩,
         ⟨rfl,fun a_ w_ _ hB hR hD=>aag ((hR 7 rfl).trans (aab rfl))⟩,
         ⟨rfl,fun a_ w_ _ hB hR hD=>aag ((hR 8 rfl).trans (aab rfl))⟩,
         ⟨rfl,fun a_ w_ _ hB hR hD=>ah8 (show a_.eval (.tmp 52)=.slice (some ⟨br,of_,none⟩) m cs_ from hD 7 rfl) rfl (show a_.eval (.tmp 53)=.int .i64 (i:Int)from hD 8 rfl) hlt⟩,
         ⟨rfl,fun a_ w_ _ hB hR hD=>aco (show a_.eval (.tmp 54)=.pointer (some ⟨br,of_+i,none⟩)from hD 9 rfl) ((hB.cell (p:=⟨br,of_+i,none⟩) hbrl).trans HU.out)⟩,
         ⟨rfl,fun a_ w_ _ hB hR hD=>aag ((hR 10 rfl).trans (aab rfl))⟩,
         ⟨rfl,fun a_ w_ _ hB hR hD=>abm (show a_.eval (.tmp 55)=.slice (some ⟨bu,ou,none⟩) n cu from hD 10 rfl) rfl (show a_.eval (.tmp 56)=.int .i64 (j:Int)from hD 11 rfl) hjn⟩,
         ⟨rfl,fun a_ w_ _ hB hR hD=>ab7 (show a_.eval (.tmp 57)=.pointer (some ⟨bu,ou+j*2,none⟩)from hD 12 rfl) ((hB.cell (p:=⟨bu,ou+j*2,none⟩) hbul).trans HXU.out.1) ((hB.cell (p:=⟨bu,ou+j*2+1,none⟩) hbul).trans HXU.out.2.1) (Mono.of4 (IsW.mono4 _ _) _ _ _ hB HXU.out.2.2)⟩,
         ⟨rfl,fun a_ w_ _ hB hR hD=>aem (show(IsW zk 600) (a_.eval (.tmp 58)) w_ from hD 13 rfl) (by decide)⟩,
         ⟨rfl,fun a_ w_ _ hB hR hD=>ag0 (show(IsQ c 3) (a_.eval (.tmp 51)) w_ from hD 6 rfl) (OutQr.is (show(OutQr (zk:Rat) 602) (a_.eval (.tmp 59)) w_ from hD 14 rfl)) (by decide) HFM.out⟩,
         ⟨rfl,fun a_ w_ _ hB hR hD=>ajo (show(OutQr rq 1200) (a_.eval (.tmp 50)) w_ from hD 5 rfl) (show(OutQr (c*(zk:Rat)) 40) (a_.eval (.tmp 60)) w_ from hD 15 rfl) (by decide) HFS.out⟩,
         trivial⟩
      ·intro a' w' hn' hd' hB' hR' hP';have e45:a'.eval (.tmp 45)=.slice (some ⟨bv,0,none⟩) n n:=hP' 0 (by decide);have e46:a'.eval (.tmp 46)=.int .i64 (j:Int):=hP' 1 (by decide);have e47:a'.eval (.tmp 47)=.slice (some ⟨bv,0,none⟩) n n:=hP' 2 (by decide);have e48:a'.eval (.tmp 48)=.int .i64 (j:Int):=hP' 3 (by decide);have e49:a'.eval (.tmp 49)=.pointer (some ⟨bv,j*3,none⟩):=hP' 4 (by decide);obtain⟨u50,e50⟩:∃u,a'.eval (.tmp 50)=u:=⟨_,rfl⟩;obtain⟨u51,e51⟩:∃u,a'.eval (.tmp 51)=u:=⟨_,rfl⟩;have e52:a'.eval (.tmp 52)=.slice (some ⟨br,of_,none⟩) m cs_:=hP' 7 (by decide);have e53:a'.eval (.tmp 53)=.int .i64 (i:Int):=hP' 8 (by decide);have e54:a'.eval (.tmp 54)=.pointer (some ⟨br,of_+i,none⟩):=hP' 9 (by decide);have e55:a'.eval (.tmp 55)=.slice (some ⟨bu,ou,none⟩) n cu:=hP' 10 (by decide);have e56:a'.eval (.tmp 56)=.int .i64 (j:Int):=hP' 11 (by decide);have e57:a'.eval (.tmp 57)=.pointer (some ⟨bu,ou+j*2,none⟩):=hP' 12 (by decide);obtain⟨u58,e58⟩:∃u,a'.eval (.tmp 58)=u:=⟨_,rfl⟩;obtain⟨u59,e59⟩:∃u,a'.eval (.tmp 59)=u:=⟨_,rfl⟩;obtain⟨u60,e60⟩:∃u,a'.eval (.tmp 60)=u:=⟨_,rfl⟩;obtain⟨u61,e61⟩:∃u,a'.eval (.tmp 61)=u:=⟨_,rfl⟩;have hT:(OutQr (rq+c*(zk:Rat)) 1200) (a'.eval (.tmp 61)) w':=hP' 16 (by decide);rw[e61]at hT;refine aaq hn' hd' hR' (.s16 rfl <| .s16 rfl <| .s4 rfl <| .s4 rfl <| .s4 rfl <| .same rfl <| .new e45 <| .new e46 <| .new e47 <| .new e48 <| .new e49 <| .new e50 <| .new e51 <| .new e52 <| .new e53 <| .new e54 <| .new e55 <| .new e56 <| .new e57 <| .new e58 <| .new e59 <| .new e60 <| .new e61 <| .same rfl <| .same rfl <| .nil) ?_;clear e45 e46 e47 e48 e49 e50 e51 e52 e53 e54 e55 e56 e57 e58 e59 e60 e61;obtain⟨x5,rfl⟩:=hT.fe;have hz5:=HIN.out.below hB';obtain⟨_,y0,y1,y2,⟨f0,f1,f2⟩,_⟩:=hz5.2.1.cells hjn;have hnx:=hz5.next hjn HS.out.2.1 HGG.out (y:=x5) (by rw[HRQ.out,HZK.out];exact hT);have HNX:=hide hnx;have HJN:=hide hjn;clear hT hz5 hnx hB' hR' hP' hn' hd';unfold FE.v;go_wp2;go_roundw
       case rel=>exact⟨j+1,by go_num,HJN.out,HNX.out⟩
       case measure=>have:=HJN.out;simp[intOf];omega
     ·have hjn':decide ((j:Int)<(n:Int))=false:=by simp;omega
      obtain rfl:n=j:=by omega
      have HIN:=hide hin;have HLT:=hide hlt;clear hin;go_wp2;go_roundw
      case rel=>exact⟨i+1,_,by go_num,HLT.out,⟨HIN.out.1,HS.out.2.1,aeb ..,HIN.out.2.1,asz HS.out.2.2.2.2.1 HSL.out.2.2,awe HS.out.2.2.2.2.2 HS.out.2.2.1 HCF.out HSL.out.2.1⟩,HIN.out.2.2.1⟩
      case measure=>have:=HLT.out;simp[intOf];omega
  ·have hlt':decide ((i:Int)<(m:Int))=false:=by simp;omega
   have HS:=hide hst;have HSL:=hide hsl;clear hst hso;go_wp2;refine bodyPost_ret (v:=_) (by simp[results,Tryz.results17,go_sem];try rfl) rfl ⟨bv,qs,i,rfl,HS.out,by have:=HSL.out;omega⟩
end Lm
namespace Lm
open Go Go.RowKit
section
variable {dst:Option Tmp} {ty:TypeId} {pos:String} {after:Array Edge} {guard:Option (Nat×Bool)} {a:Act} {w:World} {ats:Array TypeId} {i j:Nat}
theorem aq7{u v:Int}(h1:a.eval (.tmp i)=.int .i64 u):
  Does Tryz.prog {dst,op:=.binOp .geq 3 (.tmp i) (.const (.int .i64 v)) 3,type:=ty,pos,after,guard} a.eval w fun v' w'=>Below w.heap.size w w'/\Eqs (.bool (decide (v<=u))) v' w':=by
 refine acz (v:=.bool (decide (v<=u))) ?_ ?_ ⟨Below.refl _ _,rfl⟩
 ·rw[h1];simp[go_sem,Act.eval]
 ·rw[h1];simp[go_sem,Act.eval]
end
theorem a1w{dst:Option Tmp}{ty:TypeId}{pos:String}{after:Array Edge}{guard:Option (Nat×Bool)}{a:Act}{w:World}{i:Nat}{u v:Int}(h1:a.eval (.tmp i)=.int .i64 u):
  Does Tryz.prog {dst,op:=.binOp .leq 3 (.tmp i) (.const (.int .i64 v)) 3,type:=ty,pos,after,guard} a.eval w fun v' w'=>Below w.heap.size w w'/\Eqs (.bool (decide (u<=v))) v' w':=by
 refine acz (v:=.bool (decide (u<=v))) ?_ ?_ ⟨Below.refl _ _,rfl⟩
 ·rw[h1];simp[go_sem,Act.eval]
 ·rw[h1];simp[go_sem,Act.eval]
theorem aq8(d:Int):0<=Int.sign d↔0<=d:=by
 rcases Int.lt_trichotomy d 0 with h|h|h
 ·rw[Int.sign_eq_neg_one_of_neg h];omega
 ·subst h;simp
 ·rw[Int.sign_eq_one_of_pos h];omega
theorem afq{zs:List Int}: red zs=zs↔0<=dvs zs/\dvs zs<=1:=by
 constructor
 ·intro h;by_cases ha:∀z∈zs,z=0
  ·have:dvs zs=0:=by unfold dvs;rw[alq ha];split <;> rfl
   omega
  ·obtain⟨z,hz⟩:=Classical.not_forall.1 ha;obtain⟨hm,hn⟩:=Classical.not_imp.1 hz;obtain⟨k,hk⟩:=List.getElem?_of_mem hm;have e:(red zs)[k]? = some (z/dvs zs):=by unfold red;simp[hk]
   rw[h,hk]at e;have e':z=z/dvs zs:=Option.some.inj e;have h1:dvs zs*(z/dvs zs)=z:=Int.mul_ediv_cancel' (ae4 z hm);rw[<-e']at h1;have h2:dvs zs=1:=Int.eq_of_mul_eq_mul_right hn (by rw[h1,Int.one_mul]);omega
 ·rintro ⟨h1,h2⟩;unfold red;have h3:dvs zs=0\/dvs zs=1:=by omega
  have:∀z∈zs,z/dvs zs=z:=by
   intro z hz;rcases h3 with h3|h3
   ·have:=ae4 z hz;rw[h3]at this;rw[h3,Int.zero_dvd.1 this];rfl
   ·rw[h3,Int.ediv_one]
  exact(List.map_congr_left this).trans (List.map_id' zs)
set_option maxRecDepth 100000 in
theorem ak9(w:World)(v:Value)(zs:List Int)(L:Nat)(h:IsRow w v zs L)(hL:L<=100000000):
  Calls Tryz.prog 16 #[v] w fun e w'=>e=.returned (.bool (decide (zs≠[]/\red zs=zs)))/\Below w.heap.size w w':=by
 obtain⟨ao,cap,rfl,hn⟩:=h.parts;have K:=ao7 w _ zs L h hL;obtain⟨n,hnn⟩:∃n,zs.length=n:=⟨_,rfl⟩;rw[hnn]at K hn ⊢;have K:=hide K;have HN:=hide hnn;clear h hnn;go_enter Tryz.func16,Tryz.ntmps16
 go_wp2_with fail
 refine K.out.mono ?_;rintro e w1 ⟨r,rfl,ho,hb1⟩;obtain⟨ng,a,c,rs,rfl,_,_⟩:=id ho;have hal:=hAl w1 (.cells #[.bool ng,.slice a rs.length c] 45);have hnw:=heap_alloc_new w1 (.cells #[.bool ng,.slice a rs.length c] 45);have HO:=hide (ho.ru (Ru.of_below hal));have HB:=hide (hb1.trans (hal.mono hb1.size));clear ho hb1 hal K;go_upto_region 2 with fail
 generalize (w1.alloc (.cells #[.bool ng,.slice a rs.length c] 45))=w2 at *
 generalize w1.heap.size=f3 at *
 have HNW:=hide hnw;clear hnw;by_cases h0:n=0
 ·subst h0;have HE:Hid (decide (zs≠[]/\red zs=zs)=false):=decide_eq_false (fun e=>e.1 (List.eq_nil_of_length_eq_zero HN.out));go_quiet (fail)
  go_wp2;refine bodyPost_ret (v:=_) (aet rfl rfl) rfl ⟨by rw[HE.out];rfl,gdrewN HB.out nq⟩
 have HZN:Hid (zs≠[]):=(fun e=>h0 (by rw[<-HN.out,e];rfl));by_cases hd:0<=dvs zs
 ·have HSG:Hid (decide (0<=Int.sign (dvs zs))=true):=decide_eq_true ((aq8 _).2 hd);have HE:Hid (decide (zs≠[]/\red zs=zs)=decide (cmpI (dvs zs) 1<=0)):=by
   refine decide_eq_decide.2 ⟨fun e=>?_,fun e=>⟨HZN.out,afq.2 ⟨hd,?_⟩⟩⟩
   ·have h2:=(afq.1 e.2).2;unfold cmpI;split
    ·decide
    ·split <;> omega
   ·unfold cmpI at e;split at e
    ·omega
    ·split at e <;> omega
  clear hd;refine abj 14 [6,7,8,9,10,11,12,13,14,15,16,17,18,19] [Eqs (.slice ao n cap),Eqs (.int .i64 (n:Int)),Eqs (.bool true),Eqs (.bool true),(OutW (dvs zs) L),Eqs (.int .i64 (Int.sign (dvs zs))),Eqs (.bool true),Eqs (.bool true),Eqs (.bool true),(OutW (dvs zs) L),(OutW 1 2),Eqs (.int .i64 (cmpI (dvs zs) 1)),Eqs (.bool (decide (cmpI (dvs zs) 1<=0))),Eqs (.bool (decide (cmpI (dvs zs) 1<=0)))] rfl rfl (by decide) (by kernel_rfl) (by kernel_rfl) (by decide) (by kernel_rfl) ⟨Eqs.mono _,Eqs.mono _,Eqs.mono _,Eqs.mono _,(Mono.of4 (OutW.mono4 _ _)),Eqs.mono _,Eqs.mono _,Eqs.mono _,Eqs.mono _,(Mono.of4 (OutW.mono4 _ _)),(Mono.of4 (OutW.mono4 _ _)),Eqs.mono _,Eqs.mono _,Eqs.mono _,trivial⟩ ?_ ?_
  ·exact⟨⟨rfl,fun a_ w_ _ hB hR hD=>aag ((hR 0 rfl).trans (aab rfl))⟩,
     ⟨rfl,fun a_ w_ _ hB hR hD=>af4 (show a_.eval (.tmp 6)=.slice ao n cap from hD 0 rfl)⟩,
     ⟨rfl,fun a_ w_ _ hB hR hD=>aql (show a_.eval (.tmp 7)=.int .i64 (n:Int)from hD 1 rfl) (by omega)⟩,
     ⟨rfl,fun a_ w_ _ hB hR hD=>aag (show a_.eval (.tmp 8)=.bool true from hD 2 rfl)⟩,
     ⟨rfl,fun a_ w_ _ hB hR hD=>⟨by decide,fun _=>abt ((hR 3 rfl).trans (aab rfl)) ((hB.block _ (aaa HNW.out)).trans HNW.out) (Mono.of4 (OutW.mono4 _ _) _ _ _ hB HO.out),fun hne=>absurd (hD 3 rfl) hne⟩⟩,
     ⟨rfl,fun a_ w_ _ hB hR hD=>⟨by decide,fun _=>ah2 (OutW.is (show(OutW (dvs zs) L) (a_.eval (.tmp 10)) w_ from hD 4 rfl)) (by omega),fun hne=>absurd (hD 3 rfl) hne⟩⟩,
     ⟨rfl,fun a_ w_ _ hB hR hD=>⟨by decide,fun _=>(aq7 (show a_.eval (.tmp 11)=.int .i64 (Int.sign (dvs zs))from hD 5 rfl)).mono (fun v' w' ⟨hb,e⟩=>⟨hb,by rw[Eqs,show v'=_ from e,HSG.out]⟩),fun hne=>absurd (hD 3 rfl) hne⟩⟩,
     ⟨rfl,fun a_ w_ _ hB hR hD=>afa (show a_.eval (.tmp 9)=.bool true from hD 3 rfl) (show a_.eval (.tmp 12)=.bool true from hD 6 rfl)⟩,
     ⟨rfl,fun a_ w_ _ hB hR hD=>aag (show a_.eval (.tmp 13)=.bool true from hD 7 rfl)⟩,
     ⟨rfl,fun a_ w_ _ hB hR hD=>⟨by decide,fun _=>abt ((hR 3 rfl).trans (aab rfl)) ((hB.block _ (aaa HNW.out)).trans HNW.out) (Mono.of4 (OutW.mono4 _ _) _ _ _ hB HO.out),fun hne=>absurd (hD 8 rfl) hne⟩⟩,
     ⟨rfl,fun a_ w_ _ hB hR hD=>⟨by decide,fun _=>ay8 (by decide) (by decide),fun hne=>absurd (hD 8 rfl) hne⟩⟩,
     ⟨rfl,fun a_ w_ _ hB hR hD=>⟨by decide,fun _=>a2g (OutW.is (show(OutW (dvs zs) L) (a_.eval (.tmp 15)) w_ from hD 9 rfl)) (OutW.is (show(OutW 1 2) (a_.eval (.tmp 16)) w_ from hD 10 rfl)) (by omega) (by omega),fun hne=>absurd (hD 8 rfl) hne⟩⟩,
     ⟨rfl,fun a_ w_ _ hB hR hD=>⟨by decide,fun _=>a1w (show a_.eval (.tmp 17)=.int .i64 (cmpI (dvs zs) 1)from hD 11 rfl),fun hne=>absurd (hD 8 rfl) hne⟩⟩,
     ⟨rfl,fun a_ w_ _ hB hR hD=>afa (show a_.eval (.tmp 14)=.bool true from hD 8 rfl) (show a_.eval (.tmp 18)=.bool (decide (cmpI (dvs zs) 1<=0))from hD 12 rfl)⟩,
     trivial⟩
  ·intro a' w' hn' hd' hB' hR' hP';have e6:a'.eval (.tmp 6)=.slice ao n cap:=hP' 0 (by decide);have e7:a'.eval (.tmp 7)=.int .i64 (n:Int):=hP' 1 (by decide);have e8:a'.eval (.tmp 8)=.bool true:=hP' 2 (by decide);have e9:a'.eval (.tmp 9)=.bool true:=hP' 3 (by decide);obtain⟨u10,e10⟩:∃u,a'.eval (.tmp 10)=u:=⟨_,rfl⟩;have e11:a'.eval (.tmp 11)=.int .i64 (Int.sign (dvs zs)):=hP' 5 (by decide);have e12:a'.eval (.tmp 12)=.bool true:=hP' 6 (by decide);have e13:a'.eval (.tmp 13)=.bool true:=hP' 7 (by decide);have e14:a'.eval (.tmp 14)=.bool true:=hP' 8 (by decide);obtain⟨u15,e15⟩:∃u,a'.eval (.tmp 15)=u:=⟨_,rfl⟩;obtain⟨u16,e16⟩:∃u,a'.eval (.tmp 16)=u:=⟨_,rfl⟩;have e17:a'.eval (.tmp 17)=.int .i64 (cmpI (dvs zs) 1):=hP' 11 (by decide);have e18:a'.eval (.tmp 18)=.bool (decide (cmpI (dvs zs) 1<=0)):=hP' 12 (by decide);have e19:a'.eval (.tmp 19)=.bool (decide (cmpI (dvs zs) 1<=0)):=hP' 13 (by decide);refine aaq hn' hd' hR' (.s4 rfl <| .same rfl <| .same rfl <| .new e6 <| .new e7 <| .new e8 <| .new e9 <| .new e10 <| .new e11 <| .new e12 <| .new e13 <| .new e14 <| .new e15 <| .new e16 <| .new e17 <| .new e18 <| .new e19 <| .nil) ?_;clear e6 e7 e8 e9 e10 e11 e12 e13 e14 e15 e16 e17 e18 e19;have HB':=hide (HB.out.trans (hB'.mono HB.out.size));clear hB' hR' hP' hn' hd';go_wp2;refine bodyPost_ret (v:=_) (aet rfl rfl) rfl ⟨by rw[HE.out];rfl,HB'.out⟩
 ·have HSG:Hid (decide (0<=Int.sign (dvs zs))=false):=decide_eq_false (fun e=>hd ((aq8 _).1 e));have HE:Hid (decide (zs≠[]/\red zs=zs)=false):=decide_eq_false (fun e=>hd (afq.1 e.2).1);clear hd;refine abj 14 [6,7,8,9,10,11,12,13,14,15,16,17,18,19] [Eqs (.slice ao n cap),Eqs (.int .i64 (n:Int)),Eqs (.bool true),Eqs (.bool true),(OutW (dvs zs) L),Eqs (.int .i64 (Int.sign (dvs zs))),Eqs (.bool false),Eqs (.bool false),Eqs (.bool false),(fun _ _=>True),(fun _ _=>True),(fun _ _=>True),(fun _ _=>True),Eqs ((.bool false))] rfl rfl (by decide) (by kernel_rfl) (by kernel_rfl) (by decide) (by kernel_rfl) ⟨Eqs.mono _,Eqs.mono _,Eqs.mono _,Eqs.mono _,(Mono.of4 (OutW.mono4 _ _)),Eqs.mono _,Eqs.mono _,Eqs.mono _,Eqs.mono _,(fun _ _ _ _ h=>h),(fun _ _ _ _ h=>h),(fun _ _ _ _ h=>h),(fun _ _ _ _ h=>h),Eqs.mono _,trivial⟩ ?_ ?_
  ·exact⟨⟨rfl,fun a_ w_ _ hB hR hD=>aag ((hR 0 rfl).trans (aab rfl))⟩,
     ⟨rfl,fun a_ w_ _ hB hR hD=>af4 (show a_.eval (.tmp 6)=.slice ao n cap from hD 0 rfl)⟩,
     ⟨rfl,fun a_ w_ _ hB hR hD=>aql (show a_.eval (.tmp 7)=.int .i64 (n:Int)from hD 1 rfl) (by omega)⟩,
     ⟨rfl,fun a_ w_ _ hB hR hD=>aag (show a_.eval (.tmp 8)=.bool true from hD 2 rfl)⟩,
     ⟨rfl,fun a_ w_ _ hB hR hD=>⟨by decide,fun _=>abt ((hR 3 rfl).trans (aab rfl)) ((hB.block _ (aaa HNW.out)).trans HNW.out) (Mono.of4 (OutW.mono4 _ _) _ _ _ hB HO.out),fun hne=>absurd (hD 3 rfl) hne⟩⟩,
     ⟨rfl,fun a_ w_ _ hB hR hD=>⟨by decide,fun _=>ah2 (OutW.is (show(OutW (dvs zs) L) (a_.eval (.tmp 10)) w_ from hD 4 rfl)) (by omega),fun hne=>absurd (hD 3 rfl) hne⟩⟩,
     ⟨rfl,fun a_ w_ _ hB hR hD=>⟨by decide,fun _=>(aq7 (show a_.eval (.tmp 11)=.int .i64 (Int.sign (dvs zs))from hD 5 rfl)).mono (fun v' w' ⟨hb,e⟩=>⟨hb,by rw[Eqs,show v'=_ from e,HSG.out]⟩),fun hne=>absurd (hD 3 rfl) hne⟩⟩,
     ⟨rfl,fun a_ w_ _ hB hR hD=>afa (show a_.eval (.tmp 9)=.bool true from hD 3 rfl) (show a_.eval (.tmp 12)=.bool false from hD 6 rfl)⟩,
     ⟨rfl,fun a_ w_ _ hB hR hD=>aag (show a_.eval (.tmp 13)=.bool false from hD 7 rfl)⟩,
     ⟨rfl,fun a_ w_ _ hB hR hD=>⟨by decide,fun hw=>absurd ((show _=_ from hD 8 rfl).symm.trans hw) (by simp),fun _=>trivial⟩⟩,
     ⟨rfl,fun a_ w_ _ hB hR hD=>⟨by decide,fun hw=>absurd ((show _=_ from hD 8 rfl).symm.trans hw) (by simp),fun _=>trivial⟩⟩,
     ⟨rfl,fun a_ w_ _ hB hR hD=>⟨by decide,fun hw=>absurd ((show _=_ from hD 8 rfl).symm.trans hw) (by simp),fun _=>trivial⟩⟩,
     ⟨rfl,fun a_ w_ _ hB hR hD=>⟨by decide,fun hw=>absurd ((show _=_ from hD 8 rfl).symm.trans hw) (by simp),fun _=>trivial⟩⟩,
     ⟨rfl,fun a_ w_ _ hB hR hD=>afa (show a_.eval (.tmp 14)=.bool false from hD 8 rfl) rfl⟩,
     trivial⟩
  ·intro a' w' hn' hd' hB' hR' hP';have e6:a'.eval (.tmp 6)=.slice ao n cap:=hP' 0 (by decide);have e7:a'.eval (.tmp 7)=.int .i64 (n:Int):=hP' 1 (by decide);have e8:a'.eval (.tmp 8)=.bool true:=hP' 2 (by decide);have e9:a'.eval (.tmp 9)=.bool true:=hP' 3 (by decide);obtain⟨u10,e10⟩:∃u,a'.eval (.tmp 10)=u:=⟨_,rfl⟩;have e11:a'.eval (.tmp 11)=.int .i64 (Int.sign (dvs zs)):=hP' 5 (by decide);have e12:a'.eval (.tmp 12)=.bool false:=hP' 6 (by decide);have e13:a'.eval (.tmp 13)=.bool false:=hP' 7 (by decide);have e14:a'.eval (.tmp 14)=.bool false:=hP' 8 (by decide);obtain⟨u15,e15⟩:∃u,a'.eval (.tmp 15)=u:=⟨_,rfl⟩;obtain⟨u16,e16⟩:∃u,a'.eval (.tmp 16)=u:=⟨_,rfl⟩;obtain⟨u17,e17⟩:∃u,a'.eval (.tmp 17)=u:=⟨_,rfl⟩;obtain⟨u18,e18⟩:∃u,a'.eval (.tmp 18)=u:=⟨_,rfl⟩;have e19:a'.eval (.tmp 19)=(.bool false):=hP' 13 (by decide);refine aaq hn' hd' hR' (.s4 rfl <| .same rfl <| .same rfl <| .new e6 <| .new e7 <| .new e8 <| .new e9 <| .new e10 <| .new e11 <| .new e12 <| .new e13 <| .new e14 <| .new e15 <| .new e16 <| .new e17 <| .new e18 <| .new e19 <| .nil) ?_;clear e6 e7 e8 e9 e10 e11 e12 e13 e14 e15 e16 e17 e18 e19;have HB':=hide (HB.out.trans (hB'.mono HB.out.size));clear hB' hR' hP' hn' hd';go_wp2;refine bodyPost_ret (v:=_) (aet rfl rfl) rfl ⟨by rw[HE.out];rfl,HB'.out⟩
end Lm
namespace Lm
open Go Go.RowKit Md
def unitR(n v:Nat):List Int:=(List.range (n+1)).map fun k=>if k=v then 1 else 0
theorem awf(n v:Nat):(unitR n v).length=n+1:=by simp[unitR]
theorem ay0{n v k:Nat}(hk:k<n+1):(unitR n v)[k]? = some (if k=v then 1 else 0):=by
 rw[unitR,List.getElem?_map,List.getElem?_range hk];rfl
section
end
end Lm
namespace Lm
open Go Go.RowKit Md
theorem aq9(y f:Md.Rw)(v:Nat)(x:Int):∀m,dotN m y (fun k=>if k=v then x else f k)=dotN m y f+if v<m then y v*(x-f v)else 0
 |0=>by simp[dotN,sumL]
 |m+1=>by
  rw[aa2,aa2,aq9 y f v x m];by_cases h:m=v
  ·subst h;simp only[if_true,Nat.lt_irrefl,if_false,Nat.lt_succ_self];rw[Int.mul_sub];omega
  ·rw[if_neg h];by_cases h2:v<m
   ·rw[if_pos h2,if_pos (by omega)];omega
   ·rw[if_neg h2,if_neg (by omega)];omega
theorem aio{n v:Nat}(hv:v<n+1):fnR (unitR n v)=fun k=>if k=v then 1 else 0:=by
 funext k;by_cases hk:k<n+1
 ·exact adb (ay0 hk)
 ·rw[abi (awf n v) k (by omega),if_neg (by omega)]
theorem aop(y:Md.Rw):∀m,dotN m y (fun _=>0)=0
 |0=>by simp[dotN,sumL]
 |m+1=>by rw[aa2,aop y m];simp
theorem ay1{n v:Nat}(hv:v<n+1)(y:Md.Rw):dotN (n+1) y (fnR (unitR n v))=y v:=by
 rw[aio hv,aq9 y (fun _=>0) v 1,if_pos hv,aop];simp
end Lm
namespace Lm
open Go Go.RowKit Md
section
end
theorem InW.row{w:World}{v:Value}{K:Int}(h:InW w v K):∃y ao n c bo m d,v=.agg #[.int .i64 K,.int .i64 y,.slice ao n c,.slice bo m d]:=by
 obtain⟨kind,pv,rv,fss,ess,rfl,h1,_,h3,_⟩:=h;obtain⟨ap,cp,rfl,_⟩:=h1.parts;obtain⟨ar,cr,rfl,_⟩:=h3.parts;exact⟨_,_,_,_,_,_,_,rfl⟩
end Lm
namespace Lm
open Go Go.RowKit Md
theorem sRowsK(w:World)(g n:Nat)(E Lf:List (List Int))(hS:Spn w g n E Lf)(k:Kept n E Lf)(hn:n<=16):
  Calls Tryz.prog 10 #[.pointer (some ⟨g,0,none⟩)] w fun e w'=>∃v,e=.returned v/\CanM w' v E 32/\Below w.heap.size w w':=by
 obtain⟨se,sl,hSE,hSe,_⟩:=hS.at_;exact ag9 w g n se sl E 32 hSE hSe k.row.1 hn (by have:=k.len;omega) (by decide)
theorem sStepsK(w:World)(g n:Nat)(E Lf:List (List Int))(hS:Spn w g n E Lf)(k:Kept n E Lf)(hn:n<=16):
  Calls Tryz.prog 15 #[.pointer (some ⟨g,0,none⟩)] w fun e w'=>∃ao c,e=.returned (.slice ao (Lf.length-1) c)/\Below w.heap.size w w':=by
 obtain⟨se,sl,hSE,_,hSl⟩:=hS.at_;refine(ake w g n se sl Lf 600 hSE hSl k.row.2 hn (by have:=k.len;omega) (by decide)).mono ?_;rintro e w' ⟨v,rfl,hc,hb⟩;obtain⟨ao,cp,rfl,_⟩:=hc.parts;refine⟨ao,cp,?_,hb⟩;unfold stepsOf;rw[List.length_map,List.length_drop]
theorem shasK(w:World)(g n:Nat)(E Lf:List (List Int))(pv:Value)(ps:List Rat)(hS:Spn w g n E Lf)(k:Kept n E Lf)(hn:n<=16)(hp:IsQs w pv ps 1200)(hl:ps.length=n):
  Calls Tryz.prog 14 #[.pointer (some ⟨g,0,none⟩),pv] w fun e w'=>e=.returned (.tuple #[.bool (E.all (mk0 (n+1) (liftZ ps))),.int .i64 0])/\Below w.heap.size w w':=by
 obtain⟨se,sl,hSE,hSe,_⟩:=hS.at_;exact ayp w g n se sl pv E ps 1200 hSE hSe k.row.1 hp hl hn (by decide) (by decide)
theorem ay2(w:World)(n:Nat)(hn:n<=1000):(Instr.makeSlice 31 (.int .i64 (n:Int)) (.int .i64 (n:Int))).run Tryz.prog w=.ok (.slice (some ⟨w.heap.size,0,none⟩) n n) (w.alloc (.cells (madeCells #[.bool false,.slice none 0 0,.slice none 0 0] (n*3)) 47)):=by
 obtain⟨iW,hi,hz0,hz1,hz2⟩:=info_parts infoRz;have h:=run_make (P:=Tryz.prog) w 31 47 iW (.agg #[.bool false,.slice none 0 0,.slice none 0 0]) Tryz.underlying31 hi hz0 .i64 .i64 (n:Int) (n:Int) (by omega) (by omega) (by rw[hz2];omega) (by omega);rw[hz1,Int.toNat_natCast]at h;exact h
theorem a3h(w:World)(L:Nat):IsQ 0 L (.agg #[.bool false,.slice none 0 0,.slice none 0 0]) w:=
 ⟨0,0,⟨false,none,0,0,[],none,0,0,[],rfl,⟨aml w,rfl⟩,aml w,rfl,Nat.zero_le _,Nat.zero_le _⟩,rfl⟩
theorem as0(w:World)(n:Nat)(hn:n<=1000):IsQs (w.alloc (.cells (madeCells #[.bool false,.slice none 0 0,.slice none 0 0] (n*3)) 47)) (.slice (some ⟨w.heap.size,0,none⟩) n n) (List.replicate n 0) 1200:=by
 have hnb:=heap_alloc_new w (.cells (madeCells #[.bool false,.slice none 0 0,.slice none 0 0] (n*3)) 47);have hle:(List.replicate n (⟨false,none,0,0,none,0,0⟩:FE)).length=n:=List.length_replicate;refine⟨List.replicate n ⟨false,none,0,0,none,0,0⟩,⟨_,_,by rw[hle],by rw[hle];exact Nat.le_refl n,by omega,adr _,.inr ⟨w.heap.size,0,rfl,aaa hnb,fun j u hu=>?_⟩⟩,by simp,fun k e r he hr=>?_⟩
 ·rw[Nat.zero_add,cell_of_row _ _ _ _ _ (0,0) hnb,<-Array.getElem?_toList,ak1];exact hu
 ·rw[List.getElem?_replicate]at he hr;split at he
  ·rw[if_pos (by assumption)]at hr;obtain rfl:=Option.some.inj he;obtain rfl:=Option.some.inj hr;exact a3h _ _
  ·cases he
theorem ay3{n:Nat}{ps:List Rat}(hl:ps.length=n): [noneR n].all (mk0 (n+1) (liftZ ps))=false:=by
 rw[List.all_eq_false];refine⟨_,List.mem_singleton.2 rfl,?_⟩;unfold mk0;rw[ag5,decide_eq_true_iff];have h:=adw ps;rw[hl]at h;rw[h];have:=aij ps (w:=1) (by decide);omega
theorem as3(n:Nat):noneR n≠[]/\red (noneR n)=noneR n:=by
 refine⟨by simp[noneR],afq.2 ?_⟩;have h1:(noneR n)[n]? = some 1:=by rw[noneR,List.getElem?_append_right (by simp)];simp
 have h2:=ae4 1 (List.mem_of_getElem? h1);have h3:sgnL (noneR n)=Int.sign 1:=aj9 h1 (by decide) (aey n).2;have h4:dvs (noneR n)=gcdL (noneR n):=by unfold dvs;rw[if_neg (by rw[h3];decide)]
 have h5:=aft (noneR n);have h6:=Int.le_of_dvd (by decide) h2;omega
theorem a1x{row:List Int}{n v:Nat}{ps:List Rat}(hl:ps.length=n)(hv:v<n):sQ row n (ps.set v (ps.getD v 0+1)) n=sQ row n ps n+((fnR row v:Int):Rat):=by
 have hu:dotN n (fnR row) (fnR (unitR n v))=fnR row v:=by
  have h1:=ay1 (n:=n) (v:=v) (by omega) (fnR row);rw[aa2,aio (by omega)]at h1;rw[aio (by omega)];simp only[if_neg (show ¬n=v by omega),Int.mul_zero,Int.add_zero]at h1;exact h1
 rw[ak8 (ps:=ps) (c:=1) (st:=unitR n v) (fun k hk=>?_) n (Nat.le_refl n),hu,Rat.one_mul];rw[aio (by omega),List.getD_eq_getElem?_getD,Rat.one_mul];show _=ps.getD k 0+(((if k=v then 1 else 0:Int)):Rat);by_cases e:v=k
 ·subst e;rw[List.getElem?_set_self (by omega),if_pos rfl];rfl
 ·rw[List.getElem?_set_ne e,if_neg (fun h=>e h.symm),List.getD_eq_getElem?_getD];exact(Rat.add_zero _).symm
theorem awg{n v:Nat}{E:List (List Int)}{ps:List Rat}{row:List Int}(h:MeetsQ n E ps)(hl:ps.length=n)(hv:v<n)(hr:row∈E)(hne:fnR row v≠0):E.all (mk0 (n+1) (liftZ (ps.set v (ps.getD v 0+1))))=false:=by
 rw[List.all_eq_false];refine⟨row,hr,?_⟩;unfold mk0;rw[decide_eq_true_iff,<-ain (by rw[List.length_set,hl]),a1x hl hv,h row hr,Rat.zero_add]
 exact_mod_cast hne
theorem awh{n:Nat}{E:List (List Int)}{ps:List Rat}(h:MeetsQ n E ps)(hl:ps.length=n):E.all (mk0 (n+1) (liftZ ps))=true:=by
 rw[List.all_eq_true];exact h.mk hl
end Lm
namespace Lm
open Go Go.RowKit Md
theorem al7(w:World)(v0 vb:Value)(off K0:Int)(bs:List Int)(h0:InW w v0 K0)(hnb:Nums w vb bs)(hbr:∀z∈bs,-9223372036854775808<=z/\z<=9223372036854775807):
  Calls Tryz.prog 3 #[v0,vb,.int .i64 off] w fun e w'=>e=.returned (.bool true)/\Below w.heap.size w w':=by
 obtain⟨y0,a0,n0,c0,b0,m0,d0,e0⟩:=h0.row;subst e0;have hA0:=hAl w (.cells #[.int .i64 K0,.int .i64 y0,.slice a0 n0 c0,.slice b0 m0 d0] 25);have hx:=heap_alloc_new w (.cells #[.int .i64 K0,.int .i64 y0,.slice a0 n0 c0,.slice b0 m0 d0] 25);have K:=hide (a3e (w.alloc (.cells #[.int .i64 K0,.int .i64 y0,.slice a0 n0 c0,.slice b0 m0 d0] 25)));have HX:=hide hx;have HB:=hide hA0;have I0:=hide h0;have HNB:=hide hnb;have HBR:=hide hbr;clear hA0 hx h0 hnb hbr;go_enter Tryz.func3,Tryz.ntmps3
 go_wp2_with fail
 refine K.out.mono ?_;generalize w.alloc (.cells #[.int .i64 K0,.int .i64 y0,.slice a0 n0 c0,.slice b0 m0 d0] 25)=wq at *
 rintro e w1 ⟨rfl,hb⟩;replace HB:=hide (HB.out.trans (hb.mono HB.out.size));replace HX:=hide ((hb.block _ (aaa HX.out)).trans HX.out);clear hb K;have q0:w1.cell? ⟨w.heap.size,0,none⟩=some (.int .i64 K0):=by rw[cell_of_row _ _ _ _ _ (0,0) HX.out];rfl
 have q1:w1.cell? ⟨w.heap.size,1,none⟩=some (.int .i64 y0):=by rw[cell_of_row _ _ _ _ _ (0,0) HX.out];rfl
 have q2:w1.cell? ⟨w.heap.size,2,none⟩=some (.slice a0 n0 c0):=by rw[cell_of_row _ _ _ _ _ (0,0) HX.out];rfl
 have q3:w1.cell? ⟨w.heap.size,3,none⟩=some (.slice b0 m0 d0):=by rw[cell_of_row _ _ _ _ _ (0,0) HX.out];rfl
 have K:=hide (asy w1 _ K0 (I0.out.below HB.out));go_wp2_with fail
 refine K.out.mono ?_;rintro e w2 ⟨pv,rfl,ha,hb⟩;replace HB:=hide (HB.out.trans (hb.mono HB.out.size));have HA0:=hide ha;clear q0 q1 q2 q3 hb K ha HX I0;rcases HA0.out with rfl|⟨g_s,n,e_s,l_s,_,hn16,rfl,hsp0,hkp0⟩
 ·go_wp2;refine bodyPost_ret (v:=_) (by simp[results,Tryz.results3,go_sem];try rfl) rfl ⟨rfl,HB.out⟩
 have Ss:=hide hsp0;have ks:=hide hkp0;clear hsp0 hkp0 HA0;have K:=hide (sRowsK w2 g_s n e_s l_s Ss.out ks.out hn16);go_wp2_with fail
 refine K.out.mono ?_;rintro e w3 ⟨vr,rfl,hcr,hb⟩;replace HB:=hide (HB.out.trans (hb.mono HB.out.size));replace Ss:=hide (Ss.out.below hb);obtain⟨ar,cr,rfl,-⟩:=hcr.parts;have HCR:=hide hcr;obtain⟨q,hq⟩:∃q,e_s.length=q:=⟨_,rfl⟩;have HQ:=hide hq;rw[hq]at HCR ⊢;clear hcr hb K hq;have K:=hide (sBaseK w3 g_s n e_s l_s Ss.out ks.out hn16);go_wp2_with fail
 refine K.out.mono ?_;rintro e w4 ⟨⟨hl,rfl⟩|⟨l,ls,bv0,hl,rfl,-,-⟩,hb⟩
 case inl=>
  replace HB:=hide (HB.out.trans (hb.mono HB.out.size));replace Ss:=hide (Ss.out.below hb);replace HCR:=hide (HCR.out.below hb);clear hb K;subst hl;have he:e_s = [noneR n]:=by
   rcases ks.out with⟨_,he⟩|hf
   ·exact he
   ·exact absurd rfl hf.ne
  have hq1:q=1:=by have:=HQ.out;rw[he]at this;simpa using this.symm
  subst hq1;have HE:=hide he;clear he;have K0:=sdimK w4 g_s n e_s [] Ss.out ks.out hn16;rw[List.length_nil]at K0;have K:=hide K0;clear K0;have hdim:decide (((0:Nat):Int)-1<0)=true:=by decide
  have hdim2:decide ((0:Int)-1<0)=true:=by decide
  go_wp2_with fail
  refine K.out.mono ?_;rintro e w5 ⟨rfl,hb⟩;replace HB:=hide (HB.out.trans (hb.mono HB.out.size));replace Ss:=hide (Ss.out.below hb);replace HCR:=hide (HCR.out.below hb);clear hb K;have K:=hide (alz w5 g_s n e_s [] Ss.out);go_wp2_with fail
  refine K.out.mono ?_;rintro e w6 ⟨rfl,hb⟩;replace HB:=hide (HB.out.trans (hb.mono HB.out.size));replace Ss:=hide (Ss.out.below hb);replace HCR:=hide (HCR.out.below hb);clear hb K;have hmk:=ay2 w6 n (by omega);go_upto_region 10 with fail
  clear hmk;have hb:=hAl w6 (.cells (madeCells #[.bool false,.slice none 0 0,.slice none 0 0] (n*3)) 47);have hz:=as0 w6 n (by omega);obtain⟨gz,hgz⟩:∃g,w6.heap.size=g:=⟨_,rfl⟩;rw[hgz]at hz ⊢;generalize w6.alloc (.cells (madeCells #[.bool false,.slice none 0 0,.slice none 0 0] (n*3)) 47)=w7 at *
  clear hgz;have K:=hide hz;replace HB:=hide (HB.out.trans (hb.mono HB.out.size));replace Ss:=hide (Ss.out.below hb);replace HCR:=hide (HCR.out.below hb);clear hb K;have K0:=shasK w7 g_s n e_s [] _ _ Ss.out ks.out hn16 hz List.length_replicate;rw[show e_s.all (mk0 (n+1) (liftZ (List.replicate n 0)))=false by rw[HE.out];exact ay3 List.length_replicate]at K0;have K:=hide K0;clear K0 hz;go_wp2_with fail
  refine K.out.mono ?_;rintro e w8 ⟨rfl,hb⟩;replace HB:=hide (HB.out.trans (hb.mono HB.out.size));replace Ss:=hide (Ss.out.below hb);replace HCR:=hide (HCR.out.below hb);clear hb K;have K0:=sStepsK w8 g_s n e_s [] Ss.out ks.out hn16;rw[List.length_nil]at K0;have K:=hide K0;clear K0;go_wp2_with fail
  refine K.out.mono ?_;rintro e w9 ⟨as_,cs_,rfl,hb⟩;replace HB:=hide (HB.out.trans (hb.mono HB.out.size));replace Ss:=hide (Ss.out.below hb);replace HCR:=hide (HCR.out.below hb);clear hb K;obtain⟨b,of_,u,rfl,hbl,hu,hur⟩:=HCR.out.isM.cell (i:=0) (z:=noneR n) (by rw[HE.out];rfl);obtain⟨au,cu,rfl,-⟩:=hur.parts;rw[acu]at hur hu;have K0:=ak9 w9 _ _ 32 hur (by decide);rw[decide_eq_true (as3 n)]at K0;have K:=hide K0;have hu1:w9.cell? ⟨b,of_,none⟩=some (.slice au (n+1) cu):=hu;clear K0 hur hu;go_wp2_with fail
  refine K.out.mono ?_;rintro e w10 ⟨rfl,hb⟩;replace HB:=hide (HB.out.trans (hb.mono HB.out.size));clear hb K;go_wp2;refine bodyPost_ret (v:=_) (by simp[results,Tryz.results3,go_sem];try rfl) rfl ⟨rfl,HB.out⟩
 case inr=>
  replace HB:=hide (HB.out.trans (hb.mono HB.out.size));replace Ss:=hide (Ss.out.below hb);replace HCR:=hide (HCR.out.below hb);clear hb K;subst hl;have KF:=hide ks.out.head.2;have hsum:=ayw KF.out;obtain⟨mm,hmm⟩:∃m,ls.length=m:=⟨_,rfl⟩;have hl1:(l::ls).length-1=mm:=by rw[List.length_cons,hmm];omega
  have hl2:(((l::ls).length:Nat):Int)-1=(mm:Int):=by rw[List.length_cons,hmm];omega
  rw[HQ.out,hl1]at hsum;have HL1:=hide hl1;have HL2:=hide hl2;have hmn:mm<=16:=by omega
  have hadd:IntKind.i64.wrap ((q:Int)+(mm:Int))=(n:Int):=by rw[IntKind.wrap_i64];omega
  have HSUM:=hide hsum;have hqn:q<=16:=by omega
  clear hl1 hl2 hmm hsum;have K0:=sdimK w4 g_s n e_s (l::ls) Ss.out ks.out hn16;rw[HL2.out]at K0;have K:=hide K0;clear K0;have hdim:decide ((mm:Int)<0)=false:=by simp
  have hdim2:¬(mm:Int)<0:=by omega
  go_wp2_with fail
  refine K.out.mono ?_;rintro e w5 ⟨rfl,hb⟩;replace HB:=hide (HB.out.trans (hb.mono HB.out.size));replace Ss:=hide (Ss.out.below hb);replace HCR:=hide (HCR.out.below hb);clear hb K;have K0:=sStepsK w5 g_s n e_s (l::ls) Ss.out ks.out hn16;rw[HL1.out]at K0;have K:=hide K0;clear K0;go_wp2_with fail
  refine K.out.mono ?_;rintro e w6 ⟨as1,cs1,rfl,hb⟩;replace HB:=hide (HB.out.trans (hb.mono HB.out.size));replace Ss:=hide (Ss.out.below hb);replace HCR:=hide (HCR.out.below hb);clear hb K;have K:=hide (alz w6 g_s n e_s (l::ls) Ss.out);have hnn:((n:Int) != (n:Int))=false:=by simp
  have hmm2:((mm:Int) != (mm:Int))=false:=by simp
  go_wp2_with fail
  refine K.out.mono ?_;rintro e w7 ⟨rfl,hb⟩;replace HB:=hide (HB.out.trans (hb.mono HB.out.size));replace Ss:=hide (Ss.out.below hb);replace HCR:=hide (HCR.out.below hb);clear hb K;have K0:=sdimK w7 g_s n e_s (l::ls) Ss.out ks.out hn16;rw[HL2.out]at K0;have K:=hide K0;clear K0;go_wp2_with fail
  refine K.out.mono ?_;rintro e w8 ⟨rfl,hb⟩;replace HB:=hide (HB.out.trans (hb.mono HB.out.size));replace Ss:=hide (Ss.out.below hb);replace HCR:=hide (HCR.out.below hb);clear hb K;have K0:=sStepsK w8 g_s n e_s (l::ls) Ss.out ks.out hn16;rw[HL1.out]at K0;have K:=hide K0;clear K0;go_wp2_with fail
  refine K.out.mono ?_;rintro e w9 ⟨as2,cs2,rfl,hb⟩;replace HB:=hide (HB.out.trans (hb.mono HB.out.size));replace Ss:=hide (Ss.out.below hb);replace HCR:=hide (HCR.out.below hb);clear hb K;have S9:=hide Ss.out;have HW9:Hid (w.heap.size<=w9.heap.size):=(show _<=_ from HB.out.size);have H9:=hide (Below.refl w9.heap.size w9);have K:=hide (apz w9 g_s n e_s (l::ls) vb bs Ss.out KF.out hn16 (show Nums w9 vb bs from Ce.below HNB.out HB.out) HBR.out);go_wp2_with fail
  refine K.out.mono ?_;rintro e w10 ⟨bv,qs,iq,rfl,⟨hb,hbv,hql,hqr,hqm,hqf⟩,hiq⟩;replace HB:=hide (HB.out.trans (hb.mono HB.out.size));replace Ss:=hide (Ss.out.below hb);replace HCR:=hide (HCR.out.below hb);replace H9:=hide (H9.out.trans (hb.mono H9.out.size));clear hb K;have HQR:=hide hqr;have HQM:=hide hqm;have HQL:=hide hql;have HQF:=hide hqf;have HBV:=hide hbv;clear hqr hqm hql hqf hbv;have K0:=shasK w10 g_s n e_s (l::ls) _ qs Ss.out ks.out hn16 (HQR.out.isQs HQL.out (by omega)) HQL.out;rw[awh HQM.out HQL.out]at K0;have K:=hide K0;clear K0;go_wp2_with fail
  refine K.out.mono ?_;rintro e w11 ⟨rfl,hb⟩;replace HQR:=hide (HQR.out.below hb);replace HB:=hide (HB.out.trans (hb.mono HB.out.size));replace Ss:=hide (Ss.out.below hb);replace HCR:=hide (HCR.out.below hb);replace H9:=hide (H9.out.trans (hb.mono H9.out.size));clear hb K;go_upto_region 18 with fail
  clear hadd hdim hdim2 hnn hmm2;go_wp2;go_loopw [17] (fun iv wr=>∃(i:Nat),iv=.int .i64 (i:Int)/\i<=q/\Below w11.heap.size w11 wr) (fun iv _=>q-(intOf iv).toNat)
  case atStart=>exact⟨0,rfl,Nat.zero_le _,Below.refl _ _⟩
  case round=>
   obtain⟨i,rfl,hi,hbr⟩:=hrel;by_cases hlt:i<q
   ·have hlt':(i:Int)<(q:Int):=by omega
    obtain⟨row,hrow⟩:∃r,e_s[i]? = some r:=⟨_,List.getElem?_eq_getElem (by have:=HQ.out;omega)⟩;obtain⟨b,of_,u,rfl,hbl,hu,hur⟩:=(HCR.out.below hbr).isM.cell hrow;obtain⟨au,cu,rfl,-⟩:=hur.parts;have hrm:=List.mem_of_getElem? hrow;have hrl:=ks.out.row.1 row hrm;rw[hrl]at hur hu;have K0:=asv wr _ _ row qs 1200 n (hur.wide (by decide)) hrl ((HQR.out.below hbr).isQs HQL.out (by omega)) HQL.out hn16 (by decide) (by decide);rw[HQM.out.mk HQL.out row hrm]at K0;have K:=hide K0;have HBR2:=hide hbr;have HLT:=hide hlt;clear K0 hbr hur hrow hrm hrl;go_wp2_with fail
    refine K.out.mono ?_;rintro e w12 ⟨rfl,hb⟩;replace HBR2:=hide (HBR2.out.trans (hb.mono HBR2.out.size));clear hb K hu;go_wp2;go_roundw
    case rel=>exact⟨i+1,by go_num,HLT.out,HBR2.out⟩
    case measure=>have:=HLT.out;simp[intOf];omega
   ·have hlt':decide ((i:Int)<(q:Int))=false:=by simp;omega
    obtain rfl:q=i:=by omega
    have hb:=hbr;have K:=hide hlt;replace HQR:=hide (HQR.out.below hb);replace HB:=hide (HB.out.trans (hb.mono HB.out.size));replace Ss:=hide (Ss.out.below hb);replace HCR:=hide (HCR.out.below hb);replace H9:=hide (H9.out.trans (hb.mono H9.out.size));clear hb K;clear hbr hi;by_cases hq0:q=0
    ·subst hq0;go_wp2;refine bodyPost_ret (v:=_) (by simp[results,Tryz.results3,go_sem];try rfl) rfl ⟨rfl,HB.out⟩
    ·have hqe:((q:Int)==0)=false:=by simpa using hq0
     have hqe2:¬(q:Int)=0:=by omega
     obtain⟨V,hV,hVq⟩:=a2v off q hq0;have hVq':(V:Int)<(q:Int):=by omega
     obtain⟨row,hrow⟩:∃r,e_s[V]? = some r:=⟨_,List.getElem?_eq_getElem (by have:=HQ.out;omega)⟩;obtain⟨b,of_,u,rfl,hbl,hu,hur⟩:=HCR.out.isM.cell hrow;obtain⟨au,cu,rfl,-⟩:=hur.parts;have hrm:=List.mem_of_getElem? hrow;have hrl:=ks.out.row.1 row hrm;rw[hrl]at hur hu;obtain⟨pl,hpl⟩:∃p,leadN row=p:=⟨_,rfl⟩;have hpn:pl<n:=by rw[<-hpl];exact KF.out.mirs.1 row hrm
     have hld:Lead row pl:=by rw[<-hpl];exact(KF.out.can.leadN hrm).1
     obtain⟨bu,ou,ng0,ax0,mx0,cx0,rfl,hbul,-,-,-⟩:=hur.cell (k:=0) (z:=fnR row 0) (abv (by omega));have HRM:=hide hrm;have HRL:=hide hrl;have HLD:=hide hld;have HUR:=hide hur;clear hrow hur hrm hrl hpl hld hlt hlt';go_upto_region 26 with fail
     clear hu hV hVq' hqe hqe2 hbl;go_wp2;go_loopw [19] (fun jv wz=>∃(j:Nat),jv=.int .i64 (j:Int)/\j<=pl/\Below wr.heap.size wr wz) (fun jv _=>n-(intOf jv).toNat)
     case atStart=>exact⟨0,rfl,Nat.zero_le _,Below.refl _ _⟩
     case round=>
      obtain⟨j,rfl,hj,hbz⟩:=hrel;have hjn1:j<n+1:=by omega
      have hjn1':(j:Int)<(n:Int)+1:=by omega
      obtain⟨bu2,ou2,ngu,axu,mxu,cxu,hbe,hbul2,xu0,xu1,hxu⟩:=(HUR.out.below hbz).cell (k:=j) (z:=fnR row j) (abv (by rw[HRL.out];exact hjn1));obtain⟨rfl,rfl⟩:bu=bu2/\ou=ou2:=by simpa using hbe
      have K:=hide (signF _ _ _ _ hxu (by decide));have HBZ:=hide hbz;clear hbz hxu hbe;go_wp2_with fail
      refine K.out.mono ?_;rintro e w13 ⟨rfl,hb⟩;replace HBZ:=hide (HBZ.out.trans (hb.mono HBZ.out.size));clear hb K xu0 xu1;by_cases hjp:j=pl
      case neg=>
       have hz:fnR row j=0:=HLD.out.2 j (by omega);have hs:(Int.sign (fnR row j)==0)=true:=by rw[hz];rfl
       have hs2:Int.sign (fnR row j)=0:=by rw[hz];rfl
       have HJ:Hid (j+1<=pl):=(show j+1<=pl by omega);clear hz;go_wp2;go_roundw
       case rel=>exact⟨j+1,by go_num,HJ.out,HBZ.out⟩
       case measure=>have:=HJ.out;simp[intOf];omega
      case pos=>
       have hz:fnR row j≠0:=by rw[hjp];exact HLD.out.1
       have hs2:¬Int.sign (fnR row j)=0:=fun h=>hz (Int.sign_eq_zero_iff_zero.1 h)
       have hs:(Int.sign (fnR row j)==0)=false:=by simpa using hz
       have hjn:j<n:=by omega
       have hjn':(j:Int)<(n:Int):=by omega
       have HZ:=hide hz;have HJN:=hide hjn;have hb:=HBZ.out;have K:=hide hj;replace HQR:=hide (HQR.out.below hb);replace HB:=hide (HB.out.trans (hb.mono HB.out.size));replace Ss:=hide (Ss.out.below hb);replace HCR:=hide (HCR.out.below hb);replace H9:=hide (H9.out.trans (hb.mono H9.out.size));clear hb K;clear HBZ HUR hjp hz hj;obtain⟨yq,y0,y1,y2,⟨f0,f1,f2⟩,hyq⟩:=HQR.out.cells hjn;have hqj:qs[j]? = some (qs.getD j 0):=by rw[List.getD_eq_getElem?_getD,List.getElem?_eq_getElem (by rw[HQL.out];exact hjn)];rfl
       have hyo:=hyq hjn _ hqj;obtain⟨rq,hrq⟩:∃r,qs.getD j 0=r:=⟨_,rfl⟩;have hfr:Fit2 rq (700+4*iq) (600+3*iq):=by
        rw[<-hrq];exact HQF.out _ (List.mem_of_getElem? hqj)
       have HFS:=hide ((ajg hfr (ajn (z:=1) (L:=3) (by decide)) (by omega)).fit (L:=1200) (by omega) (by omega));rw[hrq]at hyo;have HRQ:=hide hrq;have HY0:=hide y0;have HY1:=hide y1;have HY2:=hide y2;have HYO:=hide hyo;have hbvl:=HQR.out.lt;clear y0 y1 y2 f0 f1 f2 hyq hyo hqj hrq hfr;go_upto_region 29 with fail
       clear hs hs2;refine ac2 9 [140,141,142,143,144,145,146,147,148] [Eqs (.slice (some ⟨bv,0,none⟩) n n),Eqs (.int .i64 (j:Int)),Eqs (.slice (some ⟨bv,0,none⟩) n n),Eqs (.int .i64 (j:Int)),Eqs (.pointer (some ⟨bv,j*3,none⟩)),(OutQr rq 1200),(IsW 1 2),(OutQr ((1:Int):Rat) 4),(OutQr (rq+((1:Int):Rat)) 1200)] rfl rfl (by decide) (by kernel_rfl) (by kernel_rfl) (by decide) (by kernel_rfl) ⟨Eqs.mono _,Eqs.mono _,Eqs.mono _,Eqs.mono _,Eqs.mono _,(Mono.of4 (aa3 _ _)),(Mono.of4 (IsW.mono4 _ _)),(Mono.of4 (aa3 _ _)),(Mono.of4 (aa3 _ _)),trivial⟩ ?_ ?_
       ·exact⟨⟨rfl,fun a_ w_ _ hB hR hD=>aag ((hR 14 rfl).trans (aab rfl))⟩,
          ⟨rfl,fun a_ w_ _ hB hR hD=>aag ((hR 19 rfl).trans (aab rfl))⟩,
          ⟨rfl,fun a_ w_ _ hB hR hD=>aag ((hR 14 rfl).trans (aab rfl))⟩,
          ⟨rfl,fun a_ w_ _ hB hR hD=>aag ((hR 19 rfl).trans (aab rfl))⟩,
          ⟨rfl,fun a_ w_ _ hB hR hD=>agz (show a_.eval (.tmp 142)=.slice (some ⟨bv,0,none⟩) n n from hD 2 rfl) (show a_.eval (.tmp 143)=.int .i64 (j:Int)from hD 3 rfl) hjn⟩,
          ⟨rfl,fun a_ w_ _ hB hR hD=>ak7 (show a_.eval (.tmp 144)=.pointer (some ⟨bv,j*3,none⟩)from hD 4 rfl) ((hB.cell (p:=⟨bv,j*3,none⟩) hbvl).trans HY0.out) ((hB.cell (p:=⟨bv,j*3+1,none⟩) hbvl).trans HY1.out) ((hB.cell (p:=⟨bv,j*3+2,none⟩) hbvl).trans HY2.out) (Mono.of4 (aa3 _ _) _ _ _ hB HYO.out)⟩,
          ⟨rfl,fun a_ w_ _ hB hR hD=>(ay8 (by decide) (by decide)).mono (fun v' w' ⟨hb,e⟩=>⟨hb,OutW.is e⟩)⟩,
          ⟨rfl,fun a_ w_ _ hB hR hD=>aem (show(IsW 1 2) (a_.eval (.tmp 146)) w_ from hD 6 rfl) (by decide)⟩,
          ⟨rfl,fun a_ w_ _ hB hR hD=>ajo (show(OutQr rq 1200) (a_.eval (.tmp 145)) w_ from hD 5 rfl) (show(OutQr ((1:Int):Rat) 4) (a_.eval (.tmp 147)) w_ from hD 7 rfl) (by decide) HFS.out⟩,
          trivial⟩
       ·intro a' w' hn' hd' hB' hR' hP';have e140:a'.eval (.tmp 140)=.slice (some ⟨bv,0,none⟩) n n:=hP' 0 (by decide);have e141:a'.eval (.tmp 141)=.int .i64 (j:Int):=hP' 1 (by decide);have e142:a'.eval (.tmp 142)=.slice (some ⟨bv,0,none⟩) n n:=hP' 2 (by decide);have e143:a'.eval (.tmp 143)=.int .i64 (j:Int):=hP' 3 (by decide);have e144:a'.eval (.tmp 144)=.pointer (some ⟨bv,j*3,none⟩):=hP' 4 (by decide);obtain⟨u145,e145⟩:∃u,a'.eval (.tmp 145)=u:=⟨_,rfl⟩;obtain⟨u146,e146⟩:∃u,a'.eval (.tmp 146)=u:=⟨_,rfl⟩;obtain⟨u147,e147⟩:∃u,a'.eval (.tmp 147)=u:=⟨_,rfl⟩;obtain⟨u148,e148⟩:∃u,a'.eval (.tmp 148)=u:=⟨_,rfl⟩;have hT:(OutQr (rq+((1:Int):Rat)) 1200) (a'.eval (.tmp 148)) w':=hP' 8 (by decide);rw[e148]at hT;refine aaq hn' hd' hR' (.s16 rfl <| .s16 rfl <| .s16 rfl <| .s16 rfl <| .s16 rfl <| .s16 rfl <| .s16 rfl <| .s16 rfl <| .s4 rfl <| .s4 rfl <| .s4 rfl <| .new e140 <| .new e141 <| .new e142 <| .new e143 <| .new e144 <| .new e145 <| .new e146 <| .new e147 <| .new e148 <| .s4 rfl <| .s4 rfl <| .s4 rfl <| .same rfl <| .nil) ?_;clear e140 e141 e142 e143 e144 e145 e146 e147 e148;obtain⟨x5,rfl⟩:=hT.fe;have hq5:=HQR.out.below hB';obtain⟨_,y0,y1,y2,⟨f0,f1,f2⟩,_⟩:=hq5.cells hjn;obtain⟨s1,s2⟩:=hq5.set hjn HQL.out hT;have hb9:=H9.out.trans ((hB'.mono H9.out.size).trans (s2.below (Nat.le_trans H9.out.size hB'.size) HBV.out));have hbw:=HB.out.trans ((hB'.mono HB.out.size).trans (s2.below (Nat.le_trans HB.out.size hB'.size) (Nat.le_trans HW9.out HBV.out)));have hfin:e_s.all (mk0 (n+1) (liftZ (qs.set j (rq+((1:Int):Rat)))))=false:=by
         have h:=awg HQM.out HQL.out hjn HRM.out HZ.out;rw[HRQ.out]at h;exact h
        have K0:=shasK _ g_s n e_s (l::ls) _ _ (S9.out.below hb9) ks.out hn16 (s1.isQs (by rw[List.length_set,HQL.out]) (by omega)) (by rw[List.length_set,HQL.out]);rw[hfin]at K0;have K:=hide K0;replace HB:=hide hbw;clear K0 s1 s2 hb9 hbw hfin hq5 hT hB' hR' hP' hn' hd' HQR HQF HRQ;unfold FE.v;go_wp2_with fail
        refine K.out.mono ?_;rintro e w15 ⟨rfl,hb⟩;replace HB:=hide (HB.out.trans (hb.mono HB.out.size));clear hb K;go_wp2;refine bodyPost_ret (v:=_) (by simp[results,Tryz.results3,go_sem];try rfl) rfl ⟨rfl,HB.out⟩
end Lm
namespace Lm
open Go Go.RowKit Go.ChangeShapes Go.WideShapes Go.ChangeAt Go.Deep
theorem a3i{cs:Array Value}(h:cs.size=4):∃a b c d,cs = #[a,b,c,d]:=by
 obtain⟨l⟩:=cs
 match l,h with
 | [a,b,c,d],_=>exact⟨a,b,c,d,rfl⟩
theorem ap0{H:Type}{enc:TypeId×Value->H}{w:World}{fuel:Nat}{c:Value}{x:DataW H×List MemPlace}(h:DataW.trod enc Tryz.prog w 0 (fun _=>true) true fuel 22 [c]=some x):∃ao n cap,c=.slice ao n cap:=by
 rcases open_slice Tryz.underlying22 h with⟨hcs,_⟩|⟨a,len,cap',_,_,_,_,hcs,_⟩
 ·exact⟨none,0,0,by simpa using hcs⟩
 ·exact⟨some a,len,cap',by simpa using hcs⟩
theorem ap1{H:Type}{enc:TypeId×Value->H}{w:World}{fuel:Nat}{c:Value}{x:DataW H×List MemPlace}(h:DataW.trod enc Tryz.prog w 0 (fun _=>true) true fuel 23 [c]=some x):∃ao n cap,c=.slice ao n cap:=by
 rcases open_slice Tryz.underlying23 h with⟨hcs,_⟩|⟨a,len,cap',_,_,_,_,hcs,_⟩
 ·exact⟨none,0,0,by simpa using hcs⟩
 ·exact⟨some a,len,cap',by simpa using hcs⟩
theorem a1y{H:Type}{enc:TypeId×Value->H}{w:World}{fuel:Nat}{c0 c1 c2 c3:Value}{x:DataW H×List MemPlace}(h:DataW.trod enc Tryz.prog w 0 (fun _=>true) true fuel 25 [c0,c1,c2,c3]=some x)(hb:Rows.uptoBulk x.1<=1048576):
  ∃K,InW w (.agg #[c0,c1,c2,c3]) K:=by
 have kI:Tryz.prog.cellsOf 3=1:=by kernel_rfl
 have kQ:Tryz.prog.cellsOf 22=1:=by kernel_rfl
 have kM:Tryz.prog.cellsOf 23=1:=by kernel_rfl
 obtain⟨xs,n,_,hx,_,hl,hf⟩:=DataW.trod_struct Tryz.underlying25 h;obtain⟨x0,x1,x2,x3,rfl⟩:∃x0 x1 x2 x3,xs = [x0,x1,x2,x3]:=by
  match xs,hl with
  | [x0,x1,x2,x3],_=>exact⟨x0,x1,x2,x3,rfl⟩
 have f0:=hf 0 _ rfl;have f1:=hf 1 _ rfl;have f2:=hf 2 _ rfl;have f3:=hf 3 _ rfl;have g0:DataW.trod enc Tryz.prog w 0 (fun _=>true) true n 3 [c0]=some x0:=by simpa[kI]using f0
 have g1:DataW.trod enc Tryz.prog w 0 (fun _=>true) true n 3 [c1]=some x1:=by simpa[kI]using f1
 have g2:DataW.trod enc Tryz.prog w 0 (fun _=>true) true n 22 [c2]=some x2:=by simpa[kQ]using f2
 have g3:DataW.trod enc Tryz.prog w 0 (fun _=>true) true n 23 [c3]=some x3:=by simpa[kM]using f3
 have hd:x.1=.agg [x0.1,x1.1,x2.1,x3.1]:=congrArg Prod.fst hx;rw[hd]at hb;simp only[Rows.uptoBulk,Rows.uptoBulkAll]at hb;obtain⟨K,hK,_,hw⟩:=DataW.trod_int Tryz.underlying3 g0;obtain⟨k,hk,_⟩:=DataW.trod_int Tryz.underlying3 g1;obtain rfl:c0=.int .i64 K:=by simpa using hK
 obtain rfl:c1=.int .i64 k:=by simpa using hk
 obtain⟨a2,n2,p2,rfl⟩:=ap0 g2;obtain⟨a3,n3,p3,rfl⟩:=ap1 g3;obtain⟨fss,h1,h2⟩:=a1p g2;obtain⟨ess,h3,h4⟩:=ava g3;have hKb:K<=9223372036854775807:=by
  simp only[Lit.wf,IntKind.min,IntKind.max,IntKind.signed,IntKind.bits]at hw;simp at hw;omega
 exact⟨K,k,_,_,fss,ess,rfl,h1,by omega,h3,by omega,hKb⟩
end Lm
namespace spanTwiceLaw
open Go.ChangeShapes Go.WideShapes Go.ChangeAt Go.RowKit
open Go.ChangeMaps (open_string shut_string)
theorem own:ownKnob Tryz.prog.godebug=none:=by kernel_rfl
theorem laidOut:laidOutB Tryz.prog=true:=by kernel_rfl
set_option linter.unusedVariables false in
set_option maxRecDepth 100000 in
theorem lifted(os:Os)(started:os.Started)(H:Type)(enc:TypeId×Value->H)(F:Stop.Interp):
  ReturnsInHanded {} Tryz.checked os 3 .any ((Rows.OpenSpec.upto Rows.spanTwiceSpec).pre6 enc Tryz.prog Tryz.f3 Rows.spanTwiceUptoRow.domain false) (((Rows.OpenSpec.upto Rows.spanTwiceSpec).at F).post enc Tryz.prog Tryz.f3 false true false false):=by
 refine returnsInHanded_of_cond (C:=Tryz.checked) (s:=Rows.OpenSpec.upto Rows.spanTwiceSpec) (k:=Rows.uptoSmall) rfl own started (by kernel_rfl) Tryz.func3
  (OpenSpec.witness (enc:=enc) (C:=Tryz.checked) (s:=Rows.OpenSpec.upto Rows.spanTwiceSpec) (k:=Rows.uptoSmall) rfl false ⟨#[],#[.agg #[.int .i64 0,.int .i64 0,.slice none 0 0,.slice none 0 0],.slice none 0 0,.int .i64 0],[]⟩ 8 (by kernel_rfl) (by kernel_rfl) (by kernel_rfl)
   (x:=([.agg [.lit (.int .i64 0),.lit (.int .i64 0),.nil,.nil],.nil,.lit (.int .i64 0)],[],[])) (by kernel_rfl) rfl (by kernel_rfl)) ?_
 intro W base args ds gs before hval0 hW _ hk _;have hval:∀(j:Nat) t v,Tryz.f3.params[j]? = some t->args[j]? = some v->Value.okWide Tryz.prog W .any base t v:=hval0;have hW':=hW;obtain⟨p,q,hA0,hV,rfl,hfz,hnd⟩:=hW;have hA:DataW.TrodAll enc Tryz.prog W 0 (fun _=>true) true Tryz.f3.params.toList args.toList ds p:=hA0;rw[Tryz.params3]at hA hval;obtain⟨v0,vs0,d0,ds0,p0,q0,hargs,rfl,rfl,h0,r_0⟩:=trodAll_cons hA;obtain⟨v1,vs1,d1,ds1,p1,q1,rfl,rfl,rfl,h1,r_1⟩:=trodAll_cons r_0;obtain⟨v2,vs2,d2,ds2,p2,q2,rfl,rfl,rfl,h2,r_2⟩:=trodAll_cons r_1;obtain⟨rfl,rfl,rfl⟩:=trodAll_nil r_2;obtain rfl:args = #[v0,v1,v2]:=by cases args;simp_all
 obtain⟨rfl,rfl⟩:=trodVars_none hV;have hbulk:Rows.uptoBulkAll ([d0,d1,d2]:List (DataW H))<=1048576:=by
  have h:=of_decide_eq_true hk;simpa only[List.append_nil]using h
 simp only[Rows.uptoBulkAll]at hbulk;have k0:=h0;have lt0:∀x∈p0,x.block<W.heap.size:=by obtain⟨m,hm⟩:=k0;exact DataW.trod_lt m _ _ _ hm
 obtain⟨z0,w0⟩:∃K,Lm.InW W v0 K:=by
  obtain⟨cs,hv,hsz2⟩:=okWide_struct Tryz.underlying25 (hval 0 25 v0 rfl rfl);obtain⟨c0,c1,c2,c3,rfl⟩:=Lm.a3i (hsz2.trans (by kernel_rfl:Tryz.prog.cellsOf 25=4));subst hv;obtain⟨fuel,hf⟩:=h0;exact Lm.a1y (x:=(d0,p0)) (by simpa[Value.cells]using hf) (by show Rows.uptoBulk d0<=1048576;omega)
 obtain⟨a1,len1,cap1,rfl⟩:=okWide_slice Tryz.underlying26 (hval 1 26 v1 rfl rfl);have k1:=h1;have lt1:∀x∈p1,x.block<W.heap.size:=by obtain⟨m,hm⟩:=k1;exact DataW.trod_lt m _ _ _ hm
 obtain⟨z1,w1,b1⟩:∃zs,Lm.Nums W (.slice a1 len1 cap1) zs/\∀z∈zs,-9223372036854775808<=z/\z<=9223372036854775807:=by
  obtain⟨fuel,hf⟩:=h1;exact Lm.avb (x:=(d1,p1)) (by simpa[Value.cells]using hf)
 obtain⟨a2,rfl,rfl,rfl,w2⟩:=open_int Tryz.underlying3 (hval 2 3 v2 rfl rfl) h2;clear hA0 hval0;refine(Lm.al7 W v0 (.slice a1 len1 cap1) a2 z0 z1 w0 w1 b1).mono fun e W' ⟨he,bel⟩=>?_
 subst he;exact⟨_,rfl,_,_,_,[],_,[],hW',trodAll_mk1 (shut_bool Tryz.underlying4 _),(trodAll_cons_mk (Below.trod laidOut (by kernel_rfl) (of_decide_eq_true (by kernel_rfl)) k0 bel lt0) (trodAll_cons_mk (Below.trod laidOut (by kernel_rfl) (of_decide_eq_true (by kernel_rfl)) k1 bel lt1) (trodAll_cons_mk (shut_int Tryz.underlying3 w2) trodAll_mk0))),rfl,bel.frame _,fun h=>by cases h⟩
theorem over:Rows.SpanTwiceUptoSaid:=
 OpenClaim.holds_of_cond 3 Tryz.f3 rfl rfl rfl rfl rfl rfl rfl ⟨rfl,rfl,rfl,rfl,rfl⟩ rfl rfl rfl rfl rfl (by kernel_rfl) Tryz.func3 (by kernel_rfl)
  (of_decide_eq_true (by kernel_rfl)) (by unfold Func.isWrapper;first|(rw[if_pos (by decide +kernel)];kernel_rfl)|(rw[if_neg (by decide +kernel)];exact⟨rfl,rfl⟩))
  (fun os started H enc _ F=>lifted os started H enc F)
end spanTwiceLaw
theorem spanTwice_upto:Rows.SpanTwiceUptoSaid:=spanTwiceLaw.over
#print axioms spanTwice_upto
end Go.Proofs.YtjogfjgkabjcfaaGreat
