/-
  The given statement on MatrixReduces, for every input: the call answers true, and each argument reads behind it as it read before. No condition beyond the statement's own. Beside it: The document's Reduce: the walk. The document's Read: rows that were handed in, as its own numbers. The document's Echelon and Rank. Package matrix: told, Echelon: each row, and each number of it, in memory of its own, apart from all others. LenWholes and LenRows of rows of any length: what they answer is the length as an int. What MatrixForms and MatrixDual ask: rows that are told are short; Echelon of rows without a shape; a product of rows as one operation. Both sides of Echelon and Rank: what the program and the document answer of rows that lie alike. Rows in memory of their own are handed to the book. The law on Echelon and Rank: they answer as the document does, and in memory of their own.
-/
import Derived.Maps.AppendAt
import Derived.Test.YtpccfkdcpjplgaaGreatRows
import Derived.ProofKit
import Derived.OpenShut
import Derived.ShutString
import Derived.ChangeOld
import Derived.SizedLaws
import Derived.Test.YtpccfkdcpjplgaaGreatMRsLawZ4
namespace Go.Proofs.YtpccfkdcpjplgaaGreat
namespace Lm
open Go Go.RowKit Md
theorem RmO.cell {B:Nat} {w:World} {g n c k:Nat} {vs:List Value} {rows:List (List Int)} {L:Nat} {z:List Int} (h:RmO B w (.slice (some ⟨g,0,none⟩) n c) vs rows L) (hz:rows[k]? = some z):∃ a m,w.cell? ⟨g,k,none⟩ = some (.slice a z.length m)∧w.frozen? ⟨g,k,none⟩ = false∧g<w.heap.size∧NRow w (.slice a z.length m) z L:=by
 have hn:=h.len'
 have hk:=(List.getElem?_eq_some_iff.1 hz).1
 obtain ⟨g',cur,e,_,hg,_⟩:=h.block (by omega)
 obtain rfl:g=g' := by simpa using e
 obtain ⟨b,off,u,e',hb,hc,hu⟩:=h.nm.cell hz
 obtain ⟨rfl,rfl⟩:g=b∧0=off:=by simpa using e'
 obtain ⟨a,m,rfl,_⟩:=id hu.parts
 rw [Nat.zero_add] at hc
 exact ⟨a,m,hc,frozen_of_row _ _ _ _ _ hg,hb,hu⟩
def elK (m:List (List Int)) (t:Nat) (F:List Int→List Int) (i:Nat):List (List Int):=m.mapIdx (fun q a=>if q<i∧q≠t then F a else a)
theorem adr (m:List (List Int)) (t:Nat) (F:List Int→List Int) (i q:Nat):(elK m t F i)[q]? = (m[q]?).map (fun a=>if q<i∧q≠t then F a else a):=by
 unfold elK
 rw [List.getElem?_mapIdx]
theorem asz (m:List (List Int)) (t:Nat) (F:List Int→List Int):elK m t F 0=m:=by
 apply List.ext_getElem?
 intro q
 rw [adr]
 simp
theorem akw {m:List (List Int)} {t:Nat} {F:List Int→List Int} {i:Nat} (h:i=t∨∀ a,m[i]? = some a→F a=a):elK m t F (i+1)=elK m t F i:=by
 apply List.ext_getElem?
 intro q
 rw [adr,adr]
 cases hq:m[q]? with
 | none=>rfl
 | some a =>
  simp only [Option.map_some,Option.some.injEq]
  by_cases hqi:q=i
  ·subst hqi
   rcases h with h | h
   ·rw [if_neg (by omega),if_neg (by omega)]
   ·rw [if_neg (by omega:¬ (q<q∧q≠t)),h a hq]
    simp
  ·by_cases h1:q<i∧q≠t
   ·rw [if_pos h1,if_pos (by omega)]
   ·rw [if_neg h1,if_neg (by omega)]
theorem avd {m:List (List Int)} {t:Nat} {F:List Int→List Int} {i:Nat} {a:List Int} (h:m[i]? = some a) (hit:i≠t):(elK m t F i).set i (F a)=elK m t F (i+1):=by
 have hi:=(List.getElem?_eq_some_iff.1 h).1
 apply List.ext_getElem?
 intro q
 rw [adr]
 by_cases hqi:q=i
 ·subst hqi
  rw [List.getElem?_set_self (by unfold elK;rw [List.length_mapIdx];exact hi),h,Option.map_some,if_pos (by omega)]
 ·rw [List.getElem?_set_ne (fun e=>hqi e.symm),adr]
  congr 1
  funext x
  by_cases h1:q<i∧q≠t
  ·rw [if_pos h1,if_pos (by omega)]
  ·rw [if_neg h1,if_neg (by omega)]
theorem ave {A Y:List (List Int)} {b:List Int} {F:List Int→List Int} {i:Nat} (h:(A ++ b :: Y).length≤i):elK (A ++ b :: Y) A.length F i=A.map F ++ b :: Y.map F:=by
 apply List.ext_getElem?
 intro q
 rw [adr]
 simp only [List.length_append,List.length_cons] at h
 by_cases h1:q<A.length
 ·rw [List.getElem?_append_left h1,List.getElem?_append_left (by rw [List.length_map];exact h1),List.getElem?_map]
  congr 1
  funext x
  rw [if_pos (by omega)]
 ·rw [List.getElem?_append_right (by omega),List.getElem?_append_right (by rw [List.length_map];omega),List.length_map]
  by_cases h2:q=A.length
  ·subst h2
   simp
  ·obtain ⟨p,hp⟩:∃ p,q - A.length=p+1:=⟨q - A.length - 1,by omega⟩
   rw [hp,List.getElem?_cons_succ,List.getElem?_cons_succ,List.getElem?_map]
   cases hy:Y[p]? with
   | none=>rfl
   | some x =>
    have:=(List.getElem?_eq_some_iff.1 hy).1
    rw [Option.map_some,Option.map_some,if_pos (by omega)]
theorem aft {α:Type} {l:List α} {t i:Nat} {x:α} (h:(l.take t)[i]? = some x):l[i]? = some x:=by
 rw [List.getElem?_take] at h
 split at h
 ·exact h
 ·cases h
theorem NM.cut {w:World} {ao:Option Addr} {n cap t:Nat} {rows:List (List Int)} {L:Nat} (h:NM w (.slice ao n cap) rows L) (ht:t≤rows.length):NM w (.slice ao t cap) (rows.take t) L:=by
 obtain ⟨vs,⟨ao',cap',hv,h1,h2,h3,h4⟩,h6⟩:=h
 obtain ⟨rfl,hn,rfl⟩:=(Value.slice.injEq .. ▸ hv)
 have hl:(rows.take t).length=t:=by rw [List.length_take];omega
 refine ⟨vs.take t,⟨ao,cap,by rw [hl],by rw [hl];omega,h2,by rw [hl,List.length_take];omega,?_⟩,fun i u z hu hz=>h6 i u z (aft hu) (aft hz)⟩
 rcases h4 with h4 | ⟨b,off,rfl,hb,hc⟩
 ·exact .inl (by rw [hl];omega)
 ·exact .inr ⟨b,off,rfl,hb,fun j u hu=>hc j u (aft hu)⟩
theorem RdI.at {n:Nat} {rows:List (List Int)} {c:Nat} {m:List (List Int)} {R:List Md.Rw} {Q:List Nat} {X:List Md.Rw} (h:RdI n rows c m R Q X) (hc:c<n) {i:Nat} {x:Md.Rw} (hx:X[i]? = some x):∃ z,m[Q.length+i]? = some z∧z=red (gRow (fun k=>D (x :: R) (k :: Q)) n)∧(z.getD c 0=0↔D (x :: R) (c :: Q)=0):=by
 refine ⟨_,?_,rfl,?_⟩
 ·rw [h.hm,List.getElem?_append_right (by rw [adg];simp [efOf]),adg]
  simp [efOf,hx]
 ·obtain ⟨_,_,_,h3⟩:=ahw (fun k=>D (x :: R) (k :: Q)) hc
  exact h3
theorem RdI.skip {n:Nat} {rows:List (List Int)} {c:Nat} {m:List (List Int)} {R:List Md.Rw} {Q:List Nat} {X:List Md.Rw} (h:RdI n rows c m R Q X) (hc:c<n) (hz:∀ i z,Q.length≤i→m[i]? = some z→z.getD c 0=0):RdI n rows (c+1) m R Q X:=h.none fun x hx=>by
 obtain ⟨i,hi⟩:=List.mem_iff_getElem?.1 hx
 obtain ⟨z,hz1,_,hz2⟩:=h.at hc hi
 exact hz2.1 (hz _ z (by omega) hz1)
section
variable {dst:Option Tmp} {ty:TypeId} {pos:String} {after:Array Edge} {guard:Option (Nat × Bool)} {a:Act} {w:World} {ats:Array TypeId} {i j:Nat}
theorem avf {B g:Nat} {v:Value} {xs:List Int} {c:Int} (h1:a.eval (.tmp i)=v) (h2:a.eval (.tmp j)=.slice (some ⟨g,0,none⟩) 1 1) (R:Iv B w v xs) (O:w.heap[g]? = some (.cells #[.int .i64 c] 3 (0,0))) (hn:xs.length≤1000000) (hB:B≤w.heap.size) :
  Does Tryz.prog { dst,op:=.call { callee:=.builtin .append,args:=#[.tmp i,.tmp j],argTypes:=#[54,54] },type:=ty,pos,after,guard } a.eval w fun v' w'=>Iv B w' v' (xs ++ [c])∧Below B w w'∧Ap w w' v.ownBlock xs.length:=by
 obtain ⟨v',w',hr,h3,h4,h5⟩:=awe (ty:=ty) R O hn hB
 have e:(execOp a.eval { dst,op:=.call { callee:=.builtin .append,args:=#[.tmp i,.tmp j],argTypes:=#[54,54] },type:=ty,pos,after,guard }).run Tryz.prog w=.ok (.value v') w' := by
  simp only [execOp,resolve,invoke,builtin,Sem.run_bind,Sem.run_pure,Result.andThen_ok,List.map_toArray,List.map_cons,List.map_nil,h1,h2,hr]
 refine ⟨?_⟩
 unfold Turns
 rw [e]
 exact ⟨h3,h4,h5⟩
end
theorem Iv.put {B B' : Nat} {w:World} {v:Value} {xs:List Int} {g n c q:Nat} {vs:List Value} {rows:List (List Int)} {L:Nat} {u:Value} (h:Iv B w v xs) (hm:RmO B' w (.slice (some ⟨g,0,none⟩) n c) vs rows L) (hn:0<n):Iv B (w.setCell ⟨g,q,none⟩ u) v xs:=h.keep fun b hb=>by
 have hne:b≠g:=fun e=>by
  subst e
  obtain ⟨_,⟨e1,_⟩ | ⟨g1,c1,cur1,e1,_,e2,_⟩⟩:=h.own
  ·rw [e1] at hb
   simp [Value.ownBlock] at hb
  ·rw [e1] at hb
   simp only [Value.ownBlock,Option.some.injEq] at hb
   subst hb
   obtain ⟨g2,cur2,e3,_,e4,_⟩:=hm.block hn
   obtain rfl:g1=g2:=by simpa using e3
   rw [e2] at e4
   injection e4 with e4
   injection e4 with _ e4
   exact absurd e4 (by decide)
 exact heap_setCell_other _ ⟨g,q,none⟩ b _ hne
def NRowS (zs:List Int) (L:Nat):Says:=fun v w=>NRow w v zs L
theorem NRowS.mono (zs:List Int) (L:Nat):Mono (NRowS zs L):=fun _ _ _ hb h=>NRow.below h hb
section
variable {dst:Option Tmp} {ty:TypeId} {pos:String} {after:Array Edge} {guard:Option (Nat × Bool)} {a:Act} {w:World} {ats:Array TypeId} {i j k l:Nat}
theorem afc {b n c q:Nat} (h:a.eval (.tmp i)=.slice (some ⟨b,0,none⟩) n c) (hk:a.eval (.tmp j)=.int .i64 (q:Int)) (hl:q<n):Does Tryz.prog { dst,op:=.indexAddr 53 (.tmp i) (.tmp j),type:=ty,pos,after,guard } a.eval w fun v' w'=>Below w.heap.size w w'∧Eqs (.pointer (some ⟨b,q,none⟩)) v' w' := by
 have hl' : (q:Int)<(n:Int):=by omega
 refine ⟨?_⟩
 unfold Turns
 simp only [execOp,h,hk]
 go_simp
 exact ⟨Below.refl _ _,rfl⟩
theorem ahx {b q:Nat} {ao:Option Addr} {n c:Nat} (hp:a.eval (.tmp i)=.pointer (some ⟨b,q,none⟩)) (h0:w.cell? ⟨b,q,none⟩ = some (.slice ao n c)):Does Tryz.prog { dst,op:=.load 76 (.tmp i),type:=ty,pos,after,guard } a.eval w fun v' w'=>Below w.heap.size w w'∧Eqs (.slice ao n c) v' w' := by
 refine aa4 (v:=.slice ao n c) ?_ ⟨Below.refl _ _,rfl⟩
 rw [hp]
 go_simp
theorem aoc:Has Tryz.prog 47:=by unfold Has;kernel_rfl
theorem aq5 {x y:Int} {us ys:List Int} {va vb:Value} {M N:Nat} (h1:OutN x (3*M) (a.eval (.tmp i)) w) (e2:a.eval (.tmp j)=va) (h2:NRow w va us (3*M)) (h3:OutN y (3*M) (a.eval (.tmp k)) w) (e4:a.eval (.tmp l)=vb) (h4:NRow w vb ys (3*M)) (hab:us.length=ys.length) (hn:us.length≤100000) (hM:M≤60000) (hN:N≤100000) (hne:us≠[]) (hz:∀ z ∈ joinZ x us y ys,(z.natAbs:Int)<pw N) :
  Does Tryz.prog { dst,op:=.call { callee:=.value (.func 47),args:=#[.tmp i,.tmp j,.tmp k,.tmp l],argTypes:=ats },type:=ty,pos,after,guard } a.eval w fun v w'=>Below w.heap.size w w'∧NRowS (red (joinZ x us y ys)) (3*N) v w' := by
 refine aar aoc _ (by simp only [List.map_toArray,List.map_cons,List.map_nil,e2,e4]) ((an0 w x y us ys _ va _ vb M N h1 h2 h3 h4 hab hn (by omega) (by omega) hne hz).mono ?_)
 rintro e w' ⟨r,rfl,h5,hb⟩
 exact ⟨_,rfl,hb,h5⟩
end
theorem as0 {M:Nat} {x y:Int} {us ys:List Int} (hx:(x.natAbs:Int)<pw M) (hy:(y.natAbs:Int)<pw M) (hu:∀ z ∈ us,(z.natAbs:Int)<pw M) (hv:∀ z ∈ ys,(z.natAbs:Int)<pw M):∀ z ∈ joinZ x us y ys,(z.natAbs:Int)<pw (2*M+1):=fun z hz=>by
 obtain ⟨i,hi⟩:=List.mem_iff_getElem?.1 hz
 unfold joinZ at hi
 rw [List.getElem?_zipWith] at hi
 cases h1:us[i]? with
 | none=>rw [h1] at hi;simp at hi
 | some u =>
  cases h2:ys[i]? with
  | none=>rw [h1,h2] at hi;simp at hi
  | some v =>
   rw [h1,h2] at hi
   obtain rfl:=Option.some.inj hi
   have m1:((x*u).natAbs:Int)≤pw M*pw M:=by
    rw [Int.natAbs_mul,Int.natCast_mul]
    exact Int.mul_le_mul (by omega) (by have:=hu u (List.mem_of_getElem? h1);omega) (by omega) (by have:=aak M;omega)
   have m2:((y*v).natAbs:Int)≤pw M*pw M:=by
    rw [Int.natAbs_mul,Int.natCast_mul]
    exact Int.mul_le_mul (by omega) (by have:=hv v (List.mem_of_getElem? h2);omega) (by omega) (by have:=aak M;omega)
   have h3:pw (2*M+1)=4294967296*(pw M*pw M):=by
    rw [←acc,show M+M=2*M by omega]
    rfl
   have h4:0<pw M*pw M:=Int.mul_pos (by have:=aak M;omega) (by have:=aak M;omega)
   rw [h3]
   omega
theorem RdI.take {n:Nat} {rows:List (List Int)} {c j:Nat} {m:List (List Int)} {R:List Md.Rw} {Q:List Nat} {X:List Md.Rw} {z zt:List Int} (h:RdI n rows c m R Q X) (hc:c<n) (hj:Q.length≤j) (hz:m[j]? = some z) (hzt:m[Q.length]? = some zt) (hne:z.getD c 0≠0) :
  ∃ x Y A,A.length=Q.length∧(m.set j zt).set Q.length z=A ++ z :: Y.map (fun x=>red (gRow (fun k=>D (x :: R) (k :: Q)) n))∧RdI n rows (c+1) (A.map (elimZ n c z) ++ z :: (Y.map (fun x=>red (gRow (fun k=>D (x :: R) (k :: Q)) n))).map (elimZ n c z)) (x :: R) (c :: Q) Y:=by
 have hAl:(elR n (efOf R Q)).length=Q.length:=by rw [adg];simp [efOf]
 obtain ⟨q,rfl⟩:∃ q,j=Q.length+q:=⟨j - Q.length,by omega⟩
 have hm:=h.hm
 obtain ⟨x,hx⟩:∃ x,X[q]? = some x:=by
  have h1:=hz
  rw [hm,List.getElem?_append_right (by omega),List.getElem?_map] at h1
  obtain ⟨x,hx,_⟩:=Option.map_eq_some_iff.1 h1
  exact ⟨x,by rw [←hx];congr 1;omega⟩
 obtain ⟨z',h1,h2,h3⟩:=h.at hc hx
 rw [hz] at h1
 obtain rfl:=Option.some.inj h1
 obtain ⟨Y,hp,he⟩:=exch (A:=elR n (efOf R Q)) (f:=fun x=>red (gRow (fun k=>D (x :: R) (k :: Q)) n)) (u:=zt) (v:=z) hx (by rw [←hm,hAl];exact hzt) (by rw [←hm,hAl];exact hz)
 rw [←hm,hAl,←h2] at he
 refine ⟨x,Y,_,hAl,he,?_⟩
 have h4:=h.found hc hp (fun h0=>hne (h3.2 h0))
 rw [←h2] at h4
 exact h4
set_option maxRecDepth 20000 in
set_option maxHeartbeats 16000000 in
set_option maxRecDepth 100000 in
theorem ahy (w:World) (v:Value) (rows:List (List Int)) (n S:Nat) (B:Md.Rw→Nat) (h:NM w v rows (3*(S+1))) (hrn:∀ r ∈ rows,r.length=n) (hr63:rows.length≤64) (hn:n≤64) (hS:S≤49000) (hB:∀ r ∈ rows,∀ k,((fnR r k).natAbs:Int)<pw (B (fnR r))) (hsum:sumB B (rows.map fnR)≤S) (hz0:∀ r ∈ rows,∀ z ∈ r,(z.natAbs:Int)<pw (S+1)) :
  Calls Tryz.prog 25 #[v,.int .i64 n] w fun e w'=>∃ mv pv m R Q X,e=.returned (.tuple #[mv,pv])∧RdI n rows n m R Q X∧NM w' mv (m.take Q.length) (3*(S+1))∧Iv w.heap.size w' pv (Q.reverse.map (fun q:Nat=>(q:Int)))∧Below w.heap.size w w' := by
 have HRN:=hide hrn
 have HBD:=hide hB
 have HSM:=hide hsum
 have HZ0:=hide hz0
 have HR63:=hide hr63
 have K0:=hide (an1 w v rows (3*(S+1)) h (by omega) (fun r hr=>by rw [hrn r hr];omega))
 clear h hrn hB hsum hz0 hr63
 go_enter Tryz.func25,Tryz.ntmps25
 go_wp2_with fail
 refine K0.out.mono ?_
 rintro e w1 ⟨r1,vs1,rfl,hm1,hb1⟩
 obtain ⟨am,cm,hv1,-⟩:=Ce.own hm1.own
 subst hv1
 rw [hm1.len] at hm1
 obtain ⟨r,hr⟩:∃ r,rows.length=r:=⟨_,rfl⟩
 rw [hm1.len,hr]
 rw [hr] at hm1
 have HR:=hide hr
 have hr' : r≤64:=by have:=HR63.out;omega
 have HM1:=hide hm1
 have HB1:=hide hb1
 clear hm1 hb1 hr K0
 go_wp2_with fail
 go_loopw [7] (fun iv wr=>∃ (k:Nat) (vs:List Value),iv=.int .i64 k∧k≤r∧Below w.heap.size w wr∧RmO w.heap.size wr (.slice am r cm) vs (redK rows k) (3*(S+1))) (fun iv _=>r - (intOf iv).toNat)
 case atStart=>exact ⟨0,_,rfl,Nat.zero_le _,HB1.out,by rw [aq4];exact HM1.out⟩
 case round =>
  obtain ⟨k,vs,rfl,hk,hbw,hown⟩:=hrel
  have HW:=hide hbw
  have HOWN:=hide hown
  by_cases hlt:k<r
  ·have hlt' : (k:Int)<(r:Int):=by omega
   obtain ⟨z,hz⟩:∃ z,rows[k]? = some z:=⟨_,List.getElem?_eq_getElem (by have:=HR.out;omega)⟩
   obtain ⟨g,cur,rfl,hbg,-⟩:=hown.block (by omega)
   obtain ⟨ua,uc,x0,xf,hgl,hu⟩:=hown.cell (amj hz)
   have hzn:z.length=n:=HRN.out z (List.mem_of_getElem? hz)
   rw [hzn] at x0 hu
   have HZ:=hide hz
   have K1:=hide (aob wr _ z (S+1) hu (by omega) (by omega) (HZ0.out z (List.mem_of_getElem? hz)))
   clear hbw hown hz hu hzn
   go_wp2_with fail
   refine K1.out.mono ?_
   rintro e w2 ⟨r2,rfl,hr2,hb2⟩
   obtain ⟨a2,c2,hv2,-⟩:=id hr2.parts
   subst hv2
   have hR2:=HOWN.out.below hb2
   obtain ⟨hP,hPb,-,-⟩:=hR2.put hlt hr2
   obtain ⟨ua',uc',x0',xf',hgl',-⟩:=hR2.cell (amj HZ.out)
   have HP:=hide hP
   have HPB:=hide ((HW.out.trans (hb2.mono HW.out.size)).trans (hPb _ hbg))
   clear hr2 hb2 hR2 hP hPb x0 xf hgl K1
   go_wp2
   go_roundw
   case rel=>exact ⟨k+1,_,by go_num,by omega,HPB.out,by rw [←asy HZ.out];exact HP.out⟩
   case measure=>simp [intOf];omega
  ·have hlt' : decide ((k:Int)<(r:Int))=false:=by simp;omega
   have hkr:k=r:=by omega
   subst hkr
   clear hbw hown
   have hstart:=RdI.start HRN.out
   have hm0:RmO w.heap.size wr (.slice am k cm) vs (rows.map red) (3*(S+1)):=by have h:=HOWN.out;rwa [asx (by have:=HR.out;omega)] at h
   have HST:=hide hstart
   have HM0:=hide hm0
   clear hstart hm0 HOWN hlt hlt'
   go_wp2_with fail
   go_loopw [8,9] (fun pv cv wx=>∃ (c:Nat) (m:List (List Int)) (R:List Md.Rw) (Q:List Nat) (X:List Md.Rw) (vs:List Value),cv=.int .i64 c∧c≤n∧Below w.heap.size w wx∧RdI n rows c m R Q X∧RmO w.heap.size wx (.slice am k cm) vs m (3*(S+1))∧Iv w.heap.size wx pv (Q.reverse.map (fun q:Nat=>(q:Int)))) (fun _ cv _=>n - (intOf cv).toNat)
   case atStart=>exact ⟨0,_,_,_,_,_,rfl,Nat.zero_le _,HW.out,HST.out,HM0.out,awd _ _⟩
   case round =>
    obtain ⟨c,m,R,Q,X,vs,rfl,hc,hbw,hrd,hown,hiv⟩:=hrel
    obtain ⟨ap,cp,hpv,-⟩:=Ce.own hiv.own
    subst hpv
    have hql:(Q.reverse.map (fun q:Nat=>(q:Int))).length=Q.length:=by simp
    rw [hql] at hiv ⊢
    have hml:k=m.length:=hown.len'
    have hqm:Q.length≤k:=by
     have h1:=congrArg List.length hrd.hm
     rw [List.length_append,adg] at h1
     simp [efOf] at h1
     omega
    have HW:=hide hbw
    have HRD:=hide hrd
    have HOWN:=hide hown
    have HIV:=hide hiv
    have HML:=hide hml
    have HBND:=hide (hrd.bound HBD.out HSM.out HR63.out)
    have hq63:Q.length≤64:=by omega
    obtain ⟨t,ht⟩:∃ t,Q.length=t:=⟨_,rfl⟩
    rw [ht] at HIV hqm hq63 ⊢
    have HT:=hide ht
    by_cases hltc:c<n
    ·have hltc' : (c:Int)<(n:Int):=by omega
     obtain ⟨wc,hwc⟩:∃ wc,wc=wr:=⟨_,rfl⟩
     subst hwc
     clear hbw hrd hown hiv hml hql ht
     go_wp2_with fail
     go_loopw [11] (fun av wr=>∃ (j:Nat),av=.int .i64 j∧t≤j∧j≤k∧Below wc.heap.size wc wr∧∀ i z,t≤i→i<j→m[i]? = some z→z.getD c 0=0) (fun av _=>k - (intOf av).toNat)
     case atStart=>exact ⟨t,rfl,Nat.le_refl _,hqm,Below.refl _ _,fun i z h1 h2=>by omega⟩
     case round =>
      obtain ⟨j,rfl,hjt,hjk,hbj,hzero⟩:=hrel
      have HJ:=hide hbj
      have HZR:=hide hzero
      by_cases hltj:j<k
      ·have hltj' : (j:Int)<(k:Int):=by omega
       obtain ⟨z,hz⟩:∃ z,m[j]? = some z:=⟨_,List.getElem?_eq_getElem (by have:=HML.out;omega)⟩
       obtain ⟨hzn,hzb⟩:=HBND.out z (List.mem_of_getElem? hz)
       obtain ⟨g,cur,rfl,hbg,-⟩:=HOWN.out.block (by omega)
       obtain ⟨ua,uc,x0,xf,hgl,hu⟩:=(HOWN.out.below hbj).cell hz
       rw [hzn] at x0 hu
       obtain ⟨y,hy⟩:∃ y,z[c]? = some y:=⟨_,List.getElem?_eq_getElem (by omega)⟩
       obtain ⟨b,off,ng,a,m1,c1,rfl,hbl,y0,y1,hyv⟩:=hu.cell hy
       have HY:Hid (z.getD c 0=y):=(show _ = _ by rw [List.getD_eq_getElem?_getD,hy];rfl)
       have HZ:=hide hz
       have K1:=hide (nsignF wr y _ _ hyv)
       obtain ⟨sg,hsg⟩:∃ sg,Int.sign y=sg:=⟨_,rfl⟩
       rw [hsg] at K1
       have HSG:=hide hsg
       clear hbj hzero hz hzn hzb hu hy hyv hsg xf
       go_wp2_with fail
       refine K1.out.mono ?_
       rintro e w2 ⟨rfl,hb2⟩
       have HB2:=hide (HJ.out.trans (hb2.mono HJ.out.size))
       clear hb2 K1 x0 y0 y1 hbl hgl
       by_cases hs0:sg=0
       ·have hs0' : (sg == 0)=true:=by simpa using hs0
        go_wp2
        go_roundw
        case rel =>
         refine ⟨j+1,by go_num,by omega,by omega,HB2.out,fun i z' h1 h2 h3=>?_⟩
         by_cases hij:i=j
         ·subst hij
          rw [HZ.out] at h3
          obtain rfl:=Option.some.inj h3
          rw [HY.out]
          exact Int.sign_eq_zero_iff_zero.1 (by rw [HSG.out];exact hs0)
         ·exact HZR.out i z' h1 (by omega) h3
        case measure=>simp [intOf];omega
       ·have hs0' : (sg == 0)=false:=by simpa using hs0
        have hne:((j:Int) == (k:Int))=false:=by simp;omega
        have HO2:=hide (HOWN.out.below HB2.out)
        obtain ⟨zt,hzt⟩:∃ z,m[t]? = some z:=⟨_,List.getElem?_eq_getElem (by have:=HML.out;omega)⟩
        obtain ⟨ja,jc,x0,xf,hgl,hju⟩:=HO2.out.cell HZ.out
        obtain ⟨ta,tc,x1,xf1,_,htu⟩:=HO2.out.cell hzt
        obtain ⟨hzn,-⟩:=HBND.out z (List.mem_of_getElem? HZ.out)
        obtain ⟨htn,-⟩:=HBND.out zt (List.mem_of_getElem? hzt)
        rw [hzn] at x0 hju
        rw [htn] at x1 htu
        obtain ⟨hP1,hPb1,hPk1,-⟩:=HO2.out.put hltj htu
        have hju1:=hPk1 hju
        obtain ⟨hP2,hPb2,-,-⟩:=hP1.put (show t<k by omega) hju1
        obtain ⟨za,hza⟩:∃ z,(m.set j zt)[t]? = some z:=⟨_,List.getElem?_eq_getElem (by rw [List.length_set];have:=HML.out;omega)⟩
        obtain ⟨ta',tc',x2,xf2,_,-⟩:=hP1.cell hza
        have HP2:=hide hP2
        have HPB2:=hide (((HW.out.trans (HB2.out.mono HW.out.size)).trans (hPb1 _ hbg)).trans (hPb2 _ hbg))
        have HI2:=hide ((HIV.out.below HB2.out))
        have hgsz:g<w2.heap.size:=hgl
        have hWb:Below w2.heap.size w2 w2:=Below.refl _ _
        obtain ⟨W,hW⟩:∃ W,(w2.setCell ⟨g,j,none⟩ (.slice ta n tc)).setCell ⟨g,t,none⟩ (.slice ja n jc)=W:=⟨_,rfl⟩
        have HI3:Hid (Iv w.heap.size W (.slice ap t cp) (Q.reverse.map (fun q:Nat=>(q:Int)))):=(show Iv _ _ _ _ from HI2.out.keep fun b hb=>by
         have hne:b≠g:=fun e=>by
          subst e
          obtain ⟨_,⟨e1,_⟩ | ⟨g1,c1,cur1,e1,_,e2,_⟩⟩:=HI2.out.own
          ·rw [e1] at hb
           simp [Value.ownBlock] at hb
          ·rw [e1] at hb
           simp only [Value.ownBlock,Option.some.injEq] at hb
           subst hb
           obtain ⟨g2,cur2,e3,_,e4,_⟩:=HO2.out.block (by omega)
           obtain rfl:g1=g2:=by simpa using e3
           rw [e2] at e4
           injection e4 with e4
           injection e4 with _ e4
           exact absurd e4 (by decide)
         rw [←hW,heap_setCell_other _ ⟨g,t,none⟩ b _ hne,heap_setCell_other _ ⟨g,j,none⟩ b _ hne])
        rw [hW] at HP2 HPB2
        have hyz:z.getD c 0≠0:=by rw [HY.out];intro h0;exact hs0 (by rw [←HSG.out,h0];rfl)
        obtain ⟨x,Y,A,hAt,hm1,hF⟩:=HRD.out.take hltc (by have:=HT.out;omega) HZ.out (by rw [HT.out];exact hzt) hyz
        rw [HT.out] at hAt hm1
        have HF:=hide hF
        have HFB:=hide (hF.bound HBD.out HSM.out HR63.out)
        rw [hm1] at HP2
        obtain ⟨f,hf⟩:∃ f:Md.Rw→List Int,f=(fun x=>red (gRow (fun k=>D (x :: R) (k :: Q)) n)):=⟨_,rfl⟩
        rw [←hf] at HP2 HF HFB hm1
        have HA:=hide hAt
        have HM1B:Hid (∀ r ∈ A ++ z :: Y.map f,r.length=n∧∀ y ∈ r,(y.natAbs:Int)<pw (S+1)):=(show ∀ r ∈ A ++ z :: Y.map f,_ from fun r hr=>HBND.out r (by
         rw [←hm1] at hr
         rcases List.mem_or_eq_of_mem_set hr with hr | rfl
         ·rcases List.mem_or_eq_of_mem_set hr with hr | rfl
          ·exact hr
          ·exact List.mem_of_getElem? hzt
         ·exact List.mem_of_getElem? HZ.out))
        have HML1:Hid ((A ++ z :: Y.map f).length=k):=(show _ = _ by rw [←hm1,List.length_set,List.length_set];exact HML.out.symm)
        clear hF hm1 hAt hf hyz
        clear hP1 hPb1 hPk1 hju1 hP2 hPb2 hju htu hza hzn htn hWb
        go_wp2_with fail
        try rw [hW]
        clear hW x0 xf x1 xf1 x2 xf2 hgl hgsz HI2
        go_loopw [13] (fun iv wr=>∃ (i:Nat) (vs:List Value),iv=.int .i64 i∧i≤k∧Below w.heap.size w wr∧RmO w.heap.size wr (.slice (some ⟨g,0,none⟩) k cm) vs (elK (A ++ z :: Y.map f) t (elimZ n c z) i) (3*(S+1))∧Iv w.heap.size wr (.slice ap t cp) (Q.reverse.map (fun q:Nat=>(q:Int)))) (fun iv _=>k - (intOf iv).toNat)
        case atStart=>exact ⟨0,_,rfl,Nat.zero_le _,HPB2.out,by rw [asz];exact HP2.out,HI3.out⟩
        case round =>
         obtain ⟨i,vs',rfl,hi,hbi,howni,hivi⟩:=hrel
         have HWI:=hide hbi
         have HOI:=hide howni
         have HII:=hide hivi
         by_cases hlti:i<k
         ·have hlti' : (i:Int)<(k:Int):=by omega
          by_cases hit:i=t
          ·have hit' : ((i:Int) != (t:Int))=false:=by simp;omega
           clear hbi howni hivi
           go_wp2
           go_roundw
           case rel=>exact ⟨i+1,vs',by go_num,by omega,HWI.out,by rw [akw (.inl hit)];exact HOI.out,HII.out⟩
           case measure=>simp [intOf];omega
          ·have hit' : ((i:Int) != (t:Int))=true:=by simp;omega
           obtain ⟨ra,hra⟩:∃ y,(A ++ z :: Y.map f)[i]? = some y:=⟨_,List.getElem?_eq_getElem (by have:=HML1.out;omega)⟩
           have hEa:(elK (A ++ z :: Y.map f) t (elimZ n c z) i)[i]? = some ra:=by rw [adr,hra,Option.map_some,if_neg (by omega)]
           have hEt:(elK (A ++ z :: Y.map f) t (elimZ n c z) i)[t]? = some z:=by
            rw [adr,←HA.out,List.getElem?_append_right (Nat.le_refl _),Nat.sub_self,List.getElem?_cons_zero,Option.map_some,if_neg (by omega)]
           obtain ⟨hran,hrab⟩:=HM1B.out ra (List.mem_of_getElem? hra)
           obtain ⟨hzn,hzb⟩:=HM1B.out z (by simp)
           obtain ⟨ua,ca,xi,xfi,hgl,hau⟩:=howni.cell hEa
           obtain ⟨ub,cb,xt,_,_,hbu⟩:=howni.cell hEt
           rw [hran] at xi hau
           rw [hzn] at xt hbu
           obtain ⟨qy,hqy⟩:∃ y,ra[c]? = some y:=⟨_,List.getElem?_eq_getElem (by omega)⟩
           obtain ⟨py,hpy⟩:∃ y,z[c]? = some y:=⟨_,List.getElem?_eq_getElem (by omega)⟩
           obtain ⟨ba,oa,nga,aa,ma,cca,rfl,hbla,pa0,pa1,hqv⟩:=hau.cell hqy
           obtain ⟨bb,ob,ngb,ab,mb,ccb,rfl,hblb,pb0,pb1,hpv⟩:=hbu.cell hpy
           have HQY:Hid (ra.getD c 0=qy):=(show _ = _ by rw [List.getD_eq_getElem?_getD,hqy];rfl)
           have HPY:Hid (z.getD c 0=py):=(show _ = _ by rw [List.getD_eq_getElem?_getD,hpy];rfl)
           have HRAE:=hide hra
           have HEA:=hide hEa
           have HJL:Hid (ra.length=z.length):=(show _ = _ by omega)
           have HJN:Hid (ra.length=n):=hran
           have HJE:Hid (ra≠[]):=(show ra≠[] from fun e=>by rw [e] at hran;simp at hran;omega)
           have HJZ:Hid (∀ y ∈ joinZ py ra qy z,(y.natAbs:Int)<pw (2*(S+1)+1)):=as0 (hzb _ (List.mem_of_getElem? hpy)) (hrab _ (List.mem_of_getElem? hqy)) hrab hzb
           have HJG:Hid (qy≠0→red (joinZ py ra qy z)=elimZ n c z ra):=(show _→_ from fun h0=>by
            unfold elimZ
            rw [if_neg (by rw [HQY.out];exact h0),aoa hran hzn,HQY.out,HPY.out])
           have HIN:Hid (∀ y ∈ elimZ n c z ra,(y.natAbs:Int)<pw (S+1)):=(HFB.out (elimZ n c z ra) (by
            have hm:ra ∈ A∨ra ∈ Y.map f:=by
             by_cases h1:i<A.length
             ·rw [List.getElem?_append_left h1] at hra
              exact .inl (List.mem_of_getElem? hra)
             ·rw [List.getElem?_append_right (by omega)] at hra
              obtain ⟨q,hq⟩:∃ q,i - A.length=q+1:=⟨i - A.length - 1,by have:=HA.out;omega⟩
              rw [hq,List.getElem?_cons_succ] at hra
              exact .inr (List.mem_of_getElem? hra)
            rcases hm with h | h
            ·exact List.mem_append.2 (.inl (List.mem_map.2 ⟨ra,h,rfl⟩))
            ·exact List.mem_append.2 (.inr (List.mem_cons.2 (.inr (List.mem_map.2 ⟨ra,h,rfl⟩)))))).2
           have K4:=hide (nsignF wr qy _ _ hqv)
           have HQ0:=hide hqv
           have HP0:=hide hpv
           have HAU:=hide hau
           have HBU:=hide hbu
           obtain ⟨sg,hsg⟩:∃ sg,Int.sign qy=sg:=⟨_,rfl⟩
           rw [hsg] at K4
           have HSG4:=hide hsg
           clear hbi howni hivi hra hEa hEt hran hrab hzn hzb hau hbu hqy hpy hqv hpv hsg
           go_wp2_with fail
           refine K4.out.mono ?_
           rintro e w4 ⟨rfl,hb4⟩
           have HW4:=hide (HWI.out.trans (hb4.mono HWI.out.size))
           have HO4:=hide (HOI.out.below hb4)
           have HI4:=hide (HII.out.below hb4)
           by_cases hs4:sg=0
           ·have hs4' : (sg != 0)=false:=by simpa using hs4
            have HE4:Hid (elimZ n c z ra=ra):=(show _ = _ by unfold elimZ;rw [if_pos (by rw [HQY.out];exact Int.sign_eq_zero_iff_zero.1 (by rw [HSG4.out];exact hs4))])
            clear hb4 K4 xi xfi xt hgl hbla hblb pa0 pa1 pb0 pb1
            go_wp2
            go_roundw
            case rel=>exact ⟨i+1,vs',by go_num,by omega,HW4.out,by rw [akw (.inr fun a ha=>by rw [HRAE.out] at ha;obtain rfl:=Option.some.inj ha;exact HE4.out)];exact HO4.out,HI4.out⟩
            case measure=>simp [intOf];omega
           ·have hs4' : (sg != 0)=true:=by simpa using hs4
            have HQN:Hid (qy≠0):=(show qy≠0 from fun e=>hs4 (by rw [←HSG4.out,e];rfl))
            replace xi:=(hb4.cell (p:=⟨g,i,none⟩) hgl).trans xi
            replace xt:=(hb4.cell (p:=⟨g,t,none⟩) hgl).trans xt
            replace pa0:=(hb4.cell (p:=⟨ba,oa+c*2,none⟩) hbla).trans pa0
            replace pa1:=(hb4.cell (p:=⟨ba,oa+c*2+1,none⟩) hbla).trans pa1
            replace pb0:=(hb4.cell (p:=⟨bb,ob+c*2,none⟩) hblb).trans pb0
            replace pb1:=(hb4.cell (p:=⟨bb,ob+c*2+1,none⟩) hblb).trans pb1
            have HPV:=hide (HP0.out.rl (Rl.of_below hb4))
            have HQV:=hide (HQ0.out.rl (Rl.of_below hb4))
            have HRA:=hide (HAU.out.below hb4)
            have HRB:=hide (HBU.out.below hb4)
            replace hgl:=Nat.lt_of_lt_of_le hgl hb4.size
            replace hbla:=Nat.lt_of_lt_of_le hbla hb4.size
            replace hblb:=Nat.lt_of_lt_of_le hblb hb4.size
            clear hb4 K4 xfi
            go_upto_region 22 with fail
            refine ad9 25 [94,95,96,97,98,99,100,101,102,103,104,105,106,107,108,109,110,111,112,113,114,115,116,117,118] [Eqs (.slice (some ⟨g,0,none⟩) k cm),Eqs (.int .i64 (i:Int)),Eqs (.slice (some ⟨g,0,none⟩) k cm),Eqs (.int .i64 (t:Int)),Eqs (.pointer (some ⟨g,t,none⟩)),Eqs (.slice (some ⟨bb,ob,none⟩) n cb),Eqs (.int .i64 (c:Int)),Eqs (.pointer (some ⟨bb,ob+c*2,none⟩)),(OutN (py) (3*(S+1))),Eqs (.slice (some ⟨g,0,none⟩) k cm),Eqs (.int .i64 (i:Int)),Eqs (.pointer (some ⟨g,i,none⟩)),Eqs (.slice (some ⟨ba,oa,none⟩) n ca),Eqs (.slice (some ⟨g,0,none⟩) k cm),Eqs (.int .i64 (i:Int)),Eqs (.pointer (some ⟨g,i,none⟩)),Eqs (.slice (some ⟨ba,oa,none⟩) n ca),Eqs (.int .i64 (c:Int)),Eqs (.pointer (some ⟨ba,oa+c*2,none⟩)),(OutN (qy) (3*(S+1))),Eqs (.slice (some ⟨g,0,none⟩) k cm),Eqs (.int .i64 (t:Int)),Eqs (.pointer (some ⟨g,t,none⟩)),Eqs (.slice (some ⟨bb,ob,none⟩) n cb),(NRowS (red (joinZ py ra qy z)) (3*(2*(S+1)+1)))] rfl rfl (by decide) (by kernel_rfl) (by kernel_rfl) (by decide) (by kernel_rfl) ⟨Eqs.mono _,Eqs.mono _,Eqs.mono _,Eqs.mono _,Eqs.mono _,Eqs.mono _,Eqs.mono _,Eqs.mono _,(Mono.of4 (OutN.mono4 _ _)),Eqs.mono _,Eqs.mono _,Eqs.mono _,Eqs.mono _,Eqs.mono _,Eqs.mono _,Eqs.mono _,Eqs.mono _,Eqs.mono _,Eqs.mono _,(Mono.of4 (OutN.mono4 _ _)),Eqs.mono _,Eqs.mono _,Eqs.mono _,Eqs.mono _,(NRowS.mono _ _),trivial⟩ ?_ ?_
            ·exact ⟨⟨rfl,fun a_ w_ _ hB hR hD=>aam ((hR 6 rfl).trans (aac rfl))⟩,
               ⟨rfl,fun a_ w_ _ hB hR hD=>aam ((hR 13 rfl).trans (aac rfl))⟩,
               ⟨rfl,fun a_ w_ _ hB hR hD=>aam ((hR 6 rfl).trans (aac rfl))⟩,
               ⟨rfl,fun a_ w_ _ hB hR hD=>aam ((hR 10 rfl).trans (aac rfl))⟩,
               ⟨rfl,fun a_ w_ _ hB hR hD=>afc (show a_.eval (.tmp 96)=.slice (some ⟨g,0,none⟩) k cm from hD 2 rfl) (show a_.eval (.tmp 97)=.int .i64 (t:Int) from hD 3 rfl) (by omega)⟩,
               ⟨rfl,fun a_ w_ _ hB hR hD=>ahx (show a_.eval (.tmp 98)=.pointer (some ⟨g,t,none⟩) from hD 4 rfl) ((hB.cell (p:=⟨g,t,none⟩) hgl).trans xt)⟩,
               ⟨rfl,fun a_ w_ _ hB hR hD=>aam ((hR 9 rfl).trans (aac rfl))⟩,
               ⟨rfl,fun a_ w_ _ hB hR hD=>ad6 (show a_.eval (.tmp 99)=.slice (some ⟨bb,ob,none⟩) n cb from hD 5 rfl) rfl (show a_.eval (.tmp 100)=.int .i64 (c:Int) from hD 6 rfl) hltc⟩,
               ⟨rfl,fun a_ w_ _ hB hR hD=>ac3 (show a_.eval (.tmp 101)=.pointer (some ⟨bb,ob+c*2,none⟩) from hD 7 rfl) ((hB.cell (p:=⟨bb,ob+c*2,none⟩) hblb).trans pb0) ((hB.cell (p:=⟨bb,ob+c*2+1,none⟩) hblb).trans pb1) (Mono.of4 (OutN.mono4 _ _) _ _ _ hB HPV.out)⟩,
               ⟨rfl,fun a_ w_ _ hB hR hD=>aam ((hR 6 rfl).trans (aac rfl))⟩,
               ⟨rfl,fun a_ w_ _ hB hR hD=>aam ((hR 13 rfl).trans (aac rfl))⟩,
               ⟨rfl,fun a_ w_ _ hB hR hD=>afc (show a_.eval (.tmp 103)=.slice (some ⟨g,0,none⟩) k cm from hD 9 rfl) (show a_.eval (.tmp 104)=.int .i64 (i:Int) from hD 10 rfl) (by omega)⟩,
               ⟨rfl,fun a_ w_ _ hB hR hD=>ahx (show a_.eval (.tmp 105)=.pointer (some ⟨g,i,none⟩) from hD 11 rfl) ((hB.cell (p:=⟨g,i,none⟩) hgl).trans xi)⟩,
               ⟨rfl,fun a_ w_ _ hB hR hD=>aam ((hR 6 rfl).trans (aac rfl))⟩,
               ⟨rfl,fun a_ w_ _ hB hR hD=>aam ((hR 13 rfl).trans (aac rfl))⟩,
               ⟨rfl,fun a_ w_ _ hB hR hD=>afc (show a_.eval (.tmp 107)=.slice (some ⟨g,0,none⟩) k cm from hD 13 rfl) (show a_.eval (.tmp 108)=.int .i64 (i:Int) from hD 14 rfl) (by omega)⟩,
               ⟨rfl,fun a_ w_ _ hB hR hD=>ahx (show a_.eval (.tmp 109)=.pointer (some ⟨g,i,none⟩) from hD 15 rfl) ((hB.cell (p:=⟨g,i,none⟩) hgl).trans xi)⟩,
               ⟨rfl,fun a_ w_ _ hB hR hD=>aam ((hR 9 rfl).trans (aac rfl))⟩,
               ⟨rfl,fun a_ w_ _ hB hR hD=>ad6 (show a_.eval (.tmp 110)=.slice (some ⟨ba,oa,none⟩) n ca from hD 16 rfl) rfl (show a_.eval (.tmp 111)=.int .i64 (c:Int) from hD 17 rfl) hltc⟩,
               ⟨rfl,fun a_ w_ _ hB hR hD=>ac3 (show a_.eval (.tmp 112)=.pointer (some ⟨ba,oa+c*2,none⟩) from hD 18 rfl) ((hB.cell (p:=⟨ba,oa+c*2,none⟩) hbla).trans pa0) ((hB.cell (p:=⟨ba,oa+c*2+1,none⟩) hbla).trans pa1) (Mono.of4 (OutN.mono4 _ _) _ _ _ hB HQV.out)⟩,
               ⟨rfl,fun a_ w_ _ hB hR hD=>aam ((hR 6 rfl).trans (aac rfl))⟩,
               ⟨rfl,fun a_ w_ _ hB hR hD=>aam ((hR 10 rfl).trans (aac rfl))⟩,
               ⟨rfl,fun a_ w_ _ hB hR hD=>afc (show a_.eval (.tmp 114)=.slice (some ⟨g,0,none⟩) k cm from hD 20 rfl) (show a_.eval (.tmp 115)=.int .i64 (t:Int) from hD 21 rfl) (by omega)⟩,
               ⟨rfl,fun a_ w_ _ hB hR hD=>ahx (show a_.eval (.tmp 116)=.pointer (some ⟨g,t,none⟩) from hD 22 rfl) ((hB.cell (p:=⟨g,t,none⟩) hgl).trans xt)⟩,
               ⟨rfl,fun a_ w_ _ hB hR hD=>aq5 (show (OutN (py) (3*(S+1))) (a_.eval (.tmp 102)) w_ from hD 8 rfl) (show a_.eval (.tmp 106)=.slice (some ⟨ba,oa,none⟩) n ca from hD 12 rfl) (HRA.out.below hB) (show (OutN (qy) (3*(S+1))) (a_.eval (.tmp 113)) w_ from hD 19 rfl) (show a_.eval (.tmp 117)=.slice (some ⟨bb,ob,none⟩) n cb from hD 23 rfl) (HRB.out.below hB) HJL.out (by have:=HJN.out;omega) (by omega) (by omega) HJE.out HJZ.out⟩,
               trivial⟩
            ·intro a' w' hn' hd' hB' hR' hP'
             have e94:a'.eval (.tmp 94)=.slice (some ⟨g,0,none⟩) k cm:=hP' 0 (by decide)
             have e95:a'.eval (.tmp 95)=.int .i64 (i:Int):=hP' 1 (by decide)
             have e96:a'.eval (.tmp 96)=.slice (some ⟨g,0,none⟩) k cm:=hP' 2 (by decide)
             have e97:a'.eval (.tmp 97)=.int .i64 (t:Int):=hP' 3 (by decide)
             have e98:a'.eval (.tmp 98)=.pointer (some ⟨g,t,none⟩):=hP' 4 (by decide)
             have e99:a'.eval (.tmp 99)=.slice (some ⟨bb,ob,none⟩) n cb:=hP' 5 (by decide)
             have e100:a'.eval (.tmp 100)=.int .i64 (c:Int):=hP' 6 (by decide)
             have e101:a'.eval (.tmp 101)=.pointer (some ⟨bb,ob+c*2,none⟩):=hP' 7 (by decide)
             obtain ⟨u102,e102⟩:∃ u,a'.eval (.tmp 102)=u:=⟨_,rfl⟩
             have e103:a'.eval (.tmp 103)=.slice (some ⟨g,0,none⟩) k cm:=hP' 9 (by decide)
             have e104:a'.eval (.tmp 104)=.int .i64 (i:Int):=hP' 10 (by decide)
             have e105:a'.eval (.tmp 105)=.pointer (some ⟨g,i,none⟩):=hP' 11 (by decide)
             have e106:a'.eval (.tmp 106)=.slice (some ⟨ba,oa,none⟩) n ca:=hP' 12 (by decide)
             have e107:a'.eval (.tmp 107)=.slice (some ⟨g,0,none⟩) k cm:=hP' 13 (by decide)
             have e108:a'.eval (.tmp 108)=.int .i64 (i:Int):=hP' 14 (by decide)
             have e109:a'.eval (.tmp 109)=.pointer (some ⟨g,i,none⟩):=hP' 15 (by decide)
             have e110:a'.eval (.tmp 110)=.slice (some ⟨ba,oa,none⟩) n ca:=hP' 16 (by decide)
             have e111:a'.eval (.tmp 111)=.int .i64 (c:Int):=hP' 17 (by decide)
             have e112:a'.eval (.tmp 112)=.pointer (some ⟨ba,oa+c*2,none⟩):=hP' 18 (by decide)
             obtain ⟨u113,e113⟩:∃ u,a'.eval (.tmp 113)=u:=⟨_,rfl⟩
             have e114:a'.eval (.tmp 114)=.slice (some ⟨g,0,none⟩) k cm:=hP' 20 (by decide)
             have e115:a'.eval (.tmp 115)=.int .i64 (t:Int):=hP' 21 (by decide)
             have e116:a'.eval (.tmp 116)=.pointer (some ⟨g,t,none⟩):=hP' 22 (by decide)
             have e117:a'.eval (.tmp 117)=.slice (some ⟨bb,ob,none⟩) n cb:=hP' 23 (by decide)
             obtain ⟨u118,e118⟩:∃ u,a'.eval (.tmp 118)=u:=⟨_,rfl⟩
             have hT:(NRowS (red (joinZ py ra qy z)) (3*(2*(S+1)+1))) (a'.eval (.tmp 118)) w' := hP' 24 (by decide)
             rw [e118] at hT
             refine abv hn' hd' hR' (.s16 rfl <| .s16 rfl <| .s16 rfl <| .s16 rfl <| .s16 rfl <| .s4 rfl <| .s4 rfl <| .s4 rfl <| .same rfl <| .same rfl <| .new e94 <| .new e95 <| .new e96 <| .new e97 <| .new e98 <| .new e99 <| .new e100 <| .new e101 <| .new e102 <| .new e103 <| .new e104 <| .new e105 <| .new e106 <| .new e107 <| .new e108 <| .new e109 <| .new e110 <| .new e111 <| .new e112 <| .new e113 <| .new e114 <| .new e115 <| .new e116 <| .new e117 <| .new e118 <| .s4 rfl <| .s4 rfl <| .same rfl <| .same rfl <| .nil) ?_
             clear e94 e95 e96 e97 e98 e99 e100 e101 e102 e103 e104 e105 e106 e107 e108 e109 e110 e111 e112 e113 e114 e115 e116 e117 e118
             have hT2:NRow w' u118 (elimZ n c z ra) (3*(S+1)):=by
              have h:NRow w' u118 (red (joinZ py ra qy z)) _:=hT
              rw [HJG.out HQN.out] at h
              exact h.fit HIN.out
             obtain ⟨a9,c9,rfl,-⟩:=id hT2.parts
             have hR5:=HO4.out.below hB'
             obtain ⟨_,_,x5,xf5,hgl5,-⟩:=hR5.cell HEA.out
             obtain ⟨hP5,hPb5,-,-⟩:=hR5.put hlti hT2
             have HP5:=hide hP5
             have HB5:=hide ((HW4.out.trans (hB'.mono HW4.out.size)).trans (hPb5 _ hbg))
             have HI5:=hide ((HI4.out.below hB').put (u:=.slice a9 (elimZ n c z ra).length c9) (q:=i) hR5 (by omega))
             clear hT hT2 hR5 hP5 hPb5 hB' hR' hP' hn' hd' xi xt pa0 pa1 pb0 pb1 hgl hbla hblb
             go_wp2
             go_roundw
             case rel=>exact ⟨i+1,_,by go_num,by omega,HB5.out,by rw [←avd HRAE.out hit];exact HP5.out,HI5.out⟩
             case measure=>simp [intOf];omega
         ·have hlti' : decide ((i:Int)<(k:Int))=false:=by simp;omega
          obtain rfl:i=k:=by omega
          have hA:=hAl wr (.cells #[.int .i64 (c:Int)] 3)
          have hO:=heap_alloc_new wr (.cells #[.int .i64 (c:Int)] 3)
          have hI1:=hivi.below hA
          have hO1:=howni.below hA
          have hsz:w.heap.size≤(wr.alloc (.cells #[.int .i64 (c:Int)] 3)).heap.size:=Nat.le_trans hbi.size hA.size
          have hlen:(Q.reverse.map (fun q:Nat=>(q:Int))).length≤1000000:=by rw [List.length_map,List.length_reverse,HT.out];omega
          have HB9:=hide (hbi.trans (hA.mono hbi.size))
          have HO1:=hide hO1
          clear hbi howni hivi hA hO1
          go_wp2_with (at_builtin;refine abd rfl (avf (i:=120) (j:=122) rfl rfl hI1 hO hlen hsz) ?_)
          intro v9 w9 hI9 hb9 ha9
          obtain ⟨ap9,cp9,hv9,-⟩:=Ce.own hI9.own
          subst hv9
          have HI9:=hide hI9
          have HBX:=hide (HB9.out.trans hb9)
          have HO9:=hide (HO1.out.ap ha9)
          clear hI9 hb9 ha9 hI1 hO hlen hsz
          go_wp2
          go_roundw
          case rel=>exact ⟨c+1,_,x :: R,c :: Q,Y,vs',by go_num,by omega,HBX.out,HF.out,by have h:=HO9.out;rw [←HA.out,ave (by have:=HML1.out;omega)] at h;exact h,by have h:=HI9.out;rw [List.reverse_cons,List.map_append,List.map_reverse];exact h⟩
          case measure=>simp [intOf];omega
      ·have hltj' : decide ((j:Int)<(k:Int))=false:=by simp;omega
       obtain rfl:j=k:=by omega
       have heq:((j:Int) == (j:Int))=true:=by simp
       have HWJ:=hide (HW.out.trans (hbj.mono HW.out.size))
       have HOJ:=hide (HOWN.out.below hbj)
       have HIJ:=hide (HIV.out.below hbj)
       have HNX:=hide (HRD.out.skip hltc (fun i z h1 h2=>hzero i z (by have:=HT.out;omega) (by have:=(List.getElem?_eq_some_iff.1 h2).1;have:=HML.out;omega) h2))
       clear hbj hzero HZR HJ
       go_wp2
       go_roundw
       case rel=>exact ⟨c+1,m,R,Q,X,vs,by go_num,by omega,HWJ.out,HNX.out,HOJ.out,HIJ.out⟩
       case measure=>simp [intOf];omega
    ·have hltc' : decide ((c:Int)<(n:Int))=false:=by simp;omega
     obtain rfl:c=n:=by omega
     have hkc:k≤cm:=by
      obtain ⟨_,_,e1,e2,_⟩:=Ce.own hown.own
      obtain ⟨_,e3,e4⟩:=(Value.slice.injEq .. ▸ e1)
      omega
     have hcap:(t:Int)≤(cm:Int):=by omega
     have hans:NM wr (.slice am t cm) (m.take Q.length) (3*(S+1)):=by
      have h:=hown.nm.cut (t:=Q.length) (by omega)
      rwa [ht] at h ⊢
     have HANS:=hide hans
     clear hbw hrd hown hiv hml hql ht hans
     go_wp2
     refine bodyPost_ret (v:=_) (by simp [results,Tryz.results25,go_sem];try rfl) rfl ⟨_,_,m,R,Q,X,rfl,HRD.out,HANS.out,HIV.out,HW.out⟩
end Lm
end Go.Proofs.YtpccfkdcpjplgaaGreat
namespace Go.Proofs.YtpccfkdcpjplgaaGreat
namespace Lm
open Go Go.RowKit
set_option maxRecDepth 20000 in
set_option maxHeartbeats 8000000 in
set_option maxRecDepth 100000 in
theorem ai8 (w:World) (v:Value) (rows:List (List Int)) (L:Nat) (h:IsM w v rows L) (hl:rows.length≤100000) (hr:∀ r ∈ rows,r.length≤100000) (hL:L≤100000) :
  Calls Tryz.prog 26 #[v] w fun e w'=>∃ r vs,e=.returned r∧RmO w.heap.size w' r vs rows (3*L)∧Below w.heap.size w w' := by
 obtain ⟨ao,cap,rfl,_⟩:=h.parts
 have H:=hide h
 have HR:=hide hr
 clear h hr
 obtain ⟨n,hn⟩:∃ n,rows.length=n:=⟨_,rfl⟩
 rw [hn] at H hl ⊢
 have HN:=hide hn
 clear hn
 go_enter Tryz.func26,Tryz.ntmps26
 go_wp2_with fail
 go_loopw [3,4] (fun ov iv wr=>∃ (k:Nat) (vs:List Value),iv=.int .i64 k∧k≤n∧Below w.heap.size w wr∧RmO w.heap.size wr ov vs (rows.take k) (3*L)) (fun _ iv _=>n - (intOf iv).toNat)
 case atStart=>exact ⟨0,[],rfl,Nat.zero_le _,Below.refl _ _,amc _ _ _⟩
 case round =>
  obtain ⟨k,vs,rfl,hk,hbw,hown⟩:=hrel
  have HW:=hide hbw
  have HOWN:=hide hown
  obtain ⟨aov,capv,hov,-⟩:=Ce.own hown.own
  subst hov
  by_cases hlt:k<n
  ·obtain ⟨z,hz⟩:∃ z,rows[k]? = some z:=⟨_,List.getElem?_eq_getElem (by have:=HN.out;omega)⟩
   obtain ⟨b,off,u,rfl,hbl,x0,hu⟩:=(H.out.below hbw).cell hz
   have K1:=hide (asi wr u z L hu (by have:=HR.out z (List.mem_of_getElem? hz);omega) hL)
   obtain ⟨ua,uc,rfl,-⟩:=id hu.parts
   have HZ:=hide hz
   have hlt' : (k:Int)<(n:Int):=by omega
   clear hbw hown hz hu
   go_wp2_with fail
   refine K1.out.mono ?_
   rintro e w2 ⟨r2,rfl,hR2,hb2⟩
   obtain ⟨a2,c2,rfl,-⟩:=id hR2.parts
   have hA:=hAl w2 (.cells #[.slice a2 z.length c2] 76)
   have hO:=heap_alloc_new w2 (.cells #[.slice a2 z.length c2] 76)
   have hb2' := hb2.trans (hA.mono hb2.size)
   have hRm:=HOWN.out.below hb2'
   have hS:=hR2.below hA
   have hsz:w.heap.size≤(w2.alloc (.cells #[.slice a2 z.length c2] 76)).heap.size:=Nat.le_trans HW.out.size hb2'.size
   have hfl:vs.length≤1000000:=by rw [HOWN.out.len,List.length_take];omega
   go_wp2_with (at_builtin;refine abd rfl (amd (i:=11) (j:=17) rfl rfl hRm hO hS hfl hsz) ?_)
   intro v3 w3 hR3 hb3
   obtain ⟨aov3,capv3,hov3,-⟩:=Ce.own hR3.own
   subst hov3
   have HR3:=hide hR3
   have HB3:=hide ((HW.out.trans (hb2'.mono HW.out.size)).trans hb3)
   clear hR3 hb3 hR2 hO hRm hS hsz hA hb2 hb2' hfl
   go_wp2
   go_roundw
   case rel =>
    refine ⟨k+1,vs ++ [.slice a2 z.length c2],by go_num,by omega,HB3.out,?_⟩
    rw [List.take_add_one,HZ.out]
    exact HR3.out
   case measure=>simp [intOf];omega
  ·have hlt' : decide ((k:Int)<(n:Int))=false:=by simp;omega
   have hkn:k=n:=by omega
   subst hkn
   clear hbw hown
   go_wp2
   refine bodyPost_ret (v:=_) (ab5 rfl rfl) rfl ⟨_,vs,rfl,(by have h:=HOWN.out;rw [List.take_of_length_le (by have:=HN.out;omega)] at h;exact h),HW.out⟩
end Lm
end Go.Proofs.YtpccfkdcpjplgaaGreat
namespace Go.Proofs.YtpccfkdcpjplgaaGreat
namespace Lm
open Go Go.RowKit Md
set_option maxRecDepth 20000 in
set_option maxHeartbeats 4000000 in
theorem ad1 (w:World) (v:Value) (rows:List (List Int)) (L:Nat) (h:IsM w v rows L) (cols:Int) :
  Calls Tryz.prog 24 #[v,.int .i64 cols] w fun e w'=>e=.returned (.bool (!decide (Shaped rows cols)))∧w' = w:=by
 obtain ⟨ao,cp,rfl,hn⟩:=h.parts
 have H:=hide h
 obtain ⟨n,hnn⟩:∃ n,rows.length=n:=⟨_,rfl⟩
 rw [hnn] at H hn ⊢
 have HN:=hide hnn
 clear h hnn
 by_cases h1:cols<0
 ·have HE:Hid (decide (Shaped rows cols)=false):=decide_eq_false (fun h=>by have:=h.1;omega)
  go_enter Tryz.func24,Tryz.ntmps24
  go_wp2
  refine bodyPost_ret (v:=_) (by simp [results,Tryz.results24,go_sem];try rfl) rfl ⟨by rw [HE.out];rfl,rfl⟩
 ·by_cases h2:cols > 32
  ·have h1' : decide (cols<0)=false:=decide_eq_false h1
   have HE:Hid (decide (Shaped rows cols)=false):=decide_eq_false (fun h=>by have:=h.2.1;omega)
   clear h1
   go_enter Tryz.func24,Tryz.ntmps24
   go_wp2
   refine bodyPost_ret (v:=_) (by simp [results,Tryz.results24,go_sem];try rfl) rfl ⟨by rw [HE.out];rfl,rfl⟩
  ·by_cases h3:(n:Int) > 64
   ·have h1' : decide (cols<0)=false:=decide_eq_false h1
    have h2' : decide (cols > 32)=false:=decide_eq_false h2
    have HE:Hid (decide (Shaped rows cols)=false):=decide_eq_false (fun h=>by have:=h.2.2.1;have:=HN.out;omega)
    clear h1 h2
    go_enter Tryz.func24,Tryz.ntmps24
    go_wp2
    refine bodyPost_ret (v:=_) (by simp [results,Tryz.results24,go_sem];try rfl) rfl ⟨by rw [HE.out];rfl,rfl⟩
   ·have h1' : decide (cols<0)=false:=decide_eq_false h1
    have h2' : decide (cols > 32)=false:=decide_eq_false h2
    have h3' : decide ((n:Int) > 64)=false:=decide_eq_false h3
    have HK:=hide (And.intro h1 (And.intro h2 h3))
    clear h1 h2 h3
    go_enter Tryz.func24,Tryz.ntmps24
    go_wp2_with fail
    go_loopw [5] (fun iv wr=>∃ k:Nat,iv=.int .i64 k∧k≤n∧(∀ r ∈ rows.take k,(r.length:Int)=cols)∧wr=w) (fun iv _=>n - (intOf iv).toNat)
    case atStart=>exact ⟨0,rfl,Nat.zero_le _,fun r hr=>(by simp at hr),rfl⟩
    case round =>
     obtain ⟨k,rfl,hk,hall,rfl⟩:=hrel
     have HA:=hide hall
     clear hall h1' h2' h3'
     by_cases hlt:k<n
     ·have hlt' : (k:Int)<(n:Int):=by omega
      obtain ⟨r,hr⟩:∃ r,rows[k]? = some r:=⟨_,List.getElem?_eq_getElem (by have:=HN.out;omega)⟩
      obtain ⟨b,off,u,rfl,hbl,x0,hx⟩:=H.out.cell hr
      obtain ⟨ua,uc,rfl,_⟩:=hx.parts
      have HR:=hide hr
      clear hr hx
      by_cases he:(r.length:Int)=cols
      ·have hne:((r.length:Int) != cols)=false:=by simp [bne,he]
       have HEQ:=hide he
       clear he
       go_wp2
       go_roundw
       case rel =>
        refine ⟨k+1,by go_num,by omega,fun r' hr'=>?_,trivial⟩
        rcases (abf HR.out).1 hr' with h | rfl
        ·exact HA.out r' h
        ·exact HEQ.out
       case measure=>simp [intOf];omega
      ·have hne:((r.length:Int) != cols)=true:=by simp [bne,he]
       have HE:Hid (decide (Shaped rows cols)=false):=decide_eq_false (fun h=>he (h.2.2.2 r (List.mem_of_getElem? HR.out)))
       clear he
       go_wp2
       refine bodyPost_ret (v:=_) (by simp [results,Tryz.results24,go_sem];try rfl) rfl ⟨by rw [HE.out];rfl,rfl⟩
     ·have hlt' : decide ((k:Int)<(n:Int))=false:=by simp;omega
      have HE:Hid (decide (Shaped rows cols)=true):=decide_eq_true (by
       have h1:=HK.out
       have h2:=HA.out
       rw [List.take_of_length_le (by have:=HN.out;omega)] at h2
       exact ⟨by omega,by omega,by have:=HN.out;omega,h2⟩)
      go_wp2
      refine bodyPost_ret (v:=_) (by simp [results,Tryz.results24,go_sem];try rfl) rfl ⟨by rw [HE.out];rfl,rfl⟩
def CanE (es:List WE) (zs:List Int) (L:Nat):Prop:=es.length=zs.length∧∀ (k:Nat) (e:WE) (z:Int),es[k]? = some e→zs[k]? = some z→Canon e.zs∧val e.zs=(z.natAbs:Int)∧e.ng=decide (z<0)∧e.zs.length≤L
def CanEM (ess:List (List WE)) (rows:List (List Int)) (L:Nat):Prop:=ess.length=rows.length∧∀ (i:Nat) (es:List WE) (z:List Int),ess[i]? = some es→rows[i]? = some z→CanE es z L
theorem OtE.canM {K:Nat} {w:World} {v:Value} {ess:List (List WE)} {rows:List (List Int)} {L:Nat} (h:OtE K w v ess) (hc:CanEM ess rows L):CanM w v rows L:=by
 obtain ⟨vs,h1,h2⟩:=h
 refine ⟨vs,by rw [←hc.1];exact Ce.own h1,fun i u z a b=>?_⟩
 obtain ⟨es,he⟩:∃ es,ess[i]? = some es:=⟨_,List.getElem?_eq_getElem (by have:=(List.getElem?_eq_some_iff.1 b).1;have:=hc.1;omega)⟩
 obtain ⟨c1,c2⟩:=hc.2 i es z he b
 exact ⟨es,(h2 i u es a he).rw,c1,c2⟩
set_option maxRecDepth 20000 in
set_option maxHeartbeats 4000000 in
theorem aod (w:World) (v:Value) (zs:List Int) (L:Nat) (h:NRow w v zs L) (hl:zs.length≤100000) (hL:L≤1000000) :
  Calls Tryz.prog 87 #[v] w fun e w'=>∃ r es,e=.returned r∧RwO w.heap.size w' r es∧CanE es zs L∧Below w.heap.size w w' := by
 obtain ⟨ao,cap,rfl,_⟩:=h.parts
 have H:=hide h
 clear h
 obtain ⟨n,hn⟩:∃ n,zs.length=n:=⟨_,rfl⟩
 rw [hn] at H hl ⊢
 have HN:=hide hn
 clear hn
 go_enter Tryz.func87,Tryz.ntmps87
 go_wp2_with fail
 go_loopw [3,4] (fun ov iv wr=>∃ (k:Nat) (es:List WE),iv=.int .i64 k∧k≤n∧Below w.heap.size w wr∧es.length=k∧RwO w.heap.size wr ov es∧∀ (j:Nat) (e:WE) (z:Int),es[j]? = some e→zs[j]? = some z→Canon e.zs∧val e.zs=(z.natAbs:Int)∧e.ng=decide (z<0)∧e.zs.length≤L) (fun _ iv _=>n - (intOf iv).toNat)
 case atStart=>exact ⟨0,[],rfl,Nat.zero_le _,Below.refl _ _,rfl,aia _ _,fun j e z he=>(by simp at he)⟩
 case round =>
  obtain ⟨k,es,rfl,hk,hbw,hes,hown,hall⟩:=hrel
  have HW:=hide hbw
  have HES:=hide hes
  have HOWN:=hide hown
  have HALL:=hide hall
  obtain ⟨aov,capv,hov,_⟩:=Cl.own hown.own
  subst hov
  by_cases hlt:k<n
  ·obtain ⟨z,hz⟩:∃ z,zs[k]? = some z:=⟨_,List.getElem?_eq_getElem (by have:=HN.out;omega)⟩
   obtain ⟨b,off,ng,a,m,c,rfl,hbl,x0,x1,hxw⟩:=(H.out.below hbw).cell hz
   have HG:=hide hz
   have K1:=hide (ntoldF wr z _ L hxw hL)
   have hlt' : (k:Int)<(n:Int):=by omega
   clear hbw hown hz hxw hes hall
   go_wp2_with fail
   refine K1.out.mono ?_
   rintro e w2 ⟨r2,rfl,hf2,hb2⟩
   obtain ⟨ng2,ao2,cap2,rs2,B2,T2,rfl,hwf,hB2,hT2,hl2⟩:=hf2
   have hA:=hAl w2 (.cells #[.bool ng2,.slice ao2 rs2.length cap2] 60)
   have hb2' := hb2.trans (hA.mono hb2.size)
   have hR2:=HOWN.out.below hb2'
   have hO2:One _ w2.heap.size ng2 ao2 rs2.length cap2:=heap_alloc_new w2 (.cells #[.bool ng2,.slice ao2 rs2.length cap2] 60)
   have hS2:Ow w.heap.size _ (.slice ao2 rs2.length cap2) rs2:=(hwf.fr.ow.mono (Nat.le_trans HW.out.size hB2)).below hA
   have hsz:w.heap.size≤(w2.alloc (.cells #[.bool ng2,.slice ao2 rs2.length cap2] 60)).heap.size:=Nat.le_trans HW.out.size hb2'.size
   go_wp2_with (at_builtin;refine abd rfl (alz (i:=11) (j:=17) rfl rfl hR2 hO2 hS2 (by rw [HES.out];omega) hsz) ?_)
   intro v3 w3 hR3 hb3
   obtain ⟨aov3,capv3,hov3,_⟩:=Cl.own hR3.own
   subst hov3
   have HR3:=hide hR3
   have HB3:=hide ((HW.out.trans (hb2'.mono HW.out.size)).trans hb3)
   have HWF:=hide hwf
   clear hR3 hb3 hR2 hO2 hS2 hsz hA hb2 hb2' hwf hB2 hT2
   go_wp2
   go_roundw
   case rel =>
    refine ⟨k+1,es ++ [⟨ng2,ao2,rs2.length,cap2,rs2⟩],by go_num,by omega,HB3.out,by simp [HES.out],HR3.out,fun j e y he hy=>?_⟩
    by_cases hj:j<es.length
    ·rw [List.getElem?_append_left hj] at he
     exact HALL.out j e y he hy
    ·have hjl:=(List.getElem?_eq_some_iff.1 he).1
     simp at hjl
     obtain rfl:j=es.length:=by omega
     rw [List.getElem?_append_right (Nat.le_refl _)] at he
     simp at he
     subst he
     rw [HES.out,HG.out] at hy
     obtain rfl:=Option.some.inj hy
     exact ⟨HWF.out.fr.canon,HWF.out.fr.val,HWF.out.sgn,hl2⟩
   case measure=>simp [intOf];omega
  ·have hlt' : decide ((k:Int)<(n:Int))=false:=by simp;omega
   have hkn:k=n:=by omega
   subst hkn
   clear hbw hes hown hall
   go_wp2
   refine bodyPost_ret (v:=_) (ab5 rfl rfl) rfl ⟨_,es,rfl,HOWN.out,⟨by rw [HES.out,HN.out],HALL.out⟩,HW.out⟩
set_option maxRecDepth 20000 in
set_option maxHeartbeats 4000000 in
theorem nlongM (w:World) (v:Value) (rows:List (List Int)) (L:Nat) (h:NM w v rows L) (hL:L≤1000000) :
  Calls Tryz.prog 48 #[v] w fun e w'=>e=.returned (.bool (decide (∃ r ∈ rows,r.any big=true)))∧Below w.heap.size w w' := by
 obtain ⟨ao,cap,rfl,hi⟩:=h.parts
 obtain ⟨n,hnn⟩:∃ n,rows.length=n:=⟨_,rfl⟩
 rw [hnn] at h hi ⊢
 have H:=hide h
 have HN:=hide hnn
 clear h hnn
 go_enter Tryz.func48,Tryz.ntmps48
 go_wp2_with fail
 go_loopw [3] (fun iv wr=>∃ (k:Nat),iv=.int .i64 k∧k≤n∧(∀ r ∈ rows.take k,r.any big=false)∧Below w.heap.size w wr) (fun iv _=>n - (intOf iv).toNat)
 case atStart=>exact ⟨0,rfl,Nat.zero_le _,fun z hz=>by simp at hz,Below.refl _ _⟩
 case round =>
  obtain ⟨k,rfl,hk,hall,hbw⟩:=hrel
  have HW:=hide hbw
  have HA:=hide hall
  by_cases hlt:k<n
  ·have hlt' : (k:Int)<(n:Int):=by omega
   obtain ⟨z,hz⟩:∃ z,rows[k]? = some z:=⟨_,List.getElem?_eq_getElem (by have:=HN.out;omega)⟩
   obtain ⟨b,off,u,rfl,hbl,x0,hu⟩:=(H.out.below hbw).cell hz
   have HZ:=hide hz
   have K:=nlongrow wr u z L hu hL
   obtain ⟨ua,uc,rfl,-⟩:=id hu.parts
   clear hbw hall hz hu
   have hbe:decide (∃ x ∈ z,¬ (x.natAbs:Int)<pw 32)=z.any big:=by
    rw [Bool.eq_iff_iff,decide_eq_true_iff,List.any_eq_true]
    constructor
    ·rintro ⟨x,hx,hn⟩
     exact ⟨x,hx,by unfold big;simpa using hn⟩
    ·rintro ⟨x,hx,hn⟩
     exact ⟨x,hx,by unfold big at hn;simpa using hn⟩
   rw [hbe] at K
   clear hbe
   cases hbig:z.any big with
   | false =>
    rw [hbig] at K
    have K:=hide K
    have HBG:=hide hbig
    clear hbig
    go_wp2_with fail
    refine K.out.mono ?_
    rintro e w2 ⟨rfl,hb2⟩
    have HB2:=hide (HW.out.trans (hb2.mono HW.out.size))
    clear hb2 K
    go_wp2
    go_roundw
    case rel =>
     refine ⟨k+1,by go_num,by omega,fun y hy=>?_,HB2.out⟩
     rcases (abf HZ.out).1 hy with h | rfl
     ·exact HA.out y h
     ·exact HBG.out
    case measure=>simp [intOf];omega
   | true =>
    rw [hbig] at K
    have K:=hide K
    have HE:Hid (decide (∃ r ∈ rows,r.any big=true)=true):=decide_eq_true ⟨z,List.mem_of_getElem? HZ.out,hbig⟩
    clear hbig
    go_wp2_with fail
    refine K.out.mono ?_
    rintro e w2 ⟨rfl,hb2⟩
    have HB2:=hide (HW.out.trans (hb2.mono HW.out.size))
    clear hb2 K
    go_wp2
    refine bodyPost_ret (v:=_) (by simp [results,Tryz.results48,go_sem];try rfl) rfl ⟨by rw [HE.out],HB2.out⟩
  ·have hlt' : decide ((k:Int)<(n:Int))=false:=by simp;omega
   have hkn:rows.take k=rows:=List.take_of_length_le (by have:=HN.out;omega)
   have HE:Hid (decide (∃ r ∈ rows,r.any big=true)=false):=decide_eq_false (by
    rintro ⟨r,hr,hb⟩
    have h1:=HA.out
    rw [hkn] at h1
    rw [h1 r hr] at hb
    cases hb)
   clear hbw hall
   go_wp2
   refine bodyPost_ret (v:=_) (by simp [results,Tryz.results48,go_sem];try rfl) rfl ⟨by rw [HE.out],HW.out⟩
theorem aoe {ess:List (List WE)} {rows:List (List Int)} {k:Nat} {es:List WE} {z:List Int} {L:Nat} (h:CanEM ess (rows.take k) L) (hz:rows[k]? = some z) (hc:CanE es z L):CanEM (ess ++ [es]) (rows.take (k+1)) L:=by
 have hk:=(List.getElem?_eq_some_iff.1 hz).1
 have hl:=h.1
 rw [List.length_take] at hl
 refine ⟨by rw [List.length_append,List.length_take,hl];simp;omega,fun i a b ha hb=>?_⟩
 rw [List.take_add_one,hz] at hb
 by_cases hi:i<k
 ·rw [List.getElem?_append_left (by omega)] at ha
  rw [List.getElem?_append_left (by rw [List.length_take];omega)] at hb
  exact h.2 i a b ha hb
 ·rw [List.getElem?_append_right (by omega)] at ha
  rw [List.getElem?_append_right (by rw [List.length_take];omega)] at hb
  rw [List.length_take] at hb
  rw [show i - ess.length=i - min k rows.length by rw [hl]] at ha
  match hm:i - min k rows.length with
  | 0 =>
   rw [hm] at ha hb
   simp at ha hb
   subst ha hb
   exact hc
  | m+1 =>
   rw [hm] at ha
   simp at ha
set_option maxRecDepth 20000 in
set_option maxHeartbeats 4000000 in
theorem ntoldM (w:World) (v:Value) (rows:List (List Int)) (L:Nat) (h:NM w v rows L) (hl:rows.length≤100000) (hr:∀ r ∈ rows,r.length≤100000) (hL:L≤1000000) :
  Calls Tryz.prog 49 #[v] w fun e w'=>∃ r ess,e=.returned r∧OtE w.heap.size w' r ess∧CanEM ess rows L∧Below w.heap.size w w' := by
 obtain ⟨ao,cap,rfl,_⟩:=h.parts
 have H:=hide h
 have HR:=hide hr
 clear h hr
 obtain ⟨n,hn⟩:∃ n,rows.length=n:=⟨_,rfl⟩
 rw [hn] at H hl ⊢
 have HN:=hide hn
 clear hn
 go_enter Tryz.func49,Tryz.ntmps49
 go_wp2_with fail
 go_loopw [3,4] (fun ov iv wr=>∃ (k:Nat) (ess:List (List WE)),iv=.int .i64 k∧k≤n∧Below w.heap.size w wr∧OtE w.heap.size wr ov ess∧CanEM ess (rows.take k) L) (fun _ iv _=>n - (intOf iv).toNat)
 case atStart=>exact ⟨0,[],rfl,Nat.zero_le _,Below.refl _ _,af8 _ _,rfl,fun i xs ys a=>(by simp at a)⟩
 case round =>
  obtain ⟨k,fss,rfl,hk,hbw,hown,hsm⟩:=hrel
  have HW:=hide hbw
  have HOWN:=hide hown
  have HSM:=hide hsm
  obtain ⟨aov,capv,hov⟩:=hown.shp
  subst hov
  have hfk:fss.length=k:=by rw [hsm.1,List.length_take];have:=HN.out;omega
  rw [hfk] at HOWN ⊢
  by_cases hlt:k<n
  ·obtain ⟨z,hz⟩:∃ z,rows[k]? = some z:=⟨_,List.getElem?_eq_getElem (by have:=HN.out;omega)⟩
   obtain ⟨b,off,u,rfl,hbl,x0,hu⟩:=(H.out.below hbw).cell hz
   have hre:=HR.out z (List.mem_of_getElem? hz)
   have K1:=hide (aod wr u z L hu hre hL)
   obtain ⟨ua,uc,rfl,-⟩:=id hu.parts
   have HZ:=hide hz
   have hlt' : (k:Int)<(n:Int):=by omega
   clear hbw hown hz hu hsm hre
   go_wp2_with fail
   refine K1.out.mono ?_
   rintro e w2 ⟨r2,fs,rfl,hR2,hS2,hb2⟩
   obtain ⟨a2,c2,rfl⟩:=hR2.rw.slc
   have hA:=hAl w2 (.cells #[.slice a2 fs.length c2] 44)
   have hO:=heap_alloc_new w2 (.cells #[.slice a2 fs.length c2] 44)
   have hb2' := hb2.trans (hA.mono hb2.size)
   have hRm:=HOWN.out.below hb2'
   have hS:=(hR2.below hA).low HW.out.size
   have hsz:w.heap.size≤(w2.alloc (.cells #[.slice a2 fs.length c2] 44)).heap.size:=Nat.le_trans HW.out.size hb2'.size
   have hfl:fss.length≤5864062014804:=by omega
   have HS2:=hide hS2
   go_wp2_with (at_builtin;refine abd rfl (amh (i:=11) (j:=17) rfl rfl hRm hO hS hfl hsz) ?_)
   intro v3 w3 hR3 hb3
   obtain ⟨aov3,capv3,hov3⟩:=hR3.shp
   subst hov3
   have HR3:=hide hR3
   have HB3:=hide ((HW.out.trans (hb2'.mono HW.out.size)).trans hb3)
   clear hR3 hb3 hR2 hO hRm hS hsz hA hb2 hb2' hfl hS2
   go_wp2
   go_roundw
   case rel=>exact ⟨k+1,_,by go_num,by omega,HB3.out,HR3.out,aoe HSM.out HZ.out HS2.out⟩
   case measure=>simp [intOf];omega
  ·have hlt' : decide ((k:Int)<(n:Int))=false:=by simp;omega
   have hkn:rows.take k=rows:=List.take_of_length_le (by have:=HN.out;omega)
   rw [hkn] at HSM hsm
   clear hbw hown hsm
   go_wp2
   refine bodyPost_ret (v:=_) (by simp [results,Tryz.results49,go_sem];try rfl) rfl ⟨_,fss,rfl,HOWN.out,HSM.out,HW.out⟩
def ToldS (K:Nat) (rows:List (List Int)) (L:Nat) (e:Ending) (w' : World):Prop:=((∃ r ∈ rows,r.any big=true)∧e=.returned (.tuple #[.slice none 0 0,.int .i64 2]))∨((∀ r ∈ rows,r.any big=false)∧∃ rv ess,e=.returned (.tuple #[rv,.int .i64 0])∧OtE K w' rv ess∧CanEM ess rows L)
set_option maxRecDepth 20000 in
set_option maxHeartbeats 4000000 in
theorem aq6 (w:World) (v:Value) (rows:List (List Int)) (L:Nat) (h:NM w v rows L) (hl:rows.length≤100000) (hr:∀ r ∈ rows,r.length≤100000) (hL:L≤1000000) :
  Calls Tryz.prog 27 #[v] w fun e w'=>ToldS w.heap.size rows L e w'∧Below w.heap.size w w' := by
 have K1:=nlongM w v rows L h hL
 have K2:Hid (∀ w1,Below w.heap.size w w1→_):=(fun w1 hb=>ntoldM w1 v rows L (h.below hb) hl hr hL)
 obtain ⟨ao,cap,rfl,_⟩:=h.parts
 clear h hr
 by_cases hb:∃ r ∈ rows,r.any big=true
 ·rw [decide_eq_true hb] at K1
  have K1:=hide K1
  have HX:=hide hb
  clear hb
  go_enter Tryz.func27,Tryz.ntmps27
  go_wp2_with fail
  refine K1.out.mono ?_
  rintro e w1 ⟨rfl,hb1⟩
  have HB1:=hide hb1
  clear hb1 K1
  go_wp2
  refine bodyPost_ret (v:=_) (by simp [results,Tryz.results27,go_sem];try rfl) rfl ⟨.inl ⟨HX.out,rfl⟩,HB1.out⟩
 ·rw [decide_eq_false hb] at K1
  have K1:=hide K1
  have HX:Hid (∀ r ∈ rows,r.any big=false):=(fun r hr=>by
   cases h:r.any big with
   | false=>rfl
   | true=>exact absurd ⟨r,hr,h⟩ hb)
  clear hb
  go_enter Tryz.func27,Tryz.ntmps27
  go_wp2_with fail
  refine K1.out.mono ?_
  rintro e w1 ⟨rfl,hb1⟩
  have K3:=hide (K2.out w1 hb1)
  have HB1:=hide hb1
  clear hb1 K1 K2
  go_wp2_with fail
  refine K3.out.mono ?_
  rintro e w2 ⟨r,ess,rfl,hO,hC,hb2⟩
  obtain ⟨ra,rc,rfl⟩:=hO.shp
  have HO:=hide (hO.low HB1.out.size)
  have HC:=hide hC
  have HB2:=hide (HB1.out.trans (hb2.mono HB1.out.size))
  clear hO hC hb2 K3
  go_wp2
  refine bodyPost_ret (v:=_) (by simp [results,Tryz.results27,go_sem];try rfl) rfl ⟨.inr ⟨HX.out,_,ess,rfl,HO.out,HC.out⟩,HB2.out⟩
structure Bnd (rows:List (List Int)) (S:Nat) (B:Md.Rw→Nat):Prop where
 big:∀ r ∈ rows,∀ k,((fnR r k).natAbs:Int)<pw (B (fnR r))
 sum:sumB B (rows.map fnR)≤S
 all:∀ r ∈ rows,∀ z ∈ r,(z.natAbs:Int)<pw (S+1)
theorem RdI.rows {n:Nat} {rows m:List (List Int)} {R X:List Md.Rw} {Q:List Nat} (h:RdI n rows n m R Q X):Q.length≤n∧∀ r ∈ m.take Q.length,r.length=n:=by
 refine ⟨af7 h.gat.desc h.gat.lt,fun r hr=>?_⟩
 have hm:=List.mem_of_mem_take hr
 rw [h.hm] at hm
 rcases List.mem_append.1 hm with hm | hm
 ·unfold elR at hm
  obtain ⟨p,_,rfl⟩:=List.mem_map.1 hm
  unfold red
  rw [List.length_map,abg]
 ·obtain ⟨x,_,rfl⟩:=List.mem_map.1 hm
  unfold red
  rw [List.length_map,abg]
set_option maxRecDepth 20000 in
set_option maxHeartbeats 8000000 in
theorem afu (w:World) (v:Value) (rows:List (List Int)) (n S:Nat) (B:Md.Rw→Nat) (h:IsM w v rows (S+1)) (hs:Shaped rows (n:Int)) (hS:S≤4000) (hB:Bnd rows S B) :
  Calls Tryz.prog 8 #[v,.int .i64 (n:Int)] w fun e w'=>(∃ m R Q X,RdI n rows n m R Q X∧ToldS w.heap.size (m.take Q.length) (3*(S+1)) e w')∧Below w.heap.size w w' := by
 have K0:=ad1 w v rows (S+1) h (n:Int)
 rw [decide_eq_true hs] at K0
 have K0:=hide K0
 have hn32:n≤32:=by have:=hs.2.1;omega
 have hrn:∀ r ∈ rows,r.length=n:=fun r hr=>by have:=hs.2.2.2 r hr;omega
 have hr64:=hs.2.2.1
 have K1:=hide (ai8 w v rows (S+1) h (by omega) (fun r hr=>by rw [hrn r hr];omega) (by omega))
 have HBN:=hide hB
 have HRN:=hide hrn
 obtain ⟨ao,cp,rfl,hn⟩:=h.parts
 clear h hs hB hrn
 go_enter Tryz.func8,Tryz.ntmps8
 go_wp2_with fail
 refine K0.out.mono ?_
 rintro e w1 ⟨rfl,rfl⟩
 clear K0
 go_wp2_with fail
 refine K1.out.mono ?_
 rintro e w2 ⟨r2,vs2,rfl,hM2,hb2⟩
 have K2:=hide (ahy w2 r2 rows n S B hM2.nm HRN.out hr64 (by omega) (by omega) HBN.out.big HBN.out.sum HBN.out.all)
 obtain ⟨a2,c2,hv2,-⟩:=Ce.own hM2.own
 subst hv2
 have HB2:=hide hb2
 clear hb2 hM2 K1
 go_wp2_with fail
 refine K2.out.mono ?_
 rintro e w3 ⟨mv,pv,m,R,Q,X,rfl,hRd,hNM,hIv,hb3⟩
 have hro:=hRd.rows
 have K3:=hide (aq6 w3 mv (m.take Q.length) (3*(S+1)) hNM (by rw [List.length_take];omega) (fun r hr=>by rw [hro.2 r hr];omega) (by omega))
 obtain ⟨a3,c3,hv3,-⟩:=hNM.parts
 subst hv3
 obtain ⟨a4,n4,c4,hv4⟩:∃ a n c,pv=.slice a n c:=by obtain ⟨a,c,e,_⟩:=aa8 hIv.own;exact ⟨a,_,c,e⟩
 subst hv4
 have HRD:=hide hRd
 have HB3:=hide (HB2.out.trans (hb3.mono HB2.out.size))
 obtain ⟨ml,hml⟩:∃ ml,(m.take Q.length).length=ml:=⟨_,rfl⟩
 rw [hml] at K3 ⊢
 clear hRd hNM hIv hb3 hro K2 hml
 go_wp2_with fail
 refine K3.out.mono ?_
 rintro e w4 ⟨hT,hb4⟩
 have HB4:=hide (HB3.out.trans (hb4.mono HB3.out.size))
 rcases hT with ⟨hbg,rfl⟩ | ⟨hnb,rv,ess,rfl,hO,hC⟩
 ·have HX:=hide hbg
  clear hbg hb4 K3
  go_wp2
  refine bodyPost_ret (v:=_) (by simp [results,Tryz.results8,go_sem];try rfl) rfl ⟨⟨m,R,Q,X,HRD.out,.inl ⟨HX.out,rfl⟩⟩,HB4.out⟩
 ·obtain ⟨ra,rc,rfl⟩:=hO.shp
  have HX:=hide (And.intro hnb (And.intro (hO.low HB3.out.size) hC))
  clear hnb hO hC hb4 K3
  go_wp2
  refine bodyPost_ret (v:=_) (by simp [results,Tryz.results8,go_sem];try rfl) rfl ⟨⟨m,R,Q,X,HRD.out,.inr ⟨HX.out.1,_,ess,rfl,HX.out.2.1,HX.out.2.2⟩⟩,HB4.out⟩
set_option maxRecDepth 20000 in
set_option maxHeartbeats 8000000 in
theorem aq7 (w:World) (v:Value) (rows:List (List Int)) (n S:Nat) (B:Md.Rw→Nat) (h:IsM w v rows (S+1)) (hs:Shaped rows (n:Int)) (hS:S≤4000) (hB:Bnd rows S B) :
  Calls Tryz.prog 9 #[v,.int .i64 (n:Int)] w fun e w'=>(∃ m R Q X,RdI n rows n m R Q X∧e=.returned (.tuple #[.int .i64 (Q.length:Int),.int .i64 0]))∧Below w.heap.size w w' := by
 have K0:=ad1 w v rows (S+1) h (n:Int)
 rw [decide_eq_true hs] at K0
 have K0:=hide K0
 have hn32:n≤32:=by have:=hs.2.1;omega
 have hrn:∀ r ∈ rows,r.length=n:=fun r hr=>by have:=hs.2.2.2 r hr;omega
 have hr64:=hs.2.2.1
 have K1:=hide (ai8 w v rows (S+1) h (by omega) (fun r hr=>by rw [hrn r hr];omega) (by omega))
 have HBN:=hide hB
 have HRN:=hide hrn
 obtain ⟨ao,cp,rfl,hn⟩:=h.parts
 clear h hs hB hrn
 go_enter Tryz.func9,Tryz.ntmps9
 go_wp2_with fail
 refine K0.out.mono ?_
 rintro e w1 ⟨rfl,rfl⟩
 clear K0
 go_wp2_with fail
 refine K1.out.mono ?_
 rintro e w2 ⟨r2,vs2,rfl,hM2,hb2⟩
 have K2:=hide (ahy w2 r2 rows n S B hM2.nm HRN.out hr64 (by omega) (by omega) HBN.out.big HBN.out.sum HBN.out.all)
 obtain ⟨a2,c2,hv2,-⟩:=Ce.own hM2.own
 subst hv2
 have HB2:=hide hb2
 clear hb2 hM2 K1
 go_wp2_with fail
 refine K2.out.mono ?_
 rintro e w3 ⟨mv,pv,m,R,Q,X,rfl,hRd,hNM,hIv,hb3⟩
 have hlq:(m.take Q.length).length=Q.length:=by
  rw [List.length_take,hRd.hm,List.length_append,adg]
  simp [efOf]
 obtain ⟨a3,c3,hv3,-⟩:=hNM.parts
 rw [hlq] at hv3
 subst hv3
 obtain ⟨a4,n4,c4,hv4⟩:∃ a n c,pv=.slice a n c:=by obtain ⟨a,c,e,_⟩:=aa8 hIv.own;exact ⟨a,_,c,e⟩
 subst hv4
 have HRD:=hide hRd
 have HB3:=hide (HB2.out.trans (hb3.mono HB2.out.size))
 obtain ⟨ql,hql⟩:∃ ql,Q.length=ql:=⟨_,rfl⟩
 have HQL:=hide hql
 rw [hql]
 clear hRd hNM hIv hb3 K2 hlq hql
 go_wp2
 refine bodyPost_ret (v:=_) (by simp [results,Tryz.results9,go_sem];try rfl) rfl ⟨⟨m,R,Q,X,HRD.out,by rw [HQL.out]⟩,HB3.out⟩
set_option maxRecDepth 20000 in
set_option maxHeartbeats 4000000 in
theorem akx (w:World) (v:Value) (rows:List (List Int)) (cols:Int) (L:Nat) (h:IsM w v rows L) (hs:¬ Shaped rows cols) :
  Calls Tryz.prog 8 #[v,.int .i64 cols] w fun e w'=>e=.returned (.tuple #[.slice none 0 0,.int .i64 1])∧w' = w:=by
 have K0:=ad1 w v rows L h cols
 rw [decide_eq_false hs] at K0
 have K0:=hide K0
 obtain ⟨ao,cp,rfl,hn⟩:=h.parts
 clear h hs
 go_enter Tryz.func8,Tryz.ntmps8
 go_wp2_with fail
 refine K0.out.mono ?_
 rintro e w1 ⟨rfl,rfl⟩
 clear K0
 go_wp2
 refine bodyPost_ret (v:=_) (by simp [results,Tryz.results8,go_sem];try rfl) rfl ⟨rfl,rfl⟩
set_option maxRecDepth 20000 in
set_option maxHeartbeats 4000000 in
theorem aq8 (w:World) (v:Value) (rows:List (List Int)) (cols:Int) (L:Nat) (h:IsM w v rows L) (hs:¬ Shaped rows cols) :
  Calls Tryz.prog 9 #[v,.int .i64 cols] w fun e w'=>e=.returned (.tuple #[.int .i64 0,.int .i64 1])∧w' = w:=by
 have K0:=ad1 w v rows L h cols
 rw [decide_eq_false hs] at K0
 have K0:=hide K0
 obtain ⟨ao,cp,rfl,hn⟩:=h.parts
 clear h hs
 go_enter Tryz.func9,Tryz.ntmps9
 go_wp2_with fail
 refine K0.out.mono ?_
 rintro e w1 ⟨rfl,rfl⟩
 clear K0
 go_wp2
 refine bodyPost_ret (v:=_) (by simp [results,Tryz.results9,go_sem];try rfl) rfl ⟨rfl,rfl⟩
set_option maxRecDepth 20000 in
set_option maxHeartbeats 4000000 in
theorem aq9 (w:World) (v:Value) (rows:List (List Int)) (cols:Int) (L0:Nat) (h:IsM w v rows L0) (hs:¬ Shaped rows cols) :
  Calls Tryz.prog 12 #[v,.int .i64 cols] w fun e w'=>e=.returned (.tuple #[.int .i64 0,.int .i64 1])∧Below w.heap.size w w' := by
 have K0:=acv w v rows L0 h cols
 rw [decide_eq_false hs] at K0
 have K0:=hide K0
 obtain ⟨ao,cp,rfl,hn⟩:=h.parts
 clear h hs
 go_enter Tryz.func12,Tryz.ntmps12
 go_wp2_with fail
 refine K0.out.mono ?_
 rintro e w1 ⟨rfl,hb1⟩
 have HB1:=hide hb1
 clear hb1 K0
 go_wp2
 refine bodyPost_ret (v:=_) (by simp [results,Tryz.results12,go_sem];try rfl) rfl ⟨rfl,HB1.out⟩
end Lm
end Go.Proofs.YtpccfkdcpjplgaaGreat
namespace Go.Proofs.YtpccfkdcpjplgaaGreat
namespace Lm
open Go Go.RowKit Md
def RwI (w:World) (u:Value) (z:List Int) (lo hi:Nat):Prop:=∃ bv es B T,u=.slice (some ⟨bv,0,none⟩) z.length z.length∧lo≤bv∧bv<hi∧BRow w bv z.length 0 es B T lo hi
theorem ORow.rwi {K:Nat} {w:World} {v:Value} {zs:List Int} {L:Nat} (h:ORow K w v zs L):RwI w v zs K w.heap.size:=by
 obtain ⟨bv,es,B,T,h1,h2,h3,h4⟩:=h.brow
 exact ⟨bv,es,B,T,h1,h2,h3,h4⟩
theorem RwI.below {w w' : World} {u:Value} {z:List Int} {lo hi:Nat} (h:RwI w u z lo hi) (hb:Below w.heap.size w w'):RwI w' u z lo hi:=by
 obtain ⟨bv,es,B,T,h1,h2,h3,h4⟩:=h
 exact ⟨bv,es,B,T,h1,h2,h3,h4.below hb⟩
theorem RwI.kp {w w' : World} {u:Value} {z:List Int} {lo hi p:Nat} {bs:List Nat} (h:RwI w u z lo hi) (k:Kp w w' p bs) (hp:p<lo∨hi≤p) (hb:∀ j ∈ bs,j<lo∨hi≤j):RwI w' u z lo hi:=by
 obtain ⟨bv,es,B,T,h1,h2,h3,g1,g2,g3,g4,g5⟩:=h
 refine ⟨bv,es,B,T,h1,h2,h3,g1,(k.other bv (aaa g2) (by omega) (fun hj=>by have:=hb bv hj;omega)).trans g2,fun j e hj he=>?_,g4,g5⟩
 obtain ⟨z,f1,f2⟩:=g3 j e hj he
 have hjl:=(List.getElem?_eq_some_iff.1 he).1
 have h4:=g4 j (by omega)
 exact ⟨z,f1.kp k (by omega) (fun i hi=>by have:=hb i hi;omega),f2⟩
structure OwA (K:Nat) (w:World) (rv:Value) (rows:List (List Int)) (L:Nat) (vs:List Value) (lo hi:Nat→Nat):Prop where
 own:w.ownsRow K 44 1 rv rows.length vs
 row:∀ (i:Nat) (u:Value) (z:List Int),vs[i]? = some u→rows[i]? = some z→ORow K w u z L∧RwI w u z (lo i) (hi i)
 low:∀ i,i<rows.length→K≤lo i∧hi i≤w.heap.size
 apart:∀ i j,i<j→j<rows.length→hi i≤lo j
 blk:∀ i g,i<rows.length→rv.ownBlock=some g→g<lo i∨hi i≤g
theorem OwA.m {K:Nat} {w:World} {rv:Value} {rows:List (List Int)} {L:Nat} {vs:List Value} {lo hi:Nat→Nat} (h:OwA K w rv rows L vs lo hi):OwM K w rv rows L:=⟨vs,h.own,fun i u z a b=>(h.row i u z a b).1⟩
theorem OwA.below {K:Nat} {w w' : World} {rv:Value} {rows:List (List Int)} {L:Nat} {vs:List Value} {lo hi:Nat→Nat} (h:OwA K w rv rows L vs lo hi) (hb:Below w.heap.size w w'):OwA K w' rv rows L vs lo hi :=
 ⟨ab2 h.own hb,fun i u z a b=>⟨(h.row i u z a b).1.below hb,(h.row i u z a b).2.below hb⟩,fun i hi=>⟨(h.low i hi).1,Nat.le_trans (h.low i hi).2 hb.size⟩,h.apart,h.blk⟩
theorem OwA.lowK {K K' : Nat} {w:World} {rv:Value} {rows:List (List Int)} {L:Nat} {vs:List Value} {lo hi:Nat→Nat} (h:OwA K w rv rows L vs lo hi) (hk:K'≤K):OwA K' w rv rows L vs lo hi :=
 ⟨afa h.own hk,fun i u z a b=>⟨(h.row i u z a b).1.low hk,(h.row i u z a b).2⟩,fun i hi=>⟨Nat.le_trans hk (h.low i hi).1,(h.low i hi).2⟩,h.apart,h.blk⟩
theorem aij (K:Nat) (w:World) (L:Nat):OwA K w (.slice none 0 0) [] L [] (fun _=>0) (fun _=>0) :=
 ⟨World.ownsRow_nil _ _ _ _,fun i u z hu=>(by simp at hu),fun i hi=>absurd hi (by simp),fun i j _ hj=>absurd hj (by simp),fun i g hi=>absurd hi (by simp)⟩
theorem as1 {w w' : World} {v:Value} (hg:w.grownBy w' v.ownBlock):∃ bs:List Nat,Kp w w' w.heap.size bs∧∀ j ∈ bs,v.ownBlock=some j:=by
 cases hv:v.ownBlock with
 | none=>exact ⟨[],⟨hg.os,hg.tape,hg.output,hg.size,fun k hk _ _=>hg.block k hk (by rw [hv];simp)⟩,fun j hj=>(by cases hj)⟩
 | some g=>exact ⟨[g],⟨hg.os,hg.tape,hg.output,hg.size,fun k hk _ hn=>hg.block k hk (by rw [hv];intro e;injection e with e;exact hn (by simp [e]))⟩,fun j hj=>(by simp at hj;rw [hj])⟩
theorem OwA.app {K k:Nat} {w w' : World} {v v' u:Value} {rows:List (List Int)} {vs:List Value} {lo hi:Nat→Nat} {z:List Int} {L s S:Nat} (hA:OwA K w v rows L vs lo hi) (hll:rows.length=k) (hu:ORow K w u z L) (hr:RwI w u z s S) (hKs:K≤s) (hs:∀ i,i<k→hi i≤s) (hgs:∀ g,v.ownBlock=some g→g<s) (hS:S≤w.heap.size) (ho:w'.ownsRow K 44 1 v' (k+1) (vs ++ [u])) (hg:w.grownBy w' v.ownBlock) (hat:v'.ownBlock=v.ownBlock∨v'.ownBlock=some w.heap.size):∃ lo' hi',OwA K w' v' (rows ++ [z]) L (vs ++ [u]) lo' hi' := by
 subst hll
 have hvl:vs.length=rows.length:=by simpa using hA.own.1
 obtain ⟨bs,hk,hbs⟩:=as1 hg
 have hsS:s≤S:=by obtain ⟨bv,_,_,_,_,a,b,_⟩:=hr;omega
 refine ⟨fun i=>if i=rows.length then s else lo i,fun i=>if i=rows.length then S else hi i,by simpa using ho,fun i x y hx hy=>?_,fun i hi1=>?_,fun i j hij hj=>?_,fun i g hi1 hgv=>?_⟩
 ·by_cases h1:i<rows.length
  ·rw [List.getElem?_append_left (by omega)] at hx hy
   obtain ⟨a1,a2⟩:=hA.row i x y hx hy
   have hl:=hA.low i h1
   refine ⟨a1.grown hA.own hg,?_⟩
   rw [if_neg (by omega),if_neg (by omega)]
   exact a2.kp hk (.inr hl.2) (fun j hj=>hA.blk i j h1 (hbs j hj))
  ·by_cases he:i=rows.length
   ·subst he
    rw [List.getElem?_append_right (Nat.le_refl _)] at hy
    rw [List.getElem?_append_right (by omega),hvl] at hx
    simp at hx hy
    subst hx hy
    rw [if_pos rfl,if_pos rfl]
    exact ⟨hu.grown hA.own hg,hr.kp hk (.inr hS) (fun j hj=>.inl (hgs j (hbs j hj)))⟩
   ·rw [List.getElem?_eq_none (by simp;omega)] at hy
    cases hy
 ·rw [List.length_append,List.length_singleton] at hi1
  by_cases he:i=rows.length
  ·rw [if_pos he,if_pos he]
   exact ⟨hKs,Nat.le_trans hS hg.size⟩
  ·rw [if_neg he,if_neg he]
   exact ⟨(hA.low i (by omega)).1,Nat.le_trans (hA.low i (by omega)).2 hg.size⟩
 ·rw [List.length_append,List.length_singleton] at hj
  rw [if_neg (by omega)]
  by_cases he:j=rows.length
  ·rw [if_pos he]
   exact hs i (by omega)
  ·rw [if_neg he]
   exact hA.apart i j hij (by omega)
 ·rw [List.length_append,List.length_singleton] at hi1
  by_cases he:i=rows.length
  ·rw [if_pos he,if_pos he]
   rcases hat with h | h
   ·exact .inl (hgs g (by rw [←h];exact hgv))
   ·rw [h] at hgv
    injection hgv with hgv
    omega
  ·rw [if_neg he,if_neg he]
   rcases hat with h | h
   ·exact hA.blk i g (by omega) (by rw [←h];exact hgv)
   ·rw [h] at hgv
    injection hgv with hgv
    have:=(hA.low i (by omega)).2
    omega
set_option maxRecDepth 20000 in
set_option maxHeartbeats 8000000 in
theorem ara (w:World) (v:Value) (rows:List (List Int)) (L:Nat) (h:IsM w v rows L) (hr:∀ r ∈ rows,r.length≤1000000) (hl:rows.length≤1000000) (hL:L≤100000) :
  Calls Tryz.prog 30 #[v] w fun e w'=>Below w.heap.size w w'∧(((∃ r ∈ rows,(red r).any big=true)∧e=.returned (.tuple #[.slice none 0 0,.int .i64 2]))∨((∀ r ∈ rows,(red r).any big=false)∧∃ rv vs lo hi,e=.returned (.tuple #[rv,.int .i64 0])∧OwA w.heap.size w' rv (rows.map red) L vs lo hi)):=by
 obtain ⟨ao,cp,rfl,hn⟩:=h.parts
 obtain ⟨iW,hi,hz0,hz1,hz2⟩:=info_parts infoSz
 have H:=hide h
 have HR:=hide hr
 have hmf:∀ (fn:Fn) (first cap:Array Value) (w:World),(Instr.makeFunc fn first cap).run Tryz.prog w=.ok (.func fn first cap) w:=fun _ _ _ _=>rfl
 clear h hr
 go_enter Tryz.func30,Tryz.ntmps30
 go_wp2
 go_loopw [4,6,8,11] (fun ov _ _ iv wr=>∃ (k:Nat),iv=.int .i64 k∧k≤rows.length∧Below w.heap.size w wr∧(∀ r ∈ rows.take k,(red r).any big=false)∧∃ vs lo hi,OwA w.heap.size wr ov ((rows.take k).map red) L vs lo hi) (fun _ _ _ iv _=>rows.length - (intOf iv).toNat)
 case atStart=>exact ⟨0,rfl,Nat.zero_le _,Below.refl _ _,fun r hr=>(by simp at hr),[],fun _=>0,fun _=>0,aij _ _ _⟩
 case round =>
  obtain ⟨k,rfl,hk,hbw,hall,vs,lo,hi',hO⟩:=hrel
  obtain ⟨oa,oc,rfl,_⟩:=hO.m.is.parts
  have HW:=hide hbw
  have HA:=hide hall
  have HO:=hide hO
  by_cases hlt:k<rows.length
  ·obtain ⟨r,hr⟩:∃ r,rows[k]? = some r:=⟨_,List.getElem?_eq_getElem hlt⟩
   have hrl:=HR.out r (List.mem_of_getElem? hr)
   obtain ⟨b,off,u,rfl,hbl,x0,hx⟩:=H.out.cell hr
   replace x0:=(hbw.cell (p:=⟨b,off+k,none⟩) hbl).trans x0
   have hlt' : (k:Int)<(rows.length:Int):=by omega
   have hx' := hx.below hbw
   have KD:=hide (afm wr u r L hx' hL)
   obtain ⟨ua,uc,rfl,_⟩:=hx.parts
   have HX:=hide hx'
   have HRr:=hide hr
   clear hbw hall hO hx hr hx'
   go_wp2_with fail
   refine KD.out.mono ?_
   rintro e w1 ⟨v1,rfl,h1,hb1⟩
   obtain ⟨ng1,a1,m1,c1,rfl⟩:∃ ng ao n cap,v1=.agg #[.bool ng,.slice ao n cap]:=by obtain ⟨ng,ao,cap,rs,rfl,_⟩:=h1;exact ⟨_,_,_,_,rfl⟩
   have hba:=hAl w1 (.cells #[.bool ng1,.slice a1 m1 c1] 60)
   have hnew:=heap_alloc_new w1 (.cells #[.bool ng1,.slice a1 m1 c1] 60)
   have hb2:=hb1.trans (hba.mono hb1.size)
   have hbz:∀ z ∈ r,((z / dvs r).natAbs:Int)<pw L:=fun z hz=>ap1 (ac2 HX.out z hz)
   have hT:Turn (w1.alloc (.cells #[.bool ng1,.slice a1 m1 c1] 60)) 56 #[.pointer (some ⟨w1.heap.size,0,none⟩)] r L L (fun k=>r.getD k 0 / dvs r):=by
    refine (show ∀ (W:World) (c' : Nat) (z:Int) (xv:Value),_→_→_→_ from ?_)
    intro W k' z xv hb hz hx
    have hzd:r.getD k' 0=z:=by rw [List.getD_eq_getElem?_getD,hz];rfl
    have hbW:=hba.trans (hb.mono hba.size)
    have:=ai2 W W.heap.size rfl k' w1.heap.size z (dvs r) xv L L ng1 a1 m1 c1 ((hb.block _ (aaa hnew)).trans hnew) (h1.is.ru (Ru.of_below hbW)) hx (by omega) (hbz z (List.mem_of_getElem? hz))
    rw [show (fun k=>r.getD k 0 / dvs r) k' = z / dvs r by show r.getD k' 0 / dvs r = _;rw [hzd]]
    exact this
   have KT:=acu _ _ r L L (HX.out.below hb2) hrl _ ai3 _ _ hT
   rw [amf] at KT
   have KT:=hide KT
   have HB2:=hide hb2
   clear h1 hb1 hba hnew hb2 hbz hT KD x0
   go_wp2_with fail
   refine KT.out.mono ?_
   rintro e w3 ⟨r3,rfl,h3,hb3⟩
   have hb03:=HB2.out.trans (hb3.mono HB2.out.size)
   have KL:=hide (akm w3 r3 (red r) L h3.is (by omega))
   obtain ⟨bl3,rfl,_⟩:=id h3
   have H3:=hide h3
   have HB3:=hide hb03
   have hsz3:=hb3.size
   have hsz2:=HB2.out.size
   clear h3 hb3 hb03 KT
   generalize hw2:w1.alloc (.cells #[.bool ng1,.slice a1 m1 c1] 60)=w2 at *
   clear hw2
   go_wp2_with fail
   refine KL.out.mono ?_
   rintro e w4 ⟨rfl,hb4⟩
   have HB4:=hide (HB3.out.trans (hb4.mono HB3.out.size))
   have H4:=hide ((H3.out.below hb4).low (Nat.le_trans HW.out.size hsz2))
   have H4r:=hide ((H3.out.rwi).below hb4)
   have hsz4:=hb4.size
   obtain ⟨bb,hbb⟩:∃ b,(red r).any big=b:=⟨_,rfl⟩
   rw [hbb]
   have HBB:=hide hbb
   clear hb4 KL hbb
   cases bb with
   | true =>
    go_wp2
    refine bodyPost_ret (v:=_) (by simp [results,Tryz.results30,go_sem];try rfl) rfl ⟨HW.out.trans (HB4.out.mono HW.out.size),.inl ⟨⟨r,List.mem_of_getElem? HRr.out,HBB.out⟩,rfl⟩⟩
   | false =>
    have hvs:=(HO.out.below HB4.out).own
    have hll:((rows.take k).map red).length=k:=by simp;omega
    rw [hll] at hvs
    have hbl4:=hAl w4 (.cells #[.slice (some ⟨bl3,0,none⟩) (red r).length (red r).length] 44)
    have hlow:=Nat.le_trans HW.out.size HB4.out.size
    go_wp2_with (at_builtin;refine wpList_append_own_at _ rfl (.tmp 22) (.tmp 24) 22 rfl w.heap.size 44 iW (.slice none 0 0) 1 24 Tryz.underlying22 hi hz0 hz1 hz2 rfl (by decide) _ _ _ rfl (hvs.alloc _) ⟨w4.heap.size,0,none⟩ 1 1 [.slice (some ⟨bl3,0,none⟩) (red r).length (red r).length] rfl rfl (cell_one_new _ _ _) ?c2 ?c3 ?c4 ?c5 ?_)
    case c2=>first | rfl | (intro x hx;simp at hx;subst hx;rfl)
    case c3=>unfold maxLen;omega
    case c4=>omega
    case c5=>simp;omega
    intro v5 w5 hown5 hgrow5 _ hat5
    have hlo:=HO.out.low
    have hlt5:=HO.out.own.lt
    rw [hll] at hlo
    have hOb:=(HO.out.below HB4.out).below hbl4
    rw [hll] at hOb hlt5
    have hA:=OwA.app hOb hll (H4.out.below hbl4) (H4r.out.below hbl4) (Nat.le_trans HW.out.size hsz2) (fun i hi1=>Nat.le_trans (hlo i hi1).2 hsz2) (fun g hg=>Nat.lt_of_lt_of_le (hlt5 g hg).2 hsz2) (Nat.le_trans hsz4 hbl4.size) hown5 hgrow5 (by simpa using hat5)
    have hbx:Below w.heap.size w w5:=(HW.out.trans (HB4.out.mono HW.out.size)).trans ((hbl4.mono hlow).trans ((Below.refl _ _).grown hgrow5 (Nat.le_trans hlow hbl4.size) (fun j hj=>(hvs.lt j hj).1)))
    have e1:(rows.take k).map red ++ [red r]=(rows.take (k+1)).map red:=by rw [List.take_add_one,HRr.out];simp
    rw [e1] at hA
    have HFin:=hide (And.intro hA hbx)
    clear hown5 hgrow5 hA hbx hvs hbl4 hat5
    go_wp2
    go_roundw
    case rel =>
     obtain ⟨⟨lo5,hi5,hA5⟩,hbx5⟩:=HFin.out
     refine ⟨k+1,by go_num,by omega,hbx5,fun r' hr'=>?_,_,lo5,hi5,hA5⟩
     rcases (abf HRr.out).1 hr' with h | rfl
     ·exact HA.out r' h
     ·exact HBB.out
    case measure=>simp [intOf];omega
  ·have hlt' : decide ((k:Int)<(rows.length:Int))=false:=by simp;omega
   have hkn:k=rows.length:=by omega
   subst hkn
   rw [List.take_length] at HA HO
   clear hbw hall hO
   go_wp2
   refine bodyPost_ret (v:=_) (by simp [results,Tryz.results30,go_sem];try rfl) rfl ⟨HW.out,.inr ⟨HA.out,_,vs,lo,hi',rfl,HO.out⟩⟩
def EchOutA (K:Nat) (w' : World) (n L0:Nat) (rows:List (List Int)) (e:Ending):Prop:=∃ R Q,Ech n rows R Q∧(((∃ r ∈ baR R Q n,(red r).any big=true)∧e=.returned (.tuple #[.slice none 0 0,.int .i64 2]))∨((∀ r ∈ baR R Q n,(red r).any big=false)∧∃ rv vs lo hi,e=.returned (.tuple #[rv,.int .i64 0])∧OwA K w' rv ((baR R Q n).map red) (lg L0) vs lo hi))
set_option maxRecDepth 20000 in
set_option maxHeartbeats 8000000 in
theorem afv (w:World) (v:Value) (rows:List (List Int)) (n L0:Nat) (h:IsM w v rows L0) (hs:Shaped rows (n:Int)) (hL0:L0≤1510) :
  Calls Tryz.prog 11 #[v,.int .i64 (n:Int)] w fun e w'=>EchOutA w.heap.size w' n L0 rows e∧Below w.heap.size w w' := by
 have K0:=acv w v rows L0 h (n:Int)
 rw [decide_eq_true hs] at K0
 have K0:=hide K0
 have K1:Hid (∀ w1,Below w.heap.size w w1→_):=(fun w1 hb=>afr w1 v rows n L0 (h.below hb) hs hL0)
 obtain ⟨ao,cp,rfl,hn⟩:=h.parts
 have hn32:=hs.2.1
 clear h hs
 go_enter Tryz.func11,Tryz.ntmps11
 go_wp2_with fail
 refine K0.out.mono ?_
 rintro e w1 ⟨rfl,hb1⟩
 have K2:=hide (K1.out w1 hb1)
 have HB1:=hide hb1
 clear hb1 K0
 go_wp2_with fail
 refine K2.out.mono ?_
 rintro e w2 ⟨R,Q,ra,rc,pa,pc,ng,la,lm,lc,rfl,hE,hM,hP,hF,hb2⟩
 have hba:=hAl w2 (.cells #[.slice ra Q.length rc,.slice pa Q.length pc,.bool ng,.slice la lm lc] 62)
 have KT:=ara (w2.alloc (.cells #[.slice ra Q.length rc,.slice pa Q.length pc,.bool ng,.slice la lm lc] 62)) (.slice ra Q.length rc) (baR R Q n) (lg L0) (hM.is.below hba) (fun r hr=>by rw [amg r hr];omega) (by rw [aih];have:=hE.len;omega) (by unfold lg;omega)
 have KT:=hide KT
 have HE:=hide hE
 have hb02:=HB1.out.trans (hb2.mono HB1.out.size)
 have HB3:=hide (hb02.trans (hba.mono hb02.size))
 clear hE hM hP hF hb2 hba hb02 K1 K2
 go_wp2_with fail
 refine KT.out.mono ?_
 rintro e w3 ⟨hb3,⟨hex,rfl⟩ | ⟨hal,rv,vs,lo,hi,rfl,hO⟩⟩
 ·have HB:=hide (HB3.out.trans (hb3.mono HB3.out.size))
  have HX:=hide hex
  clear hb3 hex KT
  go_wp2
  refine bodyPost_ret (v:=_) (by simp [results,Tryz.results11,go_sem];try rfl) rfl ⟨⟨R,Q,HE.out,.inl ⟨HX.out,rfl⟩⟩,HB.out⟩
 ·have HB:=hide (HB3.out.trans (hb3.mono HB3.out.size))
  have HX:=hide hal
  have HO:=hide (hO.lowK HB3.out.size)
  obtain ⟨oa,oc,rfl,_⟩:=hO.m.is.parts
  clear hb3 hal hO KT
  go_wp2
  refine bodyPost_ret (v:=_) (by simp [results,Tryz.results11,go_sem];try rfl) rfl ⟨⟨R,Q,HE.out,.inr ⟨HX.out,_,vs,lo,hi,rfl,HO.out⟩⟩,HB.out⟩
end Lm
end Go.Proofs.YtpccfkdcpjplgaaGreat
namespace Go.Proofs.YtpccfkdcpjplgaaGreat
namespace Lm
open Go Go.RowKit
theorem ag2 (a b:Int):IntKind.i64.wrap (IntKind.i64.wrap a+b)=IntKind.i64.wrap (a+b):=by
 rw [IntKind.wrap_i64,IntKind.wrap_i64,IntKind.wrap_i64]
 omega
theorem arb (a b:Int):IntKind.i64.wrap (a+IntKind.i64.wrap b)=IntKind.i64.wrap (a+b):=by
 rw [IntKind.wrap_i64,IntKind.wrap_i64,IntKind.wrap_i64]
 omega
theorem avg {a:Int} (h:0≤a) (h' : a≤9223372036854775807):IntKind.i64.wrap a=a:=by
 rw [IntKind.wrap_i64]
 omega
set_option maxRecDepth 20000 in
set_option maxHeartbeats 4000000 in
theorem as2 (w:World) (ax:Option Addr) (mx cx:Nat) (xs:List WE) (R:Rw w (.slice ax mx cx) xs) (hm:∀ e ∈ xs,e.m≤35184372088832) :
  Calls Tryz.prog 19 #[.slice ax mx cx] w fun e w'=>e=.returned (.int .i64 (IntKind.i64.wrap (lenW xs:Int)))∧Below w.heap.size w w' := by
 have HX:=hide R
 have HNx:Hid (mx=xs.length):=R.parts.1
 have hml:mx≤9223372036854775807:=by have:=R.parts;omega
 have HMM:=hide hm
 clear R hm
 go_enter Tryz.func19,Tryz.ntmps19
 go_wp2_with fail
 go_loopw [3,4] (fun sv iv wr=>∃ (k:Nat) (s:Int),iv=.int .i64 k∧k≤mx∧sv=.int .i64 s∧s=IntKind.i64.wrap (lenW (xs.take k):Int)∧Below w.heap.size w wr) (fun _ iv _=>mx - (intOf iv).toNat)
 case atStart=>exact ⟨0,0,rfl,Nat.zero_le _,rfl,rfl,Below.refl _ _⟩
 case round =>
  obtain ⟨k,s,rfl,hk,rfl,hsw,hbw⟩:=hrel
  have HSW:=hide hsw
  by_cases hlt:k<mx
  ·have hlt' : (k:Int)<(mx:Int):=by omega
   have HLT:=hide hlt
   obtain ⟨ex,hex⟩:∃ e,xs[k]? = some e:=⟨_,List.getElem?_eq_getElem (by have:=HNx.out;omega)⟩
   obtain ⟨bx,ox,hAx,hlx0,hcx⟩:=HX.out.cells (by have:=HNx.out;omega)
   subst hAx
   have hlx:bx<wr.heap.size:=Nat.lt_of_lt_of_le hlx0 hbw.size
   have x0:=(hbw.cell (p:=⟨bx,ox+k*2,none⟩) hlx0).trans (hcx _ _ (aa2 hex).1)
   have x1:wr.cell? ⟨bx,ox+k*2+1,none⟩ = some (.slice ex.a ex.m ex.c):=(hbw.cell (p:=⟨bx,ox+k*2+1,none⟩) hlx0).trans (hcx _ _ (aa2 hex).2)
   have hs:=aps hex
   have hem:=HMM.out ex (List.mem_of_getElem? hex)
   have HW:=hide hbw
   have K1:=hide (arj wr ex.ng ex.a ex.m ex.c (by omega))
   obtain ⟨t,hadd⟩:∃ t,IntKind.i64.wrap (s+(1+(ex.m:Int)))=t:=⟨_,rfl⟩
   have HT:Hid (t=IntKind.i64.wrap (lenW (xs.take (k+1)):Int)):=(show t = _ by
    rw [←hadd,HSW.out,ag2,hs]
    first | done | rfl | (congr 1;omega) | simp)
   clear hbw hs hsw hex hcx hlx
   go_wp2_with fail
   refine K1.out.mono ?_
   rintro e w2 ⟨rfl,hb2⟩
   have HB2:=hide (HW.out.trans (hb2.mono HW.out.size))
   clear hb2 x0 x1 hlx0
   go_wp2
   go_roundw
   case rel=>exact ⟨k+1,t,by go_num,HLT.out,rfl,HT.out,HB2.out⟩
   case measure=>have:=HLT.out;simp [intOf];omega
  ·have hlt' : decide ((k:Int)<(mx:Int))=false:=by simp;omega
   have hkn:k=mx:=by omega
   subst hkn
   have HW:=hide hbw
   clear hbw hsw
   go_wp2
   refine bodyPost_ret (v:=_) (ab5 rfl rfl) rfl ⟨?_,HW.out⟩
   have:=HSW.out
   rw [List.take_of_length_le (by have:=HNx.out;omega)] at this
   rw [←this]
   rfl
set_option maxRecDepth 20000 in
set_option maxHeartbeats 4000000 in
theorem arc (w:World) (v:Value) (ess:List (List WE)) (h:RwM w v ess) (hm:∀ es ∈ ess,∀ e ∈ es,e.m≤35184372088832) :
  Calls Tryz.prog 7 #[v] w fun e w'=>e=.returned (.int .i64 (IntKind.i64.wrap (lenM ess:Int)))∧Below w.heap.size w w' := by
 obtain ⟨ax,cx,rfl,hnl⟩:=h.parts
 have HX:=hide h
 have HMM:=hide hm
 obtain ⟨n,hn⟩:∃ n,ess.length=n:=⟨_,rfl⟩
 rw [hn] at HX hnl ⊢
 have HN:=hide hn
 clear h hn hm
 go_enter Tryz.func7,Tryz.ntmps7
 go_wp2_with fail
 go_loopw [3,4] (fun sv iv wr=>∃ (k:Nat) (s:Int),iv=.int .i64 k∧k≤n∧sv=.int .i64 s∧s=IntKind.i64.wrap (lenM (ess.take k):Int)∧Below w.heap.size w wr) (fun _ iv _=>n - (intOf iv).toNat)
 case atStart=>exact ⟨0,0,rfl,Nat.zero_le _,rfl,rfl,Below.refl _ _⟩
 case round =>
  obtain ⟨k,s,rfl,hk,rfl,hsw,hbw⟩:=hrel
  have HW:=hide hbw
  have HSW:=hide hsw
  by_cases hlt:k<n
  ·have hlt' : (k:Int)<(n:Int):=by omega
   have HLT:=hide hlt
   obtain ⟨es,hes⟩:∃ e,ess[k]? = some e:=⟨_,List.getElem?_eq_getElem (by have:=HN.out;omega)⟩
   obtain ⟨b,off,u,rfl,hbl,x0,hR⟩:=HX.out.cell hes
   obtain ⟨ua,uc,rfl⟩:=hR.slc
   replace x0:=(hbw.cell (p:=⟨b,off+k,none⟩) hbl).trans x0
   have hs:=aqz hes
   have K1:=as2 wr ua _ uc es (hR.below hbw) (HMM.out es (List.mem_of_getElem? hes))
   obtain ⟨t,ht⟩:∃ t,IntKind.i64.wrap (lenW es:Int)=t:=⟨_,rfl⟩
   rw [ht] at K1
   have K1:=hide K1
   obtain ⟨s1,hadd1⟩:∃ s1,IntKind.i64.wrap (s+1)=s1:=⟨_,rfl⟩
   obtain ⟨s2,hadd2⟩:∃ s2,IntKind.i64.wrap (s1+t)=s2:=⟨_,rfl⟩
   have HS:Hid (s2=IntKind.i64.wrap (lenM (ess.take (k+1)):Int)):=(show s2 = _ by
    rw [←hadd2,←ht,←hadd1,HSW.out,arb,ag2,Int.add_assoc,ag2,hs]
    first | done | rfl | (congr 1;omega) | simp)
   clear hbw hs hsw hR hes ht
   go_wp2_with fail
   refine K1.out.mono ?_
   rintro e w2 ⟨rfl,hb2⟩
   have HB2:=hide (HW.out.trans (hb2.mono HW.out.size))
   clear hb2 K1 x0
   go_wp2
   go_roundw
   case rel=>exact ⟨k+1,s2,by go_num,HLT.out,rfl,HS.out,HB2.out⟩
   case measure=>have:=HLT.out;simp [intOf];omega
  ·have hlt' : decide ((k:Int)<(n:Int))=false:=by simp;omega
   have hkn:ess.take k=ess:=List.take_of_length_le (by have:=HN.out;omega)
   rw [hkn] at HSW
   clear hbw hsw
   go_wp2
   refine bodyPost_ret (v:=_) (by simp [results,Tryz.results7,go_sem];try rfl) rfl ⟨by rw [←HSW.out],HW.out⟩
theorem amk {M:Nat} : ∀ {es:List WE},(∀ e ∈ es,e.m≤M)→lenW es≤es.length*(1+M)
 | [],_=>Nat.zero_le _
 | e :: es,h=>by
  have h1:=amk (es:=es) (fun x hx=>h x (by simp [hx]))
  have h2:=h e (by simp)
  have e1:lenW (e :: es)=1+e.m+lenW es:=by simp [lenW]
  rw [e1,List.length_cons,Nat.add_mul]
  omega
theorem aml {M N:Nat} : ∀ {ess:List (List WE)},(∀ es ∈ ess,es.length≤N∧∀ e ∈ es,e.m≤M)→lenM ess≤ess.length*(1+N*(1+M))
 | [],_=>Nat.zero_le _
 | es :: ess,h=>by
  have h1:=aml (ess:=ess) (fun x hx=>h x (by simp [hx]))
  obtain ⟨h2,h3⟩:=h es (by simp)
  have h4:=amk h3
  have h5:es.length*(1+M)≤N*(1+M):=Nat.mul_le_mul_right _ h2
  have e1:lenM (es :: ess)=1+lenW es+lenM ess:=by simp [lenM]
  rw [e1,List.length_cons,Nat.add_mul]
  omega
theorem RwM.isM_s {w:World} {v:Value} {ess:List (List WE)} (h:RwM w v ess) {L:Nat} (hl:∀ es ∈ ess,∀ e ∈ es,e.m≤L):IsM w v (zsM ess) L:=by
 obtain ⟨vs,h1,h2⟩:=h
 refine ⟨vs,by simpa [zsM] using h1,fun i u z hu hz=>?_⟩
 unfold zsM at hz
 rw [List.getElem?_map] at hz
 obtain ⟨es,he,rfl⟩:=Option.map_eq_some_iff.1 hz
 have hR:=h2 i u es hu he
 refine ⟨es,hR,rfl,fun e hx=>?_⟩
 obtain ⟨ao,cap,hv,_⟩:=hR.sl e hx
 obtain ⟨_,hm,_⟩:=(Value.slice.injEq .. ▸ hv)
 have:=hl es (List.mem_of_getElem? he) e hx
 omega
theorem aof {ess:List (List WE)} {cols:Int} (hs:Shaped (zsM ess) cols) (hm:∀ es ∈ ess,∀ e ∈ es,e.m≤35184372088832):lenM ess≤100000000000000000:=by
 have h1:ess.length≤64:=by have:=hs.2.2.1;simpa [zsM] using this
 have h2:=aml (M:=35184372088832) (N:=32) (ess:=ess) (fun es he=>⟨by
  have h3:=hs.2.2.2 (es.map WE.z) (List.mem_map.2 ⟨es,he,rfl⟩)
  have h4:=hs.2.1
  rw [List.length_map] at h3
  omega,hm es he⟩)
 have h3:ess.length*(1+32*(1+35184372088832))≤64*(1+32*(1+35184372088832)):=Nat.mul_le_mul_right _ h1
 omega
end Lm
end Go.Proofs.YtpccfkdcpjplgaaGreat
namespace Go.Proofs.YtpccfkdcpjplgaaGreat
namespace Lm
open Go Go.RowKit Md
theorem IsM.wide {w:World} {v:Value} {rows:List (List Int)} {L M:Nat} (h:IsM w v rows L) (hl:L≤M):IsM w v rows M:=by
 obtain ⟨vs,h1,h2⟩:=h
 exact ⟨vs,h1,fun i u z a b=>(h2 i u z a b).wide hl⟩
set_option maxRecDepth 20000 in
set_option maxHeartbeats 4000000 in
theorem aky (w:World) (v:Value) (rows:List (List Int)) (cols:Int) (L0:Nat) (h:IsM w v rows L0) (hs:¬ Shaped rows cols) :
  Calls Tryz.prog 11 #[v,.int .i64 cols] w fun e w'=>e=.returned (.tuple #[.slice none 0 0,.int .i64 1])∧Below w.heap.size w w' := by
 have K0:=acv w v rows L0 h cols
 rw [decide_eq_false hs] at K0
 have K0:=hide K0
 obtain ⟨ao,cp,rfl,hn⟩:=h.parts
 clear h hs
 go_enter Tryz.func11,Tryz.ntmps11
 go_wp2_with fail
 refine K0.out.mono ?_
 rintro e w1 ⟨rfl,hb1⟩
 have HB1:=hide hb1
 clear hb1 K0
 go_wp2
 refine bodyPost_ret (v:=_) (by simp [results,Tryz.results11,go_sem];try rfl) rfl ⟨rfl,HB1.out⟩
theorem as3 (R:List Md.Rw) (Q:List Nat):(efOf R Q).length=Q.length:=by simp [efOf]
theorem Ech.same {n:Nat} {rows:List (List Int)} {R R' : List Md.Rw} {Q Q' : List Nat} (h:Ech n rows R Q) (h' : Ech n rows R' Q'):Q=Q' := (agy h h' (fun r hr=>.mem (List.mem_map.2 ⟨r,hr,rfl⟩)) (fun r hr=>.mem (List.mem_map.2 ⟨r,hr,rfl⟩))).1
end Lm
end Go.Proofs.YtpccfkdcpjplgaaGreat
namespace Go.Proofs.YtpccfkdcpjplgaaGreat
namespace Lm
open Go Go.RowKit Md
theorem aw4 (w:World) (k:Int):Calls Tryz.prog 13 #[.int .i64 k] w fun e w'=>e=.returned (.int .i64 k)∧w' = w:=by
 go_enter Tryz.func13,Tryz.ntmps13
 go_wp2
 go_ret
 exact ⟨rfl,rfl⟩
theorem least {P:Nat→Prop} (h:∃ n,P n):∃ n,P n∧∀ m,P m→n≤m:=by
 obtain ⟨n,hn⟩:=h
 induction n using Nat.strongRecOn with
 | _ n ih =>
  by_cases hx:∃ m,m<n∧P m
  ·obtain ⟨m,hm,hp⟩:=hx
   exact ih m hm hp
  ·exact ⟨n,hn,fun m hp=>by
    by_cases h:n≤m
    ·exact h
    ·exact absurd ⟨m,by omega,hp⟩ hx⟩
open Classical in
noncomputable def bndB (f:Md.Rw):Nat:=if h:∃ L,∀ k,((f k).natAbs:Int)<pw L then Classical.choose (least h) else 0
theorem ai9 {f:Md.Rw} {L:Nat} (h:∀ k,((f k).natAbs:Int)<pw L):(∀ k,((f k).natAbs:Int)<pw (bndB f))∧bndB f≤L:=by
 have hx:∃ L,∀ k,((f k).natAbs:Int)<pw L:=⟨L,h⟩
 have hs:=Classical.choose_spec (least hx)
 unfold bndB
 rw [dif_pos hx]
 exact ⟨hs.1,hs.2 L h⟩
theorem RwM.row {w:World} {v:Value} {ess:List (List WE)} (h:RwM w v ess):∀ es ∈ ess,∃ u,Rw w u es:=by
 intro es he
 obtain ⟨i,hi⟩:=List.mem_iff_getElem?.1 he
 obtain ⟨vs,h1,h2⟩:=h
 obtain ⟨_,_,_,_,_,h3,_⟩:=h1
 obtain ⟨u,hu⟩:∃ u,vs[i]? = some u:=⟨_,List.getElem?_eq_getElem (by have:=(List.getElem?_eq_some_iff.1 hi).1;omega)⟩
 exact ⟨u,h2 i u es hu hi⟩
theorem avh {ess:List (List WE)} (h:∀ es ∈ ess,∀ z ∈ es.map WE.z,(z.natAbs:Int)<pw (lenW es)):sumB bndB ((zsM ess).map fnR)≤lenM ess:=by
 induction ess with
 | nil=>simp [zsM,sumB,lenM]
 | cons es ess ih =>
  have h1:=ih (fun x hx=>h x (by simp [hx]))
  have h2:=(ai9 (ahu (h es (by simp)) (aak _))).2
  simp only [zsM,List.map_cons,sumB,lenM] at h1 ⊢
  omega
theorem awn {w:World} {v:Value} {ess:List (List WE)} {S:Nat} (h:RwM w v ess) (hS:lenM ess≤S):Bnd (zsM ess) S bndB:=by
 have hz:∀ es ∈ ess,∀ z ∈ es.map WE.z,(z.natAbs:Int)<pw (lenW es):=fun es he=>by
  obtain ⟨u,hu⟩:=h.row es he
  exact ac2 (aks hu (Nat.le_refl _))
 refine ⟨fun r hr k=>?_,Nat.le_trans (avh hz) hS,fun r hr z hzz=>?_⟩
 ·obtain ⟨es,he,rfl⟩:=List.mem_map.1 hr
  exact (ai9 (ahu (hz es he) (aak _))).1 k
 ·obtain ⟨es,he,rfl⟩:=List.mem_map.1 hr
  have h1:=hz es he z hzz
  have h2:=ag0 he
  have h3:pw (lenW es)≤pw (S+1):=aay (by omega)
  omega
theorem as4 {es us:List WE} (h:SameR es us):es.map WE.z=us.map WE.z:=by
 have e:∀ l:List WE,l.map WE.z=(l.map WE.raw).map fun p=>sg p.1 (val p.2):=fun l=>by rw [List.map_map];rfl
 rw [e,e,h]
theorem as5 {es us:List WE} {L:Nat} (h:SameR es us) (hl:∀ e ∈ us,e.zs.length≤L):∀ e ∈ es,e.zs.length≤L:=by
 intro e he
 have h1:e.raw ∈ us.map WE.raw:=by rw [←h];exact List.mem_map_of_mem he
 obtain ⟨u,hu,hr⟩:=List.mem_map.1 h1
 have h2:u.zs=e.zs:=congrArg Prod.snd hr
 rw [←h2]
 exact hl u hu
theorem RwM.isM_z {w:World} {v:Value} {fss ess:List (List WE)} (h:RwM w v fss) (hS:SameM fss ess) {L:Nat} (hl:∀ es ∈ ess,∀ e ∈ es,e.zs.length≤L):IsM w v (zsM ess) L:=by
 obtain ⟨vs,h1,h2⟩:=h
 refine ⟨vs,by unfold zsM;rw [List.length_map,←hS.1];exact h1,fun i u z a b=>?_⟩
 unfold zsM at b
 rw [List.getElem?_map] at b
 obtain ⟨es,hes,rfl⟩:=Option.map_eq_some_iff.1 b
 obtain ⟨fs,hfs⟩:∃ fs,fss[i]? = some fs:=⟨_,List.getElem?_eq_getElem (by have:=(List.getElem?_eq_some_iff.1 hes).1;have:=hS.1;omega)⟩
 have hR:=hS.2 i fs es hfs hes
 exact ⟨fs,h2 i u fs a hfs,as4 hR,as5 hR (hl es (List.mem_of_getElem? hes))⟩
structure RedC (ess:List (List WE)) (cols:Int) (E:List (List Int)) (f g q:Int) (L M:Nat):Prop where
 len:∃ n,(∀ r ∈ E,r.length=n)∧n≤32∧E.length≤32
 refE:∀ (w:World) (v:Value),RwM w v ess→Calls Tryz.prog 8 #[v,.int .i64 cols] w fun e w'=>(∃ wv gss,e=.returned (.tuple #[wv,.int .i64 f])∧OtE w.heap.size w' wv gss∧CanEM gss E L)∧Below w.heap.size w w'
 refR:∀ (w:World) (v:Value),RwM w v ess→Calls Tryz.prog 9 #[v,.int .i64 cols] w fun e w'=>e=.returned (.tuple #[.int .i64 q,.int .i64 g])∧Below w.heap.size w w'
 prE:∀ (w:World) (v:Value) (fss:List (List WE)),RwM w v fss→SameM fss ess→Calls Tryz.prog 11 #[v,.int .i64 cols] w fun e w'=>(∃ mv vs lo hi,e=.returned (.tuple #[mv,.int .i64 f])∧OwA w.heap.size w' mv E M vs lo hi)∧Below w.heap.size w w'
 prR:∀ (w:World) (v:Value) (fss:List (List WE)),RwM w v fss→SameM fss ess→Calls Tryz.prog 12 #[v,.int .i64 cols] w fun e w'=>e=.returned (.tuple #[.int .i64 q,.int .i64 g])∧Below w.heap.size w w'
theorem as6 {w:World} {v:Value} {ess:List (List WE)} {cols:Int} (h:RwM w v ess) (hm:∀ es ∈ ess,∀ e ∈ es,e.m≤35184372088832) (hs:¬ Shaped (zsM ess) cols):RedC ess cols [] 1 1 0 0 0:=by
 have hzl:∀ es ∈ ess,∀ e ∈ es,e.zs.length≤35184372088832:=fun es he e hx=>by
  obtain ⟨u,hu⟩:=h.row es he
  have:=(hu.sl e hx).parts.1
  have:=hm es he e hx
  omega
 refine ⟨⟨0,fun r hr=>(by cases hr),by omega,by simp⟩,fun w v hR=>?_,fun w v hR=>?_,fun w v fss hR hS=>?_,fun w v fss hR hS=>?_⟩
 ·exact (akx w v _ cols _ (hR.isM_s hm) hs).mono fun e w' ⟨h1,h2⟩=>⟨⟨_,[],h1,af8 _ _,rfl,fun i es z a=>(by simp at a)⟩,by rw [h2];exact Below.refl _ _⟩
 ·exact (aq8 w v _ cols _ (hR.isM_s hm) hs).mono fun e w' ⟨h1,h2⟩=>⟨h1,by rw [h2];exact Below.refl _ _⟩
 ·exact (aky w v _ cols _ (hR.isM_z hS hzl) hs).mono fun e w' ⟨h1,h2⟩=>⟨⟨_,[],_,_,h1,aij _ _ _⟩,h2⟩
 ·exact (aq9 w v _ cols _ (hR.isM_z hS hzl) hs).mono fun e w' ⟨h1,h2⟩=>⟨h1,h2⟩
theorem ard {w:World} {v:Value} {ess:List (List WE)} {n:Nat} (h:RwM w v ess) (hl:lenM ess≤1500) (hs:Shaped (zsM ess) (n:Int)):∃ E f g q L M,RedC ess (n:Int) E f g q L M:=by
 have hzl:∀ es ∈ ess,∀ e ∈ es,e.zs.length≤1500:=fun es he e hx=>by
  obtain ⟨u,hu⟩:=h.row es he
  have:=(hu.sl e hx).parts.1
  have:=akc hx
  have:=ag0 he
  omega
 have hn32:n≤32:=by have:=hs.2.1;omega
 have hrn:∀ r ∈ zsM ess,r.length=n:=fun r hr=>by have:=hs.2.2.2 r hr;omega
 have hB:=awn h hl
 obtain ⟨_,_,_,⟨⟨R,Q,hE,_⟩,_⟩,_⟩:=ai4 w v (zsM ess) n 1500 (h.isM hl) hs (by omega) []
 have hQ:Q.length≤32:=by have:=hE.len;omega
 have hEl:(elR n (efOf R Q)).length≤32:=by rw [adg,as3];exact hQ
 have rank:∀ (w:World) (v:Value),RwM w v ess→Calls Tryz.prog 9 #[v,.int .i64 (n:Int)] w fun e w'=>e=.returned (.tuple #[.int .i64 (Q.length:Int),.int .i64 0])∧Below w.heap.size w w' := fun w v hR =>
  (aq7 w v _ n 1500 bndB ((hR.isM hl).wide (by omega)) hs (by omega) hB).mono fun e w' ⟨⟨m,R',Q',X,hRd,h1⟩,h2⟩=>⟨by rw [h1,(hRd.done hrn hE).2.1],h2⟩
 have rank' : ∀ (w:World) (v:Value) (fss:List (List WE)),RwM w v fss→SameM fss ess→Calls Tryz.prog 12 #[v,.int .i64 (n:Int)] w fun e w'=>e=.returned (.tuple #[.int .i64 (Q.length:Int),.int .i64 0])∧Below w.heap.size w w' := fun w v fss hR hS =>
  (ai4 w v _ n 1500 (hR.isM_z hS hzl) hs (by omega)).mono fun e w' ⟨⟨R',Q',hE',h1⟩,h2⟩=>⟨by rw [h1,hE.same hE'],h2⟩
 have same:∀ {R' : List Md.Rw} {Q' : List Nat},Ech n (zsM ess) R' Q'→elR n (efOf R' Q')=elR n (efOf R Q):=fun {R' Q'} hE'=>by
  rw [ahv,ahv]
  exact (agy hE' hE (fun r hr=>.mem (List.mem_map.2 ⟨r,hr,rfl⟩)) (fun r hr=>.mem (List.mem_map.2 ⟨r,hr,rfl⟩))).2
 by_cases hbig:∃ r ∈ elR n (efOf R Q),r.any big=true
 ·refine ⟨[],2,0,(Q.length:Int),0,0,⟨0,fun r hr=>(by cases hr),by omega,by simp⟩,fun w v hR=>?_,rank,fun w v fss hR hS=>?_,rank'⟩
  ·refine (afu w v _ n 1500 bndB ((hR.isM hl).wide (by omega)) hs (by omega) hB).mono fun e w' ⟨⟨m,R',Q',X,hRd,hT⟩,h2⟩=>⟨?_,h2⟩
   obtain ⟨d1,d2,d3⟩:=hRd.done hrn hE
   rw [d3,d1] at hT
   rcases hT with ⟨_,h1⟩ | ⟨h1,_⟩
   ·exact ⟨_,[],h1,af8 _ _,rfl,fun i es z a=>(by simp at a)⟩
   ·obtain ⟨r,hr,hb⟩:=hbig
    rw [h1 r hr] at hb
    cases hb
  ·refine (afv w v _ n 1500 (hR.isM_z hS hzl) hs (by omega)).mono fun e w' ⟨⟨R',Q',hE',hT⟩,h2⟩=>⟨?_,h2⟩
   rw [aii,agz,←ahv,same hE'] at hT
   rcases hT with ⟨_,h1⟩ | ⟨h1,_⟩
   ·exact ⟨_,[],_,_,h1,aij _ _ _⟩
   ·obtain ⟨r,hr,hb⟩:=hbig
    rw [h1 r hr] at hb
    cases hb
 ·refine ⟨elR n (efOf R Q),0,0,(Q.length:Int),3*(1500+1),lg 1500,⟨n,avb,hn32,hEl⟩,fun w v hR=>?_,rank,fun w v fss hR hS=>?_,rank'⟩
  ·refine (afu w v _ n 1500 bndB ((hR.isM hl).wide (by omega)) hs (by omega) hB).mono fun e w' ⟨⟨m,R',Q',X,hRd,hT⟩,h2⟩=>⟨?_,h2⟩
   obtain ⟨d1,d2,d3⟩:=hRd.done hrn hE
   rw [d3,d1] at hT
   rcases hT with ⟨h1,_⟩ | ⟨_,rv,gss,h1,h3,h4⟩
   ·exact absurd h1 hbig
   ·exact ⟨rv,gss,h1,h3,h4⟩
  ·refine (afv w v _ n 1500 (hR.isM_z hS hzl) hs (by omega)).mono fun e w' ⟨⟨R',Q',hE',hT⟩,h2⟩=>⟨?_,h2⟩
   rw [aii,agz,←ahv,same hE'] at hT
   rcases hT with ⟨h1,_⟩ | ⟨_,rv,vs,lo,hi,h1,h3⟩
   ·exact absurd h1 hbig
   ·exact ⟨rv,vs,lo,hi,h1,h3⟩
theorem OtE.kq {K p:Nat} {w w' : World} {v:Value} {ess:List (List WE)} (h:OtE K w v ess) (hp:p<K) (hk:∀ k,k<w.heap.size→k≠p→w'.heap[k]? = w.heap[k]?):OtE K w' v ess:=by
 have own:∀ {e size n:Nat} {v:Value} {xs:List Value},w.ownsRow K e size v n xs→w'.ownsRow K e size v n xs:=fun {e size n v xs} h=>by
  obtain ⟨h1,h2 | ⟨g,cap,cur,e1,e2,e3,e4⟩⟩:=h
  ·exact ⟨h1,.inl h2⟩
  ·exact ⟨h1,.inr ⟨g,cap,cur,e1,e2,(hk g (aaa e3) (by omega)).trans e3,e4⟩⟩
 obtain ⟨vs,h1,h2⟩:=h
 refine ⟨vs,own h1,fun i u es a b=>⟨own (h2 i u es a b).own,fun e he=>?_⟩⟩
 obtain ⟨ao,cap,hv,g1,g2,g3,g4⟩:=(h2 i u es a b).ow e he
 refine ⟨ao,cap,hv,g1,g2,g3,?_⟩
 rcases g4 with g4 | ⟨k,off,cur,rfl,hB,hh,g5,g6⟩
 ·exact .inl g4
 ·exact .inr ⟨k,off,cur,rfl,hB,(hk k (aaa hh) (by omega)).trans hh,g5,g6⟩
end Lm
end Go.Proofs.YtpccfkdcpjplgaaGreat
namespace Go.Proofs.YtpccfkdcpjplgaaGreat
namespace Lm
open Go Go.RowKit Md
open Dm (WFr)
theorem Kp.cat {w w1 w2:World} {p:Nat} {bs bs' : List Nat} (h:Kp w w1 p bs) (h' : Kp w1 w2 p bs'):Kp w w2 p (bs ++ bs') :=
 ⟨h'.os.trans h.os,h'.tape.trans h.tape,h'.output.trans h.output,Nat.le_trans h.size h'.size,fun k hk hp hn=>(h'.other k (Nat.lt_of_lt_of_le hk h.size) hp (fun hm=>hn (List.mem_append.2 (.inr hm)))).trans (h.other k hk hp (fun hm=>hn (List.mem_append.2 (.inl hm))))⟩
set_option maxRecDepth 20000 in
set_option maxHeartbeats 4000000 in
theorem as7 (w:World) (p Q m bv n:Nat) (bs:List Nat) (es:List WE) (B T:Nat→Nat) (K S:Nat) (hb:Bs w p Q bs m) (hm:m+n≤100000) (h:BRow w bv n 0 es B T K S) (hQK:Q≤K) (hKb:K≤bv) (hbv:bv<S) (hpK:p<K) (hSw:S≤w.heap.size) (hd:∀ j ∈ bs,j<K∨S≤j) :
  Calls Tryz.prog 32 #[.pointer (some ⟨p,0,none⟩),.slice (some ⟨bv,0,none⟩) n n] w fun e w'=>e=.returned (.bool true)∧∃ bs' bx,Bs w' p Q bs' (m+n)∧Kp w w' p bx∧(∀ j ∈ bs',j ∈ bs∨w.heap.size≤j∨(K≤j∧j<S))∧∀ j ∈ bx,j ∈ bs∨w.heap.size≤j∨(K≤j∧j<S):=by
 have HB:=hide hb
 have HR:=hide h
 have HD:=hide hd
 have HI:=hide (And.intro hm (And.intro hQK (And.intro hKb (And.intro hbv (And.intro hpK hSw)))))
 have hn9:n≤100000:=by omega
 clear hb h hd hm hQK hKb hbv hpK hSw
 go_enter Tryz.func32,Tryz.ntmps32
 go_wp2_with fail
 go_loopw [5] (fun iv wr=>∃ (k:Nat) (bs' bx:List Nat),iv=.int .i64 k∧k≤n∧Bs wr p Q bs' (m+k)∧Kp w wr p bx∧BRow wr bv n k es B T K S∧(∀ j ∈ bs',∀ i,k≤i→i<n→j<B i∨T i≤j)∧bv ∉ bs'∧(∀ j ∈ bs',j ∈ bs∨w.heap.size≤j∨(K≤j∧j<S))∧∀ j ∈ bx,j ∈ bs∨w.heap.size≤j∨(K≤j∧j<S)) (fun iv _=>n - (intOf iv).toNat)
 case atStart =>
  refine ⟨0,bs,[],rfl,Nat.zero_le _,HB.out,Kp.refl _ _ _,HR.out,fun j hj i _ hi=>?_,fun hc=>?_,fun j hj=>.inl hj,fun j hj=>(by cases hj)⟩
  ·obtain ⟨_,_,_,r4,_⟩:=HR.out
   have:=r4 i hi
   have:=HD.out j hj
   omega
  ·have:=HD.out bv hc
   have:=HI.out
   omega
 case round =>
  obtain ⟨k,bs',bx,rfl,hk,hbk,hkp0,hrow,hdj,hnb,hin,hinx⟩:=hrel
  have HIN:=hide (And.intro hin hinx)
  have HKP:=hide hkp0
  clear hin hinx
  have HBK:=hide hbk
  have HROW:=hide hrow
  have HDJ:=hide hdj
  have HNB:=hide hnb
  by_cases hlt:k<n
  ·have hlt' : (k:Int)<(n:Int):=by omega
   obtain ⟨r1,r2,r3,r4,r5⟩:=hrow
   obtain ⟨e,he⟩:∃ e,es[k]? = some e:=⟨_,List.getElem?_eq_getElem (by omega)⟩
   obtain ⟨z,hz,hme⟩:=r3 k e (Nat.le_refl _) he
   obtain ⟨f1,f2⟩:=aa2 he
   have c1:wr.cell? ⟨bv,k*2+1,none⟩ = some (.slice e.a e.zs.length e.c):=by rw [cell_of_row _ _ _ _ _ (0,0) r2,List.getElem?_toArray,f2,hme]
   have hr4:=r4 k hlt
   have hi:=HI.out
   have hkps:=hkp0.size
   obtain ⟨p',q',hz',⟨n1,n2,n3,n4⟩,hbl⟩:=Lm.WFr.nr hz (Nat.le_refl (B k))
   have hbvn:¬ (p'≤bv∧bv<q'):=fun hc=>by
    obtain ⟨cur,hcur⟩:=hbl bv hc.1 hc.2
    rw [r2] at hcur
    injection hcur with hcur
    injection hcur with _ hcur
    exact absurd hcur (by decide)
   have HNR:Hid (p'<q'→B k≤p'∧q'≤T k):=n4
   have HBN:=hide hbvn
   have K1:=hide (awp wr p Q (m+k) bs' hbk (by omega) p' q' e.a e.c e.zs _ hz'.fr (by omega) (by omega) (fun j hj=>by have:=hdj j hj k (Nat.le_refl _) hlt;omega))
   clear hbk hkp0 hdj hnb r1 r2 r3 r4 r5 he hz hme f1 f2 hr4 hi hz' n1 n2 n3 n4 hbl hbvn hkps
   go_wp2_with fail
   refine K1.out.mono ?_
   rintro x w2 ⟨rfl,bs2,hb2,hkp,hj2⟩
   obtain ⟨r1,r2,r3,r4,r5⟩:=HROW.out
   have hr4:=r4 k hlt
   have hi:=HI.out
   have hsz:=HKP.out.size
   have hnr:=HNR.out
   have hin2:∀ j ∈ bs2,j ∈ bs∨w.heap.size≤j∨(K≤j∧j<S):=fun j hj=>by
    rcases hj2 j hj with h | h | h
    ·exact HIN.out.1 j h
    ·exact .inr (.inl (by omega))
    ·exact .inr (.inr (by omega))
   have hnb2:bv ∉ bs2:=fun hc=>by
    rcases hj2 bv hc with h | h | h
    ·exact HNB.out h
    ·omega
    ·exact HBN.out h
   have hdj2:∀ j ∈ bs2,∀ i,k+1≤i→i<n→j<B i∨T i≤j:=fun j hj i hi1 hi2=>by
    rcases hj2 j hj with h | h | h
    ·exact HDJ.out j h i (by omega) hi2
    ·have:=(r4 i hi2).2;omega
    ·have:=r5 k i (by omega) hi2;omega
   have HR2:Hid (BRow w2 bv n (k+1) es B T K S):=by
    refine ⟨r1,(hkp.other bv (by omega) (by omega) hnb2).trans r2,fun j e hj he=>?_,r4,r5⟩
    obtain ⟨z,g1,g2⟩:=r3 j e (by omega) he
    have hjn:j<n:=by have:=(List.getElem?_eq_some_iff.1 he).1;omega
    have hr:=r4 j hjn
    exact ⟨z,g1.kp hkp (by omega) (fun i hi'=>hdj2 i hi' j (by omega) hjn),g2⟩
   have HB2:=hide hb2
   have HK2:=hide (HKP.out.cat hkp)
   have HJ2:=hide hdj2
   have HN2:=hide hnb2
   have HI2:=hide hin2
   have HX2:Hid (∀ j ∈ bx ++ bs2,j ∈ bs∨w.heap.size≤j∨(K≤j∧j<S)):=(fun j hj=>by
    rcases List.mem_append.1 hj with h | h
    ·exact HIN.out.2 j h
    ·exact hin2 j h)
   clear hb2 hkp hj2 r1 r2 r3 r4 r5 hr4 hi hsz hnb2 hdj2 hin2 c1 hnr
   go_wp2
   go_roundw
   case rel=>exact ⟨k+1,bs2,bx ++ bs2,by go_num,by omega,HB2.out,HK2.out,HR2.out,fun j hj i hi1 hi2=>HJ2.out j hj i hi1 hi2,HN2.out,HI2.out,HX2.out⟩
   case measure=>simp [intOf];omega
  ·have hlt' : decide ((k:Int)<(n:Int))=false:=by simp;omega
   have hkn:k=n:=by omega
   subst hkn
   clear hbk hkp0 hrow hdj hnb
   go_wp2
   refine bodyPost_ret (v:=_) (by simp [results,Tryz.results32,go_sem];try rfl) rfl ⟨rfl,bs',bx,HBK.out,HKP.out,HIN.out.1,HIN.out.2⟩
set_option maxRecDepth 20000 in
set_option maxHeartbeats 4000000 in
theorem aw5 (w:World) (p Q m n K:Nat) (bs:List Nat) (rv:Value) (rows:List (List Int)) (L:Nat) (vs:List Value) (lo hi:Nat→Nat) (hb:Bs w p Q bs m) (hA:OwA K w rv rows L vs lo hi) (hrn:∀ r ∈ rows,r.length=n) (hm:m+rows.length*n≤100000) (hrl:rows.length≤100000) (hQK:Q≤K) (hpK:p<K) (hKw:K≤w.heap.size) (hd:∀ j ∈ bs,j<K) :
  Calls Tryz.prog 15 #[.pointer (some ⟨p,0,none⟩),rv] w fun e w'=>e=.returned (.bool true)∧∃ bs' bx,Bs w' p Q bs' (m+rows.length*n)∧Kp w w' p bx∧∀ j ∈ bx,j ∈ bs∨K≤j:=by
 obtain ⟨ao,cp,rfl,hnn⟩:=hA.m.is.parts
 have HB:=hide hb
 have HA:=hide hA
 have HRN:=hide hrn
 have HD:=hide hd
 have hvl:vs.length=rows.length:=by simpa using hA.own.1
 have HI:=hide (And.intro hm (And.intro hQK (And.intro hpK (And.intro hKw hvl))))
 obtain ⟨r,hr⟩:∃ r,rows.length=r:=⟨_,rfl⟩
 have HR:=hide hr
 rw [hr] at hm hnn hrl ⊢
 clear hb hA hrn hd hm hQK hpK hKw hvl hr
 go_enter Tryz.func15,Tryz.ntmps15
 go_wp2_with fail
 go_loopw [5] (fun iv wr=>∃ (k:Nat) (bs' bx:List Nat),iv=.int .i64 k∧k≤r∧Bs wr p Q bs' (m+k*n)∧Kp w wr p bx∧(∀ (i:Nat) (u:Value) (z:List Int),k≤i→vs[i]? = some u→rows[i]? = some z→RwI wr u z (lo i) (hi i))∧(∀ j ∈ bs',j ∈ bs∨w.heap.size≤j∨∃ i,i<k∧lo i≤j∧j<hi i)∧∀ j ∈ bx,j ∈ bs∨w.heap.size≤j∨∃ i,i<k∧lo i≤j∧j<hi i) (fun iv _=>r - (intOf iv).toNat)
 case atStart=>exact ⟨0,bs,[],rfl,Nat.zero_le _,by simpa using HB.out,Kp.refl _ _ _,fun i u z _ a b=>(HA.out.row i u z a b).2,fun j hj=>.inl hj,fun j hj=>(by cases hj)⟩
 case round =>
  obtain ⟨k,bs',bx,rfl,hk,hbk,hkp0,hrow,hin,hinx⟩:=hrel
  have HIN:=hide (And.intro hin hinx)
  have HKP:=hide hkp0
  have HBK:=hide hbk
  have HROW:=hide hrow
  clear hin hinx
  by_cases hlt:k<r
  ·have hlt' : (k:Int)<(r:Int):=by omega
   have hi0:=HI.out
   have hrr:=HR.out
   obtain ⟨u,hu⟩:∃ u,vs[k]? = some u:=⟨_,List.getElem?_eq_getElem (by omega)⟩
   obtain ⟨z,hz⟩:∃ z,rows[k]? = some z:=⟨_,List.getElem?_eq_getElem (by omega)⟩
   have hzn:z.length=n:=HRN.out z (List.mem_of_getElem? hz)
   obtain ⟨g,hg,hgl,x0⟩:∃ g,ao=some ⟨g,0,none⟩∧g<wr.heap.size∧wr.cell? ⟨g,k,none⟩ = some u:=by
    have hb1:=HA.out.blk
    have hlw:=HA.out.low
    obtain ⟨_,⟨h1,_⟩ | ⟨g,cap,cur,hv,hKg,hh,h2⟩⟩:=HA.out.own
    ·exact absurd h1 (by intro hc;injection hc with _ hc;omega)
    ·injection hv with hv1 hv2 hv3
     subst hv1
     have hgw:=aaa hh
     have hne:g ∉ bx:=fun hc=>by
      rcases HIN.out.2 g hc with h | h | ⟨i,h1,h3,h4⟩
      ·have:=HD.out g h;omega
      ·omega
      ·have:=hb1 i g (by omega) rfl;omega
     have hkeep:=HKP.out.other g hgw (by omega) hne
     refine ⟨g,rfl,Nat.lt_of_lt_of_le hgw HKP.out.size,?_⟩
     rw [cell_of_row _ _ _ _ _ (0,0) (hkeep.trans hh)]
     have hu' := hu
     rw [←h2.2.2.2,List.getElem?_take] at hu'
     split at hu'
     ·simpa using hu'
     ·cases hu'
   subst hg
   obtain ⟨bv,es,B,T,hbv1,hbv2,hbv3,hbr⟩:=hrow k u z (Nat.le_refl _) hu hz
   subst hbv1
   rw [hzn] at hbr x0
   have hlk:=HA.out.low k (by omega)
   have hkps:=hkp0.size
   have hd:∀ j ∈ bs',j<lo k∨hi k≤j:=fun j hj=>by
    rcases HIN.out.1 j hj with h | h | ⟨i,h1,h2,h3⟩
    ·have:=HD.out j h;omega
    ·omega
    ·have:=HA.out.apart i k h1 (by omega);omega
   have hmul:k*n+n≤r*n:=by
    rw [←Nat.succ_mul]
    exact Nat.mul_le_mul_right n hlt
   have K1:=hide (as7 wr p Q (m+k*n) bv n bs' es B T (lo k) (hi k) hbk (by rw [hrr] at hi0;omega) hbr (by omega) hbv2 hbv3 (by omega) (by omega) hd)
   have HHD:=hide hd
   have HU:=hide (And.intro hu hz)
   clear hbk hkp0 hrow hi0 hu hz hbr hd hlk hkps hmul hrr
   go_wp2_with fail
   refine K1.out.mono ?_
   rintro x w2 ⟨rfl,bs2,bx2,hb2,hkp,hj2,hjx⟩
   have hsz:=HKP.out.size
   have hmap:∀ j,(j ∈ bs'∨wr.heap.size≤j∨(lo k≤j∧j<hi k))→j ∈ bs∨w.heap.size≤j∨∃ i,i<k+1∧lo i≤j∧j<hi i:=fun j hj=>by
    rcases hj with h | h | h
    ·rcases HIN.out.1 j h with h | h | ⟨i,h1,h2⟩
     ·exact .inl h
     ·exact .inr (.inl h)
     ·exact .inr (.inr ⟨i,by omega,h2⟩)
    ·exact .inr (.inl (by omega))
    ·exact .inr (.inr ⟨k,by omega,h⟩)
   have HB2:Hid (Bs w2 p Q bs2 (m+(k+1)*n)):=(by rw [Nat.succ_mul,←Nat.add_assoc];exact hb2)
   have HK2:=hide (HKP.out.cat hkp)
   have HJ2:Hid (∀ j ∈ bs2,j ∈ bs∨w.heap.size≤j∨∃ i,i<k+1∧lo i≤j∧j<hi i):=(fun j hj=>hmap j (hj2 j hj))
   have HX2:Hid (∀ j ∈ bx ++ bx2,j ∈ bs∨w.heap.size≤j∨∃ i,i<k+1∧lo i≤j∧j<hi i):=(fun j hj=>by
    rcases List.mem_append.1 hj with h | h
    ·rcases HIN.out.2 j h with h | h | ⟨i,h1,h2⟩
     ·exact .inl h
     ·exact .inr (.inl h)
     ·exact .inr (.inr ⟨i,by omega,h2⟩)
    ·exact hmap j (hjx j h))
   have HR2:Hid (∀ (i:Nat) (u:Value) (z:List Int),k+1≤i→vs[i]? = some u→rows[i]? = some z→RwI w2 u z (lo i) (hi i)):=(fun i u z hki hu hz=>by
    have hil:=(List.getElem?_eq_some_iff.1 hz).1
    have hl:=HA.out.low i hil
    have hap:=HA.out.apart k i (by omega) hil
    have hi0:=HI.out
    refine (HROW.out i u z (by omega) hu hz).kp hkp (.inl (by omega)) fun j hj=>?_
    rcases hmap j (hjx j hj) with h | h | ⟨i',h1,h2,h3⟩
    ·have:=HD.out j h;omega
    ·omega
    ·have:=HA.out.apart i' i (by omega) hil;omega)
   clear hb2 hkp hj2 hjx hsz hmap x0
   go_wp2
   go_roundw
   case rel=>exact ⟨k+1,bs2,bx ++ bx2,by go_num,by omega,HB2.out,HK2.out,HR2.out,HJ2.out,HX2.out⟩
   case measure=>simp [intOf];omega
  ·have hlt' : decide ((k:Int)<(r:Int))=false:=by simp;omega
   have hkn:k=r:=by omega
   subst hkn
   clear hbk hkp0 hrow
   go_wp2
   refine bodyPost_ret (v:=_) (by simp [results,Tryz.results15,go_sem];try rfl) rfl ⟨rfl,bs',bx,HBK.out,HKP.out,fun j hj=>by
    have hi0:=HI.out
    have hrr:=HR.out
    rcases HIN.out.2 j hj with h | h | ⟨i,h1,h2,h3⟩
    ·exact .inl h
    ·exact .inr (by omega)
    ·have:=HA.out.low i (by omega);exact .inr (by omega)⟩
end Lm
end Go.Proofs.YtpccfkdcpjplgaaGreat
namespace Go.Proofs.YtpccfkdcpjplgaaGreat
namespace Lm
open Go Go.RowKit Md
set_option maxRecDepth 20000 in
set_option maxHeartbeats 32000000 in
theorem aog (w:World) (v0:Value) (ess:List (List WE)) (cols:Int) (h0:RwM w v0 ess) (hlen:∀ es ∈ ess,es.length≤4398046511103∧∀ e ∈ es,e.m≤35184372088832) (hout:ess.length≤5864062014804) :
  Calls Tryz.prog 3 #[v0,.int .i64 cols] w fun e w'=>e=.returned (.bool true)∧Below w.heap.size w w' := by
 obtain ⟨a0,c0,rfl,hm0⟩:=h0.parts
 have HO:=hide (And.intro hout hlen)
 have HL:Hid (∀ es ∈ ess,∀ e ∈ es,e.m≤35184372088832):=(fun es he=>(hlen es he).2)
 have H0:=hide h0
 have K1:=hide (awi w)
 clear h0 hlen hout
 obtain ⟨m,hm⟩:∃ m,ess.length=m:=⟨_,rfl⟩
 have HM:=hide hm
 rw [hm] at H0 hm0 ⊢
 clear hm
 go_enter Tryz.func3,Tryz.ntmps3
 go_wp2_with fail
 refine K1.out.mono ?_
 rintro e w1 ⟨rfl,hb1⟩
 have HB1:=hide hb1
 have K2:=arc w1 _ ess (H0.out.below hb1) HL.out
 obtain ⟨lv,hlv⟩:∃ lv,IntKind.i64.wrap (lenM ess:Int)=lv:=⟨_,rfl⟩
 rw [hlv] at K2
 have K2:=hide K2
 have HLV:=hide hlv
 clear hlv
 clear hb1 K1
 go_wp2_with fail
 refine K2.out.mono ?_
 rintro e w2 ⟨rfl,hb2⟩
 have HB2:=hide (HB1.out.trans (hb2.mono HB1.out.size))
 clear hb2 K2
 by_cases hlong:lv > 1500
 ·have hl' : lv > 1500:=hlong
  go_wp2
  refine bodyPost_ret (v:=_) (by simp [results,Tryz.results3,go_sem];try rfl) rfl ⟨rfl,HB2.out⟩
 have hl' : decide (lv > 1500)=false:=by simp;omega
 obtain ⟨E,f,g,q,L,M,hC⟩:∃ E f g q L M,RedC ess cols E f g q L M:=by
  by_cases hsh:Shaped (zsM ess) cols
  ·have hlm:lenM ess≤1500:=by
    have h1:=aof hsh HL.out
    have h2:=HLV.out
    rw [avg (by omega) (by omega)] at h2
    omega
   obtain ⟨n,rfl⟩:∃ n:Nat,cols=(n:Int):=⟨cols.toNat,by have:=hsh.1;omega⟩
   exact ard H0.out hlm hsh
  ·exact ⟨_,_,_,_,_,_,as6 H0.out HL.out hsh⟩
 have HC:=hide hC
 have hff:(f != f)=false:=by simp
 have hgg:(g != g)=false:=by simp
 have hqq:(q != q)=false:=by simp
 have hbK:=hAl w2 (.cells #[.slice none 0 0,.slice none 0 0] 29)
 have HBKN:=hide (heap_alloc_new w2 (.cells #[.slice none 0 0,.slice none 0 0] 29))
 have HB3:=hide (HB2.out.trans (hbK.mono HB2.out.size))
 have HSZ3:Hid (w.heap.size≤w2.heap.size∧w2.heap.size<(w2.alloc (.cells #[.slice none 0 0,.slice none 0 0] 29)).heap.size):=⟨HB2.out.size,by simp⟩
 have K3:=hide (HC.out.refE _ _ (H0.out.below HB3.out))
 clear hC hbK hlong
 go_wp2_with fail
 refine K3.out.mono ?_
 rintro e w4 ⟨⟨wv,gss,rfl,hOt,hCan⟩,hb4⟩
 generalize hWk:w2.alloc (.cells #[.slice none 0 0,.slice none 0 0] 29)=wk at *
 generalize hf2:w2.heap.size=p at *
 obtain ⟨wa,wc,rfl⟩:=hOt.shp
 have HOT:=hide hOt
 have HCN:=hide hCan
 have HB34:=hide hb4
 have HB4:=hide (HB3.out.trans (hb4.mono HB3.out.size))
 have K4:=hide (HC.out.refR _ _ (H0.out.below HB4.out))
 clear hOt hCan hb4 K3 hWk hf2
 go_wp2_with fail
 refine K4.out.mono ?_
 rintro e ws ⟨rfl,hb5⟩
 have HOS:=hide (HOT.out.below hb5)
 have HB5:=hide (HB4.out.trans (hb5.mono HB4.out.size))
 have hb35:=HB34.out.trans (hb5.mono HB34.out.size)
 have HBK:Hid (Bs ws p ws.heap.size [] 0):=Bs.new ((hb35.block _ (aaa HBKN.out)).trans HBKN.out)
 have HSZ5:Hid (w.heap.size≤p∧p<wk.heap.size∧wk.heap.size≤ws.heap.size):=⟨HSZ3.out.1,HSZ3.out.2,hb35.size⟩
 clear hb5 K4 HB34 HOT HB4 hb35 HBKN HSZ3 HB3 HB2 HB1
 obtain ⟨n,hEn,hn32,hE32⟩:=HC.out.len
 have HEN:=hide hEn
 have hen:E.length*n≤1024:=Nat.le_trans (Nat.mul_le_mul hE32 hn32) (by decide)
 obtain ⟨en,hen'⟩:∃ en,E.length*n=en:=⟨_,rfl⟩
 rw [hen'] at hen
 have HEE:=hide hen'
 clear hEn hen'
 go_wp2_with fail
 go_loopw [10] (fun iv wr=>∃ (k:Nat) (bs:List Nat),iv=.int .i64 k∧k≤2∧Below w.heap.size w wr∧Bs wr p ws.heap.size bs (k*en)∧ws.heap.size≤wr.heap.size∧∀ j,j<ws.heap.size→j≠p→wr.heap[j]? = ws.heap[j]?) (fun iv _=>2 - (intOf iv).toNat)
 case atStart=>exact ⟨0,[],rfl,Nat.zero_le _,HB5.out,by simpa using HBK.out,Nat.le_refl _,fun j _ _=>rfl⟩
 case round =>
  obtain ⟨k,bs,rfl,hk,hbw,hbs,hsz,hkeep⟩:=hrel
  have HW:=hide hbw
  have HBS:=hide hbs
  have HKP:=hide hkeep
  by_cases hlt:k<2
  ·have hlt' : (k:Int)<2:=by omega
   have K1:=hide (an8 wr _ ess (H0.out.below hbw) HO.out.1 HO.out.2)
   clear hbw hbs hkeep
   go_wp2_with fail
   refine K1.out.mono ?_
   rintro e x1 ⟨gv,fss,rfl,hG,hS,hx1⟩
   obtain ⟨ga,gc,rfl⟩:=hG.shp
   have HG:=hide hG.rwM
   have HS:=hide hS
   have HX1:=hide hx1
   have K2:=hide (HC.out.prE x1 _ fss hG.rwM hS)
   clear hG hS hx1 K1
   go_wp2_with fail
   refine K2.out.mono ?_
   rintro e x2 ⟨⟨mv,vs,lo,hi,rfl,hA⟩,hx2⟩
   obtain ⟨ma,mc,rfl,_⟩:=hA.m.is.parts
   have HA:=hide hA
   have HX12:=hide hx2
   have K3:=hide (HC.out.prR x2 _ fss (HG.out.below hx2) HS.out)
   clear hA hx2 K2
   go_wp2_with fail
   refine K3.out.mono ?_
   rintro e x3 ⟨rfl,hx3⟩
   have HA3:=hide (HA.out.below hx3)
   have HG3:=hide ((HG.out.below HX12.out).below hx3)
   have HX13:=hide (HX12.out.trans (hx3.mono HX12.out.size))
   have HX03:=hide (HX1.out.trans (HX13.out.mono HX1.out.size))
   have hO3:OtE wk.heap.size wr (.slice wa gss.length wc) gss:=HOS.out.kq HSZ5.out.2.1 HKP.out
   have HO3:=hide (hO3.below HX03.out)
   have K4:=hide (afs x3 _ _ E M L HA3.out.m.can (HO3.out.canM HCN.out))
   clear hx3 K3 hO3 HA HG
   go_wp2_with (go_at_call 13;refine (aw4 _ _).mono ?_;rintro r w' ⟨rfl,rfl⟩)
   refine K4.out.mono ?_
   rintro e x4 ⟨rfl,hx4⟩
   have HX34:=hide hx4
   have HX04:=hide (HX03.out.trans (hx4.mono HX03.out.size))
   have HWX4:=hide (HW.out.trans (HX04.out.mono HW.out.size))
   have K5:=hide (an9 x4 _ _ fss ess (HG3.out.below hx4) (H0.out.below HWX4.out) HS.out)
   clear hx4 K4
   go_wp2_with fail
   refine K5.out.mono ?_
   rintro e x5 ⟨rfl,hx5⟩
   have HX35:=hide (HX34.out.trans (hx5.mono HX34.out.size))
   have HX05:=hide (HX03.out.trans (HX35.out.mono HX03.out.size))
   have hsz5:=HSZ5.out
   have hlo:∀ j ∈ bs,j<x1.heap.size:=fun j hj=>Nat.lt_of_lt_of_le (HBS.out.low j hj).2 HX1.out.size
   have h1:=HX1.out.size
   have h13:=HX13.out.size
   have h35:=HX35.out.size
   have K6:=aw5 x5 p ws.heap.size (k*en) n x1.heap.size bs _ E M vs lo hi (HBS.out.below HX05.out) (HA3.out.below HX35.out) HEN.out (by rw [HEE.out];have:k*en≤2*en:=Nat.mul_le_mul_right _ hk;omega) (by omega) (by omega) (by omega) (by omega) hlo
   rw [HEE.out] at K6
   have K6:=hide K6
   clear hx5 K5 hsz5 hlo h1 h13 h35
   go_wp2_with fail
   refine K6.out.mono ?_
   rintro e x6 ⟨rfl,bs',bx,hb6,hkp,hbx⟩
   have hsz5:=HSZ5.out
   have h1:=HX1.out.size
   have h05:=HX05.out.size
   have h6:=hkp.size
   have hge:∀ j ∈ bx,ws.heap.size≤j:=fun j hj=>by
    rcases hbx j hj with h | h
    ·exact (HBS.out.low j h).1
    ·omega
   have HB6:Hid (Bs x6 p ws.heap.size bs' ((k+1)*en)):=(by rw [Nat.succ_mul];exact hb6)
   have HW6:=hide ((HW.out.trans (HX05.out.mono HW.out.size)).trans (hkp.below hsz5.1 (fun j hj=>by have:=hge j hj;omega) (by omega)))
   have HK6:Hid (ws.heap.size≤x6.heap.size∧∀ j,j<ws.heap.size→j≠p→x6.heap[j]? = ws.heap[j]?):=⟨by omega,fun j hj hp=>by
    rw [hkp.other j (by omega) hp (fun hc=>by have:=hge j hc;omega),HX05.out.block j (by omega)]
    exact HKP.out j hj hp⟩
   clear hb6 hkp hbx hsz5 h1 h05 h6 hge K6
   go_wp2
   go_roundw
   case rel=>exact ⟨k+1,bs',by go_num,by omega,HW6.out,HB6.out,HK6.out.1,HK6.out.2⟩
   case measure=>simp [intOf];omega
  ·have hlt' : decide ((k:Int)<2)=false:=by simp;omega
   have hk2:k*en≤100000:=by have:k*en≤2*en:=Nat.mul_le_mul_right _ hk;omega
   have K7:=hide (av2 wr p _ _ _ hbs hk2)
   clear hbw hbs hkeep hk2
   go_wp2_with fail
   refine K7.out.mono ?_
   rintro e x7 ⟨rfl,hx7⟩
   have HB7:=hide (HW.out.trans (hx7.mono HW.out.size))
   clear hx7 K7
   go_wp2
   refine bodyPost_ret (v:=_) (by simp [results,Tryz.results3,go_sem];try rfl) rfl ⟨rfl,HB7.out⟩
end Lm
end Go.Proofs.YtpccfkdcpjplgaaGreat
namespace Go.Proofs.YtpccfkdcpjplgaaGreat
namespace matrixReducesLaw
open Go.ChangeShapes Go.WideShapes Go.ChangeAt Go.RowKit
open Go.ChangeMaps (open_string shut_string)
theorem own:ownKnob Tryz.prog.godebug=none:=by kernel_rfl
theorem laidOut:laidOutB Tryz.prog=true:=by kernel_rfl
set_option linter.unusedVariables false in
set_option maxRecDepth 100000 in
theorem lifted (os:Os) (started:os.Started) (H:Type) (enc:TypeId × Value→H) :
  ReturnsInHanded {} Tryz.checked os 3 .any (Rows.matrixReducesSpec.pre6 enc Tryz.prog Tryz.f3 Rows.matrixReducesRow.domain false) (Rows.matrixReducesSpec.post enc Tryz.prog Tryz.f3 false true false false):=by
 refine returnsInHanded_of_change_sized (C:=Tryz.checked) own started (by kernel_rfl) Tryz.func3
  (ChangeSpec.witness6 (enc:=enc) (C:=Tryz.checked) false ⟨#[],#[.slice none 0 0,.int .i64 0],[]⟩ 8 (by kernel_rfl) (by kernel_rfl) (by kernel_rfl) (by kernel_rfl)) ?_
 intro W base args ds gs before hval0 hW hcnd hsz0 _
 have hval:∀ (j:Nat) t v,Tryz.f3.params[j]? = some t→args[j]? = some v→Value.okWide Tryz.prog W .any base t v:=hval0
 have hW' := hW
 obtain ⟨p,q,hA0,hV,rfl,hfz,hnd⟩:=hW
 have hA:DataW.TrodAll enc Tryz.prog W 0 (fun _=>true) true Tryz.f3.params.toList args.toList ds p:=hA0
 have hsz:(DataW.weightsEach Tryz.prog (Tryz.f3.params.toList ++ Rows.matrixReducesSpec.plain.varTypes Tryz.prog) (ds ++ gs)).all (·≤reachBytes)=true:=hsz0
 rw [Tryz.params3] at hA hval hsz
 obtain ⟨v0,vs0,d0,ds0,p0,q0,hargs,rfl,rfl,h0,r_0⟩:=trodAll_cons hA
 obtain ⟨v1,vs1,d1,ds1,p1,q1,rfl,rfl,rfl,h1,r_1⟩:=trodAll_cons r_0
 obtain ⟨rfl,rfl,rfl⟩:=trodAll_nil r_1
 obtain rfl:args = #[v0,v1]:=by cases args;simp_all
 obtain ⟨rfl,rfl⟩:=trodVars_none hV
 obtain ⟨a0,len0,cap0,rfl⟩:=okWide_slice Tryz.underlying22 (hval 0 22 v0 rfl rfl)
 have k0:=h0
 have lt0:∀ x ∈ p0,x.block<W.heap.size:=by obtain ⟨m,hm⟩:=k0;exact DataW.trod_lt m _ _ _ hm
 obtain ⟨z0,w0,b0,l0⟩:∃ ess,Lm.RwM W (.slice a0 len0 cap0) ess∧(∀ es ∈ ess,es.length≤4398046511103∧∀ e ∈ es,e.m≤35184372088832)∧ess.length≤5864062014804:=by
  obtain ⟨fuel,hf⟩:=h0
  refine Lm.alq (x:=(d0,p0)) (by simpa [Value.cells] using hf) (fun k hk=>?_)
  have:=List.all_eq_true.1 hsz k (DataW.weights_mem_each (j:=0) (t:=22) (d:=d0) rfl rfl k hk)
  simpa using this
 obtain ⟨a1,rfl,rfl,rfl,w1⟩:=open_int Tryz.underlying3 (hval 1 3 v1 rfl rfl) h1
 clear hA0 hval0
 refine (Lm.aog W _ z0 a1 w0 b0 l0).mono fun e W' ⟨he,bel⟩=>?_
 subst he
 exact ⟨_,rfl,_,_,_,[],_,[],hW',trodAll_mk1 (shut_bool Tryz.underlying4 _),(trodAll_cons_mk (Below.trod laidOut (by kernel_rfl) (of_decide_eq_true (by kernel_rfl)) k0 bel lt0) (trodAll_cons_mk (shut_int Tryz.underlying3 w1) trodAll_mk0)),rfl,bel.frame _,fun h=>by cases h⟩
theorem over:Rows.matrixReducesRow.holds Tryz.pinned (OpenSpec.ofChange Rows.matrixReducesSpec) :=
 OpenClaim.holds_of_wide 3 Tryz.f3 rfl rfl rfl rfl rfl rfl rfl ⟨rfl,rfl,rfl,rfl,rfl⟩ rfl rfl rfl rfl rfl (by kernel_rfl) Tryz.func3 (by kernel_rfl)
  (of_decide_eq_true (by kernel_rfl)) (by unfold Func.isWrapper;first | (rw [if_pos (by decide +kernel)];kernel_rfl) | (rw [if_neg (by decide +kernel)];exact ⟨rfl,rfl⟩))
  (fun os started H enc _=>lifted os started H enc)
end matrixReducesLaw
theorem matrixReduces_holds:Rows.MatrixReducesSaid:=matrixReducesLaw.over
#print axioms matrixReduces_holds
end Go.Proofs.YtpccfkdcpjplgaaGreat
