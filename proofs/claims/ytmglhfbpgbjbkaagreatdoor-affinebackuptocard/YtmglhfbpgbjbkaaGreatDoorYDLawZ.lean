/-
  The given statement on AffineBack, for every input of bulk at most 1048576: the call answers true, and each argument reads behind it as it read before; and its card. Its condition: the two tables of unicode/utf8 are laid as the row lists them; the card ties that to the program's text. Beside it: What the tokens of a printed row say: the row. No program is named here. The law's own question: is no number of the row too long? AffineBack: the names, fractions of whole numbers, and what the printed row comes to. What every program answers that is one: package affine, the walk. AffinePulls, the walk. Rows of whole numbers: how long they are together, copied, held against one another. AffineBack, the walk.
-/
import Derived.Test.YtmglhfbpgbjbkaaGreatDoorRows
import Derived.Test.YtmglhfbpgbjbkaaGreatDoorCards
import Derived.Test.YtmglhfbpgbjbkaaGreatDoorTie
import Derived.ProofKit
import Derived.OpenShut
import Derived.ShutString
import Derived.ChangeOld
import Derived.SizedLaws
import Derived.Lib.SmallJoins
import Derived.Lib.LaidU8
import Derived.Lib.LaidIn
import Derived.Deep.DeepHandedRow
import Derived.SliceStrings
import Derived.JoinedCond
import Derived.Test.YtmglhfbpgbjbkaaGreatDoorYDLawZ4
set_option maxRecDepth 20000
set_option maxHeartbeats 40000000
namespace Go.Proofs.YtmglhfbpgbjbkaaGreatDoor
namespace Lm
open Go Go.RowKit
theorem aso(f:Nat->Pl):∀(ts:List (Int×ByteArray)) (n i:Nat),(mkt f n ts)[i]? = (ts[i]?).map (fun t=>⟨t.1,t.2,f (n+i)⟩)
 | [],_,_=>by simp[mkt]
 |t::ts,n,0=>by simp[mkt]
 |t::ts,n,i+1=>by
  rw[mkt,List.getElem?_cons_succ,List.getElem?_cons_succ,aso f ts (n+1) i,show n+1+i=n+(i+1) by omega]
theorem aa6{f:Nat->Pl}{T:List (Int×ByteArray)}{i:Nat}{ts:List (Int×ByteArray)}(h:T.drop i=ts)(j:Nat){t:Int×ByteArray}(ht:ts[j]? = some t):(mkt f 0 T)[i+j]? = some ⟨t.1,t.2,f (i+j)⟩:=by
 rw[aso,<-List.getElem?_drop,h,ht,Nat.zero_add];rfl
theorem abr{T a b:List (Int×ByteArray)}{i:Nat}(h:T.drop i=a++b):T.drop (i+a.length)=b:=by
 rw[<-List.drop_drop,h,List.drop_left]
theorem aj3{z:Int}(m:Bool)(h:m=decide (z<0)):(0:Rat)+sgq m ((z.natAbs:Int):Rat)=(z:Rat):=by
 subst h;rw[Rat.zero_add];unfold sgq;by_cases h:z<0
 ·rw[decide_eq_true h,if_pos rfl,show((z.natAbs:Nat):Int) = -z by omega,Rat.intCast_neg,Rat.neg_neg]
 ·rw[decide_eq_false h,if_neg (by decide),show((z.natAbs:Nat):Int)=z by omega]
theorem ans{z:Int}(h:(z.natAbs:Int)<pw 32):Fit (((z.natAbs:Int)):Rat) 80:=by
 have h1:pw 32<pw 80:=by decide +kernel
 exact aw3 (by rw[Int.natAbs_natCast];omega) (by decide)
variable {f:Nat->Pl} {T:List (Int×ByteArray)} {vs:List ByteArray}
theorem aiv{sn:Bool}{rs:List Rat}{i k:Nat}{z:Int}{nc:List Nat}{rest:List (Int×ByteArray)}(hd:T.drop i=ttT z nc++rest)(hk:ixS (bts (encs nc)) vs=some k)(hz:(z.natAbs:Int)<pw 32)(hr:rs[k]? = some 0):
  TermR (mkt f 0 T) vs 80 sn rs i true (i+(ttT z nc).length) (rs.set k (0+sgq sn ((z.natAbs:Int):Rat))):=by
 have hf:=ans hz;unfold ttT at hd ⊢;by_cases h1:z.natAbs=1
 ·rw[if_pos h1]at hd ⊢;have h0:=aa6 (f:=f) hd 0 rfl;rw[Nat.add_zero]at h0;rw[show((z.natAbs:Int):Rat)=1 by rw[h1];rfl]at hf ⊢;exact .name _ h0 rfl true (i+1) _ (.yes _ k 0 h0 hk hr hf (fit0 sn hf))
 ·rw[if_neg h1]at hd ⊢;have h0:=aa6 (f:=f) hd 0 rfl;have h2:=aa6 (f:=f) hd 1 rfl;have h3:=aa6 (f:=f) hd 2 rfl;rw[Nat.add_zero]at h0;exact .star _ h0 rfl (i+1) _ (abt h0 h2 rfl (agi hz).z) hf _ h2 rfl true (i+3) _ (.yes _ k 0 h3 hk hr hf (fit0 sn hf))
def Side2(l:List Tk)(vs:List ByteArray)(j:Nat)(rs:List Rat)(k:Nat)(rs':List Rat):Prop:=∃t,l[j]? = some t/\((tpm t=false/\k=j/\rs'=rs)\/(tpm t=true/\SideL l vs 80 false (tsg t sMinus) (j+1) rs true k rs'))
theorem agj{l:List Tk}{m:Bool}{i j k:Nat}{rs rs1 rs':List Rat}(h:TermR l vs 80 m rs i true j rs1)(h2:Side2 l vs j rs1 k rs'):SideL l vs 80 false m i rs true k rs':=by
 have hm:(m != false)=m:=by cases m <;> rfl
 obtain⟨t,ht,⟨hp,rfl,rfl⟩|⟨hp,hs⟩⟩:=h2
 ·exact .last m i k rs rs' (by rw[hm];exact h) t ht hp
 ·exact .more m i j k rs rs1 rs' true (by rw[hm];exact h) t ht hp hs
def fill:List Rat->Nat->List (Int×List Nat)->List Rat
 |rs,_,[]=>rs
 |rs,k,p::ps=>fill (rs.set k (p.1:Rat)) (k+1) ps
theorem acy{rs:List Rat}{k:Nat}(h:rs[k]? = some 0):rs.set k ((0:Int):Rat)=rs:=by
 apply List.ext_getElem?;intro i;rw[List.getElem?_set];split
 ·next e=>subst e;rw[h];split <;> simp_all
 ·rfl
structure Fits3 (vs:List ByteArray) (ps:List (Int×List Nat)) (k:Nat) (rs:List Rat):Prop where
 ix:∀n p,ps[n]? = some p->ixS (bts (encs p.2)) vs=some (k+n)
 ze:∀n,n<ps.length->rs[k+n]? = some 0
theorem Fits3.here{p:Int×List Nat}{ps:List (Int×List Nat)}{k:Nat}{rs:List Rat}(h:Fits3 vs (p::ps) k rs):ixS (bts (encs p.2)) vs=some k/\rs[k]? = some 0:=⟨h.ix 0 p rfl,h.ze 0 (by simp)⟩
theorem Fits3.tail{p:Int×List Nat}{ps:List (Int×List Nat)}{k:Nat}{rs:List Rat}(h:Fits3 vs (p::ps) k rs)(x:Rat):Fits3 vs ps (k+1) (rs.set k x):=by
 refine⟨fun n q hq=>?_,fun n hn=>?_⟩
 ·have:=h.ix (n+1) q (by simpa using hq);rw[this];congr 1;omega
 ·have:=h.ze (n+1) (by simp;omega);rw[List.getElem?_set_ne (by omega),<-this];congr 1;omega
theorem agk{rest:List (Int×ByteArray)}: ∀(ps:List (Int×List Nat)) (k j:Nat) (rs:List Rat),PsOk ps->Fits3 vs ps k rs->T.drop j=leftT false ps++tS 61::rest->Side2 (mkt f 0 T) vs j rs (j+(leftT false ps).length) (fill rs k ps)
 | [],k,j,rs,_,_,hd=>by
  have h0:=aa6 (f:=f) hd 0 rfl;exact⟨_,h0,.inl ⟨rfl,rfl,rfl⟩⟩
 |p::ps,k,j,rs,hp,hF,hd=>by
  rw[leftT]at hd ⊢;rw[fill];obtain⟨hi,hz⟩:=hF.here;by_cases h:p.1=0
  ·rw[if_pos h]at hd ⊢;have hF':=hF.tail ((0:Int):Rat);rw[acy hz]at hF';have ih:=agk ps (k+1) j rs hp.tail hF' hd;rw[h,acy hz];exact ih
  ·rw[if_neg h]at hd ⊢;have key:∀s:UInt8,tpT p.1 false = [tS s]->tpm ⟨3,⟨#[s]⟩,f j⟩=true->tsg ⟨3,⟨#[s]⟩,f j⟩ sMinus=decide (p.1<0)->Side2 (mkt f 0 T) vs j rs (j+(tpT p.1 false++(ttT p.1 p.2++leftT false ps)).length) (fill (rs.set k (p.1:Rat)) (k+1) ps):=by
    intro s e1 e2 e3;rw[e1]at hd ⊢;rw[List.append_assoc]at hd;have h0:=aa6 (f:=f) hd 0 rfl;have h1:=abr hd;rw[List.append_assoc]at h1;have h2:=abr h1;have ht:=aiv (f:=f) (sn:=decide (p.1<0)) h1 hi (hp.sh p (by simp)) hz;rw[aj3 _ rfl]at ht;have ih:=agk ps (k+1) _ _ hp.tail (hF.tail (p.1:Rat)) h2;refine⟨_,h0,.inr ⟨e2,?_⟩⟩;show SideL _ vs 80 false (tsg ⟨3,⟨#[s]⟩,f j⟩ sMinus) (j+1) rs true _ _;rw[e3];have:=agj ht ih;rw[show j+([tS s]++(ttT p.1 p.2++leftT false ps)).length=j+[tS s].length+(ttT p.1 p.2).length+(leftT false ps).length by simp;omega];exact this
   by_cases h0:p.1<0
   ·exact key 45 (by simp[tpT,h0]) rfl (by rw[decide_eq_true h0];rfl)
   ·exact key 43 (by simp[tpT,h0]) rfl (by rw[decide_eq_false h0];rfl)
theorem alr{rest:List (Int×ByteArray)}: ∀(ps:List (Int×List Nat)) (k j:Nat) (rs:List Rat),PsOk ps->Fits3 vs ps k rs->leftT true ps≠[]->T.drop j=leftT true ps++tS 61::rest->SideR (mkt f 0 T) vs 80 false j rs true (j+(leftT true ps).length) (fill rs k ps)
 | [],k,j,rs,_,_,hne,_=>absurd rfl hne
 |p::ps,k,j,rs,hp,hF,hne,hd=>by
  rw[leftT]at hne hd ⊢;rw[fill];obtain⟨hi,hz⟩:=hF.here;by_cases h:p.1=0
  ·rw[if_pos h]at hne hd ⊢;have hF':=hF.tail ((0:Int):Rat);rw[acy hz]at hF';have ih:=alr ps (k+1) j rs hp.tail hF' hne hd;rw[h,acy hz];exact ih
  ·rw[if_neg h]at hd ⊢;by_cases h0:p.1<0
   ·rw[show tpT p.1 true = [tS 45] by simp[tpT,h0]]at hd ⊢;rw[List.append_assoc]at hd;have h00:=aa6 (f:=f) hd 0 rfl;have h1:=abr hd;rw[List.append_assoc]at h1;have h2:=abr h1;have ht:=aiv (f:=f) (sn:=true) h1 hi (hp.sh p (by simp)) hz;rw[aj3 true (by rw[decide_eq_true h0])]at ht;have ih:=agk (f:=f) ps (k+1) _ _ hp.tail (hF.tail (p.1:Rat)) h2;refine⟨_,h00,?_⟩;have:=agj ht ih;rw[show j+([tS 45]++(ttT p.1 p.2++leftT false ps)).length=j+[tS 45].length+(ttT p.1 p.2).length+(leftT false ps).length by simp;omega];exact this
   ·rw[show tpT p.1 true = [] by simp[tpT,h0]]at hd ⊢;rw[List.nil_append,List.append_assoc]at hd;have h2:=abr hd;have ht:=aiv (f:=f) (sn:=false) hd hi (hp.sh p (by simp)) hz;rw[aj3 false (by rw[decide_eq_false h0])]at ht;have ih:=agk (f:=f) ps (k+1) _ _ hp.tail (hF.tail (p.1:Rat)) h2;have:=agj ht ih;rw[show j+(([]:List (Int×ByteArray))++(ttT p.1 p.2++leftT false ps)).length=j+(ttT p.1 p.2).length+(leftT false ps).length by simp;omega];have h00:∃t,(mkt f 0 T)[j]? = some t/\tpm t=false/\tsg t sMinus=false:=by
     unfold ttT at hd;by_cases h1:p.1.natAbs=1
     ·rw[if_pos h1]at hd;exact⟨_,aa6 (f:=f) hd 0 rfl,rfl,rfl⟩
     ·rw[if_neg h1]at hd;exact⟨_,aa6 (f:=f) hd 0 rfl,rfl,rfl⟩
    obtain⟨t,e1,e2,e3⟩:=h00;refine⟨t,e1,?_⟩;rw[e2,e3];exact this
theorem axb{j:Nat}{rs:List Rat}{rest:List (Int×ByteArray)}(hd:T.drop j=tN [48]::tS 61::rest)(hr:rs[vs.length]? = some 0):SideR (mkt f 0 T) vs 80 false j rs true (j+1) rs:=by
 have h0:=aa6 (f:=f) hd 0 rfl;have h1:=aa6 (f:=f) hd 1 rfl;rw[Nat.add_zero]at h0;have f0:Fit (((0:Int)):Rat) 80:=by constructor <;> decide +kernel
 have ht:TermR (mkt f 0 T) vs 80 false rs j true (j+1) (rs.set vs.length (0+sgq false (-((0:Int):Rat)))):=
  .alone _ h0 rfl (j+1) _ (abt h0 h1 rfl nd0.z) f0 _ h1 rfl (by simp[tS]) 0 hr (fit0 false (adr f0))
 rw[show(0:Rat)+sgq false (-((0:Int):Rat))=((0:Int):Rat) by decide +kernel,acy hr]at ht;exact⟨_,h0,agj ht ⟨_,h1,.inl ⟨rfl,rfl,rfl⟩⟩⟩
theorem au1{j:Nat}{rs:List Rat}{d:Int}(hd:T.drop j=dT d ++ [tE])(hs:(d.natAbs:Int)<pw 32)(hr:rs[vs.length]? = some 0):SideR (mkt f 0 T) vs 80 true j rs true (j+(dT d).length) (rs.set vs.length (d:Rat))/\(mkt f 0 T)[j+(dT d).length]? = some ⟨0,⟨#[]⟩,f (j+(dT d).length)⟩:=by
 have hf:=ans hs;have h9:=aa6 (f:=f) (abr hd) 0 rfl;refine⟨?_,h9⟩;unfold dT at hd ⊢;have hq:∀m:Bool,m=decide (d<0)->(0:Rat)+sgq (m != true) (-((d.natAbs:Int):Rat))=(d:Rat):=by
  intro m hm;rw[<-aj3 m hm];congr 1;cases m <;> simp[sgq]
 by_cases h0:d<0
 ·rw[if_pos h0]at hd ⊢;have k0:=aa6 (f:=f) hd 0 rfl;have k1:=aa6 (f:=f) hd 1 rfl;have k2:=aa6 (f:=f) hd 2 rfl;have ht:TermR (mkt f 0 T) vs 80 (true != true) rs (j+1) true (j+2) (rs.set vs.length (0+sgq (true != true) (-((d.natAbs:Int):Rat)))):=
   .alone _ k1 rfl (j+2) _ (abt k1 k2 rfl (agi hs).z) hf _ k2 rfl (by simp[tE]) 0 hr (fit0 _ (adr hf))
  rw[hq true (by rw[decide_eq_true h0])]at ht;exact⟨_,k0,.last true (j+1) (j+2) _ _ ht _ k2 rfl⟩
 ·rw[if_neg h0]at hd ⊢;have k0:=aa6 (f:=f) hd 0 rfl;have k1:=aa6 (f:=f) hd 1 rfl;rw[Nat.add_zero]at k0;have ht:TermR (mkt f 0 T) vs 80 (false != true) rs j true (j+1) (rs.set vs.length (0+sgq (false != true) (-((d.natAbs:Int):Rat)))):=
   .alone _ k0 rfl (j+1) _ (abt k0 k1 rfl (agi hs).z) hf _ k1 rfl (by simp[tE]) 0 hr (fit0 _ (adr hf))
  rw[hq false (by rw[decide_eq_false h0])]at ht;exact⟨_,k0,.last false j (j+1) _ _ ht _ k1 rfl⟩
theorem ahl:∀(ps:List (Int×List Nat)) (k:Nat) (rs:List Rat) (i:Nat),k+ps.length<=rs.length->(fill rs k ps)[i]? = if k<=i/\i<k+ps.length then(ps[i-k]?).map (fun p=>(p.1:Rat))else rs[i]?
 | [],k,rs,i,_=>by rw[fill,if_neg (by simp)]
 |p::ps,k,rs,i,h=>by
  rw[fill,ahl ps (k+1) _ i (by simp at h ⊢;omega)];simp only[List.length_cons]at h ⊢;by_cases h1:k=i
  ·subst h1;rw[if_neg (by omega),if_pos (by omega),Nat.sub_self,List.getElem?_set_self (by omega)];rfl
  ·rw[List.getElem?_set_ne h1];by_cases h2:k+1<=i/\i<k+1+ps.length
   ·rw[if_pos h2,if_pos (by omega),show i-k=(i-(k+1))+1 by omega,List.getElem?_cons_succ]
   ·rw[if_neg h2,if_neg (by omega)]
theorem ay1{ps:List (Int×List Nat)}{d:Int}(f:Nat->Pl)(hp:PsOk ps)(hd:(d.natAbs:Int)<pw 32)(hl:ps.length=vs.length)(hi:∀n p,ps[n]? = some p->ixS (bts (encs p.2)) vs=some n):
  EqR (mkt f 0 (rowT ps d)) vs 80 0 (List.replicate (vs.length+1) 0) true ((rowT ps d).length-1) ((ps.map Prod.fst ++ [d]).map (fun z:Int=>(z:Rat))):=by
 have hF:Fits3 vs ps 0 (List.replicate (vs.length+1) 0):=⟨fun n p h=>by rw[hi n p h,Nat.zero_add],fun n hn=>by rw[List.getElem?_replicate,if_pos (by omega)]⟩;have hlast:(fill (List.replicate (vs.length+1) 0) 0 ps)[vs.length]? = some 0:=by
  rw[ahl _ _ _ _ (by simp;omega),if_neg (by omega),List.getElem?_replicate,if_pos (by omega)]
 have hrow:(fill (List.replicate (vs.length+1) 0) 0 ps).set vs.length (d:Rat)=(ps.map Prod.fst ++ [d]).map (fun z:Int=>(z:Rat)):=by
  apply List.ext_getElem?;intro i;rw[List.getElem?_set];by_cases h:vs.length=i
  ·subst h;have:(fill (List.replicate (vs.length+1) 0) 0 ps).length > vs.length:=by
    have:=(List.getElem?_eq_some_iff.1 hlast).1;exact this
   rw[if_pos rfl,if_pos this,List.map_append,List.getElem?_append_right (by simp[hl]),List.length_map,List.length_map,hl,Nat.sub_self];rfl
  ·rw[if_neg h,ahl _ _ _ _ (by simp;omega),List.map_append];by_cases h2:i<ps.length
   ·rw[if_pos (by omega),List.getElem?_append_left (by simpa using h2),Nat.sub_zero];simp[Function.comp_def]
   ·rw[if_neg (by omega),List.getElem?_replicate,if_neg (by omega),List.getElem?_append_right (by simp;omega)];simp;omega
 have tail:∀(k:Nat) (rs1:List Rat),SideR (mkt f 0 (rowT ps d)) vs 80 false 0 (List.replicate (vs.length+1) 0) true k rs1->rs1[vs.length]? = some 0->(rowT ps d).drop k=tS 61::(dT d ++ [tE])->EqR (mkt f 0 (rowT ps d)) vs 80 0 (List.replicate (vs.length+1) 0) true ((rowT ps d).length-1) (rs1.set vs.length (d:Rat)):=by
  intro k rs1 hS hr hT;have h0:=aa6 (f:=f) hT 0 rfl;have h1:(rowT ps d).drop (k+1)=dT d ++ [tE]:=abr (a:=[tS 61]) hT;obtain⟨h2,h3⟩:=au1 (f:=f) h1 hd hr;have hlen:(rowT ps d).length-1=k+1+(dT d).length:=by
   have:=congrArg List.length hT;rw[List.length_drop]at this;simp at this;omega
  rw[hlen];exact .good k rs1 _ hS h0 rfl _ _ h2 _ h3 rfl
 rw[<-hrow];by_cases hne:leftT true ps = []
 ·have hT:(rowT ps d).drop 0=tN [48]::tS 61::(dT d ++ [tE]):=by rw[List.drop_zero,rowT,if_pos hne];rfl
  have hz:fill (List.replicate (vs.length+1) 0) 0 ps=List.replicate (vs.length+1) 0:=by
   have key:∀(ps:List (Int×List Nat)) (k:Nat) (rs:List Rat),leftT true ps = []->Fits3 vs ps k rs->fill rs k ps=rs:=by
    intro ps;induction ps with
    |nil=>intro k rs _ _;rfl
    |cons p ps ih=>
     intro k rs h1 h2;rw[leftT]at h1;by_cases h:p.1=0
     ·rw[if_pos h]at h1;have h3:=h2.tail ((0:Int):Rat);rw[acy h2.here.2]at h3;rw[fill,h,acy h2.here.2];exact ih _ _ h1 h3
     ·rw[if_neg h]at h1;simp[ttT]at h1
   exact key ps 0 _ hne hF
  have hS:=axb (f:=f) (vs:=vs) (rs:=List.replicate (vs.length+1) 0) hT (by rw[List.getElem?_replicate,if_pos (by omega)]);rw[hz];rw[hz]at hlast;exact tail _ _ hS hlast (abr (a:=[tN [48]]) hT)
 ·have hT:(rowT ps d).drop 0=leftT true ps++tS 61::(dT d ++ [tE]):=by rw[List.drop_zero,rowT,if_neg hne]
  have hS:=alr (f:=f) ps 0 0 _ hp hF hne hT;exact tail _ _ hS hlast (abr hT)
end Lm
namespace Lm
open Go Go.RowKit
theorem apx(w:World)(v:Value)(zs:List Int)(L:Nat)(h:IsRow w v zs L)(hL:L<=400000)(hl:zs.length<=1000000):
  Calls Tryz.prog 8 #[v] w fun e w'=>Below w.heap.size w w'/\(((∀z∈zs,(z.natAbs:Int)<pw 32)/\e=.returned (.bool true))\/((∃z∈zs,¬(z.natAbs:Int)<pw 32)/\e=.returned (.bool false))):=by
 obtain⟨ao,cap,rfl,_⟩:=h.parts;have HI:=hide h;clear h;generalize hn:zs.length=n at *
 have HN:=hide hn;clear hn;go_enter Tryz.func8,Tryz.ntmps8
 go_wp2_with fail
 go_loopw [3] (fun iv wr=>∃(k:Nat),iv=.int .i64 k/\k<=n/\Below w.heap.size w wr/\∀(j:Nat) (z:Int),j<k->zs[j]? = some z->(z.natAbs:Int)<pw 32) (fun iv _=>n-(intOf iv).toNat)
 case atStart=>exact⟨0,rfl,Nat.zero_le _,Below.refl _ _,fun j z hj=>by omega⟩
 case round=>
  obtain⟨k,rfl,hk,hbw,hall⟩:=hrel;have HW:=hide hbw;have HALL:=hide hall;by_cases hlt:k<n
  ·obtain⟨z,hz⟩:∃z,zs[k]? = some z:=⟨_,List.getElem?_eq_getElem (by have:=HN.out;omega)⟩;obtain⟨b,off,ngx,ax,mx,cx,rfl,hbl,x0,x1,hx⟩:=(HI.out.below hbw).cell hz;have HX:=hide hx;have HZ:=hide hz;have hlt':(k:Int)<(n:Int):=by omega
   clear hbw hall hx hz;go_wp2_with fail
   refine(limbsF _ z L _ HX.out (by omega)).mono ?_;rintro e w3 ⟨m,rfl,hm,hb3⟩;have HM:=hide hm;have HB3:=hide (HW.out.trans (hb3.mono HW.out.size));by_cases hbig:m<=32
   ·have hb':decide ((32:Int)<(m:Int))=false:=by simp;omega
    clear hm hb3 x0 x1;go_wp2;go_roundw
    case rel=>
     refine⟨k+1,by go_num,by omega,HB3.out,fun j y hj hy=>?_⟩;by_cases hjk:j=k
     ·subst hjk;obtain rfl:z=y:=Option.some.inj (HZ.out.symm.trans hy);exact HM.out.1 hbig
     ·exact HALL.out j y (by omega) hy
    case measure=>simp[intOf];omega
   ·have hb':(32:Int)<(m:Int):=by omega
    have HBG:Hid (¬(z.natAbs:Int)<pw 32):=(show ¬(z.natAbs:Int)<pw 32 from fun h=>hbig (hm.2 h));clear hm hb3 x0 x1;go_wp2;refine bodyPost_ret (v:=_) (by simp[results,Tryz.results8,go_sem];try rfl) rfl ⟨HB3.out,.inr ⟨⟨z,List.mem_of_getElem? HZ.out,HBG.out⟩,rfl⟩⟩
  ·have hlt':decide ((k:Int)<(n:Int))=false:=by simp;omega
   clear hbw hall;go_wp2;refine bodyPost_ret (v:=_) (by simp[results,Tryz.results8,go_sem];try rfl) rfl ⟨HW.out,.inl ⟨fun z hz=>?_,rfl⟩⟩;obtain⟨j,hj⟩:=List.getElem?_of_mem hz;exact HALL.out j z (by have:=(List.getElem?_eq_some_iff.1 hj).1;have:=HN.out;omega) hj
def nm16:List (List Nat):=[[120],[121],[122,8321],[945],[108,111,110,103,95,110,97,109,101],[66,55],[1076],[112,8242],[120,176],[121,176],[113],[114],[115],[116],[117],[118]]
theorem aiw:∀c∈nm16,nmB c=true:=by decide +kernel
def nmv(n:Nat):List ByteArray:=(nm16.take n).map (fun c=>bts (encs c))
theorem adw{n:Nat}(h:n<=16):(nmv n).length=n:=by simp[nmv,nm16];omega
theorem apy{cs:List Nat}(h:nmB cs=true):isNm (bts (encs cs))=true:=by
 have hd:(bts (encs cs)).data.toList=encs cs:=by simp[bts]
 have hsz:(bts (encs cs)).size<=64:=by
  have h1:(bts (encs cs)).size=(encs cs).length:=by simp[bts,ByteArray.size]
  have h2:∀l:List Nat,(encs l).length<=4*l.length:=by
   intro l;induction l with
   |nil=>simp[encs]
   |cons c l ih=>rw[encs,List.length_append,List.length_cons];have:=(aha c).2;omega
  have h3:cs.length<=16:=by
   match cs,h with
   |c::u,h=>
    simp only[nmB,Bool.and_eq_true,decide_eq_true_eq]at h;exact h.2
  have:=h2 cs;omega
 have hS:ScanC cs [(1,bts (encs cs)),(0,⟨#[]⟩)]:=by
  have:=aiu h alk ash;rwa[List.append_nil]at this
 have hQ:=ak6 (bts (encs cs)) cs (anq h) [] [] pl0 rfl (by rw[hd];simp) (.inl rfl);obtain⟨l,hR,hl⟩:=ane (bts (encs cs)) cs _ hS [] pl0 rfl (by rw[hd];rfl);rw[<-ait (by omega) hQ hR]
 match l,hl with
 |t::l,hl=>
  simp only[List.map_cons,List.cons.injEq,Prod.mk.injEq]at hl;simp[nmS,hl.1.1,hl.1.2]
theorem aii{n i:Nat}{x:ByteArray}(h:(nmv n)[i]? = some x):∃c,nm16[i]? = some c/\x=bts (encs c)/\i<n:=by
 simp only[nmv,List.getElem?_map,Option.map_eq_some_iff,List.getElem?_take]at h;obtain⟨c,h1,rfl⟩:=h;by_cases hi:i<n
 ·rw[if_pos hi]at h1;exact⟨c,h1,rfl,hi⟩
 ·rw[if_neg hi]at h1;cases h1
theorem apz:(nm16.map (fun c=>bts (encs c))).Nodup:=by decide +kernel
theorem als{n:Nat}(h:n<=16):NmsOk (nmv n):=by
 refine⟨by rw[adw h];exact h,fun i x hx=>?_⟩;obtain⟨c,h1,rfl,h2⟩:=aii hx;refine⟨apy (aiw c (List.mem_of_getElem? h1)),fun hm=>?_⟩;obtain⟨j,hj⟩:=List.mem_iff_getElem?.1 hm;rw[List.getElem?_take]at hj;by_cases hji:j<i
 ·rw[if_pos hji]at hj;obtain⟨c',h1',e,_⟩:=aii hj;have hn:=apz;obtain⟨hi1,hi2⟩:=List.getElem?_eq_some_iff.1 h1;obtain⟨hj1,hj2⟩:=List.getElem?_eq_some_iff.1 h1';have:j=i:=(List.getElem_inj (xs:=nm16.map (fun c=>bts (encs c))) (i:=j) (j:=i) (h₀:=by simpa using hj1) (h₁:=by simpa using hi1) hn).1 (by simp[hi2,hj2,e]);omega
 ·rw[if_neg hji]at hj;cases hj
theorem ay2{n i:Nat}{c:List Nat}(hn:n<=16)(hi:i<n)(h:nm16[i]? = some c):ixS (bts (encs c)) (nmv n)=some i:=by
 have h1:(nmv n)[i]? = some (bts (encs c)):=by simp[nmv,hi,h]
 exact alg ((als hn).2 i _ h1).2 h1
theorem axc{n:Nat}: (⟨#[]⟩:ByteArray)∉nmv n:=by
 intro h;obtain⟨i,hi⟩:=List.mem_iff_getElem?.1 h;obtain⟨c,h1,e,_⟩:=aii hi;have h2:=alq (aiw c (List.mem_of_getElem? h1));have h3:encs c = []:=by
  have:(bts (encs c)).data.toList = []:=by rw[<-e]
  simpa[bts]using this
 exact h2 (afc h3)
set_option maxRecDepth 100000 in
theorem ap0(w:World)(n:Nat)(hn:n<=16):
  Calls Tryz.prog 14 #[.int .i64 (n:Int)] w fun e w'=>∃v,e=.returned v/\Strs w' v (nmv n)/\Below w.heap.size w w':=by
 go_enter Tryz.func14,Tryz.ntmps14
 go_upto_region 2 with fail
 have hh:=heap_alloc_new w (.cells #[.string ⟨#[120]⟩,.string ⟨#[121]⟩,.string ⟨#[122,226,130,129]⟩,.string ⟨#[206,177]⟩,.string ⟨#[108,111,110,103,95,110,97,109,101]⟩,.string ⟨#[66,55]⟩,.string ⟨#[208,180]⟩,.string ⟨#[112,226,128,178]⟩,.string ⟨#[120,194,176]⟩,.string ⟨#[121,194,176]⟩,.string ⟨#[113]⟩,.string ⟨#[114]⟩,.string ⟨#[115]⟩,.string ⟨#[116]⟩,.string ⟨#[117]⟩,.string ⟨#[118]⟩] 9);have hb:=hAl w (.cells #[.string ⟨#[120]⟩,.string ⟨#[121]⟩,.string ⟨#[122,226,130,129]⟩,.string ⟨#[206,177]⟩,.string ⟨#[108,111,110,103,95,110,97,109,101]⟩,.string ⟨#[66,55]⟩,.string ⟨#[208,180]⟩,.string ⟨#[112,226,128,178]⟩,.string ⟨#[120,194,176]⟩,.string ⟨#[121,194,176]⟩,.string ⟨#[113]⟩,.string ⟨#[114]⟩,.string ⟨#[115]⟩,.string ⟨#[116]⟩,.string ⟨#[117]⟩,.string ⟨#[118]⟩] 9);generalize w.alloc (.cells #[.string ⟨#[120]⟩,.string ⟨#[121]⟩,.string ⟨#[122,226,130,129]⟩,.string ⟨#[206,177]⟩,.string ⟨#[108,111,110,103,95,110,97,109,101]⟩,.string ⟨#[66,55]⟩,.string ⟨#[208,180]⟩,.string ⟨#[112,226,128,178]⟩,.string ⟨#[120,194,176]⟩,.string ⟨#[121,194,176]⟩,.string ⟨#[113]⟩,.string ⟨#[114]⟩,.string ⟨#[115]⟩,.string ⟨#[116]⟩,.string ⟨#[117]⟩,.string ⟨#[118]⟩] 9)=w1 at *
 have HS:Hid (Strs w1 (.slice (some ⟨w.heap.size,0,none⟩) n 16) (nmv n)):=by
  refine(show Ce _ _ _ _ _ from⟨_,16,by rw[adw hn],by rw[adw hn];exact hn,by decide,by simp,.inr ⟨w.heap.size,0,rfl,aaa hh,fun j u hu=>?_⟩⟩);rw[Nat.zero_add,cell_of_row _ _ _ _ _ (0,0) hh];rw[List.getElem?_map,Option.map_eq_some_iff]at hu;obtain⟨x,hx,rfl⟩:=hu;obtain⟨c,hc,rfl,_⟩:=aii hx;have hj:=(List.getElem?_eq_some_iff.1 hc).1;have key:∀j<16,#[Value.string ⟨#[120]⟩,.string ⟨#[121]⟩,.string ⟨#[122,226,130,129]⟩,.string ⟨#[206,177]⟩,.string ⟨#[108,111,110,103,95,110,97,109,101]⟩,.string ⟨#[66,55]⟩,.string ⟨#[208,180]⟩,.string ⟨#[112,226,128,178]⟩,.string ⟨#[120,194,176]⟩,.string ⟨#[121,194,176]⟩,.string ⟨#[113]⟩,.string ⟨#[114]⟩,.string ⟨#[115]⟩,.string ⟨#[116]⟩,.string ⟨#[117]⟩,.string ⟨#[118]⟩][j]? = (nm16[j]?).map (fun c=>Value.string (bts (encs c))):=by
   intro j hj
   match j,hj with
   |0,_=>rfl
   |1,_=>rfl
   |2,_=>rfl
   |3,_=>rfl
   |4,_=>rfl
   |5,_=>rfl
   |6,_=>rfl
   |7,_=>rfl
   |8,_=>rfl
   |9,_=>rfl
   |10,_=>rfl
   |11,_=>rfl
   |12,_=>rfl
   |13,_=>rfl
   |14,_=>rfl
   |15,_=>rfl
   |j+16,h=>exact absurd h (by omega)
  rw[key j hj,hc];rfl
 have HB:=hide hb;have hn':(n:Int)<=16:=by omega
 clear hh hb;go_wp2;refine bodyPost_ret (v:=_) (by simp[results,Tryz.results14,go_sem];try rfl) rfl ⟨_,rfl,HS.out,HB.out⟩
theorem aix(zs:List Int):comR (zs.map (fun z:Int=>(z:Rat)))=1:=by
 unfold comR;induction zs with
 |nil=>rfl
 |cons z zs ih=>
  rw[List.map_cons,List.foldl_cons];rw[show(1:Int)*(((z:Rat).den:Int)/((Int.gcd 1 (z:Rat).den:Nat):Int))=1 by simp];exact ih
theorem aiy(zs:List Int):clr (zs.map (fun z:Int=>(z:Rat)))=zs:=by
 unfold clr;rw[aix,List.map_map];conv=>rhs;rw[<-List.map_id zs]
 apply List.map_congr_left;intro z _;simp
theorem adg(zs:List Int):canonZ (zs.map (fun z:Int=>(z:Rat)))=red zs:=by rw[canonZ,aiy]
theorem asp{zs:List Int}{N:Int}(h:∀z∈zs,(z.natAbs:Int)<N)(hN:0<N):∀z∈red zs,(z.natAbs:Int)<N:=by
 intro z hz;obtain⟨x,hx,rfl⟩:=List.mem_map.1 hz;obtain⟨q,hq⟩:=adu x hx;by_cases h0:dvs zs=0
 ·rw[h0,Int.ediv_zero];exact hN
 ·have h4:x/dvs zs=q:=by
   conv=>lhs;rw[hq]
   exact Int.mul_ediv_cancel_left q h0
  rw[h4];have h5:q.natAbs<=x.natAbs:=by
   rw[hq,Int.natAbs_mul];exact Nat.le_mul_of_pos_left _ (by omega)
  have:=h x hx;omega
theorem axd(zs:List Int):red (red zs)=red zs:=by
 by_cases h0:dvs zs=0
 ·have hz:∀z∈zs,z=0:=fun z hz=>by have:=adu z hz;rw[h0]at this;exact Int.zero_dvd.1 this
  have:red zs=zs:=by
   unfold red;conv=>rhs;rw[<-List.map_id zs]
   apply List.map_congr_left;intro z h;rw[hz z h];simp
  rw[this,this]
 ·have hd:((dvs zs:Int):Rat)≠0:=fun e=>h0 (Rat.intCast_eq_zero_iff.1 e)
  have hq:(1:Rat)/((dvs zs:Int):Rat)≠0:=fun e=>by
   have:=Rat.div_mul_cancel (a:=(1:Rat)) hd;rw[e,Rat.zero_mul]at this;exact absurd this (by decide)
  have h1:=amv _ hq (zs.map (fun z:Int=>(z:Rat)));rw[adg]at h1;have h3:(red zs).map (fun z:Int=>(z:Rat))=(zs.map (fun z:Int=>(z:Rat))).map (fun x=>1/((dvs zs:Int):Rat)*x):=by
   unfold red;rw[List.map_map,List.map_map];apply List.map_congr_left;intro z hz;obtain⟨q,e⟩:=adu z hz;have h4:z/dvs zs=q:=by
    conv=>lhs;rw[e]
    exact Int.mul_ediv_cancel_left q h0
   show((z/dvs zs:Int):Rat)=1/((dvs zs:Int):Rat)*(z:Rat);rw[h4];conv=>rhs;rw[e]
   rw[Rat.intCast_mul,Rat.div_def,Rat.one_mul,<-Rat.mul_assoc,Rat.inv_mul_cancel _ hd,Rat.one_mul]
  rw[<-adg (red zs),h3,h1]
theorem axe{w:World}(hT:Tabs w){v:Value}{zs:List Int}{d:Int}(hn:zs.length<=16)(hv:Strs w v (nmv zs.length))(hz:∀z∈zs ++ [d],(z.natAbs:Int)<pw 32)(hl:(prn (zs ++ [d]) (nmv zs.length)).size<=4096):
  Calls Tryz.prog 12 #[.string (prn (zs ++ [d]) (nmv zs.length)),v] w fun r w'=>Below w.heap.size w w'/\∃x,r=.returned (.tuple #[x,.int .i64 0,.agg #[.int .i64 0,.int .i64 0,.int .i64 0,.int .i64 0]])/\ORow w.heap.size w' x (red (zs ++ [d])) 80:=by
 have hnl:zs.length=(nm16.take zs.length).length:=by simp[nm16];omega
 have hok:∀c∈nm16.take zs.length,nmB c=true:=fun c hc=>aiw c (List.mem_of_mem_take hc)
 have hne:∀c∈nm16.take zs.length,c≠[]:=fun c hc=>alq (hok c hc)
 have hpr:prn (zs ++ [d]) (nmv zs.length)=bts (encs (rowC (zs.zip (nm16.take zs.length)) d)):=axa hnl hne;have hP:PsOk (zs.zip (nm16.take zs.length)):=⟨fun q hq=>hok _ (List.of_mem_zip hq).2,fun q hq=>hz _ (by simp[(List.of_mem_zip hq).1])⟩;have hd:(d.natAbs:Int)<pw 32:=hz d (by simp);have hfst:(zs.zip (nm16.take zs.length)).map Prod.fst=zs:=List.map_fst_zip (by omega);have hlen:(zs.zip (nm16.take zs.length)).length=(nmv zs.length).length:=by rw[List.length_zip,adw hn];omega
 have hix:∀n p,(zs.zip (nm16.take zs.length))[n]? = some p->ixS (bts (encs p.2)) (nmv zs.length)=some n:=by
  intro n p h;obtain⟨h1,h2⟩:=List.getElem?_eq_some_iff.1 h;have h3:n<zs.length:=by rw[List.length_zip]at h1;omega
  rw[List.getElem_zip]at h2;have h4:nm16[n]? = some p.2:=by
   rw[<-h2,List.getElem_take];exact List.getElem?_eq_getElem _
  exact ay2 hn h3 h4
 have p1:(1:Int)<pw 80:=by decide +kernel
 have p32:pw 32<pw 80:=by decide +kernel
 rw[hpr]at hl ⊢;have hcod:∀x∈rowC (zs.zip (nm16.take zs.length)) d,Cod x:=by
  have hdc:∀z:Int,∀x∈dcs (dig (z.natAbs:Int)),Cod x:=fun z=>(aw1 (aco _).1).cod
  have hL:∀(ps:List (Int×List Nat)) (b:Bool),(∀q∈ps,nmB q.2=true)->∀x∈leftC b ps,Cod x:=by
   intro ps;induction ps with
   |nil=>intro b _ x hx;simp[leftC]at hx
   |cons q ps ih=>
    intro b hq x hx;rw[leftC]at hx;by_cases h0:q.1=0
    ·rw[if_pos h0]at hx;exact ih b (fun y hy=>hq y (by simp[hy])) x hx
    ·rw[if_neg h0,ttC,if_neg h0,List.mem_append,List.mem_append,List.mem_append]at hx;rcases hx with(hx|hx|hx)|hx
     ·unfold tpC at hx;cases b <;> by_cases h1:q.1<0 <;> simp[h1]at hx <;> exact afg (by omega)
     ·unfold numC at hx;split at hx
      ·simp at hx
      ·rw[List.mem_append]at hx;rcases hx with hx|hx
       ·exact hdc _ x hx
       ·exact afg (by simp at hx;omega)
     ·exact anq (hq q (by simp)) x hx
     ·exact ih false (fun y hy=>hq y (by simp[hy])) x hx
  intro x hx;unfold rowC dC at hx;rw[List.mem_append]at hx;rcases hx with hx|hx
  ·split at hx
   ·exact afg (by simp at hx;omega)
   ·exact hL _ true hP.nm x hx
  ·simp only[List.mem_cons,List.mem_append]at hx;rcases hx with hx|hx|hx|hx|hx
   ·exact afg (by omega)
   ·exact afg (by omega)
   ·exact afg (by omega)
   ·split at hx
    ·exact afg (by simp at hx;omega)
    ·simp at hx
   ·exact hdc _ x hx
 have hE:∃k,∀f,EqR (mkt f 0 (rowT (zs.zip (nm16.take zs.length)) d)) (nmv zs.length) 80 0 (List.replicate ((nmv zs.length).length+1) 0) true k ((zs ++ [d]).map (fun z:Int=>(z:Rat))):=by
  have h:=fun f=>ay1 f hP hd hlen hix
  rw[hfst]at h;exact⟨_,h⟩
 obtain⟨k,hE⟩:=hE;rw[<-adg];refine auy hT hv (als hn) axc hcod (by simpa[bts,ByteArray.size]using hl) (au0 hP hd) 80 80 (by decide) (by decide) (by decide) hE (by rw[List.length_map,adw hn];simp) (fun k _=>?_) ?_ ?_
 ·rw[<-List.map_take,aix];exact p1
 ·rw[aiy];intro z h;have:=hz z h;omega
 ·rw[adg];exact asp hz (by omega)
set_option maxRecDepth 100000 in
theorem ay3(w:World)(z:Int)(L:Nat)(v:Value)(h:IsW z L v w)(hL:L<=100000):
  Calls Tryz.prog 16 #[v] w fun e w'=>∃r ng zs ys,e=.returned r/\OwR w.heap.size ng zs ys r w'/\sg ng (val zs)=z/\val ys=1/\zs.length<=L/\ys.length<=2/\Below w.heap.size w w':=by
 obtain⟨nx,ax,mx,cx,xs,rfl,Ax,Lx⟩:=h;obtain⟨w0,e0,hx,hz,hb⟩:=boxz w (.cells #[.bool nx,.slice ax mx cx] 29);obtain⟨_,x0,x1,_,_⟩:=aah hx;have E0:=hide e0;have K1:=hide (av6 w0 nx ax mx cx xs (Ax.sl.below hb) (by omega));have HZ:=hide hz;have HB:=hide hb;have HA:=hide Ax.worth;have HL:=hide Lx;clear e0 hx hz hb Ax Lx;go_enter Tryz.func16,Tryz.ntmps16
 go_upto_region 1 with fail
 rw[E0.out];go_wp2_with fail
 refine K1.out.mono ?_;rintro e w1 ⟨n1,a1,c1,r1,rfl,G1,l1,o1,hb1⟩;have K2:=hide (ab0 w1 1 (by omega) (by omega));have HB1:=hide (HB.out.trans (hb1.mono HB.out.size));have HZ1:=hide ((hb1.block _ (aaa HZ.out)).trans HZ.out);have HG:=hide (And.intro G1 (And.intro l1 (o1.ow.mono HB.out.size)));clear G1 l1 o1 hb1 K1 HB HZ;go_wp2_with fail
 refine K2.out.mono ?_;rintro e w9 ⟨v,rfl,I,hb9⟩;obtain⟨r2,O2',G2,v2⟩:=I;have O2:Ow w1.heap.size w9 v r2:=O2';clear O2';obtain⟨a2,c2,hv2,_⟩:=id O2;subst hv2;have HB9:=hide (HB1.out.trans (hb9.mono HB1.out.size));have hz:=(hb9.block _ (aaa HZ1.out)).trans HZ1.out;obtain⟨_,t0,t1,t2,u0,u1,u2⟩:=aac hz;obtain⟨e1,e2⟩:=aky n1 a1 r1.length c1 a2 r2.length c2 (Nat.le_succ w.heap.size) hz HB9.out;have E:=hide (And.intro e1 e2);have HR:=hide (adl hz (.bool n1) (.slice a1 r1.length c1) (.slice a2 r2.length c2));have L2:r2.length<=2:=aaw G2 (by rw[v2];decide);have HO:=hide (And.intro (HG.out.2.2.below hb9) (And.intro (O2.mono HB1.out.size) (And.intro v2 L2)));have hw:sg n1 (val r1)=z:=(Wh.worth HG.out.1).trans HA.out;clear hz K2 hb9 O2 G2 v2 e1 e2 L2;go_wp2;exact bodyPost_ret (v:=.agg #[.bool n1,.slice a1 r1.length c1,.slice a2 r2.length c2]) (acb (g:=w.heap.size+1) rfl rfl E.out.2) rfl ⟨_,n1,r1,r2,rfl,⟨_,_,_,_,rfl,HO.out.1.ru HR.out,HO.out.2.1.ru HR.out⟩,hw,HO.out.2.2.1,by have:=HG.out.2.1;have:=HL.out;omega,HO.out.2.2.2,E.out.1⟩
theorem alt(w:World)(x y:ByteArray)(e:TypeId):Strs (w.alloc (.cells #[.string x,.string y] e)) (.slice (some ⟨w.heap.size,0,none⟩) 2 2) [x,y]:=by
 refine⟨_,2,rfl,Nat.le_refl _,by decide,rfl,.inr ⟨w.heap.size,0,rfl,by simp,fun j u hu=>?_⟩⟩;have hh:=heap_alloc_new w (.cells #[.string x,.string y] e);rw[Nat.zero_add,cell_of_row _ _ _ _ _ (0,0) hh]
 match j with
 |0=>simpa using hu
 |1=>simpa using hu
 |j+2=>simp at hu
theorem aiz(w:World)(hT:Tabs w)(v:Value)(hv:Strs w v [⟨#[120]⟩,⟨#[121]⟩]):
  Calls Tryz.prog 12 #[.string ⟨#[50,120,32,61,32,52,121,32,45,32,54]⟩,v] w fun r w'=>Below w.heap.size w w'/\∃x,r=.returned (.tuple #[x,.int .i64 0,.agg #[.int .i64 0,.int .i64 0,.int .i64 0,.int .i64 0]])/\CanRow w' x [1,-2,-3] 16:=by
 refine(afk w hT eqs (by decide) v _ hv asg _ _ eqt awz aux 8 16 (by decide) (by decide) (by decide) 7 rs3 aw0 rfl ?_ ?_ (by simp)).mono ?_
 ·intro k hk;have hk':k<=3:=hk
  match k,hk' with
  |0,_=>decide +kernel
  |1,_=>decide +kernel
  |2,_=>decide +kernel
  |3,_=>decide +kernel
 ·have h:clr rs3 = [2,-4,-6]:=by kernel_rfl
  rw[h];intro z hz;simp at hz;rcases hz with rfl|rfl|rfl <;> decide +kernel
 ·rintro r w' ⟨hb,⟨_,x,rfl,hO⟩|⟨⟨z,hz,hbig⟩,_⟩⟩
  ·rw[alj]at hO;exact⟨hb,x,rfl,hO.can⟩
  ·rw[alj]at hz;simp at hz;rcases hz with rfl|rfl|rfl <;> exact absurd (by decide +kernel) hbig
theorem aij(w:World)(a b c:Int)(e:TypeId):Nums (w.alloc (.cells #[.int .i64 a,.int .i64 b,.int .i64 c] e)) (.slice (some ⟨w.heap.size,0,none⟩) 3 3) [a,b,c]:=ahb w [a,b,c] (by simp) e
theorem ay4(w:World)(hT:Tabs w):
  Calls Tryz.prog 6 #[] w fun r w'=>r=.returned (.bool true)/\Below w.heap.size w w':=by
 have hb0:=hAl w (.cells #[.string ⟨#[120]⟩,.string ⟨#[121]⟩] 9);have K:=hide (aiz _ (hT.below hb0) _ (alt w ⟨#[120]⟩ ⟨#[121]⟩ 9));have HT:=hide hT;clear hT;go_enter Tryz.func6,Tryz.ntmps6
 go_wp2_with fail
 refine K.out.mono ?_;rintro r w1 ⟨hb1,x,rfl,hcx⟩;obtain⟨ax,cx,hvx,_⟩:=hcx.is.parts;subst hvx;have hbA:=hAl w1 (.cells #[.int .i64 0,.int .i64 0,.int .i64 0,.int .i64 0] 35);have hb1':=hb0.trans (hb1.mono hb0.size);have hb2:=hb1'.trans (hbA.mono hb1'.size);have HB2:=hide hb2;have HCX:=hide (hcx.below hbA);clear hb0 hb1 hb1' hcx K hbA;go_wp2_with fail
 generalize hW2:w1.alloc (.cells #[.int .i64 0,.int .i64 0,.int .i64 0,.int .i64 0] 35)=w2 at *
 have hs2:w2.heap.size=w1.heap.size+1:=by rw[<-hW2];simp
 rw[<-hs2];have hz3:∀z∈([1,-2,-3]:List Int),-9223372036854775808<=z/\z<=9223372036854775807:=by intro z hz;simp at hz;rcases hz with rfl|rfl|rfl <;> decide
 have HZ3:=hide hz3;have hbn2:=hAl w2 (.cells #[.int .i64 1,.int .i64 (-2),.int .i64 (-3)] 3);refine(anl _ _ [1,-2,-3] (aij w2 1 (-2) (-3) 3) hz3 (by decide)).mono ?_;rintro e w3 ⟨r3,rfl,hr3,hb3⟩;obtain⟨a3,c3,hv3,_⟩:=hr3.is.parts;subst hv3;have hb23:=hbn2.trans (hb3.mono hbn2.size);have HB3:=hide (HB2.out.trans (hb23.mono HB2.out.size));have HCX3:=hide (HCX.out.below hb23);have hbs:=hAl w3 (.cells #[.string ⟨#[120]⟩,.string ⟨#[121]⟩] 9);have K4:=hide (ams _ ((HT.out.below HB3.out).below hbs) _ _ 2 (hr3.is.below hbs) (by decide) (alt w3 ⟨#[120]⟩ ⟨#[121]⟩ 9) asg);have HBS:=hide hbs;clear hb3 hb23 hbn2 hr3 hbs hz3 hW2 hs2;go_wp2_with fail
 refine K4.out.mono ?_;rintro e w4 ⟨rfl,hb4⟩;have hb34:=HBS.out.trans (hb4.mono HBS.out.size);have HB4:=hide (HB3.out.trans (hb34.mono HB3.out.size));have HCX4:=hide (HCX3.out.below hb34);have hbn4:=hAl w4 (.cells #[.int .i64 1,.int .i64 (-2),.int .i64 (-3)] 3);have K5:=hide (anl _ _ [1,-2,-3] (aij w4 1 (-2) (-3) 3) HZ3.out (by decide));have HBN4:=hide hbn4;clear hb4 hb34 hbn4 K4;go_wp2_with fail
 refine K5.out.mono ?_;rintro e w5 ⟨r5,rfl,hr5,hb5⟩;obtain⟨a5,c5,hv5,_⟩:=hr5.is.parts;subst hv5;have hb45:=HBN4.out.trans (hb5.mono HBN4.out.size);have HB5:=hide (HB4.out.trans (hb45.mono HB4.out.size));have K6:=hide (agw w5 _ _ [1,-2,-3] 16 2 (HCX4.out.below hb45) hr5);have hst:((⟨#[120,32,45,32,50,42,121,32,61,32,45,51]⟩:ByteArray).toList == [120,32,45,32,50,42,121,32,61,32,45,51])=true:=by rw[ByteArray.toList_eq];decide
 clear hb5 hb45 hr5 K5;go_wp2_with fail
 refine K6.out.mono ?_;rintro e w6 ⟨rfl,hb6⟩;have HB6:=hide (HB5.out.trans (hb6.mono HB5.out.size));clear hb6 K6;go_wp2;refine bodyPost_ret (v:=_) (by simp[results,Tryz.results6,go_sem];try rfl) rfl ⟨rfl,HB6.out⟩
theorem Rw.isrow{w:World}{v:Value}{es:List WE}(h:Rw w v es){L:Nat}(hl:lenW es<=L):IsRow w v (es.map WE.z) L:=by
 refine⟨es,h,rfl,fun e he=>?_⟩;have h1:=att he;have h2:=(h.sl e he).parts.1;omega
theorem au2(w:World)(ax:Option Addr)(mx cx:Nat)(xs:List WE)(R:Rw w (.slice ax mx cx) xs)(hl:lenW xs<=35184372088832):
  Calls Tryz.prog 7 #[.slice ax mx cx] w fun e w'=>e=.returned (.int .i64 (lenW xs:Int))/\Below w.heap.size w w':=by
 have hll:=ama xs;have HX:=hide R;have HNx:Hid (mx=xs.length):=R.parts.1;have HL:Hid (lenW xs<=35184372088832/\mx<=lenW xs):=(show _/\_ from⟨hl,by rw[HNx.out];exact hll⟩);have hm:mx<=35184372088832:=by have:=HL.out;omega
 clear R hl hll;go_enter Tryz.func7,Tryz.ntmps7
 go_wp2_with fail
 go_loopw [3,4] (fun sv iv wr=>∃k:Nat,iv=.int .i64 k/\k<=mx/\sv=.int .i64 (lenW (xs.take k):Int)/\Below w.heap.size w wr) (fun _ iv _=>mx-(intOf iv).toNat)
 case atStart=>exact⟨0,rfl,Nat.zero_le _,rfl,Below.refl _ _⟩
 case round=>
  obtain⟨k,rfl,hk,rfl,hbw⟩:=hrel;by_cases hlt:k<mx
  ·have hlt':(k:Int)<(mx:Int):=by omega
   obtain⟨ex,hex⟩:∃e,xs[k]? = some e:=⟨_,List.getElem?_eq_getElem (by have:=HNx.out;omega)⟩;obtain⟨bx,ox,hAx,hlx0,hcx⟩:=HX.out.cells (by have:=HNx.out;omega);subst hAx;have hlx:bx<wr.heap.size:=Nat.lt_of_lt_of_le hlx0 hbw.size;have x0:=(hbw.cell (p:=⟨bx,ox+k*2,none⟩) hlx0).trans (hcx _ _ (ac8 hex).1);have x1:wr.cell? ⟨bx,ox+k*2+1,none⟩=some (.slice ex.a ex.m ex.c):=(hbw.cell (p:=⟨bx,ox+k*2+1,none⟩) hlx0).trans (hcx _ _ (ac8 hex).2);have hs:=aq7 hex;have hle:=ak1 xs (k+1);have hm2:=HL.out;have HW:=hide hbw;have K1:=hide (asz wr ex.ng ex.a ex.m ex.c (by omega));obtain⟨s,hsv⟩:∃s,lenW (xs.take k)=s:=⟨_,rfl⟩;rw[hsv]at hs ⊢;have hadd:IntKind.i64.wrap ((s:Int)+(1+(ex.m:Int)))=(s:Int)+(1+(ex.m:Int)):=by rw[IntKind.wrap_i64];omega
   have HSV:=hide hs;clear hbw hs hle hsv hm2 hex hcx hlx;go_wp2_with fail
   refine K1.out.mono ?_;rintro e w2 ⟨rfl,hb2⟩;have HB2:=hide (HW.out.trans (hb2.mono HW.out.size));clear hb2 x0 x1 hlx0;go_wp2;go_roundw
   case rel=>exact⟨k+1,by go_num,by omega,by rw[HSV.out];simp,HB2.out⟩
   case measure=>simp[intOf];omega
  ·have hlt':decide ((k:Int)<(mx:Int))=false:=by simp;omega
   have hkn:k=mx:=by omega
   subst hkn;have HW:=hide hbw;clear hbw;go_wp2;refine bodyPost_ret (v:=_) (act rfl rfl) rfl ⟨by rw[List.take_of_length_le (by have:=HNx.out;omega)];rfl,HW.out⟩
theorem ay5{w:World}{z:Int}{vx vy:Value}{L M:Nat}(hx:IsW z L vx w)(hy:IsW z M vy w)(hL:L<=400000)(hM:M<=400000):Calls Tryz.prog 19 #[vx,vy] w fun e w'=>e=.returned (.int .i64 0)/\Below w.heap.size w w':=by
 have:=cmpF w z z vx vy L M hx hy hL hM;rwa[acm rfl]at this
theorem axf{l:List Int}(h:l≠[]):∃zs d,l=zs ++ [d]/\l.length=zs.length+1:=⟨l.dropLast,l.getLast h,(List.dropLast_concat_getLast h).symm,by rw[List.length_dropLast];have:=List.length_pos_iff.2 h;omega⟩
theorem amw(w:World)(hT:Tabs w)(ax:Option Addr)(mx cx:Nat)(xs:List WE)(Rx:Rw w (.slice ax mx cx) xs)(hx:lenW xs<=1048576):
  Calls Tryz.prog 4 #[.slice ax mx cx] w fun e w'=>e=.returned (.bool true)/\Below w.heap.size w w':=by
 have K1:=hide (ay4 w hT);have HX:=hide Rx;have HTB:=hide hT;have hmx:mx=xs.length:=by
  obtain⟨⟨ao',cap',hv,_⟩,_⟩:=id Rx;simp only[Value.slice.injEq]at hv;exact hv.2.1
 obtain⟨sx,hsx⟩:∃sx,lenW xs=sx:=⟨_,rfl⟩;rw[hsx]at hx;have HSx:=hide hsx;have HMX:=hide hmx;clear Rx hT hsx hmx;go_enter Tryz.func4,Tryz.ntmps4
 go_wp2_with fail
 refine K1.out.mono ?_;rintro e w1 ⟨rfl,hb1⟩;have K2:=au2 w1 _ _ _ _ (HX.out.below hb1) (by have:=HSx.out;omega);rw[HSx.out]at K2;have K2:=hide K2;have HB1:=hide hb1;clear hb1 K1;go_wp2_with fail
 refine K2.out.mono ?_;rintro e w2 ⟨rfl,hb2⟩;have HB2:=hide (HB1.out.trans (hb2.mono HB1.out.size));clear hb2 K2 HB1;by_cases hlong:1500<(sx:Int)
 ·have hl':decide (1500<(sx:Int))=true:=by simpa using hlong
  go_wp2;refine bodyPost_ret (v:=_) (by simp[results,Tryz.results4,go_sem];try rfl) rfl ⟨rfl,HB2.out⟩
 have hl':decide (1500<(sx:Int))=false:=by simpa using hlong
 have HLG:Hid (lenW xs<=1500):=(show lenW xs<=1500 by have:=HSx.out;omega);clear hlong;by_cases h0:mx=0
 ·have h0':((mx:Int)==0)=true:=by simp;omega
  clear HMX;go_wp2;refine bodyPost_ret (v:=_) (by simp[results,Tryz.results4,go_sem];try rfl) rfl ⟨rfl,HB2.out⟩
 have h0':((mx:Int)==0)=false:=by simp;omega
 by_cases h17:17<mx
 ·have h17':decide ((17:Int)<(mx:Int))=true:=by simp;omega
  clear HMX;go_wp2;refine bodyPost_ret (v:=_) (by simp[results,Tryz.results4,go_sem];try rfl) rfl ⟨rfl,HB2.out⟩
 have h17':decide ((17:Int)<(mx:Int))=false:=by simp;omega
 have HI:=hide ((HX.out.below HB2.out).isrow (L:=1500) HLG.out);obtain⟨zs,d,hzs,hlz⟩:=axf (l:=xs.map WE.z) (by
  intro e;have:=congrArg List.length e;rw[List.length_map,<-HMX.out]at this
  exact h0 (by simpa using this))
 rw[hzs]at HI hlz;obtain⟨n,hn⟩:∃n,zs.length=n:=⟨_,rfl⟩;have hmn:mx=n+1:=by rw[HMX.out,<-List.length_map (f:=WE.z),hzs];simp[hn]
 have hn16:n<=16:=by omega
 have HMN:=hide hmn;have HZN:=hide hn;have K3:=hide (apx w2 _ _ 1500 HI.out (by decide) (by rw[List.length_append,hn];simp;omega));clear HMX HLG HSx hzs hlz hn HX hmn;go_wp2_with fail
 refine K3.out.mono ?_;rintro e w3 ⟨hb3,⟨hall,rfl⟩|⟨_,rfl⟩⟩
 rotate_left
 ·have HB3:=hide (HB2.out.trans (hb3.mono HB2.out.size));clear hb3;go_wp2;refine bodyPost_ret (v:=_) (by simp[results,Tryz.results4,go_sem];try rfl) rfl ⟨rfl,HB3.out⟩
 have HI3:=hide (HI.out.below hb3);have HB3:=hide (HB2.out.trans (hb3.mono HB2.out.size));have HALL:=hide hall;clear hb3 hall K3 HI HB2;have hw1:IntKind.i64.wrap ((mx:Int)-1)=(n:Int):=by rw[IntKind.wrap_i64];have:=HMN.out;omega
 have K4:=hide (ap0 w3 n hn16);go_wp2_with fail
 refine K4.out.mono ?_;rintro e w4 ⟨v4,rfl,hv4,hb4⟩;obtain⟨av4,cv4,rfl,_⟩:=id hv4;have HV4:=hide hv4;have HI4:=hide (HI3.out.below hb4);have HB4:=hide (HB3.out.trans (hb4.mono HB3.out.size));have K5:=hide (ajm w4 (HTB.out.below HB4.out) _ _ _ _ 1500 HI4.out (by decide) hv4 (als hn16) (by rw[List.length_append,adw hn16,HZN.out];rfl));clear hb4 K4 hv4 HI3 HB3 hw1;go_wp2_with fail
 refine K5.out.mono ?_;rintro e w5 ⟨rfl,hb5⟩;have HV5:=hide (HV4.out.below hb5);have HI5:=hide (HI4.out.below hb5);have HB5:=hide (HB4.out.trans (hb5.mono HB4.out.size));obtain⟨s5,hs5⟩:∃s,prn (zs ++ [d]) (nmv n)=s:=⟨_,rfl⟩;rw[hs5];have HS5:=hide hs5;clear hb5 K5 hs5 HV4 HI4 HB4;by_cases hbig:4096<s5.size
 ·have hb':decide ((4096:Int)<(s5.size:Int))=true:=by simp;omega
  go_wp2;refine bodyPost_ret (v:=_) (by simp[results,Tryz.results4,go_sem];try rfl) rfl ⟨rfl,HB5.out⟩
 have hb':decide ((4096:Int)<(s5.size:Int))=false:=by simp;omega
 have K6:=axe (d:=d) (zs:=zs) (HTB.out.below HB5.out) (by rw[HZN.out];exact hn16) (by rw[HZN.out];exact HV5.out) HALL.out (by rw[HZN.out,HS5.out];omega);rw[HZN.out,HS5.out]at K6;have K6:=hide K6;go_wp2_with fail
 refine K6.out.mono ?_;rintro e w6 ⟨hb6,x6,rfl,ho6⟩;obtain⟨ao6,cap6,rfl,_⟩:=ho6.is.parts;have HO6:=hide ho6;have HI6:=hide (HI5.out.below hb6);have HB6:=hide (HB5.out.trans (hb6.mono HB5.out.size));clear hb6 K6 ho6 HI5 HB5 HV5 HS5 hb' hbig;go_upto_region 12 with fail
 have hbP:=hAl w6 (.cells #[.int .i64 0,.int .i64 0,.int .i64 0,.int .i64 0] 35);have hnP:=heap_alloc_new w6 (.cells #[.int .i64 0,.int .i64 0,.int .i64 0,.int .i64 0] 35);generalize w6.alloc (.cells #[.int .i64 0,.int .i64 0,.int .i64 0,.int .i64 0] 35)=w7 at *
 have HO7:=hide (HO6.out.below hbP);have HI7:=hide (HI6.out.below hbP);have HB7:=hide (HB6.out.trans (hbP.mono HB6.out.size));have HP7:=hide hnP;clear hbP hnP HO6 HI6 HB6;go_wp2_with fail
 go_loopw [9,10] (fun ov iv wr=>∃(k:Nat) (es:List QE),iv=.int .i64 k/\k<=mx/\Below w7.heap.size w7 wr/\RqO w7.heap.size wr ov es/\es.map QE.w=((zs ++ [d]).take k).map (fun z:Int=>(z:Rat))/\∀e∈es,e.zs.length<=1502/\e.ys.length<=1502) (fun _ iv _=>mx-(intOf iv).toNat)
 case atStart=>exact⟨0,[],rfl,Nat.zero_le _,Below.refl _ _,aw5 _ _,rfl,fun e he=>by cases he⟩
 case round=>
  obtain⟨k,es,rfl,hk,hbw,ho,hs,hes⟩:=hrel;obtain⟨aov,capv,hov,_⟩:=Ce.own ho.own;subst hov;have HO:=hide ho;have HS:=hide hs;have HES:=hide hes;have HW:=hide hbw;by_cases hlt:k<mx
  ·have hlt':(k:Int)<(mx:Int):=by omega
   obtain⟨z,hz⟩:∃z,(zs ++ [d])[k]? = some z:=⟨_,List.getElem?_eq_getElem (by have:=HMN.out;rw[List.length_append,HZN.out];simp;omega)⟩;obtain⟨bx,ox,ng,a,m,c,rfl,hlx,x0,x1,hxw⟩:=(HI7.out.below hbw).cell hz;have hel:es.length<=1000000:=by
    have:=congrArg List.length hs;simp only[List.length_map,List.length_take]at this;omega
   have K1:=hide (ay3 wr z 1500 _ hxw (by decide));have HZ:=hide hz;clear hbw ho hs hes hz hxw;go_wp2_with fail
   refine K1.out.mono ?_;rintro e w8 ⟨r8,ng8,z8,y8,rfl,⟨ao8,cap8,bo8,dap8,rfl,hw1,hw2⟩,hv1,hv2,hl1,hl2,hb8⟩;have hA:=hAl w8 (.cells #[.bool ng8,.slice ao8 z8.length cap8,.slice bo8 y8.length dap8] 45);have hb8':=hb8.trans (hA.mono hb8.size);have hR2:=HO.out.below hb8';have hO2:=heap_alloc_new w8 (.cells #[.bool ng8,.slice ao8 z8.length cap8,.slice bo8 y8.length dap8] 45);have hS1:Ow w7.heap.size _ (.slice ao8 z8.length cap8) z8:=(hw1.mono HW.out.size).below hA;have hS2:Ow w7.heap.size _ (.slice bo8 y8.length dap8) y8:=(hw2.mono HW.out.size).below hA;have hsz:w7.heap.size<=(w8.alloc (.cells #[.bool ng8,.slice ao8 z8.length cap8,.slice bo8 y8.length dap8] 45)).heap.size:=Nat.le_trans HW.out.size hb8'.size;have HQ:Hid (QE.w ⟨⟨ng8,ao8,z8.length,cap8,bo8,y8.length,dap8⟩,z8,y8⟩=(z:Rat)):=(show Rat.divInt (sg ng8 (val z8)) (val y8)=(z:Rat) by rw[hv1,hv2];have h:=Rat.num_divInt_den (z:Rat);simpa using h);have HLL:=hide (And.intro hl1 hl2);clear x0 x1 hlx hv1 hv2 hl1 hl2 K1;go_wp2_with (at_builtin;refine agx rfl (aw6 (i:=64) (j:=70) (x:=⟨ng8,ao8,z8.length,cap8,bo8,y8.length,dap8⟩) rfl rfl hR2 hO2 hS1 hS2 hel hsz) ?_)
   intro v9 w9 hR3 hb3;obtain⟨aov3,capv3,hov3,_⟩:=Ce.own hR3.own;subst hov3;have HR3:=hide hR3;have HB3:=hide ((HW.out.trans (hb8'.mono HW.out.size)).trans hb3);clear hR3 hb3 hR2 hO2 hS1 hS2 hsz hA hb8 hb8' hw1 hw2;go_wp2;go_roundw
   case rel=>
    refine⟨k+1,_,by go_num,by omega,HB3.out,HR3.out,?_,?_⟩
    ·rw[List.map_append,HS.out,List.take_add_one,HZ.out,List.map_append];simp[HQ.out]
    ·intro e he;rcases List.mem_append.1 he with he|he
     ·exact HES.out e he
     ·obtain rfl:=List.mem_singleton.1 he;exact⟨by have:=HLL.out.1;show z8.length<=_;omega,by have:=HLL.out.2;show y8.length<=_;omega⟩
   case measure=>simp[intOf];omega
  ·have hlt':decide ((k:Int)<(mx:Int))=false:=by simp;omega
   have hkn:k=mx:=by omega
   have HQ8:=(ho.rq.isq hes);rw[hs,List.take_of_length_le (by have:=HMN.out;rw[List.length_append,HZN.out];simp;omega)]at HQ8;have hp80:pw 32<pw 80:=by decide +kernel
   have p1:(1:Int)<pw 80:=by decide +kernel
   have K8:=ajd wr _ _ 1502 80 HQ8 (by decide) (by decide) (by decide) (by have:=HMN.out;rw[List.length_map,List.length_append,HZN.out];simp;omega) (fun j _=>by rw[<-List.map_take,aix];exact p1) (fun z hz=>by rw[aiy]at hz;have:=HALL.out z hz;omega) (by simp);rw[adg]at K8;have K8:=hide K8;clear hbw ho hs hes HQ8 hp80 p1 HO HS HES;go_wp2_with fail
   refine K8.out.mono ?_;rintro e w8 ⟨hb8,⟨_,r8,rfl,ho8⟩|⟨⟨z9,hz9,hz9'⟩,_⟩⟩
   rotate_left
   ·exact absurd (asp HALL.out (by decide +kernel) z9 hz9) (Int.not_lt.2 hz9')
   obtain⟨ao8,cap8,rfl,_⟩:=ho8.is.parts;have hb78:=HW.out.trans (hb8.mono HW.out.size);have hp8:=(hb78.block _ (aaa HP7.out)).trans HP7.out;obtain⟨_,q0,q1,q2,q3,_⟩:=aff hp8;have K9:=afl w8 _ _ 80 (HO7.out.below hb78).is (by decide);rw[axd,decide_eq_true (show red (zs ++ [d])≠[]/\red (zs ++ [d])=red (zs ++ [d]) from⟨by simp[red],rfl⟩)]at K9;have K9:=hide K9;have HO8:=hide ho8.can;have HB8:=hide hb78;clear hb8 K8 ho8 hb78 hp8 HW;go_wp2_with fail
   refine K9.out.mono ?_;rintro e w9 ⟨rfl,hb9⟩;have hb79:=HB8.out.trans (hb9.mono HB8.out.size);have K10:=hide (agw w9 _ _ _ 80 80 (HO7.out.below hb79).can (HO8.out.below hb9));have HB9:=hide hb79;clear hb9 hb79 K9 HO8 HB8 q0 q1 q2 q3;go_wp2_with fail
   refine K10.out.mono ?_;rintro e w10 ⟨rfl,hb10⟩;have hb710:=HB9.out.trans (hb10.mono HB9.out.size);have K11:=hide (afl w10 _ _ 1500 (HI7.out.below hb710) (by decide));have HB10:=hide hb710;clear hb10 hb710 K10 HB9;go_wp2_with fail
   refine K11.out.mono ?_;rintro e w11 ⟨rfl,hb11⟩;have hb711:=HB10.out.trans (hb11.mono HB10.out.size);have HF:=hide (HB7.out.trans (hb711.mono HB7.out.size));have HB11:=hide hb711;by_cases hcan:(zs ++ [d])≠[]/\red (zs ++ [d])=zs ++ [d]
   ·rw[decide_eq_true hcan];have HC:=hide hcan.2;have HO11:=HO7.out.below hb711;rw[hcan.2]at HO11;have HO11:=hide HO11.is;have HI11:=hide (HI7.out.below hb711);clear hcan hb11 hb711 K11;go_wp2_with fail
    go_loopw [13] (fun iv wr=>∃(k:Nat),iv=.int .i64 k/\k<=mx/\Below w11.heap.size w11 wr) (fun iv _=>mx-(intOf iv).toNat)
    case atStart=>exact⟨0,rfl,Nat.zero_le _,Below.refl _ _⟩
    case round=>
     obtain⟨j,rfl,hj,hbw⟩:=hrel;have HW:=hide hbw;by_cases hlt2:j<mx
     ·have hlt2':(j:Int)<(mx:Int):=by omega
      obtain⟨z,hz⟩:∃z,(zs ++ [d])[j]? = some z:=⟨_,List.getElem?_eq_getElem (by have:=HMN.out;rw[List.length_append,HZN.out];simp;omega)⟩;obtain⟨bx,ox,ng,a,m,c,rfl,hlx,x0,x1,hxw⟩:=(HI11.out.below hbw).cell hz;obtain⟨by',oy,ngy,ay,my,cy,rfl,hly,y0,y1,hyw⟩:=(HO11.out.below hbw).cell hz;have HXW:=hide hxw;have HYW:=hide hyw;have hjl:(j:Int)<((red (zs ++ [d])).length:Int):=by
       have:=HMN.out;simp only[red,List.length_map,List.length_append,HZN.out];simp;omega
      clear hbw hxw hyw hz;go_upto_region 24 with fail
      go_cut [116] (fun cv wx=>cv=.bool false/\Below wr.heap.size wr wx)
      case first=>
       go_region_law (first|(refine aau rfl 19 #[.tmp 110,.tmp 114] #[29,29] rfl ali #[.agg #[.bool ng,.slice a m c],.agg #[.bool ngy,.slice ay my cy]] (by simp[Act.eval]) (ay5 (IsW.ru HXW.out (Ru.of_below (show Below wr.heap.size wr _ by(repeat' first|with_reducible(first|exact Below.refl _ _|assumption|refine gdrewN ?_ _|refine Below.alloc ?_ ?_ _|refine Below.drew ?_|refine Below.setCell ?_ ?_ _)|go_size)))) (IsW.ru HYW.out (Ru.of_below (show Below wr.heap.size wr _ by(repeat' first|with_reducible(first|exact Below.refl _ _|assumption|refine gdrewN ?_ _|refine Below.alloc ?_ ?_ _|refine Below.drew ?_|refine Below.setCell ?_ ?_ _)|go_size)))) (by omega) (by omega)) ?_;rintro e w12 ⟨rfl,hb12⟩;have HB12:=hide ((show Below wr.heap.size wr _ by(repeat' first|with_reducible(first|exact Below.refl _ _|assumption|refine gdrewN ?_ _|refine Below.alloc ?_ ?_ _|refine Below.drew ?_|refine Below.setCell ?_ ?_ _)|go_size)).trans (hb12.mono (by simp)));clear hb12;refine⟨_,rfl,?_⟩))
       all_goals (
        go_wp2_with fail
        go_meet
        exact⟨rfl,HB12.out⟩)
      case rest=>
       obtain⟨rfl,hb12⟩:=hcut;have HB12:=hide (HW.out.trans (hb12.mono HW.out.size));clear hb12;go_wp2;go_roundw
       case rel=>exact⟨j+1,by go_num,by omega,HB12.out⟩
       case measure=>simp[intOf];omega
     ·have hlt2':decide ((j:Int)<(mx:Int))=false:=by simp;omega
      clear hbw;go_wp2;refine bodyPost_ret (v:=_) (by simp[results,Tryz.results4,go_sem];try rfl) rfl ⟨rfl,HF.out.trans (HW.out.mono HF.out.size)⟩
   ·rw[decide_eq_false hcan];clear hcan hb11 hb711 K11;go_wp2;refine bodyPost_ret (v:=_) (by simp[results,Tryz.results4,go_sem];try rfl) rfl ⟨rfl,HF.out⟩
end Lm
namespace affineBackLaw
open Go.ChangeShapes Go.WideShapes Go.ChangeAt Go.RowKit
open Go.ChangeMaps (open_string shut_string)
theorem own:ownKnob Tryz.prog.godebug=none:=by kernel_rfl
theorem laidOut:laidOutB Tryz.prog=true:=by kernel_rfl
noncomputable def laidWorld(os:Os):World:=
 let w0:=World.holding Tryz.prog os ⟨#[],#[],[]⟩
 let put (h:Array Obj) (g:Nat) (cs:Array Value):Array Obj:=h.modify g fun
  |.cells _ t frozen=>.cells cs t frozen
  |o=>o
 let h1:=put w0.heap (Tryz.lays197_ren.g 3) (Lib.firstTab.map fun z=>Value.int .u8 z).toArray
 let h2:=put h1 (Tryz.lays197_ren.g 4) ((List.range 16).flatMap fun i=>[Value.int .u8 (Lib.accLo i),Value.int .u8 (Lib.accHi i)]).toArray
 {w0 with heap:=h2}
theorem laid_met(os:Os):laidMet Tryz.prog Rows.affineBackUptoRow.laid ((laidWorld os).forCall (fun _ _=>0) ⟨#[],#[.slice none 0 0],[]⟩).memory:=
 laidMet_of_run' 8 (by kernel_rfl) (by kernel_rfl)
theorem tabs{W:World}(h:laidMet Tryz.prog Rows.affineBackUptoRow.laid W):Lm.Tabs W:=
 utf8Tabs_of_reads (ρ:=Tryz.lays197_ren) {Tryz.lays197 with} ⟨by kernel_rfl,by kernel_rfl,by kernel_rfl,by kernel_rfl,by kernel_rfl,by kernel_rfl,by kernel_rfl⟩
  (Lib.laidMet.reads h (show ("unicode/utf8.first", Lib.firstData) ∈ Rows.affineBackUptoRow.laid from by
   rw[show Lib.firstData=Rows.laid_unicode_utf8_first from by kernel_rfl]
   exact .tail _ (.head _)))
  (Lib.laidMet.reads h (show ("unicode/utf8.acceptRanges", Lib.acceptData) ∈ Rows.affineBackUptoRow.laid from by
   rw[show Lib.acceptData=Rows.laid_unicode_utf8_acceptRanges from by kernel_rfl]
   exact .head _))
theorem reads(os:Os){H:Type}(enc:TypeId×Value->H):∃places,DataW.whole enc Tryz.prog ((laidWorld os).forCall (fun _ _=>0) ⟨#[],#[.slice none 0 0],[]⟩).memory Tryz.f4.params.toList Rows.affineBackSpec.vars false (#[.slice none 0 0]:Array Value).toList 8=some ([.nil],[],places):=
 ⟨[],by kernel_rfl⟩
set_option linter.unusedVariables false in
set_option maxRecDepth 100000 in
theorem lifted(os:Os)(started:os.Started)(H:Type)(enc:TypeId×Value->H)(F:Stop.Interp):
  ReturnsInHanded {} Tryz.checked os 4 .any ((Rows.OpenSpec.upto Rows.affineBackSpec).preRow enc Tryz.prog Tryz.f4 Rows.affineBackUptoRow.domain false Rows.affineBackUptoRow.laid) (((Rows.OpenSpec.upto Rows.affineBackSpec).at F).post enc Tryz.prog Tryz.f4 false true false false):=by
 obtain⟨places,hx⟩:=reads os enc;refine returnsInHanded_of_row (C:=Tryz.checked) (s:=(Rows.OpenSpec.upto Rows.affineBackSpec)) own started (by kernel_rfl) Tryz.func4
  (witness_row_at (enc:=enc) (C:=Tryz.checked) false (laidWorld os) #[.slice none 0 0] rfl (by kernel_rfl) (by kernel_rfl) (by kernel_rfl)
   (OpenSpec.preRow_of_cond 8 hx (by kernel_rfl) (fun k hk=>by cases hk;kernel_rfl) (by kernel_rfl) (laid_met os))) ?_
 intro W base args ds gs before hval0 hW hcnd0 hcond hsz0 hL hj2 hj3;have hTabs:Lm.Tabs W:=tabs hL;have hval:∀(j:Nat) t v,Tryz.f4.params[j]? = some t->args[j]? = some v->Value.okWide Tryz.prog W .any base t v:=hval0;have hW':=hW;obtain⟨p,q,hA0,hV,rfl,hfz,hnd⟩:=hW;have hA:DataW.TrodAll enc Tryz.prog W 0 (fun _=>true) true Tryz.f4.params.toList args.toList ds p:=hA0;have hsz:(DataW.weightsEach Tryz.prog (Tryz.f4.params.toList++Rows.affineBackSpec.plain.varTypes Tryz.prog) (ds++gs)).all (·<=reachBytes)=true:=hsz0;rw[Tryz.params4]at hA hval hsz;obtain⟨v0,vs0,d0,ds0,p0,q0,hargs,rfl,rfl,h0,r0⟩:=trodAll_cons hA;obtain⟨rfl,rfl,rfl⟩:=trodAll_nil r0;obtain rfl:args = #[v0]:=by cases args;simp_all
 obtain⟨rfl,rfl⟩:=trodVars_none hV;have hbulk:Rows.uptoBulkAll ([d0]:List (DataW H))<=1048576:=by
  have h:=of_decide_eq_true (hcond Rows.uptoSmall rfl);simpa only[List.append_nil]using h
 simp only[Rows.uptoBulkAll]at hbulk;obtain⟨a0,len0,cap0,rfl⟩:=okWide_slice Tryz.underlying22 (hval 0 22 v0 rfl rfl);have k0:=h0;have lt0:∀x∈p0,x.block<W.heap.size:=by obtain⟨m,hm⟩:=k0;exact DataW.trod_lt m _ _ _ hm
 obtain⟨z0,w0,b0⟩:∃es,Lm.Rw W (.slice a0 len0 cap0) es/\Lm.lenW es+1<=Rows.uptoBulk d0:=by
  obtain⟨fuel,hf⟩:=h0;exact Lm.atv (x:=(d0,p0)) (by simpa[Value.cells]using hf)
 clear hA0 hval0;refine(Lm.amw W hTabs a0 len0 cap0 z0 w0 (by omega)).mono fun e W' ⟨he,bel⟩=>?_
 subst he;exact⟨_,rfl,_,_,_,[],_,[],hW',trodAll_mk1 (shut_bool Tryz.underlying4 _),(trodAll_cons_mk (Below.trod laidOut (by kernel_rfl) (of_decide_eq_true (by kernel_rfl)) k0 bel lt0) trodAll_mk0),rfl,bel.frame _,fun h=>by cases h⟩
theorem said:Rows.AffineBackUptoSaid:=
 OpenClaim.holds_of_cond 4 Tryz.f4 rfl rfl rfl rfl rfl rfl rfl ⟨rfl,rfl,rfl,rfl,rfl⟩ rfl rfl rfl rfl rfl (by kernel_rfl) Tryz.func4 (by kernel_rfl)
  (of_decide_eq_true (by kernel_rfl)) (by unfold Func.isWrapper;first|(rw[if_pos (by decide +kernel)];kernel_rfl)|(rw[if_neg (by decide +kernel)];exact⟨rfl,rfl⟩))
  (fun os started H enc _ F=>by rw[OpenClaim.pre_eq_preRow];exact lifted os started H enc F)
theorem plain (f : FuncId) (fn : Func) (hf : Tryz.pinned.checked.prog.funcNamed "rafter/rafterlaw05.AffineBack" = some f) (hfn : Tryz.pinned.checked.prog.funcs[f]? = some fn) :
  false=Tryz.pinned.checked.prog.looks []/\∀(j:Nat) t,fn.params[j]? = some t->Tryz.pinned.checked.prog.wantsStandIn t=false:=by
 obtain rfl : f = 4 := Option.some.inj ((show Tryz.prog.funcNamed "rafter/rafterlaw05.AffineBack" = some 4 by kernel_rfl).symm.trans hf) |>.symm
 obtain rfl:fn=Tryz.f4:=(Option.some.inj (Tryz.func4.symm.trans hfn)).symm;refine⟨by kernel_rfl,fun j t ht=>?_⟩;rw[Tryz.params4]at ht;have hm:=Array.mem_of_getElem? ht;simp at hm;subst hm;exact(show Tryz.prog.wantsStandIn 22=false by kernel_rfl)
theorem card:Rows.AffineBackUptoCardSaid:=
 Claim7.holds_tied_plain_at .later [] _ _ _ _ said (fun _ h=>by cases h) (by kernel_rfl) (fun _ h=>by cases h) affineBackUpto_row_tie rfl ⟨rfl,rfl⟩ (by kernel_rfl) rfl plain (by kernel_rfl)
end affineBackLaw
theorem affineBack_card:Rows.AffineBackUptoCardSaid:=affineBackLaw.card
#print axioms affineBack_card
end Go.Proofs.YtmglhfbpgbjbkaaGreatDoor
