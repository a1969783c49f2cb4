/-
  What the text behind the last one leans on, part 0.
-/
import Derived.Test.YtgclhjjmleiggaaGreatDoorProg
import Derived.RegionTactic
import Derived.Below
import Derived.WalkKit
import Derived.WalkSpells
import Derived.WalkLawsBesides
import Derived.Deep.QuietTactic
import Derived.BigQuiet
import Derived.Laws.BitsAllLaws
import Derived.Laws.BytesArg
import Derived.Lib.BitFns
import Derived.Deep.RegionWith
import Derived.Deep.RegionHeld3
import Derived.Scope
namespace Go.Proofs.YtgclhjjmleiggaaGreatDoor
namespace Lm
open Go
theorem ag8:∀ (l:List Bool) (i:Nat),l[i]? = some false→(l.set i true).count false+1=l.count false
 | [],i,h=>by simp at h
 | b :: l,0,h=>by
  simp only [List.getElem?_cons_zero,Option.some.injEq] at h
  subst h
  simp
 | b :: l,i+1,h=>by
  have h1:=ag8 l i (by simpa using h)
  simp only [List.set_cons_succ,List.count_cons]
  omega
theorem unlisted {l:Array Bool} {j:Nat} (h:l.getD j true=false):l.toList[j]? = some false:=by
 rw [Array.getElem?_toList]
 rw [Array.getD_eq_getD_getElem?] at h
 cases hj:l[j]? with
 | none=>rw [hj] at h;simp at h
 | some b=>rw [hj] at h;simp at h;rw [h]
theorem an5 {P:Program} {ops:Array Oper} {Q:Exit→Act→World→Prop} {md:Region.Mode} (Inv:Array Bool→Act→World→Prop)
  (hend:∀ l a w,Inv l a w→Region.ready md ops l = []→Q .normal a w)
  (hstep:∀ l a w,Inv l a w→∀ i,i ∈ Region.ready md ops l→wpOp P ops Q i (fun a' w'=>Inv (l.setIfInBounds i true) a' w') a w) :
  ∀ (fuel:Nat) (l:Array Bool) (a:Act) (w:World),l.toList.count false≤fuel→Inv l a w→wpAny P md ops Q fuel l a w:=by
 intro fuel
 induction fuel with
 | zero =>
  intro l a w hc hI
  have hr:Region.ready md ops l = []:=by
   apply List.eq_nil_iff_forall_not_mem.2
   intro j hj
   have h1:=unlisted (mem_ready.1 hj).1
   have h2:0<l.toList.count false:=List.count_pos_iff.2 (List.mem_of_getElem? h1)
   omega
  exact ⟨hr,hend l a w hI hr⟩
 | succ fuel ih =>
  intro l a w hc hI
  refine ⟨hend l a w hI,fun i hi=>wpOp_mono (fun a' w' h=>ih _ _ _ ?_ h) (hstep l a w hI i hi)⟩
  have h1:=ag8 l.toList i (unlisted (mem_ready.1 hi).1)
  have h2:(l.setIfInBounds i true).toList=l.toList.set i true:=by simp
  rw [h2]
  omega
theorem ab3 {P:Program} {ops:Array Oper} {Q:Exit→Act→World→Prop} {id:Nat} {a:Act} {w:World} (hm:P.follows .mixedOrders=true) (Inv:Array Bool→Act→World→Prop)
  (h0:Inv (Array.replicate ops.size false) a w.drew)
  (hend:∀ l a w,Inv l a w→Region.ready .any ops l = []→Q .normal a w)
  (hstep:∀ l a w,Inv l a w→∀ i,i ∈ Region.ready .any ops l→wpOp P ops Q i (fun a' w'=>Inv (l.setIfInBounds i true) a' w') a w):(Code.region id ops true).wp P Q a w:=by
 refine wp_region_any hm (an5 Inv hend hstep ops.size _ a _ ?_ h0)
 simp
theorem al1 {ops:Array Oper} {md:Region.Mode} {l:Array Bool} (hd:(ops.toList.zipIdx.all fun p=>p.1.after.all fun e=>decide (e.on<p.2))=true) (hs:l.size=ops.size) (hr:Region.ready md ops l = []):∀ j,j<ops.size→l.getD j false=true:=by
 intro j
 induction j using Nat.strongRecOn with
 | _ j ih =>
  intro hj
  apply Classical.byContradiction
  intro hn
  have hl:l[j]? = some (l[j]'(by omega)):=Array.getElem?_eq_getElem (by omega)
  have hf:l[j]'(by omega)=false:=by
   rw [Array.getD_eq_getD_getElem?,hl] at hn
   simpa using hn
  have hmem:j ∈ Region.ready md ops l:=by
   refine mem_ready.2 ⟨by rw [Array.getD_eq_getD_getElem?,hl,hf];rfl,ops[j],Array.getElem?_eq_getElem hj,fun e he _=>?_⟩
   have h1:=List.all_eq_true.1 hd (ops[j],j) (by
    rw [List.mem_zipIdx_iff_getElem?]
    simp [hj])
   have h2:e.on<j:=by
    have:=Array.all_eq_true_iff_forall_mem.1 h1 e he
    simpa using this
   exact ih e.on h2 (by omega)
  rw [hr] at hmem
  cases hmem
end Lm
end Go.Proofs.YtgclhjjmleiggaaGreatDoor
namespace Go.Proofs.YtgclhjjmleiggaaGreatDoor
namespace Lm
open Go Go.RowKit
def Turns (P:Program) (o:Oper) (ρ:Operand→Value) (w:World) (R:Value→World→Prop):Prop :=
 match (execOp ρ o).run P w with
 | .ok (.value v) w'=>R v w'
 | .ok .skip w'=>R undef w'
 | .ok (.enter f args) w'=>Calls P f args w' fun e w''=>∃ v,e=.returned v∧R v w''
 | .ok (.row row args) w'=>Rows P row args w' R
 | _=>False
structure Does (P:Program) (o:Oper) (ρ:Operand→Value) (w:World) (R:Value→World→Prop):Prop where
 out:Turns P o ρ w R
theorem Does.wp {P:Program} {o:Oper} {a:Act} {w:World} {R:Value→World→Prop} {K:Act→World→Prop} {Q:Exit→Act→World→Prop} (h:Does P o a.eval w R) (hk:∀ v w',R v w'→K (a.put o.dst v) w'):o.wp P a w K Q:=by
 replace h:=h.out
 unfold Turns at h
 unfold Oper.wp
 generalize (execOp a.eval o).run P w=r at *
 cases r with
 | ok n w' =>
  cases n <;> simp only [Oper.upon] at h ⊢ <;>
   first
    | exact hk _ _ h
    | exact h.elim
    | exact Calls.mono h (fun e w'' he=>by obtain ⟨v,rfl,hv⟩:=he;exact hk _ _ hv)
    | exact Rows.mono h (fun _ _ he=>hk _ _ he)
 | halt x w'=>exact h.elim
theorem Does.mono {P:Program} {o:Oper} {ρ:Operand→Value} {w:World} {R R' : Value→World→Prop} (h:Does P o ρ w R) (hk:∀ v w',R v w'→R' v w'):Does P o ρ w R' := by
 refine ⟨?_⟩
 replace h:=h.out
 unfold Turns at *
 generalize (execOp ρ o).run P w=r at *
 cases r with
 | ok n w' =>
  cases n <;> simp only [] at h ⊢ <;>
   first
    | exact hk _ _ h
    | exact h.elim
    | exact Calls.mono h (fun e w'' he=>by obtain ⟨v,rfl,hv⟩:=he;exact ⟨v,rfl,hk _ _ hv⟩)
    | exact Rows.mono h (fun _ _ he=>hk _ _ he)
 | halt x w'=>exact h.elim
abbrev Says:=Value→World→Prop
def Rest (Ds:List Nat) (a0 a:Act):Prop:=∀ k,Ds.contains k=false→a.eval (.tmp k)=a0.eval (.tmp k)
def Deps (Ds:List Nat) (Ps:List Says) (o:Oper) (a:Act) (w:World):Prop:=∀ j,(o.after.toList.any fun e=>e.on == j && Region.binds .any e)=true→Ps.getD j (fun _ _=>True) (a.eval (.tmp (Ds.getD j 0))) w
def Duty (P:Program) (n:Nat) (Ds:List Nat) (Ps:List Says) (a0:Act) (w0:World) (o:Oper) (d:Nat) (p:Says):Prop :=
 o.dst=some d∧∀ a w,a.tmps.size=n→Below w0.heap.size w0 w→Rest Ds a0 a→Deps Ds Ps o a w →
  match o.guard with
  | none=>Does P o a.eval w fun v w'=>Below w.heap.size w w'∧p v w'
  | some (g,b)=>g<Ds.length∧(a.eval (.tmp (Ds.getD g 0))=.bool b→Does P o a.eval w fun v w'=>Below w.heap.size w w'∧p v w')∧(a.eval (.tmp (Ds.getD g 0))≠.bool b→p undef w)
def Duties (P:Program) (n:Nat) (Ds:List Nat) (Ps:List Says) (a0:Act) (w0:World):List Oper→List Nat→List Says→Prop
 | [],[],[]=>True
 | o :: os,d :: ds,p :: ps=>Duty P n Ds Ps a0 w0 o d p∧Duties P n Ds Ps a0 w0 os ds ps
 | _,_,_=>False
def Mono (p:Says):Prop:=∀ v w w',Below w.heap.size w w'→p v w→p v w'
def Monos:List Says→Prop
 | []=>True
 | p :: ps=>Mono p∧Monos ps
theorem Monos.at {ps:List Says} (h:Monos ps) (j:Nat):Mono (ps.getD j (fun _ _=>True)):=by
 induction ps generalizing j with
 | nil=>intro v w w' _ _;simp
 | cons p ps ih =>
  cases j with
  | zero=>simpa using h.1
  | succ j=>simpa using ih h.2 j
theorem Duties.at {P:Program} {n:Nat} {Ds:List Nat} {Ps:List Says} {a0:Act} {w0:World} : ∀ {os:List Oper} {ds:List Nat} {ps:List Says},Duties P n Ds Ps a0 w0 os ds ps→ds.length=os.length∧∀ i o,os[i]? = some o→Duty P n Ds Ps a0 w0 o (ds.getD i 0) (ps.getD i fun _ _=>True)
 | [],[],[],_=>⟨rfl,fun i o h=>by simp at h⟩
 | o :: os,d :: ds,p :: ps,h=>by
  obtain ⟨h1,h2⟩:=h
  obtain ⟨hl,h3⟩:=Duties.at h2
  refine ⟨by simp [hl],fun i o' ho=>?_⟩
  cases i with
  | zero =>
   simp only [List.getElem?_cons_zero,Option.some.injEq] at ho
   subst ho
   simpa using h1
  | succ i =>
   simpa using h3 i o' (by simpa using ho)
 | [],_ :: _,_,h=>h.elim
 | [],[],_ :: _,h=>h.elim
 | _ :: _,[],_,h=>h.elim
 | _ :: _,_ :: _,[],h=>h.elim
theorem afn (a:Act) (d:Nat) (v:Value):(a.put (some d) v).tmps=a.tmps.setIfInBounds d v:=rfl
theorem ac1 {a:Act} {d:Nat} {v:Value} (h:d<a.tmps.size):(a.put (some d) v).eval (.tmp d)=v:=by
 simp [Act.eval,Act.put,h]
theorem aa4 {a:Act} {d k:Nat} {v:Value} (h:d≠k):(a.put (some d) v).eval (.tmp k)=a.eval (.tmp k):=by
 simp [Act.eval,Act.put,h]
theorem al2 {l:List Nat} (h:l.Nodup) {i j:Nat} (hi:i<l.length) (hj:j<l.length) (hne:i≠j):l.getD i 0≠l.getD j 0:=by
 rw [List.getD_eq_getElem?_getD,List.getD_eq_getElem?_getD,List.getElem?_eq_getElem hi,List.getElem?_eq_getElem hj]
 intro he
 exact hne ((List.getElem_inj h).1 (by simpa using he))
def Mid (n:Nat) (Ds:List Nat) (Ps:List Says) (a0:Act) (w0:World) (l:Array Bool) (a:Act) (w:World):Prop :=
 l.size=Ds.length∧a.tmps.size=n∧a.defers=a0.defers∧Below w0.heap.size w0 w∧Rest Ds a0 a∧∀ j,l.getD j false=true→Ps.getD j (fun _ _=>True) (a.eval (.tmp (Ds.getD j 0))) w
theorem Mid.put {n:Nat} {Ds:List Nat} {Ps:List Says} {a0:Act} {w0:World} {l:Array Bool} {a:Act} {w w' : World} {i:Nat} {v:Value} (h:Mid n Ds Ps a0 w0 l a w) (hi:i<Ds.length) (hnd:Ds.Nodup) (hlt:(Ds.all fun d=>decide (d<n))=true) (hM:Monos Ps) (hb:Below w.heap.size w w') (hp:Ps.getD i (fun _ _=>True) v w') :
  Mid n Ds Ps a0 w0 (l.setIfInBounds i true) (a.put (some (Ds.getD i 0)) v) w' := by
 obtain ⟨h1,h2,h3,h4,h5,h6⟩:=h
 have hd:Ds.getD i 0<n:=by
  have:=List.all_eq_true.1 hlt (Ds.getD i 0) (by rw [List.getD_eq_getElem?_getD,List.getElem?_eq_getElem hi];simp)
  simpa using this
 refine ⟨by simp [h1],by rw [afn];simp [h2],h3,h4.trans (hb.mono h4.size),fun k hk=>?_,fun j hj=>?_⟩
 ·rw [aa4,h5 k hk]
  rintro rfl
  have:Ds.contains (Ds.getD i 0)=true:=by
   rw [List.contains_iff_mem,List.getD_eq_getElem?_getD,List.getElem?_eq_getElem hi]
   simp
  rw [this] at hk
  cases hk
 ·by_cases e:j=i
  ·subst e
   rw [ac1 (by omega)]
   exact hp
  ·rw [getD_set_ne false (fun h=>e h.symm)] at hj
   have hjl:j<Ds.length:=by
    rw [Array.getD_eq_getD_getElem?] at hj
    cases hc:l[j]? with
    | none=>rw [hc] at hj;simp at hj
    | some b=>rw [←h1];exact (Array.getElem?_eq_some_iff.1 hc).1
   rw [aa4 (al2 hnd hi hjl (fun h=>e h.symm))]
   exact hM.at j _ _ _ hb (h6 j hj)
end Lm
end Go.Proofs.YtgclhjjmleiggaaGreatDoor
namespace Go.Proofs.YtgclhjjmleiggaaGreatDoor
namespace Lm
def Limb (zs:List Int):Prop:=∀ z ∈ zs,0≤z∧z<4294967296
def pw:Nat→Int
 | 0=>1
 | n+1=>4294967296*pw n
def val:List Int→Int
 | []=>0
 | z :: zs=>z+4294967296*val zs
def tl:List Int→Nat
 | []=>0
 | z :: zs=>if tl zs=0 then (if z=0 then 0 else 1) else tl zs+1
def Canon (zs:List Int):Prop:=Limb zs∧tl zs=zs.length
theorem aaw (n:Nat):1≤pw n:=by
 induction n with
 | zero=>simp [pw]
 | succ n ih=>simp only [pw];omega
theorem ada (m n:Nat):pw (m+n)=pw m*pw n:=by
 induction m with
 | zero=>simp [pw]
 | succ m ih=>rw [Nat.succ_add];simp only [pw,ih,Int.mul_assoc]
theorem abf {m n:Nat} (h:m≤n):pw m≤pw n:=by
 obtain ⟨k,rfl⟩:=Nat.le.dest h
 rw [ada]
 have h1:=aaw m
 have h2:=aaw k
 have:pw m*1≤pw m*pw k:=Int.mul_le_mul_of_nonneg_left h2 (by omega)
 omega
theorem aaf:Limb []:=fun _ h=>by cases h
theorem aag {z:Int} {zs:List Int} : Limb (z :: zs)↔(0≤z∧z<4294967296)∧Limb zs:=by
 constructor
 ·intro h;exact ⟨h z (by simp),fun y hy=>h y (by simp [hy])⟩
 ·rintro ⟨h1,h2⟩ y hy
  simp at hy
  rcases hy with rfl | hy
  ·exact h1
  ·exact h2 y hy
theorem aan {xs ys:List Int} : Limb (xs ++ ys)↔Limb xs∧Limb ys:=by
 constructor
 ·intro h;exact ⟨fun y hy=>h y (by simp [hy]),fun y hy=>h y (by simp [hy])⟩
 ·rintro ⟨h1,h2⟩ y hy
  simp at hy
  rcases hy with hy | hy
  ·exact h1 y hy
  ·exact h2 y hy
theorem aai {zs:List Int} (h:Limb zs) (k:Nat):Limb (zs.take k):=fun y hy=>h y (List.mem_of_mem_take hy)
theorem ag9 {zs:List Int} (h:Limb zs) (k:Nat):Limb (zs.drop k):=fun y hy=>h y (List.mem_of_mem_drop hy)
theorem aah {zs:List Int} (h:Limb zs) (i:Nat):0≤zs.getD i 0∧zs.getD i 0<4294967296:=by
 rw [List.getD_eq_getElem?_getD]
 cases hi:zs[i]? with
 | none=>simp
 | some z=>simpa using h z (List.mem_of_getElem? hi)
theorem al3 (n:Nat):Limb (List.replicate n 0):=fun y hy=>by
 have:=List.eq_of_mem_replicate hy
 omega
theorem aa5 (xs ys:List Int):val (xs ++ ys)=val xs+pw xs.length*val ys:=by
 induction xs with
 | nil=>simp [val,pw]
 | cons x xs ih =>
  simp only [List.cons_append,val,List.length_cons,pw,ih,Int.mul_add,Int.mul_assoc]
  omega
theorem an6 (n:Nat):val (List.replicate n 0)=0:=by
 induction n with
 | zero=>rfl
 | succ n ih=>simp [List.replicate_succ,val,ih]
theorem aab {zs:List Int} (h:Limb zs):0≤val zs∧val zs<pw zs.length:=by
 induction zs with
 | nil=>simp [val,pw]
 | cons z zs ih =>
  have h' := aag.1 h
  have:=ih h'.2
  simp only [val,List.length_cons,pw]
  omega
theorem aaq (zs:List Int):tl zs≤zs.length:=by
 induction zs with
 | nil=>simp [tl]
 | cons z zs ih =>
  simp only [tl,List.length_cons]
  repeat' split
  all_goals omega
theorem adp {zs:List Int} (h:tl zs=0):val zs=0:=by
 induction zs with
 | nil=>rfl
 | cons z zs ih =>
  simp only [tl] at h
  by_cases h0:tl zs=0
  ·rw [if_pos h0] at h
   by_cases hz:z=0
   ·simp [val,ih h0,hz]
   ·rw [if_neg hz] at h;omega
  ·rw [if_neg h0] at h;omega
theorem aad (zs:List Int):val (zs.take (tl zs))=val zs:=by
 induction zs with
 | nil=>rfl
 | cons z zs ih =>
  simp only [tl]
  by_cases h0:tl zs=0
  ·rw [if_pos h0]
   by_cases hz:z=0
   ·simp [hz,val,adp h0]
   ·simp [hz,val,adp h0]
  ·rw [if_neg h0]
   simp [val,ih]
theorem af3 (zs:List Int):tl (zs.take (tl zs))=tl zs:=by
 induction zs with
 | nil=>rfl
 | cons z zs ih =>
  by_cases h0:tl zs=0
  ·by_cases hz:z=0
   ·simp [tl,h0,hz]
   ·simp [tl,h0,hz]
  ·have e:tl (z :: zs)=tl zs+1:=by simp [tl,h0]
   rw [e,List.take_succ_cons]
   simp [tl,ih,h0]
theorem aa2 {zs:List Int} (h:Limb zs):Canon (zs.take (tl zs)) :=
 ⟨aai h _,by rw [af3,List.length_take,Nat.min_eq_left (aaq zs)]⟩
theorem abl:Canon []:=⟨aaf,rfl⟩
theorem ab4 {zs:List Int} {n:Nat} (h:tl zs≤n+1) (h0:zs.getD n 0=0):tl zs≤n:=by
 induction zs generalizing n with
 | nil=>simp [tl]
 | cons z zs ih =>
  simp only [tl] at h ⊢
  by_cases ht:tl zs=0
  ·rw [if_pos ht] at h ⊢
   by_cases hz:z=0
   ·rw [if_pos hz];omega
   ·rw [if_neg hz]
    cases n with
    | zero=>simp at h0;exact absurd h0 hz
    | succ n=>omega
  ·rw [if_neg ht] at h ⊢
   cases n with
   | zero=>omega
   | succ n =>
    have:=ih (n:=n) (by omega) (by simpa using h0)
    omega
theorem al4 {zs:List Int} {n:Nat} (h0:zs.getD n 0≠0):n+1≤tl zs:=by
 induction zs generalizing n with
 | nil=>simp at h0
 | cons z zs ih =>
  cases n with
  | zero =>
   simp at h0
   simp only [tl,h0,if_false]
   split <;> omega
  | succ n =>
   have:=ih (n:=n) (by simpa using h0)
   simp only [tl]
   rw [if_neg (by omega)]
   omega
theorem ad3 {z:Int} {zs:List Int} (h:Canon (z :: zs)):Canon zs∧(zs = []→z≠0):=by
 obtain ⟨h1,h2⟩:=h
 have hl:=aaq zs
 simp only [tl,List.length_cons] at h2
 refine ⟨⟨(aag.1 h1).2,?_⟩,?_⟩
 ·by_cases h0:tl zs=0
  ·rw [if_pos h0] at h2
   by_cases hz:z=0
   ·rw [if_pos hz] at h2;omega
   ·rw [if_neg hz] at h2;omega
  ·rw [if_neg h0] at h2;omega
 ·rintro rfl hz
  simp [tl,hz] at h2
theorem abt {zs:List Int} (h:Canon zs) (h0:zs≠[]):pw (zs.length - 1)≤val zs:=by
 induction zs with
 | nil=>exact absurd rfl h0
 | cons z zs ih =>
  have hc:=ad3 h
  have hz:=(aag.1 h.1).1
  cases zs with
  | nil =>
   have:=hc.2 rfl
   simp [val,pw]
   omega
  | cons y ys =>
   have:=ih hc.1 (by simp)
   simp only [List.length_cons,Nat.add_sub_cancel,pw] at this ⊢
   rw [val]
   omega
theorem adg {xs ys:List Int} (hx:Canon xs) (hy:Canon ys) (h:val xs=val ys):xs=ys:=by
 induction xs generalizing ys with
 | nil =>
  cases ys with
  | nil=>rfl
  | cons y ys =>
   have:=abt hy (by simp)
   have:=aaw ((y :: ys).length - 1)
   have h0:0=val (y :: ys):=h
   omega
 | cons x xs ih =>
  cases ys with
  | nil =>
   have:=abt hx (by simp)
   have:=aaw ((x :: xs).length - 1)
   have h0:val (x :: xs)=0:=h
   omega
  | cons y ys =>
   have h1:=(aag.1 hx.1).1
   have h2:=(aag.1 hy.1).1
   simp only [val] at h
   have e:x=y:=by omega
   have e' : val xs=val ys:=by omega
   rw [e,ih (ad3 hx).1 (ad3 hy).1 e']
theorem ad4 {zs:List Int} (h:Canon zs):val zs=0↔zs = []:=by
 constructor
 ·intro h0;exact adg h abl h0
 ·rintro rfl;rfl
theorem aq3 {xs ys:List Int} (hx:Canon xs) (hy:Canon ys) (h:xs.length<ys.length):val xs<val ys:=by
 have h1:=(aab hx.1).2
 have h2:=abt hy (by intro e;subst e;simp at h)
 have h3:=abf (m:=xs.length) (n:=ys.length - 1) (by omega)
 omega
theorem ad5 {zs:List Int} (h:Limb zs) (h0:0<tl zs):0<val zs:=by
 have hl:(zs.take (tl zs)).length=tl zs:=by have:=aaq zs;rw [List.length_take];omega
 have h1:=abt (aa2 h) (by intro e;rw [e] at hl;simp at hl;omega)
 have h2:=aaw ((zs.take (tl zs)).length - 1)
 rw [aad] at h1
 omega
theorem an7 {xs ys:List Int} {k:Nat} (hx:Limb xs) (hy:Limb ys) (hl:xs.length=ys.length) (hk:k<xs.length) (hd:xs.drop (k+1)=ys.drop (k+1)) (h:xs.getD k 0<ys.getD k 0):val xs<val ys:=by
 induction k generalizing xs ys with
 | zero =>
  cases xs with
  | nil=>simp at hk
  | cons x xs =>
   cases ys with
   | nil=>simp at hl
   | cons y ys =>
    simp at hd h
    subst hd
    simp only [val]
    omega
 | succ k ih =>
  cases xs with
  | nil=>simp at hk
  | cons x xs =>
   cases ys with
   | nil=>simp at hl
   | cons y ys =>
    have h1:=aag.1 hx
    have h2:=aag.1 hy
    have:=ih h1.2 h2.2 (by simpa using hl) (by simpa using hk) (by simpa using hd) (by simpa using h)
    simp only [val]
    omega
theorem aax (zs:List Int) (k:Nat) (h:k<zs.length):zs.take (k+1)=zs.take k ++ [zs.getD k 0]:=by
 rw [List.take_succ_eq_append_getElem h,List.getD_eq_getElem?_getD,List.getElem?_eq_getElem h]
 rfl
theorem acv (zs:List Int) (k:Nat) (h:k<zs.length):zs.drop k=zs.getD k 0 :: zs.drop (k+1):=by
 rw [List.drop_eq_getElem_cons h,List.getD_eq_getElem?_getD,List.getElem?_eq_getElem h]
 rfl
def vf (zs:List Int):Nat→Int
 | 0=>0
 | k+1=>vf zs k+pw k*zs.getD k 0
theorem ato (zs:List Int) (k:Nat):vf zs k=val (zs.take k):=by
 induction k with
 | zero=>simp [vf,val]
 | succ k ih =>
  by_cases h:k<zs.length
  ·rw [aax zs k h,aa5,vf,ih,List.length_take,Nat.min_eq_left (by omega)]
   simp [val]
  ·rw [vf,ih,List.take_of_length_le (by omega),List.take_of_length_le (by omega)]
   have:zs.getD k 0=0:=by rw [List.getD_eq_getElem?_getD,List.getElem?_eq_none (by omega)];rfl
   rw [this];omega
theorem aa8 (zs:List Int) (k:Nat) (h:zs.length≤k):vf zs k=val zs:=by
 rw [ato,List.take_of_length_le h]
theorem aba (ps:List Int) (x:Int):val (ps ++ [x])=val ps+pw ps.length*x:=by
 rw [aa5];simp [val]
theorem aa3 (ps zs:List Int) (k:Nat) (x:Int) (hk:ps.length=k) (h:k<zs.length):(ps ++ zs.drop k).set k x=(ps ++ [x]) ++ zs.drop (k+1):=by
 subst hk
 rw [acv zs _ h]
 simp
theorem afo (zs qs:List Int) (k:Nat) (x:Int) (h:k<zs.length):(zs.take (k+1) ++ qs).set k x=zs.take k ++ x :: qs:=by
 rw [aax zs k h]
 have:(zs.take k).length=k:=by rw [List.length_take];omega
 rw [List.append_assoc,List.set_append_right _ _ (by omega)]
 simp [this]
end Lm
end Go.Proofs.YtgclhjjmleiggaaGreatDoor
namespace Go.Proofs.YtgclhjjmleiggaaGreatDoor
namespace Lm
open Go.RowKit
theorem hide {p:Prop} (h:p):Hid p:=h
def Sl (w:World) (v:Value) (zs:List Int):Prop :=
 ∃ ao cap,v=.slice ao zs.length cap∧zs.length≤cap∧cap≤maxLen∧Limb zs ∧
  (zs = []∨∃ b off,ao=some ⟨b,off,none⟩∧∀ i,i<zs.length→w.cell? ⟨b,off+i,none⟩ = some (.int .u32 (zs.getD i 0)))
def At (cur:Array Value) (k:IntKind) (off:Nat) (zs:List Int):Prop:=∀ i,i<zs.length→cur[off+i]? = some (.int k (zs.getD i 0))
def Ow (B:Nat) (w:World) (v:Value) (zs:List Int):Prop :=
 ∃ ao cap,v=.slice ao zs.length cap∧zs.length≤cap∧cap≤maxLen∧Limb zs ∧
  (cap=0∨∃ g off cur,ao=some ⟨g,off,none⟩∧B≤g∧w.heap[g]? = some (.cells cur 68 (0,0))∧off+cap≤cur.size∧At cur .u32 off zs)
structure Wr (w w' : World) (g:Nat) (cur:Array Value) (e:TypeId):Prop where
 os:w'.os=w.os
 tape:w'.tape=w.tape
 output:w'.output=w.output
 size:w'.heap.size=w.heap.size
 here:w'.heap[g]? = some (.cells cur e (0,0))
 other:∀ k,k≠g→w'.heap[k]? = w.heap[k]?
def Is (B:Nat) (w:World) (v:Value) (x:Int):Prop:=∃ rs,Ow B w v rs∧Canon rs∧val rs=x
theorem aay {w:World} {b off:Nat} {v:Value} (h:w.cell? ⟨b,off,none⟩ = some v):b<w.heap.size:=by
 apply Classical.byContradiction
 intro hn
 have:w.heap[b]? = none:=Array.getElem?_eq_none (by omega)
 simp [World.cell?,this] at h
theorem aaa {w:World} {b:Nat} {o:Obj} (h:w.heap[b]? = some o):b<w.heap.size:=by
 apply Classical.byContradiction
 intro hn
 rw [Array.getElem?_eq_none (by omega)] at h
 cases h
theorem Sl.below {w w' : World} {v:Value} {zs:List Int} (h:Sl w v zs) (hb:Below w.heap.size w w'):Sl w' v zs:=by
 obtain ⟨ao,cap,rfl,h1,h2,h3,h4⟩:=h
 refine ⟨ao,cap,rfl,h1,h2,h3,?_⟩
 rcases h4 with h4 | ⟨b,off,rfl,hc⟩
 ·exact .inl h4
 ·refine .inr ⟨b,off,rfl,fun i hi=>?_⟩
  have h5:=hc i hi
  rw [hb.cell (p:=⟨b,off+i,none⟩) (aay h5)]
  exact h5
theorem Ow.sl {B:Nat} {w:World} {v:Value} {zs:List Int} (h:Ow B w v zs):Sl w v zs:=by
 obtain ⟨ao,cap,rfl,h1,h2,h3,h4⟩:=h
 refine ⟨ao,cap,rfl,h1,h2,h3,?_⟩
 rcases h4 with h4 | ⟨g,off,cur,rfl,_,hh,hs,ha⟩
 ·exact .inl (List.eq_nil_of_length_eq_zero (by omega))
 ·exact .inr ⟨g,off,rfl,fun i hi=>by rw [cell_of_row w g (off+i) cur _ (0,0) hh];exact ha i hi⟩
theorem Ow.mono {B B' : Nat} {w:World} {v:Value} {zs:List Int} (h:Ow B w v zs) (hB:B'≤B):Ow B' w v zs:=by
 obtain ⟨ao,cap,rfl,h1,h2,h3,h4⟩:=h
 refine ⟨ao,cap,rfl,h1,h2,h3,?_⟩
 rcases h4 with h4 | ⟨g,off,cur,rfl,hg,hh,hs,ha⟩
 ·exact .inl h4
 ·exact .inr ⟨g,off,cur,rfl,by omega,hh,hs,ha⟩
theorem Ow.below {B:Nat} {w w' : World} {v:Value} {zs:List Int} (h:Ow B w v zs) (hb:Below w.heap.size w w'):Ow B w' v zs:=by
 obtain ⟨ao,cap,rfl,h1,h2,h3,h4⟩:=h
 refine ⟨ao,cap,rfl,h1,h2,h3,?_⟩
 rcases h4 with h4 | ⟨g,off,cur,rfl,hg,hh,hs,ha⟩
 ·exact .inl h4
 ·exact .inr ⟨g,off,cur,rfl,hg,by rw [hb.block g (aaa hh)];exact hh,hs,ha⟩
theorem At.set {cur:Array Value} {k:IntKind} {off:Nat} {zs:List Int} (h:At cur k off zs) (j:Nat) (x:Int):At (cur.setIfInBounds (off+j) (.int k x)) k off (zs.set j x):=by
 intro i hi
 rw [List.length_set] at hi
 have h1:=h i hi
 have hb:off+i<cur.size:=by
  apply Classical.byContradiction
  intro hn
  rw [Array.getElem?_eq_none (by omega)] at h1
  cases h1
 rw [Array.getElem?_setIfInBounds,List.getD_eq_getElem?_getD,List.getElem?_set]
 by_cases hj:j=i
 ·subst hj
  simp [hi,hb]
 ·rw [if_neg (by omega),if_neg hj,h1,List.getD_eq_getElem?_getD]
theorem At.cell {cur:Array Value} {k:IntKind} {off:Nat} {zs:List Int} (h:At cur k off zs) {w:World} {g:Nat} {e:TypeId} (hh:w.heap[g]? = some (.cells cur e (0,0))) (i:Nat) (hi:i<zs.length):w.cell? ⟨g,off+i,none⟩ = some (.int k (zs.getD i 0)):=by
 rw [cell_of_row w g (off+i) cur _ (0,0) hh];exact h i hi
theorem Wr.refl {w:World} {g:Nat} {cur:Array Value} {e:TypeId} (h:w.heap[g]? = some (.cells cur e (0,0))):Wr w w g cur e:=⟨rfl,rfl,rfl,rfl,h,fun _ _=>rfl⟩
theorem Wr.drewN {w w' : World} {g:Nat} {cur:Array Value} {e:TypeId} (h:Wr w w' g cur e) (n:Nat):Wr w (w'.drewN n) g cur e:=⟨h.os,h.tape,h.output,h.size,h.here,h.other⟩
theorem Wr.set {w w' : World} {g:Nat} {cur:Array Value} {e:TypeId} (h:Wr w w' g cur e) (i:Nat) (u:Value):Wr w (w'.setCell ⟨g,i,none⟩ u) g (cur.setIfInBounds i u) e :=
 ⟨h.os,h.tape,h.output,by simp [World.setCell,h.size],heap_setCell_same w' g i cur e u h.here,fun k hk=>(heap_setCell_other w' ⟨g,i,none⟩ k u hk).trans (h.other k hk)⟩
theorem Wr.trans {w w' w'' : World} {g:Nat} {cur cur' : Array Value} {e:TypeId} (h:Wr w w' g cur e) (h' : Wr w' w'' g cur' e):Wr w w'' g cur' e :=
 ⟨h'.os.trans h.os,h'.tape.trans h.tape,h'.output.trans h.output,h'.size.trans h.size,h'.here,fun k hk=>(h'.other k hk).trans (h.other k hk)⟩
theorem Wr.free {w w' : World} {g:Nat} {cur:Array Value} {e:TypeId} (h:Wr w w' g cur e) (i:Nat):w'.frozen? ⟨g,i,none⟩ = false:=frozen_of_row w' g i cur e h.here
theorem Wr.below {w w' : World} {g:Nat} {cur:Array Value} {e:TypeId} (h:Wr w w' g cur e) {B:Nat} (hB:B≤g):Below B w w' :=
 ⟨h.os,h.tape,h.output,by rw [h.size];exact Nat.le_refl _,fun k hk=>h.other k (by omega)⟩
theorem Sl.parts {w:World} {ao:Option Addr} {n cap:Nat} {zs:List Int} (h:Sl w (.slice ao n cap) zs):n=zs.length∧zs.length≤cap∧cap≤9223372036854775807∧Limb zs:=by
 obtain ⟨ao',cap',hv,h1,h2,h3,h4⟩:=h
 obtain ⟨rfl,rfl,rfl⟩:=(Value.slice.injEq .. ▸ hv)
 exact ⟨rfl,h1,h2,h3⟩
theorem Sl.cells {w:World} {ao:Option Addr} {n cap:Nat} {zs:List Int} (h:Sl w (.slice ao n cap) zs) (hp:0<zs.length):∃ b off,ao=some ⟨b,off,none⟩∧∀ i,i<zs.length→w.cell? ⟨b,off+i,none⟩ = some (.int .u32 (zs.getD i 0)):=by
 obtain ⟨ao',cap',hv,h1,h2,h3,h4⟩:=h
 obtain ⟨rfl,rfl,rfl⟩:=(Value.slice.injEq .. ▸ hv)
 rcases h4 with rfl | h4
 ·simp at hp
 ·exact h4
theorem Sl.take {w:World} {ao:Option Addr} {n cap:Nat} {zs:List Int} (h:Sl w (.slice ao n cap) zs) {k:Nat} (hk:k≤zs.length):Sl w (.slice ao k cap) (zs.take k):=by
 obtain ⟨ao',cap',hv,h1,h2,h3,h4⟩:=h
 obtain ⟨rfl,rfl,rfl⟩:=(Value.slice.injEq .. ▸ hv)
 have hl:(zs.take k).length=k:=by rw [List.length_take];omega
 refine ⟨ao,cap,by rw [hl],by omega,h2,aai h3 _,?_⟩
 rcases h4 with rfl | ⟨b,off,rfl,hc⟩
 ·exact .inl (by simp)
 ·refine .inr ⟨b,off,rfl,fun i hi=>?_⟩
  rw [hc i (by omega),List.getD_eq_getElem?_getD,List.getD_eq_getElem?_getD,List.getElem?_take,if_pos (by omega)]
theorem Sl.cut {w:World} {ao:Option Addr} {n cap:Nat} {zs:List Int} (h:Sl w (.slice ao n cap) zs):Sl w (.slice ao (tl zs) cap) (zs.take (tl zs)):=h.take (aaq zs)
theorem Ow.take {B:Nat} {w:World} {ao:Option Addr} {n cap:Nat} {zs:List Int} (h:Ow B w (.slice ao n cap) zs) {k:Nat} (hk:k≤zs.length):Ow B w (.slice ao k cap) (zs.take k):=by
 obtain ⟨ao',cap',hv,h1,h2,h3,h4⟩:=h
 obtain ⟨rfl,rfl,rfl⟩:=(Value.slice.injEq .. ▸ hv)
 have hl:(zs.take k).length=k:=by rw [List.length_take];omega
 refine ⟨ao,cap,by rw [hl],by omega,h2,aai h3 _,?_⟩
 rcases h4 with h4 | ⟨g,off,cur,rfl,hg,hh,hs,ha⟩
 ·exact .inl h4
 ·refine .inr ⟨g,off,cur,rfl,hg,hh,hs,fun i hi=>?_⟩
  rw [ha i (by omega),List.getD_eq_getElem?_getD,List.getD_eq_getElem?_getD,List.getElem?_take,if_pos (by omega)]
theorem Wr.sl {w w' : World} {g:Nat} {cur:Array Value} {e:TypeId} (h:Wr w w' g cur e) {B:Nat} {w0:World} (hB:B≤g) (hb:Below B w0 w) (hs:w0.heap.size=B) {v:Value} {zs:List Int} (hv:Sl w0 v zs):Sl w' v zs:=by
 subst hs
 exact hv.below (hb.trans (h.below hB))
end Lm
end Go.Proofs.YtgclhjjmleiggaaGreatDoor
namespace Go.Proofs.YtgclhjjmleiggaaGreatDoor
namespace Lm
open Go.RowKit
set_option maxRecDepth 20000 in
set_option maxHeartbeats 400000 in
theorem aam (w:World) (ao:Option Addr) (n cap:Nat) (zs:List Int) (h:Sl w (.slice ao n cap) zs) :
  Calls Tryz.prog 50 #[.slice ao n cap] w fun e w'=>e=.returned (.slice ao (tl zs) cap)∧w' = w:=by
 obtain ⟨ao',cap',hv,h1,h2,h3,h4⟩:=h
 obtain ⟨rfl,rfl,rfl⟩:=(Value.slice.injEq .. ▸ hv)
 unfold maxLen at h2
 have ht:=aaq zs
 go_enter Tryz.func50,Tryz.ntmps50
 go_wp2
 go_loop [3] (fun n=>∃ k:Nat,k≤zs.length∧tl zs≤k∧n=.int .i64 k) (fun n=>(intOf n).toNat)
 case atStart=>exact ⟨zs.length,Nat.le_refl _,ht,rfl⟩
 case round =>
  obtain ⟨k,hk,hk2,rfl⟩:=hrel
  cases k with
  | zero =>
   have hz:tl zs=0:=by omega
   have HZ:Hid (tl zs=0):=hz
   clear hz
   go_wp2
   go_ret
   exact ⟨by rw [HZ.out];rfl,rfl⟩
  | succ k =>
   rcases h4 with h4 | ⟨b,off,rfl,hc⟩
   ·subst h4;simp at hk
   have hcell:=hc k (by omega)
   by_cases h0:zs.getD k 0=0
   ·have hle:=ab4 hk2 h0
    rw [h0] at hcell
    clear h0 hc
    go_wp2
    go_round
    case rel=>exact ⟨k,by omega,hle,by go_num⟩
    case measure=>simp [intOf]
   ·have hgt:=al4 h0
    have HZ:Hid (tl zs=k+1):=by show _ = _;omega
    have hb:(zs.getD k 0 == 0)=false:=by simpa using h0
    generalize zs.getD k 0=z at hcell hb
    clear h0 hc
    go_wp2
    go_ret
    exact ⟨by rw [HZ.out];rfl,rfl⟩
set_option maxRecDepth 20000 in
set_option maxHeartbeats 400000 in
theorem ah4 (w:World) (v:Value) (zs:List Int) (h:Sl w v zs) (i:Int) (h0:0≤i) :
  Calls Tryz.prog 51 #[v,.int .i64 i] w fun e w'=>e=.returned (.int .u32 (zs.getD i.toNat 0))∧w' = w:=by
 obtain ⟨ao,cap,rfl,h1,h2,h3,h4⟩:=h
 unfold maxLen at h2
 obtain ⟨k,rfl⟩:=Int.eq_ofNat_of_zero_le h0
 rw [Int.toNat_natCast]
 by_cases hk:k<zs.length
 ·rcases h4 with h4 | ⟨b,off,rfl,hc⟩
  ·subst h4;simp at hk
  have hcell:=hc k hk
  have hd:(k:Int)<(zs.length:Int):=by omega
  generalize zs.getD k 0=z at hcell
  clear hc
  go_enter Tryz.func51,Tryz.ntmps51
  go_wp2
  go_ret
  exact ⟨rfl,rfl⟩
 ·have hd:¬ (k:Int)<(zs.length:Int):=by omega
  have hz:zs.getD k 0=0:=by rw [List.getD_eq_getElem?_getD,List.getElem?_eq_none (by omega)];rfl
  rw [hz]
  clear hz
  go_enter Tryz.func51,Tryz.ntmps51
  go_wp2
  go_ret
  exact ⟨rfl,rfl⟩
theorem ab6 (w:World) (v:Value) (zs:List Int) (h:Sl w v zs) (k:Nat) :
  Calls Tryz.prog 51 #[v,.int .i64 k] w fun e w'=>e=.returned (.int .u32 (zs.getD k 0))∧w' = w:=by
 have:=ah4 w v zs h k (by omega)
 rwa [Int.toNat_natCast] at this
end Lm
end Go.Proofs.YtgclhjjmleiggaaGreatDoor
namespace Go.Proofs.YtgclhjjmleiggaaGreatDoor
namespace Lm
open Go.RowKit
theorem abu:(Tryz.prog.info? 68).map (fun i=>(i.zero,i.size,i.bytes))=some (some (.int .u32 0),1,4):=by kernel_rfl
theorem adh {w:World} {B:Nat} {v:Value} {n:Nat} {zs:List Int} (h:w.ownsRow B 68 1 v n (zs.map (Value.int .u32))) (hz:Limb zs):Ow B w v zs:=by
 obtain ⟨h1,h2⟩:=h
 have hn:zs.length=n:=by simpa using h1
 subst hn
 rcases h2 with ⟨rfl,h3⟩ | ⟨g,cap,cur,rfl,hg,hh,hc1,hc2,hs,ht⟩
 ·exact ⟨none,0,by rw [h3],by omega,by simp [maxLen],hz,.inl rfl⟩
 ·refine ⟨_,cap,rfl,hc1,hc2,hz,.inr ⟨g,0,cur,rfl,hg,hh,by omega,fun i hi=>?_⟩⟩
  have e:(cur.toList.take (zs.length*1))[i]? = (zs.map (Value.int .u32))[i]? := by rw [ht]
  rw [List.getElem?_take,if_pos (by omega)] at e
  rw [Nat.zero_add,←Array.getElem?_toList,e,List.getElem?_map,List.getElem?_eq_getElem hi,List.getD_eq_getElem?_getD,List.getElem?_eq_getElem hi]
  rfl
set_option maxRecDepth 20000 in
set_option maxHeartbeats 400000 in
theorem an8 (w:World) (ao:Option Addr) (n cap:Nat) (zs:List Int) (h:Sl w (.slice ao n cap) zs) (hz:zs.length≤1000000000) :
  Calls Tryz.prog 93 #[.slice ao n cap] w fun e w'=>∃ v,e=.returned v∧Ow w.heap.size w' v zs∧Below w.heap.size w w' := by
 obtain ⟨ao',cap',hv,h1,h2,h3,h4⟩:=h
 obtain ⟨rfl,rfl,rfl⟩:=(Value.slice.injEq .. ▸ hv)
 clear hv
 unfold maxLen at h2
 obtain ⟨i0,hi,hz0,hz1,hz2⟩:=info_parts abu
 have hnil:=fun (w:World) (a:Option Addr) (n c:Nat)=>Lib.run_eql_slice_nil (P:=Tryz.prog) w 31 68 a n c 0 0 Tryz.underlying31
 by_cases he:zs = []
 ·subst he
  clear h4
  cases ao with
  | none =>
   go_enter Tryz.func93,Tryz.ntmps93
   go_wp2
   go_ret
   exact ⟨_,rfl,⟨none,0,rfl,Nat.le_refl _,by simp [maxLen],h3,.inl rfl⟩,Below.refl _ _⟩
  | some ad =>
   go_enter Tryz.func93,Tryz.ntmps93
   go_wp2
   go_ret
   exact ⟨_,rfl,⟨_,0,rfl,Nat.le_refl _,by simp [maxLen],h3,.inl rfl⟩,(Below.refl _ _).alloc (Nat.le_refl _) _⟩
 ·rcases h4 with h4 | ⟨b,off,rfl,hc⟩
  ·exact absurd h4 he
  have hpos:0<zs.length:=by cases zs with | nil=>exact absurd rfl he | cons _ _=>simp
  have hcells:∀ j u,(zs.map (Value.int .u32))[j]? = some u→(w.alloc (Obj.cells #[] 68)).cell? ((⟨b,off,none⟩:Addr).add j)=some u:=by
   intro j u hu
   rw [List.getElem?_map] at hu
   have hj:j<zs.length:=by
    apply Classical.byContradiction
    intro hn
    rw [List.getElem?_eq_none (by omega)] at hu
    cases hu
   rw [List.getElem?_eq_getElem hj] at hu
   have hcj:=hc j hj
   rw [List.getD_eq_getElem?_getD,List.getElem?_eq_getElem hj] at hcj
   rw [show ((⟨b,off,none⟩:Addr).add j)=⟨b,off+j,none⟩ from by simp [Addr.add],World.cell?_alloc_past _ _ _ (aay hcj),hcj]
   exact hu
  have hone:∀ u ∈ zs.map (Value.int .u32),u.oneCell' = true:=by
   intro u hu
   obtain ⟨z,_,rfl⟩:=List.mem_map.1 hu
   rfl
  have H3:Hid (Limb zs):=h3
  clear hc h3 he
  go_enter Tryz.func93,Tryz.ntmps93
  go_wp2_with (at_builtin;refine wpList_append_grows _ rfl (.tmp 5) (.tmp 6) 31 rfl 68 i0 (.int .u32 0) 1 4 Tryz.underlying31 hi hz0 hz1 hz2 rfl (by decide) _ 0 0 [] rfl (fun _=>⟨rfl,rfl⟩) rfl (by intro _ _ _ _ h;simp at h) ⟨b,off,none⟩ zs.length cap (zs.map (Value.int .u32)) rfl (by simp) hcells hone (by omega) (by unfold maxLen;omega) (by omega) ?grow)
  case grow =>
   intro v' w' hown hgrow
   have R:=adh (zs:=zs) (by simpa using hown) (H3.out)
   have hb:Below w.heap.size w w' := ((Below.refl w.heap.size w).alloc (Nat.le_refl _) (Obj.cells #[] 68)).grown hgrow (by simp) (by simp)
   clear hown hgrow
   go_wp2
   go_ret
   exact ⟨_,rfl,R.mono (by simp),hb⟩
set_option maxRecDepth 20000 in
set_option maxHeartbeats 400000 in
theorem aco (w:World) (ao:Option Addr) (n cap:Nat) (zs:List Int) (h:Sl w (.slice ao n cap) zs) (hz:zs.length≤1000000000) :
  Calls Tryz.prog 77 #[.slice ao n cap] w fun e w'=>∃ v,e=.returned v∧Ow w.heap.size w' v (zs.take (tl zs))∧Below w.heap.size w w' := by
 go_enter Tryz.func77,Tryz.ntmps77
 go_wp2_with fail
 refine (aam w ao n cap zs h).mono ?_
 rintro e w' ⟨rfl,rfl⟩
 go_wp2_with fail
 refine (an8 _ _ _ _ (zs.take (tl zs)) (h.cut) (by have:=aaq zs;simp;omega)).mono ?_
 rintro e w' ⟨v,rfl,ho,hb⟩
 go_wp2
 go_ret
 exact ⟨_,rfl,ho,hb⟩
end Lm
end Go.Proofs.YtgclhjjmleiggaaGreatDoor
namespace Go.Proofs.YtgclhjjmleiggaaGreatDoor
namespace Lm
open Go.RowKit
def sameB (xs ys:List Int):Bool:=decide (xs=ys)
theorem al5 (xs:List Int):sameB xs xs=true:=by simp [sameB]
theorem ah5 {xs ys:List Int} (h:xs=ys):sameB xs ys=true:=by simp [sameB,h]
theorem ah6 {xs ys:List Int} {k:Nat} (hl:xs.length=ys.length) (hk:k<xs.length) (h:xs.take k=ys.take k) (e:xs.getD k 0=ys.getD k 0):xs.take (k+1)=ys.take (k+1):=by
 rw [aax xs k hk,aax ys k (by omega),h,e]
set_option maxRecDepth 20000 in
set_option maxHeartbeats 400000 in
theorem ah7 (w:World) (a1 a2:Option Addr) (n1 n2 c1 c2:Nat) (xs ys:List Int) (hx:Sl w (.slice a1 n1 c1) xs) (hy:Sl w (.slice a2 n2 c2) ys) :
  Calls Tryz.prog 18 #[.slice a1 n1 c1,.slice a2 n2 c2] w fun e w'=>e=.returned (.bool (sameB xs ys))∧Below w.heap.size w w' := by
 obtain ⟨ao',cap',hv,h1,h2,h3,h4⟩:=hx
 obtain ⟨rfl,rfl,rfl⟩:=(Value.slice.injEq .. ▸ hv)
 obtain ⟨ao',cap',hv',g1,g2,g3,g4⟩:=hy
 obtain ⟨rfl,rfl,rfl⟩:=(Value.slice.injEq .. ▸ hv')
 clear hv hv' h3 g3
 unfold maxLen at h2 g2
 by_cases hl:xs.length=ys.length
 ·have hb:(((xs.length:Nat):Int) != ((ys.length:Nat):Int))=false:=by simp [hl]
  have HL:Hid (xs.length=ys.length):=hl
  have hl1:xs.length≤ys.length:=by omega
  have hl2:ys.length≤xs.length:=by omega
  clear hl
  go_enter Tryz.func18,Tryz.ntmps18
  go_wp2
  go_loopw [5] (fun i wr=>∃ k:Nat,k≤xs.length∧xs.take k=ys.take k∧i=.int .i64 k∧Below w.heap.size w wr) (fun i _=>xs.length - (intOf i).toNat)
  case atStart=>exact ⟨0,Nat.zero_le _,by simp,rfl,Below.refl _ _⟩
  case round =>
   obtain ⟨k,hk,ht,rfl,hbel⟩:=hrel
   have HT:Hid (xs.take k=ys.take k):=ht
   clear ht
   by_cases hlt:k<xs.length
   ·rcases h4 with h4 | ⟨b,off,rfl,hc⟩
    ·subst h4;simp at hlt
    rcases g4 with g4 | ⟨b',off',rfl,hc'⟩
    ·exfalso;rw [g4,List.length_nil] at hl1;omega
    have e1:=hc k hlt
    have e2:=hc' k (by omega)
    have f1:=(hbel.cell (p:=⟨b,off+k,none⟩) (aay e1)).trans e1
    have f2:=(hbel.cell (p:=⟨b',off'+k,none⟩) (aay e2)).trans e2
    have d1:(k:Int)<(xs.length:Int):=by omega
    have d2:(k:Int)<(ys.length:Int):=by omega
    clear e1 e2 hc hc'
    by_cases he:xs.getD k 0=ys.getD k 0
    ·have HE:Hid (xs.take (k+1)=ys.take (k+1)):=ah6 HL.out hlt HT.out he
     rw [he] at f1
     clear he
     generalize ys.getD k 0=z at f1 f2
     go_wp2
     go_quiet (fail)
     go_wp2
     go_roundw
     case rel=>exact ⟨k+1,by omega,HE.out,by go_num,below_drewN hbel _⟩
     case measure=>simp [intOf];omega
    ·have HE:Hid (sameB xs ys=false):=by
      show _ = _
      simp only [sameB,decide_eq_false_iff_not]
      intro e;rw [e] at he;exact he rfl
     have hne:(xs.getD k 0 != ys.getD k 0)=true:=by rw [bne_iff_ne];exact he
     clear he
     generalize xs.getD k 0=z at f1 hne
     generalize ys.getD k 0=z' at f2 hne
     go_wp2
     go_quiet (fail)
     go_wp2
     go_ret
     exact ⟨by rw [HE.out];rfl,below_drewN hbel _⟩
   ·have HE:Hid (sameB xs ys=true):=by
     show _ = _
     have e:=HT.out
     rw [List.take_of_length_le (by omega),List.take_of_length_le (by omega)] at e
     exact ah5 e
    have d1:¬ (k:Int)<(xs.length:Int):=by omega
    go_wp2
    go_ret
    exact ⟨by rw [HE.out];rfl,hbel⟩
 ·have hb:(((xs.length:Nat):Int) != ((ys.length:Nat):Int))=true:=by rw [bne_iff_ne];omega
  have HE:Hid (sameB xs ys=false):=by
   show _ = _
   simp only [sameB,decide_eq_false_iff_not]
   intro e;rw [e] at hl;exact hl rfl
  clear hl
  go_enter Tryz.func18,Tryz.ntmps18
  go_wp2
  go_ret
  exact ⟨by rw [HE.out];rfl,Below.refl _ _⟩
end Lm
end Go.Proofs.YtgclhjjmleiggaaGreatDoor
namespace Go.Proofs.YtgclhjjmleiggaaGreatDoor
namespace Lm
open Go.RowKit
def cmpI (x y:Int):Int:=if x<y then -1 else if y<x then 1 else 0
theorem acb {x y:Int} (h:x<y):cmpI x y = -1:=by simp [cmpI,h]
theorem acd {x y:Int} (h:y<x):cmpI x y=1:=by unfold cmpI;rw [if_neg (by omega),if_pos h]
theorem ae4 {x y:Int} (h:x=y):cmpI x y=0:=by simp [cmpI,h]
theorem ace {a b:Int} (h:a=b):Ending.returned (.int .i64 a)=.returned (.int .i64 b):=by rw [h]
set_option maxRecDepth 20000 in
set_option maxHeartbeats 400000 in
theorem aj9 (x y:Int) (w:World):Calls Tryz.prog 64 #[.int .i64 x,.int .i64 y] w fun e w'=>e=.returned (.int .i64 (cmpI x y))∧w' = w:=by
 rcases Int.lt_trichotomy x y with h | h | h
 ·have H:Hid (cmpI x y = -1):=acb h
  go_enter Tryz.func64,Tryz.ntmps64
  go_wp2
  go_ret
  exact ⟨by rw [H.out];rfl,rfl⟩
 ·subst h
  have H:Hid (cmpI x x=0):=ae4 rfl
  go_enter Tryz.func64,Tryz.ntmps64
  go_wp2
  go_ret
  exact ⟨by rw [H.out];rfl,rfl⟩
 ·have H:Hid (cmpI x y=1):=acd h
  have h' : ¬ x<y:=by omega
  go_enter Tryz.func64,Tryz.ntmps64
  go_wp2
  go_ret
  exact ⟨by rw [H.out];rfl,rfl⟩
set_option maxRecDepth 20000 in
set_option maxHeartbeats 400000 in
theorem aka (x y:Int) (w:World):Calls Tryz.prog 65 #[.int .u32 x,.int .u32 y] w fun e w'=>e=.returned (.int .i64 (cmpI x y))∧w' = w:=by
 rcases Int.lt_trichotomy x y with h | h | h
 ·have H:Hid (cmpI x y = -1):=acb h
  go_enter Tryz.func65,Tryz.ntmps65
  go_wp2
  go_ret
  exact ⟨by rw [H.out];rfl,rfl⟩
 ·subst h
  have H:Hid (cmpI x x=0):=ae4 rfl
  go_enter Tryz.func65,Tryz.ntmps65
  go_wp2
  go_ret
  exact ⟨by rw [H.out];rfl,rfl⟩
 ·have H:Hid (cmpI x y=1):=acd h
  have h' : ¬ x<y:=by omega
  go_enter Tryz.func65,Tryz.ntmps65
  go_wp2
  go_ret
  exact ⟨by rw [H.out];rfl,rfl⟩
theorem abv (zs:List Int) (i k:Nat) (h:i<k):(zs.take k).getD i 0=zs.getD i 0:=by
 rw [List.getD_eq_getElem?_getD,List.getD_eq_getElem?_getD,List.getElem?_take,if_pos h]
theorem af4 {xs ys:List Int} {k:Nat} (hx:Limb xs) (hy:Limb ys) (hl:tl xs=tl ys) (hk:k<tl xs) (hd:(xs.take (tl xs)).drop (k+1)=(ys.take (tl ys)).drop (k+1)) (h:xs.getD k 0<ys.getD k 0):val xs<val ys:=by
 rw [←aad xs,←aad ys]
 have h1:=aaq xs
 have h2:=aaq ys
 exact an7 (aai hx _) (aai hy _) (by simp;omega) (by simp;omega) hd (by rw [abv _ _ _ hk,abv _ _ _ (by omega)];exact h)
theorem act {xs ys:List Int} (hx:Limb xs) (hy:Limb ys) (h:tl xs<tl ys):val xs<val ys:=by
 rw [←aad xs,←aad ys]
 have h1:=aaq xs
 have h2:=aaq ys
 exact aq3 (aa2 hx) (aa2 hy) (by simp;omega)
theorem atp {xs ys:List Int} (hx:Limb xs) (hy:Limb ys) (h:tl xs≠tl ys):cmpI (tl xs:Nat) (tl ys:Nat)=cmpI (val xs) (val ys):=by
 by_cases h' : tl xs<tl ys
 ·rw [acb (by omega),acb (act hx hy h')]
 ·rw [acd (by omega),acd (act hy hx (by omega))]
theorem avj {xs ys:List Int} {k:Nat} (hx:Limb xs) (hy:Limb ys) (hl:tl xs=tl ys) (hk:k<tl xs) (hd:(xs.take (tl xs)).drop (k+1)=(ys.take (tl ys)).drop (k+1)) (h:xs.getD k 0≠ys.getD k 0):cmpI (xs.getD k 0) (ys.getD k 0)=cmpI (val xs) (val ys):=by
 by_cases h' : xs.getD k 0<ys.getD k 0
 ·rw [acb h',acb (af4 hx hy hl hk hd h')]
 ·rw [acd (by omega),acd (af4 hy hx hl.symm (by omega) hd.symm (by omega))]
theorem aq4 {xs ys:List Int} (hd:(xs.take (tl xs)).drop 0=(ys.take (tl ys)).drop 0):cmpI (val xs) (val ys)=0:=by
 simp only [List.drop_zero] at hd
 rw [←aad xs,←aad ys,hd]
 exact ae4 rfl
theorem an9 {xs ys:List Int} {k:Nat} (hl:tl xs=tl ys) (hk:k<tl xs) (hd:(xs.take (tl xs)).drop (k+1)=(ys.take (tl ys)).drop (k+1)) (h:xs.getD k 0=ys.getD k 0):(xs.take (tl xs)).drop k=(ys.take (tl ys)).drop k:=by
 have h1:=aaq xs
 have h2:=aaq ys
 rw [acv _ k (by simp;omega),acv (ys.take (tl ys)) k (by simp;omega),hd,abv _ _ _ hk,abv _ _ _ (by omega),h]
set_option maxRecDepth 20000 in
set_option maxHeartbeats 1000000 in
theorem alh (w:World) (a1 a2:Option Addr) (n1 n2 c1 c2:Nat) (xs ys:List Int) (hx:Sl w (.slice a1 n1 c1) xs) (hy:Sl w (.slice a2 n2 c2) ys) :
  Calls Tryz.prog 52 #[.slice a1 n1 c1,.slice a2 n2 c2] w fun e w'=>e=.returned (.int .i64 (cmpI (val xs) (val ys)))∧Below w.heap.size w w' := by
 obtain ⟨rfl,h1,h2,h3⟩:=hx.parts
 obtain ⟨rfl,g1,g2,g3⟩:=hy.parts
 have H3:=hide h3
 have G3:=hide g3
 have t1:=aaq xs
 have t2:=aaq ys
 clear h3 g3
 by_cases hl:tl xs=tl ys
 ·have hne:(((tl xs:Nat):Int) != ((tl ys:Nat):Int))=false:=by simp [hl]
  have HL:=hide hl
  have l1:tl xs≤tl ys:=by omega
  have l2:tl ys≤tl xs:=by omega
  clear hl
  go_enter Tryz.func52,Tryz.ntmps52
  go_wp2_with fail
  refine (aam w a1 _ c1 xs hx).mono ?_
  rintro e w' ⟨rfl,rfl⟩
  go_wp2_with fail
  refine (aam _ a2 _ c2 ys hy).mono ?_
  rintro e w' ⟨rfl,rfl⟩
  go_wp2
  go_loopw [5] (fun i wr=>∃ k:Nat,k≤tl xs∧(xs.take (tl xs)).drop k=(ys.take (tl ys)).drop k∧i=.int .i64 ((k:Int) - 1)∧Below w'.heap.size w' wr) (fun i _=>(intOf i+1).toNat)
  case atStart=>exact ⟨tl xs,Nat.le_refl _,by rw [List.drop_of_length_le (by simp;omega),List.drop_of_length_le (by simp;omega)],rfl,Below.refl _ _⟩
  case round =>
   obtain ⟨k,hk,hd,rfl,hbel⟩:=hrel
   have HD:=hide hd
   clear hd
   cases k with
   | zero =>
    have HE:=hide (aq4 HD.out)
    go_wp2
    go_ret
    exact ⟨by rw [HE.out];rfl,hbel⟩
   | succ k =>
    obtain ⟨b,off,rfl,hc⟩:=hx.cells (by omega)
    obtain ⟨b',off',rfl,hc'⟩:=hy.cells (by omega)
    have e1:=hc k (by omega)
    have e2:=hc' k (by omega)
    have f1:=(hbel.cell (p:=⟨b,off+k,none⟩) (aay e1)).trans e1
    have f2:=(hbel.cell (p:=⟨b',off'+k,none⟩) (aay e2)).trans e2
    have d1:(k:Int)<((tl xs:Nat):Int):=by omega
    have d2:(k:Int)<((tl ys:Nat):Int):=by omega
    clear e1 e2 hc hc'
    by_cases he:xs.getD k 0=ys.getD k 0
    ·have HE:=hide (an9 HL.out (by omega) HD.out he)
     rw [he] at f1
     clear he
     generalize ys.getD k 0=z at f1 f2
     go_wp2
     go_quiet (fail)
     go_wp2
     go_roundw
     case rel=>exact ⟨k,by omega,HE.out,by go_num,below_drewN hbel _⟩
     case measure=>simp [intOf]
    ·have HE:=hide (avj H3.out G3.out HL.out (by omega) HD.out he)
     have hne' : (xs.getD k 0 != ys.getD k 0)=true:=by rw [bne_iff_ne];exact he
     clear he
     generalize xs.getD k 0=z at f1 hne' HE
     generalize ys.getD k 0=z' at f2 hne' HE
     go_wp2
     go_quiet (fail)
     go_wp2
     replace f1:(wr.drewN nq).cell? ⟨b,off+k,none⟩ = some (.int .u32 z):=f1
     replace f2:(wr.drewN nq).cell? ⟨b',off'+k,none⟩ = some (.int .u32 z'):=f2
     replace hbel:=below_drewN hbel nq
     generalize wr.drewN nq=wr2 at f1 f2 hbel ⊢
     go_quiet ((go_at_call 65;exact Calls.quiet_of_same (aka _ _ _)))
     go_wp2
     go_ret
     exact ⟨ace HE.out,below_drewN hbel _⟩
 ·have hne:(((tl xs:Nat):Int) != ((tl ys:Nat):Int))=true:=by rw [bne_iff_ne];omega
  have HE:=hide (atp H3.out G3.out hl)
  clear hl
  go_enter Tryz.func52,Tryz.ntmps52
  go_wp2_with fail
  refine (aam w a1 _ c1 xs hx).mono ?_
  rintro e w' ⟨rfl,rfl⟩
  go_wp2_with fail
  refine (aam _ a2 _ c2 ys hy).mono ?_
  rintro e w' ⟨rfl,rfl⟩
  go_wp2_with fail
  refine (aj9 _ _ _).mono ?_
  rintro e w' ⟨rfl,rfl⟩
  go_wp2
  go_ret
  exact ⟨ace HE.out,Below.refl _ _⟩
end Lm
end Go.Proofs.YtgclhjjmleiggaaGreatDoor
namespace Go.Proofs.YtgclhjjmleiggaaGreatDoor
namespace Lm
open Go.RowKit
theorem ae5 (r z:Int) (h1:0≤r) (h2:r<4294967296) (h3:0≤z) (h4:z<4294967296):bits .or .u64 (r*4294967296) z=r*4294967296+z:=by
 rw [u64_or _ _ (by omega) (by omega) h3 (by omega)]
 obtain ⟨a,rfl⟩:=Int.eq_ofNat_of_zero_le h1
 obtain ⟨b,rfl⟩:=Int.eq_ofNat_of_zero_le h3
 have e1:((a:Int)*4294967296).toNat=2 ^ 32*a:=by omega
 rw [e1,Int.toNat_natCast,←Nat.two_pow_add_eq_or_of_lt (i:=32) (by omega)]
 omega
theorem aq5 {p r z d:Int} (hd:0<d) (h1:0≤r) (h2:r<d) (h3:0≤z) (h4:z<4294967296) (hp:p=r*4294967296+z):0≤p∧0≤p / d∧p / d<4294967296∧0≤p % d∧p % d<d∧p=p / d*d+p % d:=by
 have h5:0≤p:=by omega
 have h6:p<4294967296*d:=by omega
 refine ⟨h5,Int.ediv_nonneg h5 (by omega),Int.ediv_lt_of_lt_mul hd h6,Int.emod_nonneg _ (by omega),Int.emod_lt_of_pos _ hd,?_⟩
 have:=Int.mul_ediv_add_emod p d
 rw [Int.mul_comm] at this
 omega
theorem atq {zs qs:List Int} {k:Nat} {d r z p:Int} (hz:zs.drop k=z :: zs.drop (k+1)) (h:val (zs.drop (k+1))=val qs*d+r) (hp:p=r*4294967296+z) (hq:p=p / d*d+p % d):val (zs.drop k)=val (p / d :: qs)*d+p % d:=by
 rw [hz,val,val,h]
 generalize p / d=q at hq ⊢
 generalize p % d=t at hq ⊢
 rw [Int.add_mul,Int.mul_assoc,Int.mul_add]
 generalize q*d=a at hq ⊢
 generalize val qs*d=b
 omega
set_option maxRecDepth 20000 in
set_option maxHeartbeats 400000 in
theorem adi (w:World) (g off n cap:Nat) (cur:Array Value) (zs:List Int) (d:Int) (hd:0<d) (hd2:d<4294967296)
  (hh:w.heap[g]? = some (.cells cur 68 (0,0))) (ha:At cur .u32 off zs) (hz:Limb zs) (hn:zs.length=n) (hm:n≤1000000000) :
  Calls Tryz.prog 97 #[.slice (some ⟨g,off,none⟩) n cap,.int .u32 d] w fun e w'=>∃ qs r cur',e=.returned (.int .u32 r)∧0≤r∧r<d∧val zs=val qs*d+r∧Limb qs∧qs.length=n∧Wr w w' g cur' 68∧cur'.size=cur.size∧At cur' .u32 off qs:=by
 subst hn
 have HH:=hide hh
 have HZ:=hide hz
 have HA:=hide ha
 clear hh hz ha
 go_enter Tryz.func97,Tryz.ntmps97
 go_wp2
 go_loopw [5,6] (fun rest i wr=>∃ (k:Nat) (r:Int) (qs:List Int) (cur' : Array Value),k≤zs.length∧rest=.int .u64 r∧i=.int .i64 ((k:Int) - 1)∧0≤r∧r<d∧val (zs.drop k)=val qs*d+r∧Limb qs∧qs.length+k=zs.length∧Wr w wr g cur' 68∧cur'.size=cur.size∧At cur' .u32 off (zs.take k ++ qs)) (fun _ i _=>(intOf i+1).toNat)
 case atStart=>exact ⟨zs.length,0,[],cur,Nat.le_refl _,rfl,rfl,by omega,by omega,by simp [val],aaf,by simp,Wr.refl HH.out,rfl,by simpa using HA.out⟩
 case round =>
  obtain ⟨k,r,qs,cur',hk,rfl,rfl,hr0,hr1,hval,hq,hql,hwr,hcs,hat⟩:=hrel
  have HV:=hide hval
  have HQ:=hide hq
  have HW:=hide hwr
  have HT:=hide hat
  have HC:=hide hcs
  have HL:=hide hql
  clear hval hq hwr hat hcs hql
  cases k with
  | zero =>
   go_wp2
   go_ret
   refine ⟨qs,r,cur',?_,hr0,hr1,by simpa using HV.out,HQ.out,by simpa using HL.out,HW.out,HC.out,by simpa using HT.out⟩
   rfl
  | succ k =>
   have hcell:=HT.out.cell HW.out.here k (by have:=HL.out;simp;omega)
   have hfree:=HW.out.free (off+k)
   have e1:(zs.take (k+1) ++ qs).getD k 0=zs.getD k 0:=by
    rw [List.getD_eq_getElem?_getD,List.getElem?_append_left (by simp;omega),List.getElem?_take,if_pos (by omega),List.getD_eq_getElem?_getD]
   rw [e1] at hcell
   clear e1
   have hz:=aah HZ.out k
   have Hz:=hide (acv zs k (by omega))
   generalize zs.getD k 0=z at hcell hz Hz
   obtain ⟨p,hp⟩:∃ p,p=r*4294967296+z:=⟨_,rfl⟩
   have hor:bits .or .u64 (r*4294967296) z=p:=by rw [hp];exact ae5 r z hr0 (by omega) hz.1 hz.2
   obtain ⟨s1,s2,s3,s4,s5,s6⟩:=aq5 hd hr0 hr1 hz.1 hz.2 hp
   have HV' := hide (atq Hz.out HV.out hp s6)
   have HQ' : Hid (Limb (p / d :: qs)):=aag.2 ⟨⟨s2,s3⟩,HQ.out⟩
   have HT' := hide ((HT.out.set k (p / d)))
   have HW' := hide (HW.out.set (off+k) (.int .u32 (p / d)))
   have t1:p.tdiv d=p / d:=Int.tdiv_eq_ediv_of_nonneg s1
   have t2:IntKind.u64.wrap (p / d)=p / d:=by rw [IntKind.wrap_u64];exact Int.emod_eq_of_lt s2 (by omega)
   have t3:p / d % 4294967296=p / d:=Int.emod_eq_of_lt s2 s3
   clear hp s6
   go_wp2
   go_roundw
   case rel=>exact ⟨k,p % d,p / d :: qs,_,by omega,rfl,rfl,s4,s5,HV'.out,HQ'.out,by have:=HL.out;simp;omega,HW'.out,by simpa using HC.out,by rw [←afo zs qs k _ (by omega)];exact HT'.out⟩
   case measure=>simp [intOf]
end Lm
end Go.Proofs.YtgclhjjmleiggaaGreatDoor
namespace Go.Proofs.YtgclhjjmleiggaaGreatDoor
namespace Lm
open Go.RowKit
theorem Ow.is_cut {B:Nat} {w:World} {ao:Option Addr} {n cap:Nat} {zs:List Int} {x:Int} (h:Ow B w (.slice ao n cap) zs) (hv:val zs=x):Is B w (.slice ao (tl zs) cap) x:=by
 have hl:=h.sl.parts.2.2.2
 exact ⟨zs.take (tl zs),h.take (aaq zs),aa2 hl,by rw [aad,hv]⟩
theorem Is.mono {B B' : Nat} {w:World} {v:Value} {x:Int} (h:Is B w v x) (hB:B'≤B):Is B' w v x:=by
 obtain ⟨rs,h1,h2,h3⟩:=h
 exact ⟨rs,h1.mono hB,h2,h3⟩
theorem Is.below {B:Nat} {w w' : World} {v:Value} {x:Int} (h:Is B w v x) (hb:Below w.heap.size w w'):Is B w' v x:=by
 obtain ⟨rs,h1,h2,h3⟩:=h
 exact ⟨rs,h1.below hb,h2,h3⟩
theorem atr (x y:Int):val [x,y]=x+4294967296*y:=by simp [val]
set_option maxRecDepth 20000 in
set_option maxHeartbeats 400000 in
theorem aen (w:World) (n:Int) (h0:0≤n) (h1:n<18446744073709551616) :
  Calls Tryz.prog 63 #[.int .u64 n] w fun e w'=>∃ v,e=.returned v∧Is w.heap.size w' v n∧Below w.heap.size w w' := by
 have hl:Limb [n % 4294967296,n / 4294967296]:=by
  intro z hz
  simp at hz
  rcases hz with rfl | rfl <;> omega
 have how:Ow w.heap.size (w.alloc (.cells #[.int .u32 (n % 4294967296),.int .u32 (n / 4294967296)] 68)) (.slice (some ⟨w.heap.size,0,none⟩) 2 2) [n % 4294967296,n / 4294967296]:=by
  refine ⟨_,2,rfl,Nat.le_refl _,by simp [maxLen],hl,.inr ⟨w.heap.size,0,_,rfl,Nat.le_refl _,heap_alloc_new w _,by simp,fun i hi=>?_⟩⟩
  match i,hi with
  | 0,_=>rfl
  | 1,_=>rfl
 have hbel:Below w.heap.size w (w.alloc (.cells #[.int .u32 (n % 4294967296),.int .u32 (n / 4294967296)] 68)):=(Below.refl _ _).alloc (Nat.le_refl _) _
 have his:=how.is_cut (x:=n) (by rw [atr];omega)
 clear hl
 go_enter Tryz.func63,Tryz.ntmps63
 go_wp2_with fail
 refine (aam _ _ _ _ _ how.sl).mono ?_
 rintro e w' ⟨rfl,rfl⟩
 go_wp2
 go_ret
 exact ⟨_,rfl,his,hbel⟩
end Lm
end Go.Proofs.YtgclhjjmleiggaaGreatDoor
namespace Go.Proofs.YtgclhjjmleiggaaGreatDoor
namespace Lm
open Go.RowKit
theorem abb {w:World} {B g n:Nat} (h:w.ownsRow B 68 1 (.slice (some ⟨g,0,none⟩) n n) n (madeCells #[Value.int .u32 0] n).toList) :
  B≤g∧∃ cur,w.heap[g]? = some (.cells cur 68 (0,0))∧cur.size=n∧At cur .u32 0 (List.replicate n 0):=by
 rcases h.2 with ⟨h',_⟩ | ⟨g',cap',cur,h',hb,hg,_,_,hs,htake⟩
 ·simp at h'
 ·simp only [Value.slice.injEq,Option.some.injEq,Addr.mk.injEq,and_true,true_and] at h'
  obtain ⟨rfl,rfl⟩:=h'
  refine ⟨hb,cur,hg,by omega,fun i hi=>?_⟩
  simp at hi
  have e:(cur.toList.take (n*1))[i]? = ((madeCells #[Value.int .u32 0] n).toList)[i]? := by rw [htake]
  rw [List.getElem?_take,if_pos (by omega)] at e
  rw [Nat.zero_add,←Array.getElem?_toList,e,Array.getElem?_toList]
  have h0:i<(Array.range n).size:=by simpa using hi
  simp [madeCells,hi,List.getD_eq_getElem?_getD,Nat.mod_one]
theorem afp {a b c s:Int} (ha:0≤a∧a<4294967296) (hb:0≤b∧b<4294967296) (hc:0≤c∧c≤1) (hs:s=a+b+c):0≤s∧s<18446744073709551616∧0≤s / 4294967296∧s / 4294967296≤1∧0≤s % 4294967296∧s % 4294967296<4294967296:=by omega
theorem agv {X Y ps:List Int} {k:Nat} {a b c s:Int} (hk:ps.length=k) (ha:X.getD k 0=a) (hb:Y.getD k 0=b) (hs:s=a+b+c) (h:val ps+pw k*c=vf X k+vf Y k) :
  val (ps ++ [s % 4294967296])+pw (k+1)*(s / 4294967296)=vf X (k+1)+vf Y (k+1):=by
 rw [aba,vf,vf,ha,hb,hk,pw]
 have e:s=s % 4294967296+4294967296*(s / 4294967296):=by omega
 have e2:pw k*(s % 4294967296)+4294967296*pw k*(s / 4294967296)=pw k*s:=by
  rw [Int.mul_comm 4294967296 (pw k),Int.mul_assoc,←Int.mul_add,←e]
 rw [Int.add_assoc,e2,hs,Int.mul_add,Int.mul_add]
 omega
set_option maxRecDepth 20000 in
set_option maxHeartbeats 1000000 in
theorem ali (w:World) (a1 a2:Option Addr) (n1 n2 c1 c2:Nat) (xs ys:List Int) (hx:Sl w (.slice a1 n1 c1) xs) (hy:Sl w (.slice a2 n2 c2) ys) (hm1:xs.length≤1000000000) (hm2:ys.length≤1000000000) :
  Calls Tryz.prog 36 #[.slice a1 n1 c1,.slice a2 n2 c2] w fun e w'=>∃ v,e=.returned v∧Is w.heap.size w' v (val xs+val ys)∧Below w.heap.size w w' := by
 obtain ⟨rfl,h1,h2,h3⟩:=hx.parts
 obtain ⟨rfl,g1,g2,g3⟩:=hy.parts
 have t1:=aaq xs
 have t2:=aaq ys
 have sx:=hx.cut
 have sy:=hy.cut
 have HX:=hide (show (xs.take (tl xs)).length=tl xs by simp;omega)
 have HY:=hide (show (ys.take (tl ys)).length=tl ys by simp;omega)
 have VX:=hide (aad xs)
 have VY:=hide (aad ys)
 have LX:=hide (aai h3 (tl xs))
 have LY:=hide (aai g3 (tl ys))
 obtain ⟨i0,hi,hz0,hz1,hz2⟩:=info_parts abu
 generalize xs.take (tl xs)=X at sx HX VX LX
 generalize ys.take (tl ys)=Y at sy HY VY LY
 clear h3 g3
 rcases Nat.lt_or_ge (tl xs) (tl ys) with hle | hle
 ·go_enter Tryz.func36,Tryz.ntmps36
  go_wp2_with fail
  refine (aam w a1 _ c1 xs hx).mono ?_
  rintro e w' ⟨rfl,rfl⟩
  go_wp2_with fail
  refine (aam _ a2 _ c2 ys hy).mono ?_
  rintro e w' ⟨rfl,rfl⟩
  go_wp2_with (refine wpList_make_full _ rfl (.tmp 20) (.tmp 20) 31 rfl w'.heap.size 68 i0 (.int .u32 0) 1 Tryz.underlying31 hi hz0 hz1 .i64 .i64 _ _ (tl ys+1) rfl rfl (by omega) (by omega) (by rw [hz2];omega) (by unfold maxLen;omega) (Nat.le_refl _) ?hK)
  case hK =>
   intro w1 hown hgrow
   obtain ⟨_,cur,hh,hcs,hat⟩:=abb hown
   have hb1:Below w'.heap.size w' w1:=(Below.refl w'.heap.size w').grown hgrow (Nat.le_refl _) (by simp)
   have HH:=hide hh
   have HS:=hide hcs
   have HA:=hide hat
   clear hown hgrow hh hcs hat
   go_wp2
   go_loopw [7,23] (fun c i wr=>∃ (k:Nat) (r:Int) (ps:List Int) (cur' : Array Value),k≤tl ys∧c=.int .u64 r∧i=.int .i64 k∧(0≤r∧r≤1)∧ps.length=k∧Limb ps∧val ps+pw k*r=vf X k+vf Y k∧Wr w1 wr w'.heap.size cur' 68∧cur'.size=tl ys+1∧At cur' .u32 0 (ps ++ (List.replicate (tl ys+1) 0).drop k)) (fun _ i _=>tl ys - (intOf i).toNat)
   case atStart=>exact ⟨0,0,[],cur,Nat.zero_le _,rfl,rfl,by omega,rfl,aaf,by simp [val,vf,pw],Wr.refl HH.out,HS.out,by simpa using HA.out⟩
   case round =>
    obtain ⟨k,r,ps,cur',hk,rfl,rfl,hr,hpl,hpl2,hval,hwr,hcs,hat⟩:=hrel
    have HPL:=hide hpl
    have HLP:=hide hpl2
    have HV:=hide hval
    have HW:=hide hwr
    have HC:=hide hcs
    have HT:=hide hat
    clear hpl hpl2 hval hwr hcs hat
    by_cases hlt:k<tl ys
    ·have sx' := HW.out.sl (Nat.le_refl _) hb1 rfl sx
     have sy' := HW.out.sl (Nat.le_refl _) hb1 rfl sy
     have hlen:(ps ++ (List.replicate (tl ys+1) (0:Int)).drop k).length=tl ys+1:=by have:=HPL.out;simp;omega
     have hcell:=HT.out.cell HW.out.here k (by rw [hlen];omega)
     rw [Nat.zero_add] at hcell
     have hfree:=HW.out.free k
     have bx:=aah LX.out k
     have by' := aah LY.out k
     obtain ⟨a,ha⟩:∃ a,a=X.getD k 0:=⟨_,rfl⟩
     obtain ⟨b,hb⟩:∃ b,b=Y.getD k 0:=⟨_,rfl⟩
     have kx:Hid (Calls Tryz.prog 51 #[.slice a1 (tl xs) c1,.int .i64 k] wr fun e w'=>e=.returned (.int .u32 a)∧w' = wr):=by rw [ha];exact ab6 _ _ X sx' k
     have ky:Hid (Calls Tryz.prog 51 #[.slice a2 (tl ys) c2,.int .i64 k] wr fun e w'=>e=.returned (.int .u32 b)∧w' = wr):=by rw [hb];exact ab6 _ _ Y sy' k
     rw [←ha] at bx
     rw [←hb] at by'
     have hst:=afp bx by' hr rfl
     have HV' := hide (agv HPL.out ha.symm hb.symm rfl HV.out)
     have HT' := hide (HT.out.set k ((a+b+r) % 4294967296))
     have HW' := hide (HW.out.set k (.int .u32 ((a+b+r) % 4294967296)))
     have HL' := hide hlen
     generalize hold:(ps ++ (List.replicate (tl ys+1) (0:Int)).drop k).getD k 0=old at hcell
     clear hlen hold ha hb sx' sy'
     go_wp2_with fail
     refine (kx.out).mono ?_
     rintro e w2 ⟨rfl,rfl⟩
     go_wp2_with fail
     refine (ky.out).mono ?_
     rintro e w2 ⟨rfl,rfl⟩
     go_wp2
     go_roundw
     case rel=>exact ⟨k+1,_,ps ++ [(a+b+r) % 4294967296],_,by omega,rfl,by go_num,by omega,by have:=HPL.out;simp;omega,aan.2 ⟨HLP.out,aag.2 ⟨by omega,aaf⟩⟩,HV'.out,HW'.out,by simpa using HC.out,by rw [←aa3 ps _ k _ HPL.out (by simp;omega)];simpa using HT'.out⟩
     case measure=>simp [intOf];omega
    ·have hkM:k=tl ys:=by omega
     subst hkM
     have hlen:(ps ++ (List.replicate (tl ys+1) (0:Int)).drop (tl ys)).length=tl ys+1:=by have:=HPL.out;simp;omega
     have hcell:=HT.out.cell HW.out.here (tl ys) (by rw [hlen];omega)
     rw [Nat.zero_add] at hcell
     have hfree:=HW.out.free (tl ys)
     generalize hold:(ps ++ (List.replicate (tl ys+1) (0:Int)).drop (tl ys)).getD (tl ys) 0=old at hcell
     have hat2:=HT.out.set (tl ys) r
     rw [aa3 ps _ (tl ys) r HPL.out (by simp),List.drop_of_length_le (by simp),List.append_nil,Nat.zero_add] at hat2
     have hw2:=HW.out.set (tl ys) (.int .u32 r)
     have hlr:Limb (ps ++ [r]):=aan.2 ⟨HLP.out,aag.2 ⟨by omega,aaf⟩⟩
     have how:Ow w'.heap.size (wr.setCell ⟨w'.heap.size,tl ys,none⟩ (.int .u32 r)) (.slice (some ⟨w'.heap.size,0,none⟩) (tl ys+1) (tl ys+1)) (ps ++ [r]):=by
      have:=HPL.out
      exact ⟨_,tl ys+1,by simp [this],by simp;omega,by unfold maxLen;omega,hlr,.inr ⟨_,0,_,rfl,Nat.le_refl _,hw2.here,by rw [Array.size_setIfInBounds,HC.out];omega,hat2⟩⟩
     have hbel:Below w'.heap.size w' (wr.setCell ⟨w'.heap.size,tl ys,none⟩ (.int .u32 r)):=hb1.trans (hw2.below (Nat.le_refl _))
     have his:=how.is_cut (x:=val xs+val ys) (by
      have hv:=HV.out
      rw [aa8 X _ (by have:=HX.out;omega),aa8 Y _ (by have:=HY.out;omega),VX.out,VY.out] at hv
      rw [aba,HPL.out];exact hv)
     clear hat2 hw2 hlr hlen hold
     go_wp2_with fail
     refine (aam _ _ _ _ _ how.sl).mono ?_
     rintro e w2 ⟨rfl,rfl⟩
     go_wp2
     go_ret
     exact ⟨_,rfl,his,hbel⟩
 ·go_enter Tryz.func36,Tryz.ntmps36
  go_wp2_with fail
  refine (aam w a1 _ c1 xs hx).mono ?_
  rintro e w' ⟨rfl,rfl⟩
  go_wp2_with fail
  refine (aam _ a2 _ c2 ys hy).mono ?_
  rintro e w' ⟨rfl,rfl⟩
  go_wp2_with (refine wpList_make_full _ rfl (.tmp 20) (.tmp 20) 31 rfl w'.heap.size 68 i0 (.int .u32 0) 1 Tryz.underlying31 hi hz0 hz1 .i64 .i64 _ _ (tl xs+1) rfl rfl (by omega) (by omega) (by rw [hz2];omega) (by unfold maxLen;omega) (Nat.le_refl _) ?hK)
  case hK =>
   intro w1 hown hgrow
   obtain ⟨_,cur,hh,hcs,hat⟩:=abb hown
   have hb1:Below w'.heap.size w' w1:=(Below.refl w'.heap.size w').grown hgrow (Nat.le_refl _) (by simp)
   have HH:=hide hh
   have HS:=hide hcs
   have HA:=hide hat
   clear hown hgrow hh hcs hat
   go_wp2
   go_loopw [7,23] (fun c i wr=>∃ (k:Nat) (r:Int) (ps:List Int) (cur' : Array Value),k≤tl xs∧c=.int .u64 r∧i=.int .i64 k∧(0≤r∧r≤1)∧ps.length=k∧Limb ps∧val ps+pw k*r=vf X k+vf Y k∧Wr w1 wr w'.heap.size cur' 68∧cur'.size=tl xs+1∧At cur' .u32 0 (ps ++ (List.replicate (tl xs+1) 0).drop k)) (fun _ i _=>tl xs - (intOf i).toNat)
   case atStart=>exact ⟨0,0,[],cur,Nat.zero_le _,rfl,rfl,by omega,rfl,aaf,by simp [val,vf,pw],Wr.refl HH.out,HS.out,by simpa using HA.out⟩
   case round =>
    obtain ⟨k,r,ps,cur',hk,rfl,rfl,hr,hpl,hpl2,hval,hwr,hcs,hat⟩:=hrel
    have HPL:=hide hpl
    have HLP:=hide hpl2
    have HV:=hide hval
    have HW:=hide hwr
    have HC:=hide hcs
    have HT:=hide hat
    clear hpl hpl2 hval hwr hcs hat
    by_cases hlt:k<tl xs
    ·have sx' := HW.out.sl (Nat.le_refl _) hb1 rfl sx
     have sy' := HW.out.sl (Nat.le_refl _) hb1 rfl sy
     have hlen:(ps ++ (List.replicate (tl xs+1) (0:Int)).drop k).length=tl xs+1:=by have:=HPL.out;simp;omega
     have hcell:=HT.out.cell HW.out.here k (by rw [hlen];omega)
     rw [Nat.zero_add] at hcell
     have hfree:=HW.out.free k
     have bx:=aah LX.out k
     have by' := aah LY.out k
     obtain ⟨a,ha⟩:∃ a,a=X.getD k 0:=⟨_,rfl⟩
     obtain ⟨b,hb⟩:∃ b,b=Y.getD k 0:=⟨_,rfl⟩
     have kx:Hid (Calls Tryz.prog 51 #[.slice a1 (tl xs) c1,.int .i64 k] wr fun e w'=>e=.returned (.int .u32 a)∧w' = wr):=by rw [ha];exact ab6 _ _ X sx' k
     have ky:Hid (Calls Tryz.prog 51 #[.slice a2 (tl ys) c2,.int .i64 k] wr fun e w'=>e=.returned (.int .u32 b)∧w' = wr):=by rw [hb];exact ab6 _ _ Y sy' k
     rw [←ha] at bx
     rw [←hb] at by'
     have hst:=afp bx by' hr rfl
     have HV' := hide (agv HPL.out ha.symm hb.symm rfl HV.out)
     have HT' := hide (HT.out.set k ((a+b+r) % 4294967296))
     have HW' := hide (HW.out.set k (.int .u32 ((a+b+r) % 4294967296)))
     have HL' := hide hlen
     generalize hold:(ps ++ (List.replicate (tl xs+1) (0:Int)).drop k).getD k 0=old at hcell
     clear hlen hold ha hb sx' sy'
     go_wp2_with fail
     refine (kx.out).mono ?_
     rintro e w2 ⟨rfl,rfl⟩
     go_wp2_with fail
     refine (ky.out).mono ?_
     rintro e w2 ⟨rfl,rfl⟩
     go_wp2
     go_roundw
     case rel=>exact ⟨k+1,_,ps ++ [(a+b+r) % 4294967296],_,by omega,rfl,by go_num,by omega,by have:=HPL.out;simp;omega,aan.2 ⟨HLP.out,aag.2 ⟨by omega,aaf⟩⟩,HV'.out,HW'.out,by simpa using HC.out,by rw [←aa3 ps _ k _ HPL.out (by simp;omega)];simpa using HT'.out⟩
     case measure=>simp [intOf];omega
    ·have hkM:k=tl xs:=by omega
     subst hkM
     have hlen:(ps ++ (List.replicate (tl xs+1) (0:Int)).drop (tl xs)).length=tl xs+1:=by have:=HPL.out;simp;omega
     have hcell:=HT.out.cell HW.out.here (tl xs) (by rw [hlen];omega)
     rw [Nat.zero_add] at hcell
     have hfree:=HW.out.free (tl xs)
     generalize hold:(ps ++ (List.replicate (tl xs+1) (0:Int)).drop (tl xs)).getD (tl xs) 0=old at hcell
     have hat2:=HT.out.set (tl xs) r
     rw [aa3 ps _ (tl xs) r HPL.out (by simp),List.drop_of_length_le (by simp),List.append_nil,Nat.zero_add] at hat2
     have hw2:=HW.out.set (tl xs) (.int .u32 r)
     have hlr:Limb (ps ++ [r]):=aan.2 ⟨HLP.out,aag.2 ⟨by omega,aaf⟩⟩
     have how:Ow w'.heap.size (wr.setCell ⟨w'.heap.size,tl xs,none⟩ (.int .u32 r)) (.slice (some ⟨w'.heap.size,0,none⟩) (tl xs+1) (tl xs+1)) (ps ++ [r]):=by
      have:=HPL.out
      exact ⟨_,tl xs+1,by simp [this],by simp;omega,by unfold maxLen;omega,hlr,.inr ⟨_,0,_,rfl,Nat.le_refl _,hw2.here,by rw [Array.size_setIfInBounds,HC.out];omega,hat2⟩⟩
     have hbel:Below w'.heap.size w' (wr.setCell ⟨w'.heap.size,tl xs,none⟩ (.int .u32 r)):=hb1.trans (hw2.below (Nat.le_refl _))
     have his:=how.is_cut (x:=val xs+val ys) (by
      have hv:=HV.out
      rw [aa8 X _ (by have:=HX.out;omega),aa8 Y _ (by have:=HY.out;omega),VX.out,VY.out] at hv
      rw [aba,HPL.out];exact hv)
     clear hat2 hw2 hlr hlen hold
     go_wp2_with fail
     refine (aam _ _ _ _ _ how.sl).mono ?_
     rintro e w2 ⟨rfl,rfl⟩
     go_wp2
     go_ret
     exact ⟨_,rfl,his,hbel⟩
end Lm
end Go.Proofs.YtgclhjjmleiggaaGreatDoor
namespace Go.Proofs.YtgclhjjmleiggaaGreatDoor
namespace Lm
open Go.RowKit
theorem ah8 {x y:Int} : cmpI x y<0↔x<y:=by
 unfold cmpI
 by_cases h:x<y
 ·simp [h]
 ·rw [if_neg h]
  by_cases h' : y<x
  ·simp [h',h]
  ·simp [h',h]
def bor (s:Int):Int:=if s<0 then 1 else 0
theorem aoa (s:Int):0≤bor s∧bor s≤1:=by unfold bor;split <;> omega
theorem alj {s:Int} (h1 : -4294967296≤s) (h2:s<4294967296):bits .and .i64 (s / 4294967296) 1=bor s:=by
 unfold bor
 by_cases h:s<0
 ·have e:s / 4294967296 = -1:=by omega
  rw [e,if_pos h]
  decide
 ·have e:s / 4294967296=0:=by omega
  rw [e,if_neg h]
  decide
theorem ah9 {s:Int} (h1 : -4294967296≤s) (h2:s<4294967296):s % 4294967296=s+4294967296*bor s:=by
 unfold bor
 split <;> omega
theorem att {X Y ps:List Int} {k:Nat} {a b c s:Int} (hk:ps.length=k) (ha:X.getD k 0=a) (hb:Y.getD k 0=b) (hs:s=a - b - c) (h1 : -4294967296≤s) (h2:s<4294967296) (h:val ps - pw k*c=vf X k - vf Y k) :
  val (ps ++ [s % 4294967296]) - pw (k+1)*(bor s)=vf X (k+1) - vf Y (k+1):=by
 rw [aba,vf,vf,ha,hb,hk,pw,ah9 h1 h2,Int.mul_add]
 have e2:pw k*(4294967296*bor s)=4294967296*pw k*bor s:=by rw [←Int.mul_assoc,Int.mul_comm (pw k)]
 rw [e2,hs,Int.mul_sub,Int.mul_sub]
 omega
set_option maxRecDepth 20000 in
set_option maxHeartbeats 400000 in
theorem aob (w:World) (a1 a2:Option Addr) (n1 n2 c1 c2:Nat) (xs ys:List Int) (hx:Sl w (.slice a1 n1 c1) xs) (hy:Sl w (.slice a2 n2 c2) ys) (hlt:val xs<val ys) :
  Calls Tryz.prog 37 #[.slice a1 n1 c1,.slice a2 n2 c2] w fun e w'=>e=.returned (.tuple #[.slice none 0 0,.bool false])∧Below w.heap.size w w' := by
 have kc:=alh w a1 a2 n1 n2 c1 c2 xs ys hx hy
 have hc:cmpI (val xs) (val ys)<0:=ah8.2 hlt
 have KC:=hide kc
 generalize cmpI (val xs) (val ys)=c at hc KC
 clear kc hlt hx hy
 go_enter Tryz.func37,Tryz.ntmps37
 go_wp2_with fail
 refine (KC.out).mono ?_
 rintro e w1 ⟨rfl,hb⟩
 go_wp2
 go_ret2
 exact ⟨rfl,hb⟩
set_option maxRecDepth 20000 in
set_option maxHeartbeats 1000000 in
theorem alk (w:World) (a1 a2:Option Addr) (n1 n2 c1 c2:Nat) (xs ys:List Int) (hx:Sl w (.slice a1 n1 c1) xs) (hy:Sl w (.slice a2 n2 c2) ys) (hm1:xs.length≤1000000000) (hge:val ys≤val xs) :
  Calls Tryz.prog 37 #[.slice a1 n1 c1,.slice a2 n2 c2] w fun e w'=>∃ v,e=.returned (.tuple #[v,.bool true])∧Is w.heap.size w' v (val xs - val ys)∧Below w.heap.size w w' := by
 have kc:=alh w a1 a2 n1 n2 c1 c2 xs ys hx hy
 have hc:¬ cmpI (val xs) (val ys)<0:=fun h=>by have:=ah8.1 h;omega
 have KC:=hide kc
 generalize cmpI (val xs) (val ys)=c at hc KC
 obtain ⟨rfl,h1,h2,h3⟩:=hx.parts
 obtain ⟨rfl,g1,g2,g3⟩:=hy.parts
 have t1:=aaq xs
 have t2:=aaq ys
 have t3:tl ys≤tl xs:=by
  apply Classical.byContradiction
  intro hn
  have:=act h3 g3 (by omega)
  omega
 have HG:=hide hge
 have HX:=hide (show (xs.take (tl xs)).length=tl xs by simp;omega)
 have HY:=hide (show (ys.take (tl ys)).length=tl ys by simp;omega)
 have VX:=hide (aad xs)
 have VY:=hide (aad ys)
 have LX:=hide (aai h3 (tl xs))
 have LY:=hide (aai g3 (tl ys))
 obtain ⟨i0,hi,hz0,hz1,hz2⟩:=info_parts abu
 clear h3 g3 kc hge
 go_enter Tryz.func37,Tryz.ntmps37
 go_wp2_with fail
 refine (KC.out).mono ?_
 rintro e wc ⟨rfl,hbc⟩
 replace hx:=hx.below hbc
 replace hy:=hy.below hbc
 have sx:=hx.cut
 have sy:=hy.cut
 generalize xs.take (tl xs)=X at sx HX VX LX
 generalize ys.take (tl ys)=Y at sy HY VY LY
 go_wp2_with fail
 refine (aam _ a1 _ c1 xs hx).mono ?_
 rintro e w' ⟨rfl,rfl⟩
 go_wp2_with fail
 refine (aam _ a2 _ c2 ys hy).mono ?_
 rintro e w' ⟨rfl,rfl⟩
 go_wp2_with (refine wpList_make_full _ rfl (.tmp 19) (.tmp 19) 31 rfl w'.heap.size 68 i0 (.int .u32 0) 1 Tryz.underlying31 hi hz0 hz1 .i64 .i64 _ _ (tl xs) rfl rfl (by omega) (by omega) (by rw [hz2];omega) (by unfold maxLen;omega) (Nat.le_refl _) ?hK)
 case hK =>
  intro w1 hown hgrow
  obtain ⟨_,cur,hh,hcs,hat⟩:=abb hown
  have hb1:Below w'.heap.size w' w1:=(Below.refl w'.heap.size w').grown hgrow (Nat.le_refl _) (by simp)
  have HH:=hide hh
  have HS:=hide hcs
  have HA:=hide hat
  clear hown hgrow hh hcs hat
  go_wp2
  go_loopw [7,23] (fun c i wr=>∃ (k:Nat) (r:Int) (ps:List Int) (cur' : Array Value),k≤tl xs∧c=.int .i64 r∧i=.int .i64 k∧(0≤r∧r≤1)∧ps.length=k∧Limb ps∧val ps - pw k*r=vf X k - vf Y k∧Wr w1 wr w'.heap.size cur' 68∧cur'.size=tl xs∧At cur' .u32 0 (ps ++ (List.replicate (tl xs) 0).drop k)) (fun _ i _=>tl xs - (intOf i).toNat)
  case atStart=>exact ⟨0,0,[],cur,Nat.zero_le _,rfl,rfl,by omega,rfl,aaf,by simp [val,vf,pw],Wr.refl HH.out,HS.out,by simpa using HA.out⟩
  case round =>
   obtain ⟨k,r,ps,cur',hk,rfl,rfl,hr,hpl,hpl2,hval,hwr,hcs,hat⟩:=hrel
   have HPL:=hide hpl
   have HLP:=hide hpl2
   have HV:=hide hval
   have HW:=hide hwr
   have HC:=hide hcs
   have HT:=hide hat
   clear hpl hpl2 hval hwr hcs hat
   by_cases hlt:k<tl xs
   ·have sx' := HW.out.sl (Nat.le_refl _) hb1 rfl sx
    have sy' := HW.out.sl (Nat.le_refl _) hb1 rfl sy
    have hlen:(ps ++ (List.replicate (tl xs) (0:Int)).drop k).length=tl xs:=by have:=HPL.out;simp;omega
    have hcell:=HT.out.cell HW.out.here k (by rw [hlen];omega)
    rw [Nat.zero_add] at hcell
    have hfree:=HW.out.free k
    have bx:=aah LX.out k
    have by' := aah LY.out k
    obtain ⟨ba,oa,rfl,hca⟩:=sx'.cells (by have:=HX.out;omega)
    have hcx:=hca k (by have:=HX.out;omega)
    obtain ⟨a,ha⟩:∃ a,a=X.getD k 0:=⟨_,rfl⟩
    obtain ⟨b,hb⟩:∃ b,b=Y.getD k 0:=⟨_,rfl⟩
    have ky:Hid (∀ n,Calls Tryz.prog 51 #[.slice a2 (tl ys) c2,.int .i64 k] (wr.drewN n) fun e w'=>e=.returned (.int .u32 b)∧w' = wr.drewN n):=by
     intro n;rw [hb];exact ab6 _ _ Y (sy'.below (below_drewN (Below.refl _ _) n)) k
    rw [←ha] at bx hcx
    rw [←hb] at by'
    have s1 : -4294967296≤a - b - r:=by omega
    have s2:a - b - r<4294967296:=by omega
    have hand:=alj s1 s2
    have hbo:=aoa (a - b - r)
    have HV' := hide (att HPL.out ha.symm hb.symm rfl s1 s2 HV.out)
    have HT' := hide (HT.out.set k ((a - b - r) % 4294967296))
    have HW' := hide (HW.out.set k (.int .u32 ((a - b - r) % 4294967296)))
    have HL' := hide hlen
    have d1:(k:Int)<((tl xs:Nat):Int):=by omega
    generalize hold:(ps ++ (List.replicate (tl xs) (0:Int)).drop k).getD k 0=old at hcell
    clear hlen hold ha hb sx' sy' hca
    go_wp2
    go_quiet ((go_at_call 51;exact Calls.quiet_of_same (ky.out _)))
    go_wp2
    go_roundw
    case rel=>exact ⟨k+1,_,ps ++ [(a - b - r) % 4294967296],_,by omega,rfl,by go_num,hbo,by have:=HPL.out;simp;omega,aan.2 ⟨HLP.out,aag.2 ⟨by omega,aaf⟩⟩,HV'.out,HW'.out.drewN _,by simpa using HC.out,by rw [←aa3 ps _ k _ HPL.out (by simp;omega)];simpa using HT'.out⟩
    case measure=>simp [intOf];omega
   ·have hkM:k=tl xs:=by omega
    subst hkM
    have hat2:=HT.out
    rw [List.drop_of_length_le (by simp),List.append_nil] at hat2
    have how:Ow w'.heap.size wr (.slice (some ⟨w'.heap.size,0,none⟩) (tl xs) (tl xs)) ps:=by
     have:=HPL.out
     exact ⟨_,tl xs,by simp [this],by omega,by unfold maxLen;omega,HLP.out,.inr ⟨_,0,_,rfl,Nat.le_refl _,HW.out.here,by rw [HC.out];omega,hat2⟩⟩
    have hbel:Below w'.heap.size w' wr:=hb1.trans (HW.out.below (Nat.le_refl _))
    have his:=how.is_cut (x:=val xs - val ys) (by
     have hv:=HV.out
     rw [aa8 X _ (by have:=HX.out;omega),aa8 Y _ (by have:=HY.out;omega),VX.out,VY.out] at hv
     have hb:=aab HLP.out
     rw [HPL.out] at hb
     have hg:=HG.out
     have h01:r=0∨r=1:=by omega
     rcases h01 with h | h
     ·rw [h] at hv;omega
     ·rw [h] at hv;omega)
    have hbel' := hbc.trans (hbel.mono hbc.size)
    have his' : Is w.heap.size wr _ _:=his.mono hbc.size
    clear hat2
    go_wp2_with fail
    refine (aam _ _ _ _ _ how.sl).mono ?_
    rintro e w2 ⟨rfl,rfl⟩
    go_wp2
    go_ret2
    exact ⟨_,rfl,his',hbel'⟩
end Lm
end Go.Proofs.YtgclhjjmleiggaaGreatDoor
namespace Go.Proofs.YtgclhjjmleiggaaGreatDoor
namespace Lm
open Go.RowKit
def Sep (v1 v2:Value):Prop:=∀ a1 n1 c1 a2 n2 c2,v1=.slice (some a1) n1 c1→v2=.slice (some a2) n2 c2→c1=0∨c2=0∨a1.block≠a2.block
theorem atu (v:Value) (n c:Nat):Sep (.slice none n c) v:=by
 intro a1 n1 c1 a2 n2 c2 h
 simp at h
theorem aoc {B B' : Nat} {w1 w2:World} {v1 v2:Value} {x1 x2:List Int} (h1:Ow B w1 v1 x1) (h2:Ow B' w2 v2 x2) (h:w1.heap.size≤B'):Sep v1 v2:=by
 intro a1 n1 c1 a2 n2 c2 e1 e2
 obtain ⟨ao,cap,hv,_,_,_,h4⟩:=h1
 obtain ⟨ao',cap',hv',_,_,_,h4'⟩:=h2
 rw [hv] at e1
 rw [hv'] at e2
 simp only [Value.slice.injEq] at e1 e2
 rcases h4 with h4 | ⟨g,off,cur,hg,_,hh,_⟩
 ·exact .inl (by omega)
 ·rcases h4' with h4' | ⟨g',off',cur',hg',hb,hh',_⟩
  ·exact .inr (.inl (by omega))
  ·refine .inr (.inr ?_)
   have:=aaa hh
   rw [hg] at e1
   rw [hg'] at e2
   have k1:=e1.1
   have k2:=e2.1
   simp only [Option.some.injEq] at k1 k2
   rw [←k1,←k2]
   simp
   omega
set_option maxRecDepth 20000 in
set_option maxHeartbeats 400000 in
theorem akb (w:World) (a1 a2:Option Addr) (n1 n2 c1 c2:Nat) (xs ys:List Int) (hx:Sl w (.slice a1 n1 c1) xs) (hy:Sl w (.slice a2 n2 c2) ys) (hz:tl ys=0) :
  Calls Tryz.prog 129 #[.slice a1 n1 c1,.slice a2 n2 c2] w fun e w'=>e=.returned (.tuple #[.slice none 0 0,.slice none 0 0,.bool false])∧Below w.heap.size w w' := by
 have ky:=aam w a2 n2 c2 ys hy
 rw [hz] at ky
 have KY:=hide ky
 clear ky hz hy
 go_enter Tryz.func129,Tryz.ntmps129
 go_wp2_with fail
 refine (aam w a1 _ c1 xs hx).mono ?_
 rintro e w' ⟨rfl,rfl⟩
 go_wp2_with fail
 refine (KY.out).mono ?_
 rintro e w' ⟨rfl,rfl⟩
 go_wp2
 go_ret3
 exact ⟨rfl,Below.refl _ _⟩
set_option maxRecDepth 20000 in
set_option maxHeartbeats 400000 in
theorem akc (w:World) (a1 a2:Option Addr) (n1 n2 c1 c2:Nat) (xs ys:List Int) (hx:Sl w (.slice a1 n1 c1) xs) (hy:Sl w (.slice a2 n2 c2) ys) (hm1:xs.length≤1000000000) (hlt:tl xs<tl ys) :
  Calls Tryz.prog 129 #[.slice a1 n1 c1,.slice a2 n2 c2] w fun e w'=>∃ v1 v2,e=.returned (.tuple #[v1,v2,.bool true])∧Is w.heap.size w' v1 (val xs / val ys)∧Is w.heap.size w' v2 (val xs % val ys)∧Sep v1 v2∧Below w.heap.size w w' := by
 obtain ⟨rfl,h1,h2,h3⟩:=hx.parts
 obtain ⟨rfl,g1,g2,g3⟩:=hy.parts
 have hvl:=act h3 g3 hlt
 have hx0:=(aab h3).1
 have Q:=hide (show val xs / val ys=0 from Int.ediv_eq_zero_of_lt hx0 hvl)
 have R:=hide (show val xs % val ys=val xs from Int.emod_eq_of_lt hx0 hvl)
 have hne:(((tl ys:Nat):Int) == 0)=false:=by simp;omega
 have H3:=hide h3
 have t1:=aaq xs
 have t2:=aaq ys
 clear hvl hx0 h3 g3
 go_enter Tryz.func129,Tryz.ntmps129
 go_wp2_with fail
 refine (aam w a1 _ c1 xs hx).mono ?_
 rintro e w' ⟨rfl,rfl⟩
 go_wp2_with fail
 refine (aam _ a2 _ c2 ys hy).mono ?_
 rintro e w' ⟨rfl,rfl⟩
 go_wp2_with fail
 refine (aco _ _ _ _ _ hx.cut (by simp;omega)).mono ?_
 rintro e w1 ⟨v,rfl,ho,hb⟩
 go_wp2
 go_ret3
 refine ⟨_,_,rfl,?_,⟨_,ho,aa2 (aai H3.out _),by rw [aad,aad,R.out]⟩,atu _ _ _,hb⟩
 rw [Q.out]
 exact ⟨[],⟨none,0,rfl,Nat.le_refl _,by simp [maxLen],aaf,.inl rfl⟩,abl,rfl⟩
theorem avk {ys:List Int} (h:tl ys=1):val ys=ys.getD 0 0:=by
 rw [←aad,h]
 cases ys with
 | nil=>simp [tl] at h
 | cons y ys=>simp [val]
theorem adq {a b q r:Int} (hb:0<b) (h:a=q*b+r) (h1:0≤r) (h2:r<b):a / b=q∧a % b=r:=by
 have e:a=r+b*q:=by rw [h,Int.mul_comm b];omega
 constructor
 ·rw [e,Int.add_mul_ediv_left _ _ (by omega),Int.ediv_eq_zero_of_lt h1 h2];omega
 ·rw [e,Int.add_mul_emod_self_left,Int.emod_eq_of_lt h1 h2]
set_option maxRecDepth 20000 in
set_option maxHeartbeats 1000000 in
theorem aia (w:World) (a1 a2:Option Addr) (n1 n2 c1 c2:Nat) (xs ys:List Int) (hx:Sl w (.slice a1 n1 c1) xs) (hy:Sl w (.slice a2 n2 c2) ys) (hm1:xs.length≤1000000000) (hle:1≤tl xs) (hone:tl ys=1) :
  Calls Tryz.prog 129 #[.slice a1 n1 c1,.slice a2 n2 c2] w fun e w'=>∃ v1 v2,e=.returned (.tuple #[v1,v2,.bool true])∧Is w.heap.size w' v1 (val xs / val ys)∧Is w.heap.size w' v2 (val xs % val ys)∧Sep v1 v2∧Below w.heap.size w w' := by
 obtain ⟨rfl,h1,h2,h3⟩:=hx.parts
 obtain ⟨rfl,g1,g2,g3⟩:=hy.parts
 have t1:=aaq xs
 have t2:=aaq ys
 have ky:=aam w a2 _ c2 ys hy
 have hvy:=hide (avk hone)
 obtain ⟨b,off,rfl,hc⟩:=hy.cells (by omega)
 have hcell:=hc 0 (by omega)
 have hlb:=aah g3 0
 have hpos:0<ys.getD 0 0:=by
  have:ys.getD 0 0≠0:=fun h0=>by
   have:=ab4 (zs:=ys) (n:=0) (by omega) h0
   omega
  omega
 rw [hone] at ky
 have KY:=hide ky
 have H3:=hide h3
 generalize ys.getD 0 0=d at hcell hlb hpos hvy
 clear hone hc h3 g3 ky hy
 rw [Nat.add_zero] at hcell
 go_enter Tryz.func129,Tryz.ntmps129
 go_wp2_with fail
 refine (aam w a1 _ c1 xs hx).mono ?_
 rintro e w' ⟨rfl,rfl⟩
 go_wp2_with fail
 refine (KY.out).mono ?_
 rintro e w' ⟨rfl,rfl⟩
 go_wp2_with fail
 refine (aco _ _ _ _ _ hx.cut (by simp;omega)).mono ?_
 rintro e w1 ⟨v,rfl,ho,hb⟩
 rw [af3,List.take_take,Nat.min_self] at ho
 obtain ⟨ao,cap,rfl,o1,o2,o3,o4⟩:=ho
 have hXl:(xs.take (tl xs)).length=tl xs:=by simp;omega
 rcases o4 with o4 | ⟨g,off',cur,rfl,hg,hh,hs,hat⟩
 ·omega
 have hcell' := (hb.cell (p:=⟨b,off,none⟩) (aay hcell)).trans hcell
 have VX:=hide (aad xs)
 generalize xs.take (tl xs)=X at *
 go_wp2_with fail
 refine (adi w1 g off' (tl xs) cap cur X d hpos (by omega) hh hat o3 hXl (by omega)).mono ?_
 rintro e w2 ⟨qs,r,cur',rfl,r0,r1,hv,hq,hql,hwr,hcs,hat'⟩
 have howq:Ow w'.heap.size w2 (.slice (some ⟨g,off',none⟩) (tl xs) cap) qs:=⟨_,cap,by rw [hql],by omega,o2,hq,.inr ⟨g,off',cur',rfl,hg,hwr.here,by omega,hat'⟩⟩
 have hdv:=adq hpos hv r0 r1
 rw [VX.out,←hvy.out] at hdv
 have hisq:=howq.is_cut (x:=val xs / val ys) hdv.1.symm
 have HR:=hide hdv.2
 have hb2:Below w'.heap.size w' w2:=hb.trans (hwr.below hg)
 clear hdv hv hql hwr hcs hat' hq
 go_wp2_with fail
 refine (aam _ _ _ _ _ howq.sl).mono ?_
 rintro e w3 ⟨rfl,rfl⟩
 go_wp2_with fail
 refine (aen _ r r0 (by omega)).mono ?_
 rintro e w4 ⟨v,rfl,his,hb4⟩
 go_wp2
 go_ret3
 obtain ⟨q1,q2,q3,q4⟩:=hisq
 obtain ⟨s1,s2,s3,s4⟩:=his
 exact ⟨_,_,rfl,⟨q1,q2.below hb4,q3,q4⟩,⟨s1,s2.mono hb2.size,s3,by rw [s4,HR.out]⟩,aoc q2 s2 (Nat.le_refl _),hb2.trans (hb4.mono hb2.size)⟩
end Lm
end Go.Proofs.YtgclhjjmleiggaaGreatDoor
namespace Go.Proofs.YtgclhjjmleiggaaGreatDoor
namespace Lm
def p10:Nat→Int
 | 0=>1
 | n+1=>10*p10 n
theorem abn (n:Nat):1≤p10 n:=by
 induction n with
 | zero=>simp [p10]
 | succ n ih=>simp only [p10];omega
theorem atv (m n:Nat):p10 (m+n)=p10 m*p10 n:=by
 induction m with
 | zero=>simp [p10]
 | succ m ih=>rw [Nat.succ_add];simp only [p10,ih,Int.mul_assoc]
theorem ab7 {m n:Nat} (h:m≤n):p10 m≤p10 n:=by
 obtain ⟨k,rfl⟩:=Nat.le.dest h
 rw [atv]
 have h1:=abn m
 have h2:=abn k
 have:p10 m*1≤p10 m*p10 k:=Int.mul_le_mul_of_nonneg_left h2 (by omega)
 omega
theorem aod (n:Nat):pw n≤p10 (10*n):=by
 induction n with
 | zero=>simp [pw,p10]
 | succ n ih =>
  rw [show 10*(n+1)=10*n+10 by omega]
  simp only [pw,p10]
  have:=aaw n
  omega
def Dig (ds:List Int):Prop:=∀ c ∈ ds,48≤c∧c≤57
def dval:List Int→Int
 | []=>0
 | c :: cs=>(c - 48)*p10 cs.length+dval cs
def IsDec (ds:List Int) (x:Int):Prop:=Dig ds∧dval ds=x∧((x=0∧ds = [48])∨∃ c cs,ds=c :: cs∧c≠48)
theorem ab8 {c:Int} {cs:List Int} : Dig (c :: cs)↔(48≤c∧c≤57)∧Dig cs:=by
 constructor
 ·intro h;exact ⟨h c (by simp),fun y hy=>h y (by simp [hy])⟩
 ·rintro ⟨h1,h2⟩ y hy
  simp at hy
  rcases hy with rfl | hy
  ·exact h1
  ·exact h2 y hy
theorem acp:Dig []:=fun _ h=>by cases h
theorem aib {ds:List Int} (h:Dig ds) (k:Nat):Dig (ds.drop k):=fun y hy=>h y (List.mem_of_mem_drop hy)
theorem afq {ds:List Int} (h:Dig ds) {i:Nat} (hi:i<ds.length):48≤ds.getD i 0∧ds.getD i 0≤57:=by
 rw [List.getD_eq_getElem?_getD,List.getElem?_eq_getElem hi]
 exact h _ (List.getElem_mem hi)
theorem aa6 {ds:List Int} (h:Dig ds):0≤dval ds∧dval ds<p10 ds.length:=by
 induction ds with
 | nil=>simp [dval,p10]
 | cons c cs ih =>
  have h' := ab8.1 h
  have hi:=ih h'.2
  simp only [dval,List.length_cons,p10]
  have hp:=abn cs.length
  have e1:0≤(c - 48)*p10 cs.length:=Int.mul_nonneg (by omega) (by omega)
  have e2:(c - 48)*p10 cs.length≤9*p10 cs.length:=Int.mul_le_mul_of_nonneg_right (by omega) (by omega)
  omega
theorem ad6 {c:Int} {cs:List Int} (h:Dig (c :: cs)) (hc:c≠48):p10 cs.length≤dval (c :: cs):=by
 have h' := ab8.1 h
 have hi:=aa6 h'.2
 have hp:=abn cs.length
 have e1:1*p10 cs.length≤(c - 48)*p10 cs.length:=Int.mul_le_mul_of_nonneg_right (by omega) (by omega)
 simp only [dval]
 omega
theorem aq6 {ds es:List Int} (hd:Dig ds) (he:Dig es) (hl:ds.length=es.length) (h:dval ds=dval es):ds=es:=by
 induction ds generalizing es with
 | nil =>
  cases es with
  | nil=>rfl
  | cons e es=>simp at hl
 | cons d ds ih =>
  cases es with
  | nil=>simp at hl
  | cons e es =>
   have h1:=ab8.1 hd
   have h2:=ab8.1 he
   have b1:=aa6 h1.2
   have b2:=aa6 h2.2
   simp at hl
   simp only [dval] at h
   rw [hl] at h b1
   have hp:=abn es.length
   have hde:d=e:=by
    rcases Int.lt_trichotomy d e with hlt | heq | hgt
    ·have:(d - 48+1)*p10 es.length≤(e - 48)*p10 es.length:=Int.mul_le_mul_of_nonneg_right (by omega) (by omega)
     rw [Int.add_mul] at this
     omega
    ·exact heq
    ·have:(e - 48+1)*p10 es.length≤(d - 48)*p10 es.length:=Int.mul_le_mul_of_nonneg_right (by omega) (by omega)
     rw [Int.add_mul] at this
     omega
   subst hde
   rw [ih h1.2 h2.2 hl (by omega)]
theorem aoe {ds es:List Int} {x:Int} (hd:IsDec ds x) (he:IsDec es x):ds=es:=by
 obtain ⟨d1,d2,d3⟩:=hd
 obtain ⟨e1,e2,e3⟩:=he
 rcases d3 with ⟨hx,rfl⟩ | ⟨c,cs,rfl,hc⟩
 ·rcases e3 with ⟨_,rfl⟩ | ⟨c,cs,rfl,hc⟩
  ·rfl
  ·have:=ad6 e1 hc
   have:=abn cs.length
   omega
 ·rcases e3 with ⟨hx,rfl⟩ | ⟨c',cs',rfl,hc'⟩
  ·have:=ad6 d1 hc
   have:=abn cs.length
   omega
  ·have l1:=ad6 d1 hc
   have l2:=ad6 e1 hc'
   have b1:=(aa6 d1).2
   have b2:=(aa6 e1).2
   simp only [List.length_cons] at b1 b2
   have hl:cs.length=cs'.length:=by
    apply Classical.byContradiction
    intro hn
    rcases Nat.lt_or_gt_of_ne hn with h | h
    ·have:=ab7 (m:=cs.length+1) (n:=cs'.length) (by omega)
     omega
    ·have:=ab7 (m:=cs'.length+1) (n:=cs.length) (by omega)
     omega
   exact aq6 d1 e1 (by simp [hl]) (by omega)
theorem akd (cs:List Int):dval (48 :: cs)=dval cs:=by simp [dval]
theorem aq7 {T:List Int} {v R x:Int} {j:Nat} (h:dval T+p10 T.length*(v+p10 (j+1)*R)=x) :
  dval ((48+v % 10) :: T)+p10 ((48+v % 10) :: T).length*(v / 10+p10 j*R)=x:=by
 rw [←h]
 simp only [dval,List.length_cons,p10]
 have e:v=10*(v / 10)+v % 10:=by omega
 have e1:(48+v % 10 - 48)*p10 T.length=p10 T.length*(v % 10):=by rw [Int.mul_comm];congr 1;omega
 have e2:10*p10 T.length*(v / 10+p10 j*R)=p10 T.length*(10*(v / 10))+p10 T.length*(10*p10 j*R):=by
  rw [Int.mul_comm 10 (p10 T.length),Int.mul_assoc,Int.mul_add,Int.mul_add,←Int.mul_assoc 10 (p10 j) R]
 have e3:p10 T.length*(v+10*p10 j*R)=p10 T.length*(10*(v / 10))+p10 T.length*(v % 10)+p10 T.length*(10*p10 j*R):=by
  rw [←Int.mul_add,←Int.mul_add,←e]
 rw [e1,e2,e3]
 omega
theorem aof {v:Int} {j:Nat} (h0:0≤v) (h:v<p10 (j+1)):0≤v / 10∧v / 10<p10 j:=by
 simp only [p10] at h
 omega
theorem aq8 {T:List Int} {R x:Int} {n0:Nat} (hT:Dig T) (h:dval T+p10 T.length*R=x) (hR:1≤R) (hx:x<pw n0):T.length+9≤10*n0+9:=by
 have h1:=(aa6 hT).1
 have h2:=aod n0
 have h3:=abn T.length
 have h4:p10 T.length*1≤p10 T.length*R:=Int.mul_le_mul_of_nonneg_left hR (by omega)
 apply Classical.byContradiction
 intro hn
 have:=ab7 (m:=10*n0) (n:=T.length) (by omega)
 omega
end Lm
end Go.Proofs.YtgclhjjmleiggaaGreatDoor
namespace Go.Proofs.YtgclhjjmleiggaaGreatDoor
namespace Lm
open Go.RowKit
theorem awq:(Tryz.prog.info? 5).map (fun i=>(i.zero,i.size,i.bytes))=some (some (.int .u8 0),1,1):=by kernel_rfl
theorem ahs {w:World} {B g n:Nat} (h:w.ownsRow B 5 1 (.slice (some ⟨g,0,none⟩) n n) n (madeCells #[Value.int .u8 0] n).toList) :
  B≤g∧∃ cur,w.heap[g]? = some (.cells cur 5 (0,0))∧cur.size=n∧At cur .u8 0 (List.replicate n 0):=by
 rcases h.2 with ⟨h',_⟩ | ⟨g',cap',cur,h',hb,hg,_,_,hs,htake⟩
 ·simp at h'
 ·simp only [Value.slice.injEq,Option.some.injEq,Addr.mk.injEq,and_true,true_and] at h'
  obtain ⟨rfl,rfl⟩:=h'
  refine ⟨hb,cur,hg,by omega,fun i hi=>?_⟩
  simp at hi
  have e:(cur.toList.take (n*1))[i]? = ((madeCells #[Value.int .u8 0] n).toList)[i]? := by rw [htake]
  rw [List.getElem?_take,if_pos (by omega)] at e
  rw [Nat.zero_add,←Array.getElem?_toList,e,Array.getElem?_toList]
  have h0:i<(Array.range n).size:=by simpa using hi
  simp [madeCells,hi,List.getD_eq_getElem?_getD,Nat.mod_one]
set_option maxRecDepth 20000 in
set_option maxHeartbeats 400000 in
theorem aog (w:World) (ao:Option Addr) (n cap:Nat) (zs:List Int) (h:Sl w (.slice ao n cap) zs) (hm:zs.length≤1000000000) (h0:tl zs=0) :
  Calls Tryz.prog 88 #[.slice ao n cap] w fun e w'=>∃ ds,e=.returned (.string (strOfNums ds))∧IsDec ds (val zs)∧Below w.heap.size w w' := by
 have HV:=hide (adp h0)
 go_enter Tryz.func88,Tryz.ntmps88
 go_wp2_with fail
 refine (aco _ _ _ _ _ h hm).mono ?_
 rintro e w1 ⟨v,rfl,ho,hb⟩
 obtain ⟨ao',cap',rfl,o1,o2,o3,o4⟩:=ho
 have hl:(zs.take (tl zs)).length=0:=by simp [h0]
 rw [hl]
 clear h0 hl o4
 go_wp2
 go_ret
 refine ⟨[48],rfl,?_,hb⟩
 rw [HV.out]
 exact ⟨ab8.2 ⟨by omega,acp⟩,by simp [dval],.inl ⟨rfl,rfl⟩⟩
set_option maxRecDepth 20000 in
set_option maxHeartbeats 2000000 in
theorem aq9 (w:World) (ao:Option Addr) (n cap:Nat) (zs:List Int) (h:Sl w (.slice ao n cap) zs) (hm:zs.length≤1000000000) (h0:0<tl zs) :
  Calls Tryz.prog 88 #[.slice ao n cap] w fun e w'=>∃ ds,e=.returned (.string (strOfNums ds))∧IsDec ds (val zs)∧Below w.heap.size w w' := by
 have t1:=aaq zs
 have hlz:=h.parts.2.2.2
 have hvp:Hid (0<val zs):=ad5 hlz h0
 have hvl:Hid (val zs<pw (tl zs)):=by
  show _<_
  have:=(aab (aai hlz (tl zs))).2
  rw [aad] at this
  simpa [Nat.min_eq_left t1] using this
 obtain ⟨i0,hi,hz0,hz1,hz2⟩:=info_parts awq
 go_enter Tryz.func88,Tryz.ntmps88
 go_wp2_with fail
 refine (aco _ _ _ _ _ h hm).mono ?_
 rintro e w1 ⟨v,rfl,ho,hb⟩
 have HX:=hide (aa2 hlz)
 have VX:=hide (aad zs)
 obtain ⟨ao',cap',rfl,o1,o2,o3,o4⟩:=ho
 have hl:(zs.take (tl zs)).length=tl zs:=by simp;omega
 rcases o4 with o4 | ⟨g,off,cur,rfl,hg,hh,hs,hat⟩
 ·omega
 rw [hl]
 have hgs:=aaa hh
 generalize zs.take (tl zs)=X at *
 have hne:(((tl zs:Nat):Int) == 0)=false:=by simp;omega
 go_wp2_with (refine wpList_make_full _ rfl (.tmp 15) (.tmp 15) 150 rfl w1.heap.size 5 i0 (.int .u8 0) 1 Tryz.underlying150 hi hz0 hz1 .i64 .i64 _ _ (10*tl zs+9) rfl rfl (by omega) (by omega) (by rw [hz2];omega) (by unfold maxLen;omega) (Nat.le_refl _) ?hK)
 case hK =>
  intro w2 hown hgrow
  obtain ⟨_,cur2,hh2,hcs2,hat2⟩:=ahs hown
  have hb1:Below w1.heap.size w1 w2:=(Below.refl w1.heap.size w1).grown hgrow (Nat.le_refl _) (by simp)
  have hh' : w2.heap[g]? = some (.cells cur 68 (0,0)):=by rw [hb1.block g hgs];exact hh
  have hb2:Below w.heap.size w w2:=hb.trans (hb1.mono hb.size)
  clear hown hgrow
  go_wp2
  obtain ⟨N,hN⟩:∃ N,N=10*tl zs+9:=⟨_,rfl⟩
  have hN1:10*tl zs+9≤N:=by omega
  have hN2:N≤10*tl zs+9:=by omega
  have HN:=hide hN
  rw [←hN] at hcs2 hat2
  have hatX:=hide hat
  replace hh2:=hide hh2
  clear hN hh hat hb1
  go_loopw [3,5] (fun rest at_ wr=>∃ (Z T:List Int) (m:Nat) (cA cB:Array Value),rest=.slice (some ⟨g,off,none⟩) Z.length cap'∧Z.length≤tl zs∧Canon Z∧at_=.int .i64 m∧m+T.length=N∧Dig T∧dval T+p10 T.length*val Z=val zs∧wr.heap[g]? = some (.cells cA 68 (0,0))∧At cA .u32 off Z∧wr.heap[w1.heap.size]? = some (.cells cB 5 (0,0))∧At cB .u8 0 ((List.replicate N 0).take m ++ T)∧Below w.heap.size w wr) (fun _ i _=>(intOf i).toNat)
  case atStart =>
   have eT:(List.replicate N (0:Int)).take N ++ []=List.replicate N 0:=by rw [List.append_nil,List.take_of_length_le (by simp)]
   refine ⟨X,[],N,cur,cur2,by rw [hl],by omega,HX.out,?_,rfl,acp,by simp [dval,p10,VX.out],hh',hatX.out,hh2.out,by rw [eT];exact hat2,hb2⟩
   rw [HN.out]
   congr 1
  case round =>
   obtain ⟨Z,T,m,cA,cB,rfl,hZl,hZc,rfl,hmT,hT,hv,hA,hAt,hB,hBt,hbel⟩:=hrel
   have HZC:=hide hZc
   have HMT:=hide hmT
   have HT:=hide hT
   have HV:=hide hv
   have HA:=hide hA
   have HAT:=hide hAt
   have HB:=hide hB
   have HBT:=hide hBt
   clear hZc hmT hT hv hA hAt hB hBt
   by_cases hZ:0<Z.length
   ·have hZ1:1≤val Z:=ad5 HZC.out.1 (by rw [HZC.out.2];exact hZ)
    have hroom:=aq8 HT.out HV.out hZ1 hvl.out
    have hm9:9≤m:=by have:=HMT.out;omega
    clear hroom hZ1
    go_wp2_with fail
    refine (adi wr g off Z.length cap' cA Z 1000000000 (by omega) (by omega) HA.out HAT.out HZC.out.1 rfl (by omega)).mono ?_
    rintro e w3 ⟨qs,r,cA',rfl,r0,r1,hv3,hq,hql,hwr,hcs3,hat3⟩
    have hsl:Sl w3 (.slice (some ⟨g,off,none⟩) Z.length cap') qs:=⟨_,cap',by rw [hql],by omega,o2,hq,.inr ⟨g,off,rfl,fun i hi=>hat3.cell hwr.here i hi⟩⟩
    have HQ:=hide hq
    have HQL:=hide hql
    have tq:=aaq qs
    rw [hql] at tq
    have hB3:w3.heap[w1.heap.size]? = some (.cells cB 5 (0,0)):=by rw [hwr.other _ (by omega)];exact HB.out
    have HB3:=hide hB3
    have HA3:=hide hwr.here
    have HAT3:=hide hat3
    have hb3:Below w.heap.size w w3:=hbel.trans (hwr.below hg)
    have HV3:Hid (dval T+p10 T.length*(r+p10 9*val qs)=val zs):=by
     show _ = _
     rw [←HV.out,hv3,show p10 9=1000000000 from by decide,Int.mul_comm (val qs),Int.add_comm r]
    clear hv3 hq hql hwr hcs3 hat3 hB3
    go_wp2_with fail
    refine (aam _ _ _ _ _ hsl).mono ?_
    rintro e w4 ⟨rfl,rfl⟩
    go_wp2
    go_loopw [5,6,26] (fun at_ v c wi=>∃ (j m' : Nat) (u:Int) (T' : List Int) (cB' : Array Value),j≤9∧at_=.int .i64 m'∧v=.int .u32 u∧c=.int .i64 j∧m'+j=m∧m'+T'.length=N∧Dig T'∧0≤u∧u<p10 (9 - j)∧dval T'+p10 T'.length*(u+p10 (9 - j)*val qs)=val zs∧Wr w4 wi w1.heap.size cB' 5∧At cB' .u8 0 ((List.replicate N 0).take m' ++ T')) (fun _ _ c _=>9 - (intOf c).toNat)
    case atStart=>exact ⟨0,m,r,T,cB,by omega,rfl,rfl,rfl,rfl,HMT.out,HT.out,r0,by rw [show p10 (9 - 0)=1000000000 from by decide];exact r1,HV3.out,Wr.refl HB3.out,HBT.out⟩
    case round =>
     obtain ⟨j,m',u,T',cB',hj,rfl,rfl,rfl,hmj,hmT',hT',hu0,hu1,hv',hwr',hat'⟩:=hrel
     have HMJ:=hide hmj
     have HMT' := hide hmT'
     have HT' := hide hT'
     have HU1:=hide hu1
     have HV' := hide hv'
     have HW' := hide hwr'
     have HA' := hide hat'
     have hm'1:9≤m'+j:=by omega
     have hm'2:m'≤N:=by omega
     clear hmj hmT' hT' hu1 hv' hwr' hat'
     by_cases hj9:j<9
     ·obtain ⟨i,hi'⟩:∃ i,9 - j=i+1:=⟨8 - j,by omega⟩
      have hi2:9 - (j+1)=i:=by omega
      have hub:u<1000000000:=by
       have:=HU1.out
       have h9:=ab7 (m:=9 - j) (n:=9) (by omega)
       rw [show p10 9=1000000000 from by decide] at h9
       omega
      have HVn:=hide (aq7 (T:=T') (v:=u) (R:=val qs) (x:=val zs) (j:=i) (by have h9:=HV'.out;rw [hi'] at h9;exact h9))
      have HUn:=hide (aof (v:=u) (j:=i) hu0 (by have h9:=HU1.out;rw [hi'] at h9;exact h9))
      cases m' with
      | zero=>omega
      | succ m' =>
       have hlen:((List.replicate N (0:Int)).take (m'+1) ++ T').length=N:=by have:=HMT'.out;rw [List.length_append,List.length_take,List.length_replicate];omega
       have hcell:=HA'.out.cell HW'.out.here m' (by rw [hlen];omega)
       rw [Nat.zero_add] at hcell
       generalize ((List.replicate N (0:Int)).take (m'+1) ++ T').getD m' 0=old at hcell
       have hfree:=HW'.out.free m'
       have HAn:=hide (HA'.out.set m' (48+u % 10))
       have HWn:=hide (HW'.out.set m' (.int .u8 (48+u % 10)))
       have HI:=hide hi2
       clear hlen hi' hi2
       go_wp2
       go_roundw
       case rel=>exact ⟨j+1,m',u / 10,(48+u % 10) :: T',_,by omega,rfl,rfl,by go_num,by have:=HMJ.out;omega,by have:=HMT'.out;simp;omega,ab8.2 ⟨by omega,HT'.out⟩,HUn.out.1,by rw [HI.out];exact HUn.out.2,by rw [HI.out];exact HVn.out,HWn.out,by rw [←afo _ _ _ _ (by rw [List.length_replicate];omega)];simpa using HAn.out⟩
       case measure=>simp [intOf];omega
     ·have hj' : j=9:=by omega
      subst hj'
      have hu:u=0:=by have:=HU1.out;rw [show p10 (9 - 9)=1 from by decide] at this;omega
      have HVf:Hid (dval T'+p10 T'.length*val qs=val zs):=by
       show _ = _
       have:=HV'.out
       rw [hu,show p10 (9 - 9)=1 from by decide,Int.zero_add,Int.one_mul] at this
       exact this
      have hAw:Hid (wr.heap[g]? = some (.cells cA' 68 (0,0))):=by
       show _ = _
       rw [HW'.out.other g (by omega)];exact HA3.out
      go_wp2
      go_roundw
      case rel=>exact ⟨qs.take (tl qs),T',m',cA',cB',by rw [List.length_take,HQL.out,Nat.min_eq_left tq],by rw [List.length_take,HQL.out];omega,aa2 HQ.out,rfl,HMT'.out,HT'.out,by rw [aad];exact HVf.out,hAw.out,fun i hi=>by rw [HAT3.out i (by rw [List.length_take] at hi;omega),abv _ _ _ (by rw [List.length_take] at hi;omega)],HW'.out.here,HA'.out,hb3.trans (HW'.out.below (by have:=hb.size;omega))⟩
      case measure=>simp [intOf];have:=HMJ.out;omega
   ·have hZ0:Z = []:=List.eq_nil_of_length_eq_zero (by omega)
    subst hZ0
    have HV0:Hid (dval T=val zs):=by
     show _ = _
     have:=HV.out
     rw [val,Int.mul_zero,Int.add_zero] at this
     exact this
    go_wp2
    go_loop [5] (fun at_=>∃ j:Nat,j<T.length∧at_=.int .i64 ((m+j:Nat):Int)∧dval (T.drop j)=val zs) (fun at_=>N - (intOf at_).toNat)
    case atStart =>
     refine ⟨0,?_,rfl,by simpa using HV0.out⟩
     apply Classical.byContradiction
     intro hn
     have h2:T = []:=List.eq_nil_of_length_eq_zero (by omega)
     have:=HV0.out
     rw [h2,dval] at this
     have:=hvp.out
     omega
    case round =>
     obtain ⟨j,hj,rfl,hdv⟩:=hrel
     have HD:=hide hdv
     have hlen:((List.replicate N (0:Int)).take m ++ T).length=N:=by have:=HMT.out;rw [List.length_append,List.length_take,List.length_replicate];omega
     have hmN:m+T.length≤N:=by have:=HMT.out;omega
     have hmN2:N≤m+T.length:=by have:=HMT.out;omega
     have hgt:((List.replicate N (0:Int)).take m ++ T).getD (m+j) 0=T.getD j 0:=by
      have hml:((List.replicate N (0:Int)).take m).length=m:=by rw [List.length_take,List.length_replicate];omega
      rw [List.getD_eq_getElem?_getD,List.getElem?_append_right (by omega),hml,Nat.add_sub_cancel_left,List.getD_eq_getElem?_getD]
     have hcell:=HBT.out.cell HB.out (m+j) (by rw [hlen];omega)
     rw [Nat.zero_add,hgt] at hcell
     have hdg:=afq HT.out hj
     have Hdr:=hide (acv T j hj)
     clear hgt hlen hdv
     by_cases h48:T.getD j 0=48
     ·rw [h48] at hcell
      have HDn:Hid (dval (T.drop (j+1))=val zs):=by
       show _ = _
       have:=HD.out
       rw [Hdr.out,h48,akd] at this
       exact this
      have hjn:j+1<T.length:=by
       apply Classical.byContradiction
       intro hn
       have:=HDn.out
       rw [List.drop_of_length_le (by omega),dval] at this
       have:=hvp.out
       omega
      clear h48 hdg
      go_wp2
      go_round
      case rel=>exact ⟨j+1,hjn,by go_num,HDn.out⟩
      case measure=>simp [intOf];omega
     ·have hb48:(T.getD j 0 == 48)=false:=by simpa using h48
      have hdec:Hid (IsDec (T.drop j) (val zs)):=⟨aib HT.out j,HD.out,.inr ⟨_,_,Hdr.out,h48⟩⟩
      have hcv:=run_convert_bytes_arg (P:=Tryz.prog) wr 150 5 Tryz.underlying150 Tryz.underlying5 w1.heap.size (m+j) (10*tl zs+9 - (m+j)) (10*tl zs+9 - (m+j)) (T.drop j) (by rw [List.length_drop];omega) (fun i hi=>by
       have hlen:((List.replicate N (0:Int)).take m ++ T).length=N:=by have:=HMT.out;rw [List.length_append,List.length_take,List.length_replicate];omega
       have h1:=HBT.out.cell HB.out (m+j+i) (by rw [hlen];omega)
       have hml:((List.replicate N (0:Int)).take m).length=m:=by rw [List.length_take,List.length_replicate];omega
       rw [Nat.zero_add] at h1
       rw [h1,List.getD_eq_getElem?_getD,List.getElem?_append_right (by omega),hml,List.getD_eq_getElem?_getD,List.getElem?_drop]
       congr 3
       congr 1
       omega) 9 Tryz.underlying9
      generalize T.getD j 0=c at hcell hb48
      clear h48 hdg
      go_wp2
      go_ret
      exact ⟨_,rfl,hdec.out,hbel⟩
theorem ara (w:World) (ao:Option Addr) (n cap:Nat) (zs:List Int) (h:Sl w (.slice ao n cap) zs) (hm:zs.length≤1000000000) :
  Calls Tryz.prog 88 #[.slice ao n cap] w fun e w'=>∃ ds,e=.returned (.string (strOfNums ds))∧IsDec ds (val zs)∧Below w.heap.size w w' := by
 by_cases h0:tl zs=0
 ·exact aog w ao n cap zs h hm h0
 ·exact aq9 w ao n cap zs h hm (by omega)
end Lm
end Go.Proofs.YtgclhjjmleiggaaGreatDoor
namespace Go.Proofs.YtgclhjjmleiggaaGreatDoor
namespace Lm
open Go.RowKit
def p2:Nat→Int
 | 0=>1
 | n+1=>2*p2 n
theorem abj (n:Nat):1≤p2 n:=by
 induction n with
 | zero=>simp [p2]
 | succ n ih=>simp only [p2];omega
theorem acw (m n:Nat):p2 (m+n)=p2 m*p2 n:=by
 induction m with
 | zero=>simp [p2]
 | succ m ih=>rw [Nat.succ_add];simp only [p2,ih,Int.mul_assoc]
theorem adr {m n:Nat} (h:m≤n):p2 m≤p2 n:=by
 obtain ⟨k,rfl⟩:=Nat.le.dest h
 rw [acw]
 have h1:=abj m
 have h2:=abj k
 have:p2 m*1≤p2 m*p2 k:=Int.mul_le_mul_of_nonneg_left h2 (by omega)
 omega
theorem ad7 (n:Nat):pw n=p2 (32*n):=by
 induction n with
 | zero=>rfl
 | succ n ih =>
  rw [Nat.mul_succ,acw,Int.mul_comm,←ih,show p2 32=4294967296 from by decide,pw]
def IsBits (x:Int) (k:Nat):Prop:=x<p2 k∧(k=0∨p2 (k - 1)≤x)
theorem aff {k:Nat} (h:IsBits 0 k):k=0:=by
 rcases h.2 with h0 | h0
 ·exact h0
 ·have:=abj (k - 1);omega
theorem ad8 {x:Int} {k:Nat} (h:IsBits x k) (hx:0<x):0<k:=by
 apply Classical.byContradiction
 intro hn
 have h0:k=0:=by omega
 have:=h.1
 rw [h0,p2] at this
 omega
theorem agw (f:Nat):∀ x:Nat,(x:Int)<p2 f→IsBits x (Lib.bitLenAux f x):=by
 induction f with
 | zero =>
  intro x hx
  simp only [p2] at hx
  have:x=0:=by omega
  subst this
  exact ⟨by simp [Lib.bitLenAux,p2],.inl rfl⟩
 | succ f ih =>
  intro x hx
  simp only [p2] at hx
  simp only [Lib.bitLenAux]
  by_cases h0:x=0
  ·subst h0
   exact ⟨by simp [p2],.inl (by simp)⟩
  ·rw [if_neg h0]
   have hi:=ih (x / 2) (by omega)
   refine ⟨?_,.inr ?_⟩
   ·rw [Nat.add_comm,p2]
    have:=hi.1
    omega
   ·rw [Nat.add_sub_cancel_left]
    rcases hi.2 with h1 | h1
    ·rw [h1,p2];omega
    ·by_cases h2:Lib.bitLenAux f (x / 2)=0
     ·rw [h2,p2];omega
     ·obtain ⟨m,hm⟩:∃ m,Lib.bitLenAux f (x / 2)=m+1:=⟨Lib.bitLenAux f (x / 2) - 1,by omega⟩
      rw [hm] at h1 ⊢
      simp only [Nat.add_sub_cancel,p2] at h1 ⊢
      omega
theorem afg (x:Nat) (h:x<18446744073709551616):IsBits x (Lib.bitLen x) :=
 agw 64 x (by rw [show p2 64=18446744073709551616 from by decide];omega)
theorem aic {zs:List Int} (h:Canon zs) {n l:Nat} (hn:zs.length=n+1) (ht:IsBits (zs.getD n 0) l) (hp:0<zs.getD n 0):IsBits (val zs) (32*n+l):=by
 have hl:=ad8 ht hp
 have e:val zs=val (zs.take n)+pw n*zs.getD n 0:=by
  have e1:zs=zs.take n ++ [zs.getD n 0]:=by
   rw [←aax zs n (by omega),List.take_of_length_le (by omega)]
  have e2:=aa5 (zs.take n) [zs.getD n 0]
  rw [←e1,List.length_take,Nat.min_eq_left (by omega)] at e2
  rw [e2]
  simp [val]
 have hb:=aab (aai h.1 n)
 rw [List.length_take,Nat.min_eq_left (by omega)] at hb
 generalize zs.getD n 0=t at *
 rw [e]
 have hpw:=aaw n
 refine ⟨?_,.inr ?_⟩
 ·rw [acw,←ad7]
  have:pw n*(t+1)≤pw n*p2 l:=Int.mul_le_mul_of_nonneg_left (by have:=ht.1;omega) (by omega)
  rw [Int.mul_add] at this
  omega
 ·rw [show 32*n+l - 1=32*n+(l - 1) by omega,acw,←ad7]
  have hlow:p2 (l - 1)≤t:=by rcases ht.2 with h0 | h0 <;> omega
  have:pw n*p2 (l - 1)≤pw n*t:=Int.mul_le_mul_of_nonneg_left hlow (by omega)
  omega
theorem atw:∀ n:Fin 256,(Lib.len8tab[n.val]?.getD 0).toNat=Lib.bitLen n.val:=by decide +kernel
theorem alm (y:Int) (h:y.toNat<Lib.len8tab.size) (h0:0≤y) (h1:y<256):((Lib.len8tab[y.toNat]'h).toNat:Int)=(Lib.bitLen y.toNat:Nat):=by
 have e:=atw ⟨y.toNat,by omega⟩
 simp only [getElem?_pos Lib.len8tab y.toNat h,Option.getD_some] at e
 rw [e]
theorem aid {x y:Int} {k:Nat} (hk:k≤24) (h:y.toNat<Lib.len8tab.size) (h0:0≤y) (h1:y<256) (hb:Lib.bitLen x.toNat=k+Lib.bitLen y.toNat):wrap64 ((k:Int)+wrap64 ((Lib.len8tab[y.toNat]'h).toNat:Int))=(Lib.bitLen x.toNat:Nat):=by
 have l:=Lib.bitLen_le8' y h0 (by omega)
 rw [alm y h h0 h1,hb]
 simp only [wrap64]
 omega
theorem atx {x:Int} (h:x.toNat<Lib.len8tab.size) (h0:0≤x) (h1:x<256):wrap64 (wrap64 ((Lib.len8tab[x.toNat]'h).toNat:Int))=(Lib.bitLen x.toNat:Nat):=by
 have l:=Lib.bitLen_le8' x h0 (by omega)
 rw [alm x h h0 h1]
 simp only [wrap64]
 omega
set_option maxRecDepth 20000 in
set_option maxHeartbeats 4000000 in
set_option maxRecDepth 100000 in
theorem aha (x:Int) (w:World) (h0:0≤x) (h1:x<4294967296) :
  Calls Tryz.prog 130 #[.int .u32 x] w fun e w'=>e=.returned (.int .i64 (Lib.bitLen x.toNat:Nat))∧w' = w:=by
 have hs:(256:Int)≤(Lib.len8tab.size:Int):=by decide
 by_cases c1:65536≤x
 ·by_cases c2:256≤x / 65536
  ·go_enter Tryz.func130,Tryz.ntmps130
   go_wp2
   go_ret
   refine ⟨congrArg Ending.returned (congrArg (Value.int IntKind.i64) ?_),rfl⟩
   exact aid (k:=24) (by omega) _ (by omega) (by omega) (by rw [Lib.bitLen_shift24 x.toNat (by omega) (by omega)];congr 2;omega)
  ·go_enter Tryz.func130,Tryz.ntmps130
   go_wp2
   go_ret
   refine ⟨congrArg Ending.returned (congrArg (Value.int IntKind.i64) ?_),rfl⟩
   exact aid (k:=16) (by omega) _ (by omega) (by omega) (by rw [Lib.bitLen_shift16 x.toNat (by omega) (by omega)];congr 2;omega)
 ·by_cases c2:256≤x
  ·go_enter Tryz.func130,Tryz.ntmps130
   go_wp2
   go_ret
   refine ⟨congrArg Ending.returned (congrArg (Value.int IntKind.i64) ?_),rfl⟩
   exact aid (k:=8) (by omega) _ (by omega) (by omega) (by rw [Lib.bitLen_shift8 x.toNat (by omega) (by omega)];congr 2;omega)
  ·go_enter Tryz.func130,Tryz.ntmps130
   go_wp2
   go_ret
   refine ⟨congrArg Ending.returned (congrArg (Value.int IntKind.i64) ?_),rfl⟩
   exact atx _ (by omega) (by omega)
set_option maxRecDepth 20000 in
set_option maxHeartbeats 400000 in
theorem aie (w:World) (ao:Option Addr) (n cap:Nat) (zs:List Int) (h:Sl w (.slice ao n cap) zs) (hm:zs.length≤1000000000) :
  Calls Tryz.prog 128 #[.slice ao n cap] w fun e w'=>∃ k:Nat,e=.returned (.int .i64 k)∧IsBits (val zs) k∧w' = w:=by
 obtain ⟨rfl,h1,h2,h3⟩:=h.parts
 have t1:=aaq zs
 have kc:=hide (aam w ao _ cap zs h)
 by_cases h0:tl zs=0
 ·have HB:Hid (IsBits (val zs) 0):=by rw [adp h0];exact ⟨by decide,.inl rfl⟩
  rw [h0] at kc
  clear h0
  go_enter Tryz.func128,Tryz.ntmps128
  go_wp2_with fail
  refine (kc.out).mono ?_
  rintro e w' ⟨rfl,rfl⟩
  go_wp2
  go_ret
  exact ⟨0,rfl,HB.out,rfl⟩
 ·obtain ⟨k,hk⟩:∃ k,tl zs=k+1:=⟨tl zs - 1,by omega⟩
  obtain ⟨b,off,rfl,hc⟩:=h.cells (by omega)
  have hcell:=hc k (by omega)
  have hl:=aah h3 k
  have hp:0<zs.getD k 0:=by
   have:zs.getD k 0≠0:=fun e0=>by
    have:=ab4 (zs:=zs) (n:=k) (by omega) e0
    omega
   omega
  have hbt:=afg (zs.getD k 0).toNat (by omega)
  rw [Int.toNat_of_nonneg hl.1] at hbt
  have hlb:Lib.bitLen (zs.getD k 0).toNat≤32:=Lib.bitLen_le _ 32 (by omega) (by omega)
  have HB:Hid (IsBits (val zs) (32*k+Lib.bitLen (zs.getD k 0).toNat)):=by
   have hcn:=aa2 h3
   have e1:=abv zs k (tl zs) (by omega)
   have:=aic hcn (n:=k) (l:=Lib.bitLen (zs.getD k 0).toNat) (by simp;omega) (by rw [e1];exact hbt) (by rw [e1];exact hp)
   rwa [aad] at this
  have kl:=hide (fun w=>aha (zs.getD k 0) w hl.1 hl.2)
  generalize Lib.bitLen (zs.getD k 0).toNat=l at HB hlb kl
  generalize zs.getD k 0=z at hcell kl
  rw [hk] at kc
  have hk1:k≤1000000000:=by omega
  clear h0 hk hc hbt hl hp
  go_enter Tryz.func128,Tryz.ntmps128
  go_wp2_with fail
  refine (kc.out).mono ?_
  rintro e w' ⟨rfl,rfl⟩
  go_wp2_with fail
  refine (kl.out _).mono ?_
  rintro e w' ⟨rfl,rfl⟩
  go_wp2
  go_ret
  refine ⟨32*k+l,?_,HB.out,rfl⟩
  exact ace (by omega)
end Lm
end Go.Proofs.YtgclhjjmleiggaaGreatDoor
namespace Go.Proofs.YtgclhjjmleiggaaGreatDoor
namespace Lm
open Go.RowKit
theorem aeo {x y:Int} (hx:0≤x∧x<4294967296) (hy:0≤y∧y<4294967296):0≤x*y∧x*y≤18446744065119617025:=by
 refine ⟨Int.mul_nonneg hx.1 hy.1,?_⟩
 have h1:x*y≤4294967295*y:=Int.mul_le_mul_of_nonneg_right (by omega) hy.1
 omega
theorem aoh {ps Y qs:List Int} {k:Nat} {x y a c s:Int} (hk:qs.length=k) (hy:Y.getD k 0=y) (ha:ps.getD k 0=a) (hs:s=x*y+a+c) (h:val qs+pw k*c=vf ps k+x*vf Y k) :
  val (qs ++ [s % 4294967296])+pw (k+1)*(s / 4294967296)=vf ps (k+1)+x*vf Y (k+1):=by
 rw [aba,vf,vf,ha,hy,hk,pw]
 have e:s=s % 4294967296+4294967296*(s / 4294967296):=by omega
 have e2:pw k*(s % 4294967296)+4294967296*pw k*(s / 4294967296)=pw k*s:=by
  rw [Int.mul_comm 4294967296 (pw k),Int.mul_assoc,←Int.mul_add,←e]
 have e3:x*(pw k*y)=pw k*(x*y):=by rw [←Int.mul_assoc,Int.mul_comm x,Int.mul_assoc]
 rw [Int.add_assoc,e2,hs,Int.mul_add,Int.mul_add,Int.mul_add,e3]
 omega
set_option maxRecDepth 20000 in
set_option maxHeartbeats 400000 in
theorem aif (w0 w:World) (g o n cap c2:Nat) (cur:Array Value) (ps Y:List Int) (a2:Option Addr) (x:Int) (hx:0≤x∧x<4294967296)
  (hh:w.heap[g]? = some (.cells cur 68 (0,0))) (ha:At cur .u32 o ps) (hp:Limb ps) (hpl:ps.length=n) (hm:n≤1000000000)
  (hb:Below w0.heap.size w0 w) (hg:w0.heap.size≤g) (hY:Sl w0 (.slice a2 n c2) Y) :
  Calls Tryz.prog 53 #[.slice (some ⟨g,o,none⟩) n cap,.slice a2 n c2,.int .u32 x] w fun e w'=>∃ qs c cur',e=.returned (.int .u32 c)∧(0≤c∧c<4294967296)∧val qs+pw n*c=val ps+x*val Y∧Limb qs∧qs.length=n∧Wr w w' g cur' 68∧cur'.size=cur.size∧At cur' .u32 o qs∧(∀ i,i<o∨o+n≤i→cur'[i]? = cur[i]?):=by
 obtain ⟨hYl,g1,g2,g3⟩:=hY.parts
 have HP:=hide hp
 have HY:=hide g3
 have HYL:=hide hYl
 have HPL:=hide hpl
 have HH:=hide hh
 have HA:=hide ha
 have hyn:n≤Y.length:=by omega
 have hpn:n≤ps.length:=by omega
 clear hp g3 hYl hpl hh ha
 go_enter Tryz.func53,Tryz.ntmps53
 go_wp2
 go_loopw [7,13] (fun cv i wr=>∃ (k:Nat) (c:Int) (qs:List Int) (cur' : Array Value),k≤n∧cv=.int .u64 c∧i=.int .i64 k∧(0≤c∧c<4294967296)∧qs.length=k∧Limb qs∧val qs+pw k*c=vf ps k+x*vf Y k∧Wr w wr g cur' 68∧cur'.size=cur.size∧At cur' .u32 o (qs ++ ps.drop k)∧(∀ i,i<o∨o+n≤i→cur'[i]? = cur[i]?)) (fun _ i _=>n - (intOf i).toNat)
 case atStart=>exact ⟨0,0,[],cur,Nat.zero_le _,rfl,rfl,by omega,rfl,aaf,by simp [val,vf,pw],Wr.refl HH.out,rfl,by simpa using HA.out,fun _ _=>rfl⟩
 case round =>
  obtain ⟨k,c,qs,cur',hk,rfl,rfl,hc,hql,hq,hval,hwr,hcs,hat,hout⟩:=hrel
  have HQL:=hide hql
  have HQ:=hide hq
  have HV:=hide hval
  have HW:=hide hwr
  have HC:=hide hcs
  have HT:=hide hat
  have HO:=hide hout
  clear hql hq hval hwr hcs hat hout
  by_cases hlt:k<n
  ·have sy:=HW.out.sl hg hb rfl hY
   obtain ⟨b,off,rfl,hcy⟩:=sy.cells (by omega)
   have cy:=hcy k (by omega)
   have hlen:(qs ++ ps.drop k).length=n:=by have:=HQL.out;have:=HPL.out;simp;omega
   have co:=HT.out.cell HW.out.here k (by rw [hlen];omega)
   have e1:(qs ++ ps.drop k).getD k 0=ps.getD k 0:=by
    rw [List.getD_eq_getElem?_getD,List.getElem?_append_right (by have:=HQL.out;omega),List.getElem?_drop,List.getD_eq_getElem?_getD,HQL.out]
    congr 2
    omega
   rw [e1] at co
   have hfree:=HW.out.free (o+k)
   have by' := aah HY.out k
   have ba:=aah HP.out k
   obtain ⟨y,hy⟩:∃ y,Y.getD k 0=y:=⟨_,rfl⟩
   obtain ⟨a,hpa⟩:∃ a,ps.getD k 0=a:=⟨_,rfl⟩
   rw [hy] at cy by'
   rw [hpa] at co ba
   have hxy:=aeo hx by'
   have HV' := hide (aoh (x:=x) HQL.out hy hpa rfl HV.out)
   have HT' := hide (HT.out.set k ((x*y+a+c) % 4294967296))
   have HW' := hide (HW.out.set (o+k) (.int .u32 ((x*y+a+c) % 4294967296)))
   have d1:(k:Int)<(n:Int):=by omega
   clear hlen e1 hy hpa sy hcy
   go_wp2
   go_roundw
   case rel =>
    refine ⟨k+1,(x*y+a+c) / 4294967296,qs ++ [(x*y+a+c) % 4294967296],_,by omega,rfl,by go_num,by omega,by have:=HQL.out;simp;omega,aan.2 ⟨HQ.out,aag.2 ⟨by omega,aaf⟩⟩,HV'.out,HW'.out,by simpa using HC.out,by rw [←aa3 qs ps k _ HQL.out (by omega)];exact HT'.out,fun i hi=>?_⟩
    rw [Array.getElem?_setIfInBounds,if_neg (by omega)]
    exact HO.out i hi
   case measure=>simp [intOf];omega
  ·have hkn:k=n:=by omega
   subst hkn
   go_wp2
   go_ret
   refine ⟨qs,c,cur',rfl,hc,?_,HQ.out,HQL.out,HW.out,HC.out,?_,HO.out⟩
   ·rw [HV.out,aa8 ps _ (by have:=HPL.out;omega),aa8 Y _ (by have:=HYL.out;omega)]
   ·have:=HT.out
    rwa [List.drop_of_length_le (by have:=HPL.out;omega),List.append_nil] at this
theorem ahb {cur cur' : Array Value} {k:IntKind} {A W B W' : List Int} (h:At cur k 0 (A ++ W ++ B)) (hw:At cur' k A.length W') (hl:W'.length=W.length) (ho:∀ i,i<A.length∨A.length+W.length≤i→cur'[i]? = cur[i]?):At cur' k 0 (A ++ W' ++ B):=by
 intro i hi
 have hi' : i<A.length+W.length+B.length:=by simp at hi;omega
 rw [Nat.zero_add]
 by_cases h1:i<A.length
 ·have e:=h i (by simp;omega)
  rw [Nat.zero_add] at e
  rw [ho i (.inl h1),e,List.getD_eq_getElem?_getD,List.getD_eq_getElem?_getD,List.append_assoc,List.append_assoc,List.getElem?_append_left h1,List.getElem?_append_left h1]
 ·by_cases h2:i<A.length+W.length
  ·have e:=hw (i - A.length) (by omega)
   rw [show A.length+(i - A.length)=i by omega] at e
   rw [e,List.getD_eq_getElem?_getD,List.getD_eq_getElem?_getD,List.append_assoc,List.getElem?_append_right (by omega),List.getElem?_append_left (by omega)]
  ·have e:=h i (by simp;omega)
   rw [Nat.zero_add] at e
   have e9:(A ++ W).length=(A ++ W').length:=by simp [hl]
   have e8:(A ++ W).length≤i:=by simp;omega
   rw [ho i (.inr (by omega)),e,List.getD_eq_getElem?_getD,List.getD_eq_getElem?_getD,List.getElem?_append_right e8,List.getElem?_append_right (by omega),e9]
theorem aig {cur:Array Value} {k:IntKind} {A W B:List Int} (h:At cur k 0 (A ++ W ++ B)):At cur k A.length W:=by
 intro i hi
 have e:=h (A.length+i) (by simp;omega)
 rw [Nat.zero_add] at e
 rw [e,List.getD_eq_getElem?_getD,List.getD_eq_getElem?_getD,List.append_assoc,List.getElem?_append_right (by omega),Nat.add_sub_cancel_left,List.getElem?_append_left hi]
theorem aty {X Y qs rs:List Int} {i:Nat} {x c:Int} (hi:i≤qs.length) (hx:X.getD i 0=x) (hq:val qs=vf X i*val Y) (hr:val rs+pw rs.length*c=val (qs.drop i)+x*val Y) :
  val (qs.take i ++ rs ++ [c])=vf X (i+1)*val Y:=by
 have h1:val qs=val (qs.take i)+pw i*val (qs.drop i):=by
  have:=aa5 (qs.take i) (qs.drop i)
  rw [List.take_append_drop,List.length_take,Nat.min_eq_left hi] at this
  exact this
 rw [aa5,aa5,List.length_append,List.length_take,Nat.min_eq_left hi,ada,vf,hx,Int.add_mul,←hq,h1]
 have h2:val [c]=c:=by simp [val]
 rw [h2,Int.mul_assoc (pw i) x]
 have h3:pw i*val rs+pw i*pw rs.length*c=pw i*val (qs.drop i)+pw i*(x*val Y):=by
  rw [Int.mul_assoc,←Int.mul_add,←Int.mul_add,hr]
 omega
set_option maxRecDepth 20000 in
set_option maxHeartbeats 400000 in
theorem aln (w:World) (a1 a2:Option Addr) (n1 n2 c1 c2:Nat) (xs ys:List Int) (hx:Sl w (.slice a1 n1 c1) xs) (hy:Sl w (.slice a2 n2 c2) ys) (hm1:xs.length≤500000000) (hm2:ys.length≤500000000) :
  Calls Tryz.prog 38 #[.slice a1 n1 c1,.slice a2 n2 c2] w fun e w'=>∃ v,e=.returned v∧Is w.heap.size w' v (val xs*val ys)∧Below w.heap.size w w' := by
 obtain ⟨rfl,h1,h2,h3⟩:=hx.parts
 obtain ⟨rfl,g1,g2,g3⟩:=hy.parts
 have t1:=aaq xs
 have t2:=aaq ys
 have sx:=hx.cut
 have sy:=hy.cut
 have HX:=hide (show (xs.take (tl xs)).length=tl xs by simp;omega)
 have HY:=hide (show (ys.take (tl ys)).length=tl ys by simp;omega)
 have VX:=hide (aad xs)
 have VY:=hide (aad ys)
 have LX:=hide (aai h3 (tl xs))
 have LY:=hide (aai g3 (tl ys))
 obtain ⟨i0,hi,hz0,hz1,hz2⟩:=info_parts abu
 generalize xs.take (tl xs)=X at sx HX VX LX
 generalize ys.take (tl ys)=Y at sy HY VY LY
 clear h3 g3
 go_enter Tryz.func38,Tryz.ntmps38
 go_wp2_with fail
 refine (aam w a1 _ c1 xs hx).mono ?_
 rintro e w' ⟨rfl,rfl⟩
 go_wp2_with fail
 refine (aam _ a2 _ c2 ys hy).mono ?_
 rintro e w' ⟨rfl,rfl⟩
 go_wp2_with (refine wpList_make_full _ rfl (.tmp 16) (.tmp 16) 31 rfl w'.heap.size 68 i0 (.int .u32 0) 1 Tryz.underlying31 hi hz0 hz1 .i64 .i64 _ _ (tl xs+tl ys) rfl rfl (by omega) (by omega) (by rw [hz2];omega) (by unfold maxLen;omega) (Nat.le_refl _) ?hK)
 case hK =>
  intro w1 hown hgrow
  obtain ⟨_,cur,hh,hcs,hat⟩:=abb hown
  have hb1:Below w'.heap.size w' w1:=(Below.refl w'.heap.size w').grown hgrow (Nat.le_refl _) (by simp)
  have HH:=hide hh
  have HS:=hide hcs
  have HA:=hide hat
  clear hown hgrow hh hcs hat
  go_wp2
  go_loopw [20] (fun i wr=>∃ (k:Nat) (qs:List Int) (cur' : Array Value),k≤tl xs∧i=.int .i64 k∧qs.length=k+tl ys∧Limb qs∧val qs=vf X k*val Y∧Wr w1 wr w'.heap.size cur' 68∧cur'.size=tl xs+tl ys∧At cur' .u32 0 (qs ++ (List.replicate (tl xs+tl ys) 0).drop (k+tl ys))) (fun i _=>tl xs - (intOf i).toNat)
  case atStart =>
   refine ⟨0,List.replicate (tl ys) 0,cur,Nat.zero_le _,rfl,by simp,al3 _,by rw [an6,vf,Int.zero_mul],Wr.refl HH.out,HS.out,?_⟩
   have e:List.replicate (tl ys) (0:Int) ++ (List.replicate (tl xs+tl ys) 0).drop (0+tl ys)=List.replicate (tl xs+tl ys) 0:=by
    rw [List.drop_replicate,List.replicate_append_replicate]
    congr 1
    omega
   rw [e]
   exact HA.out
  case round =>
   obtain ⟨k,qs,cur',hk,rfl,hql,hq,hval,hwr,hcs,hat⟩:=hrel
   have HQL:=hide hql
   have HQ:=hide hq
   have HV:=hide hval
   have HW:=hide hwr
   have HC:=hide hcs
   have HT:=hide hat
   clear hql hq hval hwr hcs hat
   by_cases hlt:k<tl xs
   ·have sx' := HW.out.sl (Nat.le_refl _) hb1 rfl sx
    obtain ⟨b,off,rfl,hcx⟩:=sx'.cells (by have:=HX.out;omega)
    have cx:=hcx k (by have:=HX.out;omega)
    have bx:=aah LX.out k
    obtain ⟨x,hxk⟩:∃ x,X.getD k 0=x:=⟨_,rfl⟩
    rw [hxk] at cx bx
    have HXK:=hide hxk
    have esp:qs=qs.take k ++ qs.drop k:=(List.take_append_drop k qs).symm
    have hat2:At cur' .u32 0 (qs.take k ++ qs.drop k ++ (List.replicate (tl xs+tl ys) 0).drop (k+tl ys)):=by rw [←esp];exact HT.out
    have htk:(qs.take k).length=k:=by have:=HQL.out;rw [List.length_take];omega
    have hdk:(qs.drop k).length=tl ys:=by have:=HQL.out;rw [List.length_drop];omega
    have hmid:=aig hat2
    rw [htk] at hmid
    have kt:=hide (aif w' wr w'.heap.size k (tl ys) (tl xs+tl ys - k) c2 cur' (qs.drop k) Y a2 x bx HW.out.here hmid (ag9 HQ.out k) hdk (by omega) (hb1.trans (HW.out.below (Nat.le_refl _))) (Nat.le_refl _) sy)
    have H2:=hide hat2
    have HTK:=hide htk
    have HDK:=hide hdk
    clear hxk esp hat2 htk hdk hmid sx' hcx
    go_wp2_with fail
    refine (kt.out).mono ?_
    rintro e w2 ⟨rs,c,cur2,rfl,hc,hv,hr,hrl,hwr2,hcs2,hat3,hout⟩
    have hat4:=ahb H2.out (by rw [HTK.out];exact hat3) (by rw [hrl,HDK.out]) (by rw [HTK.out,HDK.out];exact hout)
    have hl2:(qs.take k ++ rs).length=k+tl ys:=by rw [List.length_append,HTK.out,hrl]
    have hcell:=hat4.cell hwr2.here (k+tl ys) (by rw [List.length_append,hl2];simp;omega)
    rw [Nat.zero_add] at hcell
    generalize (qs.take k ++ rs ++ (List.replicate (tl xs+tl ys) (0:Int)).drop (k+tl ys)).getD (k+tl ys) 0=old at hcell
    have hfree:=hwr2.free (k+tl ys)
    have hat5:=hat4.set (k+tl ys) c
    rw [aa3 _ _ _ c hl2 (by simp;omega),Nat.zero_add] at hat5
    have H5:=hide hat5
    have HW2:=hide ((HW.out.trans hwr2).set (k+tl ys) (.int .u32 c))
    have HL2:=hide hl2
    have HC2:=hide (hcs2.trans HC.out)
    have HR:=hide hr
    have HV2:=hide (aty (X:=X) (Y:=Y) (i:=k) (by have:=HQL.out;omega) HXK.out HV.out (by rw [hrl];exact hv))
    clear hat4 hat5 hl2 hwr2 hcs2 hr hrl hat3 hout hv
    go_wp2
    go_roundw
    case rel=>exact ⟨k+1,qs.take k ++ rs ++ [c],_,by omega,by go_num,by have:=HL2.out;simp at this ⊢;omega,aan.2 ⟨aan.2 ⟨aai HQ.out k,HR.out⟩,aag.2 ⟨hc,aaf⟩⟩,HV2.out,HW2.out,by simpa using HC2.out,by rw [show k+1+tl ys=k+tl ys+1 by omega];exact H5.out⟩
    case measure=>simp [intOf];omega
   ·have hkn:k=tl xs:=by omega
    subst hkn
    have hat2:=HT.out
    rw [List.drop_of_length_le (by simp),List.append_nil] at hat2
    have how:Ow w'.heap.size wr (.slice (some ⟨w'.heap.size,0,none⟩) (tl xs+tl ys) (tl xs+tl ys)) qs:=by
     have:=HQL.out
     exact ⟨_,tl xs+tl ys,by rw [this],by omega,by unfold maxLen;omega,HQ.out,.inr ⟨_,0,_,rfl,Nat.le_refl _,HW.out.here,by rw [HC.out];omega,hat2⟩⟩
    have hbel:Below w'.heap.size w' wr:=hb1.trans (HW.out.below (Nat.le_refl _))
    have his:=how.is_cut (x:=val xs*val ys) (by rw [HV.out,aa8 X _ (by have:=HX.out;omega),VX.out,VY.out])
    clear hat2
    go_wp2_with fail
    refine (aam _ _ _ _ _ how.sl).mono ?_
    rintro e w2 ⟨rfl,rfl⟩
    go_wp2
    go_ret
    exact ⟨_,rfl,his,hbel⟩
end Lm
end Go.Proofs.YtgclhjjmleiggaaGreatDoor
namespace Go.Proofs.YtgclhjjmleiggaaGreatDoor
namespace Lm
open Go.RowKit
def Got (w:World) (ao:Option Addr) (cap:Nat) (rs:List Int) (x:Int):Prop:=Sl w (.slice ao rs.length cap) rs∧Canon rs∧val rs=x
theorem Got.sl {w:World} {ao:Option Addr} {cap:Nat} {rs:List Int} {x:Int} (h:Got w ao cap rs x):Sl w (.slice ao rs.length cap) rs:=h.1
theorem Got.canon {w:World} {ao:Option Addr} {cap:Nat} {rs:List Int} {x:Int} (h:Got w ao cap rs x):Canon rs:=h.2.1
theorem Got.val {w:World} {ao:Option Addr} {cap:Nat} {rs:List Int} {x:Int} (h:Got w ao cap rs x):Lm.val rs=x:=h.2.2
theorem Got.below {w w' : World} {ao:Option Addr} {cap:Nat} {rs:List Int} {x:Int} (h:Got w ao cap rs x) (hb:Below w.heap.size w w'):Got w' ao cap rs x:=⟨h.1.below hb,h.2⟩
theorem Is.got {B:Nat} {w:World} {v:Value} {x:Int} (h:Is B w v x):∃ ao cap rs,v=.slice ao rs.length cap∧Got w ao cap rs x:=by
 obtain ⟨rs,ho,hc,hv⟩:=h
 obtain ⟨ao,cap,rfl,h1,h2,h3,h4⟩:=ho.sl
 exact ⟨ao,cap,rs,rfl,⟨ao,cap,rfl,h1,h2,h3,h4⟩,hc,hv⟩
theorem aa9 {rs:List Int} (h:Canon rs) {m:Nat} (hv:val rs<pw m):rs.length≤m:=by
 apply Classical.byContradiction
 intro hn
 have h1:=abt h (by intro e;subst e;simp at hn)
 have h2:=abf (m:=m) (n:=rs.length - 1) (by omega)
 omega
theorem ahc {xs:List Int} (h:Limb xs) {m:Nat} (hm:xs.length≤m):val xs<pw m:=by
 have:=(aab h).2
 have:=abf hm
 omega
theorem alo {xs ys rs:List Int} (hx:Limb xs) (hy:Limb ys) (hr:Canon rs) (hv:val rs=val xs+val ys):rs.length≤xs.length+ys.length+1:=by
 apply aa9 hr
 have a1:=ahc hx (m:=xs.length+ys.length) (by omega)
 have a2:=ahc hy (m:=xs.length+ys.length) (by omega)
 rw [hv,pw]
 have:=aaw (xs.length+ys.length)
 omega
theorem alp {xs ys rs:List Int} (hx:Limb xs) (hy:Limb ys) (hr:Canon rs) (hv:val rs=val xs*val ys):rs.length≤xs.length+ys.length:=by
 apply aa9 hr
 have a1:=aab hx
 have a2:=aab hy
 rw [hv,ada]
 have h1:val xs*val ys≤val xs*pw ys.length:=Int.mul_le_mul_of_nonneg_left (by omega) a1.1
 have h2:val xs*pw ys.length<pw xs.length*pw ys.length:=Int.mul_lt_mul_of_pos_right a1.2 (by have:=aaw ys.length;omega)
 omega
theorem ads {rs xs:List Int} (hx:Limb xs) (hr:Canon rs) (hv:val rs≤val xs):rs.length≤xs.length:=by
 apply aa9 hr
 have:=(aab hx).2
 omega
theorem awr (w:World) (a1 a2:Option Addr) (n1 n2 c1 c2:Nat) (xs ys:List Int) (hx:Sl w (.slice a1 n1 c1) xs) (hy:Sl w (.slice a2 n2 c2) ys) (hm1:xs.length≤1000000000) (hm2:ys.length≤1000000000) :
  Calls Tryz.prog 36 #[.slice a1 n1 c1,.slice a2 n2 c2] w fun e w'=>∃ ao cap rs,e=.returned (.slice ao rs.length cap)∧Got w' ao cap rs (val xs+val ys)∧rs.length≤xs.length+ys.length+1∧Below w.heap.size w w' := by
 refine (ali w a1 a2 n1 n2 c1 c2 xs ys hx hy hm1 hm2).mono ?_
 rintro e w' ⟨v,rfl,hi,hb⟩
 obtain ⟨ao,cap,rs,rfl,hg⟩:=hi.got
 exact ⟨ao,cap,rs,rfl,hg,alo hx.parts.2.2.2 hy.parts.2.2.2 hg.canon hg.val,hb⟩
theorem aws (w:World) (a1 a2:Option Addr) (n1 n2 c1 c2:Nat) (xs ys:List Int) (hx:Sl w (.slice a1 n1 c1) xs) (hy:Sl w (.slice a2 n2 c2) ys) (hm1:xs.length≤500000000) (hm2:ys.length≤500000000) :
  Calls Tryz.prog 38 #[.slice a1 n1 c1,.slice a2 n2 c2] w fun e w'=>∃ ao cap rs,e=.returned (.slice ao rs.length cap)∧Got w' ao cap rs (val xs*val ys)∧rs.length≤xs.length+ys.length∧Below w.heap.size w w' := by
 refine (aln w a1 a2 n1 n2 c1 c2 xs ys hx hy hm1 hm2).mono ?_
 rintro e w' ⟨v,rfl,hi,hb⟩
 obtain ⟨ao,cap,rs,rfl,hg⟩:=hi.got
 exact ⟨ao,cap,rs,rfl,hg,alp hx.parts.2.2.2 hy.parts.2.2.2 hg.canon hg.val,hb⟩
theorem ati (w:World) (a1 a2:Option Addr) (n1 n2 c1 c2:Nat) (xs ys:List Int) (hx:Sl w (.slice a1 n1 c1) xs) (hy:Sl w (.slice a2 n2 c2) ys) (hm1:xs.length≤1000000000) (hge:val ys≤val xs) :
  Calls Tryz.prog 37 #[.slice a1 n1 c1,.slice a2 n2 c2] w fun e w'=>∃ ao cap rs,e=.returned (.tuple #[.slice ao rs.length cap,.bool true])∧Got w' ao cap rs (val xs - val ys)∧rs.length≤xs.length∧Below w.heap.size w w' := by
 refine (alk w a1 a2 n1 n2 c1 c2 xs ys hx hy hm1 hge).mono ?_
 rintro e w' ⟨v,rfl,hi,hb⟩
 obtain ⟨ao,cap,rs,rfl,hg⟩:=hi.got
 have:=(aab hy.parts.2.2.2).1
 exact ⟨ao,cap,rs,rfl,hg,ads hx.parts.2.2.2 hg.canon (by rw [hg.val];omega),hb⟩
theorem avl (w:World) (ao:Option Addr) (n cap:Nat) (zs:List Int) (h:Sl w (.slice ao n cap) zs) (hz:zs.length≤1000000000) :
  Calls Tryz.prog 77 #[.slice ao n cap] w fun e w'=>∃ ao cap rs,e=.returned (.slice ao rs.length cap)∧Got w' ao cap rs (val zs)∧rs.length≤zs.length∧Below w.heap.size w w' := by
 refine (aco w ao n cap zs h hz).mono ?_
 rintro e w' ⟨v,rfl,ho,hb⟩
 obtain ⟨ao',cap',rs,rfl,hg⟩:=Is.got (B:=w.heap.size) ⟨_,ho,aa2 h.parts.2.2.2,aad zs⟩
 exact ⟨ao',cap',rs,rfl,hg,ads h.parts.2.2.2 hg.canon (by rw [hg.val];omega),hb⟩
theorem aih (w:World):Sl w (.slice none 0 0) []:=⟨none,0,rfl,Nat.le_refl _,by simp [maxLen],aaf,.inl rfl⟩
end Lm
end Go.Proofs.YtgclhjjmleiggaaGreatDoor
namespace Go.Proofs.YtgclhjjmleiggaaGreatDoor
namespace Lm
open Go.RowKit
def sg (ng:Bool) (x:Int):Int:=if ng then -x else x
def Wh (w:World) (ng:Bool) (ao:Option Addr) (cap:Nat) (rs:List Int) (z:Int):Prop:=Got w ao cap rs (z.natAbs:Int)∧ng=decide (z<0)
theorem Wh.sl {w:World} {ng:Bool} {ao:Option Addr} {cap:Nat} {rs:List Int} {z:Int} (h:Wh w ng ao cap rs z):Sl w (.slice ao rs.length cap) rs:=h.1.sl
theorem Wh.below {w w' : World} {ng:Bool} {ao:Option Addr} {cap:Nat} {rs:List Int} {z:Int} (h:Wh w ng ao cap rs z) (hb:Below w.heap.size w w'):Wh w' ng ao cap rs z:=⟨h.1.below hb,h.2⟩
theorem Wh.worth {w:World} {ng:Bool} {ao:Option Addr} {cap:Nat} {rs:List Int} {z:Int} (h:Wh w ng ao cap rs z):sg ng (Lm.val rs)=z:=by
 rw [h.1.val,h.2,sg]
 by_cases hz:z<0
 ·simp [hz];omega
 ·simp [hz];omega
theorem Wh.of {w:World} {ao:Option Addr} {cap:Nat} {rs:List Int} {x:Int} (ng:Bool) (h:Got w ao cap rs x):Wh w (ng && decide (0<rs.length)) ao cap rs (sg ng x):=by
 have h0:0≤x:=by rw [←h.val];exact (aab h.canon.1).1
 have hz:=ad4 h.canon
 rw [h.val] at hz
 have hl:rs = []↔rs.length=0:=List.length_eq_zero_iff.symm
 cases ng with
 | false =>
  refine ⟨?_,?_⟩
  ·have e:((sg false x).natAbs:Int)=x:=by simp [sg];omega
   rw [e];exact h
  ·simp [sg];omega
 | true =>
  refine ⟨?_,?_⟩
  ·have e:((sg true x).natAbs:Int)=x:=by simp [sg];omega
   rw [e];exact h
  ·have e3:(0<rs.length)↔(sg true x<0):=by
    simp only [sg,if_true]
    constructor
    ·intro h1
     have:x≠0:=fun h2=>by have:=hl.1 (hz.1 h2);omega
     omega
    ·intro h1
     have:rs.length≠0:=fun h2=>by have:=hz.2 (hl.2 h2);omega
     omega
   rw [Bool.true_and]
   exact decide_eq_decide.2 e3
set_option maxRecDepth 20000 in
set_option maxHeartbeats 400000 in
theorem al6 (w:World) (ng:Bool) (ao:Option Addr) (n cap:Nat) (hn:n≤1000000000) :
  Calls Tryz.prog 35 #[.bool ng,.slice ao n cap] w fun e w'=>e=.returned (.agg #[.bool (ng && decide (0<n)),.slice ao n cap])∧Below w.heap.size w w' := by
 cases ng with
 | false =>
  go_enter Tryz.func35,Tryz.ntmps35
  go_wp2
  refine bodyPost_ret (v:=.agg #[.bool false,.slice ao n cap]) (by simp [results,Tryz.results35,go_sem]) rfl ⟨by simp,?_⟩
  exact (Below.refl _ _).alloc (Nat.le_refl _) _
 | true =>
  by_cases h0:0<n
  ·have h1:(0:Int)<(n:Int):=by omega
   have h2:Hid (decide (0<n)=true):=decide_eq_true h0
   go_enter Tryz.func35,Tryz.ntmps35
   go_wp2
   refine bodyPost_ret (v:=.agg #[.bool true,.slice ao n cap]) (by simp [results,Tryz.results35,go_sem]) rfl ⟨by rw [h2.out];rfl,?_⟩
   exact (Below.refl _ _).alloc (Nat.le_refl _) _
  ·have h1:¬ (0:Int)<(n:Int):=by omega
   go_enter Tryz.func35,Tryz.ntmps35
   go_wp2
   refine bodyPost_ret (v:=.agg #[.bool false,.slice ao n cap]) (by simp [results,Tryz.results35,go_sem]) rfl ⟨by simp,?_⟩
   exact (Below.refl _ _).alloc (Nat.le_refl _) _
theorem aat (w:World) (ng:Bool) (ao:Option Addr) (cap:Nat) (rs:List Int) (x:Int) (h:Got w ao cap rs x) (hn:rs.length≤1000000000) :
  Calls Tryz.prog 35 #[.bool ng,.slice ao rs.length cap] w fun e w'=>∃ ng',e=.returned (.agg #[.bool ng',.slice ao rs.length cap])∧Wh w' ng' ao cap rs (sg ng x)∧Below w.heap.size w w' := by
 refine (al6 w ng ao rs.length cap hn).mono ?_
 rintro e w' ⟨rfl,hb⟩
 exact ⟨_,rfl,Wh.of ng (h.below hb),hb⟩
def Box (w:World) (g:Nat) (ng:Bool) (v:Value):Prop:=w.heap[g]? = some (.cells #[.bool ng,v] 33 (0,0))
theorem Box.below {w w' : World} {g:Nat} {ng:Bool} {v:Value} (h:Box w g ng v) (hb:Below w.heap.size w w'):Box w' g ng v:=(hb.block g (aaa h)).trans h
theorem Box.facts {w:World} {g:Nat} {ng:Bool} {v:Value} (h:Box w g ng v):w.cell? ⟨g,0,none⟩ = some (.bool ng)∧w.cell? ⟨g,1,none⟩ = some v∧w.frozen? ⟨g,0,none⟩ = false∧w.frozen? ⟨g,1,none⟩ = false :=
 ⟨by rw [cell_of_row _ _ _ _ _ (0,0) h];rfl,by rw [cell_of_row _ _ _ _ _ (0,0) h];rfl,frozen_of_row _ _ _ _ _ h,frozen_of_row _ _ _ _ _ h⟩
theorem Box.set {w:World} {g:Nat} {ng:Bool} {v:Value} (h:Box w g ng v) (b:Bool) (u:Value):Box ((w.setCell ⟨g,0,none⟩ (.bool b)).setCell ⟨g,1,none⟩ u) g b u:=by
 have h1:=heap_setCell_same w g 0 _ _ (.bool b) h
 have h2:=heap_setCell_same _ g 1 _ _ u h1
 exact h2
theorem Sl.setCell {w:World} {v:Value} {zs:List Int} (h:Sl w v zs) {p:Addr} {u0:Value} (hp:w.cell? p=some u0) (hne:∀ z,u0≠.int .u32 z) (u:Value):Sl (w.setCell p u) v zs:=by
 obtain ⟨ao,cap,rfl,h1,h2,h3,h4⟩:=h
 refine ⟨ao,cap,rfl,h1,h2,h3,?_⟩
 rcases h4 with h4 | ⟨b,off,rfl,hc⟩
 ·exact .inl h4
 ·refine .inr ⟨b,off,rfl,fun i hi=>?_⟩
  have hd:p≠⟨b,off+i,none⟩:=by
   intro e
   have h5:=hc i hi
   rw [←e,hp] at h5
   exact hne _ (Option.some.inj h5)
  rw [World.cell?_setCell_other _ _ _ _ hd]
  exact hc i hi
theorem Box.sl {w:World} {g:Nat} {ng:Bool} {ao:Option Addr} {n cap:Nat} (h:Box w g ng (.slice ao n cap)) (b:Bool) (u:Value) {v:Value} {zs:List Int} (hs:Sl w v zs):Sl ((w.setCell ⟨g,0,none⟩ (.bool b)).setCell ⟨g,1,none⟩ u) v zs:=by
 refine (hs.setCell h.facts.1 (fun z=>by simp) _).setCell (u0:=.slice ao n cap) ?_ (fun z=>by simp) _
 rw [World.cell?_setCell_other _ _ _ _ (by simp)]
 exact h.facts.2.1
theorem Box.wh {w:World} {g:Nat} {ng:Bool} {ao:Option Addr} {n cap:Nat} (h:Box w g ng (.slice ao n cap)) (b:Bool) (u:Value) {nz:Bool} {az:Option Addr} {cz:Nat} {rs:List Int} {z:Int} (hs:Wh w nz az cz rs z):Wh ((w.setCell ⟨g,0,none⟩ (.bool b)).setCell ⟨g,1,none⟩ u) nz az cz rs z :=
 ⟨⟨h.sl b u hs.1.1,hs.1.2⟩,hs.2⟩
theorem aal {B:Nat} {w w1:World} {g:Nat} (hb:Below B w w1) (hg:B≤g) (b u:Value):Below B w ((w1.setCell ⟨g,0,none⟩ b).setCell ⟨g,1,none⟩ u):=(hb.setCell hg _).setCell hg _
theorem boxed (w:World) (ng:Bool) (v:Value):Box (w.alloc (.cells #[.bool ng,v] 33)) w.heap.size ng v∧Below w.heap.size w (w.alloc (.cells #[.bool ng,v] 33))∧(w.alloc (.cells #[.bool ng,v] 33)).heap.size=w.heap.size+1 :=
 ⟨heap_alloc_new w _,(Below.refl _ _).alloc (Nat.le_refl _) _,by simp⟩
theorem acl (w:World) (ng:Bool) (v:Value):∃ w0:World,(w.alloc (.cells #[.bool ng,v] 33)).alloc (.cells #[.bool false,.slice none 0 0] 33)=w0∧Box w0 w.heap.size ng v∧Box w0 (w.heap.size+1) false (.slice none 0 0)∧Below w.heap.size w w0∧w0.heap.size=w.heap.size+2:=by
 have h1:=boxed w ng v
 have h2:=boxed (w.alloc (.cells #[.bool ng,v] 33)) false (.slice none 0 0)
 rw [h1.2.2] at h2
 refine ⟨_,rfl,h1.1.below (by rw [h1.2.2];exact h2.2.1),h2.1,h1.2.1.trans (h2.2.1.mono (by omega)),h2.2.2⟩
set_option maxRecDepth 20000 in
set_option maxHeartbeats 400000 in
theorem atz (w:World) (ng:Bool) (ao:Option Addr) (n cap:Nat) (zs:List Int) (h:Sl w (.slice ao n cap) zs) (hz:zs.length≤1000000000) :
  Calls Tryz.prog 62 #[.agg #[.bool ng,.slice ao n cap]] w fun e w'=>∃ ng' ao cap rs,e=.returned (.agg #[.bool ng',.slice ao rs.length cap])∧Wh w' ng' ao cap rs (sg ng (val zs))∧rs.length≤zs.length∧Below w.heap.size w w' := by
 obtain ⟨w0,e0,bx,br,hb0,hs0⟩:=acl w ng (.slice ao n cap)
 have E0:=hide e0
 have HS:=hide hs0
 have h0:=h.below hb0
 clear e0 hs0
 go_enter Tryz.func62,Tryz.ntmps62
 go_wp2_with fail
 rw [E0.out]
 obtain ⟨c0,c1,f0,f1⟩:=bx.facts
 obtain ⟨d0,d1,g0,g1⟩:=br.facts
 go_region_held3 (fun w'=>w'.cell? ⟨w.heap.size,0,none⟩ = some (.bool ng)∧w'.cell? ⟨w.heap.size,1,none⟩ = some (.slice ao n cap)) (go_keep) (first
  | (go_at_call 77;refine (avl _ _ _ _ zs (h0.below (by repeat (first | exact Below.refl _ _ | refine Below.drew ?_))) hz).mono ?_;rintro e w1 ⟨p1,q1,r1,rfl,G1,l1,hb1⟩;have hb1' : Below w0.heap.size w0 w1:=(show Below w0.heap.size w0 _ by repeat (first | exact Below.refl _ _ | refine Below.drew ?_)).trans hb1;have bx1:=bx.below hb1';have br1:=br.below hb1';obtain ⟨i0,i1,j0,j1⟩:=bx1.facts)
  | (go_at_call 35;refine (aat _ _ _ _ r1 _ (G1.below (by repeat (first | exact Below.refl _ _ | refine Below.drew ?_))) (by omega)).mono ?_;rintro e w2 ⟨ng2,rfl,G2,hb2⟩;have hb2' : Below w1.heap.size w1 w2:=(show Below w1.heap.size w1 _ by repeat (first | exact Below.refl _ _ | refine Below.drew ?_)).trans hb2;have bx2:=bx1.below hb2';have br2:=br1.below hb2';obtain ⟨k0,k1,m0,m1⟩:=br2.facts;obtain ⟨o0,o1,t0,t1⟩:=bx2.facts))
 all_goals
  have X:=hide (br2.set ng2 (.slice p1 r1.length q1)).facts
  have Y:=hide (br2.wh ng2 (.slice p1 r1.length q1) G2)
  have Z:=hide (aal (hb0.trans ((hb1'.trans (hb2'.mono hb1'.size)).mono hb0.size)) (Nat.le_succ _) (.bool ng2) (.slice p1 r1.length q1))
  clear k0 k1 m0 m1 o0 o1 t0 t1 i0 i1 j0 j1 c0 c1 f0 f1 d0 d1 g0 g1
  go_wp2
  refine bodyPost_ret (v:=.agg #[.bool ng2,.slice p1 r1.length q1]) ?_ rfl ⟨ng2,p1,q1,r1,rfl,Y.out,l1,Z.out⟩
  simp [results,Tryz.results62,go_sem,X.out.1,X.out.2.1]
end Lm
end Go.Proofs.YtgclhjjmleiggaaGreatDoor
namespace Go.Proofs.YtgclhjjmleiggaaGreatDoor
namespace Lm
open Go.RowKit
theorem aoi (ng:Bool) (x:Int):sg (!ng) x = - sg ng x:=by cases ng <;> simp [sg]
theorem aii (w:World) (ng:Bool) (v:Value):∃ w0:World,w.alloc (.cells #[.bool ng,v] 33)=w0∧Box w0 w.heap.size ng v∧Below w.heap.size w w0∧w0.heap.size=w.heap.size+1 :=
 ⟨_,rfl,(boxed w ng v).1,(boxed w ng v).2.1,(boxed w ng v).2.2⟩
theorem aoj (w:World) (nx:Bool) (vx:Value) (ny:Bool) (vy:Value):∃ w0:World,(w.alloc (.cells #[.bool nx,vx] 33)).alloc (.cells #[.bool ny,vy] 33)=w0∧Box w0 w.heap.size nx vx∧Box w0 (w.heap.size+1) ny vy∧Below w.heap.size w w0∧w0.heap.size=w.heap.size+2:=by
 have h1:=boxed w nx vx
 have h2:=boxed (w.alloc (.cells #[.bool nx,vx] 33)) ny vy
 rw [h1.2.2] at h2
 refine ⟨_,rfl,h1.1.below (by rw [h1.2.2];exact h2.2.1),h2.1,h1.2.1.trans (h2.2.1.mono (by omega)),h2.2.2⟩
theorem adt (w:World) (nx:Bool) (vx:Value) (ny:Bool) (vy:Value):∃ w0:World,((w.alloc (.cells #[.bool nx,vx] 33)).alloc (.cells #[.bool ny,vy] 33)).alloc (.cells #[.bool false,.slice none 0 0] 33)=w0∧Box w0 w.heap.size nx vx∧Box w0 (w.heap.size+1) ny vy∧Box w0 (w.heap.size+1+1) false (.slice none 0 0)∧Below w.heap.size w w0∧w0.heap.size=w.heap.size+3:=by
 obtain ⟨w2,e2,b1,b2,hb,hs⟩:=aoj w nx vx ny vy
 have h2:=boxed w2 false (.slice none 0 0)
 rw [e2]
 refine ⟨_,rfl,b1.below h2.2.1,b2.below h2.2.1,?_,hb.trans (h2.2.1.mono (by omega)),by rw [h2.2.2,hs]⟩
 have h3:=h2.1
 rw [hs] at h3
 exact h3
set_option maxRecDepth 20000 in
set_option maxHeartbeats 400000 in
theorem aok (w:World) (ng:Bool) (ao:Option Addr) (n cap:Nat) (zs:List Int) (h:Sl w (.slice ao n cap) zs) (hz:zs.length≤1000000000) :
  Calls Tryz.prog 126 #[.agg #[.bool ng,.slice ao n cap]] w fun e w'=>e=.returned (.int .i64 (Int.sign (sg ng (val zs))))∧Below w.heap.size w w' := by
 obtain ⟨w0,e0,bx,hb0,hs0⟩:=aii w ng (.slice ao n cap)
 have E0:=hide e0
 have h0:=h.below hb0
 have hv:=aab h.parts.2.2.2
 clear e0 hs0
 go_enter Tryz.func126,Tryz.ntmps126
 go_wp2_with fail
 rw [E0.out]
 obtain ⟨c0,c1,f0,f1⟩:=bx.facts
 refine (aie _ _ _ _ zs h0 hz).mono ?_
 rintro e w1 ⟨l,rfl,t,rfl⟩
 by_cases hz0:val zs=0
 ·have hl:l=0:=aff (by rw [←hz0];exact t)
  subst hl
  have R:Hid (Int.sign (sg ng (val zs))=0):=by show _ = _;rw [hz0];cases ng <;> simp [sg]
  clear t
  go_wp2
  go_ret
  exact ⟨ace R.out.symm,hb0⟩
 ·have hl:((l:Int) == 0)=false:=by
   have:=ad8 t (by omega)
   simp
   omega
  clear t
  cases ng with
  | false =>
   have R:Hid (Int.sign (sg false (val zs))=1):=by show _ = _;simp only [sg];exact Int.sign_eq_one_of_pos (by simp;omega)
   go_wp2
   go_ret
   exact ⟨ace R.out.symm,hb0⟩
  | true =>
   have R:Hid (Int.sign (sg true (val zs)) = -1):=by show _ = _;simp only [sg];exact Int.sign_eq_neg_one_of_neg (by simp;omega)
   go_wp2
   go_ret
   exact ⟨ace R.out.symm,hb0⟩
theorem aol (ng:Bool) (x y:Int):sg ng (x+y)=sg ng x+sg ng y:=by cases ng <;> simp [sg] <;> omega
theorem aom (ng:Bool) (x y:Int):sg ng (x - y)=sg ng x+sg (!ng) y:=by cases ng <;> simp [sg] <;> omega
theorem alq (ng:Bool) (x y:Int):sg (!ng) (y - x)=sg ng x+sg (!ng) y:=by cases ng <;> simp [sg] <;> omega
theorem aon (n1 n2:Bool) (x y:Int):sg (n1 != n2) (x*y)=sg n1 x*sg n2 y:=by cases n1 <;> cases n2 <;> simp [sg,Int.mul_neg,Int.neg_mul]
set_option maxRecDepth 20000 in
set_option maxHeartbeats 1000000 in
theorem aoo (w:World) (nx:Bool) (a1:Option Addr) (n1 c1:Nat) (xs:List Int) (hx:Sl w (.slice a1 n1 c1) xs) (a2:Option Addr) (n2 c2:Nat) (ys:List Int) (hy:Sl w (.slice a2 n2 c2) ys) (hm1:xs.length≤400000000) (hm2:ys.length≤400000000) :
  Calls Tryz.prog 25 #[.agg #[.bool nx,.slice a1 n1 c1],.bool nx,.slice a2 n2 c2] w fun e w'=>∃ ng' ao cap rs,e=.returned (.agg #[.bool ng',.slice ao rs.length cap])∧Wh w' ng' ao cap rs (sg nx (val xs)+sg nx (val ys))∧rs.length≤xs.length+ys.length+1∧Below w.heap.size w w' := by
 obtain ⟨w0,e0,bx,br,hb0,hs0⟩:=acl w nx (.slice a1 n1 c1)
 have E0:=hide e0
 have hx0:=hx.below hb0
 have hy0:=hy.below hb0
 clear e0 hs0
 go_enter Tryz.func25,Tryz.ntmps25
 go_wp2_with fail
 rw [E0.out]
 obtain ⟨ca,cb,cc,cd⟩:=bx.facts
 obtain ⟨da,db,dc,dd⟩:=br.facts
 refine (awr _ _ _ _ _ _ _ xs ys hx0 hy0 (by omega) (by omega)).mono ?_
 rintro e w1 ⟨p1,q1,r1,rfl,G1,l1,hb1⟩
 go_wp2_with fail
 refine (aat _ _ _ _ r1 _ G1 (by omega)).mono ?_
 rintro e w2 ⟨ng2,rfl,G2,hb2⟩
 have br2:=(br.below hb1).below hb2
 obtain ⟨ka,kb,kc,kd⟩:=br2.facts
 have X:=hide (br2.set ng2 (.slice p1 r1.length q1)).facts
 have Y:=hide (br2.wh ng2 (.slice p1 r1.length q1) G2)
 have Z:=hide (aal (hb0.trans ((hb1.trans (hb2.mono hb1.size)).mono hb0.size)) (Nat.le_succ _) (.bool ng2) (.slice p1 r1.length q1))
 skip
 go_wp2
 refine bodyPost_ret (v:=.agg #[.bool ng2,.slice p1 r1.length q1]) ?_ rfl ⟨ng2,p1,q1,r1,rfl,by rw [←aol];exact Y.out,by omega,Z.out⟩
 simp [results,Tryz.results25,go_sem,X.out.1,X.out.2.1]
set_option maxRecDepth 20000 in
set_option maxHeartbeats 1000000 in
theorem at0 (w:World) (nx:Bool) (a1:Option Addr) (n1 c1:Nat) (xs:List Int) (hx:Sl w (.slice a1 n1 c1) xs) (a2:Option Addr) (n2 c2:Nat) (ys:List Int) (hy:Sl w (.slice a2 n2 c2) ys) (hm1:xs.length≤400000000) (hm2:ys.length≤400000000) (hge:val ys≤val xs) :
  Calls Tryz.prog 25 #[.agg #[.bool nx,.slice a1 n1 c1],.bool (!nx),.slice a2 n2 c2] w fun e w'=>∃ ng' ao cap rs,e=.returned (.agg #[.bool ng',.slice ao rs.length cap])∧Wh w' ng' ao cap rs (sg nx (val xs)+sg (!nx) (val ys))∧rs.length≤xs.length+ys.length+1∧Below w.heap.size w w' := by
 obtain ⟨w0,e0,bx,br,hb0,hs0⟩:=acl w nx (.slice a1 n1 c1)
 have E0:=hide e0
 have hx0:=hx.below hb0
 have hy0:=hy.below hb0
 clear e0 hs0
 cases nx
 all_goals
  go_enter Tryz.func25,Tryz.ntmps25
  go_wp2_with fail
  rw [E0.out]
  obtain ⟨ca,cb,cc,cd⟩:=bx.facts
  obtain ⟨da,db,dc,dd⟩:=br.facts
  refine (ati _ _ _ _ _ _ _ xs ys hx0 hy0 (by omega) hge).mono ?_
  rintro e w1 ⟨p1,q1,r1,rfl,G1,l1,hb1⟩
  have bx1:=bx.below hb1
  obtain ⟨ia,ib,ic,id⟩:=bx1.facts
  go_wp2_with fail
  refine (aat _ _ _ _ r1 _ G1 (by omega)).mono ?_
  rintro e w2 ⟨ng2,rfl,G2,hb2⟩
  have br2:=(br.below hb1).below hb2
  obtain ⟨ka,kb,kc,kd⟩:=br2.facts
  have X:=hide (br2.set ng2 (.slice p1 r1.length q1)).facts
  have Y:=hide (br2.wh ng2 (.slice p1 r1.length q1) G2)
  have Z:=hide (aal (hb0.trans ((hb1.trans (hb2.mono hb1.size)).mono hb0.size)) (Nat.le_succ _) (.bool ng2) (.slice p1 r1.length q1))
  skip
  go_wp2
  refine bodyPost_ret (v:=.agg #[.bool ng2,.slice p1 r1.length q1]) ?_ rfl ⟨ng2,p1,q1,r1,rfl,by rw [←aom];exact Y.out,by omega,Z.out⟩
  simp [results,Tryz.results25,go_sem,X.out.1,X.out.2.1]
set_option maxRecDepth 20000 in
set_option maxHeartbeats 1000000 in
theorem at1 (w:World) (nx:Bool) (a1:Option Addr) (n1 c1:Nat) (xs:List Int) (hx:Sl w (.slice a1 n1 c1) xs) (a2:Option Addr) (n2 c2:Nat) (ys:List Int) (hy:Sl w (.slice a2 n2 c2) ys) (hm1:xs.length≤400000000) (hm2:ys.length≤400000000) (hlt:val xs<val ys) :
  Calls Tryz.prog 25 #[.agg #[.bool nx,.slice a1 n1 c1],.bool (!nx),.slice a2 n2 c2] w fun e w'=>∃ ng' ao cap rs,e=.returned (.agg #[.bool ng',.slice ao rs.length cap])∧Wh w' ng' ao cap rs (sg nx (val xs)+sg (!nx) (val ys))∧rs.length≤xs.length+ys.length+1∧Below w.heap.size w w' := by
 obtain ⟨w0,e0,bx,br,hb0,hs0⟩:=acl w nx (.slice a1 n1 c1)
 have E0:=hide e0
 have hx0:=hx.below hb0
 have hy0:=hy.below hb0
 clear e0 hs0
 cases nx
 all_goals
  go_enter Tryz.func25,Tryz.ntmps25
  go_wp2_with fail
  rw [E0.out]
  obtain ⟨ca,cb,cc,cd⟩:=bx.facts
  obtain ⟨da,db,dc,dd⟩:=br.facts
  refine (aob _ _ _ _ _ _ _ xs ys hx0 hy0 hlt).mono ?_
  rintro e w9 ⟨rfl,hb9⟩
  have hx9:=hx0.below hb9
  have hy9:=hy0.below hb9
  have bx9:=bx.below hb9
  have br9:=br.below hb9
  obtain ⟨ia,ib,ic,id⟩:=bx9.facts
  go_wp2_with fail
  refine (ati _ _ _ _ _ _ _ ys xs hy9 hx9 (by omega) (by omega)).mono ?_
  rintro e w1 ⟨p1,q1,r1,rfl,G1,l1,hb1⟩
  go_wp2_with fail
  refine (aat _ _ _ _ r1 _ G1 (by omega)).mono ?_
  rintro e w2 ⟨ng2,rfl,G2,hb2⟩
  have br2:=(br9.below hb1).below hb2
  obtain ⟨ka,kb,kc,kd⟩:=br2.facts
  have X:=hide (br2.set ng2 (.slice p1 r1.length q1)).facts
  have Y:=hide (br2.wh ng2 (.slice p1 r1.length q1) G2)
  have Z:=hide (aal (hb0.trans ((hb9.trans ((hb1.trans (hb2.mono hb1.size)).mono hb9.size)).mono hb0.size)) (Nat.le_succ _) (.bool ng2) (.slice p1 r1.length q1))
  skip
  go_wp2
  refine bodyPost_ret (v:=.agg #[.bool ng2,.slice p1 r1.length q1]) ?_ rfl ⟨ng2,p1,q1,r1,rfl,by rw [←alq];exact Y.out,by omega,Z.out⟩
  simp [results,Tryz.results25,go_sem,X.out.1,X.out.2.1]
theorem avm (w:World) (nx:Bool) (a1:Option Addr) (n1 c1:Nat) (xs:List Int) (hx:Sl w (.slice a1 n1 c1) xs) (ny:Bool) (a2:Option Addr) (n2 c2:Nat) (ys:List Int) (hy:Sl w (.slice a2 n2 c2) ys) (hm1:xs.length≤400000000) (hm2:ys.length≤400000000) :
  Calls Tryz.prog 25 #[.agg #[.bool nx,.slice a1 n1 c1],.bool ny,.slice a2 n2 c2] w fun e w'=>∃ ng' ao cap rs,e=.returned (.agg #[.bool ng',.slice ao rs.length cap])∧Wh w' ng' ao cap rs (sg nx (val xs)+sg ny (val ys))∧rs.length≤xs.length+ys.length+1∧Below w.heap.size w w' := by
 by_cases hn:ny=nx
 ·subst hn
  exact aoo w ny a1 n1 c1 xs hx a2 n2 c2 ys hy hm1 hm2
 ·have hn' : ny = !nx:=by cases nx <;> cases ny <;> simp_all
  subst hn'
  by_cases h:val ys≤val xs
  ·exact at0 w nx a1 n1 c1 xs hx a2 n2 c2 ys hy hm1 hm2 h
  ·exact at1 w nx a1 n1 c1 xs hx a2 n2 c2 ys hy hm1 hm2 (by omega)
end Lm
end Go.Proofs.YtgclhjjmleiggaaGreatDoor
namespace Go.Proofs.YtgclhjjmleiggaaGreatDoor
namespace Lm
open Go.RowKit
set_option maxRecDepth 20000 in
set_option maxHeartbeats 400000 in
theorem avn (w:World) (nx:Bool) (a1:Option Addr) (n1 c1:Nat) (xs:List Int) (hx:Sl w (.slice a1 n1 c1) xs) (ny:Bool) (a2:Option Addr) (n2 c2:Nat) (ys:List Int) (hy:Sl w (.slice a2 n2 c2) ys) (hm1:xs.length≤400000000) (hm2:ys.length≤400000000) :
  Calls Tryz.prog 16 #[.agg #[.bool nx,.slice a1 n1 c1],.agg #[.bool ny,.slice a2 n2 c2]] w fun e w'=>∃ ng' ao cap rs,e=.returned (.agg #[.bool ng',.slice ao rs.length cap])∧Wh w' ng' ao cap rs (sg nx (val xs)+sg ny (val ys))∧rs.length≤xs.length+ys.length+1∧Below w.heap.size w w' := by
 obtain ⟨w0,e0,bx,by',br,hb0,hs0⟩:=adt w nx (.slice a1 n1 c1) ny (.slice a2 n2 c2)
 have E0:=hide e0
 have hx0:=hx.below hb0
 have hy0:=hy.below hb0
 clear e0 hs0
 go_enter Tryz.func16,Tryz.ntmps16
 go_wp2_with fail
 rw [E0.out]
 obtain ⟨ca,cb,cc,cd⟩:=bx.facts
 obtain ⟨ea,eb,ec,ed⟩:=by'.facts
 obtain ⟨da,db,dc,dd⟩:=br.facts
 refine (avm _ nx _ _ _ xs hx0 ny _ _ _ ys hy0 hm1 hm2).mono ?_
 rintro e w1 ⟨ng2,p1,q1,r1,rfl,G2,l1,hb1⟩
 have br2:=br.below hb1
 obtain ⟨ka,kb,kc,kd⟩:=br2.facts
 have X:=hide (br2.set ng2 (.slice p1 r1.length q1)).facts
 have Y:=hide (br2.wh ng2 (.slice p1 r1.length q1) G2)
 have Z:=hide (aal (hb0.trans (hb1.mono hb0.size)) (Nat.le_add_right _ 2) (.bool ng2) (.slice p1 r1.length q1))
 skip
 go_wp2
 refine bodyPost_ret (v:=.agg #[.bool ng2,.slice p1 r1.length q1]) ?_ rfl ⟨ng2,p1,q1,r1,rfl,Y.out,by omega,Z.out⟩
 simp [results,Tryz.results16,go_sem,X.out.1,X.out.2.1]
end Lm
end Go.Proofs.YtgclhjjmleiggaaGreatDoor
namespace Go.Proofs.YtgclhjjmleiggaaGreatDoor
namespace Lm
open Go.RowKit
set_option maxRecDepth 20000 in
set_option maxHeartbeats 400000 in
theorem avo (w:World) (nx:Bool) (a1:Option Addr) (n1 c1:Nat) (xs:List Int) (hx:Sl w (.slice a1 n1 c1) xs) (ny:Bool) (a2:Option Addr) (n2 c2:Nat) (ys:List Int) (hy:Sl w (.slice a2 n2 c2) ys) (hm1:xs.length≤400000000) (hm2:ys.length≤400000000) :
  Calls Tryz.prog 26 #[.agg #[.bool nx,.slice a1 n1 c1],.agg #[.bool ny,.slice a2 n2 c2]] w fun e w'=>∃ ng' ao cap rs,e=.returned (.agg #[.bool ng',.slice ao rs.length cap])∧Wh w' ng' ao cap rs (sg nx (val xs)*sg ny (val ys))∧rs.length≤xs.length+ys.length∧Below w.heap.size w w' := by
 obtain ⟨w0,e0,bx,by',br,hb0,hs0⟩:=adt w nx (.slice a1 n1 c1) ny (.slice a2 n2 c2)
 have E0:=hide e0
 have hx0:=hx.below hb0
 have hy0:=hy.below hb0
 clear e0 hs0
 have q1' : (w.heap.size=w.heap.size+1+1)=False:=by simp;omega
 have q2' : (w.heap.size+1+1=w.heap.size)=False:=by simp;omega
 go_enter Tryz.func26,Tryz.ntmps26
 go_wp2_with fail
 rw [E0.out]
 obtain ⟨ca,cb,cc,cd⟩:=bx.facts
 obtain ⟨ea,eb,ec,ed⟩:=by'.facts
 obtain ⟨da,db,dc,dd⟩:=br.facts
 go_region_held3 (fun w'=>w'.cell? ⟨w.heap.size,0,none⟩ = some (.bool nx)∧w'.cell? ⟨w.heap.size,1,none⟩ = some (.slice a1 n1 c1)∧w'.cell? ⟨w.heap.size+1,0,none⟩ = some (.bool ny)∧w'.cell? ⟨w.heap.size+1,1,none⟩ = some (.slice a2 n2 c2)) (go_keep) (first
  | (go_at_call 38;refine (aws _ _ _ _ _ _ _ xs ys (hx0.below (by repeat (first | exact Below.refl _ _ | refine Below.drew ?_))) (hy0.below (by repeat (first | exact Below.refl _ _ | refine Below.drew ?_))) (by omega) (by omega)).mono ?_;rintro e w1 ⟨p1,q1,r1,rfl,G1,l1,hb1⟩;have hb1' : Below w0.heap.size w0 w1:=(show Below w0.heap.size w0 _ by repeat (first | exact Below.refl _ _ | refine Below.drew ?_)).trans hb1;have bx1:=bx.below hb1';obtain ⟨bx1a,bx1b,bx1c,bx1d⟩:=bx1.facts;have by1:=by'.below hb1';obtain ⟨by1a,by1b,by1c,by1d⟩:=by1.facts;have br1:=br.below hb1';obtain ⟨br1a,br1b,br1c,br1d⟩:=br1.facts)
  | (go_at_call 35;refine (aat _ _ _ _ r1 _ (G1.below (by repeat (first | exact Below.refl _ _ | refine Below.drew ?_))) (by omega)).mono ?_;rintro e w2 ⟨ng2,rfl,G2,hb2⟩;have hb2' : Below w1.heap.size w1 w2:=(show Below w1.heap.size w1 _ by repeat (first | exact Below.refl _ _ | refine Below.drew ?_)).trans hb2;have bx2:=bx1.below hb2';obtain ⟨bx2a,bx2b,bx2c,bx2d⟩:=bx2.facts;have by2:=by1.below hb2';obtain ⟨by2a,by2b,by2c,by2d⟩:=by2.facts;have br2:=br1.below hb2';obtain ⟨br2a,br2b,br2c,br2d⟩:=br2.facts))
 all_goals
  clear bx1a bx1b bx1c bx1d by1a by1b by1c by1d br1a br1b br1c br1d bx2a bx2b bx2c bx2d by2a by2b by2c by2d ca cb cc cd da db dc dd ea eb ec ed q1' q2'
  have X:=hide (br2.set ng2 (.slice p1 r1.length q1)).facts
  have Y:=hide (br2.wh ng2 (.slice p1 r1.length q1) G2)
  have Z:=hide (aal (hb0.trans ((hb1'.trans (hb2'.mono hb1'.size)).mono hb0.size)) (Nat.le_add_right _ 2) (.bool ng2) (.slice p1 r1.length q1))
  skip
  go_wp2
  refine bodyPost_ret (v:=.agg #[.bool ng2,.slice p1 r1.length q1]) ?_ rfl ⟨ng2,p1,q1,r1,rfl,by rw [←aon];exact Y.out,by omega,Z.out⟩
  simp [results,Tryz.results26,go_sem,X.out.1,X.out.2.1]
end Lm
end Go.Proofs.YtgclhjjmleiggaaGreatDoor
namespace Go.Proofs.YtgclhjjmleiggaaGreatDoor
namespace Lm
open Go.RowKit
theorem at2 {w:World} {n1 n2:Bool} {a1 a2:Option Addr} {c1 c2:Nat} {xs ys:List Int} {z1 z2:Int} (hx:Wh w n1 a1 c1 xs z1) (hy:Wh w n2 a2 c2 ys z2):(n1=n2→sameB xs ys=decide (z1=z2))∧(n1≠n2→decide (z1=z2)=false):=by
 have e1:=hx.1.val
 have e2:=hy.1.val
 have s1:=hx.2
 have s2:=hy.2
 constructor
 ·intro hn
  rw [s1,s2] at hn
  have hn' := decide_eq_decide.1 hn
  by_cases hz:z1=z2
  ·subst hz
   rw [ah5 (adg hx.1.canon hy.1.canon (by rw [e1,e2]))]
   simp
  ·simp only [hz,decide_false,sameB,decide_eq_false_iff_not]
   intro e
   rw [e,e2] at e1
   omega
 ·intro hn
  refine decide_eq_false fun hz=>hn ?_
  rw [s1,s2,hz]
set_option maxRecDepth 20000 in
set_option maxHeartbeats 400000 in
theorem aop (w:World) (n1 n2:Bool) (a1 a2:Option Addr) (c1 c2:Nat) (xs ys:List Int) (z1 z2:Int) (hx:Wh w n1 a1 c1 xs z1) (hy:Wh w n2 a2 c2 ys z2) :
  Calls Tryz.prog 9 #[.agg #[.bool n1,.slice a1 xs.length c1],.agg #[.bool n2,.slice a2 ys.length c2]] w fun e w'=>e=.returned (.bool (decide (z1=z2)))∧Below w.heap.size w w' := by
 obtain ⟨w0,e0,bx,by',hb0,hs0⟩:=aoj w n1 (.slice a1 xs.length c1) n2 (.slice a2 ys.length c2)
 have E0:=hide e0
 have hx0:=hx.sl.below hb0
 have hy0:=hy.sl.below hb0
 have SM:=hide (at2 hx hy)
 clear e0 hs0 hx hy
 by_cases hn:n1=n2
 ·subst hn
  have R:=hide (SM.out.1 rfl)
  go_enter Tryz.func9,Tryz.ntmps9
  go_wp2_with fail
  rw [E0.out]
  refine (ah7 _ _ _ _ _ _ _ xs ys hx0 hy0).mono ?_
  rintro e w1 ⟨rfl,hb1⟩
  rw [R.out]
  have Z:=hide (hb0.trans (hb1.mono hb0.size))
  go_wp2
  go_ret
  exact ⟨rfl,Z.out⟩
 ·have R:=hide (SM.out.2 hn)
  have hn' : n2 = !n1:=by cases n1 <;> cases n2 <;> simp_all
  subst hn'
  clear hn
  cases n1
  all_goals
   go_enter Tryz.func9,Tryz.ntmps9
   go_wp2
   go_ret
   exact ⟨by rw [R.out];rfl,E0.out ▸ hb0⟩
set_option maxRecDepth 20000 in
set_option maxHeartbeats 400000 in
theorem arb (w:World) (ng:Bool) (ao:Option Addr) (n cap:Nat) (hn:n≤35184372088832) :
  Calls Tryz.prog 12 #[.agg #[.bool ng,.slice ao n cap]] w fun e w'=>e=.returned (.int .i64 (1+(n:Int)))∧Below w.heap.size w w' := by
 obtain ⟨w0,e0,bx,hb0,hs0⟩:=aii w ng (.slice ao n cap)
 have E0:=hide e0
 clear e0 hs0
 go_enter Tryz.func12,Tryz.ntmps12
 go_wp2
 go_ret
 exact ⟨rfl,E0.out ▸ hb0⟩
theorem ahd {w:World} {v:Value} {x:Int} {B:Nat} (h:Is B w v x) (hx:x<18446744073709551616):∃ ao cap rs,v=.slice ao rs.length cap∧Got w ao cap rs x∧rs.length≤2:=by
 obtain ⟨ao,cap,rs,rfl,hg⟩:=h.got
 refine ⟨ao,cap,rs,rfl,hg,aa9 hg.canon ?_⟩
 rw [hg.val,show pw 2=18446744073709551616 from by decide]
 exact hx
end Lm
end Go.Proofs.YtgclhjjmleiggaaGreatDoor
namespace Go.Proofs.YtgclhjjmleiggaaGreatDoor
namespace Lm
open Go.RowKit
theorem aij {B:Nat} {w wr w1:World} {v v' : Value} {k:Nat} {ds:List Int} {z:Int} {o:Obj} (h:w1.ownsRow B 68 1 v' (k+1) (ds.map (Value.int .u32) ++ [.int .u32 z])) (hg:(wr.alloc o).grownBy w1 v.ownBlock) (hb:Below B w wr) (hB:B≤wr.heap.size) (hl:∀ j,v.ownBlock=some j→B≤j∧j<wr.heap.size) :
  w1.ownsRow B 68 1 v' (k+1) ((ds ++ [z]).map (Value.int .u32))∧Below B w w1:=by
 refine ⟨by simpa using h,((hb.alloc hB o).grown hg ?_ (fun j hj=>(hl j hj).1))⟩
 simp
 omega
theorem aoq {ls:List Int} {u x:Int} (h:val ls+pw ls.length*u=x):val (ls ++ [u % 4294967296])+pw (ls ++ [u % 4294967296]).length*(u / 4294967296)=x:=by
 rw [aba,List.length_append,List.length_singleton,pw,←h,Int.mul_comm 4294967296 (pw ls.length),Int.mul_assoc,Int.add_assoc,←Int.mul_add]
 congr 2
 omega
theorem atj {ls:List Int} {u:Int} (hu:0<u) (h0:u / 4294967296=0):tl (ls ++ [u % 4294967296])=(ls ++ [u % 4294967296]).length:=by
 have h1:(ls ++ [u % 4294967296]).getD ls.length 0=u % 4294967296:=by
  rw [List.getD_eq_getElem?_getD,List.getElem?_append_right (Nat.le_refl _)]
  simp
 have h2:=al4 (zs:=ls ++ [u % 4294967296]) (n:=ls.length) (by rw [h1];omega)
 have h3:=aaq (ls ++ [u % 4294967296])
 rw [List.length_append,List.length_singleton] at h3 ⊢
 omega
theorem aor {ls:List Int} {u:Int} (hl:Limb ls) (hu:0<u) (h:val ls+pw ls.length*u<18446744073709551616):ls.length≤1:=by
 apply Classical.byContradiction
 intro hn
 have h1:=(aab hl).1
 have h2:=abf (m:=2) (n:=ls.length) (by omega)
 rw [show pw 2=18446744073709551616 from by decide] at h2
 have h3:pw ls.length*1≤pw ls.length*u:=Int.mul_le_mul_of_nonneg_left (by omega) (by omega)
 omega
end Lm
end Go.Proofs.YtgclhjjmleiggaaGreatDoor
namespace Go.Proofs.YtgclhjjmleiggaaGreatDoor
namespace Lm
open Go.RowKit
structure Ag (w:World) (ng:Bool) (ao:Option Addr) (n cap:Nat) (xs:List Int) (z:Int):Prop where
 sl:Sl w (.slice ao n cap) xs
 worth:sg ng (val xs)=z
theorem Ag.below {w w' : World} {ng:Bool} {ao:Option Addr} {n cap:Nat} {xs:List Int} {z:Int} (h:Ag w ng ao n cap xs z) (hb:Below w.heap.size w w'):Ag w' ng ao n cap xs z:=⟨h.sl.below hb,h.worth⟩
theorem Wh.ag {w:World} {ng:Bool} {ao:Option Addr} {cap:Nat} {rs:List Int} {z:Int} (h:Wh w ng ao cap rs z):Ag w ng ao rs.length cap rs z:=⟨h.sl,h.worth⟩
theorem awt (w:World) (nx:Bool) (a1:Option Addr) (n1 c1:Nat) (xs:List Int) (x:Int) (hx:Ag w nx a1 n1 c1 xs x) (ny:Bool) (a2:Option Addr) (n2 c2:Nat) (ys:List Int) (y:Int) (hy:Ag w ny a2 n2 c2 ys y) (hm1:xs.length≤400000000) (hm2:ys.length≤400000000) :
  Calls Tryz.prog 16 #[.agg #[.bool nx,.slice a1 n1 c1],.agg #[.bool ny,.slice a2 n2 c2]] w fun e w'=>∃ ng' ao cap rs,e=.returned (.agg #[.bool ng',.slice ao rs.length cap])∧Wh w' ng' ao cap rs (x+y)∧rs.length≤xs.length+ys.length+1∧Below w.heap.size w w' := by
 have h:=avn w nx a1 n1 c1 xs hx.sl ny a2 n2 c2 ys hy.sl hm1 hm2
 rw [hx.worth,hy.worth] at h
 exact h
theorem awu (w:World) (nx:Bool) (a1:Option Addr) (n1 c1:Nat) (xs:List Int) (x:Int) (hx:Ag w nx a1 n1 c1 xs x) (ny:Bool) (a2:Option Addr) (n2 c2:Nat) (ys:List Int) (y:Int) (hy:Ag w ny a2 n2 c2 ys y) (hm1:xs.length≤400000000) (hm2:ys.length≤400000000) :
  Calls Tryz.prog 26 #[.agg #[.bool nx,.slice a1 n1 c1],.agg #[.bool ny,.slice a2 n2 c2]] w fun e w'=>∃ ng' ao cap rs,e=.returned (.agg #[.bool ng',.slice ao rs.length cap])∧Wh w' ng' ao cap rs (x*y)∧rs.length≤xs.length+ys.length∧Below w.heap.size w w' := by
 have h:=avo w nx a1 n1 c1 xs hx.sl ny a2 n2 c2 ys hy.sl hm1 hm2
 rw [hx.worth,hy.worth] at h
 exact h
theorem avp (w:World) (nx:Bool) (a1:Option Addr) (n1 c1:Nat) (xs:List Int) (x:Int) (hx:Ag w nx a1 n1 c1 xs x) (hm1:xs.length≤400000000) (k:Int) (hk:Int.sign x=k) :
  Calls Tryz.prog 126 #[.agg #[.bool nx,.slice a1 n1 c1]] w fun e w'=>e=.returned (.int .i64 k)∧Below w.heap.size w w' := by
 have h:=aok w nx a1 n1 c1 xs hx.sl (by omega)
 rw [hx.worth,hk] at h
 exact h
theorem avq (w:World) (n1 n2:Bool) (a1 a2:Option Addr) (c1 c2:Nat) (xs ys:List Int) (z1 z2:Int) (hx:Wh w n1 a1 c1 xs z1) (hy:Wh w n2 a2 c2 ys z2) (b:Bool) (hb:decide (z1=z2)=b) :
  Calls Tryz.prog 9 #[.agg #[.bool n1,.slice a1 xs.length c1],.agg #[.bool n2,.slice a2 ys.length c2]] w fun e w'=>e=.returned (.bool b)∧Below w.heap.size w w' := by
 have h:=aop w n1 n2 a1 a2 c1 c2 xs ys z1 z2 hx hy
 rw [hb] at h
 exact h
end Lm
end Go.Proofs.YtgclhjjmleiggaaGreatDoor
namespace Go.Proofs.YtgclhjjmleiggaaGreatDoor
namespace Lm
open Go Go.RowKit
def Has (P : Program) (f : FuncId) : Prop := (match P.funcs[f]? with | some fn => !(fn.name == "runtime.NumGoroutine") && fn.body.isSome | none => false) = true
theorem Has.enter {P:Program} {f:FuncId} (h:Has P f) (args:Array Value) (w:World):(callFunc f args).run P w=.ok (.enter f args) w:=by
 unfold Has at h
 cases hf:P.funcs[f]? with
 | none=>rw [hf] at h;simp at h
 | some fn =>
  rw [hf] at h
  simp only [Bool.and_eq_true,Bool.not_eq_true',beq_eq_false_iff_ne] at h
  obtain ⟨h1,h2⟩:=h
  have h3:fn.body≠none:=by intro hb;rw [hb] at h2;simp at h2
  simp [callFunc,hf,h1,h3]
theorem aa0 {P:Program} {dst:Option Tmp} {f:FuncId} {xs:Array Operand} {ats:Array TypeId} {ty:TypeId} {pos:String} {after:Array Edge} {guard:Option (Nat × Bool)} {a:Act} {w:World} {R:Value→World→Prop} (hf:Has P f) (args:Array Value) (hx:xs.map a.eval=args) (h:Calls P f args w fun e w'=>∃ v,e=.returned v∧R v w') :
  Does P { dst,op:=.call { callee:=.value (.func f),args:=xs,argTypes:=ats },type:=ty,pos,after,guard } a.eval w R:=by
 have e:execOp a.eval { dst,op:=.call { callee:=.value (.func f),args:=xs,argTypes:=ats },type:=ty,pos,after,guard } = callFunc f (#[] ++ xs.map a.eval ++ #[]):=rfl
 refine ⟨?_⟩
 unfold Turns
 rw [e,hf.enter]
 simpa [hx] using h
section
variable {P:Program} {dst:Option Tmp} {ty:TypeId} {pos:String} {after:Array Edge} {guard:Option (Nat × Bool)} {a:Act} {w:World} {R:Value→World→Prop}
theorem ahe {x:Operand} (h:R (a.eval x) w):Does P { dst,op:=.move x,type:=ty,pos,after,guard } a.eval w R:=⟨h⟩
theorem afh {x:Operand} (h:R (a.eval x) w):Does P { dst,op:=.assign x,type:=ty,pos,after,guard } a.eval w R:=⟨h⟩
theorem aos {c x y:Operand} {b:Bool} (hc:a.eval c=.bool b) (h:R (if b then a.eval x else a.eval y) w):Does P { dst,op:=.pick c x y,type:=ty,pos,after,guard } a.eval w R:=by
 refine ⟨?_⟩
 unfold Turns
 simp only [execOp,hc]
 cases b <;> simpa [asBool] using h
theorem acq {op:BinOp} {t t' : TypeId} {x y:Operand} {v:Value} (hg:(eqGuard op t x y (a.eval x) (a.eval y)).run P w=.ok () w) (hb:(binOp op t (a.eval x) (a.eval y)).run P w=.ok v w) (h:R v w):Does P { dst,op:=.binOp op t x y t',type:=ty,pos,after,guard } a.eval w R:=by
 refine ⟨?_⟩
 unfold Turns
 simp only [execOp]
 simp [hg,hb,h]
theorem at3 {op:UnOp} {t:TypeId} {x:Operand} {v:Value} (hb:(Op.unary op (a.eval x)).run P w=.ok v w) (h:R v w):Does P { dst,op:=.unOp op t x,type:=ty,pos,after,guard } a.eval w R:=by
 refine ⟨?_⟩
 unfold Turns
 simp only [execOp]
 simp [hb,h]
theorem abd {t:TypeId} {x:Operand} {v:Value} (hb:(Instr.loadAt t (a.eval x)).run P w=.ok v w) (h:R v w):Does P { dst,op:=.load t x,type:=ty,pos,after,guard } a.eval w R:=by
 refine ⟨?_⟩
 unfold Turns
 simp only [execOp]
 simp [hb,h]
theorem aep {x:Operand} {i:Nat} {v:Value} (hb:(Instr.extract (a.eval x) i).run P w=.ok v w) (h:R v w):Does P { dst,op:=.extract x i,type:=ty,pos,after,guard } a.eval w R:=by
 refine ⟨?_⟩
 unfold Turns
 simp only [execOp]
 simp [hb,h]
end
theorem wrap64 {x:Int} (h1 : -9223372036854775808≤x) (h2:x≤9223372036854775807):IntKind.i64.wrap x=x:=by
 simp [IntKind.wrap,IntKind.bits,IntKind.signed]
 omega
def Eqs (x:Value):Says:=fun v _=>v=x
def IsW (z:Int) (L:Nat):Says:=fun v w=>∃ ng ao n cap xs,v=.agg #[.bool ng,.slice ao n cap]∧Ag w ng ao n cap xs z∧xs.length≤L
def OutW (z:Int) (L:Nat):Says:=fun v w=>∃ ng ao cap rs,v=.agg #[.bool ng,.slice ao rs.length cap]∧Wh w ng ao cap rs z∧rs.length≤L
theorem OutW.is {z:Int} {L:Nat} {v:Value} {w:World} : OutW z L v w→IsW z L v w:=fun ⟨ng,ao,cap,rs,e,h,l⟩=>⟨ng,ao,rs.length,cap,rs,e,h.ag,l⟩
theorem Eqs.mono (x:Value):Mono (Eqs x):=fun _ _ _ _ h=>h
theorem OutW.to {z z' : Int} {L L' : Nat} {v:Value} {w:World} (h:OutW z L v w) (e:z=z') (hl:L≤L'):OutW z' L' v w:=by
 obtain ⟨ng,ao,cap,rs,e',h,l⟩:=h
 exact ⟨ng,ao,cap,rs,e',e ▸ h,Nat.le_trans l hl⟩
theorem af5 {w:World} {g:Nat} {ng:Bool} {v:Value} (hb:Box w g ng v):(Instr.loadAt 33 (.pointer (some ⟨g,0,none⟩))).run Tryz.prog w=.ok (.agg #[.bool ng,v]) w:=by
 obtain ⟨b1,b2,b3,b4⟩:=hb.facts
 go_simp
section
variable {dst:Option Tmp} {ty:TypeId} {pos:String} {after:Array Edge} {guard:Option (Nat × Bool)} {a:Act} {w:World} {ats:Array TypeId} {i j:Nat} {x y:Int} {L L1 L2:Nat}
theorem aac {x:Operand} {v:Value} (h:a.eval x=v):Does Tryz.prog { dst,op:=.assign x,type:=ty,pos,after,guard } a.eval w fun v' w'=>Below w.heap.size w w'∧Eqs v v' w' := afh ⟨Below.refl _ _,h⟩
theorem arc:Has Tryz.prog 9:=by unfold Has;kernel_rfl
theorem at4:Has Tryz.prog 16:=by unfold Has;kernel_rfl
theorem at5:Has Tryz.prog 26:=by unfold Has;kernel_rfl
theorem aw9 (hx:IsW x L1 (a.eval (.tmp i)) w) (hy:IsW y L2 (a.eval (.tmp j)) w) (h1:L1≤400000000) (h2:L2≤400000000) :
  Does Tryz.prog { dst,op:=.call { callee:=.value (.func 16),args:=#[.tmp i,.tmp j],argTypes:=ats },type:=ty,pos,after,guard } a.eval w fun v w'=>Below w.heap.size w w'∧OutW (x+y) (L1+L2+1) v w' := by
 obtain ⟨n1,a1,m1,c1,xs,e1,A1,l1⟩:=hx
 obtain ⟨n2,a2,m2,c2,ys,e2,A2,l2⟩:=hy
 refine aa0 at4 _ (by simp only [List.map_toArray,List.map_cons,List.map_nil,e1,e2]) ((awt _ _ _ _ _ _ _ A1 _ _ _ _ _ _ A2 (by omega) (by omega)).mono ?_)
 rintro e w' ⟨ng,ao,cap,rs,rfl,G,l,hb⟩
 exact ⟨_,rfl,hb,_,_,_,_,rfl,G,by omega⟩
theorem avr (hx:IsW x L1 (a.eval (.tmp i)) w) (hy:IsW y L2 (a.eval (.tmp j)) w) (h1:L1≤400000000) (h2:L2≤400000000) :
  Does Tryz.prog { dst,op:=.call { callee:=.value (.func 26),args:=#[.tmp i,.tmp j],argTypes:=ats },type:=ty,pos,after,guard } a.eval w fun v w'=>Below w.heap.size w w'∧OutW (x*y) (L1+L2) v w' := by
 obtain ⟨n1,a1,m1,c1,xs,e1,A1,l1⟩:=hx
 obtain ⟨n2,a2,m2,c2,ys,e2,A2,l2⟩:=hy
 refine aa0 at5 _ (by simp only [List.map_toArray,List.map_cons,List.map_nil,e1,e2]) ((awu _ _ _ _ _ _ _ A1 _ _ _ _ _ _ A2 (by omega) (by omega)).mono ?_)
 rintro e w' ⟨ng,ao,cap,rs,rfl,G,l,hb⟩
 exact ⟨_,rfl,hb,_,_,_,_,rfl,G,by omega⟩
end
structure Only (w w' : World) (g:Nat):Prop where
 os:w'.os=w.os
 tape:w'.tape=w.tape
 output:w'.output=w.output
 size:w'.heap.size=w.heap.size
 other:∀ k,k≠g→w'.heap[k]? = w.heap[k]?
structure BoxTy where
 T:TypeId
 zero:Value
 Cs:Value→Array Value→Prop
def BoxV (τ:BoxTy) (w:World) (g:Nat) (v:Value):Prop:=∃ cs,τ.Cs v cs∧w.heap[g]? = some (.cells cs τ.T (0,0))
theorem BoxV.lt {τ:BoxTy} {w:World} {g:Nat} {v:Value} (h:BoxV τ w g v):g<w.heap.size:=by
 obtain ⟨cs,_,h⟩:=h
 exact aaa h
theorem BoxV.below {τ:BoxTy} {w w' : World} {g:Nat} {v:Value} (h:BoxV τ w g v) (hb:Below w.heap.size w w'):BoxV τ w' g v:=by
 obtain ⟨cs,hc,h⟩:=h
 exact ⟨cs,hc,(hb.block g (aaa h)).trans h⟩
theorem BoxV.only {τ:BoxTy} {w w' : World} {g k:Nat} {v:Value} (h:BoxV τ w k v) (ho:Only w w' g) (hn:k≠g):BoxV τ w' k v:=by
 obtain ⟨cs,hc,h⟩:=h
 exact ⟨cs,hc,(ho.other k hn).trans h⟩
structure BoxOk (P:Program) (τ:BoxTy):Prop where
 noInt:∀ v cs,τ.Cs v cs→∀ (i:Nat) (k:IntKind) (z:Int),cs[i]?≠some (.int k z)
 ne:τ.T≠68∧τ.T≠3
 alloc:∀ w,∃ cs,τ.Cs τ.zero cs∧(Instr.alloc τ.T true (.tuple #[])).run P w=.ok (.pointer (some ⟨w.heap.size,0,none⟩)) (w.alloc (.cells cs τ.T))
 box:∀ w v,(∃ cs,τ.Cs v cs)→∃ cs,τ.Cs v cs∧(Instr.box τ.T v).run P w=.ok (.pointer (some ⟨w.heap.size,0,none⟩)) (w.alloc (.cells cs τ.T))
 store:∀ w g v0 v,BoxV τ w g v0→(∃ cs,τ.Cs v cs)→∃ w',(Instr.storeAt τ.T (.pointer (some ⟨g,0,none⟩)) v).run P w=.ok () w'∧BoxV τ w' g v∧Only w w' g
 load:∀ w g v,BoxV τ w g v→(Instr.loadAt τ.T (.pointer (some ⟨g,0,none⟩))).run P w=.ok v w
structure Rl (w w' : World):Prop where
 size:w.heap.size≤w'.heap.size
 ints:∀ (p:Addr) (k:IntKind) (z:Int),w.cell? p=some (.int k z)→w'.cell? p=some (.int k z)
 rows:∀ (g:Nat) (cs:Array Value) (T:TypeId),T=68∨T=3→w.heap[g]? = some (.cells cs T (0,0))→w'.heap[g]? = some (.cells cs T (0,0))
theorem adm {w:World} {p:Addr} {v:Value} (h:w.cell? p=some v):p.block<w.heap.size:=by
 apply Classical.byContradiction
 intro hn
 have:w.heap[p.block]? = none:=Array.getElem?_eq_none (by omega)
 simp [World.cell?,this] at h
theorem Rl.of_below {w w' : World} (h:Below w.heap.size w w'):Rl w w' :=
 ⟨h.size,fun p k z e=>by rw [h.cell (adm e)];exact e,fun g cs T _ e=>(h.block g (aaa e)).trans e⟩
theorem Rl.of_only {P:Program} {τ:BoxTy} {w w' : World} {g:Nat} {v:Value} (hτ:BoxOk P τ) (hb:BoxV τ w g v) (h:Only w w' g):Rl w w' := by
 obtain ⟨cs,hc,hh⟩:=hb
 refine ⟨Nat.le_of_eq h.size.symm,fun p k z e=>?_,fun k cs' T hT e=>?_⟩
 ·by_cases hp:p.block=g
  ·exfalso
   obtain ⟨b,o,m⟩:=p
   simp only at hp
   subst hp
   simp only [World.cell?,hh] at e
   cases m with
   | none=>exact hτ.noInt v cs hc o k z (by simpa using e)
   | some m=>simp at e
  ·rw [World.cell?_of_block (w:=w) (h.other p.block hp)]
   exact e
 ·by_cases hk:k=g
  ·exfalso
   subst hk
   rw [hh] at e
   have:τ.T=T:=by injection e with e;injection e
   rcases hT with rfl | rfl
   ·exact hτ.ne.1 this
   ·exact hτ.ne.2 this
  ·exact (h.other k hk).trans e
theorem Rl.trans {w w' w'' : World} (h:Rl w w') (h' : Rl w' w''):Rl w w'' := ⟨Nat.le_trans h.size h'.size,fun p k z e=>h'.ints p k z (h.ints p k z e),fun g cs T hT e=>h'.rows g cs T hT (h.rows g cs T hT e)⟩
theorem Sl.rl {w w' : World} {v:Value} {zs:List Int} (h:Sl w v zs) (hr:Rl w w'):Sl w' v zs:=by
 obtain ⟨ao,cap,rfl,h1,h2,h3,h4⟩:=h
 refine ⟨ao,cap,rfl,h1,h2,h3,?_⟩
 rcases h4 with h4 | ⟨b,off,rfl,hc⟩
 ·exact .inl h4
 ·exact .inr ⟨b,off,rfl,fun i hi=>hr.ints _ _ _ (hc i hi)⟩
structure Bx where
 τ:BoxTy
 ia:Option Nat
 g0:Nat
 d:Nat
 v0:Value
 st:Option (Nat × Nat × Nat)
 wt:List Nat
def flag (l:Array Bool) (j:Nat):Bool:=l.getD j false
theorem ac2 {l:Array Bool} {i:Nat} (h:i<l.size):flag (l.setIfInBounds i true) i=true:=by
 simp [flag,h]
theorem aao {l:Array Bool} {i j:Nat} (h:j≠i):flag (l.setIfInBounds i true) j=flag l j:=getD_set_ne false (fun e=>h e.symm)
theorem ad9 {l:Array Bool} {i j:Nat} (h:flag (l.setIfInBounds i true) j=true):j=i∨(j≠i∧flag l j=true):=by
 by_cases e:j=i
 ·exact .inl e
 ·exact .inr ⟨e,by rwa [aao e] at h⟩
def rd (Ds:List (Option Nat)) (a:Act) (j:Nat):Value:=match Ds.getD j none with | some d=>a.eval (.tmp d) | none=>undef
def Rest4 (Ds:List (Option Nat)) (a0 a:Act):Prop:=∀ k,Ds.contains (some k)=false→a.eval (.tmp k)=a0.eval (.tmp k)
def Mono4 (p:Says):Prop:=∀ v w w',Rl w w'→p v w→p v w'
def Mono4s:List Says→Prop
 | []=>True
 | p :: ps=>Mono4 p∧Mono4s ps
theorem Mono4s.at {ps:List Says} (h:Mono4s ps) (j:Nat):Mono4 (ps.getD j (fun _ _=>True)):=by
 induction ps generalizing j with
 | nil=>intro v w w' _ _;simp
 | cons p ps ih =>
  cases j with
  | zero=>simpa using h.1
  | succ j=>simpa using ih h.2 j
def made (l:Array Bool) (b:Bx):Bool:=match b.ia with | some i=>flag l i | none=>true
def filled (l:Array Bool) (b:Bx):Bool:=match b.st with | some q=>flag l q.1 | none=>false
def Content (b:Bx) (l:Array Bool) (a:Act) (v:Value):Prop:=(filled l b=false→v=b.v0)∧∀ q,b.st=some q→flag l q.1=true→flag l q.2.2=true∧a.eval (.tmp q.2.1)=v
def Boxes (bx:List Bx) (w0:World) (l:Array Bool) (a:Act) (w:World) (gs:Nat→Nat):Prop :=
 (∀ k b,bx[k]? = some b→made l b=true→a.eval (.tmp b.d)=.pointer (some ⟨gs k,0,none⟩)∧(b.ia=none→gs k=b.g0)∧(b.ia≠none→w0.heap.size≤gs k)∧∃ v,BoxV b.τ w (gs k) v∧Content b l a v) ∧
 (∀ k k' b b',bx[k]? = some b→bx[k']? = some b'→k≠k'→made l b=true→made l b' = true→gs k≠gs k')
structure But (bx:List Bx) (w0 w:World):Prop where
 os:w.os=w0.os
 tape:w.tape=w0.tape
 output:w.output=w0.output
 size:w0.heap.size≤w.heap.size
 keep:∀ m,m<w0.heap.size→(∀ b ∈ bx,b.ia=none→b.g0≠m)→w.heap[m]? = w0.heap[m]?
theorem But.below {bx:List Bx} {w0 w:World} (h:But bx w0 w) {B:Nat} (hB:B≤w0.heap.size) (ho:∀ b ∈ bx,b.ia=none→B≤b.g0):Below B w0 w :=
 ⟨h.os,h.tape,h.output,h.size,fun k hk=>h.keep k (by omega) (fun b hb hn=>by have:=ho b hb hn;omega)⟩
def Slots (Ds:List (Option Nat)) (a0:Act) (l:Array Bool) (a:Act):Prop:=∀ j d,Ds.getD j none=some d→flag l j=false→a.eval (.tmp d)=a0.eval (.tmp d)
def Mid4 (n:Nat) (Ds:List (Option Nat)) (Ps:List Says) (bx:List Bx) (a0:Act) (w0:World) (l:Array Bool) (a:Act) (w:World):Prop :=
 l.size=Ds.length∧a.tmps.size=n∧a.defers=a0.defers∧But bx w0 w∧Rl w0 w∧Rest4 Ds a0 a∧Slots Ds a0 l a∧(∀ j,flag l j=true→Ps.getD j (fun _ _=>True) (rd Ds a j) w)∧∃ gs,Boxes bx w0 l a w gs
def Deps4 (Ds:List (Option Nat)) (Ps:List Says) (o:Oper) (a:Act) (w:World):Prop:=∀ j,(o.after.toList.any fun e=>e.on == j && Region.binds .any e)=true→Ps.getD j (fun _ _=>True) (rd Ds a j) w
def Olds (bx:List Bx) (i:Nat) (w:World):Prop:=∀ (k:Nat) (b:Bx),bx[k]? = some b→b.ia=none→b.wt.contains i=true→BoxV b.τ w b.g0 b.v0
inductive Duty4 (P:Program) (n:Nat) (Ds:List (Option Nat)) (Ps:List Says) (bx:List Bx) (Wt:List (Nat × Nat)) (a0:Act) (w0:World) (i:Nat) (o:Oper) (p:Says):Prop
 | norm (d:Nat) (hd:o.dst=some d) (hD:Ds.getD i none=some d) (hb:(bx.all fun b=>b.ia != some i && b.st.all fun q=>q.1 != i)=true)
   (h:∀ a w,a.tmps.size=n→But bx w0 w→Rl w0 w→Rest4 Ds a0 a→Deps4 Ds Ps o a w→Olds bx i w→(∀ j d,Wt.contains (j,i)=true→Ds.getD j none=some d→a.eval (.tmp d)=a0.eval (.tmp d)) →
    match o.guard with
    | none=>Does P o a.eval w fun v w'=>Below w.heap.size w w'∧p v w'
    | some (g,b)=>(∃ dg,Ds.getD g none=some dg)∧(rd Ds a g=.bool b→Does P o a.eval w fun v w'=>Below w.heap.size w w'∧p v w')∧(rd Ds a g≠.bool b→p undef w))
 | alloc (k:Nat) (b:Bx) (hk:bx[k]? = some b) (hi:b.ia=some i) (ho:(o.op=.alloc b.τ.T∧b.v0=b.τ.zero)∨∃ x,o.op=.box b.τ.T x∧(∃ cs,b.τ.Cs b.v0 cs)∧∀ a,Rest4 Ds a0 a→a.eval x=b.v0) (hd:o.dst=some b.d) (hg:o.guard=none) (hp:p=fun _ _=>True) (hu:(bx.zipIdx.all fun q=>q.2 == k || (q.1.ia != some i))=true) (hs:(bx.all fun b=>b.st.all fun q=>q.1 != i && q.2.2 != i)=true)
 | store (k:Nat) (b:Bx) (src isrc:Nat) (hk:bx[k]? = some b) (hi:b.st=some (i,src,isrc)) (ho:o.op=.store b.τ.T (.tmp b.d) (.tmp src)) (hd:o.dst=none) (hD:Ds.getD i none=none) (hg:o.guard=none) (hp:p=fun _ _=>True) (ha:∀ ia,b.ia=some ia→(o.after.toList.any fun e=>e.on == ia && Region.binds .any e)=true) (hs:(o.after.toList.any fun e=>e.on == isrc && Region.binds .any e)=true) (hu:(bx.zipIdx.all fun q=>q.2 == k || (q.1.st.all fun q=>q.1 != i))=true) (hn:(bx.all fun b=>b.ia != some i && b.st.all fun q=>q.2.2 != i)=true)
   (hv:∀ v w,Ps.getD isrc (fun _ _=>True) v w→∃ cs,b.τ.Cs v cs)
def Duties4 (P:Program) (n:Nat) (Ds:List (Option Nat)) (Ps:List Says) (bx:List Bx) (Wt:List (Nat × Nat)) (a0:Act) (w0:World):Nat→List Oper→List Says→Prop
 | _,[],[]=>True
 | i,o :: os,p :: ps=>Duty4 P n Ds Ps bx Wt a0 w0 i o p∧Duties4 P n Ds Ps bx Wt a0 w0 (i+1) os ps
 | _,_,_=>False
theorem Duties4.at {P:Program} {n:Nat} {Ds:List (Option Nat)} {Ps:List Says} {bx:List Bx} {Wt:List (Nat × Nat)} {a0:Act} {w0:World} : ∀ {os:List Oper} {ps:List Says} {m:Nat},Duties4 P n Ds Ps bx Wt a0 w0 m os ps→∀ i o,os[i]? = some o→Duty4 P n Ds Ps bx Wt a0 w0 (m+i) o (ps.getD i fun _ _=>True)
 | [],[],_,_=>fun i o h=>by simp at h
 | o :: os,p :: ps,m,h=>fun i o' ho=>by
  obtain ⟨h1,h2⟩:=h
  cases i with
  | zero =>
   simp only [List.getElem?_cons_zero,Option.some.injEq] at ho
   subst ho
   simpa using h1
  | succ i =>
   have:=Duties4.at h2 i o' (by simpa using ho)
   have e:m+1+i=m+(i+1):=by omega
   rw [e] at this
   simpa using this
 | [],_ :: _,_,h=>h.elim
 | _ :: _,[],_,h=>h.elim
def Inj (Ds:List (Option Nat)):Prop:=∀ i j d,Ds.getD i none=some d→Ds.getD j none=some d→i=j
theorem avs {Ds:List (Option Nat)} (h:(Ds.zipIdx.all fun p=>p.1.isNone || Ds.zipIdx.all fun q=>p.1 != q.1 || p.2 == q.2)=true):Inj Ds:=by
 intro i j d hi hj
 have key:∀ (k:Nat),Ds.getD k none=some d→(some d,k) ∈ Ds.zipIdx:=by
  intro k hk
  rw [List.getD_eq_getElem?_getD] at hk
  rw [List.mem_zipIdx_iff_getElem?]
  cases he:Ds[k]? with
  | none=>rw [he] at hk;simp at hk
  | some x=>rw [he] at hk;simp at hk;simp [hk]
 have h1:=List.all_eq_true.1 h _ (key i hi)
 simp only [Option.isNone_some,Bool.false_or] at h1
 have h2:=List.all_eq_true.1 h1 _ (key j hj)
 simpa using h2
def Fits (n:Nat) (Ds:List (Option Nat)) (bx:List Bx):Prop:=(∀ j d,Ds.getD j none=some d→d<n)∧∀ b ∈ bx,(∀ ia,b.ia=some ia→Ds.getD ia none=some b.d∧ia<Ds.length)∧(b.ia=none→Ds.contains (some b.d)=false)∧∀ q,b.st=some q→q.1<Ds.length∧Ds.getD q.2.2 none=some q.2.1∧q.2.2<Ds.length
def fitOne (Ds:List (Option Nat)) (b:Bx):Bool:=(match b.ia with | some ia=>Ds.getD ia none == some b.d && decide (ia<Ds.length) | none=>!Ds.contains (some b.d)) && b.st.all fun q=>decide (q.1<Ds.length) && (Ds.getD q.2.2 none == some q.2.1) && decide (q.2.2<Ds.length)
theorem at6 {n:Nat} {Ds:List (Option Nat)} {bx:List Bx} (h:(Ds.all fun d=>d.all fun d=>decide (d<n))=true) (hb:(bx.all (fitOne Ds))=true):Fits n Ds bx:=by
 refine ⟨fun j d hj=>?_,fun b hm=>?_⟩
 ·rw [List.getD_eq_getElem?_getD] at hj
  cases he:Ds[j]? with
  | none=>rw [he] at hj;simp at hj
  | some x =>
   rw [he] at hj
   simp at hj
   subst hj
   have:=List.all_eq_true.1 h _ (List.mem_of_getElem? he)
   simpa using this
 ·have:=List.all_eq_true.1 hb b hm
  unfold fitOne at this
  simp only [Bool.and_eq_true] at this
  obtain ⟨h1,h2⟩:=this
  refine ⟨fun ia e=>?_,fun e=>?_,fun q e=>?_⟩
  ·rw [e] at h1
   simpa using h1
  ·rw [e] at h1
   simpa using h1
  ·rw [e] at h2
   simpa [and_assoc] using h2
theorem ahf {Ds:List (Option Nat)} {a:Act} {i j d:Nat} {v:Value} (hI:Inj Ds) (hi:Ds.getD i none=some d) (hne:j≠i):rd Ds (a.put (some d) v) j=rd Ds a j:=by
 unfold rd
 cases hj:Ds.getD j none with
 | none=>rfl
 | some d' =>
  simp only
  refine aa4 (fun e=>hne ?_)
  subst e
  exact hI j i d hj hi
theorem aik {Ds:List (Option Nat)} {a0 a:Act} {i d:Nat} {v:Value} (h:Rest4 Ds a0 a) (hi:Ds.getD i none=some d):Rest4 Ds a0 (a.put (some d) v):=by
 intro k hk
 rw [aa4,h k hk]
 rintro rfl
 have:Ds.contains (some d)=true:=by
  rw [List.contains_iff_mem]
  rw [List.getD_eq_getElem?_getD] at hi
  cases he:Ds[i]? with
  | none=>rw [he] at hi;simp at hi
  | some x=>rw [he] at hi;simp at hi;subst hi;exact List.mem_of_getElem? he
 rw [this] at hk
 cases hk
section
variable {P:Program} {n:Nat} {Ds:List (Option Nat)} {Ps:List Says} {bx:List Bx} {a0:Act} {w0:World} {l:Array Bool} {a:Act} {w w' : World} {i d:Nat} {v:Value}
theorem afi {Ds:List (Option Nat)} {i d:Nat} (hi:Ds.getD i none=some d):Ds.contains (some d)=true:=by
 rw [List.contains_iff_mem]
 rw [List.getD_eq_getElem?_getD] at hi
 cases he:Ds[i]? with
 | none=>rw [he] at hi;simp at hi
 | some x=>rw [he] at hi;simp at hi;subst hi;exact List.mem_of_getElem? he
theorem al7 {Ds:List (Option Nat)} {i d:Nat} (hi:Ds.getD i none=some d):i<Ds.length:=by
 apply Classical.byContradiction
 intro hn
 rw [List.getD_eq_getElem?_getD,List.getElem?_eq_none (by omega)] at hi
 simp at hi
theorem Slots.put (h:Slots Ds a0 l a) (hs:l.size=Ds.length) (hI:Inj Ds) (hi:Ds.getD i none=some d) (v:Value):Slots Ds a0 (l.setIfInBounds i true) (a.put (some d) v):=by
 intro j e hj hf
 by_cases hji:j=i
 ·subst hji
  rw [ac2 (by rw [hs];exact al7 hi)] at hf
  cases hf
 ·rw [aao hji] at hf
  rw [aa4,h j e hj hf]
  rintro rfl
  exact hji (hI _ _ _ hj hi)
theorem Mid4.norm (h:Mid4 n Ds Ps bx a0 w0 l a w) (hF:Fits n Ds bx) (hI:Inj Ds) (hM:Mono4s Ps) (hnd:flag l i=false) (hi:Ds.getD i none=some d) (hb:(bx.all fun b=>b.ia != some i && b.st.all fun q=>q.1 != i)=true) (hw:Below w.heap.size w w') (hp:Ps.getD i (fun _ _=>True) v w') :
  Mid4 n Ds Ps bx a0 w0 (l.setIfInBounds i true) (a.put (some d) v) w' := by
 obtain ⟨h1,h2,h3,h4,hr,h5,hS,h6,gs,h7,h8⟩:=h
 have hdn:d<n:=hF.1 i d hi
 have hmade:∀ b ∈ bx,made (l.setIfInBounds i true) b=made l b:=by
  intro b hm
  have hbb:=List.all_eq_true.1 hb b hm
  simp only [Bool.and_eq_true,bne_iff_ne] at hbb
  unfold made
  cases hia:b.ia with
  | none=>rfl
  | some ia=>exact aao (fun e=>hbb.1 (by rw [hia,e]))
 refine ⟨by simp [h1],by rw [afn];simp [h2],h3,⟨hw.os.trans h4.os,hw.tape.trans h4.tape,hw.output.trans h4.output,Nat.le_trans h4.size hw.size,fun m hm ho=>(hw.block m (Nat.lt_of_lt_of_le hm h4.size)).trans (h4.keep m hm ho)⟩,hr.trans (Rl.of_below hw),aik h5 hi,hS.put h1 hI hi v,fun j hj=>?_,gs,fun k b hk hf=>?_,fun k k' b b' hk hk' hne hf hf'=>?_⟩
 ·rcases ad9 hj with rfl | ⟨hne,hj⟩
  ·have:rd Ds (a.put (some d) v) j=v:=by
    unfold rd
    rw [hi]
    exact ac1 (by omega)
   rw [this]
   exact hp
  ·rw [ahf hI hi hne]
   exact hM.at j _ _ _ (Rl.of_below hw) (h6 j hj)
 ·have hm:=List.mem_of_getElem? hk
  have hbb:=List.all_eq_true.1 hb b hm
  simp only [Bool.and_eq_true,bne_iff_ne] at hbb
  obtain ⟨hb1,hb2⟩:=hbb
  obtain ⟨f1,f2,f3⟩:=hF.2 b hm
  rw [hmade b hm] at hf
  obtain ⟨e1,e2,e2',u,e3,e4,e5⟩:=h7 k b hk hf
  refine ⟨?_,e2,e2',u,e3.below hw,fun hs=>e4 ?_,fun q hq hs=>?_⟩
  ·rw [aa4,e1]
   rintro rfl
   cases hia:b.ia with
   | none =>
    have:=f2 hia
    rw [afi hi] at this
    cases this
   | some ia=>exact hb1 (by rw [hia,hI _ _ _ (f1 ia hia).1 hi])
  ·unfold filled at hs ⊢
   cases hst:b.st with
   | none=>rfl
   | some q =>
    rw [hst] at hs hb2
    simp only [Option.all_some,bne_iff_ne] at hb2
    simp only at hs ⊢
    rwa [aao hb2] at hs
  ·rw [hq] at hb2
   simp only [Option.all_some,bne_iff_ne] at hb2
   rw [aao hb2] at hs
   obtain ⟨e6,e7⟩:=e5 q hq hs
   have hne:q.2.2≠i:=by
    rintro rfl
    rw [hnd] at e6
    cases e6
   refine ⟨by rw [aao hne];exact e6,?_⟩
   rw [aa4,e7]
   intro ee
   have:=(f3 q hq).2.1
   rw [←ee] at this
   exact hne (hI _ _ _ this hi)
 ·rw [hmade b (List.mem_of_getElem? hk)] at hf
  rw [hmade b' (List.mem_of_getElem? hk')] at hf'
  exact h8 k k' b b' hk hk' hne hf hf'
theorem aea {f:Bx→Bool} {k:Nat} (hu:(bx.zipIdx.all fun q=>q.2 == k || f q.1)=true) {k' : Nat} {b:Bx} (hb:bx[k']? = some b) (hne:k'≠k):f b=true:=by
 have:=List.all_eq_true.1 hu (b,k') (by rw [List.mem_zipIdx_iff_getElem?];simpa using hb)
 simp only [Bool.or_eq_true,beq_iff_eq] at this
 rcases this with h | h
 ·exact absurd h hne
 ·exact h
theorem af6 {b:Bx} (hb:(b.st.all fun q=>q.1 != i)=true):filled (l.setIfInBounds i true) b=filled l b:=by
 unfold filled
 cases hst:b.st with
 | none=>rfl
 | some q =>
  rw [hst] at hb
  simp only [Option.all_some,bne_iff_ne] at hb
  exact aao hb
theorem Mid4.alloc {k:Nat} {b:Bx} {cs:Array Value} (h:Mid4 n Ds Ps bx a0 w0 l a w) (hF:Fits n Ds bx) (hI:Inj Ds) (hM:Mono4s Ps) (hnd:flag l i=false) (hk:bx[k]? = some b) (hia:b.ia=some i) (hu:(bx.zipIdx.all fun q=>q.2 == k || (q.1.ia != some i))=true) (hs:(bx.all fun b=>b.st.all fun q=>q.1 != i && q.2.2 != i)=true) (hp:∀ v w,Ps.getD i (fun _ _=>True) v w) (hc:b.τ.Cs b.v0 cs) (hns:∀ q,b.st=some q→flag l q.1=false) :
  Mid4 n Ds Ps bx a0 w0 (l.setIfInBounds i true) (a.put (some b.d) (.pointer (some ⟨w.heap.size,0,none⟩))) (w.alloc (.cells cs b.τ.T)):=by
 obtain ⟨h1,h2,h3,h4,hr,h5,hS,h6,gs,h7,h8⟩:=h
 have hm:=List.mem_of_getElem? hk
 obtain ⟨f1,f3⟩:=(hF.2 b hm).1 i hia
 have hdn:b.d<n:=hF.1 i b.d f1
 have hw:Below w.heap.size w (w.alloc (.cells cs b.τ.T)):=(Below.refl _ _).alloc (Nat.le_refl _) _
 have hs' : ∀ c ∈ bx,(c.st.all fun q=>q.1 != i)=true∧∀ q,c.st=some q→q.2.2≠i:=by
  intro c hc'
  have:=List.all_eq_true.1 hs c hc'
  cases hst:c.st with
  | none=>exact ⟨rfl,fun q hq=>by cases hq⟩
  | some q =>
   rw [hst] at this
   simp only [Option.all_some,Bool.and_eq_true,bne_iff_ne] at this
   exact ⟨by simpa using this.1,fun q' hq=>by obtain rfl:=Option.some.inj hq;exact this.2⟩
 have hmade:∀ q c,q≠k→bx[q]? = some c→made (l.setIfInBounds i true) c=made l c:=by
  intro q c hq hc'
  have:=aea (f:=fun c=>c.ia != some i) hu hc' hq
  simp only [bne_iff_ne] at this
  unfold made
  cases hia' : c.ia with
  | none=>rfl
  | some ia=>exact aao (fun e=>this (by rw [hia',e]))
 refine ⟨by simp [h1],by rw [afn];simp [h2],h3,⟨hw.os.trans h4.os,hw.tape.trans h4.tape,hw.output.trans h4.output,Nat.le_trans h4.size hw.size,fun m hm ho=>(hw.block m (Nat.lt_of_lt_of_le hm h4.size)).trans (h4.keep m hm ho)⟩,hr.trans (Rl.of_below hw),aik h5 f1,hS.put h1 hI f1 _,fun j hj=>?_,fun q=>if q=k then w.heap.size else gs q,fun q c hq hf=>?_,fun q q' c c' hq hq' hne hf hf'=>?_⟩
 ·rcases ad9 hj with rfl | ⟨hne,hj⟩
  ·exact hp _ _
  ·rw [ahf hI f1 hne]
   exact hM.at j _ _ _ (Rl.of_below hw) (h6 j hj)
 ·by_cases e:q=k
  ·subst e
   rw [hk] at hq
   obtain rfl:=Option.some.inj hq
   simp only [if_true]
   refine ⟨ac1 (by omega),fun e=>(by rw [hia] at e;cases e),fun _=>h4.size,b.v0,⟨cs,hc,heap_alloc_new _ _⟩,fun _=>rfl,fun q hq hst=>?_⟩
   have hne:=(hs' b hm).1
   rw [hq] at hne
   simp only [Option.all_some,bne_iff_ne] at hne
   rw [aao hne,hns q hq] at hst
   cases hst
  ·simp only [if_neg e]
   have hcm:=List.mem_of_getElem? hq
   rw [hmade q c e hq] at hf
   obtain ⟨e1,e2,e2',u,e3,e4,e5⟩:=h7 q c hq hf
   obtain ⟨g1,g2,g3⟩:=hF.2 c hcm
   have hcne:=aea (f:=fun c=>c.ia != some i) hu hq e
   simp only [bne_iff_ne] at hcne
   refine ⟨?_,e2,e2',u,e3.below hw,fun hst=>e4 (by rwa [af6 (hs' c hcm).1] at hst),fun r hr' hst=>?_⟩
   ·rw [aa4,e1]
    intro e'
    cases hia' : c.ia with
    | none =>
     have:=g2 hia'
     rw [←e',afi f1] at this
     cases this
    | some ia =>
     have:=(g1 ia hia').1
     rw [←e'] at this
     exact hcne (by rw [hia',hI _ _ _ this f1])
   ·have hne:=(hs' c hcm).1
    rw [hr'] at hne
    simp only [Option.all_some,bne_iff_ne] at hne
    rw [aao hne] at hst
    obtain ⟨e6,e7⟩:=e5 r hr' hst
    have hne2:=(hs' c hcm).2 r hr'
    refine ⟨by rw [aao hne2];exact e6,?_⟩
    rw [aa4,e7]
    intro e'
    have:=(g3 r hr').2.1
    rw [←e'] at this
    exact hne2 (hI _ _ _ this f1)
 ·have lt:∀ r c,r≠k→bx[r]? = some c→made (l.setIfInBounds i true) c=true→gs r<w.heap.size:=by
   intro r c hr hc' hf
   rw [hmade r c hr hc'] at hf
   obtain ⟨_,_,_,u,e3,_⟩:=h7 r c hc' hf
   exact e3.lt
  by_cases e:q=k
  ·have e' : q'≠k:=fun x=>hne (e.trans x.symm)
   simp only [if_pos e,if_neg e']
   have:=lt q' c' e' hq' hf'
   omega
  ·by_cases e' : q' = k
   ·simp only [if_neg e,if_pos e']
    have:=lt q c e hq hf
    omega
   ·simp only [if_neg e,if_neg e']
    rw [hmade q c e hq] at hf
    rw [hmade q' c' e' hq'] at hf'
    exact h8 q q' c c' hq hq' hne hf hf'
theorem Mid4.store {k src isrc:Nat} {b:Bx} {gs:Nat→Nat} (hτ:BoxOk P b.τ) (h1:l.size=Ds.length) (h2:a.tmps.size=n) (h3:a.defers=a0.defers) (h4:But bx w0 w) (hr0:Rl w0 w) (h5:Rest4 Ds a0 a) (hS:Slots Ds a0 l a) (hDi:Ds.getD i none=none) (h6:∀ j,flag l j=true→Ps.getD j (fun _ _=>True) (rd Ds a j) w) (h7:Boxes bx w0 l a w gs) (hM:Mono4s Ps) (hil:i<l.size) (hk:bx[k]? = some b) (his:b.st=some (i,src,isrc)) (hu:(bx.zipIdx.all fun q=>q.2 == k || (q.1.st.all fun q=>q.1 != i))=true) (hn:(bx.all fun b=>b.ia != some i && b.st.all fun q=>q.2.2 != i)=true) (hp:∀ v w,Ps.getD i (fun _ _=>True) v w) (hia:made l b=true) (hisrc:flag l isrc=true) (ho:Only w w' (gs k)) (hbv:BoxV b.τ w' (gs k) (a.eval (.tmp src))) :
  Mid4 n Ds Ps bx a0 w0 (l.setIfInBounds i true) a w' := by
 obtain ⟨h7,h8⟩:=h7
 have hm:=List.mem_of_getElem? hk
 obtain ⟨e1,e2,e2',u,e3,e4⟩:=h7 k b hk hia
 have hr:Rl w w' := Rl.of_only hτ e3 ho
 have hn' : ∀ c ∈ bx,made (l.setIfInBounds i true) c=made l c∧∀ q,c.st=some q→q.2.2≠i:=by
  intro c hc
  have:=List.all_eq_true.1 hn c hc
  simp only [Bool.and_eq_true,bne_iff_ne] at this
  refine ⟨?_,fun q hq=>?_⟩
  ·unfold made
   cases hia' : c.ia with
   | none=>rfl
   | some ia=>exact aao (fun e=>this.1 (by rw [hia',e]))
  ·have h2:=this.2
   rw [hq] at h2
   simpa using h2
 refine ⟨by simp [h1],h2,h3,⟨ho.os.trans h4.os,ho.tape.trans h4.tape,ho.output.trans h4.output,by rw [ho.size];exact h4.size,fun m hm' hol=>?_⟩,hr0.trans hr,h5,fun j e hj hf=>hS j e hj (by rwa [aao (fun e'=>by rw [e',hDi] at hj;cases hj)] at hf),fun j hj=>?_,gs,fun q c hq hf=>?_,fun q q' c c' hq hq' hne hf hf'=>?_⟩
 ·rw [ho.other m,h4.keep m hm' hol]
  intro e
  subst e
  cases hia' : b.ia with
  | none=>exact hol b hm hia' (e2 hia').symm
  | some ia =>
   have:=e2' (by rw [hia'];simp)
   omega
 ·rcases ad9 hj with rfl | ⟨hne,hj⟩
  ·exact hp _ _
  ·exact hM.at j _ _ _ hr (h6 j hj)
 ·have hcm:=List.mem_of_getElem? hq
  rw [(hn' c hcm).1] at hf
  obtain ⟨d1,d2,d2',u',d3,d4,d5⟩:=h7 q c hq hf
  by_cases e:q=k
  ·subst e
   rw [hk] at hq
   obtain rfl:=Option.some.inj hq
   refine ⟨d1,d2,d2',_,hbv,fun hfl=>?_,fun r hr' _=>?_⟩
   ·unfold filled at hfl
    rw [his] at hfl
    simp only [ac2 hil] at hfl
    cases hfl
   ·rw [his] at hr'
    obtain rfl:=Option.some.inj hr'
    exact ⟨by rw [aao ((hn' b hm).2 _ his)];exact hisrc,rfl⟩
  ·have hne:=aea (f:=fun c=>c.st.all fun q=>q.1 != i) hu hq e
   refine ⟨d1,d2,d2',u',d3.only ho (h8 q k c b hq hk e hf hia),fun hfl=>d4 (by rwa [af6 hne] at hfl),fun r hr' hst=>?_⟩
   rw [hr'] at hne
   simp only [Option.all_some,bne_iff_ne] at hne
   rw [aao hne] at hst
   obtain ⟨d6,d7⟩:=d5 r hr' hst
   exact ⟨by rw [aao ((hn' c hcm).2 r hr')];exact d6,d7⟩
 ·rw [(hn' c (List.mem_of_getElem? hq)).1] at hf
  rw [(hn' c' (List.mem_of_getElem? hq')).1] at hf'
  exact h8 q q' c c' hq hq' hne hf hf'
end
theorem al8 {P:Program} {ops:Array Oper} {Q:Exit→Act→World→Prop} {n:Nat} {Ds:List (Option Nat)} {Ps:List Says} {bx:List Bx} {Wt:List (Nat × Nat)} {a0:Act} {w0:World} {l:Array Bool} {a:Act} {w:World} {i:Nat} {o:Oper} (hlen:Ds.length=ops.size) (hD:Duties4 P n Ds Ps bx Wt a0 w0 0 ops.toList Ps) (hdst:∀ j o,ops[j]? = some o→o.dst=Ds.getD j none) (hF:Fits n Ds bx) (hI:Inj Ds) (hM:Mono4s Ps) (hτ:∀ b ∈ bx,BoxOk P b.τ) (ho:ops[i]? = some o) (hnd:flag l i=false) (hearly:∀ b ∈ bx,∀ q ia,b.st=some q→b.ia=some ia→flag l q.1=true→flag l ia=true) (hlateS:∀ j,Wt.contains (j,i)=true→flag l j=false) (hlate:∀ b ∈ bx,∀ q,b.st=some q→b.wt.contains i=true→flag l q.1=false) (h:Mid4 n Ds Ps bx a0 w0 l a w) (hdeps:∀ e ∈ o.after,Region.binds .any e=true→flag l e.on=true) :
  wpOp P ops Q i (fun a' w'=>Mid4 n Ds Ps bx a0 w0 (l.setIfInBounds i true) a' w') a w:=by
 have h' := h
 obtain ⟨h1,h2,h3,h4,hr,h5,hS,h6,gs,h7⟩:=h
 have hio:ops.toList[i]? = some o:=by rw [Array.getElem?_toList];exact ho
 have hduty:=hD.at i o hio
 rw [Nat.zero_add] at hduty
 have hany:∀ j,(o.after.toList.any fun e=>e.on == j && Region.binds .any e)=true→flag l j=true:=by
  intro j hj
  obtain ⟨e,he,hj⟩:=List.any_eq_true.1 hj
  simp only [Bool.and_eq_true,beq_iff_eq] at hj
  obtain ⟨rfl,hb⟩:=hj
  exact hdeps e (by simpa using he) hb
 have hil:i<l.size:=by
  rw [h1,hlen]
  exact (Array.getElem?_eq_some_iff.1 ho).1
 refine wpOp_step ho (fun K' hK=>?_)
 cases hduty with
 | norm d hd hDi hb hduty =>
  have holds:Olds bx i w:=by
   intro k b hk hia hwt
   have hmd:made l b=true:=by unfold made;rw [hia]
   obtain ⟨_,e2,_,v,e3,e4,_⟩:=h7.1 k b hk hmd
   rw [e2 hia] at e3
   have:filled l b=false:=by
    unfold filled
    cases hst:b.st with
    | none=>rfl
    | some q=>exact hlate b (List.mem_of_getElem? hk) q hst hwt
   rw [e4 this] at e3
   exact e3
  have hduty:=hduty a w h2 h4 hr h5 (fun j hj=>h6 j (hany j hj)) holds (fun j d hj hd=>hS j d hd (hlateS j hj))
  cases hg:o.guard with
  | none =>
   rw [hg] at hduty
   simp only [Region.wanted,hg,if_true]
   exact Does.wp hduty (fun v w' ⟨hw,hp⟩=>by rw [hd];exact hK _ _ (h'.norm hF hI hM hnd hDi hb hw hp))
  | some gb =>
   obtain ⟨g,b⟩:=gb
   rw [hg] at hduty
   simp only at hduty
   obtain ⟨⟨dg,hdg⟩,hyes,hno⟩:=hduty
   have hgo:∃ og,ops[g]? = some og:=by
    have:g<ops.size:=by
     rw [←hlen]
     apply Classical.byContradiction
     intro hn
     rw [List.getD_eq_getElem?_getD,List.getElem?_eq_none (by omega)] at hdg
     simp at hdg
    exact ⟨_,Array.getElem?_eq_getElem this⟩
   obtain ⟨og,hog⟩:=hgo
   have hgn:dg<n:=hF.1 g dg hdg
   have hrd:rd Ds a g=a.eval (.tmp dg):=by unfold rd;rw [hdg]
   have hy:yielded ops a.tmps g=(match a.eval (.tmp dg) with | .bool b=>some b | _=>none):=by
    unfold yielded
    rw [hog]
    simp only [Option.bind_some,hdst g og hog,hdg]
    have:a.tmps[dg]? = some (a.eval (.tmp dg)):=by
     rw [Array.getElem?_eq_getElem (by omega)]
     simp only [Act.eval,Array.getD,h2,hgn,dif_pos]
     rfl
    rw [this]
    generalize a.eval (.tmp dg)=v
    cases v <;> rfl
   rw [hrd] at hyes hno
   by_cases hv:a.eval (.tmp dg)=.bool b
   ·have hw:Region.wanted o (yielded ops a.tmps)=true:=by
     simp only [Region.wanted,hg]
     rw [hy,hv]
     simp
    rw [if_pos hw]
    exact Does.wp (hyes hv) (fun v w' ⟨hw,hp⟩=>by rw [hd];exact hK _ _ (h'.norm hF hI hM hnd hDi hb hw hp))
   ·have hw:¬ Region.wanted o (yielded ops a.tmps)=true:=by
     simp only [Region.wanted,hg]
     rw [hy]
     intro hc
     apply hv
     generalize a.eval (.tmp dg)=v at *
     cases v <;> simp at hc
     rw [hc]
    rw [if_neg hw,hd]
    exact hK _ _ (h'.norm hF hI hM hnd hDi hb (Below.refl _ _) (hno hv))
 | alloc k b hk hia hop hd hg hp hu hs =>
  have hm:=List.mem_of_getElem? hk
  have hrun:∃ cs,b.τ.Cs b.v0 cs∧Does P o a.eval w fun v w'=>v=.pointer (some ⟨w.heap.size,0,none⟩)∧w' = w.alloc (.cells cs b.τ.T):=by
   rcases hop with ⟨hop,hz⟩ | ⟨x,hop,hcs,hx⟩
   ·obtain ⟨cs,hc,hrun⟩:=(hτ b hm).alloc w
    refine ⟨cs,by rw [hz];exact hc,⟨?_⟩⟩
    unfold Turns
    simp only [execOp,hop]
    simp [hrun]
   ·obtain ⟨cs,hc,hrun⟩:=(hτ b hm).box w b.v0 hcs
    refine ⟨cs,hc,⟨?_⟩⟩
    unfold Turns
    simp only [execOp,hop,hx a h5]
    simp [hrun]
  obtain ⟨cs,hc,hdoes⟩:=hrun
  simp only [Region.wanted,hg,if_true]
  have hns:∀ q,b.st=some q→flag l q.1=false:=by
   intro q hq
   cases hf:flag l q.1 with
   | false=>rfl
   | true =>
    have:=hearly b hm q i hq hia hf
    rw [hnd] at this
    cases this
  refine Does.wp hdoes (fun v w' ⟨hv,hw⟩=>?_)
  subst hv hw
  rw [hd]
  exact hK _ _ (h'.alloc hF hI hM hnd hk hia hu hs (fun v w=>by rw [hp];trivial) hc hns)
 | store k b src isrc hk his hop hd hDi hg hp ha hs hu hn hv =>
  have hm:=List.mem_of_getElem? hk
  have hia:made l b=true:=by
   unfold made
   cases hia:b.ia with
   | none=>rfl
   | some ia=>exact hany _ (ha ia hia)
  have hisrc:=hany _ hs
  obtain ⟨e1,e2,e2',u,e3,e4⟩:=h7.1 k b hk hia
  have f2:=((hF.2 b hm).2.2 _ his).2.1
  have hsrc:=h6 _ hisrc
  have hrd:rd Ds a isrc=a.eval (.tmp src):=by unfold rd;rw [f2]
  rw [hrd] at hsrc
  obtain ⟨w',hrun,hbv,honly⟩:=(hτ b hm).store w (gs k) u _ e3 (hv _ _ hsrc)
  simp only [Region.wanted,hg,if_true]
  have hdoes:Does P o a.eval w fun v w''=>w'' = w' := by
   refine ⟨?_⟩
   unfold Turns
   simp only [execOp,hop,e1]
   simp [hrun]
  refine Does.wp hdoes (fun v w'' hw=>?_)
  subst hw
  rw [hd]
  exact hK _ _ (Mid4.store (hτ b hm) h1 h2 h3 h4 hr h5 hS hDi h6 h7 hM hil hk his hu hn (fun v w=>by rw [hp];trivial) hia hisrc honly hbv)
theorem aht {P:Program} {ops:Array Oper} {Q:Exit→Act→World→Prop} {id:Nat} {a:Act} {w:World} (Inv:Array Bool→Act→World→Prop)
  (h0:Inv (Array.replicate ops.size false) a w)
  (hend:∀ l a w,Inv l a w→(∀ j,j<ops.size→flag l j=true)→Q .normal a w)
  (hstep:∀ l a w,Inv l a w→∀ i,i<ops.size→flag l i=false→(∀ j,j<i→flag l j=true)→wpOp P ops Q i (fun a' w'=>Inv (l.setIfInBounds i true) a' w') a w):(Code.region id ops false).wp P Q a w:=by
 refine wp_region ?_
 have key:∀ k m (l:Array Bool) a w,m+k=ops.size→l.size=ops.size→(∀ j,j<ops.size→flag l j=decide (j<m))→Inv l a w→wpOps P ops Q (List.range' m k) a w:=by
  intro k
  induction k with
  | zero =>
   intro m l a w hm hs hl hI
   exact hend l a w hI (fun j hj=>by rw [hl j hj];simp;omega)
  | succ k ih =>
   intro m l a w hm hs hl hI
   rw [List.range'_succ,wpOps_cons]
   refine wpOp_mono (fun a' w' h=>ih (m+1) _ a' w' (by omega) (by simp [hs]) (fun j hj=>?_) h) (hstep l a w hI m (by omega) (by rw [hl m (by omega)];simp) (fun j hj=>by rw [hl j (by omega)];simp;omega))
   by_cases e:j=m
   ·subst e
    rw [ac2 (by omega)]
    simp
   ·rw [aao e,hl j hj]
    simp only [decide_eq_decide]
    omega
 rw [List.range_eq_range']
 exact key ops.size 0 _ a w (by omega) (by simp) (fun j hj=>by simp [flag,Array.getElem?_replicate];split <;> rfl) h0
theorem ake {ops:Array Oper} {l:Array Bool} (hd:(ops.toList.zipIdx.all fun p=>p.1.after.all fun e=>!Region.binds .any e || decide (e.on<p.2))=true) (hs:l.size=ops.size) (hr:Region.ready .any ops l = []):∀ j,j<ops.size→flag l j=true:=by
 intro j
 induction j using Nat.strongRecOn with
 | _ j ih =>
  intro hj
  apply Classical.byContradiction
  intro hn
  have hl:l[j]? = some (l[j]'(by omega)):=Array.getElem?_eq_getElem (by omega)
  have hf:l[j]'(by omega)=false:=by
   rw [flag,Array.getD_eq_getD_getElem?,hl] at hn
   simpa using hn
  have hmem:j ∈ Region.ready .any ops l:=by
   refine mem_ready.2 ⟨by rw [Array.getD_eq_getD_getElem?,hl,hf];rfl,ops[j],Array.getElem?_eq_getElem hj,fun e he hb=>?_⟩
   have h1:=List.all_eq_true.1 hd (ops[j],j) (by
    rw [List.mem_zipIdx_iff_getElem?]
    simp [hj])
   have h2:e.on<j:=by
    have:=Array.all_eq_true_iff_forall_mem.1 h1 e he
    rw [hb] at this
    simpa using this
   exact ih e.on h2 (by omega)
  rw [hr] at hmem
  cases hmem
def waitOne (ops:Array Oper) (b:Bx):Bool:=b.st.all fun q=>((ops[q.1]?).map fun o=>(b.ia.all fun ia=>o.after.toList.any fun e=>e.on == ia && Region.binds .any e) && b.wt.all fun i=>o.after.toList.any fun e=>e.on == i && Region.binds .any e).getD false
theorem aak {P:Program} {ops:Array Oper} {Q:Exit→Act→World→Prop} {id n:Nat} {a:Act} {w:World} {dr:Bool} (Ds:List (Option Nat)) (Ps:List Says) (bx:List Bx) (Wt:List (Nat × Nat)) (hm:P.follows .mixedOrders=true) (hn:a.tmps.size=n) (hDs:ops.toList.map (·.dst)=Ds)
  (hinj:(Ds.zipIdx.all fun p=>p.1.isNone || Ds.zipIdx.all fun q=>p.1 != q.1 || p.2 == q.2)=true) (hf1:(Ds.all fun d=>d.all fun d=>decide (d<n))=true) (hf2:(bx.all (fitOne Ds))=true)
  (hdep:(ops.toList.zipIdx.all fun p=>p.1.after.all fun e=>!Region.binds .any e || decide (e.on<p.2))=true)
  (hst:(bx.all (waitOne ops))=true) (hwt:(Wt.all fun p=>((ops[p.1]?).map fun o=>o.after.toList.any fun e=>e.on == p.2 && Region.binds .any e).getD false)=true)
  (hM:Mono4s Ps) (hτ:∀ b ∈ bx,BoxOk P b.τ) (hold:∀ b ∈ bx,b.ia=none→a.eval (.tmp b.d)=.pointer (some ⟨b.g0,0,none⟩)∧BoxV b.τ w b.g0 b.v0) (hdis:∀ (k k' : Nat) (b b' : Bx),bx[k]? = some b→bx[k']? = some b'→k≠k'→b.ia=none→b'.ia=none→b.g0≠b'.g0) (hD:Duties4 P n Ds Ps bx Wt a w 0 ops.toList Ps)
  (hend:∀ (a' : Act) (w' : World) (gs:Nat→Nat),a'.tmps.size=n→a'.defers=a.defers→But bx w w'→Rl w w'→Rest4 Ds a a'→(∀ j,j<Ds.length→Ps.getD j (fun _ _=>True) (rd Ds a' j) w') →
   (∀ (k:Nat) (b:Bx),bx[k]? = some b→a'.eval (.tmp b.d)=.pointer (some ⟨gs k,0,none⟩)∧(b.ia=none→gs k=b.g0)∧(b.ia≠none→w.heap.size≤gs k)∧BoxV b.τ w' (gs k) (match b.st with | some q=>a'.eval (.tmp q.2.1) | none=>b.v0))→(∀ (k k' : Nat),k<bx.length→k'<bx.length→k≠k'→gs k≠gs k')→Q .normal a' w'):(Code.region id ops dr).wp P Q a w:=by
 have hlen:Ds.length=ops.size:=by rw [←hDs];simp
 have hdst:∀ j o,ops[j]? = some o→o.dst=Ds.getD j none:=by
  intro j o ho
  rw [←hDs,List.getD_eq_getElem?_getD,List.getElem?_map,Array.getElem?_toList,ho]
  rfl
 have hF:=at6 hf1 hf2
 have hI:=avs hinj
 let Inv:Array Bool→Act→World→Prop:=fun l a' w'=>Mid4 n Ds Ps bx a w l a' w'∧∀ j o,ops[j]? = some o→flag l j=true→∀ e ∈ o.after,Region.binds .any e=true→flag l e.on=true
 have hmd:∀ l b,b ∈ bx→(∀ j,j<ops.size→flag l j=true)→made l b=true:=by
  intro l b hb hall
  unfold made
  cases hia:b.ia with
  | none=>rfl
  | some ia=>exact hall _ (by rw [←hlen];exact ((hF.2 b hb).1 ia hia).2)
 have hfin:∀ l a' w',Inv l a' w'→(∀ j,j<ops.size→flag l j=true)→Q .normal a' w' := by
  rintro l a' w' ⟨⟨h1,h2,h3,h4,hr,h5,_,h6,gs,h7,h8⟩,_⟩ hall
  refine hend a' w' gs h2 h3 h4 hr h5 (fun j hj=>h6 j (hall j (by omega))) (fun k b hk=>?_) (fun k k' hk hk' hne=>?_)
  ·have hmem:=List.mem_of_getElem? hk
   obtain ⟨e1,e2,e2',v,e3,e4,e5⟩:=h7 k b hk (hmd l b hmem hall)
   refine ⟨e1,e2,e2',?_⟩
   cases hs:b.st with
   | none =>
    have:filled l b=false:=by unfold filled;rw [hs]
    rw [e4 this] at e3
    exact e3
   | some q =>
    obtain ⟨_,e6⟩:=e5 q hs (hall _ (by rw [←hlen];exact ((hF.2 b hmem).2.2 q hs).1))
    simp only
    rw [e6]
    exact e3
  ·exact h8 k k' bx[k] bx[k'] (List.getElem?_eq_getElem hk) (List.getElem?_eq_getElem hk') hne (hmd l _ (List.getElem_mem hk) hall) (hmd l _ (List.getElem_mem hk') hall)
 have hwait:∀ l,(∀ j o,ops[j]? = some o→flag l j=true→∀ e ∈ o.after,Region.binds .any e=true→flag l e.on=true)→∀ b ∈ bx,∀ q,b.st=some q→flag l q.1=true→(∀ ia,b.ia=some ia→flag l ia=true)∧∀ i,b.wt.contains i=true→flag l i=true:=by
  intro l hcl b hb q hq hfl
  have:=List.all_eq_true.1 hst b hb
  unfold waitOne at this
  rw [hq] at this
  simp only [Option.all_some] at this
  cases ho' : ops[q.1]? with
  | none=>rw [ho'] at this;simp at this
  | some o' =>
   rw [ho'] at this
   simp only [Option.map_some,Option.getD_some,Bool.and_eq_true] at this
   have key:∀ j,(o'.after.toList.any fun e=>e.on == j && Region.binds .any e)=true→flag l j=true:=by
    intro j hj
    obtain ⟨e,he,hj⟩:=List.any_eq_true.1 hj
    simp only [Bool.and_eq_true,beq_iff_eq] at hj
    obtain ⟨hj1,hj2⟩:=hj
    have:=hcl q.1 o' ho' hfl e (by simpa using he) hj2
    rwa [hj1] at this
   refine ⟨fun ia hia=>?_,fun i hi=>?_⟩
   ·have h1:=this.1
    rw [hia] at h1
    exact key ia (by simpa using h1)
   ·have h2:=List.all_eq_true.1 this.2 i (by simpa using hi)
    exact key i h2
 have hone:∀ l a' w',Inv l a' w'→∀ i o,ops[i]? = some o→flag l i=false→(∀ e ∈ o.after,Region.binds .any e=true→flag l e.on=true)→wpOp P ops Q i (fun a'' w''=>Inv (l.setIfInBounds i true) a'' w'') a' w' := by
  rintro l a' w' ⟨hmid,hcl⟩ i o ho hnd hdeps
  refine wpOp_mono (fun a'' w'' h=>⟨h,fun j oj hoj hj e he hb=>?_⟩) (al8 hlen hD hdst hF hI hM hτ ho hnd (fun b hb q ia hq hia hfl=>(hwait l hcl b hb q hq hfl).1 ia hia) (fun j hj=>?_) (fun b hb q hq hwt=>?_) hmid hdeps)
  ·have keep:∀ m,flag l m=true→flag (l.setIfInBounds i true) m=true:=by
    intro m hm'
    by_cases e' : m=i
    ·subst e'
     rw [hnd] at hm'
     cases hm'
    ·rw [aao e']
     exact hm'
   rcases ad9 hj with rfl | ⟨_,hj⟩
   ·rw [ho] at hoj
    obtain rfl:=Option.some.inj hoj
    exact keep _ (hdeps e he hb)
   ·exact keep _ (hcl j oj hoj hj e he hb)
  ·cases hfl:flag l j with
   | false=>rfl
   | true =>
    have h1:=List.all_eq_true.1 hwt (j,i) (by simpa using hj)
    cases ho' : ops[j]? with
    | none=>rw [ho'] at h1;simp at h1
    | some o' =>
     rw [ho'] at h1
     simp only [Option.map_some,Option.getD_some] at h1
     obtain ⟨e,he,h2⟩:=List.any_eq_true.1 h1
     simp only [Bool.and_eq_true,beq_iff_eq] at h2
     have:=hcl j o' ho' hfl e (by simpa using he) h2.2
     rw [h2.1,hnd] at this
     cases this
  ·cases hfl:flag l q.1 with
   | false=>rfl
   | true =>
    have:=(hwait l hcl b hb q hq hfl).2 i hwt
    rw [hnd] at this
    cases this
 have h0f:∀ j,flag (Array.replicate ops.size false) j=false:=by
  intro j
  simp only [flag,Array.getD_eq_getD_getElem?,Array.getElem?_replicate]
  split <;> rfl
 have hia0:∀ b,made (Array.replicate ops.size false) b=true→b.ia=none:=by
  intro b hb
  unfold made at hb
  cases hia:b.ia with
  | none=>rfl
  | some ia=>rw [hia] at hb;simp only [h0f] at hb;cases hb
 have hstart:∀ w',Below w.heap.size w w'→Inv (Array.replicate ops.size false) a w' := by
  intro w' hb
  refine ⟨⟨by simp [hlen],hn,rfl,⟨hb.os,hb.tape,hb.output,hb.size,fun m hm' _=>hb.block m hm'⟩,Rl.of_below hb,fun _ _=>rfl,fun _ _ _ _=>rfl,fun j hj=>?_,fun k=>(bx[k]?.map (·.g0)).getD 0,fun k b hk hf=>?_,fun k k' b b' hk hk' hne hf hf'=>?_⟩,fun j o _ hj=>?_⟩
  ·rw [h0f] at hj;cases hj
  ·have hia:=hia0 b hf
   obtain ⟨o1,o2⟩:=hold b (List.mem_of_getElem? hk) hia
   simp only [hk,Option.map_some,Option.getD_some]
   refine ⟨o1,fun _=>trivial,fun h=>absurd hia h,b.v0,o2.below hb,fun _=>rfl,fun q _ hfl=>?_⟩
   rw [h0f] at hfl;cases hfl
  ·simp only [hk,hk',Option.map_some,Option.getD_some]
   exact hdis k k' b b' hk hk' hne (hia0 b hf) (hia0 b' hf')
  ·rw [h0f] at hj;cases hj
 cases dr with
 | false =>
  refine aht Inv (hstart w (Below.refl _ _)) hfin (fun l a' w' hI i hi hnd hlow=>?_)
  have ho:ops[i]? = some ops[i]:=Array.getElem?_eq_getElem hi
  refine hone l a' w' hI i _ ho hnd (fun e he hb=>hlow e.on ?_)
  have h1:=List.all_eq_true.1 hdep (ops[i],i) (by
   rw [List.mem_zipIdx_iff_getElem?]
   simp [hi])
  have:=Array.all_eq_true_iff_forall_mem.1 h1 e he
  rw [hb] at this
  simpa using this
 | true =>
  refine ab3 hm Inv (hstart _ (Below.drew (Below.refl _ _))) (fun l a' w' hI hr=>hfin l a' w' hI (fun j hj=>ake hdep (by rw [hI.1.1,hlen]) hr j hj)) (fun l a' w' hI i hi=>?_)
  obtain ⟨h1,o,ho,hdeps⟩:=mem_ready.1 hi
  have hnd:flag l i=false:=by
   have hs:i<l.size:=by rw [hI.1.1,hlen];exact (Array.getElem?_eq_some_iff.1 ho).1
   rw [Array.getD_eq_getD_getElem?,Array.getElem?_eq_getElem hs] at h1
   simp only [flag,Array.getD_eq_getD_getElem?,Array.getElem?_eq_getElem hs]
   simpa using h1
  exact hone l a' w' hI i o ho hnd hdeps
def Tt : Says := fun _ _ => True
def W2:BoxTy:=⟨33,.agg #[.bool false,.slice none 0 0],fun v cs=>∃ ng ao n c,v=.agg #[.bool ng,.slice ao n c]∧cs = #[.bool ng,.slice ao n c]⟩
theorem BoxV.box {w:World} {g:Nat} {ng:Bool} {ao:Option Addr} {n c:Nat} (h:BoxV W2 w g (.agg #[.bool ng,.slice ao n c])):Box w g ng (.slice ao n c):=by
 obtain ⟨cs,⟨_,_,_,_,e,rfl⟩,h⟩:=h
 simp only [Value.agg.injEq] at e
 simp only [Array.mk.injEq,List.cons.injEq,Value.bool.injEq,Value.slice.injEq,and_true] at e
 obtain ⟨rfl,rfl,rfl,rfl⟩:=e
 exact h
theorem Box.v {w:World} {g:Nat} {ng:Bool} {ao:Option Addr} {n c:Nat} (h:Box w g ng (.slice ao n c)):BoxV W2 w g (.agg #[.bool ng,.slice ao n c]):=⟨_,⟨_,_,_,_,rfl,rfl⟩,h⟩
theorem W2ok:BoxOk Tryz.prog W2 where
 noInt:=by
  rintro v cs ⟨ng,ao,n,c,rfl,rfl⟩ i k z
  match i with
  | 0=>simp
  | 1=>simp
  | i+2=>simp
 ne:=by unfold W2;exact ⟨by decide,by decide⟩
 alloc:=fun w=>⟨#[.bool false,.slice none 0 0],⟨_,_,_,_,rfl,rfl⟩,by unfold W2;go_simp⟩
 box:=by
  rintro w v ⟨cs,ng,ao,n,c,rfl,rfl⟩
  exact ⟨_,⟨_,_,_,_,rfl,rfl⟩,by unfold W2;go_simp⟩
 store:=by
  rintro w g v0 v ⟨cs0,⟨m,bo,p,d,rfl,rfl⟩,hh⟩ ⟨cs,ng,ao,n,c,rfl,rfl⟩
  have hb:Box w g m (.slice bo p d):=hh
  obtain ⟨b1,b2,b3,b4⟩:=hb.facts
  refine ⟨(w.setCell ⟨g,0,none⟩ (.bool ng)).setCell ⟨g,1,none⟩ (.slice ao n c),?_,(hb.set ng (.slice ao n c)).v,⟨rfl,rfl,rfl,by simp [World.setCell],fun k hk=>?_⟩⟩
  ·unfold W2
   go_simp
  ·rw [Below.heap_setCell _ _ _ _ (by simpa using hk),Below.heap_setCell _ _ _ _ (by simpa using hk)]
 load:=by
  rintro w g v ⟨cs,⟨ng,ao,n,c,rfl,rfl⟩,hh⟩
  exact af5 (show Box w g ng (.slice ao n c) from hh)
theorem Ag.rl {w w' : World} {ng:Bool} {ao:Option Addr} {n cap:Nat} {xs:List Int} {z:Int} (h:Ag w ng ao n cap xs z) (hr:Rl w w'):Ag w' ng ao n cap xs z:=⟨h.sl.rl hr,h.worth⟩
theorem Got.rl {w w' : World} {ao:Option Addr} {cap:Nat} {rs:List Int} {x:Int} (h:Got w ao cap rs x) (hr:Rl w w'):Got w' ao cap rs x:=⟨h.1.rl hr,h.2⟩
def NeOld:List Bx→Nat→Prop
 | [],_=>True
 | b :: bx,g=>(b.ia=none→b.g0≠g)∧NeOld bx g
theorem NeOld.all:∀ {bx:List Bx} {g:Nat},NeOld bx g→∀ b ∈ bx,b.ia=none→b.g0≠g
 | [],_,_=>fun c hc=>by cases hc
 | b :: bx,g,h=>fun c hc=>by
  rcases List.mem_cons.1 hc with rfl | hc
  ·exact h.1
  ·exact NeOld.all h.2 c hc
theorem BoxV.keep {τ:BoxTy} {bx:List Bx} {w w' : World} {g:Nat} {v:Value} (h:BoxV τ w g v) (hb:But bx w w') (hn:NeOld bx g):BoxV τ w' g v:=by
 obtain ⟨cs,hc,h⟩:=h
 exact ⟨cs,hc,(hb.keep g (aaa h) hn.all).trans h⟩
def DisOld:List Bx→Prop
 | []=>True
 | b :: bx=>(b.ia=none→NeOld bx b.g0)∧DisOld bx
theorem DisOld.all:∀ {bx:List Bx},DisOld bx→∀ (k k' : Nat) (b b' : Bx),bx[k]? = some b→bx[k']? = some b'→k≠k'→b.ia=none→b'.ia=none→b.g0≠b'.g0
 | c :: bx,h,k,k',b,b',hk,hk',hne,hi,hi'=>by
  cases k with
  | zero =>
   simp only [List.getElem?_cons_zero,Option.some.injEq] at hk
   subst hk
   cases k' with
   | zero=>exact absurd rfl hne
   | succ k'=>exact fun e=>NeOld.all (h.1 hi) b' (List.mem_of_getElem? (by simpa using hk')) hi' e.symm
  | succ k =>
   cases k' with
   | zero =>
    simp only [List.getElem?_cons_zero,Option.some.injEq] at hk'
    subst hk'
    exact fun e=>NeOld.all (h.1 hi') b (List.mem_of_getElem? (by simpa using hk)) hi e
   | succ k'=>exact DisOld.all h.2 k k' b b' (by simpa using hk) (by simpa using hk') (fun e=>hne (by rw [e])) hi hi'
def UpOld (B:Nat):List Bx→Prop
 | []=>True
 | b :: bx=>(b.ia=none→B≤b.g0)∧UpOld B bx
theorem UpOld.all {B:Nat} : ∀ {bx:List Bx},UpOld B bx→∀ b ∈ bx,b.ia=none→B≤b.g0
 | [],_=>fun c hc=>by cases hc
 | b :: bx,h=>fun c hc=>by
  rcases List.mem_cons.1 hc with rfl | hc
  ·exact h.1
  ·exact UpOld.all h.2 c hc
def IsOld (a:Act) (w:World):List Bx→Prop
 | []=>True
 | b :: bx=>(b.ia=none→a.eval (.tmp b.d)=.pointer (some ⟨b.g0,0,none⟩)∧BoxV b.τ w b.g0 b.v0)∧IsOld a w bx
theorem IsOld.all {a:Act} {w:World} : ∀ {bx:List Bx},IsOld a w bx→∀ b ∈ bx,b.ia=none→a.eval (.tmp b.d)=.pointer (some ⟨b.g0,0,none⟩)∧BoxV b.τ w b.g0 b.v0
 | [],_=>fun c hc=>by cases hc
 | b :: bx,h=>fun c hc=>by
  rcases List.mem_cons.1 hc with rfl | hc
  ·exact h.1
  ·exact IsOld.all h.2 c hc
theorem aap {P:Program} : ∀ b ∈ ([]:List Bx),BoxOk P b.τ:=fun _ h=>by cases h
theorem adu {P:Program} {b:Bx} {bx:List Bx} (h:BoxOk P b.τ) (t:∀ b ∈ bx,BoxOk P b.τ):∀ b' ∈ b :: bx,BoxOk P b'.τ:=fun b' hm=>by
 rcases List.mem_cons.1 hm with rfl | hm
 ·exact h
 ·exact t b' hm
theorem Eqs.mono4 (x:Value):Mono4 (Eqs x):=fun _ _ _ _ h=>h
theorem True.mono4:Mono4 (fun _ _=>True):=fun _ _ _ _ h=>h
theorem IsW.mono4 (z:Int) (L:Nat):Mono4 (IsW z L):=fun _ _ _ hb ⟨ng,ao,n,cap,xs,e,h,l⟩=>⟨ng,ao,n,cap,xs,e,⟨h.sl.rl hb,h.worth⟩,l⟩
theorem OutW.mono4 (z:Int) (L:Nat):Mono4 (OutW z L):=fun _ _ _ hb ⟨ng,ao,cap,rs,e,h,l⟩=>⟨ng,ao,cap,rs,e,⟨⟨h.1.1.rl hb,h.1.2⟩,h.2⟩,l⟩
theorem OutW.cs {z:Int} {L:Nat} (v:Value) (w:World) (h:OutW z L v w):∃ cs,W2.Cs v cs:=by
 obtain ⟨ng,ao,cap,rs,rfl,_⟩:=h
 exact ⟨_,_,_,_,_,rfl,rfl⟩
section
variable {dst:Option Tmp} {ty:TypeId} {pos:String} {after:Array Edge} {guard:Option (Nat × Bool)} {a:Act} {w:World} {ats:Array TypeId} {i j k g:Nat} {x y z:Int} {L L1 L2:Nat}
theorem ah2 {f off:Nat} (hf:∀ w:World,(Instr.fieldAt 33 (.pointer (some ⟨g,0,none⟩)) f).run Tryz.prog w=.ok (.pointer (some ⟨g,off,none⟩)) w) (hp:a.eval (.tmp k)=.pointer (some ⟨g,0,none⟩)) :
  Does Tryz.prog { dst,op:=.fieldAddr 33 (.tmp k) f,type:=ty,pos,after,guard } a.eval w fun v' w'=>Below w.heap.size w w'∧Eqs (.pointer (some ⟨g,off,none⟩)) v' w' := by
 refine ⟨?_⟩
 unfold Turns
 simp only [execOp,hp]
 simp [hf]
 exact ⟨Below.refl _ _,rfl⟩
theorem aot (w:World):(Instr.fieldAt 33 (.pointer (some ⟨g,0,none⟩)) 0).run Tryz.prog w=.ok (.pointer (some ⟨g,0,none⟩)) w:=by go_simp
theorem aou (w:World):(Instr.fieldAt 33 (.pointer (some ⟨g,0,none⟩)) 1).run Tryz.prog w=.ok (.pointer (some ⟨g,1,none⟩)) w:=by go_simp
theorem ail {ng:Bool} {ao:Option Addr} {n c:Nat} (hp:a.eval (.tmp k)=.pointer (some ⟨g,0,none⟩)) (hb:BoxV W2 w g (.agg #[.bool ng,.slice ao n c])) :
  Does Tryz.prog { dst,op:=.load 4 (.tmp k),type:=ty,pos,after,guard } a.eval w fun v' w'=>Below w.heap.size w w'∧Eqs (.bool ng) v' w' := by
 obtain ⟨b1,b2,b3,b4⟩:=hb.box.facts
 refine abd (v:=.bool ng) ?_ ⟨Below.refl _ _,rfl⟩
 rw [hp]
 go_simp
theorem aim {ng:Bool} {ao:Option Addr} {n c:Nat} (hp:a.eval (.tmp k)=.pointer (some ⟨g,1,none⟩)) (hb:BoxV W2 w g (.agg #[.bool ng,.slice ao n c])) :
  Does Tryz.prog { dst,op:=.load 31 (.tmp k),type:=ty,pos,after,guard } a.eval w fun v' w'=>Below w.heap.size w w'∧Eqs (.slice ao n c) v' w' := by
 obtain ⟨b1,b2,b3,b4⟩:=hb.box.facts
 refine abd (v:=.slice ao n c) ?_ ⟨Below.refl _ _,rfl⟩
 rw [hp]
 go_simp
theorem aaj {x:Operand} {v:Value} (h:a.eval x=v):Does Tryz.prog { dst,op:=.move x,type:=ty,pos,after,guard } a.eval w fun v' w'=>Below w.heap.size w w'∧Eqs v v' w' := ahe ⟨Below.refl _ _,h⟩
theorem adw {x:Operand} {p:Says} (h:p (a.eval x) w):Does Tryz.prog { dst,op:=.move x,type:=ty,pos,after,guard } a.eval w fun v' w'=>Below w.heap.size w w'∧p v' w' := ahe ⟨Below.refl _ _,h⟩
theorem avt {x:Operand} {p:Says} (h:p (a.eval x) w):Does Tryz.prog { dst,op:=.assign x,type:=ty,pos,after,guard } a.eval w fun v' w'=>Below w.heap.size w w'∧p v' w' := afh ⟨Below.refl _ _,h⟩
theorem avu {t:TypeId} {b:Bool} (h:a.eval (.tmp i)=.bool b):Does Tryz.prog { dst,op:=.unOp .not t (.tmp i),type:=ty,pos,after,guard } a.eval w fun v' w'=>Below w.heap.size w w'∧Eqs (.bool (!b)) v' w' := by
 refine at3 (v:=.bool (!b)) ?_ ⟨Below.refl _ _,rfl⟩
 rw [h]
 simp [go_sem]
theorem at7 {b c:Bool} (h1:a.eval (.tmp i)=.bool b) (h2:a.eval (.tmp j)=.bool c) :
  Does Tryz.prog { dst,op:=.binOp .eql 4 (.tmp i) (.tmp j) 4,type:=ty,pos,after,guard } a.eval w fun v w'=>Below w.heap.size w w'∧Eqs (.bool (b == c)) v w' := by
 refine acq (v:=.bool (b == c)) ?_ ?_ ⟨Below.refl _ _,rfl⟩
 ·rw [h1,h2];simp [go_sem]
 ·rw [h1,h2];simp [go_sem]
end
def Tup2 (p q:Says):Says:=fun v w=>∃ x y,v=.tuple #[x,y]∧p x w∧q y w
theorem Tup2.mono4 {p q:Says} (hp:Mono4 p) (hq:Mono4 q):Mono4 (Tup2 p q):=fun _ _ _ hr ⟨x,y,e,h1,h2⟩=>⟨x,y,e,hp _ _ _ hr h1,hq _ _ _ hr h2⟩
def OutL (x:Int) (L:Nat):Says:=fun v w=>∃ ao cap rs,v=.slice ao rs.length cap∧Got w ao cap rs x∧rs.length≤L
theorem OutL.mono4 (x:Int) (L:Nat):Mono4 (OutL x L):=fun _ _ _ hr ⟨ao,cap,rs,e,h,l⟩=>⟨ao,cap,rs,e,h.rl hr,l⟩
theorem at8 {v:Value} {w:World} {ng:Bool} {ao:Option Addr} {c:Nat} {rs:List Int} {z:Int} {L:Nat} (h:v=.agg #[.bool ng,.slice ao rs.length c]) (hA:Wh w ng ao c rs z) (hl:rs.length≤L):OutW z L v w:=⟨_,_,_,_,h,hA,hl⟩
theorem at9 {v:Value} {w:World} {ao:Option Addr} {c:Nat} {rs:List Int} {z:Int} {L:Nat} (h:v=.slice ao rs.length c) (hA:Got w ao c rs z) (hl:rs.length≤L):OutL z L v w:=⟨_,_,_,h,hA,hl⟩
theorem someNe {α:Type} {x:α} {p:Prop} (h:some x=none):p:=by cases h
theorem ain {τ:BoxTy} {w:World} {g g0:Nat} {x v:Value} (hg:g=g0) (h:BoxV τ w g x) (e:x=v):BoxV τ w g0 v:=by
 subst hg e
 exact h
theorem ab9 {next:Act→World→Prop} {Q:Exit→Act→World→Prop} {a:Act} {w:World} (h:Q .ret a w):Exit.then next Q .ret a w:=h
section
variable {next:Act→World→Prop} {Q:Exit→Act→World→Prop} {a:Act} {w:World} {id id' : Nat}
theorem abw (h:Q .ret a w):Exit.inBlock id Q .ret a w:=h
theorem abx (h:Q .ret a w):Exit.noGoto Q .ret a w:=h
theorem aeq (h:Q .normal a w):Exit.inBlock id Q .normal a w:=h
theorem aow (h:Q (.exit id) a w):Exit.then next Q (.exit id) a w:=h
theorem al9 (h:Q (.exit id) a w):Exit.noGoto Q (.exit id) a w:=h
theorem ama (h:Q .normal a w):Exit.inBlock id Q (.exit id) a w:=by
 show (if id=id then _ else _)
 rw [if_pos rfl]
 exact h
theorem amb (hn:id'≠id) (h:Q (.exit id') a w):Exit.inBlock id Q (.exit id') a w:=by
 show (if id' = id then _ else _)
 rw [if_neg hn]
 exact h
end
theorem avv {v:Value} {τ:BoxTy} (h:∃ cs,τ.Cs v cs):∀ (u:Value) (w:World),Eqs v u w→∃ cs,τ.Cs u cs:=fun u _ e=>by
 have e:u=v:=e
 rw [e]
 exact h
theorem amc {ng:Bool} {ao:Option Addr} {n c:Nat} : ∃ cs,W2.Cs (.agg #[.bool ng,.slice ao n c]) cs:=⟨_,_,_,_,_,rfl,rfl⟩
section
variable {P:Program} {dst:Option Tmp} {ty:TypeId} {pos:String} {after:Array Edge} {guard:Option (Nat × Bool)} {a:Act} {w:World} {ats:Array TypeId} {i j k g:Nat} {x y z:Int} {L L1 L2:Nat}
theorem adx {p q:Says} (h:Tup2 p q (a.eval (.tmp i)) w):Does P { dst,op:=.extract (.tmp i) 0,type:=ty,pos,after,guard } a.eval w fun v' w'=>Below w.heap.size w w'∧p v' w' := by
 obtain ⟨x,y,e,h1,h2⟩:=h
 exact aep (v:=x) (by rw [e];simp [go_sem]) ⟨Below.refl _ _,h1⟩
theorem ady {p q:Says} (h:Tup2 p q (a.eval (.tmp i)) w):Does P { dst,op:=.extract (.tmp i) 1,type:=ty,pos,after,guard } a.eval w fun v' w'=>Below w.heap.size w w'∧q v' w' := by
 obtain ⟨x,y,e,h1,h2⟩:=h
 exact aep (v:=y) (by rw [e];simp [go_sem]) ⟨Below.refl _ _,h2⟩
theorem ard {c x y:Operand} {b:Bool} {v:Value} (hc:a.eval c=.bool b) (h:(if b then a.eval x else a.eval y)=v):Does P { dst,op:=.pick c x y,type:=ty,pos,after,guard } a.eval w fun v' w'=>Below w.heap.size w w'∧Eqs v v' w' := aos hc ⟨Below.refl _ _,h⟩
end
theorem amd {w:World} {g:Nat} {v:Value} (h:BoxV W2 w g v):(loadVar 33 ⟨g,0,none⟩).run Tryz.prog w=.ok v w:=by
 obtain ⟨cs,⟨ng,ao,n,c,rfl,rfl⟩,hh⟩:=h
 obtain ⟨b1,b2,b3,b4⟩:=(show Box w g ng (.slice ao n c) from hh).facts
 go_simp
theorem af7 {P:Program} {fn:Func} {a:Act} {w:World} {k g:Nat} {T:TypeId} {v:Value} (hr:fn.results = #[.cell k T]) (hp:a.eval (.tmp k)=.pointer (some ⟨g,0,none⟩)) (hl:(loadVar T ⟨g,0,none⟩).run P w=.ok v w):(results fn a.tmps).run P w=.ok v w:=by
 have hp' : a.tmps[k]?.getD undef=.pointer (some ⟨g,0,none⟩):=by simpa [Act.eval] using hp
 simp [results,hr,hp',asAddr,hl]
theorem ah3 {P:Program} {fn:Func} {a:Act} {w:World} {k:Nat} {v:Value} (hr:fn.results = #[.tmp k]) (hp:a.eval (.tmp k)=v):(results fn a.tmps).run P w=.ok v w:=by
 have hp' : a.tmps[k]?.getD undef=v:=by simpa [Act.eval] using hp
 simp [results,hr,hp']
theorem aio {P:Program} {fn:Func} {a:Act} {w:World} {k g k' : Nat} {T:TypeId} {v v' : Value} (hr:fn.results = #[.cell k T,.tmp k']) (hp:a.eval (.tmp k)=.pointer (some ⟨g,0,none⟩)) (hl:(loadVar T ⟨g,0,none⟩).run P w=.ok v w) (hp2:a.eval (.tmp k')=v'):(results fn a.tmps).run P w=.ok (.tuple #[v,v']) w:=by
 have hp' : a.tmps[k]?.getD undef=.pointer (some ⟨g,0,none⟩):=by simpa [Act.eval] using hp
 have hp2' : a.tmps[k']?.getD undef=v' := by simpa [Act.eval] using hp2
 simp [results,hr,hp',asAddr,hl,hp2']
section
variable {dst:Option Tmp} {ty:TypeId} {pos:String} {after:Array Edge} {guard:Option (Nat × Bool)} {a:Act} {w:World} {ats:Array TypeId} {i j k g:Nat} {x y z p q:Int} {L L1 L2:Nat}
theorem avw:Does Tryz.prog { dst,op:=.build 33 #[],type:=ty,pos,after,guard } a.eval w fun v' w'=>Below w.heap.size w w'∧Eqs (.agg #[.bool false,.slice none 0 0]) v' w' := by
 have e:(execOp a.eval { dst,op:=.build 33 #[],type:=ty,pos,after,guard }).run Tryz.prog w=.ok (.value (.agg #[.bool false,.slice none 0 0])) w:=by
  simp only [execOp,List.map_toArray,List.map_nil]
  go_simp
 refine ⟨?_⟩
 unfold Turns
 rw [e]
 exact ⟨Below.refl _ _,rfl⟩
end
structure Ru (w w' : World):Prop where
 size:w.heap.size≤w'.heap.size
 ints:∀ (p:Addr) (z:Int),w.cell? p=some (.int .u32 z)→w'.cell? p=some (.int .u32 z)
 rows:∀ (g:Nat) (cs:Array Value),w.heap[g]? = some (.cells cs 68 (0,0))→w'.heap[g]? = some (.cells cs 68 (0,0))
theorem Ru.of_rl {w w' : World} (h:Rl w w'):Ru w w' := ⟨h.size,fun p z=>h.ints p .u32 z,fun g cs=>h.rows g cs _ (.inl rfl)⟩
theorem Ru.of_below {w w' : World} (h:Below w.heap.size w w'):Ru w w' := Ru.of_rl (Rl.of_below h)
theorem Ru.refl (w:World):Ru w w:=⟨Nat.le_refl _,fun _ _ h=>h,fun _ _ h=>h⟩
theorem Ru.trans {w w' w'' : World} (h:Ru w w') (h' : Ru w' w''):Ru w w'' := ⟨Nat.le_trans h.size h'.size,fun p z e=>h'.ints p z (h.ints p z e),fun g cs e=>h'.rows g cs (h.rows g cs e)⟩
theorem Sl.ru {w w' : World} {v:Value} {zs:List Int} (h:Sl w v zs) (hr:Ru w w'):Sl w' v zs:=by
 obtain ⟨ao,cap,rfl,h1,h2,h3,h4⟩:=h
 refine ⟨ao,cap,rfl,h1,h2,h3,?_⟩
 rcases h4 with h4 | ⟨b,off,rfl,hc⟩
 ·exact .inl h4
 ·exact .inr ⟨b,off,rfl,fun i hi=>hr.ints _ _ (hc i hi)⟩
def Mono5 (p:Says):Prop:=∀ v w w',Ru w w'→p v w→p v w'
section
end
theorem Ru.of_one {w w' : World} {g:Nat} {cs:Array Value} {T:TypeId} (hh:w.heap[g]? = some (.cells cs T (0,0))) (hT:T≠68) (hc:∀ (i:Nat) (z:Int),cs[i]?≠some (.int .u32 z)) (hs:w.heap.size≤w'.heap.size) (ho:∀ k,k<w.heap.size→k≠g→w'.heap[k]? = w.heap[k]?):Ru w w' := by
 refine ⟨hs,fun p z e=>?_,fun k cs' e=>?_⟩
 ·by_cases hp:p.block=g
  ·exfalso
   obtain ⟨b,o,m⟩:=p
   simp only at hp
   subst hp
   simp only [World.cell?,hh] at e
   cases m with
   | none=>exact hc o z (by simpa using e)
   | some m=>simp at e
  ·rw [World.cell?_of_block (w:=w) (ho p.block (adm e) hp)]
   exact e
 ·by_cases hk:k=g
  ·exfalso
   subst hk
   rw [hh] at e
   injection e with e
   injection e with _ e _
   exact hT e
  ·exact (ho k (aaa e) hk).trans e
theorem Ag.ru {w w' : World} {ng:Bool} {ao:Option Addr} {n cap:Nat} {xs:List Int} {z:Int} (h:Ag w ng ao n cap xs z) (hr:Ru w w'):Ag w' ng ao n cap xs z:=⟨h.sl.ru hr,h.worth⟩
theorem Got.ru {w w' : World} {ao:Option Addr} {cap:Nat} {rs:List Int} {x:Int} (h:Got w ao cap rs x) (hr:Ru w w'):Got w' ao cap rs x:=⟨h.1.ru hr,h.2⟩
theorem Wh.ru {w w' : World} {ng:Bool} {ao:Option Addr} {cap:Nat} {rs:List Int} {z:Int} (h:Wh w ng ao cap rs z) (hr:Ru w w'):Wh w' ng ao cap rs z:=⟨Got.ru h.1 hr,h.2⟩
theorem IsW.mono5 (z:Int) (L:Nat):Mono5 (IsW z L):=fun _ _ _ hb ⟨ng,ao,n,cap,xs,e,h,l⟩=>⟨ng,ao,n,cap,xs,e,h.ru hb,l⟩
theorem OutW.mono5 (z:Int) (L:Nat):Mono5 (OutW z L):=fun _ _ _ hb ⟨ng,ao,cap,rs,e,h,l⟩=>⟨ng,ao,cap,rs,e,h.ru hb,l⟩
theorem ae6 {W:World} {f:Nat} {ng:Bool} {a:Option Addr} {n c:Nat} (h:W.heap[f]? = some (.cells #[.bool ng,.slice a n c] 33 (0,0))) (u v:Value):Ru W ((W.setCell ⟨f,0,none⟩ u).setCell ⟨f,1,none⟩ v):=by
 refine Ru.of_one h (by decide) ?_ (by simp [World.setCell]) (fun k _ hn=>by rw [heap_setCell_other _ ⟨f,1,none⟩ k _ hn,heap_setCell_other _ ⟨f,0,none⟩ k _ hn])
 intro i z
 match i with
 | 0=>simp
 | 1=>simp
 | i+2=>simp
theorem adz {W:World} {f:Nat} {x y:Value} {T:TypeId} (h:W.heap[f]? = some (.cells #[x,y] T (0,0))) (u v:Value):((W.setCell ⟨f,0,none⟩ u).setCell ⟨f,1,none⟩ v).heap[f]? = some (.cells #[u,v] T (0,0)):=by
 have s1:=heap_setCell_same W f 0 _ _ u h
 have s2:=heap_setCell_same _ f 1 _ _ v s1
 rw [s2]
 simp
theorem lvw2 {W:World} {f:Nat} {ng:Bool} {a:Option Addr} {n c:Nat} (h:W.heap[f]? = some (.cells #[.bool ng,.slice a n c] 33 (0,0))):(loadVar 33 ⟨f,0,none⟩).run Tryz.prog W=.ok (.agg #[.bool ng,.slice a n c]) W:=amd ⟨_,⟨_,_,_,_,rfl,rfl⟩,h⟩
theorem aa1 {W:World} {f:Nat} {x y:Value} {T:TypeId} (h:W.heap[f]? = some (.cells #[x,y] T (0,0))):f<W.heap.size∧W.cell? ⟨f,0,none⟩ = some x∧W.cell? ⟨f,1,none⟩ = some y∧W.frozen? ⟨f,0,none⟩ = false∧W.frozen? ⟨f,1,none⟩ = false:=⟨aaa h,by rw [cell_of_row _ _ _ _ _ (0,0) h];rfl,by rw [cell_of_row _ _ _ _ _ (0,0) h];rfl,frozen_of_row _ _ _ _ _ h,frozen_of_row _ _ _ _ _ h⟩
theorem hAl (W:World) (o:Obj):Below W.heap.size W (W.alloc o):=(Below.refl _ _).alloc (Nat.le_refl _) o
theorem ame {W:World} {f:Nat} {o o' : Obj} (h:W.heap[f]? = some o):(W.alloc o').heap[f]? = some o:=((hAl W o').block f (aaa h)).trans h
end Lm
end Go.Proofs.YtgclhjjmleiggaaGreatDoor
namespace Go.Proofs.YtgclhjjmleiggaaGreatDoor
namespace Lm
open Go.RowKit
theorem arf {ps Y qs:List Int} {k:Nat} {x y a c b t r:Int} (hk:qs.length=k) (hy:Y.getD k 0=y) (ha:ps.getD k 0=a) (ht:t=x*y+c) (hr:r=a - t % 4294967296 - b) (h1 : -4294967296≤r) (h2:r<4294967296) (h:val qs - pw k*(c+b)=vf ps k - x*vf Y k) :
  val (qs ++ [r % 4294967296]) - pw (k+1)*(t / 4294967296+bor r)=vf ps (k+1) - x*vf Y (k+1):=by
 rw [aba,vf,vf,ha,hy,hk,pw,ah9 h1 h2]
 have e:t=t % 4294967296+4294967296*(t / 4294967296):=by omega
 have e1:pw k*(r+4294967296*bor r)=pw k*r+4294967296*pw k*bor r:=by rw [Int.mul_add,Int.mul_comm 4294967296 (pw k),Int.mul_assoc]
 have e2:4294967296*pw k*(t / 4294967296+bor r)=pw k*(4294967296*(t / 4294967296))+4294967296*pw k*bor r:=by rw [Int.mul_add,Int.mul_comm 4294967296 (pw k),Int.mul_assoc]
 have e3:pw k*(4294967296*(t / 4294967296))=pw k*t - pw k*(t % 4294967296):=by rw [←Int.mul_sub];congr 1;omega
 have e4:x*(vf Y k+pw k*y)=x*vf Y k+pw k*(x*y):=by rw [Int.mul_add,←Int.mul_assoc x,Int.mul_comm x (pw k),Int.mul_assoc]
 have e5:pw k*t=pw k*(x*y)+pw k*c:=by rw [ht,Int.mul_add]
 have e6:pw k*r=pw k*a - pw k*(t % 4294967296) - pw k*b:=by rw [hr,Int.mul_sub,Int.mul_sub]
 have e7:pw k*(c+b)=pw k*c+pw k*b:=Int.mul_add _ _ _
 rw [e1,e2,e3,e4,e5,e6]
 omega
theorem amf {Y:List Int} {k:Nat} {x y c t:Int} (hy:Y.getD k 0=y) (ht:t=x*y+c) (h:pw k*c≤x*vf Y k):pw (k+1)*(t / 4294967296)≤x*vf Y (k+1):=by
 rw [vf,hy,pw]
 have e1:4294967296*pw k*(t / 4294967296)=pw k*(4294967296*(t / 4294967296)):=by rw [Int.mul_comm 4294967296 (pw k),Int.mul_assoc]
 have e2:pw k*(4294967296*(t / 4294967296))≤pw k*t:=Int.mul_le_mul_of_nonneg_left (by omega) (by have:=aaw k;omega)
 have e3:pw k*t=pw k*(x*y)+pw k*c:=by rw [ht,Int.mul_add]
 have e4:x*(vf Y k+pw k*y)=x*vf Y k+pw k*(x*y):=by rw [Int.mul_add,←Int.mul_assoc x,Int.mul_comm x (pw k),Int.mul_assoc]
 omega
theorem amg {Y:List Int} {n:Nat} {x c:Int} (hY:Limb Y) (hl:Y.length=n) (hx:0≤x∧x<4294967296) (hc:0≤c) (h:pw (n+1)*c≤x*vf Y (n+1)):c=0:=by
 rw [aa8 Y _ (by omega),pw] at h
 have hb:=aab hY
 rw [hl] at hb
 have h1:x*val Y≤4294967295*val Y:=Int.mul_le_mul_of_nonneg_right (by omega) hb.1
 apply Classical.byContradiction
 intro hn
 have h2:4294967296*pw n*1≤4294967296*pw n*c:=Int.mul_le_mul_of_nonneg_left (by omega) (by have:=aaw n;omega)
 omega
set_option maxRecDepth 20000 in
set_option maxHeartbeats 1000000 in
theorem ahu (w:World) (g o n cap c2:Nat) (cur:Array Value) (ps Y:List Int) (a2:Option Addr) (x:Int) (hx:0≤x∧x<4294967296)
  (hh:w.heap[g]? = some (.cells cur 68 (0,0))) (ha:At cur .u32 o ps) (hp:Limb ps) (hpl:ps.length=n+1) (hm:n≤1000000000)
  (hY:∀ wr cur',Wr w wr g cur' 68→Sl wr (.slice a2 n c2) Y) :
  Calls Tryz.prog 135 #[.slice (some ⟨g,o,none⟩) (n+1) cap,.slice a2 n c2,.int .u32 x] w fun e w'=>∃ qs b cur',e=.returned (.bool (b != 0))∧(0≤b∧b≤1)∧val qs - pw (n+1)*b=val ps - x*val Y∧Limb qs∧qs.length=n+1∧Wr w w' g cur' 68∧cur'.size=cur.size∧At cur' .u32 o qs∧(∀ i,i<o∨o+(n+1)≤i→cur'[i]? = cur[i]?):=by
 obtain ⟨hYl,g1,g2,g3⟩:=(hY _ _ (Wr.refl hh)).parts
 have HP:=hide hp
 have HY:=hide g3
 have HYL:=hide hYl
 have HPL:=hide hpl
 have HH:=hide hh
 have HA:=hide ha
 clear hp g3 hYl hpl hh ha
 go_enter Tryz.func135,Tryz.ntmps135
 go_wp2
 go_loopw [7,8,14] (fun cv bv i wr=>∃ (k:Nat) (c b:Int) (qs:List Int) (cur' : Array Value),k≤n+1∧cv=.int .u64 c∧bv=.int .i64 b∧i=.int .i64 k∧(0≤c∧c<4294967296)∧(0≤b∧b≤1)∧qs.length=k∧Limb qs∧val qs - pw k*(c+b)=vf ps k - x*vf Y k∧pw k*c≤x*vf Y k∧Wr w wr g cur' 68∧cur'.size=cur.size∧At cur' .u32 o (qs ++ ps.drop k)∧(∀ i,i<o∨o+(n+1)≤i→cur'[i]? = cur[i]?)) (fun _ _ i _=>n+1 - (intOf i).toNat)
 case atStart=>exact ⟨0,0,0,[],cur,Nat.zero_le _,rfl,rfl,rfl,by omega,by omega,rfl,aaf,by simp [val,vf,pw],by simp [vf],Wr.refl HH.out,rfl,by simpa using HA.out,fun _ _=>rfl⟩
 case round =>
  obtain ⟨k,c,b,qs,cur',hk,rfl,rfl,rfl,hc,hbb,hql,hq,hval,hcar,hwr,hcs,hat,hout⟩:=hrel
  have HQL:=hide hql
  have HQ:=hide hq
  have HV:=hide hval
  have HCar:=hide hcar
  have HW:=hide hwr
  have HC:=hide hcs
  have HT:=hide hat
  have HO:=hide hout
  clear hql hq hval hcar hwr hcs hat hout
  by_cases hlt:k<n+1
  ·have sy:=hY _ _ HW.out
   have hlen:(qs ++ ps.drop k).length=n+1:=by have:=HQL.out;have:=HPL.out;simp;omega
   have co:=HT.out.cell HW.out.here k (by rw [hlen];omega)
   have e1:(qs ++ ps.drop k).getD k 0=ps.getD k 0:=by
    rw [List.getD_eq_getElem?_getD,List.getElem?_append_right (by have:=HQL.out;omega),List.getElem?_drop,List.getD_eq_getElem?_getD,HQL.out]
    congr 2
    omega
   rw [e1] at co
   have hfree:=HW.out.free (o+k)
   have by' := aah HY.out k
   have ba:=aah HP.out k
   obtain ⟨y,hy⟩:∃ y,Y.getD k 0=y:=⟨_,rfl⟩
   obtain ⟨a,hpa⟩:∃ a,ps.getD k 0=a:=⟨_,rfl⟩
   have ky:Hid (Calls Tryz.prog 51 #[.slice a2 n c2,.int .i64 k] wr fun e w'=>e=.returned (.int .u32 y)∧w' = wr):=by rw [←hy];exact ab6 _ _ Y sy k
   rw [hy] at by'
   rw [hpa] at co ba
   have hxy:=aeo hx by'
   have s0:0≤(x*y+c) % 4294967296∧(x*y+c) % 4294967296<4294967296:=by omega
   have s1 : -4294967296≤a - (x*y+c) % 4294967296 - b:=by omega
   have s2:a - (x*y+c) % 4294967296 - b<4294967296:=by omega
   have hand:=alj s1 s2
   have hbo:=aoa (a - (x*y+c) % 4294967296 - b)
   have HV' := hide (arf (x:=x) HQL.out hy hpa rfl rfl s1 s2 HV.out)
   have HCar' := hide (amf (x:=x) hy rfl HCar.out)
   have HT' := hide (HT.out.set k ((a - (x*y+c) % 4294967296 - b) % 4294967296))
   have HW' := hide (HW.out.set (o+k) (.int .u32 ((a - (x*y+c) % 4294967296 - b) % 4294967296)))
   have d1:(k:Int)<(n:Int)+1:=by omega
   clear hlen e1 hy hpa sy
   go_wp2_with fail
   refine (ky.out).mono ?_
   rintro e w2 ⟨rfl,rfl⟩
   go_wp2
   go_roundw
   case rel =>
    refine ⟨k+1,(x*y+c) / 4294967296,_,qs ++ [(a - (x*y+c) % 4294967296 - b) % 4294967296],_,by omega,rfl,rfl,by go_num,by omega,hbo,by have:=HQL.out;simp;omega,aan.2 ⟨HQ.out,aag.2 ⟨by omega,aaf⟩⟩,HV'.out,HCar'.out,HW'.out,by simpa using HC.out,by rw [←aa3 qs ps k _ HQL.out (by have:=HPL.out;omega)];exact HT'.out,fun i hi=>?_⟩
    rw [Array.getElem?_setIfInBounds,if_neg (by omega)]
    exact HO.out i hi
   case measure=>simp [intOf];omega
  ·have hkn:k=n+1:=by omega
   subst hkn
   have hc0:=amg HY.out HYL.out.symm hx hc.1 HCar.out
   have HVf:Hid (val qs - pw (n+1)*b=val ps - x*val Y):=by
    have h9:=HV.out
    rw [hc0,Int.zero_add,aa8 ps _ (by have:=HPL.out;omega),aa8 Y _ (by have:=HYL.out;omega)] at h9
    exact h9
   have HTf:Hid (At cur' .u32 o qs):=by
    have h9:=HT.out
    rwa [List.drop_of_length_le (by have:=HPL.out;omega),List.append_nil] at h9
   clear hc0
   go_wp2
   go_ret
   exact ⟨qs,b,cur',rfl,hbb,HVf.out,HQ.out,HQL.out,HW.out,HC.out,HTf.out,HO.out⟩
end Lm
end Go.Proofs.YtgclhjjmleiggaaGreatDoor
namespace Go.Proofs.YtgclhjjmleiggaaGreatDoor
namespace Lm
open Go.RowKit
set_option maxRecDepth 20000 in
set_option maxHeartbeats 1000000 in
theorem akf (w:World) (g o n cap c2:Nat) (cur:Array Value) (ps Y:List Int) (a2:Option Addr)
  (hh:w.heap[g]? = some (.cells cur 68 (0,0))) (ha:At cur .u32 o ps) (hp:Limb ps) (hpl:ps.length=n+1) (hm:n≤1000000000)
  (hY:∀ wr cur',Wr w wr g cur' 68→Sl wr (.slice a2 n c2) Y) :
  Calls Tryz.prog 136 #[.slice (some ⟨g,o,none⟩) (n+1) cap,.slice a2 n c2] w fun e w'=>∃ qs c cur',e=.returned (.tuple #[])∧(0≤c∧c≤1)∧val qs+pw (n+1)*c=val ps+val Y∧Limb qs∧qs.length=n+1∧Wr w w' g cur' 68∧cur'.size=cur.size∧At cur' .u32 o qs∧(∀ i,i<o∨o+(n+1)≤i→cur'[i]? = cur[i]?):=by
 obtain ⟨hYl,g1,g2,g3⟩:=(hY _ _ (Wr.refl hh)).parts
 have HP:=hide hp
 have HY:=hide g3
 have HYL:=hide hYl
 have HPL:=hide hpl
 have HH:=hide hh
 have HA:=hide ha
 clear hp g3 hYl hpl hh ha
 go_enter Tryz.func136,Tryz.ntmps136
 go_wp2
 go_loopw [4,9] (fun cv i wr=>∃ (k:Nat) (c:Int) (qs:List Int) (cur' : Array Value),k≤n+1∧cv=.int .u64 c∧i=.int .i64 k∧(0≤c∧c≤1)∧qs.length=k∧Limb qs∧val qs+pw k*c=vf ps k+vf Y k∧Wr w wr g cur' 68∧cur'.size=cur.size∧At cur' .u32 o (qs ++ ps.drop k)∧(∀ i,i<o∨o+(n+1)≤i→cur'[i]? = cur[i]?)) (fun _ i _=>n+1 - (intOf i).toNat)
 case atStart=>exact ⟨0,0,[],cur,Nat.zero_le _,rfl,rfl,by omega,rfl,aaf,by simp [val,vf,pw],Wr.refl HH.out,rfl,by simpa using HA.out,fun _ _=>rfl⟩
 case round =>
  obtain ⟨k,c,qs,cur',hk,rfl,rfl,hc,hql,hq,hval,hwr,hcs,hat,hout⟩:=hrel
  have HQL:=hide hql
  have HQ:=hide hq
  have HV:=hide hval
  have HW:=hide hwr
  have HC:=hide hcs
  have HT:=hide hat
  have HO:=hide hout
  clear hql hq hval hwr hcs hat hout
  by_cases hlt:k<n+1
  ·have sy:=hY _ _ HW.out
   have hlen:(qs ++ ps.drop k).length=n+1:=by have:=HQL.out;have:=HPL.out;simp;omega
   have co:=HT.out.cell HW.out.here k (by rw [hlen];omega)
   have e1:(qs ++ ps.drop k).getD k 0=ps.getD k 0:=by
    rw [List.getD_eq_getElem?_getD,List.getElem?_append_right (by have:=HQL.out;omega),List.getElem?_drop,List.getD_eq_getElem?_getD,HQL.out]
    congr 2
    omega
   rw [e1] at co
   have hfree:=HW.out.free (o+k)
   have by' := aah HY.out k
   have ba:=aah HP.out k
   obtain ⟨y,hy⟩:∃ y,Y.getD k 0=y:=⟨_,rfl⟩
   obtain ⟨a,hpa⟩:∃ a,ps.getD k 0=a:=⟨_,rfl⟩
   have ky:Hid (∀ q,Calls Tryz.prog 51 #[.slice a2 n c2,.int .i64 k] (wr.drewN q) fun e w'=>e=.returned (.int .u32 y)∧w' = wr.drewN q):=by
    intro q;rw [←hy];exact ab6 _ _ Y (sy.below (below_drewN (Below.refl _ _) q)) k
   rw [hy] at by'
   rw [hpa] at co ba
   have hst:=afp ba by' hc rfl
   have HV' := hide (agv HQL.out hpa hy rfl HV.out)
   have HT' := hide (HT.out.set k ((a+y+c) % 4294967296))
   have HW' := hide (HW.out.set (o+k) (.int .u32 ((a+y+c) % 4294967296)))
   have d1:(k:Int)<(n:Int)+1:=by omega
   clear hlen e1 hy hpa sy
   go_wp2
   go_quiet ((go_at_call 51;exact Calls.quiet_of_same (ky.out _)))
   go_wp2
   go_roundw
   case rel =>
    refine ⟨k+1,(a+y+c) / 4294967296,qs ++ [(a+y+c) % 4294967296],_,by omega,rfl,by go_num,by omega,by have:=HQL.out;simp;omega,aan.2 ⟨HQ.out,aag.2 ⟨by omega,aaf⟩⟩,HV'.out,HW'.out.drewN _,by simpa using HC.out,by rw [←aa3 qs ps k _ HQL.out (by have:=HPL.out;omega)];exact HT'.out,fun i hi=>?_⟩
    rw [Array.getElem?_setIfInBounds,if_neg (by omega)]
    exact HO.out i hi
   case measure=>simp [intOf];omega
  ·have hkn:k=n+1:=by omega
   subst hkn
   have HVf:Hid (val qs+pw (n+1)*c=val ps+val Y):=by
    have h9:=HV.out
    rw [aa8 ps _ (by have:=HPL.out;omega),aa8 Y _ (by have:=HYL.out;omega)] at h9
    exact h9
   have HTf:Hid (At cur' .u32 o qs):=by
    have h9:=HT.out
    rwa [List.drop_of_length_le (by have:=HPL.out;omega),List.append_nil] at h9
   go_wp2
   go_end0
   exact ⟨qs,c,cur',rfl,hc,HVf.out,HQ.out,HQL.out,HW.out,HC.out,HTf.out,HO.out⟩
end Lm
end Go.Proofs.YtgclhjjmleiggaaGreatDoor
namespace Go.Proofs.YtgclhjjmleiggaaGreatDoor
namespace Lm
open Go.RowKit
set_option maxRecDepth 20000 in
set_option maxHeartbeats 400000 in
theorem arg (x:Int) (w:World) (h0:0≤x) (h1:x<4294967296) :
  Calls Tryz.prog 132 #[.int .u32 x] w fun e w'=>e=.returned (.int .i64 (32 - (Lib.bitLen x.toNat:Nat)))∧w' = w:=by
 have hl:Lib.bitLen x.toNat≤32:=Lib.bitLen_le _ 32 (by omega) (by omega)
 have kl:=hide (aha x w h0 h1)
 generalize Lib.bitLen x.toNat=l at hl kl
 go_enter Tryz.func132,Tryz.ntmps132
 go_wp2_with fail
 refine (kl.out).mono ?_
 rintro e w' ⟨rfl,rfl⟩
 go_wp2
 go_ret
 exact ⟨rfl,rfl⟩
theorem aoy (s:Nat):(2:Int) ^ s=p2 s:=by
 induction s with
 | zero=>rfl
 | succ s ih=>rw [Int.pow_succ,ih,p2];omega
theorem aip (s:Nat):((2 ^ s:Nat):Int)=p2 s:=by
 induction s with
 | zero=>rfl
 | succ s ih=>rw [Nat.pow_succ,p2];omega
theorem aiq {x c:Int} {s:Nat} (h1:0≤x) (h2:x<4294967296) (hs:s≤31) (h3:0≤c) (h4:c<p2 s):0≤x*p2 s+c∧x*p2 s+c<4294967296*p2 s∧x*p2 s+c<9223372036854775808∧0≤x*p2 s:=by
 have hp:=abj s
 have hp2:=adr (m:=s) (n:=31) hs
 rw [show p2 31=2147483648 from by decide] at hp2
 have e1:0≤x*p2 s:=Int.mul_nonneg h1 (by omega)
 have e2:(x+1)*p2 s≤4294967296*p2 s:=Int.mul_le_mul_of_nonneg_right (by omega) (by omega)
 rw [Int.add_mul] at e2
 omega
theorem arh {x c:Int} {s:Nat} (h1:0≤x) (h2:x<4294967296) (hs:s≤31) (h3:0≤c) (h4:c<p2 s):bits .or .u64 (IntKind.u64.wrap (x*2 ^ s)) c=x*p2 s+c:=by
 have hb:=aiq h1 h2 hs h3 h4
 have hp:=abj s
 rw [aoy,IntKind.wrap_u64,Int.emod_eq_of_lt hb.2.2.2 (by omega),u64_or _ _ hb.2.2.2 (by omega) h3 (by omega)]
 obtain ⟨a,rfl⟩:=Int.eq_ofNat_of_zero_le h1
 obtain ⟨d,rfl⟩:=Int.eq_ofNat_of_zero_le h3
 have e1:((a:Int)*p2 s).toNat=2 ^ s*a:=by
  rw [←aip,Int.mul_comm,←Int.natCast_mul,Int.toNat_natCast]
 have hd:d<2 ^ s:=by have:=aip s;omega
 rw [e1,Int.toNat_natCast,←Nat.two_pow_add_eq_or_of_lt hd,Int.natCast_add,Int.natCast_mul,aip,Int.mul_comm]
theorem avx {zs qs:List Int} {k:Nat} {z c m t:Int} (hk:qs.length=k) (hz:zs.getD k 0=z) (hs:t=z*m+c) (h:val qs+pw k*c=vf zs k*m) :
  val (qs ++ [t % 4294967296])+pw (k+1)*(t / 4294967296)=vf zs (k+1)*m:=by
 rw [aba,vf,hz,hk,pw,Int.add_mul]
 have e:t=t % 4294967296+4294967296*(t / 4294967296):=by omega
 have e2:pw k*(t % 4294967296)+4294967296*pw k*(t / 4294967296)=pw k*t:=by
  rw [Int.mul_comm 4294967296 (pw k),Int.mul_assoc,←Int.mul_add,←e]
 have e3:pw k*z*m=pw k*(z*m):=by rw [Int.mul_assoc]
 rw [Int.add_assoc,e2,hs,Int.mul_add,e3]
 omega
set_option maxRecDepth 20000 in
set_option maxHeartbeats 1000000 in
theorem af8 (w:World) (ao:Option Addr) (n cap:Nat) (xs:List Int) (hx:Sl w (.slice ao n cap) xs) (s:Nat) (hs:s≤31) (hm:xs.length≤1000000000) :
  Calls Tryz.prog 133 #[.slice ao n cap,.int .u64 s] w fun e w'=>∃ cur qs,e=.returned (.slice (some ⟨w.heap.size,0,none⟩) (n+1) (n+1))∧Limb qs∧qs.length=n+1∧val qs=val xs*p2 s∧w'.heap[w.heap.size]? = some (.cells cur 68 (0,0))∧cur.size=n+1∧At cur .u32 0 qs∧Below w.heap.size w w' := by
 obtain ⟨rfl,h1,h2,h3⟩:=hx.parts
 obtain ⟨i0,hi,hz0,hz1,hz2⟩:=info_parts abu
 have H3:=hide h3
 have hp:=abj s
 have hp2:=adr (m:=s) (n:=31) hs
 rw [show p2 31=2147483648 from by decide] at hp2
 clear h3
 go_enter Tryz.func133,Tryz.ntmps133
 go_wp2_with (refine wpList_make_full _ rfl (.tmp 12) (.tmp 12) 31 rfl w.heap.size 68 i0 (.int .u32 0) 1 Tryz.underlying31 hi hz0 hz1 .i64 .i64 _ _ (xs.length+1) rfl rfl (by omega) (by omega) (by rw [hz2];omega) (by unfold maxLen;omega) (Nat.le_refl _) ?hK)
 case hK =>
  intro w1 hown hgrow
  obtain ⟨_,cur,hh,hcs,hat⟩:=abb hown
  have hb1:Below w.heap.size w w1:=(Below.refl w.heap.size w).grown hgrow (Nat.le_refl _) (by simp)
  have HH:=hide hh
  have HS:=hide hcs
  have HA:=hide hat
  clear hown hgrow hh hcs hat
  go_wp2
  go_loopw [6,16] (fun cv i wr=>∃ (k:Nat) (c:Int) (qs:List Int) (cur' : Array Value),k≤xs.length∧cv=.int .u64 c∧i=.int .i64 k∧(0≤c∧c<p2 s)∧qs.length=k∧Limb qs∧val qs+pw k*c=vf xs k*p2 s∧Wr w1 wr w.heap.size cur' 68∧cur'.size=xs.length+1∧At cur' .u32 0 (qs ++ (List.replicate (xs.length+1) 0).drop k)) (fun _ i _=>xs.length - (intOf i).toNat)
  case atStart=>exact ⟨0,0,[],cur,Nat.zero_le _,rfl,rfl,by omega,rfl,aaf,by simp [val,vf,pw],Wr.refl HH.out,HS.out,by simpa using HA.out⟩
  case round =>
   obtain ⟨k,c,qs,cur',hk,rfl,rfl,hcb,hql,hq,hval,hwr,hcs,hat⟩:=hrel
   have HQL:=hide hql
   have HQ:=hide hq
   have HV:=hide hval
   have HW:=hide hwr
   have HC:=hide hcs
   have HT:=hide hat
   clear hql hq hval hwr hcs hat
   by_cases hlt:k<xs.length
   ·have sx:=HW.out.sl (Nat.le_refl _) hb1 rfl hx
    obtain ⟨b,off,rfl,hcx⟩:=sx.cells (by omega)
    have cx:=hcx k (by omega)
    have bx:=aah H3.out k
    obtain ⟨x,hxk⟩:∃ x,xs.getD k 0=x:=⟨_,rfl⟩
    rw [hxk] at cx bx
    have hlen:(qs ++ (List.replicate (xs.length+1) (0:Int)).drop k).length=xs.length+1:=by have:=HQL.out;simp;omega
    have hcell:=HT.out.cell HW.out.here k (by rw [hlen];omega)
    rw [Nat.zero_add] at hcell
    generalize (qs ++ (List.replicate (xs.length+1) (0:Int)).drop k).getD k 0=old at hcell
    have hfree:=HW.out.free k
    obtain ⟨M,hM⟩:∃ M,M=x*p2 s+c:=⟨_,rfl⟩
    have hor:bits .or .u64 (IntKind.u64.wrap (x*2 ^ s)) c=M:=by rw [hM];exact arh bx.1 bx.2 hs hcb.1 hcb.2
    have hmb:=aiq bx.1 bx.2 hs hcb.1 hcb.2
    rw [←hM] at hmb
    have m1:=hmb.1
    have m2:=hmb.2.1
    have m3:=hmb.2.2.1
    have HV' := hide (avx HQL.out hxk hM HV.out)
    have HT' := hide (HT.out.set k (M % 4294967296))
    have HW' := hide (HW.out.set k (.int .u32 (M % 4294967296)))
    clear hlen sx hcx hM hmb hxk
    go_wp2
    go_roundw
    case rel=>exact ⟨k+1,M / 4294967296,qs ++ [M % 4294967296],_,by omega,rfl,by go_num,by omega,by have:=HQL.out;simp;omega,aan.2 ⟨HQ.out,aag.2 ⟨by omega,aaf⟩⟩,HV'.out,HW'.out,by simpa using HC.out,by rw [←aa3 qs _ k _ HQL.out (by simp;omega)];simpa using HT'.out⟩
    case measure=>simp [intOf];omega
   ·have hkM:k=xs.length:=by omega
    subst hkM
    have hlen:(qs ++ (List.replicate (xs.length+1) (0:Int)).drop xs.length).length=xs.length+1:=by have:=HQL.out;simp;omega
    have hcell:=HT.out.cell HW.out.here xs.length (by rw [hlen];omega)
    rw [Nat.zero_add] at hcell
    have hfree:=HW.out.free xs.length
    generalize hold:(qs ++ (List.replicate (xs.length+1) (0:Int)).drop xs.length).getD xs.length 0=old at hcell
    have hat2:=HT.out.set xs.length c
    rw [aa3 qs _ xs.length c HQL.out (by simp),List.drop_of_length_le (by simp),List.append_nil,Nat.zero_add] at hat2
    have hw2:=HW.out.set xs.length (.int .u32 c)
    have hlr:Limb (qs ++ [c]):=aan.2 ⟨HQ.out,aag.2 ⟨by omega,aaf⟩⟩
    have R:=hide (And.intro hat2 (And.intro hw2 (And.intro hlr (show val (qs ++ [c])=val xs*p2 s by
     rw [aba,HQL.out,HV.out,aa8 xs _ (Nat.le_refl _)]))))
    have hbel:Below w.heap.size w (wr.setCell ⟨w.heap.size,xs.length,none⟩ (.int .u32 c)):=hb1.trans (hw2.below (Nat.le_refl _))
    have hc2:c<4294967296:=by omega
    clear hat2 hw2 hlr hlen hold
    go_wp2
    go_ret
    exact ⟨_,qs ++ [c],rfl,R.out.2.2.1,by have:=HQL.out;simp;omega,R.out.2.2.2,R.out.2.1.here,by simpa using HC.out,R.out.1,hbel⟩
end Lm
end Go.Proofs.YtgclhjjmleiggaaGreatDoor
namespace Go.Proofs.YtgclhjjmleiggaaGreatDoor
namespace Lm
open Go.RowKit
theorem ari {s:Nat} (hs:s≤31):p2 s*p2 (32 - s)=4294967296:=by
 rw [←acw,show s+(32 - s)=32 by omega]
 decide
theorem aoz {A C:Int} {s:Nat} (hs:s≤31) (hA:0≤A∧A<4294967296) (hC:0≤C):0≤(C*4294967296+A) / p2 s∧p2 s*(((C*4294967296+A) / p2 s) % 4294967296)=A - A % p2 s+C % p2 s*4294967296:=by
 have hP:=abj s
 have hR:=abj (32 - s)
 have hPR:=ari hs
 generalize p2 s=P at *
 generalize p2 (32 - s)=R at *
 have e1:C*4294967296+A=A+P*(C*R):=by
  rw [←hPR,←Int.mul_assoc C,Int.mul_comm C P,Int.mul_assoc]
  omega
 have e2:(C*4294967296+A) / P=A / P+C*R:=by rw [e1,Int.add_mul_ediv_left _ _ (by omega)]
 have hq:0≤A / P:=Int.ediv_nonneg hA.1 (by omega)
 have hc0:0≤C % P∧C % P<P:=⟨Int.emod_nonneg _ (by omega),Int.emod_lt_of_pos _ (by omega)⟩
 have ec:=Int.mul_ediv_add_emod C P
 have e3:C*R=C % P*R+4294967296*(C / P):=by
  have:C*R=(P*(C / P)+C % P)*R:=by rw [ec]
  rw [this,Int.add_mul,←hPR,Int.mul_assoc P,Int.mul_comm (C / P) R,←Int.mul_assoc]
  omega
 have hCR:0≤C*R:=Int.mul_nonneg hC (by omega)
 have h0R:0≤C % P*R:=Int.mul_nonneg hc0.1 (by omega)
 have ea:=Int.mul_ediv_add_emod A P
 have ham:0≤A % P:=Int.emod_nonneg _ (by omega)
 have hAR:A / P<R:=by
  apply Int.ediv_lt_of_lt_mul (by omega)
  rw [Int.mul_comm,hPR]
  exact hA.2
 have hlt:A / P+C % P*R<4294967296:=by
  have h1:(C % P+1)*R≤P*R:=Int.mul_le_mul_of_nonneg_right (by omega) (by omega)
  rw [hPR,Int.add_mul] at h1
  omega
 refine ⟨by rw [e2];omega,?_⟩
 have e4:(A / P+C*R) % 4294967296=A / P+C % P*R:=by
  rw [e3,←Int.add_assoc,Int.add_mul_emod_self_left,Int.emod_eq_of_lt (by omega) hlt]
 rw [e2,e4,Int.mul_add,←Int.mul_assoc,Int.mul_comm P (C % P),Int.mul_assoc,hPR]
 omega
theorem arj {xs qs:List Int} {k:Nat} {P o r0 A C:Int} (hk:qs.length=k) (hA:xs.getD k 0=A) (ho:P*o=A - A % P+C % P*4294967296) (h:P*val qs+r0=vf xs k+pw k*(A % P)):P*val (qs ++ [o])+r0=vf xs (k+1)+pw (k+1)*(C % P):=by
 rw [aba,vf,hA,hk,pw,Int.mul_add]
 have e1:P*(pw k*o)=pw k*(P*o):=by rw [←Int.mul_assoc,Int.mul_comm P,Int.mul_assoc]
 have e2:pw k*(P*o)=pw k*A - pw k*(A % P)+4294967296*pw k*(C % P):=by
  rw [ho,Int.mul_add,Int.mul_sub,Int.mul_comm (C % P),←Int.mul_assoc,Int.mul_comm (pw k) 4294967296]
 omega
set_option maxRecDepth 20000 in
set_option maxHeartbeats 1000000 in
theorem air (w:World) (ao:Option Addr) (n cap:Nat) (xs:List Int) (hx:Sl w (.slice ao n cap) xs) (s:Nat) (hs:s≤31) (hm:xs.length≤1000000000) :
  Calls Tryz.prog 137 #[.slice ao n cap,.int .u64 s] w fun e w'=>∃ v,e=.returned v∧Is w.heap.size w' v (val xs / p2 s)∧Below w.heap.size w w' := by
 obtain ⟨rfl,h1,h2,h3⟩:=hx.parts
 obtain ⟨i0,hi,hz0,hz1,hz2⟩:=info_parts abu
 have H3:=hide h3
 clear h3
 go_enter Tryz.func137,Tryz.ntmps137
 go_wp2_with (refine wpList_make_full _ rfl (.tmp 10) (.tmp 10) 31 rfl w.heap.size 68 i0 (.int .u32 0) 1 Tryz.underlying31 hi hz0 hz1 .i64 .i64 _ _ xs.length rfl rfl (by omega) (by omega) (by rw [hz2];omega) (by unfold maxLen;omega) (Nat.le_refl _) ?hK)
 case hK =>
  intro w1 hown hgrow
  obtain ⟨_,cur,hh,hcs,hat⟩:=abb hown
  have hb1:Below w.heap.size w w1:=(Below.refl w.heap.size w).grown hgrow (Nat.le_refl _) (by simp)
  have HH:=hide hh
  have HS:=hide hcs
  have HA:=hide hat
  clear hown hgrow hh hcs hat
  go_wp2
  go_loopw [14] (fun i wr=>∃ (k:Nat) (qs:List Int) (cur' : Array Value),k≤xs.length∧i=.int .i64 k∧qs.length=k∧Limb qs∧p2 s*val qs+xs.getD 0 0 % p2 s=vf xs k+pw k*(xs.getD k 0 % p2 s)∧Wr w1 wr w.heap.size cur' 68∧cur'.size=xs.length∧At cur' .u32 0 (qs ++ (List.replicate xs.length 0).drop k)) (fun i _=>xs.length - (intOf i).toNat)
  case atStart=>exact ⟨0,[],cur,Nat.zero_le _,rfl,rfl,aaf,by simp [val,vf,pw],Wr.refl HH.out,HS.out,by simpa using HA.out⟩
  case round =>
   obtain ⟨k,qs,cur',hk,rfl,hql,hq,hval,hwr,hcs,hat⟩:=hrel
   have HQL:=hide hql
   have HQ:=hide hq
   have HV:=hide hval
   have HW:=hide hwr
   have HC:=hide hcs
   have HT:=hide hat
   clear hql hq hval hwr hcs hat
   by_cases hlt:k<xs.length
   ·have sx:=HW.out.sl (Nat.le_refl _) hb1 rfl hx
    obtain ⟨b,off,rfl,hcx⟩:=sx.cells (by omega)
    have cx:=hcx k (by omega)
    have bx:=aah H3.out k
    have by' := aah H3.out (k+1)
    have kl:Hid (Calls Tryz.prog 51 #[.slice (some ⟨b,off,none⟩) xs.length cap,.int .i64 ((k:Int)+1)] wr fun e w'=>e=.returned (.int .u32 (xs.getD (k+1) 0))∧w' = wr):=by
     have h9:=ah4 wr _ xs sx ((k:Int)+1) (by omega)
     rwa [show ((k:Int)+1).toNat=k+1 by omega] at h9
    have HVn:=hide (fun o ho=>arj (o:=o) (C:=xs.getD (k+1) 0) HQL.out rfl ho HV.out)
    generalize hCe:xs.getD (k+1) 0=C at by' kl HVn
    have HCE:=hide hCe
    clear hCe
    generalize xs.getD k 0=A at cx bx HVn
    have hdl:=aoz hs bx by'.1
    have hor:=ae5 C A by'.1 by'.2 bx.1 bx.2
    have hlen:(qs ++ (List.replicate xs.length (0:Int)).drop k).length=xs.length:=by have:=HQL.out;simp;omega
    have hcell:=HT.out.cell HW.out.here k (by rw [hlen];omega)
    rw [Nat.zero_add] at hcell
    generalize (qs ++ (List.replicate xs.length (0:Int)).drop k).getD k 0=old at hcell
    have hfree:=HW.out.free k
    obtain ⟨M,hM⟩:∃ M,M=C*4294967296+A:=⟨_,rfl⟩
    rw [←hM] at hor hdl
    have hM0:0≤M:=by omega
    have hM1:M<18446744073709551616:=by omega
    have hpw:=aoy s
    have HVf:=hide (HVn.out _ hdl.2)
    have hd0:=hdl.1
    have HT' := hide (HT.out.set k (M / p2 s % 4294967296))
    have HW' := hide (HW.out.set k (.int .u32 (M / p2 s % 4294967296)))
    have hp1:=abj s
    clear hlen sx hcx hM hdl HVn
    go_wp2_with fail
    refine (kl.out).mono ?_
    rintro e w2 ⟨rfl,rfl⟩
    go_wp2
    go_roundw
    case rel=>exact ⟨k+1,qs ++ [M / p2 s % 4294967296],_,by omega,by go_num,by have:=HQL.out;simp;omega,aan.2 ⟨HQ.out,aag.2 ⟨by omega,aaf⟩⟩,by rw [HCE.out];exact HVf.out,HW'.out,by simpa using HC.out,by rw [←aa3 qs _ k _ HQL.out (by simp;omega)];simpa using HT'.out⟩
    case measure=>simp [intOf];omega
   ·have hkM:k=xs.length:=by omega
    subst hkM
    have hat2:=HT.out
    rw [List.drop_of_length_le (by simp),List.append_nil] at hat2
    have how:Ow w.heap.size wr (.slice (some ⟨w.heap.size,0,none⟩) xs.length xs.length) qs:=by
     have:=HQL.out
     exact ⟨_,xs.length,by rw [this],by omega,by unfold maxLen;omega,HQ.out,.inr ⟨_,0,_,rfl,Nat.le_refl _,HW.out.here,by rw [HC.out];omega,hat2⟩⟩
    have hbel:Below w.heap.size w wr:=hb1.trans (HW.out.below (Nat.le_refl _))
    have his:=how.is_cut (x:=val xs / p2 s) (by
     have hv:=HV.out
     have hz:xs.getD xs.length 0=0:=by rw [List.getD_eq_getElem?_getD,List.getElem?_eq_none (Nat.le_refl _)];rfl
     rw [hz,Int.zero_emod,Int.mul_zero,Int.add_zero,aa8 xs _ (Nat.le_refl _)] at hv
     have hp1:=abj s
     have hr:=Int.emod_lt_of_pos (xs.getD 0 0) (show 0<p2 s by omega)
     have hr0:=Int.emod_nonneg (xs.getD 0 0) (show p2 s≠0 by omega)
     have:=adq (a:=val xs) (b:=p2 s) (q:=val qs) (by omega) (by rw [←hv,Int.mul_comm]) hr0 hr
     exact this.1.symm)
    clear hat2
    go_wp2_with fail
    refine (aam _ _ _ _ _ how.sl).mono ?_
    rintro e w2 ⟨rfl,rfl⟩
    go_wp2
    go_ret
    exact ⟨_,rfl,his,hbel⟩
end Lm
end Go.Proofs.YtgclhjjmleiggaaGreatDoor
namespace Go.Proofs.YtgclhjjmleiggaaGreatDoor
namespace Lm
open Go.RowKit
theorem akg {v1 v2 u2 U g r:Int} (h2:0≤v2) (h3:u2<4294967296) (hg:U=g*v1+r) (hr:r<v1) (hg0:0≤g):U*4294967296+u2<(g+1)*(v1*4294967296+v2):=by
 have e1:(g+1)*(v1*4294967296+v2)=(g*v1+v1)*4294967296+(g+1)*v2:=by
  rw [Int.mul_add,←Int.mul_assoc,Int.add_mul,Int.one_mul]
 have e2:0≤(g+1)*v2:=Int.mul_nonneg (by omega) h2
 rw [e1]
 omega
theorem ais {v1 v2 u2 U g r:Int} (hg:g*v1+r=U) (h:g*v2≤r*4294967296+u2):g*(v1*4294967296+v2)≤U*4294967296+u2:=by
 rw [Int.mul_add,←Int.mul_assoc,←hg]
 omega
theorem ark {v1 v2 u2 U g r:Int} (hg:g*v1+r=U) (h:r*4294967296+u2<g*v2):U*4294967296+u2<g*(v1*4294967296+v2):=by
 rw [Int.mul_add,←Int.mul_assoc,←hg]
 omega
theorem afj {v1 v2 u2 U g r:Int} (hv:0≤v2∧v2<4294967296) (hu:0≤u2) (hg:g*v1+r=U) (hr:4294967296≤r) (hg0:0≤g) (hg1:g<4294967296):g*(v1*4294967296+v2)≤U*4294967296+u2:=by
 apply ais hg
 have h1:g*v2≤4294967295*v2:=Int.mul_le_mul_of_nonneg_right (by omega) hv.1
 omega
theorem ao1 {v1 U g r:Int} (hv:2147483648≤v1) (hU:U≤v1*4294967296+4294967295) (hg:g*v1+r=U) (_hr:0≤r) (hb:4294967296≤r+v1):g≤4294967296:=by
 apply Classical.byContradiction
 intro hn
 have h1:4294967297*v1≤g*v1:=Int.mul_le_mul_of_nonneg_right (by omega) (by omega)
 omega
theorem ao3 {v1 U g r:Int} (hv:2147483648≤v1) (hU:U≤v1*4294967296+4294967295) (hg:g*v1+r=U) (hr:0≤r):g≤4294967297:=by
 apply Classical.byContradiction
 intro hn
 have h1:4294967298*v1≤g*v1:=Int.mul_le_mul_of_nonneg_right (by omega) (by omega)
 omega
set_option maxRecDepth 20000 in
set_option maxHeartbeats 2000000 in
theorem ao4 (w:World) (a1 a2:Option Addr) (n c1 c2:Nat) (ps Y:List Int) (hp:Sl w (.slice a1 (n+2+1) c1) ps) (hy:Sl w (.slice a2 (n+2) c2) Y)
  (htop:2147483648≤Y.getD (n+1) 0) (hu:ps.getD (n+2) 0≤Y.getD (n+1) 0) :
  Calls Tryz.prog 134 #[.slice a1 (n+2+1) c1,.slice a2 (n+2) c2] w fun e w'=>∃ g:Int,e=.returned (.int .u32 g)∧(0≤g∧g<4294967296)∧g*(Y.getD (n+1) 0*4294967296+Y.getD n 0)≤(ps.getD (n+2) 0*4294967296+ps.getD (n+1) 0)*4294967296+ps.getD n 0∧(4294967296≤g+1∨(ps.getD (n+2) 0*4294967296+ps.getD (n+1) 0)*4294967296+ps.getD n 0<(g+1)*(Y.getD (n+1) 0*4294967296+Y.getD n 0))∧∃ q,w' = w.drewN q:=by
 obtain ⟨hpl,p1,p2,p3⟩:=hp.parts
 obtain ⟨hyl,y1,y2,y3⟩:=hy.parts
 obtain ⟨b,off,rfl,hc⟩:=hp.cells (by omega)
 obtain ⟨b',off',rfl,hc'⟩:=hy.cells (by omega)
 have f0:=hc (n+2) (by omega)
 have f1:=hc (n+1) (by omega)
 have f2:=hc n (by omega)
 have e1:=hc' (n+1) (by omega)
 have e2:=hc' n (by omega)
 have bu0:=aah p3 (n+2)
 have bu1:=aah p3 (n+1)
 have bu2:=aah p3 n
 have bv1:=aah y3 (n+1)
 have bv2:=aah y3 n
 generalize ps.getD (n+2) 0=u0 at *
 generalize ps.getD (n+1) 0=u1 at *
 generalize ps.getD n 0=u2 at *
 generalize Y.getD (n+1) 0=v1 at *
 generalize Y.getD n 0=v2 at *
 have hN:n+3≤9223372036854775807:=by omega
 have hor1:=ae5 u0 u1 bu0.1 bu0.2 bu1.1 bu1.2
 obtain ⟨U,hU⟩:∃ U,U=u0*4294967296+u1:=⟨_,rfl⟩
 rw [←hU] at hor1 ⊢
 have hU0:0≤U:=by omega
 have hUb:U<18446744073709551616:=by omega
 have hUm:U≤v1*4294967296+4294967295:=by omega
 have HU:=hide hU
 clear hc hc' p3 y3 hpl hyl hU
 go_enter Tryz.func134,Tryz.ntmps134
 go_wp2
 go_quiet (fail)
 go_wp2
 replace f0:(w.drewN nq).cell? _ = _:=f0
 replace f1:(w.drewN nq).cell? _ = _:=f1
 replace f2:(w.drewN nq).cell? _ = _:=f2
 replace e1:(w.drewN nq).cell? _ = _:=e1
 replace e2:(w.drewN nq).cell? _ = _:=e2
 generalize hwq:w.drewN nq=wq at f0 f1 f2 e1 e2 ⊢
 have HQ:Hid (∃ q,wq=w.drewN q):=⟨_,hwq.symm⟩
 clear hwq
 go_quiet (fail)
 go_wp2
 replace f2:(wq.drewN nq).cell? _ = _:=f2
 replace HQ:Hid (∃ q,wq.drewN nq=w.drewN q):=by
  obtain ⟨q,hq⟩:=HQ.out
  exact ⟨q+nq,by rw [hq];simp [World.drewN];omega⟩
 generalize wq.drewN nq=wz at f2 HQ ⊢
 have hv0:0<v1:=by omega
 have hq0:0≤U / v1:=Int.ediv_nonneg hU0 (by omega)
 have hqm:=Int.mul_ediv_add_emod U v1
 have hr0:=Int.emod_nonneg U (show v1≠0 by omega)
 have hr1:=Int.emod_lt_of_pos U hv0
 have hq1:U / v1≤4294967297:=ao3 htop hUm (by rw [Int.mul_comm];exact hqm) hr0
 have t1:U.tdiv v1=U / v1:=Int.tdiv_eq_ediv_of_nonneg hU0
 have t2:IntKind.u64.wrap (U / v1)=U / v1:=by rw [IntKind.wrap_u64];exact Int.emod_eq_of_lt hq0 (by omega)
 have t3:U.tmod v1=U % v1:=Int.tmod_eq_emod_of_nonneg hU0
 have HQM:=hide hqm
 clear hqm
 go_quiet (fail)
 go_wp2
 replace f2:(wz.drewN nq).cell? _ = _:=f2
 replace HQ:Hid (∃ q,wz.drewN nq=w.drewN q):=by
  obtain ⟨q,hq⟩:=HQ.out
  exact ⟨q+nq,by rw [hq];simp [World.drewN];omega⟩
 generalize wz.drewN nq=wl at f2 HQ ⊢
 go_loop [9,10] (fun gv rv=>∃ gu rs:Int,gv=.int .u64 gu∧rv=.int .u64 rs∧0≤gu∧gu≤4294967297∧0≤rs∧rs<4294967296∧gu*v1+rs=U∧(4294967296≤gu+1∨U*4294967296+u2<(gu+1)*(v1*4294967296+v2))) (fun gv _=>(intOf gv).toNat)
 case atStart=>exact ⟨U / v1,U % v1,rfl,rfl,hq0,hq1,hr0,by omega,by rw [Int.mul_comm];exact HQM.out,.inr (akg bv2.1 bu2.2 (by rw [Int.mul_comm];exact HQM.out.symm) hr1 hq0)⟩
 case round =>
  obtain ⟨gu,rs,rfl,rfl,hg0,hg1,hs0,hs1,hgs,hgb⟩:=hrel
  have HGS:=hide hgs
  have HGB:=hide hgb
  have hor2:=ae5 rs u2 hs0 hs1 bu2.1 bu2.2
  clear hgs hgb t1 t2 t3 hor1
  by_cases hbig:4294967296≤gu
  ·have hne:(gu / 4294967296 != 0)=true:=by rw [bne_iff_ne];omega
   have HN:Hid ((gu - 1)*v1+(rs+v1)=U):=by have h9:=HGS.out;show _ = _;rw [Int.sub_mul];omega
   by_cases hbr:4294967296≤rs+v1
   ·have hne2:((rs+v1) / 4294967296 != 0)=true:=by rw [bne_iff_ne];omega
    have hgl:=ao1 htop hUm HGS.out hs0 hbr
    have HF:=hide (afj bv2 bu2.1 HN.out hbr (by omega) (by omega))
    go_wp2
    go_ret
    exact ⟨gu - 1,rfl,by omega,HF.out,.inl (by omega),HQ.out⟩
   ·have hne2:((rs+v1) / 4294967296 != 0)=false:=by rw [bne_eq_false_iff_eq];omega
    go_wp2
    go_round
    case rel=>exact ⟨gu - 1,rs+v1,rfl,rfl,by omega,by omega,by omega,by omega,HN.out,.inl (by omega)⟩
    case measure=>simp [intOf];omega
  ·have hne:(gu / 4294967296 != 0)=false:=by rw [bne_eq_false_iff_eq];omega
   have hmb:=aeo (show 0≤gu∧gu<4294967296 by omega) bv2
   by_cases hgt:rs*4294967296+u2<gu*v2
   ·have hd:decide (rs*4294967296+u2<gu*v2)=true:=decide_eq_true hgt
    have hgu1:1≤gu:=by
     apply Classical.byContradiction
     intro hn
     have h0:gu=0:=by omega
     rw [h0,Int.zero_mul] at hgt
     omega
    have HN:Hid ((gu - 1)*v1+(rs+v1)=U):=by have h9:=HGS.out;show _ = _;rw [Int.sub_mul];omega
    have HB2:=hide (ark HGS.out hgt)
    by_cases hbr:4294967296≤rs+v1
    ·have hne2:((rs+v1) / 4294967296 != 0)=true:=by rw [bne_iff_ne];omega
     have HF:=hide (afj bv2 bu2.1 HN.out hbr (by omega) (by omega))
     go_wp2
     go_ret
     exact ⟨gu - 1,rfl,by omega,HF.out,.inr (by rw [Int.sub_add_cancel];exact HB2.out),HQ.out⟩
    ·have hne2:((rs+v1) / 4294967296 != 0)=false:=by rw [bne_eq_false_iff_eq];omega
     go_wp2
     go_round
     case rel=>exact ⟨gu - 1,rs+v1,rfl,rfl,by omega,by omega,by omega,by omega,HN.out,.inr (by rw [Int.sub_add_cancel];exact HB2.out)⟩
     case measure=>simp [intOf];omega
   ·have hd:decide (rs*4294967296+u2<gu*v2)=false:=decide_eq_false hgt
    have HF:=hide (ais HGS.out (show gu*v2≤rs*4294967296+u2 by omega))
    go_wp2
    go_ret
    exact ⟨gu,rfl,by omega,HF.out,HGB.out,HQ.out⟩
end Lm
end Go.Proofs.YtgclhjjmleiggaaGreatDoor
namespace Go.Proofs.YtgclhjjmleiggaaGreatDoor
namespace Lm
theorem acr {zs:List Int} {n:Nat} (hl:zs.length=n+1):val zs=val (zs.take n)+pw n*zs.getD n 0:=by
 have e1:zs=zs.take n ++ [zs.getD n 0]:=by
  rw [←aax zs n (by omega),List.take_of_length_le (by omega)]
 have e2:=aa5 (zs.take n) [zs.getD n 0]
 rw [←e1,List.length_take,Nat.min_eq_left (by omega)] at e2
 rw [e2]
 simp [val]
theorem ait {zs:List Int} {n:Nat} (hl:zs.length=n+2):val zs=val (zs.take n)+pw n*(zs.getD (n+1) 0*4294967296+zs.getD n 0):=by
 rw [acr (n:=n+1) hl,acr (zs:=zs.take (n+1)) (n:=n) (by rw [List.length_take];omega),List.take_take,Nat.min_eq_left (by omega)]
 have e:(zs.take (n+1)).getD n 0=zs.getD n 0:=by
  rw [List.getD_eq_getElem?_getD,List.getD_eq_getElem?_getD,List.getElem?_take,if_pos (by omega)]
 rw [e,pw,Int.mul_add,Int.mul_comm (zs.getD (n+1) 0) 4294967296,←Int.mul_assoc,Int.mul_comm (pw n) 4294967296]
 omega
theorem arl {zs:List Int} {n:Nat} (hl:zs.length=n+3):val zs=val (zs.take n)+pw n*((zs.getD (n+2) 0*4294967296+zs.getD (n+1) 0)*4294967296+zs.getD n 0):=by
 rw [acr (n:=n+2) hl,ait (zs:=zs.take (n+2)) (n:=n) (by rw [List.length_take];omega),List.take_take,Nat.min_eq_left (by omega)]
 have e:∀ i,i<n+2→(zs.take (n+2)).getD i 0=zs.getD i 0:=by
  intro i hi
  rw [List.getD_eq_getElem?_getD,List.getD_eq_getElem?_getD,List.getElem?_take,if_pos hi]
 rw [e (n+1) (by omega),e n (by omega)]
 have e2:pw (n+2)=pw n*(4294967296*4294967296):=by
  simp only [pw]
  rw [Int.mul_comm (pw n),Int.mul_assoc]
 have e3:pw n*((zs.getD (n+2) 0*4294967296+zs.getD (n+1) 0)*4294967296+zs.getD n 0)=pw n*(4294967296*4294967296)*zs.getD (n+2) 0+pw n*(zs.getD (n+1) 0*4294967296+zs.getD n 0):=by
  rw [Int.mul_assoc,←Int.mul_add]
  congr 1
  omega
 rw [e2,e3]
 omega
theorem avy {W Y:List Int} {n:Nat} (hW:Limb W) (hY:Limb Y) (h1:W.length=n+1) (h2:Y.length=n+1) (h:val W<val Y):W.getD n 0≤Y.getD n 0:=by
 apply Classical.byContradiction
 intro hn
 rw [acr h1,acr h2] at h
 have b1:=aab (aai hW n)
 have b2:=aab (aai hY n)
 rw [List.length_take,Nat.min_eq_left (by omega)] at b1 b2
 have hp:=aaw n
 have e:pw n*(Y.getD n 0+1)≤pw n*W.getD n 0:=Int.mul_le_mul_of_nonneg_left (by omega) (by omega)
 rw [Int.mul_add] at e
 omega
theorem amh {ps Y:List Int} {n:Nat} {g P U:Int} (hp:Limb ps) (hy:Limb Y) (h1:ps.length=n+3) (h2:Y.length=n+2) (hP:val ps=P) (hU:val Y=U) (htop:1≤Y.getD (n+1) 0) (hlt:P<4294967296*U) (hg:0≤g∧g<4294967296)
  (hA:g*(Y.getD (n+1) 0*4294967296+Y.getD n 0)≤(ps.getD (n+2) 0*4294967296+ps.getD (n+1) 0)*4294967296+ps.getD n 0)
  (hB:4294967296≤g+1∨(ps.getD (n+2) 0*4294967296+ps.getD (n+1) 0)*4294967296+ps.getD n 0<(g+1)*(Y.getD (n+1) 0*4294967296+Y.getD n 0)) :
  P<(g+1)*U∧(g - 1)*U≤P:=by
 have eP:=arl h1
 have eU:=ait h2
 have bP:=aab (aai hp n)
 have bU:=aab (aai hy n)
 rw [List.length_take,Nat.min_eq_left (by omega)] at bP bU
 rw [hP] at eP
 rw [hU] at eU
 have hv2:=(aah hy n).1
 generalize (ps.getD (n+2) 0*4294967296+ps.getD (n+1) 0)*4294967296+ps.getD n 0=P3 at *
 have hU2:4294967296≤Y.getD (n+1) 0*4294967296+Y.getD n 0:=by omega
 generalize Y.getD (n+1) 0*4294967296+Y.getD n 0=U2 at *
 generalize val (ps.take n)=Pl at *
 generalize val (Y.take n)=Ul at *
 have hp1:=aaw n
 have hUp:4294967296*pw n≤pw n*U2:=by
  have:pw n*4294967296≤pw n*U2:=Int.mul_le_mul_of_nonneg_left hU2 (by omega)
  omega
 constructor
 ·rcases hB with hB | hB
  ·have:4294967296*U≤(g+1)*U:=Int.mul_le_mul_of_nonneg_right (by omega) (by omega)
   omega
  ·have e1:pw n*(P3+1)≤pw n*((g+1)*U2):=Int.mul_le_mul_of_nonneg_left (by omega) (by omega)
   have e2:(g+1)*U=(g+1)*Ul+pw n*((g+1)*U2):=by
    rw [eU,Int.mul_add,←Int.mul_assoc (g+1) (pw n),Int.mul_comm (g+1) (pw n),Int.mul_assoc]
   have e3:0≤(g+1)*Ul:=Int.mul_nonneg (by omega) bU.1
   rw [Int.mul_add] at e1
   omega
 ·have e1:pw n*(g*U2)≤pw n*P3:=Int.mul_le_mul_of_nonneg_left hA (by omega)
  have e2:g*U=g*Ul+pw n*(g*U2):=by
   rw [eU,Int.mul_add,←Int.mul_assoc g (pw n),Int.mul_comm g (pw n),Int.mul_assoc]
  have e3:g*Ul≤4294967295*Ul:=Int.mul_le_mul_of_nonneg_right (by omega) bU.1
  rw [Int.sub_mul]
  omega
theorem ahg {P U g A b p A2 c:Int} (_hU:0<U) (_hp:U<p) (hlow:P<(g+1)*U) (hhigh:(g - 1)*U≤P) (hA:0≤A∧A<p) (_hb:0≤b∧b≤1) (h:A - p*b=P - g*U) :
  (b=0→0≤A∧A<U∧P=g*U+A)∧(b=1→0≤A2∧A2<p→0≤c∧c≤1→A2+p*c=A+U→0≤A2∧A2<U∧P=(g - 1)*U+A2):=by
 rw [Int.add_mul] at hlow
 rw [Int.sub_mul] at hhigh ⊢
 constructor
 ·intro hb0
  rw [hb0,Int.mul_zero] at h
  omega
 ·intro hb1 hA2 hc hs
  rw [hb1,Int.mul_one] at h
  have hc01:c=0∨c=1:=by omega
  rcases hc01 with hc0 | hc0
  ·rw [hc0,Int.mul_zero] at hs;omega
  ·rw [hc0,Int.mul_one] at hs;omega
theorem aua {W:List Int} {x U:Int} (hx:x<4294967296) (h:val W<U):val (x :: W)<4294967296*U:=by
 rw [val]
 omega
theorem ao5 {lo W W' Q:List Int} {x q U T:Int} (hinv:val (lo ++ [x])+pw (lo.length+1)*val W+U*(pw (lo.length+1)*val Q)=T) (hp:val (x :: W)=q*U+val W') :
  val lo+pw lo.length*val W'+U*(pw lo.length*val (q :: Q))=T:=by
 rw [aa5] at hinv
 have e1:val [x]=x:=by simp [val]
 rw [e1] at hinv
 rw [val] at hp ⊢
 rw [pw] at hinv
 generalize pw lo.length=p at *
 have e2:p*(x+4294967296*val W)=p*(q*U+val W'):=by rw [hp]
 have e3:4294967296*p*val W=p*(4294967296*val W):=by rw [Int.mul_comm 4294967296 p,Int.mul_assoc]
 have e4:U*(p*(q+4294967296*val Q))=p*(q*U)+U*(4294967296*p*val Q):=by
  rw [Int.mul_add,Int.mul_add,Int.mul_comm 4294967296 p,Int.mul_assoc p 4294967296,←Int.mul_assoc U p q,Int.mul_comm U p,Int.mul_assoc p U q,Int.mul_comm U q]
 rw [Int.mul_add,Int.mul_add] at e2
 omega
theorem aiu {W:List Int} {n:Nat} (hW:Limb W) (hl:W.length=n+1) (h:val W<pw n):val (W.take n)=val W∧W.getD n 0=0:=by
 have e:=acr hl
 have b:=aab (aai hW n)
 have h0:=(aah hW n).1
 have hp:=aaw n
 have hz:W.getD n 0=0:=by
  apply Classical.byContradiction
  intro hn
  have:pw n*1≤pw n*W.getD n 0:=Int.mul_le_mul_of_nonneg_left (by omega) (by omega)
  omega
 rw [hz,Int.mul_zero] at e
 exact ⟨by omega,hz⟩
end Lm
end Go.Proofs.YtgclhjjmleiggaaGreatDoor
