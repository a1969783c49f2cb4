/-
  What the text behind the last one leans on, part 3.
-/
import Derived.Test.YtgmobkafnefpfaaGreatMDsLawZ2
namespace Go.Proofs.YtgmobkafnefpfaaGreat
namespace Md
structure Gat (cols:Nat) (R:List Rw) (Q:List Nat):Prop where
 desc:Q.Pairwise (· > ·)
 lt:∀ q ∈ Q,q<cols
 ne:D R Q≠0
 led:∀ p ∈ Q,∀ k,k<p→D R (sub p k Q)=0
theorem avo (cols:Nat):Gat cols [] []:=⟨.nil,fun q hq=>(by cases hq),by decide,fun p hp=>(by cases hp)⟩
theorem ac7 {Q:List Nat} (h:Q.Pairwise (· > ·)):Q.Nodup:=h.imp (fun h=>by omega)
theorem Gat.not_mem {R:List Rw} {Q:List Nat} {x:Rw} {c:Nat} (h:D (x :: R) (c :: Q)≠0):c ∉ Q:=fun hc=>h (adv (x :: R) hc)
theorem Gat.take {cols:Nat} {R:List Rw} {Q a b:List Nat} (G:Gat cols R Q) {x:Rw} {c:Nat} (hc:c<cols) (h0:∀ k,k<c→D (x :: R) (k :: Q)=0) (hne:D (x :: R) (c :: Q)≠0) (hQ:Q=a ++ b) (ha:∀ x ∈ a,c<x) (hb:∀ x ∈ b,x<c) :
  Gat cols (x :: R) (a ++ c :: b)∧(∀ k,D (x :: R) (sub c k (a ++ c :: b))=sgn a.length*D (x :: R) (k :: Q))∧D (x :: R) (a ++ c :: b)=sgn a.length*D (x :: R) (c :: Q)∧∀ p ∈ Q,∀ k,D R Q*D (x :: R) (sub p k (a ++ c :: b))=D (x :: R) (a ++ c :: b)*D R (sub p k Q) - D R (sub p c Q)*D (x :: R) (sub c k (a ++ c :: b)):=by
 have hd:(a ++ c :: b).Pairwise (· > ·):=by
  have h1:=G.desc
  rw [hQ,List.pairwise_append] at h1
  rw [List.pairwise_append,List.pairwise_cons]
  refine ⟨h1.1,⟨fun y hy=>hb y hy,h1.2.1⟩,fun u hu v hv=>?_⟩
  rcases List.mem_cons.1 hv with rfl | hv
  ·exact ha u hu
  ·exact h1.2.2 u hu v hv
 have hn:=ac7 hd
 have hca:c ∉ a:=fun h=>by have:=ha c h;omega
 have hcb:c ∉ b:=fun h=>by have:=hb c h;omega
 have hsub:∀ k,sub c k (a ++ c :: b)=a ++ k :: b:=fun k=>by rw [ah1,afl,if_pos rfl,ae0 hca,ae0 hcb]
 have hmove:∀ k,D (x :: R) (a ++ k :: b)=sgn a.length*D (x :: R) (k :: Q):=fun k=>by
  rw [hQ,(ac6 (x :: R)).move k a b,←Int.mul_assoc,ah0,Int.one_mul]
 have hne' : D (x :: R) (a ++ c :: b)≠0:=by
  rw [hmove]
  intro e
  rcases Int.mul_eq_zero.1 e with e | e
  ·have:=ah0 a.length;rw [e] at this;simp at this
  ·exact hne e
 have hstep:∀ p ∈ Q,∀ k,D R Q*D (x :: R) (sub p k (a ++ c :: b))=D (x :: R) (a ++ c :: b)*D R (sub p k Q) - D R (sub p c Q)*D (x :: R) (sub c k (a ++ c :: b)):=fun p hp k=>avn R x hQ hn hne' hp k
 have hz:∀ k,k<c→D (x :: R) (sub c k (a ++ c :: b))=0:=fun k hk=>by rw [hsub,hmove,h0 k hk,Int.mul_zero]
 refine ⟨⟨hd,fun q hq=>?_,hne',fun p hp k hk=>?_⟩,fun k=>by rw [hsub,hmove],hmove c,hstep⟩
 ·rcases List.mem_append.1 hq with h | h
  ·exact G.lt q (by rw [hQ];simp [h])
  ·rcases List.mem_cons.1 h with rfl | h
   ·exact hc
   ·exact G.lt q (by rw [hQ];simp [h])
 ·by_cases hpc:p=c
  ·subst hpc;exact hz k hk
  ·have hpQ:p ∈ Q:=by
    rw [hQ]
    rcases List.mem_append.1 hp with h | h
    ·simp [h]
    ·rcases List.mem_cons.1 h with h | h
     ·exact absurd h hpc
     ·simp [h]
   have h1:=hstep p hpQ k
   rw [G.led p hpQ k hk] at h1
   by_cases hcp:c<p
   ·rw [G.led p hpQ c hcp] at h1
    have h2:D R Q*D (x :: R) (sub p k (a ++ c :: b))=0:=by rw [h1];simp
    rcases Int.mul_eq_zero.1 h2 with h | h
    ·exact absurd h G.ne
    ·exact h
   ·rw [hz k (by omega)] at h1
    have h2:D R Q*D (x :: R) (sub p k (a ++ c :: b))=0:=by rw [h1];simp
    rcases Int.mul_eq_zero.1 h2 with h | h
    ·exact absurd h G.ne
    ·exact h
def RS (S:List Rw) (x:Rw):Prop:=∃ a:Int,a≠0∧Sp S (fun c=>a*x c)
theorem RS.of {S:List Rw} {x:Rw} (h:Sp S x):RS S x:=⟨1,by decide,by simpa using h⟩
theorem RS.mem {S:List Rw} {x:Rw} (h:x ∈ S):RS S x:=.of (.mem h)
theorem ayw {R S:List Rw} (hs:∀ y ∈ S,RS R y) {x:Rw} (h:Sp S x):RS R x:=by
 induction h with
 | zero=>exact .of .zero
 | add a x y hx _ ih =>
  obtain ⟨b,hb,h1⟩:=hs x hx
  obtain ⟨c,hc,h2⟩:=ih
  refine ⟨b*c,Int.mul_ne_zero hb hc,?_⟩
  have:=h1.lin h2 (a*c) b
  refine cast (congrArg (Sp R) (funext fun k=>?_)) this
  grind
theorem RS.trans {R S:List Rw} {x:Rw} (h:RS S x) (hs:∀ y ∈ S,RS R y):RS R x:=by
 obtain ⟨a,ha,h1⟩:=h
 obtain ⟨b,hb,h2⟩:=ayw hs h1
 refine ⟨b*a,Int.mul_ne_zero hb ha,?_⟩
 refine cast (congrArg (Sp R) (funext fun k=>?_)) h2
 grind
theorem avp {R:List Rw} {Q:List Nat} (hn:Q.Nodup) (hd:D R Q≠0) {x:Rw} (h:∀ k,D (x :: R) (k :: Q)=0):RS R x:=by
 refine ⟨D R Q,hd,?_⟩
 have key:∀ l:List Nat,(∀ p ∈ l,p ∈ Q)→Sp R (fun k=>sumL (fun p=>x p*D R (sub p k Q)) l):=by
  intro l
  induction l with
  | nil=>intro _;exact .zero
  | cons p l ih =>
   intro hl
   have:=(af3 R hn (hl p (by simp))).lin (ih (fun q hq=>hl q (by simp [hq]))) (x p) 1
   refine cast (congrArg (Sp R) (funext fun k=>?_)) this
   rw [sumL]
   grind
 have:=key Q (fun _ h=>h)
 refine cast (congrArg (Sp R) (funext fun k=>?_)) this
 have h1:=aim R x hn k
 rw [h k] at h1
 grind
theorem avq {R:List Rw} {x:Rw} (h:RS R x) (cs:List Nat):D (x :: R) cs=0:=by
 obtain ⟨a,ha,h1⟩:=h
 have h2:=D_sp h1 cs
 have h3:=ajm x x a 0 (D R) cs
 rw [show (fun c=>a*x c+0*x c)=fun c=>a*x c from funext fun c=>by omega,h2] at h3
 have h4:a*w x (D R) cs=0:=by omega
 rcases Int.mul_eq_zero.1 h4 with h | h
 ·exact absurd h ha
 ·exact h
structure EF (E:List (Nat × Rw)):Prop where
 asc:E.Pairwise (fun a b=>a.1<b.1)
 ne:∀ e ∈ E,e.2 e.1≠0
 oth:∀ e ∈ E,∀ f ∈ E,e.1≠f.1→e.2 f.1=0
 led:∀ e ∈ E,∀ k,k<e.1→e.2 k=0
def rowsE (E:List (Nat × Rw)):List Rw:=E.map Prod.snd
def sumE (f:Nat→Int):List (Nat × Rw)→Nat→Int
 | [],_=>0
 | e :: E,k=>f e.1*e.2 k+sumE f E k
theorem ah2 {f g:Nat→Int} : ∀ {E:List (Nat × Rw)},(∀ e ∈ E,f e.1=g e.1)→∀ k,sumE f E k=sumE g E k
 | [],_,_=>rfl
 | e :: E,h,k=>by rw [sumE,sumE,h e (by simp),ah2 (fun x hx=>h x (by simp [hx]))]
theorem ag7 {a:Int} {e:Nat × Rw} (f:Nat→Int):∀ {E:List (Nat × Rw)},E.Pairwise (fun a b=>a.1<b.1)→e ∈ E→∀ k,sumE (fun p=>if p=e.1 then f p+a else f p) E k=sumE f E k+a*e.2 k
 | x :: E,hp,he,k=>by
  obtain ⟨h1,h2⟩:=List.pairwise_cons.1 hp
  rw [sumE,sumE]
  rcases List.mem_cons.1 he with rfl | he
  ·have:sumE (fun p=>if p=e.1 then f p+a else f p) E k=sumE f E k:=ah2 (fun y hy=>if_neg (by have:=h1 y hy;omega)) k
   rw [this,if_pos rfl]
   grind
  ·rw [ag7 f h2 he k,if_neg (by have:=h1 e he;omega)]
   omega
theorem ams {E:List (Nat × Rw)} (hp:E.Pairwise (fun a b=>a.1<b.1)) {y:Rw} (h:Sp (rowsE E) y):∃ f,∀ k,y k=sumE f E k:=by
 induction h with
 | zero =>
  refine ⟨fun _=>0,fun k=>?_⟩
  have:∀ E:List (Nat × Rw),sumE (fun _=>0) E k=0:=by
   intro E
   induction E with
   | nil=>rfl
   | cons e E ih=>rw [sumE,ih];simp
  rw [this]
 | add a x y hx _ ih =>
  obtain ⟨e,he,rfl⟩:=List.mem_map.1 hx
  obtain ⟨f,hf⟩:=ih
  exact ⟨_,fun k=>by show a*e.2 k+y k = _;rw [ag7 (a:=a) f hp he k,hf k];omega⟩
theorem ain {f:Nat→Int} {E:List (Nat × Rw)} {k:Nat} (h:∀ e ∈ E,f e.1*e.2 k=0):sumE f E k=0:=by
 induction E with
 | nil=>rfl
 | cons e E ih=>rw [sumE,h e (by simp),ih (fun x hx=>h x (by simp [hx]))];rfl
theorem EF.pivot {E:List (Nat × Rw)} (hE:EF E) (f:Nat→Int) {e:Nat × Rw} (he:e ∈ E):sumE f E e.1=f e.1*e.2 e.1:=by
 have h:=ag7 (a:=-f e.1) f hE.asc he e.1
 have h0:sumE (fun p=>if p=e.1 then f p+-f e.1 else f p) E e.1=0:=by
  apply ain
  intro x hx
  by_cases hxe:x.1=e.1
  ·show (if x.1=e.1 then f x.1+-f e.1 else f x.1)*x.2 e.1=0
   rw [if_pos hxe,hxe,Int.add_right_neg,Int.zero_mul]
  ·rw [hE.oth x hx e he hxe,Int.mul_zero]
 rw [h0] at h
 grind
theorem EF.zero {E:List (Nat × Rw)} (hE:EF E) {x:Rw} (h:RS (rowsE E) x) (hz:∀ e ∈ E,x e.1=0) (k:Nat):x k=0:=by
 obtain ⟨a,ha,h1⟩:=h
 obtain ⟨f,hf⟩:=ams hE.asc h1
 have h2:a*x k=0:=by
  rw [hf k]
  apply ain
  intro e he
  have h3:=hf e.1
  rw [hE.pivot f he,hz e he,Int.mul_zero] at h3
  rcases Int.mul_eq_zero.1 h3.symm with h | h
  ·rw [h,Int.zero_mul]
  ·exact absurd h (hE.ne e he)
 rcases Int.mul_eq_zero.1 h2 with h | h
 ·exact absurd h ha
 ·exact h
theorem EF.first {E:List (Nat × Rw)} (hE:EF E) {x:Rw} (h:RS (rowsE E) x) {k:Nat} (hk:x k≠0) (hz:∀ j,j<k→x j=0):∃ e ∈ E,e.1=k:=by
 apply Classical.byContradiction
 intro hno
 obtain ⟨a,ha,h1⟩:=h
 obtain ⟨f,hf⟩:=ams hE.asc h1
 have h2:a*x k=0:=by
  rw [hf k]
  apply ain
  intro e he
  by_cases hlt:k<e.1
  ·rw [hE.led e he k hlt,Int.mul_zero]
  ·have hne:e.1≠k:=fun e'=>hno ⟨e,he,e'⟩
   have h3:=hf e.1
   rw [hE.pivot f he,hz e.1 (by omega),Int.mul_zero] at h3
   rcases Int.mul_eq_zero.1 h3.symm with h | h
   ·rw [h,Int.zero_mul]
   ·exact absurd h (hE.ne e he)
 rcases Int.mul_eq_zero.1 h2 with h | h
 ·exact ha h
 ·exact hk h
theorem amt:∀ {l m:List Nat},l.Pairwise (·<·)→m.Pairwise (·<·)→(∀ x,x ∈ l↔x ∈ m)→l=m
 | [],[],_,_,_=>rfl
 | [],y :: m,_,_,h=>by have:=(h y).2 (by simp);cases this
 | x :: l,[],_,_,h=>by have:=(h x).1 (by simp);cases this
 | x :: l,y :: m,hl,hm,h=>by
  obtain ⟨h1,h2⟩:=List.pairwise_cons.1 hl
  obtain ⟨h3,h4⟩:=List.pairwise_cons.1 hm
  have hxy:x=y:=by
   rcases List.mem_cons.1 ((h x).1 (by simp)) with e | e
   ·exact e
   ·rcases List.mem_cons.1 ((h y).2 (by simp)) with e' | e'
    ·exact e'.symm
    ·have:=h1 y e';have:=h3 x e;omega
  subst hxy
  rw [amt h2 h4 (fun z=>?_)]
  constructor
  ·intro hz
   rcases List.mem_cons.1 ((h z).1 (by simp [hz])) with e | e
   ·subst e;have:=h1 z hz;omega
   ·exact e
  ·intro hz
   rcases List.mem_cons.1 ((h z).2 (by simp [hz])) with e | e
   ·subst e;have:=h3 z hz;omega
   ·exact e
theorem avr {E F:List (Nat × Rw)} (hE:EF E) (hF:EF F) (h1:∀ e ∈ E,RS (rowsE F) e.2) (h2:∀ f ∈ F,RS (rowsE E) f.2):E.map Prod.fst=F.map Prod.fst∧∀ e ∈ E,∀ f ∈ F,e.1=f.1→∀ k,f.2 f.1*e.2 k=e.2 e.1*f.2 k:=by
 have he:∀ e ∈ E,∃ f ∈ F,f.1=e.1:=fun e he=>hF.first (h1 e he) (hE.ne e he) (hE.led e he)
 have hf:∀ f ∈ F,∃ e ∈ E,e.1=f.1:=fun f hf=>hE.first (h2 f hf) (hF.ne f hf) (hF.led f hf)
 refine ⟨amt (by rw [List.pairwise_map];exact hE.asc) (by rw [List.pairwise_map];exact hF.asc) (fun x=>?_),fun e hem f hfm hef k=>?_⟩
 ·simp only [List.mem_map]
  constructor
  ·rintro ⟨e,h,rfl⟩
   obtain ⟨f,h3,h4⟩:=he e h
   exact ⟨f,h3,h4⟩
  ·rintro ⟨f,h,rfl⟩
   obtain ⟨e,h3,h4⟩:=hf f h
   exact ⟨e,h3,h4⟩
 ·obtain ⟨a,ha,h3⟩:=h1 e hem
  have h4:RS (rowsE F) (fun c=>f.2 f.1*e.2 c - e.2 e.1*f.2 c):=by
   refine ⟨a,ha,?_⟩
   have:=h3.lin (Sp.mem (R:=rowsE F) (x:=f.2) (List.mem_map.2 ⟨f,hfm,rfl⟩)) (f.2 f.1) (-(a*e.2 e.1))
   refine cast (congrArg (Sp (rowsE F)) (funext fun c=>?_)) this
   grind
  have h5:f.2 f.1*e.2 k - e.2 e.1*f.2 k=0:=hF.zero h4 (fun g hg=>?_) k
  ·omega
  ·obtain ⟨e',he',hg'⟩:=hf g hg
   show f.2 f.1*e.2 g.1 - e.2 e.1*f.2 g.1=0
   by_cases hgf:g.1=f.1
   ·rw [hgf,hef,Int.mul_comm,Int.sub_self]
   ·rw [hF.oth f hfm g hg (fun h=>hgf h.symm),←hg',hE.oth e hem e' he' (by omega)]
    omega
def efOf (R:List Rw) (Q:List Nat):List (Nat × Rw):=Q.reverse.map (fun p=>(p,fun k=>D R (sub p k Q)))
theorem Gat.ef {cols:Nat} {R:List Rw} {Q:List Nat} (G:Gat cols R Q):EF (efOf R Q):=by
 have hm:∀ e,e ∈ efOf R Q→e.1 ∈ Q∧e.2=fun k=>D R (sub e.1 k Q):=by
  intro e he
  obtain ⟨p,hp,rfl⟩:=List.mem_map.1 he
  exact ⟨List.mem_reverse.1 hp,rfl⟩
 refine ⟨?_,fun e he=>?_,fun e he f hf hne=>?_,fun e he k hk=>?_⟩
 ·unfold efOf
  rw [List.pairwise_map,List.pairwise_reverse]
  exact G.desc.imp (fun h=>h)
 ·obtain ⟨h1,h2⟩:=hm e he
  rw [h2]
  show D R (sub e.1 e.1 Q)≠0
  rw [sub_self]
  exact G.ne
 ·obtain ⟨h1,h2⟩:=hm e he
  obtain ⟨h3,_⟩:=hm f hf
  rw [h2]
  exact (ac6 R).dup (aee h1 h3 (fun h=>hne h.symm))
 ·obtain ⟨h1,h2⟩:=hm e he
  rw [h2]
  exact G.led e.1 h1 k hk
theorem Gat.ef_in {cols:Nat} {R:List Rw} {Q:List Nat} (G:Gat cols R Q):∀ e ∈ efOf R Q,Sp R e.2:=by
 intro e he
 obtain ⟨p,hp,rfl⟩:=List.mem_map.1 he
 exact af3 R (ac7 G.desc) (List.mem_reverse.1 hp)
theorem Gat.in_ef {cols:Nat} {R:List Rw} {Q:List Nat} (G:Gat cols R Q) {x:Rw} (h:RS R x):RS (rowsE (efOf R Q)) x:=by
 refine ⟨D R Q,G.ne,?_⟩
 have key:∀ l:List Nat,(∀ p ∈ l,p ∈ Q)→Sp (rowsE (efOf R Q)) (fun k=>sumL (fun p=>x p*D R (sub p k Q)) l):=by
  intro l
  induction l with
  | nil=>intro _;exact .zero
  | cons p l ih =>
   intro hl
   have hp:(fun k=>D R (sub p k Q)) ∈ rowsE (efOf R Q):=List.mem_map.2 ⟨(p,fun k=>D R (sub p k Q)),List.mem_map.2 ⟨p,List.mem_reverse.2 (hl p (by simp)),rfl⟩,rfl⟩
   have:=(Sp.mem hp).lin (ih (fun q hq=>hl q (by simp [hq]))) (x p) 1
   refine cast (congrArg (Sp _) (funext fun k=>?_)) this
   rw [sumL]
   grind
 have:=key Q (fun _ h=>h)
 refine cast (congrArg (Sp _) (funext fun k=>?_)) this
 have h1:=aim R x (ac7 G.desc) k
 rw [avq h] at h1
 grind
end Md
end Go.Proofs.YtgmobkafnefpfaaGreat
namespace Go.Proofs.YtgmobkafnefpfaaGreat
namespace Lm
open Go Go.RowKit
theorem akw {zs:List Int} : ∀ z ∈ zs,gcdL zs ∣ z:=by
 have key:∀ (l:List Int) (c:Int),l.foldl (fun c z=>((Int.gcd c z:Nat):Int)) c ∣ c∧∀ z ∈ l,l.foldl (fun c z=>((Int.gcd c z:Nat):Int)) c ∣ z:=by
  intro l
  induction l with
  | nil=>intro c;exact ⟨Int.dvd_refl _,fun z hz=>by cases hz⟩
  | cons x l ih =>
   intro c
   obtain ⟨h1,h2⟩:=ih ((Int.gcd c x:Nat):Int)
   refine ⟨Int.dvd_trans h1 (Int.gcd_dvd_left ..),fun z hz=>?_⟩
   rcases List.mem_cons.1 hz with rfl | hz
   ·exact Int.dvd_trans h1 (Int.gcd_dvd_right ..)
   ·exact h2 z hz
 exact fun z hz=>(key zs 0).2 z hz
theorem avs {zs:List Int} : ∀ z ∈ zs,dvs zs ∣ z:=by
 intro z hz
 unfold dvs
 split
 ·exact Int.neg_dvd.2 (akw z hz)
 ·exact akw z hz
theorem aqo {zs:List Int} (h:∀ z ∈ zs,z=0):gcdL zs=0:=by
 have key:∀ l:List Int,(∀ z ∈ l,z=0)→l.foldl (fun c z=>((Int.gcd c z:Nat):Int)) 0=0:=by
  intro l
  induction l with
  | nil=>intro _;rfl
  | cons x l ih =>
   intro hl
   rw [List.foldl_cons,hl x (by simp)]
   exact ih (fun z hz=>hl z (by simp [hz]))
 exact key zs h
theorem aoe (k:Int) (zs:List Int):gcdL (zs.map (k*·))=(k.natAbs:Int)*gcdL zs:=by
 have key:∀ (l:List Int) (c:Int),(l.map (k*·)).foldl (fun c z=>((Int.gcd c z:Nat):Int)) ((k.natAbs:Int)*c)=(k.natAbs:Int)*l.foldl (fun c z=>((Int.gcd c z:Nat):Int)) c:=by
  intro l
  induction l with
  | nil=>intro c;rfl
  | cons z l ih =>
   intro c
   rw [List.map_cons,List.foldl_cons,List.foldl_cons,←ih]
   congr 1
   rw [Int.gcd,Int.natAbs_mul,Int.natAbs_mul,Int.natAbs_natCast,Nat.gcd_mul_left,Int.gcd,Int.natCast_mul]
 have:=key zs 0
 rwa [Int.mul_zero] at this
theorem aof (k:Int) (hk:k≠0) (zs:List Int):sgnL (zs.map (k*·))=Int.sign k*sgnL zs:=by
 have hs:Int.sign k≠0:=fun h=>hk (Int.sign_eq_zero_iff_zero.1 h)
 have key:∀ (l:List Int) (s:Int),(l.map (k*·)).foldl (fun s z=>if s=0 then Int.sign z else s) (Int.sign k*s)=Int.sign k*l.foldl (fun s z=>if s=0 then Int.sign z else s) s:=by
  intro l
  induction l with
  | nil=>intro s;rfl
  | cons z l ih =>
   intro s
   rw [List.map_cons,List.foldl_cons,List.foldl_cons,←ih]
   congr 1
   by_cases h:s=0
   ·rw [if_pos h,if_pos (by rw [h,Int.mul_zero]),Int.sign_mul]
   ·rw [if_neg h,if_neg (fun e=>(Int.mul_eq_zero.1 e).elim hs h)]
 have:=key zs 0
 rwa [Int.mul_zero] at this
theorem aqp {zs:List Int} (h:sgnL zs=0):∀ z ∈ zs,z=0:=by
 have stay:∀ (l:List Int) (s:Int),s≠0→l.foldl (fun s z=>if s=0 then Int.sign z else s) s=s:=by
  intro l
  induction l with
  | nil=>intro s _;rfl
  | cons z l ih=>intro s hs;rw [List.foldl_cons,if_neg hs];exact ih s hs
 induction zs with
 | nil=>simp
 | cons z l ih =>
  unfold sgnL at h
  rw [List.foldl_cons,if_pos rfl] at h
  by_cases hz:Int.sign z=0
  ·rw [hz] at h
   intro y hy
   rcases List.mem_cons.1 hy with rfl | hy
   ·exact Int.sign_eq_zero_iff_zero.1 hz
   ·exact ih h y hy
  ·rw [stay l _ hz] at h
   exact absurd h hz
theorem aqq (k:Int) (hk:k≠0) (zs:List Int):dvs (zs.map (k*·))=k*dvs zs:=by
 unfold dvs
 rw [aoe,aof k hk]
 by_cases h0:sgnL zs=0
 ·rw [h0,aqo (aqp h0)]
  simp
 ·rcases Int.lt_or_gt_of_ne hk with hk' | hk'
  ·rw [Int.sign_eq_neg_one_of_neg hk',show (k.natAbs:Int) = -k by omega]
   by_cases h1:sgnL zs<0
   ·rw [if_neg (by omega),if_pos h1,Int.neg_mul,Int.mul_neg]
   ·rw [if_pos (by omega),if_neg h1,Int.neg_mul,Int.neg_neg]
  ·rw [Int.sign_eq_one_of_pos hk',show (k.natAbs:Int)=k by omega,Int.one_mul]
   split
   ·rw [Int.mul_neg]
   ·rfl
theorem ai6 (k:Int) (hk:k≠0) (zs:List Int):red (zs.map (k*·))=red zs:=by
 unfold red
 rw [aqq k hk,List.map_map]
 refine List.map_congr_left fun z hz=>?_
 show k*z / (k*dvs zs)=z / dvs zs
 obtain ⟨q,hq⟩:=avs z hz
 by_cases hd:dvs zs=0
 ·rw [hd,Int.mul_zero,Int.ediv_zero,Int.ediv_zero]
 ·have h1:z / dvs zs=q:=by rw [hq];exact Int.mul_ediv_cancel_left q hd
  have h2:k*z=k*dvs zs*q:=by rw [Int.mul_assoc,←hq]
  rw [h1,h2]
  exact Int.mul_ediv_cancel_left q (fun e=>(Int.mul_eq_zero.1 e).elim hk hd)
theorem limbsF (w:World) (z:Int) (L:Nat) (v:Value) (h:IsW z L v w) (hL:L≤400000) :
  Calls Tryz.prog 17 #[v] w fun e w'=>∃ m:Nat,e=.returned (.int .i64 (m:Int))∧(m≤32↔(z.natAbs:Int)<pw 32)∧Below w.heap.size w w' := by
 obtain ⟨ng,ao,n,cap,xs,rfl,hA,hl⟩:=h
 obtain ⟨m,hm⟩:=ast hA
 have hv:val xs=(z.natAbs:Int):=by
  obtain ⟨_,_,_,_,_,hb,_⟩:=hA.sl
  have h1:=aab hb
  have h4:=hA.worth
  rw [←h4]
  cases ng
  ·simp only [sg]
   rw [if_neg (by decide)]
   omega
  ·simp only [sg]
   rw [if_pos trivial]
   omega
 refine (anw w ng ao n cap xs hA.sl (by omega) m (by rw [hv];exact hm)).mono ?_
 rintro e w' ⟨rfl,hb⟩
 refine ⟨m,rfl,?_,hb⟩
 obtain ⟨rs,hc,hv',rfl⟩:=hm
 constructor
 ·intro h
  have h1:=(aab hc.1).2
  have h2:=aa0 h
  omega
 ·intro h
  exact aax hc (by rw [hv'];exact h)
theorem IsRow.wide {w:World} {v:Value} {zs:List Int} {L L' : Nat} (h:IsRow w v zs L) (hl:L≤L'):IsRow w v zs L' := by
 obtain ⟨es,h1,h2,h3⟩:=h
 exact ⟨es,h1,h2,fun e he=>Nat.le_trans (h3 e he) hl⟩
def Asks (w:World) (f:FuncId) (cap:Array Value) (zs:List Int) (L:Nat) (p:Int→Bool):Prop:=∀ (W:World) (z:Int) (xv:Value),Below w.heap.size w W→z ∈ zs→IsW z L xv W→Calls Tryz.prog f (#[xv] ++ cap) W fun e W'=>e=.returned (.bool (p z))∧Below W.heap.size W W'
def AsksR (w:World) (f:FuncId) (cap:Array Value) (rows:List (List Int)) (L:Nat) (p:List Int→Bool):Prop:=∀ (W:World) (z:List Int) (xv:Value),Below w.heap.size w W→z ∈ rows→IsRow W xv z L→Calls Tryz.prog f (#[xv] ++ cap) W fun e W'=>e=.returned (.bool (p z))∧Below W.heap.size W W'
theorem akx {α:Type} {p:α→Bool} {zs:List α} {k:Nat} {z:α} (h:zs[k]? = some z) (h1:(zs.take k).any p=false) (h2:p z=false):(zs.take (k+1)).any p=false:=by
 rw [List.take_add_one,h,List.any_append,h1]
 simp [h2]
set_option maxRecDepth 20000 in
set_option maxHeartbeats 4000000 in
theorem aog (w:World) (v:Value) (zs:List Int) (L:Nat) (h:IsRow w v zs L) (f:FuncId) (hf:Has Tryz.prog f) (cap:Array Value) (p:Int→Bool) (hA:Asks w f cap zs L p) :
  Calls Tryz.prog 71 #[v,.func (.func f) #[] cap] w fun e w'=>(∃ r:Int,e=.returned (.int .i64 r)∧decide (0≤r)=zs.any p)∧Below w.heap.size w w' := by
 obtain ⟨ao,cp,rfl,hn⟩:=h.parts
 have H:=hide h
 have HA:=hide hA
 clear h hA
 obtain ⟨n,hnn⟩:∃ n,zs.length=n:=⟨_,rfl⟩
 rw [hnn] at H hn ⊢
 have HN:=hide hnn
 clear hnn
 go_enter Tryz.func71,Tryz.ntmps71
 go_wp2
 go_loopw [5,8] (fun _ iv wr=>∃ (k:Nat),iv=.int .i64 k∧k≤n∧(zs.take k).any p=false∧Below w.heap.size w wr) (fun _ iv _=>n - (intOf iv).toNat)
 case atStart=>exact ⟨0,rfl,Nat.zero_le _,by simp,Below.refl _ _⟩
 case round =>
  obtain ⟨k,rfl,hk,hany,hbw⟩:=hrel
  have HW:=hide hbw
  have HY:=hide hany
  by_cases hlt:k<n
  ·obtain ⟨z,hz⟩:∃ z,zs[k]? = some z:=⟨_,List.getElem?_eq_getElem (by have:=HN.out;omega)⟩
   obtain ⟨b,off,ngx,ax,mx,cx,rfl,hbl,x0,x1,hx⟩:=H.out.cell hz
   replace x0:=(hbw.cell (p:=⟨b,off+k*2,none⟩) hbl).trans x0
   replace x1:=(hbw.cell (p:=⟨b,off+k*2+1,none⟩) hbl).trans x1
   have hlt' : (k:Int)<(n:Int):=by omega
   have KC:=hide (HA.out wr z (.agg #[.bool ngx,.slice ax mx cx]) hbw (List.mem_of_getElem? hz) (hx.ru (Ru.of_below hbw)))
   have HZ:=hide hz
   clear hbw hany hx hz
   have hE:∀ args w,(callFunc f args).run Tryz.prog w=.ok (.enter f args) w:=fun args w=>hf.enter args w
   go_wp2_with fail
   refine KC.out.mono ?_
   rintro e w3 ⟨rfl,hb3⟩
   have HB3:=hide (HW.out.trans (hb3.mono HW.out.size))
   clear hb3 KC hE x0 x1
   obtain ⟨pz,hpz⟩:∃ b,p z=b:=⟨_,rfl⟩
   rw [hpz]
   have HPZ:=hide hpz
   clear hpz
   cases pz with
   | true =>
    go_wp2
    go_ret
    exact ⟨⟨k,rfl,by rw [decide_eq_true (by omega),eq_comm,List.any_eq_true];exact ⟨z,List.mem_of_getElem? HZ.out,HPZ.out⟩⟩,HB3.out⟩
   | false =>
    go_wp2
    go_roundw
    case rel=>exact ⟨k+1,by go_num,by omega,akx HZ.out HY.out HPZ.out,HB3.out⟩
    case measure=>simp [intOf];omega
  ·have hlt' : decide ((k:Int)<(n:Int))=false:=by simp;omega
   clear hbw hany
   go_wp2
   go_ret
   refine ⟨⟨-1,rfl,?_⟩,HW.out⟩
   have:=HY.out
   rw [List.take_of_length_le (by have:=HN.out;omega)] at this
   rw [this];rfl
theorem afq (w:World) (v:Value) (zs:List Int) (L:Nat) (h:IsRow w v zs L) (f:FuncId) (hf:Has Tryz.prog f) (cap:Array Value) (p:Int→Bool) (hA:Asks w f cap zs L p) :
  Calls Tryz.prog 36 #[v,.func (.func f) #[] cap] w fun e w'=>e=.returned (.bool (zs.any p))∧Below w.heap.size w w' := by
 have K:=hide (aog w v zs L h f hf cap p hA)
 obtain ⟨ao,cp,rfl,hn⟩:=h.parts
 clear h hA
 go_enter Tryz.func36,Tryz.ntmps36
 go_wp2_with fail
 refine K.out.mono ?_
 rintro e w1 ⟨⟨r,rfl,hr⟩,hb⟩
 have HB:=hide hb
 have HR:=hide hr
 clear hb K hr
 go_wp2
 refine bodyPost_ret (v:=_) (by simp [results,Tryz.results36,go_sem];try rfl) rfl ⟨by rw [←HR.out],HB.out⟩
set_option maxRecDepth 20000 in
set_option maxHeartbeats 4000000 in
theorem aoh (w:World) (v:Value) (rows:List (List Int)) (L:Nat) (h:IsM w v rows L) (f:FuncId) (hf:Has Tryz.prog f) (cap:Array Value) (p:List Int→Bool) (hA:AsksR w f cap rows L p) :
  Calls Tryz.prog 57 #[v,.func (.func f) #[] cap] w fun e w'=>(∃ r:Int,e=.returned (.int .i64 r)∧decide (0≤r)=rows.any p)∧Below w.heap.size w w' := by
 obtain ⟨ao,cp,rfl,hn⟩:=h.parts
 have H:=hide h
 have HA:=hide hA
 clear h hA
 obtain ⟨n,hnn⟩:∃ n,rows.length=n:=⟨_,rfl⟩
 rw [hnn] at H hn ⊢
 have HN:=hide hnn
 clear hnn
 go_enter Tryz.func57,Tryz.ntmps57
 go_wp2
 go_loopw [5,8] (fun _ iv wr=>∃ (k:Nat),iv=.int .i64 k∧k≤n∧(rows.take k).any p=false∧Below w.heap.size w wr) (fun _ iv _=>n - (intOf iv).toNat)
 case atStart=>exact ⟨0,rfl,Nat.zero_le _,by simp,Below.refl _ _⟩
 case round =>
  obtain ⟨k,rfl,hk,hany,hbw⟩:=hrel
  have HW:=hide hbw
  have HY:=hide hany
  by_cases hlt:k<n
  ·obtain ⟨z,hz⟩:∃ z,rows[k]? = some z:=⟨_,List.getElem?_eq_getElem (by have:=HN.out;omega)⟩
   obtain ⟨b,off,u,rfl,hbl,x0,hx⟩:=H.out.cell hz
   replace x0:=(hbw.cell (p:=⟨b,off+k,none⟩) hbl).trans x0
   have hlt' : (k:Int)<(n:Int):=by omega
   have KC:=hide (HA.out wr z u hbw (List.mem_of_getElem? hz) (hx.below hbw))
   obtain ⟨ua,uc,rfl,_⟩:=hx.parts
   have HZ:=hide hz
   clear hbw hany hx hz
   have hE:∀ args w,(callFunc f args).run Tryz.prog w=.ok (.enter f args) w:=fun args w=>hf.enter args w
   go_wp2_with fail
   refine KC.out.mono ?_
   rintro e w3 ⟨rfl,hb3⟩
   have HB3:=hide (HW.out.trans (hb3.mono HW.out.size))
   clear hb3 KC hE x0
   obtain ⟨pz,hpz⟩:∃ b,p z=b:=⟨_,rfl⟩
   rw [hpz]
   have HPZ:=hide hpz
   clear hpz
   cases pz with
   | true =>
    go_wp2
    go_ret
    exact ⟨⟨k,rfl,by rw [decide_eq_true (by omega),eq_comm,List.any_eq_true];exact ⟨z,List.mem_of_getElem? HZ.out,HPZ.out⟩⟩,HB3.out⟩
   | false =>
    go_wp2
    go_roundw
    case rel=>exact ⟨k+1,by go_num,by omega,akx HZ.out HY.out HPZ.out,HB3.out⟩
    case measure=>simp [intOf];omega
  ·have hlt' : decide ((k:Int)<(n:Int))=false:=by simp;omega
   clear hbw hany
   go_wp2
   go_ret
   refine ⟨⟨-1,rfl,?_⟩,HW.out⟩
   have:=HY.out
   rw [List.take_of_length_le (by have:=HN.out;omega)] at this
   rw [this];rfl
theorem ajj (w:World) (v:Value) (rows:List (List Int)) (L:Nat) (h:IsM w v rows L) (f:FuncId) (hf:Has Tryz.prog f) (cap:Array Value) (p:List Int→Bool) (hA:AsksR w f cap rows L p) :
  Calls Tryz.prog 31 #[v,.func (.func f) #[] cap] w fun e w'=>e=.returned (.bool (rows.any p))∧Below w.heap.size w w' := by
 have K:=hide (aoh w v rows L h f hf cap p hA)
 obtain ⟨ao,cp,rfl,hn⟩:=h.parts
 clear h hA
 go_enter Tryz.func31,Tryz.ntmps31
 go_wp2_with fail
 refine K.out.mono ?_
 rintro e w1 ⟨⟨r,rfl,hr⟩,hb⟩
 have HB:=hide hb
 have HR:=hide hr
 clear hb K hr
 go_wp2
 refine bodyPost_ret (v:=_) (by simp [results,Tryz.results31,go_sem];try rfl) rfl ⟨by rw [←HR.out],HB.out⟩
theorem aqr:Has Tryz.prog 85:=by unfold Has;kernel_rfl
theorem aqs:Has Tryz.prog 17:=by unfold Has;kernel_rfl
def big (z:Int):Bool:=decide (¬ (z.natAbs:Int)<pw 32)
set_option maxRecDepth 20000 in
set_option maxHeartbeats 4000000 in
theorem aqt (W:World) (z:Int) (L:Nat) (xv:Value) (g:Nat) (T:TypeId) (hg:W.heap[g]? = some (.cells #[.func (.func 17) #[] #[]] T (0,0))) (hx:IsW z L xv W) (hL:L≤400000) :
  Calls Tryz.prog 85 #[xv,.pointer (some ⟨g,0,none⟩)] W fun e W'=>e=.returned (.bool (big z))∧Below W.heap.size W W' := by
 obtain ⟨ng,ao,n,cap,xs,rfl,_⟩:=id hx
 have hb:=hAl W (.cells #[.bool ng,.slice ao n cap] 27)
 obtain ⟨hgl,c0,_⟩:=aaw hg
 replace c0:=(hb.cell (p:=⟨g,0,none⟩) hgl).trans c0
 have K:=hide (limbsF _ z L _ (hx.ru (Ru.of_below hb)) hL)
 have hE:∀ args w,(callFunc 17 args).run Tryz.prog w=.ok (.enter 17 args) w:=fun args w=>aqs.enter args w
 clear hx hg
 go_enter Tryz.func85,Tryz.ntmps85
 go_wp2_with fail
 refine K.out.mono ?_
 rintro e w1 ⟨m,rfl,hm,hb1⟩
 have HB:=hide (hb.trans (hb1.mono hb.size))
 have hbg:decide ((m:Int) > 32)=big z:=by
  unfold big
  by_cases h:m≤32
  ·rw [decide_eq_false (by omega),decide_eq_false (not_not_intro (hm.1 h))]
  ·rw [decide_eq_true (by omega),decide_eq_true (p:=¬ (z.natAbs:Int)<pw 32) (fun e=>h (hm.2 e))]
 clear hb hb1 K hm
 go_wp2
 refine bodyPost_ret (v:=_) (by simp [results,Tryz.results85,go_sem];try rfl) rfl ⟨by rw [←hbg],HB.out⟩
set_option maxRecDepth 20000 in
set_option maxHeartbeats 4000000 in
theorem as6 (w:World) (v:Value) (zs:List Int) (L:Nat) (h:IsRow w v zs L) (hL:L≤400000) :
  Calls Tryz.prog 56 #[v,.func (.func 17) #[] #[]] w fun e w'=>e=.returned (.bool (zs.any big))∧Below w.heap.size w w' := by
 obtain ⟨ao,cp,rfl,hn⟩:=h.parts
 have key:∀ T:TypeId,Hid (Calls Tryz.prog 36 #[.slice ao zs.length cp,.func (.func 85) #[] #[.pointer (some ⟨w.heap.size,0,none⟩)]] (w.alloc (.cells #[.func (.func 17) #[] #[]] T)) fun e w'=>e=.returned (.bool (zs.any big))∧Below w.heap.size w w'):=fun T=>by
  have hb:=hAl w (.cells #[.func (.func 17) #[] #[]] T)
  have hnew:=heap_alloc_new w (.cells #[.func (.func 17) #[] #[]] T)
  refine (afq _ _ zs L (h.below hb) _ aqr _ big (fun W z xv hbW hz hx=>?_)).mono ?_
  ·exact aqt W z L xv w.heap.size T ((hbW.block _ (aaa hnew)).trans hnew) hx hL
  ·rintro e w' ⟨rfl,hb'⟩
   exact ⟨rfl,hb.trans (hb'.mono hb.size)⟩
 clear h
 have hmf:∀ (fn:Fn) (first cap:Array Value) (w:World),(Instr.makeFunc fn first cap).run Tryz.prog w=.ok (.func fn first cap) w:=fun _ _ _ _=>rfl
 go_enter Tryz.func56,Tryz.ntmps56
 go_wp2_with fail
 refine (key _).out.mono ?_
 rintro e w1 ⟨rfl,hb⟩
 have HB:=hide hb
 clear hb key
 go_wp2
 refine bodyPost_ret (v:=_) (by simp [results,Tryz.results56,go_sem];try rfl) rfl ⟨rfl,HB.out⟩
theorem al8:Has Tryz.prog 30:=by unfold Has;kernel_rfl
theorem al9 (W:World) (z:List Int) (L:Nat) (xv:Value) (g:Nat) (cols:Int) (hg:W.heap[g]? = some (.cells #[.int .i64 cols] 3 (0,0))) (hx:IsRow W xv z L) :
  Calls Tryz.prog 30 #[xv,.pointer (some ⟨g,0,none⟩)] W fun e W'=>e=.returned (.bool (decide ((z.length:Int)≠cols)))∧Below W.heap.size W W' := by
 obtain ⟨ua,uc,rfl,hn⟩:=hx.parts
 obtain ⟨hgl,c0,_⟩:=aaw hg
 clear hx hg
 go_enter Tryz.func30,Tryz.ntmps30
 go_wp2
 refine bodyPost_ret (v:=_) (by simp [results,Tryz.results30,go_sem];try rfl) rfl ⟨by congr 2;rw [bne];by_cases h:(z.length:Int)=cols <;> simp [h],Below.refl _ _⟩
set_option maxRecDepth 20000 in
set_option maxHeartbeats 2000000 in
theorem wofF (w:World) (v:Int) (h1 : -9223372036854775808≤v) (h2:v≤9223372036854775807) :
  Calls Tryz.prog 32 #[.int .i64 v] w fun e w'=>∃ r,e=.returned r∧FrW w.heap.size v 2 r w'∧Below w.heap.size w w' := by
 have hb0:=hAl w (.cells #[.bool false,.slice none 0 0] 27)
 have hn0:=heap_alloc_new w (.cells #[.bool false,.slice none 0 0] 27)
 obtain ⟨w0,e0⟩:∃ w0,w.alloc (.cells #[.bool false,.slice none 0 0] 27)=w0:=⟨_,rfl⟩
 rw [e0] at hb0 hn0
 have key:∀ (ng:Bool) (x:Int),0≤x→x<18446744073709551616→sg ng x=v→Hid (Calls Tryz.prog 59 #[.int .u64 x] w0 fun e w1=>∃ ao cap n,e=.returned (.slice ao n cap)∧Hid (Calls Tryz.prog 58 #[.bool ng,.slice ao n cap] w1 fun e w2=>∃ ng2,e=.returned (.agg #[.bool ng2,.slice ao n cap])∧FrW w.heap.size v 2 (.agg #[.bool ng2,.slice ao n cap]) w2∧Below w.heap.size w w2∧w2.heap[w.heap.size]? = some (.cells #[.bool false,.slice none 0 0] 27 (0,0)))):=fun ng x hx0 hx1 hs=>by
  refine (ab2 w0 x hx0 hx1).mono ?_
  rintro e w1 ⟨v1,rfl,hi1,hb1⟩
  obtain ⟨ao,cap,rs,rfl,hf⟩:=hi1.fr
  obtain ⟨_,_,_,e2,G1,l1⟩:=aiw hi1 hx1
  have e2' := e2
  rw [Value.slice.injEq] at e2'
  obtain ⟨rfl,e3,rfl⟩:=e2'
  obtain ⟨ow1,cn1,vl1,ls1⟩:=hf
  refine ⟨ao,cap,rs.length,rfl,(abr _ ng _ _ rs x ⟨ow1.sl,cn1,vl1⟩ (by omega)).mono ?_⟩
  rintro e w2 ⟨ng2,rfl,G2,hb2⟩
  have hb3:=hb0.trans ((hb1.trans (hb2.mono hb1.size)).mono hb0.size)
  rw [hs] at G2
  refine ⟨ng2,rfl,(FrW.of_li (T:=w1.heap.size) G2 ⟨ow1.below hb2,ls1⟩ hb2.size (by omega)).low hb0.size,hb3,?_⟩
  exact ((hb1.trans (hb2.mono hb1.size)).block _ (aaa hn0)).trans hn0
 have E0:=hide e0
 have fin:∀ (w2:World) (ng2:Bool) (ao:Option Addr) (n cap:Nat),FrW w.heap.size v 2 (.agg #[.bool ng2,.slice ao n cap]) w2→Below w.heap.size w w2→w2.heap[w.heap.size]? = some (.cells #[.bool false,.slice none 0 0] 27 (0,0))→Hid ((loadVar 27 ⟨w.heap.size,0,none⟩).run Tryz.prog ((w2.setCell ⟨w.heap.size,0,none⟩ (.bool ng2)).setCell ⟨w.heap.size,1,none⟩ (.slice ao n cap))=.ok (.agg #[.bool ng2,.slice ao n cap]) ((w2.setCell ⟨w.heap.size,0,none⟩ (.bool ng2)).setCell ⟨w.heap.size,1,none⟩ (.slice ao n cap))∧FrW w.heap.size v 2 (.agg #[.bool ng2,.slice ao n cap]) ((w2.setCell ⟨w.heap.size,0,none⟩ (.bool ng2)).setCell ⟨w.heap.size,1,none⟩ (.slice ao n cap))∧Below w.heap.size w ((w2.setCell ⟨w.heap.size,0,none⟩ (.bool ng2)).setCell ⟨w.heap.size,1,none⟩ (.slice ao n cap))):=fun w2 ng2 ao n cap hF hB hN =>
  ⟨lvw2 (abz hN _ _),hF.ru (act hN _ _),(hB.setCell (Nat.le_refl _) _).setCell (Nat.le_refl _) _⟩
 clear hb0 hn0 e0
 by_cases h0:v<0
 ·have hw:IntKind.u64.wrap (-IntKind.u64.wrap v) = -v:=by rw [IntKind.wrap_u64,IntKind.wrap_u64];omega
  have K1:=key true (-v) (by omega) (by omega) (by simp [sg])
  clear key
  go_enter Tryz.func32,Tryz.ntmps32
  go_wp2_with fail
  rw [E0.out]
  refine K1.out.mono ?_
  rintro e w1 ⟨ao,cap,n,rfl,K2⟩
  clear K1
  go_wp2_with fail
  refine K2.out.mono ?_
  rintro e w2 ⟨ng2,rfl,hF,hB,hN⟩
  obtain ⟨hl2,y0,y1,yf0,yf1⟩:=aal hN
  have X:=fin w2 ng2 ao n cap hF hB hN
  clear hF hB hN K2 fin
  go_wp2
  exact bodyPost_ret (v:=.agg #[.bool ng2,.slice ao n cap]) (abw (g:=w.heap.size) rfl rfl X.out.1) rfl ⟨_,rfl,X.out.2.1,X.out.2.2⟩
 ·have K1:=key false v (by omega) (by omega) (by simp [sg])
  clear key
  go_enter Tryz.func32,Tryz.ntmps32
  go_wp2_with fail
  rw [E0.out]
  refine K1.out.mono ?_
  rintro e w1 ⟨ao,cap,n,rfl,K2⟩
  clear K1
  go_wp2_with fail
  refine K2.out.mono ?_
  rintro e w2 ⟨ng2,rfl,hF,hB,hN⟩
  obtain ⟨hl2,y0,y1,yf0,yf1⟩:=aal hN
  have X:=fin w2 ng2 ao n cap hF hB hN
  clear hF hB hN K2 fin
  go_wp2
  exact bodyPost_ret (v:=.agg #[.bool ng2,.slice ao n cap]) (abw (g:=w.heap.size) rfl rfl X.out.1) rfl ⟨_,rfl,X.out.2.1,X.out.2.2⟩
end Lm
end Go.Proofs.YtgmobkafnefpfaaGreat
namespace Go.Proofs.YtgmobkafnefpfaaGreat
namespace Lm
open Go Go.RowKit
open Dm (WFr)
def CanRow (w:World) (v:Value) (zs:List Int) (L:Nat):Prop:=∃ es:List WE,Rw w v es∧es.length=zs.length∧∀ (k:Nat) (e:WE) (z:Int),es[k]? = some e→zs[k]? = some z→Canon e.zs∧val e.zs=(z.natAbs:Int)∧e.ng=decide (z<0)∧e.zs.length≤L
theorem CanRow.below {w w' : World} {v:Value} {zs:List Int} {L:Nat} (h:CanRow w v zs L) (hb:Below w.heap.size w w'):CanRow w' v zs L:=by
 obtain ⟨es,h1,h2,h3⟩:=h
 exact ⟨es,h1.below hb,h2,h3⟩
theorem CanRow.is {w:World} {v:Value} {zs:List Int} {L:Nat} (h:CanRow w v zs L):IsRow w v zs L:=by
 obtain ⟨es,h1,h2,h3⟩:=h
 refine ⟨es,h1,?_,?_⟩
 ·apply List.ext_getElem?
  intro k
  rw [List.getElem?_map]
  cases hk:es[k]? with
  | none =>
   rw [List.getElem?_eq_none_iff] at hk
   rw [Option.map_none,eq_comm,List.getElem?_eq_none_iff]
   omega
  | some e =>
   have hkl:=(List.getElem?_eq_some_iff.1 hk).1
   obtain ⟨z,hz⟩:∃ z,zs[k]? = some z:=⟨_,List.getElem?_eq_getElem (by omega)⟩
   obtain ⟨c1,c2,c3,_⟩:=h3 k e z hk hz
   rw [hz,Option.map_some]
   congr 1
   unfold WE.z sg
   rw [c2,c3]
   by_cases hn:z<0
   ·rw [if_pos (decide_eq_true hn)];omega
   ·rw [if_neg (by simpa using hn)];omega
 ·intro e he
  obtain ⟨k,hk⟩:=List.mem_iff_getElem?.1 he
  have hkl:=(List.getElem?_eq_some_iff.1 hk).1
  obtain ⟨z,hz⟩:∃ z,zs[k]? = some z:=⟨_,List.getElem?_eq_getElem (by omega)⟩
  exact (h3 k e z hk hz).2.2.2
theorem ORow.can {K:Nat} {w:World} {v:Value} {zs:List Int} {L:Nat} (h:ORow K w v zs L):CanRow w v zs L:=by
 obtain ⟨bv,rfl,_,h,hl⟩:=h
 obtain ⟨es,B,T,e1,e2,e3,e4,e5⟩:=h
 refine ⟨es,⟨⟨_,_,by rw [e1],by omega,by omega,abg es,.inr ⟨bv,0,rfl,aaa e2,fun j u hu=>?_⟩⟩,?_⟩,e1,?_⟩
 ·rw [Nat.zero_add,cell_of_row _ _ _ _ _ (0,0) e2,List.getElem?_toArray]
  exact hu
 ·intro e he
  obtain ⟨k,hk⟩:=List.mem_iff_getElem?.1 he
  have hkl:=(List.getElem?_eq_some_iff.1 hk).1
  obtain ⟨z,hz⟩:∃ z,zs[k]? = some z:=⟨_,List.getElem?_eq_getElem (by omega)⟩
  obtain ⟨g1,g2,_⟩:=e4 k e z (by omega) hk hz
  have:=g1.wh.sl
  rwa [←g2] at this
 ·intro k e z hk hz
  have hkl:=(List.getElem?_eq_some_iff.1 hk).1
  obtain ⟨g1,g2,g3,_⟩:=e4 k e z (by omega) hk hz
  exact ⟨g1.fr.canon,g1.fr.val,g1.sgn,g3⟩
theorem ama (w:World) (v v' : Value) (zs:List Int) (L M:Nat) (h:CanRow w v zs L) (h' : CanRow w v' zs M) :
  Calls Tryz.prog 28 #[v,v'] w fun e w'=>e=.returned (.bool true)∧Below w.heap.size w w' := by
 obtain ⟨es,h1,h2,h3⟩:=h
 obtain ⟨fs,g1,g2,g3⟩:=h'
 obtain ⟨a,c,rfl,_⟩:=id h1.cl
 obtain ⟨a',c',rfl,_⟩:=id g1.cl
 refine aqd w a _ c es h1 a' _ c' fs g1 ?_
 unfold SameR
 apply List.ext_getElem?
 intro k
 rw [List.getElem?_map,List.getElem?_map]
 cases hk:es[k]? with
 | none =>
  rw [List.getElem?_eq_none_iff] at hk
  rw [(List.getElem?_eq_none_iff (l:=fs)).2 (by omega)]
 | some e =>
  have hkl:=(List.getElem?_eq_some_iff.1 hk).1
  obtain ⟨z,hz⟩:∃ z,zs[k]? = some z:=⟨_,List.getElem?_eq_getElem (by omega)⟩
  obtain ⟨f,hf⟩:∃ f,fs[k]? = some f:=⟨_,List.getElem?_eq_getElem (by omega)⟩
  obtain ⟨c1,c2,c3,_⟩:=h3 k e z hk hz
  obtain ⟨d1,d2,d3,_⟩:=g3 k f z hf hz
  rw [hf,Option.map_some,Option.map_some,WE.raw,WE.raw,c3,d3,ac0 c1 d1 (c2.trans d2.symm)]
theorem abt {ops:Array Oper} {rest:List Oper} {o:Oper} {a:Act} {w:World} {Q:Exit→Act→World→Prop} {R:Value→World→Prop} (hg:o.guard=none) (h:Does Tryz.prog o a.eval w R) (hK:∀ v w',R v w'→wpList Tryz.prog ops Q rest (a.put o.dst v) w'):wpList Tryz.prog ops Q (o :: rest) a w:=by
 refine wpList_plain hg fun K hK'=>?_
 exact Does.wp h (fun v w' hr=>hK' _ _ (hK v w' hr))
set_option maxRecDepth 20000 in
set_option maxHeartbeats 1000000 in
theorem amb (w:World) (v:Int) (h1 : -9223372036854775808≤v) (h2:v≤9223372036854775807) (h0:v<0) :
  Calls Tryz.prog 27 #[.int .i64 v] w fun e w'=>∃ r,e=.returned r∧FrW w.heap.size v 2 r w'∧Below w.heap.size w w' := by
 obtain ⟨i0,hi,hz0,hz1,hz2⟩:=info_parts ab4
 have hf0:=heap_alloc_new w (.cells #[.bool false,.slice none 0 0] 27)
 have hb0:=hAl w (.cells #[.bool false,.slice none 0 0] 27)
 generalize hE:w.alloc (.cells #[.bool false,.slice none 0 0] 27)=w0 at *
 have E0:=hide hE
 have HF0:=hide hf0
 have HB0:=hide hb0
 clear hE hf0 hb0
 have hw:IntKind.u64.wrap (-IntKind.u64.wrap v) = -v:=by rw [IntKind.wrap_u64,IntKind.wrap_u64];omega
 go_enter Tryz.func27,Tryz.ntmps27
 go_wp2
 rw [E0.out]
 clear hw
 go_loopw [3,4] (fun uv mv wr=>∃ (u:Int) (ls:List Int),uv=.int .u64 u∧0≤u∧u<18446744073709551616∧Limb ls∧val ls+pw ls.length*u = -v∧(u=0→tl ls=ls.length)∧wr.ownsRow w0.heap.size 83 1 mv ls.length (ls.map (Value.int .u32))∧Below w0.heap.size w0 wr) (fun uv _ _=>(intOf uv).toNat)
 case atStart=>exact ⟨-v,[],rfl,by omega,by omega,aae,by simp [val,pw],fun _=>rfl,World.ownsRow_nil _ _ _ _,Below.refl _ _⟩
 case round =>
  obtain ⟨u,ls,rfl,hu0,hu1,hls,hv,htop,hown,hbel⟩:=hrel
  have HL:=hide hls
  have HV:=hide hv
  have HT:=hide htop
  clear hls hv htop
  by_cases hu:0<u
  ·have hroom:=apb HL.out hu (by rw [HV.out];omega)
   have HV' := hide (apa HV.out)
   have HT' : Hid (u / 4294967296=0→tl (ls ++ [u % 4294967296])=(ls ++ [u % 4294967296]).length):=fun h=>at3 hu h
   go_wp2_with (at_builtin;refine wpList_append_own _ rfl (.tmp 13) (.tmp 16) 25 rfl w0.heap.size 83 i0 (.int .u32 0) 1 4 Tryz.underlying25 hi hz0 hz1 hz2 rfl (by decide) _ _ _ rfl (hown.alloc _) ⟨wr.heap.size,0,none⟩ 1 1 [.int .u32 (u % 4294967296)] rfl rfl (cell_one_new _ _ _) ?c2 ?c3 ?c4 ?c5 ?_)
   case c2=>first | rfl | (intro x hx;simp at hx;subst hx;rfl)
   case c3=>unfold maxLen;omega
   case c4=>omega
   case c5=>have:=hbel.size;first | omega | (simp;omega)
   intro v4 w4 hown4 hgrow4 _
   have R:=ajy hown4 hgrow4 hbel hbel.size hown.lt
   clear hown4 hgrow4 hown
   go_wp2
   go_roundw
   case rel=>exact ⟨u / 4294967296,ls ++ [u % 4294967296],rfl,by omega,by omega,aah.2 ⟨HL.out,aag.2 ⟨by omega,aae⟩⟩,HV'.out,HT'.out,by simpa using R.1,R.2⟩
   case measure=>simp [intOf];omega
  ·have hu' : u=0:=by omega
   subst hu'
   have hval:val ls = -v:=by have:=HV.out;rwa [Int.mul_zero,Int.add_zero] at this
   have hcan:Canon ls:=⟨HL.out,HT.out rfl⟩
   have hlen:ls.length≤2:=aax hcan (m:=2) (by rw [hval,show pw 2=18446744073709551616 from by decide];omega)
   have how:=abi hown HL.out
   obtain ⟨ao,cap,hmv,_⟩:=id how
   subst hmv
   have hfr:FrW w0.heap.size v 2 (.agg #[.bool true,.slice ao ls.length cap]) wr:=by
    refine ⟨_,_,_,_,w0.heap.size,wr.heap.size,rfl,⟨⟨how,hcan,by rw [hval];omega,fun hc g off hg=>?_⟩,by simp;omega⟩,Nat.le_refl _,Nat.le_refl _,hlen⟩
    subst hg
    obtain ⟨ao',cap',e1,_,_,_,e4⟩:=how
    simp only [Value.slice.injEq] at e1
    obtain ⟨rfl,_,rfl⟩:=e1
    rcases e4 with e4 | ⟨g',off',cur,e5,hB',hh,_⟩
    ·omega
    ·simp only [Option.some.injEq,Addr.mk.injEq] at e5
     obtain ⟨rfl,_,_⟩:=e5
     exact ⟨hB',aaa hh⟩
   have HFR:=hide (hfr.low HB0.out.size)
   have HFx:=hide ((hbel.block _ (aaa HF0.out)).trans HF0.out)
   have HBx:=hide (HB0.out.trans (hbel.mono HB0.out.size))
   obtain ⟨hfl,c0,c1,fr0,fr1⟩:=aal HFx.out
   have hd:decide (v<0)=true:=by simp;omega
   clear hval hown how hfr hbel hcan
   go_wp2
   exact bodyPost_ret (v:=.agg #[.bool true,.slice ao ls.length cap]) (abw (g:=w.heap.size) rfl rfl (lvw2 (abz HFx.out _ _))) rfl ⟨_,rfl,HFR.out.ru (act HFx.out _ _),(HBx.out.setCell (Nat.le_refl _) _).setCell (Nat.le_refl _) _⟩
set_option maxRecDepth 20000 in
set_option maxHeartbeats 1000000 in
theorem amc (w:World) (v:Int) (h1 : -9223372036854775808≤v) (h2:v≤9223372036854775807) (h0:¬ v<0) :
  Calls Tryz.prog 27 #[.int .i64 v] w fun e w'=>∃ r,e=.returned r∧FrW w.heap.size v 2 r w'∧Below w.heap.size w w' := by
 obtain ⟨i0,hi,hz0,hz1,hz2⟩:=info_parts ab4
 have hf0:=heap_alloc_new w (.cells #[.bool false,.slice none 0 0] 27)
 have hb0:=hAl w (.cells #[.bool false,.slice none 0 0] 27)
 generalize hE:w.alloc (.cells #[.bool false,.slice none 0 0] 27)=w0 at *
 have E0:=hide hE
 have HF0:=hide hf0
 have HB0:=hide hb0
 clear hE hf0 hb0
 have hw:True:=trivial
 go_enter Tryz.func27,Tryz.ntmps27
 go_wp2
 rw [E0.out]
 clear hw
 go_loopw [3,4] (fun uv mv wr=>∃ (u:Int) (ls:List Int),uv=.int .u64 u∧0≤u∧u<18446744073709551616∧Limb ls∧val ls+pw ls.length*u=v∧(u=0→tl ls=ls.length)∧wr.ownsRow w0.heap.size 83 1 mv ls.length (ls.map (Value.int .u32))∧Below w0.heap.size w0 wr) (fun uv _ _=>(intOf uv).toNat)
 case atStart=>exact ⟨v,[],rfl,by omega,by omega,aae,by simp [val,pw],fun _=>rfl,World.ownsRow_nil _ _ _ _,Below.refl _ _⟩
 case round =>
  obtain ⟨u,ls,rfl,hu0,hu1,hls,hv,htop,hown,hbel⟩:=hrel
  have HL:=hide hls
  have HV:=hide hv
  have HT:=hide htop
  clear hls hv htop
  by_cases hu:0<u
  ·have hroom:=apb HL.out hu (by rw [HV.out];omega)
   have HV' := hide (apa HV.out)
   have HT' : Hid (u / 4294967296=0→tl (ls ++ [u % 4294967296])=(ls ++ [u % 4294967296]).length):=fun h=>at3 hu h
   go_wp2_with (at_builtin;refine wpList_append_own _ rfl (.tmp 13) (.tmp 16) 25 rfl w0.heap.size 83 i0 (.int .u32 0) 1 4 Tryz.underlying25 hi hz0 hz1 hz2 rfl (by decide) _ _ _ rfl (hown.alloc _) ⟨wr.heap.size,0,none⟩ 1 1 [.int .u32 (u % 4294967296)] rfl rfl (cell_one_new _ _ _) ?c2 ?c3 ?c4 ?c5 ?_)
   case c2=>first | rfl | (intro x hx;simp at hx;subst hx;rfl)
   case c3=>unfold maxLen;omega
   case c4=>omega
   case c5=>have:=hbel.size;first | omega | (simp;omega)
   intro v4 w4 hown4 hgrow4 _
   have R:=ajy hown4 hgrow4 hbel hbel.size hown.lt
   clear hown4 hgrow4 hown
   go_wp2
   go_roundw
   case rel=>exact ⟨u / 4294967296,ls ++ [u % 4294967296],rfl,by omega,by omega,aah.2 ⟨HL.out,aag.2 ⟨by omega,aae⟩⟩,HV'.out,HT'.out,by simpa using R.1,R.2⟩
   case measure=>simp [intOf];omega
  ·have hu' : u=0:=by omega
   subst hu'
   have hval:val ls=v:=by have:=HV.out;rwa [Int.mul_zero,Int.add_zero] at this
   have hcan:Canon ls:=⟨HL.out,HT.out rfl⟩
   have hlen:ls.length≤2:=aax hcan (m:=2) (by rw [hval,show pw 2=18446744073709551616 from by decide];omega)
   have how:=abi hown HL.out
   obtain ⟨ao,cap,hmv,_⟩:=id how
   subst hmv
   have hfr:FrW w0.heap.size v 2 (.agg #[.bool false,.slice ao ls.length cap]) wr:=by
    refine ⟨_,_,_,_,w0.heap.size,wr.heap.size,rfl,⟨⟨how,hcan,by rw [hval];omega,fun hc g off hg=>?_⟩,by simp;omega⟩,Nat.le_refl _,Nat.le_refl _,hlen⟩
    subst hg
    obtain ⟨ao',cap',e1,_,_,_,e4⟩:=how
    simp only [Value.slice.injEq] at e1
    obtain ⟨rfl,_,rfl⟩:=e1
    rcases e4 with e4 | ⟨g',off',cur,e5,hB',hh,_⟩
    ·omega
    ·simp only [Option.some.injEq,Addr.mk.injEq] at e5
     obtain ⟨rfl,_,_⟩:=e5
     exact ⟨hB',aaa hh⟩
   have HFR:=hide (hfr.low HB0.out.size)
   have HFx:=hide ((hbel.block _ (aaa HF0.out)).trans HF0.out)
   have HBx:=hide (HB0.out.trans (hbel.mono HB0.out.size))
   obtain ⟨hfl,c0,c1,fr0,fr1⟩:=aal HFx.out
   have hd:decide (v<0)=false:=by simp;omega
   clear hval hown how hfr hbel hcan
   go_wp2
   exact bodyPost_ret (v:=.agg #[.bool false,.slice ao ls.length cap]) (abw (g:=w.heap.size) rfl rfl (lvw2 (abz HFx.out _ _))) rfl ⟨_,rfl,HFR.out.ru (act HFx.out _ _),(HBx.out.setCell (Nat.le_refl _) _).setCell (Nat.le_refl _) _⟩
theorem as7 (w:World) (v:Int) (h1 : -9223372036854775808≤v) (h2:v≤9223372036854775807) :
  Calls Tryz.prog 27 #[.int .i64 v] w fun e w'=>∃ r,e=.returned r∧FrW w.heap.size v 2 r w'∧Below w.heap.size w w' := by
 by_cases h0:v<0
 ·exact amb w v h1 h2 h0
 ·exact amc w v h1 h2 h0
set_option maxRecDepth 20000 in
set_option maxHeartbeats 4000000 in
theorem avt (w:World) (v:Value) (zs:List Int) (h:Nums w v zs) (hz:∀ z ∈ zs,-9223372036854775808≤z∧z≤9223372036854775807) (hl:zs.length≤1000) :
  Calls Tryz.prog 12 #[v] w fun e w'=>∃ r,e=.returned r∧CanRow w' r zs 2∧Below w.heap.size w w' := by
 obtain ⟨ao,cap,rfl,_⟩:=id h
 have H:=hide h
 have HZ:=hide hz
 clear h hz
 obtain ⟨n,hn⟩:∃ n,zs.length=n:=⟨_,rfl⟩
 rw [hn] at H hl ⊢
 have HN:=hide hn
 clear hn
 go_enter Tryz.func12,Tryz.ntmps12
 go_wp2_with fail
 go_loopw [3,4] (fun ov iv wr=>∃ (k:Nat) (es:List WE),iv=.int .i64 k∧k≤n∧Below w.heap.size w wr∧es.length=k∧RwO w.heap.size wr ov es∧∀ (j:Nat) (e:WE) (z:Int),es[j]? = some e→zs[j]? = some z→Canon e.zs∧val e.zs=(z.natAbs:Int)∧e.ng=decide (z<0)∧e.zs.length≤2) (fun _ iv _=>n - (intOf iv).toNat)
 case atStart=>exact ⟨0,[],rfl,Nat.zero_le _,Below.refl _ _,rfl,amq _ _,fun j e z he=>(by simp at he)⟩
 case round =>
  obtain ⟨k,es,rfl,hk,hbw,hes,hown,hall⟩:=hrel
  have HW:=hide hbw
  have HES:=hide hes
  have HOWN:=hide hown
  have HALL:=hide hall
  by_cases hlt:k<n
  ·obtain ⟨b,off,rfl,hc⟩:=(show Nums wr (.slice ao n cap) zs from Ce.below H.out hbw).cell (i:=k) (by have:=HN.out;omega)
   have hget:zs[k]? = some (zs[k]'(by have:=HN.out;omega)):=List.getElem?_eq_getElem _
   generalize zs[k]'(by have:=HN.out;omega)=z at hc hget
   have HG:=hide hget
   have hzb:=HZ.out z (List.mem_of_getElem? hget)
   have hlt' : (k:Int)<(n:Int):=by omega
   obtain ⟨aov,capv,hov,_⟩:=Cl.own hown.own
   subst hov
   clear hbw hes hown hall hget
   go_wp2_with fail
   refine (as7 wr z hzb.1 hzb.2).mono ?_
   rintro e w2 ⟨r2,rfl,hf2,hb2⟩
   obtain ⟨ng2,ao2,cap2,rs2,B2,T2,rfl,hwf,hB2,hT2,hl2⟩:=hf2
   have hA:=hAl w2 (.cells #[.bool ng2,.slice ao2 rs2.length cap2] 27)
   have hb2' := hb2.trans (hA.mono hb2.size)
   have hR2:=HOWN.out.below hb2'
   have hO2:One _ w2.heap.size ng2 ao2 rs2.length cap2:=heap_alloc_new w2 (.cells #[.bool ng2,.slice ao2 rs2.length cap2] 27)
   have hS2:Ow w.heap.size _ (.slice ao2 rs2.length cap2) rs2:=(hwf.fr.ow.mono (Nat.le_trans HW.out.size hB2)).below hA
   have hsz:w.heap.size≤(w2.alloc (.cells #[.bool ng2,.slice ao2 rs2.length cap2] 27)).heap.size:=Nat.le_trans HW.out.size hb2'.size
   go_wp2_with (at_builtin;refine abt rfl (avh (i:=11) (j:=17) rfl rfl hR2 hO2 hS2 (by rw [HES.out];omega) hsz) ?_)
   intro v3 w3 hR3 hb3
   obtain ⟨aov3,capv3,hov3,_⟩:=Cl.own hR3.own
   subst hov3
   have HR3:=hide hR3
   have HB3:=hide ((HW.out.trans (hb2'.mono HW.out.size)).trans hb3)
   have HWF:=hide hwf
   clear hR3 hb3 hR2 hO2 hS2 hsz hA hb2 hb2' hwf hB2 hT2
   go_wp2
   go_roundw
   case rel =>
    refine ⟨k+1,es ++ [⟨ng2,ao2,rs2.length,cap2,rs2⟩],by go_num,by omega,HB3.out,by simp [HES.out],HR3.out,fun j e y he hy=>?_⟩
    by_cases hj:j<es.length
    ·rw [List.getElem?_append_left hj] at he
     exact HALL.out j e y he hy
    ·have hjl:=(List.getElem?_eq_some_iff.1 he).1
     simp at hjl
     obtain rfl:j=es.length:=by omega
     rw [List.getElem?_append_right (Nat.le_refl _)] at he
     simp at he
     subst he
     rw [HES.out,HG.out] at hy
     obtain rfl:=Option.some.inj hy
     exact ⟨HWF.out.fr.canon,HWF.out.fr.val,HWF.out.sgn,hl2⟩
   case measure=>simp [intOf];omega
  ·have hlt' : decide ((k:Int)<(n:Int))=false:=by simp;omega
   have hkn:k=n:=by omega
   subst hkn
   clear hbw hes hown hall
   go_wp2
   refine bodyPost_ret (v:=_) (adm rfl rfl) rfl ⟨_,rfl,⟨es,HOWN.out.rw,by rw [HES.out,HN.out],HALL.out⟩,HW.out⟩
end Lm
end Go.Proofs.YtgmobkafnefpfaaGreat
namespace Go.Proofs.YtgmobkafnefpfaaGreat
namespace Lm
open Go Go.RowKit
theorem aky (p:Int) {q:Int} (_h:q≠0):nm p q=(Rat.divInt p q).num:=by
 rw [Rat.num_divInt,nm,Int.gcd_comm]
 rw [Int.mul_ediv_assoc _ (Int.gcd_dvd_right ..)]
theorem akz (p:Int) {q:Int} (h:q≠0):dn p q=((Rat.divInt p q).den:Int):=by
 rw [Rat.den_divInt,if_neg h,dn,Int.gcd_comm,Int.natCast_ediv]
 rcases Int.lt_or_gt_of_ne h with h1 | h1
 ·rw [Int.sign_eq_neg_one_of_neg h1,show ((q.natAbs:Nat):Int) = -q from by omega,Int.neg_ediv_of_dvd (Int.gcd_dvd_left ..)]
  omega
 ·rw [Int.sign_eq_one_of_pos h1,show ((q.natAbs:Nat):Int)=q from by omega]
  omega
def Fit (r:Rat) (L:Nat):Prop:=(r.num.natAbs:Int)<pw L∧(r.den:Int)<pw L
theorem OutN.fit {z:Int} {L M:Nat} {v:Value} {w:World} (h:OutN z L v w) (hz:(z.natAbs:Int)<pw M):OutN z (3*M) v w:=by
 obtain ⟨ng,ao,cap,rs,e,W,l⟩:=h
 exact ⟨ng,ao,cap,rs,e,W,W.len (Int.lt_of_lt_of_le hz (Dm.akg M))⟩
theorem OutN.rl {z:Int} {L:Nat} {v:Value} {w w' : World} (h:OutN z L v w) (hr:Rl w w'):OutN z L v w' := OutN.mono4 z L _ _ _ hr h
theorem OutN.agg {z:Int} {L:Nat} {v:Value} {w:World} (h:OutN z L v w):∃ ng ao n cap,v=.agg #[.bool ng,.slice ao n cap]:=by
 obtain ⟨ng,ao,cap,rs,rfl,_⟩:=h
 exact ⟨ng,ao,_,cap,rfl⟩
def NRow (w:World) (v:Value) (zs:List Int) (L:Nat):Prop:=∃ fs:List WE,Cl w v 2 fs.length (flat fs)∧fs.length=zs.length∧∀ (k:Nat) (f:WE) (z:Int),fs[k]? = some f→zs[k]? = some z→OutN z L f.v w
theorem NRow.below {w w' : World} {v:Value} {zs:List Int} {L:Nat} (h:NRow w v zs L) (hb:Below w.heap.size w w'):NRow w' v zs L:=by
 obtain ⟨fs,h1,h2,h3⟩:=h
 exact ⟨fs,h1.below hb,h2,fun k f z hf hz=>(h3 k f z hf hz).rl (Rl.of_below hb)⟩
theorem NRow.parts {w:World} {v:Value} {zs:List Int} {L:Nat} (h:NRow w v zs L):∃ ao cap,v=.slice ao zs.length cap∧zs.length≤9223372036854775807:=by
 obtain ⟨fs,⟨ao,cap,rfl,h1,h2,_⟩,h3,_⟩:=h
 exact ⟨ao,cap,by rw [h3],by omega⟩
theorem NRow.cell {w:World} {ao:Option Addr} {n cap:Nat} {zs:List Int} {L k:Nat} {z:Int} (h:NRow w (.slice ao n cap) zs L) (hz:zs[k]? = some z):∃ b off ng a m c,ao=some ⟨b,off,none⟩∧b<w.heap.size∧w.cell? ⟨b,off+k*2,none⟩ = some (.bool ng)∧w.cell? ⟨b,off+k*2+1,none⟩ = some (.slice a m c)∧OutN z L (.agg #[.bool ng,.slice a m c]) w:=by
 obtain ⟨fs,⟨ao',cap',hv,h1,h2,h3,h4⟩,h5,h6⟩:=h
 simp only [Value.slice.injEq] at hv
 obtain ⟨rfl,rfl,rfl⟩:=hv
 have hk:=(List.getElem?_eq_some_iff.1 hz).1
 obtain ⟨f,hf⟩:∃ f,fs[k]? = some f:=⟨_,List.getElem?_eq_getElem (by omega)⟩
 obtain ⟨f1,f2⟩:=abl hf
 rcases h4 with h4 | ⟨b,off,rfl,hb,hc⟩
 ·omega
 ·exact ⟨b,off,f.ng,f.a,f.m,f.c,rfl,hb,hc _ _ f1,by rw [Nat.add_assoc];exact hc _ _ f2,h6 k f z hf hz⟩
def isI:Value→Bool
 | .int _ _=>true
 | _=>false
def NoI (w:World) (v:Value):Prop:=∀ g cs T,v.ownBlock=some g→w.heap[g]? = some (.cells cs T (0,0))→∀ x ∈ cs.toList,isI x=false
theorem NoI.below {w w' : World} {v:Value} (h:NoI w v) (hl:∀ k,v.ownBlock=some k→k<w.heap.size) (hb:Below w.heap.size w w'):NoI w' v:=fun g cs T hg hh=>h g cs T hg ((hb.block g (hl g hg)).symm.trans hh)
theorem ak0 {z:Array Value} (hz:∀ x ∈ z.toList,isI x=false) (n:Nat):∀ x ∈ (Builtin.zeroCells z n).toList,isI x=false:=by
 intro x hx
 simp only [Builtin.zeroCells,Array.toList_map,List.mem_map] at hx
 obtain ⟨j,_,rfl⟩:=hx
 by_cases h:j % z.size<z.size
 ·rw [getElem!_pos z _ h]
  exact hz _ (by simp)
 ·rw [getElem!_neg z _ h]
  rfl
theorem agf {P:Program} (w:World) (base:Nat) (t ty e:TypeId) (i:TypeInfo) (z:Value) (bytes:Nat) (ht:P.underlying t=some (.slice e)) (hi:P.info? e=some i) (hz:i.zero=some z) (hby:i.bytes=bytes) (_hsz:0<i.size)
  (v:Value) (n:Nat) (xs:List Value) (hown:w.ownsRow base e i.size v n xs) (a:Addr) (c:Nat) (news:List Value) (hl:news.length=i.size) (hnews:∀ j u,news[j]? = some u→w.cell? (a.add j)=some u) (h1:∀ u ∈ news,u.oneCell' = true)
  (h63:n+1≤maxLen) (hbytes:(n+1)*bytes≤140737488355328) (hI:NoI w v) (hN:∀ u ∈ news,isI u=false) (hZ:∀ u ∈ z.cells.toList,isI u=false) {v' : Value} {w' : World} (hr:(Builtin.append_ #[t,t] ty #[v,.slice (some a) 1 c]).run P w=.ok v' w'):NoI w' v' := by
 subst hby
 have hl' : news.length=1*i.size:=by omega
 have hsmall:n+1≤9223372036854775807:=by simp only [maxLen] at h63;omega
 rcases hown.2 with ⟨rfl,rfl⟩ | ⟨g,cap,cur,rfl,hbg,hg,hnc,hcm,hcs,htake⟩
 ·have hr' := run_append_nil (P:=P) w t ty e i z ht hi hz a 1 c news hl' hnews (by omega) (by omega) (by omega)
  rw [hr] at hr'
  injection hr' with e1 e2
  subst e1 e2
  intro g cs T hg hh x hx
  simp only [Value.ownBlock,Option.some.injEq] at hg
  subst hg
  rw [show (w.drew.alloc (Obj.cells (news.toArray ++ Builtin.zeroCells z.cells (grownCap w 1 0 e - 1)) e)).heap[w.heap.size]? = _ from heap_alloc_new w.drew _] at hh
  injection hh with hh
  injection hh with hh
  subst hh
  simp only [Array.toList_append,List.mem_append] at hx
  rcases hx with hx | hx
  ·exact hN x hx
  ·exact ak0 hZ _ x hx
 ·have hcur:=hI g cur e rfl hg
  by_cases hroom:n+1≤cap
  ·have hfit:n*i.size+news.length≤cur.size:=by rw [hl',hcs,←Nat.add_mul];exact Nat.mul_le_mul_right _ hroom
   have hr' := run_append_room (P:=P) w t ty e i ht hi g n cap cur hg a 1 c news hl' hnews h1 hroom hfit
   rw [hr] at hr'
   injection hr' with e1 e2
   subst e1 e2
   intro g' cs T hg' hh x hx
   simp only [Value.ownBlock,Option.some.injEq] at hg'
   subst hg'
   rw [setRow_heap w g cur _ e _ hg] at hh
   injection hh with hh
   injection hh with hh
   subst hh
   simp only [List.mem_append] at hx
   rcases hx with (hx | hx) | hx
   ·exact hcur x (List.mem_of_mem_take hx)
   ·exact hN x hx
   ·exact hcur x (List.mem_of_mem_drop hx)
  ·have hr' := run_append_grow (P:=P) w t ty e i z ht hi hz ⟨g,0,none⟩ n cap xs hown.1 (hown.cells (g:=g) rfl) a 1 c news hl' hnews (by omega) (by omega) (growslice_fits (by omega) hbytes)
   rw [hr] at hr'
   injection hr' with e1 e2
   subst e1 e2
   intro g' cs T hg' hh x hx
   simp only [Value.ownBlock,Option.some.injEq] at hg'
   subst hg'
   rw [show (w.drew.alloc (Obj.cells (xs.toArray ++ news.toArray ++ Builtin.zeroCells z.cells (grownCap w (n+1) cap e - (n+1))) e)).heap[w.heap.size]? = _ from heap_alloc_new w.drew _] at hh
   injection hh with hh
   injection hh with hh
   subst hh
   simp only [Array.toList_append,List.mem_append] at hx
   rcases hx with (hx | hx) | hx
   ·rw [←htake] at hx
    exact hcur x (List.mem_of_mem_take hx)
   ·exact hN x hx
   ·exact ak0 hZ _ x hx
structure RnO (B:Nat) (w:World) (v:Value) (fs:List WE) (zs:List Int) (L:Nat):Prop where
 own:w.ownsRow B 51 2 v fs.length (flat fs)
 noi:NoI w v
 len:fs.length=zs.length
 out:∀ (k:Nat) (f:WE) (z:Int),fs[k]? = some f→zs[k]? = some z→OutN z L f.v w
theorem RnO.below {B:Nat} {w w' : World} {v:Value} {fs:List WE} {zs:List Int} {L:Nat} (h:RnO B w v fs zs L) (hb:Below w.heap.size w w'):RnO B w' v fs zs L :=
 ⟨h.own.kept (row:=none) ⟨hb.os,hb.tape,hb.output,hb.size,fun k hk _=>hb.block k hk⟩ (by cases hv:v.ownBlock <;> simp),h.noi.below (fun k hk=>(h.own.lt k hk).2) hb,h.len,fun k f z hf hz=>(h.out k f z hf hz).rl (Rl.of_below hb)⟩
theorem RnO.nrow {B:Nat} {w:World} {v:Value} {fs:List WE} {zs:List Int} {L:Nat} (h:RnO B w v fs zs L):NRow w v zs L:=⟨fs,Cl.own h.own,h.len,h.out⟩
theorem avu (B:Nat) (w:World) (L:Nat):RnO B w (.slice none 0 0) [] [] L:=⟨World.ownsRow_nil w B _ 2,fun g cs T hg=>by simp [Value.ownBlock] at hg,rfl,fun k f z hf=>by simp at hf⟩
section
variable {dst:Option Tmp} {ty:TypeId} {pos:String} {after:Array Edge} {guard:Option (Nat × Bool)} {a:Act} {w:World} {ats:Array TypeId} {i j:Nat}
theorem infoN:(Tryz.prog.info? 51).map (fun i=>(i.zero,i.size,i.bytes))=some (some (.agg #[.bool false,.slice none 0 0]),2,32):=by kernel_rfl
theorem avv {B g:Nat} {v:Value} {es:List WE} {zs:List Int} {L:Nat} {z:Int} {ng:Bool} {ao:Option Addr} {n c:Nat} (h1:a.eval (.tmp i)=v) (h2:a.eval (.tmp j)=.slice (some ⟨g,0,none⟩) 1 1) (R:RnO B w v es zs L) (O:w.heap[g]? = some (.cells #[.bool ng,.slice ao n c] 51 (0,0))) (S:OutN z L (.agg #[.bool ng,.slice ao n c]) w) (hn:es.length≤1000000) (hB:B≤w.heap.size) :
  Does Tryz.prog { dst,op:=.call { callee:=.builtin .append,args:=#[.tmp i,.tmp j],argTypes:=#[70,70] },type:=ty,pos,after,guard } a.eval w fun v' w'=>RnO B w' v' (es ++ [⟨ng,ao,n,c,[]⟩]) (zs ++ [z]) L∧Below B w w' := by
 obtain ⟨i0,hi,hz0,hz1,hz2⟩:=info_parts infoN
 have hfl:flat (es ++ [⟨ng,ao,n,c,[]⟩])=flat es ++ [.bool ng,.slice ao n c]:=by rw [adn];rfl
 have hcl:∀ (k:Nat) (u:Value),[Value.bool ng,.slice ao n c][k]? = some u→w.cell? ((⟨g,0,none⟩:Addr).add k)=some u:=fun k u hu=>by
  have hc:∀ k,w.cell? ⟨g,k,none⟩ = #[Value.bool ng,.slice ao n c][k]? := fun k=>cell_of_row w g k _ _ (0,0) O
  have ha:(⟨g,0,none⟩:Addr).add k=⟨g,k,none⟩:=by unfold Addr.add;split <;> simp_all
  rw [ha,hc]
  simpa using hu
 obtain ⟨v',w',hr,ho,hgr,_⟩:=run_append_own (P:=Tryz.prog) w B 70 ty 51 i0 _ 2 32 Tryz.underlying70 hi hz0 hz1 hz2 rfl (by decide) v es.length (flat es) R.own ⟨g,0,none⟩ 1 1 [.bool ng,.slice ao n c] rfl hcl (by simp [Value.oneCell']) (by simp [maxLen];omega) (by omega) hB
 have e:(execOp a.eval { dst,op:=.call { callee:=.builtin .append,args:=#[.tmp i,.tmp j],argTypes:=#[70,70] },type:=ty,pos,after,guard }).run Tryz.prog w=.ok (.value v') w' := by
  simp only [execOp,resolve,invoke,builtin,Sem.run_bind,Sem.run_pure,Result.andThen_ok,List.map_toArray,List.map_cons,List.map_nil,h1,h2,hr]
 refine ⟨?_⟩
 unfold Turns
 rw [e]
 have hrl:Rl w w' := by
  refine ⟨hgr.size,fun p k z e=>?_,fun k cs T hT e=>?_⟩
  ·rw [World.cell?_of_block (w:=w) (hgr.block p.block (acn e) fun hb=>?_)]
   ·exact e
   ·rcases R.own.2 with ⟨rfl,_⟩ | ⟨g',cap,cur,rfl,_,hh,h5,h6,h7,h8⟩
    ·simp [Value.ownBlock] at hb
    ·simp only [Value.ownBlock,Option.some.injEq] at hb
     obtain ⟨pb,po,pm⟩:=p
     simp only at hb
     subst hb
     simp only [World.cell?,hh] at e
     cases pm with
     | some m=>simp at e
     | none =>
      have hm:=R.noi _ cur _ rfl hh (.int k z) (Array.mem_toList_iff.2 (Array.mem_of_getElem? (i:=po) (by simpa using e)))
      exact absurd hm (by simp [isI])
  ·refine (hgr.block k (aaa e) fun hb=>?_).trans e
   rcases R.own.2 with ⟨rfl,_⟩ | ⟨g',cap,cur,rfl,_,hh,_⟩
   ·simp [Value.ownBlock] at hb
   ·simp only [Value.ownBlock,Option.some.injEq] at hb
    subst hb
    rw [hh] at e
    injection e with e
    injection e with _ e _
    rcases hT with rfl | rfl
    ·exact absurd e (by decide)
    ·exact absurd e (by decide)
 have hni:NoI w' v' := by
  have hown:=R.own
  rw [←hz1] at hown
  exact agf (P:=Tryz.prog) w B 70 ty 51 i0 _ 32 Tryz.underlying70 hi hz0 hz2 (by omega) v es.length (flat es) hown ⟨g,0,none⟩ 1 [.bool ng,.slice ao n c] (by rw [hz1];rfl) hcl (by simp [Value.oneCell']) (by simp [maxLen];omega) (by omega) R.noi (by simp [isI]) (by simp [Value.cells,isI]) hr
 refine ⟨⟨by rw [hfl,List.length_append];exact ho,hni,by simp [R.len],fun k f y hf hy=>?_⟩,⟨hgr.os,hgr.tape,hgr.output,hgr.size,fun k hk=>hgr.block k (by omega) (fun e=>?_)⟩⟩
 ·by_cases hk:k<es.length
  ·rw [List.getElem?_append_left hk] at hf
   rw [List.getElem?_append_left (by rw [←R.len];exact hk)] at hy
   exact (R.out k f y hf hy).rl hrl
  ·have hkl:=(List.getElem?_eq_some_iff.1 hf).1
   simp at hkl
   obtain rfl:k=es.length:=by omega
   rw [List.getElem?_append_right (Nat.le_refl _)] at hf
   rw [List.getElem?_append_right (by rw [R.len];exact Nat.le_refl _)] at hy
   simp [R.len] at hf hy
   subst hf hy
   exact S.rl hrl
 ·have:=R.own.lt k e.symm
  omega
end
theorem nofF (w:World) (x:Int) (v:Value) (L:Nat) (hx:IsW x L v w) (hL:L≤100000) :
  Calls Tryz.prog 79 #[v] w fun e w'=>∃ r,e=.returned r∧OutN x (3*L) r w'∧Below w.heap.size w w' := by
 obtain ⟨n1,a1,m1,c1,xs,rfl,A1,l1⟩:=hx
 refine (Dm.ayt w _ _ _ _ xs x A1 (by omega)).mono ?_
 rintro e w' ⟨ng,ao,cap,rs,rfl,G,l,hb⟩
 exact ⟨_,rfl,⟨_,_,_,_,rfl,G,by omega⟩,hb⟩
set_option maxRecDepth 20000 in
set_option maxHeartbeats 4000000 in
theorem as8 (w:World) (v:Value) (zs:List Int) (L:Nat) (h:IsRow w v zs L) (hl:zs.length≤100001) (hL:L≤100000) :
  Calls Tryz.prog 44 #[v] w fun e w'=>∃ r,e=.returned r∧NRow w' r zs (3*L)∧Below w.heap.size w w' := by
 obtain ⟨ao,cap,rfl,_⟩:=h.parts
 have H:=hide h
 clear h
 obtain ⟨n,hn⟩:∃ n,zs.length=n:=⟨_,rfl⟩
 rw [hn] at H hl ⊢
 have HN:=hide hn
 clear hn
 go_enter Tryz.func44,Tryz.ntmps44
 go_wp2_with fail
 go_loopw [3,4] (fun ov iv wr=>∃ (k:Nat) (fs:List WE),iv=.int .i64 k∧k≤n∧Below w.heap.size w wr∧RnO w.heap.size wr ov fs (zs.take k) (3*L)) (fun _ iv _=>n - (intOf iv).toNat)
 case atStart=>exact ⟨0,[],rfl,Nat.zero_le _,Below.refl _ _,avu _ _ _⟩
 case round =>
  obtain ⟨k,fs,rfl,hk,hbw,hown⟩:=hrel
  have HW:=hide hbw
  have HOWN:=hide hown
  by_cases hlt:k<n
  ·obtain ⟨z,hz⟩:∃ z,zs[k]? = some z:=⟨_,List.getElem?_eq_getElem (by have:=HN.out;omega)⟩
   obtain ⟨b,off,ng,a,m,c,rfl,hbl,x0,x1,hxw⟩:=(H.out.below hbw).cell hz
   have HZ:=hide hz
   have K1:=hide (nofF wr z _ L hxw hL)
   have hlt' : (k:Int)<(n:Int):=by omega
   obtain ⟨aov,capv,hov,_⟩:=Cl.own hown.own
   subst hov
   clear hbw hown hz hxw
   go_wp2_with fail
   refine K1.out.mono ?_
   rintro e w2 ⟨r2,rfl,hf2,hb2⟩
   obtain ⟨ng2,ao2,n2,cap2,rfl⟩:=hf2.agg
   have hA:=hAl w2 (.cells #[.bool ng2,.slice ao2 n2 cap2] 51)
   have hb2' := hb2.trans (hA.mono hb2.size)
   have hR2:=HOWN.out.below hb2'
   have hO2:=heap_alloc_new w2 (.cells #[.bool ng2,.slice ao2 n2 cap2] 51)
   have hS2:=hf2.rl (Rl.of_below hA)
   have hsz:w.heap.size≤(w2.alloc (.cells #[.bool ng2,.slice ao2 n2 cap2] 51)).heap.size:=Nat.le_trans HW.out.size hb2'.size
   have hfl:fs.length≤1000000:=by rw [HOWN.out.len,List.length_take];omega
   go_wp2_with (at_builtin;refine abt rfl (avv (i:=11) (j:=17) rfl rfl hR2 hO2 hS2 hfl hsz) ?_)
   intro v3 w3 hR3 hb3
   obtain ⟨aov3,capv3,hov3,_⟩:=Cl.own hR3.own
   subst hov3
   have HR3:=hide hR3
   have HB3:=hide ((HW.out.trans (hb2'.mono HW.out.size)).trans hb3)
   clear hR3 hb3 hR2 hO2 hS2 hsz hA hb2 hb2' hf2 hfl
   go_wp2
   go_roundw
   case rel =>
    refine ⟨k+1,fs ++ [⟨ng2,ao2,n2,cap2,[]⟩],by go_num,by omega,HB3.out,?_⟩
    rw [List.take_add_one,HZ.out]
    exact HR3.out
   case measure=>simp [intOf];omega
  ·have hlt' : decide ((k:Int)<(n:Int))=false:=by simp;omega
   have hkn:k=n:=by omega
   subst hkn
   obtain ⟨aov,capv,hov,_⟩:=Cl.own hown.own
   subst hov
   clear hbw hown
   go_wp2
   refine bodyPost_ret (v:=_) (adm rfl rfl) rfl ⟨_,rfl,(by have h:=HOWN.out.nrow;rw [List.take_of_length_le (by have:=HN.out;omega)] at h;exact h),HW.out⟩
theorem aqu (w:World) (L:Nat):OutN 0 L (.agg #[.bool false,.slice none 0 0]) w:=⟨false,none,0,[],rfl,⟨⟨Dm.ac5 w,Dm.ab1,rfl⟩,rfl⟩,by simp⟩
section
variable {dst:Option Tmp} {ty:TypeId} {pos:String} {after:Array Edge} {guard:Option (Nat × Bool)} {a:Act} {w:World} {ats:Array TypeId} {i j:Nat}
theorem avw {b off n c k:Nat} {ao:Option Addr} (h:a.eval (.tmp i)=.slice ao n c) (hao:ao=some ⟨b,off,none⟩) (hk:a.eval (.tmp j)=.int .i64 (k:Int)) (hl:k<n):Does Tryz.prog { dst,op:=.indexAddr 70 (.tmp i) (.tmp j),type:=ty,pos,after,guard } a.eval w fun v' w'=>Below w.heap.size w w'∧Eqs (.pointer (some ⟨b,off+k*2,none⟩)) v' w' := by
 subst hao
 have hl' : (k:Int)<(n:Int):=by omega
 refine ⟨?_⟩
 unfold Turns
 simp only [execOp,h,hk]
 go_simp
 exact ⟨Below.refl _ _,rfl⟩
end
theorem as9 (es:List WE) (i:Nat) (k:IntKind) (z:Int):(flat es).toArray[i]?≠some (.int k z):=by
 intro h
 rw [List.getElem?_toArray] at h
 have hlt:=(List.getElem?_eq_some_iff.1 h).1
 rw [abg] at hlt
 obtain ⟨e,he⟩:∃ e,es[i / 2]? = some e:=⟨_,List.getElem?_eq_getElem (by omega)⟩
 obtain ⟨f1,f2⟩:=abl he
 rcases (by omega:i=i / 2*2∨i=i / 2*2+1) with e1 | e1
 ·rw [e1,f1] at h
  simp at h
 ·rw [e1,f2] at h
  simp at h
section
variable {dst:Option Tmp} {ty:TypeId} {pos:String} {after:Array Edge} {guard:Option (Nat × Bool)} {a:Act} {w:World} {ats:Array TypeId} {i j:Nat}
theorem agh {b off:Nat} {ng:Bool} {ao:Option Addr} {n c:Nat} {q:Says} (hp:a.eval (.tmp i)=.pointer (some ⟨b,off,none⟩)) (h0:w.cell? ⟨b,off,none⟩ = some (.bool ng)) (h1:w.cell? ⟨b,off+1,none⟩ = some (.slice ao n c)) (hv:q (.agg #[.bool ng,.slice ao n c]) w) :
  Does Tryz.prog { dst,op:=.load 51 (.tmp i),type:=ty,pos,after,guard } a.eval w fun v' w'=>Below w.heap.size w w'∧q v' w' := by
 refine aay (v:=.agg #[.bool ng,.slice ao n c]) ?_ ⟨Below.refl _ _,hv⟩
 rw [hp]
 go_simp
end
end Lm
end Go.Proofs.YtgmobkafnefpfaaGreat
namespace Go.Proofs.YtgmobkafnefpfaaGreat
namespace Lm
theorem af4 (p:Int) {q:Int} (hq:q≠0):∃ g a b:Int,0<g∧p=g*a∧q=g*b∧b≠0∧Int.gcd a b=1∧nm p q=Int.sign b*a∧dn p q=Int.sign b*b:=by
 have hg:=ad0 (p:=p) hq
 obtain ⟨a,ha⟩:((Int.gcd p q:Nat):Int) ∣ p:=Int.gcd_dvd_left p q
 obtain ⟨b,hb⟩:((Int.gcd p q:Nat):Int) ∣ q:=Int.gcd_dvd_right p q
 have ea:p / ((Int.gcd p q:Nat):Int)=a:=by
  conv=>lhs;lhs;rw [ha]
  exact Int.mul_ediv_cancel_left _ (by omega)
 have eb:q / ((Int.gcd p q:Nat):Int)=b:=by
  conv=>lhs;lhs;rw [hb]
  exact Int.mul_ediv_cancel_left _ (by omega)
 have hs:Int.sign q=Int.sign b:=by
  rw [hb,Int.sign_mul,Int.sign_eq_one_of_pos hg,Int.one_mul]
 have hc:Int.gcd a b=1:=by
  have:=Int.gcd_ediv_gcd_ediv_gcd (i:=p) (j:=q) (by omega)
  rwa [ea,eb] at this
 refine ⟨_,a,b,hg,ha,hb,?_,hc,?_,?_⟩
 ·rintro rfl
  rw [Int.mul_zero] at hb
  exact hq hb
 ·unfold nm
  rw [ea,hs]
 ·unfold dn
  rw [eb,hs]
theorem ajk {b:Int} (h:b≠0):0<Int.sign b*b:=by
 rcases Int.lt_trichotomy b 0 with h1 | h1 | h1
 ·rw [Int.sign_eq_neg_one_of_neg h1];omega
 ·exact absurd h1 h
 ·rw [Int.sign_eq_one_of_pos h1];omega
theorem aqv (p:Int) {q:Int} (hq:q≠0):0<dn p q:=by
 obtain ⟨g,a,b,_,_,_,hb,_,_,e⟩:=af4 p hq
 rw [e]
 exact ajk hb
theorem ai7 (p:Int) {q:Int} (hq:q≠0):nm p q*q=p*dn p q:=by
 obtain ⟨g,a,b,_,hp,hq',_,_,e1,e2⟩:=af4 p hq
 rw [e1,e2]
 grind
theorem amu (p:Int) {q:Int} (hq:q≠0):Int.gcd (nm p q) (dn p q)=1:=by
 obtain ⟨g,a,b,_,_,_,hb,hc,e1,e2⟩:=af4 p hq
 rw [e1,e2]
 rcases Int.lt_trichotomy b 0 with h1 | h1 | h1
 ·rw [Int.sign_eq_neg_one_of_neg h1];simpa using hc
 ·exact absurd h1 hb
 ·rw [Int.sign_eq_one_of_pos h1];simpa using hc
theorem amv {n d k:Int} (hc:Int.gcd n d=1) (h:d ∣ n*k):d ∣ k:=by
 have h1:d.natAbs ∣ n.natAbs*k.natAbs:=by rw [←Int.natAbs_mul];exact Int.natAbs_dvd_natAbs.2 h
 have hc' : Nat.Coprime d.natAbs n.natAbs:=by
  unfold Nat.Coprime
  rw [Nat.gcd_comm]
  exact hc
 exact Int.natAbs_dvd_natAbs.1 (hc'.dvd_of_dvd_mul_left h1)
theorem ayc {p q p' q' : Int} (hq:q≠0) (hq' : q'≠0) (h:p*q' = p'*q):nm p q=nm p' q'∧dn p q=dn p' q' := by
 have c1:=ai7 p hq
 have c2:=ai7 p' hq'
 have d1:=aqv p hq
 have d2:=aqv p' hq'
 have hx:nm p q*dn p' q' = nm p' q'*dn p q:=by
  apply Int.eq_of_mul_eq_mul_right (Int.mul_ne_zero hq hq')
  grind
 have e1:dn p q ∣ dn p' q' := amv (amu p hq) ⟨nm p' q',by rw [hx,Int.mul_comm]⟩
 have e2:dn p' q' ∣ dn p q:=amv (amu p' hq') ⟨nm p q,by rw [←hx,Int.mul_comm]⟩
 have e:dn p q=dn p' q' := Int.dvd_antisymm (by omega) (by omega) e1 e2
 refine ⟨?_,e⟩
 rw [e] at hx
 exact Int.eq_of_mul_eq_mul_right (by omega) hx
end Lm
end Go.Proofs.YtgmobkafnefpfaaGreat
namespace Go.Proofs.YtgmobkafnefpfaaGreat
namespace Lm
open Go Go.RowKit
def ov (x y:Int):Int:=sg (decide (x<0) != decide (y<0)) ((x.natAbs:Int) / (y.natAbs:Int))
theorem ah3 (x:Int) {y:Int} (h:y≠0):((Int.gcd x y:Nat):Int)≠0:=by
 have:=ad0 (p:=x) h
 omega
theorem ak1 {x g:Int} (hg:0<g) (hd:g ∣ x):ov x g=x / g:=by
 obtain ⟨k,rfl⟩:=hd
 have h1:decide (g<0)=false:=decide_eq_false (by omega)
 have h2:((g.natAbs:Nat):Int)=g:=by omega
 rw [Int.mul_ediv_cancel_left _ (by omega)]
 unfold ov
 rw [h1,h2,Int.natAbs_mul]
 have h3:((g.natAbs*k.natAbs:Nat):Int)=g*(k.natAbs:Int):=by
  rw [Int.natCast_mul,h2]
 rw [h3,Int.mul_ediv_cancel_left _ (by omega)]
 by_cases hk:k<0
 ·have:g*k<0:=Int.mul_neg_of_pos_of_neg hg hk
  simp [sg,this]
  omega
 ·have:¬ g*k<0:=by
   have:=Int.mul_nonneg (show 0≤g by omega) (show 0≤k by omega)
   omega
  simp [sg,this]
  omega
theorem ak2 {x y:Int} (hy:0<y):ov x ((Int.gcd x y:Nat):Int)=nm x y∧ov y ((Int.gcd x y:Nat):Int)=dn x y:=by
 have hg:=ad0 (p:=x) (show y≠0 by omega)
 rw [ak1 hg (Int.gcd_dvd_left x y),ak1 hg (Int.gcd_dvd_right x y),nm,dn,Int.sign_eq_one_of_pos hy]
 simp
theorem aqw {x y:Int} (hy:y<0):ov (-x) ((Int.gcd (-x) (-y):Nat):Int)=nm x y∧ov (-y) ((Int.gcd (-x) (-y):Nat):Int)=dn x y:=by
 have h:=ak2 (x:=-x) (y:=-y) (by omega)
 rw [h.1,h.2]
 exact ayc (by omega) (by omega) (by grind)
section
end
set_option maxRecDepth 20000 in
set_option maxHeartbeats 2000000 in
theorem avx (w:World) (Bx:Nat) (nx:Bool) (ax:Option Addr) (cx:Nat) (xs:List Int) (zx:Int) (Gx:Dm.Wh w nx ax cx xs zx) (Lx:xs.length≤Bx) (By:Nat) (ny:Bool) (ay:Option Addr) (cy:Nat) (ys:List Int) (zy:Int) (Gy:Dm.Wh w ny ay cy ys zy) (Ly:ys.length≤By) (hL:Bx≤300000) (hL2:By≤300000) (hy:zy≠0) :
  Calls Tryz.prog 81 #[.agg #[.bool nx,.slice ax xs.length cx],.agg #[.bool ny,.slice ay ys.length cy]] w fun e w'=>∃ v,e=.returned v∧(OutN (ov zx zy) Bx) v w'∧Below w.heap.size w w' := by
 go_enter Tryz.func81,Tryz.ntmps81
 generalize hA:(Act.mk _ _)=aa
 have hn:aa.tmps.size=21:=by rw [←hA];rfl
 have hd:aa.defers = []:=by rw [←hA]
 have f0:aa.eval (.tmp 0)=.agg #[.bool nx,.slice ax xs.length cx]:=by rw [←hA];rfl
 have f1:aa.eval (.tmp 1)=.agg #[.bool ny,.slice ay ys.length cy]:=by rw [←hA];rfl
 clear hA
 have HB:Below w.heap.size w w:=Below.refl _ _
 refine wp_seq ?_
 refine aap [some 2,some 3,some 4] [Tt,Tt,Tt] [⟨N2,some 0,0,2,.agg #[.bool nx,.slice ax xs.length cx],none,[]⟩,⟨N2,some 1,0,3,.agg #[.bool ny,.slice ay ys.length cy],none,[]⟩,⟨N2,some 2,0,4,.agg #[.bool false,.slice none 0 0],none,[]⟩] [] (by kernel_rfl) hn rfl (by kernel_rfl) (by kernel_rfl) (by kernel_rfl) (by kernel_rfl) (by kernel_rfl) (by kernel_rfl) ⟨True.mono4,True.mono4,True.mono4,trivial⟩ (aaq N2ok (aaq N2ok (aaq N2ok aat))) (IsOld.all (bx:=[⟨N2,some 0,0,2,.agg #[.bool nx,.slice ax xs.length cx],none,[]⟩,⟨N2,some 1,0,3,.agg #[.bool ny,.slice ay ys.length cy],none,[]⟩,⟨N2,some 2,0,4,.agg #[.bool false,.slice none 0 0],none,[]⟩]) ⟨someNe,someNe,someNe,trivial⟩) (DisOld.all (bx:=[⟨N2,some 0,0,2,.agg #[.bool nx,.slice ax xs.length cx],none,[]⟩,⟨N2,some 1,0,3,.agg #[.bool ny,.slice ay ys.length cy],none,[]⟩,⟨N2,some 2,0,4,.agg #[.bool false,.slice none 0 0],none,[]⟩]) ⟨someNe,someNe,someNe,trivial⟩) ?_ ?_
 ·exact ⟨.alloc 0 _ rfl rfl (.inr ⟨_,rfl,afg,fun a_ hR=>(hR 0 rfl).trans f0⟩) rfl rfl rfl rfl rfl,.alloc 1 _ rfl rfl (.inr ⟨_,rfl,afg,fun a_ hR=>(hR 1 rfl).trans f1⟩) rfl rfl rfl rfl rfl,.alloc 2 _ rfl rfl (.inl ⟨rfl,rfl⟩) rfl rfl rfl rfl rfl,trivial⟩
 ·intro a1 w1 gs1 hn1 hd1 hBt hr hR hP hX hU
  replace hn:=hn1;replace hd:=hd1.trans hd
  have ne2_4:gs1 0≠gs1 2:=hU 0 2 (by simp) (by simp) (by decide)
  have ne3_4:gs1 1≠gs1 2:=hU 1 2 (by simp) (by simp) (by decide)
  have b2:BoxV N2 w1 (gs1 0) (.agg #[.bool nx,.slice ax xs.length cx]):=(hX 0 _ rfl).2.2.2
  have f2:=(hX 0 _ rfl).1
  have u2:w.heap.size≤gs1 0:=Nat.le_trans HB.size ((hX 0 _ rfl).2.2.1 (by simp))
  have b3:BoxV N2 w1 (gs1 1) (.agg #[.bool ny,.slice ay ys.length cy]):=(hX 1 _ rfl).2.2.2
  have f3:=(hX 1 _ rfl).1
  have u3:w.heap.size≤gs1 1:=Nat.le_trans HB.size ((hX 1 _ rfl).2.2.1 (by simp))
  have b4:BoxV N2 w1 (gs1 2) (.agg #[.bool false,.slice none 0 0]):=(hX 2 _ rfl).2.2.2
  have f4:=(hX 2 _ rfl).1
  have u4:w.heap.size≤gs1 2:=Nat.le_trans HB.size ((hX 2 _ rfl).2.2.1 (by simp))
  replace Gx:=Gx.rl hr
  replace Gy:=Gy.rl hr
  replace HB:=HB.trans (hBt.below HB.size (UpOld.all (bx:=[⟨N2,some 0,0,2,.agg #[.bool nx,.slice ax xs.length cx],none,[]⟩,⟨N2,some 1,0,3,.agg #[.bool ny,.slice ay ys.length cy],none,[]⟩,⟨N2,some 2,0,4,.agg #[.bool false,.slice none 0 0],none,[]⟩]) ⟨someNe,someNe,someNe,trivial⟩))
  clear hBt hr hR hP hX hU
  refine wp_seq ?_
  refine aap [some 8,some 9,some 10,some 7,some 11,some 12,some 5,some 6,none,none] [Eqs (.agg #[.bool nx,.slice ax xs.length cx]),Eqs (.agg #[.bool ny,.slice ay ys.length cy]),Tup2 (OutN ((((zx).natAbs:Int) / ((zy).natAbs:Int))) (Bx)) (OutN ((((zx).natAbs:Int) % ((zy).natAbs:Int))) (By)),Tup2 (OutN ((((zx).natAbs:Int) / ((zy).natAbs:Int))) (Bx)) (OutN ((((zx).natAbs:Int) % ((zy).natAbs:Int))) (By)),OutN ((((zx).natAbs:Int) / ((zy).natAbs:Int))) (Bx),OutN ((((zx).natAbs:Int) % ((zy).natAbs:Int))) (By),Tt,Tt,Tt,Tt] [⟨N2,some 6,0,5,.agg #[.bool false,.slice none 0 0],some (8,11,4),[]⟩,⟨N2,some 7,0,6,.agg #[.bool false,.slice none 0 0],some (9,12,5),[]⟩] [] (by kernel_rfl) hn rfl (by kernel_rfl) (by kernel_rfl) (by kernel_rfl) (by kernel_rfl) (by kernel_rfl) (by kernel_rfl) ⟨Eqs.mono4 _,Eqs.mono4 _,Tup2.mono4 (OutN.mono4 _ _) (OutN.mono4 _ _),Tup2.mono4 (OutN.mono4 _ _) (OutN.mono4 _ _),OutN.mono4 _ _,OutN.mono4 _ _,True.mono4,True.mono4,True.mono4,True.mono4,trivial⟩ (aaq N2ok (aaq N2ok aat)) (IsOld.all (bx:=[⟨N2,some 6,0,5,.agg #[.bool false,.slice none 0 0],some (8,11,4),[]⟩,⟨N2,some 7,0,6,.agg #[.bool false,.slice none 0 0],some (9,12,5),[]⟩]) ⟨someNe,someNe,trivial⟩) (DisOld.all (bx:=[⟨N2,some 6,0,5,.agg #[.bool false,.slice none 0 0],some (8,11,4),[]⟩,⟨N2,some 7,0,6,.agg #[.bool false,.slice none 0 0],some (9,12,5),[]⟩]) ⟨someNe,someNe,trivial⟩) ?_ ?_
  ·exact ⟨.norm 8 rfl rfl rfl (fun a_ w_ _ t r R D _ _=>aaz N2ok ((R 2 rfl).trans f2) (b2.keep t ⟨someNe,someNe,trivial⟩)),.norm 9 rfl rfl rfl (fun a_ w_ _ t r R D _ _=>aaz N2ok ((R 3 rfl).trans f3) (b3.keep t ⟨someNe,someNe,trivial⟩)),.norm 10 rfl rfl rfl (fun a_ w_ _ t r R D _ _=>al7 (aar (show a_.eval (.tmp 8)=.agg #[.bool nx,.slice ax xs.length cx] from D 0 rfl) (Gx.rl r) Lx) (aar (show a_.eval (.tmp 9)=.agg #[.bool ny,.slice ay ys.length cy] from D 1 rfl) (Gy.rl r) Ly) (by omega) (by omega) hy),.norm 7 rfl rfl rfl (fun a_ w_ _ t r R D _ _=>axo (p:=Tup2 (OutN ((((zx).natAbs:Int) / ((zy).natAbs:Int))) (Bx)) (OutN ((((zx).natAbs:Int) % ((zy).natAbs:Int))) (By))) (show Tup2 (OutN ((((zx).natAbs:Int) / ((zy).natAbs:Int))) (Bx)) (OutN ((((zx).natAbs:Int) % ((zy).natAbs:Int))) (By)) (a_.eval (.tmp 10)) w_ from D 2 rfl)),.norm 11 rfl rfl rfl (fun a_ w_ _ t r R D _ _=>aut (show Tup2 (OutN ((((zx).natAbs:Int) / ((zy).natAbs:Int))) (Bx)) (OutN ((((zx).natAbs:Int) % ((zy).natAbs:Int))) (By)) (a_.eval (.tmp 7)) w_ from D 3 rfl)),.norm 12 rfl rfl rfl (fun a_ w_ _ t r R D _ _=>auu (show Tup2 (OutN ((((zx).natAbs:Int) / ((zy).natAbs:Int))) (Bx)) (OutN ((((zx).natAbs:Int) % ((zy).natAbs:Int))) (By)) (a_.eval (.tmp 7)) w_ from D 3 rfl)),.alloc 0 _ rfl rfl (.inl ⟨rfl,rfl⟩) rfl rfl rfl rfl rfl,.alloc 1 _ rfl rfl (.inl ⟨rfl,rfl⟩) rfl rfl rfl rfl rfl,.store 0 _ _ _ rfl rfl rfl rfl rfl rfl rfl (fun ia h=>by cases h;rfl) rfl rfl rfl OutN.cs,.store 1 _ _ _ rfl rfl rfl rfl rfl rfl rfl (fun ia h=>by cases h;rfl) rfl rfl rfl OutN.cs,trivial⟩
  ·intro a2 w2 gs2 hn2 hd2 hBt hr hR hP hX hU
   replace hn:=hn2;replace hd:=hd2.trans hd
   have ne2_5:(gs1 0)≠gs2 0:=by have h1:=b2.lt;have h2:=(hX 0 _ rfl).2.2.1 (by simp);omega
   have ne3_5:(gs1 1)≠gs2 0:=by have h1:=b3.lt;have h2:=(hX 0 _ rfl).2.2.1 (by simp);omega
   have ne4_5:(gs1 2)≠gs2 0:=by have h1:=b4.lt;have h2:=(hX 0 _ rfl).2.2.1 (by simp);omega
   replace b2:=b2.keep hBt ⟨someNe,someNe,trivial⟩
   replace b3:=b3.keep hBt ⟨someNe,someNe,trivial⟩
   replace b4:=b4.keep hBt ⟨someNe,someNe,trivial⟩
   obtain ⟨n_3,a_3,c_3,r_3,e11,G3,l3⟩:OutN ((((zx).natAbs:Int) / ((zy).natAbs:Int))) (Bx) (a2.eval (.tmp 11)) w2:=hP 4 (by decide)
   have b5:BoxV N2 w2 (gs2 0) (.agg #[.bool n_3,.slice a_3 r_3.length c_3]):=aic (hX 0 _ rfl).2.2.2 e11
   have f5:=(hX 0 _ rfl).1
   have u5:w.heap.size≤gs2 0:=Nat.le_trans HB.size ((hX 0 _ rfl).2.2.1 (by simp))
   replace f2:=(hR 2 rfl).trans f2
   replace f3:=(hR 3 rfl).trans f3
   replace f4:=(hR 4 rfl).trans f4
   replace Gx:=Gx.rl hr
   replace Gy:=Gy.rl hr
   replace HB:=HB.trans (hBt.below HB.size (UpOld.all (bx:=[⟨N2,some 6,0,5,.agg #[.bool false,.slice none 0 0],some (8,11,4),[]⟩,⟨N2,some 7,0,6,.agg #[.bool false,.slice none 0 0],some (9,12,5),[]⟩]) ⟨someNe,someNe,trivial⟩))
   clear hBt hr hR hP hX hU
   refine wp_seq ?_
   refine wp_seq ?_
   refine aap [some 13,some 14,some 15,some 16,some 17] [Eqs (.pointer (some ⟨gs1 0,0,none⟩)),Eqs (.bool nx),Eqs (.pointer (some ⟨gs1 1,0,none⟩)),Eqs (.bool ny),Eqs (.bool (nx != ny))] [] [] (by kernel_rfl) hn rfl (by kernel_rfl) (by kernel_rfl) (by kernel_rfl) (by kernel_rfl) (by kernel_rfl) (by kernel_rfl) ⟨Eqs.mono4 _,Eqs.mono4 _,Eqs.mono4 _,Eqs.mono4 _,Eqs.mono4 _,trivial⟩ aat (IsOld.all (bx:=[]) trivial) (DisOld.all (bx:=[]) trivial) ?_ ?_
   ·exact ⟨.norm 13 rfl rfl rfl (fun a_ w_ _ t r R D _ _=>ahx aij ((R 2 rfl).trans f2)),.norm 14 rfl rfl rfl (fun a_ w_ _ t r R D _ _=>afz (show a_.eval (.tmp 13)=.pointer (some ⟨gs1 0,0,none⟩) from D 0 rfl) (b2.keep t trivial)),.norm 15 rfl rfl rfl (fun a_ w_ _ t r R D _ _=>ahx aij ((R 3 rfl).trans f3)),.norm 16 rfl rfl rfl (fun a_ w_ _ t r R D _ _=>afz (show a_.eval (.tmp 15)=.pointer (some ⟨gs1 1,0,none⟩) from D 2 rfl) (b3.keep t trivial)),.norm 17 rfl rfl rfl (fun a_ w_ _ t r R D _ _=>auv (show a_.eval (.tmp 14)=.bool nx from D 1 rfl) (show a_.eval (.tmp 16)=.bool ny from D 3 rfl)),trivial⟩
   ·intro a4 w4 gs4 hn4 hd4 hBt hr hR hP hX hU
    replace hn:=hn4;replace hd:=hd4.trans hd
    replace b4:=b4.keep hBt trivial
    replace b5:=b5.keep hBt trivial
    replace f4:=(hR 4 rfl).trans f4
    replace f5:=(hR 5 rfl).trans f5
    have e17:a4.eval (.tmp 17)=.bool (nx != ny):=hP 4 (by decide)
    have f17:=e17
    replace Gx:=Gx.rl hr
    replace Gy:=Gy.rl hr
    replace G3:=G3.rl hr
    replace HB:=HB.trans (hBt.below HB.size (UpOld.all (bx:=[]) trivial))
    clear hBt hr hR hP hX hU
    refine wp_cond_split f17 (fun hc17=>?_) (fun hc17=>?_)
    ·skip
     refine aap [some 18,some 19,none] [Eqs (.agg #[.bool n_3,.slice a_3 r_3.length c_3]),OutN ((-(((zx).natAbs:Int) / ((zy).natAbs:Int)))) (Bx),Tt] [⟨N2,none,(gs2 0),5,.agg #[.bool n_3,.slice a_3 r_3.length c_3],some (2,19,1),[0]⟩] [] (by kernel_rfl) hn rfl (by kernel_rfl) (by kernel_rfl) (by kernel_rfl) (by kernel_rfl) (by kernel_rfl) (by kernel_rfl) ⟨Eqs.mono4 _,OutN.mono4 _ _,True.mono4,trivial⟩ (aaq N2ok aat) (IsOld.all (bx:=[⟨N2,none,(gs2 0),5,.agg #[.bool n_3,.slice a_3 r_3.length c_3],some (2,19,1),[0]⟩]) ⟨fun _=>⟨f5,b5⟩,trivial⟩) (DisOld.all (bx:=[⟨N2,none,(gs2 0),5,.agg #[.bool n_3,.slice a_3 r_3.length c_3],some (2,19,1),[0]⟩]) ⟨fun _=>trivial,trivial⟩) ?_ ?_
     ·exact ⟨.norm 18 rfl rfl rfl (fun a_ w_ _ t r R D hO _=>aaz N2ok ((R 5 rfl).trans f5) (hO 0 _ rfl rfl rfl)),.norm 19 rfl rfl rfl (fun a_ w_ _ t r R D _ _=>aen (aar (show a_.eval (.tmp 18)=.agg #[.bool n_3,.slice a_3 r_3.length c_3] from D 0 rfl) (G3.rl r) l3) (by omega)),.store 0 _ _ _ rfl rfl rfl rfl rfl rfl rfl (fun ia h=>by cases h) rfl rfl rfl OutN.cs,trivial⟩
     ·intro a5 w5 gs5 hn5 hd5 hBt hr hR hP hX hU
      replace hn:=hn5;replace hd:=hd5.trans hd
      replace b4:=b4.keep hBt ⟨fun _=>ne4_5.symm,trivial⟩
      obtain ⟨n_6,a_6,c_6,r_6,e19,G6,l6⟩:OutN ((-(((zx).natAbs:Int) / ((zy).natAbs:Int)))) (Bx) (a5.eval (.tmp 19)) w5:=hP 1 (by decide)
      have b5:BoxV N2 w5 ((gs2 0)) (.agg #[.bool n_6,.slice a_6 r_6.length c_6]):=ab5 ((hX 0 _ rfl).2.1 rfl) (hX 0 _ rfl).2.2.2 e19
      replace f5:a5.eval (.tmp 5) = _:=(hR 5 rfl).trans f5
      replace f4:=(hR 4 rfl).trans f4
      replace Gx:=Gx.rl hr
      replace Gy:=Gy.rl hr
      replace G3:=G3.rl hr
      replace HB:=HB.trans (hBt.below HB.size (UpOld.all (bx:=[⟨N2,none,(gs2 0),5,.agg #[.bool n_3,.slice a_3 r_3.length c_3],some (2,19,1),[0]⟩]) ⟨fun _=>u5,trivial⟩))
      clear hBt hr hR hP hX hU
      refine wp_seq ?_
      refine aap [some 20,none] [Eqs (.agg #[.bool n_6,.slice a_6 r_6.length c_6]),Tt] [⟨N2,none,(gs1 2),4,.agg #[.bool false,.slice none 0 0],some (1,20,0),[]⟩] [] (by kernel_rfl) hn rfl (by kernel_rfl) (by kernel_rfl) (by kernel_rfl) (by kernel_rfl) (by kernel_rfl) (by kernel_rfl) ⟨Eqs.mono4 _,True.mono4,trivial⟩ (aaq N2ok aat) (IsOld.all (bx:=[⟨N2,none,(gs1 2),4,.agg #[.bool false,.slice none 0 0],some (1,20,0),[]⟩]) ⟨fun _=>⟨f4,b4⟩,trivial⟩) (DisOld.all (bx:=[⟨N2,none,(gs1 2),4,.agg #[.bool false,.slice none 0 0],some (1,20,0),[]⟩]) ⟨fun _=>trivial,trivial⟩) ?_ ?_
      ·exact ⟨.norm 20 rfl rfl rfl (fun a_ w_ _ t r R D _ _=>aaz N2ok ((R 5 rfl).trans f5) (b5.keep t ⟨fun _=>ne4_5,trivial⟩)),.store 0 _ _ _ rfl rfl rfl rfl rfl rfl rfl (fun ia h=>by cases h) rfl rfl rfl (apf afg),trivial⟩
      ·intro a7 w7 gs7 hn7 hd7 hBt hr hR hP hX hU
       replace hn:=hn7;replace hd:=hd7.trans hd
       have e20:a7.eval (.tmp 20)=.agg #[.bool n_6,.slice a_6 r_6.length c_6]:=hP 0 (by decide)
       have b4:BoxV N2 w7 ((gs1 2)) (.agg #[.bool n_6,.slice a_6 r_6.length c_6]):=ab5 ((hX 0 _ rfl).2.1 rfl) (hX 0 _ rfl).2.2.2 e20
       replace f4:a7.eval (.tmp 4) = _:=(hR 4 rfl).trans f4
       replace Gx:=Gx.rl hr
       replace Gy:=Gy.rl hr
       replace G3:=G3.rl hr
       replace G6:=G6.rl hr
       replace HB:=HB.trans (hBt.below HB.size (UpOld.all (bx:=[⟨N2,none,(gs1 2),4,.agg #[.bool false,.slice none 0 0],some (1,20,0),[]⟩]) ⟨fun _=>u4,trivial⟩))
       clear hBt hr hR hP hX hU
       refine wp_ret ?_
       repeat (first | refine abx ?_ | refine abp ?_ | refine abo ?_)
       exact bodyPost_ret (v:=.agg #[.bool n_6,.slice a_6 r_6.length c_6]) (abw rfl f4 (at6 b4)) hd ⟨_,rfl,OutN.to (aar rfl G6 l6) (by rw [ov,←Gx.2,←Gy.2,hc17];rfl) (by omega),HB⟩
    ·skip
     refine wp_skip ?_
     refine wp_seq ?_
     refine aap [some 20,none] [Eqs (.agg #[.bool n_3,.slice a_3 r_3.length c_3]),Tt] [⟨N2,none,(gs1 2),4,.agg #[.bool false,.slice none 0 0],some (1,20,0),[]⟩] [] (by kernel_rfl) hn rfl (by kernel_rfl) (by kernel_rfl) (by kernel_rfl) (by kernel_rfl) (by kernel_rfl) (by kernel_rfl) ⟨Eqs.mono4 _,True.mono4,trivial⟩ (aaq N2ok aat) (IsOld.all (bx:=[⟨N2,none,(gs1 2),4,.agg #[.bool false,.slice none 0 0],some (1,20,0),[]⟩]) ⟨fun _=>⟨f4,b4⟩,trivial⟩) (DisOld.all (bx:=[⟨N2,none,(gs1 2),4,.agg #[.bool false,.slice none 0 0],some (1,20,0),[]⟩]) ⟨fun _=>trivial,trivial⟩) ?_ ?_
     ·exact ⟨.norm 20 rfl rfl rfl (fun a_ w_ _ t r R D _ _=>aaz N2ok ((R 5 rfl).trans f5) (b5.keep t ⟨fun _=>ne4_5,trivial⟩)),.store 0 _ _ _ rfl rfl rfl rfl rfl rfl rfl (fun ia h=>by cases h) rfl rfl rfl (apf afg),trivial⟩
     ·intro a8 w8 gs8 hn8 hd8 hBt hr hR hP hX hU
      replace hn:=hn8;replace hd:=hd8.trans hd
      have e20:a8.eval (.tmp 20)=.agg #[.bool n_3,.slice a_3 r_3.length c_3]:=hP 0 (by decide)
      have b4:BoxV N2 w8 ((gs1 2)) (.agg #[.bool n_3,.slice a_3 r_3.length c_3]):=ab5 ((hX 0 _ rfl).2.1 rfl) (hX 0 _ rfl).2.2.2 e20
      replace f4:a8.eval (.tmp 4) = _:=(hR 4 rfl).trans f4
      replace Gx:=Gx.rl hr
      replace Gy:=Gy.rl hr
      replace G3:=G3.rl hr
      replace HB:=HB.trans (hBt.below HB.size (UpOld.all (bx:=[⟨N2,none,(gs1 2),4,.agg #[.bool false,.slice none 0 0],some (1,20,0),[]⟩]) ⟨fun _=>u4,trivial⟩))
      clear hBt hr hR hP hX hU
      refine wp_ret ?_
      repeat (first | refine abx ?_ | refine abp ?_ | refine abo ?_)
      exact bodyPost_ret (v:=.agg #[.bool n_3,.slice a_3 r_3.length c_3]) (abw rfl f4 (at6 b4)) hd ⟨_,rfl,OutN.to (aar rfl G3 l3) (by rw [ov,←Gx.2,←Gy.2,hc17];rfl) (by omega),HB⟩
theorem aqx:Has Tryz.prog 81:=by unfold Has;kernel_rfl
theorem afm {dst:Option Tmp} {ty:TypeId} {pos:String} {after:Array Edge} {guard:Option (Nat × Bool)} {a:Act} {w:World} {ats:Array TypeId} {i j:Nat} {Bx:Nat} {zx:Int} (Hx:OutN zx Bx (a.eval (.tmp i)) w) {By:Nat} {zy:Int} (Hy:OutN zy By (a.eval (.tmp j)) w) (hL:Bx≤300000) (hL2:By≤300000) (hy:zy≠0) :
  Does Tryz.prog { dst,op:=.call { callee:=.value (.func 81),args:=#[.tmp i,.tmp j],argTypes:=ats },type:=ty,pos,after,guard } a.eval w fun v w'=>Below w.heap.size w w'∧(OutN (ov zx zy) Bx) v w' := by
 obtain ⟨nx,ax,cx,xs,ex,Gx,Lx⟩:=Hx
 obtain ⟨ny,ay,cy,ys,ey,Gy,Ly⟩:=Hy
 refine aas aqx _ (by simp only [List.map_toArray,List.map_cons,List.map_nil,ex,ey]) ((avx w Bx _ _ _ _ _ Gx Lx By _ _ _ _ _ Gy Ly hL hL2 hy).mono ?_)
 rintro e w' ⟨v,rfl,h1,hb⟩
 exact ⟨_,rfl,hb,h1⟩
set_option maxRecDepth 20000 in
set_option maxHeartbeats 2000000 in
theorem avy (w:World) (Bx:Nat) (nx:Bool) (ax:Option Addr) (cx:Nat) (xs:List Int) (zx:Int) (Gx:Dm.Wh w nx ax cx xs zx) (Lx:xs.length≤Bx) (By:Nat) (ny:Bool) (ay:Option Addr) (cy:Nat) (ys:List Int) (zy:Int) (Gy:Dm.Wh w ny ay cy ys zy) (Ly:ys.length≤By) (hL:Bx+By≤300000) (hy:zy≠0) :
  Calls Tryz.prog 48 #[.agg #[.bool nx,.slice ax xs.length cx],.agg #[.bool ny,.slice ay ys.length cy]] w fun e w'=>∃ v,e=.returned v∧(OutQ (nm zx zy) (dn zx zy) (Bx+By)) v w'∧Below w.heap.size w w' := by
 go_enter Tryz.func48,Tryz.ntmps48
 generalize hA:(Act.mk _ _)=aa
 have hn:aa.tmps.size=22:=by rw [←hA];rfl
 have hd:aa.defers = []:=by rw [←hA]
 have f0:aa.eval (.tmp 0)=.agg #[.bool nx,.slice ax xs.length cx]:=by rw [←hA];rfl
 have f1:aa.eval (.tmp 1)=.agg #[.bool ny,.slice ay ys.length cy]:=by rw [←hA];rfl
 clear hA
 have HB:Below w.heap.size w w:=Below.refl _ _
 refine wp_seq ?_
 refine aap [some 2,some 3,some 4] [Tt,Tt,Tt] [⟨N2,some 0,0,2,.agg #[.bool nx,.slice ax xs.length cx],none,[]⟩,⟨N2,some 1,0,3,.agg #[.bool ny,.slice ay ys.length cy],none,[]⟩,⟨Q4,some 2,0,4,.agg #[.bool false,.slice none 0 0,.bool false,.slice none 0 0],none,[]⟩] [] (by kernel_rfl) hn rfl (by kernel_rfl) (by kernel_rfl) (by kernel_rfl) (by kernel_rfl) (by kernel_rfl) (by kernel_rfl) ⟨True.mono4,True.mono4,True.mono4,trivial⟩ (aaq N2ok (aaq N2ok (aaq Q4ok aat))) (IsOld.all (bx:=[⟨N2,some 0,0,2,.agg #[.bool nx,.slice ax xs.length cx],none,[]⟩,⟨N2,some 1,0,3,.agg #[.bool ny,.slice ay ys.length cy],none,[]⟩,⟨Q4,some 2,0,4,.agg #[.bool false,.slice none 0 0,.bool false,.slice none 0 0],none,[]⟩]) ⟨someNe,someNe,someNe,trivial⟩) (DisOld.all (bx:=[⟨N2,some 0,0,2,.agg #[.bool nx,.slice ax xs.length cx],none,[]⟩,⟨N2,some 1,0,3,.agg #[.bool ny,.slice ay ys.length cy],none,[]⟩,⟨Q4,some 2,0,4,.agg #[.bool false,.slice none 0 0,.bool false,.slice none 0 0],none,[]⟩]) ⟨someNe,someNe,someNe,trivial⟩) ?_ ?_
 ·exact ⟨.alloc 0 _ rfl rfl (.inr ⟨_,rfl,afg,fun a_ hR=>(hR 0 rfl).trans f0⟩) rfl rfl rfl rfl rfl,.alloc 1 _ rfl rfl (.inr ⟨_,rfl,afg,fun a_ hR=>(hR 1 rfl).trans f1⟩) rfl rfl rfl rfl rfl,.alloc 2 _ rfl rfl (.inl ⟨rfl,rfl⟩) rfl rfl rfl rfl rfl,trivial⟩
 ·intro a1 w1 gs1 hn1 hd1 hBt hr hR hP hX hU
  replace hn:=hn1;replace hd:=hd1.trans hd
  have ne2_3:gs1 0≠gs1 1:=hU 0 1 (by simp) (by simp) (by decide)
  have ne2_4:gs1 0≠gs1 2:=hU 0 2 (by simp) (by simp) (by decide)
  have ne3_4:gs1 1≠gs1 2:=hU 1 2 (by simp) (by simp) (by decide)
  have b2:BoxV N2 w1 (gs1 0) (.agg #[.bool nx,.slice ax xs.length cx]):=(hX 0 _ rfl).2.2.2
  have f2:=(hX 0 _ rfl).1
  have u2:w.heap.size≤gs1 0:=Nat.le_trans HB.size ((hX 0 _ rfl).2.2.1 (by simp))
  have b3:BoxV N2 w1 (gs1 1) (.agg #[.bool ny,.slice ay ys.length cy]):=(hX 1 _ rfl).2.2.2
  have f3:=(hX 1 _ rfl).1
  have u3:w.heap.size≤gs1 1:=Nat.le_trans HB.size ((hX 1 _ rfl).2.2.1 (by simp))
  have b4:BoxV Q4 w1 (gs1 2) (.agg #[.bool false,.slice none 0 0,.bool false,.slice none 0 0]):=(hX 2 _ rfl).2.2.2
  have f4:=(hX 2 _ rfl).1
  have u4:w.heap.size≤gs1 2:=Nat.le_trans HB.size ((hX 2 _ rfl).2.2.1 (by simp))
  replace Gx:=Gx.rl hr
  replace Gy:=Gy.rl hr
  replace HB:=HB.trans (hBt.below HB.size (UpOld.all (bx:=[⟨N2,some 0,0,2,.agg #[.bool nx,.slice ax xs.length cx],none,[]⟩,⟨N2,some 1,0,3,.agg #[.bool ny,.slice ay ys.length cy],none,[]⟩,⟨Q4,some 2,0,4,.agg #[.bool false,.slice none 0 0,.bool false,.slice none 0 0],none,[]⟩]) ⟨someNe,someNe,someNe,trivial⟩))
  clear hBt hr hR hP hX hU
  refine wp_seq ?_
  refine wp_seq ?_
  refine aap [some 6,some 7] [Eqs (.pointer (some ⟨gs1 1,0,none⟩)),Eqs (.bool ny)] [] [] (by kernel_rfl) hn rfl (by kernel_rfl) (by kernel_rfl) (by kernel_rfl) (by kernel_rfl) (by kernel_rfl) (by kernel_rfl) ⟨Eqs.mono4 _,Eqs.mono4 _,trivial⟩ aat (IsOld.all (bx:=[]) trivial) (DisOld.all (bx:=[]) trivial) ?_ ?_
  ·exact ⟨.norm 6 rfl rfl rfl (fun a_ w_ _ t r R D _ _=>ahx aij ((R 3 rfl).trans f3)),.norm 7 rfl rfl rfl (fun a_ w_ _ t r R D _ _=>afz (show a_.eval (.tmp 6)=.pointer (some ⟨gs1 1,0,none⟩) from D 0 rfl) (b3.keep t trivial)),trivial⟩
  ·intro a2 w2 gs2 hn2 hd2 hBt hr hR hP hX hU
   replace hn:=hn2;replace hd:=hd2.trans hd
   replace b2:=b2.keep hBt trivial
   replace b3:=b3.keep hBt trivial
   replace b4:=b4.keep hBt trivial
   replace f2:=(hR 2 rfl).trans f2
   replace f3:=(hR 3 rfl).trans f3
   replace f4:=(hR 4 rfl).trans f4
   have e7:a2.eval (.tmp 7)=.bool ny:=hP 1 (by decide)
   have f7:=e7
   replace Gx:=Gx.rl hr
   replace Gy:=Gy.rl hr
   replace HB:=HB.trans (hBt.below HB.size (UpOld.all (bx:=[]) trivial))
   clear hBt hr hR hP hX hU
   refine wp_cond_split f7 (fun hc7=>?_) (fun hc7=>?_)
   ·skip
    have hc7' : zy<0:=by have h:=Gy.2;rw [hc7] at h;exact of_decide_eq_true h.symm
    refine wp_seq ?_
    refine aap [some 8,some 9,none] [Eqs (.agg #[.bool nx,.slice ax xs.length cx]),OutN ((-zx)) (Bx),Tt] [⟨N2,none,(gs1 0),2,.agg #[.bool nx,.slice ax xs.length cx],some (2,9,1),[0]⟩] [] (by kernel_rfl) hn rfl (by kernel_rfl) (by kernel_rfl) (by kernel_rfl) (by kernel_rfl) (by kernel_rfl) (by kernel_rfl) ⟨Eqs.mono4 _,OutN.mono4 _ _,True.mono4,trivial⟩ (aaq N2ok aat) (IsOld.all (bx:=[⟨N2,none,(gs1 0),2,.agg #[.bool nx,.slice ax xs.length cx],some (2,9,1),[0]⟩]) ⟨fun _=>⟨f2,b2⟩,trivial⟩) (DisOld.all (bx:=[⟨N2,none,(gs1 0),2,.agg #[.bool nx,.slice ax xs.length cx],some (2,9,1),[0]⟩]) ⟨fun _=>trivial,trivial⟩) ?_ ?_
    ·exact ⟨.norm 8 rfl rfl rfl (fun a_ w_ _ t r R D hO _=>aaz N2ok ((R 2 rfl).trans f2) (hO 0 _ rfl rfl rfl)),.norm 9 rfl rfl rfl (fun a_ w_ _ t r R D _ _=>aen (aar (show a_.eval (.tmp 8)=.agg #[.bool nx,.slice ax xs.length cx] from D 0 rfl) (Gx.rl r) Lx) (by omega)),.store 0 _ _ _ rfl rfl rfl rfl rfl rfl rfl (fun ia h=>by cases h) rfl rfl rfl OutN.cs,trivial⟩
    ·intro a3 w3 gs3 hn3 hd3 hBt hr hR hP hX hU
     replace hn:=hn3;replace hd:=hd3.trans hd
     replace b3:=b3.keep hBt ⟨fun _=>ne2_3,trivial⟩
     replace b4:=b4.keep hBt ⟨fun _=>ne2_4,trivial⟩
     obtain ⟨n_4,a_4,c_4,r_4,e9,G4,l4⟩:OutN ((-zx)) (Bx) (a3.eval (.tmp 9)) w3:=hP 1 (by decide)
     have b2:BoxV N2 w3 ((gs1 0)) (.agg #[.bool n_4,.slice a_4 r_4.length c_4]):=ab5 ((hX 0 _ rfl).2.1 rfl) (hX 0 _ rfl).2.2.2 e9
     replace f2:a3.eval (.tmp 2) = _:=(hR 2 rfl).trans f2
     replace f3:=(hR 3 rfl).trans f3
     replace f4:=(hR 4 rfl).trans f4
     replace Gx:=Gx.rl hr
     replace Gy:=Gy.rl hr
     replace HB:=HB.trans (hBt.below HB.size (UpOld.all (bx:=[⟨N2,none,(gs1 0),2,.agg #[.bool nx,.slice ax xs.length cx],some (2,9,1),[0]⟩]) ⟨fun _=>u2,trivial⟩))
     clear hBt hr hR hP hX hU
     refine aap [some 10,some 11,none] [Eqs (.agg #[.bool ny,.slice ay ys.length cy]),OutN ((-zy)) (By),Tt] [⟨N2,none,(gs1 1),3,.agg #[.bool ny,.slice ay ys.length cy],some (2,11,1),[0]⟩] [] (by kernel_rfl) hn rfl (by kernel_rfl) (by kernel_rfl) (by kernel_rfl) (by kernel_rfl) (by kernel_rfl) (by kernel_rfl) ⟨Eqs.mono4 _,OutN.mono4 _ _,True.mono4,trivial⟩ (aaq N2ok aat) (IsOld.all (bx:=[⟨N2,none,(gs1 1),3,.agg #[.bool ny,.slice ay ys.length cy],some (2,11,1),[0]⟩]) ⟨fun _=>⟨f3,b3⟩,trivial⟩) (DisOld.all (bx:=[⟨N2,none,(gs1 1),3,.agg #[.bool ny,.slice ay ys.length cy],some (2,11,1),[0]⟩]) ⟨fun _=>trivial,trivial⟩) ?_ ?_
     ·exact ⟨.norm 10 rfl rfl rfl (fun a_ w_ _ t r R D hO _=>aaz N2ok ((R 3 rfl).trans f3) (hO 0 _ rfl rfl rfl)),.norm 11 rfl rfl rfl (fun a_ w_ _ t r R D _ _=>aen (aar (show a_.eval (.tmp 10)=.agg #[.bool ny,.slice ay ys.length cy] from D 0 rfl) (Gy.rl r) Ly) (by omega)),.store 0 _ _ _ rfl rfl rfl rfl rfl rfl rfl (fun ia h=>by cases h) rfl rfl rfl OutN.cs,trivial⟩
     ·intro a5 w5 gs5 hn5 hd5 hBt hr hR hP hX hU
      replace hn:=hn5;replace hd:=hd5.trans hd
      replace b2:=b2.keep hBt ⟨fun _=>ne2_3.symm,trivial⟩
      replace b4:=b4.keep hBt ⟨fun _=>ne3_4,trivial⟩
      obtain ⟨n_6,a_6,c_6,r_6,e11,G6,l6⟩:OutN ((-zy)) (By) (a5.eval (.tmp 11)) w5:=hP 1 (by decide)
      have b3:BoxV N2 w5 ((gs1 1)) (.agg #[.bool n_6,.slice a_6 r_6.length c_6]):=ab5 ((hX 0 _ rfl).2.1 rfl) (hX 0 _ rfl).2.2.2 e11
      replace f3:a5.eval (.tmp 3) = _:=(hR 3 rfl).trans f3
      replace f2:=(hR 2 rfl).trans f2
      replace f4:=(hR 4 rfl).trans f4
      replace Gx:=Gx.rl hr
      replace Gy:=Gy.rl hr
      replace G4:=G4.rl hr
      replace HB:=HB.trans (hBt.below HB.size (UpOld.all (bx:=[⟨N2,none,(gs1 1),3,.agg #[.bool ny,.slice ay ys.length cy],some (2,11,1),[0]⟩]) ⟨fun _=>u3,trivial⟩))
      clear hBt hr hR hP hX hU
      refine wp_seq ?_
      refine aap [some 12,some 13,some 14,some 5,none] [Eqs (.agg #[.bool n_4,.slice a_4 r_4.length c_4]),Eqs (.agg #[.bool n_6,.slice a_6 r_6.length c_6]),OutN (((Int.gcd (-zx) (-zy):Nat):Int)) ((Bx)+(By)),Tt,Tt] [⟨N2,some 3,0,5,.agg #[.bool false,.slice none 0 0],some (4,14,2),[]⟩] [] (by kernel_rfl) hn rfl (by kernel_rfl) (by kernel_rfl) (by kernel_rfl) (by kernel_rfl) (by kernel_rfl) (by kernel_rfl) ⟨Eqs.mono4 _,Eqs.mono4 _,OutN.mono4 _ _,True.mono4,True.mono4,trivial⟩ (aaq N2ok aat) (IsOld.all (bx:=[⟨N2,some 3,0,5,.agg #[.bool false,.slice none 0 0],some (4,14,2),[]⟩]) ⟨someNe,trivial⟩) (DisOld.all (bx:=[⟨N2,some 3,0,5,.agg #[.bool false,.slice none 0 0],some (4,14,2),[]⟩]) ⟨someNe,trivial⟩) ?_ ?_
      ·exact ⟨.norm 12 rfl rfl rfl (fun a_ w_ _ t r R D _ _=>aaz N2ok ((R 2 rfl).trans f2) (b2.keep t ⟨someNe,trivial⟩)),.norm 13 rfl rfl rfl (fun a_ w_ _ t r R D _ _=>aaz N2ok ((R 3 rfl).trans f3) (b3.keep t ⟨someNe,trivial⟩)),.norm 14 rfl rfl rfl (fun a_ w_ _ t r R D _ _=>amp (L1:=Bx) (L2:=By) (aar (show a_.eval (.tmp 12)=.agg #[.bool n_4,.slice a_4 r_4.length c_4] from D 0 rfl) (G4.rl r) l4) (aar (show a_.eval (.tmp 13)=.agg #[.bool n_6,.slice a_6 r_6.length c_6] from D 1 rfl) (G6.rl r) l6) (by omega) (by omega)),.alloc 0 _ rfl rfl (.inl ⟨rfl,rfl⟩) rfl rfl rfl rfl rfl,.store 0 _ _ _ rfl rfl rfl rfl rfl rfl rfl (fun ia h=>by cases h;rfl) rfl rfl rfl OutN.cs,trivial⟩
      ·intro a7 w7 gs7 hn7 hd7 hBt hr hR hP hX hU
       replace hn:=hn7;replace hd:=hd7.trans hd
       have ne4_5:(gs1 2)≠gs7 0:=by have h1:=b4.lt;have h2:=(hX 0 _ rfl).2.2.1 (by simp);omega
       replace b2:=b2.keep hBt ⟨someNe,trivial⟩
       replace b3:=b3.keep hBt ⟨someNe,trivial⟩
       replace b4:=b4.keep hBt ⟨someNe,trivial⟩
       obtain ⟨n_8,a_8,c_8,r_8,e14,G8,l8⟩:OutN (((Int.gcd (-zx) (-zy):Nat):Int)) ((Bx)+(By)) (a7.eval (.tmp 14)) w7:=hP 2 (by decide)
       have b5:BoxV N2 w7 (gs7 0) (.agg #[.bool n_8,.slice a_8 r_8.length c_8]):=aic (hX 0 _ rfl).2.2.2 e14
       have f5:=(hX 0 _ rfl).1
       have u5:w.heap.size≤gs7 0:=Nat.le_trans HB.size ((hX 0 _ rfl).2.2.1 (by simp))
       replace f2:=(hR 2 rfl).trans f2
       replace f3:=(hR 3 rfl).trans f3
       replace f4:=(hR 4 rfl).trans f4
       replace Gx:=Gx.rl hr
       replace Gy:=Gy.rl hr
       replace G4:=G4.rl hr
       replace G6:=G6.rl hr
       replace HB:=HB.trans (hBt.below HB.size (UpOld.all (bx:=[⟨N2,some 3,0,5,.agg #[.bool false,.slice none 0 0],some (4,14,2),[]⟩]) ⟨someNe,trivial⟩))
       clear hBt hr hR hP hX hU
       refine wp_seq ?_
       refine aap [some 15,some 16,some 17,some 18,some 19,some 20,some 21,none] [Eqs (.agg #[.bool n_4,.slice a_4 r_4.length c_4]),Eqs (.agg #[.bool n_8,.slice a_8 r_8.length c_8]),OutN ((ov (-zx) ((Int.gcd (-zx) (-zy):Nat):Int))) (Bx),Eqs (.agg #[.bool n_6,.slice a_6 r_6.length c_6]),Eqs (.agg #[.bool n_8,.slice a_8 r_8.length c_8]),OutN ((ov (-zy) ((Int.gcd (-zx) (-zy):Nat):Int))) (By),OutQ ((ov (-zx) ((Int.gcd (-zx) (-zy):Nat):Int))) ((ov (-zy) ((Int.gcd (-zx) (-zy):Nat):Int))) ((Bx)+(By)),Tt] [⟨Q4,none,(gs1 2),4,.agg #[.bool false,.slice none 0 0,.bool false,.slice none 0 0],some (7,21,6),[]⟩] [] (by kernel_rfl) hn rfl (by kernel_rfl) (by kernel_rfl) (by kernel_rfl) (by kernel_rfl) (by kernel_rfl) (by kernel_rfl) ⟨Eqs.mono4 _,Eqs.mono4 _,OutN.mono4 _ _,Eqs.mono4 _,Eqs.mono4 _,OutN.mono4 _ _,OutQ.mono4 _ _ _,True.mono4,trivial⟩ (aaq Q4ok aat) (IsOld.all (bx:=[⟨Q4,none,(gs1 2),4,.agg #[.bool false,.slice none 0 0,.bool false,.slice none 0 0],some (7,21,6),[]⟩]) ⟨fun _=>⟨f4,b4⟩,trivial⟩) (DisOld.all (bx:=[⟨Q4,none,(gs1 2),4,.agg #[.bool false,.slice none 0 0,.bool false,.slice none 0 0],some (7,21,6),[]⟩]) ⟨fun _=>trivial,trivial⟩) ?_ ?_
       ·exact ⟨.norm 15 rfl rfl rfl (fun a_ w_ _ t r R D _ _=>aaz N2ok ((R 2 rfl).trans f2) (b2.keep t ⟨fun _=>ne2_4.symm,trivial⟩)),.norm 16 rfl rfl rfl (fun a_ w_ _ t r R D _ _=>aaz N2ok ((R 5 rfl).trans f5) (b5.keep t ⟨fun _=>ne4_5,trivial⟩)),.norm 17 rfl rfl rfl (fun a_ w_ _ t r R D _ _=>afm (aar (show a_.eval (.tmp 15)=.agg #[.bool n_4,.slice a_4 r_4.length c_4] from D 0 rfl) (G4.rl r) l4) (aar (show a_.eval (.tmp 16)=.agg #[.bool n_8,.slice a_8 r_8.length c_8] from D 1 rfl) (G8.rl r) l8) (by omega) (by omega) (ah3 _ (by omega))),.norm 18 rfl rfl rfl (fun a_ w_ _ t r R D _ _=>aaz N2ok ((R 3 rfl).trans f3) (b3.keep t ⟨fun _=>ne3_4.symm,trivial⟩)),.norm 19 rfl rfl rfl (fun a_ w_ _ t r R D _ _=>aaz N2ok ((R 5 rfl).trans f5) (b5.keep t ⟨fun _=>ne4_5,trivial⟩)),.norm 20 rfl rfl rfl (fun a_ w_ _ t r R D _ _=>afm (aar (show a_.eval (.tmp 18)=.agg #[.bool n_6,.slice a_6 r_6.length c_6] from D 3 rfl) (G6.rl r) l6) (aar (show a_.eval (.tmp 19)=.agg #[.bool n_8,.slice a_8 r_8.length c_8] from D 4 rfl) (G8.rl r) l8) (by omega) (by omega) (ah3 _ (by omega))),.norm 21 rfl rfl rfl (fun a_ w_ _ t r R D _ _=>ajl (L:=(Bx)+(By)) ((show OutN ((ov (-zx) ((Int.gcd (-zx) (-zy):Nat):Int))) (Bx) (a_.eval (.tmp 17)) w_ from D 2 rfl).to rfl (by omega)) ((show OutN ((ov (-zy) ((Int.gcd (-zx) (-zy):Nat):Int))) (By) (a_.eval (.tmp 20)) w_ from D 5 rfl).to rfl (by omega))),.store 0 _ _ _ rfl rfl rfl rfl rfl rfl rfl (fun ia h=>by cases h) rfl rfl rfl OutQ.cs,trivial⟩
       ·intro a9 w9 gs9 hn9 hd9 hBt hr hR hP hX hU
        replace hn:=hn9;replace hd:=hd9.trans hd
        obtain ⟨n_10,a_10,c_10,r_10,o_10,b_10,d_10,s_10,e21,G10,K10,l10,k10⟩:OutQ ((ov (-zx) ((Int.gcd (-zx) (-zy):Nat):Int))) ((ov (-zy) ((Int.gcd (-zx) (-zy):Nat):Int))) ((Bx)+(By)) (a9.eval (.tmp 21)) w9:=hP 6 (by decide)
        have b4:BoxV Q4 w9 ((gs1 2)) (.agg #[.bool n_10,.slice a_10 r_10.length c_10,.bool o_10,.slice b_10 s_10.length d_10]):=ab5 ((hX 0 _ rfl).2.1 rfl) (hX 0 _ rfl).2.2.2 e21
        replace f4:a9.eval (.tmp 4) = _:=(hR 4 rfl).trans f4
        replace Gx:=Gx.rl hr
        replace Gy:=Gy.rl hr
        replace G4:=G4.rl hr
        replace G6:=G6.rl hr
        replace G8:=G8.rl hr
        replace HB:=HB.trans (hBt.below HB.size (UpOld.all (bx:=[⟨Q4,none,(gs1 2),4,.agg #[.bool false,.slice none 0 0,.bool false,.slice none 0 0],some (7,21,6),[]⟩]) ⟨fun _=>u4,trivial⟩))
        clear hBt hr hR hP hX hU
        refine wp_ret ?_
        repeat (first | refine abx ?_ | refine abp ?_ | refine abo ?_)
        exact bodyPost_ret (v:=.agg #[.bool n_10,.slice a_10 r_10.length c_10,.bool o_10,.slice b_10 s_10.length d_10]) (abw rfl f4 (ahw b4)) hd ⟨_,rfl,OutQ.to (aeb rfl G10 K10 l10 k10) (aqw hc7').1 (aqw hc7').2 (by omega),HB⟩
   ·skip
    have hc7' : 0<zy:=by have h:=Gy.2;rw [hc7] at h;have h2:=of_decide_eq_false h.symm;omega
    refine wp_skip ?_
    refine wp_seq ?_
    refine aap [some 12,some 13,some 14,some 5,none] [Eqs (.agg #[.bool nx,.slice ax xs.length cx]),Eqs (.agg #[.bool ny,.slice ay ys.length cy]),OutN (((Int.gcd zx zy:Nat):Int)) ((Bx)+(By)),Tt,Tt] [⟨N2,some 3,0,5,.agg #[.bool false,.slice none 0 0],some (4,14,2),[]⟩] [] (by kernel_rfl) hn rfl (by kernel_rfl) (by kernel_rfl) (by kernel_rfl) (by kernel_rfl) (by kernel_rfl) (by kernel_rfl) ⟨Eqs.mono4 _,Eqs.mono4 _,OutN.mono4 _ _,True.mono4,True.mono4,trivial⟩ (aaq N2ok aat) (IsOld.all (bx:=[⟨N2,some 3,0,5,.agg #[.bool false,.slice none 0 0],some (4,14,2),[]⟩]) ⟨someNe,trivial⟩) (DisOld.all (bx:=[⟨N2,some 3,0,5,.agg #[.bool false,.slice none 0 0],some (4,14,2),[]⟩]) ⟨someNe,trivial⟩) ?_ ?_
    ·exact ⟨.norm 12 rfl rfl rfl (fun a_ w_ _ t r R D _ _=>aaz N2ok ((R 2 rfl).trans f2) (b2.keep t ⟨someNe,trivial⟩)),.norm 13 rfl rfl rfl (fun a_ w_ _ t r R D _ _=>aaz N2ok ((R 3 rfl).trans f3) (b3.keep t ⟨someNe,trivial⟩)),.norm 14 rfl rfl rfl (fun a_ w_ _ t r R D _ _=>amp (L1:=Bx) (L2:=By) (aar (show a_.eval (.tmp 12)=.agg #[.bool nx,.slice ax xs.length cx] from D 0 rfl) (Gx.rl r) Lx) (aar (show a_.eval (.tmp 13)=.agg #[.bool ny,.slice ay ys.length cy] from D 1 rfl) (Gy.rl r) Ly) (by omega) (by omega)),.alloc 0 _ rfl rfl (.inl ⟨rfl,rfl⟩) rfl rfl rfl rfl rfl,.store 0 _ _ _ rfl rfl rfl rfl rfl rfl rfl (fun ia h=>by cases h;rfl) rfl rfl rfl OutN.cs,trivial⟩
    ·intro a11 w11 gs11 hn11 hd11 hBt hr hR hP hX hU
     replace hn:=hn11;replace hd:=hd11.trans hd
     have ne4_5:(gs1 2)≠gs11 0:=by have h1:=b4.lt;have h2:=(hX 0 _ rfl).2.2.1 (by simp);omega
     replace b2:=b2.keep hBt ⟨someNe,trivial⟩
     replace b3:=b3.keep hBt ⟨someNe,trivial⟩
     replace b4:=b4.keep hBt ⟨someNe,trivial⟩
     obtain ⟨n_12,a_12,c_12,r_12,e14,G12,l12⟩:OutN (((Int.gcd zx zy:Nat):Int)) ((Bx)+(By)) (a11.eval (.tmp 14)) w11:=hP 2 (by decide)
     have b5:BoxV N2 w11 (gs11 0) (.agg #[.bool n_12,.slice a_12 r_12.length c_12]):=aic (hX 0 _ rfl).2.2.2 e14
     have f5:=(hX 0 _ rfl).1
     have u5:w.heap.size≤gs11 0:=Nat.le_trans HB.size ((hX 0 _ rfl).2.2.1 (by simp))
     replace f2:=(hR 2 rfl).trans f2
     replace f3:=(hR 3 rfl).trans f3
     replace f4:=(hR 4 rfl).trans f4
     replace Gx:=Gx.rl hr
     replace Gy:=Gy.rl hr
     replace HB:=HB.trans (hBt.below HB.size (UpOld.all (bx:=[⟨N2,some 3,0,5,.agg #[.bool false,.slice none 0 0],some (4,14,2),[]⟩]) ⟨someNe,trivial⟩))
     clear hBt hr hR hP hX hU
     refine wp_seq ?_
     refine aap [some 15,some 16,some 17,some 18,some 19,some 20,some 21,none] [Eqs (.agg #[.bool nx,.slice ax xs.length cx]),Eqs (.agg #[.bool n_12,.slice a_12 r_12.length c_12]),OutN ((ov zx ((Int.gcd zx zy:Nat):Int))) (Bx),Eqs (.agg #[.bool ny,.slice ay ys.length cy]),Eqs (.agg #[.bool n_12,.slice a_12 r_12.length c_12]),OutN ((ov zy ((Int.gcd zx zy:Nat):Int))) (By),OutQ ((ov zx ((Int.gcd zx zy:Nat):Int))) ((ov zy ((Int.gcd zx zy:Nat):Int))) ((Bx)+(By)),Tt] [⟨Q4,none,(gs1 2),4,.agg #[.bool false,.slice none 0 0,.bool false,.slice none 0 0],some (7,21,6),[]⟩] [] (by kernel_rfl) hn rfl (by kernel_rfl) (by kernel_rfl) (by kernel_rfl) (by kernel_rfl) (by kernel_rfl) (by kernel_rfl) ⟨Eqs.mono4 _,Eqs.mono4 _,OutN.mono4 _ _,Eqs.mono4 _,Eqs.mono4 _,OutN.mono4 _ _,OutQ.mono4 _ _ _,True.mono4,trivial⟩ (aaq Q4ok aat) (IsOld.all (bx:=[⟨Q4,none,(gs1 2),4,.agg #[.bool false,.slice none 0 0,.bool false,.slice none 0 0],some (7,21,6),[]⟩]) ⟨fun _=>⟨f4,b4⟩,trivial⟩) (DisOld.all (bx:=[⟨Q4,none,(gs1 2),4,.agg #[.bool false,.slice none 0 0,.bool false,.slice none 0 0],some (7,21,6),[]⟩]) ⟨fun _=>trivial,trivial⟩) ?_ ?_
     ·exact ⟨.norm 15 rfl rfl rfl (fun a_ w_ _ t r R D _ _=>aaz N2ok ((R 2 rfl).trans f2) (b2.keep t ⟨fun _=>ne2_4.symm,trivial⟩)),.norm 16 rfl rfl rfl (fun a_ w_ _ t r R D _ _=>aaz N2ok ((R 5 rfl).trans f5) (b5.keep t ⟨fun _=>ne4_5,trivial⟩)),.norm 17 rfl rfl rfl (fun a_ w_ _ t r R D _ _=>afm (aar (show a_.eval (.tmp 15)=.agg #[.bool nx,.slice ax xs.length cx] from D 0 rfl) (Gx.rl r) Lx) (aar (show a_.eval (.tmp 16)=.agg #[.bool n_12,.slice a_12 r_12.length c_12] from D 1 rfl) (G12.rl r) l12) (by omega) (by omega) (ah3 _ (by omega))),.norm 18 rfl rfl rfl (fun a_ w_ _ t r R D _ _=>aaz N2ok ((R 3 rfl).trans f3) (b3.keep t ⟨fun _=>ne3_4.symm,trivial⟩)),.norm 19 rfl rfl rfl (fun a_ w_ _ t r R D _ _=>aaz N2ok ((R 5 rfl).trans f5) (b5.keep t ⟨fun _=>ne4_5,trivial⟩)),.norm 20 rfl rfl rfl (fun a_ w_ _ t r R D _ _=>afm (aar (show a_.eval (.tmp 18)=.agg #[.bool ny,.slice ay ys.length cy] from D 3 rfl) (Gy.rl r) Ly) (aar (show a_.eval (.tmp 19)=.agg #[.bool n_12,.slice a_12 r_12.length c_12] from D 4 rfl) (G12.rl r) l12) (by omega) (by omega) (ah3 _ (by omega))),.norm 21 rfl rfl rfl (fun a_ w_ _ t r R D _ _=>ajl (L:=(Bx)+(By)) ((show OutN ((ov zx ((Int.gcd zx zy:Nat):Int))) (Bx) (a_.eval (.tmp 17)) w_ from D 2 rfl).to rfl (by omega)) ((show OutN ((ov zy ((Int.gcd zx zy:Nat):Int))) (By) (a_.eval (.tmp 20)) w_ from D 5 rfl).to rfl (by omega))),.store 0 _ _ _ rfl rfl rfl rfl rfl rfl rfl (fun ia h=>by cases h) rfl rfl rfl OutQ.cs,trivial⟩
     ·intro a13 w13 gs13 hn13 hd13 hBt hr hR hP hX hU
      replace hn:=hn13;replace hd:=hd13.trans hd
      obtain ⟨n_14,a_14,c_14,r_14,o_14,b_14,d_14,s_14,e21,G14,K14,l14,k14⟩:OutQ ((ov zx ((Int.gcd zx zy:Nat):Int))) ((ov zy ((Int.gcd zx zy:Nat):Int))) ((Bx)+(By)) (a13.eval (.tmp 21)) w13:=hP 6 (by decide)
      have b4:BoxV Q4 w13 ((gs1 2)) (.agg #[.bool n_14,.slice a_14 r_14.length c_14,.bool o_14,.slice b_14 s_14.length d_14]):=ab5 ((hX 0 _ rfl).2.1 rfl) (hX 0 _ rfl).2.2.2 e21
      replace f4:a13.eval (.tmp 4) = _:=(hR 4 rfl).trans f4
      replace Gx:=Gx.rl hr
      replace Gy:=Gy.rl hr
      replace G12:=G12.rl hr
      replace HB:=HB.trans (hBt.below HB.size (UpOld.all (bx:=[⟨Q4,none,(gs1 2),4,.agg #[.bool false,.slice none 0 0,.bool false,.slice none 0 0],some (7,21,6),[]⟩]) ⟨fun _=>u4,trivial⟩))
      clear hBt hr hR hP hX hU
      refine wp_ret ?_
      repeat (first | refine abx ?_ | refine abp ?_ | refine abo ?_)
      exact bodyPost_ret (v:=.agg #[.bool n_14,.slice a_14 r_14.length c_14,.bool o_14,.slice b_14 s_14.length d_14]) (abw rfl f4 (ahw b4)) hd ⟨_,rfl,OutQ.to (aeb rfl G14 K14 l14 k14) (ak2 hc7').1 (ak2 hc7').2 (by omega),HB⟩
theorem aqy:Has Tryz.prog 48:=by unfold Has;kernel_rfl
theorem ag8 {dst:Option Tmp} {ty:TypeId} {pos:String} {after:Array Edge} {guard:Option (Nat × Bool)} {a:Act} {w:World} {ats:Array TypeId} {i j:Nat} {Bx:Nat} {zx:Int} (Hx:OutN zx Bx (a.eval (.tmp i)) w) {By:Nat} {zy:Int} (Hy:OutN zy By (a.eval (.tmp j)) w) (hL:Bx+By≤300000) (hy:zy≠0) :
  Does Tryz.prog { dst,op:=.call { callee:=.value (.func 48),args:=#[.tmp i,.tmp j],argTypes:=ats },type:=ty,pos,after,guard } a.eval w fun v w'=>Below w.heap.size w w'∧(OutQ (nm zx zy) (dn zx zy) (Bx+By)) v w' := by
 obtain ⟨nx,ax,cx,xs,ex,Gx,Lx⟩:=Hx
 obtain ⟨ny,ay,cy,ys,ey,Gy,Ly⟩:=Hy
 refine aas aqy _ (by simp only [List.map_toArray,List.map_cons,List.map_nil,ex,ey]) ((avy w Bx _ _ _ _ _ Gx Lx By _ _ _ _ _ Gy Ly hL hy).mono ?_)
 rintro e w' ⟨v,rfl,h1,hb⟩
 exact ⟨_,rfl,hb,h1⟩
theorem nsignF (w:World) (z:Int) (v:Value) (L:Nat) (h:OutN z L v w) :
  Calls Tryz.prog 45 #[v] w fun e w'=>e=.returned (.int .i64 (Int.sign z))∧Below w.heap.size w w' := by
 obtain ⟨ng,ao,cap,rs,rfl,W,l⟩:=h
 exact Dm.au8 w _ _ _ _ _ W
section
variable {dst:Option Tmp} {ty:TypeId} {pos:String} {after:Array Edge} {guard:Option (Nat × Bool)} {a:Act} {w:World} {ats:Array TypeId} {i k g:Nat} {x z u v:Int} {L:Nat}
theorem ah4 (h:OutN z L (a.eval (.tmp i)) w) (hL:L≤1000000) :
  Does Tryz.prog { dst,op:=.call { callee:=.value (.func 51),args:=#[.tmp i],argTypes:=ats },type:=ty,pos,after,guard } a.eval w fun v w'=>Below w.heap.size w w'∧OutL (z.natAbs:Int) L v w' := by
 obtain ⟨ng,ao,cap,rs,e1,W,l⟩:=h
 have hb:=W.bound l
 refine aas an4 _ (by simp only [List.map_toArray,List.map_cons,List.map_nil,e1]) ((Dm.ai2 w ng ao cap rs _ W.1 L hb hL (by omega)).mono ?_)
 rintro e w' ⟨v,rfl,I,hb'⟩
 obtain ⟨ao,cap,rs,rfl,G⟩:=I.got
 exact ⟨_,rfl,hb',_,_,_,rfl,G,aax G.canon (by rw [G.val];exact hb)⟩
theorem avz (w:World):(Instr.fieldAt 51 (.pointer (some ⟨g,0,none⟩)) 1).run Tryz.prog w=.ok (.pointer (some ⟨g,1,none⟩)) w:=by go_simp
theorem aqz {ng:Bool} {ao:Option Addr} {n c:Nat} (hp:a.eval (.tmp k)=.pointer (some ⟨g,1,none⟩)) (hb:BoxV N2 w g (.agg #[.bool ng,.slice ao n c])) :
  Does Tryz.prog { dst,op:=.load 43 (.tmp k),type:=ty,pos,after,guard } a.eval w fun v' w'=>Below w.heap.size w w'∧Eqs (.slice ao n c) v' w' := by
 obtain ⟨b1,b2,b3,b4⟩:=(aqe hb).facts
 refine aay (v:=.slice ao n c) ?_ ⟨Below.refl _ _,rfl⟩
 rw [hp]
 go_simp
theorem av0 {ao:Option Addr} {n c:Nat} (h:a.eval (.tmp i)=.slice ao n c):Does Tryz.prog { dst,op:=.call { callee:=.builtin .len,args:=#[.tmp i],argTypes:=#[43] },type:=ty,pos,after,guard } a.eval w fun v' w'=>Below w.heap.size w w'∧Eqs (.int .i64 n) v' w' := by
 have e:(execOp a.eval { dst,op:=.call { callee:=.builtin .len,args:=#[.tmp i],argTypes:=#[43] },type:=ty,pos,after,guard }).run Tryz.prog w=.ok (.value (.int .i64 n)) w:=by
  have h' : a.tmps[i]?.getD undef=.slice ao n c:=by simpa [Act.eval] using h
  simp [go_sem,h']
 refine ⟨?_⟩
 unfold Turns
 rw [e]
 exact ⟨Below.refl _ _,rfl⟩
theorem amw {m:Nat} (h:OutL x L (a.eval (.tmp i)) w) (hm:IsLen x m):Does Tryz.prog { dst,op:=.call { callee:=.builtin .len,args:=#[.tmp i],argTypes:=#[25] },type:=ty,pos,after,guard } a.eval w fun v' w'=>Below w.heap.size w w'∧Eqs (.int .i64 m) v' w' := by
 obtain ⟨ao,cap,rs,e,G,l⟩:=h
 have hl:rs.length=m:=apz ⟨rs,G.canon,G.val,rfl⟩ hm
 exact (axp e).mono (fun v' w' ⟨hb,e⟩=>⟨hb,by rw [Eqs,show v' = _ from e,hl]⟩)
theorem av1 (h1:a.eval (.tmp i)=.int .i64 u) :
  Does Tryz.prog { dst,op:=.binOp .lss 3 (.tmp i) (.const (.int .i64 v)) 3,type:=ty,pos,after,guard } a.eval w fun v' w'=>Below w.heap.size w w'∧Eqs (.bool (decide (u<v))) v' w' := by
 refine adc (v:=.bool (decide (u<v))) ?_ ?_ ⟨Below.refl _ _,rfl⟩
 ·rw [h1];simp [go_sem,Act.eval]
 ·rw [h1];simp [go_sem,Act.eval]
end
set_option maxRecDepth 20000 in
set_option maxHeartbeats 2000000 in
theorem av2 (w:World) (Bx:Nat) (nx:Bool) (ax:Option Addr) (cx:Nat) (xs:List Int) (zx:Int) (Gx:Dm.Wh w nx ax cx xs zx) (Lx:xs.length≤Bx) (hL:Bx≤1000000) (m:Nat) (hm:IsLen (zx.natAbs:Int) m) :
  Calls Tryz.prog 50 #[.agg #[.bool nx,.slice ax xs.length cx]] w fun e w'=>∃ v,e=.returned v∧(Eqs (.int .i64 (m:Int))) v w'∧Below w.heap.size w w' := by
 go_enter Tryz.func50,Tryz.ntmps50
 generalize hA:(Act.mk _ _)=aa
 have hn:aa.tmps.size=13:=by rw [←hA];rfl
 have hd:aa.defers = []:=by rw [←hA]
 have f0:aa.eval (.tmp 0)=.agg #[.bool nx,.slice ax xs.length cx]:=by rw [←hA];rfl
 clear hA
 have HB:Below w.heap.size w w:=Below.refl _ _
 refine wp_seq ?_
 refine aap [some 1,some 2] [(fun _ _=>True),Eqs ((.int .i64 0))] [⟨N2,some 0,0,1,.agg #[.bool nx,.slice ax xs.length cx],none,[]⟩] [] (by kernel_rfl) hn rfl (by kernel_rfl) (by kernel_rfl) (by kernel_rfl) (by kernel_rfl) (by kernel_rfl) (by kernel_rfl) ⟨True.mono4,Eqs.mono4 _,trivial⟩ (aaq N2ok aat) (IsOld.all (bx:=[⟨N2,some 0,0,1,.agg #[.bool nx,.slice ax xs.length cx],none,[]⟩]) ⟨someNe,trivial⟩) (DisOld.all (bx:=[⟨N2,some 0,0,1,.agg #[.bool nx,.slice ax xs.length cx],none,[]⟩]) ⟨someNe,trivial⟩) ?_ ?_
 ·exact ⟨.alloc 0 _ rfl rfl (.inr ⟨_,rfl,afg,fun a_ hR=>(hR 0 rfl).trans f0⟩) rfl rfl rfl rfl rfl,
   .norm 2 rfl rfl rfl (fun a_ w_ hn_ hBt hr hR hD hO hS=>ab8 rfl),
   trivial⟩
 ·intro a1 w1 gs1 hn1 hd1 hBt hr hR hP hX hU
  replace hn:=hn1;replace hd:=hd1.trans hd
  have b1:BoxV N2 w1 (gs1 0) (.agg #[.bool nx,.slice ax xs.length cx]):=(hX 0 _ rfl).2.2.2
  have f1:=(hX 0 _ rfl).1
  have u1:w.heap.size≤gs1 0:=Nat.le_trans HB.size ((hX 0 _ rfl).2.2.1 (by simp))
  have e2:a1.eval (.tmp 2)=(.int .i64 0):=hP 1 (by decide)
  have f2:=e2
  replace Gx:=Gx.rl hr
  replace HB:=HB.trans (hBt.below HB.size (UpOld.all (bx:=[⟨N2,some 0,0,1,.agg #[.bool nx,.slice ax xs.length cx],none,[]⟩]) ⟨someNe,trivial⟩))
  clear hBt hr hR hP hX hU
  refine wp_seq ?_
  refine wp_seq ?_
  refine aap [some 3,some 4,some 5,some 6] [Eqs (.pointer (some ⟨gs1 0,1,none⟩)),Eqs (.slice ax xs.length cx),Eqs (.int .i64 (xs.length:Int)),Eqs (.bool (decide ((xs.length:Int)<3)))] [] [] (by kernel_rfl) hn rfl (by kernel_rfl) (by kernel_rfl) (by kernel_rfl) (by kernel_rfl) (by kernel_rfl) (by kernel_rfl) ⟨Eqs.mono4 _,Eqs.mono4 _,Eqs.mono4 _,Eqs.mono4 _,trivial⟩ aat (IsOld.all (bx:=[]) trivial) (DisOld.all (bx:=[]) trivial) ?_ ?_
  ·exact ⟨.norm 3 rfl rfl rfl (fun a_ w_ hn_ hBt hr hR hD hO hS=>ahx avz ((hR 1 rfl).trans f1)),
    .norm 4 rfl rfl rfl (fun a_ w_ hn_ hBt hr hR hD hO hS=>aqz (show a_.eval (.tmp 3)=.pointer (some ⟨gs1 0,1,none⟩) from hD 0 rfl) (b1.keep hBt trivial)),
    .norm 5 rfl rfl rfl (fun a_ w_ hn_ hBt hr hR hD hO hS=>av0 (show a_.eval (.tmp 4)=.slice ax xs.length cx from hD 1 rfl)),
    .norm 6 rfl rfl rfl (fun a_ w_ hn_ hBt hr hR hD hO hS=>av1 (show a_.eval (.tmp 5)=.int .i64 (xs.length:Int) from hD 2 rfl)),
    trivial⟩
  ·intro a2 w2 gs2 hn2 hd2 hBt hr hR hP hX hU
   replace hn:=hn2;replace hd:=hd2.trans hd
   replace b1:=b1.keep hBt trivial
   replace f1:=(hR 1 rfl).trans f1
   replace f2:=(hR 2 rfl).trans f2
   have e6:a2.eval (.tmp 6)=.bool (decide ((xs.length:Int)<3)):=hP 3 (by decide)
   have f6:=e6
   replace Gx:=Gx.rl hr
   replace HB:=HB.trans (hBt.below HB.size (UpOld.all (bx:=[]) trivial))
   clear hBt hr hR hP hX hU
   refine wp_cond_split f6 (fun hc6=>?_) (fun hc6=>?_)
   ·skip
    refine wp_seq ?_
    refine aap [some 7,some 8,some 9,some 2] [Eqs (.agg #[.bool nx,.slice ax xs.length cx]),OutL (((zx).natAbs:Int)) (Bx),Eqs (.int .i64 (m:Int)),Eqs (.int .i64 (m:Int))] [] [] (by kernel_rfl) hn rfl (by kernel_rfl) (by kernel_rfl) (by kernel_rfl) (by kernel_rfl) (by kernel_rfl) (by kernel_rfl) ⟨Eqs.mono4 _,OutL.mono4 _ _,Eqs.mono4 _,Eqs.mono4 _,trivial⟩ aat (IsOld.all (bx:=[]) trivial) (DisOld.all (bx:=[]) trivial) ?_ ?_
    ·exact ⟨.norm 7 rfl rfl rfl (fun a_ w_ hn_ hBt hr hR hD hO hS=>aaz N2ok ((hR 1 rfl).trans f1) (b1.keep hBt trivial)),
      .norm 8 rfl rfl rfl (fun a_ w_ hn_ hBt hr hR hD hO hS=>ah4 (aar (show a_.eval (.tmp 7)=.agg #[.bool nx,.slice ax xs.length cx] from hD 0 rfl) (Gx.rl hr) Lx) (by omega)),
      .norm 9 rfl rfl rfl (fun a_ w_ hn_ hBt hr hR hD hO hS=>amw (show OutL (((zx).natAbs:Int)) (Bx) (a_.eval (.tmp 8)) w_ from hD 1 rfl) hm),
      .norm 2 rfl rfl rfl (fun a_ w_ hn_ hBt hr hR hD hO hS=>ab8 (show a_.eval (.tmp 9)=.int .i64 (m:Int) from hD 2 rfl)),
      trivial⟩
    ·intro a3 w3 gs3 hn3 hd3 hBt hr hR hP hX hU
     replace hn:=hn3;replace hd:=hd3.trans hd
     replace b1:=b1.keep hBt trivial
     replace f1:=(hR 1 rfl).trans f1
     have e2:a3.eval (.tmp 2)=.int .i64 (m:Int):=hP 3 (by decide)
     have f2:=e2
     replace Gx:=Gx.rl hr
     replace HB:=HB.trans (hBt.below HB.size (UpOld.all (bx:=[]) trivial))
     clear hBt hr hR hP hX hU
     refine wp_ret ?_
     repeat (first | refine abx ?_ | refine abp ?_ | refine abo ?_)
     exact bodyPost_ret (v:=.int .i64 (m:Int)) (adm rfl f2) hd ⟨_,rfl,rfl,HB⟩
   ·skip
    refine wp_skip ?_
    refine wp_seq ?_
    refine aap [some 10,some 11,some 12,some 2] [Eqs (.agg #[.bool nx,.slice ax xs.length cx]),OutL (((zx).natAbs:Int)) (Bx),Eqs (.int .i64 (m:Int)),Eqs (.int .i64 (m:Int))] [] [] (by kernel_rfl) hn rfl (by kernel_rfl) (by kernel_rfl) (by kernel_rfl) (by kernel_rfl) (by kernel_rfl) (by kernel_rfl) ⟨Eqs.mono4 _,OutL.mono4 _ _,Eqs.mono4 _,Eqs.mono4 _,trivial⟩ aat (IsOld.all (bx:=[]) trivial) (DisOld.all (bx:=[]) trivial) ?_ ?_
    ·exact ⟨.norm 10 rfl rfl rfl (fun a_ w_ hn_ hBt hr hR hD hO hS=>aaz N2ok ((hR 1 rfl).trans f1) (b1.keep hBt trivial)),
      .norm 11 rfl rfl rfl (fun a_ w_ hn_ hBt hr hR hD hO hS=>ah4 (aar (show a_.eval (.tmp 10)=.agg #[.bool nx,.slice ax xs.length cx] from hD 0 rfl) (Gx.rl hr) Lx) (by omega)),
      .norm 12 rfl rfl rfl (fun a_ w_ hn_ hBt hr hR hD hO hS=>amw (show OutL (((zx).natAbs:Int)) (Bx) (a_.eval (.tmp 11)) w_ from hD 1 rfl) hm),
      .norm 2 rfl rfl rfl (fun a_ w_ hn_ hBt hr hR hD hO hS=>ab8 (show a_.eval (.tmp 12)=.int .i64 (m:Int) from hD 2 rfl)),
      trivial⟩
    ·intro a4 w4 gs4 hn4 hd4 hBt hr hR hP hX hU
     replace hn:=hn4;replace hd:=hd4.trans hd
     have e2:a4.eval (.tmp 2)=.int .i64 (m:Int):=hP 3 (by decide)
     have f2:=e2
     replace Gx:=Gx.rl hr
     replace HB:=HB.trans (hBt.below HB.size (UpOld.all (bx:=[]) trivial))
     clear hBt hr hR hP hX hU
     refine wp_ret ?_
     repeat (first | refine abx ?_ | refine abp ?_ | refine abo ?_)
     exact bodyPost_ret (v:=.int .i64 (m:Int)) (adm rfl f2) hd ⟨_,rfl,rfl,HB⟩
section
end
set_option maxRecDepth 20000 in
set_option maxHeartbeats 2000000 in
theorem ak3 (w:World) (Bx:Nat) (nx:Bool) (ax:Option Addr) (cx:Nat) (xs:List Int) (px:Int) (Gx:Dm.Wh w nx ax cx xs px) (Lx:xs.length≤Bx) (ox:Bool) (bx:Option Addr) (dx:Nat) (xt:List Int) (qx:Int) (Kx:Dm.Wh w ox bx dx xt qx) (Mx:xt.length≤Bx) (hL:Bx≤400000) :
  Calls Tryz.prog 46 #[.agg #[.bool nx,.slice ax xs.length cx,.bool ox,.slice bx xt.length dx]] w fun e w'=>∃ v,e=.returned v∧(OutQ (-px) qx (2*Bx)) v w'∧Below w.heap.size w w' := by
 go_enter Tryz.func46,Tryz.ntmps46
 generalize hA:(Act.mk _ _)=aa
 have hn:aa.tmps.size=9:=by rw [←hA];rfl
 have hd:aa.defers = []:=by rw [←hA]
 have f0:aa.eval (.tmp 0)=.agg #[.bool nx,.slice ax xs.length cx,.bool ox,.slice bx xt.length dx]:=by rw [←hA];rfl
 clear hA
 have HB:Below w.heap.size w w:=Below.refl _ _
 refine wp_seq ?_
 refine aap [some 1,some 2] [Tt,Tt] [⟨Q4,some 0,0,1,.agg #[.bool nx,.slice ax xs.length cx,.bool ox,.slice bx xt.length dx],none,[]⟩,⟨Q4,some 1,0,2,.agg #[.bool false,.slice none 0 0,.bool false,.slice none 0 0],none,[]⟩] [] (by kernel_rfl) hn rfl (by kernel_rfl) (by kernel_rfl) (by kernel_rfl) (by kernel_rfl) (by kernel_rfl) (by kernel_rfl) ⟨True.mono4,True.mono4,trivial⟩ (aaq Q4ok (aaq Q4ok aat)) (IsOld.all (bx:=[⟨Q4,some 0,0,1,.agg #[.bool nx,.slice ax xs.length cx,.bool ox,.slice bx xt.length dx],none,[]⟩,⟨Q4,some 1,0,2,.agg #[.bool false,.slice none 0 0,.bool false,.slice none 0 0],none,[]⟩]) ⟨someNe,someNe,trivial⟩) (DisOld.all (bx:=[⟨Q4,some 0,0,1,.agg #[.bool nx,.slice ax xs.length cx,.bool ox,.slice bx xt.length dx],none,[]⟩,⟨Q4,some 1,0,2,.agg #[.bool false,.slice none 0 0,.bool false,.slice none 0 0],none,[]⟩]) ⟨someNe,someNe,trivial⟩) ?_ ?_
 ·exact ⟨.alloc 0 _ rfl rfl (.inr ⟨_,rfl,ahv,fun a_ hR=>(hR 0 rfl).trans f0⟩) rfl rfl rfl rfl rfl,.alloc 1 _ rfl rfl (.inl ⟨rfl,rfl⟩) rfl rfl rfl rfl rfl,trivial⟩
 ·intro a1 w1 gs1 hn1 hd1 hBt hr hR hP hX hU
  replace hn:=hn1;replace hd:=hd1.trans hd
  have ne1_2:gs1 0≠gs1 1:=hU 0 1 (by simp) (by simp) (by decide)
  have b1:BoxV Q4 w1 (gs1 0) (.agg #[.bool nx,.slice ax xs.length cx,.bool ox,.slice bx xt.length dx]):=(hX 0 _ rfl).2.2.2
  have f1:=(hX 0 _ rfl).1
  have u1:w.heap.size≤gs1 0:=Nat.le_trans HB.size ((hX 0 _ rfl).2.2.1 (by simp))
  have b2:BoxV Q4 w1 (gs1 1) (.agg #[.bool false,.slice none 0 0,.bool false,.slice none 0 0]):=(hX 1 _ rfl).2.2.2
  have f2:=(hX 1 _ rfl).1
  have u2:w.heap.size≤gs1 1:=Nat.le_trans HB.size ((hX 1 _ rfl).2.2.1 (by simp))
  replace Gx:=Gx.rl hr
  replace Kx:=Kx.rl hr
  replace HB:=HB.trans (hBt.below HB.size (UpOld.all (bx:=[⟨Q4,some 0,0,1,.agg #[.bool nx,.slice ax xs.length cx,.bool ox,.slice bx xt.length dx],none,[]⟩,⟨Q4,some 1,0,2,.agg #[.bool false,.slice none 0 0,.bool false,.slice none 0 0],none,[]⟩]) ⟨someNe,someNe,trivial⟩))
  clear hBt hr hR hP hX hU
  refine wp_seq ?_
  refine aap [some 3,some 4,some 5,some 6,some 7,some 8,none] [Eqs (.pointer (some ⟨gs1 0,0,none⟩)),Eqs (.agg #[.bool nx,.slice ax xs.length cx]),OutN ((-px)) (Bx),Eqs (.pointer (some ⟨gs1 0,2,none⟩)),Eqs (.agg #[.bool ox,.slice bx xt.length dx]),OutQ ((-px)) (qx) ((Bx)+(Bx)),Tt] [⟨Q4,none,(gs1 1),2,.agg #[.bool false,.slice none 0 0,.bool false,.slice none 0 0],some (6,8,5),[]⟩] [] (by kernel_rfl) hn rfl (by kernel_rfl) (by kernel_rfl) (by kernel_rfl) (by kernel_rfl) (by kernel_rfl) (by kernel_rfl) ⟨Eqs.mono4 _,Eqs.mono4 _,OutN.mono4 _ _,Eqs.mono4 _,Eqs.mono4 _,OutQ.mono4 _ _ _,True.mono4,trivial⟩ (aaq Q4ok aat) (IsOld.all (bx:=[⟨Q4,none,(gs1 1),2,.agg #[.bool false,.slice none 0 0,.bool false,.slice none 0 0],some (6,8,5),[]⟩]) ⟨fun _=>⟨f2,b2⟩,trivial⟩) (DisOld.all (bx:=[⟨Q4,none,(gs1 1),2,.agg #[.bool false,.slice none 0 0,.bool false,.slice none 0 0],some (6,8,5),[]⟩]) ⟨fun _=>trivial,trivial⟩) ?_ ?_
  ·exact ⟨.norm 3 rfl rfl rfl (fun a_ w_ _ t r R D _ _=>acm ahy ((R 1 rfl).trans f1)),.norm 4 rfl rfl rfl (fun a_ w_ _ t r R D _ _=>aev (show a_.eval (.tmp 3)=.pointer (some ⟨gs1 0,0,none⟩) from D 0 rfl) (b1.keep t ⟨fun _=>ne1_2.symm,trivial⟩)),.norm 5 rfl rfl rfl (fun a_ w_ _ t r R D _ _=>aen (aar (show a_.eval (.tmp 4)=.agg #[.bool nx,.slice ax xs.length cx] from D 1 rfl) (Gx.rl r) Lx) (by omega)),.norm 6 rfl rfl rfl (fun a_ w_ _ t r R D _ _=>acm afh ((R 1 rfl).trans f1)),.norm 7 rfl rfl rfl (fun a_ w_ _ t r R D _ _=>adi (show a_.eval (.tmp 6)=.pointer (some ⟨gs1 0,2,none⟩) from D 3 rfl) (b1.keep t ⟨fun _=>ne1_2.symm,trivial⟩)),.norm 8 rfl rfl rfl (fun a_ w_ _ t r R D _ _=>ajl (L:=(Bx)+(Bx)) ((show OutN ((-px)) (Bx) (a_.eval (.tmp 5)) w_ from D 2 rfl).to rfl (by omega)) ((aar (show a_.eval (.tmp 7)=.agg #[.bool ox,.slice bx xt.length dx] from D 4 rfl) (Kx.rl r) Mx).to rfl (by omega))),.store 0 _ _ _ rfl rfl rfl rfl rfl rfl rfl (fun ia h=>by cases h) rfl rfl rfl OutQ.cs,trivial⟩
  ·intro a2 w2 gs2 hn2 hd2 hBt hr hR hP hX hU
   replace hn:=hn2;replace hd:=hd2.trans hd
   obtain ⟨n_3,a_3,c_3,r_3,o_3,b_3,d_3,s_3,e8,G3,K3,l3,k3⟩:OutQ ((-px)) (qx) ((Bx)+(Bx)) (a2.eval (.tmp 8)) w2:=hP 5 (by decide)
   have b2:BoxV Q4 w2 ((gs1 1)) (.agg #[.bool n_3,.slice a_3 r_3.length c_3,.bool o_3,.slice b_3 s_3.length d_3]):=ab5 ((hX 0 _ rfl).2.1 rfl) (hX 0 _ rfl).2.2.2 e8
   replace f2:a2.eval (.tmp 2) = _:=(hR 2 rfl).trans f2
   replace Gx:=Gx.rl hr
   replace Kx:=Kx.rl hr
   replace HB:=HB.trans (hBt.below HB.size (UpOld.all (bx:=[⟨Q4,none,(gs1 1),2,.agg #[.bool false,.slice none 0 0,.bool false,.slice none 0 0],some (6,8,5),[]⟩]) ⟨fun _=>u2,trivial⟩))
   clear hBt hr hR hP hX hU
   refine wp_ret ?_
   repeat (first | refine abx ?_ | refine abp ?_ | refine abo ?_)
   exact bodyPost_ret (v:=.agg #[.bool n_3,.slice a_3 r_3.length c_3,.bool o_3,.slice b_3 s_3.length d_3]) (abw rfl f2 (ahw b2)) hd ⟨_,rfl,OutQ.to (aeb rfl G3 K3 l3 k3) rfl rfl (by omega),HB⟩
theorem aoi:Has Tryz.prog 46:=by unfold Has;kernel_rfl
theorem aq0 {dst:Option Tmp} {ty:TypeId} {pos:String} {after:Array Edge} {guard:Option (Nat × Bool)} {a:Act} {w:World} {ats:Array TypeId} {i:Nat} {Bx:Nat} {px qx:Int} (Hx:OutQ px qx Bx (a.eval (.tmp i)) w) (hL:Bx≤400000) :
  Does Tryz.prog { dst,op:=.call { callee:=.value (.func 46),args:=#[.tmp i],argTypes:=ats },type:=ty,pos,after,guard } a.eval w fun v w'=>Below w.heap.size w w'∧(OutQ (-px) qx (2*Bx)) v w' := by
 obtain ⟨nx,ax,cx,xs,ox,bx,dx,xt,ex,Gx,Kx,Lx,Mx⟩:=Hx
 refine aas aoi _ (by simp only [List.map_toArray,List.map_cons,List.map_nil,ex]) ((ak3 w Bx _ _ _ _ _ Gx Lx _ _ _ _ _ Kx Mx hL).mono ?_)
 rintro e w' ⟨v,rfl,h1,hb⟩
 exact ⟨_,rfl,hb,h1⟩
theorem infoQ:(Tryz.prog.info? 77).map (fun i=>(i.zero,i.size,i.bytes))=some (some (.agg #[.bool false,.slice none 0 0,.bool false,.slice none 0 0]),4,64):=by kernel_rfl
def QOut (w:World) (fs:List WE) (rs:List Rat) (L:Nat):Prop:=fs.length=2*rs.length∧∀ (k:Nat) (r:Rat),rs[k]? = some r→∃ f g,fs[2*k]? = some f∧fs[2*k+1]? = some g∧OutN r.num L f.v w∧OutN (r.den:Int) L g.v w
theorem QOut.rl {w w' : World} {fs:List WE} {rs:List Rat} {L:Nat} (h:QOut w fs rs L) (hr:Rl w w'):QOut w' fs rs L :=
 ⟨h.1,fun k r hk=>by obtain ⟨f,g,h1,h2,h3,h4⟩:=h.2 k r hk;exact ⟨f,g,h1,h2,h3.rl hr,h4.rl hr⟩⟩
structure QnO (B:Nat) (w:World) (v:Value) (fs:List WE) (rs:List Rat) (L:Nat):Prop where
 own:w.ownsRow B 77 4 v rs.length (flat fs)
 noi:NoI w v
 out:QOut w fs rs L
theorem QnO.below {B:Nat} {w w' : World} {v:Value} {fs:List WE} {rs:List Rat} {L:Nat} (h:QnO B w v fs rs L) (hb:Below w.heap.size w w'):QnO B w' v fs rs L :=
 ⟨h.own.kept (row:=none) ⟨hb.os,hb.tape,hb.output,hb.size,fun k hk _=>hb.block k hk⟩ (by cases hv:v.ownBlock <;> simp),h.noi.below (fun k hk=>(h.own.lt k hk).2) hb,h.out.rl (Rl.of_below hb)⟩
theorem av3 (B:Nat) (w:World) (L:Nat):QnO B w (.slice none 0 0) [] [] L:=⟨World.ownsRow_nil w B _ 4,fun g cs T hg=>by simp [Value.ownBlock] at hg,rfl,fun k r hk=>by simp at hk⟩
theorem av4 {dst:Option Tmp} {ty:TypeId} {pos:String} {after:Array Edge} {guard:Option (Nat × Bool)} {a:Act} {w:World} {i j:Nat} {B g:Nat} {v:Value} {fs:List WE} {rs:List Rat} {L:Nat} {r:Rat} {ng:Bool} {ao:Option Addr} {n c:Nat} {mg:Bool} {bo:Option Addr} {m d:Nat} (h1:a.eval (.tmp i)=v) (h2:a.eval (.tmp j)=.slice (some ⟨g,0,none⟩) 1 1) (R:QnO B w v fs rs L) (O:w.heap[g]? = some (.cells #[.bool ng,.slice ao n c,.bool mg,.slice bo m d] 77 (0,0))) (S1:OutN r.num L (.agg #[.bool ng,.slice ao n c]) w) (S2:OutN (r.den:Int) L (.agg #[.bool mg,.slice bo m d]) w) (hn:rs.length≤1000000) (hB:B≤w.heap.size) :
  Does Tryz.prog { dst,op:=.call { callee:=.builtin .append,args:=#[.tmp i,.tmp j],argTypes:=#[75,75] },type:=ty,pos,after,guard } a.eval w fun v' w'=>QnO B w' v' (fs ++ [⟨ng,ao,n,c,[]⟩,⟨mg,bo,m,d,[]⟩]) (rs ++ [r]) L∧Below B w w' := by
 obtain ⟨i0,hi,hz0,hz1,hz2⟩:=info_parts infoQ
 have hfl:flat (fs ++ [⟨ng,ao,n,c,[]⟩,⟨mg,bo,m,d,[]⟩])=flat fs ++ [.bool ng,.slice ao n c,.bool mg,.slice bo m d]:=by rw [adn];rfl
 have hcl:∀ (k:Nat) (u:Value),[Value.bool ng,.slice ao n c,.bool mg,.slice bo m d][k]? = some u→w.cell? ((⟨g,0,none⟩:Addr).add k)=some u:=fun k u hu=>by
  have hc:∀ k,w.cell? ⟨g,k,none⟩ = #[Value.bool ng,.slice ao n c,.bool mg,.slice bo m d][k]? := fun k=>cell_of_row w g k _ _ (0,0) O
  have ha:(⟨g,0,none⟩:Addr).add k=⟨g,k,none⟩:=by unfold Addr.add;split <;> simp_all
  rw [ha,hc]
  simpa using hu
 obtain ⟨v',w',hr,ho,hgr,_⟩:=run_append_own (P:=Tryz.prog) w B 75 ty 77 i0 _ 4 64 Tryz.underlying75 hi hz0 hz1 hz2 rfl (by decide) v rs.length (flat fs) R.own ⟨g,0,none⟩ 1 1 [.bool ng,.slice ao n c,.bool mg,.slice bo m d] rfl hcl (by simp [Value.oneCell']) (by simp [maxLen];omega) (by omega) hB
 have e:(execOp a.eval { dst,op:=.call { callee:=.builtin .append,args:=#[.tmp i,.tmp j],argTypes:=#[75,75] },type:=ty,pos,after,guard }).run Tryz.prog w=.ok (.value v') w' := by
  simp only [execOp,resolve,invoke,builtin,Sem.run_bind,Sem.run_pure,Result.andThen_ok,List.map_toArray,List.map_cons,List.map_nil,h1,h2,hr]
 refine ⟨?_⟩
 unfold Turns
 rw [e]
 have hrl:Rl w w' := by
  refine ⟨hgr.size,fun p k z e=>?_,fun k cs T hT e=>?_⟩
  ·rw [World.cell?_of_block (w:=w) (hgr.block p.block (acn e) fun hb=>?_)]
   ·exact e
   ·rcases R.own.2 with ⟨rfl,_⟩ | ⟨g',cap,cur,rfl,_,hh,h5,h6,h7,h8⟩
    ·simp [Value.ownBlock] at hb
    ·simp only [Value.ownBlock,Option.some.injEq] at hb
     obtain ⟨pb,po,pm⟩:=p
     simp only at hb
     subst hb
     simp only [World.cell?,hh] at e
     cases pm with
     | some m=>simp at e
     | none =>
      have hm:=R.noi _ cur _ rfl hh (.int k z) (Array.mem_toList_iff.2 (Array.mem_of_getElem? (i:=po) (by simpa using e)))
      exact absurd hm (by simp [isI])
  ·refine (hgr.block k (aaa e) fun hb=>?_).trans e
   rcases R.own.2 with ⟨rfl,_⟩ | ⟨g',cap,cur,rfl,_,hh,_⟩
   ·simp [Value.ownBlock] at hb
   ·simp only [Value.ownBlock,Option.some.injEq] at hb
    subst hb
    rw [hh] at e
    injection e with e
    injection e with _ e _
    rcases hT with rfl | rfl
    ·exact absurd e (by decide)
    ·exact absurd e (by decide)
 have hni:NoI w' v' := by
  have hown:=R.own
  rw [←hz1] at hown
  exact agf (P:=Tryz.prog) w B 75 ty 77 i0 _ 64 Tryz.underlying75 hi hz0 hz2 (by omega) v rs.length (flat fs) hown ⟨g,0,none⟩ 1 [.bool ng,.slice ao n c,.bool mg,.slice bo m d] (by rw [hz1];rfl) hcl (by simp [Value.oneCell']) (by simp [maxLen];omega) (by omega) R.noi (by simp [isI]) (by simp [Value.cells,isI]) hr
 refine ⟨⟨by rw [hfl,List.length_append];exact ho,hni,by simp [R.out.1];omega,fun k y hy=>?_⟩,⟨hgr.os,hgr.tape,hgr.output,hgr.size,fun k hk=>hgr.block k (by omega) (fun e=>?_)⟩⟩
 ·have hfl:=R.out.1
  by_cases hk:k<rs.length
  ·rw [List.getElem?_append_left hk] at hy
   obtain ⟨f,g,a1,a2,a3,a4⟩:=R.out.2 k y hy
   exact ⟨f,g,by rw [List.getElem?_append_left (by omega)];exact a1,by rw [List.getElem?_append_left (by omega)];exact a2,a3.rl hrl,a4.rl hrl⟩
  ·have hkl:=(List.getElem?_eq_some_iff.1 hy).1
   simp at hkl
   obtain rfl:k=rs.length:=by omega
   rw [List.getElem?_append_right (Nat.le_refl _)] at hy
   simp at hy
   subst hy
   refine ⟨⟨ng,ao,n,c,[]⟩,⟨mg,bo,m,d,[]⟩,by rw [List.getElem?_append_right (by omega),hfl,Nat.sub_self];rfl,by rw [List.getElem?_append_right (by omega),hfl,show 2*rs.length+1 - 2*rs.length=1 by omega];rfl,S1.rl hrl,S2.rl hrl⟩
 ·have:=R.own.lt k e.symm
  omega
section
variable {dst:Option Tmp} {ty:TypeId} {pos:String} {after:Array Edge} {guard:Option (Nat × Bool)} {a:Act} {w:World} {ats:Array TypeId} {i j:Nat}
theorem av5 {b off n c k:Nat} {ao:Option Addr} (h:a.eval (.tmp i)=.slice ao n c) (hao:ao=some ⟨b,off,none⟩) (hk:a.eval (.tmp j)=.int .i64 (k:Int)) (hl:k<n):Does Tryz.prog { dst,op:=.indexAddr 75 (.tmp i) (.tmp j),type:=ty,pos,after,guard } a.eval w fun v' w'=>Below w.heap.size w w'∧Eqs (.pointer (some ⟨b,off+k*4,none⟩)) v' w' := by
 subst hao
 have hl' : (k:Int)<(n:Int):=by omega
 refine ⟨?_⟩
 unfold Turns
 simp only [execOp,h,hk]
 go_simp
 exact ⟨Below.refl _ _,rfl⟩
theorem av6 {b o:Nat} (h:a.eval (.tmp i)=.pointer (some ⟨b,o,none⟩)):Does Tryz.prog { dst,op:=.fieldAddr 77 (.tmp i) 0,type:=ty,pos,after,guard } a.eval w fun v' w'=>Below w.heap.size w w'∧Eqs (.pointer (some ⟨b,o,none⟩)) v' w' := by
 refine ⟨?_⟩
 unfold Turns
 simp only [execOp,h]
 go_simp
 exact ⟨Below.refl _ _,rfl⟩
theorem av7 {b o:Nat} (h:a.eval (.tmp i)=.pointer (some ⟨b,o,none⟩)):Does Tryz.prog { dst,op:=.fieldAddr 77 (.tmp i) 1,type:=ty,pos,after,guard } a.eval w fun v' w'=>Below w.heap.size w w'∧Eqs (.pointer (some ⟨b,o+2,none⟩)) v' w' := by
 refine ⟨?_⟩
 unfold Turns
 simp only [execOp,h]
 go_simp
 exact ⟨Below.refl _ _,rfl⟩
end
def isB:Value→Bool
 | .bool _=>true
 | _=>false
def NoB (w:World) (v:Value):Prop:=∀ g cs T,v.ownBlock=some g→w.heap[g]? = some (.cells cs T (0,0))→∀ x ∈ cs.toList,isB x=false
theorem NoB.below {w w' : World} {v:Value} (h:NoB w v) (hl:∀ k,v.ownBlock=some k→k<w.heap.size) (hb:Below w.heap.size w w'):NoB w' v:=fun g cs T hg hh=>h g cs T hg ((hb.block g (hl g hg)).symm.trans hh)
theorem ak4 {z:Array Value} (hz:∀ x ∈ z.toList,isB x=false) (n:Nat):∀ x ∈ (Builtin.zeroCells z n).toList,isB x=false:=by
 intro x hx
 simp only [Builtin.zeroCells,Array.toList_map,List.mem_map] at hx
 obtain ⟨j,hj,rfl⟩:=hx
 by_cases h:j % z.size<z.size
 ·rw [getElem!_pos z _ h]
  exact hz _ (by simp)
 ·exfalso
  have h0:z.size=0:=Classical.byContradiction fun h1=>h (Nat.mod_lt _ (by omega))
  rw [h0,Nat.mul_zero] at hj
  simp at hj
theorem av8 {P:Program} (w:World) (base:Nat) (t ty e:TypeId) (i:TypeInfo) (z:Value) (bytes:Nat) (ht:P.underlying t=some (.slice e)) (hi:P.info? e=some i) (hz:i.zero=some z) (hby:i.bytes=bytes) (_hsz:0<i.size)
  (v:Value) (n:Nat) (xs:List Value) (hown:w.ownsRow base e i.size v n xs) (a:Addr) (c:Nat) (news:List Value) (hl:news.length=i.size) (hnews:∀ j u,news[j]? = some u→w.cell? (a.add j)=some u) (h1:∀ u ∈ news,u.oneCell' = true)
  (h63:n+1≤maxLen) (hbytes:(n+1)*bytes≤140737488355328) (hI:NoB w v) (hN:∀ u ∈ news,isB u=false) (hZ:∀ u ∈ z.cells.toList,isB u=false) {v' : Value} {w' : World} (hr:(Builtin.append_ #[t,t] ty #[v,.slice (some a) 1 c]).run P w=.ok v' w'):NoB w' v' := by
 subst hby
 have hl' : news.length=1*i.size:=by omega
 have hsmall:n+1≤9223372036854775807:=by simp only [maxLen] at h63;omega
 rcases hown.2 with ⟨rfl,rfl⟩ | ⟨g,cap,cur,rfl,hbg,hg,hnc,hcm,hcs,htake⟩
 ·have hr' := run_append_nil (P:=P) w t ty e i z ht hi hz a 1 c news hl' hnews (by omega) (by omega) (by omega)
  rw [hr] at hr'
  injection hr' with e1 e2
  subst e1 e2
  intro g cs T hg hh x hx
  simp only [Value.ownBlock,Option.some.injEq] at hg
  subst hg
  rw [show (w.drew.alloc (Obj.cells (news.toArray ++ Builtin.zeroCells z.cells (grownCap w 1 0 e - 1)) e)).heap[w.heap.size]? = _ from heap_alloc_new w.drew _] at hh
  injection hh with hh
  injection hh with hh
  subst hh
  simp only [Array.toList_append,List.mem_append] at hx
  rcases hx with hx | hx
  ·exact hN x hx
  ·exact ak4 hZ _ x hx
 ·have hcur:=hI g cur e rfl hg
  by_cases hroom:n+1≤cap
  ·have hfit:n*i.size+news.length≤cur.size:=by rw [hl',hcs,←Nat.add_mul];exact Nat.mul_le_mul_right _ hroom
   have hr' := run_append_room (P:=P) w t ty e i ht hi g n cap cur hg a 1 c news hl' hnews h1 hroom hfit
   rw [hr] at hr'
   injection hr' with e1 e2
   subst e1 e2
   intro g' cs T hg' hh x hx
   simp only [Value.ownBlock,Option.some.injEq] at hg'
   subst hg'
   rw [setRow_heap w g cur _ e _ hg] at hh
   injection hh with hh
   injection hh with hh
   subst hh
   simp only [List.mem_append] at hx
   rcases hx with (hx | hx) | hx
   ·exact hcur x (List.mem_of_mem_take hx)
   ·exact hN x hx
   ·exact hcur x (List.mem_of_mem_drop hx)
  ·have hr' := run_append_grow (P:=P) w t ty e i z ht hi hz ⟨g,0,none⟩ n cap xs hown.1 (hown.cells (g:=g) rfl) a 1 c news hl' hnews (by omega) (by omega) (growslice_fits (by omega) hbytes)
   rw [hr] at hr'
   injection hr' with e1 e2
   subst e1 e2
   intro g' cs T hg' hh x hx
   simp only [Value.ownBlock,Option.some.injEq] at hg'
   subst hg'
   rw [show (w.drew.alloc (Obj.cells (xs.toArray ++ news.toArray ++ Builtin.zeroCells z.cells (grownCap w (n+1) cap e - (n+1))) e)).heap[w.heap.size]? = _ from heap_alloc_new w.drew _] at hh
   injection hh with hh
   injection hh with hh
   subst hh
   simp only [Array.toList_append,List.mem_append] at hx
   rcases hx with (hx | hx) | hx
   ·rw [←htake] at hx
    exact hcur x (List.mem_of_mem_take hx)
   ·exact hN x hx
   ·exact ak4 hZ _ x hx
def NM (w:World) (v:Value) (rows:List (List Int)) (L:Nat):Prop:=∃ vs:List Value,Ce w v 1 rows.length vs∧∀ (i:Nat) (u:Value) (z:List Int),vs[i]? = some u→rows[i]? = some z→NRow w u z L
theorem ata {w w' : World} {g:Nat} {cs:Array Value} (hg:w.heap[g]? = some (.cells cs 70 (0,0))) (hI:∀ x ∈ cs.toList,isI x=false) (hs:w.heap.size≤w'.heap.size) (hk:∀ k,k<w.heap.size→k≠g→w'.heap[k]? = w.heap[k]?):Rl w w' := by
 refine ⟨hs,fun p k z e=>?_,fun k cs T hT e=>?_⟩
 ·rw [World.cell?_of_block (w:=w) (hk p.block (acn e) fun hb=>?_)]
  ·exact e
  ·obtain ⟨pb,po,pm⟩:=p
   simp only at hb
   subst hb
   simp only [World.cell?,hg] at e
   cases pm with
   | some m=>simp at e
   | none =>
    have hm:=hI (.int k z) (Array.mem_toList_iff.2 (Array.mem_of_getElem? (i:=po) (by simpa using e)))
    exact absurd hm (by simp [isI])
 ·refine (hk k (aaa e) fun hb=>?_).trans e
  subst hb
  rw [hg] at e
  injection e with e
  injection e with _ e _
  rcases hT with rfl | rfl
  ·exact absurd e (by decide)
  ·exact absurd e (by decide)
theorem NRow.other {w w' : World} {u:Value} {zs:List Int} {L g:Nat} {cs:Array Value} (h:NRow w u zs L) (hg:w.heap[g]? = Option.some (.cells cs 70 (0,0))) (hI:∀ x ∈ cs.toList,isI x=false) (hB:∀ x ∈ cs.toList,isB x=false) (hs:w.heap.size≤w'.heap.size) (hk:∀ k,k<w.heap.size→k≠g→w'.heap[k]? = w.heap[k]?):NRow w' u zs L:=by
 obtain ⟨fs,⟨ao,cap,rfl,h1,h2,h3,h4⟩,h5,h6⟩:=h
 refine ⟨fs,⟨ao,cap,rfl,h1,h2,h3,?_⟩,h5,fun k f z hf hz=>(h6 k f z hf hz).rl (ata hg hI hs hk)⟩
 rcases h4 with h4 | ⟨b,off,rfl,hl,hc⟩
 ·exact .inl h4
 ·by_cases h0:fs.length=0
  ·exact .inl h0
  ·obtain ⟨f,hf⟩:∃ f,fs[0]? = Option.some f:=⟨_,List.getElem?_eq_getElem (by omega)⟩
   have c0:=hc _ _ (abl hf).1
   have hne:b≠g:=fun e=>by
    subst e
    simp only [World.cell?,hg] at c0
    have:=hB (.bool f.ng) (Array.mem_toList_iff.2 (Array.mem_of_getElem? (i:=off+0*2) (by simpa using c0)))
    exact absurd this (by simp [isB])
   exact .inr ⟨b,off,rfl,Nat.lt_of_lt_of_le hl hs,fun j u hu=>by
    rw [World.cell?_of_block (w:=w) (hk b hl hne)]
    exact hc j u hu⟩
structure RmO (B:Nat) (w:World) (v:Value) (vs:List Value) (rows:List (List Int)) (L:Nat):Prop where
 own:w.ownsRow B 70 1 v vs.length vs
 noi:NoI w v
 nob:NoB w v
 len:vs.length=rows.length
 out:∀ (k:Nat) (u:Value) (z:List Int),vs[k]? = some u→rows[k]? = some z→NRow w u z L
theorem RmO.below {B:Nat} {w w' : World} {v:Value} {vs:List Value} {rows:List (List Int)} {L:Nat} (h:RmO B w v vs rows L) (hb:Below w.heap.size w w'):RmO B w' v vs rows L :=
 ⟨h.own.kept (row:=none) ⟨hb.os,hb.tape,hb.output,hb.size,fun k hk _=>hb.block k hk⟩ (by cases hv:v.ownBlock <;> simp),h.noi.below (fun k hk=>(h.own.lt k hk).2) hb,h.nob.below (fun k hk=>(h.own.lt k hk).2) hb,h.len,fun k u z hu hz=>(h.out k u z hu hz).below hb⟩
theorem amx (B:Nat) (w:World) (L:Nat):RmO B w (.slice none 0 0) [] [] L:=⟨World.ownsRow_nil w B _ 1,fun g cs T hg=>by simp [Value.ownBlock] at hg,fun g cs T hg=>by simp [Value.ownBlock] at hg,rfl,fun k f z hf=>by simp at hf⟩
theorem RmO.nm {B:Nat} {w:World} {v:Value} {vs:List Value} {rows:List (List Int)} {L:Nat} (h:RmO B w v vs rows L):NM w v rows L:=⟨vs,by rw [←h.len];exact Ce.own h.own,h.out⟩
section
variable {dst:Option Tmp} {ty:TypeId} {pos:String} {after:Array Edge} {guard:Option (Nat × Bool)} {a:Act} {w:World} {ats:Array TypeId} {i j:Nat}
theorem infoSn:(Tryz.prog.info? 70).map (fun i=>(i.zero,i.size,i.bytes))=some (some (.slice none 0 0),1,24):=by kernel_rfl
theorem aio {B g:Nat} {v:Value} {vs:List Value} {rows:List (List Int)} {L:Nat} {z:List Int} {u:Value} (h1:a.eval (.tmp i)=v) (h2:a.eval (.tmp j)=.slice (some ⟨g,0,none⟩) 1 1) (R:RmO B w v vs rows L) (O:w.heap[g]? = some (.cells #[u] 70 (0,0))) (S:NRow w u z L) (hn:vs.length≤1000000) (hB:B≤w.heap.size) :
  Does Tryz.prog { dst,op:=.call { callee:=.builtin .append,args:=#[.tmp i,.tmp j],argTypes:=#[53,53] },type:=ty,pos,after,guard } a.eval w fun v' w'=>RmO B w' v' (vs ++ [u]) (rows ++ [z]) L∧Below B w w' := by
 obtain ⟨i0,hi,hz0,hz1,hz2⟩:=info_parts infoSn
 obtain ⟨ua,uc,hu,_⟩:=S.parts
 have hcl:∀ (k:Nat) (x:Value),[u][k]? = some x→w.cell? ((⟨g,0,none⟩:Addr).add k)=some x:=fun k x hx=>by
  have hc:∀ k,w.cell? ⟨g,k,none⟩ = #[u][k]? := fun k=>cell_of_row w g k _ _ (0,0) O
  have ha:(⟨g,0,none⟩:Addr).add k=⟨g,k,none⟩:=by unfold Addr.add;split <;> simp_all
  rw [ha,hc]
  simpa using hx
 have h1c:∀ x ∈ [u],x.oneCell' = true:=fun x hx=>by obtain rfl:=List.mem_singleton.1 hx;rw [hu];rfl
 obtain ⟨v',w',hr,ho,hgr,_⟩:=run_append_own (P:=Tryz.prog) w B 53 ty 70 i0 _ 1 24 Tryz.underlying53 hi hz0 hz1 hz2 rfl (by decide) v vs.length vs R.own ⟨g,0,none⟩ 1 1 [u] rfl hcl h1c (by simp [maxLen];omega) (by omega) hB
 have e:(execOp a.eval { dst,op:=.call { callee:=.builtin .append,args:=#[.tmp i,.tmp j],argTypes:=#[53,53] },type:=ty,pos,after,guard }).run Tryz.prog w=.ok (.value v') w' := by
  simp only [execOp,resolve,invoke,builtin,Sem.run_bind,Sem.run_pure,Result.andThen_ok,List.map_toArray,List.map_cons,List.map_nil,h1,h2,hr]
 refine ⟨?_⟩
 unfold Turns
 rw [e]
 have hkeep:∀ {x:Value} {y:List Int},NRow w x y L→NRow w' x y L:=fun {x y} hx=>by
  rcases R.own.2 with ⟨rfl,_⟩ | ⟨g',cap,cur,rfl,_,hh,h5,h6,h7,h8⟩
  ·exact hx.below ⟨hgr.os,hgr.tape,hgr.output,hgr.size,fun k hk=>hgr.block k hk (by simp [Value.ownBlock])⟩
  ·exact hx.other hh (R.noi _ cur _ rfl hh) (R.nob _ cur _ rfl hh) hgr.size (fun k hk hne=>hgr.block k hk (by simp [Value.ownBlock];exact fun h=>hne h))
 have hown:=R.own
 rw [←hz1] at hown
 have hni:NoI w' v' := agf (P:=Tryz.prog) w B 53 ty 70 i0 _ 24 Tryz.underlying53 hi hz0 hz2 (by omega) v vs.length vs hown ⟨g,0,none⟩ 1 [u] (by rw [hz1];rfl) hcl h1c (by simp [maxLen];omega) (by omega) R.noi (by rw [hu];simp [isI]) (by simp [Value.cells,isI]) hr
 have hnb:NoB w' v' := av8 (P:=Tryz.prog) w B 53 ty 70 i0 _ 24 Tryz.underlying53 hi hz0 hz2 (by omega) v vs.length vs hown ⟨g,0,none⟩ 1 [u] (by rw [hz1];rfl) hcl h1c (by simp [maxLen];omega) (by omega) R.nob (by rw [hu];simp [isB]) (by simp [Value.cells,isB]) hr
 refine ⟨⟨by rw [List.length_append];exact ho,hni,hnb,by simp [R.len],fun k x y hx hy=>?_⟩,⟨hgr.os,hgr.tape,hgr.output,hgr.size,fun k hk=>hgr.block k (by omega) (fun e=>?_)⟩⟩
 ·by_cases hk:k<vs.length
  ·rw [List.getElem?_append_left hk] at hx
   rw [List.getElem?_append_left (by rw [←R.len];exact hk)] at hy
   exact hkeep (R.out k x y hx hy)
  ·have hkl:=(List.getElem?_eq_some_iff.1 hx).1
   simp at hkl
   obtain rfl:k=vs.length:=by omega
   rw [List.getElem?_append_right (Nat.le_refl _)] at hx
   rw [List.getElem?_append_right (by rw [R.len];exact Nat.le_refl _)] at hy
   simp [R.len] at hx hy
   subst hx hy
   exact hkeep S
 ·have:=R.own.lt k e.symm
  omega
end
theorem NM.below {w w' : World} {v:Value} {rows:List (List Int)} {L:Nat} (h:NM w v rows L) (hb:Below w.heap.size w w'):NM w' v rows L:=by
 obtain ⟨vs,h1,h2⟩:=h
 exact ⟨vs,h1.below hb,fun i u z hu hz=>(h2 i u z hu hz).below hb⟩
theorem NM.parts {w:World} {v:Value} {rows:List (List Int)} {L:Nat} (h:NM w v rows L):∃ ao cap,v=.slice ao rows.length cap∧rows.length≤9223372036854775807:=by
 obtain ⟨vs,⟨ao,cap,rfl,h1,h2,_⟩,_⟩:=h
 exact ⟨ao,cap,rfl,by omega⟩
theorem NM.cell {w:World} {ao:Option Addr} {n cap:Nat} {rows:List (List Int)} {L k:Nat} {z:List Int} (h:NM w (.slice ao n cap) rows L) (hz:rows[k]? = some z):∃ b off u,ao=some ⟨b,off,none⟩∧b<w.heap.size∧w.cell? ⟨b,off+k,none⟩ = some u∧NRow w u z L:=by
 obtain ⟨vs,⟨ao',cap',hv,h1,h2,h3,h4⟩,h6⟩:=h
 obtain ⟨rfl,hn,rfl⟩:=(Value.slice.injEq .. ▸ hv)
 have hk:=(List.getElem?_eq_some_iff.1 hz).1
 obtain ⟨u,hu⟩:∃ u,vs[k]? = some u:=⟨_,List.getElem?_eq_getElem (by omega)⟩
 rcases h4 with h4 | ⟨b,off,rfl,hb,hc⟩
 ·omega
 ·exact ⟨b,off,u,rfl,hb,hc k u hu,h6 k u z hu hz⟩
end Lm
end Go.Proofs.YtgmobkafnefpfaaGreat
namespace Go.Proofs.YtgmobkafnefpfaaGreat
namespace Lm
open Go Go.RowKit
open Dm (WFr)
theorem ntoldF (w:World) (z:Int) (v:Value) (L:Nat) (h:OutN z L v w) (hL:L≤1000000) :
  Calls Tryz.prog 24 #[v] w fun e w'=>∃ r,e=.returned r∧FrW w.heap.size z L r w'∧Below w.heap.size w w' := by
 obtain ⟨ng,ao,cap,rs,rfl,W,l⟩:=h
 refine (Dm.ax0 w _ _ _ _ _ W L (W.bound l) hL (by omega)).mono ?_
 rintro e w' ⟨bo,dap,ls,rfl,F,l2,hb⟩
 exact ⟨_,rfl,⟨_,_,_,_,_,_,rfl,F,Nat.le_refl _,Nat.le_refl _,l2⟩,hb⟩
end Lm
end Go.Proofs.YtgmobkafnefpfaaGreat
namespace Go.Proofs.YtgmobkafnefpfaaGreat
namespace Lm
open Go Go.RowKit
theorem aoj (n:Nat):∃ m,IsLen (n:Int) m:=by
 have key:∀ n:Nat,∃ zs,Limb zs∧val zs=(n:Int):=by
  intro n
  induction n using Nat.strongRecOn with
  | _ n ih =>
   by_cases h:n=0
   ·exact ⟨[],aae,by simp [val,h]⟩
   ·obtain ⟨zs,hl,hv⟩:=ih (n / 4294967296) (Nat.div_lt_self (by omega) (by omega))
    refine ⟨((n % 4294967296:Nat):Int) :: zs,fun z hz=>?_,?_⟩
    ·rcases List.mem_cons.1 hz with rfl | hz
     ·omega
     ·exact hl z hz
    ·simp only [val,hv]
     omega
 obtain ⟨zs,hl,hv⟩:=key n
 exact ⟨_,_,aa3 hl,by rw [aai,hv],rfl⟩
theorem ak5 {x:Int} {m:Nat} (h:IsLen x m):(m≤32↔x<pw 32):=by
 obtain ⟨rs,hc,hv,rfl⟩:=h
 constructor
 ·intro hl
  have h1:=(aab hc.1).2
  have h2:=aa0 hl
  omega
 ·exact fun hx=>aax hc (by omega)
theorem ayx:p10 308≤pw 32:=by decide +kernel
theorem av9 (n:Nat):Dm.pw n=p10 (4*n):=by
 induction n with
 | zero=>rfl
 | succ n ih =>
  rw [Dm.pw,ih,show 4*(n+1)=4*n+1+1+1+1 from by omega]
  simp only [p10]
  omega
set_option maxRecDepth 20000 in
set_option maxHeartbeats 1000000 in
theorem nbigF (w:World) (z:Int) (v:Value) (L:Nat) (h:OutN z L v w) (hL:L≤1000000) :
  Calls Tryz.prog 23 #[v] w fun e w'=>e=.returned (.bool (decide (¬ (z.natAbs:Int)<pw 32)))∧Below w.heap.size w w' := by
 obtain ⟨ng,ax,cx,xs,rfl,G,l⟩:=h
 obtain ⟨m,hm⟩:=aoj z.natAbs
 have HW:=hide G
 have HM:=hide hm
 have HD:Hid (decide (¬ (z.natAbs:Int)<pw 32)=decide (32<m)):=decide_eq_decide.2 (by have:=ak5 hm;omega)
 have hsl:xs.length≤77→m≤32:=by
  intro h
  refine (ak5 hm).2 ?_
  have h1:=(Dm.aab G.1.2.1.1).2
  rw [G.1.2.2] at h1
  have h2:=ar6 (m:=4*xs.length) (n:=308) (by omega)
  rw [av9] at h1
  have h3:=ayx
  omega
 have HS:=hide hsl
 rw [HD.out]
 clear hm G hsl
 by_cases h77:77<xs.length
 ·have h77' : (77:Int)<(xs.length:Int):=by omega
  generalize hxl:xs.length=n at *
  go_enter Tryz.func23,Tryz.ntmps23
  go_wp2_with fail
  have hb1:=hAl w (.cells #[.bool ng,.slice ax n cx] 51)
  have K:=av2 (w.alloc (.cells #[.bool ng,.slice ax n cx] 51)) L ng ax cx xs z (HW.out.below hb1) (by omega) hL m HM.out
  rw [hxl] at K
  refine K.mono ?_
  rintro e w2 ⟨v,rfl,hv,hb2⟩
  obtain rfl:v=.int .i64 (m:Int):=hv
  have hB:=hb1.trans (hb2.mono hb1.size)
  clear hb1 hb2 K
  have hd:decide ((32:Int)<(m:Int))=decide (32<m):=by simp;omega
  go_wp2
  all_goals go_ret
  all_goals (refine ⟨?_,hB⟩;simp)
 ·have h77' : decide ((77:Int)<(xs.length:Int))=false:=by simp;omega
  have hd:decide (32<m)=false:=by have:=HS.out (by omega);simp;omega
  rw [hd]
  generalize xs.length=n at *
  go_enter Tryz.func23,Tryz.ntmps23
  go_wp2
  go_ret
  exact ⟨by rfl,by (repeat' first|with_reducible(first|exact Below.refl _ _|assumption|refine gdrewN ?_ _|refine Below.alloc ?_ ?_ _|refine Below.drew ?_|refine Below.setCell ?_ ?_ _)|go_size)⟩
set_option maxRecDepth 20000 in
set_option maxHeartbeats 2000000 in
theorem awa (w:World) (Bx:Nat) (nx:Bool) (ax:Option Addr) (cx:Nat) (xs:List Int) (px:Int) (Gx:Dm.Wh w nx ax cx xs px) (Lx:xs.length≤Bx) (ox:Bool) (bx:Option Addr) (dx:Nat) (xt:List Int) (qx:Int) (Kx:Dm.Wh w ox bx dx xt qx) (Mx:xt.length≤Bx) (Bv:Nat) (nv:Bool) (av:Option Addr) (cv:Nat) (vs:List Int) (pv:Int) (Gv:Dm.Wh w nv av cv vs pv) (Lv:vs.length≤Bv) (ov:Bool) (bv:Option Addr) (dv:Nat) (vt:List Int) (qv:Int) (Kv:Dm.Wh w ov bv dv vt qv) (Mv:vt.length≤Bv) (hL:Bx+Bv≤50000) (hx0:qx≠0) (hv0:qv≠0) :
  Calls Tryz.prog 49 #[.agg #[.bool nx,.slice ax xs.length cx,.bool ox,.slice bx xt.length dx],.agg #[.bool nv,.slice av vs.length cv,.bool ov,.slice bv vt.length dv]] w fun e w'=>∃ v,e=.returned v∧(OutQ (nm (px*qv+pv*qx) (qx*qv)) (dn (px*qv+pv*qx) (qx*qv)) (3*(Bx+Bv)+4)) v w'∧Below w.heap.size w w' := by
 go_enter Tryz.func49,Tryz.ntmps49
 generalize hA:(Act.mk _ _)=aa
 have hn:aa.tmps.size=22:=by rw [←hA];rfl
 have hd:aa.defers = []:=by rw [←hA]
 have f0:aa.eval (.tmp 0)=.agg #[.bool nx,.slice ax xs.length cx,.bool ox,.slice bx xt.length dx]:=by rw [←hA];rfl
 have f1:aa.eval (.tmp 1)=.agg #[.bool nv,.slice av vs.length cv,.bool ov,.slice bv vt.length dv]:=by rw [←hA];rfl
 clear hA
 have HB:Below w.heap.size w w:=Below.refl _ _
 refine wp_seq ?_
 refine aap [some 2,some 3,some 4] [Tt,Tt,Tt] [⟨Q4,some 0,0,2,.agg #[.bool nx,.slice ax xs.length cx,.bool ox,.slice bx xt.length dx],none,[]⟩,⟨Q4,some 1,0,3,.agg #[.bool nv,.slice av vs.length cv,.bool ov,.slice bv vt.length dv],none,[]⟩,⟨Q4,some 2,0,4,.agg #[.bool false,.slice none 0 0,.bool false,.slice none 0 0],none,[]⟩] [] (by kernel_rfl) hn rfl (by kernel_rfl) (by kernel_rfl) (by kernel_rfl) (by kernel_rfl) (by kernel_rfl) (by kernel_rfl) ⟨True.mono4,True.mono4,True.mono4,trivial⟩ (aaq Q4ok (aaq Q4ok (aaq Q4ok aat))) (IsOld.all (bx:=[⟨Q4,some 0,0,2,.agg #[.bool nx,.slice ax xs.length cx,.bool ox,.slice bx xt.length dx],none,[]⟩,⟨Q4,some 1,0,3,.agg #[.bool nv,.slice av vs.length cv,.bool ov,.slice bv vt.length dv],none,[]⟩,⟨Q4,some 2,0,4,.agg #[.bool false,.slice none 0 0,.bool false,.slice none 0 0],none,[]⟩]) ⟨someNe,someNe,someNe,trivial⟩) (DisOld.all (bx:=[⟨Q4,some 0,0,2,.agg #[.bool nx,.slice ax xs.length cx,.bool ox,.slice bx xt.length dx],none,[]⟩,⟨Q4,some 1,0,3,.agg #[.bool nv,.slice av vs.length cv,.bool ov,.slice bv vt.length dv],none,[]⟩,⟨Q4,some 2,0,4,.agg #[.bool false,.slice none 0 0,.bool false,.slice none 0 0],none,[]⟩]) ⟨someNe,someNe,someNe,trivial⟩) ?_ ?_
 ·exact ⟨.alloc 0 _ rfl rfl (.inr ⟨_,rfl,ahv,fun a_ hR=>(hR 0 rfl).trans f0⟩) rfl rfl rfl rfl rfl,.alloc 1 _ rfl rfl (.inr ⟨_,rfl,ahv,fun a_ hR=>(hR 1 rfl).trans f1⟩) rfl rfl rfl rfl rfl,.alloc 2 _ rfl rfl (.inl ⟨rfl,rfl⟩) rfl rfl rfl rfl rfl,trivial⟩
 intro a1 w1 gs1 hn1 hd1 hBt hr hR hP hX hU
 replace hn:=hn1;replace hd:=hd1.trans hd
 have ne2_4:gs1 0≠gs1 2:=hU 0 2 (by simp) (by simp) (by decide)
 have ne3_4:gs1 1≠gs1 2:=hU 1 2 (by simp) (by simp) (by decide)
 have b2:BoxV Q4 w1 (gs1 0) (.agg #[.bool nx,.slice ax xs.length cx,.bool ox,.slice bx xt.length dx]):=(hX 0 _ rfl).2.2.2
 have f2:=(hX 0 _ rfl).1
 have u2:w.heap.size≤gs1 0:=Nat.le_trans HB.size ((hX 0 _ rfl).2.2.1 (by simp))
 have b3:BoxV Q4 w1 (gs1 1) (.agg #[.bool nv,.slice av vs.length cv,.bool ov,.slice bv vt.length dv]):=(hX 1 _ rfl).2.2.2
 have f3:=(hX 1 _ rfl).1
 have u3:w.heap.size≤gs1 1:=Nat.le_trans HB.size ((hX 1 _ rfl).2.2.1 (by simp))
 have b4:BoxV Q4 w1 (gs1 2) (.agg #[.bool false,.slice none 0 0,.bool false,.slice none 0 0]):=(hX 2 _ rfl).2.2.2
 have f4:=(hX 2 _ rfl).1
 have u4:w.heap.size≤gs1 2:=Nat.le_trans HB.size ((hX 2 _ rfl).2.2.1 (by simp))
 replace Gx:=Gx.rl hr
 replace Kx:=Kx.rl hr
 replace Gv:=Gv.rl hr
 replace Kv:=Kv.rl hr
 replace HB:=HB.trans (hBt.below HB.size (UpOld.all (bx:=[⟨Q4,some 0,0,2,.agg #[.bool nx,.slice ax xs.length cx,.bool ox,.slice bx xt.length dx],none,[]⟩,⟨Q4,some 1,0,3,.agg #[.bool nv,.slice av vs.length cv,.bool ov,.slice bv vt.length dv],none,[]⟩,⟨Q4,some 2,0,4,.agg #[.bool false,.slice none 0 0,.bool false,.slice none 0 0],none,[]⟩]) ⟨someNe,someNe,someNe,trivial⟩))
 clear hBt hr hR hP hX hU
 refine wp_seq ?_
 refine aap [some 5,some 6,some 7,some 8,some 9,some 10,some 11,some 12,some 13,some 14,some 15,some 16,some 17,some 18,some 19,some 20,some 21,none] [Eqs (.pointer (some ⟨gs1 0,0,none⟩)),Eqs (.agg #[.bool nx,.slice ax xs.length cx]),Eqs (.pointer (some ⟨gs1 1,2,none⟩)),Eqs (.agg #[.bool ov,.slice bv vt.length dv]),OutN ((px*qv)) ((Bx)+(Bv)+1),Eqs (.pointer (some ⟨gs1 1,0,none⟩)),Eqs (.agg #[.bool nv,.slice av vs.length cv]),Eqs (.pointer (some ⟨gs1 0,2,none⟩)),Eqs (.agg #[.bool ox,.slice bx xt.length dx]),OutN ((pv*qx)) ((Bv)+(Bx)+1),OutN (((px*qv)+(pv*qx))) (((Bx)+(Bv)+1)+((Bv)+(Bx)+1)+1),Eqs (.pointer (some ⟨gs1 0,2,none⟩)),Eqs (.agg #[.bool ox,.slice bx xt.length dx]),Eqs (.pointer (some ⟨gs1 1,2,none⟩)),Eqs (.agg #[.bool ov,.slice bv vt.length dv]),OutN ((qx*qv)) ((Bx)+(Bv)+1),OutQ ((nm ((px*qv)+(pv*qx)) (qx*qv))) ((dn ((px*qv)+(pv*qx)) (qx*qv))) ((((Bx)+(Bv)+1)+((Bv)+(Bx)+1)+1)+((Bx)+(Bv)+1)),Tt] [⟨Q4,none,(gs1 2),4,.agg #[.bool false,.slice none 0 0,.bool false,.slice none 0 0],some (17,21,16),[]⟩] [] (by kernel_rfl) hn rfl (by kernel_rfl) (by kernel_rfl) (by kernel_rfl) (by kernel_rfl) (by kernel_rfl) (by kernel_rfl) ⟨Eqs.mono4 _,Eqs.mono4 _,Eqs.mono4 _,Eqs.mono4 _,OutN.mono4 _ _,Eqs.mono4 _,Eqs.mono4 _,Eqs.mono4 _,Eqs.mono4 _,OutN.mono4 _ _,OutN.mono4 _ _,Eqs.mono4 _,Eqs.mono4 _,Eqs.mono4 _,Eqs.mono4 _,OutN.mono4 _ _,OutQ.mono4 _ _ _,True.mono4,trivial⟩ (aaq Q4ok aat) (IsOld.all (bx:=[⟨Q4,none,(gs1 2),4,.agg #[.bool false,.slice none 0 0,.bool false,.slice none 0 0],some (17,21,16),[]⟩]) ⟨fun _=>⟨f4,b4⟩,trivial⟩) (DisOld.all (bx:=[⟨Q4,none,(gs1 2),4,.agg #[.bool false,.slice none 0 0,.bool false,.slice none 0 0],some (17,21,16),[]⟩]) ⟨fun _=>trivial,trivial⟩) ?_ ?_
 ·exact ⟨.norm 5 rfl rfl rfl (fun a_ w_ _ t r R D _ _=>acm ahy ((R 2 rfl).trans f2)),.norm 6 rfl rfl rfl (fun a_ w_ _ t r R D _ _=>aev (show a_.eval (.tmp 5)=.pointer (some ⟨gs1 0,0,none⟩) from D 0 rfl) (b2.keep t ⟨fun _=>ne2_4.symm,trivial⟩)),.norm 7 rfl rfl rfl (fun a_ w_ _ t r R D _ _=>acm afh ((R 3 rfl).trans f3)),.norm 8 rfl rfl rfl (fun a_ w_ _ t r R D _ _=>adi (show a_.eval (.tmp 7)=.pointer (some ⟨gs1 1,2,none⟩) from D 2 rfl) (b3.keep t ⟨fun _=>ne3_4.symm,trivial⟩)),.norm 9 rfl rfl rfl (fun a_ w_ _ t r R D _ _=>aec (aar (show a_.eval (.tmp 6)=.agg #[.bool nx,.slice ax xs.length cx] from D 1 rfl) (Gx.rl r) Lx) (aar (show a_.eval (.tmp 8)=.agg #[.bool ov,.slice bv vt.length dv] from D 3 rfl) (Kv.rl r) Mv) (by omega) (by omega)),.norm 10 rfl rfl rfl (fun a_ w_ _ t r R D _ _=>acm ahy ((R 3 rfl).trans f3)),.norm 11 rfl rfl rfl (fun a_ w_ _ t r R D _ _=>aev (show a_.eval (.tmp 10)=.pointer (some ⟨gs1 1,0,none⟩) from D 5 rfl) (b3.keep t ⟨fun _=>ne3_4.symm,trivial⟩)),.norm 12 rfl rfl rfl (fun a_ w_ _ t r R D _ _=>acm afh ((R 2 rfl).trans f2)),.norm 13 rfl rfl rfl (fun a_ w_ _ t r R D _ _=>adi (show a_.eval (.tmp 12)=.pointer (some ⟨gs1 0,2,none⟩) from D 7 rfl) (b2.keep t ⟨fun _=>ne2_4.symm,trivial⟩)),.norm 14 rfl rfl rfl (fun a_ w_ _ t r R D _ _=>aec (aar (show a_.eval (.tmp 11)=.agg #[.bool nv,.slice av vs.length cv] from D 6 rfl) (Gv.rl r) Lv) (aar (show a_.eval (.tmp 13)=.agg #[.bool ox,.slice bx xt.length dx] from D 8 rfl) (Kx.rl r) Mx) (by omega) (by omega)),.norm 15 rfl rfl rfl (fun a_ w_ _ t r R D _ _=>avf (show OutN ((px*qv)) ((Bx)+(Bv)+1) (a_.eval (.tmp 9)) w_ from D 4 rfl) (show OutN ((pv*qx)) ((Bv)+(Bx)+1) (a_.eval (.tmp 14)) w_ from D 9 rfl) (by omega) (by omega)),.norm 16 rfl rfl rfl (fun a_ w_ _ t r R D _ _=>acm afh ((R 2 rfl).trans f2)),.norm 17 rfl rfl rfl (fun a_ w_ _ t r R D _ _=>adi (show a_.eval (.tmp 16)=.pointer (some ⟨gs1 0,2,none⟩) from D 11 rfl) (b2.keep t ⟨fun _=>ne2_4.symm,trivial⟩)),.norm 18 rfl rfl rfl (fun a_ w_ _ t r R D _ _=>acm afh ((R 3 rfl).trans f3)),.norm 19 rfl rfl rfl (fun a_ w_ _ t r R D _ _=>adi (show a_.eval (.tmp 18)=.pointer (some ⟨gs1 1,2,none⟩) from D 13 rfl) (b3.keep t ⟨fun _=>ne3_4.symm,trivial⟩)),.norm 20 rfl rfl rfl (fun a_ w_ _ t r R D _ _=>aec (aar (show a_.eval (.tmp 17)=.agg #[.bool ox,.slice bx xt.length dx] from D 12 rfl) (Kx.rl r) Mx) (aar (show a_.eval (.tmp 19)=.agg #[.bool ov,.slice bv vt.length dv] from D 14 rfl) (Kv.rl r) Mv) (by omega) (by omega)),.norm 21 rfl rfl rfl (fun a_ w_ _ t r R D _ _=>ag8 (Bx:=((Bx)+(Bv)+1)+((Bv)+(Bx)+1)+1) (By:=(Bx)+(Bv)+1) (show OutN (((px*qv)+(pv*qx))) (((Bx)+(Bv)+1)+((Bv)+(Bx)+1)+1) (a_.eval (.tmp 15)) w_ from D 10 rfl) (show OutN ((qx*qv)) ((Bx)+(Bv)+1) (a_.eval (.tmp 20)) w_ from D 15 rfl) (by omega) (Int.mul_ne_zero hx0 hv0)),.store 0 _ _ _ rfl rfl rfl rfl rfl rfl rfl (fun ia h=>by cases h) rfl rfl rfl OutQ.cs,trivial⟩
 intro a2 w2 gs2 hn2 hd2 hBt hr hR hP hX hU
 replace hn:=hn2;replace hd:=hd2.trans hd
 obtain ⟨n_3,a_3,c_3,r_3,o_3,b_3,d_3,s_3,e21,G3,K3,l3,k3⟩:OutQ ((nm ((px*qv)+(pv*qx)) (qx*qv))) ((dn ((px*qv)+(pv*qx)) (qx*qv))) ((((Bx)+(Bv)+1)+((Bv)+(Bx)+1)+1)+((Bx)+(Bv)+1)) (a2.eval (.tmp 21)) w2:=hP 16 (by decide)
 have b4:BoxV Q4 w2 ((gs1 2)) (.agg #[.bool n_3,.slice a_3 r_3.length c_3,.bool o_3,.slice b_3 s_3.length d_3]):=ab5 ((hX 0 _ rfl).2.1 rfl) (hX 0 _ rfl).2.2.2 e21
 replace f4:a2.eval (.tmp 4) = _:=(hR 4 rfl).trans f4
 replace Gx:=Gx.rl hr
 replace Kx:=Kx.rl hr
 replace Gv:=Gv.rl hr
 replace Kv:=Kv.rl hr
 replace HB:=HB.trans (hBt.below HB.size (UpOld.all (bx:=[⟨Q4,none,(gs1 2),4,.agg #[.bool false,.slice none 0 0,.bool false,.slice none 0 0],some (17,21,16),[]⟩]) ⟨fun _=>u4,trivial⟩))
 clear hBt hr hR hP hX hU
 refine wp_ret ?_
 repeat (first | refine abx ?_ | refine abp ?_ | refine abo ?_)
 exact bodyPost_ret (v:=.agg #[.bool n_3,.slice a_3 r_3.length c_3,.bool o_3,.slice b_3 s_3.length d_3]) (abw rfl f4 (ahw b4)) hd ⟨_,rfl,OutQ.to (aeb rfl G3 K3 l3 k3) rfl rfl (by omega),HB⟩
theorem aq1:Has Tryz.prog 49:=by unfold Has;kernel_rfl
theorem atb {dst:Option Tmp} {ty:TypeId} {pos:String} {after:Array Edge} {guard:Option (Nat × Bool)} {a:Act} {w:World} {ats:Array TypeId} {i j:Nat} {Bx:Nat} {px qx:Int} (Hx:OutQ px qx Bx (a.eval (.tmp i)) w) {Bv:Nat} {pv qv:Int} (Hv:OutQ pv qv Bv (a.eval (.tmp j)) w) (hL:Bx+Bv≤50000) (hx0:qx≠0) (hv0:qv≠0) :
  Does Tryz.prog { dst,op:=.call { callee:=.value (.func 49),args:=#[.tmp i,.tmp j],argTypes:=ats },type:=ty,pos,after,guard } a.eval w fun v w'=>Below w.heap.size w w'∧(OutQ (nm (px*qv+pv*qx) (qx*qv)) (dn (px*qv+pv*qx) (qx*qv)) (3*(Bx+Bv)+4)) v w' := by
 obtain ⟨nx,ax,cx,xs,ox,bx,dx,xt,ex,Gx,Kx,Lx,Mx⟩:=Hx
 obtain ⟨nv,av,cv,vs,ov,bv,dv,vt,ev,Gv,Kv,Lv,Mv⟩:=Hv
 refine aas aq1 _ (by simp only [List.map_toArray,List.map_cons,List.map_nil,ex,ev]) ((awa w Bx _ _ _ _ _ Gx Lx _ _ _ _ _ Kx Mx Bv _ _ _ _ _ Gv Lv _ _ _ _ _ Kv Mv hL hx0 hv0).mono ?_)
 rintro e w' ⟨v,rfl,h1,hb⟩
 exact ⟨_,rfl,hb,h1⟩
set_option maxRecDepth 20000 in
set_option maxHeartbeats 2000000 in
theorem ate (w:World) (Bx:Nat) (nx:Bool) (ax:Option Addr) (cx:Nat) (xs:List Int) (px:Int) (Gx:Dm.Wh w nx ax cx xs px) (Lx:xs.length≤Bx) (ox:Bool) (bx:Option Addr) (dx:Nat) (xt:List Int) (qx:Int) (Kx:Dm.Wh w ox bx dx xt qx) (Mx:xt.length≤Bx) (Bv:Nat) (nv:Bool) (av:Option Addr) (cv:Nat) (vs:List Int) (pv:Int) (Gv:Dm.Wh w nv av cv vs pv) (Lv:vs.length≤Bv) (ov:Bool) (bv:Option Addr) (dv:Nat) (vt:List Int) (qv:Int) (Kv:Dm.Wh w ov bv dv vt qv) (Mv:vt.length≤Bv) (hL:Bx+Bv≤50000) (hx0:qx≠0) (hv0:qv≠0) :
  Calls Tryz.prog 47 #[.agg #[.bool nx,.slice ax xs.length cx,.bool ox,.slice bx xt.length dx],.agg #[.bool nv,.slice av vs.length cv,.bool ov,.slice bv vt.length dv]] w fun e w'=>∃ v,e=.returned v∧(OutQ (nm (px*pv) (qx*qv)) (dn (px*pv) (qx*qv)) (2*(Bx+Bv)+2)) v w'∧Below w.heap.size w w' := by
 go_enter Tryz.func47,Tryz.ntmps47
 generalize hA:(Act.mk _ _)=aa
 have hn:aa.tmps.size=16:=by rw [←hA];rfl
 have hd:aa.defers = []:=by rw [←hA]
 have f0:aa.eval (.tmp 0)=.agg #[.bool nx,.slice ax xs.length cx,.bool ox,.slice bx xt.length dx]:=by rw [←hA];rfl
 have f1:aa.eval (.tmp 1)=.agg #[.bool nv,.slice av vs.length cv,.bool ov,.slice bv vt.length dv]:=by rw [←hA];rfl
 clear hA
 have HB:Below w.heap.size w w:=Below.refl _ _
 refine wp_seq ?_
 refine aap [some 2,some 3,some 4] [Tt,Tt,Tt] [⟨Q4,some 0,0,2,.agg #[.bool nx,.slice ax xs.length cx,.bool ox,.slice bx xt.length dx],none,[]⟩,⟨Q4,some 1,0,3,.agg #[.bool nv,.slice av vs.length cv,.bool ov,.slice bv vt.length dv],none,[]⟩,⟨Q4,some 2,0,4,.agg #[.bool false,.slice none 0 0,.bool false,.slice none 0 0],none,[]⟩] [] (by kernel_rfl) hn rfl (by kernel_rfl) (by kernel_rfl) (by kernel_rfl) (by kernel_rfl) (by kernel_rfl) (by kernel_rfl) ⟨True.mono4,True.mono4,True.mono4,trivial⟩ (aaq Q4ok (aaq Q4ok (aaq Q4ok aat))) (IsOld.all (bx:=[⟨Q4,some 0,0,2,.agg #[.bool nx,.slice ax xs.length cx,.bool ox,.slice bx xt.length dx],none,[]⟩,⟨Q4,some 1,0,3,.agg #[.bool nv,.slice av vs.length cv,.bool ov,.slice bv vt.length dv],none,[]⟩,⟨Q4,some 2,0,4,.agg #[.bool false,.slice none 0 0,.bool false,.slice none 0 0],none,[]⟩]) ⟨someNe,someNe,someNe,trivial⟩) (DisOld.all (bx:=[⟨Q4,some 0,0,2,.agg #[.bool nx,.slice ax xs.length cx,.bool ox,.slice bx xt.length dx],none,[]⟩,⟨Q4,some 1,0,3,.agg #[.bool nv,.slice av vs.length cv,.bool ov,.slice bv vt.length dv],none,[]⟩,⟨Q4,some 2,0,4,.agg #[.bool false,.slice none 0 0,.bool false,.slice none 0 0],none,[]⟩]) ⟨someNe,someNe,someNe,trivial⟩) ?_ ?_
 ·exact ⟨.alloc 0 _ rfl rfl (.inr ⟨_,rfl,ahv,fun a_ hR=>(hR 0 rfl).trans f0⟩) rfl rfl rfl rfl rfl,.alloc 1 _ rfl rfl (.inr ⟨_,rfl,ahv,fun a_ hR=>(hR 1 rfl).trans f1⟩) rfl rfl rfl rfl rfl,.alloc 2 _ rfl rfl (.inl ⟨rfl,rfl⟩) rfl rfl rfl rfl rfl,trivial⟩
 intro a1 w1 gs1 hn1 hd1 hBt hr hR hP hX hU
 replace hn:=hn1;replace hd:=hd1.trans hd
 have ne2_4:gs1 0≠gs1 2:=hU 0 2 (by simp) (by simp) (by decide)
 have ne3_4:gs1 1≠gs1 2:=hU 1 2 (by simp) (by simp) (by decide)
 have b2:BoxV Q4 w1 (gs1 0) (.agg #[.bool nx,.slice ax xs.length cx,.bool ox,.slice bx xt.length dx]):=(hX 0 _ rfl).2.2.2
 have f2:=(hX 0 _ rfl).1
 have u2:w.heap.size≤gs1 0:=Nat.le_trans HB.size ((hX 0 _ rfl).2.2.1 (by simp))
 have b3:BoxV Q4 w1 (gs1 1) (.agg #[.bool nv,.slice av vs.length cv,.bool ov,.slice bv vt.length dv]):=(hX 1 _ rfl).2.2.2
 have f3:=(hX 1 _ rfl).1
 have u3:w.heap.size≤gs1 1:=Nat.le_trans HB.size ((hX 1 _ rfl).2.2.1 (by simp))
 have b4:BoxV Q4 w1 (gs1 2) (.agg #[.bool false,.slice none 0 0,.bool false,.slice none 0 0]):=(hX 2 _ rfl).2.2.2
 have f4:=(hX 2 _ rfl).1
 have u4:w.heap.size≤gs1 2:=Nat.le_trans HB.size ((hX 2 _ rfl).2.2.1 (by simp))
 replace Gx:=Gx.rl hr
 replace Kx:=Kx.rl hr
 replace Gv:=Gv.rl hr
 replace Kv:=Kv.rl hr
 replace HB:=HB.trans (hBt.below HB.size (UpOld.all (bx:=[⟨Q4,some 0,0,2,.agg #[.bool nx,.slice ax xs.length cx,.bool ox,.slice bx xt.length dx],none,[]⟩,⟨Q4,some 1,0,3,.agg #[.bool nv,.slice av vs.length cv,.bool ov,.slice bv vt.length dv],none,[]⟩,⟨Q4,some 2,0,4,.agg #[.bool false,.slice none 0 0,.bool false,.slice none 0 0],none,[]⟩]) ⟨someNe,someNe,someNe,trivial⟩))
 clear hBt hr hR hP hX hU
 refine wp_seq ?_
 refine aap [some 5,some 6,some 7,some 8,some 9,some 10,some 11,some 12,some 13,some 14,some 15,none] [Eqs (.pointer (some ⟨gs1 0,0,none⟩)),Eqs (.agg #[.bool nx,.slice ax xs.length cx]),Eqs (.pointer (some ⟨gs1 1,0,none⟩)),Eqs (.agg #[.bool nv,.slice av vs.length cv]),OutN ((px*pv)) ((Bx)+(Bv)+1),Eqs (.pointer (some ⟨gs1 0,2,none⟩)),Eqs (.agg #[.bool ox,.slice bx xt.length dx]),Eqs (.pointer (some ⟨gs1 1,2,none⟩)),Eqs (.agg #[.bool ov,.slice bv vt.length dv]),OutN ((qx*qv)) ((Bx)+(Bv)+1),OutQ ((nm (px*pv) (qx*qv))) ((dn (px*pv) (qx*qv))) (((Bx)+(Bv)+1)+((Bx)+(Bv)+1)),Tt] [⟨Q4,none,(gs1 2),4,.agg #[.bool false,.slice none 0 0,.bool false,.slice none 0 0],some (11,15,10),[]⟩] [] (by kernel_rfl) hn rfl (by kernel_rfl) (by kernel_rfl) (by kernel_rfl) (by kernel_rfl) (by kernel_rfl) (by kernel_rfl) ⟨Eqs.mono4 _,Eqs.mono4 _,Eqs.mono4 _,Eqs.mono4 _,OutN.mono4 _ _,Eqs.mono4 _,Eqs.mono4 _,Eqs.mono4 _,Eqs.mono4 _,OutN.mono4 _ _,OutQ.mono4 _ _ _,True.mono4,trivial⟩ (aaq Q4ok aat) (IsOld.all (bx:=[⟨Q4,none,(gs1 2),4,.agg #[.bool false,.slice none 0 0,.bool false,.slice none 0 0],some (11,15,10),[]⟩]) ⟨fun _=>⟨f4,b4⟩,trivial⟩) (DisOld.all (bx:=[⟨Q4,none,(gs1 2),4,.agg #[.bool false,.slice none 0 0,.bool false,.slice none 0 0],some (11,15,10),[]⟩]) ⟨fun _=>trivial,trivial⟩) ?_ ?_
 ·exact ⟨.norm 5 rfl rfl rfl (fun a_ w_ _ t r R D _ _=>acm ahy ((R 2 rfl).trans f2)),.norm 6 rfl rfl rfl (fun a_ w_ _ t r R D _ _=>aev (show a_.eval (.tmp 5)=.pointer (some ⟨gs1 0,0,none⟩) from D 0 rfl) (b2.keep t ⟨fun _=>ne2_4.symm,trivial⟩)),.norm 7 rfl rfl rfl (fun a_ w_ _ t r R D _ _=>acm ahy ((R 3 rfl).trans f3)),.norm 8 rfl rfl rfl (fun a_ w_ _ t r R D _ _=>aev (show a_.eval (.tmp 7)=.pointer (some ⟨gs1 1,0,none⟩) from D 2 rfl) (b3.keep t ⟨fun _=>ne3_4.symm,trivial⟩)),.norm 9 rfl rfl rfl (fun a_ w_ _ t r R D _ _=>aec (aar (show a_.eval (.tmp 6)=.agg #[.bool nx,.slice ax xs.length cx] from D 1 rfl) (Gx.rl r) Lx) (aar (show a_.eval (.tmp 8)=.agg #[.bool nv,.slice av vs.length cv] from D 3 rfl) (Gv.rl r) Lv) (by omega) (by omega)),.norm 10 rfl rfl rfl (fun a_ w_ _ t r R D _ _=>acm afh ((R 2 rfl).trans f2)),.norm 11 rfl rfl rfl (fun a_ w_ _ t r R D _ _=>adi (show a_.eval (.tmp 10)=.pointer (some ⟨gs1 0,2,none⟩) from D 5 rfl) (b2.keep t ⟨fun _=>ne2_4.symm,trivial⟩)),.norm 12 rfl rfl rfl (fun a_ w_ _ t r R D _ _=>acm afh ((R 3 rfl).trans f3)),.norm 13 rfl rfl rfl (fun a_ w_ _ t r R D _ _=>adi (show a_.eval (.tmp 12)=.pointer (some ⟨gs1 1,2,none⟩) from D 7 rfl) (b3.keep t ⟨fun _=>ne3_4.symm,trivial⟩)),.norm 14 rfl rfl rfl (fun a_ w_ _ t r R D _ _=>aec (aar (show a_.eval (.tmp 11)=.agg #[.bool ox,.slice bx xt.length dx] from D 6 rfl) (Kx.rl r) Mx) (aar (show a_.eval (.tmp 13)=.agg #[.bool ov,.slice bv vt.length dv] from D 8 rfl) (Kv.rl r) Mv) (by omega) (by omega)),.norm 15 rfl rfl rfl (fun a_ w_ _ t r R D _ _=>ag8 (Bx:=(Bx)+(Bv)+1) (By:=(Bx)+(Bv)+1) (show OutN ((px*pv)) ((Bx)+(Bv)+1) (a_.eval (.tmp 9)) w_ from D 4 rfl) (show OutN ((qx*qv)) ((Bx)+(Bv)+1) (a_.eval (.tmp 14)) w_ from D 9 rfl) (by omega) (Int.mul_ne_zero hx0 hv0)),.store 0 _ _ _ rfl rfl rfl rfl rfl rfl rfl (fun ia h=>by cases h) rfl rfl rfl OutQ.cs,trivial⟩
 intro a2 w2 gs2 hn2 hd2 hBt hr hR hP hX hU
 replace hn:=hn2;replace hd:=hd2.trans hd
 obtain ⟨n_3,a_3,c_3,r_3,o_3,b_3,d_3,s_3,e15,G3,K3,l3,k3⟩:OutQ ((nm (px*pv) (qx*qv))) ((dn (px*pv) (qx*qv))) (((Bx)+(Bv)+1)+((Bx)+(Bv)+1)) (a2.eval (.tmp 15)) w2:=hP 10 (by decide)
 have b4:BoxV Q4 w2 ((gs1 2)) (.agg #[.bool n_3,.slice a_3 r_3.length c_3,.bool o_3,.slice b_3 s_3.length d_3]):=ab5 ((hX 0 _ rfl).2.1 rfl) (hX 0 _ rfl).2.2.2 e15
 replace f4:a2.eval (.tmp 4) = _:=(hR 4 rfl).trans f4
 replace Gx:=Gx.rl hr
 replace Kx:=Kx.rl hr
 replace Gv:=Gv.rl hr
 replace Kv:=Kv.rl hr
 replace HB:=HB.trans (hBt.below HB.size (UpOld.all (bx:=[⟨Q4,none,(gs1 2),4,.agg #[.bool false,.slice none 0 0,.bool false,.slice none 0 0],some (11,15,10),[]⟩]) ⟨fun _=>u4,trivial⟩))
 clear hBt hr hR hP hX hU
 refine wp_ret ?_
 repeat (first | refine abx ?_ | refine abp ?_ | refine abo ?_)
 exact bodyPost_ret (v:=.agg #[.bool n_3,.slice a_3 r_3.length c_3,.bool o_3,.slice b_3 s_3.length d_3]) (abw rfl f4 (ahw b4)) hd ⟨_,rfl,OutQ.to (aeb rfl G3 K3 l3 k3) rfl rfl (by omega),HB⟩
theorem aok:Has Tryz.prog 47:=by unfold Has;kernel_rfl
theorem aq2 {dst:Option Tmp} {ty:TypeId} {pos:String} {after:Array Edge} {guard:Option (Nat × Bool)} {a:Act} {w:World} {ats:Array TypeId} {i j:Nat} {Bx:Nat} {px qx:Int} (Hx:OutQ px qx Bx (a.eval (.tmp i)) w) {Bv:Nat} {pv qv:Int} (Hv:OutQ pv qv Bv (a.eval (.tmp j)) w) (hL:Bx+Bv≤50000) (hx0:qx≠0) (hv0:qv≠0) :
  Does Tryz.prog { dst,op:=.call { callee:=.value (.func 47),args:=#[.tmp i,.tmp j],argTypes:=ats },type:=ty,pos,after,guard } a.eval w fun v w'=>Below w.heap.size w w'∧(OutQ (nm (px*pv) (qx*qv)) (dn (px*pv) (qx*qv)) (2*(Bx+Bv)+2)) v w' := by
 obtain ⟨nx,ax,cx,xs,ox,bx,dx,xt,ex,Gx,Kx,Lx,Mx⟩:=Hx
 obtain ⟨nv,av,cv,vs,ov,bv,dv,vt,ev,Gv,Kv,Lv,Mv⟩:=Hv
 refine aas aok _ (by simp only [List.map_toArray,List.map_cons,List.map_nil,ex,ev]) ((ate w Bx _ _ _ _ _ Gx Lx _ _ _ _ _ Kx Mx Bv _ _ _ _ _ Gv Lv _ _ _ _ _ Kv Mv hL hx0 hv0).mono ?_)
 rintro e w' ⟨v,rfl,h1,hb⟩
 exact ⟨_,rfl,hb,h1⟩
end Lm
end Go.Proofs.YtgmobkafnefpfaaGreat
