/-
  What the text behind the last one leans on, part 2.
-/
import Derived.Test.YtooefpkhacecnaaGreatDoorProg
import Derived.WalkKit
import Derived.WalkSpells
import Derived.WalkLawsBesides
import Derived.Deep.QuietTactic
import Derived.BigQuiet
import Derived.Deep.RegionWith
import Derived.Deep.RegionHeld3
import Derived.Deep.AppendLies
import Derived.Deep.DeepCutAuto
import Derived.BigRegion
import Derived.Laws.AppendOwn
import Derived.Deep.LoopGhost
import Derived.Test.YtooefpkhacecnaaGreatDoorRows
import Derived.ProofKit
import Derived.OpenShut
import Derived.Deep.SlicePairs
import Derived.Test.YtooefpkhacecnaaGreatDoorQLLawZ1
set_option maxRecDepth 20000
set_option maxHeartbeats 40000000
namespace Go.Proofs.YtooefpkhacecnaaGreatDoor
namespace Dm
def Limb(zs:List Int):Prop:=∀z∈zs,0<=z/\z<10000
def pw:Nat->Int
 |0=>1
 |n+1=>10000*pw n
def val:List Int->Int
 | []=>0
 |z::zs=>z+10000*val zs
def tl:List Int->Nat
 | []=>0
 |z::zs=>if tl zs=0 then(if z=0 then 0 else 1)else tl zs+1
def Canon(zs:List Int):Prop:=Limb zs/\tl zs=zs.length
theorem aat(n:Nat):1<=pw n:=by
 induction n with
 |zero=>simp[pw]
 |succ n ih=>simp only[pw];omega
theorem ac8(m n:Nat):pw (m+n)=pw m*pw n:=by
 induction m with
 |zero=>simp[pw]
 |succ m ih=>rw[Nat.succ_add];simp only[pw,ih,Int.mul_assoc]
theorem aay{m n:Nat}(h:m<=n):pw m<=pw n:=by
 obtain⟨k,rfl⟩:=Nat.le.dest h;rw[ac8];have h1:=aat m;have h2:=aat k;have:pw m*1<=pw m*pw k:=Int.mul_le_mul_of_nonneg_left h2 (by omega);omega
theorem aac:Limb []:=fun _ h=>by cases h
theorem aaf{z:Int}{zs:List Int}: Limb (z::zs)↔(0<=z/\z<10000)/\Limb zs:=by
 constructor
 ·intro h;exact⟨h z (by simp),fun y hy=>h y (by simp[hy])⟩
 ·rintro ⟨h1,h2⟩ y hy;simp at hy;rcases hy with rfl|hy
  ·exact h1
  ·exact h2 y hy
theorem aaj{xs ys:List Int}: Limb (xs++ys)↔Limb xs/\Limb ys:=by
 constructor
 ·intro h;exact⟨fun y hy=>h y (by simp[hy]),fun y hy=>h y (by simp[hy])⟩
 ·rintro ⟨h1,h2⟩ y hy;simp at hy;rcases hy with hy|hy
  ·exact h1 y hy
  ·exact h2 y hy
theorem aap{zs:List Int}(h:Limb zs)(k:Nat):Limb (zs.take k):=fun y hy=>h y (List.mem_of_mem_take hy)
theorem ac0{zs:List Int}(h:Limb zs)(k:Nat):Limb (zs.drop k):=fun y hy=>h y (List.mem_of_mem_drop hy)
theorem aae{zs:List Int}(h:Limb zs)(i:Nat):0<=zs.getD i 0/\zs.getD i 0<10000:=by
 rw[List.getD_eq_getElem?_getD];cases hi:zs[i]? with
 |none=>simp
 |some z=>simpa using h z (List.mem_of_getElem? hi)
theorem aea(n:Nat):Limb (List.replicate n 0):=fun y hy=>by
 have:=List.eq_of_mem_replicate hy;omega
theorem abh(xs ys:List Int):val (xs++ys)=val xs+pw xs.length*val ys:=by
 induction xs with
 |nil=>simp[val,pw]
 |cons x xs ih=>
  simp only[List.cons_append,val,List.length_cons,pw,ih,Int.mul_add,Int.mul_assoc];omega
theorem ae1(n:Nat):val (List.replicate n 0)=0:=by
 induction n with
 |zero=>rfl
 |succ n ih=>simp[List.replicate_succ,val,ih]
theorem aab{zs:List Int}(h:Limb zs):0<=val zs/\val zs<pw zs.length:=by
 induction zs with
 |nil=>simp[val,pw]
 |cons z zs ih=>
  have h':=aaf.1 h;have:=ih h'.2;simp only[val,List.length_cons,pw];omega
theorem aaw(zs:List Int):tl zs<=zs.length:=by
 induction zs with
 |nil=>simp[tl]
 |cons z zs ih=>
  simp only[tl,List.length_cons]
  repeat' split
  all_goals omega
theorem adi{zs:List Int}(h:tl zs=0):val zs=0:=by
 induction zs with
 |nil=>rfl
 |cons z zs ih=>
  simp only[tl]at h;by_cases h0:tl zs=0
  ·rw[if_pos h0]at h;by_cases hz:z=0
   ·simp[val,ih h0,hz]
   ·rw[if_neg hz]at h;omega
  ·rw[if_neg h0]at h;omega
theorem aai(zs:List Int):val (zs.take (tl zs))=val zs:=by
 induction zs with
 |nil=>rfl
 |cons z zs ih=>
  simp only[tl];by_cases h0:tl zs=0
  ·rw[if_pos h0];by_cases hz:z=0
   ·simp[hz,val,adi h0]
   ·simp[hz,val,adi h0]
  ·rw[if_neg h0];simp[val,ih]
theorem aeb(zs:List Int):tl (zs.take (tl zs))=tl zs:=by
 induction zs with
 |nil=>rfl
 |cons z zs ih=>
  by_cases h0:tl zs=0
  ·by_cases hz:z=0
   ·simp[tl,h0,hz]
   ·simp[tl,h0,hz]
  ·have e:tl (z::zs)=tl zs+1:=by simp[tl,h0]
   rw[e,List.take_succ_cons];simp[tl,ih,h0]
theorem aa0{zs:List Int}(h:Limb zs):Canon (zs.take (tl zs)):=
 ⟨aap h _,by rw[aeb,List.length_take,Nat.min_eq_left (aaw zs)]⟩
theorem abk:Canon []:=⟨aac,rfl⟩
theorem aca{zs:List Int}{n:Nat}(h:tl zs<=n+1)(h0:zs.getD n 0=0):tl zs<=n:=by
 induction zs generalizing n with
 |nil=>simp[tl]
 |cons z zs ih=>
  simp only[tl]at h ⊢;by_cases ht:tl zs=0
  ·rw[if_pos ht]at h ⊢;by_cases hz:z=0
   ·rw[if_pos hz];omega
   ·rw[if_neg hz];cases n with
    |zero=>simp at h0;exact absurd h0 hz
    |succ n=>omega
  ·rw[if_neg ht]at h ⊢;cases n with
   |zero=>omega
   |succ n=>
    have:=ih (n:=n) (by omega) (by simpa using h0);omega
theorem ag5{zs:List Int}{n:Nat}(h0:zs.getD n 0≠0):n+1<=tl zs:=by
 induction zs generalizing n with
 |nil=>simp at h0
 |cons z zs ih=>
  cases n with
  |zero=>
   simp at h0;simp only[tl,h0,if_false];split <;> omega
  |succ n=>
   have:=ih (n:=n) (by simpa using h0);simp only[tl];rw[if_neg (by omega)];omega
theorem aco{z:Int}{zs:List Int}(h:Canon (z::zs)):Canon zs/\(zs = []->z≠0):=by
 obtain⟨h1,h2⟩:=h;have hl:=aaw zs;simp only[tl,List.length_cons]at h2;refine⟨⟨(aaf.1 h1).2,?_⟩,?_⟩
 ·by_cases h0:tl zs=0
  ·rw[if_pos h0]at h2;by_cases hz:z=0
   ·rw[if_pos hz]at h2;omega
   ·rw[if_neg hz]at h2;omega
  ·rw[if_neg h0]at h2;omega
 ·rintro rfl hz;simp[tl,hz]at h2
theorem abd{zs:List Int}(h:Canon zs)(h0:zs≠[]):pw (zs.length-1)<=val zs:=by
 induction zs with
 |nil=>exact absurd rfl h0
 |cons z zs ih=>
  have hc:=aco h;have hz:=(aaf.1 h.1).1;cases zs with
  |nil=>
   have:=hc.2 rfl;simp[val,pw];omega
  |cons y ys=>
   have:=ih hc.1 (by simp);simp only[List.length_cons,Nat.add_sub_cancel,pw]at this ⊢;rw[val];omega
theorem adj{xs ys:List Int}(hx:Canon xs)(hy:Canon ys)(h:val xs=val ys):xs=ys:=by
 induction xs generalizing ys with
 |nil=>
  cases ys with
  |nil=>rfl
  |cons y ys=>
   have:=abd hy (by simp);have:=aat ((y::ys).length-1);have h0:0=val (y::ys):=h;omega
 |cons x xs ih=>
  cases ys with
  |nil=>
   have:=abd hx (by simp);have:=aat ((x::xs).length-1);have h0:val (x::xs)=0:=h;omega
  |cons y ys=>
   have h1:=(aaf.1 hx.1).1;have h2:=(aaf.1 hy.1).1;simp only[val]at h;have e:x=y:=by omega
   have e':val xs=val ys:=by omega
   rw[e,ih (aco hx).1 (aco hy).1 e']
theorem ac5{zs:List Int}(h:Canon zs):val zs=0↔zs = []:=by
 constructor
 ·intro h0;exact adj h abk h0
 ·rintro rfl;rfl
theorem adt{xs ys:List Int}(hx:Canon xs)(hy:Canon ys)(h:xs.length<ys.length):val xs<val ys:=by
 have h1:=(aab hx.1).2;have h2:=abd hy (by intro e;subst e;simp at h);have h3:=aay (m:=xs.length) (n:=ys.length-1) (by omega);omega
theorem adp{zs:List Int}(h:Limb zs)(h0:0<tl zs):0<val zs:=by
 have hl:(zs.take (tl zs)).length=tl zs:=by have:=aaw zs;rw[List.length_take];omega
 have h1:=abd (aa0 h) (by intro e;rw[e]at hl;simp at hl;omega);have h2:=aat ((zs.take (tl zs)).length-1);rw[aai]at h1;omega
theorem ae2{xs ys:List Int}{k:Nat}(hx:Limb xs)(hy:Limb ys)(hl:xs.length=ys.length)(hk:k<xs.length)(hd:xs.drop (k+1)=ys.drop (k+1))(h:xs.getD k 0<ys.getD k 0):val xs<val ys:=by
 induction k generalizing xs ys with
 |zero=>
  cases xs with
  |nil=>simp at hk
  |cons x xs=>
   cases ys with
   |nil=>simp at hl
   |cons y ys=>
    simp at hd h;subst hd;simp only[val];omega
 |succ k ih=>
  cases xs with
  |nil=>simp at hk
  |cons x xs=>
   cases ys with
   |nil=>simp at hl
   |cons y ys=>
    have h1:=aaf.1 hx;have h2:=aaf.1 hy;have:=ih h1.2 h2.2 (by simpa using hl) (by simpa using hk) (by simpa using hd) (by simpa using h);simp only[val];omega
theorem aa6(zs:List Int)(k:Nat)(h:k<zs.length):zs.take (k+1)=zs.take k ++ [zs.getD k 0]:=by
 rw[List.take_succ_eq_append_getElem h,List.getD_eq_getElem?_getD,List.getElem?_eq_getElem h];rfl
theorem aa4(zs:List Int)(k:Nat)(h:k<zs.length):zs.drop k=zs.getD k 0::zs.drop (k+1):=by
 rw[List.drop_eq_getElem_cons h,List.getD_eq_getElem?_getD,List.getElem?_eq_getElem h];rfl
def vf(zs:List Int):Nat->Int
 |0=>0
 |k+1=>vf zs k+pw k*zs.getD k 0
theorem ag6(zs:List Int)(k:Nat):vf zs k=val (zs.take k):=by
 induction k with
 |zero=>simp[vf,val]
 |succ k ih=>
  by_cases h:k<zs.length
  ·rw[aa6 zs k h,abh,vf,ih,List.length_take,Nat.min_eq_left (by omega)];simp[val]
  ·rw[vf,ih,List.take_of_length_le (by omega),List.take_of_length_le (by omega)];have:zs.getD k 0=0:=by rw[List.getD_eq_getElem?_getD,List.getElem?_eq_none (by omega)];rfl
   rw[this];omega
theorem aa7(zs:List Int)(k:Nat)(h:zs.length<=k):vf zs k=val zs:=by
 rw[ag6,List.take_of_length_le h]
theorem abb(ps:List Int)(x:Int):val (ps ++ [x])=val ps+pw ps.length*x:=by
 rw[abh];simp[val]
theorem abn(ps zs:List Int)(k:Nat)(x:Int)(hk:ps.length=k)(h:k<zs.length):(ps++zs.drop k).set k x=(ps ++ [x])++zs.drop (k+1):=by
 subst hk;rw[aa4 zs _ h];simp
theorem aep(zs qs:List Int)(k:Nat)(x:Int)(h:k<zs.length):(zs.take (k+1)++qs).set k x=zs.take k++x::qs:=by
 rw[aa6 zs k h];have:(zs.take k).length=k:=by rw[List.length_take];omega
 rw[List.append_assoc,List.set_append_right _ _ (by omega)];simp[this]
end Dm
namespace Dm
open Go.RowKit
theorem hide{p:Prop}(h:p):Hid p:=h
def Sl(w:World)(v:Value)(zs:List Int):Prop:=
 ∃ao cap,v=.slice ao zs.length cap/\zs.length<=cap/\cap<=maxLen/\Limb zs /\
  (zs = []\/∃b off,ao=some ⟨b,off,none⟩/\∀i,i<zs.length->w.cell? ⟨b,off+i,none⟩=some (.int .i64 (zs.getD i 0)))
def At(cur:Array Value)(k:IntKind)(off:Nat)(zs:List Int):Prop:=∀i,i<zs.length->cur[off+i]? = some (.int k (zs.getD i 0))
def Ow(B:Nat)(w:World)(v:Value)(zs:List Int):Prop:=
 ∃ao cap,v=.slice ao zs.length cap/\zs.length<=cap/\cap<=maxLen/\Limb zs /\
  (cap=0\/∃g off cur,ao=some ⟨g,off,none⟩/\B<=g/\w.heap[g]? = some (.cells cur 3 (0,0))/\off+cap<=cur.size/\At cur .i64 off zs)
structure Wr (w w':World) (g:Nat) (cur:Array Value) (e:TypeId):Prop where
 os:w'.os=w.os
 tape:w'.tape=w.tape
 output:w'.output=w.output
 size:w'.heap.size=w.heap.size
 here:w'.heap[g]? = some (.cells cur e (0,0))
 other:∀k,k≠g->w'.heap[k]? = w.heap[k]?
def Is(B:Nat)(w:World)(v:Value)(x:Int):Prop:=∃rs,Ow B w v rs/\Canon rs/\val rs=x
theorem aao{w:World}{b off:Nat}{v:Value}(h:w.cell? ⟨b,off,none⟩=some v):b<w.heap.size:=by
 apply Classical.byContradiction;intro hn;have:w.heap[b]? = none:=Array.getElem?_eq_none (by omega);simp[World.cell?,this]at h
theorem aaa{w:World}{b:Nat}{o:Obj}(h:w.heap[b]? = some o):b<w.heap.size:=by
 apply Classical.byContradiction;intro hn;rw[Array.getElem?_eq_none (by omega)]at h;cases h
theorem Sl.below{w w':World}{v:Value}{zs:List Int}(h:Sl w v zs)(hb:Below w.heap.size w w'):Sl w' v zs:=by
 obtain⟨ao,cap,rfl,h1,h2,h3,h4⟩:=h;refine⟨ao,cap,rfl,h1,h2,h3,?_⟩;rcases h4 with h4|⟨b,off,rfl,hc⟩
 ·exact .inl h4
 ·refine .inr ⟨b,off,rfl,fun i hi=>?_⟩;have h5:=hc i hi;rw[hb.cell (p:=⟨b,off+i,none⟩) (aao h5)];exact h5
theorem Ow.sl{B:Nat}{w:World}{v:Value}{zs:List Int}(h:Ow B w v zs):Sl w v zs:=by
 obtain⟨ao,cap,rfl,h1,h2,h3,h4⟩:=h;refine⟨ao,cap,rfl,h1,h2,h3,?_⟩;rcases h4 with h4|⟨g,off,cur,rfl,_,hh,hs,ha⟩
 ·exact .inl (List.eq_nil_of_length_eq_zero (by omega))
 ·exact .inr ⟨g,off,rfl,fun i hi=>by rw[cell_of_row w g (off+i) cur _ (0,0) hh];exact ha i hi⟩
theorem Ow.below{B:Nat}{w w':World}{v:Value}{zs:List Int}(h:Ow B w v zs)(hb:Below w.heap.size w w'):Ow B w' v zs:=by
 obtain⟨ao,cap,rfl,h1,h2,h3,h4⟩:=h;refine⟨ao,cap,rfl,h1,h2,h3,?_⟩;rcases h4 with h4|⟨g,off,cur,rfl,hg,hh,hs,ha⟩
 ·exact .inl h4
 ·exact .inr ⟨g,off,cur,rfl,hg,by rw[hb.block g (aaa hh)];exact hh,hs,ha⟩
theorem At.set{cur:Array Value}{k:IntKind}{off:Nat}{zs:List Int}(h:At cur k off zs)(j:Nat)(x:Int):At (cur.setIfInBounds (off+j) (.int k x)) k off (zs.set j x):=by
 intro i hi;rw[List.length_set]at hi;have h1:=h i hi;have hb:off+i<cur.size:=by
  apply Classical.byContradiction;intro hn;rw[Array.getElem?_eq_none (by omega)]at h1;cases h1
 rw[Array.getElem?_setIfInBounds,List.getD_eq_getElem?_getD,List.getElem?_set];by_cases hj:j=i
 ·subst hj;simp[hi,hb]
 ·rw[if_neg (by omega),if_neg hj,h1,List.getD_eq_getElem?_getD]
theorem At.cell{cur:Array Value}{k:IntKind}{off:Nat}{zs:List Int}(h:At cur k off zs){w:World}{g:Nat}{e:TypeId}(hh:w.heap[g]? = some (.cells cur e (0,0)))(i:Nat)(hi:i<zs.length):w.cell? ⟨g,off+i,none⟩=some (.int k (zs.getD i 0)):=by
 rw[cell_of_row w g (off+i) cur _ (0,0) hh];exact h i hi
theorem Wr.refl{w:World}{g:Nat}{cur:Array Value}{e:TypeId}(h:w.heap[g]? = some (.cells cur e (0,0))):Wr w w g cur e:=⟨rfl,rfl,rfl,rfl,h,fun _ _=>rfl⟩
theorem Wr.drew{w w':World}{g:Nat}{cur:Array Value}{e:TypeId}(h:Wr w w' g cur e):Wr w w'.drew g cur e:=⟨h.os,h.tape,h.output,h.size,h.here,h.other⟩
theorem Wr.drewN{w w':World}{g:Nat}{cur:Array Value}{e:TypeId}(h:Wr w w' g cur e)(n:Nat):Wr w (w'.drewN n) g cur e:=⟨h.os,h.tape,h.output,h.size,h.here,h.other⟩
theorem Wr.set{w w':World}{g:Nat}{cur:Array Value}{e:TypeId}(h:Wr w w' g cur e)(i:Nat)(u:Value):Wr w (w'.setCell ⟨g,i,none⟩ u) g (cur.setIfInBounds i u) e:=
 ⟨h.os,h.tape,h.output,by simp[World.setCell,h.size],heap_setCell_same w' g i cur e u h.here,fun k hk=>(heap_setCell_other w' ⟨g,i,none⟩ k u hk).trans (h.other k hk)⟩
theorem Wr.free{w w':World}{g:Nat}{cur:Array Value}{e:TypeId}(h:Wr w w' g cur e)(i:Nat):w'.frozen? ⟨g,i,none⟩=false:=frozen_of_row w' g i cur e h.here
theorem Wr.below{w w':World}{g:Nat}{cur:Array Value}{e:TypeId}(h:Wr w w' g cur e){B:Nat}(hB:B<=g):Below B w w':=
 ⟨h.os,h.tape,h.output,by rw[h.size];exact Nat.le_refl _,fun k hk=>h.other k (by omega)⟩
theorem Sl.parts{w:World}{ao:Option Addr}{n cap:Nat}{zs:List Int}(h:Sl w (.slice ao n cap) zs):n=zs.length/\zs.length<=cap/\cap<=9223372036854775807/\Limb zs:=by
 obtain⟨ao',cap',hv,h1,h2,h3,h4⟩:=h;obtain⟨rfl,rfl,rfl⟩:=(Value.slice.injEq .. ▸ hv);exact⟨rfl,h1,h2,h3⟩
theorem Sl.cells{w:World}{ao:Option Addr}{n cap:Nat}{zs:List Int}(h:Sl w (.slice ao n cap) zs)(hp:0<zs.length):∃b off,ao=some ⟨b,off,none⟩/\∀i,i<zs.length->w.cell? ⟨b,off+i,none⟩=some (.int .i64 (zs.getD i 0)):=by
 obtain⟨ao',cap',hv,h1,h2,h3,h4⟩:=h;obtain⟨rfl,rfl,rfl⟩:=(Value.slice.injEq .. ▸ hv);rcases h4 with rfl|h4
 ·simp at hp
 ·exact h4
theorem Sl.take{w:World}{ao:Option Addr}{n cap:Nat}{zs:List Int}(h:Sl w (.slice ao n cap) zs){k:Nat}(hk:k<=zs.length):Sl w (.slice ao k cap) (zs.take k):=by
 obtain⟨ao',cap',hv,h1,h2,h3,h4⟩:=h;obtain⟨rfl,rfl,rfl⟩:=(Value.slice.injEq .. ▸ hv);have hl:(zs.take k).length=k:=by rw[List.length_take];omega
 refine⟨ao,cap,by rw[hl],by omega,h2,aap h3 _,?_⟩;rcases h4 with rfl|⟨b,off,rfl,hc⟩
 ·exact .inl (by simp)
 ·refine .inr ⟨b,off,rfl,fun i hi=>?_⟩;rw[hc i (by omega),List.getD_eq_getElem?_getD,List.getD_eq_getElem?_getD,List.getElem?_take,if_pos (by omega)]
theorem Ow.take{B:Nat}{w:World}{ao:Option Addr}{n cap:Nat}{zs:List Int}(h:Ow B w (.slice ao n cap) zs){k:Nat}(hk:k<=zs.length):Ow B w (.slice ao k cap) (zs.take k):=by
 obtain⟨ao',cap',hv,h1,h2,h3,h4⟩:=h;obtain⟨rfl,rfl,rfl⟩:=(Value.slice.injEq .. ▸ hv);have hl:(zs.take k).length=k:=by rw[List.length_take];omega
 refine⟨ao,cap,by rw[hl],by omega,h2,aap h3 _,?_⟩;rcases h4 with h4|⟨g,off,cur,rfl,hg,hh,hs,ha⟩
 ·exact .inl h4
 ·refine .inr ⟨g,off,cur,rfl,hg,hh,hs,fun i hi=>?_⟩;rw[ha i (by omega),List.getD_eq_getElem?_getD,List.getD_eq_getElem?_getD,List.getElem?_take,if_pos (by omega)]
theorem Wr.sl{w w':World}{g:Nat}{cur:Array Value}{e:TypeId}(h:Wr w w' g cur e){B:Nat}{w0:World}(hB:B<=g)(hb:Below B w0 w)(hs:w0.heap.size=B){v:Value}{zs:List Int}(hv:Sl w0 v zs):Sl w' v zs:=by
 subst hs;exact hv.below (hb.trans (h.below hB))
end Dm
namespace Dm
open Go.RowKit
theorem aar(w:World)(ao:Option Addr)(n cap:Nat)(zs:List Int)(h:Sl w (.slice ao n cap) zs):
  Calls Tryz.prog 155 #[.slice ao n cap] w fun e w'=>e=.returned (.slice ao (tl zs) cap)/\w'=w:=by
 obtain⟨ao',cap',hv,h1,h2,h3,h4⟩:=h;obtain⟨rfl,rfl,rfl⟩:=(Value.slice.injEq .. ▸ hv);unfold maxLen at h2;have ht:=aaw zs;go_enter Tryz.func155,Tryz.ntmps155
 go_wp2;go_loop [3] (fun n=>∃k:Nat,k<=zs.length/\tl zs<=k/\n=.int .i64 k) (fun n=>(intOf n).toNat)
 case atStart=>exact⟨zs.length,Nat.le_refl _,ht,rfl⟩
 case round=>
  obtain⟨k,hk,hk2,rfl⟩:=hrel;cases k with
  |zero=>
   have hz:tl zs=0:=by omega
   have HZ:Hid (tl zs=0):=hz;clear hz;go_wp2;go_ret;exact⟨by rw[HZ.out];rfl,rfl⟩
  |succ k=>
   rcases h4 with h4|⟨b,off,rfl,hc⟩
   ·subst h4;simp at hk
   have hcell:=hc k (by omega);by_cases h0:zs.getD k 0=0
   ·have hle:=aca hk2 h0;rw[h0]at hcell;clear h0 hc;go_wp2;go_round
    case rel=>exact⟨k,by omega,hle,by go_num⟩
    case measure=>simp[intOf]
   ·have hgt:=ag5 h0;have HZ:Hid (tl zs=k+1):=by show _=_;omega
    have hb:(zs.getD k 0==0)=false:=by simpa using h0
    generalize zs.getD k 0=z at hcell hb;clear h0 hc;go_wp2;go_ret;exact⟨by rw[HZ.out];rfl,rfl⟩
end Dm
namespace Dm
open Go.RowKit
theorem acu:(Tryz.prog.info? 3).map (fun i=>(i.zero,i.size,i.bytes))=some (some (.int .i64 0),1,8):=by kernel_rfl
theorem abl{w:World}{B:Nat}{v:Value}{n:Nat}{zs:List Int}(h:w.ownsRow B 3 1 v n (zs.map (Value.int .i64)))(hz:Limb zs):Ow B w v zs:=by
 obtain⟨h1,h2⟩:=h;have hn:zs.length=n:=by simpa using h1
 subst hn;rcases h2 with⟨rfl,h3⟩|⟨g,cap,cur,rfl,hg,hh,hc1,hc2,hs,ht⟩
 ·exact⟨none,0,by rw[h3],by omega,by simp[maxLen],hz,.inl rfl⟩
 ·refine⟨_,cap,rfl,hc1,hc2,hz,.inr ⟨g,0,cur,rfl,hg,hh,by omega,fun i hi=>?_⟩⟩;have e:(cur.toList.take (zs.length*1))[i]? = (zs.map (Value.int .i64))[i]? :=by rw[ht]
  rw[List.getElem?_take,if_pos (by omega)]at e;rw[Nat.zero_add,<-Array.getElem?_toList,e,List.getElem?_map,List.getElem?_eq_getElem hi,List.getD_eq_getElem?_getD,List.getElem?_eq_getElem hi];rfl
theorem Ow.is_cut{B:Nat}{w:World}{ao:Option Addr}{n cap:Nat}{zs:List Int}{x:Int}(h:Ow B w (.slice ao n cap) zs)(hv:val zs=x):Is B w (.slice ao (tl zs) cap) x:=by
 have hl:=h.sl.parts.2.2.2;exact⟨zs.take (tl zs),h.take (aaw zs),aa0 hl,by rw[aai,hv]⟩
theorem aki{A ds:List Int}{k:Nat}{a c m more s:Int}(hk:ds.length=k)(ha:A.getD k 0=a)(hs:s=c+a*m)(h:val ds+pw k*c=vf A k*m+more):
  val (ds ++ [s%10000])+pw (k+1)*(s/10000)=vf A (k+1)*m+more:=by
 rw[abb,vf,ha,hk,pw,Int.add_mul];have e:s=s%10000+10000*(s/10000):=by omega
 have e2:pw k*(s%10000)+10000*pw k*(s/10000)=pw k*s:=by
  rw[Int.mul_comm 10000 (pw k),Int.mul_assoc,<-Int.mul_add,<-e]
 have e3:pw k*a*m=pw k*(a*m):=by rw[Int.mul_assoc]
 rw[Int.add_assoc,e2,hs,Int.mul_add,e3];omega
theorem anq{a m:Int}(ha:0<=a/\a<10000)(hm:0<=m/\m<=4294967296):0<=a*m/\a*m<=42945378000704:=by
 refine⟨Int.mul_nonneg ha.1 hm.1,?_⟩;have h1:a*m<=9999*m:=Int.mul_le_mul_of_nonneg_right (by omega) hm.1;omega
theorem ac3{w wr w1:World}{v v':Value}{k:Nat}{ds:List Int}{z:Int}{o:Obj}(h:w1.ownsRow w.heap.size 3 1 v' (k+1) (ds.map (Value.int .i64) ++ [.int .i64 z]))(hg:(wr.alloc o).grownBy w1 v.ownBlock)(hb:Below w.heap.size w wr)(hl:∀j,v.ownBlock=some j->w.heap.size<=j/\j<wr.heap.size):
  w1.ownsRow w.heap.size 3 1 v' (k+1) ((ds ++ [z]).map (Value.int .i64))/\Below w.heap.size w w1:=by
 refine⟨by simpa using h,((hb.alloc hb.size o).grown hg ?_ (fun j hj=>(hl j hj).1))⟩;have:=hb.size;simp;omega
theorem abu(w:World)(ao:Option Addr)(n cap:Nat)(A:List Int)(hA:Sl w (.slice ao n cap) A)(m more:Int)(hm:0<=m/\m<=4294967296)(hmo:0<=more/\more<=4294967296)(hl:A.length<=1000000):
  Calls Tryz.prog 122 #[.slice ao n cap,.int .i64 m,.int .i64 more] w fun e w'=>∃v,e=.returned v/\Is w.heap.size w' v (val A*m+more)/\Below w.heap.size w w':=by
 obtain⟨rfl,h1,h2,h3⟩:=hA.parts;obtain⟨i0,hi,hz0,hz1,hz2⟩:=info_parts acu;have H3:=hide h3;clear h3;go_enter Tryz.func122,Tryz.ntmps122
 go_wp2;go_loopw [7,8,9] (fun dv cv iv wr=>∃(k:Nat) (c:Int) (ds:List Int),cv=.int .i64 c/\iv=.int .i64 k/\(0<=c/\c<=4294967296)/\(k:Int)+c<=(A.length:Int)+4294967296/\ds.length=k/\Limb ds/\val ds+pw k*c=vf A k*m+more/\wr.ownsRow w.heap.size 3 1 dv k (ds.map (Value.int .i64))/\Below w.heap.size w wr) (fun _ cv iv _=>(A.length-(intOf iv).toNat)*8589934592+(intOf cv).toNat)
 case atStart=>exact⟨0,more,[],rfl,rfl,hmo,by omega,rfl,aac,by simp[val,vf,pw],World.ownsRow_nil _ _ _ _,Below.refl _ _⟩
 case round=>
  obtain⟨k,c,ds,rfl,rfl,hc,hkc,hdl,hd,hval,hown,hbel⟩:=hrel;have HD:=hide hd;have HDL:=hide hdl;have HV:=hide hval;clear hd hdl hval;have hsz:=hbel.size;by_cases hlt:k<A.length
  ·have sA:=hA.below hbel;obtain⟨b,off,rfl,hca⟩:=sA.cells (by omega);have ca:=hca k hlt;have ba:=aae H3.out k;obtain⟨a,hak⟩:∃a,A.getD k 0=a:=⟨_,rfl⟩;rw[hak]at ca ba;have bm:=anq ba hm;have HV':=hide (aki (m:=m) HDL.out hak rfl HV.out);have d1:decide ((k:Int)<(A.length:Int))=true:=by simp;omega
   have d2:(k:Int)<(A.length:Int):=by omega
   clear hak sA hca;go_wp2_with (at_builtin;refine wpList_append_own _ rfl (.tmp 33) (.tmp 36) 69 rfl w.heap.size 3 i0 (.int .i64 0) 1 8 Tryz.underlying69 hi hz0 hz1 hz2 rfl (by decide) _ _ _ rfl (hown.alloc _) ⟨wr.heap.size,0,none⟩ 1 1 [.int .i64 ((c+a*m)%10000)] rfl rfl (cell_one_new _ _ _) ?c2 ?c3 ?c4 ?c5 ?_)
   case c2=>first|rfl|(intro u hu;simp at hu;subst hu;rfl)
   case c3=>unfold maxLen;omega
   case c4=>omega
   case c5=>first|omega|(simp;omega)
   intro v' w1 hown' hgrow _;have R:=ac3 hown' hgrow hbel (hown.lt);clear hown' hgrow hown;go_wp2;go_roundw
   case rel=>exact⟨k+1,_,ds ++ [(c+a*m)%10000],rfl,by go_num,by omega,by omega,by have:=HDL.out;simp;omega,aaj.2 ⟨HD.out,aaf.2 ⟨by omega,aac⟩⟩,HV'.out,R.1,R.2⟩
   case measure=>simp[intOf];omega
  ·have hak:A.getD k 0=0:=by rw[List.getD_eq_getElem?_getD,List.getElem?_eq_none (by omega)];rfl
   have d1:decide ((k:Int)<(A.length:Int))=false:=by simp;omega
   have d2:¬(k:Int)<(A.length:Int):=by omega
   by_cases hc0:0<c
   ·have HV':=hide (aki (m:=m) (s:=c) HDL.out hak (by omega) HV.out);clear hak;go_wp2_with (at_builtin;refine wpList_append_own _ rfl (.tmp 33) (.tmp 36) 69 rfl w.heap.size 3 i0 (.int .i64 0) 1 8 Tryz.underlying69 hi hz0 hz1 hz2 rfl (by decide) _ _ _ rfl (hown.alloc _) ⟨wr.heap.size,0,none⟩ 1 1 [.int .i64 (c%10000)] rfl rfl (cell_one_new _ _ _) ?c2' ?c3' ?c4' ?c5' ?_)
    case c2'=>first|rfl|(intro u hu;simp at hu;subst hu;rfl)
    case c3'=>unfold maxLen;omega
    case c4'=>omega
    case c5'=>first|omega|(simp;omega)
    intro v' w1 hown' hgrow _;have R:=ac3 hown' hgrow hbel (hown.lt);clear hown' hgrow hown;go_wp2;go_roundw
    case rel=>exact⟨k+1,c/10000,ds ++ [c%10000],rfl,by go_num,by omega,by omega,by have:=HDL.out;simp;omega,aaj.2 ⟨HD.out,aaf.2 ⟨by omega,aac⟩⟩,HV'.out,R.1,R.2⟩
    case measure=>simp[intOf];omega
   ·have hc1:c=0:=by omega
    subst hc1;have how:=abl hown HD.out;have hvv:val ds=val A*m+more:=by
     have:=HV.out;rw[Int.mul_zero,Int.add_zero,aa7 A _ (by omega)]at this;exact this
    obtain⟨ao',cap',rfl,o1,o2,o3,o4⟩:=how;have how':Ow w.heap.size wr (.slice ao' ds.length cap') ds:=⟨ao',cap',rfl,o1,o2,o3,o4⟩;have his:=how'.is_cut hvv;clear hvv o3 o4 hown hak;go_wp2_with fail
    refine(aar _ _ _ _ _ how'.sl).mono ?_;rintro e w2 ⟨rfl,rfl⟩;go_wp2;go_ret;exact⟨_,rfl,his,hbel⟩
end Dm
namespace Dm
open Go.RowKit
open Lm (hide aao aaa ac1)
theorem aba{w:World}{B g n:Nat}(h:w.ownsRow B 3 1 (.slice (some ⟨g,0,none⟩) n n) n (madeCells #[Value.int .i64 0] n).toList):
  B<=g/\∃cur,w.heap[g]? = some (.cells cur 3 (0,0))/\cur.size=n/\At cur .i64 0 (List.replicate n 0):=by
 rcases h.2 with⟨h',_⟩|⟨g',cap',cur,h',hb,hg,_,_,hs,htake⟩
 ·simp at h'
 ·simp only[Value.slice.injEq,Option.some.injEq,Addr.mk.injEq,and_true,true_and]at h';obtain⟨rfl,rfl⟩:=h';refine⟨hb,cur,hg,by omega,fun i hi=>?_⟩;simp at hi;have e:(cur.toList.take (n*1))[i]? = ((madeCells #[Value.int .i64 0] n).toList)[i]? :=by rw[htake]
  rw[List.getElem?_take,if_pos (by omega)]at e;rw[Nat.zero_add,<-Array.getElem?_toList,e,Array.getElem?_toList];have h0:i<(Array.range n).size:=by simpa using hi
  simp[madeCells,hi,List.getD_eq_getElem?_getD,Nat.mod_one]
theorem ahy{p r z d:Int}(hd:0<d)(h1:0<=r)(h2:r<d)(h3:0<=z)(h4:z<10000)(hp:p=r*10000+z):0<=p/\0<=p/d/\p/d<10000/\0<=p%d/\p%d<d/\p=p/d*d+p%d:=by
 have h5:0<=p:=by omega
 have h6:p<10000*d:=by omega
 refine⟨h5,Int.ediv_nonneg h5 (by omega),Int.ediv_lt_of_lt_mul hd h6,Int.emod_nonneg _ (by omega),Int.emod_lt_of_pos _ hd,?_⟩;have:=Int.mul_ediv_add_emod p d;rw[Int.mul_comm]at this;omega
theorem ajo{zs qs:List Int}{k:Nat}{d r z p:Int}(hz:zs.drop k=z::zs.drop (k+1))(h:val (zs.drop (k+1))=val qs*d+r)(hp:p=r*10000+z)(hq:p=p/d*d+p%d):val (zs.drop k)=val (p/d::qs)*d+p%d:=by
 rw[hz,val,val,h];generalize p/d=q at hq ⊢;generalize p%d=t at hq ⊢;rw[Int.add_mul,Int.mul_assoc,Int.mul_add];generalize q*d=a at hq ⊢;generalize val qs*d=b;omega
theorem as0(w:World)(ao:Option Addr)(n cap:Nat)(A:List Int)(hA:Sl w (.slice ao n cap) A)(d:Int)(hd:0<d)(hd2:d<=4294967296)(hl:A.length<=1000000):
  Calls Tryz.prog 156 #[.slice ao n cap,.int .i64 d] w fun e w'=>∃v,e=.returned (.tuple #[v,.int .i64 (val A%d)])/\Is w.heap.size w' v (val A/d)/\Below w.heap.size w w':=by
 obtain⟨rfl,h1,h2,h3⟩:=hA.parts;obtain⟨i0,hi,hz0,hz1,hz2⟩:=info_parts acu;have H3:=hide h3;clear h3;go_enter Tryz.func156,Tryz.ntmps156
 go_wp2_with (refine wpList_make_full _ rfl (.tmp 10) (.tmp 10) 69 rfl w.heap.size 3 i0 (.int .i64 0) 1 Tryz.underlying69 hi hz0 hz1 .i64 .i64 _ _ A.length rfl rfl (by omega) (by omega) (by rw[hz2];omega) (by unfold maxLen;omega) (Nat.le_refl _) ?hK)
 case hK=>
  intro w1 hown hgrow;obtain⟨_,cur,hh,hcs,hat⟩:=aba hown;have hb1:Below w.heap.size w w1:=(Below.refl w.heap.size w).grown hgrow (Nat.le_refl _) (by simp);have HH:=hide hh;have HS:=hide hcs;have HA:=hide hat;clear hown hgrow hh hcs hat;go_wp2;go_loopw [7,8] (fun rest i wr=>∃(k:Nat) (r:Int) (qs:List Int) (cur':Array Value),k<=A.length/\rest=.int .i64 r/\i=.int .i64 ((k:Int)-1)/\0<=r/\r<d/\val (A.drop k)=val qs*d+r/\Limb qs/\qs.length+k=A.length/\Wr w1 wr w.heap.size cur' 3/\cur'.size=A.length/\At cur' .i64 0 ((List.replicate A.length 0).take k++qs)) (fun _ i _=>(intOf i+1).toNat)
  case atStart=>exact⟨A.length,0,[],cur,Nat.le_refl _,rfl,rfl,by omega,by omega,by simp[val],aac,by simp,Wr.refl HH.out,HS.out,by rw[List.take_of_length_le (by simp),List.append_nil];exact HA.out⟩
  case round=>
   obtain⟨k,r,qs,cur',hk,rfl,rfl,hr0,hr1,hval,hq,hql,hwr,hcs,hat⟩:=hrel;have HV:=hide hval;have HQ:=hide hq;have HW:=hide hwr;have HT:=hide hat;have HC:=hide hcs;have HL:=hide hql;clear hval hq hwr hat hcs hql;cases k with
   |zero=>
    have hat0:=HT.out;rw[List.take_zero,List.nil_append]at hat0;have hv0:=HV.out;rw[List.drop_zero]at hv0;have hdv:=ac1 hd hv0 hr0 hr1;have how:Ow w.heap.size wr (.slice (some ⟨w.heap.size,0,none⟩) A.length A.length) qs:=by
     have:=HL.out;exact⟨_,A.length,by rw[show qs.length=A.length by omega],by omega,by unfold maxLen;omega,HQ.out,.inr ⟨_,0,_,rfl,Nat.le_refl _,HW.out.here,by rw[HC.out];omega,hat0⟩⟩
    have hbel:Below w.heap.size w wr:=hb1.trans (HW.out.below (Nat.le_refl _));have his:=how.is_cut hdv.1.symm;have HR:=hide hdv.2;clear hat0 hv0 hdv;go_wp2_with fail
    refine(aar _ _ _ _ _ how.sl).mono ?_;rintro e w2 ⟨rfl,rfl⟩;go_wp2;go_ret2
    refine⟨_,?_,his,hbel⟩;rw[HR.out];rfl
   |succ k=>
    have sA:=HW.out.sl (Nat.le_refl _) hb1 rfl hA;obtain⟨b,off,rfl,hca⟩:=sA.cells (by omega);have ca:=hca k (by omega);have hz:=aae H3.out k;have Hz:=hide (aa4 A k (by omega));generalize A.getD k 0=z at ca hz Hz;have hlen:((List.replicate A.length (0:Int)).take (k+1)++qs).length=A.length:=by have:=HL.out;rw[List.length_append,List.length_take,List.length_replicate];omega
    have hcell:=HT.out.cell HW.out.here k (by rw[hlen];omega);rw[Nat.zero_add]at hcell;generalize ((List.replicate A.length (0:Int)).take (k+1)++qs).getD k 0=old at hcell;have hfree:=HW.out.free k;obtain⟨s1,s2,s3,s4,s5,s6⟩:=ahy hd hr0 hr1 hz.1 hz.2 rfl;have HV':=hide (ajo Hz.out HV.out rfl s6);have HQ':Hid (Limb ((r*10000+z)/d::qs)):=aaf.2 ⟨⟨s2,s3⟩,HQ.out⟩;have HT':=hide ((HT.out.set k ((r*10000+z)/d)));have HW':=hide (HW.out.set k (.int .i64 ((r*10000+z)/d)));have t1:(r*10000+z).tdiv d=(r*10000+z)/d:=Int.tdiv_eq_ediv_of_nonneg s1;clear s6 hlen sA hca;go_wp2;go_roundw
    case rel=>exact⟨k,(r*10000+z)%d,(r*10000+z)/d::qs,_,by omega,rfl,rfl,s4,s5,HV'.out,HQ'.out,by have:=HL.out;simp;omega,HW'.out,by simpa using HC.out,by rw[<-aep _ qs k _ (by rw[List.length_replicate];omega)];simpa using HT'.out⟩
    case measure=>simp[intOf]
theorem ame(w:World)(ng:Bool)(ao:Option Addr)(n cap:Nat)(A:List Int)(hA:Sl w (.slice ao n cap) A):
  Calls Tryz.prog 121 #[.bool ng,.slice ao n cap] w fun e w'=>e=.returned (.agg #[.bool (ng&&decide (0<tl A)),.slice ao (tl A) cap])/\Below w.heap.size w w':=by
 have hb0:Below w.heap.size w (w.alloc (.cells #[.bool false,.slice none 0 0] 85)):=(Below.refl _ _).alloc (Nat.le_refl _) _;have kc:=hide (aar _ _ _ _ _ (hA.below hb0));go_enter Tryz.func121,Tryz.ntmps121
 go_wp2_with fail
 refine(kc.out).mono ?_;rintro e w' ⟨rfl,rfl⟩;cases ng with
 |false=>
  go_wp2;refine bodyPost_ret (v:=.agg #[.bool false,.slice ao (tl A) cap]) (by simp[results,Tryz.results121,go_sem]) rfl ⟨by simp,?_⟩;exact(Below.refl _ _).alloc (Nat.le_refl _) _
 |true=>
  by_cases h0:0<tl A
  ·have h1:(0:Int)<((tl A:Nat):Int):=by omega
   have h2:Hid (decide (0<tl A)=true):=by simpa[Hid]using h0
   go_wp2;refine bodyPost_ret (v:=.agg #[.bool true,.slice ao (tl A) cap]) (by simp[results,Tryz.results121,go_sem]) rfl ⟨by rw[h2.out];rfl,?_⟩;exact(Below.refl _ _).alloc (Nat.le_refl _) _
  ·have h1:¬(0:Int)<((tl A:Nat):Int):=by omega
   have h2:Hid (decide (0<tl A)=false):=by simpa[Hid]using h0
   go_wp2;refine bodyPost_ret (v:=.agg #[.bool false,.slice ao (tl A) cap]) (by simp[results,Tryz.results121,go_sem]) rfl ⟨by rw[h2.out];rfl,?_⟩;exact(Below.refl _ _).alloc (Nat.le_refl _) _
def Got(w:World)(ao:Option Addr)(cap:Nat)(rs:List Int)(x:Int):Prop:=Sl w (.slice ao rs.length cap) rs/\Canon rs/\val rs=x
theorem Got.sl{w:World}{ao:Option Addr}{cap:Nat}{rs:List Int}{x:Int}(h:Got w ao cap rs x):Sl w (.slice ao rs.length cap) rs:=h.1
theorem Got.canon{w:World}{ao:Option Addr}{cap:Nat}{rs:List Int}{x:Int}(h:Got w ao cap rs x):Canon rs:=h.2.1
theorem Got.val{w:World}{ao:Option Addr}{cap:Nat}{rs:List Int}{x:Int}(h:Got w ao cap rs x):Dm.val rs=x:=h.2.2
theorem Got.below{w w':World}{ao:Option Addr}{cap:Nat}{rs:List Int}{x:Int}(h:Got w ao cap rs x)(hb:Below w.heap.size w w'):Got w' ao cap rs x:=⟨h.1.below hb,h.2⟩
theorem Is.got{B:Nat}{w:World}{v:Value}{x:Int}(h:Is B w v x):∃ao cap rs,v=.slice ao rs.length cap/\Got w ao cap rs x:=by
 obtain⟨rs,ho,hc,hv⟩:=h;obtain⟨ao,cap,rfl,h1,h2,h3,h4⟩:=ho.sl;exact⟨ao,cap,rs,rfl,⟨ao,cap,rfl,h1,h2,h3,h4⟩,hc,hv⟩
theorem aax{rs:List Int}(h:Canon rs){m:Nat}(hv:val rs<pw m):rs.length<=m:=by
 apply Classical.byContradiction;intro hn;have h1:=abd h (by intro e;subst e;simp at hn);have h2:=aay (m:=m) (n:=rs.length-1) (by omega);omega
theorem amf(n:Nat):Lm.pw n<=pw (3*n):=by
 induction n with
 |zero=>simp[Lm.pw,pw]
 |succ n ih=>
  rw[show 3*(n+1)=3*n+3 by omega];simp only[Lm.pw,pw];have:=Lm.aat n;omega
theorem as1{rs:List Int}(h:Canon rs){xs:List Int}(hx:Lm.Limb xs)(hv:val rs<=Lm.val xs):rs.length<=3*xs.length:=by
 apply aax h;have:=(Lm.aab hx).2;have:=amf xs.length;omega
theorem ai1(w:World)(ao:Option Addr)(cap:Nat)(A:List Int)(x:Int)(hA:Got w ao cap A x):
  Calls Tryz.prog 121 #[.bool false,.slice ao A.length cap] w fun e w'=>e=.returned (.agg #[.bool false,.slice ao A.length cap])/\Below w.heap.size w w':=by
 refine(ame w false ao A.length cap A hA.sl).mono ?_;rintro e w' ⟨rfl,hb⟩;rw[hA.canon.2];exact⟨by simp,hb⟩
theorem Sl.setCell{w:World}{v:Value}{zs:List Int}(h:Sl w v zs){p:Addr}{u0:Value}(hp:w.cell? p=some u0)(hne:∀z,u0≠.int .i64 z)(u:Value):Sl (w.setCell p u) v zs:=by
 obtain⟨ao,cap,rfl,h1,h2,h3,h4⟩:=h;refine⟨ao,cap,rfl,h1,h2,h3,?_⟩;rcases h4 with h4|⟨b,off,rfl,hc⟩
 ·exact .inl h4
 ·refine .inr ⟨b,off,rfl,fun i hi=>?_⟩;have hd:p≠⟨b,off+i,none⟩:=by
   intro e;have h5:=hc i hi;rw[<-e,hp]at h5;exact hne _ (Option.some.inj h5)
  rw[World.cell?_setCell_other _ _ _ _ hd];exact hc i hi
theorem ad8(w:World)(ao:Option Addr)(n cap:Nat)(xs:List Int)(hx:Lm.Sl w (.slice ao n cap) xs)(hl:xs.length<=300000):
  Calls Tryz.prog 85 #[.slice ao n cap] w fun e w'=>∃ao' cap' D,e=.returned (.agg #[.bool false,.slice ao' D.length cap'])/\Got w' ao' cap' D (Lm.val xs)/\D.length<=3*xs.length/\Below w.heap.size w w':=by
 obtain⟨rfl,h1,h2,h3⟩:=hx.parts;have H3:=hide h3;have c0:(w.alloc (.cells #[.bool false,.slice none 0 0] 85)).cell? ⟨w.heap.size,0,none⟩=some (.bool false):=by
  rw[cell_of_row _ _ _ _ _ (0,0) (heap_alloc_new w _)];rfl
 have c1:(w.alloc (.cells #[.bool false,.slice none 0 0] 85)).cell? ⟨w.heap.size,1,none⟩=some (.slice none 0 0):=by
  rw[cell_of_row _ _ _ _ _ (0,0) (heap_alloc_new w _)];rfl
 have f0:(w.alloc (.cells #[.bool false,.slice none 0 0] 85)).frozen? ⟨w.heap.size,0,none⟩=false:=frozen_of_row _ _ _ _ _ (heap_alloc_new w _);have f1:(w.alloc (.cells #[.bool false,.slice none 0 0] 85)).frozen? ⟨w.heap.size,1,none⟩=false:=frozen_of_row _ _ _ _ _ (heap_alloc_new w _);have hb0:Below w.heap.size w (w.alloc (.cells #[.bool false,.slice none 0 0] 85)):=(Below.refl _ _).alloc (Nat.le_refl _) _;have hs0:w.heap.size<(w.alloc (.cells #[.bool false,.slice none 0 0] 85)).heap.size:=by simp
 have C:=hide (And.intro c0 (And.intro c1 (And.intro f0 (And.intro f1 (And.intro hb0 hs0)))));clear h3 c0 c1 f0 f1 hb0 hs0;go_enter Tryz.func85,Tryz.ntmps85
 go_wp2;generalize w.alloc (.cells #[.bool false,.slice none 0 0] 85)=w0 at C ⊢;go_loopw [3,4] (fun dv iv wr=>∃(k:Nat) (ao':Option Addr) (cap':Nat) (D:List Int),k<=xs.length/\iv=.int .i64 ((k:Int)-1)/\dv=.slice ao' D.length cap'/\Got wr ao' cap' D (Lm.val (xs.drop k))/\Below w0.heap.size w0 wr) (fun _ i _=>(intOf i+1).toNat)
 case atStart=>exact⟨xs.length,none,0,[],Nat.le_refl _,rfl,rfl,⟨⟨none,0,rfl,Nat.le_refl _,by simp[maxLen],aac,.inl rfl⟩,abk,by simp[val,Lm.val]⟩,Below.refl _ _⟩
 case round=>
  obtain⟨k,ao',cap',D,hk,rfl,rfl,hg,hbel⟩:=hrel;have hdl:=as1 hg.canon (Lm.ac0 H3.out k) (by rw[hg.val];omega);rw[List.length_drop]at hdl;cases k with
  |zero=>
   rw[List.drop_zero]at hg;go_wp2_with fail
   refine(ai1 _ _ _ _ _ hg).mono ?_;rintro e w1 ⟨rfl,hb1⟩;replace hg:=hg.below hb1;have hB:=hbel.trans (hb1.mono hbel.size);have d0:=(hB.cell (p:=⟨w.heap.size,0,none⟩) C.out.2.2.2.2.2).trans C.out.1;have d1:=(hB.cell (p:=⟨w.heap.size,1,none⟩) C.out.2.2.2.2.2).trans C.out.2.1;have g0:=(hB.frozen (p:=⟨w.heap.size,0,none⟩) C.out.2.2.2.2.2).trans C.out.2.2.1;have g1:=(hB.frozen (p:=⟨w.heap.size,1,none⟩) C.out.2.2.2.2.2).trans C.out.2.2.2.1;have hBw:Below w.heap.size w w1:=C.out.2.2.2.2.1.trans (hB.mono C.out.2.2.2.2.1.size);have e0:Below w.heap.size w ((w1.setCell ⟨w.heap.size,0,none⟩ (.bool false)).setCell ⟨w.heap.size,1,none⟩ (.slice ao' D.length cap')):=(hBw.setCell (Nat.le_refl _) _).setCell (Nat.le_refl _) _;have e1:(w1.setCell ⟨w.heap.size,0,none⟩ (.bool false)).cell? ⟨w.heap.size,1,none⟩=some (.slice none 0 0):=by
    rw[World.cell?_setCell_other _ _ _ _ (by simp)];exact d1
   have e2:=hide ((hg.sl.setCell d0 (fun z=>by simp) (.bool false)).setCell e1 (fun z=>by simp) (.slice ao' D.length cap'));have e3:=hide hg.2;have y0:=World.cell?_setCell_same _ _ (.bool false) d0;have x1:=World.cell?_setCell_same _ _ (.slice ao' D.length cap') e1;have X:=hide (And.intro y0 x1);clear e1 y0 x1;go_wp2;refine bodyPost_ret (v:=.agg #[.bool false,.slice ao' D.length cap']) ?_ rfl ⟨ao',cap',D,rfl,⟨e2.out,e3.out⟩,by omega,e0⟩;simp[results,Tryz.results85,go_sem,X.out.1,X.out.2]
  |succ k=>
   have sx:=(hx.below C.out.2.2.2.2.1).below hbel;obtain⟨b,off,rfl,hcx⟩:=sx.cells (by omega);have cx:=hcx k (by omega);have bx:=Lm.aae H3.out k;have Hd:=hide (Lm.aa4 xs k (by omega));generalize xs.getD k 0=z at cx bx Hd;clear sx hcx;go_wp2_with fail
   refine(abu _ _ _ _ D hg.sl 4294967296 z (by omega) (by omega) (by omega)).mono ?_;rintro e w1 ⟨v,rfl,hi,hb1⟩;obtain⟨ao2,cap2,D2,rfl,hg2⟩:=hi.got;have HG:Hid (Got w1 ao2 cap2 D2 (Lm.val (xs.drop k))):=by
    show Got _ _ _ _ _;rw[Hd.out,Lm.val,Int.add_comm,Int.mul_comm,<-hg.val];exact hg2
   have HBl:=hide (hbel.trans (hb1.mono hbel.size));clear hg hg2 hi hb1;go_wp2;go_roundw
   case rel=>exact⟨k,ao2,cap2,D2,by omega,rfl,rfl,HG.out,HBl.out⟩
   case measure=>simp[intOf]
end Dm
namespace Dm
open Go.RowKit
open Lm (hide aao aaa ac1 abp)
def lenOf:Value->Nat | .slice _ n _=>n|_=>0
theorem anr{D E:List Int}(hD:Canon D)(hE:Canon E)(h:val E=val D/4294967296)(h0:0<D.length):E.length<D.length:=by
 have hb:=aab hD.1;have:E.length<=D.length-1:=by
  apply aax hE;obtain⟨k,hk⟩:∃k,D.length=k+1:=⟨D.length-1,by omega⟩;rw[hk]at hb ⊢;simp only[pw,Nat.add_sub_cancel]at hb ⊢;rw[h];have:=aat k;omega
 omega
theorem Ow.open{B:Nat}{w:World}{v:Value}{rs:List Int}(h:Ow B w v rs):∃ao cap,v=.slice ao rs.length cap/\Sl w (.slice ao rs.length cap) rs/\rs.length<=cap/\cap<=9223372036854775807:=by
 obtain⟨ao,cap,rfl,h1,h2,h3,h4⟩:=h.sl;exact⟨ao,cap,rfl,⟨ao,cap,rfl,h1,h2,h3,h4⟩,h1,h2⟩
theorem aqg{B e n:Nat}{w w':World}{v:Value}{xs:List Value}(h:w.ownsRow B e 1 v n xs)(hb:Below w.heap.size w w'):w'.ownsRow B e 1 v n xs:=by
 obtain⟨h1,h2⟩:=h;refine⟨h1,?_⟩;rcases h2 with h2|⟨g,cap,cur,hv,hg,hh,r⟩
 ·exact .inl h2
 ·exact .inr ⟨g,cap,cur,hv,hg,by rw[hb.block g (aaa hh)];exact hh,r⟩
theorem Ow.grown{B:Nat}{w w':World}{v:Value}{zs:List Int}{row:Option Nat}(h:Ow B w v zs)(hg:w.grownBy w' row)(hr:∀j,row=some j->j<B):Ow B w' v zs:=by
 obtain⟨ao,cap,rfl,h1,h2,h3,h4⟩:=h;refine⟨ao,cap,rfl,h1,h2,h3,?_⟩;rcases h4 with h4|⟨g,off,cur,rfl,hB,hh,hs,ha⟩
 ·exact .inl h4
 ·refine .inr ⟨g,off,cur,rfl,hB,?_,hs,ha⟩;rw[hg.block g (aaa hh) (fun e=>by have:=hr g e.symm;omega)];exact hh
theorem as2{ls:List Int}{x y:Int}(h:Lm.val ls+Lm.pw ls.length*y=x):Lm.val (ls ++ [y%4294967296])+Lm.pw (ls ++ [y%4294967296]).length*(y/4294967296)=x:=by
 rw[Lm.abb,List.length_append,List.length_singleton,Lm.pw,<-h];have e:y=y%4294967296+4294967296*(y/4294967296):=by omega
 have e2:Lm.pw ls.length*(y%4294967296)+4294967296*Lm.pw ls.length*(y/4294967296)=Lm.pw ls.length*y:=by
  rw[Int.mul_comm 4294967296,Int.mul_assoc,<-Int.mul_add,<-e]
 omega
theorem as3{ls:List Int}{y:Int}(h0:0<y)(h1:y/4294967296=0):Lm.tl (ls ++ [y%4294967296])=(ls ++ [y%4294967296]).length:=by
 have h2:y%4294967296≠0:=by omega
 have:=Lm.ag5 (zs:=ls ++ [y%4294967296]) (n:=ls.length) (by simpa using h2);have:=Lm.aaw (ls ++ [y%4294967296]);simp at this ⊢;simp at *
 omega
theorem aqh{ls:List Int}{x y:Int}{M:Nat}(hl:Lm.Limb ls)(h:Lm.val ls+Lm.pw ls.length*y=x)(hy:0<y)(hx:x<Lm.pw M):ls.length<M:=by
 apply Classical.byContradiction;intro hn;have h1:=Lm.aay (m:=M) (n:=ls.length) (by omega);have h2:=(Lm.aab hl).1;have h3:=Lm.aat ls.length;have h4:Lm.pw ls.length*1<=Lm.pw ls.length*y:=Int.mul_le_mul_of_nonneg_left (by omega) (by omega);omega
theorem aqi{B:Nat}{w wr w1:World}{v v':Value}{k:Nat}{ds:List Int}{z:Int}{o:Obj}(h:w1.ownsRow B 70 1 v' (k+1) (ds.map (Value.int .u32) ++ [.int .u32 z]))(hg:(wr.alloc o).grownBy w1 v.ownBlock)(hb:Below B w wr)(hB:B<=wr.heap.size)(hl:∀j,v.ownBlock=some j->B<=j/\j<wr.heap.size):
  w1.ownsRow B 70 1 v' (k+1) ((ds ++ [z]).map (Value.int .u32))/\Below B w w1:=by
 refine⟨by simpa using h,((hb.alloc hB o).grown hg ?_ (fun j hj=>(hl j hj).1))⟩;simp;omega
theorem aqj(w:World)(ng:Bool)(ao:Option Addr)(cap:Nat)(D:List Int)(x:Int)(hD:Got w ao cap D x)(M:Nat)(hx:x<Lm.pw M)(hM:M<=1000000)(hl:D.length<=1000000)(h0:0<D.length):
  Calls Tryz.prog 124 #[.agg #[.bool ng,.slice ao D.length cap]] w fun e w'=>∃v,e=.returned v/\Lm.Is w.heap.size w' v x/\Below w.heap.size w w':=by
 obtain⟨_,h1,h2,h3⟩:=hD.sl.parts;obtain⟨i0,hi,hz0,hz1,hz2⟩:=info_parts acu;obtain⟨j0,hj,jz0,jz1,jz2⟩:=info_parts abp;obtain⟨b,off,rfl,hc⟩:=hD.sl.cells h0;have hcells:∀j u,(D.map (Value.int .i64))[j]? = some u->(w.alloc (Obj.cells #[.bool ng,.slice (some ⟨b,off,none⟩) D.length cap] 85)).cell? ((⟨b,off,none⟩:Addr).add j)=some u:=by
  intro j u hu;rw[List.getElem?_map]at hu;have hj:j<D.length:=by
   apply Classical.byContradiction;intro hn;rw[List.getElem?_eq_none (by omega)]at hu;cases hu
  rw[List.getElem?_eq_getElem hj]at hu;have hcj:=hc j hj;rw[List.getD_eq_getElem?_getD,List.getElem?_eq_getElem hj]at hcj;rw[show((⟨b,off,none⟩:Addr).add j)=⟨b,off+j,none⟩from by simp[Addr.add],World.cell?_alloc_past _ _ _ (aao hcj),hcj];exact hu
 have hone:∀u∈D.map (Value.int .i64),u.oneCell'=true:=by
  intro u hu;obtain⟨z,_,rfl⟩:=List.mem_map.1 hu;rfl
 have H3:=hide h3;have HC:=hide hD.2;have HX:=hide hx;clear hc h3 hD hx;go_enter Tryz.func124,Tryz.ntmps124
 go_wp2_with (at_builtin;refine wpList_append_own _ rfl (.const (.slice none 0 0)) (.tmp 7) 69 rfl (w.heap.size+1) 3 i0 (.int .i64 0) 1 8 Tryz.underlying69 hi hz0 hz1 hz2 rfl (by decide) _ _ _ rfl (World.ownsRow_nil _ _ _ _) ⟨b,off,none⟩ D.length cap (D.map (Value.int .i64)) rfl (by simp) hcells hone (by unfold maxLen;omega) (by omega) (by simp) ?_)
 intro v' w1 hown hgrow _;have hb1:Below w.heap.size w w1:=((Below.refl w.heap.size w).alloc (Nat.le_refl _) _).grown hgrow (by simp) (by intro k hk;simp[Value.ownBlock]at hk);obtain⟨ao1,cap1,rfl,s1,_,_⟩:=(abl hown H3.out).open;have hg1:Got w1 ao1 cap1 D x:=⟨s1,HC.out⟩;clear hown hgrow s1 hcells hone;go_wp2;go_loopw [3,4] (fun lv dv wr=>∃(ls D2:List Int) (ao2:Option Addr) (cap2:Nat) (y:Int),dv=.slice ao2 D2.length cap2/\Got wr ao2 cap2 D2 y/\D2.length<=D.length/\wr.ownsRow w.heap.size 70 1 lv ls.length (ls.map (Value.int .u32))/\Lm.Limb ls/\Lm.val ls+Lm.pw ls.length*y=x/\(D2 = []->Lm.tl ls=ls.length)/\Below w.heap.size w wr) (fun _ dv _=>lenOf dv)
 case atStart=>exact⟨[],D,ao1,cap1,x,rfl,hg1,Nat.le_refl _,World.ownsRow_nil _ _ _ _,Lm.aac,by simp[Lm.val,Lm.pw],fun e=>by rw[e]at h0;simp at h0,hb1⟩
 case round=>
  obtain⟨ls,D2,ao2,cap2,y,rfl,hg,hdl,hown,hls,hv,htop,hbel⟩:=hrel;have HLS:=hide hls;have HV:=hide hv;have HT:=hide htop;clear hls hv htop;by_cases hz:0<D2.length
  ·have hy:0<y:=by
    have h5:=adp hg.canon.1 (by rw[hg.canon.2];exact hz);rw[hg.val]at h5;exact h5
   have hroom:=aqh HLS.out HV.out hy HX.out;go_wp2_with fail
   refine(as0 _ _ _ _ D2 hg.sl 4294967296 (by omega) (by omega) (by omega)).mono ?_;rintro e w2 ⟨v2,rfl,i2,hb2⟩;obtain⟨D3,ho3,hc3,hv3⟩:=i2;have hsh:=anr hg.canon hc3 hv3 hz;rw[hg.val]at hv3 ⊢;obtain⟨ao3,cap3,rfl,_,_,_⟩:=ho3.open;have HO3:=hide ho3;have HC3:=hide (And.intro hc3 hv3);have hls3:Hid (∀j,u3.ownBlock=some j->w.heap.size<=j/\j<wr.heap.size):=hown.lt;have hbel2:=hbel.trans (hb2.mono hbel.size);have hown2:=aqg hown hb2;have HV':=hide (as2 HV.out);have HT':Hid (D3 = []->Lm.tl (ls ++ [y%4294967296])=(ls ++ [y%4294967296]).length):=by
    intro e3;refine as3 hy ?_;rw[e3]at hv3;exact hv3.symm
   clear ho3 hc3 hv3 hown hbel hb2 hg;go_wp2_with (at_builtin;refine wpList_append_own _ rfl (.tmp 17) (.tmp 20) 38 rfl w.heap.size 70 j0 (.int .u32 0) 1 4 Tryz.underlying38 hj jz0 jz1 jz2 rfl (by decide) _ _ _ rfl (hown2.alloc _) ⟨w2.heap.size,0,none⟩ 1 1 [.int .u32 (y%4294967296)] rfl rfl (cell_one_new _ _ _) ?c2 ?c3 ?c4 ?c5 ?_)
   case c2=>first|rfl|(intro u hu;simp at hu;subst hu;rfl)
   case c3=>unfold maxLen;omega
   case c4=>omega
   case c5=>have:=hbel2.size;first|omega|(simp;omega)
   intro v4 w4 hown4 hgrow4 _;have R:=aqi hown4 hgrow4 hbel2 hbel2.size (hown2.lt);have HG4:Hid (Got w4 ao3 cap3 D3 (y/4294967296)):=⟨((HO3.out.below ((Below.refl w2.heap.size w2).alloc (Nat.le_refl _) _)).grown hgrow4 (fun j hj=>(hls3.out j hj).2)).sl,HC3.out⟩;clear hown4 hgrow4 hown2;go_wp2;go_roundw
   case rel=>exact⟨ls ++ [y%4294967296],D3,ao3,cap3,y/4294967296,rfl,HG4.out,by omega,by simpa using R.1,Lm.aaj.2 ⟨HLS.out,Lm.aaf.2 ⟨by omega,Lm.aac⟩⟩,HV'.out,HT'.out,R.2⟩
   case measure=>simp[lenOf];omega
  ·have hz0:D2 = []:=List.eq_nil_of_length_eq_zero (by omega);have hy0:y=0:=by rw[<-hg.val,hz0];rfl
   have hvx:Lm.val ls=x:=by have:=HV.out;rw[hy0,Int.mul_zero,Int.add_zero]at this;exact this
   have his:Lm.Is w.heap.size wr u3 x:=⟨ls,Lm.abl hown HLS.out,⟨HLS.out,HT.out hz0⟩,hvx⟩;clear hz0 hy0 hvx hown hg;go_wp2;go_ret;exact⟨_,rfl,his,hbel⟩
end Dm
namespace Dm
open Go.RowKit
open Lm (hide aao aaa ac1 abp)
theorem aqk(w:World)(ng:Bool)(ao:Option Addr)(cap:Nat)(_hcap:cap<=9223372036854775807):
  Calls Tryz.prog 124 #[.agg #[.bool ng,.slice ao 0 cap]] w fun e w'=>∃v,e=.returned v/\Lm.Is w.heap.size w' v 0/\Below w.heap.size w w':=by
 cases ao with
 |none=>
  go_enter Tryz.func124,Tryz.ntmps124
  go_wp2;refine wp_loop_rounds 1 ?_;rw[rounds_succ];go_wp2;go_ret;exact⟨_,rfl,⟨[],⟨none,0,rfl,Nat.le_refl _,by simp[maxLen],Lm.aac,.inl rfl⟩,Lm.abk,rfl⟩,(Below.refl _ _).alloc (Nat.le_refl _) _⟩
 |some ad=>
  go_enter Tryz.func124,Tryz.ntmps124
  go_wp2;refine wp_loop_rounds 1 ?_;rw[rounds_succ];go_wp2;go_ret;exact⟨_,rfl,⟨[],⟨none,0,rfl,Nat.le_refl _,by simp[maxLen],Lm.aac,.inl rfl⟩,Lm.abk,rfl⟩,(Below.refl _ _).alloc (Nat.le_refl _) _⟩
theorem akj(w:World)(ng:Bool)(ao:Option Addr)(cap:Nat)(D:List Int)(x:Int)(hD:Got w ao cap D x)(M:Nat)(hx:x<Lm.pw M)(hM:M<=1000000)(hl:D.length<=1000000):
  Calls Tryz.prog 124 #[.agg #[.bool ng,.slice ao D.length cap]] w fun e w'=>∃v,e=.returned v/\Lm.Is w.heap.size w' v x/\Below w.heap.size w w':=by
 by_cases h0:0<D.length
 ·exact aqj w ng ao cap D x hD M hx hM hl h0
 ·have e:D = []:=List.eq_nil_of_length_eq_zero (by omega);have hx0:x=0:=by rw[<-hD.val,e];rfl
  have hc:=hD.sl.parts.2.2.1;rw[hx0,e];exact aqk w ng ao cap hc
end Dm
namespace Dm
open Go.RowKit
open Lm (hide aao aaa ac1 abp cmpI abg abi acv aci)
theorem acm(zs:List Int)(i k:Nat)(h:i<k):(zs.take k).getD i 0=zs.getD i 0:=by
 rw[List.getD_eq_getElem?_getD,List.getD_eq_getElem?_getD,List.getElem?_take,if_pos h]
theorem ajn{xs ys:List Int}(hx:Canon xs)(hy:Canon ys)(h:xs.length≠ys.length):cmpI (val xs) (val ys)=if xs.length<ys.length then -1 else 1:=by
 by_cases h':xs.length<ys.length
 ·rw[if_pos h',abg (adt hx hy h')]
 ·rw[if_neg h',abi (adt hy hx (by omega))]
theorem ay8{xs ys:List Int}{k:Nat}(hx:Limb xs)(hy:Limb ys)(hl:xs.length=ys.length)(hk:k<xs.length)(hd:xs.drop (k+1)=ys.drop (k+1))(h:xs.getD k 0<ys.getD k 0):cmpI (val xs) (val ys) = -1:=abg (ae2 hx hy hl hk hd h)
theorem av6{xs ys:List Int}{k:Nat}(hx:Limb xs)(hy:Limb ys)(hl:xs.length=ys.length)(hk:k<xs.length)(hd:xs.drop (k+1)=ys.drop (k+1))(h:ys.getD k 0<xs.getD k 0):cmpI (val xs) (val ys)=1:=abi (ae2 hy hx hl.symm (by omega) hd.symm h)
theorem agc{xs ys:List Int}{k:Nat}(hl:xs.length=ys.length)(hk:k<xs.length)(hd:xs.drop (k+1)=ys.drop (k+1))(h:xs.getD k 0=ys.getD k 0):xs.drop k=ys.drop k:=by
 rw[aa4 xs k hk,aa4 ys k (by omega),hd,h]
theorem afz(w:World)(g1 g2:Bool)(a1 a2:Option Addr)(c1 c2:Nat)(xs ys:List Int)(x y:Int)(hx:Got w a1 c1 xs x)(hy:Got w a2 c2 ys y):
  Calls Tryz.prog 119 #[.agg #[.bool g1,.slice a1 xs.length c1],.agg #[.bool g2,.slice a2 ys.length c2]] w fun e w'=>e=.returned (.int .i64 (cmpI x y))/\Below w.heap.size w w':=by
 have e1:(w.alloc (.cells #[.bool g1,.slice a1 xs.length c1] 85)).heap.size=w.heap.size+1:=by simp
 have hb1:Below w.heap.size w (w.alloc (.cells #[.bool g1,.slice a1 xs.length c1] 85)):=(Below.refl _ _).alloc (Nat.le_refl _) _;have hb2:=((Below.refl (w.heap.size+1) (w.alloc (.cells #[.bool g1,.slice a1 xs.length c1] 85))).alloc (by simp) (.cells #[.bool g2,.slice a2 ys.length c2] 85));have k1:((w.alloc (.cells #[.bool g1,.slice a1 xs.length c1] 85)).alloc (.cells #[.bool g2,.slice a2 ys.length c2] 85)).cell? ⟨w.heap.size,1,none⟩=some (.slice a1 xs.length c1):=by
  rw[hb2.cell (p:=⟨w.heap.size,1,none⟩) (by simp),cell_of_row _ _ _ _ _ (0,0) (heap_alloc_new w _)];rfl
 have k2:((w.alloc (.cells #[.bool g1,.slice a1 xs.length c1] 85)).alloc (.cells #[.bool g2,.slice a2 ys.length c2] 85)).cell? ⟨w.heap.size+1,1,none⟩=some (.slice a2 ys.length c2):=by
  rw[<-e1,cell_of_row _ _ _ _ _ (0,0) (heap_alloc_new _ _)];rfl
 have hbw:=hb1.trans (hb2.mono (by omega));have K:=hide (And.intro k1 (And.intro k2 (And.intro hbw (show w.heap.size+1<((w.alloc (.cells #[.bool g1,.slice a1 xs.length c1] 85)).alloc (.cells #[.bool g2,.slice a2 ys.length c2] 85)).heap.size by simp))));obtain⟨_,p1,p2,p3⟩:=hx.sl.parts;obtain⟨_,s1,s2,s3⟩:=hy.sl.parts;have VX:=hide hx.val;have VY:=hide hy.val;have CX:=hide hx.canon;have CY:=hide hy.canon;have hsx:=hide hx.sl;have hsy:=hide hy.sl;clear e1 hb1 hb2 k1 k2 hbw hx hy p3 s3;by_cases hl:xs.length=ys.length
 ·have hne:(((xs.length:Nat):Int) != ((ys.length:Nat):Int))=false:=by simp[hl]
  have HL:=hide hl;have l1:xs.length<=ys.length:=by omega
  have l2:ys.length<=xs.length:=by omega
  clear hl;go_enter Tryz.func119,Tryz.ntmps119
  go_wp2;generalize (w.alloc (.cells #[.bool g1,.slice a1 xs.length c1] 85)).alloc (.cells #[.bool g2,.slice a2 ys.length c2] 85)=w0 at K ⊢;go_loopw [5] (fun i wr=>∃k:Nat,k<=xs.length/\xs.drop k=ys.drop k/\i=.int .i64 ((k:Int)-1)/\Below w0.heap.size w0 wr) (fun i _=>(intOf i+1).toNat)
  case atStart=>exact⟨xs.length,Nat.le_refl _,by rw[List.drop_of_length_le (by omega),List.drop_of_length_le (by omega)],rfl,Below.refl _ _⟩
  case round=>
   obtain⟨k,hk,hd,rfl,hbel⟩:=hrel;have HD:=hide hd;clear hd;have hbw:Below w.heap.size w wr:=K.out.2.2.1.trans (hbel.mono K.out.2.2.1.size);cases k with
   |zero=>
    have HE:Hid (cmpI x y=0):=by
     show _=_;have:=HD.out;rw[List.drop_zero,List.drop_zero]at this;rw[<-VX.out,<-VY.out,this];exact acv rfl
    go_wp2;go_ret;exact⟨by rw[HE.out];rfl,hbw⟩
   |succ k=>
    have sx:=(hsx.out.below K.out.2.2.1).below hbel;have sy:=(hsy.out.below K.out.2.2.1).below hbel;obtain⟨b,off,rfl,hc⟩:=sx.cells (by omega);obtain⟨b',off',rfl,hc'⟩:=sy.cells (by omega);have f1:=hc k (by omega);have f2:=hc' k (by omega);have m1:=(hbel.cell (p:=⟨w.heap.size,1,none⟩) (by have:=K.out.2.2.2;simp;omega)).trans K.out.1;have m2:=(hbel.cell (p:=⟨w.heap.size+1,1,none⟩) K.out.2.2.2).trans K.out.2.1;have d1:(k:Int)<((xs.length:Nat):Int):=by omega
    have d2:(k:Int)<((ys.length:Nat):Int):=by omega
    have ND:=hide (agc HL.out (by omega) HD.out);have NL:=hide (ay8 CX.out.1 CY.out.1 HL.out (by omega) HD.out);have NH:=hide (av6 CX.out.1 CY.out.1 HL.out (by omega) HD.out);generalize xs.getD k 0=z at f1 ND NL NH;generalize ys.getD k 0=z' at f2 ND NL NH;clear sx sy hc hc';rcases Int.lt_trichotomy z z' with h|h|h
    ·have HE:Hid (cmpI x y = -1):=by show _=_;rw[<-VX.out,<-VY.out];exact NL.out h
     go_wp2;go_quiet (fail)
     go_wp2;go_ret;exact⟨by rw[HE.out];rfl,below_drewN hbw _⟩
    ·subst h;have n1:¬z<z:=by omega
     go_wp2;go_quiet (fail)
     go_wp2;replace f1:(wr.drewN nq).cell? ⟨b,off+k,none⟩=some (.int .i64 z):=f1;replace f2:(wr.drewN nq).cell? ⟨b',off'+k,none⟩=some (.int .i64 z):=f2;replace m1:(wr.drewN nq).cell? ⟨w.heap.size,1,none⟩=_:=m1;replace m2:(wr.drewN nq).cell? ⟨w.heap.size+1,1,none⟩=_:=m2;replace hbel:=below_drewN hbel nq;generalize wr.drewN nq=wr2 at f1 f2 m1 m2 hbel ⊢;go_quiet (fail)
     go_wp2;go_roundw
     case rel=>exact⟨k,by omega,ND.out (by first|rfl|trivial),by go_num,below_drewN hbel _⟩
     case measure=>simp[intOf]
    ·have HE:Hid (cmpI x y=1):=by show _=_;rw[<-VX.out,<-VY.out];exact NH.out h
     have n1:¬z<z':=by omega
     go_wp2;go_quiet (fail)
     go_wp2;replace f1:(wr.drewN nq).cell? ⟨b,off+k,none⟩=some (.int .i64 z):=f1;replace f2:(wr.drewN nq).cell? ⟨b',off'+k,none⟩=some (.int .i64 z'):=f2;replace m1:(wr.drewN nq).cell? ⟨w.heap.size,1,none⟩=_:=m1;replace m2:(wr.drewN nq).cell? ⟨w.heap.size+1,1,none⟩=_:=m2;replace hbw:=below_drewN hbw nq;generalize wr.drewN nq=wr2 at f1 f2 m1 m2 hbw ⊢;go_quiet (fail)
     go_wp2;go_ret;exact⟨by rw[HE.out];rfl,below_drewN hbw _⟩
 ·have hne:(((xs.length:Nat):Int) != ((ys.length:Nat):Int))=true:=by rw[bne_iff_ne];omega
  have HE:=hide (ajn CX.out CY.out hl);rw[VX.out,VY.out]at HE;by_cases h:xs.length<ys.length
  ·rw[if_pos h]at HE;have h':((xs.length:Nat):Int)<((ys.length:Nat):Int):=by omega
   clear hl;go_enter Tryz.func119,Tryz.ntmps119
   go_wp2;go_ret;exact⟨by rw[HE.out];rfl,K.out.2.2.1⟩
  ·rw[if_neg h]at HE;have h':¬((xs.length:Nat):Int)<((ys.length:Nat):Int):=by omega
   clear hl;go_enter Tryz.func119,Tryz.ntmps119
   go_wp2;go_ret;exact⟨by rw[HE.out];rfl,K.out.2.2.1⟩
def sgn(n:Nat):Int:=if n=0 then 0 else 1
theorem av7(w:World)(ao:Option Addr)(n cap:Nat):
  Calls Tryz.prog 81 #[.agg #[.bool false,.slice ao n cap]] w fun e w'=>e=.returned (.int .i64 (sgn n))/\w'=w.alloc (.cells #[.bool false,.slice ao n cap] 85):=by
 by_cases h:n=0
 ·subst h;go_enter Tryz.func81,Tryz.ntmps81
  go_wp2;go_ret;exact⟨rfl,rfl⟩
 ·have hne:(((n:Nat):Int)==0)=false:=by simp;omega
  have H:Hid (sgn n=1):=by simp[Hid,sgn,h]
  clear h;go_enter Tryz.func81,Tryz.ntmps81
  go_wp2;go_ret;exact⟨by rw[H.out];rfl,rfl⟩
theorem amg{w:World}{ao:Option Addr}{cap:Nat}{xs:List Int}{x:Int}(h:Got w ao cap xs x)(h0:xs.length=0):x=0:=by
 have e:xs = []:=List.eq_nil_of_length_eq_zero h0;rw[<-h.val,e];rfl
end Dm
namespace Dm
open Go.RowKit
open Lm (hide)
def Dl(B:Nat)(w:World)(v:Value)(x:Int)(n:Nat):Prop:=∃ds,Ow B w v ds/\val ds=x/\ds.length<=n
theorem af0{A B ds:List Int}{k:Nat}{a b c s:Int}(hk:ds.length=k)(ha:A.getD k 0=a)(hb:B.getD k 0=b)(hs:s=c+a+b)(h:val ds+pw k*c=vf A k+vf B k):
  val (ds ++ [s%10000])+pw (k+1)*(s/10000)=vf A (k+1)+vf B (k+1):=by
 rw[abb,vf,vf,ha,hb,hk,pw];have e:s=s%10000+10000*(s/10000):=by omega
 have e2:pw k*(s%10000)+10000*pw k*(s/10000)=pw k*s:=by
  rw[Int.mul_comm 10000 (pw k),Int.mul_assoc,<-Int.mul_add,<-e]
 rw[Int.add_assoc,e2,hs,Int.mul_add,Int.mul_add];omega
theorem ae8(A:List Int)(k:Nat)(h:¬k<A.length):A.getD k 0=0:=by
 rw[List.getD_eq_getElem?_getD,List.getElem?_eq_none (by omega)];rfl
theorem amh(w:World)(a1:Option Addr)(n1 c1:Nat)(A:List Int)(hA:Sl w (.slice a1 n1 c1) A)(a2:Option Addr)(n2 c2:Nat)(B:List Int)(hB:Sl w (.slice a2 n2 c2) B)(hl1:A.length<=1000000)(hl2:B.length<=1000000):
  Calls Tryz.prog 191 #[.slice a1 n1 c1,.slice a2 n2 c2] w fun e w'=>∃v,e=.returned v/\Dl w.heap.size w' v (val A+val B) (A.length+B.length+1)/\Below w.heap.size w w':=by
 obtain⟨rfl,p1,p2,p3⟩:=hA.parts;obtain⟨rfl,q1,q2,q3⟩:=hB.parts;obtain⟨i0,hi,hz0,hz1,hz2⟩:=info_parts acu;have P3:=hide p3;have Q3:=hide q3;clear p3 q3;go_enter Tryz.func191,Tryz.ntmps191
 go_wp2;go_loopw [5,6,7] (fun dv cv iv wr=>∃(k:Nat) (c:Int) (ds:List Int),cv=.int .i64 c/\iv=.int .i64 k/\(0<=c/\c<=1)/\(k:Int)+c<=(A.length:Int)+B.length+1/\ds.length=k/\Limb ds/\val ds+pw k*c=vf A k+vf B k/\wr.ownsRow w.heap.size 3 1 dv k (ds.map (Value.int .i64))/\Below w.heap.size w wr) (fun _ cv iv _=>(A.length-(intOf iv).toNat)*2+(B.length-(intOf iv).toNat)*2+(intOf cv).toNat)
 case atStart=>exact⟨0,0,[],rfl,rfl,by omega,by omega,rfl,aac,by simp[val,vf,pw],World.ownsRow_nil _ _ _ _,Below.refl _ _⟩
 case round=>
  obtain⟨k,c,ds,rfl,rfl,hc,hkc,hdl,hd,hval,hown,hbel⟩:=hrel;have HD:=hide hd;have HDL:=hide hdl;have HV:=hide hval;clear hd hdl hval;have hsz:=hbel.size;by_cases hltA:k<A.length
  ·by_cases hltB:k<B.length
   ·have sA:=hA.below hbel;obtain⟨b1,off1,rfl,hca⟩:=sA.cells (by omega);have ca:=hca k hltA;have ba:=aae P3.out k;obtain⟨a,hak⟩:∃a,A.getD k 0=a:=⟨_,rfl⟩;rw[hak]at ca ba;clear sA hca;have sB:=hB.below hbel;obtain⟨b2,off2,rfl,hcb⟩:=sB.cells (by omega);have cb:=hcb k hltB;have bb:=aae Q3.out k;obtain⟨b,hbk⟩:∃b,B.getD k 0=b:=⟨_,rfl⟩;rw[hbk]at cb bb;clear sB hcb;have dA:(k:Int)<(A.length:Int):=by omega
    have dB:(k:Int)<(B.length:Int):=by omega
    have HV':=hide (af0 (s:=c+a+b) HDL.out hak hbk (by omega) HV.out);clear hak hbk;go_wp2_with (at_builtin;refine wpList_append_own _ rfl (.tmp 44) (.tmp 47) 69 rfl w.heap.size 3 i0 (.int .i64 0) 1 8 Tryz.underlying69 hi hz0 hz1 hz2 rfl (by decide) _ _ _ rfl (hown.alloc _) ⟨wr.heap.size,0,none⟩ 1 1 [.int .i64 ((c+a+b)%10000)] rfl rfl (cell_one_new _ _ _) ?c211 ?c311 ?c411 ?c511 ?_)
    case c211=>first|rfl|(intro u hu;simp at hu;subst hu;rfl)
    case c311=>unfold maxLen;omega
    case c411=>omega
    case c511=>first|omega|(simp;omega)
    intro v' w1 hown' hgrow _;have R:=ac3 hown' hgrow hbel (hown.lt);clear hown' hgrow hown;go_wp2;go_roundw
    case rel=>exact⟨k+1,(c+a+b)/10000,ds ++ [(c+a+b)%10000],rfl,by go_num,by omega,by omega,by have:=HDL.out;simp;omega,aaj.2 ⟨HD.out,aaf.2 ⟨by omega,aac⟩⟩,HV'.out,R.1,R.2⟩
    case measure=>simp[intOf];omega
   ·have hbk:=ae8 B k hltB;have sA:=hA.below hbel;obtain⟨b1,off1,rfl,hca⟩:=sA.cells (by omega);have ca:=hca k hltA;have ba:=aae P3.out k;obtain⟨a,hak⟩:∃a,A.getD k 0=a:=⟨_,rfl⟩;rw[hak]at ca ba;clear sA hca;have dA:(k:Int)<(A.length:Int):=by omega
    have dB:¬(k:Int)<(B.length:Int):=by omega
    have HV':=hide (af0 (s:=c+a) HDL.out hak hbk (by omega) HV.out);clear hak hbk;go_wp2_with (at_builtin;refine wpList_append_own _ rfl (.tmp 44) (.tmp 47) 69 rfl w.heap.size 3 i0 (.int .i64 0) 1 8 Tryz.underlying69 hi hz0 hz1 hz2 rfl (by decide) _ _ _ rfl (hown.alloc _) ⟨wr.heap.size,0,none⟩ 1 1 [.int .i64 ((c+a)%10000)] rfl rfl (cell_one_new _ _ _) ?c210 ?c310 ?c410 ?c510 ?_)
    case c210=>first|rfl|(intro u hu;simp at hu;subst hu;rfl)
    case c310=>unfold maxLen;omega
    case c410=>omega
    case c510=>first|omega|(simp;omega)
    intro v' w1 hown' hgrow _;have R:=ac3 hown' hgrow hbel (hown.lt);clear hown' hgrow hown;go_wp2;go_roundw
    case rel=>exact⟨k+1,(c+a)/10000,ds ++ [(c+a)%10000],rfl,by go_num,by omega,by omega,by have:=HDL.out;simp;omega,aaj.2 ⟨HD.out,aaf.2 ⟨by omega,aac⟩⟩,HV'.out,R.1,R.2⟩
    case measure=>simp[intOf];omega
  ·have hak:=ae8 A k hltA;by_cases hltB:k<B.length
   ·have sB:=hB.below hbel;obtain⟨b2,off2,rfl,hcb⟩:=sB.cells (by omega);have cb:=hcb k hltB;have bb:=aae Q3.out k;obtain⟨b,hbk⟩:∃b,B.getD k 0=b:=⟨_,rfl⟩;rw[hbk]at cb bb;clear sB hcb;have dA:¬(k:Int)<(A.length:Int):=by omega
    have dB:(k:Int)<(B.length:Int):=by omega
    have HV':=hide (af0 (s:=c+b) HDL.out hak hbk (by omega) HV.out);clear hak hbk;go_wp2_with (at_builtin;refine wpList_append_own _ rfl (.tmp 44) (.tmp 47) 69 rfl w.heap.size 3 i0 (.int .i64 0) 1 8 Tryz.underlying69 hi hz0 hz1 hz2 rfl (by decide) _ _ _ rfl (hown.alloc _) ⟨wr.heap.size,0,none⟩ 1 1 [.int .i64 ((c+b)%10000)] rfl rfl (cell_one_new _ _ _) ?c201 ?c301 ?c401 ?c501 ?_)
    case c201=>first|rfl|(intro u hu;simp at hu;subst hu;rfl)
    case c301=>unfold maxLen;omega
    case c401=>omega
    case c501=>first|omega|(simp;omega)
    intro v' w1 hown' hgrow _;have R:=ac3 hown' hgrow hbel (hown.lt);clear hown' hgrow hown;go_wp2;go_roundw
    case rel=>exact⟨k+1,(c+b)/10000,ds ++ [(c+b)%10000],rfl,by go_num,by omega,by omega,by have:=HDL.out;simp;omega,aaj.2 ⟨HD.out,aaf.2 ⟨by omega,aac⟩⟩,HV'.out,R.1,R.2⟩
    case measure=>simp[intOf];omega
   ·have hbk:=ae8 B k hltB;by_cases hc0:0<c
    ·have dA:¬(k:Int)<(A.length:Int):=by omega
     have dB:¬(k:Int)<(B.length:Int):=by omega
     have HV':=hide (af0 (s:=c) HDL.out hak hbk (by omega) HV.out);clear hak hbk;go_wp2_with (at_builtin;refine wpList_append_own _ rfl (.tmp 44) (.tmp 47) 69 rfl w.heap.size 3 i0 (.int .i64 0) 1 8 Tryz.underlying69 hi hz0 hz1 hz2 rfl (by decide) _ _ _ rfl (hown.alloc _) ⟨wr.heap.size,0,none⟩ 1 1 [.int .i64 ((c)%10000)] rfl rfl (cell_one_new _ _ _) ?c200 ?c300 ?c400 ?c500 ?_)
     case c200=>first|rfl|(intro u hu;simp at hu;subst hu;rfl)
     case c300=>unfold maxLen;omega
     case c400=>omega
     case c500=>first|omega|(simp;omega)
     intro v' w1 hown' hgrow _;have R:=ac3 hown' hgrow hbel (hown.lt);clear hown' hgrow hown;go_wp2;go_roundw
     case rel=>exact⟨k+1,(c)/10000,ds ++ [(c)%10000],rfl,by go_num,by omega,by omega,by have:=HDL.out;simp;omega,aaj.2 ⟨HD.out,aaf.2 ⟨by omega,aac⟩⟩,HV'.out,R.1,R.2⟩
     case measure=>simp[intOf];omega
    ·have hc1:c=0:=by omega
     subst hc1;have dA:¬(k:Int)<(A.length:Int):=by omega
     have dB:¬(k:Int)<(B.length:Int):=by omega
     have how:=abl hown HD.out;have hvv:val ds=val A+val B:=by
      have:=HV.out;rw[Int.mul_zero,Int.add_zero,aa7 A _ (by omega),aa7 B _ (by omega)]at this;exact this
     have hdl:=HDL.out;have HVV:=hide hvv;have HDL':Hid (ds.length<=A.length+B.length+1):=by show _<=_;omega
     clear hvv hak hbk hown hdl;go_wp2;go_ret;exact⟨_,rfl,⟨ds,how,HVV.out,HDL'.out⟩,hbel⟩
end Dm
namespace Dm
open Go.RowKit
open Lm (hide aao aaa)
theorem Sl.copy{w:World}{b off n cap:Nat}{D:List Int}(h:Sl w (.slice (some ⟨b,off,none⟩) n cap) D):∀j u,(D.map (Value.int .i64))[j]? = some u->w.cell? ((⟨b,off,none⟩:Addr).add j)=some u:=by
 intro j u hu;rw[List.getElem?_map]at hu;have hj:j<D.length:=by
  apply Classical.byContradiction;intro hn;rw[List.getElem?_eq_none (by omega)]at hu;cases hu
 rw[List.getElem?_eq_getElem hj]at hu;obtain⟨b',off',e,hc⟩:=h.cells (by omega);obtain⟨rfl,rfl⟩:b=b'/\off=off':=by simpa using e
 have hcj:=hc j hj;rw[List.getD_eq_getElem?_getD,List.getElem?_eq_getElem hj]at hcj;rw[show((⟨b,off,none⟩:Addr).add j)=⟨b,off+j,none⟩from by simp[Addr.add],hcj];exact hu
theorem ad5(D:List Int):∀u∈D.map (Value.int .i64),u.oneCell'=true:=by
 intro u hu;obtain⟨z,_,rfl⟩:=List.mem_map.1 hu;rfl
def dec(t:Int):List Int->List Int
 | []=>[]
 |x::xs=>(x-t)::xs
theorem ah9(xs:List Int):dec 0 xs=xs:=by cases xs <;> simp[dec]
theorem aeu{A B lo:List Int}{k:Nat}{a b t t' s:Int}(hk:lo.length=k)(ha:A.getD k 0=a)(hb:B.getD k 0=b)(hs:s=a-t-b+10000*t')(h:val lo+vf B k=vf A k+pw k*t):
  val (lo ++ [s])+vf B (k+1)=vf A (k+1)+pw (k+1)*t':=by
 rw[abb,vf,vf,ha,hb,hk,pw,hs];have e:10000*pw k*t'=pw k*(10000*t'):=by rw[Int.mul_comm 10000 (pw k),Int.mul_assoc]
 rw[e,Int.mul_add,Int.mul_sub,Int.mul_sub];omega
theorem afk(lo r:List Int)(x y:Int)(k:Nat)(hk:lo.length=k):(lo++x::r).set k y=lo++y::r:=by
 subst hk;induction lo with
 |nil=>rfl
 |cons z zs ih=>simp
theorem aev(lo r:List Int)(x:Int)(k:Nat)(hk:lo.length=k):(lo++x::r).getD k 0=x:=by
 subst hk;simp[List.getD_eq_getElem?_getD]
theorem aia(A:List Int)(k:Nat)(t:Int)(h:k<A.length):dec t (A.drop k)=(A.getD k 0-t)::A.drop (k+1):=by
 rw[aa4 A k h];rfl
theorem ami{A B lo:List Int}{k:Nat}{a b t s:Int}(hk:lo.length=k)(hA:A.length=k+1)(hB:B.length<=A.length)(hle:val B<=val A)(hlo:Limb lo)(ha:A.getD k 0=a)(hb:B.getD k 0=b)(hs:s=a-t-b)(h:val lo+vf B k=vf A k+pw k*t):0<=s:=by
 have h1:=aeu (t':=0) (s:=s) hk ha hb (by omega) h;rw[aa7 A _ (by omega),aa7 B _ (by omega),Int.mul_zero,Int.add_zero,abb,hk]at h1;have h2:=(aab hlo).2;rw[hk]at h2;apply Classical.byContradiction;intro hn;have h3:pw k*s<=pw k*(-1):=Int.mul_le_mul_of_nonneg_left (by omega) (by have:=aat k;omega);omega
theorem af1(w:World)(a1:Option Addr)(n1 c1:Nat)(A:List Int)(hA:Sl w (.slice a1 n1 c1) A)(a2:Option Addr)(n2 c2:Nat)(B:List Int)(hB:Sl w (.slice a2 n2 c2) B)(hl1:A.length<=1000000)(hBA:B.length<=A.length)(hle:val B<=val A)(h0:0<A.length):
  Calls Tryz.prog 192 #[.slice a1 n1 c1,.slice a2 n2 c2] w fun e w'=>∃v,e=.returned v/\Dl w.heap.size w' v (val A-val B) A.length/\Below w.heap.size w w':=by
 obtain⟨rfl,p1,p2,p3⟩:=hA.parts;obtain⟨rfl,q1,q2,q3⟩:=hB.parts;obtain⟨i0,hi,hz0,hz1,hz2⟩:=info_parts acu;obtain⟨b1,off1,rfl,_⟩:=hA.cells h0;have hcells:=hA.copy;have hone:=ad5 A;have P3:=hide p3;have Q3:=hide q3;have HLE:=hide hle;clear p3 q3 hle;go_enter Tryz.func192,Tryz.ntmps192
 go_wp2_with (at_builtin;refine wpList_append_own _ rfl (.const (.slice none 0 0)) (.tmp 7) 69 rfl w.heap.size 3 i0 (.int .i64 0) 1 8 Tryz.underlying69 hi hz0 hz1 hz2 rfl (by decide) _ _ _ rfl (World.ownsRow_nil _ _ _ _) ⟨b1,off1,none⟩ A.length c1 (A.map (Value.int .i64)) rfl (by simp) hcells hone (by unfold maxLen;omega) (by omega) (by simp) ?_)
 intro v' w1 hown hgrow _;have hb1:Below w.heap.size w w1:=(Below.refl w.heap.size w).grown hgrow (by simp) (by intro k hk;simp[Value.ownBlock]at hk);obtain⟨ao,cap,rfl,o1,o2,_,o4⟩:=abl hown P3.out;rcases o4 with o4|⟨g,off,cur,rfl,hg,hh,hsz,hat⟩
 ·omega
 have o2':cap<=9223372036854775807:=o2;have HH:=hide hh;have HA:=hide hat;have HSZ:=hide hsz;clear hown hgrow hcells hone hh hat o2 hsz;go_wp2;go_loopw [6] (fun iv wr=>∃(k:Nat) (t:Int) (lo:List Int) (cur':Array Value),k<=A.length/\iv=.int .i64 k/\(0<=t/\t<=1)/\(k=A.length->t=0)/\lo.length=k/\Limb lo/\val lo+vf B k=vf A k+pw k*t/\Wr w1 wr g cur' 3/\cur'.size=cur.size/\At cur' .i64 off (lo++dec t (A.drop k))) (fun iv _=>A.length-(intOf iv).toNat)
 case atStart=>exact⟨0,0,[],cur,Nat.zero_le _,rfl,by omega,fun _=>rfl,rfl,aac,by simp[val,vf,pw],Wr.refl HH.out,rfl,by simpa[ah9]using HA.out⟩
 case round=>
  obtain⟨k,t,lo,cur',hk,rfl,ht,hkt,hlol,hlo,hval,hwr,hcs,hat⟩:=hrel;have HLO:=hide hlo;have HLL:=hide hlol;have HV:=hide hval;have HC:=hide hcs;have hww:Wr w1 wr g cur' 3:=hwr;by_cases hlt:k<A.length
  ·rw[aia A k t hlt]at hat;have ba:=aae P3.out k;obtain⟨a,hak⟩:∃a,A.getD k 0=a:=⟨_,rfl⟩;rw[hak]at hat ba;have dA:(k:Int)<(A.length:Int):=by omega
   have dC:(k:Int)<(cap:Int):=by omega
   by_cases hltB:k<B.length
   ·have sB:=hwr.sl hg hb1 rfl hB;obtain⟨b2,off2,rfl,hcb⟩:=sB.cells (by omega);have cb:=hcb k hltB;have bb:=aae Q3.out k;obtain⟨b,hbk⟩:∃b,B.getD k 0=b:=⟨_,rfl⟩;rw[hbk]at cb bb;have dB:(k:Int)<(B.length:Int):=by omega
    have cd:=hat.cell hwr.here k (by simp;omega);rw[aev _ _ _ _ HLL.out]at cd;have fd:=hwr.free (off+k);have hat2:=hat.set k (a-t-b);rw[afk _ _ _ _ _ HLL.out]at hat2;have hw2:=(hwr.set (off+k) (.int .i64 (a-t-b))).drew;have HC2:Hid ((cur'.setIfInBounds (off+k) (.int .i64 (a-t-b))).size=cur.size):=by show _=_;rw[Array.size_setIfInBounds];exact HC.out
    generalize hcur2:cur'.setIfInBounds (off+k) (.int .i64 (a-t-b))=cur2 at hat2 hw2 HC2;have X2:=hide hat2;have W2:=hide hw2;have KB:=hide hbk;have KA:=hide hak;clear sB hcb hcur2 hat hwr hww hat2 hw2 hbk hak hlol hlo hval hcs;go_wp2;go_region
    generalize (wr.setCell ⟨g,off+k,none⟩ (.int .i64 (a-t-b))).drew=W at W2 ⊢;have hat2:=X2.out;have hw2:=W2.out;have hak:=KA.out;have hbk:=KB.out;clear X2 W2 KA KB cd fd;have hsv:Hid (val (lo ++ [a-t-b])+vf B (k+1)=vf A (k+1)+pw (k+1)*0):=aeu (t':=0) HLL.out hak hbk (by omega) HV.out;have hsv1:Hid (val (lo ++ [a-t-b+10000])+vf B (k+1)=vf A (k+1)+pw (k+1)*1):=aeu (t':=1) HLL.out hak hbk (by omega) HV.out;have htop:Hid (A.length=k+1->0<=a-t-b):=fun h=>ami HLL.out h hBA HLE.out HLO.out hak hbk (by omega) HV.out
    have cs:=hat2.cell hw2.here k (by have:=HLL.out;simp;omega);rw[aev _ _ _ _ HLL.out]at cs;have fs:=hw2.free (off+k);by_cases hneg:a-t-b<0
    ·have hk1:k+1<A.length:=by
      apply Classical.byContradiction;intro hn;have:=htop.out (by omega);omega
     have hat3:=hat2.set k (a-t-b+10000);rw[afk _ _ _ _ _ HLL.out]at hat3;have hw3:=(hw2.set (off+k) (.int .i64 (a-t-b+10000)));have dB1:(k:Int)+1<(A.length:Int):=by omega
     have e3:lo++(a-t-b+10000)::A.drop (k+1)=(lo ++ [a-t-b+10000])++A.getD (k+1) 0::A.drop (k+1+1):=by rw[aa4 A (k+1) hk1];simp
     have HLL3:(lo ++ [a-t-b+10000]).length=k+1:=by simp;exact HLL.out
     rw[e3]at hat3;obtain⟨a',hak'⟩:∃a',A.getD (k+1) 0=a':=⟨_,rfl⟩;have ba':=aae P3.out (k+1);rw[hak']at hat3 ba';have e2:lo++(a-t-b)::A.drop (k+1)=(lo ++ [a-t-b])++A.getD (k+1) 0::A.drop (k+1+1):=by rw[aa4 A (k+1) hk1];simp
     have cs3:=hat2.cell hw2.here (k+1) (by have:=HLL.out;simp;omega);rw[e2,aev _ _ _ _ (by simp;exact HLL.out),hak']at cs3;have fs3:=hw2.free (off+(k+1));have fs4:=hw3.free (off+(k+1));have hat4:=hat3.set (k+1) (a'-1);rw[afk _ _ _ _ _ HLL3]at hat4;have hw4:=hw3.set (off+(k+1)) (.int .i64 (a'-1));rw[show(lo ++ [a-t-b+10000])++(a'-1)::A.drop (k+1+1)=(lo ++ [a-t-b+10000])++dec 1 (A.drop (k+1))from by rw[aia A (k+1) 1 hk1,hak']]at hat4;have HF:=hide hat4;have HW4:=hide hw4;clear hat2 hat3 hat4 e3 e2 hw2 hw3 hw4 HLL3 hak hak' hbk hsv htop;go_wp2;go_roundw
     case rel=>exact⟨k+1,1,lo ++ [a-t-b+10000],_,by omega,by go_num,by omega,fun h=>by omega,by simp;exact HLL.out,aaj.2 ⟨HLO.out,aaf.2 ⟨by omega,aac⟩⟩,hsv1.out,HW4.out,by rw[Array.size_setIfInBounds,Array.size_setIfInBounds];exact HC2.out,HF.out⟩
     case measure=>simp[intOf];omega
    ·have HF:Hid (At cur2 .i64 off ((lo ++ [a-t-b])++dec 0 (A.drop (k+1)))):=by rw[ah9,List.append_assoc];exact hat2
     have HW2:=hide hw2;have HK:=hide (show k+1<=A.length by omega);have HD:=hide hsv.out;clear hat2 hw2 hak hbk hsv hsv1 htop;go_wp2;go_roundw
     case rel=>exact⟨k+1,0,lo ++ [a-t-b],cur2,HK.out,by go_num,by omega,fun _=>rfl,by simp;exact HLL.out,aaj.2 ⟨HLO.out,aaf.2 ⟨by omega,aac⟩⟩,HD.out,HW2.out,HC2.out,HF.out⟩
     case measure=>simp[intOf];omega
   ·have hbk:=ae8 B k hltB;have dB:¬(k:Int)<(B.length:Int):=by omega
    have hat2:At cur' .i64 off (lo++(a-t)::A.drop (k+1)):=hat;have hw2:=hwr;have HC2:=HC;generalize cur'=cur2 at hat2 hw2 HC2;clear hat hww hcs hval hlo hlol;have hsv:Hid (val (lo ++ [a-t])+vf B (k+1)=vf A (k+1)+pw (k+1)*0):=aeu (t':=0) HLL.out hak hbk (by omega) HV.out;have hsv1:Hid (val (lo ++ [a-t+10000])+vf B (k+1)=vf A (k+1)+pw (k+1)*1):=aeu (t':=1) HLL.out hak hbk (by omega) HV.out;have htop:Hid (A.length=k+1->0<=a-t):=fun h=>ami HLL.out h hBA HLE.out HLO.out hak hbk (by omega) HV.out
    have cs:=hat2.cell hw2.here k (by have:=HLL.out;simp;omega);rw[aev _ _ _ _ HLL.out]at cs;have fs:=hw2.free (off+k);by_cases hneg:a-t<0
    ·have hk1:k+1<A.length:=by
      apply Classical.byContradiction;intro hn;have:=htop.out (by omega);omega
     have hat3:=hat2.set k (a-t+10000);rw[afk _ _ _ _ _ HLL.out]at hat3;have hw3:=(hw2.set (off+k) (.int .i64 (a-t+10000)));have dB1:(k:Int)+1<(A.length:Int):=by omega
     have e3:lo++(a-t+10000)::A.drop (k+1)=(lo ++ [a-t+10000])++A.getD (k+1) 0::A.drop (k+1+1):=by rw[aa4 A (k+1) hk1];simp
     have HLL3:(lo ++ [a-t+10000]).length=k+1:=by simp;exact HLL.out
     rw[e3]at hat3;obtain⟨a',hak'⟩:∃a',A.getD (k+1) 0=a':=⟨_,rfl⟩;have ba':=aae P3.out (k+1);rw[hak']at hat3 ba';have e2:lo++(a-t)::A.drop (k+1)=(lo ++ [a-t])++A.getD (k+1) 0::A.drop (k+1+1):=by rw[aa4 A (k+1) hk1];simp
     have cs3:=hat2.cell hw2.here (k+1) (by have:=HLL.out;simp;omega);rw[e2,aev _ _ _ _ (by simp;exact HLL.out),hak']at cs3;have fs3:=hw2.free (off+(k+1));have fs4:=hw3.free (off+(k+1));have hat4:=hat3.set (k+1) (a'-1);rw[afk _ _ _ _ _ HLL3]at hat4;have hw4:=hw3.set (off+(k+1)) (.int .i64 (a'-1));rw[show(lo ++ [a-t+10000])++(a'-1)::A.drop (k+1+1)=(lo ++ [a-t+10000])++dec 1 (A.drop (k+1))from by rw[aia A (k+1) 1 hk1,hak']]at hat4;have HF:=hide hat4;have HW4:=hide hw4;clear hat2 hat3 hat4 e3 e2 hw2 hw3 hw4 HLL3 hak hak' hbk hsv htop;go_wp2;go_roundw
     case rel=>exact⟨k+1,1,lo ++ [a-t+10000],_,by omega,by go_num,by omega,fun h=>by omega,by simp;exact HLL.out,aaj.2 ⟨HLO.out,aaf.2 ⟨by omega,aac⟩⟩,hsv1.out,HW4.out,by rw[Array.size_setIfInBounds,Array.size_setIfInBounds];exact HC2.out,HF.out⟩
     case measure=>simp[intOf];omega
    ·have HF:Hid (At cur2 .i64 off ((lo ++ [a-t])++dec 0 (A.drop (k+1)))):=by rw[ah9,List.append_assoc];exact hat2
     have HW2:=hide hw2;have HK:=hide (show k+1<=A.length by omega);have HD:=hide hsv.out;clear hat2 hw2 hak hbk hsv hsv1 htop;go_wp2;go_roundw
     case rel=>exact⟨k+1,0,lo ++ [a-t],cur2,HK.out,by go_num,by omega,fun _=>rfl,by simp;exact HLL.out,aaj.2 ⟨HLO.out,aaf.2 ⟨by omega,aac⟩⟩,HD.out,HW2.out,HC2.out,HF.out⟩
     case measure=>simp[intOf];omega
  ·have hkn:k=A.length:=by omega
   have ht0:=hkt hkn;have hvv:val lo=val A-val B:=by
    have h9:=HV.out;rw[ht0,Int.mul_zero,Int.add_zero,aa7 A _ (by omega),aa7 B _ (by omega)]at h9;omega
   have how:Ow w.heap.size wr (.slice (some ⟨g,off,none⟩) A.length cap) lo:=by
    rw[List.drop_of_length_le (by omega)]at hat;simp only[dec,List.append_nil]at hat;exact⟨_,cap,by rw[hlol,hkn],by omega,o2',hlo,.inr ⟨g,off,cur',rfl,hg,hwr.here,by rw[hcs];exact HSZ.out,hat⟩⟩
   have D:Hid (Dl w.heap.size wr (.slice (some ⟨g,off,none⟩) A.length cap) (val A-val B) A.length):=⟨lo,how,hvv,by omega⟩;have hbel:Below w.heap.size w wr:=hb1.trans (hwr.below hg);have dA:¬(k:Int)<(A.length:Int):=by omega
   clear hvv how hat hwr hww hcs hval hlo hlol ht0 hkt hkn;go_wp2;go_ret;exact⟨_,rfl,D.out,hbel⟩
end Dm
namespace Dm
open Go.RowKit
open Lm (hide aao aaa)
def sg(ng:Bool)(x:Int):Int:=if ng then -x else x
def Wh(w:World)(ng:Bool)(ao:Option Addr)(cap:Nat)(rs:List Int)(z:Int):Prop:=Got w ao cap rs (z.natAbs:Int)/\ng=decide (z<0)
theorem Wh.sl{w:World}{ng:Bool}{ao:Option Addr}{cap:Nat}{rs:List Int}{z:Int}(h:Wh w ng ao cap rs z):Sl w (.slice ao rs.length cap) rs:=h.1.sl
theorem Wh.below{w w':World}{ng:Bool}{ao:Option Addr}{cap:Nat}{rs:List Int}{z:Int}(h:Wh w ng ao cap rs z)(hb:Below w.heap.size w w'):Wh w' ng ao cap rs z:=⟨h.1.below hb,h.2⟩
theorem Wh.worth{w:World}{ng:Bool}{ao:Option Addr}{cap:Nat}{rs:List Int}{z:Int}(h:Wh w ng ao cap rs z):sg ng (Dm.val rs)=z:=by
 rw[h.1.val,h.2,sg];by_cases hz:z<0
 ·simp[hz];omega
 ·simp[hz];omega
theorem Wh.of{w:World}{ao:Option Addr}{cap:Nat}{rs:List Int}{x:Int}(ng:Bool)(h:Got w ao cap rs x):Wh w (ng&&decide (0<rs.length)) ao cap rs (sg ng x):=by
 have h0:0<=x:=by rw[<-h.val];exact(aab h.canon.1).1
 have hz:=ac5 h.canon;rw[h.val]at hz;have hl:rs = []↔rs.length=0:=List.length_eq_zero_iff.symm;cases ng with
 |false=>
  refine⟨?_,?_⟩
  ·have e:((sg false x).natAbs:Int)=x:=by simp[sg];omega
   rw[e];exact h
  ·simp[sg];omega
 |true=>
  refine⟨?_,?_⟩
  ·have e:((sg true x).natAbs:Int)=x:=by simp[sg];omega
   rw[e];exact h
  ·have e3:(0<rs.length)↔(sg true x<0):=by
    simp only[sg,if_true];constructor
    ·intro h1;have:x≠0:=fun h2=>by have:=hl.1 (hz.1 h2);omega
     omega
    ·intro h1;have:rs.length≠0:=fun h2=>by have:=hz.2 (hl.2 h2);omega
     omega
   rw[Bool.true_and];exact decide_eq_decide.2 e3
def Box(w:World)(g:Nat)(ng:Bool)(v:Value):Prop:=w.heap[g]? = some (.cells #[.bool ng,v] 85 (0,0))
theorem Box.below{w w':World}{g:Nat}{ng:Bool}{v:Value}(h:Box w g ng v)(hb:Below w.heap.size w w'):Box w' g ng v:=(hb.block g (aaa h)).trans h
theorem Box.facts{w:World}{g:Nat}{ng:Bool}{v:Value}(h:Box w g ng v):w.cell? ⟨g,0,none⟩=some (.bool ng)/\w.cell? ⟨g,1,none⟩=some v/\w.frozen? ⟨g,0,none⟩=false/\w.frozen? ⟨g,1,none⟩=false:=
 ⟨by rw[cell_of_row _ _ _ _ _ (0,0) h];rfl,by rw[cell_of_row _ _ _ _ _ (0,0) h];rfl,frozen_of_row _ _ _ _ _ h,frozen_of_row _ _ _ _ _ h⟩
theorem Box.set{w:World}{g:Nat}{ng:Bool}{v:Value}(h:Box w g ng v)(b:Bool)(u:Value):Box ((w.setCell ⟨g,0,none⟩ (.bool b)).setCell ⟨g,1,none⟩ u) g b u:=by
 have h1:=heap_setCell_same w g 0 _ _ (.bool b) h;have h2:=heap_setCell_same _ g 1 _ _ u h1;exact h2
theorem Box.sl{w:World}{g:Nat}{ng:Bool}{ao:Option Addr}{n cap:Nat}(h:Box w g ng (.slice ao n cap))(b:Bool)(u:Value){v:Value}{zs:List Int}(hs:Sl w v zs):Sl ((w.setCell ⟨g,0,none⟩ (.bool b)).setCell ⟨g,1,none⟩ u) v zs:=by
 refine(hs.setCell h.facts.1 (fun z=>by simp) _).setCell (u0:=.slice ao n cap) ?_ (fun z=>by simp) _;rw[World.cell?_setCell_other _ _ _ _ (by simp)];exact h.facts.2.1
theorem Box.wh{w:World}{g:Nat}{ng:Bool}{ao:Option Addr}{n cap:Nat}(h:Box w g ng (.slice ao n cap))(b:Bool)(u:Value){nz:Bool}{az:Option Addr}{cz:Nat}{rs:List Int}{z:Int}(hs:Wh w nz az cz rs z):Wh ((w.setCell ⟨g,0,none⟩ (.bool b)).setCell ⟨g,1,none⟩ u) nz az cz rs z:=
 ⟨⟨h.sl b u hs.1.1,hs.1.2⟩,hs.2⟩
theorem aad{B:Nat}{w w1:World}{g:Nat}(hb:Below B w w1)(hg:B<=g)(b u:Value):Below B w ((w1.setCell ⟨g,0,none⟩ b).setCell ⟨g,1,none⟩ u):=(hb.setCell hg _).setCell hg _
theorem boxed(w:World)(ng:Bool)(v:Value):Box (w.alloc (.cells #[.bool ng,v] 85)) w.heap.size ng v/\Below w.heap.size w (w.alloc (.cells #[.bool ng,v] 85))/\(w.alloc (.cells #[.bool ng,v] 85)).heap.size=w.heap.size+1:=
 ⟨heap_alloc_new w _,(Below.refl _ _).alloc (Nat.le_refl _) _,by simp⟩
theorem abx(w:World)(ng:Bool)(v:Value):∃w0:World,(w.alloc (.cells #[.bool ng,v] 85)).alloc (.cells #[.bool false,.slice none 0 0] 85)=w0/\Box w0 w.heap.size ng v/\Box w0 (w.heap.size+1) false (.slice none 0 0)/\Below w.heap.size w w0/\w0.heap.size=w.heap.size+2:=by
 have h1:=boxed w ng v;have h2:=boxed (w.alloc (.cells #[.bool ng,v] 85)) false (.slice none 0 0);rw[h1.2.2]at h2;refine⟨_,rfl,h1.1.below (by rw[h1.2.2];exact h2.2.1),h2.1,h1.2.1.trans (h2.2.1.mono (by omega)),h2.2.2⟩
theorem aip(ng:Bool)(x:Int):sg (!ng) x = - sg ng x:=by cases ng <;> simp[sg]
theorem abj(w:World)(ng:Bool)(v:Value):∃w0:World,w.alloc (.cells #[.bool ng,v] 85)=w0/\Box w0 w.heap.size ng v/\Below w.heap.size w w0/\w0.heap.size=w.heap.size+1:=
 ⟨_,rfl,(boxed w ng v).1,(boxed w ng v).2.1,(boxed w ng v).2.2⟩
theorem ac9(w:World)(nx:Bool)(vx:Value)(ny:Bool)(vy:Value):∃w0:World,(w.alloc (.cells #[.bool nx,vx] 85)).alloc (.cells #[.bool ny,vy] 85)=w0/\Box w0 w.heap.size nx vx/\Box w0 (w.heap.size+1) ny vy/\Below w.heap.size w w0/\w0.heap.size=w.heap.size+2:=by
 have h1:=boxed w nx vx;have h2:=boxed (w.alloc (.cells #[.bool nx,vx] 85)) ny vy;rw[h1.2.2]at h2;refine⟨_,rfl,h1.1.below (by rw[h1.2.2];exact h2.2.1),h2.1,h1.2.1.trans (h2.2.1.mono (by omega)),h2.2.2⟩
theorem acf(w:World)(nx:Bool)(vx:Value)(ny:Bool)(vy:Value):∃w0:World,((w.alloc (.cells #[.bool nx,vx] 85)).alloc (.cells #[.bool ny,vy] 85)).alloc (.cells #[.bool false,.slice none 0 0] 85)=w0/\Box w0 w.heap.size nx vx/\Box w0 (w.heap.size+1) ny vy/\Box w0 (w.heap.size+1+1) false (.slice none 0 0)/\Below w.heap.size w w0/\w0.heap.size=w.heap.size+3:=by
 obtain⟨w2,e2,b1,b2,hb,hs⟩:=ac9 w nx vx ny vy;have h2:=boxed w2 false (.slice none 0 0);rw[e2];refine⟨_,rfl,b1.below h2.2.1,b2.below h2.2.1,?_,hb.trans (h2.2.1.mono (by omega)),by rw[h2.2.2,hs]⟩;have h3:=h2.1;rw[hs]at h3;exact h3
theorem agf(ng:Bool)(x y:Int):sg ng (x+y)=sg ng x+sg ng y:=by cases ng <;> simp[sg] <;> omega
theorem aiq(n1 n2:Bool)(x y:Int):sg (n1 != n2) (x*y)=sg n1 x*sg n2 y:=by cases n1 <;> cases n2 <;> simp[sg,Int.mul_neg,Int.neg_mul]
theorem Dl.open{B:Nat}{w:World}{v:Value}{x:Int}{n:Nat}(h:Dl B w v x n):∃ao cap ds,v=.slice ao ds.length cap/\Sl w (.slice ao ds.length cap) ds/\Dm.val ds=x/\ds.length<=n:=by
 obtain⟨ds,ho,hv,hn⟩:=h;obtain⟨ao,cap,rfl,hs,_,_⟩:=ho.open;exact⟨ao,cap,ds,rfl,hs,hv,hn⟩
theorem abr(w:World)(ng:Bool)(ao:Option Addr)(cap:Nat)(ds:List Int)(x:Int)(h:Sl w (.slice ao ds.length cap) ds)(hv:Dm.val ds=x):
  Calls Tryz.prog 121 #[.bool ng,.slice ao ds.length cap] w fun e w'=>∃ng' rs,e=.returned (.agg #[.bool ng',.slice ao rs.length cap])/\Wh w' ng' ao cap rs (sg ng x)/\rs.length<=ds.length/\Below w.heap.size w w':=by
 refine(ame w ng ao ds.length cap ds h).mono ?_;rintro e w' ⟨rfl,hb⟩;have hl:=h.parts.2.2.2;have ht:=aaw ds;have e1:(ds.take (tl ds)).length=tl ds:=by rw[List.length_take];omega
 have g:Got w' ao cap (ds.take (tl ds)) x:=⟨by rw[e1];exact(h.take ht).below hb,aa0 hl,by rw[aai,hv]⟩;have g2:=Wh.of ng g;rw[e1]at g2;exact⟨_,ds.take (tl ds),by rw[e1],g2,by omega,hb⟩
theorem Wh.zero{w:World}{ng:Bool}{ao:Option Addr}{cap:Nat}{rs:List Int}{z:Int}(h:Wh w ng ao cap rs z):z=0↔rs = []:=by
 have:=ac5 h.1.canon;rw[h.1.val]at this;rw[<-this];omega
theorem Wh.len{w:World}{ng:Bool}{ao:Option Addr}{cap:Nat}{rs:List Int}{z:Int}(h:Wh w ng ao cap rs z){m:Nat}(hz:(z.natAbs:Int)<pw m):rs.length<=m:=aax h.1.canon (by rw[h.1.val];exact hz)
end Dm
namespace Dm
open Go.RowKit
open Lm (hide aao aaa cmpI abg abi)
theorem as4(w:World)(n1:Bool)(a1:Option Addr)(c1:Nat)(xs:List Int)(x:Int)(hx:Got w a1 c1 xs x)(a2:Option Addr)(c2:Nat)(ys:List Int)(y:Int)(hy:Got w a2 c2 ys y)(m1:xs.length<=400000)(m2:ys.length<=400000):
  Calls Tryz.prog 179 #[.agg #[.bool n1,.slice a1 xs.length c1],.agg #[.bool n1,.slice a2 ys.length c2]] w fun e w'=>∃ng' ao cap rs,e=.returned (.agg #[.bool ng',.slice ao rs.length cap])/\Wh w' ng' ao cap rs (sg n1 x+sg n1 y)/\rs.length<=xs.length+ys.length+1/\Below w.heap.size w w':=by
 obtain⟨w0,e0,bx,by',br,hb0,hs0⟩:=acf w n1 (.slice a1 xs.length c1) (n1) (.slice a2 ys.length c2);have E0:=hide e0;have hx0:=hx.below hb0;have hy0:=hy.below hb0;have HB:=hb0;have ne1:¬(w.heap.size=w.heap.size+1+1):=by omega
 have ne2:¬(w.heap.size+1+1=w.heap.size):=by omega
 clear e0 hs0;cases n1 with
 |false=>
  go_enter Tryz.func179,Tryz.ntmps179
  go_wp2_with fail
  rw[E0.out];obtain⟨bx1,bx2,bx3,bx4⟩:=bx.facts;obtain⟨by1,by2,by3,by4⟩:=by'.facts;obtain⟨br1,br2,br3,br4⟩:=br.facts;go_region_held3 (fun w'=>w'.cell? ⟨w.heap.size,0,none⟩=some (.bool false)/\w'.cell? ⟨w.heap.size,1,none⟩=some (.slice a1 xs.length c1)/\w'.cell? ⟨w.heap.size+1,0,none⟩=some (.bool false)/\w'.cell? ⟨w.heap.size+1,1,none⟩=some (.slice a2 ys.length c2)) (go_keep) (first
    |(go_at_call 121;have _hq:=hb1';refine(abr _ _ p1 q1 d1 _ (s1.below (by repeat(first|exact Below.refl _ _|refine Below.drew ?_))) e1).mono ?_;rintro e w2 ⟨ng2,r2,rfl,G2,l2,hb2⟩;have hb2':Below w1.heap.size w1 w2:=(show Below w1.heap.size w1 _ by repeat(first|exact Below.refl _ _|refine Below.drew ?_)).trans hb2;have HB:=HB.trans (hb2'.mono HB.size);replace bx:=bx.below hb2';clear bx1 bx2 bx3 bx4;obtain⟨bx1,bx2,bx3,bx4⟩:=bx.facts;replace by':=by'.below hb2';clear by1 by2 by3 by4;obtain⟨by1,by2,by3,by4⟩:=by'.facts;replace br:=br.below hb2';clear br1 br2 br3 br4;obtain⟨br1,br2,br3,br4⟩:=br.facts)
    |(go_at_call 191;refine(amh _ _ _ _ xs (hx0.sl.below (by repeat(first|exact Below.refl _ _|refine Below.drew ?_))) _ _ _ ys (hy0.sl.below (by repeat(first|exact Below.refl _ _|refine Below.drew ?_))) (by omega) (by omega)).mono ?_;rintro e w1 ⟨v1,rfl,D1,hb1⟩;obtain⟨p1,q1,d1,rfl,s1,e1,l1⟩:=D1.open;clear D1;have hb1':Below w0.heap.size w0 w1:=(show Below w0.heap.size w0 _ by repeat(first|exact Below.refl _ _|refine Below.drew ?_)).trans hb1;have HB:=HB.trans (hb1'.mono HB.size);replace bx:=bx.below hb1';clear bx1 bx2 bx3 bx4;obtain⟨bx1,bx2,bx3,bx4⟩:=bx.facts;replace by':=by'.below hb1';clear by1 by2 by3 by4;obtain⟨by1,by2,by3,by4⟩:=by'.facts;replace br:=br.below hb1';clear br1 br2 br3 br4;obtain⟨br1,br2,br3,br4⟩:=br.facts))
  all_goals
   have X:=hide (br.set ng2 (.slice p1 r2.length q1)).facts;have Y:=hide (br.wh ng2 (.slice p1 r2.length q1) G2);have Z:=hide (aad HB (show w.heap.size<=w.heap.size+1+1 by omega) (.bool ng2) (.slice p1 r2.length q1));clear bx1 bx2 bx3 bx4 by1 by2 by3 by4;go_wp2;refine bodyPost_ret (v:=.agg #[.bool ng2,.slice p1 r2.length q1]) ?_ rfl ⟨ng2,p1,q1,r2,rfl,by rw[<-agf,<-hx.val,<-hy.val];exact Y.out,by omega,Z.out⟩;simp[results,Tryz.results179,go_sem,X.out.1,X.out.2.1]
 |true=>
  go_enter Tryz.func179,Tryz.ntmps179
  go_wp2_with fail
  rw[E0.out];obtain⟨bx1,bx2,bx3,bx4⟩:=bx.facts;obtain⟨by1,by2,by3,by4⟩:=by'.facts;obtain⟨br1,br2,br3,br4⟩:=br.facts;go_region_held3 (fun w'=>w'.cell? ⟨w.heap.size,0,none⟩=some (.bool true)/\w'.cell? ⟨w.heap.size,1,none⟩=some (.slice a1 xs.length c1)/\w'.cell? ⟨w.heap.size+1,0,none⟩=some (.bool true)/\w'.cell? ⟨w.heap.size+1,1,none⟩=some (.slice a2 ys.length c2)) (go_keep) (first
    |(go_at_call 121;have _hq:=hb1';refine(abr _ _ p1 q1 d1 _ (s1.below (by repeat(first|exact Below.refl _ _|refine Below.drew ?_))) e1).mono ?_;rintro e w2 ⟨ng2,r2,rfl,G2,l2,hb2⟩;have hb2':Below w1.heap.size w1 w2:=(show Below w1.heap.size w1 _ by repeat(first|exact Below.refl _ _|refine Below.drew ?_)).trans hb2;have HB:=HB.trans (hb2'.mono HB.size);replace bx:=bx.below hb2';clear bx1 bx2 bx3 bx4;obtain⟨bx1,bx2,bx3,bx4⟩:=bx.facts;replace by':=by'.below hb2';clear by1 by2 by3 by4;obtain⟨by1,by2,by3,by4⟩:=by'.facts;replace br:=br.below hb2';clear br1 br2 br3 br4;obtain⟨br1,br2,br3,br4⟩:=br.facts)
    |(go_at_call 191;refine(amh _ _ _ _ xs (hx0.sl.below (by repeat(first|exact Below.refl _ _|refine Below.drew ?_))) _ _ _ ys (hy0.sl.below (by repeat(first|exact Below.refl _ _|refine Below.drew ?_))) (by omega) (by omega)).mono ?_;rintro e w1 ⟨v1,rfl,D1,hb1⟩;obtain⟨p1,q1,d1,rfl,s1,e1,l1⟩:=D1.open;clear D1;have hb1':Below w0.heap.size w0 w1:=(show Below w0.heap.size w0 _ by repeat(first|exact Below.refl _ _|refine Below.drew ?_)).trans hb1;have HB:=HB.trans (hb1'.mono HB.size);replace bx:=bx.below hb1';clear bx1 bx2 bx3 bx4;obtain⟨bx1,bx2,bx3,bx4⟩:=bx.facts;replace by':=by'.below hb1';clear by1 by2 by3 by4;obtain⟨by1,by2,by3,by4⟩:=by'.facts;replace br:=br.below hb1';clear br1 br2 br3 br4;obtain⟨br1,br2,br3,br4⟩:=br.facts))
  all_goals
   have X:=hide (br.set ng2 (.slice p1 r2.length q1)).facts;have Y:=hide (br.wh ng2 (.slice p1 r2.length q1) G2);have Z:=hide (aad HB (show w.heap.size<=w.heap.size+1+1 by omega) (.bool ng2) (.slice p1 r2.length q1));clear bx1 bx2 bx3 bx4 by1 by2 by3 by4;go_wp2;refine bodyPost_ret (v:=.agg #[.bool ng2,.slice p1 r2.length q1]) ?_ rfl ⟨ng2,p1,q1,r2,rfl,by rw[<-agf,<-hx.val,<-hy.val];exact Y.out,by omega,Z.out⟩;simp[results,Tryz.results179,go_sem,X.out.1,X.out.2.1]
theorem ay9(w:World)(n1:Bool)(a1:Option Addr)(c1:Nat)(xs:List Int)(x:Int)(hx:Got w a1 c1 xs x)(a2:Option Addr)(c2:Nat)(ys:List Int)(y:Int)(hy:Got w a2 c2 ys y)(m1:xs.length<=400000)(m2:ys.length<=400000)(hle:y<=x)(h0:0<x):
  Calls Tryz.prog 179 #[.agg #[.bool n1,.slice a1 xs.length c1],.agg #[.bool (!n1),.slice a2 ys.length c2]] w fun e w'=>∃ng' ao cap rs,e=.returned (.agg #[.bool ng',.slice ao rs.length cap])/\Wh w' ng' ao cap rs (sg n1 x+sg (!n1) y)/\rs.length<=xs.length+ys.length+1/\Below w.heap.size w w':=by
 obtain⟨w0,e0,bx,by',br,hb0,hs0⟩:=acf w n1 (.slice a1 xs.length c1) (!n1) (.slice a2 ys.length c2);have E0:=hide e0;have hx0:=hx.below hb0;have hy0:=hy.below hb0;have HB:=hb0;have ne1:¬(w.heap.size=w.heap.size+1+1):=by omega
 have ne2:¬(w.heap.size+1+1=w.heap.size):=by omega
 clear e0 hs0;have K:=hide (fun w hx hy=>afz w n1 (!n1) a1 a2 c1 c2 xs ys x y hx hy);have hc:0<=cmpI x y:=by
  rcases Int.lt_trichotomy x y with h|h|h
  ·omega
  ·rw[Lm.acv h];omega
  ·rw[abi h];omega
 have hpos:0<xs.length:=by
  apply Classical.byContradiction;intro hn;have:=amg hx (by omega);omega
 have hlen:ys.length<=xs.length:=by
  apply Classical.byContradiction;intro hn;have:=adt hx.canon hy.canon (by omega);rw[hx.val,hy.val]at this;omega
 generalize cmpI x y=cv at K hc;cases n1 with
 |false=>
  simp only[Bool.not_false]at E0 by' K ⊢;go_enter Tryz.func179,Tryz.ntmps179
  go_wp2_with fail
  rw[E0.out];obtain⟨bx1,bx2,bx3,bx4⟩:=bx.facts;obtain⟨by1,by2,by3,by4⟩:=by'.facts;obtain⟨br1,br2,br3,br4⟩:=br.facts;refine(K.out _ hx0 hy0).mono ?_;rintro e w9 ⟨rfl,hb9⟩;replace HB:=HB.trans (hb9.mono HB.size);replace hx0:=hx0.below hb9;replace hy0:=hy0.below hb9;replace bx:=bx.below hb9;replace by':=by'.below hb9;replace br:=br.below hb9;clear bx1 bx2 bx3 bx4 by1 by2 by3 by4 br1 br2 br3 br4;obtain⟨bx1,bx2,bx3,bx4⟩:=bx.facts;obtain⟨by1,by2,by3,by4⟩:=by'.facts;obtain⟨br1,br2,br3,br4⟩:=br.facts;go_wp2_with fail
  go_region_held3 (fun w'=>w'.cell? ⟨w.heap.size,0,none⟩=some (.bool false)/\w'.cell? ⟨w.heap.size,1,none⟩=some (.slice a1 xs.length c1)/\w'.cell? ⟨w.heap.size+1,0,none⟩=some (.bool true)/\w'.cell? ⟨w.heap.size+1,1,none⟩=some (.slice a2 ys.length c2)) (go_keep) (first
    |(go_at_call 121;have _hq:=hb1';refine(abr _ _ p1 q1 d1 _ (s1.below (by repeat(first|exact Below.refl _ _|refine Below.drew ?_))) e1).mono ?_;rintro e w2 ⟨ng2,r2,rfl,G2,l2,hb2⟩;have hb2':Below w1.heap.size w1 w2:=(show Below w1.heap.size w1 _ by repeat(first|exact Below.refl _ _|refine Below.drew ?_)).trans hb2;have HB:=HB.trans (hb2'.mono HB.size);replace bx:=bx.below hb2';clear bx1 bx2 bx3 bx4;obtain⟨bx1,bx2,bx3,bx4⟩:=bx.facts;replace by':=by'.below hb2';clear by1 by2 by3 by4;obtain⟨by1,by2,by3,by4⟩:=by'.facts;replace br:=br.below hb2';clear br1 br2 br3 br4;obtain⟨br1,br2,br3,br4⟩:=br.facts)
    |(go_at_call 192;refine(af1 _ _ _ _ xs (hx0.sl.below (by repeat(first|exact Below.refl _ _|refine Below.drew ?_))) _ _ _ ys (hy0.sl.below (by repeat(first|exact Below.refl _ _|refine Below.drew ?_))) (by omega) hlen (by rw[hx.val,hy.val];exact hle) hpos).mono ?_;rintro e w1 ⟨v1,rfl,D1,hb1⟩;obtain⟨p1,q1,d1,rfl,s1,e1,l1⟩:=D1.open;clear D1;have hb1':Below w9.heap.size w9 w1:=(show Below w9.heap.size w9 _ by repeat(first|exact Below.refl _ _|refine Below.drew ?_)).trans hb1;have HB:=HB.trans (hb1'.mono HB.size);replace bx:=bx.below hb1';clear bx1 bx2 bx3 bx4;obtain⟨bx1,bx2,bx3,bx4⟩:=bx.facts;replace by':=by'.below hb1';clear by1 by2 by3 by4;obtain⟨by1,by2,by3,by4⟩:=by'.facts;replace br:=br.below hb1';clear br1 br2 br3 br4;obtain⟨br1,br2,br3,br4⟩:=br.facts))
  all_goals
   have X:=hide (br.set ng2 (.slice p1 r2.length q1)).facts;have Y:=hide (br.wh ng2 (.slice p1 r2.length q1) G2);have Z:=hide (aad HB (show w.heap.size<=w.heap.size+1+1 by omega) (.bool ng2) (.slice p1 r2.length q1));clear bx1 bx2 bx3 bx4 by1 by2 by3 by4;go_wp2;refine bodyPost_ret (v:=.agg #[.bool ng2,.slice p1 r2.length q1]) ?_ rfl ⟨ng2,p1,q1,r2,rfl,by rw[show sg false x+sg true y=sg false (Dm.val xs-Dm.val ys) by rw[hx.val,hy.val];simp[sg];omega];exact Y.out,by omega,Z.out⟩;simp[results,Tryz.results179,go_sem,X.out.1,X.out.2.1]
 |true=>
  simp only[Bool.not_true]at E0 by' K ⊢;go_enter Tryz.func179,Tryz.ntmps179
  go_wp2_with fail
  rw[E0.out];obtain⟨bx1,bx2,bx3,bx4⟩:=bx.facts;obtain⟨by1,by2,by3,by4⟩:=by'.facts;obtain⟨br1,br2,br3,br4⟩:=br.facts;refine(K.out _ hx0 hy0).mono ?_;rintro e w9 ⟨rfl,hb9⟩;replace HB:=HB.trans (hb9.mono HB.size);replace hx0:=hx0.below hb9;replace hy0:=hy0.below hb9;replace bx:=bx.below hb9;replace by':=by'.below hb9;replace br:=br.below hb9;clear bx1 bx2 bx3 bx4 by1 by2 by3 by4 br1 br2 br3 br4;obtain⟨bx1,bx2,bx3,bx4⟩:=bx.facts;obtain⟨by1,by2,by3,by4⟩:=by'.facts;obtain⟨br1,br2,br3,br4⟩:=br.facts;go_wp2_with fail
  go_region_held3 (fun w'=>w'.cell? ⟨w.heap.size,0,none⟩=some (.bool true)/\w'.cell? ⟨w.heap.size,1,none⟩=some (.slice a1 xs.length c1)/\w'.cell? ⟨w.heap.size+1,0,none⟩=some (.bool false)/\w'.cell? ⟨w.heap.size+1,1,none⟩=some (.slice a2 ys.length c2)) (go_keep) (first
    |(go_at_call 121;have _hq:=hb1';refine(abr _ _ p1 q1 d1 _ (s1.below (by repeat(first|exact Below.refl _ _|refine Below.drew ?_))) e1).mono ?_;rintro e w2 ⟨ng2,r2,rfl,G2,l2,hb2⟩;have hb2':Below w1.heap.size w1 w2:=(show Below w1.heap.size w1 _ by repeat(first|exact Below.refl _ _|refine Below.drew ?_)).trans hb2;have HB:=HB.trans (hb2'.mono HB.size);replace bx:=bx.below hb2';clear bx1 bx2 bx3 bx4;obtain⟨bx1,bx2,bx3,bx4⟩:=bx.facts;replace by':=by'.below hb2';clear by1 by2 by3 by4;obtain⟨by1,by2,by3,by4⟩:=by'.facts;replace br:=br.below hb2';clear br1 br2 br3 br4;obtain⟨br1,br2,br3,br4⟩:=br.facts)
    |(go_at_call 192;refine(af1 _ _ _ _ xs (hx0.sl.below (by repeat(first|exact Below.refl _ _|refine Below.drew ?_))) _ _ _ ys (hy0.sl.below (by repeat(first|exact Below.refl _ _|refine Below.drew ?_))) (by omega) hlen (by rw[hx.val,hy.val];exact hle) hpos).mono ?_;rintro e w1 ⟨v1,rfl,D1,hb1⟩;obtain⟨p1,q1,d1,rfl,s1,e1,l1⟩:=D1.open;clear D1;have hb1':Below w9.heap.size w9 w1:=(show Below w9.heap.size w9 _ by repeat(first|exact Below.refl _ _|refine Below.drew ?_)).trans hb1;have HB:=HB.trans (hb1'.mono HB.size);replace bx:=bx.below hb1';clear bx1 bx2 bx3 bx4;obtain⟨bx1,bx2,bx3,bx4⟩:=bx.facts;replace by':=by'.below hb1';clear by1 by2 by3 by4;obtain⟨by1,by2,by3,by4⟩:=by'.facts;replace br:=br.below hb1';clear br1 br2 br3 br4;obtain⟨br1,br2,br3,br4⟩:=br.facts))
  all_goals
   have X:=hide (br.set ng2 (.slice p1 r2.length q1)).facts;have Y:=hide (br.wh ng2 (.slice p1 r2.length q1) G2);have Z:=hide (aad HB (show w.heap.size<=w.heap.size+1+1 by omega) (.bool ng2) (.slice p1 r2.length q1));clear bx1 bx2 bx3 bx4 by1 by2 by3 by4;go_wp2;refine bodyPost_ret (v:=.agg #[.bool ng2,.slice p1 r2.length q1]) ?_ rfl ⟨ng2,p1,q1,r2,rfl,by rw[show sg true x+sg false y=sg true (Dm.val xs-Dm.val ys) by rw[hx.val,hy.val];simp[sg];omega];exact Y.out,by omega,Z.out⟩;simp[results,Tryz.results179,go_sem,X.out.1,X.out.2.1]
theorem aza(w:World)(n1:Bool)(a1:Option Addr)(c1:Nat)(xs:List Int)(x:Int)(hx:Got w a1 c1 xs x)(a2:Option Addr)(c2:Nat)(ys:List Int)(y:Int)(hy:Got w a2 c2 ys y)(m1:xs.length<=400000)(m2:ys.length<=400000)(hle:x<y):
  Calls Tryz.prog 179 #[.agg #[.bool n1,.slice a1 xs.length c1],.agg #[.bool (!n1),.slice a2 ys.length c2]] w fun e w'=>∃ng' ao cap rs,e=.returned (.agg #[.bool ng',.slice ao rs.length cap])/\Wh w' ng' ao cap rs (sg n1 x+sg (!n1) y)/\rs.length<=xs.length+ys.length+1/\Below w.heap.size w w':=by
 obtain⟨w0,e0,bx,by',br,hb0,hs0⟩:=acf w n1 (.slice a1 xs.length c1) (!n1) (.slice a2 ys.length c2);have E0:=hide e0;have hx0:=hx.below hb0;have hy0:=hy.below hb0;have HB:=hb0;have ne1:¬(w.heap.size=w.heap.size+1+1):=by omega
 have ne2:¬(w.heap.size+1+1=w.heap.size):=by omega
 clear e0 hs0;have K:=hide (fun w hx hy=>afz w n1 (!n1) a1 a2 c1 c2 xs ys x y hx hy);have hc:¬0<=cmpI x y:=by rw[abg hle];omega
 have hpos:0<ys.length:=by
  apply Classical.byContradiction;intro hn;have h1:=amg hy (by omega);have h2:=(aab hx.canon.1).1;rw[hx.val]at h2;omega
 have hlen:xs.length<=ys.length:=by
  apply Classical.byContradiction;intro hn;have:=adt hy.canon hx.canon (by omega);rw[hx.val,hy.val]at this;omega
 generalize cmpI x y=cv at K hc;cases n1 with
 |false=>
  simp only[Bool.not_false]at E0 by' K ⊢;go_enter Tryz.func179,Tryz.ntmps179
  go_wp2_with fail
  rw[E0.out];obtain⟨bx1,bx2,bx3,bx4⟩:=bx.facts;obtain⟨by1,by2,by3,by4⟩:=by'.facts;obtain⟨br1,br2,br3,br4⟩:=br.facts;refine(K.out _ hx0 hy0).mono ?_;rintro e w9 ⟨rfl,hb9⟩;replace HB:=HB.trans (hb9.mono HB.size);replace hx0:=hx0.below hb9;replace hy0:=hy0.below hb9;replace bx:=bx.below hb9;replace by':=by'.below hb9;replace br:=br.below hb9;clear bx1 bx2 bx3 bx4 by1 by2 by3 by4 br1 br2 br3 br4;obtain⟨bx1,bx2,bx3,bx4⟩:=bx.facts;obtain⟨by1,by2,by3,by4⟩:=by'.facts;obtain⟨br1,br2,br3,br4⟩:=br.facts;go_wp2_with fail
  go_region_held3 (fun w'=>w'.cell? ⟨w.heap.size,0,none⟩=some (.bool false)/\w'.cell? ⟨w.heap.size,1,none⟩=some (.slice a1 xs.length c1)/\w'.cell? ⟨w.heap.size+1,0,none⟩=some (.bool true)/\w'.cell? ⟨w.heap.size+1,1,none⟩=some (.slice a2 ys.length c2)) (go_keep) (first
    |(go_at_call 121;have _hq:=hb1';refine(abr _ _ p1 q1 d1 _ (s1.below (by repeat(first|exact Below.refl _ _|refine Below.drew ?_))) e1).mono ?_;rintro e w2 ⟨ng2,r2,rfl,G2,l2,hb2⟩;have hb2':Below w1.heap.size w1 w2:=(show Below w1.heap.size w1 _ by repeat(first|exact Below.refl _ _|refine Below.drew ?_)).trans hb2;have HB:=HB.trans (hb2'.mono HB.size);replace bx:=bx.below hb2';clear bx1 bx2 bx3 bx4;obtain⟨bx1,bx2,bx3,bx4⟩:=bx.facts;replace by':=by'.below hb2';clear by1 by2 by3 by4;obtain⟨by1,by2,by3,by4⟩:=by'.facts;replace br:=br.below hb2';clear br1 br2 br3 br4;obtain⟨br1,br2,br3,br4⟩:=br.facts)
    |(go_at_call 192;refine(af1 _ _ _ _ ys (hy0.sl.below (by repeat(first|exact Below.refl _ _|refine Below.drew ?_))) _ _ _ xs (hx0.sl.below (by repeat(first|exact Below.refl _ _|refine Below.drew ?_))) (by omega) hlen (by rw[hx.val,hy.val];omega) hpos).mono ?_;rintro e w1 ⟨v1,rfl,D1,hb1⟩;obtain⟨p1,q1,d1,rfl,s1,e1,l1⟩:=D1.open;clear D1;have hb1':Below w9.heap.size w9 w1:=(show Below w9.heap.size w9 _ by repeat(first|exact Below.refl _ _|refine Below.drew ?_)).trans hb1;have HB:=HB.trans (hb1'.mono HB.size);replace bx:=bx.below hb1';clear bx1 bx2 bx3 bx4;obtain⟨bx1,bx2,bx3,bx4⟩:=bx.facts;replace by':=by'.below hb1';clear by1 by2 by3 by4;obtain⟨by1,by2,by3,by4⟩:=by'.facts;replace br:=br.below hb1';clear br1 br2 br3 br4;obtain⟨br1,br2,br3,br4⟩:=br.facts))
  all_goals
   have X:=hide (br.set ng2 (.slice p1 r2.length q1)).facts;have Y:=hide (br.wh ng2 (.slice p1 r2.length q1) G2);have Z:=hide (aad HB (show w.heap.size<=w.heap.size+1+1 by omega) (.bool ng2) (.slice p1 r2.length q1));clear bx1 bx2 bx3 bx4 by1 by2 by3 by4;go_wp2;refine bodyPost_ret (v:=.agg #[.bool ng2,.slice p1 r2.length q1]) ?_ rfl ⟨ng2,p1,q1,r2,rfl,by rw[show sg false x+sg true y=sg true (Dm.val ys-Dm.val xs) by rw[hx.val,hy.val];simp[sg];omega];exact Y.out,by omega,Z.out⟩;simp[results,Tryz.results179,go_sem,X.out.1,X.out.2.1]
 |true=>
  simp only[Bool.not_true]at E0 by' K ⊢;go_enter Tryz.func179,Tryz.ntmps179
  go_wp2_with fail
  rw[E0.out];obtain⟨bx1,bx2,bx3,bx4⟩:=bx.facts;obtain⟨by1,by2,by3,by4⟩:=by'.facts;obtain⟨br1,br2,br3,br4⟩:=br.facts;refine(K.out _ hx0 hy0).mono ?_;rintro e w9 ⟨rfl,hb9⟩;replace HB:=HB.trans (hb9.mono HB.size);replace hx0:=hx0.below hb9;replace hy0:=hy0.below hb9;replace bx:=bx.below hb9;replace by':=by'.below hb9;replace br:=br.below hb9;clear bx1 bx2 bx3 bx4 by1 by2 by3 by4 br1 br2 br3 br4;obtain⟨bx1,bx2,bx3,bx4⟩:=bx.facts;obtain⟨by1,by2,by3,by4⟩:=by'.facts;obtain⟨br1,br2,br3,br4⟩:=br.facts;go_wp2_with fail
  go_region_held3 (fun w'=>w'.cell? ⟨w.heap.size,0,none⟩=some (.bool true)/\w'.cell? ⟨w.heap.size,1,none⟩=some (.slice a1 xs.length c1)/\w'.cell? ⟨w.heap.size+1,0,none⟩=some (.bool false)/\w'.cell? ⟨w.heap.size+1,1,none⟩=some (.slice a2 ys.length c2)) (go_keep) (first
    |(go_at_call 121;have _hq:=hb1';refine(abr _ _ p1 q1 d1 _ (s1.below (by repeat(first|exact Below.refl _ _|refine Below.drew ?_))) e1).mono ?_;rintro e w2 ⟨ng2,r2,rfl,G2,l2,hb2⟩;have hb2':Below w1.heap.size w1 w2:=(show Below w1.heap.size w1 _ by repeat(first|exact Below.refl _ _|refine Below.drew ?_)).trans hb2;have HB:=HB.trans (hb2'.mono HB.size);replace bx:=bx.below hb2';clear bx1 bx2 bx3 bx4;obtain⟨bx1,bx2,bx3,bx4⟩:=bx.facts;replace by':=by'.below hb2';clear by1 by2 by3 by4;obtain⟨by1,by2,by3,by4⟩:=by'.facts;replace br:=br.below hb2';clear br1 br2 br3 br4;obtain⟨br1,br2,br3,br4⟩:=br.facts)
    |(go_at_call 192;refine(af1 _ _ _ _ ys (hy0.sl.below (by repeat(first|exact Below.refl _ _|refine Below.drew ?_))) _ _ _ xs (hx0.sl.below (by repeat(first|exact Below.refl _ _|refine Below.drew ?_))) (by omega) hlen (by rw[hx.val,hy.val];omega) hpos).mono ?_;rintro e w1 ⟨v1,rfl,D1,hb1⟩;obtain⟨p1,q1,d1,rfl,s1,e1,l1⟩:=D1.open;clear D1;have hb1':Below w9.heap.size w9 w1:=(show Below w9.heap.size w9 _ by repeat(first|exact Below.refl _ _|refine Below.drew ?_)).trans hb1;have HB:=HB.trans (hb1'.mono HB.size);replace bx:=bx.below hb1';clear bx1 bx2 bx3 bx4;obtain⟨bx1,bx2,bx3,bx4⟩:=bx.facts;replace by':=by'.below hb1';clear by1 by2 by3 by4;obtain⟨by1,by2,by3,by4⟩:=by'.facts;replace br:=br.below hb1';clear br1 br2 br3 br4;obtain⟨br1,br2,br3,br4⟩:=br.facts))
  all_goals
   have X:=hide (br.set ng2 (.slice p1 r2.length q1)).facts;have Y:=hide (br.wh ng2 (.slice p1 r2.length q1) G2);have Z:=hide (aad HB (show w.heap.size<=w.heap.size+1+1 by omega) (.bool ng2) (.slice p1 r2.length q1));clear bx1 bx2 bx3 bx4 by1 by2 by3 by4;go_wp2;refine bodyPost_ret (v:=.agg #[.bool ng2,.slice p1 r2.length q1]) ?_ rfl ⟨ng2,p1,q1,r2,rfl,by rw[show sg true x+sg false y=sg false (Dm.val ys-Dm.val xs) by rw[hx.val,hy.val];simp[sg];omega];exact Y.out,by omega,Z.out⟩;simp[results,Tryz.results179,go_sem,X.out.1,X.out.2.1]
theorem as5(w:World)(n1:Bool)(a1:Option Addr)(c1:Nat)(xs:List Int)(x:Int)(hx:Wh w n1 a1 c1 xs x)(n2:Bool)(a2:Option Addr)(c2:Nat)(ys:List Int)(y:Int)(hy:Wh w n2 a2 c2 ys y)(m1:xs.length<=400000)(m2:ys.length<=400000):
  Calls Tryz.prog 179 #[.agg #[.bool n1,.slice a1 xs.length c1],.agg #[.bool n2,.slice a2 ys.length c2]] w fun e w'=>∃ng' ao cap rs,e=.returned (.agg #[.bool ng',.slice ao rs.length cap])/\Wh w' ng' ao cap rs (x+y)/\rs.length<=xs.length+ys.length+1/\Below w.heap.size w w':=by
 have wx:=hx.worth;have wy:=hy.worth;rw[hx.1.val]at wx;rw[hy.1.val]at wy;rw[show x+y=sg n1 (x.natAbs:Int)+sg n2 (y.natAbs:Int) by rw[wx,wy]];by_cases hn:n1=n2
 ·subst hn;exact as4 w n1 a1 c1 xs _ hx.1 a2 c2 ys _ hy.1 m1 m2
 ·have hn2:n2 = !n1:=by cases n1 <;> cases n2 <;> simp_all
  have s1:=hx.2;have s2:=hy.2;subst hn2;by_cases hle:(y.natAbs:Int)<=(x.natAbs:Int)
  ·refine ay9 w n1 a1 c1 xs _ hx.1 a2 c2 ys _ hy.1 m1 m2 hle ?_;cases n1
   ·have:y<0:=by simpa using s2.symm
    omega
   ·have:x<0:=by simpa using s1.symm
    omega
  ·exact aza w n1 a1 c1 xs _ hx.1 a2 c2 ys _ hy.1 m1 m2 (by omega)
end Dm
namespace Dm
open Go.RowKit
open Lm (hide aao aaa cmpI abg abi)
theorem copied{w:World}{B g n cap:Nat}{zs:List Int}(h:w.ownsRow B 3 1 (.slice (some ⟨g,0,none⟩) n cap) n ([]++zs.map (Value.int .i64)))(hz:Limb zs):Sl w (.slice (some ⟨g,0,none⟩) zs.length cap) zs:=by
 have hn:zs.length=n:=by simpa using h.1
 subst hn;rw[List.nil_append]at h;exact(abl h hz).sl
theorem aql(w:World)(ng:Bool)(a1:Option Addr)(c1:Nat)(xs:List Int)(x:Int)(hx:Got w a1 c1 xs x)(m1:xs.length<=1000000)(h0:0<xs.length):
  Calls Tryz.prog 83 #[.agg #[.bool ng,.slice a1 xs.length c1]] w fun e w'=>∃ng' ao cap rs,e=.returned (.agg #[.bool ng',.slice ao rs.length cap])/\Wh w' ng' ao cap rs (sg (!ng) x)/\rs.length<=xs.length/\Below w.heap.size w w':=by
 obtain⟨b,off,rfl,_⟩:=hx.sl.cells h0;obtain⟨w0,e0,bx,br,hb0,hs0⟩:=abx w ng (.slice (some ⟨b,off,none⟩) xs.length c1);have E0:=hide e0;obtain⟨i0,hi,hz0,hz1,hz2⟩:=info_parts acu;obtain⟨_,p1,p2,p3⟩:=hx.sl.parts;have P3:=hide p3;have hx0:=hx.below hb0;have HB:=hb0;clear e0 hs0 p3;go_enter Tryz.func83,Tryz.ntmps83
 go_wp2_with fail
 rw[E0.out];obtain⟨bx1,bx2,bx3,bx4⟩:=bx.facts;obtain⟨br1,br2,br3,br4⟩:=br.facts;go_region_held3 (fun w'=>w'.cell? ⟨w.heap.size,0,none⟩=some (.bool ng)/\w'.cell? ⟨w.heap.size,1,none⟩=some (.slice (some ⟨b,off,none⟩) xs.length c1)) (go_keep) (first
  |(go_at_call 121;refine(abr _ _ _ _ xs _ (s1.below (by repeat(first|exact Below.refl _ _|refine Below.drew ?_))) hx.val).mono ?_;rintro e w2 ⟨ng2,r2,rfl,G2,l2,hb2⟩;have hb2':Below w1.heap.size w1 w2:=(show Below w1.heap.size w1 _ by repeat(first|exact Below.refl _ _|refine Below.drew ?_)).trans hb2;have HB:=HB.trans (hb2'.mono HB.size);replace bx:=bx.below hb2';clear bx1 bx2 bx3 bx4;obtain⟨bx1,bx2,bx3,bx4⟩:=bx.facts;replace br:=br.below hb2';clear br1 br2 br3 br4;obtain⟨br1,br2,br3,br4⟩:=br.facts)
  |((refine step_append_lies _ (by rfl) _ _ _ (by rfl) w0.heap.size 3 i0 _ 1 8 Tryz.underlying69 hi hz0 hz1 hz2 rfl (by omega) (.slice none 0 0) 0 [] (by rfl) (World.ownsRow_nil _ _ _ _) ⟨b,off,none⟩ xs.length c1 (xs.map (Value.int .i64)) (by rfl) (by simp) (Sl.copy (hx0.sl.below (by repeat(first|exact Below.refl _ _|refine Below.drew ?_)))) (ad5 xs) (by omega) (by unfold maxLen;omega) (by omega) (by simp) w0.heap.size (by simp) ?_;intro g1 q1 w1 hown hgrow hat hlt;have hb1':Below w0.heap.size w0 w1:=(show Below w0.heap.size w0 _ by repeat(first|exact Below.refl _ _|refine Below.drew ?_)).grown hgrow (by simp) (by intro k hk;simp[Value.ownBlock]at hk);have HB:=HB.trans (hb1'.mono HB.size);have s1:=copied hown P3.out;replace bx:=bx.below hb1';clear bx1 bx2 bx3 bx4;obtain⟨bx1,bx2,bx3,bx4⟩:=bx.facts;replace br:=br.below hb1';clear br1 br2 br3 br4;obtain⟨br1,br2,br3,br4⟩:=br.facts)))
 all_goals
  have X:=hide (br.set ng2 (.slice (some ⟨g1,0,none⟩) r2.length q1)).facts;have Y:=hide (br.wh ng2 (.slice (some ⟨g1,0,none⟩) r2.length q1) G2);have Z:=hide (aad HB (show w.heap.size<=w.heap.size+1 by omega) (.bool ng2) (.slice (some ⟨g1,0,none⟩) r2.length q1));clear bx1 bx2 bx3 bx4;go_wp2;refine bodyPost_ret (v:=.agg #[.bool ng2,.slice (some ⟨g1,0,none⟩) r2.length q1]) ?_ rfl ⟨ng2,(some ⟨g1,0,none⟩),q1,r2,rfl,Y.out,by omega,Z.out⟩;simp[results,Tryz.results83,go_sem,X.out.1,X.out.2.1]
theorem av8(w:World)(ng:Bool)(a1:Option Addr)(c1:Nat)(xs:List Int)(x:Int)(hx:Got w a1 c1 xs x)(m1:xs.length<=1000000)(h0:0<xs.length):
  Calls Tryz.prog 98 #[.agg #[.bool ng,.slice a1 xs.length c1]] w fun e w'=>∃ng' ao cap rs,e=.returned (.agg #[.bool ng',.slice ao rs.length cap])/\Wh w' ng' ao cap rs (sg false x)/\rs.length<=xs.length/\Below w.heap.size w w':=by
 obtain⟨b,off,rfl,_⟩:=hx.sl.cells h0;obtain⟨w0,rfl,bx,br,hb0,hs0⟩:=abx w ng (.slice (some ⟨b,off,none⟩) xs.length c1);obtain⟨i0,hi,hz0,hz1,hz2⟩:=info_parts acu;obtain⟨_,p1,p2,p3⟩:=hx.sl.parts;have P3:=hide p3;have hx0:=hx.below hb0;have HB:=hb0;clear p3;go_enter Tryz.func98,Tryz.ntmps98
 go_wp2_with (at_builtin;refine wpList_append_lies _ rfl _ _ _ rfl w.heap.size 3 i0 _ 1 8 Tryz.underlying69 hi hz0 hz1 hz2 rfl (by omega) (.slice none 0 0) 0 [] rfl (World.ownsRow_nil _ _ _ _) ⟨b,off,none⟩ xs.length c1 (xs.map (Value.int .i64)) rfl (by simp) (Sl.copy hx0.sl) (ad5 xs) (by omega) (by unfold maxLen;omega) (by omega) (by simp;omega) (w.heap.size+2) (by simp) ?_)
 intro g1 q1 w1 hown hgrow hat hlt;have hb1:=Below.grown (Below.refl _ _) hgrow (Nat.le_refl _) (by intro k hk;simp[Value.ownBlock]at hk);have HB:=HB.trans (hb1.mono HB.size);have s1:=copied hown P3.out;replace bx:=bx.below hb1;replace br:=br.below hb1;clear hown hgrow hat hx0;go_wp2_with fail
 try rw[Nat.zero_add]
 refine(abr _ _ _ _ xs _ s1 hx.val).mono ?_;rintro e w2 ⟨ng2,r2,rfl,G2,l2,hb2⟩;replace HB:=HB.trans (hb2.mono HB.size);replace bx:=bx.below hb2;replace br:=br.below hb2;obtain⟨bx1,bx2,bx3,bx4⟩:=bx.facts;obtain⟨br1,br2,br3,br4⟩:=br.facts;all_goals
  have X:=hide (br.set ng2 (.slice (some ⟨g1,0,none⟩) r2.length q1)).facts;have Y:=hide (br.wh ng2 (.slice (some ⟨g1,0,none⟩) r2.length q1) G2);have Z:=hide (aad HB (show w.heap.size<=w.heap.size+1 by omega) (.bool ng2) (.slice (some ⟨g1,0,none⟩) r2.length q1));clear bx1 bx2 bx3 bx4;go_wp2;refine bodyPost_ret (v:=.agg #[.bool ng2,.slice (some ⟨g1,0,none⟩) r2.length q1]) ?_ rfl ⟨ng2,(some ⟨g1,0,none⟩),q1,r2,rfl,Y.out,by omega,Z.out⟩;simp[results,Tryz.results98,go_sem,X.out.1,X.out.2.1]
theorem ace(w:World):Sl w (.slice none ([]:List Int).length 0) []:=⟨none,0,rfl,Nat.le_refl _,by simp[maxLen],aac,.inl rfl⟩
theorem ans(w:World)(ng:Bool)(c1:Nat)(_hc:c1<=9223372036854775807):
  Calls Tryz.prog 83 #[.agg #[.bool ng,.slice none 0 c1]] w fun e w'=>∃ng' ao cap rs,e=.returned (.agg #[.bool ng',.slice ao rs.length cap])/\Wh w' ng' ao cap rs (sg (!ng) 0)/\rs.length<=0/\Below w.heap.size w w':=by
 obtain⟨w0,e0,bx,br,hb0,hs0⟩:=abx w ng (.slice none 0 c1);have E0:=hide e0;have HB:=hb0;clear e0 hs0;go_enter Tryz.func83,Tryz.ntmps83
 go_wp2_with fail
 rw[E0.out];obtain⟨bx1,bx2,bx3,bx4⟩:=bx.facts;obtain⟨br1,br2,br3,br4⟩:=br.facts;go_region_held3 (fun w'=>w'.cell? ⟨w.heap.size,0,none⟩=some (.bool ng)/\w'.cell? ⟨w.heap.size,1,none⟩=some (.slice none 0 c1)) (go_keep) (first
  |(go_at_call 121;refine(abr _ _ none 0 [] 0 (ace _) rfl).mono ?_;rintro e w2 ⟨ng2,r2,rfl,G2,l2,hb2⟩;have hb2':Below w0.heap.size w0 w2:=(show Below w0.heap.size w0 _ by repeat(first|exact Below.refl _ _|refine Below.drew ?_)).trans hb2;have HB:=HB.trans (hb2'.mono HB.size);replace bx:=bx.below hb2';clear bx1 bx2 bx3 bx4;obtain⟨bx1,bx2,bx3,bx4⟩:=bx.facts;replace br:=br.below hb2';clear br1 br2 br3 br4;obtain⟨br1,br2,br3,br4⟩:=br.facts))
 all_goals
  have X:=hide (br.set ng2 (.slice none r2.length 0)).facts;have Y:=hide (br.wh ng2 (.slice none r2.length 0) G2);have Z:=hide (aad HB (show w.heap.size<=w.heap.size+1 by omega) (.bool ng2) (.slice none r2.length 0));clear bx1 bx2 bx3 bx4;go_wp2;refine bodyPost_ret (v:=.agg #[.bool ng2,.slice none r2.length 0]) ?_ rfl ⟨ng2,none,0,r2,rfl,Y.out,by simpa using l2,Z.out⟩;simp[results,Tryz.results83,go_sem,X.out.1,X.out.2.1]
theorem ant(w:World)(ng:Bool)(ad:Addr)(c1:Nat)(_hc:c1<=9223372036854775807):
  Calls Tryz.prog 83 #[.agg #[.bool ng,.slice (some ad) 0 c1]] w fun e w'=>∃ng' ao cap rs,e=.returned (.agg #[.bool ng',.slice ao rs.length cap])/\Wh w' ng' ao cap rs (sg (!ng) 0)/\rs.length<=0/\Below w.heap.size w w':=by
 obtain⟨w0,e0,bx,br,hb0,hs0⟩:=abx w ng (.slice (some ad) 0 c1);have E0:=hide e0;have HB:=hb0;clear e0 hs0;go_enter Tryz.func83,Tryz.ntmps83
 go_wp2_with fail
 rw[E0.out];obtain⟨bx1,bx2,bx3,bx4⟩:=bx.facts;obtain⟨br1,br2,br3,br4⟩:=br.facts;go_region_held3 (fun w'=>w'.cell? ⟨w.heap.size,0,none⟩=some (.bool ng)/\w'.cell? ⟨w.heap.size,1,none⟩=some (.slice (some ad) 0 c1)) (go_keep) (first
  |(go_at_call 121;refine(abr _ _ none 0 [] 0 (ace _) rfl).mono ?_;rintro e w2 ⟨ng2,r2,rfl,G2,l2,hb2⟩;have hb2':Below w0.heap.size w0 w2:=(show Below w0.heap.size w0 _ by repeat(first|exact Below.refl _ _|refine Below.drew ?_)).trans hb2;have HB:=HB.trans (hb2'.mono HB.size);replace bx:=bx.below hb2';clear bx1 bx2 bx3 bx4;obtain⟨bx1,bx2,bx3,bx4⟩:=bx.facts;replace br:=br.below hb2';clear br1 br2 br3 br4;obtain⟨br1,br2,br3,br4⟩:=br.facts))
 all_goals
  have X:=hide (br.set ng2 (.slice none r2.length 0)).facts;have Y:=hide (br.wh ng2 (.slice none r2.length 0) G2);have Z:=hide (aad HB (show w.heap.size<=w.heap.size+1 by omega) (.bool ng2) (.slice none r2.length 0));clear bx1 bx2 bx3 bx4;go_wp2;refine bodyPost_ret (v:=.agg #[.bool ng2,.slice none r2.length 0]) ?_ rfl ⟨ng2,none,0,r2,rfl,Y.out,by simpa using l2,Z.out⟩;simp[results,Tryz.results83,go_sem,X.out.1,X.out.2.1]
theorem as6(w:World)(ng:Bool)(c1:Nat)(_hc:c1<=9223372036854775807):
  Calls Tryz.prog 98 #[.agg #[.bool ng,.slice none 0 c1]] w fun e w'=>∃ng' ao cap rs,e=.returned (.agg #[.bool ng',.slice ao rs.length cap])/\Wh w' ng' ao cap rs (sg false 0)/\rs.length<=0/\Below w.heap.size w w':=by
 obtain⟨w0,e0,bx,br,hb0,hs0⟩:=abx w ng (.slice none 0 c1);have E0:=hide e0;have HB:=hb0;clear e0 hs0;go_enter Tryz.func98,Tryz.ntmps98
 go_wp2_with fail
 rw[E0.out];obtain⟨bx1,bx2,bx3,bx4⟩:=bx.facts;obtain⟨br1,br2,br3,br4⟩:=br.facts;refine(abr _ _ none 0 [] 0 (ace _) rfl).mono ?_;rintro e w2 ⟨ng2,r2,rfl,G2,l2,hb2⟩;replace HB:=HB.trans (hb2.mono HB.size);replace bx:=bx.below hb2;replace br:=br.below hb2;clear bx1 bx2 bx3 bx4 br1 br2 br3 br4;obtain⟨bx1,bx2,bx3,bx4⟩:=bx.facts;obtain⟨br1,br2,br3,br4⟩:=br.facts;all_goals
  have X:=hide (br.set ng2 (.slice none r2.length 0)).facts;have Y:=hide (br.wh ng2 (.slice none r2.length 0) G2);have Z:=hide (aad HB (show w.heap.size<=w.heap.size+1 by omega) (.bool ng2) (.slice none r2.length 0));clear bx1 bx2 bx3 bx4;go_wp2;refine bodyPost_ret (v:=.agg #[.bool ng2,.slice none r2.length 0]) ?_ rfl ⟨ng2,none,0,r2,rfl,Y.out,by simpa using l2,Z.out⟩;simp[results,Tryz.results98,go_sem,X.out.1,X.out.2.1]
theorem as7(w:World)(ng:Bool)(ad:Addr)(c1:Nat)(_hc:c1<=9223372036854775807):
  Calls Tryz.prog 98 #[.agg #[.bool ng,.slice (some ad) 0 c1]] w fun e w'=>∃ng' ao cap rs,e=.returned (.agg #[.bool ng',.slice ao rs.length cap])/\Wh w' ng' ao cap rs (sg false 0)/\rs.length<=0/\Below w.heap.size w w':=by
 obtain⟨w0,e0,bx,br,hb0,hs0⟩:=abx w ng (.slice (some ad) 0 c1);have E0:=hide e0;have HB:=hb0;clear e0 hs0;go_enter Tryz.func98,Tryz.ntmps98
 go_wp2_with fail
 rw[E0.out];obtain⟨bx1,bx2,bx3,bx4⟩:=bx.facts;obtain⟨br1,br2,br3,br4⟩:=br.facts;refine(abr _ _ none 0 [] 0 (ace _) rfl).mono ?_;rintro e w2 ⟨ng2,r2,rfl,G2,l2,hb2⟩;replace HB:=HB.trans (hb2.mono HB.size);replace bx:=bx.below hb2;replace br:=br.below hb2;clear bx1 bx2 bx3 bx4 br1 br2 br3 br4;obtain⟨bx1,bx2,bx3,bx4⟩:=bx.facts;obtain⟨br1,br2,br3,br4⟩:=br.facts;all_goals
  have X:=hide (br.set ng2 (.slice none r2.length 0)).facts;have Y:=hide (br.wh ng2 (.slice none r2.length 0) G2);have Z:=hide (aad HB (show w.heap.size<=w.heap.size+1 by omega) (.bool ng2) (.slice none r2.length 0));clear bx1 bx2 bx3 bx4;go_wp2;refine bodyPost_ret (v:=.agg #[.bool ng2,.slice none r2.length 0]) ?_ rfl ⟨ng2,none,0,r2,rfl,Y.out,by simpa using l2,Z.out⟩;simp[results,Tryz.results98,go_sem,X.out.1,X.out.2.1]
theorem akk(w:World)(ng:Bool)(a1:Option Addr)(c1:Nat)(xs:List Int)(x:Int)(hx:Got w a1 c1 xs x)(m1:xs.length<=1000000):
  Calls Tryz.prog 83 #[.agg #[.bool ng,.slice a1 xs.length c1]] w fun e w'=>∃ng' ao cap rs,e=.returned (.agg #[.bool ng',.slice ao rs.length cap])/\Wh w' ng' ao cap rs (sg (!ng) x)/\rs.length<=xs.length/\Below w.heap.size w w':=by
 by_cases h0:0<xs.length
 ·exact aql w ng a1 c1 xs x hx m1 h0
 ·have e:xs = []:=List.eq_nil_of_length_eq_zero (by omega);have hx0:x=0:=by rw[<-hx.val,e];rfl
  have hc:=hx.sl.parts.2.2.1;rw[hx0,e];cases a1 with
  |none=>exact ans w ng c1 hc
  |some ad=>exact ant w ng ad c1 hc
theorem aot(w:World)(ng:Bool)(a1:Option Addr)(c1:Nat)(xs:List Int)(x:Int)(hx:Got w a1 c1 xs x)(m1:xs.length<=1000000):
  Calls Tryz.prog 98 #[.agg #[.bool ng,.slice a1 xs.length c1]] w fun e w'=>∃ng' ao cap rs,e=.returned (.agg #[.bool ng',.slice ao rs.length cap])/\Wh w' ng' ao cap rs (sg false x)/\rs.length<=xs.length/\Below w.heap.size w w':=by
 by_cases h0:0<xs.length
 ·exact av8 w ng a1 c1 xs x hx m1 h0
 ·have e:xs = []:=List.eq_nil_of_length_eq_zero (by omega);have hx0:x=0:=by rw[<-hx.val,e];rfl
  have hc:=hx.sl.parts.2.2.1;rw[hx0,e];cases a1 with
  |none=>exact as6 w ng c1 hc
  |some ad=>exact as7 w ng ad c1 hc
theorem aju(w:World)(n1:Bool)(a1:Option Addr)(c1:Nat)(xs:List Int)(x:Int)(hx:Wh w n1 a1 c1 xs x)(m1:xs.length<=1000000):
  Calls Tryz.prog 83 #[.agg #[.bool n1,.slice a1 xs.length c1]] w fun e w'=>∃ng' ao cap rs,e=.returned (.agg #[.bool ng',.slice ao rs.length cap])/\Wh w' ng' ao cap rs (-x)/\rs.length<=xs.length/\Below w.heap.size w w':=by
 have wx:=hx.worth;rw[hx.1.val]at wx;rw[show -x=sg (!n1) (x.natAbs:Int) by rw[aip,wx]];exact akk w n1 a1 c1 xs _ hx.1 m1
end Dm
namespace Dm
open Go.RowKit
open Lm (hide aao aaa)
theorem a23(ng:Bool)(x:Int):sg ng x=Lm.sg ng x:=by cases ng <;> simp[sg,Lm.sg]
theorem Wh.nats{w:World}{ao:Option Addr}{cap:Nat}{rs:List Int}{x:Int}(h:Got w ao cap rs x):Wh w false ao cap rs x:=by
 have:=Wh.of false h;simpa[sg]using this
theorem a24(w:World)(ng:Bool)(a1:Option Addr)(n1 c1:Nat)(xs:List Int)(hx:Lm.Sl w (.slice a1 n1 c1) xs)(m1:xs.length<=100000):
  Calls Tryz.prog 84 #[.agg #[.bool ng,.slice a1 n1 c1]] w fun e w'=>∃ng' ao cap rs,e=.returned (.agg #[.bool ng',.slice ao rs.length cap])/\Wh w' ng' ao cap rs (Lm.sg ng (Lm.val xs))/\rs.length<=3*xs.length/\Below w.heap.size w w':=by
 obtain⟨w1,e1,bx,hb1,hs1⟩:=Lm.abj w ng (.slice a1 n1 c1);obtain⟨w2,e2,br,hb2,hs2⟩:=abj w1 false (.slice none 0 0);have E1:=hide e1;have E2:=hide e2;have HB:=hb1.trans (hb2.mono hb1.size);replace bx:=bx.below hb2;rw[hs1]at br;have hx2:=hx.below HB;have HS:w2.heap.size=w.heap.size+2:=by omega
 rw[<-a23];clear e1 e2 hb1 hb2 hs1 hs2;cases ng with
 |false=>
  go_enter Tryz.func84,Tryz.ntmps84
  go_upto_region 1 with fail
  rw[E1.out,E2.out];obtain⟨bx1,bx2,bx3,bx4⟩:=bx.facts;go_wp2_with fail
  refine(ad8 _ _ _ _ xs hx2 (by omega)).mono ?_;rintro e w3 ⟨p3,q3,D3,rfl,G3,d3,hb3⟩;obtain⟨w4,e4,bn,hb4,hs4⟩:=abj w3 false (.slice p3 D3.length q3);have E4:=hide e4;have z3:=hb3.size;replace HB:=(HB.trans (hb3.mono HB.size)).trans (hb4.mono (Nat.le_trans HB.size z3));replace bx:=(bx.below hb3).below hb4;replace br:=(br.below hb3).below hb4;replace G3:=G3.below hb4;clear e4 hb3 hb4 bx1 bx2 bx3 bx4;go_upto_region 2 with fail
  rw[E4.out];obtain⟨bx1,bx2,bx3,bx4⟩:=bx.facts;obtain⟨br1,br2,br3,br4⟩:=br.facts;obtain⟨bn1,bn2,bn3,bn4⟩:=bn.facts;have F:=hide (br.set false (.slice p3 D3.length q3)).facts;have Y:=hide (br.wh false (.slice p3 D3.length q3) (Wh.nats G3));have Z:=hide (aad HB (show w.heap.size<=w.heap.size+1 by omega) (.bool false) (.slice p3 D3.length q3));go_wp2;refine bodyPost_ret (v:=.agg #[.bool false,.slice p3 D3.length q3]) ?_ rfl ⟨false,p3,q3,D3,rfl,Y.out,by omega,Z.out⟩;simp[results,Tryz.results84,go_sem,F.out.1,F.out.2.1]
 |true=>
  go_enter Tryz.func84,Tryz.ntmps84
  go_upto_region 1 with fail
  rw[E1.out,E2.out];obtain⟨bx1,bx2,bx3,bx4⟩:=bx.facts;go_wp2_with fail
  refine(ad8 _ _ _ _ xs hx2 (by omega)).mono ?_;rintro e w3 ⟨p3,q3,D3,rfl,G3,d3,hb3⟩;obtain⟨w4,e4,bn,hb4,hs4⟩:=abj w3 false (.slice p3 D3.length q3);have E4:=hide e4;have z3:=hb3.size;replace HB:=(HB.trans (hb3.mono HB.size)).trans (hb4.mono (Nat.le_trans HB.size z3));replace bx:=(bx.below hb3).below hb4;replace br:=(br.below hb3).below hb4;replace G3:=G3.below hb4;clear e4 hb3 hb4 bx1 bx2 bx3 bx4;go_upto_region 2 with fail
  rw[E4.out];obtain⟨bx1,bx2,bx3,bx4⟩:=bx.facts;obtain⟨bn1,bn2,bn3,bn4⟩:=bn.facts;go_wp2_with fail
  refine(akk _ _ _ _ D3 _ G3 (by omega)).mono ?_;rintro e w5 ⟨n5,p5,q5,D5,rfl,G5,d5,hb5⟩;replace HB:=HB.trans (hb5.mono HB.size);replace br:=br.below hb5;clear bx1 bx2 bx3 bx4 bn1 bn2 bn3 bn4 hb5;obtain⟨br1,br2,br3,br4⟩:=br.facts;have F:=hide (br.set n5 (.slice p5 D5.length q5)).facts;have Y:=hide (br.wh n5 (.slice p5 D5.length q5) G5);have Z:=hide (aad HB (show w.heap.size<=w.heap.size+1 by omega) (.bool n5) (.slice p5 D5.length q5));go_wp2;refine bodyPost_ret (v:=.agg #[.bool n5,.slice p5 D5.length q5]) ?_ rfl ⟨n5,p5,q5,D5,rfl,Y.out,by omega,Z.out⟩;simp[results,Tryz.results84,go_sem,F.out.1,F.out.2.1]
theorem a25(w:World)(ng:Bool)(a1:Option Addr)(n1 c1:Nat)(xs:List Int)(x:Int)(hx:Lm.Ag w ng a1 n1 c1 xs x)(m1:xs.length<=100000):
  Calls Tryz.prog 84 #[.agg #[.bool ng,.slice a1 n1 c1]] w fun e w'=>∃ng' ao cap rs,e=.returned (.agg #[.bool ng',.slice ao rs.length cap])/\Wh w' ng' ao cap rs x/\rs.length<=3*xs.length/\Below w.heap.size w w':=by
 have h:=a24 w ng a1 n1 c1 xs hx.sl m1;rw[hx.worth]at h;exact h
structure WFr (B T:Nat) (w:World) (ng:Bool) (ao:Option Addr) (cap:Nat) (rs:List Int) (z:Int):Prop where
 fr:Lm.Fr B T w ao cap rs (z.natAbs:Int)
 sgn:ng=decide (z<0)
theorem WFr.wh{B T:Nat}{w:World}{ng:Bool}{ao:Option Addr}{cap:Nat}{rs:List Int}{z:Int}(h:WFr B T w ng ao cap rs z):Lm.Wh w ng ao cap rs z:=⟨h.fr.got,h.sgn⟩
theorem WFr.kept{B T:Nat}{w w':World}{ng:Bool}{ao:Option Addr}{cap:Nat}{rs:List Int}{z:Int}(h:WFr B T w ng ao cap rs z)(hk:∀g,g<w.heap.size->B<=g->g<T->w'.heap[g]? = w.heap[g]?):WFr B T w' ng ao cap rs z:=⟨h.fr.kept hk,h.sgn⟩
theorem WFr.kp{B T p:Nat}{bs:List Nat}{w w':World}{ng:Bool}{ao:Option Addr}{cap:Nat}{rs:List Int}{z:Int}(h:WFr B T w ng ao cap rs z)(k:Lm.Kp w w' p bs)(hp:p<B\/T<=p)(hb:∀j,j∈bs->j<B\/T<=j):WFr B T w' ng ao cap rs z:=⟨h.fr.kp k hp hb,h.sgn⟩
theorem WFr.wide{B B' T T':Nat}{w:World}{ng:Bool}{ao:Option Addr}{cap:Nat}{rs:List Int}{z:Int}(h:WFr B T w ng ao cap rs z)(hB:B'<=B)(hT:T<=T'):WFr B' T' w ng ao cap rs z:=
 ⟨⟨h.fr.ow.mono hB,h.fr.canon,h.fr.val,fun h0 g off e=>by have:=h.fr.lies h0 g off e;omega⟩,h.sgn⟩
theorem akl{w:World}{k:Nat}(b u:Value){g:Nat}(h:g≠k):((w.setCell ⟨k,0,none⟩ b).setCell ⟨k,1,none⟩ u).heap[g]? = w.heap[g]? :=by
 rw[heap_setCell_other _ ⟨k,1,none⟩ g _ h,heap_setCell_other _ ⟨k,0,none⟩ g _ h]
theorem a1m(w:World)(ng:Bool)(ao:Option Addr)(cap:Nat)(rs:List Int)(z:Int)(h:Wh w ng ao cap rs z)(M:Nat)(hz:(z.natAbs:Int)<Lm.pw M)(hM:M<=1000000)(hl:rs.length<=1000000):
  Calls Tryz.prog 91 #[.agg #[.bool ng,.slice ao rs.length cap]] w fun e w'=>∃bo dap ls,e=.returned (.agg #[.bool ng,.slice bo ls.length dap])/\WFr w.heap.size w'.heap.size w' ng bo dap ls z/\ls.length<=M/\Below w.heap.size w w':=by
 obtain⟨w1,e1,bx,hb1,hs1⟩:=abj w ng (.slice ao rs.length cap);obtain⟨w2,e2,br,hb2,hs2⟩:=Lm.abj w1 false (.slice none 0 0);have E1:=hide e1;have E2:=hide e2;have HB:=hb1.trans (hb2.mono hb1.size);replace bx:=bx.below hb2;rw[hs1]at br;have h2:=h.below HB;have HS:w2.heap.size=w.heap.size+2:=by omega
 have HSG:=hide h.2;have HZ:=hide hz;have ne1:¬(w.heap.size=w.heap.size+1):=by omega
 have ne2:¬(w.heap.size+1=w.heap.size):=by omega
 clear e1 e2 hb1 hb2 hs1 hs2 hz;go_enter Tryz.func91,Tryz.ntmps91
 go_upto_region 1 with fail
 rw[E1.out,E2.out];obtain⟨bx1,bx2,bx3,bx4⟩:=bx.facts;obtain⟨br1,br2,br3,br4⟩:=br.facts;go_region_held3 (fun w'=>w'.cell? ⟨w.heap.size,0,none⟩=some (.bool ng)/\w'.cell? ⟨w.heap.size,1,none⟩=some (.slice ao rs.length cap)) (go_keep) (first
  |(go_at_call 124;refine(akj _ _ _ _ rs _ (h2.1.below (by repeat(first|exact Below.refl _ _|refine Below.drew ?_))) M HZ.out hM hl).mono ?_;rintro e w1' ⟨v1,rfl,I1,hb1⟩;have hb1':Below w2.heap.size w2 w1':=(show Below w2.heap.size w2 _ by repeat(first|exact Below.refl _ _|refine Below.drew ?_)).trans hb1;obtain⟨p1,q1,r1,rfl,F1⟩:=I1.fr;clear I1;replace bx:=bx.below hb1';clear bx1 bx2 bx3 bx4;obtain⟨bx1,bx2,bx3,bx4⟩:=bx.facts;replace br:=br.below hb1';clear br1 br2 br3 br4;obtain⟨br1,br2,br3,br4⟩:=br.facts))
 all_goals
  have HB2:=HB.trans (hb1'.mono HB.size);have F:=hide (br.set ng (.slice p1 r1.length q1)).facts;have hkk:=aaa br;have Y:=hide (show WFr w2.heap.size w1'.heap.size _ ng p1 q1 r1 z from(WFr.kept (w:=w1') ⟨F1,HSG.out⟩ (fun g _ hg _=>akl (.bool ng) (.slice p1 r1.length q1) (show g≠w.heap.size+1 by omega))));have Z:=hide (aad HB2 (show w.heap.size<=w.heap.size+1 by omega) (.bool ng) (.slice p1 r1.length q1));have LL:=hide (Lm.aax F1.canon (m:=M) (by rw[F1.val];exact HZ.out));clear bx1 bx2 bx3 bx4;go_wp2;refine bodyPost_ret (v:=.agg #[.bool ng,.slice p1 r1.length q1]) ?_ rfl ⟨p1,q1,r1,rfl,Y.out.wide (by omega) (by simp[World.setCell]),LL.out,Z.out⟩;simp[results,Tryz.results91,go_sem,F.out.1,F.out.2.1]
end Dm
namespace Lm
open Go.RowKit
theorem akm{w:World}{B e n:Nat}{a:Option Addr}{c:Nat}{xs:List Value}(h:w.ownsRow B e 1 (.slice a n c) n xs){i:Nat}(hi:i<n):∃g u,a=some ⟨g,0,none⟩/\xs[i]? = some u/\w.cell? ⟨g,i,none⟩=some u:=by
 have hl:=h.1;rcases h.2 with⟨e,rfl⟩|⟨g,cap,cur,e,_,hh,h1,h2,hs,ht⟩
 ·omega
 ·simp only[Value.slice.injEq]at e;obtain⟨rfl,_,rfl⟩:=e;have hx:xs[i]? = some (xs[i]'(by omega)):=List.getElem?_eq_getElem (by omega);refine⟨g,_,rfl,hx,?_⟩;rw[cell_of_row w g i cur _ (0,0) hh,<-Array.getElem?_toList,<-hx,<-ht,List.getElem?_take,if_pos (by omega)]
theorem av9(w:World)(p Q:Nat)(bs:List Nat)(rv:List Value)(lv mv:Value)(hk:Bk w p Q bs rv rv.length lv mv)(_hr:rv.length<=100000):
  Calls Tryz.prog 25 #[.pointer (some ⟨p,0,none⟩)] w fun e w'=>e=.returned (.bool true)/\Below w.heap.size w w':=by
 obtain⟨al,cl,rfl,al1,al2⟩:=ab1 hk.lists;obtain⟨am,cm,rfl,am1,am2⟩:=ab1 hk.marks;go_enter Tryz.func25,Tryz.ntmps25
 go_wp2;go_loopw [3] (fun iv wr=>∃i:Nat,i<=rv.length/\iv=.int .i64 i/\Below w.heap.size w wr) (fun iv _=>rv.length-(intOf iv).toNat)
 case atStart=>exact⟨0,Nat.zero_le _,rfl,Below.refl _ _⟩
 case round=>
  obtain⟨i,hi,rfl,hbel⟩:=hrel;obtain⟨k0,k1,k2,k3⟩:=(hk.below hbel).facts;by_cases hlt:i<rv.length
  ·have dI:(i:Int)<(rv.length:Int):=by omega
   have HBL:=hide hbel;clear hbel;go_wp2;clear k0 k1 k2 k3;obtain⟨g1,u,rfl,hu,hc1⟩:=akm hk.lists hlt;obtain⟨g2,u2,rfl,hu2,hc2⟩:=akm hk.marks hlt;rw[av3 hlt]at hu2;simp only[Option.some.injEq]at hu2;subst hu2;obtain⟨ao,n,cap,rfl,n1,n2,n3,n4⟩:=hk.rooms i u hu;have C1:=hide hc1;have C2:=hide hc2;have N4:=hide n4;clear hc1 hc2 n4 hu;go_loopw [4] (fun kv wr=>∃k:Nat,k<=n/\kv=.int .i64 k/\Below w.heap.size w wr) (fun kv _=>n-(intOf kv).toNat)
   case atStart=>exact⟨0,Nat.zero_le _,rfl,HBL.out⟩
   case round=>
    clear HBL;obtain⟨k,hkn,rfl,hbel⟩:=hrel;obtain⟨k0,k1,k2,k3⟩:=(hk.below hbel).facts;have c1:=(hbel.cell (p:=⟨g1,i,none⟩) (aao C1.out)).trans C1.out;have c2:=(hbel.cell (p:=⟨g2,i,none⟩) (aao C2.out)).trans C2.out;by_cases hlt2:k<n
    ·have dK:(k:Int)<(n:Int):=by omega
     rcases N4.out with h0|⟨g,off,rfl,_,_,_,hc⟩
     ·omega
     have c3:=(hbel.cell (p:=⟨g,off+k,none⟩) (aao (hc k hlt2))).trans (hc k hlt2);clear hc N4;simp only[bmk]at c2 c3;go_wp2;go_quiet (fail)
     go_wp2;go_roundw
     case rel=>exact⟨k+1,by omega,by go_num,below_drewN hbel _⟩
     case measure=>simp[intOf];omega
    ·have dK:¬(k:Int)<(n:Int):=by omega
     go_wp2;go_roundw
     case rel=>exact⟨i+1,by omega,by go_num,hbel⟩
     case measure=>simp[intOf];omega
  ·have dI:¬(i:Int)<(rv.length:Int):=by omega
   go_wp2;go_ret;exact⟨rfl,hbel⟩
theorem a1n(w:World)(p Q n:Nat)(bs:List Nat)(hb:Bs w p Q bs n)(hn:n<=100000):
  Calls Tryz.prog 25 #[.pointer (some ⟨p,0,none⟩)] w fun e w'=>e=.returned (.bool true)/\Below w.heap.size w w':=by
 obtain⟨rv,lv,mv,rfl,hk⟩:=hb;exact av9 w p Q bs rv lv mv hk hn
end Lm
namespace Lm
open Go.RowKit
def IsLen(x:Int)(n:Nat):Prop:=∃rs,Canon rs/\val rs=x/\rs.length=n
theorem akn{x:Int}{m n:Nat}(h:IsLen x m)(h':IsLen x n):m=n:=by
 obtain⟨rs,c,v,rfl⟩:=h;obtain⟨ss,c',v',rfl⟩:=h';rw[adj c c' (by rw[v,v'])]
theorem aqm{x:Int}{k n:Nat}(h:IsLen x n)(hb:IsBits x k):(k+31)/32=n:=by
 obtain⟨rs,c,v,rfl⟩:=h;have hu:=(aab c.1).2;rw[v,aec]at hu;by_cases h0:rs.length=0
 ·have e:rs = []:=List.eq_nil_of_length_eq_zero h0;subst e;have:x=0:=by rw[<-v];rfl
  subst this;rw[ahj hb];rfl
 ·have hlow:pw (rs.length-1)<=x:=by
   apply Classical.byContradiction;intro hn;have:=aax c (m:=rs.length-1) (by rw[v];omega);omega
  rw[aec]at hlow;have h1:32*(rs.length-1)<k:=by
   apply Classical.byContradiction;intro hn;have:=adl (m:=k) (n:=32*(rs.length-1)) (by omega);have:=hb.1;omega
  have h2:k<=32*rs.length:=by
   rcases hb.2 with h|h
   ·omega
   ·apply Classical.byContradiction;intro hn;have:=adl (m:=32*rs.length) (n:=k-1) (by omega);omega
  omega
theorem aqn(w:World)(ng:Bool)(ao:Option Addr)(n cap:Nat)(zs:List Int)(h:Sl w (.slice ao n cap) zs)(hz:zs.length<=1000000)(m:Nat)(hm:IsLen (val zs) m):
  Calls Tryz.prog 55 #[.agg #[.bool ng,.slice ao n cap]] w fun e w'=>e=.returned (.int .i64 m)/\Below w.heap.size w w':=by
 obtain⟨w0,e0,bx,hb0,hs0⟩:=abj w ng (.slice ao n cap);have E0:=hide e0;have h0:=h.below hb0;have hu:=(aab h.parts.2.2.2).2;clear e0 hs0;go_enter Tryz.func55,Tryz.ntmps55
 go_wp2_with fail
 rw[E0.out];obtain⟨c0,c1,f0,f1⟩:=bx.facts;refine(afr _ _ _ _ zs h0 hz).mono ?_;rintro e w1 ⟨l,rfl,t,rfl⟩;have hl:=aqm hm t;have hle:l<=32000000:=by
  rcases t.2 with h|h
  ·omega
  ·apply Classical.byContradiction;intro hn;rw[aec]at hu;have:=adl (m:=32*zs.length) (n:=l-1) (by omega);omega
 have HL:=hide hl;clear t hl hm hu;go_wp2;go_ret;have hl:=HL.out;exact⟨aci (by omega),hb0⟩
end Lm
namespace Lm
open Go Go.RowKit
open Dm (WFr)
theorem Ow.ru{B:Nat}{w w':World}{v:Value}{zs:List Int}(h:Ow B w v zs)(hr:Ru w w'):Ow B w' v zs:=by
 obtain⟨ao,cap,rfl,h1,h2,h3,h4⟩:=h;refine⟨ao,cap,rfl,h1,h2,h3,?_⟩;rcases h4 with h4|⟨g,off,cur,rfl,hB,hh,r⟩
 ·exact .inl h4
 ·exact .inr ⟨g,off,cur,rfl,hB,hr.rows g cur hh,r⟩
theorem Fr.ru{B T:Nat}{w w':World}{ao:Option Addr}{cap:Nat}{rs:List Int}{x:Int}(h:Fr B T w ao cap rs x)(hr:Ru w w'):Fr B T w' ao cap rs x:=⟨h.ow.ru hr,h.canon,h.val,h.lies⟩
theorem _root_.Go.Proofs.YtooefpkhacecnaaGreatDoor.Dm.WFr.ru{B T:Nat}{w w':World}{ng:Bool}{ao:Option Addr}{cap:Nat}{rs:List Int}{z:Int}(h:WFr B T w ng ao cap rs z)(hr:Ru w w'):WFr B T w' ng ao cap rs z:=⟨h.fr.ru hr,h.sgn⟩
theorem IsR.mono5(p q:Int)(L:Nat):Mono5 (IsR p q L):=fun _ _ _ hr ⟨ng,ao,n,cap,xs,bo,m,dap,ys,e,h1,h2,h3,l1,l2⟩=>⟨ng,ao,n,cap,xs,bo,m,dap,ys,e,h1.ru hr,h2.ru hr,h3,l1,l2⟩
def FrW(K:Nat)(z:Int)(L:Nat):Says:=fun v w=>∃ng ao cap rs B T,v=.agg #[.bool ng,.slice ao rs.length cap]/\WFr B T w ng ao cap rs z/\K<=B/\T<=w.heap.size/\rs.length<=L
theorem FrW.mono5(K:Nat)(z:Int)(L:Nat):Mono5 (FrW K z L):=fun _ _ _ hr ⟨ng,ao,cap,rs,B,T,e,h,h1,h2,l⟩=>⟨ng,ao,cap,rs,B,T,e,h.ru hr,h1,Nat.le_trans h2 hr.size,l⟩
theorem FrW.out{z:Int}{L K:Nat}{v:Value}{w:World}: FrW K z L v w->OutW z L v w:=fun⟨ng,ao,cap,rs,_,_,e,h,_,_,l⟩=>⟨ng,ao,cap,rs,e,h.wh,l⟩
section
end
section
variable {dst:Option Tmp} {ty:TypeId} {pos:String} {after:Array Edge} {guard:Option (Nat×Bool)} {a:Act} {w:World} {ats:Array TypeId} {i j:Nat} {x y z u:Int} {L L1 L2:Nat}
theorem awa{b:Bool}(h1:a.eval (.tmp i)=.bool b)(h2:a.eval (.tmp j)=.bool b):
  Does Tryz.prog {dst,op:=.binOp .eql 4 (.tmp i) (.tmp j) 4,type:=ty,pos,after,guard} a.eval w fun v' w'=>Below w.heap.size w w'/\Eqs (.bool true) v' w':=by
 have:=ays (dst:=dst) (ty:=ty) (pos:=pos) (after:=after) (guard:=guard) (w:=w) h1 h2;rwa[beq_self_eq_true]at this
end
section
end
theorem awb{ng:Bool}{ao:Option Addr}{n c:Nat}{w:World}{xs:List Int}{z:Int}(h:Ag w ng ao n c xs z):∃m,IsLen (z.natAbs:Int) m:=by
 have hv:=(aab h.sl.parts.2.2.2).1;refine⟨_,xs.take (tl xs),aa0 h.sl.parts.2.2.2,?_,rfl⟩;rw[aai,<-h.worth];cases ng <;> simp[sg] <;> omega
end Lm
namespace Lm
open Go.RowKit
theorem amj(w:World)(a1:Option Addr)(n1 c1:Nat)(xs:List Int)(hx:Sl w (.slice a1 n1 c1) xs)(ny:Bool)(a2:Option Addr)(n2 c2:Nat)(ys:List Int)(hy:Sl w (.slice a2 n2 c2) ys)(hm1:xs.length<=400000)(hm2:ys.length<=400000)(h0:val ys≠0):
  Calls Tryz.prog 125 #[.agg #[.bool false,.slice a1 n1 c1],.agg #[.bool ny,.slice a2 n2 c2]] w fun e w'=>∃nq aq cq qs nr ar cr rs B1 T1 B2 T2,e=.returned (.tuple #[.agg #[.bool nq,.slice aq qs.length cq],.agg #[.bool nr,.slice ar rs.length cr],.bool true])/\Wh w' nq aq cq qs (sg false (val xs)/sg ny (val ys))/\Wh w' nr ar cr rs (sg false (val xs)%sg ny (val ys))/\qs.length<=xs.length+4/\rs.length<=ys.length/\Li B1 T1 w' aq cq qs/\Li B2 T2 w' ar cr rs/\(w.heap.size<=B1/\T1<=w'.heap.size/\w.heap.size<=B2/\T2<=w'.heap.size/\∀j,B1<=j->j<T1->j<B2\/T2<=j)/\Below w.heap.size w w':=by
 obtain⟨w0,e0,bx,by',bq,br,hb0,hs0⟩:=aix w false (.slice a1 n1 c1) ny (.slice a2 n2 c2);have E0:=hide e0;have hx0:=hx.below hb0;have hy0:=hy.below hb0;have HS0:=hide hs0;clear e0 hs0;have PY:Hid (0<val ys):=by have:=(aab hy.parts.2.2.2).1;show _<_;omega
 have LY:=hide hy.parts.2.2.2;have H0:=hide h0;clear h0;go_enter Tryz.func125,Tryz.ntmps125
 go_wp2_with fail
 rw[E0.out];refine(ah8 _ _ _ _ _ _ _ xs ys hx0 hy0 (by omega) H0.out).mono ?_;rintro e w1 ⟨p1,q1,r1,p2,q2,r2,B1,T1,B2,T2,rfl,G1,G2,l1,l2,o1,o2,oo,hb1⟩;have HB:Below w0.heap.size w0 w1:=hb1;obtain⟨xa,xb,xc,xd⟩:=(bx.below HB).facts;obtain⟨ya,yb,yc,yd⟩:=(by'.below HB).facts;go_wp2_with fail
 refine(aa5 _ _ _ _ r1 _ G1 (by omega)).mono ?_;rintro e w7 ⟨ng7,rfl,G7,hb7⟩;replace HB:=HB.trans (hb7.mono HB.size);have G2':=G2.below hb7;clear xa xb xc xd ya yb yc yd;obtain⟨xa,xb,xc,xd⟩:=(bx.below HB).facts;obtain⟨ya,yb,yc,yd⟩:=(by'.below HB).facts;go_wp2_with fail
 refine(aa5 _ _ _ _ r2 _ G2' (by omega)).mono ?_;rintro e w8 ⟨ng8,rfl,G8,hb8⟩;replace HB:=HB.trans (hb8.mono HB.size);replace G7:=G7.below hb8;clear xa xb xc xd ya yb yc yd;have bq8:=bq.below HB;have br8:=br.below HB;obtain⟨qa,qb,qc,qd⟩:=bq8.facts;obtain⟨ra,rb,rc,rd⟩:=br8.facts;have VQ:Hid (sg ny (val xs/val ys)=sg false (val xs)/sg ny (val ys)/\sg false (val xs%val ys)=sg false (val xs)%sg ny (val ys)):=by have h:=al8 ny (val xs) (val ys);rwa[show(false != ny)=ny by cases ny <;> rfl]at h
 have Y1:=hide ((br8.other (show w.heap.size+1+1+1≠w.heap.size+1+1 by omega) (.bool ng7) (.slice p1 r1.length q1)).wh ng8 (.slice p2 r2.length q2) (bq8.wh ng7 (.slice p1 r1.length q1) G7));have Y2:=hide ((br8.other (show w.heap.size+1+1+1≠w.heap.size+1+1 by omega) (.bool ng7) (.slice p1 r1.length q1)).wh ng8 (.slice p2 r2.length q2) (bq8.wh ng7 (.slice p1 r1.length q1) G8));have F:=hide (ahb (nq:=ng7) (vq:=.slice p1 r1.length q1) (nr:=ng8) (vr:=.slice p2 r2.length q2) bq8 br8 (by omega));have Z:=hide (hb0.trans (HB.mono hb0.size));have Z2:=hide (aad (aad Z.out (show w.heap.size<=w.heap.size+1+1 by omega) (.bool ng7) (.slice p1 r1.length q1)) (show w.heap.size<=w.heap.size+1+1+1 by omega) (.bool ng8) (.slice p2 r2.length q2));have hs9:=HS0.out;have s_hb1:=hb1.size;have s_hb7:=hb7.size;have s_hb8:=hb8.size;obtain⟨oo1,oo2,oo3,oo4,oo5⟩:=oo;have O1:=hide ((((o1.below hb7).below hb8).set2 (w.heap.size+1+1) (by omega) (.bool ng7) (.slice p1 r1.length q1)).set2 (w.heap.size+1+1+1) (by omega) (.bool ng8) (.slice p2 r2.length q2));have O2:=hide ((((o2.below hb7).below hb8).set2 (w.heap.size+1+1) (by omega) (.bool ng7) (.slice p1 r1.length q1)).set2 (w.heap.size+1+1+1) (by omega) (.bool ng8) (.slice p2 r2.length q2));have hsz:((((w8.setCell ⟨w.heap.size+1+1,0,none⟩ (.bool ng7)).setCell ⟨w.heap.size+1+1,1,none⟩ (.slice p1 r1.length q1)).setCell ⟨w.heap.size+1+1+1,0,none⟩ (.bool ng8)).setCell ⟨w.heap.size+1+1+1,1,none⟩ (.slice p2 r2.length q2)).heap.size=w8.heap.size:=by simp[World.setCell]
 have OO:Hid (B1≥w.heap.size/\T1<=w8.heap.size/\B2≥w.heap.size/\T2<=w8.heap.size/\∀j,B1<=j->j<T1->j<B2\/T2<=j):=⟨by omega,by omega,by omega,by omega,oo5⟩;rw[<-hsz]at OO;clear hsz;go_wp2;refine bodyPost_ret (v:=.tuple #[.agg #[.bool ng7,.slice p1 r1.length q1],.agg #[.bool ng8,.slice p2 r2.length q2],.bool true]) ?_ rfl ⟨ng7,p1,q1,r1,ng8,p2,q2,r2,B1,T1,B2,T2,rfl,by rw[<-VQ.out.1];exact Y1.out,by rw[<-VQ.out.2];exact Y2.out,by omega,by omega,O1.out,O2.out,OO.out,Z2.out⟩;simp[results,Tryz.results125,go_sem,F.out.1.facts.1,F.out.1.facts.2.1,F.out.2.facts.1,F.out.2.facts.2.1]
theorem ala(w:World)(a1:Option Addr)(n1 c1:Nat)(xs:List Int)(hx:Sl w (.slice a1 n1 c1) xs)(ny:Bool)(a2:Option Addr)(n2 c2:Nat)(ys:List Int)(hy:Sl w (.slice a2 n2 c2) ys)(hm1:xs.length<=400000)(_hm2:ys.length<=400000)(h0:val ys≠0)(hev:val xs%val ys=0):
  Calls Tryz.prog 125 #[.agg #[.bool true,.slice a1 n1 c1],.agg #[.bool ny,.slice a2 n2 c2]] w fun e w'=>∃nq aq cq qs nr ar cr rs B1 T1 B2 T2,e=.returned (.tuple #[.agg #[.bool nq,.slice aq qs.length cq],.agg #[.bool nr,.slice ar rs.length cr],.bool true])/\Wh w' nq aq cq qs (sg true (val xs)/sg ny (val ys))/\Wh w' nr ar cr rs (sg true (val xs)%sg ny (val ys))/\qs.length<=xs.length+4/\rs.length<=ys.length/\Li B1 T1 w' aq cq qs/\Li B2 T2 w' ar cr rs/\(w.heap.size<=B1/\T1<=w'.heap.size/\w.heap.size<=B2/\T2<=w'.heap.size/\∀j,B1<=j->j<T1->j<B2\/T2<=j)/\Below w.heap.size w w':=by
 obtain⟨w0,e0,bx,by',bq,br,hb0,hs0⟩:=aix w true (.slice a1 n1 c1) ny (.slice a2 n2 c2);have E0:=hide e0;have hx0:=hx.below hb0;have hy0:=hy.below hb0;have HS0:=hide hs0;clear e0 hs0;have PY:Hid (0<val ys):=by have:=(aab hy.parts.2.2.2).1;show _<_;omega
 have LY:=hide hy.parts.2.2.2;have H0:=hide h0;have HE:=hide hev;clear hev;clear h0;go_enter Tryz.func125,Tryz.ntmps125
 go_wp2_with fail
 rw[E0.out];refine(ah8 _ _ _ _ _ _ _ xs ys hx0 hy0 (by omega) H0.out).mono ?_;rintro e w1 ⟨p1,q1,r1,p2,q2,r2,B1,T1,B2,T2,rfl,G1,G2,l1,l2,o1,o2,oo,hb1⟩;have HB:Below w0.heap.size w0 w1:=hb1;have hr2:¬0<(r2.length:Int):=by
  have h9:r2 = []:=(ac5 G2.canon).1 (by rw[G2.val];exact HE.out);rw[h9];simp
 obtain⟨xa,xb,xc,xd⟩:=(bx.below HB).facts;obtain⟨ya,yb,yc,yd⟩:=(by'.below HB).facts;go_wp2_with fail
 refine(aa5 _ _ _ _ r1 _ G1 (by omega)).mono ?_;rintro e w7 ⟨ng7,rfl,G7,hb7⟩;replace HB:=HB.trans (hb7.mono HB.size);have G2':=G2.below hb7;clear xa xb xc xd ya yb yc yd;obtain⟨xa,xb,xc,xd⟩:=(bx.below HB).facts;obtain⟨ya,yb,yc,yd⟩:=(by'.below HB).facts;go_wp2_with fail
 refine(aa5 _ _ _ _ r2 _ G2' (by omega)).mono ?_;rintro e w8 ⟨ng8,rfl,G8,hb8⟩;replace HB:=HB.trans (hb8.mono HB.size);replace G7:=G7.below hb8;clear xa xb xc xd ya yb yc yd;have bq8:=bq.below HB;have br8:=br.below HB;obtain⟨qa,qb,qc,qd⟩:=bq8.facts;obtain⟨ra,rb,rc,rd⟩:=br8.facts;have VQ:Hid (sg (!ny) (val xs/val ys)=sg true (val xs)/sg ny (val ys)/\sg false (val xs%val ys)=sg true (val xs)%sg ny (val ys)):=by have h:=aso true ny PY.out HE.out;rwa[show(true != ny) = !ny by cases ny <;> rfl]at h
 have Y1:=hide ((br8.other (show w.heap.size+1+1+1≠w.heap.size+1+1 by omega) (.bool ng7) (.slice p1 r1.length q1)).wh ng8 (.slice p2 r2.length q2) (bq8.wh ng7 (.slice p1 r1.length q1) G7));have Y2:=hide ((br8.other (show w.heap.size+1+1+1≠w.heap.size+1+1 by omega) (.bool ng7) (.slice p1 r1.length q1)).wh ng8 (.slice p2 r2.length q2) (bq8.wh ng7 (.slice p1 r1.length q1) G8));have F:=hide (ahb (nq:=ng7) (vq:=.slice p1 r1.length q1) (nr:=ng8) (vr:=.slice p2 r2.length q2) bq8 br8 (by omega));have Z:=hide (hb0.trans (HB.mono hb0.size));have Z2:=hide (aad (aad Z.out (show w.heap.size<=w.heap.size+1+1 by omega) (.bool ng7) (.slice p1 r1.length q1)) (show w.heap.size<=w.heap.size+1+1+1 by omega) (.bool ng8) (.slice p2 r2.length q2));have hs9:=HS0.out;have s_hb1:=hb1.size;have s_hb7:=hb7.size;have s_hb8:=hb8.size;obtain⟨oo1,oo2,oo3,oo4,oo5⟩:=oo;have O1:=hide ((((o1.below hb7).below hb8).set2 (w.heap.size+1+1) (by omega) (.bool ng7) (.slice p1 r1.length q1)).set2 (w.heap.size+1+1+1) (by omega) (.bool ng8) (.slice p2 r2.length q2));have O2:=hide ((((o2.below hb7).below hb8).set2 (w.heap.size+1+1) (by omega) (.bool ng7) (.slice p1 r1.length q1)).set2 (w.heap.size+1+1+1) (by omega) (.bool ng8) (.slice p2 r2.length q2));have hsz:((((w8.setCell ⟨w.heap.size+1+1,0,none⟩ (.bool ng7)).setCell ⟨w.heap.size+1+1,1,none⟩ (.slice p1 r1.length q1)).setCell ⟨w.heap.size+1+1+1,0,none⟩ (.bool ng8)).setCell ⟨w.heap.size+1+1+1,1,none⟩ (.slice p2 r2.length q2)).heap.size=w8.heap.size:=by simp[World.setCell]
 have OO:Hid (B1≥w.heap.size/\T1<=w8.heap.size/\B2≥w.heap.size/\T2<=w8.heap.size/\∀j,B1<=j->j<T1->j<B2\/T2<=j):=⟨by omega,by omega,by omega,by omega,oo5⟩;rw[<-hsz]at OO;clear hsz;go_wp2;refine bodyPost_ret (v:=.tuple #[.agg #[.bool ng7,.slice p1 r1.length q1],.agg #[.bool ng8,.slice p2 r2.length q2],.bool true]) ?_ rfl ⟨ng7,p1,q1,r1,ng8,p2,q2,r2,B1,T1,B2,T2,rfl,by rw[<-VQ.out.1];exact Y1.out,by rw[<-VQ.out.2];exact Y2.out,by omega,by omega,O1.out,O2.out,OO.out,Z2.out⟩;simp[results,Tryz.results125,go_sem,F.out.1.facts.1,F.out.1.facts.2.1,F.out.2.facts.1,F.out.2.facts.2.1]
theorem amk(w:World)(a1:Option Addr)(n1 c1:Nat)(xs:List Int)(hx:Sl w (.slice a1 n1 c1) xs)(ny:Bool)(a2:Option Addr)(n2 c2:Nat)(ys:List Int)(hy:Sl w (.slice a2 n2 c2) ys)(hm1:xs.length<=400000)(hm2:ys.length<=400000)(h0:val ys≠0)(hod:val xs%val ys≠0):
  Calls Tryz.prog 125 #[.agg #[.bool true,.slice a1 n1 c1],.agg #[.bool ny,.slice a2 n2 c2]] w fun e w'=>∃nq aq cq qs nr ar cr rs B1 T1 B2 T2,e=.returned (.tuple #[.agg #[.bool nq,.slice aq qs.length cq],.agg #[.bool nr,.slice ar rs.length cr],.bool true])/\Wh w' nq aq cq qs (sg true (val xs)/sg ny (val ys))/\Wh w' nr ar cr rs (sg true (val xs)%sg ny (val ys))/\qs.length<=xs.length+4/\rs.length<=ys.length/\Li B1 T1 w' aq cq qs/\Li B2 T2 w' ar cr rs/\(w.heap.size<=B1/\T1<=w'.heap.size/\w.heap.size<=B2/\T2<=w'.heap.size/\∀j,B1<=j->j<T1->j<B2\/T2<=j)/\Below w.heap.size w w':=by
 obtain⟨w0,e0,bx,by',bq,br,hb0,hs0⟩:=aix w true (.slice a1 n1 c1) ny (.slice a2 n2 c2);have E0:=hide e0;have hx0:=hx.below hb0;have hy0:=hy.below hb0;have HS0:=hide hs0;clear e0 hs0;have PY:Hid (0<val ys):=by have:=(aab hy.parts.2.2.2).1;show _<_;omega
 have LY:=hide hy.parts.2.2.2;have H0:=hide h0;have HE:=hide hod;clear hod;clear h0;go_enter Tryz.func125,Tryz.ntmps125
 go_wp2_with fail
 rw[E0.out];refine(ah8 _ _ _ _ _ _ _ xs ys hx0 hy0 (by omega) H0.out).mono ?_;rintro e w1 ⟨p1,q1,r1,p2,q2,r2,B1,T1,B2,T2,rfl,G1,G2,l1,l2,o1,o2,oo,hb1⟩;have HB:Below w0.heap.size w0 w1:=hb1;have hr2:0<(r2.length:Int):=by
  have h9:r2≠[]:=fun e=>HE.out (by rw[<-G2.val];exact(ac5 G2.canon).2 e)
  have h8:r2.length≠0:=fun e=>h9 (List.eq_nil_of_length_eq_zero e)
  omega
 obtain⟨xa,xb,xc,xd⟩:=(bx.below HB).facts;go_wp2_with fail
 refine(abu _ 1 (by omega) (by omega)).mono ?_;rintro e w3 ⟨v3,rfl,hi3,hb3⟩;obtain⟨p3,q3,r3,rfl,G3,l3⟩:=ae4 hi3 (by omega);clear hi3;replace HB:=HB.trans (hb3.mono HB.size);replace G1:=G1.below hb3;replace G2:=G2.below hb3;go_wp2_with fail
 refine(ax6 _ _ _ _ _ _ _ r1 r3 G1.sl G3.sl (by omega) (by omega)).mono ?_;rintro e w4 ⟨p4,q4,r4,rfl,G4,l4,o4,hb4⟩;replace HB:=HB.trans (hb4.mono HB.size);replace G2:=G2.below hb4;rw[G1.val,G3.val]at G4;have hy4:=hy0.below HB;obtain⟨ya,yb,yc,yd⟩:=(by'.below HB).facts;go_wp2_with fail
 refine(aqe _ _ _ _ _ _ _ ys r2 hy4 G2.sl (by omega) (by rw[G2.val];exact Int.le_of_lt (Int.emod_lt_of_pos _ PY.out))).mono ?_;rintro e w5 ⟨p5,q5,r5,rfl,G5,l5,o5,hb5⟩;replace HB:=HB.trans (hb5.mono HB.size);replace G4:=G4.below hb5;rw[G2.val]at G5;clear xa xb xc xd ya yb yc yd G1 G2 G3 hy4;obtain⟨xa,xb,xc,xd⟩:=(bx.below HB).facts;obtain⟨ya,yb,yc,yd⟩:=(by'.below HB).facts;go_wp2_with fail
 refine(aa5 _ _ _ _ r4 _ G4 (by omega)).mono ?_;rintro e w7 ⟨ng7,rfl,G7,hb7⟩;replace HB:=HB.trans (hb7.mono HB.size);have G2':=G5.below hb7;clear xa xb xc xd ya yb yc yd;obtain⟨xa,xb,xc,xd⟩:=(bx.below HB).facts;obtain⟨ya,yb,yc,yd⟩:=(by'.below HB).facts;go_wp2_with fail
 refine(aa5 _ _ _ _ r5 _ G2' (by omega)).mono ?_;rintro e w8 ⟨ng8,rfl,G8,hb8⟩;replace HB:=HB.trans (hb8.mono HB.size);replace G7:=G7.below hb8;clear xa xb xc xd ya yb yc yd;have bq8:=bq.below HB;have br8:=br.below HB;obtain⟨qa,qb,qc,qd⟩:=bq8.facts;obtain⟨ra,rb,rc,rd⟩:=br8.facts;have VQ:Hid (sg (!ny) (val xs/val ys+1)=sg true (val xs)/sg ny (val ys)/\sg false (val ys-val xs%val ys)=sg true (val xs)%sg ny (val ys)):=by have h:=avv ny PY.out HE.out;rwa[show(true != ny) = !ny by cases ny <;> rfl]at h
 have Y1:=hide ((br8.other (show w.heap.size+1+1+1≠w.heap.size+1+1 by omega) (.bool ng7) (.slice p4 r4.length q4)).wh ng8 (.slice p5 r5.length q5) (bq8.wh ng7 (.slice p4 r4.length q4) G7));have Y2:=hide ((br8.other (show w.heap.size+1+1+1≠w.heap.size+1+1 by omega) (.bool ng7) (.slice p4 r4.length q4)).wh ng8 (.slice p5 r5.length q5) (bq8.wh ng7 (.slice p4 r4.length q4) G8));have F:=hide (ahb (nq:=ng7) (vq:=.slice p4 r4.length q4) (nr:=ng8) (vr:=.slice p5 r5.length q5) bq8 br8 (by omega));have Z:=hide (hb0.trans (HB.mono hb0.size));have Z2:=hide (aad (aad Z.out (show w.heap.size<=w.heap.size+1+1 by omega) (.bool ng7) (.slice p4 r4.length q4)) (show w.heap.size<=w.heap.size+1+1+1 by omega) (.bool ng8) (.slice p5 r5.length q5));have hs9:=HS0.out;have s_hb1:=hb1.size;have s_hb7:=hb7.size;have s_hb8:=hb8.size;have s_hb3:=hb3.size;have s_hb4:=hb4.size;have s_hb5:=hb5.size;have O1:=hide (((((o4.below hb5).below hb7).below hb8).set2 (w.heap.size+1+1) (by omega) (.bool ng7) (.slice p4 r4.length q4)).set2 (w.heap.size+1+1+1) (by omega) (.bool ng8) (.slice p5 r5.length q5));have O2:=hide ((((o5.below hb7).below hb8).set2 (w.heap.size+1+1) (by omega) (.bool ng7) (.slice p4 r4.length q4)).set2 (w.heap.size+1+1+1) (by omega) (.bool ng8) (.slice p5 r5.length q5));have hsz:((((w8.setCell ⟨w.heap.size+1+1,0,none⟩ (.bool ng7)).setCell ⟨w.heap.size+1+1,1,none⟩ (.slice p4 r4.length q4)).setCell ⟨w.heap.size+1+1+1,0,none⟩ (.bool ng8)).setCell ⟨w.heap.size+1+1+1,1,none⟩ (.slice p5 r5.length q5)).heap.size=w8.heap.size:=by simp[World.setCell]
 have OO:Hid (w3.heap.size≥w.heap.size/\w4.heap.size<=w8.heap.size/\w4.heap.size≥w.heap.size/\w5.heap.size<=w8.heap.size/\∀j,w3.heap.size<=j->j<w4.heap.size->j<w4.heap.size\/w5.heap.size<=j):=⟨by omega,by omega,by omega,by omega,fun j h1 h2=>by omega⟩;rw[<-hsz]at OO;clear hsz;go_wp2;refine bodyPost_ret (v:=.tuple #[.agg #[.bool ng7,.slice p4 r4.length q4],.agg #[.bool ng8,.slice p5 r5.length q5],.bool true]) ?_ rfl ⟨ng7,p4,q4,r4,ng8,p5,q5,r5,w3.heap.size,w4.heap.size,w4.heap.size,w5.heap.size,rfl,by rw[<-VQ.out.1];exact Y1.out,by rw[<-VQ.out.2];exact Y2.out,by omega,by omega,O1.out,O2.out,OO.out,Z2.out⟩;simp[results,Tryz.results125,go_sem,F.out.1.facts.1,F.out.1.facts.2.1,F.out.2.facts.1,F.out.2.facts.2.1]
theorem as8(w:World)(nx:Bool)(a1:Option Addr)(n1 c1:Nat)(xs:List Int)(hx:Sl w (.slice a1 n1 c1) xs)(ny:Bool)(a2:Option Addr)(n2 c2:Nat)(ys:List Int)(hy:Sl w (.slice a2 n2 c2) ys)(hm1:xs.length<=400000)(hm2:ys.length<=400000)(h0:val ys≠0):
  Calls Tryz.prog 125 #[.agg #[.bool nx,.slice a1 n1 c1],.agg #[.bool ny,.slice a2 n2 c2]] w fun e w'=>∃nq aq cq qs nr ar cr rs B1 T1 B2 T2,e=.returned (.tuple #[.agg #[.bool nq,.slice aq qs.length cq],.agg #[.bool nr,.slice ar rs.length cr],.bool true])/\Wh w' nq aq cq qs (sg nx (val xs)/sg ny (val ys))/\Wh w' nr ar cr rs (sg nx (val xs)%sg ny (val ys))/\qs.length<=xs.length+4/\rs.length<=ys.length/\Li B1 T1 w' aq cq qs/\Li B2 T2 w' ar cr rs/\(w.heap.size<=B1/\T1<=w'.heap.size/\w.heap.size<=B2/\T2<=w'.heap.size/\∀j,B1<=j->j<T1->j<B2\/T2<=j)/\Below w.heap.size w w':=by
 cases nx with
 |false=>exact amj w a1 n1 c1 xs hx ny a2 n2 c2 ys hy hm1 hm2 h0
 |true=>
  by_cases he:val xs%val ys=0
  ·exact ala w a1 n1 c1 xs hx ny a2 n2 c2 ys hy hm1 hm2 h0 he
  ·exact amk w a1 n1 c1 xs hx ny a2 n2 c2 ys hy hm1 hm2 h0 he
theorem a26(w:World)(a1 a2:Option Addr)(n1 n2 c1 c2:Nat)(xs ys:List Int)(hx:Sl w (.slice a1 n1 c1) xs)(hy:Sl w (.slice a2 n2 c2) ys)(hm1:xs.length<=400000)(hm2:ys.length<=400000):
  Calls Tryz.prog 117 #[.slice a1 n1 c1,.slice a2 n2 c2] w fun e w'=>∃ao cap rs,e=.returned (.slice ao rs.length cap)/\Got w' ao cap rs (Int.gcd (val xs) (val ys))/\rs.length<=xs.length+ys.length+1/\Li w.heap.size w'.heap.size w' ao cap rs/\Below w.heap.size w w':=by
 refine(aop w a1 a2 n1 n2 c1 c2 xs ys hx hy hm1 hm2).mono ?_;rintro e w' ⟨v,rfl,hi,hb⟩;obtain⟨ao,cap,rs,rfl,hg⟩:=hi.fr;refine⟨ao,cap,rs,rfl,hg.got,aax hg.canon ?_,hg.li,hb⟩;rw[hg.val];have b1:=aab hx.parts.2.2.2;have b2:=aab hy.parts.2.2.2;have h1:=akg b1.1 b2.1;have m1:=aay (m:=xs.length) (n:=xs.length+ys.length) (by omega);have m2:=aay (m:=ys.length) (n:=xs.length+ys.length) (by omega);rw[pw];have:=aat (xs.length+ys.length);omega
theorem a1o(w:World)(nx:Bool)(a1:Option Addr)(n1 c1:Nat)(xs:List Int)(hx:Sl w (.slice a1 n1 c1) xs)(ny:Bool)(a2:Option Addr)(n2 c2:Nat)(ys:List Int)(hy:Sl w (.slice a2 n2 c2) ys)(hm1:xs.length<=400000)(hm2:ys.length<=400000):
  Calls Tryz.prog 75 #[.agg #[.bool nx,.slice a1 n1 c1],.agg #[.bool ny,.slice a2 n2 c2]] w fun e w'=>∃ng' ao cap rs,e=.returned (.agg #[.bool ng',.slice ao rs.length cap])/\Wh w' ng' ao cap rs (((Int.gcd (sg nx (val xs)) (sg ny (val ys)):Nat):Int))/\rs.length<=xs.length+ys.length+1/\Li w.heap.size w'.heap.size w' ao cap rs/\Below w.heap.size w w':=by
 obtain⟨w0,e0,bx,by',br,hb0,hs0⟩:=acf w nx (.slice a1 n1 c1) ny (.slice a2 n2 c2);have E0:=hide e0;have hx0:=hx.below hb0;have hy0:=hy.below hb0;have HS0:=hide hs0;clear e0 hs0;go_enter Tryz.func75,Tryz.ntmps75
 go_wp2_with fail
 rw[E0.out];obtain⟨ca,cb,cc,cd⟩:=bx.facts;obtain⟨ea,eb,ec,ed⟩:=by'.facts;obtain⟨da,db,dc,dd⟩:=br.facts;refine(a26 _ _ _ _ _ _ _ xs ys hx0 hy0 (by omega) (by omega)).mono ?_;rintro e w1 ⟨p1,q1,r1,rfl,G1,l1,o1,hb1⟩;go_wp2_with fail
 refine(aa5 _ false _ _ r1 _ G1 (by omega)).mono ?_;rintro e w2 ⟨ng2,rfl,G2,hb2⟩;have br2:=(br.below hb1).below hb2;obtain⟨ka,kb,kc,kd⟩:=br2.facts;have SGF:Hid (sg false ((Int.gcd (val xs) (val ys):Nat):Int)=((Int.gcd (sg nx (val xs)) (sg ny (val ys)):Nat):Int)):=by show _=_;rw[a1b];rfl
 have X:=hide (br2.set ng2 (.slice p1 r1.length q1)).facts;have Y:=hide (br2.wh ng2 (.slice p1 r1.length q1) G2);have Z:=hide (aad (hb0.trans ((hb1.trans (hb2.mono hb1.size)).mono hb0.size)) (Nat.le_add_right _ 2) (.bool ng2) (.slice p1 r1.length q1))
 skip;have hs9:=HS0.out;have s_1:=hb1.size;have s_2:=hb2.size;have O1:=hide ((o1.below hb2).set2 (w.heap.size+1+1) (by omega) (.bool ng2) (.slice p1 r1.length q1));have O2:=hide (show Li w.heap.size _ _ p1 q1 r1 from⟨O1.out.ow.mono (by omega),fun h0 g off e=>by have:=O1.out.lies h0 g off e;exact⟨by omega,Nat.lt_of_lt_of_le this.2 (show w1.heap.size<=((w2.setCell ⟨w.heap.size+1+1,0,none⟩ (.bool ng2)).setCell ⟨w.heap.size+1+1,1,none⟩ (.slice p1 r1.length q1)).heap.size by simp[World.setCell];exact s_2)⟩⟩);clear O1;go_wp2;refine bodyPost_ret (v:=.agg #[.bool ng2,.slice p1 r1.length q1]) ?_ rfl ⟨ng2,p1,q1,r1,rfl,by rw[<-SGF.out];exact Y.out,by omega,O2.out,Z.out⟩;simp[results,Tryz.results75,go_sem,X.out.1,X.out.2.1]
end Lm
namespace Dm
open Go.RowKit
open Lm (hide aao aaa cmpI abg abi)
theorem Wh.via{w0 w1 w2:World}{ng:Bool}{ao:Option Addr}{cap:Nat}{rs:List Int}{z:Int}(h:Wh w0 ng ao cap rs z)(h1:Below w0.heap.size w0 w1)(h2:Below w1.heap.size w1 w2):Wh w2 ng ao cap rs z:=(h.below h1).below h2
theorem a1p(w:World)(n1:Bool)(a1:Option Addr)(c1:Nat)(xs:List Int)(x:Int)(hx:Wh w n1 a1 c1 xs x)(n2:Bool)(a2:Option Addr)(c2:Nat)(ys:List Int)(y:Int)(hy:Wh w n2 a2 c2 ys y)(m1:xs.length<=400000)(m2:ys.length<=400000):
  Calls Tryz.prog 154 #[.agg #[.bool n1,.slice a1 xs.length c1],.agg #[.bool n2,.slice a2 ys.length c2]] w fun e w'=>∃ng' ao cap rs,e=.returned (.agg #[.bool ng',.slice ao rs.length cap])/\Wh w' ng' ao cap rs (x-y)/\rs.length<=xs.length+ys.length+1/\Below w.heap.size w w':=by
 obtain⟨w0,e0,bx,by',br,hb0,hs0⟩:=acf w n1 (.slice a1 xs.length c1) n2 (.slice a2 ys.length c2);have E0:=hide e0;have hx0:=hx.below hb0;have hy0:=hy.below hb0;have HB:=hb0;have ne1:¬(w.heap.size=w.heap.size+1+1):=by omega
 have ne2:¬(w.heap.size+1+1=w.heap.size):=by omega
 clear e0 hs0;go_enter Tryz.func154,Tryz.ntmps154
 go_wp2_with fail
 rw[E0.out];obtain⟨bx1,bx2,bx3,bx4⟩:=bx.facts;obtain⟨by1,by2,by3,by4⟩:=by'.facts;obtain⟨br1,br2,br3,br4⟩:=br.facts;go_region_held3 (fun w'=>w'.cell? ⟨w.heap.size,0,none⟩=some (.bool n1)/\w'.cell? ⟨w.heap.size,1,none⟩=some (.slice a1 xs.length c1)/\w'.cell? ⟨w.heap.size+1,0,none⟩=some (.bool n2)/\w'.cell? ⟨w.heap.size+1,1,none⟩=some (.slice a2 ys.length c2)) (go_keep) (first
  |(go_at_call 179;have _hq:=hb1';refine(as5 _ _ _ _ xs _ (hx0.via hb1' (by repeat(first|exact Below.refl _ _|refine Below.drew ?_))) _ _ _ r1 _ (G1.below (by repeat(first|exact Below.refl _ _|refine Below.drew ?_))) (by omega) (by omega)).mono ?_;rintro e w2 ⟨ng2,p2,q2,r2,rfl,G2,l2,hb2⟩;have hb2':Below w1.heap.size w1 w2:=(show Below w1.heap.size w1 _ by repeat(first|exact Below.refl _ _|refine Below.drew ?_)).trans hb2;have HB:=HB.trans (hb2'.mono HB.size);replace bx:=bx.below hb2';clear bx1 bx2 bx3 bx4;obtain⟨bx1,bx2,bx3,bx4⟩:=bx.facts;replace by':=by'.below hb2';clear by1 by2 by3 by4;obtain⟨by1,by2,by3,by4⟩:=by'.facts;replace br:=br.below hb2';clear br1 br2 br3 br4;obtain⟨br1,br2,br3,br4⟩:=br.facts)
  |(go_at_call 83;refine(aju _ _ _ _ ys _ (hy0.below (by repeat(first|exact Below.refl _ _|refine Below.drew ?_))) (by omega)).mono ?_;rintro e w1 ⟨ng1,p1,q1,r1,rfl,G1,l1,hb1⟩;have hb1':Below w0.heap.size w0 w1:=(show Below w0.heap.size w0 _ by repeat(first|exact Below.refl _ _|refine Below.drew ?_)).trans hb1;have HB:=HB.trans (hb1'.mono HB.size);replace bx:=bx.below hb1';clear bx1 bx2 bx3 bx4;obtain⟨bx1,bx2,bx3,bx4⟩:=bx.facts;replace by':=by'.below hb1';clear by1 by2 by3 by4;obtain⟨by1,by2,by3,by4⟩:=by'.facts;replace br:=br.below hb1';clear br1 br2 br3 br4;obtain⟨br1,br2,br3,br4⟩:=br.facts))
 all_goals
  have X:=hide (br.set ng2 (.slice p2 r2.length q2)).facts;have Y:=hide (br.wh ng2 (.slice p2 r2.length q2) G2);have Z:=hide (aad HB (show w.heap.size<=w.heap.size+1+1 by omega) (.bool ng2) (.slice p2 r2.length q2));clear bx1 bx2 bx3 bx4 by1 by2 by3 by4;go_wp2;refine bodyPost_ret (v:=.agg #[.bool ng2,.slice p2 r2.length q2]) ?_ rfl ⟨ng2,p2,q2,r2,rfl,by rw[show x-y=x+-y by omega];exact Y.out,by omega,Z.out⟩;simp[results,Tryz.results154,go_sem,X.out.1,X.out.2.1]
end Dm
namespace Dm
open Go.RowKit
open Lm (hide aao aaa)
theorem ajv:∀(L:List Int) (i:Nat) (x:Int),i<L.length->val (L.set i x)=val L+pw i*(x-L.getD i 0)
 | [],i,x,h=>by simp at h
 |z::zs,0,x,_=>by simp[val,pw];omega
 |z::zs,i+1,x,h=>by
  have ih:=ajv zs i x (by simpa using h);rw[List.set_cons_succ,val,ih,val,List.getD_cons_succ,pw,Int.mul_add,<-Int.mul_assoc];omega
theorem aml:∀(L:List Int) (i:Nat),(∀z∈L,0<=z)->pw i*L.getD i 0<=val L
 | [],i,_=>by simp[val]
 |z::zs,0,h=>by
  have h1:0<=val zs:=by
   have:∀l:List Int,(∀z∈l,0<=z)->0<=val l:=by
    intro l;induction l with
    |nil=>intro _;simp[val]
    |cons a l ih=>
     intro hl;have:=ih (fun z hz=>hl z (List.mem_cons_of_mem _ hz));have:=hl a (List.mem_cons_self ..);rw[val];omega
   exact this zs (fun y hy=>h y (List.mem_cons_of_mem _ hy))
  simp[val,pw];omega
 |z::zs,i+1,h=>by
  have ih:=aml zs i (fun y hy=>h y (List.mem_cons_of_mem _ hy));have:=h z (List.mem_cons_self ..);rw[List.getD_cons_succ,val,pw,Int.mul_assoc];omega
theorem aib{L:List Int}(h:Limb L)(i:Nat)(x:Int)(hx:0<=x/\x<10000):Limb (L.set i x):=by
 intro z hz;rcases List.mem_or_eq_of_mem_set hz with h1|h1
 ·exact h z h1
 ·rw[h1];exact hx
theorem aqo{L:List Int}(h:Limb L)(i:Nat)(x:Int)(hx:0<=x):∀z∈L.set i x,0<=z:=by
 intro z hz;rcases List.mem_or_eq_of_mem_set hz with h1|h1
 ·exact(h z h1).1
 ·rw[h1];exact hx
theorem a1q{a b:Int}(ha:0<=a/\a<10000)(hb:0<=b/\b<10000):0<=a*b/\a*b<=99980001:=by
 refine⟨Int.mul_nonneg ha.1 hb.1,?_⟩;have h1:a*b<=9999*b:=Int.mul_le_mul_of_nonneg_right (by omega) hb.1;omega
theorem a1r{B M:List Int}{k j:Nat}{P a b c t s:Int}(hl:k+j<M.length)(ht:M.getD (k+j) 0=t)(hb:B.getD j 0=b)(hs:s=c+t+a*b)(h:val M+pw (k+j)*c=P+pw k*(a*vf B j)):
  val (M.set (k+j) (s%10000))+pw (k+(j+1))*(s/10000)=P+pw k*(a*vf B (j+1)):=by
 rw[ajv M _ _ hl,ht,vf,hb,<-Nat.add_assoc,pw];have e:s=s%10000+10000*(s/10000):=by omega
 have e2:pw (k+j)*(s%10000-t)+10000*pw (k+j)*(s/10000)=pw (k+j)*(s-t):=by
  rw[Int.mul_comm 10000 (pw (k+j)),Int.mul_assoc,<-Int.mul_add];congr 1;omega
 have e3:pw (k+j)*(s-t)=pw (k+j)*c+pw (k+j)*(a*b):=by rw[<-Int.mul_add];congr 1;omega
 have e4:pw k*(a*(vf B j+pw j*b))=pw k*(a*vf B j)+pw (k+j)*(a*b):=by
  rw[ac8,Int.mul_add,Int.mul_add,Int.mul_assoc (pw k) (pw j),<-Int.mul_assoc a (pw j),Int.mul_comm a (pw j),Int.mul_assoc (pw j) a]
 rw[Int.add_assoc,e2,e3,e4];omega
theorem azb{A B M:List Int}{k:Nat}{a c t:Int}(hA:Limb A)(hB:Limb B)(hM:Limb M)(hk:k<A.length)(hl:k+B.length<M.length)(ht:M.getD (k+B.length) 0=t)(ha:A.getD k 0=a)(hc:0<=c)(h:val M+pw (k+B.length)*c=vf A k*val B+pw k*(a*vf B B.length)):
  val (M.set (k+B.length) (t+c))=vf A (k+1)*val B/\Limb (M.set (k+B.length) (t+c)):=by
 have h0:0<=t:=by rw[<-ht];exact(aae hM _).1
 have e1:val (M.set (k+B.length) (t+c))=vf A (k+1)*val B:=by
  rw[ajv M _ _ hl,ht,vf,ha,Int.add_mul,show t+c-t=c by omega,h,aa7 B _ (Nat.le_refl _),Int.mul_assoc]
 refine⟨e1,aib hM _ _ ⟨by omega,?_⟩⟩;have h1:=aml _ (k+B.length) (aqo hM (k+B.length) (t+c) (by omega));have h2:(M.set (k+B.length) (t+c)).getD (k+B.length) 0=t+c:=by
  rw[List.getD_eq_getElem?_getD,List.getElem?_set_self hl];rfl
 rw[h2,e1]at h1;have h3:=aab hB;have h4:=aab (aap hA (k+1));rw[<-ag6,List.length_take,Nat.min_eq_left (by omega)]at h4;have h5:vf A (k+1)*val B<=(pw (k+1)-1)*val B:=Int.mul_le_mul_of_nonneg_right (by omega) h3.1;have h6:(pw (k+1)-1)*val B<=(pw (k+1)-1)*(pw B.length-1):=Int.mul_le_mul_of_nonneg_left (by omega) (by have:=aat (k+1);omega);have h7:(pw (k+1)-1)*(pw B.length-1)<pw (k+1)*pw B.length:=by
  have:=aat (k+1);have:=aat B.length;rw[Int.sub_mul,Int.mul_sub];omega
 have h8:pw (k+1)*pw B.length=pw (k+B.length)*10000:=by rw[<-ac8,show k+1+B.length=(k+B.length)+1 by omega,pw,Int.mul_comm]
 apply Classical.byContradiction;intro hn;have h9:pw (k+B.length)*10000<=pw (k+B.length)*(t+c):=Int.mul_le_mul_of_nonneg_left (by omega) (by have:=aat (k+B.length);omega);omega
theorem Box.wr{w w':World}{g g':Nat}{cur:Array Value}{e:TypeId}{ng:Bool}{v:Value}(h:Box w g ng v)(hw:Wr w w' g' cur e)(hne:g≠g'):Box w' g ng v:=(hw.other g hne).trans h
theorem awc(w:World)(n1:Bool)(a1:Option Addr)(c1:Nat)(A:List Int)(x:Int)(hx:Got w a1 c1 A x)(n2:Bool)(a2:Option Addr)(c2:Nat)(B:List Int)(y:Int)(hy:Got w a2 c2 B y)(m1:A.length<=400000)(m2:B.length<=400000):
  Calls Tryz.prog 89 #[.agg #[.bool n1,.slice a1 A.length c1],.agg #[.bool n2,.slice a2 B.length c2]] w fun e w'=>∃ng' ao cap rs,e=.returned (.agg #[.bool ng',.slice ao rs.length cap])/\Wh w' ng' ao cap rs (sg (n1 != n2) (x*y))/\rs.length<=A.length+B.length+1/\Below w.heap.size w w':=by
 obtain⟨w0,e0,bx,by',br,hb0,hs0⟩:=acf w n1 (.slice a1 A.length c1) n2 (.slice a2 B.length c2);obtain⟨i0,hi,hz0,hz1,hz2⟩:=info_parts acu;have E0:=hide e0;have hx0:=hx.below hb0;have hy0:=hy.below hb0;obtain⟨_,p1,p2,p3⟩:=hx.sl.parts;obtain⟨_,q1,q2,q3⟩:=hy.sl.parts;have P3:=hide p3;have Q3:=hide q3;have HS:=hide hs0;clear p3 q3 e0 hs0;go_enter Tryz.func89,Tryz.ntmps89
 go_wp2_with (refine wpList_make_full _ rfl (.tmp 16) (.tmp 16) 69 rfl w0.heap.size 3 i0 (.int .i64 0) 1 Tryz.underlying69 hi hz0 hz1 .i64 .i64 _ _ (A.length+B.length+1) rfl rfl (by omega) (by omega) (by rw[hz2];omega) (by unfold maxLen;omega) (by rw[E0.out];exact Nat.le_refl _) ?hK)
 case hK=>
  intro w1 hown hgrow;rw[E0.out]at hgrow;generalize hgg:w.heap.size+1+1+1=g at hown ⊢;obtain⟨hgB,cur,hh,hcs,hat⟩:=aba hown;have hb1:Below w0.heap.size w0 w1:=(Below.refl _ _).grown hgrow (Nat.le_refl _) (by simp);have HB1:=hb0.trans (hb1.mono hb0.size);have hs0:=HS.out;replace bx:=bx.below hb1;replace by':=by'.below hb1;replace br:=br.below hb1;have n1g:w.heap.size≠g:=by omega
  have n2g:w.heap.size+1≠g:=by omega
  have n3g:w.heap.size+1+1≠g:=by omega
  have NG:=hide (And.intro n1g (And.intro n2g n3g));have HX:=hide hx0;have HY:=hide hy0;have BX:=hide bx;have BY:=hide by';have BR:=hide br;have HH:=hide hh;have HC:=hide hcs;have HAT:=hide hat;have HG:=hide hgB;clear hown hgrow hh hcs hat hgB hgg bx by' br hx0 hy0 n1g n2g n3g E0 hs0;go_wp2;go_loopw [6] (fun iv wr=>∃(k:Nat) (M:List Int) (cur':Array Value),k<=A.length/\iv=.int .i64 k/\M.length=A.length+B.length+1/\Limb M/\val M=vf A k*val B/\Wr w1 wr g cur' 3/\cur'.size=A.length+B.length+1/\At cur' .i64 0 M) (fun iv _=>A.length-(intOf iv).toNat)
  case atStart=>exact⟨0,List.replicate (A.length+B.length+1) 0,cur,Nat.zero_le _,rfl,by simp,aea _,by rw[ae1];simp[vf],Wr.refl HH.out,HC.out,HAT.out⟩
  case round=>
   obtain⟨k,M,cur',hk,rfl,hml,hm,hv,hwr,hcs',hat'⟩:=hrel;obtain⟨bx1,bx2,bx3,bx4⟩:=(BX.out.wr hwr NG.out.1).facts;obtain⟨by1,by2,by3,by4⟩:=(BY.out.wr hwr NG.out.2.1).facts;by_cases hlt:k<A.length
   ·have dA:(k:Int)<(A.length:Int):=by omega
    obtain⟨a,hak⟩:∃a,A.getD k 0=a:=⟨_,rfl⟩;have HI:Hid (M.length=A.length+B.length+1/\Limb M/\val M+pw (k+0)*0=vf A k*val B+pw k*(a*vf B 0)/\Wr w1 wr g cur' 3/\cur'.size=A.length+B.length+1/\At cur' .i64 0 M):=⟨hml,hm,by rw[hv];simp[vf],hwr,hcs',hat'⟩;have HK:=hide hak;clear hml hm hv hwr hcs' hat' hak;go_wp2;clear bx1 bx2 bx3 bx4 by1 by2 by3 by4;go_loopw [7,8] (fun cv jv wr=>∃(j:Nat) (c:Int) (M:List Int) (cur':Array Value),j<=B.length/\jv=.int .i64 j/\cv=.int .i64 c/\(0<=c/\c<10000)/\M.length=A.length+B.length+1/\Limb M/\val M+pw (k+j)*c=vf A k*val B+pw k*(a*vf B j)/\Wr w1 wr g cur' 3/\cur'.size=A.length+B.length+1/\At cur' .i64 0 M) (fun _ jv _=>B.length-(intOf jv).toNat)
    case atStart=>exact⟨0,0,M,cur',Nat.zero_le _,rfl,rfl,by omega,HI.out.1,HI.out.2.1,HI.out.2.2.1,HI.out.2.2.2.1,HI.out.2.2.2.2.1,HI.out.2.2.2.2.2⟩
    case round=>
     clear HI;obtain⟨j,c,M,cur',hj,rfl,rfl,hc,hml,hm,hv,hwr,hcs',hat'⟩:=hrel;have bx':=BX.out.wr hwr NG.out.1;have by'':=BY.out.wr hwr NG.out.2.1;obtain⟨bx1,bx2,bx3,bx4⟩:=bx'.facts;obtain⟨by1,by2,by3,by4⟩:=by''.facts;have sA:=hwr.sl HG.out hb1 rfl HX.out.sl;have sB:=hwr.sl HG.out hb1 rfl HY.out.sl;obtain⟨b1,off1,rfl,hca⟩:=sA.cells (by omega);have ca:=hca k hlt;have ba:=aae P3.out k;rw[HK.out]at ca ba;have hm0:=hide hml;by_cases hltB:j<B.length
     ·have dB:(j:Int)<(B.length:Int):=by omega
      obtain⟨b2,off2,rfl,hcb⟩:=sB.cells (by omega);have cb:=hcb j hltB;have bb:=aae Q3.out j;obtain⟨b,hbk⟩:∃b,B.getD j 0=b:=⟨_,rfl⟩;rw[hbk]at cb bb;have cm:=hat'.cell hwr.here (k+j) (by omega);rw[Nat.zero_add]at cm;have bm:=aae hm (k+j);obtain⟨t,htk⟩:∃t,M.getD (k+j) 0=t:=⟨_,rfl⟩;rw[htk]at cm bm;have fm:=hwr.free (k+j);have hab:=a1q ba bb;have dM:(k:Int)+(j:Int)<(A.length:Int)+(B.length:Int)+1:=by omega
      have HV':=hide (a1r (a:=a) (by omega) htk hbk rfl hv);have HL':=hide (aib hm (k+j) ((c+t+a*b)%10000) (by omega));have HT':=hide (hat'.set (k+j) ((c+t+a*b)%10000));have HW':=hide hwr;have HCS:=hide hcs';clear sA sB hca hcb hbk htk hml hm hv hwr hcs' hat' bx' by'';go_wp2;go_quiet (fail)
      replace cm:(wr.drewN nq).cell? ⟨g,k+j,none⟩=some (.int .i64 t):=cm;replace fm:(wr.drewN nq).frozen? ⟨g,k+j,none⟩=false:=fm;have HW2:=hide ((HW'.out.drewN nq).set (k+j) (.int .i64 ((c+t+a*b)%10000)));clear HW' ca cb bx1 bx2 bx3 bx4 by1 by2 by3 by4;generalize wr.drewN nq=wr2 at cm fm HW2 ⊢;go_wp2;go_roundw
      case rel=>exact⟨j+1,(c+t+a*b)/10000,M.set (k+j) ((c+t+a*b)%10000),_,by omega,by go_num,rfl,by omega,by rw[List.length_set];exact hm0.out,HL'.out,HV'.out,HW2.out,by rw[Array.size_setIfInBounds];exact HCS.out,by simpa using HT'.out⟩
      case measure=>simp[intOf];omega
     ·have hjB:j=B.length:=by omega
      subst hjB;have dB:¬(B.length:Int)<(B.length:Int):=by omega
      have cm:=hat'.cell hwr.here (k+B.length) (by omega);rw[Nat.zero_add]at cm;have bm:=aae hm (k+B.length);obtain⟨t,htk⟩:∃t,M.getD (k+B.length) 0=t:=⟨_,rfl⟩;rw[htk]at cm bm;have fm:=hwr.free (k+B.length);have dM:(k:Int)+(B.length:Int)<(A.length:Int)+(B.length:Int)+1:=by omega
      have HO:=hide (azb P3.out Q3.out hm hlt (by omega) htk HK.out hc.1 hv);have HT':=hide (hat'.set (k+B.length) (t+c));have HW':=hide (hwr.set (k+B.length) (.int .i64 (t+c)));have HCS:=hide hcs';have wr1:IntKind.i64.wrap ((k:Int)+(B.length:Int))=(k:Int)+(B.length:Int):=by rw[IntKind.wrap_i64];omega
      have wr2:IntKind.i64.wrap (t+c)=t+c:=by rw[IntKind.wrap_i64];omega
      have wr3:(0:Int)<=(k:Int)+(B.length:Int):=by omega
      have wr4:((k:Int)+(B.length:Int)).toNat=k+B.length:=by omega
      clear sA sB hca htk hml hm hv hwr hcs' hat' bx' by'' ca;go_wp2;go_region
      have HW2:=hide HW'.out.drew;clear HW' bx1 bx2 bx3 bx4 by1 by2 by3 by4 cm fm;generalize (wr.setCell ⟨g,k+B.length,none⟩ (.int .i64 (t+c))).drew=wr9 at HW2 ⊢;go_wp2;go_roundw
      case rel=>exact⟨k+1,M.set (k+B.length) (t+c),_,by omega,by go_num,by rw[List.length_set];exact hm0.out,HO.out.2,HO.out.1,HW2.out,by rw[Array.size_setIfInBounds];exact HCS.out,by simpa using HT'.out⟩
      case measure=>simp[intOf];omega
   ·have hkA:k=A.length:=by omega
    subst hkA;have dA:¬(A.length:Int)<(A.length:Int):=by omega
    have hvv:val M=x*y:=by rw[hv,aa7 A _ (Nat.le_refl _),HX.out.val,HY.out.val]
    have sM:Sl wr (.slice (some ⟨g,0,none⟩) (A.length+B.length+1) (A.length+B.length+1)) M:=(show Ow g wr _ M from⟨_,_,by rw[hml],by omega,by unfold maxLen;omega,hm,.inr ⟨g,0,cur',rfl,Nat.le_refl _,hwr.here,by omega,hat'⟩⟩).sl;have br:=BR.out.wr hwr NG.out.2.2;have HB:=HB1.trans ((hwr.below HG.out).mono hb0.size);rw[<-hml]at sM;have SM:=hide sM;have HVV:=hide hvv;have HML:=hide hml;clear hml hm hv hwr hcs' hat' hvv sM;go_wp2_with fail
    rw[<-HML.out];refine(abr _ _ _ _ M _ SM.out HVV.out).mono ?_;rintro e w2 ⟨ng2,r2,rfl,G2,l2,hb2⟩;rw[HML.out]at l2;replace HB:=HB.trans (hb2.mono HB.size);replace br:=br.below hb2;obtain⟨br1,br2,br3,br4⟩:=br.facts;have X:=hide (br.set ng2 (.slice (some ⟨g,0,none⟩) r2.length M.length)).facts;have Y:=hide (br.wh ng2 (.slice (some ⟨g,0,none⟩) r2.length M.length) G2);have Z:=hide (aad HB (show w.heap.size<=w.heap.size+1+1 by omega) (.bool ng2) (.slice (some ⟨g,0,none⟩) r2.length M.length));clear bx1 bx2 bx3 bx4 by1 by2 by3 by4;go_wp2;refine bodyPost_ret (v:=.agg #[.bool ng2,.slice (some ⟨g,0,none⟩) r2.length M.length]) ?_ rfl ⟨ng2,(some ⟨g,0,none⟩),M.length,r2,rfl,by first|exact Y.out|(rw[bne];exact Y.out),l2,Z.out⟩;simp[results,Tryz.results89,go_sem,X.out.1,X.out.2.1]
theorem a1s(w:World)(n1:Bool)(a1:Option Addr)(c1:Nat)(xs:List Int)(x:Int)(hx:Wh w n1 a1 c1 xs x)(n2:Bool)(a2:Option Addr)(c2:Nat)(ys:List Int)(y:Int)(hy:Wh w n2 a2 c2 ys y)(m1:xs.length<=400000)(m2:ys.length<=400000):
  Calls Tryz.prog 89 #[.agg #[.bool n1,.slice a1 xs.length c1],.agg #[.bool n2,.slice a2 ys.length c2]] w fun e w'=>∃ng' ao cap rs,e=.returned (.agg #[.bool ng',.slice ao rs.length cap])/\Wh w' ng' ao cap rs (x*y)/\rs.length<=xs.length+ys.length+1/\Below w.heap.size w w':=by
 have wx:=hx.worth;have wy:=hy.worth;rw[hx.1.val]at wx;rw[hy.1.val]at wy;rw[show x*y=sg (n1 != n2) ((x.natAbs:Int)*(y.natAbs:Int)) by rw[aiq,wx,wy]];exact awc w n1 a1 c1 xs _ hx.1 n2 a2 c2 ys _ hy.1 m1 m2
end Dm
namespace Dm
open Go.RowKit
open Lm (hide aao aaa cmpI abg abi)
theorem azc(w:World)(ng:Bool)(a1:Option Addr)(c1:Nat)(xs:List Int)(x:Int)(hx:Got w a1 c1 xs x)(m1:xs.length<=1000000)(h0:0<xs.length):
  Calls Tryz.prog 98 #[.agg #[.bool ng,.slice a1 xs.length c1]] w fun e w'=>∃ng' ao cap rs,e=.returned (.agg #[.bool ng',.slice ao rs.length cap])/\Wh w' ng' ao cap rs (sg false x)/\rs.length<=xs.length/\(∀b off,ao=some ⟨b,off,none⟩->w.heap.size<=b)/\Below w.heap.size w w':=by
 obtain⟨b,off,rfl,_⟩:=hx.sl.cells h0;obtain⟨w0,rfl,bx,br,hb0,hs0⟩:=abx w ng (.slice (some ⟨b,off,none⟩) xs.length c1);obtain⟨i0,hi,hz0,hz1,hz2⟩:=info_parts acu;obtain⟨_,p1,p2,p3⟩:=hx.sl.parts;have P3:=hide p3;have hx0:=hx.below hb0;have HB:=hb0;clear p3;go_enter Tryz.func98,Tryz.ntmps98
 go_wp2_with (at_builtin;refine wpList_append_lies _ rfl _ _ _ rfl w.heap.size 3 i0 _ 1 8 Tryz.underlying69 hi hz0 hz1 hz2 rfl (by omega) (.slice none 0 0) 0 [] rfl (World.ownsRow_nil _ _ _ _) ⟨b,off,none⟩ xs.length c1 (xs.map (Value.int .i64)) rfl (by simp) (Sl.copy hx0.sl) (ad5 xs) (by omega) (by unfold maxLen;omega) (by omega) (by simp;omega) (w.heap.size+2) (by simp) ?_)
 intro g1 q1 w1 hown hgrow hat hlt;have hb1:=Below.grown (Below.refl _ _) hgrow (Nat.le_refl _) (by intro k hk;simp[Value.ownBlock]at hk);have HB:=HB.trans (hb1.mono HB.size);have s1:=copied hown P3.out;replace bx:=bx.below hb1;replace br:=br.below hb1;have FAR:Hid (w.heap.size<=g1):=by rcases hat with e|e;(simp[Value.ownBlock]at e);(show w.heap.size<=g1;omega)
 clear hown hgrow hat hx0;go_wp2_with fail
 try rw[Nat.zero_add]
 refine(abr _ _ _ _ xs _ s1 hx.val).mono ?_;rintro e w2 ⟨ng2,r2,rfl,G2,l2,hb2⟩;replace HB:=HB.trans (hb2.mono HB.size);replace bx:=bx.below hb2;replace br:=br.below hb2;obtain⟨bx1,bx2,bx3,bx4⟩:=bx.facts;obtain⟨br1,br2,br3,br4⟩:=br.facts;all_goals
  have X:=hide (br.set ng2 (.slice (some ⟨g1,0,none⟩) r2.length q1)).facts;have Y:=hide (br.wh ng2 (.slice (some ⟨g1,0,none⟩) r2.length q1) G2);have Z:=hide (aad HB (show w.heap.size<=w.heap.size+1 by omega) (.bool ng2) (.slice (some ⟨g1,0,none⟩) r2.length q1));clear bx1 bx2 bx3 bx4;go_wp2;refine bodyPost_ret (v:=.agg #[.bool ng2,.slice (some ⟨g1,0,none⟩) r2.length q1]) ?_ rfl ⟨ng2,(some ⟨g1,0,none⟩),q1,r2,rfl,Y.out,by omega,(fun b off e=>by simp only[Option.some.injEq,Addr.mk.injEq]at e;have:=FAR.out;omega),Z.out⟩;simp[results,Tryz.results98,go_sem,X.out.1,X.out.2.1]
theorem Is.far{B:Nat}{w:World}{v:Value}{x:Int}(h:Is B w v x):∃ao cap rs,v=.slice ao rs.length cap/\Got w ao cap rs x/\(0<rs.length->∀b off,ao=some ⟨b,off,none⟩->B<=b):=by
 obtain⟨rs,ho,hc,hv⟩:=h;have hs:=ho.sl;obtain⟨ao,cap,rfl,h1,h2,h3,h4⟩:=ho;refine⟨ao,cap,rs,rfl,⟨hs,hc,hv⟩,?_⟩;intro h0 b off e;rcases h4 with h4|⟨g',off',cur,e',hB,hh,_⟩
 ·omega
 ·rw[e']at e;simp only[Option.some.injEq,Addr.mk.injEq,and_true]at e;omega
theorem Wh.natu{w:World}{ao:Option Addr}{cap:Nat}{rs:List Int}{x:Int}(h:Got w ao cap rs x):Wh w false ao cap rs x:=by
 have:=Wh.of false h;simpa[sg]using this
theorem awd{x y:Int}: cmpI x y<=0↔x<=y:=by
 rcases Int.lt_trichotomy x y with h|h|h
 ·rw[abg h];omega
 ·subst h;simp[Lm.cmpI]
 ·rw[abi h];omega
def Cl(w:World)(b i:Nat)(v:Value):Prop:=w.cell? ⟨b,i,none⟩=some v
theorem Cl.below{w w':World}{b i:Nat}{v:Value}(h:Cl w b i v)(hb:Below w.heap.size w w'):Cl w' b i v:=(hb.cell (p:=⟨b,i,none⟩) (aao h)).trans h
theorem Cl.facts{w:World}{b i:Nat}{v:Value}(h:Cl w b i v):w.cell? ⟨b,i,none⟩=some v/\True/\True/\True:=⟨h,trivial,trivial,trivial⟩
theorem Sl.other{w w':World}{g n c:Nat}{a:Option Addr}{zs:List Int}(h:Sl w (.slice a n c) zs)(hne:0<zs.length->∀b off,a=some ⟨b,off,none⟩->b≠g)(ho:∀k,k≠g->w'.heap[k]? = w.heap[k]?):Sl w' (.slice a n c) zs:=by
 obtain⟨ao',cap',hv,h1,h2,h3,h4⟩:=h;obtain⟨rfl,rfl,rfl⟩:=(Value.slice.injEq .. ▸ hv);refine⟨_,_,rfl,h1,h2,h3,?_⟩;rcases h4 with h4|⟨b,off,rfl,hc⟩
 ·exact .inl h4
 ·by_cases h0:0<zs.length
  ·refine .inr ⟨b,off,rfl,fun i hi=>?_⟩;rw[World.cell?_of_block (w:=w) (ho b (hne h0 b off rfl))];exact hc i hi
  ·exact .inl (List.eq_nil_of_length_eq_zero (by omega))
structure Dv (w wr:World) (na:Bool) (va:Value) (g gy gr n:Nat) (Dl:List Int) (pY:Option Addr) (qY:Nat) (Y:List Int) (y:Int) (nR:Bool) (pR:Option Addr) (qR:Nat) (R:List Int) (r:Int):Prop where
 hb:Below w.heap.size w wr
 ba:Box wr w.heap.size na va
 b4:Box wr (w.heap.size+1+1) false (.slice none 0 0)
 b5:Box wr (w.heap.size+1+1+1) false (.slice none 0 0)
 bY:Box wr gy false (.slice pY Y.length qY)
 bR:Box wr gr nR (.slice pR R.length qR)
 d:∃cur,wr.heap[g]? = some (.cells cur 3 (0,0))/\cur.size=n/\At cur .i64 0 Dl
 dl:Dl.length=n/\Limb Dl
 hY:Wh wr false pY qY Y y
 hR:Wh wr nR pR qR R r
 lt:w.heap.size+4<=g/\g<gy/\gy<gr
 farY:∀b off,pY=some ⟨b,off,none⟩->g<b
section
variable {w wr wr':World} {na:Bool} {va:Value} {g gy gr n:Nat} {Dl:List Int} {pY:Option Addr} {qY:Nat} {Y:List Int} {y:Int} {nR:Bool} {pR:Option Addr} {qR:Nat} {R:List Int} {r:Int}
theorem Dv.below(h:Dv w wr na va g gy gr n Dl pY qY Y y nR pR qR R r)(hb:Below wr.heap.size wr wr'):Dv w wr' na va g gy gr n Dl pY qY Y y nR pR qR R r:=by
 obtain⟨cur,hh,r1⟩:=h.d;exact⟨h.hb.trans (hb.mono h.hb.size),h.ba.below hb,h.b4.below hb,h.b5.below hb,h.bY.below hb,h.bR.below hb,⟨cur,(hb.block g (aaa hh)).trans hh,r1⟩,h.dl,h.hY.below hb,h.hR.below hb,h.lt,h.farY⟩
theorem ab4{w:World}{g k:Nat}{ng:Bool}{v:Value}(h:Box w k ng v)(hne:k≠g)(b u:Value):Box ((w.setCell ⟨g,0,none⟩ b).setCell ⟨g,1,none⟩ u) k ng v:=by
 unfold Box;rw[heap_setCell_other _ ⟨g,1,none⟩ k _ hne,heap_setCell_other _ ⟨g,0,none⟩ k _ hne];exact h
theorem Dv.setR(h:Dv w wr na va g gy gr n Dl pY qY Y y nR pR qR R r){n2:Bool}{p2:Option Addr}{q2:Nat}{R2:List Int}{r2:Int}(h2:Wh wr n2 p2 q2 R2 r2):
  Dv w ((wr.setCell ⟨gr,0,none⟩ (.bool n2)).setCell ⟨gr,1,none⟩ (.slice p2 R2.length q2)) na va g gy gr n Dl pY qY Y y n2 p2 q2 R2 r2:=by
 obtain⟨cur,hh,r1⟩:=h.d;have l:=h.lt;refine⟨aad h.hb (by omega) _ _,ab4 h.ba (by omega) _ _,ab4 h.b4 (by omega) _ _,ab4 h.b5 (by omega) _ _,ab4 h.bY (by omega) _ _,h.bR.set _ _,⟨cur,?_,r1⟩,h.dl,h.bR.wh _ _ h.hY,h.bR.wh _ _ h2,h.lt,h.farY⟩;rw[heap_setCell_other _ ⟨gr,1,none⟩ g _ (by simp;omega),heap_setCell_other _ ⟨gr,0,none⟩ g _ (by simp;omega)];exact hh
theorem Dv.setD(h:Dv w wr na va g gy gr n Dl pY qY Y y nR pR qR R r)(i:Nat)(q:Int)(hq:0<=q/\q<10000)(hfar:0<R.length->∀b off,pR=some ⟨b,off,none⟩->b≠g):
  Dv w (wr.setCell ⟨g,i,none⟩ (.int .i64 q)) na va g gy gr n (Dl.set i q) pY qY Y y nR pR qR R r:=by
 obtain⟨cur,hh,hs,ha⟩:=h.d;have l:=h.lt;have ho:∀k,k≠g->(wr.setCell ⟨g,i,none⟩ (.int .i64 q)).heap[k]? = wr.heap[k]? :=fun k hk=>heap_setCell_other wr ⟨g,i,none⟩ k _ hk
 have hset:=ha.set i q;rw[Nat.zero_add]at hset;refine⟨h.hb.setCell (show w.heap.size<=g by omega) _,(ho _ (by omega)).trans h.ba,(ho _ (by omega)).trans h.b4,(ho _ (by omega)).trans h.b5,(ho _ (by omega)).trans h.bY,(ho _ (by omega)).trans h.bR,⟨_,heap_setCell_same wr g i cur _ _ hh,by rw[Array.size_setIfInBounds];exact hs,hset⟩,⟨by rw[List.length_set];exact h.dl.1,aib h.dl.2 _ _ hq⟩,?_,?_,h.lt,h.farY⟩
 ·exact⟨⟨h.hY.1.1.other (fun _ b off e=>by have:=h.farY b off e;omega) ho,h.hY.1.2⟩,h.hY.2⟩
 ·exact⟨⟨h.hR.1.1.other hfar ho,h.hR.1.2⟩,h.hR.2⟩
theorem Dv.cell(h:Dv w wr na va g gy gr n Dl pY qY Y y nR pR qR R r)(i:Nat)(hi:i<n):wr.cell? ⟨g,i,none⟩=some (.int .i64 (Dl.getD i 0))/\wr.frozen? ⟨g,i,none⟩=false:=by
 obtain⟨cur,hh,hs,ha⟩:=h.d;have:=ha.cell hh i (by rw[h.dl.1];exact hi);rw[Nat.zero_add]at this;exact⟨this,frozen_of_row wr g i cur _ hh⟩
theorem Dv.sl(h:Dv w wr na va g gy gr n Dl pY qY Y y nR pR qR R r)(hn:n<=1000000):Sl wr (.slice (some ⟨g,0,none⟩) n n) Dl:=by
 obtain⟨cur,hh,hs,ha⟩:=h.d;exact(show Ow g wr _ Dl from⟨_,n,by rw[h.dl.1],by rw[h.dl.1];omega,by unfold maxLen;omega,h.dl.2,.inr ⟨g,0,cur,rfl,Nat.le_refl _,hh,by omega,ha⟩⟩).sl
end
theorem as9{A Dl:List Int}{k:Nat}{y r a q:Int}(hk:k<A.length)(hd:k<Dl.length)(ha:A.getD k 0=a)(h:val (A.drop (k+1))=y*val (Dl.drop (k+1))+r):val (A.drop k)=y*val ((Dl.set k q).drop k)+(r*10000+a-(y*q+0)):=by
 rw[aa4 A k hk,ha,val,h];have e:(Dl.set k q).drop k=q::Dl.drop (k+1):=by
  rw[aa4 _ k (by rw[List.length_set];exact hd),List.drop_set_of_lt (by omega)];congr 1;rw[List.getD_eq_getElem?_getD,List.getElem?_set_self hd];rfl
 rw[e,val,Int.mul_add,Int.mul_add,<-Int.mul_assoc,<-Int.mul_assoc,Int.mul_comm 10000 y];omega
theorem ata{A:List Int}(hA:Limb A){m:Nat}{y:Int}(hy:pw m<=y){sk:Nat}(hs:A.length-sk<=m):0<=val (A.drop sk)/\val (A.drop sk)<y:=by
 have h1:=aab (ac0 hA sk);have h2:=aay (m:=(A.drop sk).length) (n:=m) (by rw[List.length_drop];exact hs);omega
theorem azd{x y q r:Int}(h:x=y*q+r)(h0:0<=r)(h1:r<y):q=x/y/\r=x%y:=by
 have e:(r+y*q)/y=r/y+q:=Int.add_mul_ediv_left _ _ (by omega);have e2:(r+y*q)%y=r%y:=Int.add_mul_emod_self_left _ _ _;rw[Int.add_comm]at h;rw[h,e,e2,Int.ediv_eq_zero_of_lt h0 h1,Int.emod_eq_of_lt h0 h1];omega
end Dm
namespace Dm
open Go.RowKit
open Lm (hide aao aaa cmpI abg abi)
theorem Sl.drop{w:World}{b off n c:Nat}{zs:List Int}(h:Sl w (.slice (some ⟨b,off,none⟩) n c) zs)(k:Nat)(hk:k<=zs.length):Sl w (.slice (some ⟨b,off+k,none⟩) (zs.length-k) (c-k)) (zs.drop k):=by
 obtain⟨ao',cap',hv,h1,h2,h3,h4⟩:=h;obtain⟨rfl,rfl,rfl⟩:=(Value.slice.injEq .. ▸ hv);refine⟨_,_,by rw[List.length_drop],by rw[List.length_drop];omega,Nat.le_trans (Nat.sub_le _ _) h2,ac0 h3 k,?_⟩;rcases h4 with rfl|⟨b',off',e,hc⟩
 ·exact .inl (by simp)
 ·simp only[Option.some.injEq,Addr.mk.injEq,and_true]at e;obtain⟨rfl,rfl⟩:=e;refine .inr ⟨b,off+k,rfl,fun i hi=>?_⟩;rw[List.length_drop]at hi;have:=hc (k+i) (by omega);rw[List.getD_eq_getElem?_getD,List.getElem?_drop,<-List.getD_eq_getElem?_getD,Nat.add_assoc];exact this
theorem atb(w:World)(ng:Bool)(ao:Option Addr)(n cap:Nat)(ds:List Int)(x:Int)(h:Sl w (.slice ao n cap) ds)(hv:Dm.val ds=x):
  Calls Tryz.prog 121 #[.bool ng,.slice ao n cap] w fun e w'=>∃ng' rs,e=.returned (.agg #[.bool ng',.slice ao rs.length cap])/\Wh w' ng' ao cap rs (sg ng x)/\rs.length<=ds.length/\Below w.heap.size w w':=by
 obtain⟨rfl,_⟩:=h.parts;exact abr w ng ao cap ds x h hv
theorem ako(w:World)(n1:Bool)(a1:Option Addr)(c1:Nat)(A:List Int)(x:Int)(hx:Got w a1 c1 A x)(n2:Bool)(a2:Option Addr)(c2:Nat)(B:List Int)(y:Int)(hy:Got w a2 c2 B y)(m1:A.length<=300000)(m2:B.length<=300000)(y0:0<B.length):
  Calls Tryz.prog 120 #[.agg #[.bool n1,.slice a1 A.length c1],.agg #[.bool n2,.slice a2 B.length c2]] w fun e w'=>∃nq pq qq Q nr pr qr R,e=.returned (.tuple #[.agg #[.bool nq,.slice pq Q.length qq],.agg #[.bool nr,.slice pr R.length qr]])/\Wh w' nq pq qq Q (x/y)/\Wh w' nr pr qr R (x%y)/\Q.length<=A.length/\R.length<=B.length/\Below w.heap.size w w':=by
 obtain⟨w0,e0,bx,by',br,hb0,hs0⟩:=acf w n1 (.slice a1 A.length c1) n2 (.slice a2 B.length c2);obtain⟨bs5,hb5,hs5⟩:=boxed w0 false (.slice none 0 0);obtain⟨i0,hi,hz0,hz1,hz2⟩:=info_parts acu;have E0:=hide e0;rw[hs0]at bs5 hs5;replace bx:=bx.below hb5;replace by':=by'.below hb5;replace br:=br.below hb5;have HB0:=hb0.trans (hb5.mono hb0.size);have hx0:=hx.below HB0;have hy0:=hy.below HB0;obtain⟨_,p1,p2,p3⟩:=hx.sl.parts;obtain⟨_,q1,q2,q3⟩:=hy.sl.parts;have P3:=hide p3;have Q3:=hide q3;generalize hw0:w0.alloc (.cells #[.bool false,.slice none 0 0] 85)=w5 at *
 have E5:=hide hw0;have HS:=hide hs5;clear p3 q3 e0 hs0 hb5 hw0 hs5;go_enter Tryz.func120,Tryz.ntmps120
 obtain⟨bx1,bx2,bx3,bx4⟩:=bx.facts;go_wp2_with (refine wpList_make_full _ rfl (.tmp 16) (.tmp 16) 69 rfl w5.heap.size 3 i0 (.int .i64 0) 1 Tryz.underlying69 hi hz0 hz1 .i64 .i64 _ _ A.length rfl rfl (by omega) (by omega) (by rw[hz2];omega) (by unfold maxLen;omega) (by rw[E0.out,E5.out];exact Nat.le_refl _) ?hK)
 case hK=>
  intro w1 hown hgrow;rw[E0.out,E5.out]at hgrow;have hsz5:=HS.out;obtain⟨hgB,cur,hh,hcs,hat⟩:=aba hown;have hb1:Below w5.heap.size w5 w1:=(Below.refl _ _).grown hgrow (Nat.le_refl _) (by simp);have HB1:=HB0.trans (hb1.mono HB0.size);have hs1:=aaa hh;replace bx:=bx.below hb1;replace by':=by'.below hb1;replace br:=br.below hb1;replace bs5:=bs5.below hb1;have hx1:=hx0.below hb1;have hy1:=hy0.below hb1;have HH:=hide (And.intro hh (And.intro hcs hat));clear hown hgrow hh hcs hat hgB hx0 hy0 bx1 bx2 bx3 bx4 E0 E5 hb1 HB0 HS;generalize hgg:w.heap.size+1+1+1+1=g at HH hs1 ⊢;obtain⟨bx1,bx2,bx3,bx4⟩:=bx.facts;obtain⟨by1,by2,by3,by4⟩:=by'.facts;go_wp2_with fail
  refine(azc _ _ _ _ B _ hy1 (by omega) y0).mono ?_;rintro e w2 ⟨nY,pY,qY,Y,rfl,GY,lY,farY,hb2⟩;have HB2:=HB1.trans (hb2.mono HB1.size);have z2:=hb2.size;replace bx:=bx.below hb2;replace by':=by'.below hb2;replace br:=br.below hb2;replace bs5:=bs5.below hb2;replace hx1:=hx1.below hb2;have hh2:=(hb2.block g hs1).trans HH.out.1;obtain rfl:nY=false:=by
   rw[GY.2];have:=(aab Q3.out).1;rw[hy.val]at this;simp[sg];omega
  simp only[sg,Bool.false_eq_true,if_false]at GY;obtain⟨w3,e3,bY,hb3,hs3⟩:=abj w2 false (.slice pY Y.length qY);have HB3:=HB2.trans (hb3.mono HB2.size);replace bx:=bx.below hb3;replace by':=by'.below hb3;replace br:=br.below hb3;replace bs5:=bs5.below hb3;replace hx1:=hx1.below hb3;replace GY:=GY.below hb3;have hh3:=(hb3.block g (by omega)).trans hh2;have HH3:=hide (And.intro hh3 HH.out.2);have E3:=hide e3;clear hb2 hb3 hy1 HH hh2 hh3 e3 bx1 bx2 bx3 bx4 by1 by2 by3 by4;go_upto_region 3 with fail
  rw[E3.out];clear E3;obtain⟨bx1,bx2,bx3,bx4⟩:=bx.facts;obtain⟨by1,by2,by3,by4⟩:=by'.facts;generalize hgy:w2.heap.size=gy at *
  go_upto_if 29 with fail
  have hsk:∃sk:Nat,sk=A.length+1-B.length:=⟨_,rfl⟩;obtain⟨sk,hsk⟩:=hsk;go_cut [8] (fun v wx=>v=.int .i64 (sk:Int)/\wx=w3)
  case first=>
   by_cases hneg:(A.length:Int)-B.length+1<0
   ·go_wp2;go_meet
    case rel=>exact⟨by simp;omega,rfl⟩
   ·go_wp2;go_meet
    case rel=>exact⟨by simp;omega,rfl⟩
  case rest=>
   obtain⟨rfl,rfl⟩:=hcut;have HSK:=hide hsk;have hskA:sk<=A.length:=by omega
   clear hsk;have DV0:Hid (∀(wx:World) (gr:Nat) (nR:Bool) (pR:Option Addr) (qR:Nat) (R:List Int) (r:Int),Below wc.heap.size wc wx->Box wx gr nR (.slice pR R.length qR)->Wh wx nR pR qR R r->gy<gr->Dv w wx n1 (.slice a1 A.length c1) g gy gr A.length (List.replicate A.length 0) pY qY Y y nR pR qR R r):=by
    intro wx gr nR pR qR R r hbx bRx hRx hgr;have hd:=HH3.out.1;exact⟨HB3.trans (hbx.mono HB3.size),bx.below hbx,br.below hbx,bs5.below hbx,bY.below hbx,bRx,⟨cur,(hbx.block g (aaa hd)).trans hd,HH3.out.2⟩,⟨by simp,aea _⟩,GY.below hbx,hRx,⟨by omega,by omega,hgr⟩,fun b off e=>by have:=farY b off e;omega⟩
   go_upto_region 6 with fail
   go_cut [9] (fun v wx=>∃gr nR pR qR R,v=.pointer (some ⟨gr,0,none⟩)/\Dv w wx n1 (.slice a1 A.length c1) g gy gr A.length (List.replicate A.length 0) pY qY Y y nR pR qR R (val (A.drop sk)))
   case first=>
    by_cases hne:sk<A.length
    ·obtain⟨b,off,rfl,_⟩:=hx1.sl.cells (by omega);have sd:=hx1.sl.drop sk (by omega);have dI:(sk:Int)<=(A.length:Int):=by omega
     have sd2:=sd;rw[<-List.length_drop]at sd2;have hlen:(A.drop sk).length=A.length-sk:=List.length_drop;go_wp2_with (at_builtin;refine wpList_append_lies _ rfl _ _ _ rfl wc.heap.size 3 i0 _ 1 8 Tryz.underlying69 hi hz0 hz1 hz2 rfl (by omega) (.slice none 0 0) 0 [] rfl (World.ownsRow_nil _ _ _ _) ⟨b,off+sk,none⟩ (A.length-sk) (c1-sk) ((A.drop sk).map (Value.int .i64)) rfl (by simp) (Sl.copy sd) (ad5 _) (by omega) (by unfold maxLen;omega) (by omega) (Nat.le_refl _) wc.heap.size rfl ?_)
     intro g1 q1 w4 hown hgrow hat hlt;have hb4:=Below.grown (Below.refl wc.heap.size wc) hgrow (Nat.le_refl _) (by intro k hk;simp[Value.ownBlock]at hk);have s4:=copied (zs:=A.drop sk) (by rw[List.nil_append,List.map_drop];exact hown) (ac0 P3.out sk);clear hown hgrow hat;go_wp2_with fail
     refine(atb _ _ _ (A.length-sk) _ (A.drop sk) _ (by rw[hlen]at s4;exact s4) rfl).mono ?_;rintro e w5 ⟨nR,R,rfl,GR,lR,hb5⟩;have hb45:Below wc.heap.size wc w5:=hb4.trans (hb5.mono hb4.size);obtain⟨w6,e6,bR,hb6,hs6⟩:=abj w5 nR (.slice (some ⟨g1,0,none⟩) R.length q1);have E6:=hide e6;have z5:=hb45.size;have FIN:=hide (DV0.out w6 w5.heap.size nR (some ⟨g1,0,none⟩) q1 R _ (hb45.trans (hb6.mono hb45.size)) bR (GR.below hb6) (by omega));clear e6 bx1 bx2 bx3 bx4 by1 by2 by3 by4;go_wp2;rw[E6.out];go_meet
     case rel=>exact⟨w5.heap.size,nR,(some ⟨g1,0,none⟩),q1,R,rfl,FIN.out⟩
    ·have hsk2:sk=A.length:=by omega
     subst hsk2;cases a1 with
     |none=>
      go_wp2_with fail
      refine(abr _ _ none 0 [] 0 (ace _) rfl).mono ?_;rintro e w5 ⟨nR,R,rfl,GR,lR,hb5⟩;have hb45:Below wc.heap.size wc w5:=hb5;obtain⟨w6,e6,bR,hb6,hs6⟩:=abj w5 nR (.slice none R.length 0);have E6:=hide e6;have z5:=hb45.size;have FIN:=hide (DV0.out w6 w5.heap.size nR none 0 R _ (hb45.trans (hb6.mono hb45.size)) bR (GR.below hb6) (by omega));clear e6 bx1 bx2 bx3 bx4 by1 by2 by3 by4;go_wp2;rw[E6.out];go_meet
      case rel=>exact⟨w5.heap.size,nR,none,0,R,rfl,by rw[List.drop_length];exact FIN.out⟩
     |some ad=>
      rcases Nat.eq_or_lt_of_le p1 with hc|hc
      ·subst hc;go_wp2_with fail
       refine(abr _ _ none 0 [] 0 (ace _) rfl).mono ?_;rintro e w5 ⟨nR,R,rfl,GR,lR,hb5⟩;have hb45:Below wc.heap.size wc w5:=hb5;obtain⟨w6,e6,bR,hb6,hs6⟩:=abj w5 nR (.slice none R.length 0);have E6:=hide e6;have z5:=hb45.size;have FIN:=hide (DV0.out w6 w5.heap.size nR none 0 R _ (hb45.trans (hb6.mono hb45.size)) bR (GR.below hb6) (by omega));clear e6 bx1 bx2 bx3 bx4 by1 by2 by3 by4;go_wp2;rw[E6.out];go_meet
       case rel=>exact⟨w5.heap.size,nR,none,0,R,rfl,by rw[List.drop_length];exact FIN.out⟩
      ·have hc1:¬c1=A.length:=by omega
       have hc2:¬A.length=c1:=by omega
       go_wp2_with fail
       refine(abr _ _ none 0 [] 0 (ace _) rfl).mono ?_;rintro e w5 ⟨nR,R,rfl,GR,lR,hb5⟩;have hb45:Below wc.heap.size wc w5:=hb5;obtain⟨w6,e6,bR,hb6,hs6⟩:=abj w5 nR (.slice none R.length 0);have E6:=hide e6;have z5:=hb45.size;have FIN:=hide (DV0.out w6 w5.heap.size nR none 0 R _ (hb45.trans (hb6.mono hb45.size)) bR (GR.below hb6) (by omega));clear e6 bx1 bx2 bx3 bx4 by1 by2 by3 by4;go_wp2;rw[E6.out];go_meet
       case rel=>exact⟨w5.heap.size,nR,none,0,R,rfl,by rw[List.drop_length];exact FIN.out⟩
   case rest=>
    obtain⟨gr,nR,pR,qR,R,rfl,DV⟩:=hcut;have hyv:0<y:=by rw[<-hy.val];have:=abd hy.canon (by intro e;rw[e]at y0;simp at y0);have:=aat (B.length-1);omega
    have hyp:y<pw B.length:=by rw[<-hy.val];exact(aab Q3.out).2
    have HST:=hide (ata P3.out (m:=B.length-1) (y:=y) (sk:=sk) (by rw[<-hy.val];exact abd hy.canon (by intro e;rw[e]at y0;simp at y0)) (by have:=HSK.out;omega));have HYP:=hide hyp;clear DV0 bx1 bx2 bx3 bx4 by1 by2 by3 by4 bx by' br bs5 bY hx1 GY HH3 farY hyp;go_wp2;go_loopw [10] (fun iv wr=>∃(k:Nat) (Dl:List Int) (nR:Bool) (pR:Option Addr) (qR:Nat) (R:List Int) (r:Int),k<=sk/\iv=.int .i64 ((k:Int)-1)/\Dv w wr n1 (.slice a1 A.length c1) g gy gr A.length Dl pY qY Y y nR pR qR R r/\val (A.drop k)=y*val (Dl.drop k)+r/\0<=r/\r<y) (fun iv _=>(intOf iv+1).toNat)
    case atStart=>exact⟨sk,_,_,_,_,_,_,Nat.le_refl _,rfl,DV,by rw[List.drop_replicate,ae1];omega,HST.out.1,HST.out.2⟩
    case round=>
     clear DV HST;obtain⟨k,Dl,nR,pR,qR,R,r,hk,rfl,DV,hv,hr0,hr1⟩:=hrel;have lR:=DV.hR.len (m:=B.length) (by have:=HYP.out;omega);have HV:=hide hv;clear hv;cases k with
     |zero=>
      have hv:=HV.out;rw[List.drop_zero,List.drop_zero,hx.val]at hv;have QE:=hide (azd hv hr0 hr1);have bR:=DV.bR;have b4:=DV.b4;have b5:=DV.b5;have HL9:=DV.lt;have ne1:¬(w.heap.size+1+1=gr):=by omega
      have ne2:¬(w.heap.size+1+1+1=gr):=by omega
      have ne3:¬(gr=w.heap.size+1+1):=by omega
      have ne4:¬(gr=w.heap.size+1+1+1):=by omega
      obtain⟨bR1,bR2,bR3,bR4⟩:=bR.facts;obtain⟨b41,b42,b43,b44⟩:=b4.facts;obtain⟨b51,b52,b53,b54⟩:=b5.facts;clear hv;go_wp2_with fail
      go_region_held3 (fun w'=>w'.cell? ⟨gr,0,none⟩=some (.bool nR)/\w'.cell? ⟨gr,1,none⟩=some (.slice pR R.length qR)) (go_keep) (first
       |(go_at_call 121;refine(atb _ _ _ _ _ Dl _ ((DV.sl (by omega)).below (by repeat(first|exact Below.refl _ _|refine Below.drew ?_))) rfl).mono ?_;rintro e w1 ⟨n2q,Q,rfl,GQ,lQ,hb1⟩;have hb1':Below wr.heap.size wr w1:=(show Below wr.heap.size wr _ by repeat(first|exact Below.refl _ _|refine Below.drew ?_)).trans hb1;replace DV:=DV.below hb1';replace bR:=bR.below hb1';clear bR1 bR2 bR3 bR4;obtain⟨bR1,bR2,bR3,bR4⟩:=bR.facts;replace b4:=b4.below hb1';clear b41 b42 b43 b44;obtain⟨b41,b42,b43,b44⟩:=b4.facts;replace b5:=b5.below hb1';clear b51 b52 b53 b54;obtain⟨b51,b52,b53,b54⟩:=b5.facts))
      all_goals
       have F1:=hide (ab4 (b4.set n2q (.slice (some ⟨g,0,none⟩) Q.length A.length)) (show w.heap.size+1+1≠w.heap.size+1+1+1 by omega) (.bool nR) (.slice pR R.length qR)).facts;have b5':=ab4 b5 (show w.heap.size+1+1+1≠w.heap.size+1+1 by omega) (.bool n2q) (.slice (some ⟨g,0,none⟩) Q.length A.length);have F2:=hide (b5'.set nR (.slice pR R.length qR)).facts;have Y1:=hide (b5'.wh nR (.slice pR R.length qR) (b4.wh n2q (.slice (some ⟨g,0,none⟩) Q.length A.length) GQ));have Y2:=hide (b5'.wh nR (.slice pR R.length qR) (b4.wh n2q (.slice (some ⟨g,0,none⟩) Q.length A.length) DV.hR));have Z2:=hide (aad (aad DV.hb (show w.heap.size<=w.heap.size+1+1 by omega) (.bool n2q) (.slice (some ⟨g,0,none⟩) Q.length A.length)) (show w.heap.size<=w.heap.size+1+1+1 by omega) (.bool nR) (.slice pR R.length qR));have lD:=DV.dl.1;clear bR1 bR2 bR3 bR4 DV;go_wp2;refine bodyPost_ret (v:=.tuple #[.agg #[.bool n2q,.slice (some ⟨g,0,none⟩) Q.length A.length],.agg #[.bool nR,.slice pR R.length qR]]) ?_ rfl ⟨n2q,some ⟨g,0,none⟩,A.length,Q,nR,pR,qR,R,rfl,by rw[<-QE.out.1];exact Y1.out,by rw[<-QE.out.2];exact Y2.out,by omega,by omega,Z2.out⟩;simp[results,Tryz.results120,go_sem,F1.out.1,F1.out.2.1,F2.out.1,F2.out.2.1]
     |succ k=>
      obtain⟨b,off,rfl,hca⟩:=hx.sl.cells (by omega);have cc:Cl wr b (off+k) (.int .i64 (A.getD k 0)):=(DV.hb.cell (p:=⟨b,off+k,none⟩) (aao (hca k (by omega)))).trans (hca k (by omega));have ba9:=aae P3.out k;obtain⟨a,hak⟩:∃a,A.getD k 0=a:=⟨_,rfl⟩;rw[hak]at cc ba9;have HAK:=hide hak;have ba:=DV.ba;have bR:=DV.bR;have vR:val R=r:=by rw[DV.hR.1.val];omega
      have dK:(k:Int)<(A.length:Int):=by omega
      have dK0:(0:Int)<=(k:Int):=by omega
      have HL9:=DV.lt;have hz9:=aaa DV.bR;clear hca hak;have ek:(((k+1:Nat):Int)-1)=(k:Int):=by omega
      rw[ek];clear ek;go_upto_region 10 with fail
      go_cut [] (fun wx=>∃pR qR R,Dv w wx n1 (.slice (some ⟨b,off,none⟩) A.length c1) g gy gr A.length Dl pY qY Y y false pR qR R (r*10000+a)/\(0<R.length->∀b off,pR=some ⟨b,off,none⟩->b≠g))
      case first=>
       obtain⟨cc1,cc2,cc3,cc4⟩:=cc.facts;obtain⟨ba1,ba2,ba3,ba4⟩:=ba.facts;obtain⟨bR1,bR2,bR3,bR4⟩:=bR.facts;go_region_with (first
        |(go_at_call 121;have _hq:=hb1';refine(ai1 _ p1 q1 r1 _ (G1.below (by repeat(first|exact Below.refl _ _|refine Below.drew ?_)))).mono ?_;rintro e w2 ⟨rfl,hb2⟩;have hb2':Below w1.heap.size w1 w2:=(show Below w1.heap.size w1 _ by repeat(first|exact Below.refl _ _|refine Below.drew ?_)).trans hb2;replace G1:=G1.below hb2';replace DV:=DV.below hb2';replace ba:=ba.below hb2';clear ba1 ba2 ba3 ba4;obtain⟨ba1,ba2,ba3,ba4⟩:=ba.facts;replace bR:=bR.below hb2';clear bR1 bR2 bR3 bR4;obtain⟨bR1,bR2,bR3,bR4⟩:=bR.facts;replace cc:=cc.below hb2';clear cc1 cc2 cc3 cc4;obtain⟨cc1,cc2,cc3,cc4⟩:=cc.facts)
        |(go_at_call 122;refine(abu _ _ _ _ R (DV.hR.sl.below (by repeat(first|exact Below.refl _ _|refine Below.drew ?_))) 10000 a (by omega) (by omega) (by omega)).mono ?_;rintro e w1 ⟨v1,rfl,I1,hb1⟩;have hb1':Below wr.heap.size wr w1:=(show Below wr.heap.size wr _ by repeat(first|exact Below.refl _ _|refine Below.drew ?_)).trans hb1;obtain⟨p1,q1,r1,rfl,G1,far1⟩:=I1.far;clear I1;replace DV:=DV.below hb1';replace ba:=ba.below hb1';clear ba1 ba2 ba3 ba4;obtain⟨ba1,ba2,ba3,ba4⟩:=ba.facts;replace bR:=bR.below hb1';clear bR1 bR2 bR3 bR4;obtain⟨bR1,bR2,bR3,bR4⟩:=bR.facts;replace cc:=cc.below hb1';clear cc1 cc2 cc3 cc4;obtain⟨cc1,cc2,cc3,cc4⟩:=cc.facts))
       all_goals
        rw[vR]at G1;have FIN:=hide (DV.setR (Wh.natu G1));have FAR:Hid (0<r1.length->∀b off,p1=some ⟨b,off,none⟩->b≠g):=fun h0 b off e=>by have:=far1 h0 b off e;simp at this;omega
        clear ba1 ba2 ba3 ba4 cc1 cc2 cc3 cc4 DV;go_wp2;go_meet
        case rel=>exact⟨p1,q1,r1,FIN.out,FAR.out⟩
      case rest=>
       obtain⟨pR,qR,R,DV,farR⟩:=hcut;have HFR:=hide farR;clear farR vR ba bR cc;have lR2:=DV.hR.len (m:=B.length+1) (by rw[pw];have:=HYP.out;omega);go_wp2;obtain⟨r9,hr9⟩:∃r9,r*10000+a=r9:=⟨_,rfl⟩;rw[hr9]at DV;have hy9:y*9999+y=y*(9999+1):=by rw[Int.mul_add];omega
       go_loopw [11,12] (fun lo hi wx=>∃l h:Int,lo=.int .i64 l/\hi=.int .i64 h/\0<=l/\l<=h/\h<=9999/\y*l<=r9/\r9<y*(h+1)/\Below wc.heap.size wc wx) (fun lo hi _=>(intOf hi-intOf lo).toNat)
       case atStart=>exact⟨0,9999,rfl,rfl,by omega,by omega,by omega,by omega,by omega,Below.refl _ _⟩
       case round=>
        obtain⟨l,h,rfl,rfl,l0,lh,h9,lo1,hi1,hbx⟩:=hrel;replace DV:=DV.below hbx;have LO:=hide lo1;have HI:=hide hi1;have HBW:=hide hbx;clear lo1 hi1 hbx;by_cases hlt:l<h
        ·obtain⟨m,hm⟩:∃m,(l+h+1)/2=m:=⟨_,rfl⟩;have hm1:l<m/\m<=h:=by omega
         have bY:=DV.bY;have bR:=DV.bR;have vY:val Y=y:=by rw[DV.hY.1.val];omega
         have hg9:0<=r9:=by omega
         go_upto_region 15 with fail
         rw[hm];go_cut [66] (fun v wx=>v=.bool (decide (y*m<=r9))/\Below wr.heap.size wr wx)
         case first=>
          obtain⟨bY1,bY2,bY3,bY4⟩:=bY.facts;obtain⟨bR1,bR2,bR3,bR4⟩:=bR.facts;have K:=hide (fun w g1 g2 a1 a2 c1 c2 xs ys x y hx hy=>afz w g1 g2 a1 a2 c1 c2 xs ys x y hx hy);go_region_held3 (fun w'=>w'.cell? ⟨gy,0,none⟩=some (.bool false)/\w'.cell? ⟨gy,1,none⟩=some (.slice pY Y.length qY)/\w'.cell? ⟨gr,0,none⟩=some (.bool false)/\w'.cell? ⟨gr,1,none⟩=some (.slice pR R.length qR)) (go_keep) (first
           |(go_at_call 119;have _hq:=hb2';refine(afz _ _ _ p1 _ q1 _ r1 R _ _ (G1.below (by repeat(first|exact Below.refl _ _|refine Below.drew ?_))) (DV.hR.1.below (by repeat(first|exact Below.refl _ _|refine Below.drew ?_)))).mono ?_;rintro e w3 ⟨rfl,hb3⟩;have hb3':Below w2.heap.size w2 w3:=(show Below w2.heap.size w2 _ by repeat(first|exact Below.refl _ _|refine Below.drew ?_)).trans hb3;replace DV:=DV.below hb3';replace bY:=bY.below hb3';clear bY1 bY2 bY3 bY4;obtain⟨bY1,bY2,bY3,bY4⟩:=bY.facts;replace bR:=bR.below hb3';clear bR1 bR2 bR3 bR4;obtain⟨bR1,bR2,bR3,bR4⟩:=bR.facts)
           |(go_at_call 121;have _hq:=hb1';refine(ai1 _ p1 q1 r1 _ (G1.below (by repeat(first|exact Below.refl _ _|refine Below.drew ?_)))).mono ?_;rintro e w2 ⟨rfl,hb2⟩;have hb2':Below w1.heap.size w1 w2:=(show Below w1.heap.size w1 _ by repeat(first|exact Below.refl _ _|refine Below.drew ?_)).trans hb2;replace G1:=G1.below hb2';replace DV:=DV.below hb2';replace bY:=bY.below hb2';clear bY1 bY2 bY3 bY4;obtain⟨bY1,bY2,bY3,bY4⟩:=bY.facts;replace bR:=bR.below hb2';clear bR1 bR2 bR3 bR4;obtain⟨bR1,bR2,bR3,bR4⟩:=bR.facts)
           |(go_at_call 122;refine(abu _ _ _ _ Y (DV.hY.sl.below (by repeat(first|exact Below.refl _ _|refine Below.drew ?_))) m 0 (by omega) (by omega) (by omega)).mono ?_;rintro e w1 ⟨v1,rfl,I1,hb1⟩;have hb1':Below wr.heap.size wr w1:=(show Below wr.heap.size wr _ by repeat(first|exact Below.refl _ _|refine Below.drew ?_)).trans hb1;obtain⟨p1,q1,r1,rfl,G1,far1⟩:=I1.far;clear I1 far1;replace DV:=DV.below hb1';replace bY:=bY.below hb1';clear bY1 bY2 bY3 bY4;obtain⟨bY1,bY2,bY3,bY4⟩:=bY.facts;replace bR:=bR.below hb1';clear bR1 bR2 bR3 bR4;obtain⟨bR1,bR2,bR3,bR4⟩:=bR.facts))
          all_goals
           clear DV bY1 bY2 bY3 bY4 bR1 bR2 bR3 bR4;have HBX:=hide ((hb1'.trans (hb2'.mono hb1'.size)).trans (hb3'.mono (Nat.le_trans hb1'.size hb2'.size)));have e9:(cmpI (y*m) (r9.natAbs:Int)<=0)↔(y*m<=r9):=by
            rw[show((r9.natAbs:Nat):Int)=r9 by omega];exact awd
           have e10:decide (cmpI (y*m) (r9.natAbs:Int)<=0)=decide (y*m<=r9):=decide_eq_decide.2 e9;have E9:=hide e10;clear e9 e10;go_wp2;go_meet
           case rel=>exact⟨by rw[<-E9.out],HBX.out⟩
         case rest=>
          obtain⟨rfl,hbx⟩:=hcut;by_cases hle:y*m<=r9
          ·have hd:decide (y*m<=r9)=true:=decide_eq_true hle;rw[hd];have HLE:=hide hle;clear hle hd;go_wp2;go_roundw
           case rel=>exact⟨m,h,by first|rfl|rw[hm],rfl,by omega,by omega,by omega,HLE.out,HI.out,HBW.out.trans (hbx.mono HBW.out.size)⟩
           case measure=>simp[intOf];omega
          ·have hd:decide (y*m<=r9)=false:=decide_eq_false hle;rw[hd];have HLE:=hide hle;clear hle hd;go_wp2;go_roundw
           case rel=>exact⟨l,m-1,rfl,by first|rfl|rw[hm],by omega,by omega,by omega,LO.out,by have:=HLE.out;rw[show m-1+1=m by omega];omega,HBW.out.trans (hbx.mono HBW.out.size)⟩
           case measure=>simp[intOf];omega
        ·obtain rfl:h=l:=by omega
         have vY:val Y=y:=by rw[DV.hY.1.val];omega
         have hg9:0<=r9:=by omega
         obtain⟨cd,fd⟩:=DV.cell k (by omega);have DV2:=DV.setD k h (by omega) HFR.out;have HDV:=hide DV2;have hp9:r9<pw (B.length+1):=by rw[pw];have:=HYP.out;omega
         have hp8:val Y*h+0<pw (B.length+1):=by rw[vY];have:=LO.out;omega
         have HP8:=hide hp8;have vv:∃dv,Dl.getD k 0=dv:=⟨_,rfl⟩;obtain⟨dv,hdv⟩:=vv;rw[hdv]at cd;clear hp9 hp8 DV DV2 hdv;go_upto_region 19 with fail
         generalize wr.setCell ⟨g,k,none⟩ (.int .i64 h)=ws at HDV ⊢;have DV:=HDV.out;have bY:=DV.bY;have bR:=DV.bR;clear HDV cd fd;have e1:y*(h+1)=y*h+y:=by rw[Int.mul_add];omega
         have E1:=hide e1;clear e1;obtain⟨bY1,bY2,bY3,bY4⟩:=bY.facts;obtain⟨bR1,bR2,bR3,bR4⟩:=bR.facts;go_region_with (first
           |(go_at_call 154;have _hq:=hb2';refine(a1p _ _ _ _ R _ (DV.hR.below (by repeat(first|exact Below.refl _ _|refine Below.drew ?_))) _ p1 q1 r1 _ (Wh.natu (G1.below (by repeat(first|exact Below.refl _ _|refine Below.drew ?_)))) (by omega) (by have:=aax G1.canon (m:=B.length+1) (by rw[G1.val];exact HP8.out);omega)).mono ?_;rintro e w3 ⟨n3,p3,q3,r3,rfl,G3,l3,hb3⟩;have hb3':Below w2.heap.size w2 w3:=(show Below w2.heap.size w2 _ by repeat(first|exact Below.refl _ _|refine Below.drew ?_)).trans hb3;replace DV:=DV.below hb3';replace bY:=bY.below hb3';clear bY1 bY2 bY3 bY4;obtain⟨bY1,bY2,bY3,bY4⟩:=bY.facts;replace bR:=bR.below hb3';clear bR1 bR2 bR3 bR4;obtain⟨bR1,bR2,bR3,bR4⟩:=bR.facts)
           |(go_at_call 121;have _hq:=hb1';refine(ai1 _ p1 q1 r1 _ (G1.below (by repeat(first|exact Below.refl _ _|refine Below.drew ?_)))).mono ?_;rintro e w2 ⟨rfl,hb2⟩;have hb2':Below w1.heap.size w1 w2:=(show Below w1.heap.size w1 _ by repeat(first|exact Below.refl _ _|refine Below.drew ?_)).trans hb2;replace G1:=G1.below hb2';replace DV:=DV.below hb2';replace bY:=bY.below hb2';clear bY1 bY2 bY3 bY4;obtain⟨bY1,bY2,bY3,bY4⟩:=bY.facts;replace bR:=bR.below hb2';clear bR1 bR2 bR3 bR4;obtain⟨bR1,bR2,bR3,bR4⟩:=bR.facts)
           |(go_at_call 122;refine(abu _ _ _ _ Y (DV.hY.sl.below (by repeat(first|exact Below.refl _ _|refine Below.drew ?_))) h 0 (by omega) (by omega) (by omega)).mono ?_;rintro e w1 ⟨v1,rfl,I1,hb1⟩;have hb1':Below ws.heap.size ws w1:=(show Below ws.heap.size ws _ by repeat(first|exact Below.refl _ _|refine Below.drew ?_)).trans hb1;obtain⟨p1,q1,r1,rfl,G1,far1⟩:=I1.far;clear I1 far1;replace DV:=DV.below hb1';replace bY:=bY.below hb1';clear bY1 bY2 bY3 bY4;obtain⟨bY1,bY2,bY3,bY4⟩:=bY.facts;replace bR:=bR.below hb1';clear bR1 bR2 bR3 bR4;obtain⟨bR1,bR2,bR3,bR4⟩:=bR.facts))
         all_goals
          rw[vY]at G3;have FIN:=hide (DV.setR G3);clear bY1 bY2 bY3 bY4 DV;go_wp2;go_roundw
          case rel=>exact⟨k,Dl.set k h,n3,p3,q3,r3,_,by omega,by go_num,FIN.out,by rw[<-hr9];exact as9 (by omega) (by have:=FIN.out.dl.1;rw[List.length_set]at this;omega) HAK.out HV.out,by have:=LO.out;omega,by have:=HI.out;have:=E1.out;omega⟩
          case measure=>simp[intOf]
end Dm
namespace Dm
open Go.RowKit
open Lm (hide aao aaa)
theorem ate{ds:List Int}{k:Nat}{u x:Int}(hk:ds.length=k)(h:val ds+pw k*u=x):val (ds ++ [u%10000])+pw (k+1)*(u/10000)=x:=by
 rw[abb,hk,pw];have e:u=u%10000+10000*(u/10000):=by omega
 have e2:pw k*(u%10000)+10000*pw k*(u/10000)=pw k*u:=by
  rw[Int.mul_comm 10000 (pw k),Int.mul_assoc,<-Int.mul_add,<-e]
 omega
theorem atf{ds:List Int}{k:Nat}{u:Int}(_hk:ds.length=k)(hl:Limb ds)(hu:0<u)(h:val ds+pw k*u<18446744073709551616):k<=4:=by
 apply Classical.byContradiction;intro hn;have h1:=aay (m:=5) (n:=k) (by omega);rw[show pw 5=100000000000000000000 from by decide]at h1;have h2:pw k*1<=pw k*u:=Int.mul_le_mul_of_nonneg_left (by omega) (by omega);have h3:=(aab hl).1;omega
theorem awe(w:World)(v:Int)(h1 : -9223372036854775808<=v)(h2:v<=9223372036854775807)(h0:v<0):
  Calls Tryz.prog 88 #[.int .i64 v] w fun e w'=>∃ng' ao cap rs,e=.returned (.agg #[.bool ng',.slice ao rs.length cap])/\Wh w' ng' ao cap rs v/\rs.length<=5/\Below w.heap.size w w':=by
 obtain⟨i0,hi,hz0,hz1,hz2⟩:=info_parts acu;obtain⟨w0,e0,br,hb0,hs0⟩:=abj w false (.slice none 0 0);have E0:=hide e0;clear e0 hs0;have hw:IntKind.u64.wrap (-IntKind.u64.wrap v) = -v:=by rw[IntKind.wrap_u64,IntKind.wrap_u64];omega
 go_enter Tryz.func88,Tryz.ntmps88
 go_wp2;rw[E0.out];clear hw;go_loopw [3,4] (fun mv uv wr=>∃(k:Nat) (u:Int) (ds:List Int),uv=.int .u64 u/\0<=u/\u<18446744073709551616/\ds.length=k/\k<=5/\Limb ds/\val ds+pw k*u = -v/\wr.ownsRow w0.heap.size 3 1 mv k (ds.map (Value.int .i64))/\Below w0.heap.size w0 wr) (fun _ uv _=>(intOf uv).toNat)
 case atStart=>exact⟨0,-v,[],rfl,by omega,by omega,rfl,by omega,aac,by simp[val,pw],World.ownsRow_nil _ _ _ _,Below.refl _ _⟩
 case round=>
  obtain⟨k,u,ds,rfl,hu0,hu1,hdl,hk5,hds,hv,hown,hbel⟩:=hrel;have HD:=hide hds;have HDL:=hide hdl;have HV:=hide hv;have hsz:=hbel.size;clear hds hdl hv;by_cases hu:0<u
  ·have hroom:=atf HDL.out HD.out hu (by rw[HV.out];omega);have HV':=hide (ate HDL.out HV.out);go_wp2_with (at_builtin;refine wpList_append_own _ rfl (.tmp 13) (.tmp 17) 69 rfl w0.heap.size 3 i0 (.int .i64 0) 1 8 Tryz.underlying69 hi hz0 hz1 hz2 rfl (by decide) _ _ _ rfl (hown.alloc _) ⟨wr.heap.size,0,none⟩ 1 1 [.int .i64 (u%10000)] rfl rfl (cell_one_new _ _ _) ?c2 ?c3 ?c4 ?c5 ?_)
   case c2=>first|rfl|(intro x hx;simp at hx;subst hx;rfl)
   case c3=>unfold maxLen;omega
   case c4=>omega
   case c5=>first|omega|(simp;omega)
   intro v4 w4 hown4 hgrow4 _;have R:=ac3 hown4 hgrow4 hbel (hown.lt);clear hown4 hgrow4 hown;go_wp2;go_roundw
   case rel=>exact⟨k+1,u/10000,ds ++ [u%10000],rfl,by omega,by omega,by have:=HDL.out;simp;omega,by omega,aaj.2 ⟨HD.out,aaf.2 ⟨by omega,aac⟩⟩,HV'.out,R.1,R.2⟩
   case measure=>simp[intOf];omega
  ·have hu':u=0:=by omega
   subst hu';have hval:Hid (val ds = -v):=by have:=HV.out;rw[Int.mul_zero,Int.add_zero]at this;exact this
   obtain⟨ao1,cap1,hv1,s1,_,_⟩:=(abl hown HD.out).open;subst hv1;replace br:=br.below hbel;have HB:=hb0.trans (hbel.mono hb0.size);have hd:decide (v<0)=true:=by simp;omega
   have hsg:Hid (sg true (-v)=v):=by simp[Hid,sg]
   clear hown hbel;go_wp2_with fail
   try rw[hd]
   refine(abr _ _ _ _ ds _ s1 hval.out).mono ?_;rintro e w2 ⟨ng2,r2,rfl,G2,l2,hb2⟩;rw[hsg.out]at G2;replace br:=br.below hb2;replace HB:=HB.trans (hb2.mono HB.size);have hdl:=HDL.out;clear hb2 hval s1;obtain⟨ka,kb,kc,kd⟩:=br.facts;have X:=hide (br.set ng2 (.slice ao1 r2.length cap1)).facts;have Y:=hide (br.wh ng2 (.slice ao1 r2.length cap1) G2);have Z:=hide (aad HB (Nat.le_refl _) (.bool ng2) (.slice ao1 r2.length cap1));go_wp2;refine bodyPost_ret (v:=.agg #[.bool ng2,.slice ao1 r2.length cap1]) ?_ rfl ⟨ng2,ao1,cap1,r2,rfl,Y.out,by omega,Z.out⟩;simp[results,Tryz.results88,go_sem,X.out.1,X.out.2.1]
theorem awf(w:World)(v:Int)(h1 : -9223372036854775808<=v)(h2:v<=9223372036854775807)(h0:¬v<0):
  Calls Tryz.prog 88 #[.int .i64 v] w fun e w'=>∃ng' ao cap rs,e=.returned (.agg #[.bool ng',.slice ao rs.length cap])/\Wh w' ng' ao cap rs v/\rs.length<=5/\Below w.heap.size w w':=by
 obtain⟨i0,hi,hz0,hz1,hz2⟩:=info_parts acu;obtain⟨w0,e0,br,hb0,hs0⟩:=abj w false (.slice none 0 0);have E0:=hide e0;clear e0 hs0;have hw:True:=trivial;go_enter Tryz.func88,Tryz.ntmps88
 go_wp2;rw[E0.out];clear hw;go_loopw [3,4] (fun mv uv wr=>∃(k:Nat) (u:Int) (ds:List Int),uv=.int .u64 u/\0<=u/\u<18446744073709551616/\ds.length=k/\k<=5/\Limb ds/\val ds+pw k*u=v/\wr.ownsRow w0.heap.size 3 1 mv k (ds.map (Value.int .i64))/\Below w0.heap.size w0 wr) (fun _ uv _=>(intOf uv).toNat)
 case atStart=>exact⟨0,v,[],rfl,by omega,by omega,rfl,by omega,aac,by simp[val,pw],World.ownsRow_nil _ _ _ _,Below.refl _ _⟩
 case round=>
  obtain⟨k,u,ds,rfl,hu0,hu1,hdl,hk5,hds,hv,hown,hbel⟩:=hrel;have HD:=hide hds;have HDL:=hide hdl;have HV:=hide hv;have hsz:=hbel.size;clear hds hdl hv;by_cases hu:0<u
  ·have hroom:=atf HDL.out HD.out hu (by rw[HV.out];omega);have HV':=hide (ate HDL.out HV.out);go_wp2_with (at_builtin;refine wpList_append_own _ rfl (.tmp 13) (.tmp 17) 69 rfl w0.heap.size 3 i0 (.int .i64 0) 1 8 Tryz.underlying69 hi hz0 hz1 hz2 rfl (by decide) _ _ _ rfl (hown.alloc _) ⟨wr.heap.size,0,none⟩ 1 1 [.int .i64 (u%10000)] rfl rfl (cell_one_new _ _ _) ?c2 ?c3 ?c4 ?c5 ?_)
   case c2=>first|rfl|(intro x hx;simp at hx;subst hx;rfl)
   case c3=>unfold maxLen;omega
   case c4=>omega
   case c5=>first|omega|(simp;omega)
   intro v4 w4 hown4 hgrow4 _;have R:=ac3 hown4 hgrow4 hbel (hown.lt);clear hown4 hgrow4 hown;go_wp2;go_roundw
   case rel=>exact⟨k+1,u/10000,ds ++ [u%10000],rfl,by omega,by omega,by have:=HDL.out;simp;omega,by omega,aaj.2 ⟨HD.out,aaf.2 ⟨by omega,aac⟩⟩,HV'.out,R.1,R.2⟩
   case measure=>simp[intOf];omega
  ·have hu':u=0:=by omega
   subst hu';have hval:Hid (val ds=v):=by have:=HV.out;rw[Int.mul_zero,Int.add_zero]at this;exact this
   obtain⟨ao1,cap1,hv1,s1,_,_⟩:=(abl hown HD.out).open;subst hv1;replace br:=br.below hbel;have HB:=hb0.trans (hbel.mono hb0.size);have hd:decide (v<0)=false:=by simp;omega
   have hsg:Hid (sg false (v)=v):=by simp[Hid,sg]
   clear hown hbel;go_wp2_with fail
   try rw[hd]
   refine(abr _ _ _ _ ds _ s1 hval.out).mono ?_;rintro e w2 ⟨ng2,r2,rfl,G2,l2,hb2⟩;rw[hsg.out]at G2;replace br:=br.below hb2;replace HB:=HB.trans (hb2.mono HB.size);have hdl:=HDL.out;clear hb2 hval s1;obtain⟨ka,kb,kc,kd⟩:=br.facts;have X:=hide (br.set ng2 (.slice ao1 r2.length cap1)).facts;have Y:=hide (br.wh ng2 (.slice ao1 r2.length cap1) G2);have Z:=hide (aad HB (Nat.le_refl _) (.bool ng2) (.slice ao1 r2.length cap1));go_wp2;refine bodyPost_ret (v:=.agg #[.bool ng2,.slice ao1 r2.length cap1]) ?_ rfl ⟨ng2,ao1,cap1,r2,rfl,Y.out,by omega,Z.out⟩;simp[results,Tryz.results88,go_sem,X.out.1,X.out.2.1]
theorem amm(w:World)(v:Int)(h1 : -9223372036854775808<=v)(h2:v<=9223372036854775807):
  Calls Tryz.prog 88 #[.int .i64 v] w fun e w'=>∃ng' ao cap rs,e=.returned (.agg #[.bool ng',.slice ao rs.length cap])/\Wh w' ng' ao cap rs v/\rs.length<=5/\Below w.heap.size w w':=by
 by_cases h0:v<0
 ·exact awe w v h1 h2 h0
 ·exact awf w v h1 h2 h0
end Dm
namespace Dm
open Go.RowKit
open Lm (hide aao aaa cmpI abg abi)
theorem adw(u v:Int):Int.gcd v (u%v)=Int.gcd v u:=by
 have h1:=Lm.adw u v (u/v);have h2:=Int.mul_ediv_add_emod u v;rw[Int.mul_comm]at h2;rw[show u-u/v*v=u%v by omega]at h1;rw[h1,Int.gcd_comm]
theorem a1t(w:World)(n1:Bool)(a1:Option Addr)(c1:Nat)(A:List Int)(x:Int)(hx:Got w a1 c1 A x)(n2:Bool)(a2:Option Addr)(c2:Nat)(B:List Int)(y:Int)(hy:Got w a2 c2 B y)(m1:A.length<=300000)(m2:B.length<=300000):
  Calls Tryz.prog 80 #[.agg #[.bool n1,.slice a1 A.length c1],.agg #[.bool n2,.slice a2 B.length c2]] w fun e w'=>∃ng ao cap rs,e=.returned (.agg #[.bool ng,.slice ao rs.length cap])/\Wh w' ng ao cap rs (Int.gcd x y:Int)/\rs.length<=A.length+B.length/\Below w.heap.size w w':=by
 obtain⟨w0,e0,bx,by',br,hb0,hs0⟩:=acf w n1 (.slice a1 A.length c1) n2 (.slice a2 B.length c2);have E0:=hide e0;have hx0:=hx.below hb0;have hy0:=hy.below hb0;have hxn:0<=x:=by rw[<-hx.val];exact(aab hx.canon.1).1
 have hyn:0<=y:=by rw[<-hy.val];exact(aab hy.canon.1).1
 clear e0;go_enter Tryz.func80,Tryz.ntmps80
 go_upto_region 1 with fail
 rw[E0.out];obtain⟨bx1,bx2,bx3,bx4⟩:=bx.facts;go_wp2_with fail
 refine(aot _ _ _ _ A _ hx0 (by omega)).mono ?_;rintro e w1 ⟨nX,pX,qX,X,rfl,GX,lX,hb1⟩;obtain⟨w2,e2,bX,hb2,hs2⟩:=abj w1 nX (.slice pX X.length qX);have z1:=hb1.size;have HB:=hb0.trans (hb1.mono hb0.size);replace HB:=HB.trans (hb2.mono HB.size);replace bx:=(bx.below hb1).below hb2;replace by':=(by'.below hb1).below hb2;replace br:=(br.below hb1).below hb2;replace hy0:=(hy0.below hb1).below hb2;replace GX:=GX.below hb2;have E2:=hide e2;clear e2 bx1 bx2 bx3 bx4 hb1 hb2 E0;go_upto_region 2 with fail
 rw[E2.out];clear E2;obtain⟨by1,by2,by3,by4⟩:=by'.facts;go_wp2_with fail
 refine(aot _ _ _ _ B _ hy0 (by omega)).mono ?_;rintro e w3 ⟨nY,pY,qY,Y,rfl,GY,lY,hb3⟩;obtain⟨w4,e4,bY,hb4,hs4⟩:=abj w3 nY (.slice pY Y.length qY);have z3:=hb3.size;replace HB:=HB.trans (hb3.mono HB.size);replace HB:=HB.trans (hb4.mono HB.size);replace br:=(br.below hb3).below hb4;replace bX:=(bX.below hb3).below hb4;replace GX:=(GX.below hb3).below hb4;replace GY:=GY.below hb4;have E4:=hide e4;clear e4 by1 by2 by3 by4 hb3 hb4 hy0 hx0 bx by';go_wp2_with fail
 rw[E4.out];clear E4;have hsx:w.heap.size+3<=w1.heap.size:=by omega
 have hsy:w1.heap.size+1<=w3.heap.size:=by omega
 have hsz:w3.heap.size<w4.heap.size:=by omega
 generalize w1.heap.size=gx at *
 generalize w3.heap.size=gy at *
 have hsg:sg false x=x:=rfl;have hsg2:sg false y=y:=rfl;rw[hsg]at GX;rw[hsg2]at GY;clear hsg hsg2 z1 z3 hs2 hs4 hs0;go_loopg [] y.toNat (fun k wr=>∃(nX:Bool) (pX:Option Addr) (qX:Nat) (X:List Int) (u:Int) (nY:Bool) (pY:Option Addr) (qY:Nat) (Y:List Int) (v:Int),Box wr gx nX (.slice pX X.length qX)/\Box wr gy nY (.slice pY Y.length qY)/\Box wr (w.heap.size+1+1) false (.slice none 0 0)/\Wh wr nX pX qX X u/\Wh wr nY pY qY Y v/\0<=u/\0<=v/\Int.gcd u v=Int.gcd x y/\X.length<=A.length+B.length/\Y.length<=A.length+B.length/\X.length<=300000/\Y.length<=300000/\Below w.heap.size w wr/\k=v.toNat)
 case atStart=>exact⟨nX,pX,qX,X,x,nY,pY,qY,Y,y,bX,bY,br,GX,GY,hxn,hyn,rfl,by omega,by omega,by omega,by omega,HB,rfl⟩
 case round=>
  clear bX bY br GX GY HB lX lY;obtain⟨nX,pX,qX,X,u,nY,pY,qY,Y,v,bX,bY,br,GX,GY,hu,hv,hg,lX,lY,lX2,lY2,HB,hk⟩:=hrel;obtain rfl:nY=false:=by rw[GY.2];simp;omega
  have HG:=hide hg;have HK:=hide hk;have hz:=GY.zero;have HZ:=hide hz;obtain⟨bY1,bY2,bY3,bY4⟩:=bY.facts;clear hg hk hz;go_wp2_with fail
  refine(av7 _ _ _ _).mono ?_;rintro e w5 ⟨rfl,e5⟩;have hb5:Below wr.heap.size wr w5:=by rw[e5];exact(Below.refl _ _).alloc (Nat.le_refl _) _
  clear e5;replace bX:=bX.below hb5;replace bY:=bY.below hb5;replace br:=br.below hb5;replace GX:=GX.below hb5;replace GY:=GY.below hb5;replace HB:=HB.trans (hb5.mono HB.size);clear hb5 bY1 bY2 bY3 bY4;by_cases h0:Y.length=0
  ·have v0:v=0:=HZ.out.2 (List.eq_nil_of_length_eq_zero h0);have hs:sgn Y.length=0:=by simp[sgn,h0]
   rw[hs];have HG2:Hid ((Int.gcd x y:Int)=u):=by
    have:=HG.out;rw[v0]at this;show((Int.gcd x y:Nat):Int)=u;rw[<-this,Int.gcd_zero_right];omega
   clear hs h0 v0;obtain⟨bX1,bX2,bX3,bX4⟩:=bX.facts;obtain⟨br1,br2,br3,br4⟩:=br.facts;have F:=hide (br.set nX (.slice pX X.length qX)).facts;have Y1:=hide (br.wh nX (.slice pX X.length qX) GX);have Z:=hide (aad HB (show w.heap.size<=w.heap.size+1+1 by omega) (.bool nX) (.slice pX X.length qX));go_wp2;refine bodyPost_ret (v:=.agg #[.bool nX,.slice pX X.length qX]) ?_ rfl ⟨nX,pX,qX,X,rfl,by rw[HG2.out];exact Y1.out,by omega,Z.out⟩;simp[results,Tryz.results80,go_sem,F.out.1,F.out.2.1]
  ·have hs:sgn Y.length=1:=by simp[sgn,h0]
   rw[hs];clear hs;have vp:0<v:=by
    apply Classical.byContradiction;intro hn;exact h0 (by rw[HZ.out.1 (by omega)];rfl)
   obtain⟨bX1,bX2,bX3,bX4⟩:=bX.facts;obtain⟨bY1,bY2,bY3,bY4⟩:=bY.facts;have GX':=GX.1;have GY':=GY.1;rw[show((u.natAbs:Nat):Int)=u by omega]at GX';rw[show((v.natAbs:Nat):Int)=v by omega]at GY';go_wp2_with fail
   refine(ako _ _ _ _ X _ GX' _ _ _ Y _ GY' (by omega) (by omega) (by omega)).mono ?_;rintro e w6 ⟨nq,pq,qq,Q,nr,pr,qr,R,rfl,GQ,GR,lQ,lR,hb6⟩;obtain⟨w7,e7,bq,bz,hb7,hs7⟩:=ac9 w6 nq (.slice pq Q.length qq) nr (.slice pr R.length qr);have z6:=hb6.size;have lgy:=aaa bY;replace bX:=(bX.below hb6).below hb7;replace bY:=(bY.below hb6).below hb7;replace br:=(br.below hb6).below hb7;replace GY:=(GY.below hb6).below hb7;replace GR:=GR.below hb7;replace HB:=(HB.trans (hb6.mono HB.size)).trans (hb7.mono (Nat.le_trans HB.size z6));have E7:=hide e7;clear e7 hb6 hb7 bX1 bX2 bX3 bX4 bY1 bY2 bY3 bY4 GX GX' GY' GQ bq;go_upto_region 5 with fail
   rw[E7.out];clear E7;generalize w6.heap.size=g6 at *
   have bX':=bX.set false (.slice pY Y.length qY);have bY':=ab4 bY (show gy≠gx by omega) (.bool false) (.slice pY Y.length qY);have br':=ab4 br (show w.heap.size+1+1≠gx by omega) (.bool false) (.slice pY Y.length qY);have bz':=ab4 bz (show g6+1≠gx by omega) (.bool false) (.slice pY Y.length qY);have GY':=bX.wh false (.slice pY Y.length qY) GY;have GR':=bX.wh false (.slice pY Y.length qY) GR;have HB':=aad HB (show w.heap.size<=gx by omega) (.bool false) (.slice pY Y.length qY);obtain⟨bX1,bX2,bX3,bX4⟩:=bX.facts;obtain⟨bY1,bY2,bY3,bY4⟩:=bY.facts;have FF:=hide (And.intro bX' (And.intro bY' (And.intro br' (And.intro bz' (And.intro GY' (And.intro GR' HB'))))));clear bX' bY' br' bz' GY' GR' HB';go_upto_region 6 with fail
   clear bX bY br bz GY GR HB bX1 bX2 bX3 bX4 bY1 bY2 bY3 bY4;generalize (w7.setCell ⟨gx,0,none⟩ (.bool false)).setCell ⟨gx,1,none⟩ (.slice pY Y.length qY)=w8 at FF ⊢;obtain⟨bX,bY,br,bz,GY,GR,HB⟩:=FF.out;clear FF;obtain⟨bY1,bY2,bY3,bY4⟩:=bY.facts;obtain⟨bz1,bz2,bz3,bz4⟩:=bz.facts;have bX':=ab4 bX (show gx≠gy by omega) (.bool nr) (.slice pr R.length qr);have bY':=bY.set nr (.slice pr R.length qr);have br':=ab4 br (show w.heap.size+1+1≠gy by omega) (.bool nr) (.slice pr R.length qr);have GY':=bY.wh nr (.slice pr R.length qr) GY;have GR':=bY.wh nr (.slice pr R.length qr) GR;have HB':=aad HB (show w.heap.size<=gy by omega) (.bool nr) (.slice pr R.length qr);have FF:=hide (And.intro bX' (And.intro bY' (And.intro br' (And.intro GY' (And.intro GR' HB')))));clear bX' bY' br' GY' GR' HB' bX br;go_wp2;go_roundg (u%v).toNat
   case measure=>
    have:=Int.emod_lt_of_pos u vp;have:=Int.emod_nonneg u (show v≠0 by omega);have:=HK.out;omega
   case rel=>exact⟨false,pY,qY,Y,v,nr,pr,qr,R,u%v,FF.out.1,FF.out.2.1,FF.out.2.2.1,FF.out.2.2.2.1,FF.out.2.2.2.2.1,hv,Int.emod_nonneg u (show v≠0 by omega),by rw[<-HG.out,Int.gcd_comm u v];exact adw u v,lY,by omega,lY2,by omega,FF.out.2.2.2.2.2,rfl⟩
end Dm
namespace Dm
open Go.RowKit
open Lm (hide aao aaa)
theorem aqp(w:World)(ng:Bool)(ao:Option Addr)(cap:Nat):
  Calls Tryz.prog 81 #[.agg #[.bool ng,.slice ao 0 cap]] w fun e w'=>e=.returned (.int .i64 0)/\Below w.heap.size w w':=by
 have hb:Below w.heap.size w (w.alloc (.cells #[.bool ng,.slice ao 0 cap] 85)):=(Below.refl _ _).alloc (Nat.le_refl _) _;go_enter Tryz.func81,Tryz.ntmps81
 go_wp2;go_ret;exact⟨rfl,hb⟩
theorem atg(w:World)(ao:Option Addr)(n cap:Nat)(h0:¬n=0):
  Calls Tryz.prog 81 #[.agg #[.bool true,.slice ao n cap]] w fun e w'=>e=.returned (.int .i64 (-1))/\Below w.heap.size w w':=by
 have hb:Below w.heap.size w (w.alloc (.cells #[.bool true,.slice ao n cap] 85)):=(Below.refl _ _).alloc (Nat.le_refl _) _;have hl2:(((n:Nat):Int)==0)=false:=by simp;omega
 clear h0;go_enter Tryz.func81,Tryz.ntmps81
 go_wp2;go_ret;exact⟨rfl,hb⟩
theorem ath(w:World)(ao:Option Addr)(n cap:Nat)(h0:¬n=0):
  Calls Tryz.prog 81 #[.agg #[.bool false,.slice ao n cap]] w fun e w'=>e=.returned (.int .i64 1)/\Below w.heap.size w w':=by
 have hb:Below w.heap.size w (w.alloc (.cells #[.bool false,.slice ao n cap] 85)):=(Below.refl _ _).alloc (Nat.le_refl _) _;have hl2:(((n:Nat):Int)==0)=false:=by simp;omega
 clear h0;go_enter Tryz.func81,Tryz.ntmps81
 go_wp2;go_ret;exact⟨rfl,hb⟩
theorem aou(w:World)(ng:Bool)(ao:Option Addr)(cap:Nat)(rs:List Int)(z:Int)(h:Wh w ng ao cap rs z):
  Calls Tryz.prog 81 #[.agg #[.bool ng,.slice ao rs.length cap]] w fun e w'=>e=.returned (.int .i64 (Int.sign z))/\Below w.heap.size w w':=by
 by_cases h0:rs.length=0
 ·have hz:z=0:=h.zero.2 (List.eq_nil_of_length_eq_zero h0);rw[hz,h0];exact aqp w ng ao cap
 ·have hz:z≠0:=fun e=>h0 (by rw[h.zero.1 e];rfl)
  cases ng with
  |true=>
   have hn:z<0:=by have:=h.2;simpa using this.symm
   rw[Int.sign_eq_neg_one_of_neg hn];exact atg w ao _ cap h0
  |false=>
   have hn:0<z:=by have:=h.2;simp at this;omega
   rw[Int.sign_eq_one_of_pos hn];exact ath w ao _ cap h0
theorem aze(x y:Int):Int.gcd (x.natAbs:Int) (y.natAbs:Int)=Int.gcd x y:=by simp[Int.gcd]
end Dm
namespace Lm
open Go.RowKit
open Dm (WFr akl)
theorem a1u(B T:Nat)(w:World):Li B T w none 0 []:=⟨⟨none,0,rfl,Nat.le_refl _,by simp[maxLen],aac,.inl rfl⟩,fun h=>by omega⟩
theorem a1v(w:World):Wh w false none 0 [] 0:=⟨⟨⟨none,0,rfl,Nat.le_refl _,by simp[maxLen],aac,.inl rfl⟩,abk,rfl⟩,rfl⟩
theorem Li.wfr{B T:Nat}{w:World}{ng:Bool}{ao:Option Addr}{cap:Nat}{rs:List Int}{z:Int}(h:Li B T w ao cap rs)(g:Wh w ng ao cap rs z):WFr B T w ng ao cap rs z:=⟨h.fr g.1,g.2⟩
end Lm
namespace Lm
open Go Go.RowKit
open Dm (WFr)
section
variable {dst:Option Tmp} {ty:TypeId} {pos:String} {after:Array Edge} {guard:Option (Nat×Bool)} {a:Act} {w:World} {ats:Array TypeId} {i j:Nat} {z:Int}
theorem aqq{u:Int}(h1:a.eval (.tmp i)=.int .i64 u)(h2:a.eval (.tmp j)=.int .i64 u):
  Does Tryz.prog {dst,op:=.binOp .neq 3 (.tmp i) (.tmp j) 3,type:=ty,pos,after,guard} a.eval w fun v' w'=>Below w.heap.size w w'/\Eqs (.bool false) v' w':=by
 refine ach (v:=.bool false) ?_ ?_ ⟨Below.refl _ _,rfl⟩
 ·rw[h1,h2];simp[go_sem]
 ·rw[h1,h2];simp[go_sem]
theorem azf{u v:Int}(h1:a.eval (.tmp i)=.int .i64 u)(h : -9223372036854775808<=u+v/\u+v<=9223372036854775807):
  Does Tryz.prog {dst,op:=.binOp .add 3 (.tmp i) (.const (.int .i64 v)) 3,type:=ty,pos,after,guard} a.eval w fun v' w'=>Below w.heap.size w w'/\Eqs (.int .i64 (u+v)) v' w':=by
 refine ach (v:=.int .i64 (u+v)) ?_ ?_ ⟨Below.refl _ _,rfl⟩
 ·rw[h1];simp[go_sem,Act.eval]
 ·rw[h1];simp[go_sem,Act.eval];exact wrap64 h.1 h.2
end
end Lm
namespace Lm
open Go Go.RowKit
def Cl(w:World)(v:Value)(size n:Nat)(xs:List Value):Prop:=
 ∃ao cap,v=.slice ao n cap/\n<=cap/\cap<=9223372036854775807/\xs.length=n*size/\(n=0\/∃b off,ao=some ⟨b,off,none⟩/\b<w.heap.size/\∀j u,xs[j]? = some u->w.cell? ⟨b,off+j,none⟩=some u)
theorem Cl.below{w w':World}{v:Value}{size n:Nat}{xs:List Value}(h:Cl w v size n xs)(hb:Below w.heap.size w w'):Cl w' v size n xs:=by
 obtain⟨ao,cap,rfl,h1,h2,h3,h4⟩:=h;refine⟨ao,cap,rfl,h1,h2,h3,?_⟩;rcases h4 with h4|⟨b,off,rfl,hl,hc⟩
 ·exact .inl h4
 ·exact .inr ⟨b,off,rfl,Nat.lt_of_lt_of_le hl hb.size,fun j u hu=>(hb.cell (p:=⟨b,off+j,none⟩) hl).trans (hc j u hu)⟩
theorem Cl.own{w:World}{base:Nat}{e:TypeId}{size n:Nat}{v:Value}{xs:List Value}(h:w.ownsRow base e size v n xs):Cl w v size n xs:=by
 obtain⟨hl,⟨rfl,rfl⟩|⟨g,cap,cur,rfl,hb,hh,h1,h2,h3,h4⟩⟩:=h
 ·exact⟨none,0,rfl,Nat.le_refl _,by omega,hl,.inl rfl⟩
 ·refine⟨_,cap,rfl,h1,by simpa[maxLen]using h2,hl,.inr ⟨g,0,rfl,aaa hh,fun j u hu=>?_⟩⟩;rw[Nat.zero_add,cell_of_row w g j cur e (0,0) hh];rw[<-h4,List.getElem?_take]at hu;split at hu
  ·simpa using hu
  ·cases hu
structure WE where
 ng:Bool
 a:Option Addr
 m:Nat
 c:Nat
 zs:List Int
def WE.z(e:WE):Int:=sg e.ng (val e.zs)
def WE.v(e:WE):Value:=.agg #[.bool e.ng,.slice e.a e.m e.c]
def flat:List WE->List Value
 | []=>[]
 |e::es=>.bool e.ng :: .slice e.a e.m e.c::flat es
theorem ada(es:List WE):(flat es).length=es.length*2:=by
 induction es with
 |nil=>rfl
 |cons e es ih=>simp only[flat,List.length_cons,ih];omega
theorem acb{es:List WE}{k:Nat}{e:WE}(h:es[k]? = some e):(flat es)[k*2]? = some (.bool e.ng)/\(flat es)[k*2+1]? = some (.slice e.a e.m e.c):=by
 induction es generalizing k with
 |nil=>simp at h
 |cons x es ih=>
  cases k with
  |zero=>
   simp only[List.getElem?_cons_zero,Option.some.injEq]at h;subst h;simp[flat]
  |succ k=>
   have:=ih (k:=k) (by simpa using h);have e1:(k+1)*2=k*2+1+1:=by omega
   rw[e1];simpa[flat]using this
theorem afb(es fs:List WE):flat (es++fs)=flat es++flat fs:=by
 induction es with
 |nil=>rfl
 |cons e es ih=>simp[flat,ih]
structure Rw (w:World) (v:Value) (es:List WE):Prop where
 cl:Cl w v 2 es.length (flat es)
 sl:∀e∈es,Sl w (.slice e.a e.m e.c) e.zs
theorem Rw.below{w w':World}{v:Value}{es:List WE}(h:Rw w v es)(hb:Below w.heap.size w w'):Rw w' v es:=⟨h.cl.below hb,fun e he=>(h.sl e he).below hb⟩
theorem Rw.ag{w:World}{v:Value}{es:List WE}(h:Rw w v es){e:WE}(he:e∈es):Ag w e.ng e.a e.m e.c e.zs e.z:=⟨h.sl e he,rfl⟩
theorem Rw.parts{w:World}{ao:Option Addr}{n cap:Nat}{es:List WE}(h:Rw w (.slice ao n cap) es):n=es.length/\es.length<=cap/\cap<=9223372036854775807:=by
 obtain⟨ao',cap',hv,h1,h2,h3,h4⟩:=h.cl;obtain⟨rfl,rfl,rfl⟩:=(Value.slice.injEq .. ▸ hv);exact⟨rfl,h1,h2⟩
theorem Rw.cells{w:World}{ao:Option Addr}{n cap:Nat}{es:List WE}(h:Rw w (.slice ao n cap) es)(hp:0<es.length):∃b off,ao=some ⟨b,off,none⟩/\b<w.heap.size/\∀j u,(flat es)[j]? = some u->w.cell? ⟨b,off+j,none⟩=some u:=by
 obtain⟨ao',cap',hv,h1,h2,h3,h4⟩:=h.cl;obtain⟨rfl,_,rfl⟩:=(Value.slice.injEq .. ▸ hv);rcases h4 with h4|h4
 ·omega
 ·exact h4
section
variable {dst:Option Tmp} {ty:TypeId} {pos:String} {after:Array Edge} {guard:Option (Nat×Bool)} {a:Act} {w:World} {ats:Array TypeId} {i j:Nat}
theorem ajw{ao:Option Addr}{n c:Nat}(h:a.eval (.tmp i)=.slice ao n c):Does Tryz.prog {dst,op:=.call {callee:=.builtin .len,args:=#[.tmp i],argTypes:=#[23]},type:=ty,pos,after,guard} a.eval w fun v' w'=>Below w.heap.size w w'/\Eqs (.int .i64 n) v' w':=by
 have e:(execOp a.eval {dst,op:=.call {callee:=.builtin .len,args:=#[.tmp i],argTypes:=#[23]},type:=ty,pos,after,guard}).run Tryz.prog w=.ok (.value (.int .i64 n)) w:=by
  have h':a.tmps[i]?.getD undef=.slice ao n c:=by simpa[Act.eval]using h
  simp[go_sem,h']
 refine⟨?_⟩;unfold Turns;rw[e];exact⟨Below.refl _ _,rfl⟩
theorem aow{b off n c k:Nat}{ao:Option Addr}(h:a.eval (.tmp i)=.slice ao n c)(hao:ao=some ⟨b,off,none⟩)(hk:a.eval (.tmp j)=.int .i64 (k:Int))(hl:k<n):Does Tryz.prog {dst,op:=.indexAddr 23 (.tmp i) (.tmp j),type:=ty,pos,after,guard} a.eval w fun v' w'=>Below w.heap.size w w'/\Eqs (.pointer (some ⟨b,off+k*2,none⟩)) v' w':=by
 subst hao;have e:(execOp a.eval {dst,op:=.indexAddr 23 (.tmp i) (.tmp j),type:=ty,pos,after,guard}).run Tryz.prog w=.ok (.value (.pointer (some ⟨b,off+k*2,none⟩))) w:=by
  simp only[execOp,h,hk];go_simp
 refine⟨?_⟩;unfold Turns;rw[e];exact⟨Below.refl _ _,rfl⟩
theorem ati{b off k:Nat}{ao:Option Addr}{n cap:Nat}{es:List WE}{e:WE}(hp:a.eval (.tmp i)=.pointer (some ⟨b,off+k*2,none⟩))(hao:ao=some ⟨b,off,none⟩)(hR:Rw w (.slice ao n cap) es)(he:es[k]? = some e):Does Tryz.prog {dst,op:=.load 60 (.tmp i),type:=ty,pos,after,guard} a.eval w fun v' w'=>Below w.heap.size w w'/\Eqs (.agg #[.bool e.ng,.slice e.a e.m e.c]) v' w':=by
 have hk:k<es.length:=(List.getElem?_eq_some_iff.1 he).1;obtain⟨b',off',e',hb,hc⟩:=hR.cells (by omega);obtain⟨rfl,rfl⟩:b'=b/\off'=off:=by
  rw[hao]at e';simp only[Option.some.injEq,Addr.mk.injEq,and_true]at e';exact⟨e'.1.symm,e'.2.symm⟩
 obtain⟨f1,f2⟩:=acb he;have h1:=hc _ _ f1;have h2:w.cell? ⟨b',off'+k*2+1,none⟩=_:=hc _ _ f2;refine abq (v:=.agg #[.bool e.ng,.slice e.a e.m e.c]) ?_ ⟨Below.refl _ _,rfl⟩;rw[hp];go_simp
end
section
variable {dst:Option Tmp} {ty:TypeId} {pos:String} {after:Array Edge} {guard:Option (Nat×Bool)} {a:Act} {w:World} {ats:Array TypeId} {i j:Nat}
theorem azg{k:Nat}(h1:a.eval (.tmp i)=.int .i64 (k:Int))(h:k<9223372036854775807):
  Does Tryz.prog {dst,op:=.binOp .add 3 (.tmp i) (.const (.int .i64 1)) 3,type:=ty,pos,after,guard} a.eval w fun v' w'=>Below w.heap.size w w'/\Eqs (.int .i64 ((k+1:Nat):Int)) v' w':=by
 have:=azf (dst:=dst) (ty:=ty) (pos:=pos) (after:=after) (guard:=guard) (w:=w) (v:=1) h1 (by omega);rwa[show((k:Int)+1)=((k+1:Nat):Int) by omega]at this
theorem azh{u v:Int}(h1:a.eval (.tmp i)=.int .i64 u)(h2:a.eval (.tmp j)=.int .i64 v):
  Does Tryz.prog {dst,op:=.binOp .lss 3 (.tmp i) (.tmp j) 3,type:=ty,pos,after,guard} a.eval w fun v' w'=>Below w.heap.size w w'/\Eqs (.bool (decide (u<v))) v' w':=by
 refine ach (v:=.bool (decide (u<v))) ?_ ?_ ⟨Below.refl _ _,rfl⟩
 ·rw[h1,h2];simp[go_sem]
 ·rw[h1,h2];simp[go_sem]
theorem azi{u v:Int}(h1:a.eval (.tmp i)=.int .i64 u)(h2:a.eval (.tmp j)=.int .i64 v)(h:u=v):
  Does Tryz.prog {dst,op:=.binOp .neq 3 (.tmp i) (.tmp j) 3,type:=ty,pos,after,guard} a.eval w fun v' w'=>Below w.heap.size w w'/\Eqs (.bool false) v' w':=by
 subst h;exact aqq h1 h2
end
end Lm
namespace Lm
open Go Go.RowKit Go.ChangeShapes Go.WideShapes Go.ChangeAt Go.Deep
theorem azj{w:World}{x:Addr}{l c:Nat}{zs:List Int}(hl:l<=c)(hm:c<=maxLen)(hz:zs.length=c)(hcell:∀i,i<zs.length->w.cell? (x.add i)=some (.int .u32 (zs.getD i 0)))(hwz:∀n∈zs,(Lit.int .u32 n).wf=true):Sl w (.slice (some x) l c) (zs.take l):=by
 have hll:(zs.take l).length=l:=by rw[List.length_take];omega
 refine⟨some x,c,by rw[hll],by omega,hm,fun n hn=>?_,?_⟩
 ·have:=bounds_u32 (hwz n (List.mem_of_mem_take hn));omega
 ·by_cases h0:l=0
  ·exact .inl (List.eq_nil_of_length_eq_zero (by omega))
  ·obtain⟨b,off,spot⟩:=x;have h1:=hcell 0 (by omega);have hspot:spot=none:=by simpa[Addr.add]using World.cell?_spot h1
   subst hspot;refine .inr ⟨b,off,rfl,fun i hi=>?_⟩;have h2:=hcell i (by omega);rw[acm _ _ _ (by omega)];have e:(⟨b,off,none⟩:Addr).add i=⟨b,off+i,none⟩:=by
    by_cases hi0:i=0
    ·subst hi0;simp[Addr.add]
    ·simp[Addr.add,hi0]
   rwa[e]at h2
instance:Inhabited WE:=⟨⟨false,none,0,0,[]⟩⟩
theorem atj{H:Type}(zs:List Int):Rows.uptoBulkAll (lits .u32 zs:List (DataW H))=zs.length:=by
 induction zs with
 |nil=>rfl
 |cons z zs ih=>
  have e:(lits .u32 (z::zs):List (DataW H))=.lit (.int .u32 z)::lits .u32 zs:=rfl;rw[e,Rows.uptoBulkAll,ih,Rows.uptoBulk,List.length_cons]
  ·omega
  ·intro b hb;cases hb
theorem anu{H:Type}(l r:List (DataW H)):Rows.uptoBulkAll (l++r)=Rows.uptoBulkAll l+Rows.uptoBulkAll r:=by
 induction l with
 |nil=>simp[Rows.uptoBulkAll]
 |cons x l ih=>simp only[List.cons_append,Rows.uptoBulkAll,ih];omega
end Lm
namespace Dm
open Go Go.RowKit
theorem Sl.rl{w w':World}{v:Value}{zs:List Int}(h:Sl w v zs)(hr:Lm.Rl w w'):Sl w' v zs:=by
 obtain⟨ao,cap,rfl,h1,h2,h3,h4⟩:=h;refine⟨ao,cap,rfl,h1,h2,h3,?_⟩;rcases h4 with h4|⟨b,off,rfl,hc⟩
 ·exact .inl h4
 ·exact .inr ⟨b,off,rfl,fun i hi=>hr.ints _ _ _ (hc i hi)⟩
theorem Wh.rl{w w':World}{ng:Bool}{ao:Option Addr}{cap:Nat}{rs:List Int}{z:Int}(h:Wh w ng ao cap rs z)(hr:Lm.Rl w w'):Wh w' ng ao cap rs z:=⟨⟨h.1.1.rl hr,h.1.2⟩,h.2⟩
theorem awg(n:Nat):pw n<=Lm.pw n:=by
 induction n with
 |zero=>simp[pw,Lm.pw]
 |succ n ih=>
  have:=aat n;simp only[pw,Lm.pw];omega
theorem Wh.bound{w:World}{ng:Bool}{ao:Option Addr}{cap:Nat}{rs:List Int}{z:Int}{L:Nat}(h:Wh w ng ao cap rs z)(hl:rs.length<=L):(z.natAbs:Int)<Lm.pw L:=by
 have h1:=(aab h.1.canon.1).2;rw[h.1.val]at h1;have h2:=aay hl;have h3:=awg L;omega
theorem Wh.some{w:World}{ng:Bool}{ao:Option Addr}{cap:Nat}{rs:List Int}{z:Int}(h:Wh w ng ao cap rs z)(hz:z≠0):0<rs.length:=by
 apply Classical.byContradiction;intro hn;exact hz (h.zero.2 (List.eq_nil_of_length_eq_zero (by omega)))
end Dm
namespace Lm
open Go Go.RowKit
def N2:BoxTy:=⟨85,.agg #[.bool false,.slice none 0 0],fun v cs=>∃ng ao n c,v=.agg #[.bool ng,.slice ao n c]/\cs = #[.bool ng,.slice ao n c]⟩
theorem N2ok:BoxOk Tryz.prog N2 where
 noInt:=by
  rintro v cs ⟨ng,ao,n,c,rfl,rfl⟩ i k z
  match i with
  |0=>simp
  |1=>simp
  |i+2=>simp
 ne:=by unfold N2;exact⟨by decide,by decide⟩
 alloc:=fun w=>⟨#[.bool false,.slice none 0 0],⟨_,_,_,_,rfl,rfl⟩,by unfold N2;go_simp⟩
 box:=by
  rintro w v ⟨cs,ng,ao,n,c,rfl,rfl⟩;exact⟨_,⟨_,_,_,_,rfl,rfl⟩,by unfold N2;go_simp⟩
 store:=by
  rintro w g v0 v ⟨cs0,⟨m,bo,p,d,rfl,rfl⟩,hh⟩ ⟨cs,ng,ao,n,c,rfl,rfl⟩;have hb:Dm.Box w g m (.slice bo p d):=hh;obtain⟨b1,b2,b3,b4⟩:=hb.facts;refine⟨(w.setCell ⟨g,0,none⟩ (.bool ng)).setCell ⟨g,1,none⟩ (.slice ao n c),?_,⟨_,⟨_,_,_,_,rfl,rfl⟩,hb.set ng (.slice ao n c)⟩,⟨rfl,rfl,rfl,by simp[World.setCell],fun k hk=>?_⟩⟩
  ·unfold N2;go_simp
  ·rw[Below.heap_setCell _ _ _ _ (by simpa using hk),Below.heap_setCell _ _ _ _ (by simpa using hk)]
 load:=by
  rintro w g v ⟨cs,⟨ng,ao,n,c,rfl,rfl⟩,hh⟩;obtain⟨b1,b2,b3,b4⟩:=(show Dm.Box w g ng (.slice ao n c)from hh).facts;unfold N2;go_simp
def Q4:BoxTy:=⟨87,.agg #[.bool false,.slice none 0 0,.bool false,.slice none 0 0],fun v cs=>∃ng ao n c mg bo m d,v=.agg #[.bool ng,.slice ao n c,.bool mg,.slice bo m d]/\cs = #[.bool ng,.slice ao n c,.bool mg,.slice bo m d]⟩
theorem aic{w:World}{g:Nat}{x y z u:Value}{T:TypeId}(h:w.heap[g]? = some (.cells #[x,y,z,u] T (0,0))):w.cell? ⟨g,0,none⟩=some x/\w.cell? ⟨g,1,none⟩=some y/\w.cell? ⟨g,2,none⟩=some z/\w.cell? ⟨g,3,none⟩=some u/\w.frozen? ⟨g,0,none⟩=false/\w.frozen? ⟨g,1,none⟩=false/\w.frozen? ⟨g,2,none⟩=false/\w.frozen? ⟨g,3,none⟩=false:=
 ⟨by rw[cell_of_row _ _ _ _ _ (0,0) h];rfl,by rw[cell_of_row _ _ _ _ _ (0,0) h];rfl,by rw[cell_of_row _ _ _ _ _ (0,0) h];rfl,by rw[cell_of_row _ _ _ _ _ (0,0) h];rfl,frozen_of_row _ _ _ _ _ h,frozen_of_row _ _ _ _ _ h,frozen_of_row _ _ _ _ _ h,frozen_of_row _ _ _ _ _ h⟩
theorem Q4ok:BoxOk Tryz.prog Q4 where
 noInt:=by
  rintro v cs ⟨ng,ao,n,c,mg,bo,m,d,rfl,rfl⟩ i k z
  match i with
  |0=>simp
  |1=>simp
  |2=>simp
  |3=>simp
  |i+4=>simp
 ne:=by unfold Q4;exact⟨by decide,by decide⟩
 alloc:=fun w=>⟨#[.bool false,.slice none 0 0,.bool false,.slice none 0 0],⟨_,_,_,_,_,_,_,_,rfl,rfl⟩,by unfold Q4;go_simp⟩
 box:=by
  rintro w v ⟨cs,ng,ao,n,c,mg,bo,m,d,rfl,rfl⟩;exact⟨_,⟨_,_,_,_,_,_,_,_,rfl,rfl⟩,by unfold Q4;go_simp⟩
 store:=by
  rintro w g v0 v ⟨cs0,⟨m,bo,p,d,mg,b2,d2,e2,rfl,rfl⟩,hh⟩ ⟨cs,ng,ao,n,c,m2,co,q,f,rfl,rfl⟩;obtain⟨b1,b2,b3,b4,b5,b6,b7,b8⟩:=aic hh;have h1:=heap_setCell_same w g 0 _ _ (.bool ng) hh;have h2:=heap_setCell_same _ g 1 _ _ (.slice ao n c) h1;have h3:=heap_setCell_same _ g 2 _ _ (.bool m2) h2;have h4:=heap_setCell_same _ g 3 _ _ (.slice co q f) h3;refine⟨(((w.setCell ⟨g,0,none⟩ (.bool ng)).setCell ⟨g,1,none⟩ (.slice ao n c)).setCell ⟨g,2,none⟩ (.bool m2)).setCell ⟨g,3,none⟩ (.slice co q f),?_,⟨_,⟨_,_,_,_,_,_,_,_,rfl,rfl⟩,h4⟩,⟨rfl,rfl,rfl,by simp[World.setCell],fun k hk=>?_⟩⟩
  ·unfold Q4;go_simp
  ·rw[Below.heap_setCell _ _ _ _ (by simpa using hk),Below.heap_setCell _ _ _ _ (by simpa using hk),Below.heap_setCell _ _ _ _ (by simpa using hk),Below.heap_setCell _ _ _ _ (by simpa using hk)]
 load:=by
  rintro w g v ⟨cs,⟨ng,ao,n,c,mg,bo,m,d,rfl,rfl⟩,hh⟩;obtain⟨b1,b2,b3,b4,b5,b6,b7,b8⟩:=aic hh;unfold Q4;go_simp
def OutN(z:Int)(L:Nat):Says:=fun v w=>∃ng ao cap rs,v=.agg #[.bool ng,.slice ao rs.length cap]/\Dm.Wh w ng ao cap rs z/\rs.length<=L
def OutQ(p q:Int)(L:Nat):Says:=fun v w=>∃ng ao cap rs mg bo dap ss,v=.agg #[.bool ng,.slice ao rs.length cap,.bool mg,.slice bo ss.length dap]/\Dm.Wh w ng ao cap rs p/\Dm.Wh w mg bo dap ss q/\rs.length<=L/\ss.length<=L
theorem OutN.mono4(z:Int)(L:Nat):Mono4 (OutN z L):=fun _ _ _ hb ⟨ng,ao,cap,rs,e,h,l⟩=>⟨ng,ao,cap,rs,e,h.rl hb,l⟩
theorem OutQ.mono4(p q:Int)(L:Nat):Mono4 (OutQ p q L):=fun _ _ _ hb ⟨ng,ao,cap,rs,mg,bo,dap,ss,e,h,h',l,l'⟩=>⟨ng,ao,cap,rs,mg,bo,dap,ss,e,h.rl hb,h'.rl hb,l,l'⟩
theorem OutN.to{z z':Int}{L L':Nat}{v:Value}{w:World}(h:OutN z L v w)(e:z=z')(hl:L<=L'):OutN z' L' v w:=by
 subst e;obtain⟨ng,ao,cap,rs,e',h,l⟩:=h;exact⟨ng,ao,cap,rs,e',h,Nat.le_trans l hl⟩
theorem OutQ.to{p q p' q':Int}{L L':Nat}{v:Value}{w:World}(h:OutQ p q L v w)(e:p=p')(e':q=q')(hl:L<=L'):OutQ p' q' L' v w:=by
 subst e e';obtain⟨ng,ao,cap,rs,mg,bo,dap,ss,e,h,h',l,l'⟩:=h;exact⟨ng,ao,cap,rs,mg,bo,dap,ss,e,h,h',Nat.le_trans l hl,Nat.le_trans l' hl⟩
theorem OutN.cs{z:Int}{L:Nat}(v:Value)(w:World)(h:OutN z L v w):∃cs,N2.Cs v cs:=by
 obtain⟨ng,ao,cap,rs,rfl,_⟩:=h;exact⟨_,_,_,_,_,rfl,rfl⟩
theorem OutQ.cs{p q:Int}{L:Nat}(v:Value)(w:World)(h:OutQ p q L v w):∃cs,Q4.Cs v cs:=by
 obtain⟨ng,ao,cap,rs,mg,bo,dap,ss,rfl,_⟩:=h;exact⟨_,_,_,_,_,_,_,_,_,rfl,rfl⟩
theorem af2{ng:Bool}{ao:Option Addr}{n c:Nat}: ∃cs,N2.Cs (.agg #[.bool ng,.slice ao n c]) cs:=⟨_,_,_,_,_,rfl,rfl⟩
theorem abc{v:Value}{w:World}{ng:Bool}{ao:Option Addr}{c:Nat}{rs:List Int}{z:Int}{L:Nat}(h:v=.agg #[.bool ng,.slice ao rs.length c])(hA:Dm.Wh w ng ao c rs z)(hl:rs.length<=L):OutN z L v w:=⟨_,_,_,_,h,hA,hl⟩
theorem aen{v:Value}{w:World}{ng mg:Bool}{ao bo:Option Addr}{c d:Nat}{rs ss:List Int}{p q:Int}{L:Nat}(h:v=.agg #[.bool ng,.slice ao rs.length c,.bool mg,.slice bo ss.length d])(hA:Dm.Wh w ng ao c rs p)(hB:Dm.Wh w mg bo d ss q)(hl:rs.length<=L)(hl':ss.length<=L):OutQ p q L v w:=⟨_,_,_,_,_,_,_,_,h,hA,hB,hl,hl'⟩
theorem atk{w:World}{g:Nat}{ng:Bool}{ao:Option Addr}{n c:Nat}(h:BoxV N2 w g (.agg #[.bool ng,.slice ao n c])):Dm.Box w g ng (.slice ao n c):=by
 obtain⟨cs,⟨_,_,_,_,e,rfl⟩,h⟩:=h;simp only[Value.agg.injEq]at e;simp only[Array.mk.injEq,List.cons.injEq,Value.bool.injEq,Value.slice.injEq,and_true]at e;obtain⟨rfl,rfl,rfl,rfl⟩:=e;exact h
theorem ax7{w:World}{g:Nat}{v:Value}(h:BoxV N2 w g v):(loadVar 85 ⟨g,0,none⟩).run Tryz.prog w=.ok v w:=by
 obtain⟨cs,⟨ng,ao,n,c,rfl,rfl⟩,hh⟩:=h;obtain⟨b1,b2,b3,b4⟩:=(show Dm.Box w g ng (.slice ao n c)from hh).facts;go_simp
theorem ai2{w:World}{g:Nat}{v:Value}(h:BoxV Q4 w g v):(loadVar 87 ⟨g,0,none⟩).run Tryz.prog w=.ok v w:=by
 obtain⟨cs,⟨ng,ao,n,c,mg,bo,m,d,rfl,rfl⟩,hh⟩:=h;obtain⟨b1,b2,b3,b4,b5,b6,b7,b8⟩:=aic hh;go_simp
section
variable {dst:Option Tmp} {ty:TypeId} {pos:String} {after:Array Edge} {guard:Option (Nat×Bool)} {a:Act} {w:World} {ats:Array TypeId} {i j k g:Nat} {x y z p q:Int} {L L1 L2:Nat}
theorem ai3{f off:Nat}(hf:∀w:World,(Instr.fieldAt 85 (.pointer (some ⟨g,0,none⟩)) f).run Tryz.prog w=.ok (.pointer (some ⟨g,off,none⟩)) w)(hp:a.eval (.tmp k)=.pointer (some ⟨g,0,none⟩)):
  Does Tryz.prog {dst,op:=.fieldAddr 85 (.tmp k) f,type:=ty,pos,after,guard} a.eval w fun v' w'=>Below w.heap.size w w'/\Eqs (.pointer (some ⟨g,off,none⟩)) v' w':=by
 refine⟨?_⟩;unfold Turns;simp only[execOp,hp];simp[hf];exact⟨Below.refl _ _,rfl⟩
theorem ajx(w:World):(Instr.fieldAt 85 (.pointer (some ⟨g,0,none⟩)) 0).run Tryz.prog w=.ok (.pointer (some ⟨g,0,none⟩)) w:=by go_simp
theorem agm{ng:Bool}{ao:Option Addr}{n c:Nat}(hp:a.eval (.tmp k)=.pointer (some ⟨g,0,none⟩))(hb:BoxV N2 w g (.agg #[.bool ng,.slice ao n c])):
  Does Tryz.prog {dst,op:=.load 4 (.tmp k),type:=ty,pos,after,guard} a.eval w fun v' w'=>Below w.heap.size w w'/\Eqs (.bool ng) v' w':=by
 obtain⟨b1,b2,b3,b4⟩:=(atk hb).facts;refine abq (v:=.bool ng) ?_ ⟨Below.refl _ _,rfl⟩;rw[hp];go_simp
theorem aqr(h1:OutN p L (a.eval (.tmp i)) w)(h2:OutN q L (a.eval (.tmp j)) w):Does Tryz.prog {dst,op:=.build 87 #[(0,.tmp i),(1,.tmp j)],type:=ty,pos,after,guard} a.eval w fun v' w'=>Below w.heap.size w w'/\OutQ p q L v' w':=by
 obtain⟨ng,ao,cap,rs,e1,W1,l1⟩:=h1;obtain⟨mg,bo,dap,ss,e2,W2,l2⟩:=h2;have e:(execOp a.eval {dst,op:=.build 87 #[(0,.tmp i),(1,.tmp j)],type:=ty,pos,after,guard}).run Tryz.prog w=.ok (.value (.agg #[.bool ng,.slice ao rs.length cap,.bool mg,.slice bo ss.length dap])) w:=by
  simp only[execOp,List.map_toArray,List.map_nil,List.map_cons,e1,e2];go_simp
 refine⟨?_⟩;unfold Turns;rw[e];exact⟨Below.refl _ _,aen rfl W1 W2 l1 l2⟩
theorem azk:Has Tryz.prog 84:=by unfold Has;kernel_rfl
theorem a1w(h:IsW z L (a.eval (.tmp i)) w)(hL:L<=100000):
  Does Tryz.prog {dst,op:=.call {callee:=.value (.func 84),args:=#[.tmp i],argTypes:=ats},type:=ty,pos,after,guard} a.eval w fun v w'=>Below w.heap.size w w'/\OutN z (3*L) v w':=by
 obtain⟨n1,a1,m1,c1,xs,e1,A1,l1⟩:=h;refine aaq azk _ (by simp only[List.map_toArray,List.map_cons,List.map_nil,e1]) ((Dm.a25 w _ _ _ _ xs z A1 (by omega)).mono ?_);rintro e w' ⟨ng,ao,cap,rs,rfl,G,l,hb⟩;exact⟨_,rfl,hb,_,_,_,_,rfl,G,by omega⟩
theorem awh:Has Tryz.prog 88:=by unfold Has;kernel_rfl
theorem azl{v:Int}(h1 : -9223372036854775808<=v)(h2:v<=9223372036854775807):
  Does Tryz.prog {dst,op:=.call {callee:=.value (.func 88),args:=#[.const (.int .i64 v)],argTypes:=ats},type:=ty,pos,after,guard} a.eval w fun v' w'=>Below w.heap.size w w'/\OutN v 5 v' w':=by
 refine aaq awh _ (by simp only[List.map_toArray,List.map_cons,List.map_nil,Act.eval]) ((Dm.amm w v h1 h2).mono ?_);rintro e w' ⟨ng,ao,cap,rs,rfl,G,l,hb⟩;exact⟨_,rfl,hb,_,_,_,_,rfl,G,l⟩
theorem atl:Has Tryz.prog 81:=by unfold Has;kernel_rfl
theorem awi(h:OutN z L (a.eval (.tmp i)) w):
  Does Tryz.prog {dst,op:=.call {callee:=.value (.func 81),args:=#[.tmp i],argTypes:=ats},type:=ty,pos,after,guard} a.eval w fun v w'=>Below w.heap.size w w'/\Eqs (.int .i64 (Int.sign z)) v w':=by
 obtain⟨ng,ao,cap,rs,e1,W,l⟩:=h;refine aaq atl _ (by simp only[List.map_toArray,List.map_cons,List.map_nil,e1]) ((Dm.aou w _ _ _ _ _ W).mono ?_);rintro e w' ⟨rfl,hb⟩;exact⟨_,rfl,hb,rfl⟩
theorem aqs:Has Tryz.prog 83:=by unfold Has;kernel_rfl
theorem agn(h:OutN z L (a.eval (.tmp i)) w)(hL:L<=1000000):
  Does Tryz.prog {dst,op:=.call {callee:=.value (.func 83),args:=#[.tmp i],argTypes:=ats},type:=ty,pos,after,guard} a.eval w fun v w'=>Below w.heap.size w w'/\OutN (-z) L v w':=by
 obtain⟨ng,ao,cap,rs,e1,W,l⟩:=h;refine aaq aqs _ (by simp only[List.map_toArray,List.map_cons,List.map_nil,e1]) ((Dm.aju w _ _ _ _ _ W (by omega)).mono ?_);rintro e w' ⟨ng,ao,cap,rs,rfl,G,l,hb⟩;exact⟨_,rfl,hb,_,_,_,_,rfl,G,by omega⟩
theorem awj:Has Tryz.prog 80:=by unfold Has;kernel_rfl
theorem ahd(h1:OutN x L1 (a.eval (.tmp i)) w)(h2:OutN y L2 (a.eval (.tmp j)) w)(hL:L1<=300000)(hL':L2<=300000):
  Does Tryz.prog {dst,op:=.call {callee:=.value (.func 80),args:=#[.tmp i,.tmp j],argTypes:=ats},type:=ty,pos,after,guard} a.eval w fun v w'=>Below w.heap.size w w'/\OutN ((Int.gcd x y:Nat):Int) (L1+L2) v w':=by
 obtain⟨ng,ao,cap,rs,e1,W,l⟩:=h1;obtain⟨mg,bo,dap,ss,e2,W',l'⟩:=h2;refine aaq awj _ (by simp only[List.map_toArray,List.map_cons,List.map_nil,e1,e2]) ((Dm.a1t w ng ao cap rs _ W.1 mg bo dap ss _ W'.1 (by omega) (by omega)).mono ?_);rintro e w' ⟨ng,ao,cap,rs,rfl,G,l,hb⟩;rw[Dm.aze]at G;exact⟨_,rfl,hb,_,_,_,_,rfl,G,by omega⟩
theorem amn:Has Tryz.prog 120:=by unfold Has;kernel_rfl
theorem anv(h1:OutN x L1 (a.eval (.tmp i)) w)(h2:OutN y L2 (a.eval (.tmp j)) w)(hL:L1<=300000)(hL':L2<=300000)(h0:y≠0):
  Does Tryz.prog {dst,op:=.call {callee:=.value (.func 120),args:=#[.tmp i,.tmp j],argTypes:=ats},type:=ty,pos,after,guard} a.eval w fun v w'=>Below w.heap.size w w'/\Tup2 (OutN ((x.natAbs:Int)/(y.natAbs:Int)) L1) (OutN ((x.natAbs:Int)%(y.natAbs:Int)) L2) v w':=by
 obtain⟨ng,ao,cap,rs,e1,W,l⟩:=h1;obtain⟨mg,bo,dap,ss,e2,W',l'⟩:=h2;refine aaq amn _ (by simp only[List.map_toArray,List.map_cons,List.map_nil,e1,e2]) ((Dm.ako w ng ao cap rs _ W.1 mg bo dap ss _ W'.1 (by omega) (by omega) (W'.some h0)).mono ?_);rintro e w' ⟨nq,pq,qq,Q,nr,pr,qr,R,rfl,G,G',l1,l2,hb⟩;exact⟨_,rfl,hb,_,_,rfl,⟨_,_,_,_,rfl,G,by omega⟩,⟨_,_,_,_,rfl,G',by omega⟩⟩
theorem aqt:Has Tryz.prog 124:=by unfold Has;kernel_rfl
end
end Lm
namespace Lm
open Go Go.RowKit
section
variable {dst:Option Tmp} {ty:TypeId} {pos:String} {after:Array Edge} {guard:Option (Nat×Bool)} {a:Act} {w:World} {ats:Array TypeId} {i j:Nat} {x y u v:Int} {L1 L2:Nat}
theorem awk:Has Tryz.prog 179:=by unfold Has;kernel_rfl
theorem a3c(h1:OutN x L1 (a.eval (.tmp i)) w)(h2:OutN y L2 (a.eval (.tmp j)) w)(hL:L1<=400000)(hL':L2<=400000):
  Does Tryz.prog {dst,op:=.call {callee:=.value (.func 179),args:=#[.tmp i,.tmp j],argTypes:=ats},type:=ty,pos,after,guard} a.eval w fun v w'=>Below w.heap.size w w'/\OutN (x+y) (L1+L2+1) v w':=by
 obtain⟨ng,ao,cap,rs,e1,W,l⟩:=h1;obtain⟨mg,bo,dap,ss,e2,W',l'⟩:=h2;refine aaq awk _ (by simp only[List.map_toArray,List.map_cons,List.map_nil,e1,e2]) ((Dm.as5 w ng ao cap rs _ W mg bo dap ss _ W' (by omega) (by omega)).mono ?_);rintro e w' ⟨ng,ao,cap,rs,rfl,G,l,hb⟩;exact⟨_,rfl,hb,_,_,_,_,rfl,G,by omega⟩
theorem awl:Has Tryz.prog 89:=by unfold Has;kernel_rfl
theorem aox(h1:OutN x L1 (a.eval (.tmp i)) w)(h2:OutN y L2 (a.eval (.tmp j)) w)(hL:L1<=400000)(hL':L2<=400000):
  Does Tryz.prog {dst,op:=.call {callee:=.value (.func 89),args:=#[.tmp i,.tmp j],argTypes:=ats},type:=ty,pos,after,guard} a.eval w fun v w'=>Below w.heap.size w w'/\OutN (x*y) (L1+L2+1) v w':=by
 obtain⟨ng,ao,cap,rs,e1,W,l⟩:=h1;obtain⟨mg,bo,dap,ss,e2,W',l'⟩:=h2;refine aaq awl _ (by simp only[List.map_toArray,List.map_cons,List.map_nil,e1,e2]) ((Dm.a1s w ng ao cap rs _ W mg bo dap ss _ W' (by omega) (by omega)).mono ?_);rintro e w' ⟨ng,ao,cap,rs,rfl,G,l,hb⟩;exact⟨_,rfl,hb,_,_,_,_,rfl,G,by omega⟩
end
end Lm
end Go.Proofs.YtooefpkhacecnaaGreatDoor
