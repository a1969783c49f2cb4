/-
  The given statement on SpanLeast, for every input of bulk at most 1048576: the call answers true, and each argument reads behind it as it read before. Its condition: that bulk, and no other. Beside it: Package span: Rows. Package span: shaped, of points. Package span: Points. Package span: what is kept, as lifts and as equations. Package span: Has, Dim. Package span: Holds. Package span: Within's closure. Package span: fits. Package span: copied; rows that are told, in a list that grows. Package span: what a span tells: Rows, Steps, Base. Rows of fractions that are handed in: what they read as, how long they are together. The laws' Point: a point of whole numbers. What the laws of span ask first. The laws' meets: does a point meet a row? Spans that are made, as what holds on them; what SpanLeast compares. The law SpanLeast: its walk.
-/
import Derived.Test.YtpbllidpalgkkaaGreatRows
import Derived.ProofKit
import Derived.OpenShut
import Derived.ShutString
import Derived.ChangeOld
import Derived.JoinedCond
import Derived.Test.YtpbllidpalgkkaaGreatSLLawZ5
namespace Go.Proofs.YtpbllidpalgkkaaGreat
namespace Lm
open Go Go.RowKit Md
def RowsO (w' : World) (n:Nat) (rows:List (List Int)) (e:Ending):Prop :=
 (ShpB rows n 1=false∧e=.returned (.tuple #[.pointer none,.int .i64 1]))∨(ShpB rows n 1=true∧BuiE w' n rows e)
set_option maxRecDepth 20000 in
set_option maxHeartbeats 4000000 in
theorem au6 (w:World) (v:Value) (rows:List (List Int)) (L n:Nat) (h:IsM w v rows L) (hn:n≤9223372036854775807) (hL0:1≤L) (hL:L≤1510000) :
  Calls Tryz.prog 36 #[.int .i64 (n:Int),v] w fun e w'=>RowsO w' n rows e∧Below w.heap.size w w' := by
 have K1:=hide (an2 w v rows L n 1 h hn (Nat.le_refl _))
 have K2:ShpB rows n 1=true→Hid (∀ w1,Below w.heap.size w w1→_):=fun hs w1 hb=>apb w1 v rows L n (h.below hb) (by
  have:=of_decide_eq_true hs
  exact ⟨by omega,by omega,this.2.1,fun r hr=>by have:=this.2.2 r hr;omega⟩) (of_decide_eq_true hs).1 hL0 hL
 obtain ⟨ao,cp,rfl,hl⟩:=h.parts
 clear h
 obtain ⟨m,hm'⟩:∃ m,rows.length=m:=⟨_,rfl⟩
 rw [hm'] at K1 K2 hl ⊢
 clear hm'
 cases hsh:ShpB rows n 1 with
 | false =>
  rw [hsh] at K1
  have HSH:Hid (ShpB rows n 1=false):=hsh
  clear hsh K2
  go_enter Tryz.func36,Tryz.ntmps36
  go_wp2_with fail
  refine K1.out.mono ?_
  rintro e w1 ⟨rfl,hb⟩
  have HB:=hide hb
  clear hb K1
  go_wp2
  refine bodyPost_ret (v:=_) (by simp [results,Tryz.results36,go_sem];try rfl) rfl ⟨.inl ⟨HSH.out,rfl⟩,HB.out⟩
 | true =>
  rw [hsh] at K1
  have K2:=K2 hsh
  have HSH:Hid (ShpB rows n 1=true):=hsh
  clear hsh
  go_enter Tryz.func36,Tryz.ntmps36
  go_wp2_with fail
  refine K1.out.mono ?_
  rintro e w1 ⟨rfl,hb⟩
  have HB:=hide hb
  have K3:=hide (K2.out w1 hb)
  clear hb K1 K2
  go_wp2_with fail
  refine K3.out.mono ?_
  rintro e w2 ⟨hB,hb⟩
  have HB2:=hide (HB.out.trans (hb.mono HB.out.size))
  have HBU:=hide hB
  clear hb K3
  rcases hB with ⟨hbg,rfl⟩ | ⟨g,made,twin,low,eqs,rfl,h1⟩
  ·clear hbg
   go_wp2
   refine bodyPost_ret (v:=_) (by simp [results,Tryz.results36,go_sem];try rfl) rfl ⟨.inr ⟨HSH.out,HBU.out⟩,HB2.out⟩
  ·clear h1
   go_wp2
   refine bodyPost_ret (v:=_) (by simp [results,Tryz.results36,go_sem];try rfl) rfl ⟨.inr ⟨HSH.out,HBU.out⟩,HB2.out⟩
end Lm
end Go.Proofs.YtpbllidpalgkkaaGreat
namespace Go.Proofs.YtpbllidpalgkkaaGreat
namespace Lm
open Go Go.RowKit Md
def IsQM (w:World) (v:Value) (rows:List (List Rat)) (L:Nat):Prop:=∃ vs:List Value,Ce w v 1 rows.length vs∧∀ (i:Nat) (u:Value) (z:List Rat),vs[i]? = some u→rows[i]? = some z→IsQs w u z L
theorem IsQM.below {w w' : World} {v:Value} {rows:List (List Rat)} {L:Nat} (h:IsQM w v rows L) (hb:Below w.heap.size w w'):IsQM w' v rows L:=by
 obtain ⟨vs,h1,h2⟩:=h
 exact ⟨vs,h1.below hb,fun i u z hu hz=>(h2 i u z hu hz).below hb⟩
theorem IsQM.parts {w:World} {v:Value} {rows:List (List Rat)} {L:Nat} (h:IsQM w v rows L):∃ ao cap,v=.slice ao rows.length cap∧rows.length≤9223372036854775807:=by
 obtain ⟨vs,⟨ao,cap,rfl,h1,h2,_⟩,_⟩:=h
 exact ⟨ao,cap,rfl,by omega⟩
theorem IsQM.cell {w:World} {ao:Option Addr} {n cap:Nat} {rows:List (List Rat)} {L i:Nat} {z:List Rat} (h:IsQM w (.slice ao n cap) rows L) (hz:rows[i]? = some z):∃ b off u,ao=some ⟨b,off,none⟩∧b<w.heap.size∧w.cell? ⟨b,off+i,none⟩ = some u∧IsQs w u z L:=by
 obtain ⟨vs,⟨ao',cap',hv,h1,h2,h3,h4⟩,h5⟩:=h
 obtain ⟨rfl,rfl,rfl⟩:=(Value.slice.injEq .. ▸ hv)
 have hi:i<rows.length:=(List.getElem?_eq_some_iff.1 hz).1
 obtain ⟨u,hu⟩:∃ u,vs[i]? = some u:=⟨_,List.getElem?_eq_getElem (by omega)⟩
 rcases h4 with h4 | ⟨b,off,rfl,hl,hc⟩
 ·omega
 ·exact ⟨b,off,u,rfl,hl,hc i u hu,h5 i u z hu hz⟩
def AsksRQ (w:World) (f:FuncId) (cap:Array Value) (rows:List (List Rat)) (L:Nat) (p:List Rat→Bool):Prop:=∀ (W:World) (z:List Rat) (xv:Value),Below w.heap.size w W→z ∈ rows→IsQs W xv z L→Calls Tryz.prog f (#[xv] ++ cap) W fun e W'=>e=.returned (.bool (p z))∧Below W.heap.size W W'
set_option maxRecDepth 20000 in
set_option maxHeartbeats 4000000 in
theorem apc (w:World) (v:Value) (rows:List (List Rat)) (L:Nat) (h:IsQM w v rows L) (f:FuncId) (hf:Has Tryz.prog f) (cap:Array Value) (p:List Rat→Bool) (hA:AsksRQ w f cap rows L p) :
  Calls Tryz.prog 117 #[v,.func (.func f) #[] cap] w fun e w'=>(∃ r:Int,e=.returned (.int .i64 r)∧decide (0≤r)=rows.any p)∧Below w.heap.size w w' := by
 obtain ⟨ao,cp,rfl,hn⟩:=h.parts
 have H:=hide h
 have HA:=hide hA
 clear h hA
 obtain ⟨n,hnn⟩:∃ n,rows.length=n:=⟨_,rfl⟩
 rw [hnn] at H hn ⊢
 have HN:=hide hnn
 clear hnn
 go_enter Tryz.func117,Tryz.ntmps117
 go_wp2
 go_loopw [5,8] (fun _ iv wr=>∃ (k:Nat),iv=.int .i64 k∧k≤n∧(rows.take k).any p=false∧Below w.heap.size w wr) (fun _ iv _=>n - (intOf iv).toNat)
 case atStart=>exact ⟨0,rfl,Nat.zero_le _,by simp,Below.refl _ _⟩
 case round =>
  obtain ⟨k,rfl,hk,hany,hbw⟩:=hrel
  have HW:=hide hbw
  have HY:=hide hany
  by_cases hlt:k<n
  ·obtain ⟨z,hz⟩:∃ z,rows[k]? = some z:=⟨_,List.getElem?_eq_getElem (by have:=HN.out;omega)⟩
   obtain ⟨b,off,u,rfl,hbl,x0,hx⟩:=H.out.cell hz
   replace x0:=(hbw.cell (p:=⟨b,off+k,none⟩) hbl).trans x0
   have hlt' : (k:Int)<(n:Int):=by omega
   have KC:=hide (HA.out wr z u hbw (List.mem_of_getElem? hz) (hx.below hbw))
   obtain ⟨ua,uc,rfl,_⟩:=hx.parts
   have HZ:=hide hz
   clear hbw hany hx hz
   have hE:∀ args w,(callFunc f args).run Tryz.prog w=.ok (.enter f args) w:=fun args w=>hf.enter args w
   go_wp2_with fail
   refine KC.out.mono ?_
   rintro e w3 ⟨rfl,hb3⟩
   have HB3:=hide (HW.out.trans (hb3.mono HW.out.size))
   clear hb3 KC hE x0
   obtain ⟨pz,hpz⟩:∃ b,p z=b:=⟨_,rfl⟩
   rw [hpz]
   have HPZ:=hide hpz
   clear hpz
   cases pz with
   | true =>
    go_wp2
    go_ret
    exact ⟨⟨k,rfl,by rw [decide_eq_true (by omega),eq_comm,List.any_eq_true];exact ⟨z,List.mem_of_getElem? HZ.out,HPZ.out⟩⟩,HB3.out⟩
   | false =>
    go_wp2
    go_roundw
    case rel=>exact ⟨k+1,by go_num,by omega,ac8 HZ.out HY.out HPZ.out,HB3.out⟩
    case measure=>simp [intOf];omega
  ·have hlt' : decide ((k:Int)<(n:Int))=false:=by simp;omega
   clear hbw hany
   go_wp2
   go_ret
   refine ⟨⟨-1,rfl,?_⟩,HW.out⟩
   have:=HY.out
   rw [List.take_of_length_le (by have:=HN.out;omega)] at this
   rw [this];rfl
theorem aku (w:World) (v:Value) (rows:List (List Rat)) (L:Nat) (h:IsQM w v rows L) (f:FuncId) (hf:Has Tryz.prog f) (cap:Array Value) (p:List Rat→Bool) (hA:AsksRQ w f cap rows L p) :
  Calls Tryz.prog 103 #[v,.func (.func f) #[] cap] w fun e w'=>e=.returned (.bool (rows.any p))∧Below w.heap.size w w' := by
 have K:=hide (apc w v rows L h f hf cap p hA)
 obtain ⟨ao,cp,rfl,hn⟩:=h.parts
 clear h hA
 go_enter Tryz.func103,Tryz.ntmps103
 go_wp2_with fail
 refine K.out.mono ?_
 rintro e w1 ⟨⟨r,rfl,hr⟩,hb⟩
 have HB:=hide hb
 have HR:=hide hr
 clear hb K hr
 go_wp2
 refine bodyPost_ret (v:=_) (by simp [results,Tryz.results103,go_sem];try rfl) rfl ⟨by rw [←HR.out],HB.out⟩
theorem au7:Has Tryz.prog 104:=by unfold Has;kernel_rfl
theorem au8 (W:World) (xv:Value) (z:List Rat) (L n more g g2:Nat) (h:IsQs W xv z L) (hg:W.heap[g]? = some (.cells #[.int .i64 (n:Int)] 3 (0,0))) (hg2:W.heap[g2]? = some (.cells #[.int .i64 (more:Int)] 3 (0,0))) (hn:n≤16) (hm:more≤1) :
  Calls Tryz.prog 104 (#[xv] ++ #[.pointer (some ⟨g,0,none⟩),.pointer (some ⟨g2,0,none⟩)]) W fun e W'=>e=.returned (.bool (decide (z.length≠n+more)))∧Below W.heap.size W W' := by
 obtain ⟨ao,cp,rfl,hl⟩:=h.parts
 obtain ⟨hgl,c0,_⟩:=aad hg
 obtain ⟨hgl2,c2,_⟩:=aad hg2
 have hadd:IntKind.i64.wrap ((n:Int)+(more:Int))=((n+more:Nat):Int):=by rw [IntKind.wrap_i64];omega
 obtain ⟨m,hm'⟩:∃ m,z.length=m:=⟨_,rfl⟩
 rw [hm'] at hl ⊢
 clear h hg hg2 hm'
 go_enter Tryz.func104,Tryz.ntmps104
 go_wp2
 refine bodyPost_ret (v:=_) (by simp [results,Tryz.results104,go_sem];try rfl) rfl ⟨by rw [aqg],Below.refl _ _⟩
def ShpQ (rows:List (List Rat)) (n more:Nat):Bool:=decide (n≤16∧rows.length≤64∧∀ r ∈ rows,r.length=n+more)
set_option maxRecDepth 20000 in
set_option maxHeartbeats 4000000 in
theorem an3 (w:World) (v:Value) (rows:List (List Rat)) (L n more:Nat) (h:IsQM w v rows L) (hn:n≤9223372036854775807) (hm:more≤1) :
  Calls Tryz.prog 80 #[.int .i64 (n:Int),v,.int .i64 (more:Int)] w fun e w'=>e=.returned (.bool (ShpQ rows n more))∧Below w.heap.size w w' := by
 obtain ⟨ao,cp,rfl,hl⟩:=h.parts
 have hb1:=hAl w (.cells #[.int .i64 (n:Int)] 3)
 have hn1:=heap_alloc_new w (.cells #[.int .i64 (n:Int)] 3)
 have hb2:=hAl (w.alloc (.cells #[.int .i64 (n:Int)] 3)) (.cells #[.int .i64 (more:Int)] 3)
 have hn2:=heap_alloc_new (w.alloc (.cells #[.int .i64 (n:Int)] 3)) (.cells #[.int .i64 (more:Int)] 3)
 have hn1' := (hb2.block _ (aaa hn1)).trans hn1
 have hbb:=hb1.trans (hb2.mono hb1.size)
 have hsz:(w.alloc (.cells #[.int .i64 (n:Int)] 3)).heap.size=w.heap.size+1:=by simp
 rw [hsz] at hn2
 obtain ⟨hgl,c0,_⟩:=aad hn1'
 have K:n≤16→Hid (Calls Tryz.prog 103 #[.slice ao rows.length cp,.func (.func 104) #[] #[.pointer (some ⟨w.heap.size,0,none⟩),.pointer (some ⟨w.heap.size+1,0,none⟩)]] ((w.alloc (.cells #[.int .i64 (n:Int)] 3)).alloc (.cells #[.int .i64 (more:Int)] 3)) fun e w'=>e=.returned (.bool (rows.any fun z=>decide (z.length≠n+more)))∧Below ((w.alloc (.cells #[.int .i64 (n:Int)] 3)).alloc (.cells #[.int .i64 (more:Int)] 3)).heap.size ((w.alloc (.cells #[.int .i64 (n:Int)] 3)).alloc (.cells #[.int .i64 (more:Int)] 3)) w'):=fun h16=>aku _ _ rows L (h.below hbb) _ au7 #[.pointer (some ⟨w.heap.size,0,none⟩),.pointer (some ⟨w.heap.size+1,0,none⟩)] (fun z=>decide (z.length≠n+more)) (fun W z xv hbW _ hx=>au8 W xv z L n more w.heap.size (w.heap.size+1) hx ((hbW.block _ (aaa hn1')).trans hn1') ((hbW.block _ (aaa hn2)).trans hn2) h16 hm)
 have HB:=hide hbb
 have hmf:∀ (fn:Fn) (first cap:Array Value) (w:World),(Instr.makeFunc fn first cap).run Tryz.prog w=.ok (.func fn first cap) w:=fun _ _ _ _=>rfl
 have h0:decide ((n:Int)<0)=false:=by simp
 clear h hb1 hn1 hb2 hn2 hn1' hbb hsz
 by_cases h16:n≤16
 ·have h16' : decide ((n:Int) > 16)=false:=by simp;omega
  by_cases h64:rows.length≤64
  ·have h64' : decide ((rows.length:Int) > 64)=false:=by simp;omega
   have K:=K h16
   go_enter Tryz.func80,Tryz.ntmps80
   go_wp2_with fail
   refine K.out.mono ?_
   rintro e w1 ⟨rfl,hb⟩
   have HB1:=hide (HB.out.trans (hb.mono HB.out.size))
   have HE:Hid ((!rows.any fun z=>decide (z.length≠n+more))=ShpQ rows n more):=(show _ = _ by
    rw [ShpQ,Bool.eq_iff_iff,decide_eq_true_iff,Bool.not_eq_true',List.any_eq_false]
    constructor
    ·intro h
     exact ⟨h16,h64,fun r hr=>by simpa using h r hr⟩
    ·intro h r hr
     simpa using h.2.2 r hr)
   clear hb K
   generalize (rows.any fun z=>decide (z.length≠n+more))=bb at *
   go_wp2
   refine bodyPost_ret (v:=_) (by simp [results,Tryz.results80,go_sem];try rfl) rfl ⟨by rw [HE.out],HB1.out⟩
  ·have h64' : decide ((rows.length:Int) > 64)=true:=by simp;omega
   have HE:Hid (ShpQ rows n more=false):=(show _ = _ by rw [ShpQ,decide_eq_false_iff_not];exact fun h=>h64 h.2.1)
   clear K
   go_enter Tryz.func80,Tryz.ntmps80
   go_wp2
   refine bodyPost_ret (v:=_) (by simp [results,Tryz.results80,go_sem];try rfl) rfl ⟨by rw [HE.out],HB.out⟩
 ·have h16' : decide ((n:Int) > 16)=true:=by simp;omega
  have HE:Hid (ShpQ rows n more=false):=(show _ = _ by rw [ShpQ,decide_eq_false_iff_not];exact fun h=>h16 h.1)
  clear K
  go_enter Tryz.func80,Tryz.ntmps80
  go_wp2
  refine bodyPost_ret (v:=_) (by simp [results,Tryz.results80,go_sem];try rfl) rfl ⟨by rw [HE.out],HB.out⟩
end Lm
end Go.Proofs.YtpbllidpalgkkaaGreat
namespace Go.Proofs.YtpbllidpalgkkaaGreat
namespace Lm
open Go Go.RowKit Md
theorem ORow.grs {K:Nat} {w:World} {v:Value} {zs:List Int} {L:Nat} (h:ORow K w v zs L):GrS 0 zs L v w:=by
 obtain ⟨es,bv,e,R,h1,h2⟩:=h.rwo
 exact ⟨es,R.low (Nat.zero_le _),h1,h2⟩
def LsP (w0 wr:World) (v:Value) (k:Nat) (rows:List (List Int)) (L:Nat):Prop:=Below w0.heap.size w0 wr∧rows.length=k∧∃ vs:List Value,wr.ownsRow w0.heap.size 39 1 v k vs∧∀ (i:Nat) (u:Value) (z:List Int),vs[i]? = some u→rows[i]? = some z→GrS 0 z L u wr
theorem LsP.below {w0 wr w' : World} {v:Value} {k:Nat} {rows:List (List Int)} {L:Nat} (h:LsP w0 wr v k rows L) (hb:Below wr.heap.size wr w'):LsP w0 w' v k rows L:=by
 obtain ⟨h1,h2,vs,h3,h4⟩:=h
 exact ⟨h1.trans (hb.mono h1.size),h2,vs,acg h3 hb,fun i u z a b=>GrS.mono _ _ _ _ _ _ hb (h4 i u z a b)⟩
theorem LsP.isM {w0 wr:World} {v:Value} {k:Nat} {rows:List (List Int)} {L:Nat} (h:LsP w0 wr v k rows L):IsM wr v rows L:=by
 obtain ⟨h1,h2,vs,h3,h4⟩:=h
 exact ⟨vs,by rw [h2];exact Ce.own h3,fun i u z a b=>(h4 i u z a b).is⟩
section
variable {dst:Option Tmp} {ty:TypeId} {pos:String} {after:Array Edge} {guard:Option (Nat × Bool)} {a:Act} {w:World} {i j:Nat}
theorem a0j {g k L:Nat} {w0:World} {lw u:Value} {rows:List (List Int)} {z:List Int} {au:Option Addr} {nu cu:Nat} (h1:a.eval (.tmp i)=lw) (hS:LsP w0 w lw k rows L) (h2:a.eval (.tmp j)=.slice (some ⟨g,0,none⟩) 1 1) (hg:w.heap[g]? = some (.cells #[u] 39 (0,0))) (hu:GrS 0 z L u w) (hus:u=.slice au nu cu) (hk:k≤1000) :
  Does Tryz.prog { dst,op:=.call { callee:=.builtin .append,args:=#[.tmp i,.tmp j],argTypes:=#[75,75] },type:=ty,pos,after,guard } a.eval w fun v' w'=>LsP w0 w' v' (k+1) (rows ++ [z]) L:=by
 obtain ⟨i0,hi,hz0,hz1,hz2⟩:=info_parts anu
 have hnew:∀ k x,[u][k]? = some x→w.cell? ((⟨g,0,none⟩:Addr).add k)=some x:=fun k x hx=>by
  have hc:∀ k,w.cell? ⟨g,k,none⟩ = #[u][k]? := fun k=>cell_of_row w g k _ _ (0,0) hg
  have ha:(⟨g,0,none⟩:Addr).add k=⟨g,k,none⟩:=by unfold Addr.add;split <;> simp_all
  rw [ha,hc]
  simpa using hx
 have h1u:∀ x ∈ [u],x.oneCell' = true:=fun x hx=>by
  obtain rfl:=List.mem_singleton.1 hx
  subst hus
  rfl
 obtain ⟨hb,hl,vs,hown,hrows⟩:=hS
 have hvl:vs.length=k:=by have:=hown.1;simp at this;omega
 obtain ⟨v',w',hr,ho,hgr,_⟩:=run_append_own (P:=Tryz.prog) w w0.heap.size 75 ty 39 i0 _ 1 24 Tryz.underlying75 hi hz0 hz1 hz2 rfl (by decide) _ k _ hown ⟨g,0,none⟩ 1 1 [u] rfl hnew h1u (by simp [maxLen];omega) (by omega) hb.size
 have e:(execOp a.eval { dst,op:=.call { callee:=.builtin .append,args:=#[.tmp i,.tmp j],argTypes:=#[75,75] },type:=ty,pos,after,guard }).run Tryz.prog w=.ok (.value v') w' := by
  simp only [execOp,resolve,invoke,builtin,Sem.run_bind,Sem.run_pure,Result.andThen_ok,List.map_toArray,List.map_cons,List.map_nil,h1,h2,hr]
 refine ⟨?_⟩
 unfold Turns
 rw [e]
 refine ⟨hb.grown hgr hb.size (fun q hq=>?_),by simp [hl],vs ++ [u],ho,fun i x y hx hy=>?_⟩
 ·rcases hown.2 with ⟨rfl,_⟩ | ⟨g',cap,cur,rfl,hg',_⟩
  ·simp [Value.ownBlock] at hq
  ·simp only [Value.ownBlock,Option.some.injEq] at hq
   omega
 ·by_cases hi:i<k
  ·rw [List.getElem?_append_left (by omega)] at hx hy
   exact (hrows i x y hx hy).keep hown hgr
  ·rw [List.getElem?_append_right (by omega)] at hx hy
   rw [hvl] at hx
   rw [hl] at hy
   match hm:i - k with
   | 0 =>
    rw [hm] at hx hy
    simp at hx hy
    subst hx hy
    exact hu.keep hown hgr
   | m+1 =>
    rw [hm] at hx
    simp at hx
end
theorem IsQs.fit {w:World} {v:Value} {ps:List Rat} {L:Nat} (h:IsQs w v ps L) (hL:1≤L):∀ r ∈ ps,Fit r L:=by
 intro r hr
 obtain ⟨es,_,h2,h3⟩:=h
 obtain ⟨k,hk⟩:=List.mem_iff_getElem?.1 hr
 have hkl:=(List.getElem?_eq_some_iff.1 hk).1
 obtain ⟨x,hx⟩:∃ x,es[k]? = some x:=⟨_,List.getElem?_eq_getElem (by omega)⟩
 exact (h3 k x r hx hk).fit hL
def PtsO (w' : World) (n:Nat) (pts:List (List Rat)) (e:Ending):Prop :=
 (ShpQ pts n 0=false∧e=.returned (.tuple #[.pointer none,.int .i64 1]))∨(ShpQ pts n 0=true∧BuiL w' n (pts.map liftZ) e)
set_option maxRecDepth 20000 in
set_option maxHeartbeats 8000000 in
theorem ain (w:World) (v:Value) (pts:List (List Rat)) (L n:Nat) (h:IsQM w v pts L) (hn:n≤9223372036854775807) (hL0:1≤L) (hL:L≤80000) :
  Calls Tryz.prog 35 #[.int .i64 (n:Int),v] w fun e w'=>PtsO w' n pts e∧Below w.heap.size w w' := by
 have K1:=hide (an3 w v pts L n 0 h hn (Nat.zero_le _))
 have H:=hide h
 obtain ⟨ao,cp,rfl,hl⟩:=h.parts
 clear h
 obtain ⟨m,hm'⟩:∃ m,pts.length=m:=⟨_,rfl⟩
 rw [hm'] at K1 H hl ⊢
 have HM:=hide hm'
 clear hm'
 cases hsh:ShpQ pts n 0 with
 | false =>
  rw [hsh] at K1
  have HSH:Hid (ShpQ pts n 0=false):=hsh
  clear hsh H
  go_enter Tryz.func35,Tryz.ntmps35
  go_wp2_with fail
  refine K1.out.mono ?_
  rintro e w1 ⟨rfl,hb⟩
  have HB:=hide hb
  clear hb K1
  go_wp2
  refine bodyPost_ret (v:=_) (by simp [results,Tryz.results35,go_sem];try rfl) rfl ⟨.inl ⟨HSH.out,rfl⟩,HB.out⟩
 | true =>
  rw [hsh] at K1
  obtain ⟨h16,h64,hlen⟩:=of_decide_eq_true hsh
  have HLEN:=hide hlen
  have HSH:Hid (ShpQ pts n 0=true):=hsh
  rw [HM.out] at h64
  clear hsh hlen
  go_enter Tryz.func35,Tryz.ntmps35
  go_wp2_with fail
  refine K1.out.mono ?_
  rintro e w1 ⟨rfl,hb⟩
  have HB:=hide hb
  clear hb K1
  go_wp2
  go_loopw [6,15] (fun lw iv wr=>∃ (k:Nat),iv=.int .i64 k∧k≤m∧LsP w wr lw k ((pts.take k).map liftZ) (1+L*16+L)) (fun _ iv _=>m - (intOf iv).toNat)
  case atStart=>exact ⟨0,rfl,Nat.zero_le _,HB.out,rfl,[],World.ownsRow_nil _ _ _ _,fun i u z hu=>by simp at hu⟩
  case round =>
   obtain ⟨k,rfl,hk,hst⟩:=hrel
   by_cases hlt:k<m
   ·have hlt' : (k:Int)<(m:Int):=by omega
    obtain ⟨ps,hps⟩:∃ ps,pts[k]? = some ps:=⟨_,List.getElem?_eq_getElem (by have:=HM.out;omega)⟩
    obtain ⟨b,off,u,rfl,hbl,hu,hur⟩:=(H.out.below hst.1).cell hps
    have hpl:ps.length=n:=by have:=HLEN.out ps (List.mem_of_getElem? hps);omega
    have hf:=hur.fit hL0
    have K:=hide (ad9 wr u ps L (1+L*16+L) n hur hpl (by omega) hL0 (by omega) (by omega) (fun k hk=>by
     have h1:=afz hf (n:=16) (by omega) k
     have h2:pw (1+L*16)≤pw (1+L*16+L):=aap (by omega)
     omega) (fun z hz=>aee hf (n:=16) (by omega) z hz))
    obtain ⟨au,cu,rfl,_⟩:=hur.parts
    have HST:=hide hst
    have HGZ:Hid ((pts.take (k+1)).map liftZ=(pts.take k).map liftZ ++ [liftZ ps]):=(show _ = _ by rw [List.take_add_one,hps];simp)
    have hll:(liftZ ps).length=n+1:=by rw [abi,hpl]
    have HLL:=hide hll
    clear hst hur hf hps hll hpl
    go_wp2_with fail
    refine K.out.mono ?_
    rintro e w3 ⟨r,rfl,hor,hb3⟩
    have hst3:=HST.out.below hb3
    have hgs:=hor.grs
    obtain ⟨bv,rfl,_⟩:=hor
    rw [HLL.out] at hgs
    have hA3:=hAl w3 (.cells #[.slice (some ⟨bv,0,none⟩) (n+1) (n+1)] 39)
    have hn3:=heap_alloc_new w3 (.cells #[.slice (some ⟨bv,0,none⟩) (n+1) (n+1)] 39)
    have hst4:=hst3.below hA3
    have hgs4:=GrS.mono _ _ _ _ _ _ hA3 hgs
    clear hst3 hgs hA3 hb3 K
    rw [HLL.out]
    go_wp2_with (at_builtin;refine ab4 rfl (a0j (i:=19) (j:=22) rfl hst4 rfl hn3 hgs4 rfl (by omega)) ?_)
    intro v2 w4 hst5
    have HS5:=hide hst5
    clear hst4 hn3 hgs4 hst5
    go_wp2
    go_roundw
    case rel=>exact ⟨k+1,by go_num,by omega,by rw [HGZ.out,List.map_take];exact HS5.out⟩
    case measure=>simp [intOf];omega
   ·have hlt' : decide ((k:Int)<(m:Int))=false:=by simp;omega
    obtain rfl:m=k:=by omega
    rw [List.take_of_length_le (by have:=HM.out;omega)] at hst
    have hsp:Shaped (pts.map liftZ) ((n+1:Nat):Int):=⟨by omega,by omega,by rw [List.length_map,HM.out];exact h64,fun r hr=>by
     obtain ⟨ps,h1,rfl⟩:=List.mem_map.1 hr
     rw [abi,HLEN.out ps h1]⟩
    have K:=hide (apa wr _ (pts.map liftZ) (1+L*16+L) n hst.isM hsp h16 (by omega))
    have HW:=hide hst.1
    clear hst hsp
    go_wp2_with fail
    refine K.out.mono ?_
    rintro e w2 ⟨hB,hb⟩
    have HB2:=hide (HW.out.trans (hb.mono HW.out.size))
    have HBU:=hide hB
    clear hb K
    rcases hB with ⟨hbg,rfl⟩ | ⟨g,made,twin,low,eqs,rfl,h1⟩
    ·clear hbg
     go_wp2
     refine bodyPost_ret (v:=_) (by simp [results,Tryz.results35,go_sem];try rfl) rfl ⟨.inr ⟨HSH.out,HBU.out⟩,HB2.out⟩
    ·clear h1
     go_wp2
     refine bodyPost_ret (v:=_) (by simp [results,Tryz.results35,go_sem];try rfl) rfl ⟨.inr ⟨HSH.out,HBU.out⟩,HB2.out⟩
end Lm
end Go.Proofs.YtpbllidpalgkkaaGreat
namespace Go.Proofs.YtpbllidpalgkkaaGreat
namespace Lm
open Go Go.RowKit Md
theorem apd (w:World) (g n:Nat) (s twin:Value) (h:SpanAt w g n (.iface 75 s) twin) :
  Calls Tryz.prog 45 #[.pointer (some ⟨g,0,none⟩)] w fun e w'=>e=.returned s∧Below w.heap.size w w' := by
 unfold SpanAt at h
 have hgl:=aaa h
 have c1:=cell_of_row w g 1 _ _ (0,0) h
 simp at c1
 have ht:∀ xt w,(Instr.typeAssert (.iface 75 s) xt 75 true).run Tryz.prog w=.ok (.tuple #[s,.bool true]) w:=fun _ _=>by kernel_rfl
 clear h
 go_enter Tryz.func45,Tryz.ntmps45
 go_wp2
 refine bodyPost_ret (v:=_) (by simp [results,Tryz.results45,go_sem];try rfl) rfl ⟨rfl,Below.refl _ _⟩
theorem ape (w:World) (g n:Nat) (s m:Value) (h:SpanAt w g n (.iface 72 m) (.iface 75 s)) :
  Calls Tryz.prog 45 #[.pointer (some ⟨g,0,none⟩)] w fun e w'=>e=.returned s∧Below w.heap.size w w' := by
 unfold SpanAt at h
 have hgl:=aaa h
 have c1:=cell_of_row w g 1 _ _ (0,0) h
 have c2:=cell_of_row w g 2 _ _ (0,0) h
 simp at c1 c2
 have ht:∀ xt w,(Instr.typeAssert (.iface 72 m) xt 75 true).run Tryz.prog w=.ok (.tuple #[.slice none 0 0,.bool false]) w:=fun _ _=>by kernel_rfl
 have ht2:∀ xt w,(Instr.typeAssert (.iface 75 s) xt 75 false).run Tryz.prog w=.ok s w:=fun _ _=>by kernel_rfl
 clear h
 go_enter Tryz.func45,Tryz.ntmps45
 go_wp2
 refine bodyPost_ret (v:=_) (by simp [results,Tryz.results45,go_sem];try rfl) rfl ⟨rfl,Below.refl _ _⟩
theorem au9 (w:World) (g n:Nat) (s twin:Value) (h:SpanAt w g n (.iface 72 s) twin) :
  Calls Tryz.prog 43 #[.pointer (some ⟨g,0,none⟩)] w fun e w'=>e=.returned s∧Below w.heap.size w w' := by
 unfold SpanAt at h
 have hgl:=aaa h
 have c1:=cell_of_row w g 1 _ _ (0,0) h
 simp at c1
 have ht:∀ xt w,(Instr.typeAssert (.iface 72 s) xt 72 true).run Tryz.prog w=.ok (.tuple #[s,.bool true]) w:=fun _ _=>by kernel_rfl
 clear h
 go_enter Tryz.func43,Tryz.ntmps43
 go_wp2
 refine bodyPost_ret (v:=_) (by simp [results,Tryz.results43,go_sem];try rfl) rfl ⟨rfl,Below.refl _ _⟩
theorem ava (w:World) (g n:Nat) (s m:Value) (h:SpanAt w g n (.iface 75 m) (.iface 72 s)) :
  Calls Tryz.prog 43 #[.pointer (some ⟨g,0,none⟩)] w fun e w'=>e=.returned s∧Below w.heap.size w w' := by
 unfold SpanAt at h
 have hgl:=aaa h
 have c1:=cell_of_row w g 1 _ _ (0,0) h
 have c2:=cell_of_row w g 2 _ _ (0,0) h
 simp at c1 c2
 have ht:∀ xt w,(Instr.typeAssert (.iface 75 m) xt 72 true).run Tryz.prog w=.ok (.tuple #[.slice none 0 0,.bool false]) w:=fun _ _=>by kernel_rfl
 have ht2:∀ xt w,(Instr.typeAssert (.iface 72 s) xt 72 false).run Tryz.prog w=.ok s w:=fun _ _=>by kernel_rfl
 clear h
 go_enter Tryz.func43,Tryz.ntmps43
 go_wp2
 refine bodyPost_ret (v:=_) (by simp [results,Tryz.results43,go_sem];try rfl) rfl ⟨rfl,Below.refl _ _⟩
end Lm
end Go.Proofs.YtpbllidpalgkkaaGreat
namespace Go.Proofs.YtpbllidpalgkkaaGreat
namespace Lm
open Go Go.RowKit Md
def SpanEL (w:World) (g n:Nat) (se sl:Value):Prop:=SpanAt w g n (.iface 75 sl) (.iface 72 se)∨SpanAt w g n (.iface 72 se) (.iface 75 sl)
theorem SpanEL.below {w w' : World} {g n:Nat} {se sl:Value} (h:SpanEL w g n se sl) (hb:Below w.heap.size w w'):SpanEL w' g n se sl:=by
 rcases h with h | h
 ·exact .inl ((hb.block _ (aaa h)).trans h)
 ·exact .inr ((hb.block _ (aaa h)).trans h)
theorem ai9 {w:World} {g n:Nat} {se sl:Value} (h:SpanEL w g n se sl):Calls Tryz.prog 43 #[.pointer (some ⟨g,0,none⟩)] w fun e w'=>e=.returned se∧Below w.heap.size w w' := by
 rcases h with h | h
 ·exact ava w g n se sl h
 ·exact au9 w g n se _ h
theorem aeq {w:World} {g n:Nat} {se sl:Value} (h:SpanEL w g n se sl):Calls Tryz.prog 45 #[.pointer (some ⟨g,0,none⟩)] w fun e w'=>e=.returned sl∧Below w.heap.size w w' := by
 rcases h with h | h
 ·exact apd w g n sl _ h
 ·exact ape w g n sl se h
theorem SpanEL.num {w:World} {g n:Nat} {se sl:Value} (h:SpanEL w g n se sl):g<w.heap.size∧w.cell? ⟨g,0,none⟩ = some (.int .i64 (n:Int)):=by
 rcases h with h | h
 ·exact ⟨aaa h,by have:=cell_of_row w g 0 _ _ (0,0) h;simpa using this⟩
 ·exact ⟨aaa h,by have:=cell_of_row w g 0 _ _ (0,0) h;simpa using this⟩
set_option maxRecDepth 20000 in
set_option maxHeartbeats 4000000 in
theorem an4 (w:World) (g n:Nat) (se sl pv:Value) (eqs:List (List Int)) (ps:List Rat) (L:Nat) (hS:SpanEL w g n se sl) (hE:IsM w se eqs 32) (hel:∀ r ∈ eqs,r.length=n+1) (hp:IsQs w pv ps L) (hpl:ps.length=n) (hn:n≤16) (hL0:32≤L) (hL:L≤80000) :
  Calls Tryz.prog 14 #[.pointer (some ⟨g,0,none⟩),pv] w fun e w'=>e=.returned (.tuple #[.bool (eqs.all (mk0 (n+1) (liftZ ps))),.int .i64 0])∧Below w.heap.size w w' := by
 have hf:=hp.fit (by omega)
 have K1:=hide (ai9 hS)
 have K2:Hid (∀ w1,Below w.heap.size w w1→_):=(fun w1 hb=>ad9 w1 pv ps L (1+L*16+L) n (hp.below hb) hpl (by omega) (by omega) (by omega) (by omega) (fun k hk=>by
     have h1:=afz hf (n:=16) (by omega) k
     have h2:pw (1+L*16)≤pw (1+L*16+L):=aap (by omega)
     omega) (fun z hz=>aee hf (n:=16) (by omega) z hz))
 have HE:=hide hE
 have HEL:=hide hel
 have hxl:(liftZ ps).length=n+1:=by rw [abi,hpl]
 have HXL:=hide hxl
 obtain ⟨hgl,c0⟩:=hS.num
 obtain ⟨ao,cp,rfl,hl⟩:=hp.parts
 rw [hpl] at K2 ⊢
 obtain ⟨ae,ce,rfl,_⟩:=hE.parts
 have hnn:((n:Int) == (n:Int))=true:=by simp
 clear hS hE hel hp hpl hf hxl hl
 go_enter Tryz.func14,Tryz.ntmps14
 go_wp2_with fail
 refine K1.out.mono ?_
 rintro e w1 ⟨rfl,hb1⟩
 have K3:=hide (K2.out w1 hb1)
 have HB1:=hide hb1
 clear hb1 K1 K2 c0
 go_wp2_with fail
 refine K3.out.mono ?_
 rintro e w2 ⟨r,rfl,hor,hb2⟩
 have HB2:=hide (HB1.out.trans (hb2.mono HB1.out.size))
 have K4:=hide (afm w2 _ r eqs (liftZ ps) (1+L*16+L) (n+1) ((HE.out.below HB2.out).wide (by omega)) hor.is HEL.out HXL.out (by omega) (by omega))
 obtain ⟨bv,rfl,_⟩:=hor
 rw [HXL.out] at K4
 clear hb2 K3
 rw [HXL.out]
 go_wp2_with fail
 refine K4.out.mono ?_
 rintro e w3 ⟨rfl,hb3⟩
 have HB3:=hide (HB2.out.trans (hb3.mono HB2.out.size))
 clear hb3 K4
 generalize hbb:eqs.all (mk0 (n+1) (liftZ ps))=bb at *
 go_wp2
 refine bodyPost_ret (v:=_) (by simp [results,Tryz.results14,go_sem];try rfl) rfl ⟨by rw [hbb],HB3.out⟩
theorem an5 (w:World) (g n k:Nat) (se sl:Value) (ao:Option Addr) (cp:Nat) (hS:SpanEL w g n se sl) (hsl:sl=.slice ao k cp) (hk:k≤1000) :
  Calls Tryz.prog 12 #[.pointer (some ⟨g,0,none⟩)] w fun e w'=>e=.returned (.int .i64 ((k:Int) - 1))∧Below w.heap.size w w' := by
 subst hsl
 have K1:=hide (aeq hS)
 have hsub:IntKind.i64.wrap ((k:Int) - 1)=(k:Int) - 1:=by rw [IntKind.wrap_i64];omega
 clear hS
 go_enter Tryz.func12,Tryz.ntmps12
 go_wp2_with fail
 refine K1.out.mono ?_
 rintro e w1 ⟨rfl,hb1⟩
 have HB1:=hide hb1
 clear hb1 K1
 go_wp2
 refine bodyPost_ret (v:=_) (by simp [results,Tryz.results12,go_sem];try rfl) rfl ⟨rfl,HB1.out⟩
end Lm
end Go.Proofs.YtpbllidpalgkkaaGreat
namespace Go.Proofs.YtpbllidpalgkkaaGreat
namespace Lm
open Go Go.RowKit Md
set_option maxRecDepth 20000 in
set_option maxHeartbeats 4000000 in
theorem ajy (w:World) (g n:Nat) (se sl pv:Value) (low:List (List Int)) (row:List Int) (L:Nat) (hS:SpanEL w g n se sl) (hE:IsM w sl low 600) (hel:∀ r ∈ low,r.length=n+1) (hp:IsRow w pv row L) (hpl:row.length=n+1) (hn:n≤16) (hL0:600≤L) (hL:L≤8000000) :
  Calls Tryz.prog 37 #[.pointer (some ⟨g,0,none⟩),pv] w fun e w'=>e=.returned (.tuple #[.bool (low.all (mk0 (n+1) row)),.int .i64 0])∧Below w.heap.size w w' := by
 have K1:=hide (aeq hS)
 have K2:Hid (∀ w1,Below w.heap.size w w1→_):=(fun w1 hb=>afm w1 sl pv low row L (n+1) ((hE.below hb).wide (by omega)) (hp.below hb) hel hpl (by omega) (by omega))
 obtain ⟨hgl,c0⟩:=hS.num
 obtain ⟨ao,cp,rfl,hl⟩:=hp.parts
 rw [hpl] at K2 ⊢
 obtain ⟨ae,ce,rfl,_⟩:=hE.parts
 have hadd:IntKind.i64.wrap ((n:Int)+1)=((n+1:Nat):Int):=by rw [IntKind.wrap_i64];omega
 have hnn:(((n+1:Nat):Int) == ((n+1:Nat):Int))=true:=by simp
 clear hS hE hel hp hpl hl
 go_enter Tryz.func37,Tryz.ntmps37
 go_wp2_with fail
 refine K1.out.mono ?_
 rintro e w1 ⟨rfl,hb1⟩
 have K3:=hide (K2.out w1 hb1)
 have HB1:=hide hb1
 clear hb1 K1 K2 c0
 go_wp2_with fail
 refine K3.out.mono ?_
 rintro e w3 ⟨rfl,hb3⟩
 have HB3:=hide (HB1.out.trans (hb3.mono HB1.out.size))
 clear hb3 K3
 generalize hbb:low.all (mk0 (n+1) row)=bb at *
 go_wp2
 refine bodyPost_ret (v:=_) (by simp [results,Tryz.results37,go_sem];try rfl) rfl ⟨by rw [hbb],HB3.out⟩
end Lm
end Go.Proofs.YtpbllidpalgkkaaGreat
namespace Go.Proofs.YtpbllidpalgkkaaGreat
namespace Lm
open Go Go.RowKit Md
theorem ary:Has Tryz.prog 64:=by unfold Has;kernel_rfl
set_option maxRecDepth 20000 in
set_option maxHeartbeats 4000000 in
theorem arz (w:World) (g gb n:Nat) (se sl pv:Value) (low:List (List Int)) (row:List Int) (L:Nat) (T:TypeId) (hS:SpanEL w g n se sl) (hg:w.heap[gb]? = some (.cells #[.pointer (some ⟨g,0,none⟩)] T (0,0))) (hE:IsM w sl low 600) (hel:∀ r ∈ low,r.length=n+1) (hp:IsRow w pv row L) (hpl:row.length=n+1) (hn:n≤16) (hL0:600≤L) (hL:L≤8000000) :
  Calls Tryz.prog 64 (#[pv] ++ #[.pointer (some ⟨gb,0,none⟩)]) w fun e w'=>e=.returned (.bool (!low.all (mk0 (n+1) row)))∧Below w.heap.size w w' := by
 have K1:=hide (aeq hS)
 have K2:Hid (∀ w1,Below w.heap.size w w1→_):=(fun w1 hb=>afm w1 sl pv low row L (n+1) ((hE.below hb).wide (by omega)) (hp.below hb) hel hpl (by omega) (by omega))
 obtain ⟨hgl,c0,_⟩:=aad hg
 obtain ⟨ao,cp,rfl,hl⟩:=hp.parts
 rw [hpl] at K2 ⊢
 obtain ⟨ae,ce,rfl,_⟩:=hE.parts
 clear hS hE hel hp hpl hl hg
 go_enter Tryz.func64,Tryz.ntmps64
 go_wp2_with fail
 refine K1.out.mono ?_
 rintro e w1 ⟨rfl,hb1⟩
 have K3:=hide (K2.out w1 hb1)
 have HB1:=hide hb1
 clear hb1 K1 K2 c0
 go_wp2_with fail
 refine K3.out.mono ?_
 rintro e w3 ⟨rfl,hb3⟩
 have HB3:=hide (HB1.out.trans (hb3.mono HB1.out.size))
 clear hb3 K3
 generalize hbb:low.all (mk0 (n+1) row)=bb at *
 go_wp2
 refine bodyPost_ret (v:=_) (by simp [results,Tryz.results64,go_sem];try rfl) rfl ⟨by rw [hbb],HB3.out⟩
end Lm
end Go.Proofs.YtpbllidpalgkkaaGreat
namespace Go.Proofs.YtpbllidpalgkkaaGreat
namespace Lm
open Go Go.RowKit Md
set_option maxRecDepth 20000 in
set_option maxHeartbeats 4000000 in
theorem axr (w:World) (g h n:Nat) (m1 m2 t2:Value) (T:TypeId) (s2:Value) (hS:SpanAt w g n m1 m2) (hO:SpanAt w h n (.iface T s2) t2) :
  Calls Tryz.prog 60 #[.pointer (some ⟨g,0,none⟩),.pointer (some ⟨h,0,none⟩)] w fun e w'=>e=.returned (.bool true)∧Below w.heap.size w w' := by
 unfold SpanAt at hS hO
 have hgl:=aaa hS
 have hhl:=aaa hO
 have c0:=cell_of_row w g 0 _ _ (0,0) hS
 have d0:=cell_of_row w h 0 _ _ (0,0) hO
 have d1:=cell_of_row w h 1 _ _ (0,0) hO
 simp at c0 d0 d1
 have hnn:((n:Int) == (n:Int))=true:=by simp
 clear hS hO
 go_enter Tryz.func60,Tryz.ntmps60
 go_wp2
 go_quiet (fail)
 go_wp2
 have hB:Below w.heap.size w (w.drewN nq):=by (repeat' first|with_reducible(first|exact Below.refl _ _|assumption|refine gdrewN ?_ _|refine Below.alloc ?_ ?_ _|refine Below.drew ?_|refine Below.setCell ?_ ?_ _)|go_size)
 refine bodyPost_ret (v:=_) (by simp [results,Tryz.results60,go_sem];try rfl) rfl ⟨rfl,hB⟩
set_option maxRecDepth 20000 in
set_option maxHeartbeats 8000000 in
theorem apf (w:World) (g h n:Nat) (se sl te tl:Value) (low eqs:List (List Int)) (hS:SpanEL w g n se sl) (hO:SpanEL w h n te tl) (hE:IsM w sl low 600) (hel:∀ r ∈ low,r.length=n+1) (hQ:IsM w te eqs 32) (hql:∀ r ∈ eqs,r.length=n+1) (hn:n≤16) :
  Calls Tryz.prog 26 #[.pointer (some ⟨g,0,none⟩),.pointer (some ⟨h,0,none⟩)] w fun e w'=>e=.returned (.tuple #[.bool (!eqs.any (fun r=>!low.all (mk0 (n+1) r))),.int .i64 0])∧Below w.heap.size w w' := by
 have hb:=hAl w (.cells #[.pointer (some ⟨g,0,none⟩)] 28)
 have hnw:=heap_alloc_new w (.cells #[.pointer (some ⟨g,0,none⟩)] 28)
 obtain ⟨hgb,c0,_⟩:=aad hnw
 have K1:Hid (∀ w1,Below w.heap.size w w1→Calls Tryz.prog 60 #[.pointer (some ⟨g,0,none⟩),.pointer (some ⟨h,0,none⟩)] w1 fun e w'=>e=.returned (.bool true)∧Below w1.heap.size w1 w'):=(fun w1 hb=>by
  rcases hS.below hb with h1 | h1 <;> rcases hO.below hb with h2 | h2 <;> exact axr w1 g h n _ _ _ _ _ h1 h2)
 have K2:Hid (∀ w1,Below w.heap.size w w1→_):=(fun w1 hb=>ai9 (hO.below hb))
 have K3:Hid (∀ w1,Below w.heap.size w w1→w1.heap[w.heap.size]? = some (.cells #[.pointer (some ⟨g,0,none⟩)] 28 (0,0))→_):=(fun w1 hb1 hw1=>akd w1 te eqs 600 ((hQ.below hb1).wide (by omega)) _ ary #[.pointer (some ⟨w.heap.size,0,none⟩)] (fun r=>!low.all (mk0 (n+1) r)) (fun W z xv hW hz hx=>arz W g w.heap.size n se sl xv low z 600 _ (hS.below (hb1.trans (hW.mono hb1.size))) ((hW.block _ (aaa hw1)).trans hw1) (hE.below (hb1.trans (hW.mono hb1.size))) hel hx (hql z hz) hn (by omega) (by omega)))
 have HB:=hide hb
 have HN:=hide hnw
 have hmf:∀ (fn:Fn) (first cap:Array Value) (w:World),(Instr.makeFunc fn first cap).run Tryz.prog w=.ok (.func fn first cap) w:=fun _ _ _ _=>rfl
 obtain ⟨ae,ce,rfl,_⟩:=hQ.parts
 have K1' := hide (K1.out _ hb)
 clear hS hO hE hel hQ hql hb hnw K1
 go_enter Tryz.func26,Tryz.ntmps26
 go_wp2_with fail
 refine K1'.out.mono ?_
 rintro e w1 ⟨rfl,hb1⟩
 have HB1:=hide (HB.out.trans (hb1.mono HB.out.size))
 have HN1:=hide ((hb1.block _ (aaa HN.out)).trans HN.out)
 have K2' := hide (K2.out w1 HB1.out)
 clear hb1 K1' K2 c0 HN HB
 go_wp2_with fail
 refine K2'.out.mono ?_
 rintro e w2 ⟨rfl,hb2⟩
 have HB2:=hide (HB1.out.trans (hb2.mono HB1.out.size))
 have HN2:=hide ((hb2.block _ (aaa HN1.out)).trans HN1.out)
 have K3' := hide (K3.out w2 HB2.out HN2.out)
 clear hb2 K2' K3
 go_wp2_with fail
 refine K3'.out.mono ?_
 rintro e w3 ⟨rfl,hb3⟩
 have HB3:=hide (HB2.out.trans (hb3.mono HB2.out.size))
 clear hb3 K3'
 generalize hbb:(eqs.any fun r=>!low.all (mk0 (n+1) r))=bb at *
 go_wp2
 refine bodyPost_ret (v:=_) (by simp [results,Tryz.results26,go_sem];try rfl) rfl ⟨by rw [hbb],HB3.out⟩
end Lm
end Go.Proofs.YtpbllidpalgkkaaGreat
namespace Go.Proofs.YtpbllidpalgkkaaGreat
namespace Lm
open Go Go.RowKit Md
theorem trimF (w:World) (x:Int) (vx:Value) (L:Nat) (hx:IsW x L vx w) (hL:L≤400000000) :
  Calls Tryz.prog 57 #[vx] w fun e w'=>∃ v,e=.returned v∧FrW w.heap.size x L v w'∧Below w.heap.size w w' := by
 obtain ⟨n1,a1,m1,c1,xs,rfl,A1,l1⟩:=hx
 refine (ay5 w n1 a1 m1 c1 xs A1.sl (by omega)).mono ?_
 rintro e w' ⟨ng,ao,cap,rs,rfl,hw,hl,hli,hb⟩
 rw [A1.worth] at hw
 exact ⟨_,rfl,FrW.of_li hw hli (Nat.le_refl _) (by omega),hb⟩
set_option maxRecDepth 20000 in
set_option maxHeartbeats 8000000 in
theorem aio (w:World) (v:Value) (zs:List Int) (L n:Nat) (h:IsRow w v zs L) (hln:zs.length=n) (hn:n≤100000) (hL:L≤20000000) :
  Calls Tryz.prog 44 #[v] w fun e w'=>∃ r,e=.returned r∧ORow w.heap.size w' r zs L∧Below w.heap.size w w' := by
 have hzb:=abe h
 obtain ⟨al,cl,rfl,_⟩:=h.parts
 rw [hln] at h ⊢
 have HL:=hide h
 have HLN:=hide hln
 obtain ⟨iW,hi,hz0,hz1,hz2⟩:=info_parts infoWz
 clear h hln hzb
 go_enter Tryz.func44,Tryz.ntmps44
 go_wp2_with (refine wpList_make_full _ rfl (.tmp 7) (.tmp 7) 39 rfl w.heap.size 45 iW (.agg #[.bool false,.slice none 0 0]) 2 Tryz.underlying39 hi hz0 hz1 .i64 .i64 _ _ n rfl rfl (by omega) (by omega) (by rw [hz2];omega) (by unfold maxLen;omega) (Nat.le_refl _) ?hK)
 case hK =>
  intro w2 hown hgrow
  have hb2:Below w.heap.size w w2:=(Below.refl _ _).grown hgrow (Nat.le_refl _) (by simp)
  obtain ⟨_,hmb⟩:=ac0 hown
  rw [ads] at hmb
  obtain ⟨bv,hbv⟩:∃ bv,w.heap.size=bv:=⟨_,rfl⟩
  rw [hbv] at hmb
  have HBV:Hid (w.heap.size≤bv):=(show _≤_ by omega)
  have HP0:=hide (PRow.start (K:=w.heap.size) (zs:=zs) (L:=L) hmb)
  have HB:=hide hb2
  clear hown hgrow hmb hb2
  rw [hbv]
  go_wp2
  go_loopw [11] (fun iv wr=>∃ (k:Nat),iv=.int .i64 k∧k≤n∧Below w.heap.size w wr∧PRow w.heap.size wr bv n k zs L) (fun iv _=>n - (intOf iv).toNat)
  case atStart=>exact ⟨0,rfl,Nat.zero_le _,HB.out,HP0.out⟩
  case round =>
   obtain ⟨k,rfl,hk,hbw,hpr⟩:=hrel
   by_cases hlt:k<n
   ·have hlt' : (k:Int)<(n:Int):=by omega
    obtain ⟨zk,hzk⟩:∃ z,zs[k]? = some z:=⟨_,List.getElem?_eq_getElem (by have:=HLN.out;omega)⟩
    obtain ⟨bl,ol,ng1,a1,m1,c1,rfl,hll,x0,x1,hx⟩:=HL.out.cell (k:=k) (z:=zk) hzk
    have HZK:=hide hzk
    have x0' := (hbw.cell (p:=⟨bl,ol+k*2,none⟩) hll).trans x0
    have x1' := (hbw.cell (p:=⟨bl,ol+k*2+1,none⟩) hll).trans x1
    have hA:=hAl wr (.cells #[.bool ng1,.slice a1 m1 c1] 45)
    have hall:=hbw.trans (hA.mono hbw.size)
    have K1:=hide (trimF (wr.alloc (.cells #[.bool ng1,.slice a1 m1 c1] 45)) zk _ L (hx.ru (Ru.of_below hall)) (by omega))
    have HW:=hide hall
    have HPR:=hide (hpr.below hA)
    clear hbw hpr hx hzk x0 x1 hA hall
    go_wp2_with fail
    refine K1.out.mono ?_
    rintro e w3 ⟨vt,rfl,hT,hb3⟩
    obtain ⟨ng5,a5,m5,c5,rfl⟩:=hT.agg
    obtain ⟨⟨ngp,ap,mp,cp',e0,e1⟩,pf0,pf1⟩:=(HPR.out.below hb3).cells hlt
    obtain ⟨t1,t2⟩:=HPR.out.put (Nat.le_refl _) hb3 hlt HZK.out HW.out.size hT
    have HT1:=hide t1
    have HT2:=hide (HW.out.trans (t2.below HW.out.size HBV.out HBV.out))
    clear t1 t2 hT hb3 K1 x0' x1'
    go_wp2
    go_roundw
    case rel=>exact ⟨k+1,by go_num,by omega,HT2.out,HT1.out⟩
    case measure=>simp [intOf];omega
   ·have hlt' : decide ((k:Int)<(n:Int))=false:=by simp;omega
    obtain rfl:n=k:=by omega
    have HW:=hide hbw
    have HPR:=hide hpr
    clear hbw hpr
    go_wp2
    refine bodyPost_ret (v:=_) (by simp [results,Tryz.results44,go_sem];try rfl) rfl ⟨_,rfl,⟨_,by rw [HLN.out],HBV.out,by rw [HLN.out];exact HPR.out,by rw [HLN.out];omega⟩,HW.out⟩
def GrC (K:Nat) (zs:List Int) (L:Nat):Says:=fun v w=>∃ es,RwO K w v es∧es.length=zs.length∧∀ (k:Nat) (e:WE) (z:Int),es[k]? = some e→zs[k]? = some z→Canon e.zs∧val e.zs=(z.natAbs:Int)∧e.ng=decide (z<0)∧e.zs.length≤L
theorem ORow.grc {K:Nat} {w:World} {v:Value} {zs:List Int} {L:Nat} (h:ORow K w v zs L):GrC 0 zs L v w:=by
 obtain ⟨bv,rfl,hK,⟨es,B,T,e1,e2,e3,e4,e5⟩,hl⟩:=h
 refine ⟨es,⟨⟨aa0 es,.inr ⟨bv,zs.length,_,by rw [e1],Nat.zero_le _,e2,by omega,by unfold maxLen;omega,?_,?_⟩⟩,fun e he=>?_⟩,e1,fun k e z hk hz=>?_⟩
 ·simp [aa0,e1]
 ·rw [←aa0];simp
 ·obtain ⟨k,hk⟩:=List.mem_iff_getElem?.1 he
  have hkl:=(List.getElem?_eq_some_iff.1 hk).1
  obtain ⟨z,hz⟩:∃ z,zs[k]? = some z:=⟨_,List.getElem?_eq_getElem (by omega)⟩
  obtain ⟨g1,g2,_,g4,_⟩:=e4 k e z (by omega) hk hz
  have:=g1.fr.ow.mono (Nat.zero_le _)
  rwa [←g2] at this
 ·have hkl:=(List.getElem?_eq_some_iff.1 hk).1
  obtain ⟨g1,g2,g3,_⟩:=e4 k e z (by omega) hk hz
  exact ⟨g1.fr.canon,g1.fr.val,g1.sgn,g3⟩
theorem GrC.mono (K:Nat) (zs:List Int) (L:Nat):Mono (GrC K zs L):=fun _ _ _ hb ⟨es,h1,h2⟩=>⟨es,h1.below hb,h2⟩
theorem GrC.can {K:Nat} {zs:List Int} {L:Nat} {v:Value} {w:World} (h:GrC K zs L v w):CanRow w v zs L:=by
 obtain ⟨es,h1,h2⟩:=h
 exact ⟨es,h1.rw,h2⟩
theorem GrC.keep {K K' L:Nat} {z:List Int} {u v:Value} {w w' : World} {n:Nat} {xs:List Value} (h:GrC K' z L u w) (hv:w.ownsRow K 39 1 v n xs) (hg:w.grownBy w' v.ownBlock):GrC K' z L u w' := by
 obtain ⟨es,h1,h2⟩:=h
 obtain ⟨c,hc⟩:=ajw hv
 refine ⟨es,h1.keep hg hc (by decide) (fun g hg1 hg2=>?_),h2⟩
 obtain ⟨c',hc'⟩:=h1.row
 exact aay (hc g hg1) (hc' g hg2) (by decide) rfl
def LsC (w0 wr:World) (v:Value) (k:Nat) (rows:List (List Int)) (L:Nat):Prop:=Below w0.heap.size w0 wr∧rows.length=k∧∃ vs:List Value,wr.ownsRow w0.heap.size 39 1 v k vs∧∀ (i:Nat) (u:Value) (z:List Int),vs[i]? = some u→rows[i]? = some z→GrC 0 z L u wr
theorem LsC.below {w0 wr w' : World} {v:Value} {k:Nat} {rows:List (List Int)} {L:Nat} (h:LsC w0 wr v k rows L) (hb:Below wr.heap.size wr w'):LsC w0 w' v k rows L:=by
 obtain ⟨h1,h2,vs,h3,h4⟩:=h
 exact ⟨h1.trans (hb.mono h1.size),h2,vs,acg h3 hb,fun i u z a b=>GrC.mono _ _ _ _ _ _ hb (h4 i u z a b)⟩
theorem LsC.canM {w0 wr:World} {v:Value} {k:Nat} {rows:List (List Int)} {L:Nat} (h:LsC w0 wr v k rows L):CanM wr v rows L:=by
 obtain ⟨h1,h2,vs,h3,h4⟩:=h
 exact ⟨vs,by rw [h2];exact Ce.own h3,fun i u z a b=>(h4 i u z a b).can⟩
section
variable {dst:Option Tmp} {ty:TypeId} {pos:String} {after:Array Edge} {guard:Option (Nat × Bool)} {a:Act} {w:World} {i j:Nat}
theorem aqh {g k L:Nat} {w0:World} {lw u:Value} {rows:List (List Int)} {z:List Int} {au:Option Addr} {nu cu:Nat} (h1:a.eval (.tmp i)=lw) (hS:LsC w0 w lw k rows L) (h2:a.eval (.tmp j)=.slice (some ⟨g,0,none⟩) 1 1) (hg:w.heap[g]? = some (.cells #[u] 39 (0,0))) (hu:GrC 0 z L u w) (hus:u=.slice au nu cu) (hk:k≤1000) :
  Does Tryz.prog { dst,op:=.call { callee:=.builtin .append,args:=#[.tmp i,.tmp j],argTypes:=#[23,23] },type:=ty,pos,after,guard } a.eval w fun v' w'=>LsC w0 w' v' (k+1) (rows ++ [z]) L:=by
 obtain ⟨i0,hi,hz0,hz1,hz2⟩:=info_parts anu
 have hnew:∀ k x,[u][k]? = some x→w.cell? ((⟨g,0,none⟩:Addr).add k)=some x:=fun k x hx=>by
  have hc:∀ k,w.cell? ⟨g,k,none⟩ = #[u][k]? := fun k=>cell_of_row w g k _ _ (0,0) hg
  have ha:(⟨g,0,none⟩:Addr).add k=⟨g,k,none⟩:=by unfold Addr.add;split <;> simp_all
  rw [ha,hc]
  simpa using hx
 have h1u:∀ x ∈ [u],x.oneCell' = true:=fun x hx=>by
  obtain rfl:=List.mem_singleton.1 hx
  subst hus
  rfl
 obtain ⟨hb,hl,vs,hown,hrows⟩:=hS
 have hvl:vs.length=k:=by have:=hown.1;simp at this;omega
 obtain ⟨v',w',hr,ho,hgr,_⟩:=run_append_own (P:=Tryz.prog) w w0.heap.size 23 ty 39 i0 _ 1 24 Tryz.underlying23 hi hz0 hz1 hz2 rfl (by decide) _ k _ hown ⟨g,0,none⟩ 1 1 [u] rfl hnew h1u (by simp [maxLen];omega) (by omega) hb.size
 have e:(execOp a.eval { dst,op:=.call { callee:=.builtin .append,args:=#[.tmp i,.tmp j],argTypes:=#[23,23] },type:=ty,pos,after,guard }).run Tryz.prog w=.ok (.value v') w' := by
  simp only [execOp,resolve,invoke,builtin,Sem.run_bind,Sem.run_pure,Result.andThen_ok,List.map_toArray,List.map_cons,List.map_nil,h1,h2,hr]
 refine ⟨?_⟩
 unfold Turns
 rw [e]
 refine ⟨hb.grown hgr hb.size (fun q hq=>?_),by simp [hl],vs ++ [u],ho,fun i x y hx hy=>?_⟩
 ·rcases hown.2 with ⟨rfl,_⟩ | ⟨g',cap,cur,rfl,hg',_⟩
  ·simp [Value.ownBlock] at hq
  ·simp only [Value.ownBlock,Option.some.injEq] at hq
   omega
 ·by_cases hi:i<k
  ·rw [List.getElem?_append_left (by omega)] at hx hy
   exact (hrows i x y hx hy).keep hown hgr
  ·rw [List.getElem?_append_right (by omega)] at hx hy
   rw [hvl] at hx
   rw [hl] at hy
   match hm:i - k with
   | 0 =>
    rw [hm] at hx hy
    simp at hx hy
    subst hx hy
    exact hu.keep hown hgr
   | m+1 =>
    rw [hm] at hx
    simp at hx
end
end Lm
end Go.Proofs.YtpbllidpalgkkaaGreat
namespace Go.Proofs.YtpbllidpalgkkaaGreat
namespace Lm
open Go Go.RowKit Md
set_option maxRecDepth 20000 in
set_option maxHeartbeats 8000000 in
theorem alp (w:World) (g n:Nat) (se sl:Value) (eqs:List (List Int)) (L:Nat) (hS:SpanEL w g n se sl) (hE:IsM w se eqs L) (hel:∀ r ∈ eqs,r.length=n+1) (hn:n≤16) (hm:eqs.length≤100) (hL:L≤1000) :
  Calls Tryz.prog 10 #[.pointer (some ⟨g,0,none⟩)] w fun e w'=>∃ v,e=.returned v∧CanM w' v eqs L∧Below w.heap.size w w' := by
 have K1:=hide (ai9 hS)
 have HE:=hide hE
 have HEL:=hide hel
 obtain ⟨ae,ce,rfl,_⟩:=hE.parts
 obtain ⟨m,hmm⟩:∃ m,eqs.length=m:=⟨_,rfl⟩
 rw [hmm] at HE hm K1
 have HM:=hide hmm
 clear hS hE hel hmm
 go_enter Tryz.func10,Tryz.ntmps10
 go_wp2_with fail
 refine K1.out.mono ?_
 rintro e w1 ⟨rfl,hb1⟩
 have HB1:=hide hb1
 clear hb1 K1
 go_wp2
 go_loopw [3,9] (fun lw iv wr=>∃ (k:Nat),iv=.int .i64 k∧k≤m∧LsC w wr lw k (eqs.take k) L) (fun _ iv _=>m - (intOf iv).toNat)
 case atStart=>exact ⟨0,rfl,Nat.zero_le _,HB1.out,rfl,[],World.ownsRow_nil _ _ _ _,fun i u z hu=>by simp at hu⟩
 case round =>
  obtain ⟨k,rfl,hk,hst⟩:=hrel
  by_cases hlt:k<m
  ·have hlt' : (k:Int)<(m:Int):=by omega
   obtain ⟨z,hz⟩:∃ z,eqs[k]? = some z:=⟨_,List.getElem?_eq_getElem (by have:=HM.out;omega)⟩
   obtain ⟨b,off,u,rfl,hbl,hu,hur⟩:=(HE.out.below hst.1).cell hz
   have hzl:=HEL.out z (List.mem_of_getElem? hz)
   have K:=hide (aio wr u z L (n+1) hur hzl (by omega) (by omega))
   obtain ⟨au,cu,rfl,_⟩:=hur.parts
   have HST:=hide hst
   have HGZ:Hid (eqs.take (k+1)=eqs.take k ++ [z]):=(show _ = _ by rw [List.take_add_one,hz];simp)
   have HZL:=hide hzl
   clear hst hur hz hzl
   go_wp2_with fail
   refine K.out.mono ?_
   rintro e w3 ⟨r,rfl,hor,hb3⟩
   have hst3:=HST.out.below hb3
   have hgs:=hor.grc
   obtain ⟨bv,rfl,_⟩:=hor
   rw [HZL.out] at hgs
   have hA3:=hAl w3 (.cells #[.slice (some ⟨bv,0,none⟩) (n+1) (n+1)] 39)
   have hn3:=heap_alloc_new w3 (.cells #[.slice (some ⟨bv,0,none⟩) (n+1) (n+1)] 39)
   have hst4:=hst3.below hA3
   have hgs4:=GrC.mono _ _ _ _ _ _ hA3 hgs
   clear hst3 hgs hA3 hb3 K
   rw [HZL.out]
   go_wp2_with (at_builtin;refine ab4 rfl (aqh (i:=13) (j:=16) rfl hst4 rfl hn3 hgs4 rfl (by omega)) ?_)
   intro v2 w4 hst5
   have HS5:=hide hst5
   clear hst4 hn3 hgs4 hst5
   go_wp2
   go_roundw
   case rel=>exact ⟨k+1,by go_num,by omega,by rw [HGZ.out];exact HS5.out⟩
   case measure=>simp [intOf];omega
  ·have hlt' : decide ((k:Int)<(m:Int))=false:=by simp;omega
   obtain rfl:m=k:=by omega
   rw [List.take_of_length_le (by have:=HM.out;omega)] at hst
   have HC:=hide hst.canM
   have HW:=hide hst.1
   obtain ⟨ao,cp,rfl,_⟩:=HC.out.parts
   clear hst
   go_wp2
   refine bodyPost_ret (v:=_) (by simp [results,Tryz.results10,go_sem];try rfl) rfl ⟨_,rfl,HC.out,HW.out⟩
set_option maxRecDepth 20000 in
set_option maxHeartbeats 8000000 in
theorem ar0 (w:World) (g n:Nat) (se sl:Value) (low:List (List Int)) (L:Nat) (hS:SpanEL w g n se sl) (hE:IsM w sl low L) (hel:∀ r ∈ low,r.length=n+1) (hn:n≤16) (hm:low.length≤100) (hL:L≤1000) :
  Calls Tryz.prog 15 #[.pointer (some ⟨g,0,none⟩)] w fun e w'=>∃ v,e=.returned v∧CanM w' v (stepsOf n low) L∧Below w.heap.size w w' := by
 have K1:=hide (aeq hS)
 have HE:=hide hE
 have HEL:=hide hel
 have HS:=hide hS
 obtain ⟨ae,ce,rfl,_⟩:=hE.parts
 obtain ⟨m,hmm⟩:∃ m,low.length=m:=⟨_,rfl⟩
 rw [hmm] at HE hm K1
 have HM:=hide hmm
 obtain ⟨hgl,c0⟩:=hS.num
 have HC0:=hide c0
 clear hS hE hel hmm c0
 go_enter Tryz.func15,Tryz.ntmps15
 go_wp2_with fail
 refine K1.out.mono ?_
 rintro e w1 ⟨rfl,hb1⟩
 have HB1:=hide hb1
 clear hb1 K1
 go_wp2
 go_loopw [3,9] (fun lw iv wr=>∃ (k:Nat),iv=.int .i64 k∧k≤m∧LsC w wr lw (k - 1) (stepsOf n (low.take k)) L) (fun _ iv _=>m - (intOf iv).toNat)
 case atStart=>exact ⟨0,rfl,Nat.zero_le _,HB1.out,rfl,[],World.ownsRow_nil _ _ _ _,fun i u z hu=>by simp at hu⟩
 case round =>
  obtain ⟨k,rfl,hk,hst⟩:=hrel
  by_cases hlt:k<m
  ·have hlt' : (k:Int)<(m:Int):=by omega
   obtain ⟨z,hz⟩:∃ z,low[k]? = some z:=⟨_,List.getElem?_eq_getElem (by have:=HM.out;omega)⟩
   obtain ⟨b,off,u,rfl,hbl,hu,hur⟩:=(HE.out.below hst.1).cell hz
   have hzl:=HEL.out z (List.mem_of_getElem? hz)
   have c0:wr.cell? ⟨g,0,none⟩ = some (.int .i64 (n:Int)):=(hst.1.cell (p:=⟨g,0,none⟩) hgl).trans HC0.out
   have hglr:g<wr.heap.size:=Nat.lt_of_lt_of_le hgl hst.1.size
   obtain ⟨au,cu,rfl,hzc⟩:=hur.parts
   obtain ⟨hcap,hcm⟩:=hur.cap
   rw [hzl] at hur hcap hu
   have hpre:=hur.pre (n:=n) (by omega)
   have HST:=hide hst
   by_cases hk0:k=0
   ·subst hk0
    rw [Nat.add_zero] at hu
    clear hst hur hz hzl hpre
    go_wp2
    go_roundw
    case rel=>exact ⟨1,by go_num,by omega,by
     have h1:=HST.out
     have e:stepsOf n (low.take 1)=stepsOf n (low.take 0):=by
      unfold stepsOf
      cases low <;> rfl
     rw [e]
     exact h1⟩
    case measure=>simp [intOf];omega
   ·have K:=hide (aio wr (.slice au n cu) (z.take n) L n hpre (by rw [List.length_take];omega) (by omega) (by omega))
    have HGZ:Hid (stepsOf n (low.take (k+1))=stepsOf n (low.take k) ++ [z.take n]):=(show _ = _ by
     unfold stepsOf
     rw [List.take_add_one,hz]
     rw [List.drop_append_of_le_length (by rw [List.length_take];have:=HM.out;omega)]
     simp)
    have HZL:Hid ((z.take n).length=n):=(show _ = _ by rw [List.length_take];omega)
    have hk0' : (k:Int) > 0:=by omega
    have HK1:Hid (k - 1+1=k):=(show k - 1+1=k by omega)
    obtain ⟨k1,hk1⟩:∃ k1,k - 1=k1:=⟨_,rfl⟩
    rw [hk1] at HST HK1
    have hk1le:k1≤100:=by omega
    clear hst hur hz hzl hpre hk1
    go_wp2_with fail
    refine K.out.mono ?_
    rintro e w3 ⟨r,rfl,hor,hb3⟩
    have hst3:=HST.out.below hb3
    have hgs:=hor.grc
    obtain ⟨bv,rfl,_⟩:=hor
    rw [HZL.out] at hgs
    have hA3:=hAl w3 (.cells #[.slice (some ⟨bv,0,none⟩) n n] 39)
    have hn3:=heap_alloc_new w3 (.cells #[.slice (some ⟨bv,0,none⟩) n n] 39)
    have hst4:=hst3.below hA3
    have hgs4:=GrC.mono _ _ _ _ _ _ hA3 hgs
    clear hst3 hgs hA3 hb3 K c0
    rw [HZL.out]
    go_wp2_with (at_builtin;refine ab4 rfl (aqh (i:=16) (j:=24) rfl hst4 rfl hn3 hgs4 rfl (by omega)) ?_)
    intro v2 w4 hst5
    rw [HK1.out] at hst5
    have HS5:=hide hst5
    clear hst4 hn3 hgs4 hst5
    go_wp2
    go_roundw
    case rel=>exact ⟨k+1,by go_num,by omega,by rw [HGZ.out];exact HS5.out⟩
    case measure=>simp [intOf];omega
  ·have hlt' : decide ((k:Int)<(m:Int))=false:=by simp;omega
   obtain rfl:m=k:=by omega
   rw [List.take_of_length_le (by have:=HM.out;omega)] at hst
   have HC:=hide hst.canM
   have HW:=hide hst.1
   obtain ⟨ao,cp,rfl,_⟩:=HC.out.parts
   clear hst
   go_wp2
   refine bodyPost_ret (v:=_) (by simp [results,Tryz.results15,go_sem];try rfl) rfl ⟨_,rfl,HC.out,HW.out⟩
end Lm
end Go.Proofs.YtpbllidpalgkkaaGreat
namespace Go.Proofs.YtpbllidpalgkkaaGreat
namespace Lm
open Go Go.RowKit
structure FQ where
 r:FE
 zs:List Int
 ys:List Int
def FQ.p (e:FQ):Int:=sg e.r.ng (val e.zs)
def FQ.q (e:FQ):Int:=val e.ys
def FQ.w (e:FQ):Rat:=Rat.divInt e.p e.q
structure Rfq (w:World) (v:Value) (es:List FQ):Prop where
 ce:Ce w v 3 es.length (f3 (es.map FQ.r))
 s1:∀ e ∈ es,Sl w (.slice e.r.a e.r.m e.r.c) e.zs
 s2:∀ e ∈ es,Sl w (.slice e.r.d e.r.k e.r.e) e.ys
theorem Rfq.below {w w' : World} {v:Value} {es:List FQ} (h:Rfq w v es) (hb:Below w.heap.size w w'):Rfq w' v es:=⟨h.ce.below hb,fun e he=>(h.s1 e he).below hb,fun e he=>(h.s2 e he).below hb⟩
theorem Rfq.parts {w:World} {ao:Option Addr} {n cap:Nat} {es:List FQ} (h:Rfq w (.slice ao n cap) es):n=es.length∧es.length≤cap∧cap≤9223372036854775807:=by
 obtain ⟨ao',cap',hv,h1,h2,h3,h4⟩:=h.ce
 obtain ⟨rfl,rfl,rfl⟩:=(Value.slice.injEq .. ▸ hv)
 exact ⟨rfl,h1,h2⟩
theorem Rfq.cell {w:World} {ao:Option Addr} {n cap k:Nat} {es:List FQ} {e:FQ} (h:Rfq w (.slice ao n cap) es) (he:es[k]? = some e):∃ b off,ao=some ⟨b,off,none⟩∧b<w.heap.size∧w.cell? ⟨b,off+k*3,none⟩ = some (.bool e.r.ng)∧w.cell? ⟨b,off+k*3+1,none⟩ = some (.slice e.r.a e.r.m e.r.c)∧w.cell? ⟨b,off+k*3+2,none⟩ = some (.slice e.r.d e.r.k e.r.e):=by
 obtain ⟨ao',cap',hv,h1,h2,h3,h4⟩:=h.ce
 obtain ⟨rfl,rfl,rfl⟩:=(Value.slice.injEq .. ▸ hv)
 have hk:k<es.length:=(List.getElem?_eq_some_iff.1 he).1
 rcases h4 with h4 | ⟨b,off,rfl,hl,hc⟩
 ·omega
 ·obtain ⟨f0,f1,f2⟩:=ah7 (es:=es.map FQ.r) (i:=k) (x:=e.r) (by simp [he])
  exact ⟨b,off,rfl,hl,hc _ _ f0,hc _ _ f1,hc _ _ f2⟩
theorem Rfq.isq {w:World} {v:Value} {es:List FQ} (h:Rfq w v es) {L:Nat} (hl:∀ e ∈ es,e.zs.length≤L∧e.ys.length≤L):IsQs w v (es.map FQ.w) L:=by
 refine ⟨es.map FQ.r,by simpa using h.ce,by simp,fun k e r he hr=>?_⟩
 simp only [List.getElem?_map,Option.map_eq_some_iff] at he hr
 obtain ⟨x,hx,rfl⟩:=he
 obtain ⟨y,hy,rfl⟩:=hr
 obtain rfl:x=y:=by rw [hx] at hy;exact Option.some.inj hy
 have hm:=List.mem_of_getElem? hx
 exact ⟨x.p,x.q,⟨_,_,_,_,x.zs,_,_,_,x.ys,rfl,⟨h.s1 x hm,rfl⟩,h.s2 x hm,rfl,(hl x hm).1,(hl x hm).2⟩,rfl⟩
def lenFQ:List FQ→Nat
 | []=>0
 | e :: es=>1+e.r.m+e.r.k+lenFQ es
theorem ado (es fs:List FQ):lenFQ (es ++ fs)=lenFQ es+lenFQ fs:=by
 induction es with
 | nil=>simp [lenFQ]
 | cons e es ih=>simp only [List.cons_append,lenFQ,ih];omega
theorem ar1 {es:List FQ} {k:Nat} {e:FQ} (h:es[k]? = some e):lenFQ (es.take (k+1))=lenFQ (es.take k)+(1+e.r.m+e.r.k):=by
 rw [List.take_add_one,h,ado]
 simp [lenFQ]
theorem alq (es:List FQ) (k:Nat):lenFQ (es.take k)≤lenFQ es:=by
 conv=>rhs;rw [←List.take_append_drop k es]
 rw [ado]
 omega
theorem avb {es:List FQ} {e:FQ} (h:e ∈ es):1+e.r.m+e.r.k≤lenFQ es:=by
 induction es with
 | nil=>cases h
 | cons x es ih =>
  rcases List.mem_cons.1 h with rfl | h
  ·simp only [lenFQ];omega
  ·have:=ih h
   simp only [lenFQ];omega
theorem an6 (es:List FQ):es.length≤lenFQ es:=by
 induction es with
 | nil=>simp [lenFQ]
 | cons x es ih=>simp only [List.length_cons,lenFQ];omega
set_option maxRecDepth 20000 in
set_option maxHeartbeats 4000000 in
theorem a0k (w:World) (ax:Option Addr) (mx cx:Nat) (xs:List FQ) (R:Rfq w (.slice ax mx cx) xs) (hl:lenFQ xs≤35184372088832) :
  Calls Tryz.prog 79 #[.slice ax mx cx] w fun e w'=>e=.returned (.int .i64 (lenFQ xs:Int))∧Below w.heap.size w w' := by
 have hll:=an6 xs
 have HX:=hide R
 have HNx:Hid (mx=xs.length):=R.parts.1
 have HL:Hid (lenFQ xs≤35184372088832∧mx≤lenFQ xs):=(show _∧_ from ⟨hl,by rw [HNx.out];exact hll⟩)
 have hm:mx≤35184372088832:=by have:=HL.out;omega
 clear R hl hll
 go_enter Tryz.func79,Tryz.ntmps79
 go_wp2_with fail
 go_loopw [3,4] (fun sv iv wr=>∃ k:Nat,iv=.int .i64 k∧k≤mx∧sv=.int .i64 (lenFQ (xs.take k):Int)∧Below w.heap.size w wr) (fun _ iv _=>mx - (intOf iv).toNat)
 case atStart=>exact ⟨0,rfl,Nat.zero_le _,rfl,Below.refl _ _⟩
 case round =>
  obtain ⟨k,rfl,hk,rfl,hbw⟩:=hrel
  by_cases hlt:k<mx
  ·have hlt' : (k:Int)<(mx:Int):=by omega
   obtain ⟨ex,hex⟩:∃ e,xs[k]? = some e:=⟨_,List.getElem?_eq_getElem (by have:=HNx.out;omega)⟩
   obtain ⟨bx,ox,hAx,hlx0,x0,x1,x2⟩:=(HX.out.below hbw).cell hex
   subst hAx
   have hs:=ar1 hex
   have hle:=alq xs (k+1)
   have hm2:=HL.out
   have HW:=hide hbw
   have K1:=hide (a1d wr ex.r.ng ex.r.a ex.r.m ex.r.c ex.r.d ex.r.k ex.r.e (by omega) (by omega))
   obtain ⟨s,hsv⟩:∃ s,lenFQ (xs.take k)=s:=⟨_,rfl⟩
   rw [hsv] at hs ⊢
   have hadd:IntKind.i64.wrap ((s:Int)+(1+(ex.r.m:Int)+(ex.r.k:Int)))=(s:Int)+(1+(ex.r.m:Int)+(ex.r.k:Int)):=by rw [IntKind.wrap_i64];omega
   have HSV:=hide hs
   clear hbw hs hle hsv hm2 hex
   go_wp2_with fail
   refine K1.out.mono ?_
   rintro e w2 ⟨v2,rfl,hv2,hb2⟩
   obtain rfl:v2=.int .i64 (1+(ex.r.m:Int)+(ex.r.k:Int)):=hv2
   have HB2:=hide (HW.out.trans (hb2.mono HW.out.size))
   clear hb2 x0 x1 x2 hlx0
   go_wp2
   go_roundw
   case rel=>exact ⟨k+1,by go_num,by omega,by rw [HSV.out];simp,HB2.out⟩
   case measure=>simp [intOf];omega
  ·have hlt' : decide ((k:Int)<(mx:Int))=false:=by simp;omega
   have hkn:k=mx:=by omega
   subst hkn
   have HW:=hide hbw
   clear hbw
   go_wp2
   refine bodyPost_ret (v:=_) (ad3 rfl rfl) rfl ⟨by rw [List.take_of_length_le (by have:=HNx.out;omega)];rfl,HW.out⟩
open Go.ChangeShapes Go.WideShapes Go.ChangeAt Go.Deep
instance:Inhabited FQ:=⟨⟨⟨false,none,0,0,none,0,0⟩,[],[]⟩⟩
theorem aip {H:Type} {enc:TypeId × Value→H} {w:World} {fuel:Nat} {v:Value} {x:DataW H × List MemPlace} (h:DataW.trod enc Tryz.prog w 0 (fun _=>true) true fuel 43 [v]=some x):∃ a l c zs,v=.slice a l c∧Sl w v zs∧l+1≤Rows.uptoBulk x.1:=by
 rcases open_ints Tryz.underlying43 Tryz.underlying86 (by kernel_rfl) h with ⟨hcs,hx⟩ | ⟨a,l,c,zs,hcs,_,hl,hm,hz,hx,hcell,hwz⟩
 ·obtain rfl:v=.slice none 0 0:=by simpa using hcs
  exact ⟨none,0,0,[],rfl,⟨none,0,rfl,Nat.le_refl _,by simp [maxLen],aak,.inl rfl⟩,by rw [hx];simp [Rows.uptoBulk]⟩
 ·obtain rfl:v=.slice (some a) l c:=by simpa using hcs
  have hz' : zs.length=c:=by simpa using hz
  refine ⟨some a,l,c,zs.take l,rfl,apw hl hm hz' hcell hwz,?_⟩
  have hd:x.1=.slice (lits .u32 (zs.take l)) (lits .u32 (zs.drop l)):=congrArg Prod.fst hx
  have hll:(zs.take l).length=l:=by rw [List.length_take];omega
  simp only [Rows.uptoBulk,hd,ak7,hll]
  omega
theorem a18 (E:Nat→FQ) (n:Nat):∀ j u,(f3 (((List.range n).map E).map FQ.r))[j]? = some u→j / 3<n∧u=(if j % 3=0 then .bool (E (j / 3)).r.ng else if j % 3=1 then .slice (E (j / 3)).r.a (E (j / 3)).r.m (E (j / 3)).r.c else .slice (E (j / 3)).r.d (E (j / 3)).r.k (E (j / 3)).r.e):=by
 intro j u hu
 have hj:j<(f3 (((List.range n).map E).map FQ.r)).length:=(List.getElem?_eq_some_iff.1 hu).1
 rw [aed,List.length_map,List.length_map,List.length_range] at hj
 have hk:j / 3<n:=by omega
 have he:(((List.range n).map E).map FQ.r)[j / 3]? = some (E (j / 3)).r:=by simp [hk]
 obtain ⟨h1,h2,h3⟩:=ah7 he
 refine ⟨hk,?_⟩
 by_cases h0:j % 3=0
 ·rw [if_pos h0]
  rw [show j / 3*3=j by omega,hu] at h1
  exact Option.some.inj h1
 ·rw [if_neg h0]
  by_cases h4:j % 3=1
  ·rw [if_pos h4]
   rw [show j / 3*3+1=j by omega,hu] at h2
   exact Option.some.inj h2
  ·rw [if_neg h4]
   rw [show j / 3*3+2=j by omega,hu] at h3
   exact Option.some.inj h3
theorem avc {H:Type} {enc:TypeId × Value→H} {w:World} {fuel:Nat} {ao:Option Addr} {n cap:Nat} {x:DataW H × List MemPlace} (h:DataW.trod enc Tryz.prog w 0 (fun _=>true) true fuel 31 [.slice ao n cap]=some x) :
  ∃ es,Rfq w (.slice ao n cap) es∧lenFQ es+1≤Rows.uptoBulk x.1:=by
 have kR:Tryz.prog.cellsOf 47=3:=by kernel_rfl
 have kW:Tryz.prog.cellsOf 45=2:=by kernel_rfl
 have kS:Tryz.prog.cellsOf 43=1:=by kernel_rfl
 have kB:Tryz.prog.cellsOf 4=1:=by kernel_rfl
 rcases open_slice Tryz.underlying31 h with ⟨hcs,rfl⟩ | ⟨a,len,cap',m,k,D,Pl,hcs,_,hl,hm,hmm,rfl,hall⟩
 ·obtain ⟨rfl,rfl,rfl⟩:ao=none∧n=0∧cap=0:=by simpa using hcs
  exact ⟨[],⟨⟨none,0,rfl,Nat.le_refl _,by omega,rfl,.inl rfl⟩,(fun e he=>by cases he),(fun e he=>by cases he)⟩,by simp [lenFQ,Rows.uptoBulk]⟩
 obtain ⟨rfl,rfl,rfl⟩:ao=some a∧n=len∧cap=cap' := by simpa using hcs
 simp only [if_true] at hmm
 subst hmm
 have each:∀ i,i<m→∃ e:FQ,w.cell? (a.add (i*3))=some (.bool e.r.ng)∧w.cell? (a.add (i*3+1))=some (.slice e.r.a e.r.m e.r.c)∧w.cell? (a.add (i*3+2))=some (.slice e.r.d e.r.k e.r.e)∧Sl w (.slice e.r.a e.r.m e.r.c) e.zs∧Sl w (.slice e.r.d e.r.k e.r.e) e.ys∧1+e.r.m+e.r.k≤Rows.uptoBulk (D i):=by
  intro i hi
  obtain ⟨cs,h1,h2⟩:=hall i hi
  rw [kR] at h1
  obtain ⟨_,hlen,hcell⟩:=World.cells?_some h1
  match cs,hlen with
  | [c0,c1,c2],_ =>
   have e0:=hcell 0 (by omega)
   have e1:=hcell 1 (by omega)
   have e2:=hcell 2 (by omega)
   rw [add_add] at e0 e1 e2
   obtain ⟨y0,y1,n1,hx,_,t0,t1⟩:=trod_struct2 Tryz.underlying47 h2
   obtain ⟨z0,z1,n2,hx2,_,s0,s1⟩:=trod_struct2 Tryz.underlying45 t0
   have s0' : DataW.trod enc Tryz.prog w 0 (fun _=>true) true n2 4 [c0]=some z0:=by simpa [kW,kB] using s0
   have s1' : DataW.trod enc Tryz.prog w 0 (fun _=>true) true n2 43 [c1]=some z1:=by simpa [kW,kS] using s1
   have t1' : DataW.trod enc Tryz.prog w 0 (fun _=>true) true n1 43 [c2]=some y1:=by simpa [kS] using t1
   have hd:D i=.agg [.agg [z0.1,z1.1],y1.1]:=by
    have h1:=congrArg Prod.fst hx
    have h2:=congrArg Prod.fst hx2
    simp only at h1 h2
    rw [h1,h2]
   clear s0 s1 t1 t0 hx hx2
   obtain ⟨b,hb0,_⟩:=DataW.trod_bool Tryz.underlying4 s0'
   obtain rfl:c0=.bool b:=by simpa using hb0
   obtain ⟨a1,l1,q1,zs,rfl,hs1,hb1⟩:=aip s1'
   obtain ⟨a2,l2,q2,ys,rfl,hs2,hb2⟩:=aip t1'
   refine ⟨⟨⟨b,a1,l1,q1,a2,l2,q2⟩,zs,ys⟩,by simpa using e0,by simpa using e1,by simpa using e2,hs1,hs2,?_⟩
   rw [hd]
   simp only [Rows.uptoBulk,Rows.uptoBulkAll]
   omega
 obtain ⟨E,hE⟩:=choose_lt each
 refine ⟨(List.range n).map E,⟨⟨some a,m,by rw [List.length_map,List.length_range],by rw [List.length_map,List.length_range];exact hl,by simpa [maxLen] using hm,by rw [aed];simp,?_⟩,fun e he=>?_,fun e he=>?_⟩,?_⟩
 ·by_cases h0:n=0
  ·exact .inl (by rw [List.length_map,List.length_range];exact h0)
  ·obtain ⟨b,off,spot⟩:=a
   have h1:=(hE 0 (by omega)).1
   have hspot:spot=none:=by simpa [Addr.add] using World.cell?_spot h1
   subst hspot
   have hadd:∀ i,(⟨b,off,none⟩:Addr).add i=⟨b,off+i,none⟩:=fun i=>by
    by_cases hi0:i=0
    ·subst hi0;simp [Addr.add]
    ·simp [Addr.add,hi0]
   refine .inr ⟨b,off,rfl,abb (off:=off+0*3) (by rw [←hadd];exact h1),fun j u hu=>?_⟩
   obtain ⟨hj,rfl⟩:=a18 E n j u hu
   obtain ⟨c0,c1,c2,_⟩:=hE (j / 3) (by omega)
   rw [hadd] at c0 c1 c2
   by_cases hj0:j % 3=0
   ·rw [show off+j / 3*3=off+j by omega] at c0
    rw [if_pos hj0]
    exact c0
   ·rw [if_neg hj0]
    by_cases hj1:j % 3=1
    ·rw [show off+(j / 3*3+1)=off+j by omega] at c1
     rw [if_pos hj1]
     exact c1
    ·rw [show off+(j / 3*3+2)=off+j by omega] at c2
     rw [if_neg hj1]
     exact c2
 ·obtain ⟨i,hi,rfl⟩:=List.mem_map.1 he
  exact (hE i (by have:=List.mem_range.1 hi;omega)).2.2.2.1
 ·obtain ⟨i,hi,rfl⟩:=List.mem_map.1 he
  exact (hE i (by have:=List.mem_range.1 hi;omega)).2.2.2.2.1
 ·have key:∀ k,k≤n→lenFQ ((List.range k).map E)≤Rows.uptoBulkAll ((List.range k).map D):=by
   intro k hk
   induction k with
   | zero=>simp [lenFQ]
   | succ k ih =>
    have h1:=ih (by omega)
    have h2:=(hE k (by omega)).2.2.2.2.2
    rw [List.range_succ,List.map_append,List.map_append,ado,ad4]
    simp only [List.map_cons,List.map_nil,lenFQ,Rows.uptoBulkAll] at h1 h2 ⊢
    omega
  have:=key n (Nat.le_refl _)
  simp only [Rows.uptoBulk]
  omega
def RfM (w:World) (v:Value) (ess:List (List FQ)):Prop:=∃ vs:List Value,Ce w v 1 ess.length vs∧∀ (i:Nat) (u:Value) (es:List FQ),vs[i]? = some u→ess[i]? = some es→Rfq w u es
def lenFM:List (List FQ)→Nat
 | []=>0
 | es :: ess=>1+lenFQ es+lenFM ess
theorem ae5 (es fs:List (List FQ)):lenFM (es ++ fs)=lenFM es+lenFM fs:=by
 induction es with
 | nil=>simp [lenFM]
 | cons e es ih=>simp only [List.cons_append,lenFM,ih];omega
theorem ar2 {es:List (List FQ)} {k:Nat} {e:List FQ} (h:es[k]? = some e):lenFM (es.take (k+1))=lenFM (es.take k)+(1+lenFQ e):=by
 rw [List.take_add_one,h,ae5]
 simp [lenFM]
theorem alr (es:List (List FQ)) (k:Nat):lenFM (es.take k)≤lenFM es:=by
 conv=>rhs;rw [←List.take_append_drop k es]
 rw [ae5]
 omega
theorem avd {es:List (List FQ)} {e:List FQ} (h:e ∈ es):1+lenFQ e≤lenFM es:=by
 induction es with
 | nil=>cases h
 | cons x es ih =>
  rcases List.mem_cons.1 h with rfl | h
  ·simp only [lenFM];omega
  ·have:=ih h
   simp only [lenFM];omega
theorem an7 (es:List (List FQ)):es.length≤lenFM es:=by
 induction es with
 | nil=>simp [lenFM]
 | cons x es ih=>simp only [List.length_cons,lenFM];omega
theorem RfM.below {w w' : World} {v:Value} {ess:List (List FQ)} (h:RfM w v ess) (hb:Below w.heap.size w w'):RfM w' v ess:=by
 obtain ⟨vs,h1,h2⟩:=h
 exact ⟨vs,h1.below hb,fun i u z hu hz=>(h2 i u z hu hz).below hb⟩
theorem RfM.parts {w:World} {v:Value} {ess:List (List FQ)} (h:RfM w v ess):∃ ao cap,v=.slice ao ess.length cap∧ess.length≤9223372036854775807:=by
 obtain ⟨vs,⟨ao,cap,rfl,h1,h2,_⟩,_⟩:=h
 exact ⟨ao,cap,rfl,by omega⟩
theorem RfM.cell {w:World} {ao:Option Addr} {n cap:Nat} {ess:List (List FQ)} {i:Nat} {z:List FQ} (h:RfM w (.slice ao n cap) ess) (hz:ess[i]? = some z):∃ b off u,ao=some ⟨b,off,none⟩∧b<w.heap.size∧w.cell? ⟨b,off+i,none⟩ = some u∧Rfq w u z:=by
 obtain ⟨vs,⟨ao',cap',hv,h1,h2,h3,h4⟩,h5⟩:=h
 obtain ⟨rfl,rfl,rfl⟩:=(Value.slice.injEq .. ▸ hv)
 have hi:i<ess.length:=(List.getElem?_eq_some_iff.1 hz).1
 obtain ⟨u,hu⟩:∃ u,vs[i]? = some u:=⟨_,List.getElem?_eq_getElem (by omega)⟩
 rcases h4 with h4 | ⟨b,off,rfl,hl,hc⟩
 ·omega
 ·exact ⟨b,off,u,rfl,hl,hc i u hu,h5 i u z hu hz⟩
theorem Rfq.slc {w:World} {v:Value} {es:List FQ} (h:Rfq w v es):∃ ao cap,v=.slice ao es.length cap:=by
 obtain ⟨ao,cap,rfl,_⟩:=h.ce
 exact ⟨ao,cap,rfl⟩
theorem Rfq.fit {w:World} {v:Value} {es:List FQ} (h:Rfq w v es) {L:Nat} (hl:lenFQ es≤L):∀ e ∈ es,e.zs.length≤L∧e.ys.length≤L:=fun e he=>by
 have h1:=avb he
 obtain ⟨_,_,g1,_⟩:=h.s1 e he
 obtain ⟨_,_,g2,_⟩:=h.s2 e he
 have g1:=(Value.slice.injEq .. ▸ g1)
 have g2:=(Value.slice.injEq .. ▸ g2)
 omega
def zsF (ess:List (List FQ)):List (List Rat):=ess.map (List.map FQ.w)
theorem RfM.isQM {w:World} {v:Value} {ess:List (List FQ)} (h:RfM w v ess) {L:Nat} (hl:lenFM ess≤L):IsQM w v (zsF ess) L:=by
 obtain ⟨vs,h1,h2⟩:=h
 refine ⟨vs,by simpa [zsF] using h1,fun i u z hu hz=>?_⟩
 unfold zsF at hz
 rw [List.getElem?_map] at hz
 obtain ⟨es,he,rfl⟩:=Option.map_eq_some_iff.1 hz
 have hR:=h2 i u es hu he
 exact hR.isq (hR.fit (by have:=avd (List.mem_of_getElem? he);omega))
set_option maxRecDepth 20000 in
set_option maxHeartbeats 4000000 in
theorem a0l (w:World) (ax:Option Addr) (mx cx:Nat) (xs:List (List FQ)) (R:RfM w (.slice ax mx cx) xs) (hl:lenFM xs≤35184372088832) :
  Calls Tryz.prog 33 #[.slice ax mx cx] w fun e w'=>e=.returned (.int .i64 (lenFM xs:Int))∧Below w.heap.size w w' := by
 have hll:=an7 xs
 have HX:=hide R
 have HNx:Hid (mx=xs.length):=(show mx=xs.length by
  obtain ⟨_,_,hv,_⟩:=R.parts
  exact (Value.slice.injEq .. ▸ hv).2.1)
 have HL:Hid (lenFM xs≤35184372088832∧mx≤lenFM xs):=(show _∧_ from ⟨hl,by rw [HNx.out];exact hll⟩)
 have hm:mx≤35184372088832:=by have:=HL.out;omega
 clear R hl hll
 go_enter Tryz.func33,Tryz.ntmps33
 go_wp2_with fail
 go_loopw [3,4] (fun sv iv wr=>∃ k:Nat,iv=.int .i64 k∧k≤mx∧sv=.int .i64 (lenFM (xs.take k):Int)∧Below w.heap.size w wr) (fun _ iv _=>mx - (intOf iv).toNat)
 case atStart=>exact ⟨0,rfl,Nat.zero_le _,rfl,Below.refl _ _⟩
 case round =>
  obtain ⟨k,rfl,hk,rfl,hbw⟩:=hrel
  by_cases hlt:k<mx
  ·have hlt' : (k:Int)<(mx:Int):=by omega
   obtain ⟨ex,hex⟩:∃ e,xs[k]? = some e:=⟨_,List.getElem?_eq_getElem (by have:=HNx.out;omega)⟩
   obtain ⟨bx,ox,u,hAx,hlx0,x0,hR⟩:=(HX.out.below hbw).cell hex
   subst hAx
   have hs:=ar2 hex
   have hle:=alr xs (k+1)
   have hm2:=HL.out
   have HW:=hide hbw
   obtain ⟨ua,uc,rfl⟩:=hR.slc
   have K1:=hide (a0k wr ua _ uc ex hR (by omega))
   obtain ⟨s,hsv⟩:∃ s,lenFM (xs.take k)=s:=⟨_,rfl⟩
   rw [hsv] at hs ⊢
   obtain ⟨s0,hsv0⟩:∃ s,lenFQ ex=s:=⟨_,rfl⟩
   rw [hsv0] at hs K1
   have hadd1:IntKind.i64.wrap ((s:Int)+1)=(s:Int)+1:=by rw [IntKind.wrap_i64];omega
   have hadd:IntKind.i64.wrap ((s:Int)+1+(s0:Int))=(s:Int)+1+(s0:Int):=by rw [IntKind.wrap_i64];omega
   have HSV:=hide hs
   have HKM:Hid (k+1≤mx):=(show k+1≤mx by omega)
   clear hbw hs hle hsv hm2 hex hR hsv0
   generalize ex.length=q at *
   go_wp2_with fail
   refine K1.out.mono ?_
   rintro e w2 ⟨rfl,hb2⟩
   have HB2:=hide (HW.out.trans (hb2.mono HW.out.size))
   clear hb2 x0 hlx0
   go_wp2
   go_roundw
   case rel=>exact ⟨k+1,by go_num,HKM.out,by rw [HSV.out];congr 1;omega,HB2.out⟩
   case measure=>simp [intOf];omega
  ·have hlt' : decide ((k:Int)<(mx:Int))=false:=by simp;omega
   have hkn:k=mx:=by omega
   subst hkn
   have HW:=hide hbw
   clear hbw
   go_wp2
   refine bodyPost_ret (v:=_) (ad3 rfl rfl) rfl ⟨by rw [List.take_of_length_le (by have:=HNx.out;omega)];rfl,HW.out⟩
theorem a0m {H:Type} {enc:TypeId × Value→H} {w:World} {fuel:Nat} {ao:Option Addr} {n cap:Nat} {x:DataW H × List MemPlace} (h:DataW.trod enc Tryz.prog w 0 (fun _=>true) true fuel 22 [.slice ao n cap]=some x) :
  ∃ ess,RfM w (.slice ao n cap) ess∧lenFM ess+1≤Rows.uptoBulk x.1:=by
 rcases open_slice1 Tryz.underlying22 (by kernel_rfl) h with ⟨hcs,rfl⟩ | ⟨a,len,cap',m,k,V,D,Pl,hcs,_,hl,hm,hmm,rfl,hall⟩
 ·obtain ⟨rfl,rfl,rfl⟩:ao=none∧n=0∧cap=0:=by simpa using hcs
  exact ⟨[],⟨[],⟨none,0,rfl,Nat.le_refl _,by omega,rfl,.inl rfl⟩,fun i u es hu=>by simp at hu⟩,by simp [lenFM,Rows.uptoBulk]⟩
 obtain ⟨rfl,rfl,rfl⟩:ao=some a∧n=len∧cap=cap' := by simpa using hcs
 simp only [if_true] at hmm
 subst hmm
 have each:∀ i,i<m→∃ es:List FQ,Rfq w (V i) es∧lenFQ es+1≤Rows.uptoBulk (D i):=by
  intro i hi
  have t:=(hall i hi).2
  have hv:∃ b l c,V i=.slice b l c:=by
   rcases open_slice Tryz.underlying31 t with ⟨hcs,_⟩ | ⟨a,len,cap',_,_,_,_,hcs,_⟩
   ·exact ⟨none,0,0,by simpa using hcs⟩
   ·exact ⟨some a,len,cap',by simpa using hcs⟩
  obtain ⟨b,l,c,hv⟩:=hv
  rw [hv] at t ⊢
  exact avc (x:=(D i,Pl i)) t
 obtain ⟨E,hE⟩:=choose_lt each
 have hlen:((List.range n).map E).length=n:=by simp
 refine ⟨(List.range n).map E,⟨(List.range n).map V,⟨some a,m,by rw [hlen],by rw [hlen];exact hl,by simpa [maxLen] using hm,by simp,?_⟩,fun i u es hu he=>?_⟩,?_⟩
 ·by_cases h0:n=0
  ·exact .inl (by rw [hlen];exact h0)
  ·obtain ⟨b,off,spot⟩:=a
   have h1:=(hall 0 (by omega)).1
   have hspot:spot=none:=by simpa [Addr.add] using World.cell?_spot h1
   subst hspot
   rw [agk] at h1
   refine .inr ⟨b,off,rfl,abb h1,fun j u hu=>?_⟩
   have hj:j<n:=by have:=(List.getElem?_eq_some_iff.1 hu).1;simpa using this
   have h2:=(hall j (by omega)).1
   rw [agk] at h2
   rw [h2]
   simpa [hj] using hu
 ·have hi:i<n:=by have:=(List.getElem?_eq_some_iff.1 hu).1;simpa using this
  obtain rfl:V i=u:=by simpa [hi] using hu
  obtain rfl:E i=es:=by simpa [hi] using he
  exact (hE i (by omega)).1
 ·have key:∀ k,k≤n→lenFM ((List.range k).map E)≤Rows.uptoBulkAll ((List.range k).map D):=by
   intro k hk
   induction k with
   | zero=>simp [lenFM]
   | succ k ih =>
    have h1:=ih (by omega)
    have h2:=(hE k (by omega)).2
    rw [List.range_succ,List.map_append,List.map_append,ae5,ad4]
    simp only [List.map_cons,List.map_nil,lenFM,Rows.uptoBulkAll] at h1 h2 ⊢
    omega
  have:=key n (Nat.le_refl _)
  simp only [Rows.uptoBulk]
  omega
end Lm
end Go.Proofs.YtpbllidpalgkkaaGreat
namespace Go.Proofs.YtpbllidpalgkkaaGreat
namespace Lm
open Go Go.RowKit
theorem ave (es fs:List FE):f3 (es ++ fs)=f3 es ++ f3 fs:=by
 induction es with
 | nil=>rfl
 | cons e es ih=>simp [f3,ih]
structure RfO (B:Nat) (w:World) (v:Value) (es:List FQ):Prop where
 own:w.ownsRow B 47 3 v es.length (f3 (es.map FQ.r))
 o1:∀ e ∈ es,Ow B w (.slice e.r.a e.r.m e.r.c) e.zs
 o2:∀ e ∈ es,Ow B w (.slice e.r.d e.r.k e.r.e) e.ys
theorem RfO.below {B:Nat} {w w' : World} {v:Value} {es:List FQ} (h:RfO B w v es) (hb:Below w.heap.size w w'):RfO B w' v es :=
 ⟨h.own.kept (row:=none) ⟨hb.os,hb.tape,hb.output,hb.size,fun k hk _=>hb.block k hk⟩ (by cases hv:v.ownBlock <;> simp),fun e he=>(h.o1 e he).below hb,fun e he=>(h.o2 e he).below hb⟩
theorem RfO.rfq {B:Nat} {w:World} {v:Value} {es:List FQ} (h:RfO B w v es):Rfq w v es:=⟨Ce.own h.own,fun e he=>(h.o1 e he).sl,fun e he=>(h.o2 e he).sl⟩
theorem a0n (B:Nat) (w:World):RfO B w (.slice none 0 0) []:=⟨World.ownsRow_nil w B _ 3,fun e he=>(by cases he),fun e he=>(by cases he)⟩
theorem Ow.grownf {B:Nat} {w w' : World} {v:Value} {zs:List Int} {row:Option Nat} {cur:Nat→Array Value} (h:Ow B w v zs) (hg:w.grownBy w' row) (hr:∀ k,row=some k→w.heap[k]? = some (.cells (cur k) 47 (0,0))):Ow B w' v zs:=by
 obtain ⟨ao,cap,rfl,h1,h2,h3,h4⟩:=h
 refine ⟨ao,cap,rfl,h1,h2,h3,?_⟩
 rcases h4 with h4 | ⟨g,off,c,rfl,hB,hh,h5,h6⟩
 ·exact .inl h4
 ·refine .inr ⟨g,off,c,rfl,hB,(hg.block g (aaa hh) (fun e=>?_)).trans hh,h5,h6⟩
  have:=hr g e.symm
  rw [hh] at this
  injection this with this
  injection this with _ this
  exact absurd this (by decide)
theorem a0o {dst:Option Tmp} {ty:TypeId} {pos:String} {after:Array Edge} {guard:Option (Nat × Bool)} {a:Act} {w:World} {i j:Nat} {B g:Nat} {v:Value} {es:List FQ} {x:FE} {zs ys:List Int} (h1:a.eval (.tmp i)=v) (h2:a.eval (.tmp j)=.slice (some ⟨g,0,none⟩) 1 1) (R:RfO B w v es) (O:w.heap[g]? = some (.cells #[.bool x.ng,.slice x.a x.m x.c,.slice x.d x.k x.e] 47 (0,0))) (S1:Ow B w (.slice x.a x.m x.c) zs) (S2:Ow B w (.slice x.d x.k x.e) ys) (hn:es.length≤1000000000) (hB:B≤w.heap.size) :
  Does Tryz.prog { dst,op:=.call { callee:=.builtin .append,args:=#[.tmp i,.tmp j],argTypes:=#[31,31] },type:=ty,pos,after,guard } a.eval w fun v' w'=>RfO B w' v' (es ++ [⟨x,zs,ys⟩])∧Below B w w' := by
 obtain ⟨i0,hi,hz0,hz1,hz2⟩:=info_parts infoRz
 have hfl:f3 ((es ++ ([⟨x,zs,ys⟩]:List FQ)).map FQ.r)=f3 (es.map FQ.r) ++ [.bool x.ng,.slice x.a x.m x.c,.slice x.d x.k x.e]:=by rw [List.map_append,ave];rfl
 obtain ⟨v',w',hr,ho,hgr,_⟩:=run_append_own (P:=Tryz.prog) w B 31 ty 47 i0 _ 3 56 Tryz.underlying31 hi hz0 hz1 hz2 rfl (by decide) v es.length (f3 (es.map FQ.r)) R.own ⟨g,0,none⟩ 1 1 [.bool x.ng,.slice x.a x.m x.c,.slice x.d x.k x.e] rfl (fun k u hu=>by
  have hc:∀ k,w.cell? ⟨g,k,none⟩ = #[Value.bool x.ng,.slice x.a x.m x.c,.slice x.d x.k x.e][k]? := fun k=>cell_of_row w g k _ _ (0,0) O
  have ha:(⟨g,0,none⟩:Addr).add k=⟨g,k,none⟩:=by unfold Addr.add;split <;> simp_all
  rw [ha,hc]
  simpa using hu) (by simp [Value.oneCell']) (by simp [maxLen];omega) (by omega) hB
 have e:(execOp a.eval { dst,op:=.call { callee:=.builtin .append,args:=#[.tmp i,.tmp j],argTypes:=#[31,31] },type:=ty,pos,after,guard }).run Tryz.prog w=.ok (.value v') w' := by
  simp only [execOp,resolve,invoke,builtin,Sem.run_bind,Sem.run_pure,Result.andThen_ok,List.map_toArray,List.map_cons,List.map_nil,h1,h2,hr]
 refine ⟨?_⟩
 unfold Turns
 rw [e]
 have hrow:∃ cur:Nat→Array Value,∀ k,v.ownBlock=some k→w.heap[k]? = some (.cells (cur k) 47 (0,0)):=by
  rcases R.own.2 with ⟨rfl,_⟩ | ⟨g',cap,cur,rfl,_,hh,_⟩
  ·exact ⟨fun _=>#[],fun k hk=>by simp [Value.ownBlock] at hk⟩
  ·refine ⟨fun _=>cur,fun k hk=>?_⟩
   simp only [Value.ownBlock,Option.some.injEq] at hk
   subst hk
   exact hh
 obtain ⟨cur,hcur⟩:=hrow
 refine ⟨⟨by rw [hfl,List.length_append];exact ho,fun e he=>?_,fun e he=>?_⟩,⟨hgr.os,hgr.tape,hgr.output,hgr.size,fun k hk=>hgr.block k (by omega) (fun e=>?_)⟩⟩
 ·rcases List.mem_append.1 he with he | he
  ·exact (R.o1 e he).grownf hgr hcur
  ·obtain rfl:=List.mem_singleton.1 he
   exact S1.grownf hgr hcur
 ·rcases List.mem_append.1 he with he | he
  ·exact (R.o2 e he).grownf hgr hcur
  ·obtain rfl:=List.mem_singleton.1 he
   exact S2.grownf hgr hcur
 ·have:=R.own.lt k e.symm
  omega
theorem a19 (w:World) {K:Nat} (hK:K≤w.heap.size):Ow K (w.alloc (.cells #[.int .u32 1] 86)) (.slice (some ⟨w.heap.size,0,none⟩) 1 1) [1]:=by
 refine ⟨_,1,rfl,Nat.le_refl _,by decide,?_,.inr ⟨w.heap.size,0,_,rfl,hK,heap_alloc_new w _,by decide,?_⟩⟩
 ·refine aan.2 ⟨by omega,aak⟩
 ·intro k hk
  match k with
  | 0=>rfl
  | k+1=>simp at hk
set_option maxRecDepth 20000 in
set_option maxHeartbeats 8000000 in
theorem ar3 (w:World) (v:Value) (zs:List Int) (h:Nums w v zs) (hz:∀ z ∈ zs,-9223372036854775808≤z∧z≤9223372036854775807) (hl:zs.length≤1000) :
  Calls Tryz.prog 38 #[v] w fun e w'=>∃ r es,e=.returned r∧Rfq w' r es∧es.map FQ.w=zs.map (fun z:Int=>(z:Rat))∧lenFQ es≤4*zs.length∧Below w.heap.size w w' := by
 obtain ⟨ao,cap,rfl,_⟩:=id h
 have H:=hide h
 have HZ:=hide hz
 clear h hz
 obtain ⟨n,hn⟩:∃ n,zs.length=n:=⟨_,rfl⟩
 rw [hn] at H hl ⊢
 have HN:=hide hn
 clear hn
 go_enter Tryz.func38,Tryz.ntmps38
 go_wp2_with fail
 go_loopw [3,4] (fun ov iv wr=>∃ (k:Nat) (es:List FQ),iv=.int .i64 k∧k≤n∧Below w.heap.size w wr∧es.length=k∧RfO w.heap.size wr ov es∧es.map FQ.w=(zs.take k).map (fun z:Int=>(z:Rat))∧lenFQ es≤4*k) (fun _ iv _=>n - (intOf iv).toNat)
 case atStart=>exact ⟨0,[],rfl,Nat.zero_le _,Below.refl _ _,rfl,a0n _ _,rfl,Nat.le_refl _⟩
 case round =>
  obtain ⟨k,es,rfl,hk,hbw,hes,hown,hall,hlq⟩:=hrel
  have HW:=hide hbw
  have HES:=hide hes
  have HOWN:=hide hown
  have HALL:=hide hall
  have HLQ:=hide hlq
  by_cases hlt:k<n
  ·obtain ⟨b,off,rfl,hc⟩:=(show Nums wr (.slice ao n cap) zs from Ce.below H.out hbw).cell (i:=k) (by have:=HN.out;omega)
   have hget:zs[k]? = some (zs[k]'(by have:=HN.out;omega)):=List.getElem?_eq_getElem _
   generalize zs[k]'(by have:=HN.out;omega)=z at hc hget
   have HG:=hide hget
   have hzb:=HZ.out z (List.mem_of_getElem? hget)
   have hlt' : (k:Int)<(n:Int):=by omega
   obtain ⟨aov,capv,hov,_⟩:=Ce.own hown.own
   subst hov
   have K1:=hide (am0 wr z hzb.1 hzb.2)
   clear hbw hes hown hall hget hlq
   go_wp2_with fail
   refine K1.out.mono ?_
   rintro e w2 ⟨r2,rfl,hf2,hb2⟩
   obtain ⟨ng2,ao2,cap2,rs2,B2,T2,rfl,hwf,hB2,hT2,hl2⟩:=hf2
   have hA1:=hAl w2 (.cells #[.int .u32 1] 86)
   have hO1:=a19 w2 (K:=w.heap.size) (Nat.le_trans HW.out.size hb2.size)
   generalize hw3:w2.alloc (.cells #[.int .u32 1] 86)=w3 at *
   have hA2:=hAl w3 (.cells #[.bool ng2,.slice ao2 rs2.length cap2,.slice (some ⟨w2.heap.size,0,none⟩) 1 1] 47)
   have hO2:=heap_alloc_new w3 (.cells #[.bool ng2,.slice ao2 rs2.length cap2,.slice (some ⟨w2.heap.size,0,none⟩) 1 1] 47)
   have hA12:=hA1.trans (hA2.mono hA1.size)
   have hb2' := hb2.trans (hA12.mono hb2.size)
   have hR2:=HOWN.out.below hb2'
   have hS1:Ow w.heap.size _ (.slice ao2 rs2.length cap2) rs2:=(hwf.fr.ow.mono (Nat.le_trans HW.out.size hB2)).below hA12
   have hS2:=hO1.below hA2
   have hsz:w.heap.size≤(w3.alloc (.cells #[.bool ng2,.slice ao2 rs2.length cap2,.slice (some ⟨w2.heap.size,0,none⟩) 1 1] 47)).heap.size:=Nat.le_trans HW.out.size hb2'.size
   have HW3:=hide hw3
   go_wp2_with (at_builtin;refine ab4 rfl (a0o (i:=11) (j:=19) (x:=⟨ng2,ao2,rs2.length,cap2,some ⟨w2.heap.size,0,none⟩,1,1⟩) (zs:=rs2) (ys:=[1]) rfl rfl hR2 hO2 hS1 hS2 (by rw [HES.out];omega) hsz) ?_)
   intro v3 w4 hR3 hb3
   obtain ⟨aov3,capv3,hov3,_⟩:=Ce.own hR3.own
   subst hov3
   have HR3:=hide hR3
   have HB3:=hide ((HW.out.trans (hb2'.mono HW.out.size)).trans hb3)
   have HWF:=hide hwf
   clear hR3 hb3 hR2 hO2 hS1 hS2 hsz hA1 hA2 hA12 hb2 hb2' hwf hB2 hT2
   go_wp2
   go_roundw
   case rel =>
    refine ⟨k+1,es ++ [⟨⟨ng2,ao2,rs2.length,cap2,some ⟨w2.heap.size,0,none⟩,1,1⟩,rs2,[1]⟩],by go_num,by omega,HB3.out,by simp [HES.out],HR3.out,?_,?_⟩
    ·rw [List.map_append,HALL.out,List.take_add_one,HG.out,List.map_append]
     congr 1
     have h1:=HWF.out.wh.ag.worth
     show [Rat.divInt (sg ng2 (val rs2)) (val [1])] = [(z:Rat)]
     rw [h1]
     congr 1
     rw [show val [1]=1 by decide]
     exact (Rat.divInt_ofNat _ 1).trans (Rat.mkRat_one _)
    ·rw [ado]
     have:=HLQ.out
     simp only [lenFQ]
     omega
   case measure=>simp [intOf];omega
  ·have hlt' : decide ((k:Int)<(n:Int))=false:=by simp;omega
   have hkn:k=n:=by omega
   subst hkn
   clear hbw hes hown hall hlq
   obtain ⟨aov3,capv3,hov3,_⟩:=Ce.own HOWN.out.own
   subst hov3
   go_wp2
   refine bodyPost_ret (v:=_) (ad3 rfl rfl) rfl ⟨_,es,rfl,HOWN.out.rfq,by rw [HALL.out,List.take_of_length_le (by rw [HN.out];exact Nat.le_refl _)],HLQ.out,HW.out⟩
end Lm
end Go.Proofs.YtpbllidpalgkkaaGreat
namespace Go.Proofs.YtpbllidpalgkkaaGreat
namespace Lm
open Go Go.RowKit Md
theorem an8 {w:World} {u:Value} {z:List Int} {L:Nat} (T:TypeId) (h:CanRow w u z L):CanM (w.alloc (.cells #[u] T)) (.slice (some ⟨w.heap.size,0,none⟩) 1 1) [z] L:=by
 have hb:=hAl w (.cells #[u] T)
 have hn:=heap_alloc_new w (.cells #[u] T)
 refine ⟨[u],⟨_,_,rfl,Nat.le_refl _,by omega,rfl,.inr ⟨w.heap.size,0,rfl,aaa hn,fun j x hx=>?_⟩⟩,fun i x y hx hy=>?_⟩
 ·rw [Nat.zero_add,cell_of_row _ _ _ _ _ (0,0) hn]
  simpa using hx
 ·match i with
  | 0=>simp at hx hy;subst hx hy;exact h.below hb
  | i+1=>simp at hx
theorem ax6 (w:World) (a b:Int) (e:TypeId):Nums (w.alloc (.cells #[.int .i64 a,.int .i64 b] e)) (.slice (some ⟨w.heap.size,0,none⟩) 2 2) [a,b]:=by
 have hn:=heap_alloc_new w (.cells #[.int .i64 a,.int .i64 b] e)
 refine ⟨_,_,rfl,Nat.le_refl _,by simp,rfl,.inr ⟨w.heap.size,0,rfl,aaa hn,fun j x hx=>?_⟩⟩
 rw [Nat.zero_add,cell_of_row _ _ _ _ _ (0,0) hn]
 simpa using hx
theorem row2 (w:World) (a b:Int) (h:∀ z ∈ [a,b],-9223372036854775808≤z∧z≤9223372036854775807):Calls Tryz.prog 40 #[.slice (some ⟨w.heap.size,0,none⟩) 2 2] (w.alloc (.cells #[.int .i64 a,.int .i64 b] 3)) fun e w'=>∃ ra rc,e=.returned (.slice ra 2 rc)∧CanRow w' (.slice ra 2 rc) [a,b] 2∧Below w.heap.size w w' := by
 have hb:=hAl w (.cells #[.int .i64 a,.int .i64 b] 3)
 refine (ap0 _ _ [a,b] (ax6 w a b 3) h (by simp)).mono ?_
 rintro e w' ⟨r,rfl,hc,hb'⟩
 obtain ⟨ra,rc,rfl⟩:=hc.slc
 exact ⟨ra,rc,rfl,hc,hb.trans (hb'.mono hb.size)⟩
theorem an9 (w:World) (a b:Int) (h:∀ z ∈ [a,b],-9223372036854775808≤z∧z≤9223372036854775807):Calls Tryz.prog 38 #[.slice (some ⟨w.heap.size,0,none⟩) 2 2] (w.alloc (.cells #[.int .i64 a,.int .i64 b] 3)) fun e w'=>∃ ra rc,e=.returned (.slice ra 2 rc)∧IsQs w' (.slice ra 2 rc) [(a:Rat),(b:Rat)] 8∧Below w.heap.size w w' := by
 have hb:=hAl w (.cells #[.int .i64 a,.int .i64 b] 3)
 refine (ar3 _ _ [a,b] (ax6 w a b 3) h (by simp)).mono ?_
 rintro e w' ⟨r,es,rfl,hR,hm,hl,hb'⟩
 have hQ:=hR.isq (hR.fit (L:=8) (by simpa using hl))
 rw [hm] at hQ
 obtain ⟨ra,rc,rfl,_⟩:=hQ.parts
 exact ⟨ra,rc,rfl,hQ,hb.trans (hb'.mono hb.size)⟩
theorem ar4 {w:World} {u1 u2 u3:Value} {p1 p2 p3:List Rat} {L:Nat} (T:TypeId) (h1:IsQs w u1 p1 L) (h2:IsQs w u2 p2 L) (h3:IsQs w u3 p3 L):IsQM (w.alloc (.cells #[u1,u2,u3] T)) (.slice (some ⟨w.heap.size,0,none⟩) 3 3) [p1,p2,p3] L:=by
 have hb:=hAl w (.cells #[u1,u2,u3] T)
 have hn:=heap_alloc_new w (.cells #[u1,u2,u3] T)
 refine ⟨[u1,u2,u3],⟨_,_,rfl,Nat.le_refl _,by omega,rfl,.inr ⟨w.heap.size,0,rfl,aaa hn,fun j x hx=>?_⟩⟩,fun i x y hx hy=>?_⟩
 ·rw [Nat.zero_add,cell_of_row _ _ _ _ _ (0,0) hn]
  simpa using hx
 ·match i with
  | 0=>simp at hx hy;subst hx hy;exact h1.below hb
  | 1=>simp at hx hy;subst hx hy;exact h2.below hb
  | 2=>simp at hx hy;subst hx hy;exact h3.below hb
  | i+3=>simp at hx
structure Spn (w:World) (g n:Nat) (E Lf:List (List Int)):Prop where
 at_:∃ se sl,SpanEL w g n se sl∧IsM w se E 32∧IsM w sl Lf 600
theorem Spn.below {w w' : World} {g n:Nat} {E Lf:List (List Int)} (h:Spn w g n E Lf) (hb:Below w.heap.size w w'):Spn w' g n E Lf:=by
 obtain ⟨se,sl,h1,h2,h3⟩:=h.at_
 exact ⟨se,sl,h1.below hb,h2.below hb,h3.below hb⟩
set_option maxRecDepth 20000 in
set_option maxHeartbeats 8000000 in
theorem a2a (w:World):Calls Tryz.prog 8 #[] w fun r w'=>r=.returned (.bool true)∧Below w.heap.size w w' := by
 have K1:=hide (an9 w 0 0 (by decide))
 go_enter Tryz.func8,Tryz.ntmps8
 go_wp2_with fail
 refine K1.out.mono ?_
 rintro e w1 ⟨ra,rc,rfl,h1,hb1⟩
 have H1:=hide h1
 have HB1:=hide hb1
 have K2:=hide (an9 w1 1 2 (by decide))
 clear h1 hb1 K1
 go_wp2_with fail
 refine K2.out.mono ?_
 rintro e w2 ⟨sa,sc,rfl,h2,hb2⟩
 have H1:=hide (H1.out.below hb2)
 have H2:=hide h2
 have HB2:=hide (HB1.out.trans (hb2.mono HB1.out.size))
 have K3:=hide (an9 w2 2 4 (by decide))
 clear h2 hb2 K2
 go_wp2_with fail
 refine K3.out.mono ?_
 rintro e w3 ⟨ta,tc,rfl,h3,hb3⟩
 have hM:=ar4 31 (H1.out.below hb3) (H2.out.below hb3) h3
 have hba:=hAl w3 (.cells #[.slice ra 2 rc,.slice sa 2 sc,.slice ta 2 tc] 31)
 have HB3:=hide ((HB2.out.trans (hb3.mono HB2.out.size)).trans (hba.mono (Nat.le_trans HB2.out.size hb3.size)))
 have eP : [[((0:Int):Rat),((0:Int):Rat)],[((1:Int):Rat),((2:Int):Rat)],[((2:Int):Rat),((4:Int):Rat)]]=awP:=rfl
 rw [eP] at hM
 have K4:=hide (ain _ _ awP 8 2 hM (by omega) (by omega) (by omega))
 clear h3 hb3 hba hM K3 H1 H2 eP
 go_wp2_with fail
 refine K4.out.mono ?_
 rintro e w4 ⟨ho,hb4⟩
 have HB4:=hide (HB3.out.trans (hb4.mono HB3.out.size))
 rcases ho with ⟨hs,_⟩ | ⟨_,ho⟩
 ·exact absurd hs (by decide)
 rcases ho with ⟨hbg,_⟩ | ⟨g,made,twin,low,eqs,rfl,hat,hli,heq,hlo,htw⟩
 ·exact (a17 hbg).elim
 obtain ⟨sl,rfl,hsl⟩:=hli
 obtain ⟨se,rfl,hse⟩:=heq
 obtain ⟨rfl,hst,hll⟩:=a0i hlo htw
 have hrow:∀ l ∈ low,l.length=2+1:=((ahq an1 hlo htw).1.row).2
 have HAT:=hide (SpanEL.below (w' := w4) (.inl hat) (Below.refl _ _))
 have HSL:=hide hsl
 have HSE:=hide hse
 have HST:=hide hst
 have HLL:=hide hll
 have HROW:=hide hrow
 obtain ⟨al,cl,hal,_⟩:=hsl.parts
 rw [hll] at hal
 have K5:=an5 w4 g 2 2 se sl al cl (.inl hat) hal (by omega)
 have e1:((2:Nat):Int) - 1=1:=rfl
 rw [e1] at K5
 have K5:=hide K5
 clear hat hsl hse hst hll hrow hlo htw hb4 K4 hal e1
 go_wp2_with fail
 refine K5.out.mono ?_
 rintro e w5 ⟨rfl,hb5⟩
 have HB5:=hide (HB4.out.trans (hb5.mono HB4.out.size))
 have K6:=hide (alp w5 g 2 se sl [[2,-1,0]] 32 (HAT.out.below hb5) (HSE.out.below hb5) (by decide) (by omega) (by decide) (by omega))
 have HAT5:=hide (HAT.out.below hb5)
 have HSL5:=hide (HSL.out.below hb5)
 clear hb5 K5
 go_wp2_with fail
 refine K6.out.mono ?_
 rintro e w6 ⟨v6,rfl,hc6,hb6⟩
 obtain ⟨a6,c6,rfl,_⟩:=hc6.parts
 have HB6:=hide (HB5.out.trans (hb6.mono HB5.out.size))
 have HC6:=hide hc6
 have HAT6:=hide (HAT5.out.below hb6)
 have HSL6:=hide (HSL5.out.below hb6)
 have K7:=hide (row3 w6 2 (-1) 0 (by decide))
 clear hb6 hc6 K6
 go_wp2_with fail
 refine K7.out.mono ?_
 rintro e w7 ⟨pa,pc,rfl,h7,hb7⟩
 have hba:=hAl w7 (.cells #[.slice pa 3 pc] 39)
 have hM:=an8 39 h7
 have hb67:=hb7.trans (hba.mono hb7.size)
 have K8:=hide (ahg _ _ _ [[2,-1,0]] _ _ (HC6.out.below hb67) hM)
 have HB7:=hide (HB6.out.trans (hb67.mono HB6.out.size))
 have HAT7:=hide (HAT6.out.below hb67)
 have HSL7:=hide (HSL6.out.below hb67)
 clear h7 hb7 hba hM hb67 K7
 go_wp2_with fail
 refine K8.out.mono ?_
 rintro e w8 ⟨rfl,hb8⟩
 have HB8:=hide (HB7.out.trans (hb8.mono HB7.out.size))
 have K9:=ar0 w8 g 2 se sl low 600 (HAT7.out.below hb8) (HSL7.out.below hb8) HROW.out (by omega) (by rw [HLL.out];omega) (by omega)
 rw [HST.out] at K9
 have K9:=hide K9
 clear hb8 K8
 go_wp2_with fail
 refine K9.out.mono ?_
 rintro e w9 ⟨v9,rfl,hc9,hb9⟩
 obtain ⟨a9,c9,rfl,_⟩:=hc9.parts
 have HB9:=hide (HB8.out.trans (hb9.mono HB8.out.size))
 have HC9:=hide hc9
 have K10:=hide (row2 w9 1 2 (by decide))
 clear hb9 hc9 K9
 go_wp2_with fail
 refine K10.out.mono ?_
 rintro e w10 ⟨qa,qc,rfl,h10,hb10⟩
 have hba:=hAl w10 (.cells #[.slice qa 2 qc] 39)
 have hM:=an8 39 h10
 have hb910:=hb10.trans (hba.mono hb10.size)
 have K11:=hide (ahg _ _ _ [[1,2]] _ _ (HC9.out.below hb910) hM)
 have HB10:=hide (HB9.out.trans (hb910.mono HB9.out.size))
 clear h10 hb10 hba hM hb910 K10
 go_wp2_with fail
 refine K11.out.mono ?_
 rintro e w11 ⟨rfl,hb11⟩
 have HB11:=hide (HB10.out.trans (hb11.mono HB10.out.size))
 clear hb11 K11
 go_wp2
 refine bodyPost_ret (v:=_) (by simp [results,Tryz.results8,go_sem];try rfl) rfl ⟨rfl,HB11.out⟩
end Lm
end Go.Proofs.YtpbllidpalgkkaaGreat
namespace Go.Proofs.YtpbllidpalgkkaaGreat
namespace Lm
open Go Go.RowKit Md
def sQ (row:List Int) (n:Nat) (ps:List Rat):Nat→Rat
 | 0=>((-(fnR row n):Int):Rat)
 | k+1=>sQ row n ps k+((fnR row k:Int):Rat)*ps.getD k 0
theorem axs {z:Int} {L:Nat} (h:(z.natAbs:Int)<pw L):Fit2 (z:Rat) L 1:=by
 refine ⟨h,?_⟩
 show ((1:Nat):Int)<pw 1
 decide
theorem Fit.two {r:Rat} {L:Nat} (h:Fit r L):Fit2 r L L:=h
theorem avf {row:List Int} {n L:Nat} {ps:List Rat} (hr:∀ z ∈ row,(z.natAbs:Int)<pw L) (hp:∀ r ∈ ps,Fit r L) (hl:ps.length=n):∀ k,k≤n→Fit2 (sQ row n ps k) ((L+1)*(k+1)) (1+k*L)
 | 0,_=>by
  have h0:((fnR row n).natAbs:Int)<pw L:=acl hr (by have:=aag L;omega) n
  have h1:((-(fnR row n)).natAbs:Int)<pw L:=by rw [Int.natAbs_neg];exact h0
  refine (axs h1).mono ?_ (by omega)
  rw [Nat.zero_add,Nat.mul_one]
  omega
 | k+1,hk=>by
  have ih:=avf hr hp hl k (by omega)
  have h0:((fnR row k).natAbs:Int)<pw L:=acl hr (by have:=aag L;omega) k
  have h2:Fit (ps.getD k 0) L:=by
   rw [List.getD_eq_getElem?_getD,List.getElem?_eq_getElem (by omega)]
   exact hp _ (List.getElem_mem _)
  have e1:(L+1)*(k+1+1)=(L+1)*(k+1)+(L+1):=by rw [Nat.mul_add (L+1) (k+1) 1,Nat.mul_one]
  have e2:(k+1)*L=k*L+L:=by rw [Nat.add_mul,Nat.one_mul]
  have e3:(L+1)*(k+1)=k*L+k+L+1:=by rw [Nat.add_mul,Nat.mul_add,Nat.mul_comm L k];omega
  have h3:=aw8 ih (anl h0 h2.two) (by rw [e3];omega)
  exact h3.mono (by rw [e1];omega) (by rw [e2];omega)
theorem avg {row:List Int} {n:Nat} {ps:List Rat} (hl:ps.length=n):∀ k,k≤n→((wOf 1 ps:Int):Rat)*sQ row n ps k=((dotN k (fnR row) (fnR (liftZ ps)) - wOf 1 ps*fnR row n:Int):Rat)
 | 0,_=>by
  show ((wOf 1 ps:Int):Rat)*((-(fnR row n):Int):Rat) = _
  have h:dotN 0 (fnR row) (fnR (liftZ ps))=0:=rfl
  rw [h]
  push_cast
  grind
 | k+1,hk=>by
  have ih:=avg hl k (by omega) (row:=row)
  have hg:ps[k]? = some (ps.getD k 0):=by rw [List.getD_eq_getElem?_getD,List.getElem?_eq_getElem (by omega)];rfl
  have h1:=agl ps hg
  show ((wOf 1 ps:Int):Rat)*(sQ row n ps k+((fnR row k:Int):Rat)*ps.getD k 0) = _
  rw [abp]
  generalize ps.getD k 0=q at *
  generalize sQ row n ps k=s at *
  push_cast at ih ⊢
  generalize ((wOf 1 ps:Int):Rat)=w at *
  generalize ((fnR row k:Int):Rat)=a at *
  rw [h1]
  generalize ((dotN k (fnR row) (fnR (liftZ ps)):Int):Rat)=d at *
  generalize ((fnR row n:Int):Rat)=c at *
  grind
theorem a0p {row:List Int} {n:Nat} {ps:List Rat} (hl:ps.length=n):sQ row n ps n=0↔dotN (n+1) (fnR row) (fnR (liftZ ps))=0:=by
 have h:=avg hl n (Nat.le_refl n) (row:=row)
 have h2:=aen ps
 rw [hl] at h2
 have hw:=akm ps (w:=1) (by decide)
 have e:dotN n (fnR row) (fnR (liftZ ps)) - wOf 1 ps*fnR row n=dotN (n+1) (fnR row) (fnR (liftZ ps)):=by
  rw [abp,h2]
  grind
 rw [e] at h
 generalize dotN (n+1) (fnR row) (fnR (liftZ ps))=d at *
 generalize sQ row n ps n=s at *
 constructor
 ·intro hs
  rw [hs,Rat.mul_zero] at h
  exact_mod_cast h.symm
 ·intro hd
  rw [hd] at h
  have hw2:((wOf 1 ps:Int):Rat)≠0:=by exact_mod_cast (show wOf 1 ps≠0 by omega)
  have h3:((wOf 1 ps:Int):Rat)*s=0:=h
  exact (Rat.mul_eq_zero.1 h3).resolve_left hw2
theorem avh (w:World) (x:Value) (r:Rat) (L:Nat) (hx:IsQ r L x w) (hL:2*(L+2)≤100000000) :
  Calls Tryz.prog 53 #[x] w fun e w'=>∃ s:Int,e=.returned (.int .i64 s)∧(s=0↔r=0)∧Below w.heap.size w w' := by
 obtain ⟨ng,ao,n,cap,xs,bo,m,dap,ys,p,q,rfl,h2,h3,h4,h5,h6,h7⟩:=hx.open
 refine (ay3 w L ng ao n cap xs p h2 h5 bo m dap ys q h3 h4 h6 (by omega)).mono ?_
 rintro e w' ⟨v,rfl,ho,hb⟩
 refine ⟨Int.sign (tp p q),by rw [show v=.int .i64 _ from ho],?_,hb⟩
 rw [Int.sign_eq_zero_iff_zero,←h7,←ac3]
 constructor
 ·intro h
  rw [h,Rat.zero_divInt]
 ·intro h
  have:=(Rat.divInt_eq_divInt_iff (ace q) (by decide:(1:Int)≠0)).1 (h.trans (Rat.zero_divInt 1).symm)
  omega
theorem axt (r:Rat) (L:Nat):Mono (IsQ r L):=fun _ _ _ hb h=>h.below hb
theorem acv (r:Rat) (L:Nat):Mono4 (OutQr r L):=OutR.mono4 _ _ _
theorem OutQr.fe {r:Rat} {L:Nat} {v:Value} {w:World} (h:OutQr r L v w):∃ x:FE,v=x.v:=by
 obtain ⟨ng,ao,cap,rs,bo,dap,ss,rfl,_⟩:=h
 exact ⟨⟨ng,ao,_,cap,bo,_,dap⟩,rfl⟩
section
variable {dst:Option Tmp} {ty:TypeId} {pos:String} {after:Array Edge} {guard:Option (Nat × Bool)} {a:Act} {w:World} {ats:Array TypeId} {i j:Nat}
theorem axu {b off n c k:Nat} (h:a.eval (.tmp i)=.slice (some ⟨b,off,none⟩) n c) (hk:a.eval (.tmp j)=.int .i64 (k:Int)) (hl:k<n):Does Tryz.prog { dst,op:=.indexAddr 31 (.tmp i) (.tmp j),type:=ty,pos,after,guard } a.eval w fun v' w'=>Below w.heap.size w w'∧Eqs (.pointer (some ⟨b,off+k*3,none⟩)) v' w' := by
 have hl' : (k:Int)<(n:Int):=by omega
 refine ⟨?_⟩
 unfold Turns
 simp only [execOp,h,hk]
 go_simp
 exact ⟨Below.refl _ _,rfl⟩
theorem a0q {b off:Nat} {x:FE} {p:Says} (hp:a.eval (.tmp i)=.pointer (some ⟨b,off,none⟩)) (h0:w.cell? ⟨b,off,none⟩ = some (.bool x.ng)) (h1:w.cell? ⟨b,off+1,none⟩ = some (.slice x.a x.m x.c)) (h2:w.cell? ⟨b,off+2,none⟩ = some (.slice x.d x.k x.e)) (hv:p x.v w) :
  Does Tryz.prog { dst,op:=.load 47 (.tmp i),type:=ty,pos,after,guard } a.eval w fun v' w'=>Below w.heap.size w w'∧p v' w' := by
 refine aaz (v:=x.v) ?_ ⟨Below.refl _ _,hv⟩
 rw [hp]
 unfold FE.v
 go_simp
theorem avi:Has Tryz.prog 20:=by unfold Has;kernel_rfl
theorem axv {r s:Rat} {L M N:Nat} (h1:OutQr r L (a.eval (.tmp i)) w) (h2:OutQr s M (a.eval (.tmp j)) w) (hL:3*(L+M+4)+1≤100000000) (hf:Fit (r+s) N) :
  Does Tryz.prog { dst,op:=.call { callee:=.value (.func 20),args:=#[.tmp i,.tmp j],argTypes:=ats },type:=ty,pos,after,guard } a.eval w fun v w'=>Below w.heap.size w w'∧OutQr (r+s) N v w' :=
 aal avi #[_,_] (by simp) ((a1q w _ _ r s L M N h1.is h2.is hL hf).mono fun e w' ⟨v,h,hf,hb⟩=>⟨v,h,hb,hf⟩)
end
set_option maxRecDepth 20000 in
set_option maxHeartbeats 8000000 in
theorem ar5 (w:World) (v pv:Value) (row:List Int) (ps:List Rat) (L n:Nat) (h:IsRow w v row L) (hl:row.length=n+1) (hp:IsQs w pv ps L) (hpl:ps.length=n) (hn:n≤16) (hL1:1≤L) (hL:L≤100000) :
  Calls Tryz.prog 18 #[v,pv] w fun e w'=>e=.returned (.bool (mk0 (n+1) (liftZ ps) row))∧Below w.heap.size w w' := by
 have HFIT:=hide (avf (abe h) (hp.fit hL1) hpl)
 have HZB:=hide (abe h)
 have HQB:=hide (hp.fit hL1)
 have HMK:Hid (mk0 (n+1) (liftZ ps) row=decide (sQ row n ps n=0)):=(show _ = _ from decide_eq_decide.2 (a0p hpl).symm)
 obtain ⟨ar,cr,rfl,_⟩:=h.parts
 obtain ⟨ap,cp,rfl,_⟩:=hp.parts
 rw [hl] at h ⊢
 rw [hpl] at hp ⊢
 have HR:=hide h
 have HP:=hide hp
 have HLN:=hide (And.intro hl hpl)
 obtain ⟨b,off,ng1,a1,m1,c1,rfl,hbl,x0,x1,hx⟩:=h.cell (k:=n) (z:=fnR row n) (ab6 (by omega))
 have K1:=hide (negF w _ _ L hx (by omega))
 clear h hp hl hpl hx
 go_enter Tryz.func18,Tryz.ntmps18
 go_wp2_with fail
 refine K1.out.mono ?_
 rintro e w1 ⟨v1,rfl,hf1,hb1⟩
 obtain ⟨ng2,a2,m2,c2,rfl⟩:=hf1.agg
 have K2:=hide (ap1 w1 _ _ L hf1.is (by omega))
 have HB1:=hide hb1
 clear hf1 hb1 K1 x0 x1
 go_wp2_with fail
 refine K2.out.mono ?_
 rintro e w2 ⟨v2,rfl,hq2,hb2⟩
 obtain ⟨x2,rfl⟩:=hq2.fe
 have hA:=hAl w2 (.cells #[.bool x2.ng,.slice x2.a x2.m x2.c,.slice x2.d x2.k x2.e] 47)
 have hn2:=heap_alloc_new w2 (.cells #[.bool x2.ng,.slice x2.a x2.m x2.c,.slice x2.d x2.k x2.e] 47)
 have hb02:=HB1.out.trans (hb2.mono HB1.out.size)
 have HGS:Hid (w.heap.size≤w2.heap.size):=(show _≤_ from hb02.size)
 have HB2:=hide (hb02.trans (hA.mono hb02.size))
 have HQ2:=hide (acv _ _ _ _ _ (Rl.of_below hA) (hq2.fit (L' := (L+1)*(0+1)) ((HFIT.out 0 (Nat.zero_le _)).fit (Nat.le_refl _) (by rw [Nat.zero_mul,Nat.zero_add,Nat.mul_one];omega))))
 have HN2:=hide hn2
 clear hA hn2 hb02 hb2 hq2 K2
 obtain ⟨gq,hgq⟩:∃ g,w2.heap.size=g:=⟨_,rfl⟩
 have HGQ:=hide hgq
 unfold FE.v
 go_wp2
 rw [hgq] at HGS HN2
 clear hgq
 go_loopw [6] (fun iv wr=>∃ (k:Nat) (x:FE),iv=.int .i64 (k:Int)∧k≤n∧Below w.heap.size w wr∧wr.heap[gq]? = some (.cells #[.bool x.ng,.slice x.a x.m x.c,.slice x.d x.k x.e] 47 (0,0))∧OutQr (sQ row n ps k) ((L+1)*(k+1)) x.v wr) (fun iv _=>n - (intOf iv).toNat)
 case atStart=>exact ⟨0,x2,rfl,Nat.zero_le _,HB2.out,HN2.out,HQ2.out⟩
 case round =>
  obtain ⟨k,x,rfl,hk,hbw,hgx,hqx⟩:=hrel
  by_cases hlt:k<n
  ·have hlt' : (k:Int)<(n:Int):=by omega
   obtain ⟨b',off',ng3,a3,m3,c3,hbe,hbl',x0,x1,hx⟩:=HR.out.cell (k:=k) (z:=fnR row k) (ab6 (by rw [HLN.out.1];omega))
   obtain ⟨rfl,rfl⟩:b=b'∧off=off' := by simpa using hbe
   obtain ⟨q,hq⟩:∃ q,ps[k]? = some q:=⟨_,List.getElem?_eq_getElem (by rw [HLN.out.2];omega)⟩
   obtain ⟨b2,off2,y,rfl,hb2l,y0,y1,y2,hy⟩:=HP.out.cell hq
   have HX0:=hide ((hbw.cell (p:=⟨b,off+k*2,none⟩) hbl).trans x0)
   have HX1:=hide ((hbw.cell (p:=⟨b,off+k*2+1,none⟩) hbl).trans x1)
   have HY0:=hide ((hbw.cell (p:=⟨b2,off2+k*3,none⟩) hb2l).trans y0)
   have HY1:=hide ((hbw.cell (p:=⟨b2,off2+k*3+1,none⟩) hb2l).trans y1)
   have HY2:=hide ((hbw.cell (p:=⟨b2,off2+k*3+2,none⟩) hb2l).trans y2)
   have hblr:=Nat.lt_of_lt_of_le hbl hbw.size
   have hb2r:=Nat.lt_of_lt_of_le hb2l hbw.size
   have HXW:=hide (hx.ru (Ru.of_below hbw))
   have HYQ:=hide (hy.below hbw)
   have hnx:sQ row n ps (k+1)=sQ row n ps k+((fnR row k:Int):Rat)*q:=by
    show sQ row n ps k+((fnR row k:Int):Rat)*ps.getD k 0 = _
    rw [List.getD_eq_getElem?_getD,hq]
    rfl
   have hfz:((fnR row k).natAbs:Int)<pw L:=acl HZB.out (by have:=aag L;omega) k
   have hfm:Fit (((fnR row k:Int):Rat)*q) (2*L):=by
    have h1:=anl hfz (HQB.out q (List.mem_of_getElem? hq)).two
    exact h1.fit (by omega) (by omega)
   obtain ⟨nn1,hnn1⟩:∃ N,(L+1)*(k+1)=N:=⟨_,rfl⟩
   obtain ⟨nn2,hnn2⟩:∃ N,(L+1)*(k+1+1)=N:=⟨_,rfl⟩
   have hN12:nn2=nn1+(L+1):=by rw [←hnn1,←hnn2,Nat.mul_add (L+1) (k+1) 1,Nat.mul_one]
   have hNB:nn1≤100001*17:=by rw [←hnn1];exact Nat.mul_le_mul (by omega) (by omega)
   have hfs:Fit (sQ row n ps k+((fnR row k:Int):Rat)*q) nn2:=by
    have h1:=HFIT.out (k+1) (by omega)
    rw [hnx,hnn2] at h1
    refine h1.fit (Nat.le_refl _) ?_
    have e2:(k+1)*L=k*L+L:=by rw [Nat.add_mul,Nat.one_mul]
    have e3:(L+1)*(k+1)=k*L+k+L+1:=by rw [Nat.add_mul,Nat.mul_add,Nat.mul_comm L k];omega
    rw [e2]
    omega
   rw [hnn1] at hqx
   have HNX:Hid (sQ row n ps (k+1)=sQ row n ps k+((fnR row k:Int):Rat)*q):=hnx
   have HFM:=hide hfm
   have HFS:=hide hfs
   obtain ⟨s0,hs0⟩:∃ s,sQ row n ps k=s:=⟨_,rfl⟩
   obtain ⟨zk,hzk⟩:∃ z,fnR row k=z:=⟨_,rfl⟩
   rw [hs0] at hqx HNX HFS
   rw [hzk] at HXW HNX HFM HFS
   have HQB2:=hide hgx
   have HSV:=hide hqx
   have HW:=hide hbw
   have HNN:Hid (nn2=(L+1)*(k+1+1)):=hnn2.symm
   have hNL:3*(nn1+2*L+4)+1≤100000000:=by omega
   have HLE:Hid (k+1≤n):=(show k+1≤n by omega)
   clear hbw hgx hqx hx hy hq hnx hfz hfm hfs hnn1 hnn2 hN12 hNB hs0 hzk x0 x1 y0 y1 y2 hbe hbl' hbl hb2l
   go_upto_region 5 with fail
   refine adj 12 [20,21,22,23,24,25,26,27,28,29,30,31] [(OutQr s0 nn1),Eqs (.slice (some ⟨b,off,none⟩) (n+1) cr),Eqs (.int .i64 (k:Int)),Eqs (.pointer (some ⟨b,off+k*2,none⟩)),(IsW zk L),(OutQr (zk:Rat) (L+2)),Eqs (.slice (some ⟨b2,off2,none⟩) n cp),Eqs (.int .i64 (k:Int)),Eqs (.pointer (some ⟨b2,off2+k*3,none⟩)),(IsQ q L),(OutQr ((zk:Rat)*q) (2*L)),(OutQr (s0+(zk:Rat)*q) nn2)] rfl rfl (by decide) (by kernel_rfl) (by kernel_rfl) (by decide) (by kernel_rfl) ⟨(Mono.of4 (acv _ _)),Eqs.mono _,Eqs.mono _,Eqs.mono _,(Mono.of4 (IsW.mono4 _ _)),(Mono.of4 (acv _ _)),Eqs.mono _,Eqs.mono _,Eqs.mono _,(axt _ _),(Mono.of4 (acv _ _)),(Mono.of4 (acv _ _)),trivial⟩ ?_ ?_
   ·exact ⟨⟨rfl,fun a_ w_ _ hB hR hD=>akq ((hR 5 rfl).trans (aab rfl)) ((hB.block _ (aaa HQB2.out)).trans HQB2.out) (acv _ _ _ _ _ (Rl.of_below hB) HSV.out)⟩,
      ⟨rfl,fun a_ w_ _ hB hR hD=>aai ((hR 0 rfl).trans (aab rfl))⟩,
      ⟨rfl,fun a_ w_ _ hB hR hD=>aai ((hR 6 rfl).trans (aab rfl))⟩,
      ⟨rfl,fun a_ w_ _ hB hR hD=>abo (show a_.eval (.tmp 21)=.slice (some ⟨b,off,none⟩) (n+1) cr from hD 1 rfl) rfl (show a_.eval (.tmp 22)=.int .i64 (k:Int) from hD 2 rfl) (by omega)⟩,
      ⟨rfl,fun a_ w_ _ hB hR hD=>ab3 (show a_.eval (.tmp 23)=.pointer (some ⟨b,off+k*2,none⟩) from hD 3 rfl) ((hB.cell (p:=⟨b,off+k*2,none⟩) hblr).trans HX0.out) ((hB.cell (p:=⟨b,off+k*2+1,none⟩) hblr).trans HX1.out) (Mono.of4 (IsW.mono4 _ _) _ _ _ hB HXW.out)⟩,
      ⟨rfl,fun a_ w_ _ hB hR hD=>ahl (show (IsW zk L) (a_.eval (.tmp 24)) w_ from hD 4 rfl) (by omega)⟩,
      ⟨rfl,fun a_ w_ _ hB hR hD=>aai ((hR 1 rfl).trans (aab rfl))⟩,
      ⟨rfl,fun a_ w_ _ hB hR hD=>aai ((hR 6 rfl).trans (aab rfl))⟩,
      ⟨rfl,fun a_ w_ _ hB hR hD=>axu (show a_.eval (.tmp 26)=.slice (some ⟨b2,off2,none⟩) n cp from hD 6 rfl) (show a_.eval (.tmp 27)=.int .i64 (k:Int) from hD 7 rfl) (by omega)⟩,
      ⟨rfl,fun a_ w_ _ hB hR hD=>a0q (show a_.eval (.tmp 28)=.pointer (some ⟨b2,off2+k*3,none⟩) from hD 8 rfl) ((hB.cell (p:=⟨b2,off2+k*3,none⟩) hb2r).trans HY0.out) ((hB.cell (p:=⟨b2,off2+k*3+1,none⟩) hb2r).trans HY1.out) ((hB.cell (p:=⟨b2,off2+k*3+2,none⟩) hb2r).trans HY2.out) (HYQ.out.below hB)⟩,
      ⟨rfl,fun a_ w_ _ hB hR hD=>ai5 (OutQr.is (show (OutQr (zk:Rat) (L+2)) (a_.eval (.tmp 25)) w_ from hD 5 rfl)) (show (IsQ q L) (a_.eval (.tmp 29)) w_ from hD 9 rfl) (by omega) HFM.out⟩,
      ⟨rfl,fun a_ w_ _ hB hR hD=>axv (show (OutQr s0 nn1) (a_.eval (.tmp 20)) w_ from hD 0 rfl) (show (OutQr ((zk:Rat)*q) (2*L)) (a_.eval (.tmp 30)) w_ from hD 10 rfl) (by omega) HFS.out⟩,
      trivial⟩
   ·intro a' w' hn' hd' hB' hR' hP'
    obtain ⟨u20,e20⟩:∃ u,a'.eval (.tmp 20)=u:=⟨_,rfl⟩
    have e21:a'.eval (.tmp 21)=.slice (some ⟨b,off,none⟩) (n+1) cr:=hP' 1 (by decide)
    have e22:a'.eval (.tmp 22)=.int .i64 (k:Int):=hP' 2 (by decide)
    have e23:a'.eval (.tmp 23)=.pointer (some ⟨b,off+k*2,none⟩):=hP' 3 (by decide)
    obtain ⟨u24,e24⟩:∃ u,a'.eval (.tmp 24)=u:=⟨_,rfl⟩
    obtain ⟨u25,e25⟩:∃ u,a'.eval (.tmp 25)=u:=⟨_,rfl⟩
    have e26:a'.eval (.tmp 26)=.slice (some ⟨b2,off2,none⟩) n cp:=hP' 6 (by decide)
    have e27:a'.eval (.tmp 27)=.int .i64 (k:Int):=hP' 7 (by decide)
    have e28:a'.eval (.tmp 28)=.pointer (some ⟨b2,off2+k*3,none⟩):=hP' 8 (by decide)
    obtain ⟨u29,e29⟩:∃ u,a'.eval (.tmp 29)=u:=⟨_,rfl⟩
    obtain ⟨u30,e30⟩:∃ u,a'.eval (.tmp 30)=u:=⟨_,rfl⟩
    obtain ⟨u31,e31⟩:∃ u,a'.eval (.tmp 31)=u:=⟨_,rfl⟩
    have hT:(OutQr (s0+(zk:Rat)*q) nn2) (a'.eval (.tmp 31)) w' := hP' 11 (by decide)
    rw [e31] at hT
    refine aat hn' hd' hR' (.s16 rfl <| .s4 rfl <| .new e20 <| .new e21 <| .new e22 <| .new e23 <| .new e24 <| .new e25 <| .new e26 <| .new e27 <| .new e28 <| .new e29 <| .new e30 <| .new e31 <| .same rfl <| .same rfl <| .same rfl <| .nil) ?_
    clear e20 e21 e22 e23 e24 e25 e26 e27 e28 e29 e30 e31
    obtain ⟨x5,rfl⟩:=hT.fe
    have hgx' := (hB'.block _ (aaa HQB2.out)).trans HQB2.out
    obtain ⟨_,c0,c1,c2',g0,g1,g2⟩:=aa3 hgx'
    have HT2:=hide (OutR.mono5 _ _ _ _ _ _ (aqt hgx' (.bool x5.ng) (.slice x5.a x5.m x5.c) (.slice x5.d x5.k x5.e)) hT)
    have HG2:=hide (amh hgx' (.bool x5.ng) (.slice x5.a x5.m x5.c) (.slice x5.d x5.k x5.e))
    have HB5:=hide (((HW.out.trans (hB'.mono HW.out.size)).setCell (p:=⟨gq,0,none⟩) HGS.out (.bool x5.ng) |>.setCell (p:=⟨gq,1,none⟩) HGS.out (.slice x5.a x5.m x5.c)).setCell (p:=⟨gq,2,none⟩) HGS.out (.slice x5.d x5.k x5.e))
    clear hT hgx' hB' hR' hP' hn' hd'
    unfold FE.v
    go_wp2
    go_roundw
    case rel=>exact ⟨k+1,x5,by go_num,HLE.out,HB5.out,HG2.out,by rw [HNX.out,←HNN.out];exact HT2.out⟩
    case measure=>have:=HLE.out;simp [intOf];omega
  ·have hlt' : decide ((k:Int)<(n:Int))=false:=by simp;omega
   obtain rfl:n=k:=by omega
   have K:=hide (avh wr x.v _ _ hqx.is (by
    have h1:(L+1)*(n+1)≤100001*17:=Nat.mul_le_mul (by omega) (by omega)
    omega))
   obtain ⟨_,c0,c1,c2',_⟩:=aa3 hgx
   have HW:=hide hbw
   clear hbw hqx hgx
   unfold FE.v at K
   go_wp2_with fail
   refine K.out.mono ?_
   rintro e w5 ⟨s,rfl,hs,hb5⟩
   have HB5:=hide (HW.out.trans (hb5.mono HW.out.size))
   have HS:=hide hs
   clear hb5 hs K
   by_cases h0:s=0
   ·have hd:decide (sQ row n ps n=0)=true:=decide_eq_true (HS.out.1 h0)
    rw [hd] at HMK
    subst h0
    go_wp2
    refine bodyPost_ret (v:=_) (by simp [results,Tryz.results18,go_sem];try rfl) rfl ⟨by rw [HMK.out],HB5.out⟩
   ·have hd:decide (sQ row n ps n=0)=false:=decide_eq_false (fun h=>h0 (HS.out.2 h))
    rw [hd] at HMK
    have h0' : (s == 0)=false:=by simpa using h0
    go_wp2
    refine bodyPost_ret (v:=_) (by simp [results,Tryz.results18,go_sem];try rfl) rfl ⟨by rw [HMK.out],HB5.out⟩
end Lm
end Go.Proofs.YtpbllidpalgkkaaGreat
namespace Go.Proofs.YtpbllidpalgkkaaGreat
namespace Lm
open Go Go.RowKit Md
def PtsK (w' : World) (n:Nat) (pts:List (List Rat)) (pv:Value) (ev:Int):Prop :=
 (ShpQ pts n 0=false∧pv=.pointer none∧ev=1) ∨
 (ShpQ pts n 0=true∧((pv=.pointer none∧ev=2∧∃ E0,BigF n E0∧∀ y,Out (n+1) y→(RS (E0.map fnR) y↔(∀ z ∈ pts.map liftZ,fnR z n=0)∨Hld n (pts.map liftZ) y)) ∨
  ∃ g E Lf,pv=.pointer (some ⟨g,0,none⟩)∧ev=0∧Spn w' g n E Lf∧Kept n E Lf∧(∀ l ∈ Lf,RS ((pts.map liftZ).map fnR) (fnR l))∧∀ y,Out (n+1) y→(Hld n Lf y↔(∀ z ∈ pts.map liftZ,fnR z n=0)∨Hld n (pts.map liftZ) y)))
theorem avj {pts:List (List Rat)} {n:Nat} (h:ShpQ pts n 0=true):∀ z ∈ pts.map liftZ,z.length=n+1:=fun z hz=>by
 obtain ⟨ps,hp,rfl⟩:=List.mem_map.1 hz
 have:=(of_decide_eq_true h).2.2 ps hp
 rw [abi]
 omega
theorem BuiL.spn {w' : World} {n:Nat} {ls:List (List Int)} {e:Ending} (hl:∀ z ∈ ls,z.length=n+1) (h:BuiL w' n ls e) :
  (e=.returned (.tuple #[.pointer none,.int .i64 2])∧∃ E0,BigF n E0∧∀ y,Out (n+1) y→(RS (E0.map fnR) y↔(∀ z ∈ ls,fnR z n=0)∨Hld n ls y)) ∨
  ∃ g E Lf,e=.returned (.tuple #[.pointer (some ⟨g,0,none⟩),.int .i64 0])∧Spn w' g n E Lf∧Kept n E Lf∧(∀ l ∈ Lf,RS (ls.map fnR) (fnR l))∧∀ y,Out (n+1) y→(Hld n Lf y↔(∀ z ∈ ls,fnR z n=0)∨Hld n ls y):=by
 rcases h with ⟨hb,rfl⟩ | ⟨g,made,twin,low,eqs,rfl,hat,hli,heq,hlo,htw⟩
 ·exact .inl ⟨rfl,errL hl hb⟩
 ·obtain ⟨sl,rfl,hsl⟩:=hli
  obtain ⟨se,rfl,hse⟩:=heq
  obtain ⟨h1,h2,h3⟩:=ahq hl hlo htw
  exact .inr ⟨g,eqs,low,rfl,⟨se,sl,.inl hat,hse,hsl⟩,h1,h2,h3⟩
theorem BuiE.spn {w' : World} {n:Nat} {rows:List (List Int)} {e:Ending} (hl:∀ z ∈ rows,z.length=n+1) (h:BuiE w' n rows e) :
  (e=.returned (.tuple #[.pointer none,.int .i64 2])∧∃ E0,BigF n E0∧∀ y,Out (n+1) y→(RS (E0.map fnR) y↔Cls n rows y)) ∨
  ∃ g E Lf,e=.returned (.tuple #[.pointer (some ⟨g,0,none⟩),.int .i64 0])∧Spn w' g n E Lf∧Kept n E Lf∧∀ y,Out (n+1) y→(Hld n Lf y↔Cls n rows y):=by
 rcases h with ⟨hb,rfl⟩ | ⟨g,made,twin,low,eqs,rfl,hat,heq,hli,hlo,htw⟩
 ·exact .inl ⟨rfl,errE hl hb⟩
 ·obtain ⟨sl,rfl,hsl⟩:=hli
  obtain ⟨se,rfl,hse⟩:=heq
  obtain ⟨h1,h2⟩:=au1 hl hlo htw
  exact .inr ⟨g,low,eqs,rfl,⟨se,sl,.inr hat,hse,hsl⟩,h1,h2⟩
theorem PtsO.k {w' : World} {n:Nat} {pts:List (List Rat)} {e:Ending} (h:PtsO w' n pts e):∃ pv ev,e=.returned (.tuple #[pv,.int .i64 ev])∧PtsK w' n pts pv ev:=by
 rcases h with ⟨h1,rfl⟩ | ⟨h1,h2⟩
 ·exact ⟨_,_,rfl,.inl ⟨h1,rfl,rfl⟩⟩
 ·rcases h2.spn (avj h1) with ⟨rfl,h3⟩ | ⟨g,E,Lf,rfl,h3⟩
  ·exact ⟨_,_,rfl,.inr ⟨h1,.inl ⟨rfl,rfl,h3⟩⟩⟩
  ·exact ⟨_,_,rfl,.inr ⟨h1,.inr ⟨g,E,Lf,rfl,rfl,h3⟩⟩⟩
def RowsK (w' : World) (n:Nat) (rows:List (List Int)) (pv:Value) (ev:Int):Prop :=
 (ShpB rows n 1=false∧pv=.pointer none∧ev=1) ∨
 (ShpB rows n 1=true∧((pv=.pointer none∧ev=2∧∃ E0,BigF n E0∧∀ y,Out (n+1) y→(RS (E0.map fnR) y↔Cls n rows y)) ∨
  ∃ g E Lf,pv=.pointer (some ⟨g,0,none⟩)∧ev=0∧Spn w' g n E Lf∧Kept n E Lf∧∀ y,Out (n+1) y→(Hld n Lf y↔Cls n rows y)))
theorem RowsO.k {w' : World} {n:Nat} {rows:List (List Int)} {e:Ending} (h:RowsO w' n rows e):∃ pv ev,e=.returned (.tuple #[pv,.int .i64 ev])∧RowsK w' n rows pv ev:=by
 rcases h with ⟨h1,rfl⟩ | ⟨h1,h2⟩
 ·exact ⟨_,_,rfl,.inl ⟨h1,rfl,rfl⟩⟩
 ·rcases h2.spn (of_decide_eq_true h1).2.2 with ⟨rfl,h3⟩ | ⟨g,E,Lf,rfl,h3⟩
  ·exact ⟨_,_,rfl,.inr ⟨h1,.inl ⟨rfl,rfl,h3⟩⟩⟩
  ·exact ⟨_,_,rfl,.inr ⟨h1,.inr ⟨g,E,Lf,rfl,rfl,h3⟩⟩⟩
theorem ad1 {n:Nat} {x l:List Int} : mk0 n x l=true↔dotN n (fnR l) (fnR x)=0:=by
 unfold mk0
 rw [decide_eq_true_iff]
theorem aib {n:Nat} {Lf:List (List Int)} {row:List Int} : Lf.all (mk0 (n+1) row)=true↔Hld n Lf (fnR row):=by
 rw [List.all_eq_true]
 constructor
 ·intro h l hl
  rw [aa5]
  exact ad1.1 (h l hl)
 ·intro h l hl
  rw [ad1,aa5]
  exact h l hl
theorem Kept.own {n:Nat} {E Lf:List (List Int)} (h:Kept n E Lf):∀ e ∈ E,Hld n Lf (fnR e):=fun e he=>(h.hld (aa6 (h.row.1 e he))).2 (.inr (.mem (List.mem_map.2 ⟨e,he,rfl⟩)))
theorem a0r {pts:List (List Rat)} {n:Nat} (hs:ShpQ pts n 0=true) (hne:pts≠[]):¬ ∀ z ∈ pts.map liftZ,fnR z n=0:=by
 intro h
 obtain ⟨p,ps,rfl⟩:=List.exists_cons_of_ne_nil hne
 have h1:=h (liftZ p) (List.mem_map.2 ⟨p,List.mem_cons_self ..,rfl⟩)
 have h2:=(of_decide_eq_true hs).2.2 p (List.mem_cons_self ..)
 have h3:=adz p
 rw [h2] at h3
 exact h3 h1
structure LeastM (n:Nat) (pts:List (List Rat)) (rows Es Ls Et Lt:List (List Int)):Prop where
 has:∀ ps ∈ pts,Es.all (mk0 (n+1) (liftZ ps))=true
 wit:(!Et.any (fun r=>!Ls.all (mk0 (n+1) r)))=pts.all (fun ps=>Et.all (mk0 (n+1) (liftZ ps)))
 dim:Ls.length≤pts.length
 own:∀ row ∈ rows,Lt.all (mk0 (n+1) row)=true
 hol:∀ row ∈ rows,Ls.all (mk0 (n+1) row)=pts.all (fun ps=>mk0 (n+1) (liftZ ps) row)
theorem a0s {n:Nat} {pts:List (List Rat)} {rows Es Ls Et Lt:List (List Int)} (hs:ShpQ pts n 0=true) (hne:pts≠[]) (hr:ShpB rows n 1=true) (ks:Kept n Es Ls) (kt:Kept n Et Lt) (hd:∀ l ∈ Ls,RS ((pts.map liftZ).map fnR) (fnR l))
  (hhs:∀ y,Out (n+1) y→(Hld n Ls y↔(∀ z ∈ pts.map liftZ,fnR z n=0)∨Hld n (pts.map liftZ) y)) (hht:∀ y,Out (n+1) y→(Hld n Lt y↔Cls n rows y)):LeastM n pts rows Es Ls Et Lt:=by
 have hp:=a0r hs hne
 have hh:∀ y,Out (n+1) y→(Hld n Ls y↔∀ ps ∈ pts,dotN (n+1) y (fnR (liftZ ps))=0):=fun y hy=>by
  rw [hhs y hy]
  constructor
  ·rintro (h | h)
   ·exact absurd h hp
   ·exact fun ps hps=>h _ (List.mem_map.2 ⟨ps,hps,rfl⟩)
  ·intro h
   refine .inr fun z hz=>?_
   obtain ⟨ps,hps,rfl⟩:=List.mem_map.1 hz
   exact h ps hps
 have hrl:∀ row ∈ rows,Out (n+1) (fnR row):=fun row hrow=>aa6 ((of_decide_eq_true hr).2.2 row hrow)
 refine ⟨fun ps hps=>?_,?_,?_,fun row hrow=>?_,fun row hrow=>?_⟩
 ·rw [List.all_eq_true]
  intro e he
  exact ad1.2 ((hh _ (aa6 (ks.row.1 e he))).1 (ks.own e he) ps hps)
 ·rw [Bool.eq_iff_iff]
  simp only [Bool.not_eq_true',List.any_eq_false,List.all_eq_true (l:=pts)]
  constructor
  ·intro h ps hps
   rw [List.all_eq_true]
   intro e he
   have h1:=h e he
   simp only [Bool.not_eq_false] at h1
   exact ad1.2 ((hh _ (aa6 (kt.row.1 e he))).1 (aib.1 h1) ps hps)
  ·intro h e he
   simp only [Bool.not_eq_false]
   refine aib.2 ((hh _ (aa6 (kt.row.1 e he))).2 fun ps hps=>?_)
   exact ad1.1 (List.all_eq_true.1 (h ps hps) e he)
 ·have h1:=a0h ks.ind (T:=(pts.map liftZ).map fnR) (fun s hs=>by
   obtain ⟨l,hl,rfl⟩:=List.mem_map.1 hs
   exact hd l hl)
  simpa using h1
 ·exact aib.2 ((hht _ (hrl row hrow)).2 (.inr (.mem (List.mem_map.2 ⟨row,hrow,rfl⟩))))
 ·rw [Bool.eq_iff_iff,aib,hh _ (hrl row hrow),List.all_eq_true]
  constructor
  ·exact fun h ps hps=>ad1.2 (h ps hps)
  ·exact fun h ps hps=>ad1.1 (h ps hps)
section
variable {dst:Option Tmp} {ty:TypeId} {pos:String} {after:Array Edge} {guard:Option (Nat × Bool)} {a:Act} {w:World} {ats:Array TypeId} {i j:Nat}
theorem axw {b off n c k:Nat} (h:a.eval (.tmp i)=.slice (some ⟨b,off,none⟩) n c) (hk:a.eval (.tmp j)=.int .i64 (k:Int)) (hl:k<n):Does Tryz.prog { dst,op:=.indexAddr 23 (.tmp i) (.tmp j),type:=ty,pos,after,guard } a.eval w fun v' w'=>Below w.heap.size w w'∧Eqs (.pointer (some ⟨b,off+k,none⟩)) v' w' := by
 have hl' : (k:Int)<(n:Int):=by omega
 refine ⟨?_⟩
 unfold Turns
 simp only [execOp,h,hk]
 go_simp
 exact ⟨Below.refl _ _,rfl⟩
theorem axy {b off n c k:Nat} (h:a.eval (.tmp i)=.slice (some ⟨b,off,none⟩) n c) (hk:a.eval (.tmp j)=.int .i64 (k:Int)) (hl:k<n):Does Tryz.prog { dst,op:=.indexAddr 22 (.tmp i) (.tmp j),type:=ty,pos,after,guard } a.eval w fun v' w'=>Below w.heap.size w w'∧Eqs (.pointer (some ⟨b,off+k,none⟩)) v' w' := by
 have hl' : (k:Int)<(n:Int):=by omega
 refine ⟨?_⟩
 unfold Turns
 simp only [execOp,h,hk]
 go_simp
 exact ⟨Below.refl _ _,rfl⟩
theorem a0t {b off:Nat} {u:Value} (hp:a.eval (.tmp i)=.pointer (some ⟨b,off,none⟩)) (h0:w.cell? ⟨b,off,none⟩ = some u) :
  Does Tryz.prog { dst,op:=.load 39 (.tmp i),type:=ty,pos,after,guard } a.eval w fun v' w'=>Below w.heap.size w w'∧Eqs u v' w' := by
 refine aaz (v:=u) ?_ ⟨Below.refl _ _,rfl⟩
 rw [hp]
 go_simp
theorem a0u {b off:Nat} {u:Value} (hp:a.eval (.tmp i)=.pointer (some ⟨b,off,none⟩)) (h0:w.cell? ⟨b,off,none⟩ = some u) :
  Does Tryz.prog { dst,op:=.load 31 (.tmp i),type:=ty,pos,after,guard } a.eval w fun v' w'=>Below w.heap.size w w'∧Eqs u v' w' := by
 refine aaz (v:=u) ?_ ⟨Below.refl _ _,rfl⟩
 rw [hp]
 go_simp
theorem ar6:Has Tryz.prog 18:=by unfold Has;kernel_rfl
theorem avk {v pv:Value} {row:List Int} {ps:List Rat} {L n:Nat} (h1:a.eval (.tmp i)=v) (h2:a.eval (.tmp j)=pv) (h:IsRow w v row L) (hl:row.length=n+1) (hp:IsQs w pv ps L) (hpl:ps.length=n) (hn:n≤16) (hL1:1≤L) (hL:L≤100000) {b:Bool} (hb:mk0 (n+1) (liftZ ps) row=b) :
  Does Tryz.prog { dst,op:=.call { callee:=.value (.func 18),args:=#[.tmp i,.tmp j],argTypes:=ats },type:=ty,pos,after,guard } a.eval w fun v w'=>Below w.heap.size w w'∧Eqs (.bool b) v w' := by
 subst hb
 exact aal ar6 #[_,_] (by simp [h1,h2]) ((ar5 w v pv row ps L n h hl hp hpl hn hL1 hL).mono fun e w' ⟨he,hb⟩=>⟨_,he,hb,rfl⟩)
end
end Lm
end Go.Proofs.YtpbllidpalgkkaaGreat
namespace Go.Proofs.YtpbllidpalgkkaaGreat
namespace Lm
open Go Go.RowKit Md
theorem ajz (b:Bool):(b != b)=false:=by cases b <;> rfl
set_option maxRecDepth 20000 in
set_option maxHeartbeats 32000000 in
theorem als (w:World) (v0 v1:Value) (fss:List (List FQ)) (ess:List (List WE)) (h0:RfM w v0 fss) (h1:RwM w v1 ess) (hb0:lenFM fss≤1048576) (hb1:lenM ess≤1048576) :
  Calls Tryz.prog 7 #[v0,v1] w fun e w'=>e=.returned (.bool true)∧Below w.heap.size w w' := by
 obtain ⟨a0,c0,rfl,hm0⟩:=h0.parts
 obtain ⟨a1,c1,rfl,hm1⟩:=h1.parts
 have H0:=hide h0
 have H1:=hide h1
 have K1:=hide (a2a w)
 have HZ0:Hid ((zsF fss).length=fss.length):=(show _ = _ by simp [zsF])
 have HZ1:Hid ((zsM ess).length=ess.length):=(show _ = _ by simp [zsM])
 have HSH0:Hid (lenFM fss≤1500→IsQM w (.slice a0 fss.length c0) (zsF fss) 1500):=fun h=>H0.out.isQM h
 have HSH1:Hid (lenM ess≤1500→IsM w (.slice a1 ess.length c1) (zsM ess) 1500):=fun h=>H1.out.isM h
 have K2:Hid (∀ w1,Below w.heap.size w w1→_):=(fun w1 hb=>a0l w1 a0 fss.length c0 fss (h0.below hb) (by omega))
 have K3:Hid (∀ w1,Below w.heap.size w w1→_):=(fun w1 hb=>ao0 w1 (.slice a1 ess.length c1) ess (h1.below hb) (by omega))
 clear h0 h1
 generalize zsF fss=pts at *
 generalize zsM ess=rows at *
 obtain ⟨m,hm⟩:∃ m,fss.length=m:=⟨_,rfl⟩
 obtain ⟨q,hq⟩:∃ q,ess.length=q:=⟨_,rfl⟩
 obtain ⟨l0,hl0⟩:∃ l,lenFM fss=l:=⟨_,rfl⟩
 obtain ⟨l1,hl1⟩:∃ l,lenM ess=l:=⟨_,rfl⟩
 rw [hm] at HZ0 HSH0 K2 hm0 ⊢
 rw [hq] at HZ1 HSH1 K3 hm1 ⊢
 rw [hl0] at K2 HSH0 hb0
 rw [hl1] at K3 HSH1 hb1
 clear H0 H1 hm hq hl0 hl1
 have hadd:IntKind.i64.wrap ((l0:Int)+(l1:Int))=(l0:Int)+(l1:Int):=by rw [IntKind.wrap_i64];omega
 go_enter Tryz.func7,Tryz.ntmps7
 go_wp2_with fail
 refine K1.out.mono ?_
 rintro e w1 ⟨rfl,hb1'⟩
 have HB1:=hide hb1'
 have K2' := hide (K2.out w1 hb1')
 clear hb1' K1 K2
 go_wp2_with fail
 refine K2'.out.mono ?_
 rintro e w2 ⟨rfl,hb2⟩
 have HB2:=hide (HB1.out.trans (hb2.mono HB1.out.size))
 have K3' := hide (K3.out w2 HB2.out)
 clear hb2 K2' K3
 go_wp2_with fail
 refine K3'.out.mono ?_
 rintro e w3 ⟨rfl,hb3⟩
 have HB3:=hide (HB2.out.trans (hb3.mono HB2.out.size))
 clear hb3 K3'
 by_cases hlong:(l0:Int)+(l1:Int) > 1500
 ·have hl' : (l0:Int)+(l1:Int) > 1500:=hlong
  go_wp2
  refine bodyPost_ret (v:=_) (by simp [results,Tryz.results7,go_sem];try rfl) rfl ⟨rfl,HB3.out⟩
 have hl' : decide ((l0:Int)+(l1:Int) > 1500)=false:=by simp;omega
 have HI0:=hide (HSH0.out (by omega))
 have HI1:=hide (HSH1.out (by omega))
 clear HSH0 HSH1 hlong
 by_cases hm00:m=0
 ·subst hm00
  go_wp2
  refine bodyPost_ret (v:=_) (by simp [results,Tryz.results7,go_sem];try rfl) rfl ⟨rfl,HB3.out⟩
 have hme:((m:Int) == 0)=false:=by rw [beq_eq_false_iff_ne];omega
 have hme2:¬ (m:Int)=0:=by omega
 by_cases hm30:(m:Int) > 30
 ·have hm30' : (m:Int) > 30:=hm30
  go_wp2
  refine bodyPost_ret (v:=_) (by simp [results,Tryz.results7,go_sem];try rfl) rfl ⟨rfl,HB3.out⟩
 have hm30' : decide ((m:Int) > 30)=false:=by simp;omega
 by_cases hq30:(q:Int) > 30
 ·have hq30' : (q:Int) > 30:=hq30
  go_wp2
  refine bodyPost_ret (v:=_) (by simp [results,Tryz.results7,go_sem];try rfl) rfl ⟨rfl,HB3.out⟩
 have hq30' : decide ((q:Int) > 30)=false:=by simp;omega
 have HPN:Hid (pts≠[]):=(show pts≠[] from fun h=>by have:=HZ0.out;rw [h] at this;simp at this;omega)
 obtain ⟨p0,hp0⟩:∃ p,pts[0]? = some p:=⟨_,List.getElem?_eq_getElem (by have:=HZ0.out;omega)⟩
 obtain ⟨b,off,u,rfl,hbl,hu,hur⟩:=HI0.out.cell hp0
 obtain ⟨au,cu,rfl,hnl⟩:=hur.parts
 obtain ⟨n,hn⟩:∃ n,p0.length=n:=⟨_,rfl⟩
 rw [hn] at hu hnl
 rw [Nat.add_zero] at hu
 have hu3:=(HB3.out.cell (p:=⟨b,off,none⟩) hbl).trans hu
 have hbl3:=Nat.lt_of_lt_of_le hbl HB3.out.size
 have K4:=hide (ain w3 (.slice (some ⟨b,off,none⟩) m c0) pts 1500 n (HI0.out.below HB3.out) hnl (by omega) (by omega))
 have K5:Hid (∀ w1,Below w.heap.size w w1→_):=(fun w1 hb=>au6 w1 (.slice a1 q c1) rows 1500 n (HI1.out.below hb) hnl (by omega) (by omega))
 clear hur hp0 hn hu
 go_wp2_with fail
 refine K4.out.mono ?_
 rintro e w4 ⟨ho,hb4⟩
 have HB4:=hide (HB3.out.trans (hb4.mono HB3.out.size))
 obtain ⟨pv,ev,rfl,hk⟩:=ho.k
 have HK:=hide hk
 have K5' := hide (K5.out w4 HB4.out)
 clear hb4 ho hk K4 K5 hu3 hbl3
 go_wp2_with fail
 refine K5'.out.mono ?_
 rintro e w5 ⟨ho,hb5⟩
 have HB5:=hide (HB4.out.trans (hb5.mono HB4.out.size))
 have HB45:=hide hb5
 obtain ⟨rv,fv,rfl,hk⟩:=ho.k
 have HK2:=hide hk
 clear hb5 ho hk K5'
 by_cases hev:ev=0
 case neg =>
  have hev' : (ev != 0)=true:=by simpa using hev
  go_wp2
  refine bodyPost_ret (v:=_) (by simp [results,Tryz.results7,go_sem];try rfl) rfl ⟨rfl,HB5.out⟩
 subst hev
 by_cases hfv:fv=0
 case neg =>
  have hfv' : (fv != 0)=true:=by simpa using hfv
  go_wp2
  refine bodyPost_ret (v:=_) (by simp [results,Tryz.results7,go_sem];try rfl) rfl ⟨rfl,HB5.out⟩
 subst hfv
 obtain ⟨_,_,h⟩ | ⟨hshp,⟨_,h,_⟩ | ⟨g,Es,Ls,rfl,_,hS,hkS,hdS,hhS⟩⟩:=HK.out
 ·exact absurd h (by decide)
 ·exact absurd h (by decide)
 obtain ⟨_,_,h⟩ | ⟨hshr,⟨_,h,_⟩ | ⟨g',Et,Lt,rfl,_,hT,hkT,hhT⟩⟩:=HK2.out
 ·exact absurd h (by decide)
 ·exact absurd h (by decide)
 have HM:=hide (a0s hshp HPN.out hshr hkS hkT hdS hhS hhT)
 have hn16:n≤16:=(of_decide_eq_true hshp).1
 have HPL:Hid (∀ ps ∈ pts,ps.length=n):=(show _ from fun ps hps=>by have:=(of_decide_eq_true hshp).2.2 ps hps;omega)
 have HRL:Hid (∀ r ∈ rows,r.length=n+1):=(show _ from (of_decide_eq_true hshr).2.2)
 have HRS:=hide hkS.row
 have HRT:=hide hkT.row
 obtain ⟨se,sl,hSE,hSe,hSl⟩:=(hS.below HB45.out).at_
 obtain ⟨te,tl,hTE,hTe,hTl⟩:=hT.at_
 have HS:=hide hSE
 have HSe:=hide hSe
 have HSl:=hide hSl
 have HT:=hide hTE
 have HTe:=hide hTe
 have HTl:=hide hTl
 clear hshp hshr hS hT hkS hkT hdS hhS hhT hSE hSe hSl hTE hTe hTl HK HK2 HPN
 go_wp2
 go_loopw [10,11] (fun av iv wr=>∃ k:Nat,iv=.int .i64 (k:Int)∧k≤m∧Below w.heap.size w wr∧Below w5.heap.size w5 wr∧av=.bool ((pts.take k).all (fun ps=>Et.all (mk0 (n+1) (liftZ ps))))) (fun _ iv _=>m - (intOf iv).toNat)
 case atStart=>exact ⟨0,rfl,Nat.zero_le _,HB5.out,Below.refl _ _,by simp⟩
 case round =>
  obtain ⟨k,rfl,hk,hbw,hb5w,rfl⟩:=hrel
  by_cases hlt:k<m
  ·have hlt' : (k:Int)<(m:Int):=by omega
   obtain ⟨ps,hps⟩:∃ ps,pts[k]? = some ps:=⟨_,List.getElem?_eq_getElem (by have:=HZ0.out;omega)⟩
   obtain ⟨b2,off2,u2,hbe,hbl2,hu2,hur2⟩:=HI0.out.cell hps
   obtain ⟨rfl,rfl⟩:b=b2∧off=off2:=by simpa using hbe
   have hpm:=List.mem_of_getElem? hps
   have hpl:=HPL.out ps hpm
   have hu2' := (hbw.cell (p:=⟨b,off+k,none⟩) hbl2).trans hu2
   have hblr:=Nat.lt_of_lt_of_le hbl2 hbw.size
   have K6:=an4 wr g n se sl u2 Es ps 1500 (HS.out.below hb5w) (HSe.out.below hb5w) HRS.out.1 (hur2.below hbw) hpl hn16 (by omega) (by omega)
   rw [HM.out.has ps hpm] at K6
   have K6:=hide K6
   have K7:Hid (∀ w1,Below wr.heap.size wr w1→_):=(fun w1 hb=>an4 w1 g' n te tl u2 Et ps 1500 (HT.out.below (hb5w.trans (hb.mono hb5w.size))) (HTe.out.below (hb5w.trans (hb.mono hb5w.size))) HRT.out.1 (hur2.below (hbw.trans (hb.mono hbw.size))) hpl hn16 (by omega) (by omega))
   obtain ⟨bb,hbb⟩:∃ bb,Et.all (mk0 (n+1) (liftZ ps))=bb:=⟨_,rfl⟩
   obtain ⟨ba,hba⟩:∃ ba,(pts.take k).all (fun ps=>Et.all (mk0 (n+1) (liftZ ps)))=ba:=⟨_,rfl⟩
   have HNX:Hid ((pts.take (k+1)).all (fun ps=>Et.all (mk0 (n+1) (liftZ ps)))=(ba && bb)):=(show _ = _ by rw [List.take_add_one,hps,List.all_append,hba,←hbb];simp)
   rw [hbb] at K7
   rw [hba]
   have HW:=hide hbw
   have HW5:=hide hb5w
   have HU2:=hide hu2'
   obtain ⟨a2,c2,rfl,_⟩:=hur2.parts
   clear hbw hb5w hps hur2 hpm hpl hu2 hbb hba hbe hbl2
   go_wp2_with fail
   refine K6.out.mono ?_
   rintro e w6 ⟨rfl,hb6⟩
   have HB6:=hide (HW.out.trans (hb6.mono HW.out.size))
   have HW6:=hide (HW5.out.trans (hb6.mono HW5.out.size))
   have hu6:=(hb6.cell (p:=⟨b,off+k,none⟩) hblr).trans HU2.out
   have hbl6:=Nat.lt_of_lt_of_le hblr hb6.size
   have K7' := hide (K7.out w6 hb6)
   clear hb6 K6 K7 hu2'
   go_wp2_with fail
   refine K7'.out.mono ?_
   rintro e w7 ⟨rfl,hb7⟩
   have HB7:=hide (HB6.out.trans (hb7.mono HB6.out.size))
   have HW7:=hide (HW6.out.trans (hb7.mono HW6.out.size))
   clear hb7 K7' hu6 hbl6 hblr
   cases ba with
   | true =>
    go_wp2
    go_roundw
    case rel=>exact ⟨k+1,by go_num,by omega,HB7.out,HW7.out,by rw [HNX.out];simp⟩
    case measure=>simp [intOf];omega
   | false =>
    go_wp2
    go_roundw
    case rel=>exact ⟨k+1,by go_num,by omega,HB7.out,HW7.out,by rw [HNX.out];simp⟩
    case measure=>simp [intOf];omega
  ·have hlt' : decide ((k:Int)<(m:Int))=false:=by simp;omega
   obtain rfl:m=k:=by omega
   rw [List.take_of_length_le (by have:=HZ0.out;omega)]
   have K8:=apf wr g g' n se sl te tl Ls Et (HS.out.below hb5w) (HT.out.below hb5w) (HSl.out.below hb5w) HRS.out.2 (HTe.out.below hb5w) HRT.out.1 hn16
   rw [HM.out.wit] at K8
   obtain ⟨ba,hba⟩:∃ ba,pts.all (fun ps=>Et.all (mk0 (n+1) (liftZ ps)))=ba:=⟨_,rfl⟩
   rw [hba] at K8 ⊢
   have K8:=hide K8
   have HW:=hide hbw
   have HW5:=hide hb5w
   obtain ⟨alS,clS,rfl,_⟩:=HSl.out.parts
   obtain ⟨d,hd⟩:∃ d,Ls.length=d:=⟨_,rfl⟩
   have hdm:d≤m:=by have:=HM.out.dim;rw [hd,HZ0.out] at this;exact this
   have K9:Hid (∀ w1,Below w5.heap.size w5 w1→_):=(fun w1 hb=>an5 w1 g n d se (.slice alS Ls.length clS) alS clS (HS.out.below hb) (by rw [hd]) (by omega))
   clear hbw hb5w hba hd
   have hbn:=ajz ba
   go_wp2_with fail
   refine K8.out.mono ?_
   rintro e w6 ⟨rfl,hb6⟩
   have HB6:=hide (HW.out.trans (hb6.mono HW.out.size))
   have HW6:=hide (HW5.out.trans (hb6.mono HW5.out.size))
   have K9' := hide (K9.out w6 HW6.out)
   have hge:¬ ((d:Int) - 1 ≥ (m:Int)):=by omega
   have hge' : decide ((m:Int)≤(d:Int) - 1)=false:=by simp;omega
   clear hb6 K8 K9
   go_wp2_with fail
   refine K9'.out.mono ?_
   rintro e w7 ⟨rfl,hb7⟩
   have HB7:=hide (HB6.out.trans (hb7.mono HB6.out.size))
   have HW7:=hide (HW6.out.trans (hb7.mono HW6.out.size))
   clear hb7 K9'
   go_wp2
   go_loopw [18] (fun iv wr=>∃ i:Nat,iv=.int .i64 (i:Int)∧i≤q∧Below w.heap.size w wr∧Below w5.heap.size w5 wr) (fun iv _=>q - (intOf iv).toNat)
   case atStart=>exact ⟨0,rfl,Nat.zero_le _,HB7.out,HW7.out⟩
   case round =>
    obtain ⟨i,rfl,hi,hbw,hb5w⟩:=hrel
    obtain ⟨wo,hwo⟩:∃ wo,wr=wo:=⟨_,rfl⟩
    subst hwo
    by_cases hlti:i<q
    ·have hlti' : (i:Int)<(q:Int):=by omega
     obtain ⟨row,hrow⟩:∃ row,rows[i]? = some row:=⟨_,List.getElem?_eq_getElem (by have:=HZ1.out;omega)⟩
     obtain ⟨br,offr,ur,rfl,hblr,hur0,hrr⟩:=HI1.out.cell hrow
     have hrm:=List.mem_of_getElem? hrow
     have hrl:=HRL.out row hrm
     have x0:=(hbw.cell (p:=⟨br,offr+i,none⟩) hblr).trans hur0
     have hblr' := Nat.lt_of_lt_of_le hblr hbw.size
     have K10:=ajy wr g n se (.slice alS Ls.length clS) ur Ls row 1500 (HS.out.below hb5w) (HSl.out.below hb5w) HRS.out.2 (hrr.below hbw) hrl hn16 (by omega) (by omega)
     rw [HM.out.hol row hrm] at K10
     have K11:Hid (∀ w1,Below wr.heap.size wr w1→_):=(fun w1 hb=>ajy w1 g' n te tl ur Lt row 1500 (HT.out.below (hb5w.trans (hb.mono hb5w.size))) (HTl.out.below (hb5w.trans (hb.mono hb5w.size))) HRT.out.2 (hrr.below (hbw.trans (hb.mono hbw.size))) hrl hn16 (by omega) (by omega))
     rw [HM.out.own row hrm] at K11
     obtain ⟨pa,hpa⟩:∃ pa,pts.all (fun ps=>mk0 (n+1) (liftZ ps) row)=pa:=⟨_,rfl⟩
     rw [hpa] at K10
     have HPA:=hide hpa
     have K10:=hide K10
     have HW:=hide hbw
     have HW5:=hide hb5w
     have HX0:=hide x0
     have HRR:=hide hrr
     have HRL1:=hide hrl
     have HBLR:=hide hblr
     obtain ⟨aur,cur,rfl,_⟩:=hrr.parts
     rw [hrl] at x0 HX0 HRR K10 K11
     have HUR0:=hide hur0
     rw [hrl] at HUR0
     clear hbw hb5w hrow hrm hpa hrr hur0 hrl hblr
     go_wp2_with fail
     refine K10.out.mono ?_
     rintro e w8 ⟨rfl,hb8⟩
     have HB8:=hide (HW.out.trans (hb8.mono HW.out.size))
     have HW8:=hide (HW5.out.trans (hb8.mono HW5.out.size))
     have x8:=(hb8.cell (p:=⟨br,offr+i,none⟩) hblr').trans HX0.out
     have hbl8:=Nat.lt_of_lt_of_le hblr' hb8.size
     have K11' := hide (K11.out w8 hb8)
     clear hb8 K10 K11 x0
     go_wp2_with fail
     refine K11'.out.mono ?_
     rintro e w9 ⟨rfl,hb9⟩
     have HB9:=hide (HB8.out.trans (hb9.mono HB8.out.size))
     have HW9:=hide (HW8.out.trans (hb9.mono HW8.out.size))
     clear hb9 K11' x8 hbl8 hblr'
     go_wp2
     go_loopw [23,24] (fun bv jv wr=>∃ j:Nat,jv=.int .i64 (j:Int)∧j≤m∧Below w.heap.size w wr∧Below w5.heap.size w5 wr∧bv=.bool ((pts.take j).all (fun ps=>mk0 (n+1) (liftZ ps) row))) (fun _ jv _=>m - (intOf jv).toNat)
     case atStart=>exact ⟨0,rfl,Nat.zero_le _,HB9.out,HW9.out,by simp⟩
     case round =>
      obtain ⟨j,rfl,hj,hbw,hb5w,rfl⟩:=hrel
      by_cases hlt:j<m
      ·have hlt' : (j:Int)<(m:Int):=by omega
       obtain ⟨ps,hps⟩:∃ ps,pts[j]? = some ps:=⟨_,List.getElem?_eq_getElem (by have:=HZ0.out;omega)⟩
       obtain ⟨b2,off2,u2,hbe,hbl2,hu2,hur2⟩:=HI0.out.cell hps
       obtain ⟨rfl,rfl⟩:b=b2∧off=off2:=by simpa using hbe
       have hpm:=List.mem_of_getElem? hps
       have hpl:=HPL.out ps hpm
       have HY0:=hide ((hbw.cell (p:=⟨b,off+j,none⟩) hbl2).trans hu2)
       have hbly:=Nat.lt_of_lt_of_le hbl2 hbw.size
       have HX9:=hide ((hbw.cell (p:=⟨br,offr+i,none⟩) HBLR.out).trans HUR0.out)
       have hblx:=Nat.lt_of_lt_of_le HBLR.out hbw.size
       have HRR9:=hide (HRR.out.below hbw)
       obtain ⟨bb,hbb⟩:∃ bb,mk0 (n+1) (liftZ ps) row=bb:=⟨_,rfl⟩
       obtain ⟨ba2,hba2⟩:∃ ba,(pts.take j).all (fun ps=>mk0 (n+1) (liftZ ps) row)=ba:=⟨_,rfl⟩
       have HNX:Hid ((pts.take (j+1)).all (fun ps=>mk0 (n+1) (liftZ ps) row)=(ba2 && bb)):=(show _ = _ by rw [List.take_add_one,hps,List.all_append,hba2,←hbb];simp)
       rw [hba2]
       have HBB:=hide hbb
       have HW:=hide hbw
       have HW5:=hide hb5w
       have HPP9:=hide (hur2.below hbw)
       have HPL9:=hide hpl
       obtain ⟨a2,c2,rfl,_⟩:=hur2.parts
       rw [hpl] at HY0 HPP9
       have HLE:Hid (j+1≤m):=(show j+1≤m by omega)
       clear hbw hb5w hps hur2 hpm hpl hu2 hbb hba2 hbe hbl2
       cases ba2 with
       | true =>
        go_upto_region 33 with fail
        refine adj 11 [156,157,158,159,160,161,162,163,164,165,166] [Eqs (.bool true),Eqs (.bool true),Eqs (.slice (some ⟨br,offr,none⟩) q c1),Eqs (.int .i64 (i:Int)),Eqs (.pointer (some ⟨br,offr+i,none⟩)),Eqs (.slice aur (n+1) cur),Eqs (.slice (some ⟨b,off,none⟩) m c0),Eqs (.int .i64 (j:Int)),Eqs (.pointer (some ⟨b,off+j,none⟩)),Eqs (.slice a2 n c2),Eqs (.bool bb)] rfl rfl (by decide) (by kernel_rfl) (by kernel_rfl) (by decide) (by kernel_rfl) ⟨Eqs.mono _,Eqs.mono _,Eqs.mono _,Eqs.mono _,Eqs.mono _,Eqs.mono _,Eqs.mono _,Eqs.mono _,Eqs.mono _,Eqs.mono _,Eqs.mono _,trivial⟩ ?_ ?_
        ·exact ⟨⟨rfl,fun a_ w_ _ hB hR hD=>aai ((hR 23 rfl).trans (aab rfl))⟩,
           ⟨rfl,fun a_ w_ _ hB hR hD=>aai (show a_.eval (.tmp 156)=.bool true from hD 0 rfl)⟩,
           ⟨rfl,fun a_ w_ _ hB hR hD=>⟨by decide,fun _=>aai ((hR 1 rfl).trans (aab rfl)),fun hne=>absurd (hD 1 rfl) hne⟩⟩,
           ⟨rfl,fun a_ w_ _ hB hR hD=>⟨by decide,fun _=>aai ((hR 18 rfl).trans (aab rfl)),fun hne=>absurd (hD 1 rfl) hne⟩⟩,
           ⟨rfl,fun a_ w_ _ hB hR hD=>⟨by decide,fun _=>axw (show a_.eval (.tmp 158)=.slice (some ⟨br,offr,none⟩) q c1 from hD 2 rfl) (show a_.eval (.tmp 159)=.int .i64 (i:Int) from hD 3 rfl) hlti,fun hne=>absurd (hD 1 rfl) hne⟩⟩,
           ⟨rfl,fun a_ w_ _ hB hR hD=>⟨by decide,fun _=>a0t (show a_.eval (.tmp 160)=.pointer (some ⟨br,offr+i,none⟩) from hD 4 rfl) ((hB.cell (p:=⟨br,offr+i,none⟩) hblx).trans HX9.out),fun hne=>absurd (hD 1 rfl) hne⟩⟩,
           ⟨rfl,fun a_ w_ _ hB hR hD=>⟨by decide,fun _=>aai ((hR 0 rfl).trans (aab rfl)),fun hne=>absurd (hD 1 rfl) hne⟩⟩,
           ⟨rfl,fun a_ w_ _ hB hR hD=>⟨by decide,fun _=>aai ((hR 24 rfl).trans (aab rfl)),fun hne=>absurd (hD 1 rfl) hne⟩⟩,
           ⟨rfl,fun a_ w_ _ hB hR hD=>⟨by decide,fun _=>axy (show a_.eval (.tmp 162)=.slice (some ⟨b,off,none⟩) m c0 from hD 6 rfl) (show a_.eval (.tmp 163)=.int .i64 (j:Int) from hD 7 rfl) hlt,fun hne=>absurd (hD 1 rfl) hne⟩⟩,
           ⟨rfl,fun a_ w_ _ hB hR hD=>⟨by decide,fun _=>a0u (show a_.eval (.tmp 164)=.pointer (some ⟨b,off+j,none⟩) from hD 8 rfl) ((hB.cell (p:=⟨b,off+j,none⟩) hbly).trans HY0.out),fun hne=>absurd (hD 1 rfl) hne⟩⟩,
           ⟨rfl,fun a_ w_ _ hB hR hD=>⟨by decide,fun _=>avk (show a_.eval (.tmp 161)=.slice aur (n+1) cur from hD 5 rfl) (show a_.eval (.tmp 165)=.slice a2 n c2 from hD 9 rfl) (HRR9.out.below hB) HRL1.out (HPP9.out.below hB) HPL9.out hn16 (by omega) (by omega) HBB.out,fun hne=>absurd (hD 1 rfl) hne⟩⟩,
           trivial⟩
        ·intro a' w' hn' hd' hB' hR' hP'
         have e156:a'.eval (.tmp 156)=.bool true:=hP' 0 (by decide)
         have e157:a'.eval (.tmp 157)=.bool true:=hP' 1 (by decide)
         have e158:a'.eval (.tmp 158)=.slice (some ⟨br,offr,none⟩) q c1:=hP' 2 (by decide)
         have e159:a'.eval (.tmp 159)=.int .i64 (i:Int):=hP' 3 (by decide)
         have e160:a'.eval (.tmp 160)=.pointer (some ⟨br,offr+i,none⟩):=hP' 4 (by decide)
         have e161:a'.eval (.tmp 161)=.slice aur (n+1) cur:=hP' 5 (by decide)
         have e162:a'.eval (.tmp 162)=.slice (some ⟨b,off,none⟩) m c0:=hP' 6 (by decide)
         have e163:a'.eval (.tmp 163)=.int .i64 (j:Int):=hP' 7 (by decide)
         have e164:a'.eval (.tmp 164)=.pointer (some ⟨b,off+j,none⟩):=hP' 8 (by decide)
         have e165:a'.eval (.tmp 165)=.slice a2 n c2:=hP' 9 (by decide)
         have e166:a'.eval (.tmp 166)=.bool bb:=hP' 10 (by decide)
         refine aat hn' hd' hR' (.s16 rfl <| .s16 rfl <| .s16 rfl <| .s16 rfl <| .s16 rfl <| .s16 rfl <| .s16 rfl <| .s16 rfl <| .s16 rfl <| .s4 rfl <| .s4 rfl <| .s4 rfl <| .new e156 <| .new e157 <| .new e158 <| .new e159 <| .new e160 <| .new e161 <| .new e162 <| .new e163 <| .new e164 <| .new e165 <| .new e166 <| .s16 rfl <| .nil) ?_
         clear e156 e157 e158 e159 e160 e161 e162 e163 e164 e165 e166
         have HB10:=hide hB'
         clear hB' hR' hP' hn' hd'
         go_wp2
         go_roundw
         case rel=>exact ⟨j+1,by go_num,HLE.out,HW.out.trans (HB10.out.mono HW.out.size),HW5.out.trans (HB10.out.mono HW5.out.size),by rw [HNX.out];simp⟩
         case measure=>have:=HLE.out;simp [intOf];omega
       | false =>
        go_wp2
        go_quiet (fail)
        go_wp2
        go_roundw
        case rel =>
         have hbq:Below wr.heap.size wr (wr.drewN nq):=by (repeat' first|with_reducible(first|exact Below.refl _ _|assumption|refine gdrewN ?_ _|refine Below.alloc ?_ ?_ _|refine Below.drew ?_|refine Below.setCell ?_ ?_ _)|go_size)
         exact ⟨j+1,by go_num,HLE.out,HW.out.trans (hbq.mono HW.out.size),HW5.out.trans (hbq.mono HW5.out.size),by rw [HNX.out];simp⟩
        case measure=>have:=HLE.out;simp [intOf];omega
      ·have hlt' : decide ((j:Int)<(m:Int))=false:=by simp;omega
       obtain rfl:m=j:=by omega
       rw [List.take_of_length_le (by have:=HZ0.out;omega),HPA.out]
       have HW:=hide hbw
       have HW5:=hide hb5w
       have HLI:Hid (i+1≤q):=(show i+1≤q by omega)
       have hbn2:=ajz pa
       clear hbw hb5w
       go_wp2
       go_roundw
       case rel=>exact ⟨i+1,by go_num,HLI.out,HW.out,HW5.out⟩
       case measure=>have:=HLI.out;simp [intOf];omega
    ·have hlti' : decide ((i:Int)<(q:Int))=false:=by simp;omega
     have HW:=hide hbw
     clear hbw hb5w
     go_wp2
     refine bodyPost_ret (v:=_) (by simp [results,Tryz.results7,go_sem];try rfl) rfl ⟨rfl,HW.out⟩
end Lm
end Go.Proofs.YtpbllidpalgkkaaGreat
namespace Go.Proofs.YtpbllidpalgkkaaGreat
namespace spanLeastLaw
open Go.ChangeShapes Go.WideShapes Go.ChangeAt Go.RowKit
open Go.ChangeMaps (open_string shut_string)
theorem own:ownKnob Tryz.prog.godebug=none:=by kernel_rfl
theorem laidOut:laidOutB Tryz.prog=true:=by kernel_rfl
set_option linter.unusedVariables false in
set_option maxRecDepth 100000 in
theorem lifted (os:Os) (started:os.Started) (H:Type) (enc:TypeId × Value→H) (F:Stop.Interp) :
  ReturnsInHanded {} Tryz.checked os 7 .any ((Rows.OpenSpec.upto Rows.spanLeastSpec).pre6 enc Tryz.prog Tryz.f7 Rows.spanLeastUptoRow.domain false) (((Rows.OpenSpec.upto Rows.spanLeastSpec).at F).post enc Tryz.prog Tryz.f7 false true false false):=by
 refine returnsInHanded_of_cond (C:=Tryz.checked) (s:=Rows.OpenSpec.upto Rows.spanLeastSpec) (k:=Rows.uptoSmall) rfl own started (by kernel_rfl) Tryz.func7
  (OpenSpec.witness (enc:=enc) (C:=Tryz.checked) (s:=Rows.OpenSpec.upto Rows.spanLeastSpec) (k:=Rows.uptoSmall) rfl false ⟨#[],#[.slice none 0 0,.slice none 0 0],[]⟩ 8 (by kernel_rfl) (by kernel_rfl) (by kernel_rfl)
   (x:=([.nil,.nil],[],[])) (by kernel_rfl) rfl (by kernel_rfl)) ?_
 intro W base args ds gs before hval0 hW _ hk _
 have hval:∀ (j:Nat) t v,Tryz.f7.params[j]? = some t→args[j]? = some v→Value.okWide Tryz.prog W .any base t v:=hval0
 have hW' := hW
 obtain ⟨p,q,hA0,hV,rfl,hfz,hnd⟩:=hW
 have hA:DataW.TrodAll enc Tryz.prog W 0 (fun _=>true) true Tryz.f7.params.toList args.toList ds p:=hA0
 rw [Tryz.params7] at hA hval
 obtain ⟨v0,vs0,d0,ds0,p0,q0,hargs,rfl,rfl,h0,r_0⟩:=trodAll_cons hA
 obtain ⟨v1,vs1,d1,ds1,p1,q1,rfl,rfl,rfl,h1,r_1⟩:=trodAll_cons r_0
 obtain ⟨rfl,rfl,rfl⟩:=trodAll_nil r_1
 obtain rfl:args = #[v0,v1]:=by cases args;simp_all
 obtain ⟨rfl,rfl⟩:=trodVars_none hV
 have hbulk:Rows.uptoBulkAll ([d0,d1]:List (DataW H))≤1048576:=by
  have h:=of_decide_eq_true hk
  simpa only [List.append_nil] using h
 simp only [Rows.uptoBulkAll] at hbulk
 obtain ⟨a0,len0,cap0,rfl⟩:=okWide_slice Tryz.underlying22 (hval 0 22 v0 rfl rfl)
 have k0:=h0
 have lt0:∀ x ∈ p0,x.block<W.heap.size:=by obtain ⟨m,hm⟩:=k0;exact DataW.trod_lt m _ _ _ hm
 obtain ⟨z0,w0,b0⟩:∃ es,Lm.RfM W (.slice a0 len0 cap0) es∧Lm.lenFM es+1≤Rows.uptoBulk d0:=by
  obtain ⟨fuel,hf⟩:=h0
  exact Lm.a0m (x:=(d0,p0)) (by simpa [Value.cells] using hf)
 obtain ⟨a1,len1,cap1,rfl⟩:=okWide_slice Tryz.underlying23 (hval 1 23 v1 rfl rfl)
 have k1:=h1
 have lt1:∀ x ∈ p1,x.block<W.heap.size:=by obtain ⟨m,hm⟩:=k1;exact DataW.trod_lt m _ _ _ hm
 obtain ⟨z1,w1,b1⟩:∃ es,Lm.RwM W (.slice a1 len1 cap1) es∧Lm.lenM es+1≤Rows.uptoBulk d1:=by
  obtain ⟨fuel,hf⟩:=h1
  exact Lm.auh (x:=(d1,p1)) (by simpa [Value.cells] using hf)
 clear hA0 hval0
 refine (Lm.als W _ _ z0 z1 w0 w1 (by omega) (by omega)).mono fun e W' ⟨he,bel⟩=>?_
 subst he
 exact ⟨_,rfl,_,_,_,[],_,[],hW',trodAll_mk1 (shut_bool Tryz.underlying4 _),(trodAll_cons_mk (Below.trod laidOut (by kernel_rfl) (of_decide_eq_true (by kernel_rfl)) k0 bel lt0) (trodAll_cons_mk (Below.trod laidOut (by kernel_rfl) (of_decide_eq_true (by kernel_rfl)) k1 bel lt1) trodAll_mk0)),rfl,bel.frame _,fun h=>by cases h⟩
theorem over:Rows.SpanLeastUptoSaid :=
 OpenClaim.holds_of_cond 7 Tryz.f7 rfl rfl rfl rfl rfl rfl rfl ⟨rfl,rfl,rfl,rfl,rfl⟩ rfl rfl rfl rfl rfl (by kernel_rfl) Tryz.func7 (by kernel_rfl)
  (of_decide_eq_true (by kernel_rfl)) (by unfold Func.isWrapper;first | (rw [if_pos (by decide +kernel)];kernel_rfl) | (rw [if_neg (by decide +kernel)];exact ⟨rfl,rfl⟩))
  (fun os started H enc _ F=>lifted os started H enc F)
end spanLeastLaw
theorem spanLeast_upto:Rows.SpanLeastUptoSaid:=spanLeastLaw.over
#print axioms spanLeast_upto
end Go.Proofs.YtpbllidpalgkkaaGreat
