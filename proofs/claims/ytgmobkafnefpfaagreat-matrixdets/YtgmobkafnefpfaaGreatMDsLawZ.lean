/-
  The given statement on MatrixDets, for every input: the call answers true, and each argument reads behind it as it read before. No condition beyond the statement's own. Beside it: Rows of the document's fractions that are made, one behind the other; and two that are exchanged. Single operations on rows of rows of the document's fractions. Determinants, as the document makes them: along the first column; and by fractions, minors over minors. No program is named here. The document's Product: what its fractions are, column by column. No program is named here. The document's minor: the rows without their first number, and without one of them. The document's Expanded: the determinant along the first column. Fractions that Solve answers: how long they are; sums of them; Mul, Cmp, Sign, Limbs by worth. The document's fractions as rationals: single operations, and what Product's state is. The document's Product: the determinant by fractions. Both sides of Det: what the program and the document answer of rows that lie alike. The law on Det: it answers as the document does.
-/
import Derived.Test.YtgmobkafnefpfaaGreatRows
import Derived.ProofKit
import Derived.OpenShut
import Derived.ShutString
import Derived.ChangeOld
import Derived.SizedLaws
import Derived.Test.YtgmobkafnefpfaaGreatMDsLawZ4
namespace Go.Proofs.YtgmobkafnefpfaaGreat
namespace Lm
open Go Go.RowKit Md
def slQ (n:Nat) (p:Nat × Nat):Value:=.slice (some ⟨p.1,0,none⟩) n p.2
structure QmO (B:Nat) (w:World) (v:Value) (n:Nat) (us:List (Nat × Nat)) (r:Nat→Nat→Rat) (L:Nat):Prop where
 own:w.ownsRow B 75 1 v us.length (us.map (slQ n))
 noi:NoI w v
 base:∀ p ∈ us,B≤p.1
 apart:(us.map Prod.fst).Nodup
 room:∀ p ∈ us,n≤p.2∧p.2≤9223372036854775807
 rows:∀ (i:Nat) (p:Nat × Nat),us[i]? = some p→PFx w p.1 n (fun _=>True) (r i) L
theorem aws (B:Nat) (w:World) (n:Nat) (r:Nat→Nat→Rat) (L:Nat):QmO B w (.slice none 0 0) n [] r L:=⟨World.ownsRow_nil w B _ 1,fun g cs T hg=>by simp [Value.ownBlock] at hg,fun p hp=>(by cases hp),List.nodup_nil,fun p hp=>(by cases hp),fun i p hp=>by simp at hp⟩
theorem QmO.below {B:Nat} {w w' : World} {v:Value} {n:Nat} {us:List (Nat × Nat)} {r:Nat→Nat→Rat} {L:Nat} (h:QmO B w v n us r L) (hb:Below w.heap.size w w'):QmO B w' v n us r L :=
 ⟨h.own.kept (row:=none) ⟨hb.os,hb.tape,hb.output,hb.size,fun k hk _=>hb.block k hk⟩ (by cases hv:v.ownBlock <;> simp),h.noi.below (fun k hk=>(h.own.lt k hk).2) hb,h.base,h.apart,h.room,fun i p hp=>(h.rows i p hp).below hb⟩
theorem PFx.ne {w:World} {bv n g:Nat} {ok:Nat→Prop} {r:Nat→Rat} {L:Nat} {cs:Array Value} (h:PFx w bv n ok r L) (hg:w.heap[g]? = some (.cells cs 75 (0,0))):bv≠g:=fun e=>by
 obtain ⟨fs,sp,_,_,h2,_⟩:=h
 rw [e,hg] at h2
 injection h2 with h2
 injection h2 with _ h2 _
 exact absurd h2 (by decide)
theorem ajd {w w' : World} {g:Nat} {cs:Array Value} (hg:w.heap[g]? = some (.cells cs 75 (0,0))) (hI:∀ x ∈ cs.toList,isI x=false) (hs:w.heap.size≤w'.heap.size) (hk:∀ k,k<w.heap.size→k≠g→w'.heap[k]? = w.heap[k]?):Rl w w' := by
 refine ⟨hs,fun p k z e=>?_,fun k cs T hT e=>?_⟩
 ·rw [World.cell?_of_block (w:=w) (hk p.block (acn e) fun hb=>?_)]
  ·exact e
  ·obtain ⟨pb,po,pm⟩:=p
   simp only at hb
   subst hb
   simp only [World.cell?,hg] at e
   cases pm with
   | some m=>simp at e
   | none =>
    have hm:=hI (.int k z) (Array.mem_toList_iff.2 (Array.mem_of_getElem? (i:=po) (by simpa using e)))
    exact absurd hm (by simp [isI])
 ·refine (hk k (aaa e) fun hb=>?_).trans e
  subst hb
  rw [hg] at e
  injection e with e
  injection e with _ e _
  rcases hT with rfl | rfl
  ·exact absurd e (by decide)
  ·exact absurd e (by decide)
section
variable {dst:Option Tmp} {ty:TypeId} {pos:String} {after:Array Edge} {guard:Option (Nat × Bool)} {a:Act} {w:World} {ats:Array TypeId} {i j:Nat}
theorem infoSq:(Tryz.prog.info? 75).map (fun i=>(i.zero,i.size,i.bytes))=some (some (.slice none 0 0),1,24):=by kernel_rfl
theorem att {B g n:Nat} {v:Value} {us:List (Nat × Nat)} {r:Nat→Nat→Rat} {r' : Nat→Rat} {L:Nat} {p:Nat × Nat} (h1:a.eval (.tmp i)=v) (h2:a.eval (.tmp j)=.slice (some ⟨g,0,none⟩) 1 1) (R:QmO B w v n us r L) (O:w.heap[g]? = some (.cells #[slQ n p] 75 (0,0))) (S:PFx w p.1 n (fun _=>True) r' L) (hp:B≤p.1∧p.1 ∉ us.map Prod.fst∧n≤p.2∧p.2≤9223372036854775807) (hn:us.length≤1000000) (hB:B≤w.heap.size) :
  Does Tryz.prog { dst,op:=.call { callee:=.builtin .append,args:=#[.tmp i,.tmp j],argTypes:=#[74,74] },type:=ty,pos,after,guard } a.eval w fun v' w'=>QmO B w' v' n (us ++ [p]) (fun i'=>if i' = us.length then r' else r i') L∧Below B w w' := by
 obtain ⟨i0,hi,hz0,hz1,hz2⟩:=info_parts infoSq
 have hcl:∀ (k:Nat) (x:Value),[slQ n p][k]? = some x→w.cell? ((⟨g,0,none⟩:Addr).add k)=some x:=fun k x hx=>by
  have hc:∀ k,w.cell? ⟨g,k,none⟩ = #[slQ n p][k]? := fun k=>cell_of_row w g k _ _ (0,0) O
  have ha:(⟨g,0,none⟩:Addr).add k=⟨g,k,none⟩:=by unfold Addr.add;split <;> simp_all
  rw [ha,hc]
  simpa using hx
 have h1c:∀ x ∈ [slQ n p],x.oneCell' = true:=fun x hx=>by obtain rfl:=List.mem_singleton.1 hx;rfl
 have hlm:(us.map (slQ n)).length=us.length:=List.length_map ..
 obtain ⟨v',w',hr,ho,hgr,_⟩:=run_append_own (P:=Tryz.prog) w B 74 ty 75 i0 _ 1 24 Tryz.underlying74 hi hz0 hz1 hz2 rfl (by decide) v us.length (us.map (slQ n)) R.own ⟨g,0,none⟩ 1 1 [slQ n p] rfl hcl h1c (by simp [maxLen];omega) (by omega) hB
 have e:(execOp a.eval { dst,op:=.call { callee:=.builtin .append,args:=#[.tmp i,.tmp j],argTypes:=#[74,74] },type:=ty,pos,after,guard }).run Tryz.prog w=.ok (.value v') w' := by
  simp only [execOp,resolve,invoke,builtin,Sem.run_bind,Sem.run_pure,Result.andThen_ok,List.map_toArray,List.map_cons,List.map_nil,h1,h2,hr]
 refine ⟨?_⟩
 unfold Turns
 rw [e]
 have hkeep:∀ {b:Nat} {f:Nat→Rat},PFx w b n (fun _=>True) f L→PFx w' b n (fun _=>True) f L:=fun {b f} hx=>by
  rcases R.own.2 with ⟨rfl,_⟩ | ⟨g',cap,cur,rfl,_,hh,h5,h6,h7,h8⟩
  ·exact hx.below ⟨hgr.os,hgr.tape,hgr.output,hgr.size,fun k hk=>hgr.block k hk (by simp [Value.ownBlock])⟩
  ·have hne:=hx.ne hh
   exact hx.rl (ajd hh (R.noi _ cur _ rfl hh) hgr.size (fun k hk hne=>hgr.block k hk (by simp [Value.ownBlock];exact fun h=>hne h))) (hgr.block b hx.lt (by simp [Value.ownBlock];exact fun h=>hne h))
 have hown:=R.own
 rw [←hz1] at hown
 have hni:NoI w' v' := agf (P:=Tryz.prog) w B 74 ty 75 i0 _ 24 Tryz.underlying74 hi hz0 hz2 (by omega) v us.length (us.map (slQ n)) hown ⟨g,0,none⟩ 1 [slQ n p] (by rw [hz1];rfl) hcl h1c (by simp [maxLen];omega) (by omega) R.noi (by simp [slQ,isI]) (by simp [Value.cells,isI]) hr
 refine ⟨⟨by rw [List.length_append,List.map_append];exact ho,hni,fun q hq=>?_,?_,fun q hq=>?_,fun k q hq=>?_⟩,⟨hgr.os,hgr.tape,hgr.output,hgr.size,fun k hk=>hgr.block k (by omega) (fun e=>?_)⟩⟩
 ·rcases List.mem_append.1 hq with hq | hq
  ·exact R.base q hq
  ·obtain rfl:=List.mem_singleton.1 hq
   exact hp.1
 ·rw [List.map_append]
  refine List.nodup_append.2 ⟨R.apart,by simp,fun x hx y hy e=>?_⟩
  simp only [List.map_cons,List.map_nil,List.mem_singleton] at hy
  rw [e,hy] at hx
  exact hp.2.1 hx
 ·rcases List.mem_append.1 hq with hq | hq
  ·exact R.room q hq
  ·obtain rfl:=List.mem_singleton.1 hq
   exact hp.2.2
 ·by_cases hk:k<us.length
  ·rw [List.getElem?_append_left hk] at hq
   rw [if_neg (by omega)]
   exact hkeep (R.rows k q hq)
  ·have hkl:=(List.getElem?_eq_some_iff.1 hq).1
   simp at hkl
   obtain rfl:k=us.length:=by omega
   rw [List.getElem?_append_right (Nat.le_refl _)] at hq
   simp at hq
   subst hq
   rw [if_pos rfl]
   exact hkeep S
 ·have:=R.own.lt k e.symm
  omega
end
theorem QmO.made {B:Nat} {w:World} {v:Value} {n:Nat} {us:List (Nat × Nat)} {r:Nat→Nat→Rat} {L:Nat} (h:QmO B w v n us r L) (hn:0<us.length):∃ g cap,v=.slice (Option.some ⟨g,0,none⟩) us.length cap∧QMx B w g n us r L:=by
 obtain ⟨h1,⟨_,h0⟩ | ⟨g,cap,cur,rfl,hg,hh,hc,hm,hs,ht⟩⟩:=h.own
 ·omega
 ·refine ⟨g,cap,rfl,⟨cur.toList.drop (us.length*1),fun x hx=>h.noi g cur _ rfl hh x (List.mem_of_mem_drop hx),?_⟩,⟨hg,fun p hp=>⟨h.base p hp,?_⟩⟩,h.apart,h.room,h.rows⟩
  ·rw [show (us.map fun p=>Value.slice (Option.some ⟨p.1,0,none⟩) n p.2)=us.map (slQ n) from rfl,←ht,List.take_append_drop]
   exact hh
  ·obtain ⟨i,hi⟩:=List.getElem?_of_mem hp
   exact (h.rows i p hi).ne hh
theorem QMx.swap {B:Nat} {w:World} {gq n:Nat} {us:List (Nat × Nat)} {r:Nat→Nat→Rat} {L i k:Nat} {p q:Nat × Nat} (h:QMx B w gq n us r L) (hp:us[i]? = Option.some p) (hq:us[k]? = Option.some q) (hik:i≠k) :
  QMx B ((w.setCell ⟨gq,k,none⟩ (slQ n p)).setCell ⟨gq,i,none⟩ (slQ n q)) gq n ((us.set k p).set i q) (fun j=>if j=i then r k else if j=k then r i else r j) L∧Below B w ((w.setCell ⟨gq,k,none⟩ (slQ n p)).setCell ⟨gq,i,none⟩ (slQ n q))∧Rl w ((w.setCell ⟨gq,k,none⟩ (slQ n p)).setCell ⟨gq,i,none⟩ (slQ n q))∧∀ j,j≠gq→((w.setCell ⟨gq,k,none⟩ (slQ n p)).setCell ⟨gq,i,none⟩ (slQ n q)).heap[j]? = w.heap[j]? := by
 generalize hW:(w.setCell ⟨gq,k,none⟩ (slQ n p)).setCell ⟨gq,i,none⟩ (slQ n q)=W
 obtain ⟨sp,hsp,h1⟩:=h.top
 have hil:=(List.getElem?_eq_some_iff.1 hp).1
 have hkl:=(List.getElem?_eq_some_iff.1 hq).1
 have hot:∀ j,j≠gq→W.heap[j]? = w.heap[j]? := fun j hn=>by rw [←hW,heap_setCell_other _ ⟨gq,i,none⟩ j _ hn,heap_setCell_other _ ⟨gq,k,none⟩ j _ hn]
 have hsz:W.heap.size=w.heap.size:=by rw [←hW];simp [World.setCell]
 have hou:W.os=w.os∧W.tape=w.tape∧W.output=w.output:=by rw [←hW];exact ⟨rfl,rfl,rfl⟩
 have hI:∀ x ∈ (us.map (fun p=>Value.slice (Option.some ⟨p.1,0,none⟩) n p.2) ++ sp).toArray.toList,isI x=false:=fun x hx=>by
  rcases List.mem_append.1 hx with hx | hx
  ·obtain ⟨y,_,rfl⟩:=List.mem_map.1 hx
   rfl
  ·exact hsp x hx
 have hrl:Rl w W:=ajd h1 hI (Nat.le_of_eq hsz.symm) (fun j _ hn=>hot j hn)
 have htop:W.heap[gq]? = Option.some (.cells (((us.set k p).set i q).map (fun p=>Value.slice (Option.some ⟨p.1,0,none⟩) n p.2) ++ sp).toArray 75 (0,0)):=by
  rw [←hW]
  have s1:=heap_setCell_same w gq k _ _ (slQ n p) h1
  have s2:=heap_setCell_same _ gq i _ _ (slQ n q) s1
  rw [s2]
  simp only [List.setIfInBounds_toArray,List.set_append,List.length_map]
  rw [if_pos hkl]
  simp only [List.set_append,List.length_set,List.length_map]
  rw [if_pos hil,List.map_set,List.map_set]
  rfl
 have hbs:=h.base
 have hmem:∀ x ∈ (us.set k p).set i q,x ∈ us:=fun x hx=>by
  rcases List.mem_or_eq_of_mem_set hx with hx | rfl
  ·rcases List.mem_or_eq_of_mem_set hx with hx | rfl
   ·exact hx
   ·exact List.mem_of_getElem? hp
  ·exact List.mem_of_getElem? hq
 have hat:∀ (j:Nat) (x:Nat × Nat),((us.set k p).set i q)[j]? = Option.some x→us[if j=i then k else if j=k then i else j]? = Option.some x:=fun j x hx=>by
  by_cases e1:j=i
  ·subst e1
   rw [List.getElem?_set_self (by simpa using hil)] at hx
   rw [if_pos rfl,hq]
   exact hx
  ·rw [List.getElem?_set_ne (fun e=>e1 e.symm)] at hx
   by_cases e2:j=k
   ·subst e2
    rw [List.getElem?_set_self hkl] at hx
    rw [if_neg e1,if_pos rfl,hp]
    exact hx
   ·rw [List.getElem?_set_ne (fun e=>e2 e.symm)] at hx
    rw [if_neg e1,if_neg e2]
    exact hx
 refine ⟨⟨⟨sp,hsp,htop⟩,⟨hbs.1,fun x hx=>hbs.2 x (hmem x hx)⟩,?_,fun x hx=>h.room x (hmem x hx),fun j x hx=>?_⟩,⟨hou.1,hou.2.1,hou.2.2,Nat.le_of_eq hsz.symm,fun j hj=>hot j (by omega)⟩,hrl,hot⟩
 ·have hinj:∀ (j j' : Nat) (x x' : Nat × Nat),us[j]? = Option.some x→us[j']? = Option.some x'→x.1=x'.1→j=j' := fun j j' x x' hx hx' e=>by
   have ha:(us.map Prod.fst)[j]? = Option.some x.1:=by rw [List.getElem?_map,hx];rfl
   have hb:(us.map Prod.fst)[j']? = Option.some x'.1:=by rw [List.getElem?_map,hx'];rfl
   have hi' := (List.getElem?_eq_some_iff.1 ha).1
   rw [e,←hb] at ha
   exact (List.getElem?_inj hi' h.apart).1 ha
  rw [List.Nodup,List.pairwise_iff_getElem]
  intro j j' hj hj' hlt heq
  simp only [List.length_map,List.length_set] at hj hj'
  obtain ⟨x,hx⟩:∃ x,((us.set k p).set i q)[j]? = Option.some x:=⟨_,List.getElem?_eq_getElem (by simpa using hj)⟩
  obtain ⟨x',hx'⟩:∃ x,((us.set k p).set i q)[j']? = Option.some x:=⟨_,List.getElem?_eq_getElem (by simpa using hj')⟩
  have e1:=(List.getElem?_eq_some_iff.1 hx).2
  have e2:=(List.getElem?_eq_some_iff.1 hx').2
  have he:x.1=x'.1:=by
   rw [←e1,←e2]
   rw [List.getElem_map,List.getElem_map] at heq
   exact heq
  have:=hinj _ _ x x' (hat j x hx) (hat j' x' hx') he
  split at this <;> split at this <;> (try split at this) <;> (try split at this) <;> omega
 ·have h3:=h.rows _ x (hat j x hx)
  have hne:=(hbs.2 x (hmem x (List.mem_of_getElem? hx))).2
  have h4:=h3.rl hrl (hot x.1 hne)
  refine h4.mono fun c _ _=>⟨trivial,?_⟩
  by_cases e1:j=i
  ·simp [e1]
  ·by_cases e2:j=k
   ·have hki:¬ k=i:=fun e=>hik e.symm
    simp [e2,hki]
   ·simp [e1,e2]
end Lm
end Go.Proofs.YtgmobkafnefpfaaGreat
namespace Go.Proofs.YtgmobkafnefpfaaGreat
namespace Lm
open Go Go.RowKit Md
section
variable {dst:Option Tmp} {ty:TypeId} {pos:String} {after:Array Edge} {guard:Option (Nat × Bool)} {a:Act} {w:World} {ats:Array TypeId} {i j:Nat}
theorem acy {b n c q:Nat} (h:a.eval (.tmp i)=.slice (some ⟨b,0,none⟩) n c) (hk:a.eval (.tmp j)=.int .i64 (q:Int)) (hl:q<n):Does Tryz.prog { dst,op:=.indexAddr 74 (.tmp i) (.tmp j),type:=ty,pos,after,guard } a.eval w fun v' w'=>Below w.heap.size w w'∧Eqs (.pointer (some ⟨b,q,none⟩)) v' w' := by
 have hl' : (q:Int)<(n:Int):=by omega
 refine ⟨?_⟩
 unfold Turns
 simp only [execOp,h,hk]
 go_simp
 exact ⟨Below.refl _ _,by simp [Eqs]⟩
theorem adj {b q:Nat} {ao:Option Addr} {n c:Nat} (hp:a.eval (.tmp i)=.pointer (some ⟨b,q,none⟩)) (h0:w.cell? ⟨b,q,none⟩ = some (.slice ao n c)):Does Tryz.prog { dst,op:=.load 75 (.tmp i),type:=ty,pos,after,guard } a.eval w fun v' w'=>Below w.heap.size w w'∧Eqs (.slice ao n c) v' w' := by
 refine aay (v:=.slice ao n c) ?_ ⟨Below.refl _ _,rfl⟩
 rw [hp]
 go_simp
theorem am3 {b o:Nat} {ng:Bool} {ao:Option Addr} {n c:Nat} {mg:Bool} {bo:Option Addr} {m d:Nat} {q:Says} (hp:a.eval (.tmp i)=.pointer (some ⟨b,o,none⟩)) (h0:w.cell? ⟨b,o,none⟩ = some (.bool ng)) (h1:w.cell? ⟨b,o+1,none⟩ = some (.slice ao n c)) (h2:w.cell? ⟨b,o+2,none⟩ = some (.bool mg)) (h3:w.cell? ⟨b,o+3,none⟩ = some (.slice bo m d)) (hv:q (.agg #[.bool ng,.slice ao n c,.bool mg,.slice bo m d]) w) :
  Does Tryz.prog { dst,op:=.load 77 (.tmp i),type:=ty,pos,after,guard } a.eval w fun v' w'=>Below w.heap.size w w'∧q v' w' := by
 refine aay (v:=.agg #[.bool ng,.slice ao n c,.bool mg,.slice bo m d]) ?_ ⟨Below.refl _ _,hv⟩
 rw [hp]
 go_simp
def NewQ (n:Nat):Says:=fun v w=>∃ g,n≤g∧v=.pointer (some ⟨g,0,none⟩)∧w.heap[g]? = some (.cells #[.bool false,.slice none 0 0,.bool false,.slice none 0 0] 77 (0,0))
theorem NewQ.mono (n:Nat):Mono (NewQ n):=fun _ _ _ hb ⟨g,h1,h2,h3⟩=>⟨g,h1,h2,(hb.block _ (aaa h3)).trans h3⟩
theorem am4 {n:Nat} (hn:n≤w.heap.size):Does Tryz.prog { dst,op:=.alloc 77,type:=ty,pos,after,guard } a.eval w fun v w'=>Below w.heap.size w w'∧NewQ n v w' := by
 obtain ⟨i0,hi,hz0,hz1,hz2⟩:=info_parts infoQ
 refine afc (v:=.pointer (some ⟨w.heap.size,0,none⟩)) (w' := w.alloc (.cells #[.bool false,.slice none 0 0,.bool false,.slice none 0 0] 77)) ?_ ⟨hAl _ _,_,hn,rfl,heap_alloc_new _ _⟩
 go_simp
end
theorem PFx.at {w:World} {bv n:Nat} {ok:Nat→Prop} {r:Nat→Rat} {L k:Nat} (h:PFx w bv n ok r L) (hk:k<n) (ho:ok k):∃ ng a m c mg d e f,w.cell? ⟨bv,k*4,none⟩ = some (.bool ng)∧w.cell? ⟨bv,k*4+1,none⟩ = some (.slice a m c)∧w.cell? ⟨bv,k*4+2,none⟩ = some (.bool mg)∧w.cell? ⟨bv,k*4+3,none⟩ = some (.slice d e f)∧OutN (r k).num L (.agg #[.bool ng,.slice a m c]) w∧OutN ((r k).den:Int) L (.agg #[.bool mg,.slice d e f]) w:=by
 obtain ⟨fs,sp,_,h1,h2,h3⟩:=h
 obtain ⟨f,g,hf,hg,o1,o2⟩:=h3 k hk ho
 obtain ⟨f1,f2⟩:=abl hf
 obtain ⟨g1,g2⟩:=abl hg
 rw [show 2*k*2=k*4 by omega] at f1 f2
 rw [show (2*k+1)*2=k*4+2 by omega] at g1 g2
 have hl:=abg fs
 have hc:∀ j,j<n*4→w.cell? ⟨bv,j,none⟩ = (flat fs)[j]? := fun j hj=>by rw [cell_of_row _ _ _ _ _ (0,0) h2,List.getElem?_toArray,List.getElem?_append_left (by omega)]
 exact ⟨_,_,_,_,_,_,_,_,(hc _ (by omega)).trans f1,(hc _ (by omega)).trans f2,(hc _ (by omega)).trans g1,(hc _ (by omega)).trans g2,o1,o2⟩
end Lm
end Go.Proofs.YtgmobkafnefpfaaGreat
namespace Go.Proofs.YtgmobkafnefpfaaGreat
namespace Lm
open Go Go.RowKit Md
theorem aro (x:Md.Rw) (c:Nat):∀ (g:List Nat→Int) (cs:List Nat),Md.w x g (cs ++ [c])=Md.w x (fun l=>g (l ++ [c])) cs+sgn cs.length*(x c*g cs)
 | g,[]=>by simp [Md.w,sgn]
 | g,d :: cs=>by
  have:=aro x c (fun l=>g (d :: l)) cs
  simp only [List.cons_append,List.length_cons,Md.w,sgn]
  rw [this]
  grind
theorem arp (x:Md.Rw):∀ (g:List Nat→Int) (n:Nat),(∀ l:List Nat,l.length≠n→g l=0)→∀ cs:List Nat,cs.length≠n+1→Md.w x g cs=0
 | g,n,h,[],_=>rfl
 | g,n,h,d :: cs,hl=>by
  simp only [List.length_cons] at hl
  rw [Md.w,h cs (by omega)]
  cases n with
  | zero =>
   have h1:∀ l:List Nat,(fun l=>g (d :: l)) l=0:=fun l=>h _ (by simp)
   rw [acv x h1,aku]
   omega
  | succ n =>
   rw [arp x (fun l=>g (d :: l)) n (fun l hl=>h _ (by simp;omega)) cs (by omega)]
   omega
theorem alh:∀ (R:List Md.Rw) (cs:List Nat),cs.length≠R.length→D R cs=0
 | [],cs,h=>if_neg (fun e=>h (by rw [e];rfl))
 | x :: R,cs,h=>arp x (D R) R.length (fun l hl=>alh R l hl) cs (by simpa using h)
def lapS (S:List Md.Rw) (c:Nat) (cs:List Nat):Nat→Int
 | 0=>0
 | k+1=>lapS S c cs k+sgn k*((S.getD k (fun _=>0)) c*D (S.eraseIdx k).reverse cs)
theorem arq (S:List Md.Rw) (x:Md.Rw) (c:Nat) (cs:List Nat):∀ k,k≤S.length→Md.w x (fun l=>lapS S c l k) cs=lapS (S ++ [x]) c cs k
 | 0,_=>aku x cs
 | k+1,h=>by
  simp only [lapS]
  rw [at7,arq S x c cs k (by omega),List.getD_eq_getElem?_getD (l:=S ++ [x]),List.getElem?_append_left (by omega),←List.getD_eq_getElem?_getD,List.eraseIdx_append_of_lt_length (by omega),List.reverse_append,afk,afk]
  rfl
theorem ali (c:Nat):∀ (R:List Md.Rw) (cs:List Nat),D R (cs ++ [c])=lapS R.reverse c cs R.length
 | [],cs=>by
  rw [alh [] _ (by simp)]
  rfl
 | x :: R,cs=>by
  show Md.w x (D R) (cs ++ [c]) = _
  rw [aro,acv x (fun l=>ali c R l),arq _ _ _ _ _ (by simp),List.reverse_cons,List.length_cons,lapS]
  congr 1
  have h1:(R.reverse ++ [x]).getD R.length (fun _=>0)=x:=by
   rw [List.getD_eq_getElem?_getD,List.getElem?_append_right (by simp)]
   simp
  have h2:(R.reverse ++ [x]).eraseIdx R.length=R.reverse:=by
   rw [List.eraseIdx_append_of_length_le (by simp)]
   simp
  rw [h1,h2,List.reverse_reverse]
  by_cases h:cs.length=R.length
  ·rw [h]
  ·rw [alh R cs h]
   simp
theorem awt (x:Md.Rw) (g:List Nat→Int):∀ cs:List Nat,Md.w (fun c=>x (c+1)) (fun l=>g (l.map (·+1))) cs=Md.w x g (cs.map (·+1)):=by
 intro cs
 induction cs generalizing g with
 | nil=>rfl
 | cons c cs ih =>
  simp only [List.map_cons,Md.w]
  rw [←ih (fun l=>g ((c+1) :: l))]
theorem am5:∀ (R:List Md.Rw) (cs:List Nat),D (R.map fun x c=>x (c+1)) cs=D R (cs.map (·+1))
 | [],cs=>by
  cases cs <;> rfl
 | x :: R,cs=>by
  show Md.w (fun c=>x (c+1)) (D (R.map fun x c=>x (c+1))) cs = _
  rw [acv _ (fun l=>am5 R l),awt]
  rfl
theorem arr (n:Nat):colD (n+1)=(colD n).map (·+1) ++ [0]:=by
 unfold colD
 rw [List.range_succ_eq_map,List.reverse_cons,List.map_reverse]
def mnr (m:List (List Int)) (k:Nat):List (List Int):=(m.eraseIdx k).map (List.drop 1)
def exS (n:Nat) (m:List (List Int)):Nat→Int
 | 0=>0
 | k+1=>exS n m k+sgn k*(fnR (m.getD k []) 0*dt n (mnr m k))
theorem atu (r:List Int):fnR (r.drop 1)=fun c=>fnR r (c+1):=by
 funext c
 cases r <;> simp [fnR]
theorem aje {α β:Type} (f:α→β):∀ (l:List α) (k:Nat),(l.map f).eraseIdx k=(l.eraseIdx k).map f
 | [],_=>rfl
 | _ :: _,0=>rfl
 | a :: l,k+1=>by
  simp only [List.map_cons,List.eraseIdx_cons_succ,aje f l k]
theorem awu (n:Nat) (m:List (List Int)):dt (n+1) m=exS n m m.length:=by
 have key:∀ k,k≤m.length→lapS (m.map fnR) 0 ((colD n).map (·+1)) k=exS n m k:=by
  intro k
  induction k with
  | zero=>intro _;rfl
  | succ k ih =>
   intro h
   rw [lapS,exS,ih (by omega)]
   have h1:(m.map fnR).getD k (fun _=>0)=fnR (m.getD k []):=by
    simp [List.getD,List.getElem?_map,List.getElem?_eq_getElem (show k<m.length by omega)]
   have h2:D ((m.map fnR).eraseIdx k).reverse ((colD n).map (·+1))=dt n (mnr m k):=by
    rw [←am5,dt,mnr,List.map_map,List.map_reverse]
    congr 2
    simp only [aje,List.map_map]
    exact List.map_congr_left fun r _=>(atu r).symm
   rw [h1,h2]
 rw [dt,arr,ali,List.reverse_reverse,List.length_reverse,List.length_map]
 exact key _ (Nat.le_refl _)
theorem alj (R:List Md.Rw) (x:Md.Rw) (Q:List Nat) (S:List Md.Rw) (hS:∀ y ∈ R,y ∈ S) (cs:List Nat):D ((fun k=>D (x :: R) (k :: Q)) :: S) cs=D R Q*D (x :: S) cs:=by
 have s:=(sp_w x (fun k l=>D R (k :: l)) (fun l=>ae1 R l) Q).mono hS
 have h:=ajm x (fun k=>Md.w x (fun l=>D R (k :: l)) Q) (D R Q) (-1) (D S) cs
 have e:(fun k=>D (x :: R) (k :: Q))=fun k=>D R Q*x k+-1*Md.w x (fun l=>D R (k :: l)) Q:=by
  funext k
  rw [D,Md.w]
  grind
 show Md.w _ (D S) cs=D R Q*Md.w x (D S) cs
 rw [e,h,D_sp s]
 omega
theorem ayl (R:List Md.Rw) (x y:Md.Rw) (Q:List Nat) (hd:D R Q≠0) (j c:Nat) :
  D R Q*D (x :: y :: R) (j :: c :: Q)=D (y :: R) (c :: Q)*D (x :: R) (j :: Q) - D (x :: R) (c :: Q)*D (y :: R) (j :: Q):=by
 have hx:∀ q ∈ Q,(fun k=>D (x :: R) (k :: Q)) q=0:=fun q hq=>adv _ hq
 have hy:∀ q ∈ Q,(fun k=>D (y :: R) (k :: Q)) q=0:=fun q hq=>adv _ hq
 have e1:=alj R x Q (y :: R) (fun z hz=>by simp [hz]) (j :: c :: Q)
 have e2:=alj R y Q ((fun k=>D (x :: R) (k :: Q)) :: R) (fun z hz=>by simp [hz]) (j :: c :: Q)
 generalize hX:(fun k=>D (x :: R) (k :: Q))=X at e1 e2 hx
 generalize hY:(fun k=>D (y :: R) (k :: Q))=Y at e2 hy
 have a1:D (Y :: X :: R) (j :: c :: Q) = -D (X :: Y :: R) (j :: c :: Q):=aey Y X (D R) _
 have a2:D (y :: X :: R) (j :: c :: Q) = -D (X :: y :: R) (j :: c :: Q):=aey y X (D R) _
 have b1:∀ k,D (Y :: R) (k :: Q)=Y k*D R Q:=fun k=>by
  show Md.w Y (D R) (k :: Q) = _
  rw [Md.w,aez _ Q hy]
  omega
 have b2:D (X :: Y :: R) (j :: c :: Q)=X j*(Y c*D R Q) - X c*(Y j*D R Q):=by
  show Md.w X (D (Y :: R)) (j :: c :: Q) = _
  rw [Md.w,Md.w,aez _ Q hx,b1,b1]
  omega
 have k1:∀ k,D (x :: R) (k :: Q)=X k:=fun k=>congrFun hX k
 have k2:∀ k,D (y :: R) (k :: Q)=Y k:=fun k=>congrFun hY k
 rw [k1,k1,k2,k2]
 apply Int.eq_of_mul_eq_mul_left hd
 grind
theorem awv {P R:List Md.Rw} {x:Md.Rw} (h:Sp P x) (cs:List Nat) (hz:∀ p ∈ P,Md.w p (D R) cs=0):Md.w x (D R) cs=0:=by
 induction h with
 | zero=>exact aez _ _ (fun _ _=>rfl)
 | add a x y hx _ ih =>
  have:=ajm x y a 1 (D R) cs
  rw [show (fun c=>a*x c+y c)=fun c=>a*x c+1*y c from funext fun c=>by omega,this,ih,hz x hx]
  omega
theorem ars (P R:List Md.Rw) (a Q:List Nat) (c:Nat) (hd:D R Q≠0) (hz:∀ p ∈ P,D (p :: R) (c :: Q)=0):D P (a ++ c :: Q)=0:=by
 have s:=ae1 P (a ++ Q)
 have h:=awv s (c :: Q) hz
 rw [Md.w,aez _ Q (fun q hq=>adv _ (by simp [hq]))] at h
 have h2:=(ac6 P).move c a Q
 have h3:D P (c :: (a ++ Q))*D R Q=0:=by omega
 rcases Int.mul_eq_zero.1 h3 with h4 | h4
 ·rw [h2] at h4
  have:=ah0 a.length
  rcases Int.mul_eq_zero.1 h4 with h5 | h5
  ·rw [h5] at this
   simp at this
  ·exact h5
 ·exact absurd h4 hd
end Lm
end Go.Proofs.YtgmobkafnefpfaaGreat
namespace Go.Proofs.YtgmobkafnefpfaaGreat
namespace Lm
open Go Go.RowKit Md
def dl (P:List (List Int)) (c:Nat):Int:=D ((P.take c).map fnR).reverse (colD c)
def nq (P:List (List Int)) (c i j:Nat):Int:=D (fnR (P.getD i []) :: ((P.take c).map fnR).reverse) (j :: colD c)
theorem af7 (c:Nat):colD (c+1)=c :: colD c:=by
 unfold colD
 rw [List.range_succ,List.reverse_append]
 rfl
theorem am6 (P:List (List Int)):dl P 0=1:=rfl
theorem aww (P:List (List Int)) (i j:Nat):nq P 0 i j=fnR (P.getD i []) j:=by
 show Md.w _ (D []) [j] = _
 simp [Md.w,D]
theorem alk {P:List (List Int)} {c:Nat} (hc:c<P.length):((P.take (c+1)).map fnR).reverse=fnR (P.getD c []) :: ((P.take c).map fnR).reverse:=by
 rw [List.take_add_one,List.getElem?_eq_getElem hc,List.map_append,List.reverse_append,List.getD_eq_getElem?_getD,List.getElem?_eq_getElem hc]
 rfl
theorem aiq {P:List (List Int)} {c:Nat} (hc:c<P.length):dl P (c+1)=nq P c c c:=by
 rw [dl,alk hc,af7]
 rfl
theorem awx {P:List (List Int)} {c:Nat} (hc:c<P.length) (hd:dl P c≠0) (i j:Nat):dl P c*nq P (c+1) i j=nq P c c c*nq P c i j - nq P c i c*nq P c c j:=by
 have h:=ayl ((P.take c).map fnR).reverse (fnR (P.getD i [])) (fnR (P.getD c [])) (colD c) hd j c
 have e:nq P (c+1) i j=D (fnR (P.getD i []) :: fnR (P.getD c []) :: ((P.take c).map fnR).reverse) (j :: c :: colD c):=by
  rw [nq,alk hc,af7]
 rw [e]
 exact h
theorem aym {P:List (List Int)} {n:Nat} (h:P.length=n):dl P n=dt n P:=by
 rw [dl,dt,List.take_of_length_le (by omega)]
theorem aor {c n:Nat} (h:c<n):∃ a,colD n=a ++ c :: colD c:=by
 induction n with
 | zero=>omega
 | succ n ih =>
  rw [af7]
  by_cases e:c=n
  ·exact ⟨[],by rw [e];rfl⟩
  ·obtain ⟨a,ha⟩:=ih (by omega)
   exact ⟨n :: a,by rw [ha];rfl⟩
theorem awy {P:List (List Int)} {c n:Nat} (hl:P.length=n) (hc:c<n) (hd:dl P c≠0) (hz:∀ i,c≤i→i<n→nq P c i c=0):dt n P=0:=by
 obtain ⟨a,ha⟩:=aor hc
 rw [dt,ha]
 refine ars _ ((P.take c).map fnR).reverse a (colD c) c hd (fun p hp=>?_)
 rw [List.mem_reverse] at hp
 obtain ⟨r,hr,rfl⟩:=List.mem_map.1 hp
 obtain ⟨i,hi,rfl⟩:=List.getElem_of_mem hr
 rcases Nat.lt_or_ge i c with h | h
 ·exact at8 (List.mem_reverse.2 (List.mem_map.2 ⟨_,List.mem_take_iff_getElem.2 ⟨i,by omega,rfl⟩,rfl⟩)) _
 ·have:=hz i h (by omega)
  rw [nq,List.getD_eq_getElem?_getD,List.getElem?_eq_getElem hi] at this
  exact this
theorem awz {P:List (List Int)} {c k:Nat} (hk:c≤k) (x y:List Int):dl ((P.set c y).set k x) c=dl P c:=by
 rw [dl,dl,List.take_set_of_le hk,List.take_set_of_le (Nat.le_refl _)]
theorem aw0 {P:List (List Int)} {c k:Nat} (hk:c≤k) (x y:List Int) (i j:Nat):nq ((P.set c y).set k x) c i j=D (fnR (((P.set c y).set k x).getD i []) :: ((P.take c).map fnR).reverse) (j :: colD c):=by
 rw [nq,List.take_set_of_le hk,List.take_set_of_le (Nat.le_refl _)]
theorem art {b p nij nic ncj N:Int} (hb:b≠0) (hp:p≠0) (h:b*N=p*nij - nic*ncj):Rat.divInt nij b+-(Rat.divInt nic b*Rat.divInt b p)*Rat.divInt ncj b=Rat.divInt N p:=by
 have hb' : (b:Rat)≠0:=by exact_mod_cast hb
 have hp' : (p:Rat)≠0:=by exact_mod_cast hp
 have h' : (b:Rat)*N=p*nij - nic*ncj:=by exact_mod_cast h
 simp only [Rat.divInt_eq_div]
 grind
theorem aw1 {P:List (List Int)} {c:Nat} (hc:c<P.length) (hd:dl P c≠0) (hp:nq P c c c≠0) (i j:Nat):Rat.divInt (nq P c i j) (dl P c)+-(Rat.divInt (nq P c i c) (dl P c)*Rat.divInt (dl P c) (nq P c c c))*Rat.divInt (nq P c c j) (dl P c)=Rat.divInt (nq P (c+1) i j) (dl P (c+1)):=by
 rw [aiq hc]
 exact art hd hp (awx hc hd i j)
theorem alm {B:Md.Rw→Nat} : ∀ {R:List Md.Rw} {x:Md.Rw},x ∈ R→B x+1≤sumB B R
 | y :: R,x,h=>by
  simp only [sumB]
  rcases List.mem_cons.1 h with rfl | h
  ·omega
  ·have:=alm (B:=B) h
   omega
theorem ay1 {P:List (List Int)} {B:Md.Rw→Nat} {S c i:Nat} (hB:∀ r ∈ P,∀ k,((fnR r k).natAbs:Int)<pw (B (fnR r))) (hs:sumB B (P.map fnR)≤S) (hl:P.length≤64) (hi:i<P.length) (hc:c≤i) (j:Nat):((nq P c i j).natAbs:Int)≤pw S:=by
 have hg:P.getD i []=P[i]:=by rw [List.getD_eq_getElem?_getD,List.getElem?_eq_getElem hi];rfl
 refine Int.le_trans (aeo (B:=B) _ _ (fun x hx k=>?_) (by simp [afn];omega)) (aa0 ?_)
 ·rcases List.mem_cons.1 hx with rfl | hx
  ·rw [hg]
   exact hB _ (List.getElem_mem hi) k
  ·rw [List.mem_reverse] at hx
   obtain ⟨r,hr,rfl⟩:=List.mem_map.1 hx
   exact hB r (List.mem_of_mem_take hr) k
 ·have h1:sumB B (P.map fnR)=sumB B ((P.take c).map fnR)+sumB B ((P.drop c).map fnR):=by rw [←aes,←List.map_append,List.take_append_drop]
  have h2:B (fnR (P.getD i []))+1≤sumB B ((P.drop c).map fnR):=alm (List.mem_map.2 ⟨_,by rw [hg];exact List.mem_drop_iff_getElem.2 ⟨i - c,by omega,by congr 1;omega⟩,rfl⟩)
  simp only [sumB]
  rw [af6 (List.reverse_perm _)]
  omega
theorem ay2 {P:List (List Int)} {B:Md.Rw→Nat} {S c:Nat} (hB:∀ r ∈ P,∀ k,((fnR r k).natAbs:Int)<pw (B (fnR r))) (hs:sumB B (P.map fnR)≤S) (hl:P.length≤64) (hc:c≤P.length):((dl P c).natAbs:Int)≤pw S:=by
 refine Int.le_trans (aeo (B:=B) _ _ (fun x hx k=>?_) (by simp [afn];omega)) (aa0 ?_)
 ·rw [List.mem_reverse] at hx
  obtain ⟨r,hr,rfl⟩:=List.mem_map.1 hx
  exact hB r (List.mem_of_mem_take hr) k
 ·have h1:sumB B (P.map fnR)=sumB B ((P.take c).map fnR)+sumB B ((P.drop c).map fnR):=by rw [←aes,←List.map_append,List.take_append_drop]
  rw [af6 (List.reverse_perm _)]
  omega
end Lm
end Go.Proofs.YtgmobkafnefpfaaGreat
namespace Go.Proofs.YtgmobkafnefpfaaGreat
namespace Lm
open Go Go.RowKit
theorem aos (fs:List WE):flat (fs.drop 1)=(flat fs).drop 2:=by
 cases fs <;> simp [flat]
theorem aot {w:World} {b off:Nat} {zs:List Int} {L:Nat} (h:NRow w (.slice (some ⟨b,off,none⟩) 1 1) zs L):NRow w (.slice (some ⟨b,off,none⟩) 0 0) (zs.drop 1) L:=by
 obtain ⟨fs,⟨ao,cap',hv,h1,h2,h3,h4⟩,h5,h6⟩:=h
 obtain ⟨rfl,e,rfl⟩:=(Value.slice.injEq .. ▸ hv)
 have:zs.drop 1 = []:=List.drop_eq_nil_of_le (by omega)
 rw [this]
 exact ⟨[],⟨_,_,rfl,Nat.zero_le _,by omega,rfl,.inl rfl⟩,rfl,fun k f z hf=>by simp at hf⟩
theorem aru {w:World} {b off m cap:Nat} {zs:List Int} {L:Nat} (h:NRow w (.slice (some ⟨b,off,none⟩) m cap) zs L) (hz:zs≠[]):NRow w (.slice (some ⟨b,off+2,none⟩) (m - 1) (cap - 1)) (zs.drop 1) L:=by
 obtain ⟨fs,⟨ao,cap',hv,h1,h2,h3,h4⟩,h5,h6⟩:=h
 obtain ⟨rfl,rfl,rfl⟩:=(Value.slice.injEq .. ▸ hv)
 have hl:0<zs.length:=List.length_pos_iff.2 hz
 refine ⟨fs.drop 1,⟨_,_,by rw [List.length_drop],by rw [List.length_drop];omega,by omega,by rw [abg],?_⟩,by simp [h5],fun k f z hf hzk=>h6 (k+1) f z (by simpa [Nat.add_comm] using hf) (by simpa [Nat.add_comm] using hzk)⟩
 rcases h4 with h4 | ⟨b',off',e,hb,hc⟩
 ·omega
 ·cases e
  refine .inr ⟨b,off+2,rfl,hb,fun j u hu=>?_⟩
  rw [aos,List.getElem?_drop] at hu
  have:=hc _ u hu
  rw [show off+2+j=off+(2+j) by omega]
  exact this
def mnK (m:List (List Int)) (r k:Nat):List (List Int):=((m.take k).eraseIdx r).map (List.drop 1)
theorem atv (m:List (List Int)) (r:Nat):mnK m r (r+1)=mnK m r r:=by
 unfold mnK
 congr 1
 rw [List.take_add_one]
 by_cases h:r<m.length
 ·rw [List.eraseIdx_append_of_length_le (by rw [List.length_take];omega),List.getElem?_eq_getElem h,show r - (m.take r).length=0 by rw [List.length_take];omega,List.eraseIdx_of_length_le (l:=m.take r) (by rw [List.length_take];omega)]
  simp
 ·rw [List.getElem?_eq_none (by omega)]
  simp
theorem aln (m:List (List Int)) (r k:Nat) (hr:k≠r) {z:List Int} (hz:m[k]? = some z):mnK m r (k+1)=mnK m r k ++ [z.drop 1]:=by
 have hk:=(List.getElem?_eq_some_iff.1 hz).1
 unfold mnK
 rw [List.take_add_one,hz]
 rcases Nat.lt_or_ge r k with h | h
 ·rw [List.eraseIdx_append_of_lt_length (by rw [List.length_take];omega)]
  simp
 ·rw [List.eraseIdx_of_length_le (by simp [List.length_take];omega),List.eraseIdx_of_length_le (by rw [List.length_take];omega)]
  simp
theorem aw2 (m:List (List Int)) (r:Nat):mnK m r m.length=mnr m r:=by
 unfold mnK mnr
 rw [List.take_length]
set_option maxRecDepth 20000 in
set_option maxHeartbeats 8000000 in
set_option maxRecDepth 100000 in
theorem aou (w:World) (v:Value) (rows:List (List Int)) (L:Nat) (h:NM w v rows L) (hl:rows.length≤100000) (hr:∀ r ∈ rows,r≠[]) (q:Nat) :
  Calls Tryz.prog 41 #[v,.int .i64 (q:Int)] w fun e w'=>∃ r vs,e=.returned r∧RmO w.heap.size w' r vs (mnr rows q) L∧Below w.heap.size w w' := by
 obtain ⟨ao,cap,rfl,_⟩:=h.parts
 have H:=hide h
 have HR:=hide hr
 clear h hr
 obtain ⟨n,hn⟩:∃ n,rows.length=n:=⟨_,rfl⟩
 rw [hn] at H hl ⊢
 have HN:=hide hn
 clear hn
 go_enter Tryz.func41,Tryz.ntmps41
 go_wp2_with fail
 go_loopw [5,6] (fun ov iv wr=>∃ (k:Nat) (vs:List Value),iv=.int .i64 k∧k≤n∧Below w.heap.size w wr∧RmO w.heap.size wr ov vs (mnK rows q k) L) (fun _ iv _=>n - (intOf iv).toNat)
 case atStart=>exact ⟨0,[],rfl,Nat.zero_le _,Below.refl _ _,amx _ _ _⟩
 case round =>
  obtain ⟨k,vs,rfl,hk,hbw,hown⟩:=hrel
  have HW:=hide hbw
  have HOWN:=hide hown
  obtain ⟨aov,capv,hov,-⟩:=Ce.own hown.own
  subst hov
  by_cases hlt:k<n
  ·obtain ⟨z,hz⟩:∃ z,rows[k]? = some z:=⟨_,List.getElem?_eq_getElem (by have:=HN.out;omega)⟩
   have hlt' : (k:Int)<(n:Int):=by omega
   by_cases hq:k=q
   ·subst hq
    clear hbw hown hz
    go_wp2
    go_roundw
    case rel=>exact ⟨k+1,vs,by go_num,by omega,HW.out,by rw [atv];exact HOWN.out⟩
    case measure=>simp [intOf];omega
   ·have hq' : ((k:Int) != (q:Int))=true:=by simp;omega
    obtain ⟨b,off,u,rfl,hbl,x0,hu⟩:=(H.out.below hbw).cell hz
    obtain ⟨ua,uc,rfl,_⟩:=id hu.parts
    have hz0:=HR.out z (List.mem_of_getElem? hz)
    obtain ⟨d,hd⟩:∃ d,z[0]? = some d:=⟨_,List.getElem?_eq_getElem (by cases z <;> simp_all)⟩
    obtain ⟨gb,go,ng,ga,gm,gc,rfl,_⟩:=hu.cell hd
    obtain ⟨m,hzm⟩:∃ m,z.length=m+1:=⟨z.length - 1,by cases z <;> simp_all⟩
    have hcap:m+1≤uc:=by
     obtain ⟨fs,⟨ao',cap',hv,h1,_⟩,h5,_⟩:=hu
     obtain ⟨_,e,rfl⟩:=(Value.slice.injEq .. ▸ hv)
     omega
    have hcapM:uc≤9223372036854775807:=by
     obtain ⟨fs,⟨ao',cap',hv,_,h1,_⟩,h5,_⟩:=hu
     obtain ⟨_,e,rfl⟩:=(Value.slice.injEq .. ▸ hv)
     omega
    rw [hzm] at hu x0
    have HZ:=hide hz
    have hdl:(z.drop 1).length=m:=by rw [List.length_drop];omega
    have HDL:=hide hdl
    rcases Nat.lt_or_ge uc 2 with hu2 | hu2
    ·have hm0:m=0:=by omega
     subst hm0
     obtain rfl:uc=1:=by omega
     have HU:=hide (aot hu)
     clear hbw hown hz hu hzm hd hdl
     have hA:=hAl wr (.cells #[.slice (some ⟨gb,go,none⟩) 0 0] 70)
     have hO:=heap_alloc_new wr (.cells #[.slice (some ⟨gb,go,none⟩) 0 0] 70)
     have hRm:=HOWN.out.below hA
     have hS:NRow _ (.slice (some ⟨gb,go,none⟩) 0 0) (z.drop 1) L:=HU.out.below hA
     have hsz:w.heap.size≤(wr.alloc (.cells #[.slice (some ⟨gb,go,none⟩) 0 0] 70)).heap.size:=Nat.le_trans HW.out.size hA.size
     have hfl:vs.length≤1000000:=by
      rw [HOWN.out.len,mnK,List.length_map]
      have h1:=List.length_eraseIdx_le (l:=rows.take k) (i:=q)
      rw [List.length_take] at h1
      omega
     go_wp2_with (at_builtin;refine abt rfl (aio (i:=16) (j:=22) rfl rfl hRm hO hS hfl hsz) ?_)
     intro v3 w3 hR3 hb3
     obtain ⟨aov3,capv3,hov3,-⟩:=Ce.own hR3.own
     subst hov3
     have HR3:=hide hR3
     have HB3:=hide ((HW.out.trans (hA.mono HW.out.size)).trans hb3)
     clear hR3 hb3 hO hRm hS hsz hA hfl
     go_wp2
     go_roundw
     case rel =>
      refine ⟨k+1,vs ++ [.slice (some ⟨gb,go,none⟩) 0 0],by go_num,by omega,HB3.out,?_⟩
      rw [aln rows q k hq HZ.out,List.drop_one]
      exact HR3.out
     case measure=>simp [intOf];omega
    ·obtain ⟨c,rfl⟩:∃ c,uc=c+2:=⟨uc - 2,by omega⟩
     have HU:=hide (aru hu hz0)
     clear hbw hown hz hu hzm hd hdl
     have hA:=hAl wr (.cells #[.slice (some ⟨gb,go+2,none⟩) m (c+1)] 70)
     have hO:=heap_alloc_new wr (.cells #[.slice (some ⟨gb,go+2,none⟩) m (c+1)] 70)
     have hRm:=HOWN.out.below hA
     have hS:NRow _ (.slice (some ⟨gb,go+2,none⟩) m (c+1)) (z.drop 1) L:=HU.out.below hA
     have hsz:w.heap.size≤(wr.alloc (.cells #[.slice (some ⟨gb,go+2,none⟩) m (c+1)] 70)).heap.size:=Nat.le_trans HW.out.size hA.size
     have hfl:vs.length≤1000000:=by
      rw [HOWN.out.len,mnK,List.length_map]
      have h1:=List.length_eraseIdx_le (l:=rows.take k) (i:=q)
      rw [List.length_take] at h1
      omega
     go_wp2_with (at_builtin;refine abt rfl (aio (i:=16) (j:=22) rfl rfl hRm hO hS hfl hsz) ?_)
     intro v3 w3 hR3 hb3
     obtain ⟨aov3,capv3,hov3,-⟩:=Ce.own hR3.own
     subst hov3
     have HR3:=hide hR3
     have HB3:=hide ((HW.out.trans (hA.mono HW.out.size)).trans hb3)
     clear hR3 hb3 hO hRm hS hsz hA hfl
     go_wp2
     go_roundw
     case rel =>
      refine ⟨k+1,vs ++ [.slice (some ⟨gb,go+2,none⟩) m (c+1)],by go_num,by omega,HB3.out,?_⟩
      rw [aln rows q k hq HZ.out,List.drop_one]
      exact HR3.out
     case measure=>simp [intOf];omega
  ·have hlt' : decide ((k:Int)<(n:Int))=false:=by simp;omega
   have hkn:k=n:=by omega
   subst hkn
   clear hbw hown
   go_wp2
   refine bodyPost_ret (v:=_) (adm rfl rfl) rfl ⟨_,vs,rfl,(by have h:=HOWN.out;rw [←HN.out,aw2] at h;exact h),HW.out⟩
end Lm
end Go.Proofs.YtgmobkafnefpfaaGreat
namespace Go.Proofs.YtgmobkafnefpfaaGreat
namespace Lm
open Go Go.RowKit Md
def NMS (rows:List (List Int)) (L:Nat):Says:=fun v w=>NM w v rows L
theorem NMS.mono (rows:List (List Int)) (L:Nat):Mono (NMS rows L):=fun _ _ _ hb h=>NM.below h hb
def NewN (n:Nat):Says:=fun v w=>∃ g,n≤g∧v=.pointer (some ⟨g,0,none⟩)∧w.heap[g]? = some (.cells #[.bool false,.slice none 0 0] 51 (0,0))
theorem NewN.mono (n:Nat):Mono (NewN n):=fun _ _ _ hb ⟨g,h1,h2,h3⟩=>⟨g,h1,h2,(hb.block _ (aaa h3)).trans h3⟩
theorem aow:Has Tryz.prog 41:=by unfold Has;kernel_rfl
theorem atw:Has Tryz.prog 20:=by unfold Has;kernel_rfl
def ExpS (rows:List (List Int)) (L L' : Nat) (z:Int):Prop:=∀ (w:World) (v:Value),NM w v rows L→Calls Tryz.prog 20 #[v] w fun e w'=>∃ r,e=.returned r∧OutN z L' r w'∧Below w.heap.size w w'
section
variable {dst:Option Tmp} {ty:TypeId} {pos:String} {after:Array Edge} {guard:Option (Nat × Bool)} {a:Act} {w:World} {ats:Array TypeId} {i j:Nat}
theorem aw3 {n:Nat} (hn:n≤w.heap.size):Does Tryz.prog { dst,op:=.alloc 51,type:=ty,pos,after,guard } a.eval w fun v w'=>Below w.heap.size w w'∧NewN n v w' := by
 obtain ⟨cs,⟨ng,ao,k,c,e,rfl⟩,hr⟩:=N2ok.alloc w
 cases e
 exact afc hr ⟨hAl _ _,_,hn,rfl,heap_alloc_new _ _⟩
theorem atx {b off n c:Nat} (h:a.eval (.tmp i)=.slice (some ⟨b,off,none⟩) n c) (hl:0<n):Does Tryz.prog { dst,op:=.indexAddr 70 (.tmp i) (.const (.int .i64 0)),type:=ty,pos,after,guard } a.eval w fun v' w'=>Below w.heap.size w w'∧Eqs (.pointer (some ⟨b,off,none⟩)) v' w' := by
 have hl' : (0:Int)<(n:Int):=by omega
 refine ⟨?_⟩
 unfold Turns
 simp only [execOp,h]
 go_simp
 exact ⟨Below.refl _ _,rfl⟩
theorem arv {v:Value} {rows:List (List Int)} {L q:Nat} (h1:a.eval (.tmp i)=v) (hN:NM w v rows L) (h2:a.eval (.tmp j)=.int .i64 (q:Int)) (hl:rows.length≤100000) (hr:∀ r ∈ rows,r≠[]) :
  Does Tryz.prog { dst,op:=.call { callee:=.value (.func 41),args:=#[.tmp i,.tmp j],argTypes:=ats },type:=ty,pos,after,guard } a.eval w fun v w'=>Below w.heap.size w w'∧NMS (mnr rows q) L v w' := by
 refine aas aow _ (by simp only [List.map_toArray,List.map_cons,List.map_nil,h1,h2]) ((aou w v rows L hN hl hr q).mono ?_)
 rintro e w' ⟨r,vs,rfl,hR,hb⟩
 exact ⟨_,rfl,hb,hR.nm⟩
theorem aw4 {rows:List (List Int)} {L L' : Nat} {z:Int} (IH:ExpS rows L L' z) (h:NMS rows L (a.eval (.tmp i)) w) :
  Does Tryz.prog { dst,op:=.call { callee:=.value (.func 20),args:=#[.tmp i],argTypes:=ats },type:=ty,pos,after,guard } a.eval w fun v w'=>Below w.heap.size w w'∧OutN z L' v w' := by
 refine aas atw _ (by simp only [List.map_toArray,List.map_cons,List.map_nil]) ((IH w _ h).mono ?_)
 rintro e w' ⟨r,rfl,hR,hb⟩
 exact ⟨_,rfl,hb,hR⟩
end
theorem adk {w:World} {g:Nat} {ng:Bool} {ao:Option Addr} {n cap:Nat} (h:Dm.Box w g ng (.slice ao n cap)) (b:Bool) (u:Value) {z:Int} {L:Nat} {v:Value} (hs:OutN z L v w):OutN z L v ((w.setCell ⟨g,0,none⟩ (.bool b)).setCell ⟨g,1,none⟩ u):=by
 obtain ⟨ng',ao',cap',rs,e,W,l⟩:=hs
 exact ⟨ng',ao',cap',rs,e,h.wh b u W,l⟩
theorem aty (L:Nat):ExpS [] L 5 1:=by
 intro w v h
 obtain ⟨ao,cap,rfl,_⟩:=h.parts
 clear h
 have hb0:=hAl w (.cells #[.bool false,.slice none 0 0] 51)
 have hn0:Dm.Box (w.alloc (.cells #[.bool false,.slice none 0 0] 51)) w.heap.size false (.slice none 0 0):=heap_alloc_new _ _
 have KI:=hide (Dm.aff (w.alloc (.cells #[.bool false,.slice none 0 0] 51)) 1 (by omega) (by omega))
 have HB:=hide hb0
 have HN:=hide hn0
 clear hb0 hn0
 go_enter Tryz.func20,Tryz.ntmps20
 go_wp2_with fail
 refine KI.out.mono ?_
 rintro e w1 ⟨tn,ta,tc,ts,rfl,hG,tl,hb1⟩
 have b1:=HN.out.below hb1
 obtain ⟨f1,f2,f3,f4⟩:=id b1.facts
 have F:=hide (b1.set tn (.slice ta ts.length tc)).facts
 have HT:=hide (And.intro (b1.wh tn (.slice ta ts.length tc) hG) tl)
 have HW:=hide (Dm.aad (HB.out.trans (hb1.mono HB.out.size)) (Nat.le_refl w.heap.size) (.bool tn) (.slice ta ts.length tc))
 clear hG tl hb1 b1
 go_wp2
 refine bodyPost_ret (v:=.agg #[.bool tn,.slice ta ts.length tc]) ?_ rfl ⟨_,rfl,⟨tn,ta,tc,ts,rfl,HT.out.1,HT.out.2⟩,HW.out⟩
 simp [results,Tryz.results20,go_sem,F.out.1,F.out.2.1]
set_option maxRecDepth 20000 in
set_option maxHeartbeats 8000000 in
set_option maxRecDepth 100000 in
theorem arw (n L E:Nat) (hn:n≤100) (rows:List (List Int)) (hl:rows.length=n+1) (hr:∀ r ∈ rows,r.length=n+1) (IH:∀ k,k<n+1→ExpS (mnr rows k) L E (dt n (mnr rows k))) (hE:(n+1)*(L+E+2)≤400000):ExpS rows L ((n+1)*(L+E+2)) (dt (n+1) rows):=by
 intro w v h
 obtain ⟨ao,cap,rfl,_⟩:=h.parts
 have H:=hide h
 have HR:=hide hr
 have HIH:=hide IH
 rw [hl] at H ⊢
 have HN:=hide hl
 have HE:=hide hE
 have hne:decide (((n+1:Nat):Int)=0)=false:=by simp;omega
 clear h hr IH hl hE
 go_enter Tryz.func20,Tryz.ntmps20
 obtain ⟨w0,e0,hs0,br,bx,hb0⟩:∃ w0,(w.alloc (.cells #[.bool false,.slice none 0 0] 51)).alloc (.cells #[.bool false,.slice none 0 0] 51)=w0∧w0.heap.size=w.heap.size+2∧Dm.Box w0 w.heap.size false (.slice none 0 0)∧Dm.Box w0 (w.heap.size+1) false (.slice none 0 0)∧Below w.heap.size w w0:=by
  obtain ⟨w0,e,b1,b2,hb,hs⟩:=Dm.acc w false (.slice none 0 0)
  exact ⟨w0,e,hs,b1,b2,hb⟩
 have E0:=hide e0
 have HBR:=hide br
 have HBX:=hide bx
 have HB0:=hide hb0
 have HS0:=hide hs0
 clear e0 br bx hb0 hs0
 go_wp2_with fail
 rw [E0.out]
 go_loopw [4] (fun iv wr=>∃ (k:Nat) (ng:Bool) (sa:Option Addr) (sm sc:Nat),iv=.int .i64 k∧k≤n+1∧Below w.heap.size w wr∧Dm.Box wr w.heap.size false (.slice none 0 0)∧Dm.Box wr (w.heap.size+1) ng (.slice sa sm sc)∧OutN (exS n rows k) (k*(L+E+2)) (.agg #[.bool ng,.slice sa sm sc]) wr) (fun iv _=>n+1 - (intOf iv).toNat)
 case atStart=>exact ⟨0,false,none,0,0,rfl,Nat.zero_le _,HB0.out,HBR.out,HBX.out,⟨false,none,0,[],rfl,⟨⟨Dm.ac5 _,Dm.ab1,rfl⟩,rfl⟩,Nat.zero_le _⟩⟩
 case round =>
  obtain ⟨k,ng,sa,sm,sc,rfl,hk,hbw,br,bx,hS⟩:=hrel
  have HW:=hide hbw
  have HBR:=hide br
  have HBX:=hide bx
  have HS:=hide hS
  by_cases hlt:k<n+1
  ·have hlt' : (k:Int)<(n:Int)+1:=by omega
   obtain ⟨z,hz⟩:∃ z,rows[k]? = some z:=⟨_,List.getElem?_eq_getElem (by have:=HN.out;omega)⟩
   have hzn:=HR.out z (List.mem_of_getElem? hz)
   obtain ⟨b,off,u,rfl,hbl,x0,hu⟩:=(H.out.below hbw).cell hz
   obtain ⟨ua,uc,rfl,-⟩:=id hu.parts
   rw [hzn] at x0 hu
   obtain ⟨d,hd⟩:∃ d,z[0]? = some d:=⟨_,List.getElem?_eq_getElem (by omega)⟩
   obtain ⟨b2,o2,ng2,a2,m2,c2,rfl,hbl2,y0,y1,hy2⟩:=hu.cell hd
   rw [Nat.zero_mul,Nat.add_zero] at y0 y1
   have HY2:=hide hy2
   have HD:Hid (fnR (rows.getD k []) 0=d):=(show _ = _ by rw [List.getD_eq_getElem?_getD,hz];show z.getD 0 0=d;rw [List.getD_eq_getElem?_getD,hd];rfl)
   have HEX:=hide (HIH.out k hlt)
   have hlb:L≤400000∧E≤400000∧k*(L+E+2)≤400000∧L+E+1≤400000:=by
    have h1:=HE.out
    have h2:1*(L+E+2)≤(n+1)*(L+E+2):=Nat.mul_le_mul_right _ (by omega)
    have h3:k*(L+E+2)≤(n+1)*(L+E+2):=Nat.mul_le_mul_right _ hk
    generalize k*(L+E+2)=x at *
    generalize (n+1)*(L+E+2)=y at *
    omega
   have HLB:=hide hlb
   have hsz:w.heap.size+2≤wr.heap.size:=by have:=aaa bx;omega
   have HSZ:=hide hsz
   clear hlb hsz hbw br bx hS hz hzn hu hd hy2
   go_upto_region 7 with fail
   refine ab6 12 [17,18,19,20,21,22,23,24,25,26,27,5] [Eqs (.slice (some ⟨b,off,none⟩) (n+1) cap),Eqs (.int .i64 (k:Int)),Eqs (.pointer (some ⟨b,off+k,none⟩)),Eqs (.slice (some ⟨b2,o2,none⟩) (n+1) uc),Eqs (.pointer (some ⟨b2,o2,none⟩)),(OutN d L),Eqs (.slice (some ⟨b,off,none⟩) (n+1) cap),Eqs (.int .i64 (k:Int)),(NMS (mnr rows k) L),(OutN (dt n (mnr rows k)) E),(OutN (d*dt n (mnr rows k)) (L+E+1)),(NewN (w.heap.size+2))] rfl rfl (by decide) (by kernel_rfl) (by kernel_rfl) (by decide) (by kernel_rfl) ⟨Eqs.mono _,Eqs.mono _,Eqs.mono _,Eqs.mono _,Eqs.mono _,(Mono.of4 (OutN.mono4 _ _)),Eqs.mono _,Eqs.mono _,(NMS.mono _ _),(Mono.of4 (OutN.mono4 _ _)),(Mono.of4 (OutN.mono4 _ _)),(NewN.mono _),trivial⟩ ?_ ?_
   ·exact ⟨⟨rfl,fun a_ w_ _ hB hR hD=>aao ((hR 0 rfl).trans (aac rfl))⟩,
      ⟨rfl,fun a_ w_ _ hB hR hD=>aao ((hR 4 rfl).trans (aac rfl))⟩,
      ⟨rfl,fun a_ w_ _ hB hR hD=>ale (show a_.eval (.tmp 17)=.slice (some ⟨b,off,none⟩) (n+1) cap from hD 0 rfl) (show a_.eval (.tmp 18)=.int .i64 (k:Int) from hD 1 rfl) (by omega)⟩,
      ⟨rfl,fun a_ w_ _ hB hR hD=>ari (show a_.eval (.tmp 19)=.pointer (some ⟨b,off+k,none⟩) from hD 2 rfl) ((hB.cell (p:=⟨b,off+k,none⟩) hbl).trans x0)⟩,
      ⟨rfl,fun a_ w_ _ hB hR hD=>atx (show a_.eval (.tmp 20)=.slice (some ⟨b2,o2,none⟩) (n+1) uc from hD 3 rfl) (by omega)⟩,
      ⟨rfl,fun a_ w_ _ hB hR hD=>agh (show a_.eval (.tmp 21)=.pointer (some ⟨b2,o2,none⟩) from hD 4 rfl) ((hB.cell (p:=⟨b2,o2,none⟩) hbl2).trans y0) ((hB.cell (p:=⟨b2,o2+1,none⟩) hbl2).trans y1) (HY2.out.rl (Rl.of_below hB))⟩,
      ⟨rfl,fun a_ w_ _ hB hR hD=>aao ((hR 0 rfl).trans (aac rfl))⟩,
      ⟨rfl,fun a_ w_ _ hB hR hD=>aao ((hR 4 rfl).trans (aac rfl))⟩,
      ⟨rfl,fun a_ w_ _ hB hR hD=>arv (show a_.eval (.tmp 23)=.slice (some ⟨b,off,none⟩) (n+1) cap from hD 6 rfl) (H.out.below (HW.out.trans (hB.mono HW.out.size))) (show a_.eval (.tmp 24)=.int .i64 (k:Int) from hD 7 rfl) (by have:=HN.out;have:=HLB.out;omega) (fun r hr e=>by have:=HR.out r hr;rw [e] at this;cases this)⟩,
      ⟨rfl,fun a_ w_ _ hB hR hD=>aw4 HEX.out (show (NMS (mnr rows k) L) (a_.eval (.tmp 25)) w_ from hD 8 rfl)⟩,
      ⟨rfl,fun a_ w_ _ hB hR hD=>aec (L1:=L) (L2:=E) (show (OutN d L) (a_.eval (.tmp 22)) w_ from hD 5 rfl) (show (OutN (dt n (mnr rows k)) E) (a_.eval (.tmp 26)) w_ from hD 9 rfl) HLB.out.1 HLB.out.2.1⟩,
      ⟨rfl,fun a_ w_ _ hB hR hD=>aw3 (Nat.le_trans HSZ.out hB.size)⟩,
      trivial⟩
   ·intro a' w' hn' hd' hB' hR' hP'
    have e17:a'.eval (.tmp 17)=.slice (some ⟨b,off,none⟩) (n+1) cap:=hP' 0 (by decide)
    have e18:a'.eval (.tmp 18)=.int .i64 (k:Int):=hP' 1 (by decide)
    have e19:a'.eval (.tmp 19)=.pointer (some ⟨b,off+k,none⟩):=hP' 2 (by decide)
    have e20:a'.eval (.tmp 20)=.slice (some ⟨b2,o2,none⟩) (n+1) uc:=hP' 3 (by decide)
    have e21:a'.eval (.tmp 21)=.pointer (some ⟨b2,o2,none⟩):=hP' 4 (by decide)
    obtain ⟨u22,e22⟩:∃ u,a'.eval (.tmp 22)=u:=⟨_,rfl⟩
    have e23:a'.eval (.tmp 23)=.slice (some ⟨b,off,none⟩) (n+1) cap:=hP' 6 (by decide)
    have e24:a'.eval (.tmp 24)=.int .i64 (k:Int):=hP' 7 (by decide)
    obtain ⟨u25,e25⟩:∃ u,a'.eval (.tmp 25)=u:=⟨_,rfl⟩
    obtain ⟨u26,e26⟩:∃ u,a'.eval (.tmp 26)=u:=⟨_,rfl⟩
    obtain ⟨u27,e27⟩:∃ u,a'.eval (.tmp 27)=u:=⟨_,rfl⟩
    have hT:(OutN (d*dt n (mnr rows k)) (L+E+1)) (a'.eval (.tmp 27)) w' := hP' 10 (by decide)
    rw [e27] at hT
    obtain ⟨u5,e5⟩:∃ u,a'.eval (.tmp 5)=u:=⟨_,rfl⟩
    have hX:(NewN (w.heap.size+2)) (a'.eval (.tmp 5)) w' := hP' 11 (by decide)
    rw [e5] at hX
    refine abn hn' hd' hR' (.s4 rfl <| .same rfl <| .new e5 <| .s4 rfl <| .s4 rfl <| .same rfl <| .same rfl <| .same rfl <| .new e17 <| .new e18 <| .new e19 <| .new e20 <| .new e21 <| .new e22 <| .new e23 <| .new e24 <| .new e25 <| .new e26 <| .new e27 <| .s4 rfl <| .s4 rfl <| .same rfl <| .nil) ?_
    clear e17 e18 e19 e20 e21 e22 e23 e24 e25 e26 e27 e5
    obtain ⟨g5,hg5,rfl,b5⟩:=hX
    obtain ⟨pn,pa,pc,ps,rfl,hP,pl⟩:=hT
    have b5' : Dm.Box w' g5 false (.slice none 0 0):=b5
    have B5:=hide (b5'.set pn (.slice pa ps.length pc))
    have BX:=hide (Dm.aa6 (HBX.out.below hB') (show w.heap.size+1≠g5 by omega) (.bool pn) (.slice pa ps.length pc))
    have BR:=hide (Dm.aa6 (HBR.out.below hB') (show w.heap.size≠g5 by omega) (.bool pn) (.slice pa ps.length pc))
    have HW1:=hide (Dm.aad (HW.out.trans (hB'.mono HW.out.size)) (show w.heap.size≤g5 by omega) (.bool pn) (.slice pa ps.length pc))
    have HS1:Hid (OutN (exS n rows k) (k*(L+E+2)) (.agg #[.bool ng,.slice sa sm sc]) ((w'.setCell ⟨g5,0,none⟩ (.bool pn)).setCell ⟨g5,1,none⟩ (.slice pa ps.length pc))):=(adk b5' pn (.slice pa ps.length pc) (HS.out.rl (Rl.of_below hB')))
    have HT:=hide (And.intro (b5'.wh pn (.slice pa ps.length pc) hP) pl)
    obtain ⟨f1,f2,f3,f4⟩:=id b5'.facts
    have HG5:Hid (w.heap.size+2≤g5):=hg5
    clear hR' hP' hn' hd' x0 y0 y1 hbl hbl2 b5 b5' hP pl HY2 hg5 HBX HBR HW HS hB'
    go_upto_region 8 with fail
    generalize (w'.setCell ⟨g5,0,none⟩ (.bool pn)).setCell ⟨g5,1,none⟩ (.slice pa ps.length pc)=W at *
    have HS:=HS1
    have HW:=HW1
    clear f1 f2 f3 f4 HS1 HW1
    rcases Nat.mod_two_eq_zero_or_one k with hp | hp
    ·have hodd:((k:Int) % 2 == 1)=false:=by rw [beq_eq_false_iff_ne];omega
     have hsg:sgn k*(d*dt n (mnr rows k))=d*dt n (mnr rows k):=by rw [akv,if_neg (by omega)];omega
     have HSG:=hide hsg
     clear hsg
     go_upto_region 10 with fail
     obtain ⟨f1,f2,f3,f4⟩:=id B5.out.facts
     obtain ⟨g1,g2,g3,g4⟩:=id BX.out.facts
     obtain ⟨q1,q2,q3,q4,he,hQ,hql⟩:=id HS.out
     cases he
     have KA:=hide (Dm.ahu W _ _ _ _ _ hQ _ _ _ _ _ HT.out.1 (by have:=HLB.out;omega) (by have:=HLB.out;have:=HT.out.2;omega))
     have HQL:=hide hql
     clear hQ hql
     go_wp2_with fail
     refine KA.out.mono ?_
     rintro e w3 ⟨tn,ta,tc,ts,rfl,hG,tl,hb3⟩
     have BX3:=hide (BX.out.below hb3)
     have BR3:=hide (BR.out.below hb3)
     have HW3:=hide (HW.out.trans (hb3.mono HW.out.size))
     have HG:=hide (And.intro hG tl)
     obtain ⟨x1,x2,x3,x4⟩:=id BX3.out.facts
     clear f1 f2 f3 f4 g1 g2 g3 g4 hG tl hb3 KA
     go_wp2
     go_roundw
     case rel =>
      refine ⟨_,_,_,_,_,_,_,_,_,_,_,_,_,_,_,_,_,_,_,_,_,_,_,_,_,_,_,⟨k+1,tn,ta,ts.length,tc,by go_num,by omega,Dm.aad HW3.out (by omega) _ _,Dm.aa6 BR3.out (by omega) _ _,BX3.out.set _ _,tn,ta,tc,ts,rfl,?_,?_⟩,rfl⟩
      ·have h:=Dm.Box.wh BX3.out tn (.slice ta ts.length tc) HG.out.1
       rw [exS,HD.out,HSG.out]
       exact h
      ·have h1:=HG.out.2
       have h2:=HT.out.2
       have h3:=HQL.out
       rw [Nat.succ_mul]
       generalize k*(L+E+2)=x at *
       omega
     case measure=>simp [intOf];omega
    ·have hodd:((k:Int) % 2 == 1)=true:=by rw [beq_iff_eq];omega
     have hsg:sgn k*(d*dt n (mnr rows k)) = -(d*dt n (mnr rows k)):=by rw [akv,if_pos hp];omega
     have HSG:=hide hsg
     clear hsg
     obtain ⟨f1,f2,f3,f4⟩:=id B5.out.facts
     have KM:=hide (Dm.aig W _ _ _ _ _ HT.out.1 (by have:=HLB.out;have:=HT.out.2;omega))
     go_wp2_with fail
     refine KM.out.mono ?_
     rintro e w2 ⟨vn,va,vc,vt,rfl,hV,vl,hb2⟩
     have b5:=B5.out.below hb2
     have B52:=hide (b5.set vn (.slice va vt.length vc))
     have BX2:=hide (Dm.aa6 (BX.out.below hb2) (show w.heap.size+1≠g5 by have:=HG5.out;omega) (.bool vn) (.slice va vt.length vc))
     have BR2:=hide (Dm.aa6 (BR.out.below hb2) (show w.heap.size≠g5 by have:=HG5.out;omega) (.bool vn) (.slice va vt.length vc))
     have HW2:=hide (Dm.aad (HW.out.trans (hb2.mono HW.out.size)) (show w.heap.size≤g5 by have:=HG5.out;omega) (.bool vn) (.slice va vt.length vc))
     have HS2:=hide (adk b5 vn (.slice va vt.length vc) (HS.out.rl (Rl.of_below hb2)))
     have HT2:=hide (And.intro (b5.wh vn (.slice va vt.length vc) hV) (Nat.le_trans vl HT.out.2))
     obtain ⟨j1,j2,j3,j4⟩:=id b5.facts
     clear f1 f2 f3 f4 b5 hV vl hb2 KM B5 BX BR HW HS HT
     go_upto_region 10 with fail
     generalize (w2.setCell ⟨g5,0,none⟩ (.bool vn)).setCell ⟨g5,1,none⟩ (.slice va vt.length vc)=W2 at *
     have B5:=B52
     have BX:=BX2
     have BR:=BR2
     have HW:=HW2
     have HS:=HS2
     have HT:=HT2
     clear j1 j2 j3 j4 B52 BX2 BR2 HW2 HS2 HT2
     obtain ⟨f1,f2,f3,f4⟩:=id B5.out.facts
     obtain ⟨g1,g2,g3,g4⟩:=id BX.out.facts
     obtain ⟨q1,q2,q3,q4,he,hQ,hql⟩:=id HS.out
     cases he
     have KA:=hide (Dm.ahu W2 _ _ _ _ _ hQ _ _ _ _ _ HT.out.1 (by have:=HLB.out;omega) (by have:=HLB.out;have:=HT.out.2;omega))
     have HQL:=hide hql
     clear hQ hql
     go_wp2_with fail
     refine KA.out.mono ?_
     rintro e w3 ⟨tn,ta,tc,ts,rfl,hG,tl,hb3⟩
     have BX3:=hide (BX.out.below hb3)
     have BR3:=hide (BR.out.below hb3)
     have HW3:=hide (HW.out.trans (hb3.mono HW.out.size))
     have HG:=hide (And.intro hG tl)
     obtain ⟨x1,x2,x3,x4⟩:=id BX3.out.facts
     clear f1 f2 f3 f4 g1 g2 g3 g4 hG tl hb3 KA
     go_wp2
     go_roundw
     case rel =>
      refine ⟨_,_,_,_,_,_,_,_,_,_,_,_,_,_,_,_,_,_,_,_,_,_,_,_,_,_,_,⟨k+1,tn,ta,ts.length,tc,by go_num,by omega,Dm.aad HW3.out (by omega) _ _,Dm.aa6 BR3.out (by omega) _ _,BX3.out.set _ _,tn,ta,tc,ts,rfl,?_,?_⟩,rfl⟩
      ·have h:=Dm.Box.wh BX3.out tn (.slice ta ts.length tc) HG.out.1
       rw [exS,HD.out,HSG.out]
       exact h
      ·have h1:=HG.out.2
       have h2:=HT.out.2
       have h3:=HQL.out
       rw [Nat.succ_mul]
       generalize k*(L+E+2)=x at *
       omega
     case measure=>simp [intOf];omega
  ·have hlt' : decide ((k:Int)<(n:Int)+1)=false:=by simp;omega
   have hkn:k=n+1:=by omega
   subst hkn
   obtain ⟨f1,f2,f3,f4⟩:=id br.facts
   obtain ⟨g1,g2,g3,g4⟩:=id bx.facts
   clear hbw br bx hS
   have F:=hide (HBR.out.set ng (.slice sa sm sc)).facts
   go_wp2
   refine bodyPost_ret (v:=.agg #[.bool ng,.slice sa sm sc]) ?_ rfl ⟨_,rfl,?_,Dm.aad HW.out (Nat.le_refl _) _ _⟩
   ·simp [results,Tryz.results20,go_sem,F.out.1,F.out.2.1]
   ·have h:=adk HBR.out ng (.slice sa sm sc) HS.out
    rw [awu,HN.out]
    exact h
def exL (L:Nat):Nat→Nat
 | 0=>5
 | n+1=>(n+1)*(L+exL L n+2)
theorem arx {L n:Nat} (hL:L≤5500) (hn:n≤4):exL L n≤400000:=by
 rcases (show n=0∨n=1∨n=2∨n=3∨n=4 by omega) with rfl | rfl | rfl | rfl | rfl <;> simp only [exL] <;> omega
theorem aw5 {m:List (List Int)} {k n:Nat} (hl:m.length=n+1) (hk:k<n+1):(mnr m k).length=n:=by
 rw [mnr,List.length_map,List.length_eraseIdx,if_pos (by omega)]
 omega
theorem aw6 {m:List (List Int)} {k n:Nat} (hr:∀ r ∈ m,r.length=n+1):∀ r ∈ mnr m k,r.length=n:=by
 intro r h
 obtain ⟨y,hy,rfl⟩:=List.mem_map.1 h
 have:=hr y (List.mem_of_mem_eraseIdx hy)
 rw [List.length_drop]
 omega
theorem afs (L:Nat) (hL:L≤5500):∀ (n:Nat) (rows:List (List Int)),n≤4→rows.length=n→(∀ r ∈ rows,r.length=n)→ExpS rows L (exL L n) (dt n rows)
 | 0,rows,_,hl,_=>by
  obtain rfl:=List.length_eq_zero_iff.1 hl
  exact aty L
 | n+1,rows,hn,hl,hr=>arw n L (exL L n) (by omega) rows hl hr (fun k hk=>afs L hL n (mnr rows k) (by omega) (aw5 hl hk) (aw6 hr)) (arx (n:=n+1) hL hn)
end Lm
end Go.Proofs.YtgmobkafnefpfaaGreat
namespace Go.Proofs.YtgmobkafnefpfaaGreat
namespace Lm
open Go Go.RowKit Md
theorem aox {z u:Int} (hu:u≠0):(Rat.divInt z u).num.natAbs≤z.natAbs∧(Rat.divInt z u).den≤u.natAbs:=by
 constructor
 ·rw [Rat.num_divInt]
  have h1:(u.sign*z).natAbs=z.natAbs:=by
   rw [Int.natAbs_mul]
   rcases Int.lt_or_gt_of_ne hu with h | h
   ·rw [Int.sign_eq_neg_one_of_neg h];simp
   ·rw [Int.sign_eq_one_of_pos h];simp
  have h2:((u.gcd z:Nat):Int) ∣ u.sign*z:=Int.dvd_mul_of_dvd_right (Int.gcd_dvd_right ..)
  obtain ⟨k,hk⟩:=h2
  have hg:(u.gcd z:Nat)≠0:=fun h=>hu (Int.gcd_eq_zero_iff.1 h).1
  rw [hk,Int.mul_ediv_cancel_left k (by omega)]
  rw [←h1,hk,Int.natAbs_mul,Int.natAbs_natCast]
  exact Nat.le_mul_of_pos_left _ (by omega)
 ·rw [Rat.den_divInt,if_neg hu]
  exact Nat.div_le_self _ _
theorem ad8 {z u:Int} {L:Nat} (hu:u≠0) (hz:(z.natAbs:Int)<pw L) (hul:(u.natAbs:Int)<pw L):Fit (Rat.divInt z u) L:=by
 obtain ⟨h1,h2⟩:=aox (z:=z) hu
 exact ⟨by omega,by omega⟩
theorem ab9 (r:Rat):(r.den:Int)≠0:=by have:=r.den_pos;omega
end Lm
end Go.Proofs.YtgmobkafnefpfaaGreat
namespace Go.Proofs.YtgmobkafnefpfaaGreat
namespace Lm
open Go Go.RowKit Md
def OQ (r:Rat) (L:Nat):Says:=OutQ r.num (r.den:Int) L
theorem OQ.mono (r:Rat) (L:Nat):Mono (OQ r L):=Mono.of4 (OutQ.mono4 _ _ _)
theorem OQ.split {r:Rat} {L:Nat} {v:Value} {w:World} (h:OQ r L v w):∃ ng a m c mg d e f,v=.agg #[.bool ng,.slice a m c,.bool mg,.slice d e f]∧OutN r.num L (.agg #[.bool ng,.slice a m c]) w∧OutN (r.den:Int) L (.agg #[.bool mg,.slice d e f]) w:=by
 obtain ⟨ng,ao,cap,rs,mg,bo,dap,ss,rfl,h1,h2,h3,h4⟩:=h
 exact ⟨_,_,_,_,_,_,_,_,rfl,⟨_,_,_,_,rfl,h1,h3⟩,⟨_,_,_,_,rfl,h2,h4⟩⟩
theorem ajn {r:Rat} {L:Nat} {w:World} {ng:Bool} {a:Option Addr} {m c:Nat} {mg:Bool} {d:Option Addr} {e f:Nat} (h1:OutN r.num L (.agg #[.bool ng,.slice a m c]) w) (h2:OutN (r.den:Int) L (.agg #[.bool mg,.slice d e f]) w):OQ r L (.agg #[.bool ng,.slice a m c,.bool mg,.slice d e f]) w:=by
 obtain ⟨_,_,_,rs,e1,g1,l1⟩:=h1
 obtain ⟨_,_,_,ss,e2,g2,l2⟩:=h2
 simp only [Value.agg.injEq,Array.mk.injEq,List.cons.injEq,Value.bool.injEq,Value.slice.injEq,and_true] at e1 e2
 obtain ⟨rfl,rfl,rfl,rfl⟩:=e1
 obtain ⟨rfl,rfl,rfl,rfl⟩:=e2
 exact ⟨_,_,_,_,_,_,_,_,rfl,g1,g2,l1,l2⟩
theorem OQ.fit {r:Rat} {L M:Nat} {v:Value} {w:World} (h:OQ r L v w) (hf:Fit r M):OQ r (3*M) v w:=by
 obtain ⟨ng,a,m,c,mg,d,e,f,rfl,h1,h2⟩:=h.split
 exact ajn (h1.fit hf.1) (h2.fit (by simpa using hf.2))
theorem ary (x y:Rat):Rat.divInt (x.num*y.num) ((x.den:Int)*(y.den:Int))=x*y:=by
 rw [←Rat.divInt_mul_divInt,Rat.num_divInt_den,Rat.num_divInt_den]
theorem arz (x y:Rat):Rat.divInt (x.num*(y.den:Int)+y.num*(x.den:Int)) ((x.den:Int)*(y.den:Int))=x+y:=by
 rw [←Rat.divInt_add_divInt _ _ (ab9 x) (ab9 y),Rat.num_divInt_den,Rat.num_divInt_den]
section
variable {dst:Option Tmp} {ty:TypeId} {pos:String} {after:Array Edge} {guard:Option (Nat × Bool)} {a:Act} {w:World} {ats:Array TypeId} {i j:Nat}
theorem afo {x y:Rat} {Bx By M:Nat} (Hx:OQ x Bx (a.eval (.tmp i)) w) (Hy:OQ y By (a.eval (.tmp j)) w) (hL:Bx+By≤50000) (hf:Fit (x*y) M) :
  Does Tryz.prog { dst,op:=.call { callee:=.value (.func 47),args:=#[.tmp i,.tmp j],argTypes:=ats },type:=ty,pos,after,guard } a.eval w fun v w'=>Below w.heap.size w w'∧OQ (x*y) (3*M) v w' :=
 (aq2 Hx Hy hL (ab9 x) (ab9 y)).mono fun v w' h=>⟨h.1,OQ.fit (L:=2*(Bx+By)+2) (by
  have h2:=h.2
  rw [aky _ (Int.mul_ne_zero (ab9 x) (ab9 y)),akz _ (Int.mul_ne_zero (ab9 x) (ab9 y)),ary] at h2
  exact h2) hf⟩
theorem ar0 {x y:Rat} {Bx By M:Nat} (Hx:OQ x Bx (a.eval (.tmp i)) w) (Hy:OQ y By (a.eval (.tmp j)) w) (hL:Bx+By≤50000) (hf:Fit (x+y) M) :
  Does Tryz.prog { dst,op:=.call { callee:=.value (.func 49),args:=#[.tmp i,.tmp j],argTypes:=ats },type:=ty,pos,after,guard } a.eval w fun v w'=>Below w.heap.size w w'∧OQ (x+y) (3*M) v w' :=
 (atb Hx Hy hL (ab9 x) (ab9 y)).mono fun v w' h=>⟨h.1,OQ.fit (L:=3*(Bx+By)+4) (by
  have h2:=h.2
  rw [aky _ (Int.mul_ne_zero (ab9 x) (ab9 y)),akz _ (Int.mul_ne_zero (ab9 x) (ab9 y)),arz] at h2
  exact h2) hf⟩
theorem aoy {x:Rat} {Bx M:Nat} (Hx:OQ x Bx (a.eval (.tmp i)) w) (hL:Bx≤400000) (hf:Fit x M) :
  Does Tryz.prog { dst,op:=.call { callee:=.value (.func 46),args:=#[.tmp i],argTypes:=ats },type:=ty,pos,after,guard } a.eval w fun v w'=>Below w.heap.size w w'∧OQ (-x) (3*M) v w' :=
 (aq0 Hx hL).mono fun v w' h=>⟨h.1,OQ.fit (L:=2*Bx) h.2 (by
  refine ⟨?_,?_⟩
  ·rw [Rat.neg_num,Int.natAbs_neg]
   exact hf.1
  ·rw [Rat.neg_den]
   exact hf.2)⟩
theorem ar1 {x:Rat} {Bx By M:Nat} {z u:Int} (Hx:OutN z Bx (a.eval (.tmp i)) w) (Hy:OutN u By (a.eval (.tmp j)) w) (hL:Bx+By≤300000) (hu:u≠0) (he:Rat.divInt z u=x) (hf:Fit x M) :
  Does Tryz.prog { dst,op:=.call { callee:=.value (.func 48),args:=#[.tmp i,.tmp j],argTypes:=ats },type:=ty,pos,after,guard } a.eval w fun v w'=>Below w.heap.size w w'∧OQ x (3*M) v w' :=
 (ag8 Hx Hy hL hu).mono fun v w' h=>⟨h.1,OQ.fit (L:=Bx+By) (by
  have h2:=h.2
  rw [aky _ hu,akz _ hu,he] at h2
  exact h2) hf⟩
def BQ (w:World) (b:Nat) (x:Rat) (L:Nat):Prop:=PFx w b 1 (fun _=>True) (fun _=>x) L
theorem PFx.new {g:Nat} {r:Nat→Rat} {L:Nat} (h:w.heap[g]? = some (.cells #[.bool false,.slice none 0 0,.bool false,.slice none 0 0] 77 (0,0))):PFx w g 1 (fun _=>False) r L :=
 ⟨[⟨false,none,0,0,[]⟩,⟨false,none,0,0,[]⟩],[],by simp,rfl,h,fun k _ hf=>hf.elim⟩
theorem PFx.box {b:Nat} {ok:Nat→Prop} {r:Nat→Rat} {L:Nat} (h:PFx w b 1 ok r L):(∃ ng a m c mg d e f,w.cell? ⟨b,0,none⟩ = some (.bool ng)∧w.cell? ⟨b,1,none⟩ = some (.slice a m c)∧w.cell? ⟨b,2,none⟩ = some (.bool mg)∧w.cell? ⟨b,3,none⟩ = some (.slice d e f))∧w.frozen? ⟨b,0,none⟩ = false∧w.frozen? ⟨b,1,none⟩ = false∧w.frozen? ⟨b,2,none⟩ = false∧w.frozen? ⟨b,3,none⟩ = false:=h.cells (k:=0) (by omega)
def bput (w:World) (b:Nat) (ng:Bool) (a:Option Addr) (m c:Nat) (mg:Bool) (d:Option Addr) (e f:Nat):World:=(((w.setCell ⟨b,0,none⟩ (.bool ng)).setCell ⟨b,1,none⟩ (.slice a m c)).setCell ⟨b,2,none⟩ (.bool mg)).setCell ⟨b,3,none⟩ (.slice d e f)
theorem PFx.bput {b:Nat} {ok:Nat→Prop} {r:Nat→Rat} {L:Nat} {x:Rat} {ng:Bool} {ao:Option Addr} {m c:Nat} {mg:Bool} {d:Option Addr} {e f:Nat} (h:PFx w b 1 ok r L) (hq:OQ x L (.agg #[.bool ng,.slice ao m c,.bool mg,.slice d e f]) w) :
  BQ (bput w b ng ao m c mg d e f) b x L∧(∀ B,B≤b→Below B w (bput w b ng ao m c mg d e f))∧Rl w (bput w b ng ao m c mg d e f)∧∀ j,j≠b→(bput w b ng ao m c mg d e f).heap[j]? = w.heap[j]? := by
 obtain ⟨_,_,_,_,_,_,_,_,e0,h1,h2⟩:=hq.split
 simp only [Value.agg.injEq,Array.mk.injEq,List.cons.injEq,Value.bool.injEq,Value.slice.injEq,and_true] at e0
 obtain ⟨rfl,⟨rfl,rfl,rfl⟩,rfl,rfl,rfl,rfl⟩:=e0
 obtain ⟨p1,p2,p3,p4⟩:=h.put (k:=0) (x:=x) (by omega) h1 h2
 exact ⟨p1.mono fun k hk _=>⟨.inr (by omega),by rw [if_pos (by omega)]⟩,p2,p3,p4⟩
theorem BQ.below {w' : World} {b:Nat} {x:Rat} {L:Nat} (h:BQ w b x L) (hb:Below w.heap.size w w'):BQ w' b x L:=PFx.below h hb
theorem BQ.keep {w' : World} {b:Nat} {x:Rat} {L:Nat} (h:BQ w b x L) (hr:Rl w w') (hk:w'.heap[b]? = w.heap[b]?):BQ w' b x L:=PFx.rl h hr hk
theorem BQ.lt {b:Nat} {x:Rat} {L:Nat} (h:BQ w b x L):b<w.heap.size:=PFx.lt h
theorem BQ.read {b:Nat} {x:Rat} {L:Nat} (h:BQ w b x L):∃ ng a m c mg d e f,w.cell? ⟨b,0,none⟩ = some (.bool ng)∧w.cell? ⟨b,1,none⟩ = some (.slice a m c)∧w.cell? ⟨b,2,none⟩ = some (.bool mg)∧w.cell? ⟨b,3,none⟩ = some (.slice d e f)∧OutN x.num L (.agg #[.bool ng,.slice a m c]) w∧OutN (x.den:Int) L (.agg #[.bool mg,.slice d e f]) w:=PFx.at h (k:=0) (by omega) trivial
theorem air {b:Nat} {x:Rat} {L:Nat} (hp:a.eval (.tmp i)=.pointer (some ⟨b,0,none⟩)) (h:BQ w b x L):Does Tryz.prog { dst,op:=.load 77 (.tmp i),type:=ty,pos,after,guard } a.eval w fun v' w'=>Below w.heap.size w w'∧OQ x L v' w' := by
 obtain ⟨ng,a1,m,c,mg,d,e,f,h0,h1,h2,h3,o1,o2⟩:=h.read
 exact am3 hp h0 h1 h2 h3 (ajn o1 o2)
theorem acz {b n c k:Nat} (h:a.eval (.tmp i)=.slice (some ⟨b,0,none⟩) n c) (hk:a.eval (.tmp j)=.int .i64 (k:Int)) (hl:k<n):Does Tryz.prog { dst,op:=.indexAddr 75 (.tmp i) (.tmp j),type:=ty,pos,after,guard } a.eval w fun v' w'=>Below w.heap.size w w'∧Eqs (.pointer (some ⟨b,k*4,none⟩)) v' w' := by
 have h1:=av5 (w:=w) (dst:=dst) (ty:=ty) (pos:=pos) (after:=after) (guard:=guard) h rfl hk hl
 rwa [Nat.zero_add] at h1
theorem agk {b n k:Nat} {ok:Nat→Prop} {r:Nat→Rat} {L:Nat} (hp:a.eval (.tmp i)=.pointer (some ⟨b,k*4,none⟩)) (h:PFx w b n ok r L) (hk:k<n) (ho:ok k):Does Tryz.prog { dst,op:=.load 77 (.tmp i),type:=ty,pos,after,guard } a.eval w fun v' w'=>Below w.heap.size w w'∧OQ (r k) L v' w' := by
 obtain ⟨ng,a1,m,c,mg,d,e,f,h0,h1,h2,h3,o1,o2⟩:=h.at hk ho
 exact am3 hp h0 h1 h2 h3 (ajn o1 o2)
theorem aw7 {b n k:Nat} {ok:Nat→Prop} {r:Nat→Rat} {L:Nat} (hp:a.eval (.tmp i)=.pointer (some ⟨b,k*4,none⟩)) (h:PFx w b n ok r L) (hk:k<n) (ho:ok k):Does Tryz.prog { dst,op:=.load 51 (.tmp i),type:=ty,pos,after,guard } a.eval w fun v' w'=>Below w.heap.size w w'∧OutN (r k).num L v' w' := by
 obtain ⟨ng,a1,m,c,mg,d,e,f,h0,h1,h2,h3,o1,o2⟩:=h.at hk ho
 exact agh hp h0 h1 o1
theorem aw8 {b n k:Nat} {ok:Nat→Prop} {r:Nat→Rat} {L:Nat} (hp:a.eval (.tmp i)=.pointer (some ⟨b,k*4+2,none⟩)) (h:PFx w b n ok r L) (hk:k<n) (ho:ok k):Does Tryz.prog { dst,op:=.load 51 (.tmp i),type:=ty,pos,after,guard } a.eval w fun v' w'=>Below w.heap.size w w'∧OutN ((r k).den:Int) L v' w' := by
 obtain ⟨ng,a1,m,c,mg,d,e,f,h0,h1,h2,h3,o1,o2⟩:=h.at hk ho
 exact agh hp h2 h3 o2
def OneQ (r:Rat) (L:Nat):Says:=fun v w=>∃ g ng a m c mg d e f,v=.slice (some ⟨g,0,none⟩) 1 1∧w.heap[g]? = some (.cells #[.bool ng,.slice a m c,.bool mg,.slice d e f] 77 (0,0))∧OutN r.num L (.agg #[.bool ng,.slice a m c]) w∧OutN (r.den:Int) L (.agg #[.bool mg,.slice d e f]) w
theorem OneQ.mono (r:Rat) (L:Nat):Mono (OneQ r L):=fun _ _ _ hb ⟨g,ng,a,m,c,mg,d,e,f,e1,h,o,o'⟩=>⟨g,ng,a,m,c,mg,d,e,f,e1,(hb.block g (aaa h)).trans h,o.rl (Rl.of_below hb),o'.rl (Rl.of_below hb)⟩
theorem aw9 {r:Rat} {L:Nat} (h:OQ r L (a.eval (.tmp i)) w) :
  Does Tryz.prog { dst,op:=.buildSlice 75 1 #[(0,.tmp i)],type:=ty,pos,after,guard } a.eval w fun v w'=>Below w.heap.size w w'∧OneQ r L v w' := by
 obtain ⟨ng,ao,n,c,mg,d,e,f,e1,o1,o2⟩:=h.split
 have hb:=hAl w (.cells #[.bool ng,.slice ao n c,.bool mg,.slice d e f] 77)
 refine ac4 (v:=.slice (some ⟨w.heap.size,0,none⟩) 1 1) (w' := w.alloc (.cells #[.bool ng,.slice ao n c,.bool mg,.slice d e f] 77)) ?_ ⟨hb,_,_,_,_,_,_,_,_,_,rfl,heap_alloc_new _ _,o1.rl (Rl.of_below hb),o2.rl (Rl.of_below hb)⟩
 simp only [List.map_toArray,List.map_cons,List.map_nil,e1]
 go_simp
theorem ayn {z:Int} {L:Nat} (h1:OutN z L (a.eval (.tmp i)) w) (h2:OutN 1 L (a.eval (.tmp j)) w):Does Tryz.prog { dst,op:=.build 77 #[(0,.tmp i),(1,.tmp j)],type:=ty,pos,after,guard } a.eval w fun v' w'=>Below w.heap.size w w'∧OQ (z:Rat) L v' w' := ajl h1 h2
end
structure PrI (rows:List (List Int)) (n S:Nat) (B:Md.Rw→Nat) (c:Nat) (P:List (List Int)) (s:Int):Prop where
 len:P.length=n
 mem:∀ r ∈ P,r ∈ rows
 sum:sumB B (P.map fnR)≤S
 nz:dl P c≠0
 sg:s=1∨s = -1
 det:s*dt n P=dt n rows
def fr (P:List (List Int)) (c i j:Nat):Rat:=Rat.divInt (nq P c i j) (dl P c)
theorem axa (P:List (List Int)) (i j:Nat):fr P 0 i j=((fnR (P.getD i []) j:Int):Rat):=by
 rw [fr,aww,am6]
 exact (Rat.divInt_ofNat _ 1).trans (Rat.mkRat_one _)
theorem PrI.start {rows:List (List Int)} {n S:Nat} {B:Md.Rw→Nat} (hl:rows.length=n) (hB:Bnd rows S B):PrI rows n S B 0 rows 1 :=
 ⟨hl,fun _ h=>h,hB.sum,by rw [am6];decide,.inl rfl,Int.one_mul _⟩
section
variable {rows:List (List Int)} {n S:Nat} {B:Md.Rw→Nat} {c:Nat} {P:List (List Int)} {s:Int}
theorem agl (S:Nat) {z:Int} (h:(z.natAbs:Int)≤pw S):(z.natAbs:Int)<pw (S+1):=by
 have h2:pw (S+1)=pw S*4294967296:=by rw [aca];rfl
 have h3:=aaj S
 omega
theorem PrI.nq_fit (h:PrI rows n S B c P s) (hB:Bnd rows S B) (hn:n≤64) {c' i:Nat} (hi:i<n) (hc:c'≤i) (j:Nat):((nq P c' i j).natAbs:Int)<pw (S+1) :=
 agl S (ay1 (B:=B) (fun r hr=>hB.big r (h.mem r hr)) h.sum (by rw [h.len];exact hn) (by rw [h.len];exact hi) hc j)
theorem PrI.dl_fit (h:PrI rows n S B c P s) (hB:Bnd rows S B) (hn:n≤64) {c' : Nat} (hc:c'≤n):((dl P c').natAbs:Int)<pw (S+1) :=
 agl S (ay2 (B:=B) (fun r hr=>hB.big r (h.mem r hr)) h.sum (by rw [h.len];exact hn) (by rw [h.len];exact hc))
theorem PrI.fr_fit (h:PrI rows n S B c P s) (hB:Bnd rows S B) (hn:n≤64) {i:Nat} (hi:i<n) (hc:c≤i) (j:Nat):Fit (fr P c i j) (S+1) :=
 ad8 h.nz (h.nq_fit hB hn hi hc j) (h.dl_fit hB hn (by omega))
theorem axb {z:Int} {S:Nat} (h:(z.natAbs:Int)<pw (S+1)):Fit (z:Rat) (S+1) :=
 ⟨by simpa using h,by have h1:=agl S (z:=1) (by have:=aaj S;simpa using this);simpa using h1⟩
theorem PrI.next (h:PrI rows n S B c P s) (hc:c<n) (hp:nq P c c c≠0):PrI rows n S B (c+1) P s :=
 ⟨h.len,h.mem,h.sum,by rw [aiq (by rw [h.len];exact hc)];exact hp,h.sg,h.det⟩
theorem PrI.swap (h:PrI rows n S B c P s) {k:Nat} (hck:c<k) (hk:k<n):∃ P',PrI rows n S B c P' (-s)∧dl P' c=dl P c∧∀ i j,c≤i→i<n→fr P' c i j=fr P c (if i=c then k else if i=k then c else i) j:=by
 have hl:=h.len
 obtain ⟨x,hx⟩:∃ x,P[c]? = some x:=⟨_,List.getElem?_eq_getElem (by omega)⟩
 obtain ⟨y,hy⟩:∃ y,P[k]? = some y:=⟨_,List.getElem?_eq_getElem (by omega)⟩
 have hdl:=awz (P:=P) (c:=c) (k:=k) (by omega) x y
 refine ⟨(P.set c y).set k x,⟨by simpa using hl,fun r hr=>?_,?_,by rw [hdl];exact h.nz,by have:=h.sg;omega,?_⟩,hdl,fun i j h1 h2=>?_⟩
 ·rcases List.mem_or_eq_of_mem_set hr with hr | rfl
  ·rcases List.mem_or_eq_of_mem_set hr with hr | rfl
   ·exact h.mem r hr
   ·exact h.mem _ (List.mem_of_getElem? hy)
  ·exact h.mem _ (List.mem_of_getElem? hx)
 ·have hp:((P.set c y).set k x).Perm P:=by
   have e1:=(List.getElem?_eq_some_iff.1 hx).2
   have e2:=(List.getElem?_eq_some_iff.1 hy).2
   rw [←e1,←e2]
   exact List.set_set_perm (by omega) (by omega)
  rw [af6 (hp.map fnR)]
  exact h.sum
 ·rw [awo (by omega) hx hy,Int.neg_mul_neg]
  exact h.det
 ·rw [fr,fr,hdl,aw0 (by omega),nq]
  congr 3
  by_cases e1:i=c
  ·subst e1
   rw [if_pos rfl,List.getD_eq_getElem?_getD,List.getD_eq_getElem?_getD,List.getElem?_set_ne (by omega),List.getElem?_set_self (by omega),hy]
  ·rw [if_neg e1]
   by_cases e2:i=k
   ·subst e2
    rw [if_pos rfl,List.getD_eq_getElem?_getD,List.getD_eq_getElem?_getD,List.getElem?_set_self (by simp;omega),hx]
   ·rw [if_neg e2,List.getD_eq_getElem?_getD,List.getD_eq_getElem?_getD,List.getElem?_set_ne (by omega),List.getElem?_set_ne (by omega)]
theorem PrI.inv (h:PrI rows n S B c P s) (hp:nq P c c c≠0):Rat.divInt ((fr P c c c).den:Int) (fr P c c c).num=Rat.divInt (dl P c) (nq P c c c)∧(fr P c c c).num≠0:=by
 have hb:(dl P c:Rat)≠0:=by exact_mod_cast h.nz
 have hp' : (nq P c c c:Rat)≠0:=by exact_mod_cast hp
 have h0:fr P c c c≠0:=by
  rw [fr,Rat.divInt_eq_div]
  grind
 refine ⟨?_,fun e=>h0 (Rat.num_eq_zero.1 e)⟩
 rw [←Rat.inv_divInt,Rat.num_divInt_den,fr,Rat.inv_divInt]
theorem PrI.inv_fit (h:PrI rows n S B c P s) (hB:Bnd rows S B) (hn:n≤64) (hc:c<n) (hp:nq P c c c≠0):Fit (Rat.divInt (dl P c) (nq P c c c)) (S+1) :=
 ad8 hp (h.dl_fit hB hn (by omega)) (h.nq_fit hB hn hc (Nat.le_refl _) c)
def kq (P:List (List Int)) (c i:Nat):Rat:=-(fr P c i c*Rat.divInt (dl P c) (nq P c c c))
theorem ar2 (hz:dl P c≠0) (hp:nq P c c c≠0) (i:Nat):fr P c i c*Rat.divInt (dl P c) (nq P c c c)=Rat.divInt (nq P c i c) (nq P c c c):=by
 have hb:(dl P c:Rat)≠0:=by exact_mod_cast hz
 have hp' : (nq P c c c:Rat)≠0:=by exact_mod_cast hp
 simp only [fr,Rat.divInt_eq_div]
 grind
theorem PrI.kq_fit (h:PrI rows n S B c P s) (hB:Bnd rows S B) (hn:n≤64) {i:Nat} (hc:c≤i) (hi:i<n) (hp:nq P c c c≠0):Fit (fr P c i c*Rat.divInt (dl P c) (nq P c c c)) (S+1):=by
 rw [ar2 h.nz hp]
 exact ad8 hp (h.nq_fit hB hn hi hc c) (h.nq_fit hB hn (show c<n by omega) (Nat.le_refl _) c)
theorem aft {x y:Int} {A C:Nat} (hx:(x.natAbs:Int)<pw A) (hy:(y.natAbs:Int)<pw C):((x*y).natAbs:Int)<pw (A+C):=by
 rw [Int.natAbs_mul,Int.natCast_mul,aca]
 have h1:=aaj A
 have h2:=aaj C
 have h3:(x.natAbs:Int)*(y.natAbs:Int)≤(pw A - 1)*(pw C - 1):=Int.mul_le_mul (by omega) (by omega) (by omega) (by omega)
 have h4:(pw A - 1)*(pw C - 1)=pw A*pw C - pw A - pw C+1:=by grind
 omega
theorem PrI.step_fit (h:PrI rows n S B c P s) (hB:Bnd rows S B) (hn:n≤64) {i:Nat} (hc:c≤i) (hi:i<n) (hp:nq P c c c≠0) (j:Nat):Fit (kq P c i*fr P c c j) (2*(S+1)):=by
 have hcn:c<n:=by omega
 have e:kq P c i*fr P c c j=Rat.divInt (-(nq P c i c)*nq P c c j) (nq P c c c*dl P c):=by
  have hb:(dl P c:Rat)≠0:=by exact_mod_cast h.nz
  have hp' : (nq P c c c:Rat)≠0:=by exact_mod_cast hp
  rw [kq,ar2 h.nz hp]
  simp only [fr,Rat.divInt_eq_div]
  push_cast
  grind
 rw [e,Nat.two_mul]
 exact ad8 (Int.mul_ne_zero hp h.nz) (aft (by rw [Int.natAbs_neg];exact h.nq_fit hB hn hi hc c) (h.nq_fit hB hn hcn (Nat.le_refl _) j)) (aft (h.nq_fit hB hn hcn (Nat.le_refl _) c) (h.dl_fit hB hn (by omega)))
theorem PrI.step (h:PrI rows n S B c P s) (hc:c<n) (hp:nq P c c c≠0) (i j:Nat):fr P c i j+kq P c i*fr P c c j=fr P (c+1) i j :=
 aw1 (by rw [h.len];exact hc) h.nz hp i j
theorem PrI.dq (h:PrI rows n S B c P s) (hc:c<n) (_hp:nq P c c c≠0):((s*dl P c:Int):Rat)*fr P c c c=((s*dl P (c+1):Int):Rat):=by
 have hb:(dl P c:Rat)≠0:=by exact_mod_cast h.nz
 rw [aiq (by rw [h.len];exact hc),fr,Rat.divInt_eq_div]
 push_cast
 grind
theorem PrI.dq_fit (h:PrI rows n S B c P s) (hB:Bnd rows S B) (hn:n≤64) {c' : Nat} (hc:c'≤n):Fit ((s*dl P c' : Int):Rat) (S+1):=by
 refine axb ?_
 have:=h.dl_fit hB hn hc
 rcases h.sg with e | e
 ·rw [e,Int.one_mul];exact this
 ·rw [e,Int.neg_one_mul,Int.natAbs_neg];exact this
theorem adq {i:Nat} (hz:dl P c≠0):(fr P c i c).num=0↔nq P c i c=0:=by
 rw [Rat.num_eq_zero,fr]
 have hb:(dl P c:Rat)≠0:=by exact_mod_cast hz
 rw [Rat.divInt_eq_div]
 constructor
 ·intro h
  have h2:(nq P c i c:Rat)=0:=by grind
  exact_mod_cast h2
 ·intro h
  rw [h]
  grind
def stR (P:List (List Int)) (c i j i' j' : Nat):Rat:=if c<i'∧(i'<i∨(i' = i∧j'<j)) then fr P (c+1) i' j' else fr P c i' j'
theorem ar3 (P:List (List Int)) (c:Nat) {i' j' : Nat} (hj:c≤j'):stR P c (c+1) c i' j' = fr P c i' j' := by
 unfold stR
 rw [if_neg (by omega)]
theorem axc {P:List (List Int)} {c i j i' j' : Nat} (hi:c<i):(if i' = i∧j' = j then fr P (c+1) i j else stR P c i j i' j')=stR P c i (j+1) i' j' := by
 unfold stR
 by_cases h:i' = i∧j' = j
 ·obtain ⟨rfl,rfl⟩:=h
  rw [if_pos ⟨rfl,rfl⟩,if_pos ⟨hi,.inr ⟨rfl,by omega⟩⟩]
 ·rw [if_neg h]
  congr 1
  apply propext
  omega
theorem axd {P:List (List Int)} {c i n i' j' : Nat} (hj:c≤j') (hn:j'<n):stR P c i n i' j' = stR P c (i+1) c i' j' := by
 unfold stR
 congr 1
 apply propext
 omega
theorem axe {P:List (List Int)} {c n i' j' : Nat} (hi:c<i') (hn:i'<n):stR P c n c i' j' = fr P (c+1) i' j' := by
 unfold stR
 rw [if_pos ⟨hi,.inl hn⟩]
theorem alo {P:List (List Int)} {c i j j' : Nat} (hj:j≤j'):stR P c i j i j' = fr P c i j' := by
 unfold stR
 rw [if_neg (by omega)]
theorem axf {P:List (List Int)} {c i j j' : Nat} : stR P c i j c j' = fr P c c j' := by
 unfold stR
 rw [if_neg (by omega)]
end
theorem QMx.mid {K:Nat} {w:World} {gq n:Nat} {us:List (Nat × Nat)} {r:Nat→Nat→Rat} {L i k:Nat} {p:Nat × Nat} (h:QMx K w gq n us r L) (hp:us[i]? = some p) (hik:i≠k) (v:Value):(w.setCell ⟨gq,k,none⟩ v).cell? ⟨gq,i,none⟩ = some (slQ n p)∧(w.setCell ⟨gq,k,none⟩ v).frozen? ⟨gq,i,none⟩ = false:=by
 obtain ⟨sp,_,h1⟩:=h.top
 have hi:=(List.getElem?_eq_some_iff.1 hp).1
 have s1:=heap_setCell_same w gq k _ _ v h1
 refine ⟨?_,frozen_of_row _ _ _ _ _ s1⟩
 rw [cell_of_row _ _ _ _ _ (0,0) s1]
 simp only [List.setIfInBounds_toArray,List.getElem?_toArray]
 rw [List.getElem?_set_ne (fun e=>hik e.symm),List.getElem?_append_left (by simpa using hi),List.getElem?_map,hp]
 rfl
theorem QMx.keep {K:Nat} {w w' : World} {gq n:Nat} {us:List (Nat × Nat)} {r:Nat→Nat→Rat} {L:Nat} (h:QMx K w gq n us r L) (hr:Rl w w') (hk:w'.heap[gq]? = w.heap[gq]?) (hu:∀ p ∈ us,w'.heap[p.1]? = w.heap[p.1]?):QMx K w' gq n us r L:=by
 obtain ⟨⟨sp,hsp,h1⟩,h2,h3,h4,h5⟩:=h
 exact ⟨⟨sp,hsp,hk.trans h1⟩,h2,h3,h4,fun i p hp=>(h5 i p hp).rl hr (hu p (List.mem_of_getElem? hp))⟩
theorem alp {us:List (Nat × Nat)} {i k:Nat} {p q x:Nat × Nat} (hp:us[i]? = some p) (hq:us[k]? = some q) (hx:x ∈ (us.set k p).set i q):x ∈ us:=by
 rcases List.mem_or_eq_of_mem_set hx with hx | rfl
 ·rcases List.mem_or_eq_of_mem_set hx with hx | rfl
  ·exact hx
  ·exact List.mem_of_getElem? hp
 ·exact List.mem_of_getElem? hq
theorem amh (w:World) (v:Value) (x:Rat) (L M:Nat) (h:OQ x L v w) (hL:L≤400000) (hf:Fit x M):Calls Tryz.prog 46 #[v] w fun e w'=>∃ r,e=.returned r∧OQ (-x) (3*M) r w'∧Below w.heap.size w w' := by
 obtain ⟨nx,ax,cx,xs,ox,bx,dx,xt,rfl,Gx,Kx,Lx,Mx⟩:=h
 refine (ak3 w L _ _ _ _ _ Gx Lx _ _ _ _ _ Kx Mx hL).mono ?_
 rintro e w' ⟨v,rfl,h1,hb⟩
 refine ⟨v,rfl,OQ.fit (L:=2*L) h1 ⟨?_,?_⟩,hb⟩
 ·rw [Rat.neg_num,Int.natAbs_neg]
  exact hf.1
 ·rw [Rat.neg_den]
  exact hf.2
def rz (rows:List (List Int)) (i k:Nat):Rat:=((fnR (rows.getD i []) k:Int):Rat)
theorem ayo {rows:List (List Int)} {i:Nat} {z:List Int} (hz:rows[i]? = some z) (k:Nat):(z.map (fun (x:Int)=>(x:Rat))).getD k 0=rz rows i k:=by
 have e:rows.getD i []=z:=by rw [List.getD_eq_getElem?_getD,hz];rfl
 rw [rz,e,fnR,List.getD_eq_getElem?_getD,List.getElem?_map,List.getD_eq_getElem?_getD]
 cases z[k]? <;> rfl
theorem axg (rows:List (List Int)) (i:Nat):(fun i'=>if i' = i then rz rows i else rz rows i')=rz rows:=by
 funext i'
 split
 ·next h=>rw [h]
 ·rfl
end Lm
end Go.Proofs.YtgmobkafnefpfaaGreat
namespace Go.Proofs.YtgmobkafnefpfaaGreat
namespace Lm
open Go Go.RowKit Md
set_option maxRecDepth 20000 in
set_option maxHeartbeats 64000000 in
set_option maxRecDepth 100000 in
theorem alq (w:World) (v:Value) (rows:List (List Int)) (n S:Nat) (B:Md.Rw→Nat) (h:NM w v rows (3*(S+1))) (hl:rows.length=n) (hrn:∀ r ∈ rows,r.length=n) (hn:n≤64) (h0:0<n) (hS:S≤1500) (hB:Bnd rows S B) :
  Calls Tryz.prog 22 #[v] w fun e w'=>∃ r,e=.returned r∧OutN (dt n rows) (3*(S+1)) r w'∧Below w.heap.size w w' := by
 obtain ⟨ao,cp,rfl,_⟩:=h.parts
 rw [hl] at h ⊢
 have H:=hide h
 have HRN:=hide hrn
 have HLN:=hide hl
 have HBN:=hide hB
 obtain ⟨w0,e0,br,hs0,hb0⟩:∃ w0,w.alloc (.cells #[.bool false,.slice none 0 0] 51)=w0∧Dm.Box w0 w.heap.size false (.slice none 0 0)∧w.heap.size<w0.heap.size∧Below w.heap.size w w0:=⟨_,rfl,heap_alloc_new _ _,aaa (heap_alloc_new _ _),hAl _ _⟩
 have E0:=hide e0
 have HBR:=hide br
 have HS0:=hide hs0
 have HB0:=hide hb0
 have hone:((1:Int).natAbs:Int)<pw (S+1):=agl S (by have:=aaj S;simpa using this)
 have HONE:=hide hone
 clear h hrn hl hB e0 br hs0 hb0 hone
 go_enter Tryz.func22,Tryz.ntmps22
 go_wp2_with fail
 rw [E0.out]
 go_loopw [3,4] (fun ov iv wr=>∃ (i:Nat) (us:List (Nat × Nat)),iv=.int .i64 i∧i≤n∧us.length=i∧Below w0.heap.size w0 wr∧QmO w0.heap.size wr ov n us (rz rows) (3*(S+1))) (fun _ iv _=>n - (intOf iv).toNat)
 case atStart=>exact ⟨0,[],rfl,Nat.zero_le _,rfl,Below.refl _ _,aws _ _ _ _ _⟩
 case round =>
  obtain ⟨i,us,rfl,hi,hul,hbw,hown⟩:=hrel
  have HW:=hide hbw
  have HOWN:=hide hown
  have HUL:=hide hul
  obtain ⟨oa,oc,hov,-⟩:=Ce.own hown.own
  subst hov
  rw [hul] at HOWN ⊢
  by_cases hlt:i<n
  ·have hlt' : (i:Int)<(n:Int):=by omega
   obtain ⟨z,hz⟩:∃ z,rows[i]? = some z:=⟨_,List.getElem?_eq_getElem (by have:=HLN.out;omega)⟩
   have hzn:=HRN.out z (List.mem_of_getElem? hz)
   have HZ:=hide hz
   have HZN:=hide hzn
   obtain ⟨wi,hwi⟩:∃ wi,wi=wr:=⟨_,rfl⟩
   subst hwi
   clear hbw hown hul hz hzn
   go_wp2_with fail
   go_loopw [5,6] (fun rv kv wr=>∃ (k:Nat) (fs:List WE),kv=.int .i64 k∧k≤n∧Below wi.heap.size wi wr∧QnO wi.heap.size wr rv fs ((z.take k).map (fun (x:Int)=>(x:Rat))) (3*(S+1))) (fun _ kv _=>n - (intOf kv).toNat)
   case atStart=>exact ⟨0,[],rfl,Nat.zero_le _,Below.refl _ _,av3 _ _ _⟩
   case round =>
    obtain ⟨k,fs,rfl,hk,hbk,hq⟩:=hrel
    have HBK:=hide hbk
    have HQ:=hide hq
    obtain ⟨ra,rc,hrv,-⟩:=Ce.own hq.own
    subst hrv
    have hrl:((z.take k).map (fun (x:Int)=>(x:Rat))).length=k:=by rw [List.length_map,List.length_take];have:=HZN.out;omega
    rw [hrl] at HQ ⊢
    have HRL:=hide hrl
    have hww:Below w.heap.size w wr:=HB0.out.trans ((HW.out.mono HB0.out.size).trans (hbk.mono (Nat.le_trans HB0.out.size HW.out.size)))
    have HWW:=hide hww
    by_cases hltk:k<n
    ·have hltk' : (k:Int)<(n:Int):=by omega
     obtain ⟨d,hd⟩:∃ d,z[k]? = some d:=⟨_,List.getElem?_eq_getElem (by have:=HZN.out;omega)⟩
     obtain ⟨b,off,u,rfl,hbl,x0,hu⟩:=(H.out.below hww).cell HZ.out
     obtain ⟨ua,uc,rfl,-⟩:=id hu.parts
     rw [HZN.out] at x0 hu
     obtain ⟨b2,o2,ng2,a2,m2,c2,rfl,hbl2,y0,y1,hy2⟩:=hu.cell hd
     have HY2:=hide hy2
     have HD:=hide hd
     clear hbk hq hrl hww hu hy2 hd
     go_upto_region 9 with fail
     refine ab6 11 [27,28,29,30,31,32,33,34,35,36,37] [Eqs (.slice ra k rc),Eqs (.slice (some ⟨b,off,none⟩) n cp),Eqs (.int .i64 (i:Int)),Eqs (.pointer (some ⟨b,off+i,none⟩)),Eqs (.slice (some ⟨b2,o2,none⟩) n uc),Eqs (.int .i64 (k:Int)),Eqs (.pointer (some ⟨b2,o2+k*2,none⟩)),(OutN d (3*(S+1))),(OutN 1 (3*(S+1))),(OQ (d:Rat) (3*(S+1))),(OneQ (d:Rat) (3*(S+1)))] rfl rfl (by decide) (by kernel_rfl) (by kernel_rfl) (by decide) (by kernel_rfl) ⟨Eqs.mono _,Eqs.mono _,Eqs.mono _,Eqs.mono _,Eqs.mono _,Eqs.mono _,Eqs.mono _,(Mono.of4 (OutN.mono4 _ _)),(Mono.of4 (OutN.mono4 _ _)),(OQ.mono _ _),(OneQ.mono _ _),trivial⟩ ?_ ?_
     ·exact ⟨⟨rfl,fun a_ w_ _ hB hR hD=>aao ((hR 5 rfl).trans (aac rfl))⟩,
        ⟨rfl,fun a_ w_ _ hB hR hD=>aao ((hR 0 rfl).trans (aac rfl))⟩,
        ⟨rfl,fun a_ w_ _ hB hR hD=>aao ((hR 4 rfl).trans (aac rfl))⟩,
        ⟨rfl,fun a_ w_ _ hB hR hD=>ale (show a_.eval (.tmp 28)=.slice (some ⟨b,off,none⟩) n cp from hD 1 rfl) (show a_.eval (.tmp 29)=.int .i64 (i:Int) from hD 2 rfl) hlt⟩,
        ⟨rfl,fun a_ w_ _ hB hR hD=>ari (show a_.eval (.tmp 30)=.pointer (some ⟨b,off+i,none⟩) from hD 3 rfl) ((hB.cell (p:=⟨b,off+i,none⟩) hbl).trans x0)⟩,
        ⟨rfl,fun a_ w_ _ hB hR hD=>aao ((hR 6 rfl).trans (aac rfl))⟩,
        ⟨rfl,fun a_ w_ _ hB hR hD=>avw (show a_.eval (.tmp 31)=.slice (some ⟨b2,o2,none⟩) n uc from hD 4 rfl) rfl (show a_.eval (.tmp 32)=.int .i64 (k:Int) from hD 5 rfl) hltk⟩,
        ⟨rfl,fun a_ w_ _ hB hR hD=>agh (show a_.eval (.tmp 33)=.pointer (some ⟨b2,o2+k*2,none⟩) from hD 6 rfl) ((hB.cell (p:=⟨b2,o2+k*2,none⟩) hbl2).trans y0) ((hB.cell (p:=⟨b2,o2+k*2+1,none⟩) hbl2).trans y1) (HY2.out.rl (Rl.of_below hB))⟩,
        ⟨rfl,fun a_ w_ _ hB hR hD=>(ave (by decide) (by decide)).mono fun _ _ h_=>⟨h_.1,h_.2.fit HONE.out⟩⟩,
        ⟨rfl,fun a_ w_ _ hB hR hD=>ayn (show (OutN d (3*(S+1))) (a_.eval (.tmp 34)) w_ from hD 7 rfl) (show (OutN 1 (3*(S+1))) (a_.eval (.tmp 35)) w_ from hD 8 rfl)⟩,
        ⟨rfl,fun a_ w_ _ hB hR hD=>aw9 (show (OQ (d:Rat) (3*(S+1))) (a_.eval (.tmp 36)) w_ from hD 9 rfl)⟩,
        trivial⟩
     ·intro a' w' hn' hd' hB' hR' hP'
      have e27:a'.eval (.tmp 27)=.slice ra k rc:=hP' 0 (by decide)
      have e28:a'.eval (.tmp 28)=.slice (some ⟨b,off,none⟩) n cp:=hP' 1 (by decide)
      have e29:a'.eval (.tmp 29)=.int .i64 (i:Int):=hP' 2 (by decide)
      have e30:a'.eval (.tmp 30)=.pointer (some ⟨b,off+i,none⟩):=hP' 3 (by decide)
      have e31:a'.eval (.tmp 31)=.slice (some ⟨b2,o2,none⟩) n uc:=hP' 4 (by decide)
      have e32:a'.eval (.tmp 32)=.int .i64 (k:Int):=hP' 5 (by decide)
      have e33:a'.eval (.tmp 33)=.pointer (some ⟨b2,o2+k*2,none⟩):=hP' 6 (by decide)
      obtain ⟨u34,e34⟩:∃ u,a'.eval (.tmp 34)=u:=⟨_,rfl⟩
      obtain ⟨u35,e35⟩:∃ u,a'.eval (.tmp 35)=u:=⟨_,rfl⟩
      obtain ⟨u36,e36⟩:∃ u,a'.eval (.tmp 36)=u:=⟨_,rfl⟩
      obtain ⟨u37,e37⟩:∃ u,a'.eval (.tmp 37)=u:=⟨_,rfl⟩
      have hT:(OneQ (d:Rat) (3*(S+1))) (a'.eval (.tmp 37)) w' := hP' 10 (by decide)
      rw [e37] at hT
      refine abn hn' hd' hR' (.s16 rfl <| .s4 rfl <| .s4 rfl <| .same rfl <| .same rfl <| .same rfl <| .new e27 <| .new e28 <| .new e29 <| .new e30 <| .new e31 <| .new e32 <| .new e33 <| .new e34 <| .new e35 <| .new e36 <| .new e37 <| .s16 rfl <| .s16 rfl <| .s16 rfl <| .s16 rfl <| .s16 rfl <| .s16 rfl <| .s16 rfl <| .s16 rfl <| .s4 rfl <| .same rfl <| .same rfl <| .nil) ?_
      clear e27 e28 e29 e30 e31 e32 e33 e34 e35 e36 e37
      obtain ⟨g,ng,a,m,c,mg,d',e,f,rfl,O,o1,o2⟩:=hT
      have hQm:=HQ.out.below hB'
      have hsz:wi.heap.size≤w'.heap.size:=Nat.le_trans HBK.out.size hB'.size
      have hfl:((z.take k).map (fun (x:Int)=>(x:Rat))).length≤1000000:=by rw [HRL.out];omega
      clear hR' hP' hn' hd' x0 y0 y1 hbl hbl2
      refine abt rfl (av4 (i:=27) (j:=37) rfl rfl hQm O o1 o2 hfl hsz) ?_
      rintro v3 w3 ⟨hR3,hb3⟩
      obtain ⟨aov3,capv3,hov3,-⟩:=Ce.own hR3.own
      rw [List.length_append,HRL.out] at hov3
      have hov4:v3=.slice aov3 (k+1) capv3:=hov3
      subst hov4
      have HR3:=hide hR3
      have HB3:=hide ((HBK.out.trans (hB'.mono HBK.out.size)).trans hb3)
      clear hR3 hb3 hov3 hQm O o1 o2 hsz hfl hB'
      go_wp2
      go_roundw
      case rel=>exact ⟨k+1,_,by go_num,by omega,HB3.out,by rw [List.take_add_one,HD.out,List.map_append];exact HR3.out⟩
      case measure=>simp [intOf];omega
    ·have hltk' : decide ((k:Int)<(n:Int))=false:=by simp;omega
     obtain rfl:n=k:=by omega
     have hq2:=HQ.out
     rw [List.take_of_length_le (by have:=HZN.out;omega)] at hq2
     obtain ⟨g,cap,hrv,hg,hcap,hP⟩:=hq2.pfx (by rw [List.length_map,HZN.out];exact h0)
     rw [List.length_map,HZN.out] at hrv hcap hP
     obtain ⟨hra,hrc⟩:ra=some ⟨g,0,none⟩∧rc=cap:=by simpa using hrv
     subst hra hrc
     have hcm:rc≤9223372036854775807:=by
      obtain ⟨_,⟨_,h0'⟩ | ⟨g',cap',cur,e,_,hh,hc',hm',hs',ht'⟩⟩:=hq2.own
      ·rw [List.length_map,HZN.out] at h0';omega
      ·obtain ⟨_,_,rfl⟩:=(Value.slice.injEq .. ▸ e);exact hm'
     have hP2:PFx wr g n (fun _=>True) (rz rows i) (3*(S+1)):=hP.mono fun j _ _=>⟨trivial,ayo HZ.out j⟩
     have hA:=hAl wr (.cells #[.slice (some ⟨g,0,none⟩) n rc] 75)
     have hO:=heap_alloc_new wr (.cells #[.slice (some ⟨g,0,none⟩) n rc] 75)
     have hRm:=(HOWN.out.below hbk).below hA
     have hS2:=hP2.below hA
     have hpq:w0.heap.size≤(g,rc).1∧(g,rc).1 ∉ us.map Prod.fst∧n≤(g,rc).2∧(g,rc).2≤9223372036854775807:=by
      refine ⟨Nat.le_trans HW.out.size hg,fun hm=>?_,hcap,hcm⟩
      obtain ⟨p,hp,hpe⟩:=List.mem_map.1 hm
      obtain ⟨q,hq'⟩:=List.getElem?_of_mem hp
      have:=(HOWN.out.rows q p hq').lt
      simp only at hpe
      omega
     have hfl:us.length≤1000000:=by have:=HUL.out;omega
     have hsz:w0.heap.size≤(wr.alloc (.cells #[.slice (some ⟨g,0,none⟩) n rc] 75)).heap.size:=Nat.le_trans HW.out.size (Nat.le_trans hbk.size hA.size)
     have HWR:=hide (HW.out.trans ((hbk.trans (hA.mono hbk.size)).mono HW.out.size))
     clear hbk hq hq2 hrl hww hP hP2 hrv hg hcap hcm
     go_wp2_with (at_builtin;refine abt rfl (att (i:=39) (j:=41) (p:=(g,rc)) rfl rfl hRm hO hS2 hpq hfl hsz) ?_)
     intro v3 w3 hR3 hb3
     obtain ⟨aov3,capv3,hov3,-⟩:=Ce.own hR3.own
     rw [List.length_append,HUL.out] at hov3
     have hov4:v3=.slice aov3 (i+1) capv3:=hov3
     subst hov4
     rw [HUL.out,axg] at hR3
     have HR3:=hide hR3
     have HB3:=hide (HWR.out.trans hb3)
     clear hR3 hb3 hov3 hO hRm hS2 hpq hfl hsz hA
     go_wp2
     go_roundw
     case rel=>exact ⟨i+1,_,by go_num,by omega,by rw [List.length_append,HUL.out];rfl,HB3.out,HR3.out⟩
     case measure=>simp [intOf];omega
  ·have hlt' : decide ((i:Int)<(n:Int))=false:=by simp;omega
   obtain rfl:n=i:=by omega
   obtain ⟨gq,gc,hov,hMx⟩:=HOWN.out.made (by rw [hul];exact h0)
   rw [hul] at hov
   obtain ⟨hoa,hoc⟩:oa=some ⟨gq,0,none⟩∧oc=gc:=by simpa using hov
   subst hoa hoc
   have HMX:=hide hMx
   have K1:=hide (Dm.aff wr 1 (by decide) (by decide))
   clear hbw hown hov hMx HOWN hul
   go_wp2_with fail
   refine K1.out.mono ?_
   rintro e w1 ⟨ng1,ao1,cap1,rs1,rfl,G1,l1,hb1⟩
   have K2:=hide (Dm.aff w1 1 (by decide) (by decide))
   have HG1:Hid (OutN 1 5 (.agg #[.bool ng1,.slice ao1 rs1.length cap1]) w1):=(⟨_,_,_,_,rfl,G1,l1⟩:OutN 1 5 _ w1)
   have HB1:=hide hb1
   clear G1 l1 hb1 K1
   go_wp2_with fail
   refine K2.out.mono ?_
   rintro e w2 ⟨ng2,ao2,cap2,rs2,rfl,G2,l2,hb2⟩
   have o2:OutN 1 5 (.agg #[.bool ng2,.slice ao2 rs2.length cap2]) w2:=⟨_,_,_,_,rfl,G2,l2⟩
   have o1:=HG1.out.rl (Rl.of_below hb2)
   have hA:=hAl w2 (.cells #[.bool ng1,.slice ao1 rs1.length cap1,.bool ng2,.slice ao2 rs2.length cap2] 77)
   have hnw:=heap_alloc_new w2 (.cells #[.bool ng1,.slice ao1 rs1.length cap1,.bool ng2,.slice ao2 rs2.length cap2] 77)
   have hbq:BQ (w2.alloc (.cells #[.bool ng1,.slice ao1 rs1.length cap1,.bool ng2,.slice ao2 rs2.length cap2] 77)) w2.heap.size ((1*dl rows 0:Int):Rat) (3*(S+1)) :=
    ⟨[⟨ng1,ao1,rs1.length,cap1,[]⟩,⟨ng2,ao2,rs2.length,cap2,[]⟩],[],by simp,rfl,hnw,fun k hk _=>by
     obtain rfl:k=0:=by omega
     refine ⟨_,_,rfl,rfl,?_,?_⟩
     ·exact (OutN.fit (show OutN 1 5 _ _ from o1) HONE.out).rl (Rl.of_below hA)
     ·exact (OutN.fit (show OutN 1 5 _ _ from o2) HONE.out).rl (Rl.of_below hA)⟩
   have hall:Below wr.heap.size wr (w2.alloc (.cells #[.bool ng1,.slice ao1 rs1.length cap1,.bool ng2,.slice ao2 rs2.length cap2] 77)):=(HB1.out.trans (hb2.mono HB1.out.size)).trans (hA.mono (Nat.le_trans HB1.out.size hb2.size))
   have hMX:=HMX.out.below hall
   have hlow:(∀ p ∈ us,p.1<w2.heap.size)∧gq<w2.heap.size:=by
    have h1:=HMX.out.lt
    have h2:=HB1.out.size
    have h3:=hb2.size
    exact ⟨fun p hp=>by have:=h1.2 p hp;omega,by have:=h1.1;omega⟩
   have HMXA:=hide hMX
   have HBQ:=hide hbq
   have HALL:=hide (HW.out.trans (hall.mono HW.out.size))
   clear hMX hbq hall hA hnw o1 o2 G2 l2 hb2 K2 HG1 HB1 HW HMX
   go_wp2_with fail
   generalize (w2.alloc (.cells #[.bool ng1,.slice ao1 rs1.length cap1,.bool ng2,.slice ao2 rs2.length cap2] 77))=wa at *
   generalize w2.heap.size=bd at *
   have HLOW:=hide hlow.2
   have HLOWU:=hide hlow.1
   clear hlow
   go_loopw [8] (fun cv wr=>∃ (c:Nat) (us:List (Nat × Nat)) (r:Nat→Nat→Rat) (P:List (List Int)) (s:Int),cv=.int .i64 c∧c≤n∧us.length=n∧Below w0.heap.size w0 wr∧QMx w0.heap.size wr gq n us r (3*(S+1))∧BQ wr bd ((s*dl P c:Int):Rat) (3*(S+1))∧PrI rows n S B c P s∧(∀ i j,c≤i→i<n→c≤j→j<n→r i j=fr P c i j)∧∀ p ∈ us,p.1<bd) (fun cv _=>n - (intOf cv).toNat)
   case atStart=>exact ⟨0,us,_,rows,1,rfl,Nat.zero_le _,HUL.out,HALL.out,HMXA.out,HBQ.out,PrI.start HLN.out HBN.out,fun i j _ _ _ _=>(axa rows i j).symm,HLOWU.out⟩
   case round =>
    clear HUL HALL HMXA HBQ HLOWU us
    obtain ⟨c,us,r,P,s,rfl,hc,hul,hbw,hmx,hbq,hpi,hr,hlow⟩:=hrel
    have HUL:=hide hul
    have HW:=hide hbw
    have HMX:=hide hmx
    have HBQ:=hide hbq
    have HPI:=hide hpi
    have HR:=hide hr
    have HLU:=hide hlow
    by_cases hltc:c<n
    ·have hltc' : (c:Int)<(n:Int):=by omega
     obtain ⟨wv,hwv⟩:∃ wv,wv=wr:=⟨_,rfl⟩
     subst hwv
     clear hul hbw hmx hbq hpi hr hlow
     go_wp2_with fail
     go_loopw [9] (fun av wr=>∃ (j:Nat),av=.int .i64 j∧c≤j∧j≤n∧Below wv.heap.size wv wr∧∀ i,c≤i→i<j→nq P c i c=0) (fun av _=>n - (intOf av).toNat)
     case atStart=>exact ⟨c,rfl,Nat.le_refl _,hc,Below.refl _ _,fun i h1 h2=>by omega⟩
     case round =>
      obtain ⟨j,rfl,hcj,hjn,hbj,hzero⟩:=hrel
      have HJ:=hide hbj
      have HZR:=hide hzero
      by_cases hltj:j<n
      ·have hltj' : (j:Int)<(n:Int):=by omega
       obtain ⟨⟨pb,pc⟩,hp⟩:∃ p,us[j]? = some p:=⟨_,List.getElem?_eq_getElem (by have:=HUL.out;omega)⟩
       have hmj:=HMX.out.below hbj
       obtain ⟨x0,xf⟩:=hmj.cell hp
       obtain ⟨ng,a,m,cc,mg,d,e,f,y0,y1,y2,y3,o1,_⟩:=(hmj.rows j _ hp).at hltc trivial
       have K1:=hide (nsignF wr (r j c).num _ _ o1)
       have HRJ:Hid (r j c=fr P c j c):=HR.out j c hcj hltj (Nat.le_refl _) hltc
       obtain ⟨sg,hsg⟩:∃ sg,Int.sign (r j c).num=sg:=⟨_,rfl⟩
       rw [hsg] at K1
       have HSG:=hide hsg
       have HP:=hide hp
       clear hbj hzero hp hmj o1 hsg y2 y3
       go_wp2_with fail
       refine K1.out.mono ?_
       rintro e w2 ⟨rfl,hb2⟩
       have HB2:=hide (HJ.out.trans (hb2.mono HJ.out.size))
       clear hb2 K1 x0 xf y0 y1
       by_cases hs0:sg=0
       ·have hs0' : (sg == 0)=true:=by simpa using hs0
        go_wp2
        go_roundw
        case rel =>
         refine ⟨j+1,by go_num,by omega,by omega,HB2.out,fun i' h1 h2=>?_⟩
         by_cases hij:i' = j
         ·subst hij
          have h3:(r i' c).num=0:=Int.sign_eq_zero_iff_zero.1 (by rw [HSG.out];exact hs0)
          rw [HRJ.out] at h3
          exact (adq HPI.out.nz).1 h3
         ·exact HZR.out i' h1 (by omega)
        case measure=>simp [intOf];omega
       ·have hs0' : (sg == 0)=false:=by simpa using hs0
        have hne:((j:Int) == (n:Int))=false:=by simp;omega
        have HPJ:Hid (nq P c j c≠0):=(fun h3=>hs0 (by rw [←HSG.out,HRJ.out,(adq HPI.out.nz).2 h3];rfl))
        have HMJ:=hide (HMX.out.below HB2.out)
        have HBJ:=hide (HBQ.out.below HB2.out)
        have HWJ:=hide (HW.out.trans (HB2.out.mono HW.out.size))
        clear HJ HZR HSG HRJ HMX HBQ HW
        go_upto_if 78 with fail
        go_cut [] (fun wx=>∃ (us' : List (Nat × Nat)) (r' : Nat→Nat→Rat) (P' : List (List Int)) (s' : Int),us'.length=n∧Below w0.heap.size w0 wx∧QMx w0.heap.size wx gq n us' r' (3*(S+1))∧BQ wx bd ((s'*dl P' c:Int):Rat) (3*(S+1))∧PrI rows n S B c P' s'∧(∀ i j,c≤i→i<n→c≤j→j<n→r' i j=fr P' c i j)∧(∀ p ∈ us',p.1<bd)∧nq P' c c c≠0)
        case first =>
         by_cases hjc:j=c
         ·have hjc' : ((j:Int) != (c:Int))=false:=by simp;omega
          go_wp2_with fail
          go_meet
          exact ⟨us,r,P,s,HUL.out,HWJ.out,HMJ.out,HBJ.out,HPI.out,HR.out,HLU.out,by have h1:=HPJ.out;rwa [hjc] at h1⟩
         ·have hjc' : ((j:Int) != (c:Int))=true:=by simp;omega
          obtain ⟨⟨qb,qc⟩,hq⟩:∃ p,us[c]? = some p:=⟨_,List.getElem?_eq_getElem (by have:=HUL.out;omega)⟩
          obtain ⟨xj,xjf⟩:=HMJ.out.cell HP.out
          obtain ⟨xc,xcf⟩:=HMJ.out.cell hq
          obtain ⟨m0,m1⟩:=HMJ.out.mid (i:=c) (k:=j) hq (by omega) (slQ n (qb,qc))
          obtain ⟨s1,s2,s3,s4⟩:=HMJ.out.swap (i:=c) (k:=j) hq HP.out (by omega)
          have hbdg:bd≠gq:=by have:=HLOW.out;omega
          have sb:=HBJ.out.keep s3 (s4 bd hbdg)
          simp only [slQ] at m0 m1 s1 s2 s3 s4 sb
          obtain ⟨P',hP',hdl',hfr⟩:=HPI.out.swap (show c<j by omega) hltj
          have HS1:=hide s1
          have HS2:=hide (HWJ.out.trans (s2.mono (Nat.le_refl _)))
          have HSB:=hide sb
          have HP' := hide hP'
          have HDL' := hide hdl'
          have HFR:=hide hfr
          have HQ:=hide hq
          clear s1 s2 s3 s4 sb hP' hdl' hfr hq
          go_upto_region 24 with fail
          generalize (w2.setCell ⟨gq,j,none⟩ (.slice (some ⟨qb,0,none⟩) n qc)).setCell ⟨gq,c,none⟩ (.slice (some ⟨pb,0,none⟩) n pc)=W at *
          clear xj xjf xc xcf m0 m1
          obtain ⟨ng1,a1,m1,c1,mg1,d1,e1,f1,y0,y1,y2,y3,o1,o2⟩:=HSB.out.read
          have KM:=hide (amh W _ _ (3*(S+1)) (S+1) (ajn o1 o2) (by omega) (HPI.out.dq_fit HBN.out hn hc))
          clear o1 o2
          go_wp2_with fail
          refine KM.out.mono ?_
          rintro e w3 ⟨rv,rfl,hQ3,hb3⟩
          obtain ⟨ng2,a2,m2,c2,mg2,d2,e2,f2,rfl,-,-⟩:=id hQ3.split
          obtain ⟨⟨ng3,a3,m3,c3,mg3,d3,e3,f3,z0,z1,z2,z3⟩,zf0,zf1,zf2,zf3⟩:=(HSB.out.below hb3).box
          obtain ⟨t1,t2,t3,t4⟩:=(HSB.out.below hb3).bput hQ3
          simp only [bput] at t1 t2 t3 t4
          have HT1:=hide t1
          have HQM:=hide ((HS1.out.below hb3).keep t3 (t4 gq (fun e=>hbdg e.symm)) (fun p hp=>t4 p.1 (by have:=HLU.out p (alp HQ.out HP.out hp);omega)))
          have HWB:=hide ((HS2.out.trans (hb3.mono HS2.out.size)).trans (t2 _ (by have:=HS1.out.base.1;have:=HLOW.out;omega)))
          clear t1 t2 t3 t4 hQ3 hb3 KM y0 y1 y2 y3
          go_wp2_with fail
          go_meet
          refine ⟨_,_,P',-s,?_,HWB.out,HQM.out,?_,HP'.out,?_,fun p hp=>HLU.out p (alp HQ.out HP.out hp),?_⟩
          ·rw [List.length_set,List.length_set];exact HUL.out
          ·have h1:=HT1.out
           rw [HDL'.out,show ((-s*dl P c:Int):Rat) = -((s*dl P c:Int):Rat) by rw [Int.neg_mul,Rat.intCast_neg]]
           exact h1
          ·intro i' j' h1 h2 h3 h4
           rw [HFR.out i' j' h1 h2]
           by_cases e1:i' = c
           ·rw [if_pos e1,if_pos e1]
            exact HR.out j j' hcj hltj h3 h4
           ·rw [if_neg e1,if_neg e1]
            by_cases e2:i' = j
            ·rw [if_pos e2,if_pos e2]
             exact HR.out c j' (Nat.le_refl _) hltc h3 h4
            ·rw [if_neg e2,if_neg e2]
             exact HR.out i' j' h1 h2 h3 h4
          ·have h1:=HFR.out c c (Nat.le_refl _) hltc
           rw [if_pos rfl] at h1
           intro h2
           have h3:=(adq (P:=P') (i:=c) (by rw [HDL'.out];exact HPI.out.nz)).2 h2
           rw [h1] at h3
           exact HPJ.out ((adq HPI.out.nz).1 h3)
        case rest =>
         clear HMJ HBJ HWJ HUL HPI HR HLU HP HPJ HB2 hcj hltj hltj' hjn hne hs0 hs0'
         obtain ⟨us,r,P,s,hul,hbw,hmx,hbq,hpi,hr,hlow,hpv⟩:=hcut
         have HUL:=hide hul
         have HPI:=hide hpi
         have HLU:=hide hlow
         have HPV:=hide hpv
         have HW:=hide hbw
         have HMX:=hide hmx
         have HBQ:=hide hbq
         have HR:=hide hr
         obtain ⟨⟨pb,pc⟩,hp⟩:∃ p,us[c]? = some p:=⟨_,List.getElem?_eq_getElem (by omega)⟩
         have HP:=hide hp
         obtain ⟨x0,xf⟩:=hmx.cell hp
         have hgl:=hmx.lt.1
         have HROW:Hid (PFx wc pb n (fun j=>c≤j∧j<n) (fr P c c) (3*(S+1))):=((hmx.rows c _ hp).mono fun j _ ho=>⟨trivial,hr c j (Nat.le_refl _) hltc ho.1 ho.2⟩)
         clear hul hbw hmx hbq hpi hr hlow hpv hp
         go_upto_region 25 with fail
         refine ab6 9 [96,97,98,99,100,101,102,103,104] [(OQ ((s*dl P c:Int):Rat) (3*(S+1))),Eqs (.slice (some ⟨gq,0,none⟩) n oc),Eqs (.int .i64 (c:Int)),Eqs (.pointer (some ⟨gq,c,none⟩)),Eqs (.slice (some ⟨pb,0,none⟩) n pc),Eqs (.int .i64 (c:Int)),Eqs (.pointer (some ⟨pb,c*4,none⟩)),(OQ (fr P c c c) (3*(S+1))),(OQ ((s*dl P (c+1):Int):Rat) (3*(S+1)))] rfl rfl (by decide) (by kernel_rfl) (by kernel_rfl) (by decide) (by kernel_rfl) ⟨(OQ.mono _ _),Eqs.mono _,Eqs.mono _,Eqs.mono _,Eqs.mono _,Eqs.mono _,Eqs.mono _,(OQ.mono _ _),(OQ.mono _ _),trivial⟩ ?_ ?_
         ·exact ⟨⟨rfl,fun a_ w_ _ hB hR hD=>air ((hR 7 rfl).trans (aac rfl)) (HBQ.out.below hB)⟩,
            ⟨rfl,fun a_ w_ _ hB hR hD=>aao ((hR 3 rfl).trans (aac rfl))⟩,
            ⟨rfl,fun a_ w_ _ hB hR hD=>aao ((hR 8 rfl).trans (aac rfl))⟩,
            ⟨rfl,fun a_ w_ _ hB hR hD=>acy (show a_.eval (.tmp 97)=.slice (some ⟨gq,0,none⟩) n oc from hD 1 rfl) (show a_.eval (.tmp 98)=.int .i64 (c:Int) from hD 2 rfl) (by omega)⟩,
            ⟨rfl,fun a_ w_ _ hB hR hD=>adj (show a_.eval (.tmp 99)=.pointer (some ⟨gq,c,none⟩) from hD 3 rfl) ((hB.cell (p:=⟨gq,c,none⟩) hgl).trans x0)⟩,
            ⟨rfl,fun a_ w_ _ hB hR hD=>aao ((hR 8 rfl).trans (aac rfl))⟩,
            ⟨rfl,fun a_ w_ _ hB hR hD=>acz (show a_.eval (.tmp 100)=.slice (some ⟨pb,0,none⟩) n pc from hD 4 rfl) (show a_.eval (.tmp 101)=.int .i64 (c:Int) from hD 5 rfl) (by omega)⟩,
            ⟨rfl,fun a_ w_ _ hB hR hD=>agk (show a_.eval (.tmp 102)=.pointer (some ⟨pb,c*4,none⟩) from hD 6 rfl) (HROW.out.below hB) hltc ⟨Nat.le_refl _,hltc⟩⟩,
            ⟨rfl,fun a_ w_ _ hB hR hD=>(by rw [←HPI.out.dq hltc HPV.out];exact afo (M:=S+1) (show (OQ ((s*dl P c:Int):Rat) (3*(S+1))) (a_.eval (.tmp 96)) w_ from hD 0 rfl) (show (OQ (fr P c c c) (3*(S+1))) (a_.eval (.tmp 103)) w_ from hD 7 rfl) (by omega) (by rw [HPI.out.dq hltc HPV.out];exact HPI.out.dq_fit HBN.out hn (by omega)))⟩,
            trivial⟩
         ·intro a' w' hn' hd' hB' hR' hP'
          obtain ⟨u96,e96⟩:∃ u,a'.eval (.tmp 96)=u:=⟨_,rfl⟩
          have e97:a'.eval (.tmp 97)=.slice (some ⟨gq,0,none⟩) n oc:=hP' 1 (by decide)
          have e98:a'.eval (.tmp 98)=.int .i64 (c:Int):=hP' 2 (by decide)
          have e99:a'.eval (.tmp 99)=.pointer (some ⟨gq,c,none⟩):=hP' 3 (by decide)
          have e100:a'.eval (.tmp 100)=.slice (some ⟨pb,0,none⟩) n pc:=hP' 4 (by decide)
          have e101:a'.eval (.tmp 101)=.int .i64 (c:Int):=hP' 5 (by decide)
          have e102:a'.eval (.tmp 102)=.pointer (some ⟨pb,c*4,none⟩):=hP' 6 (by decide)
          obtain ⟨u103,e103⟩:∃ u,a'.eval (.tmp 103)=u:=⟨_,rfl⟩
          obtain ⟨u104,e104⟩:∃ u,a'.eval (.tmp 104)=u:=⟨_,rfl⟩
          have hT:(OQ ((s*dl P (c+1):Int):Rat) (3*(S+1))) (a'.eval (.tmp 104)) w' := hP' 8 (by decide)
          rw [e104] at hT
          refine abn hn' hd' hR' (.s16 rfl <| .s16 rfl <| .s16 rfl <| .s16 rfl <| .s16 rfl <| .s16 rfl <| .new e96 <| .new e97 <| .new e98 <| .new e99 <| .new e100 <| .new e101 <| .new e102 <| .new e103 <| .new e104 <| .s16 rfl <| .s16 rfl <| .s16 rfl <| .s16 rfl <| .same rfl <| .same rfl <| .same rfl <| .nil) ?_
          clear e96 e97 e98 e99 e100 e101 e102 e103 e104
          obtain ⟨ng2,a2,m2,c2,mg2,d2,e2,f2,rfl,-,-⟩:=id hT.split
          obtain ⟨⟨ng3,a3,m3,c3,mg3,d3,e3,f3,z0,z1,z2,z3⟩,zf0,zf1,zf2,zf3⟩:=(HBQ.out.below hB').box
          obtain ⟨t1,t2,t3,t4⟩:=(HBQ.out.below hB').bput hT
          simp only [bput] at t1 t2 t3 t4
          have HT1:=hide t1
          have HQM:=hide ((HMX.out.below hB').keep t3 (t4 gq (by have:=HLOW.out;omega)) (fun p hp=>t4 p.1 (by have:=HLU.out p hp;omega)))
          have HRW:=hide ((HROW.out.below hB').rl t3 (t4 pb (by have:=HLU.out _ (List.mem_of_getElem? HP.out);omega)))
          have HWB:=hide ((HW.out.trans (hB'.mono HW.out.size)).trans (t2 _ (by have:=HMX.out.base.1;have:=HLOW.out;omega)))
          clear t1 t2 t3 t4 hT hR' hP' hn' hd' hB' x0 xf HW HMX HBQ HROW
          go_upto_region 26 with fail
          generalize (((w'.setCell ⟨bd,0,none⟩ (.bool ng2)).setCell ⟨bd,1,none⟩ (.slice a2 m2 c2)).setCell ⟨bd,2,none⟩ (.bool mg2)).setCell ⟨bd,3,none⟩ (.slice d2 e2 f2)=W at *
          clear z0 z1 z2 z3 zf0 zf1 zf2 zf3
          obtain ⟨x0,xf⟩:=HQM.out.cell HP.out
          have hgl:=HQM.out.lt.1
          refine ab6 18 [105,106,107,108,109,110,111,112,113,114,115,116,117,118,119,120,121,11] [Eqs (.slice (some ⟨gq,0,none⟩) n oc),Eqs (.int .i64 (c:Int)),Eqs (.pointer (some ⟨gq,c,none⟩)),Eqs (.slice (some ⟨pb,0,none⟩) n pc),Eqs (.int .i64 (c:Int)),Eqs (.pointer (some ⟨pb,c*4,none⟩)),Eqs (.pointer (some ⟨pb,c*4+2,none⟩)),(OutN ((fr P c c c).den:Int) (3*(S+1))),Eqs (.slice (some ⟨gq,0,none⟩) n oc),Eqs (.int .i64 (c:Int)),Eqs (.pointer (some ⟨gq,c,none⟩)),Eqs (.slice (some ⟨pb,0,none⟩) n pc),Eqs (.int .i64 (c:Int)),Eqs (.pointer (some ⟨pb,c*4,none⟩)),Eqs (.pointer (some ⟨pb,c*4,none⟩)),(OutN (fr P c c c).num (3*(S+1))),(OQ (Rat.divInt (dl P c) (nq P c c c)) (3*(S+1))),(NewQ W.heap.size)] rfl rfl (by decide) (by kernel_rfl) (by kernel_rfl) (by decide) (by kernel_rfl) ⟨Eqs.mono _,Eqs.mono _,Eqs.mono _,Eqs.mono _,Eqs.mono _,Eqs.mono _,Eqs.mono _,(Mono.of4 (OutN.mono4 _ _)),Eqs.mono _,Eqs.mono _,Eqs.mono _,Eqs.mono _,Eqs.mono _,Eqs.mono _,Eqs.mono _,(Mono.of4 (OutN.mono4 _ _)),(OQ.mono _ _),(NewQ.mono _),trivial⟩ ?_ ?_
          ·exact ⟨⟨rfl,fun a_ w_ _ hB hR hD=>aao ((hR 3 rfl).trans (aac rfl))⟩,
             ⟨rfl,fun a_ w_ _ hB hR hD=>aao ((hR 8 rfl).trans (aac rfl))⟩,
             ⟨rfl,fun a_ w_ _ hB hR hD=>acy (show a_.eval (.tmp 105)=.slice (some ⟨gq,0,none⟩) n oc from hD 0 rfl) (show a_.eval (.tmp 106)=.int .i64 (c:Int) from hD 1 rfl) (by omega)⟩,
             ⟨rfl,fun a_ w_ _ hB hR hD=>adj (show a_.eval (.tmp 107)=.pointer (some ⟨gq,c,none⟩) from hD 2 rfl) ((hB.cell (p:=⟨gq,c,none⟩) hgl).trans x0)⟩,
             ⟨rfl,fun a_ w_ _ hB hR hD=>aao ((hR 8 rfl).trans (aac rfl))⟩,
             ⟨rfl,fun a_ w_ _ hB hR hD=>acz (show a_.eval (.tmp 108)=.slice (some ⟨pb,0,none⟩) n pc from hD 3 rfl) (show a_.eval (.tmp 109)=.int .i64 (c:Int) from hD 4 rfl) (by omega)⟩,
             ⟨rfl,fun a_ w_ _ hB hR hD=>av7 (show a_.eval (.tmp 110)=.pointer (some ⟨pb,c*4,none⟩) from hD 5 rfl)⟩,
             ⟨rfl,fun a_ w_ _ hB hR hD=>aw8 (show a_.eval (.tmp 111)=.pointer (some ⟨pb,c*4+2,none⟩) from hD 6 rfl) (HRW.out.below hB) hltc ⟨Nat.le_refl _,hltc⟩⟩,
             ⟨rfl,fun a_ w_ _ hB hR hD=>aao ((hR 3 rfl).trans (aac rfl))⟩,
             ⟨rfl,fun a_ w_ _ hB hR hD=>aao ((hR 8 rfl).trans (aac rfl))⟩,
             ⟨rfl,fun a_ w_ _ hB hR hD=>acy (show a_.eval (.tmp 113)=.slice (some ⟨gq,0,none⟩) n oc from hD 8 rfl) (show a_.eval (.tmp 114)=.int .i64 (c:Int) from hD 9 rfl) (by omega)⟩,
             ⟨rfl,fun a_ w_ _ hB hR hD=>adj (show a_.eval (.tmp 115)=.pointer (some ⟨gq,c,none⟩) from hD 10 rfl) ((hB.cell (p:=⟨gq,c,none⟩) hgl).trans x0)⟩,
             ⟨rfl,fun a_ w_ _ hB hR hD=>aao ((hR 8 rfl).trans (aac rfl))⟩,
             ⟨rfl,fun a_ w_ _ hB hR hD=>acz (show a_.eval (.tmp 116)=.slice (some ⟨pb,0,none⟩) n pc from hD 11 rfl) (show a_.eval (.tmp 117)=.int .i64 (c:Int) from hD 12 rfl) (by omega)⟩,
             ⟨rfl,fun a_ w_ _ hB hR hD=>av6 (show a_.eval (.tmp 118)=.pointer (some ⟨pb,c*4,none⟩) from hD 13 rfl)⟩,
             ⟨rfl,fun a_ w_ _ hB hR hD=>aw7 (show a_.eval (.tmp 119)=.pointer (some ⟨pb,c*4,none⟩) from hD 14 rfl) (HRW.out.below hB) hltc ⟨Nat.le_refl _,hltc⟩⟩,
             ⟨rfl,fun a_ w_ _ hB hR hD=>ar1 (M:=S+1) (show (OutN ((fr P c c c).den:Int) (3*(S+1))) (a_.eval (.tmp 112)) w_ from hD 7 rfl) (show (OutN (fr P c c c).num (3*(S+1))) (a_.eval (.tmp 120)) w_ from hD 15 rfl) (by omega) (HPI.out.inv HPV.out).2 (HPI.out.inv HPV.out).1 (HPI.out.inv_fit HBN.out hn hltc HPV.out)⟩,
             ⟨rfl,fun a_ w_ _ hB hR hD=>am4 hB.size⟩,
             trivial⟩
          ·intro a' w' hn' hd' hB' hR' hP'
           have e105:a'.eval (.tmp 105)=.slice (some ⟨gq,0,none⟩) n oc:=hP' 0 (by decide)
           have e106:a'.eval (.tmp 106)=.int .i64 (c:Int):=hP' 1 (by decide)
           have e107:a'.eval (.tmp 107)=.pointer (some ⟨gq,c,none⟩):=hP' 2 (by decide)
           have e108:a'.eval (.tmp 108)=.slice (some ⟨pb,0,none⟩) n pc:=hP' 3 (by decide)
           have e109:a'.eval (.tmp 109)=.int .i64 (c:Int):=hP' 4 (by decide)
           have e110:a'.eval (.tmp 110)=.pointer (some ⟨pb,c*4,none⟩):=hP' 5 (by decide)
           have e111:a'.eval (.tmp 111)=.pointer (some ⟨pb,c*4+2,none⟩):=hP' 6 (by decide)
           obtain ⟨u112,e112⟩:∃ u,a'.eval (.tmp 112)=u:=⟨_,rfl⟩
           have e113:a'.eval (.tmp 113)=.slice (some ⟨gq,0,none⟩) n oc:=hP' 8 (by decide)
           have e114:a'.eval (.tmp 114)=.int .i64 (c:Int):=hP' 9 (by decide)
           have e115:a'.eval (.tmp 115)=.pointer (some ⟨gq,c,none⟩):=hP' 10 (by decide)
           have e116:a'.eval (.tmp 116)=.slice (some ⟨pb,0,none⟩) n pc:=hP' 11 (by decide)
           have e117:a'.eval (.tmp 117)=.int .i64 (c:Int):=hP' 12 (by decide)
           have e118:a'.eval (.tmp 118)=.pointer (some ⟨pb,c*4,none⟩):=hP' 13 (by decide)
           have e119:a'.eval (.tmp 119)=.pointer (some ⟨pb,c*4,none⟩):=hP' 14 (by decide)
           obtain ⟨u120,e120⟩:∃ u,a'.eval (.tmp 120)=u:=⟨_,rfl⟩
           obtain ⟨u121,e121⟩:∃ u,a'.eval (.tmp 121)=u:=⟨_,rfl⟩
           have hT:(OQ (Rat.divInt (dl P c) (nq P c c c)) (3*(S+1))) (a'.eval (.tmp 121)) w' := hP' 16 (by decide)
           rw [e121] at hT
           obtain ⟨u11,e11⟩:∃ u,a'.eval (.tmp 11)=u:=⟨_,rfl⟩
           have hX:(NewQ W.heap.size) (a'.eval (.tmp 11)) w' := hP' 17 (by decide)
           rw [e11] at hX
           refine abn hn' hd' hR' (.s4 rfl <| .s4 rfl <| .same rfl <| .same rfl <| .same rfl <| .new e11 <| .s16 rfl <| .s16 rfl <| .s16 rfl <| .s16 rfl <| .s16 rfl <| .s4 rfl <| .s4 rfl <| .s4 rfl <| .same rfl <| .new e105 <| .new e106 <| .new e107 <| .new e108 <| .new e109 <| .new e110 <| .new e111 <| .new e112 <| .new e113 <| .new e114 <| .new e115 <| .new e116 <| .new e117 <| .new e118 <| .new e119 <| .new e120 <| .new e121 <| .s16 rfl <| .s16 rfl <| .s16 rfl <| .same rfl <| .same rfl <| .nil) ?_
           clear e105 e106 e107 e108 e109 e110 e111 e112 e113 e114 e115 e116 e117 e118 e119 e120 e121 e11
           obtain ⟨g11,hg11,rfl,b11⟩:=hX
           obtain ⟨ng4,a4,m4,c4,mg4,d4,e4,f4,rfl,-,-⟩:=id hT.split
           have hn11:PFx w' g11 1 (fun _=>False) (fun _=>0) (3*(S+1)):=PFx.new b11
           obtain ⟨⟨ng3,a3,m3,c3,mg3,d3,e3,f3,z0,z1,z2,z3⟩,zf0,zf1,zf2,zf3⟩:=hn11.box
           obtain ⟨t1,t2,t3,t4⟩:=hn11.bput hT
           simp only [bput] at t1 t2 t3 t4
           have hbg:bd<g11:=by have:=HT1.out.lt;omega
           have HI1:=hide t1
           have HQ1:=hide ((HQM.out.below hB').keep t3 (t4 gq (by have:=HLOW.out;omega)) (fun p hp=>t4 p.1 (by have:=HLU.out p hp;omega)))
           have HD1:=hide ((HT1.out.below hB').keep t3 (t4 bd (by omega)))
           have HW1:=hide ((HWB.out.trans (hB'.mono HWB.out.size)).trans (t2 _ (by have:=HQM.out.base.1;have:=HLOW.out;omega)))
           have HBG:=hide hbg
           have HR1:=hide HR.out
           clear t1 t2 t3 t4 hT hR' hP' hn' hd' hB' x0 xf hgl HQM HRW HWB HT1 b11 hn11 hg11 hbg HR
           go_upto_region 27 with fail
           generalize ((((w'.setCell ⟨g11,0,none⟩ (.bool ng4)).setCell ⟨g11,1,none⟩ (.slice a4 m4 c4)).setCell ⟨g11,2,none⟩ (.bool mg4)).setCell ⟨g11,3,none⟩ (.slice d4 e4 f4))=W at *
           clear z0 z1 z2 z3 zf0 zf1 zf2 zf3
           go_wp2_with fail
           go_loopw [12] (fun iv wr=>∃ (i:Nat) (r2:Nat→Nat→Rat),iv=.int .i64 i∧c+1≤i∧i≤n∧Below w0.heap.size w0 wr∧QMx w0.heap.size wr gq n us r2 (3*(S+1))∧BQ wr bd ((s*dl P (c+1):Int):Rat) (3*(S+1))∧BQ wr g11 (Rat.divInt (dl P c) (nq P c c c)) (3*(S+1))∧∀ i' j',c≤i'→i'<n→c≤j'→j'<n→r2 i' j' = stR P c i c i' j') (fun iv _=>n - (intOf iv).toNat)
           case atStart=>exact ⟨c+1,r,by go_num,Nat.le_refl _,hltc,HW1.out,HQ1.out,HD1.out,HI1.out,fun i' j' h1 h2 h3 h4=>by rw [ar3 P c h3];exact HR1.out i' j' h1 h2 h3 h4⟩
           case round =>
            clear HW1 HQ1 HD1 HI1 HR1
            obtain ⟨i,r2,rfl,hci,hin,hbw,hmx,hbq,hiq,hr⟩:=hrel
            have HW:=hide hbw
            have HMX:=hide hmx
            have HBQ:=hide hbq
            have HIQ:=hide hiq
            have HR:=hide hr
            by_cases hlti:i<n
            ·have hlti' : (i:Int)<(n:Int):=by omega
             obtain ⟨⟨qb,qc⟩,hq⟩:∃ p,us[i]? = some p:=⟨_,List.getElem?_eq_getElem (by have:=HUL.out;omega)⟩
             have HQ:=hide hq
             obtain ⟨x0,xf⟩:=hmx.cell hq
             have hgl:=hmx.lt.1
             have HROW:Hid (PFx wr qb n (fun j=>c≤j∧j<n) (fr P c i) (3*(S+1))):=((hmx.rows i _ hq).mono fun j _ ho=>⟨trivial,by rw [hr i j (by omega) hlti ho.1 ho.2,alo ho.1]⟩)
             obtain ⟨ws,hws⟩:∃ ws,ws=wr:=⟨_,rfl⟩
             subst hws
             clear hbw hmx hbq hiq hr hq
             go_upto_region 30 with fail
             refine ab6 11 [130,131,132,133,134,135,136,137,138,139,13] [Eqs (.slice (some ⟨gq,0,none⟩) n oc),Eqs (.int .i64 (i:Int)),Eqs (.pointer (some ⟨gq,i,none⟩)),Eqs (.slice (some ⟨qb,0,none⟩) n qc),Eqs (.int .i64 (c:Int)),Eqs (.pointer (some ⟨qb,c*4,none⟩)),(OQ (fr P c i c) (3*(S+1))),(OQ (Rat.divInt (dl P c) (nq P c c c)) (3*(S+1))),(OQ (fr P c i c*(Rat.divInt (dl P c) (nq P c c c))) (3*(S+1))),(OQ (kq P c i) (3*(S+1))),(NewQ ws.heap.size)] rfl rfl (by decide) (by kernel_rfl) (by kernel_rfl) (by decide) (by kernel_rfl) ⟨Eqs.mono _,Eqs.mono _,Eqs.mono _,Eqs.mono _,Eqs.mono _,Eqs.mono _,(OQ.mono _ _),(OQ.mono _ _),(OQ.mono _ _),(OQ.mono _ _),(NewQ.mono _),trivial⟩ ?_ ?_
             ·exact ⟨⟨rfl,fun a_ w_ _ hB hR hD=>aao ((hR 3 rfl).trans (aac rfl))⟩,
                ⟨rfl,fun a_ w_ _ hB hR hD=>aao ((hR 12 rfl).trans (aac rfl))⟩,
                ⟨rfl,fun a_ w_ _ hB hR hD=>acy (show a_.eval (.tmp 130)=.slice (some ⟨gq,0,none⟩) n oc from hD 0 rfl) (show a_.eval (.tmp 131)=.int .i64 (i:Int) from hD 1 rfl) (by omega)⟩,
                ⟨rfl,fun a_ w_ _ hB hR hD=>adj (show a_.eval (.tmp 132)=.pointer (some ⟨gq,i,none⟩) from hD 2 rfl) ((hB.cell (p:=⟨gq,i,none⟩) hgl).trans x0)⟩,
                ⟨rfl,fun a_ w_ _ hB hR hD=>aao ((hR 8 rfl).trans (aac rfl))⟩,
                ⟨rfl,fun a_ w_ _ hB hR hD=>acz (show a_.eval (.tmp 133)=.slice (some ⟨qb,0,none⟩) n qc from hD 3 rfl) (show a_.eval (.tmp 134)=.int .i64 (c:Int) from hD 4 rfl) (by omega)⟩,
                ⟨rfl,fun a_ w_ _ hB hR hD=>agk (show a_.eval (.tmp 135)=.pointer (some ⟨qb,c*4,none⟩) from hD 5 rfl) (HROW.out.below hB) hltc ⟨Nat.le_refl _,hltc⟩⟩,
                ⟨rfl,fun a_ w_ _ hB hR hD=>air ((hR 11 rfl).trans (aac rfl)) (HIQ.out.below hB)⟩,
                ⟨rfl,fun a_ w_ _ hB hR hD=>afo (M:=S+1) (show (OQ (fr P c i c) (3*(S+1))) (a_.eval (.tmp 136)) w_ from hD 6 rfl) (show (OQ (Rat.divInt (dl P c) (nq P c c c)) (3*(S+1))) (a_.eval (.tmp 137)) w_ from hD 7 rfl) (by omega) (HPI.out.kq_fit HBN.out hn (by omega) hlti HPV.out)⟩,
                ⟨rfl,fun a_ w_ _ hB hR hD=>aoy (M:=S+1) (show (OQ (fr P c i c*(Rat.divInt (dl P c) (nq P c c c))) (3*(S+1))) (a_.eval (.tmp 138)) w_ from hD 8 rfl) (by omega) (HPI.out.kq_fit HBN.out hn (by omega) hlti HPV.out)⟩,
                ⟨rfl,fun a_ w_ _ hB hR hD=>am4 hB.size⟩,
                trivial⟩
             ·intro a' w' hn' hd' hB' hR' hP'
              have e130:a'.eval (.tmp 130)=.slice (some ⟨gq,0,none⟩) n oc:=hP' 0 (by decide)
              have e131:a'.eval (.tmp 131)=.int .i64 (i:Int):=hP' 1 (by decide)
              have e132:a'.eval (.tmp 132)=.pointer (some ⟨gq,i,none⟩):=hP' 2 (by decide)
              have e133:a'.eval (.tmp 133)=.slice (some ⟨qb,0,none⟩) n qc:=hP' 3 (by decide)
              have e134:a'.eval (.tmp 134)=.int .i64 (c:Int):=hP' 4 (by decide)
              have e135:a'.eval (.tmp 135)=.pointer (some ⟨qb,c*4,none⟩):=hP' 5 (by decide)
              obtain ⟨u136,e136⟩:∃ u,a'.eval (.tmp 136)=u:=⟨_,rfl⟩
              obtain ⟨u137,e137⟩:∃ u,a'.eval (.tmp 137)=u:=⟨_,rfl⟩
              obtain ⟨u138,e138⟩:∃ u,a'.eval (.tmp 138)=u:=⟨_,rfl⟩
              obtain ⟨u139,e139⟩:∃ u,a'.eval (.tmp 139)=u:=⟨_,rfl⟩
              have hT:(OQ (kq P c i) (3*(S+1))) (a'.eval (.tmp 139)) w' := hP' 9 (by decide)
              rw [e139] at hT
              obtain ⟨u13,e13⟩:∃ u,a'.eval (.tmp 13)=u:=⟨_,rfl⟩
              have hX:(NewQ ws.heap.size) (a'.eval (.tmp 13)) w' := hP' 10 (by decide)
              rw [e13] at hX
              refine abn hn' hd' hR' (.s4 rfl <| .s4 rfl <| .s4 rfl <| .same rfl <| .new e13 <| .s16 rfl <| .s16 rfl <| .s16 rfl <| .s16 rfl <| .s16 rfl <| .s16 rfl <| .s16 rfl <| .s4 rfl <| .new e130 <| .new e131 <| .new e132 <| .new e133 <| .new e134 <| .new e135 <| .new e136 <| .new e137 <| .new e138 <| .new e139 <| .s16 rfl <| .s16 rfl <| .nil) ?_
              clear e130 e131 e132 e133 e134 e135 e136 e137 e138 e139 e13
              obtain ⟨g13,hg13,rfl,b13⟩:=hX
              obtain ⟨ng5,a5,m5,c5,mg5,d5,e5,f5,rfl,-,-⟩:=id hT.split
              have hn13:PFx w' g13 1 (fun _=>False) (fun _=>0) (3*(S+1)):=PFx.new b13
              obtain ⟨⟨ng3,a3,m3,c3,mg3,d3,e3,f3,z0,z1,z2,z3⟩,zf0,zf1,zf2,zf3⟩:=hn13.box
              obtain ⟨t1,t2,t3,t4⟩:=hn13.bput hT
              simp only [bput] at t1 t2 t3 t4
              have hgg:g11<g13:=by have:=HIQ.out.lt;omega
              have HK1:=hide t1
              have HQ1:=hide ((HMX.out.below hB').keep t3 (t4 gq (by have:=HLOW.out;have:=HBG.out;omega)) (fun p hp=>t4 p.1 (by have:=HLU.out p hp;have:=HBG.out;omega)))
              have HD1:=hide ((HBQ.out.below hB').keep t3 (t4 bd (by have:=HBG.out;omega)))
              have HI1:=hide ((HIQ.out.below hB').keep t3 (t4 g11 (by omega)))
              have HW1:=hide ((HW.out.trans (hB'.mono HW.out.size)).trans (t2 _ (by have:=HMX.out.base.1;have:=HLOW.out;have:=HBG.out;omega)))
              have HGG:=hide hgg
              clear t1 t2 t3 t4 hT hR' hP' hn' hd' hB' x0 xf hgl HMX HBQ HIQ HW HROW b13 hn13 hg13 hgg
              go_upto_region 31 with fail
              generalize ((((w'.setCell ⟨g13,0,none⟩ (.bool ng5)).setCell ⟨g13,1,none⟩ (.slice a5 m5 c5)).setCell ⟨g13,2,none⟩ (.bool mg5)).setCell ⟨g13,3,none⟩ (.slice d5 e5 f5))=W3 at *
              clear z0 z1 z2 z3 zf0 zf1 zf2 zf3
              go_wp2_with fail
              go_loopw [14] (fun jv wr=>∃ (j:Nat) (r3:Nat→Nat→Rat),jv=.int .i64 j∧c≤j∧j≤n∧Below w0.heap.size w0 wr∧QMx w0.heap.size wr gq n us r3 (3*(S+1))∧BQ wr bd ((s*dl P (c+1):Int):Rat) (3*(S+1))∧BQ wr g11 (Rat.divInt (dl P c) (nq P c c c)) (3*(S+1))∧BQ wr g13 (kq P c i) (3*(S+1))∧∀ i' j',c≤i'→i'<n→c≤j'→j'<n→r3 i' j' = stR P c i j i' j') (fun jv _=>n - (intOf jv).toNat)
              case atStart=>exact ⟨c,r2,rfl,Nat.le_refl _,hc,HW1.out,HQ1.out,HD1.out,HI1.out,HK1.out,HR.out⟩
              case round =>
               clear HW1 HQ1 HD1 HI1 HK1 HR
               obtain ⟨j,r3,rfl,hcj,hjn,hbw,hmx,hbq,hiq,hkq,hr⟩:=hrel
               have HW:=hide hbw
               have HMX:=hide hmx
               have HBQ:=hide hbq
               have HIQ:=hide hiq
               have HKQ:=hide hkq
               have HR:=hide hr
               by_cases hltj:j<n
               ·have hltj' : (j:Int)<(n:Int):=by omega
                obtain ⟨x0,xf⟩:=hmx.cell HP.out
                obtain ⟨x1,xf1⟩:=hmx.cell HQ.out
                have hgl:=hmx.lt.1
                have HROW:Hid (PFx wr pb n (fun j=>c≤j∧j<n) (fr P c c) (3*(S+1))):=((hmx.rows c _ HP.out).mono fun j' _ ho=>⟨trivial,by rw [hr c j' (Nat.le_refl _) hltc ho.1 ho.2,axf]⟩)
                have HROI:Hid (PFx wr qb n (fun j'=>j≤j'∧j'<n) (fr P c i) (3*(S+1))):=((hmx.rows i _ HQ.out).mono fun j' _ ho=>⟨trivial,by rw [hr i j' (by omega) hlti (by omega) ho.2,alo ho.1]⟩)
                clear hbw hmx hbq hiq hkq hr
                go_upto_region 34 with fail
                refine ab6 23 [147,148,149,150,151,152,153,154,155,156,157,158,159,160,161,162,163,164,165,166,167,168,169] [Eqs (.slice (some ⟨gq,0,none⟩) n oc),Eqs (.int .i64 (i:Int)),Eqs (.pointer (some ⟨gq,i,none⟩)),Eqs (.slice (some ⟨qb,0,none⟩) n qc),Eqs (.int .i64 (j:Int)),Eqs (.slice (some ⟨gq,0,none⟩) n oc),Eqs (.int .i64 (i:Int)),Eqs (.pointer (some ⟨gq,i,none⟩)),Eqs (.slice (some ⟨qb,0,none⟩) n qc),Eqs (.int .i64 (j:Int)),Eqs (.pointer (some ⟨qb,j*4,none⟩)),(OQ (fr P c i j) (3*(S+1))),(OQ (kq P c i) (3*(S+1))),Eqs (.slice (some ⟨gq,0,none⟩) n oc),Eqs (.int .i64 (c:Int)),Eqs (.pointer (some ⟨gq,c,none⟩)),Eqs (.slice (some ⟨pb,0,none⟩) n pc),Eqs (.int .i64 (j:Int)),Eqs (.pointer (some ⟨pb,j*4,none⟩)),(OQ (fr P c c j) (3*(S+1))),(OQ (kq P c i*fr P c c j) (3*(2*(S+1)))),(OQ (fr P (c+1) i j) (3*(S+1))),Eqs (.pointer (some ⟨qb,j*4,none⟩))] rfl rfl (by decide) (by kernel_rfl) (by kernel_rfl) (by decide) (by kernel_rfl) ⟨Eqs.mono _,Eqs.mono _,Eqs.mono _,Eqs.mono _,Eqs.mono _,Eqs.mono _,Eqs.mono _,Eqs.mono _,Eqs.mono _,Eqs.mono _,Eqs.mono _,(OQ.mono _ _),(OQ.mono _ _),Eqs.mono _,Eqs.mono _,Eqs.mono _,Eqs.mono _,Eqs.mono _,Eqs.mono _,(OQ.mono _ _),(OQ.mono _ _),(OQ.mono _ _),Eqs.mono _,trivial⟩ ?_ ?_
                ·exact ⟨⟨rfl,fun a_ w_ _ hB hR hD=>aao ((hR 3 rfl).trans (aac rfl))⟩,
                   ⟨rfl,fun a_ w_ _ hB hR hD=>aao ((hR 12 rfl).trans (aac rfl))⟩,
                   ⟨rfl,fun a_ w_ _ hB hR hD=>acy (show a_.eval (.tmp 147)=.slice (some ⟨gq,0,none⟩) n oc from hD 0 rfl) (show a_.eval (.tmp 148)=.int .i64 (i:Int) from hD 1 rfl) (by omega)⟩,
                   ⟨rfl,fun a_ w_ _ hB hR hD=>adj (show a_.eval (.tmp 149)=.pointer (some ⟨gq,i,none⟩) from hD 2 rfl) ((hB.cell (p:=⟨gq,i,none⟩) hgl).trans x1)⟩,
                   ⟨rfl,fun a_ w_ _ hB hR hD=>aao ((hR 14 rfl).trans (aac rfl))⟩,
                   ⟨rfl,fun a_ w_ _ hB hR hD=>aao ((hR 3 rfl).trans (aac rfl))⟩,
                   ⟨rfl,fun a_ w_ _ hB hR hD=>aao ((hR 12 rfl).trans (aac rfl))⟩,
                   ⟨rfl,fun a_ w_ _ hB hR hD=>acy (show a_.eval (.tmp 152)=.slice (some ⟨gq,0,none⟩) n oc from hD 5 rfl) (show a_.eval (.tmp 153)=.int .i64 (i:Int) from hD 6 rfl) (by omega)⟩,
                   ⟨rfl,fun a_ w_ _ hB hR hD=>adj (show a_.eval (.tmp 154)=.pointer (some ⟨gq,i,none⟩) from hD 7 rfl) ((hB.cell (p:=⟨gq,i,none⟩) hgl).trans x1)⟩,
                   ⟨rfl,fun a_ w_ _ hB hR hD=>aao ((hR 14 rfl).trans (aac rfl))⟩,
                   ⟨rfl,fun a_ w_ _ hB hR hD=>acz (show a_.eval (.tmp 155)=.slice (some ⟨qb,0,none⟩) n qc from hD 8 rfl) (show a_.eval (.tmp 156)=.int .i64 (j:Int) from hD 9 rfl) (by omega)⟩,
                   ⟨rfl,fun a_ w_ _ hB hR hD=>agk (show a_.eval (.tmp 157)=.pointer (some ⟨qb,j*4,none⟩) from hD 10 rfl) (HROI.out.below hB) hltj ⟨Nat.le_refl _,hltj⟩⟩,
                   ⟨rfl,fun a_ w_ _ hB hR hD=>air ((hR 13 rfl).trans (aac rfl)) (HKQ.out.below hB)⟩,
                   ⟨rfl,fun a_ w_ _ hB hR hD=>aao ((hR 3 rfl).trans (aac rfl))⟩,
                   ⟨rfl,fun a_ w_ _ hB hR hD=>aao ((hR 8 rfl).trans (aac rfl))⟩,
                   ⟨rfl,fun a_ w_ _ hB hR hD=>acy (show a_.eval (.tmp 160)=.slice (some ⟨gq,0,none⟩) n oc from hD 13 rfl) (show a_.eval (.tmp 161)=.int .i64 (c:Int) from hD 14 rfl) (by omega)⟩,
                   ⟨rfl,fun a_ w_ _ hB hR hD=>adj (show a_.eval (.tmp 162)=.pointer (some ⟨gq,c,none⟩) from hD 15 rfl) ((hB.cell (p:=⟨gq,c,none⟩) hgl).trans x0)⟩,
                   ⟨rfl,fun a_ w_ _ hB hR hD=>aao ((hR 14 rfl).trans (aac rfl))⟩,
                   ⟨rfl,fun a_ w_ _ hB hR hD=>acz (show a_.eval (.tmp 163)=.slice (some ⟨pb,0,none⟩) n pc from hD 16 rfl) (show a_.eval (.tmp 164)=.int .i64 (j:Int) from hD 17 rfl) (by omega)⟩,
                   ⟨rfl,fun a_ w_ _ hB hR hD=>agk (show a_.eval (.tmp 165)=.pointer (some ⟨pb,j*4,none⟩) from hD 18 rfl) (HROW.out.below hB) hltj ⟨hcj,hltj⟩⟩,
                   ⟨rfl,fun a_ w_ _ hB hR hD=>afo (M:=2*(S+1)) (show (OQ (kq P c i) (3*(S+1))) (a_.eval (.tmp 159)) w_ from hD 12 rfl) (show (OQ (fr P c c j) (3*(S+1))) (a_.eval (.tmp 166)) w_ from hD 19 rfl) (by omega) (HPI.out.step_fit HBN.out hn (by omega) hlti HPV.out j)⟩,
                   ⟨rfl,fun a_ w_ _ hB hR hD=>(by rw [←HPI.out.step hltc HPV.out];exact ar0 (M:=S+1) (show (OQ (fr P c i j) (3*(S+1))) (a_.eval (.tmp 158)) w_ from hD 11 rfl) (show (OQ (kq P c i*fr P c c j) (3*(2*(S+1)))) (a_.eval (.tmp 167)) w_ from hD 20 rfl) (by omega) (by rw [HPI.out.step hltc HPV.out];exact (HPI.out.next hltc HPV.out).fr_fit HBN.out hn hlti (by omega) j))⟩,
                   ⟨rfl,fun a_ w_ _ hB hR hD=>acz (show a_.eval (.tmp 150)=.slice (some ⟨qb,0,none⟩) n qc from hD 3 rfl) (show a_.eval (.tmp 151)=.int .i64 (j:Int) from hD 4 rfl) (by omega)⟩,
                   trivial⟩
                ·intro a' w' hn' hd' hB' hR' hP'
                 have e147:a'.eval (.tmp 147)=.slice (some ⟨gq,0,none⟩) n oc:=hP' 0 (by decide)
                 have e148:a'.eval (.tmp 148)=.int .i64 (i:Int):=hP' 1 (by decide)
                 have e149:a'.eval (.tmp 149)=.pointer (some ⟨gq,i,none⟩):=hP' 2 (by decide)
                 have e150:a'.eval (.tmp 150)=.slice (some ⟨qb,0,none⟩) n qc:=hP' 3 (by decide)
                 have e151:a'.eval (.tmp 151)=.int .i64 (j:Int):=hP' 4 (by decide)
                 have e152:a'.eval (.tmp 152)=.slice (some ⟨gq,0,none⟩) n oc:=hP' 5 (by decide)
                 have e153:a'.eval (.tmp 153)=.int .i64 (i:Int):=hP' 6 (by decide)
                 have e154:a'.eval (.tmp 154)=.pointer (some ⟨gq,i,none⟩):=hP' 7 (by decide)
                 have e155:a'.eval (.tmp 155)=.slice (some ⟨qb,0,none⟩) n qc:=hP' 8 (by decide)
                 have e156:a'.eval (.tmp 156)=.int .i64 (j:Int):=hP' 9 (by decide)
                 have e157:a'.eval (.tmp 157)=.pointer (some ⟨qb,j*4,none⟩):=hP' 10 (by decide)
                 obtain ⟨u158,e158⟩:∃ u,a'.eval (.tmp 158)=u:=⟨_,rfl⟩
                 obtain ⟨u159,e159⟩:∃ u,a'.eval (.tmp 159)=u:=⟨_,rfl⟩
                 have e160:a'.eval (.tmp 160)=.slice (some ⟨gq,0,none⟩) n oc:=hP' 13 (by decide)
                 have e161:a'.eval (.tmp 161)=.int .i64 (c:Int):=hP' 14 (by decide)
                 have e162:a'.eval (.tmp 162)=.pointer (some ⟨gq,c,none⟩):=hP' 15 (by decide)
                 have e163:a'.eval (.tmp 163)=.slice (some ⟨pb,0,none⟩) n pc:=hP' 16 (by decide)
                 have e164:a'.eval (.tmp 164)=.int .i64 (j:Int):=hP' 17 (by decide)
                 have e165:a'.eval (.tmp 165)=.pointer (some ⟨pb,j*4,none⟩):=hP' 18 (by decide)
                 obtain ⟨u166,e166⟩:∃ u,a'.eval (.tmp 166)=u:=⟨_,rfl⟩
                 obtain ⟨u167,e167⟩:∃ u,a'.eval (.tmp 167)=u:=⟨_,rfl⟩
                 obtain ⟨u168,e168⟩:∃ u,a'.eval (.tmp 168)=u:=⟨_,rfl⟩
                 have hT:(OQ (fr P (c+1) i j) (3*(S+1))) (a'.eval (.tmp 168)) w' := hP' 21 (by decide)
                 rw [e168] at hT
                 have e169:a'.eval (.tmp 169)=.pointer (some ⟨qb,j*4,none⟩):=hP' 22 (by decide)
                 refine abn hn' hd' hR' (.s16 rfl <| .s16 rfl <| .s16 rfl <| .s16 rfl <| .s16 rfl <| .s16 rfl <| .s16 rfl <| .s16 rfl <| .s16 rfl <| .same rfl <| .same rfl <| .same rfl <| .new e147 <| .new e148 <| .new e149 <| .new e150 <| .new e151 <| .new e152 <| .new e153 <| .new e154 <| .new e155 <| .new e156 <| .new e157 <| .new e158 <| .new e159 <| .new e160 <| .new e161 <| .new e162 <| .new e163 <| .new e164 <| .new e165 <| .new e166 <| .new e167 <| .new e168 <| .new e169 <| .same rfl <| .same rfl <| .nil) ?_
                 clear e147 e148 e149 e150 e151 e152 e153 e154 e155 e156 e157 e158 e159 e160 e161 e162 e163 e164 e165 e166 e167 e168 e169
                 obtain ⟨ng6,a6,m6,c6,mg6,d6,e6,f6,rfl,o1,o2⟩:=id hT.split
                 obtain ⟨⟨ng3,a3,m3,c3,mg3,d3,e3,f3,z0,z1,z2,z3⟩,zf0,zf1,zf2,zf3⟩:=(HROI.out.below hB').cells hltj
                 obtain ⟨t1,t2,t3,t4⟩:=(HMX.out.below hB').put HQ.out hltj o1 o2
                 simp only [qput] at t1 t2 t3 t4
                 have hqb:=HLU.out _ (List.mem_of_getElem? HQ.out)
                 have HQ1:=hide t1
                 have HD1:=hide ((HBQ.out.below hB').keep t3 (t4 bd (by have:=hqb;simp only at this;omega)))
                 have HI1:=hide ((HIQ.out.below hB').keep t3 (t4 g11 (by have:=hqb;have:=HBG.out;simp only at *;omega)))
                 have HK1:=hide ((HKQ.out.below hB').keep t3 (t4 g13 (by have:=hqb;have:=HBG.out;have:=HGG.out;simp only at *;omega)))
                 have HW1:=hide ((HW.out.trans (hB'.mono HW.out.size)).trans t2)
                 clear t1 t2 t3 t4 hT hR' hP' hn' hd' hB' x0 xf x1 xf1 hgl HMX HBQ HIQ HKQ HW HROW HROI o1 o2 hqb
                 go_wp2
                 go_roundw
                 case rel=>exact ⟨j+1,_,by go_num,by omega,by omega,HW1.out,HQ1.out,HD1.out,HI1.out,HK1.out,fun i' j' h1 h2 h3 h4=>by
                  rw [←axc (show c<i by omega)]
                  split
                  ·rfl
                  ·exact HR.out i' j' h1 h2 h3 h4⟩
                 case measure=>simp [intOf];omega
               ·have hltj' : decide ((j:Int)<(n:Int))=false:=by simp;omega
                clear hbw hmx hbq hiq hkq hr
                go_wp2
                go_roundw
                case rel=>exact ⟨i+1,r3,by go_num,by omega,by omega,HW.out,HMX.out,HBQ.out,HIQ.out,fun i' j' h1 h2 h3 h4=>by
                 rw [HR.out i' j' h1 h2 h3 h4,show j=n by omega,axd h3 h4]⟩
                case measure=>simp [intOf];omega
            ·have hlti' : decide ((i:Int)<(n:Int))=false:=by simp;omega
             clear hbw hmx hbq hiq hr
             go_wp2
             go_roundw
             case rel=>exact ⟨c+1,us,r2,P,s,by go_num,by omega,HUL.out,HW.out,HMX.out,HBQ.out,HPI.out.next hltc HPV.out,fun i' j' h1 h2 h3 h4=>by
              rw [HR.out i' j' (by omega) h2 (by omega) h4,show i=n by omega,axe (by omega) h2],HLU.out⟩
             case measure=>simp [intOf];omega
      ·have hltj' : decide ((j:Int)<(n:Int))=false:=by simp;omega
       obtain rfl:n=j:=by omega
       have hee:((n:Int) == (n:Int))=true:=by simp
       have hdt:dt n rows=0:=by
        have h1:=awy HPI.out.len hltc HPI.out.nz (fun i h1 h2=>HZR.out i h1 h2)
        have h2:=HPI.out.det
        rw [h1,Int.mul_zero] at h2
        exact h2.symm
       have hbf:Below w0.heap.size w0 wr:=HW.out.trans (HJ.out.mono HW.out.size)
       have b1:=HBR.out.below hbf
       obtain ⟨f1,f2,f3,f4⟩:=id b1.facts
       have F:=hide (b1.set false (.slice none 0 0)).facts
       have HBW:=hide (Dm.aad (HB0.out.trans (hbf.mono HB0.out.size)) (Nat.le_refl w.heap.size) (.bool false) (.slice none 0 0))
       have HDT:=hide hdt
       clear hbj hzero HJ HZR HMX HBQ HPI HR HLU HW HUL hbf b1 hdt
       go_wp2
       refine bodyPost_ret (v:=.agg #[.bool false,.slice none 0 0]) ?_ rfl ⟨_,rfl,?_,HBW.out⟩
       ·simp [results,Tryz.results22,go_sem,F.out.1,F.out.2.1]
       ·rw [HDT.out]
        exact aqu _ _
    ·have hltc' : decide ((c:Int)<(n:Int))=false:=by simp;omega
     obtain rfl:n=c:=by omega
     have b1:=HBR.out.below hbw
     obtain ⟨f1,f2,f3,f4⟩:=id b1.facts
     obtain ⟨ng1,a1,m1,c1,mg1,d1,e1,f1',y0,y1,y2,y3,o1,o2⟩:=hbq.read
     have hnum:(((s*dl P n:Int):Rat)).num=dt n rows:=by rw [Rat.num_intCast,aym HPI.out.len];exact HPI.out.det
     rw [hnum] at o1
     have F:=hide (b1.set ng1 (.slice a1 m1 c1)).facts
     have HO:=hide (adk b1 ng1 (.slice a1 m1 c1) o1)
     have HBW:=hide (Dm.aad (HB0.out.trans (hbw.mono HB0.out.size)) (Nat.le_refl w.heap.size) (.bool ng1) (.slice a1 m1 c1))
     clear hul hbw hmx hbq hpi hr hlow o1 o2 y2 y3 HMX HBQ HPI HR HLU HW HUL b1 hnum
     go_wp2
     refine bodyPost_ret (v:=.agg #[.bool ng1,.slice a1 m1 c1]) ?_ rfl ⟨_,rfl,HO.out,HBW.out⟩
     simp [results,Tryz.results22,go_sem,F.out.1,F.out.2.1]
end Lm
end Go.Proofs.YtgmobkafnefpfaaGreat
namespace Go.Proofs.YtgmobkafnefpfaaGreat
namespace Lm
open Go Go.RowKit Md
def dz (n:Nat) (rows:List (List Int)):Int:=if big (dt n rows) then 0 else dt n rows
def df (n:Nat) (rows:List (List Int)):Int:=if big (dt n rows) then 2 else 0
theorem ady (w:World):OutW 0 400000 (.agg #[.bool false,.slice none 0 0]) w:=((adh w (Nat.le_refl _)).out).to rfl (Nat.zero_le _)
theorem nbigB (w:World) (z:Int) (v:Value) (L:Nat) (h:OutN z L v w) (hL:L≤1000000) :
  Calls Tryz.prog 23 #[v] w fun e w'=>e=.returned (.bool (big z))∧Below w.heap.size w w' := nbigF w z v L h hL
set_option maxRecDepth 20000 in
set_option maxHeartbeats 16000000 in
set_option maxRecDepth 100000 in
theorem atz (w:World) (v:Value) (rows:List (List Int)) (n S:Nat) (B:Md.Rw→Nat) (h:IsM w v rows (S+1)) (hs:Shaped rows (n:Int)) (hsq:rows.length=n) (hS:S≤1500) (hB:Bnd rows S B) :
  Calls Tryz.prog 8 #[v,.int .i64 (n:Int)] w fun e w'=>(∃ r,e=.returned (.tuple #[r,.int .i64 (df n rows)])∧OutW (dz n rows) 400000 r w')∧Below w.heap.size w w' := by
 have hb0:=hAl w (.cells #[.bool false,.slice none 0 0] 27)
 have hn0:=heap_alloc_new w (.cells #[.bool false,.slice none 0 0] 27)
 have K0:=ah7 _ v rows (S+1) (h.below hb0) (n:Int)
 rw [decide_eq_true hs] at K0
 have K0:=hide K0
 have hn32:n≤32:=by have:=hs.2.1;omega
 have hrn:∀ r ∈ rows,r.length=n:=fun r hr=>by have:=hs.2.2.2 r hr;omega
 have H:=hide h
 have HBN:=hide hB
 have HRN:=hide hrn
 have HSQ:=hide hsq
 obtain ⟨ao,cp,rfl,hn⟩:=h.parts
 rw [hsq] at K0 H ⊢
 have HN0:=hide hn0
 have HB0:=hide hb0
 have hnn:((n:Int) != (n:Int))=false:=by simp
 clear h hs hB hrn hn0 hb0 hn hsq
 go_enter Tryz.func8,Tryz.ntmps8
 go_wp2_with fail
 refine K0.out.mono ?_
 rintro e w1 ⟨rfl,rfl⟩
 clear K0
 generalize hw0:w.alloc (.cells #[.bool false,.slice none 0 0] 27)=w0 at *
 have hb1:=hAl w0 (.cells #[.bool false,.slice none 0 0] 51)
 have hd1:Dm.Box (w0.alloc (.cells #[.bool false,.slice none 0 0] 51)) w0.heap.size false (.slice none 0 0):=heap_alloc_new _ _
 have HN1:=hide ((hb1.block _ (aaa HN0.out)).trans HN0.out)
 have HB1:=hide (HB0.out.trans (hb1.mono HB0.out.size))
 have HD1:=hide hd1
 have HF6:Hid (w.heap.size<w0.heap.size):=aaa HN0.out
 clear hb1 hd1 hw0
 by_cases h4:n≤4
 ·have h4' : decide ((n:Int)≤4)=true:=by simp;omega
  have K1:=hide (ai9 (w0.alloc (.cells #[.bool false,.slice none 0 0] 51)) _ rows (S+1) (H.out.below HB1.out) (by have:=HSQ.out;omega) (fun r hr=>by rw [HRN.out r hr];omega) (by omega))
  go_wp2_with fail
  refine K1.out.mono ?_
  rintro e w2 ⟨r2,vs2,rfl,hM2,hb2⟩
  have K2:Hid (Calls Tryz.prog 20 #[r2] w2 fun e w'=>∃ r,e=.returned r∧OutN (dt n rows) 400000 r w'∧Below w2.heap.size w2 w'):=(Calls.mono (afs (3*(S+1)) (by omega) n rows h4 HSQ.out HRN.out w2 _ hM2.nm) (fun e w' ⟨r,h1,h2,h3⟩=>⟨r,h1,h2.wide3 (arx (by omega) h4),h3⟩))
  obtain ⟨a2,c2,hv2,-⟩:=Ce.own hM2.own
  subst hv2
  have HB2:=hide (HB1.out.trans (hb2.mono HB1.out.size))
  have HN2:=hide ((hb2.block _ (aaa HN1.out)).trans HN1.out)
  have HD2:=hide (HD1.out.below hb2)
  clear hb2 hM2 K1 HB1 HN1 HD1 HN0 HB0
  go_wp2_with fail
  refine K2.out.mono ?_
  rintro e w3 ⟨r,rfl,hO,hb3⟩
  obtain ⟨ng,na,nc,nm,rfl⟩:=hO.agg
  have HB3:=hide (HB2.out.trans (hb3.mono HB2.out.size))
  have hn3:=(hb3.block _ (aaa HN2.out)).trans HN2.out
  have hd3:=HD2.out.below hb3
  obtain ⟨g1,g2,g3,g4⟩:=id hd3.facts
  generalize hf6:w0.heap.size=f6 at *
  have HO:=hide (adk hd3 ng (.slice na nc nm) hO)
  have HD:=hide (hd3.set ng (.slice na nc nm))
  have hne:w.heap.size≠f6:=by have:=HF6.out;omega
  have HN:Hid ((((w3.setCell ⟨f6,0,none⟩ (.bool ng)).setCell ⟨f6,1,none⟩ (.slice na nc nm))).heap[w.heap.size]? = some (.cells #[.bool false,.slice none 0 0] 27 (0,0))):=(show _ = _ by rw [heap_setCell_other _ ⟨f6,1,none⟩ _ _ hne,heap_setCell_other _ ⟨f6,0,none⟩ _ _ hne];exact hn3)
  have HB:=hide (Dm.aad HB3.out (show w.heap.size≤f6 by have:=HF6.out;omega) (.bool ng) (.slice na nc nm))
  clear hO hb3 hn3 hd3 hf6 hne K2 HB2 HN2 HD2 HB3 HF6
  go_upto_region 7 with fail
  generalize (w3.setCell ⟨f6,0,none⟩ (.bool ng)).setCell ⟨f6,1,none⟩ (.slice na nc nm)=W at *
  clear g1 g2 g3 g4
  obtain ⟨g1,g2,g3,g4⟩:=id HD.out.facts
  have K3:=nbigB W _ _ 400000 HO.out (by omega)
  obtain ⟨bb,hbb⟩:∃ b,big (dt n rows)=b:=⟨_,rfl⟩
  rw [hbb] at K3
  have K3:=hide K3
  have HBB:=hide hbb
  clear hbb
  go_wp2_with fail
  refine K3.out.mono ?_
  rintro e w4 ⟨rfl,hb4⟩
  have hn4:=(hb4.block _ (aaa HN.out)).trans HN.out
  have HN4:=hide hn4
  have HB4:=hide (HB.out.trans (hb4.mono HB.out.size))
  have HO4:=hide (HO.out.rl (Rl.of_below hb4))
  clear g1 g2 g3 g4
  obtain ⟨g1,g2,g3,g4⟩:=id (HD.out.below hb4).facts
  obtain ⟨hl3,x0,x1,f0,f1⟩:=aal hn4
  clear hb4 hn4 K3 HO HD HN HB
  cases bb with
  | true =>
   have e0:=aa9 (i:=0) (v:=.bool false) HN4.out rfl
   have e1:=aa9 (i:=1) (v:=.slice none 0 0) HN4.out rfl
   have E0:=hide (And.intro e0 e1)
   clear e0 e1
   go_wp2
   rw [E0.out.1,E0.out.2]
   refine bodyPost_ret (v:=.tuple #[.agg #[.bool false,.slice none 0 0],.int .i64 2]) (ack (g:=w.heap.size) rfl rfl (lvw2 HN4.out) rfl) rfl ⟨⟨.agg #[.bool false,.slice none 0 0],?_,?_⟩,HB4.out⟩
   ·rw [df,if_pos HBB.out]
   ·rw [dz,if_pos HBB.out]
    exact ady _
  | false =>
   have K4:=hide (ntoldF w4 _ _ 400000 HO4.out (by omega))
   go_wp2_with fail
   refine K4.out.mono ?_
   rintro e w5 ⟨r5,rfl,hF,hb5⟩
   obtain ⟨mg,ma,mm,mc,rfl⟩:=hF.agg
   have hn5:=(hb5.block _ (aaa HN4.out)).trans HN4.out
   have HB5:=hide (HB4.out.trans (hb5.mono HB4.out.size))
   have X:=hide (And.intro (lvw2 (abz hn5 (.bool mg) (.slice ma mm mc))) (And.intro (hF.ru (act hn5 (.bool mg) (.slice ma mm mc))) (show Below w.heap.size w ((w5.setCell ⟨w.heap.size,0,none⟩ (.bool mg)).setCell ⟨w.heap.size,1,none⟩ (.slice ma mm mc)) from (HB5.out.setCell (Nat.le_refl _) _).setCell (Nat.le_refl _) _)))
   clear hl3 x0 x1 f0 f1 g1 g2 g3 g4
   obtain ⟨hl3,x0,x1,f0,f1⟩:=aal hn5
   clear hF hb5 hn5 K4 HO4
   go_wp2
   refine bodyPost_ret (v:=.tuple #[.agg #[.bool mg,.slice ma mm mc],.int .i64 0]) (ack (g:=w.heap.size) rfl rfl X.out.1 rfl) rfl ⟨⟨.agg #[.bool mg,.slice ma mm mc],?_,?_⟩,X.out.2.2⟩
   ·rw [df,if_neg (by rw [HBB.out];decide)]
   ·rw [dz,if_neg (by rw [HBB.out];decide)]
    exact X.out.2.1.out
 ·have h4' : decide ((n:Int)≤4)=false:=by simp;omega
  have K1:=hide (ai9 (w0.alloc (.cells #[.bool false,.slice none 0 0] 51)) _ rows (S+1) (H.out.below HB1.out) (by have:=HSQ.out;omega) (fun r hr=>by rw [HRN.out r hr];omega) (by omega))
  go_wp2_with fail
  refine K1.out.mono ?_
  rintro e w2 ⟨r2,vs2,rfl,hM2,hb2⟩
  have K2:Hid (Calls Tryz.prog 22 #[r2] w2 fun e w'=>∃ r,e=.returned r∧OutN (dt n rows) 400000 r w'∧Below w2.heap.size w2 w'):=(Calls.mono (alq w2 _ rows n S B hM2.nm HSQ.out HRN.out (by omega) (by omega) hS HBN.out) (fun e w' ⟨r,h1,h2,h3⟩=>⟨r,h1,h2.wide3 (by omega),h3⟩))
  obtain ⟨a2,c2,hv2,-⟩:=Ce.own hM2.own
  subst hv2
  have HB2:=hide (HB1.out.trans (hb2.mono HB1.out.size))
  have HN2:=hide ((hb2.block _ (aaa HN1.out)).trans HN1.out)
  have HD2:=hide (HD1.out.below hb2)
  clear hb2 hM2 K1 HB1 HN1 HD1 HN0 HB0
  go_wp2_with fail
  refine K2.out.mono ?_
  rintro e w3 ⟨r,rfl,hO,hb3⟩
  obtain ⟨ng,na,nc,nm,rfl⟩:=hO.agg
  have HB3:=hide (HB2.out.trans (hb3.mono HB2.out.size))
  have hn3:=(hb3.block _ (aaa HN2.out)).trans HN2.out
  have hd3:=HD2.out.below hb3
  obtain ⟨g1,g2,g3,g4⟩:=id hd3.facts
  generalize hf6:w0.heap.size=f6 at *
  have HO:=hide (adk hd3 ng (.slice na nc nm) hO)
  have HD:=hide (hd3.set ng (.slice na nc nm))
  have hne:w.heap.size≠f6:=by have:=HF6.out;omega
  have HN:Hid ((((w3.setCell ⟨f6,0,none⟩ (.bool ng)).setCell ⟨f6,1,none⟩ (.slice na nc nm))).heap[w.heap.size]? = some (.cells #[.bool false,.slice none 0 0] 27 (0,0))):=(show _ = _ by rw [heap_setCell_other _ ⟨f6,1,none⟩ _ _ hne,heap_setCell_other _ ⟨f6,0,none⟩ _ _ hne];exact hn3)
  have HB:=hide (Dm.aad HB3.out (show w.heap.size≤f6 by have:=HF6.out;omega) (.bool ng) (.slice na nc nm))
  clear hO hb3 hn3 hd3 hf6 hne K2 HB2 HN2 HD2 HB3 HF6
  go_upto_region 7 with fail
  generalize (w3.setCell ⟨f6,0,none⟩ (.bool ng)).setCell ⟨f6,1,none⟩ (.slice na nc nm)=W at *
  clear g1 g2 g3 g4
  obtain ⟨g1,g2,g3,g4⟩:=id HD.out.facts
  have K3:=nbigB W _ _ 400000 HO.out (by omega)
  obtain ⟨bb,hbb⟩:∃ b,big (dt n rows)=b:=⟨_,rfl⟩
  rw [hbb] at K3
  have K3:=hide K3
  have HBB:=hide hbb
  clear hbb
  go_wp2_with fail
  refine K3.out.mono ?_
  rintro e w4 ⟨rfl,hb4⟩
  have hn4:=(hb4.block _ (aaa HN.out)).trans HN.out
  have HN4:=hide hn4
  have HB4:=hide (HB.out.trans (hb4.mono HB.out.size))
  have HO4:=hide (HO.out.rl (Rl.of_below hb4))
  clear g1 g2 g3 g4
  obtain ⟨g1,g2,g3,g4⟩:=id (HD.out.below hb4).facts
  obtain ⟨hl3,x0,x1,f0,f1⟩:=aal hn4
  clear hb4 hn4 K3 HO HD HN HB
  cases bb with
  | true =>
   have e0:=aa9 (i:=0) (v:=.bool false) HN4.out rfl
   have e1:=aa9 (i:=1) (v:=.slice none 0 0) HN4.out rfl
   have E0:=hide (And.intro e0 e1)
   clear e0 e1
   go_wp2
   rw [E0.out.1,E0.out.2]
   refine bodyPost_ret (v:=.tuple #[.agg #[.bool false,.slice none 0 0],.int .i64 2]) (ack (g:=w.heap.size) rfl rfl (lvw2 HN4.out) rfl) rfl ⟨⟨.agg #[.bool false,.slice none 0 0],?_,?_⟩,HB4.out⟩
   ·rw [df,if_pos HBB.out]
   ·rw [dz,if_pos HBB.out]
    exact ady _
  | false =>
   have K4:=hide (ntoldF w4 _ _ 400000 HO4.out (by omega))
   go_wp2_with fail
   refine K4.out.mono ?_
   rintro e w5 ⟨r5,rfl,hF,hb5⟩
   obtain ⟨mg,ma,mm,mc,rfl⟩:=hF.agg
   have hn5:=(hb5.block _ (aaa HN4.out)).trans HN4.out
   have HB5:=hide (HB4.out.trans (hb5.mono HB4.out.size))
   have X:=hide (And.intro (lvw2 (abz hn5 (.bool mg) (.slice ma mm mc))) (And.intro (hF.ru (act hn5 (.bool mg) (.slice ma mm mc))) (show Below w.heap.size w ((w5.setCell ⟨w.heap.size,0,none⟩ (.bool mg)).setCell ⟨w.heap.size,1,none⟩ (.slice ma mm mc)) from (HB5.out.setCell (Nat.le_refl _) _).setCell (Nat.le_refl _) _)))
   clear hl3 x0 x1 f0 f1 g1 g2 g3 g4
   obtain ⟨hl3,x0,x1,f0,f1⟩:=aal hn5
   clear hF hb5 hn5 K4 HO4
   go_wp2
   refine bodyPost_ret (v:=.tuple #[.agg #[.bool mg,.slice ma mm mc],.int .i64 0]) (ack (g:=w.heap.size) rfl rfl X.out.1 rfl) rfl ⟨⟨.agg #[.bool mg,.slice ma mm mc],?_,?_⟩,X.out.2.2⟩
   ·rw [df,if_neg (by rw [HBB.out];decide)]
   ·rw [dz,if_neg (by rw [HBB.out];decide)]
    exact X.out.2.1.out
set_option maxRecDepth 20000 in
set_option maxHeartbeats 4000000 in
theorem at0 (w:World) (v:Value) (rows:List (List Int)) (cols:Int) (L:Nat) (h:IsM w v rows L) (hs:¬ (Shaped rows cols∧(rows.length:Int)=cols)) :
  Calls Tryz.prog 8 #[v,.int .i64 cols] w fun e w'=>e=.returned (.tuple #[.agg #[.bool false,.slice none 0 0],.int .i64 1])∧Below w.heap.size w w' := by
 have hb0:=hAl w (.cells #[.bool false,.slice none 0 0] 27)
 have hn0:=heap_alloc_new w (.cells #[.bool false,.slice none 0 0] 27)
 have K0:=ah7 _ v rows L (h.below hb0) cols
 obtain ⟨hl3,x0,x1,f0,f1⟩:=aal hn0
 have HN0:=hide hn0
 have HB0:=hide hb0
 obtain ⟨ao,cp,rfl,hn⟩:=h.parts
 clear h hn0 hb0 hn
 by_cases h1:Shaped rows cols
 ·have hne:((rows.length:Int) != cols)=true:=by simp;exact fun h2=>hs ⟨h1,h2⟩
  rw [decide_eq_true h1] at K0
  have K0:=hide K0
  clear hs h1
  go_enter Tryz.func8,Tryz.ntmps8
  go_wp2_with fail
  refine K0.out.mono ?_
  rintro e w1 ⟨rfl,rfl⟩
  clear K0
  go_wp2
  exact bodyPost_ret (v:=.tuple #[.agg #[.bool false,.slice none 0 0],.int .i64 1]) (ack (g:=w.heap.size) rfl rfl (lvw2 HN0.out) rfl) rfl ⟨rfl,HB0.out⟩
 ·rw [decide_eq_false h1] at K0
  have K0:=hide K0
  clear hs h1
  go_enter Tryz.func8,Tryz.ntmps8
  go_wp2_with fail
  refine K0.out.mono ?_
  rintro e w1 ⟨rfl,rfl⟩
  clear K0
  go_wp2
  exact bodyPost_ret (v:=.tuple #[.agg #[.bool false,.slice none 0 0],.int .i64 1]) (ack (g:=w.heap.size) rfl rfl (lvw2 HN0.out) rfl) rfl ⟨rfl,HB0.out⟩
set_option maxRecDepth 20000 in
set_option maxHeartbeats 4000000 in
theorem at1 (w:World) (v:Value) (rows:List (List Int)) (cols:Int) (L:Nat) (h:IsM w v rows L) (hs:¬ (Shaped rows cols∧(rows.length:Int)=cols)) :
  Calls Tryz.prog 6 #[v,.int .i64 cols] w fun e w'=>e=.returned (.tuple #[.agg #[.bool false,.slice none 0 0],.int .i64 1])∧Below w.heap.size w w' := by
 have hb0:=hAl w (.cells #[.bool false,.slice none 0 0] 27)
 have hn0:=heap_alloc_new w (.cells #[.bool false,.slice none 0 0] 27)
 have K0:=aer _ v rows L (h.below hb0) cols
 have HN0:=hide hn0
 have HB0:=hide hb0
 obtain ⟨ao,cp,rfl,hn⟩:=h.parts
 clear h hn0 hb0 hn
 by_cases h1:Shaped rows cols
 ·have hne:((rows.length:Int) != cols)=true:=by simp;exact fun h2=>hs ⟨h1,h2⟩
  rw [decide_eq_true h1] at K0
  have K0:=hide K0
  clear hs h1
  go_enter Tryz.func6,Tryz.ntmps6
  go_wp2_with fail
  refine K0.out.mono ?_
  rintro e w1 ⟨rfl,hb1⟩
  have hn1:=(hb1.block _ (aaa HN0.out)).trans HN0.out
  obtain ⟨hl3,x0,x1,f0,f1⟩:=aal hn1
  have e0:=aa9 (i:=0) (v:=.bool false) hn1 rfl
  have e1:=aa9 (i:=1) (v:=.slice none 0 0) hn1 rfl
  have E0:=hide (And.intro e0 e1)
  have HN1:=hide hn1
  have HB1:=hide (HB0.out.trans (hb1.mono HB0.out.size))
  clear K0 hn1 e0 e1 hb1
  go_wp2
  rw [E0.out.1,E0.out.2]
  exact bodyPost_ret (v:=.tuple #[.agg #[.bool false,.slice none 0 0],.int .i64 1]) (ack (g:=w.heap.size) rfl rfl (lvw2 HN1.out) rfl) rfl ⟨rfl,HB1.out⟩
 ·rw [decide_eq_false h1] at K0
  have K0:=hide K0
  clear hs h1
  go_enter Tryz.func6,Tryz.ntmps6
  go_wp2_with fail
  refine K0.out.mono ?_
  rintro e w1 ⟨rfl,hb1⟩
  have hn1:=(hb1.block _ (aaa HN0.out)).trans HN0.out
  obtain ⟨hl3,x0,x1,f0,f1⟩:=aal hn1
  have e0:=aa9 (i:=0) (v:=.bool false) hn1 rfl
  have e1:=aa9 (i:=1) (v:=.slice none 0 0) hn1 rfl
  have E0:=hide (And.intro e0 e1)
  have HN1:=hide hn1
  have HB1:=hide (HB0.out.trans (hb1.mono HB0.out.size))
  clear K0 hn1 e0 e1 hb1
  go_wp2
  rw [E0.out.1,E0.out.2]
  exact bodyPost_ret (v:=.tuple #[.agg #[.bool false,.slice none 0 0],.int .i64 1]) (ack (g:=w.heap.size) rfl rfl (lvw2 HN1.out) rfl) rfl ⟨rfl,HB1.out⟩
structure DetC (ess:List (List WE)) (cols z f:Int):Prop where
 ref:∀ (w:World) (v:Value),RwM w v ess→Calls Tryz.prog 8 #[v,.int .i64 cols] w fun e w'=>(∃ r,e=.returned (.tuple #[r,.int .i64 f])∧OutW z 400000 r w')∧Below w.heap.size w w'
 pr:∀ (w:World) (v:Value) (fss:List (List WE)),RwM w v fss→SameM fss ess→Calls Tryz.prog 6 #[v,.int .i64 cols] w fun e w'=>(∃ r,e=.returned (.tuple #[r,.int .i64 f])∧OutW z 400000 r w')∧Below w.heap.size w w'
theorem at2 {w:World} {v:Value} {ess:List (List WE)} {cols:Int} (h:RwM w v ess) (hm:∀ es ∈ ess,∀ e ∈ es,e.m≤35184372088832) (hs:¬ (Shaped (zsM ess) cols∧((zsM ess).length:Int)=cols)):DetC ess cols 0 1:=by
 have hzl:∀ es ∈ ess,∀ e ∈ es,e.zs.length≤35184372088832:=fun es he e hx=>by
  obtain ⟨u,hu⟩:=h.row es he
  have:=(hu.sl e hx).parts.1
  have:=hm es he e hx
  omega
 refine ⟨fun w v hR=>?_,fun w v fss hR hS=>?_⟩
 ·exact (at0 w v _ cols _ (hR.isM_s hm) hs).mono fun e w' ⟨h1,h2⟩=>⟨⟨_,h1,ady _⟩,h2⟩
 ·exact (at1 w v _ cols _ (hR.isM_z hS hzl) hs).mono fun e w' ⟨h1,h2⟩=>⟨⟨_,h1,ady _⟩,h2⟩
theorem ar4 {w:World} {v:Value} {ess:List (List WE)} {n:Nat} (h:RwM w v ess) (hl:lenM ess≤1500) (hs:Shaped (zsM ess) (n:Int)) (hsq:(zsM ess).length=n):DetC ess (n:Int) (dz n (zsM ess)) (df n (zsM ess)):=by
 have hzl:∀ es ∈ ess,∀ e ∈ es,e.zs.length≤1500:=fun es he e hx=>by
  obtain ⟨u,hu⟩:=h.row es he
  have:=(hu.sl e hx).parts.1
  have:=akn hx
  have:=ahb he
  omega
 have hn32:n≤32:=by have:=hs.2.1;omega
 have hB:=ayk h hl
 refine ⟨fun w v hR=>?_,fun w v fss hR hS=>?_⟩
 ·exact atz w v _ n 1500 bndB ((hR.isM hl).wide (by omega)) hs hsq (by omega) hB
 ·refine (atl w v _ n 1500 (hR.isM_z hS hzl) hs hsq (by omega)).mono fun e w' ⟨h1,h2⟩=>⟨?_,h2⟩
  rcases awp hsq h2.size h1 with ⟨hb,_,he⟩ | ⟨hb,r,he,hF⟩
  ·rw [dz,df,if_pos hb,if_pos hb]
   exact ⟨_,he,ady _⟩
  ·rw [dz,df,if_neg (by rw [hb];decide),if_neg (by rw [hb];decide)]
   exact ⟨_,he,hF.out.to rfl (by unfold lg;omega)⟩
end Lm
end Go.Proofs.YtgmobkafnefpfaaGreat
namespace Go.Proofs.YtgmobkafnefpfaaGreat
namespace Lm
open Go Go.RowKit Md
set_option maxRecDepth 20000 in
set_option maxHeartbeats 16000000 in
theorem axh (w:World) (v0:Value) (ess:List (List WE)) (cols:Int) (h0:RwM w v0 ess) (hlen:∀ es ∈ ess,es.length≤4398046511103∧∀ e ∈ es,e.m≤35184372088832) (hout:ess.length≤5864062014804) :
  Calls Tryz.prog 3 #[v0,.int .i64 cols] w fun e w'=>e=.returned (.bool true)∧Below w.heap.size w w' := by
 obtain ⟨a0,c0,rfl,hm0⟩:=h0.parts
 have HO:=hide (And.intro hout hlen)
 have HL:Hid (∀ es ∈ ess,∀ e ∈ es,e.m≤35184372088832):=(fun es he=>(hlen es he).2)
 have H0:=hide h0
 have K1:=hide (ayh w)
 clear h0 hlen hout
 obtain ⟨m,hm⟩:∃ m,ess.length=m:=⟨_,rfl⟩
 have HM:=hide hm
 rw [hm] at H0 hm0 ⊢
 clear hm
 go_enter Tryz.func3,Tryz.ntmps3
 go_wp2_with fail
 refine K1.out.mono ?_
 rintro e w1 ⟨rfl,hb1⟩
 have HB1:=hide hb1
 have K2:=arn w1 _ ess (H0.out.below hb1) HL.out
 obtain ⟨lv,hlv⟩:∃ lv,IntKind.i64.wrap (lenM ess:Int)=lv:=⟨_,rfl⟩
 rw [hlv] at K2
 have K2:=hide K2
 have HLV:=hide hlv
 clear hlv
 clear hb1 K1
 go_wp2_with fail
 refine K2.out.mono ?_
 rintro e w2 ⟨rfl,hb2⟩
 have HB2:=hide (HB1.out.trans (hb2.mono HB1.out.size))
 clear hb2 K2
 by_cases hlong:lv > 1500
 ·have hl' : lv > 1500:=hlong
  go_wp2
  refine bodyPost_ret (v:=_) (by simp [results,Tryz.results3,go_sem];try rfl) rfl ⟨rfl,HB2.out⟩
 have hl' : decide (lv > 1500)=false:=by simp;omega
 obtain ⟨z,f,hC⟩:∃ z f,DetC ess cols z f:=by
  by_cases hsh:Shaped (zsM ess) cols∧((zsM ess).length:Int)=cols
  ·have hlm:lenM ess≤1500:=by
    have h1:=aoq hsh.1 HL.out
    have h2:=HLV.out
    rw [awq (by omega) (by omega)] at h2
    omega
   obtain ⟨n,rfl⟩:∃ n:Nat,cols=(n:Int):=⟨cols.toNat,by have:=hsh.1.1;omega⟩
   exact ⟨_,_,ar4 H0.out hlm hsh.1 (by have:=hsh.2;omega)⟩
  ·exact ⟨_,_,at2 H0.out HL.out hsh⟩
 have HC:=hide hC
 have hff:(f == f)=true:=by simp
 have K3:=hide (aop w2 _ ess (H0.out.below HB2.out) HO.out.1 HO.out.2)
 clear hC hlong HB1
 go_wp2_with fail
 refine K3.out.mono ?_
 rintro e x1 ⟨gv,fss,rfl,hG,hS,hx1⟩
 obtain ⟨ga,gc,rfl⟩:=hG.shp
 have HX1:=hide (HB2.out.trans (hx1.mono HB2.out.size))
 have K4:=hide (HC.out.pr x1 _ fss hG.rwM hS)
 clear hG hS hx1 K3
 go_wp2_with fail
 refine K4.out.mono ?_
 rintro e x2 ⟨⟨r,rfl,hO⟩,hx2⟩
 obtain ⟨n1,a1,c1,rs1,rfl,W1,-⟩:=hO
 have hA:=hAl x2 (.cells #[.bool n1,.slice a1 rs1.length c1] 27)
 have hnw:=heap_alloc_new x2 (.cells #[.bool n1,.slice a1 rs1.length c1] 27)
 have HX2:=hide (HX1.out.trans ((hx2.trans (hA.mono hx2.size)).mono HX1.out.size))
 have HW1:=hide (W1.below hA)
 have HNW:=hide hnw
 have K5:=hide (HC.out.ref _ _ (H0.out.below HX2.out))
 clear hx2 W1 hA hnw K4
 go_wp2_with fail
 refine K5.out.mono ?_
 rintro e x3 ⟨⟨r,rfl,hO⟩,hx3⟩
 obtain ⟨n2,a2,c2,rs2,rfl,W2,-⟩:=hO
 generalize x2.alloc (.cells #[.bool n1,.slice a1 rs1.length c1] 27)=xa at *
 generalize x2.heap.size=f5 at *
 have hA:=hAl x3 (.cells #[.bool n2,.slice a2 rs2.length c2] 27)
 have hnw:=heap_alloc_new x3 (.cells #[.bool n2,.slice a2 rs2.length c2] 27)
 have hw1:=(HW1.out.below hx3).below hA
 have hw2:=W2.below hA
 have hn5:=((hx3.trans (hA.mono hx3.size)).block _ (aaa HNW.out)).trans HNW.out
 have HX3:=hide (HX2.out.trans ((hx3.trans (hA.mono hx3.size)).mono HX2.out.size))
 have K6:=hide (aun _ n1 n2 a1 a2 c1 c2 rs1 rs2 z z hw1 hw2 rfl)
 obtain ⟨_,y0,y1,_,_⟩:=aal hn5
 obtain ⟨_,x0,x1',_,_⟩:=aal hnw
 clear hx3 W2 hA hnw hn5 hw1 hw2 K5 HW1 HNW
 go_upto_region 7 with fail
 generalize x3.alloc (.cells #[.bool n2,.slice a2 rs2.length c2] 27)=xb at *
 go_wp2_with fail
 refine K6.out.mono ?_
 rintro e x5 ⟨rfl,hb5⟩
 have HX5:=hide (HX3.out.trans (hb5.mono HX3.out.size))
 have K7:=hide (ay0 x5 f)
 clear hb5 K6 y0 y1 x0 x1'
 go_wp2_with fail
 refine K7.out.mono ?_
 rintro e x6 ⟨rfl,rfl⟩
 clear K7
 go_wp2
 refine bodyPost_ret (v:=_) (by simp [results,Tryz.results3,go_sem];try rfl) rfl ⟨rfl,HX5.out⟩
end Lm
end Go.Proofs.YtgmobkafnefpfaaGreat
namespace Go.Proofs.YtgmobkafnefpfaaGreat
namespace matrixDetsLaw
open Go.ChangeShapes Go.WideShapes Go.ChangeAt Go.RowKit
open Go.ChangeMaps (open_string shut_string)
theorem own:ownKnob Tryz.prog.godebug=none:=by kernel_rfl
theorem laidOut:laidOutB Tryz.prog=true:=by kernel_rfl
set_option linter.unusedVariables false in
set_option maxRecDepth 100000 in
theorem lifted (os:Os) (started:os.Started) (H:Type) (enc:TypeId × Value→H) :
  ReturnsInHanded {} Tryz.checked os 3 .any (Rows.matrixDetsSpec.pre6 enc Tryz.prog Tryz.f3 Rows.matrixDetsRow.domain false) (Rows.matrixDetsSpec.post enc Tryz.prog Tryz.f3 false true false false):=by
 refine returnsInHanded_of_change_sized (C:=Tryz.checked) own started (by kernel_rfl) Tryz.func3
  (ChangeSpec.witness6 (enc:=enc) (C:=Tryz.checked) false ⟨#[],#[.slice none 0 0,.int .i64 0],[]⟩ 8 (by kernel_rfl) (by kernel_rfl) (by kernel_rfl) (by kernel_rfl)) ?_
 intro W base args ds gs before hval0 hW hcnd hsz0 _
 have hval:∀ (j:Nat) t v,Tryz.f3.params[j]? = some t→args[j]? = some v→Value.okWide Tryz.prog W .any base t v:=hval0
 have hW' := hW
 obtain ⟨p,q,hA0,hV,rfl,hfz,hnd⟩:=hW
 have hA:DataW.TrodAll enc Tryz.prog W 0 (fun _=>true) true Tryz.f3.params.toList args.toList ds p:=hA0
 have hsz:(DataW.weightsEach Tryz.prog (Tryz.f3.params.toList ++ Rows.matrixDetsSpec.plain.varTypes Tryz.prog) (ds ++ gs)).all (·≤reachBytes)=true:=hsz0
 rw [Tryz.params3] at hA hval hsz
 obtain ⟨v0,vs0,d0,ds0,p0,q0,hargs,rfl,rfl,h0,r_0⟩:=trodAll_cons hA
 obtain ⟨v1,vs1,d1,ds1,p1,q1,rfl,rfl,rfl,h1,r_1⟩:=trodAll_cons r_0
 obtain ⟨rfl,rfl,rfl⟩:=trodAll_nil r_1
 obtain rfl:args = #[v0,v1]:=by cases args;simp_all
 obtain ⟨rfl,rfl⟩:=trodVars_none hV
 obtain ⟨a0,len0,cap0,rfl⟩:=okWide_slice Tryz.underlying22 (hval 0 22 v0 rfl rfl)
 have k0:=h0
 have lt0:∀ x ∈ p0,x.block<W.heap.size:=by obtain ⟨m,hm⟩:=k0;exact DataW.trod_lt m _ _ _ hm
 obtain ⟨z0,w0,b0,l0⟩:∃ ess,Lm.RwM W (.slice a0 len0 cap0) ess∧(∀ es ∈ ess,es.length≤4398046511103∧∀ e ∈ es,e.m≤35184372088832)∧ess.length≤5864062014804:=by
  obtain ⟨fuel,hf⟩:=h0
  refine Lm.amg (x:=(d0,p0)) (by simpa [Value.cells] using hf) (fun k hk=>?_)
  have:=List.all_eq_true.1 hsz k (DataW.weights_mem_each (j:=0) (t:=22) (d:=d0) rfl rfl k hk)
  simpa using this
 obtain ⟨a1,rfl,rfl,rfl,w1⟩:=open_int Tryz.underlying3 (hval 1 3 v1 rfl rfl) h1
 clear hA0 hval0
 refine (Lm.axh W _ z0 a1 w0 b0 l0).mono fun e W' ⟨he,bel⟩=>?_
 subst he
 exact ⟨_,rfl,_,_,_,[],_,[],hW',trodAll_mk1 (shut_bool Tryz.underlying4 _),(trodAll_cons_mk (Below.trod laidOut (by kernel_rfl) (of_decide_eq_true (by kernel_rfl)) k0 bel lt0) (trodAll_cons_mk (shut_int Tryz.underlying3 w1) trodAll_mk0)),rfl,bel.frame _,fun h=>by cases h⟩
theorem over:Rows.matrixDetsRow.holds Tryz.pinned (OpenSpec.ofChange Rows.matrixDetsSpec) :=
 OpenClaim.holds_of_wide 3 Tryz.f3 rfl rfl rfl rfl rfl rfl rfl ⟨rfl,rfl,rfl,rfl,rfl⟩ rfl rfl rfl rfl rfl (by kernel_rfl) Tryz.func3 (by kernel_rfl)
  (of_decide_eq_true (by kernel_rfl)) (by unfold Func.isWrapper;first | (rw [if_pos (by decide +kernel)];kernel_rfl) | (rw [if_neg (by decide +kernel)];exact ⟨rfl,rfl⟩))
  (fun os started H enc _=>lifted os started H enc)
end matrixDetsLaw
theorem matrixDets_holds:Rows.MatrixDetsSaid:=matrixDetsLaw.over
#print axioms matrixDets_holds
end Go.Proofs.YtgmobkafnefpfaaGreat
