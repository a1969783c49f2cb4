/-
  What the text behind the last one leans on, part 4.
-/
import Derived.Shelf.Spec.SlicesInsertGrow
import Derived.WalkMore
import Derived.Deep.Slices
import Derived.WalkKit
import Derived.Test.YtjogfjgkabjcfaaGreatSLdLawZ3
set_option maxRecDepth 20000
set_option maxHeartbeats 40000000
namespace Go.Proofs.YtjogfjgkabjcfaaGreat
namespace Lm
open Go Go.RowKit
theorem ank:(Tryz.prog.info? 3).map (fun i=>(i.zero,i.size,i.bytes))=some (some (.int .i64 0),1,8):=by kernel_rfl
theorem ako:(Tryz.prog.info? 39).map (fun i=>(i.zero,i.size,i.bytes))=some (some (.slice none 0 0),1,24):=by kernel_rfl
theorem sizeI:(Tryz.prog.info? 3).map (·.size)=some 1:=by
 obtain⟨i0,hi0,h0,h1,h2⟩:=info_parts ank;rw[hi0];simp[h1]
theorem overI(w:World)(vb voff m vc b o lb cb:Nat)(hvb:vb≠b)(tA tB:TypeId)(kA kB:Nat)(hsa:w.shape? vb=some (tA,kA))(hsb:w.shape? b=some (tB,kB))(hkB:kB≠0)(hfa:w.frozen? ⟨vb,voff,none⟩=false)(hfe:w.frozen? ⟨vb,kA,none⟩=false):
  (callFunc 203 #[.slice (some ⟨vb,voff,none⟩) m vc,.slice (some ⟨b,o,none⟩) lb cb]).run Tryz.prog w=.ok (.value (.bool false)) w:=by
 rw[run_callFunc_extern (fn:=Tryz.f203) (by kernel_rfl) (by kernel_rfl) (by kernel_rfl) (by kernel_rfl) (e:=Extern.SlicesOverlaps.overlaps #[26,26] #[4]) (by kernel_rfl),
  Lib.run_overlaps_apart w 26 4 3 Tryz.underlying26 1 (fun w=>by kernel_rfl) ⟨vb,voff,none⟩ ⟨b,o,none⟩ m vc lb cb hvb tA tB kA kB hsa hsb hkB hfa hfe]
 rfl
set_option maxRecDepth 100000 in
theorem insSI(b off n c i vb voff m vc:Nat)(cs vs:List Value)(w:World)(hi:i<n)(hm:0<m)(hroom:n+m<=c)(hc63:c<=9223372036854775807)(hvb:vb≠b)
  (hcl:cs.length=n) (hvl:vs.length=m)
  (hcs:∀j v,cs[j]? = some v->w.cell? ⟨b,off+j,none⟩=some v) (hsp:∀j,j<n+m->(w.cell? ⟨b,off+j,none⟩).isSome=true) (hfz:∀j,j<n+m->w.frozen? ⟨b,off+j,none⟩=false)
  (hvs:∀j v,vs[j]? = some v->w.cell? ⟨vb,voff+j,none⟩=some v) (h1c:∀v∈cs,v.oneCell'=true) (h1v:∀v∈vs,v.oneCell'=true)
  (tA tB:TypeId) (kA kB:Nat) (hsa:w.shape? vb=some (tA,kA)) (hsb:w.shape? b=some (tB,kB)) (hkB:kB≠0) (hfa:w.frozen? ⟨vb,voff,none⟩=false) (hfe:w.frozen? ⟨vb,kA,none⟩=false) :
  Calls Tryz.prog 196 #[.slice (some ⟨b,off,none⟩) n c,.int .i64 i,.slice (some ⟨vb,voff,none⟩) m vc] w fun e w'=>
   e=.returned (.slice (some ⟨b,off,none⟩) (n+m) c)/\w'=(w.drew.setCells b (off+(i+m)) (cs.drop i)).setCells b (off+i) vs:=by
 have hz1:¬((m:Int)=0):=by omega
 have hz2:¬((i:Int)=(n:Int)):=by omega
 have hov:∀lb cb,(callFunc 203 #[.slice (some ⟨vb,voff,none⟩) m vc,.slice (some ⟨b,off+(i+m),none⟩) lb cb]).run Tryz.prog w=.ok (.value (.bool false)) w:=fun lb cb=>overI w vb voff m vc b _ lb cb hvb tA tB kA kB hsa hsb hkB hfa hfe
 have hdl:(cs.drop i).length=n-i:=by rw[List.length_drop,hcl]
 have hw1:IntKind.i64.wrap ((i:Int)+(m:Int))=(i:Int)+(m:Int):=by rw[IntKind.wrap_i64];omega
 have hb1:(0:Int)<=(i:Int)+(m:Int):=by omega
 have hin:i<=n:=by omega
 have htn:((i:Int)+(m:Int)).toNat=i+m:=by omega
 have hb2:¬(c=i+m):=by omega
 have hb3:(i:Int)<=(n:Int)+(m:Int):=by omega
 have hb4:¬(c=i):=by omega
 have hcp1:∀ty dc sc,(Builtin.copy_ #[26,26] ty #[.slice (some ⟨b,off+(i+m),none⟩) (n+m-(i+m)) dc,.slice (some ⟨b,off+i,none⟩) (n+m-i) sc]).run Tryz.prog w.drew=.ok (goInt (cs.drop i).length) (w.drew.setCells b (off+(i+m)) (cs.drop i)):=fun ty dc sc=>
  run_copy_cells w.drew _ _ ty 3 b (off+(i+m)) (n+m-(i+m)) dc ⟨b,off+i,none⟩ (n+m-i) sc (cs.drop i) Tryz.underlying26 sizeI (by rw[hdl];simp only[Nat.min_def];split <;> omega)
   (fun j v hj=>by rw[Addr.add_lit,Nat.add_assoc];exact hcs (i+j) v (by rwa[List.getElem?_drop]at hj))
   (fun j hj=>by rw[Nat.add_assoc];exact hsp _ (by omega)) (fun j hj=>by rw[Nat.add_assoc];exact hfz _ (by omega)) (fun v hv=>h1c v (List.mem_of_mem_drop hv))
 obtain⟨W1,hW1⟩:∃W1,W1=w.drew.setCells b (off+(i+m)) (cs.drop i):=⟨_,rfl⟩;have hsp1:∀k,k<n+m->(W1.cell? ⟨b,off+k,none⟩).isSome=true:=fun k hk=>by
  rw[hW1];exact isSome_setCells b _ _ _ (fun j hj=>by rw[Nat.add_assoc];exact hsp _ (by omega)) _ (hsp k hk)
 have hcp2:∀(W:World),(∀x,W.cell? x=W1.cell? x)->(∀x,W.frozen? x=W1.frozen? x)->∀ty dc,(Builtin.copy_ #[26,26] ty #[.slice (some ⟨b,off+i,none⟩) (n+m-i) dc,.slice (some ⟨vb,voff,none⟩) m vc]).run Tryz.prog W=.ok (goInt vs.length) (W.setCells b (off+i) vs):=fun W hWc hWf ty dc=>
  run_copy_cells W _ _ ty 3 b (off+i) (n+m-i) dc ⟨vb,voff,none⟩ m vc vs Tryz.underlying26 sizeI (by rw[hvl];simp only[Nat.min_def];split <;> omega)
   (fun j v hj=>by
    rw[Addr.add_lit,hWc,hW1,World.cell?_setCells_out b _ _ _ _ (fun h _=>absurd h hvb)]
    exact hvs j v hj)
   (fun j hj=>by rw[hWc,Nat.add_assoc];exact hsp1 _ (by omega)) (fun j hj=>by rw[hWf,hW1,World.frozen?_setCells,Nat.add_assoc];exact hfz _ (by omega)) h1v
 rw[<-hW1]at hcp1;go_enter Tryz.func196,Tryz.ntmps196
 go_wp2_with (simp only[hov])
 go_region_law (refine step_copy_runI rfl _ _ 26 26 rfl _ _ (by simp[Act.eval,Act.put]) (by simp[Act.eval,Act.put]) (hcp1 _ _ _) ?_)
 go_wp2_with (at_builtin;refine wpList_copy_runI _ rfl _ _ 26 26 rfl _ _ rfl rfl (hcp2 _ (fun _=>rfl) (fun _=>rfl) _ _) ?_)
 go_ret;first|exact⟨rfl,rfl⟩|exact⟨rfl,by rw[hW1]⟩
set_option maxRecDepth 100000 in
theorem insGI(b off n c i vb voff m vc:Nat)(cs vs:List Value)(w:World)(hi:i<n)(hm:0<m)(_hnc:n<=c)(hroom:c<n+m)(hbig:(n+m)*8<=140737488355328)
  (hcl:cs.length=n) (hvl:vs.length=m)
  (hcs:∀j v,cs[j]? = some v->w.cell? ⟨b,off+j,none⟩=some v)
  (hvs:∀j v,vs[j]? = some v->w.cell? ⟨vb,voff+j,none⟩=some v) (h1c:∀v∈cs,v.oneCell'=true) (h1v:∀v∈vs,v.oneCell'=true) :
  Calls Tryz.prog 196 #[.slice (some ⟨b,off,none⟩) n c,.int .i64 i,.slice (some ⟨vb,voff,none⟩) m vc] w fun e w'=>
   e=.returned (.slice (some ⟨w.heap.size,0,none⟩) (n+m) (grownCap w (n+m) c 3)) /\
   w'=(((w.alloc (.cells ((cs.take i).toArray++Builtin.zeroCells (Value.cells (.int .i64 0)) (n+m-i)++Builtin.zeroCells (Value.cells (.int .i64 0)) (grownCap w (n+m) c 3-(n+m))) 3)).drew.setCells w.heap.size i vs).drew).setCells w.heap.size (i+m) (cs.drop i):=by
 obtain⟨i0,hi0,hz0,hzs,hzb⟩:=info_parts ank;have hz1:¬((m:Int)=0):=by omega
 have hz2:¬((i:Int)=(n:Int)):=by omega
 have hz3:(c:Int)<(n:Int)+(m:Int):=by omega
 have hbw:b<w.heap.size:=block_lt_of_cell (hcs 0 _ (List.getElem?_eq_getElem (by omega)));have hvw:vb<w.heap.size:=block_lt_of_cell (hvs 0 _ (List.getElem?_eq_getElem (by omega)));have hkk:(n:Int)+(m:Int)-(i:Int)=((n+m-i:Nat):Int):=by omega
 have hik:i+(n+m-i)=n+m:=by omega
 have hold:(Builtin.firstCells i0.size i (.slice (some ⟨b,off,none⟩) i c)).run Tryz.prog w.drew=.ok (cs.take i).toArray w.drew:=by
  rw[hzs];exact run_firstCells_some w.drew 1 i ⟨b,off,none⟩ i c (cs.take i) (by rw[List.length_take];omega) (fun j v hj=>by
   rw[Addr.add_lit];rw[List.getElem?_take]at hj;split at hj
   ·exact hcs j v hj
   ·cases hj)
 have hrz:∀ty,(Builtin.append_ #[26,3] ty #[.slice (some ⟨b,off,none⟩) i c,.int .i64 ((n:Int)+(m:Int)-(i:Int))]).run Tryz.prog w =
   .ok (.slice (some ⟨w.heap.size,0,none⟩) (n+m) (grownCap w (n+m) c 3)) (w.drew.alloc (.cells ((cs.take i).toArray++Builtin.zeroCells (Value.cells (.int .i64 0)) (n+m-i)++Builtin.zeroCells (Value.cells (.int .i64 0)) (grownCap w (n+m) c 3-(n+m))) 3)):=fun ty=>by
  have h:=Lib.run_append_grow_zeros w 26 3 ty 3 i0 _ .i64 .i64 Tryz.underlying26 Tryz.underlying3 hi0 hz0 (some ⟨b,off,none⟩) i c (cs.take i) hold (n+m-i) (by omega) (by omega) (by omega) (by omega) (by rw[hzb];omega) (by rw[hzb,hik];exact growslice_fits hroom hbig);rw[hik]at h;rw[hkk];exact h
 obtain⟨G,hG⟩:∃G,G=grownCap w (n+m) c 3:=⟨_,rfl⟩;obtain⟨ROW,hROW⟩:∃ROW:Array Value,ROW=(cs.take i).toArray++Builtin.zeroCells (Value.cells (.int .i64 0)) (n+m-i)++Builtin.zeroCells (Value.cells (.int .i64 0)) (G-(n+m)):=⟨_,rfl⟩;rw[<-hG]at hrz ⊢;rw[<-hROW]at hrz ⊢;have hRl:n+m<=ROW.size:=by
  rw[hROW];simp[Builtin.zeroCells,Value.cells];omega
 obtain⟨W1,hW1⟩:∃W1,W1=w.drew.alloc (.cells ROW 3):=⟨_,rfl⟩;rw[<-hW1]at hrz;have hN:∀j,j<n+m->(W1.cell? ⟨w.heap.size,j,none⟩).isSome=true:=fun j hj=>by
  rw[hW1,World.cell?_alloc_at (w:=w.drew) ROW _ w.heap.size j rfl,Array.getElem?_eq_getElem (by omega)];rfl
 have hNf:∀j,W1.frozen? ⟨w.heap.size,j,none⟩=false:=fun j=>by rw[hW1];exact World.frozen?_alloc_at (w:=w.drew) ROW _ w.heap.size j rfl
 have hOb:∀j v,w.cell? ⟨b,j,none⟩=some v->W1.cell? ⟨b,j,none⟩=some v:=fun j v h=>by rw[hW1,World.cell?_alloc_past (w:=w.drew) _ b j hbw];exact h
 have hOv:∀j v,w.cell? ⟨vb,j,none⟩=some v->W1.cell? ⟨vb,j,none⟩=some v:=fun j v h=>by rw[hW1,World.cell?_alloc_past (w:=w.drew) _ vb j hvw];exact h
 have hcpA:∀(W:World),(∀x,W.cell? x=W1.cell? x)->(∀x,W.frozen? x=W1.frozen? x)->∀ty dc,(Builtin.copy_ #[26,26] ty #[.slice (some ⟨w.heap.size,i,none⟩) (n+m-i) dc,.slice (some ⟨vb,voff,none⟩) m vc]).run Tryz.prog W=.ok (goInt vs.length) (W.setCells w.heap.size i vs):=fun W hWc hWf ty dc=>
  run_copy_cells W _ _ ty 3 w.heap.size i (n+m-i) dc ⟨vb,voff,none⟩ m vc vs Tryz.underlying26 sizeI (by rw[hvl];simp only[Nat.min_def];split <;> omega)
   (fun j v hj=>by rw[Addr.add_lit,hWc];exact hOv _ v (hvs j v hj))
   (fun j hj=>by rw[hWc];exact hN _ (by omega)) (fun j hj=>by rw[hWf];exact hNf _) h1v
 have hGn:n+m<=G:=by rw[hG];exact grownCap_ge w _ _ _
 have hG63:G<=9223372036854775807:=by
  have:=grownCap_le_maxLen w (n+m) c 3 (by unfold maxLen;omega);rw[<-hG]at this;unfold maxLen at this;omega
 have hGi:¬(G=i):=by omega
 have hGim:¬(G=i+m):=by omega
 have hci:¬(c=i):=by omega
 have hbN:b≠w.heap.size:=by omega
 have hdl:(cs.drop i).length=n-i:=by rw[List.length_drop,hcl]
 have hcpB:∀(W:World),(∀x,W.cell? x=(W1.setCells w.heap.size i vs).cell? x)->(∀x,W.frozen? x=(W1.setCells w.heap.size i vs).frozen? x)->∀ty dc sc,(Builtin.copy_ #[26,26] ty #[.slice (some ⟨w.heap.size,i+m,none⟩) (n+m-(i+m)) dc,.slice (some ⟨b,off+i,none⟩) (n-i) sc]).run Tryz.prog W=.ok (goInt (cs.drop i).length) (W.setCells w.heap.size (i+m) (cs.drop i)):=fun W hWc hWf ty dc sc=>
  run_copy_cells W _ _ ty 3 w.heap.size (i+m) (n+m-(i+m)) dc ⟨b,off+i,none⟩ (n-i) sc (cs.drop i) Tryz.underlying26 sizeI (by rw[hdl];simp only[Nat.min_def];split <;> omega)
   (fun j v hj=>by
    rw[Addr.add_lit,hWc,World.cell?_setCells_out _ _ _ _ _ (fun h _=>absurd h hbN),Nat.add_assoc]
    exact hOb _ v (hcs (i+j) v (by rwa[List.getElem?_drop]at hj)))
   (fun j hj=>by rw[hWc];exact isSome_setCells _ _ _ _ (fun t ht=>hN _ (by omega)) _ (hN _ (by omega)))
   (fun j hj=>by rw[hWf,World.frozen?_setCells];exact hNf _) (fun v hv=>h1c v (List.mem_of_mem_drop hv))
 subst hW1;have hE1:∀x,((w.alloc (.cells ROW 3)).drew).cell? x=(w.drew.alloc (.cells ROW 3)).cell? x:=fun x=>rfl
 have hE2:∀x,((w.alloc (.cells ROW 3)).drew).frozen? x=(w.drew.alloc (.cells ROW 3)).frozen? x:=fun x=>rfl
 have hF1:∀x,(((w.alloc (.cells ROW 3)).drew.setCells w.heap.size i vs).drew).cell? x=((w.drew.alloc (.cells ROW 3)).setCells w.heap.size i vs).cell? x:=fun x=>rfl
 have hF2:∀x,(((w.alloc (.cells ROW 3)).drew.setCells w.heap.size i vs).drew).frozen? x=((w.drew.alloc (.cells ROW 3)).setCells w.heap.size i vs).frozen? x:=fun x=>rfl
 have hw1:IntKind.i64.wrap ((i:Int)+(m:Int))=(i:Int)+(m:Int):=by rw[IntKind.wrap_i64];omega
 have hb1:(0:Int)<=(i:Int)+(m:Int):=by omega
 have hin:i<=n:=by omega
 have htn:((i:Int)+(m:Int)).toNat=i+m:=by omega
 have hb3:(i:Int)<=(n:Int):=by omega
 clear hkk hik hold hROW hG hRl;go_enter Tryz.func196,Tryz.ntmps196
 go_wp2_with (first
  | (at_builtin;refine Lib.wpList_append_run _ rfl _ _ _ _ rfl _ _ rfl rfl _ _ (hrz _) ?_)
  | (at_builtin;refine wpList_copy_runI _ rfl _ _ 26 26 rfl _ _ rfl rfl (hcpA _ hE1 hE2 _ _) ?_)
  | (at_builtin;refine wpList_copy_runI _ rfl _ _ 26 26 rfl _ _ rfl rfl (hcpB _ (fun _=>rfl) (fun _=>rfl) _ _ _) ?_))
 go_region_law (refine step_copy_runI rfl _ _ 26 26 rfl (.slice (some ⟨w.heap.size,i+m,none⟩) (n+m-(i+m)) (G-(i+m))) (.slice (some ⟨b,off+i,none⟩) (n-i) (c-i)) (by simp[Act.eval,Act.put]) (by simp[Act.eval,Act.put]) (hcpB _ hF1 hF2 3 (G-(i+m)) (c-i)) ?_)
 go_wp2;go_ret;exact⟨rfl,rfl⟩
theorem sizeR:(Tryz.prog.info? 39).map (·.size)=some 1:=by
 obtain⟨i0,hi0,h0,h1,h2⟩:=info_parts ako;rw[hi0];simp[h1]
theorem overR(w:World)(vb voff m vc b o lb cb:Nat)(hvb:vb≠b)(tA tB:TypeId)(kA kB:Nat)(hsa:w.shape? vb=some (tA,kA))(hsb:w.shape? b=some (tB,kB))(hkB:kB≠0)(hfa:w.frozen? ⟨vb,voff,none⟩=false)(hfe:w.frozen? ⟨vb,kA,none⟩=false):
  (callFunc 201 #[.slice (some ⟨vb,voff,none⟩) m vc,.slice (some ⟨b,o,none⟩) lb cb]).run Tryz.prog w=.ok (.value (.bool false)) w:=by
 rw[run_callFunc_extern (fn:=Tryz.f201) (by kernel_rfl) (by kernel_rfl) (by kernel_rfl) (by kernel_rfl) (e:=Extern.SlicesOverlaps.overlaps #[23,23] #[4]) (by kernel_rfl),
  Lib.run_overlaps_apart w 23 4 39 Tryz.underlying23 1 (fun w=>by kernel_rfl) ⟨vb,voff,none⟩ ⟨b,o,none⟩ m vc lb cb hvb tA tB kA kB hsa hsb hkB hfa hfe]
 rfl
set_option maxRecDepth 100000 in
theorem insSR(b off n c i vb voff m vc:Nat)(cs vs:List Value)(w:World)(hi:i<n)(hm:0<m)(hroom:n+m<=c)(hc63:c<=9223372036854775807)(hvb:vb≠b)
  (hcl:cs.length=n) (hvl:vs.length=m)
  (hcs:∀j v,cs[j]? = some v->w.cell? ⟨b,off+j,none⟩=some v) (hsp:∀j,j<n+m->(w.cell? ⟨b,off+j,none⟩).isSome=true) (hfz:∀j,j<n+m->w.frozen? ⟨b,off+j,none⟩=false)
  (hvs:∀j v,vs[j]? = some v->w.cell? ⟨vb,voff+j,none⟩=some v) (h1c:∀v∈cs,v.oneCell'=true) (h1v:∀v∈vs,v.oneCell'=true)
  (tA tB:TypeId) (kA kB:Nat) (hsa:w.shape? vb=some (tA,kA)) (hsb:w.shape? b=some (tB,kB)) (hkB:kB≠0) (hfa:w.frozen? ⟨vb,voff,none⟩=false) (hfe:w.frozen? ⟨vb,kA,none⟩=false) :
  Calls Tryz.prog 195 #[.slice (some ⟨b,off,none⟩) n c,.int .i64 i,.slice (some ⟨vb,voff,none⟩) m vc] w fun e w'=>
   e=.returned (.slice (some ⟨b,off,none⟩) (n+m) c)/\w'=(w.drew.setCells b (off+(i+m)) (cs.drop i)).setCells b (off+i) vs:=by
 have hz1:¬((m:Int)=0):=by omega
 have hz2:¬((i:Int)=(n:Int)):=by omega
 have hov:∀lb cb,(callFunc 201 #[.slice (some ⟨vb,voff,none⟩) m vc,.slice (some ⟨b,off+(i+m),none⟩) lb cb]).run Tryz.prog w=.ok (.value (.bool false)) w:=fun lb cb=>overR w vb voff m vc b _ lb cb hvb tA tB kA kB hsa hsb hkB hfa hfe
 have hdl:(cs.drop i).length=n-i:=by rw[List.length_drop,hcl]
 have hw1:IntKind.i64.wrap ((i:Int)+(m:Int))=(i:Int)+(m:Int):=by rw[IntKind.wrap_i64];omega
 have hb1:(0:Int)<=(i:Int)+(m:Int):=by omega
 have hin:i<=n:=by omega
 have htn:((i:Int)+(m:Int)).toNat=i+m:=by omega
 have hb2:¬(c=i+m):=by omega
 have hb3:(i:Int)<=(n:Int)+(m:Int):=by omega
 have hb4:¬(c=i):=by omega
 have hcp1:∀ty dc sc,(Builtin.copy_ #[23,23] ty #[.slice (some ⟨b,off+(i+m),none⟩) (n+m-(i+m)) dc,.slice (some ⟨b,off+i,none⟩) (n+m-i) sc]).run Tryz.prog w.drew=.ok (goInt (cs.drop i).length) (w.drew.setCells b (off+(i+m)) (cs.drop i)):=fun ty dc sc=>
  run_copy_cells w.drew _ _ ty 39 b (off+(i+m)) (n+m-(i+m)) dc ⟨b,off+i,none⟩ (n+m-i) sc (cs.drop i) Tryz.underlying23 sizeR (by rw[hdl];simp only[Nat.min_def];split <;> omega)
   (fun j v hj=>by rw[Addr.add_lit,Nat.add_assoc];exact hcs (i+j) v (by rwa[List.getElem?_drop]at hj))
   (fun j hj=>by rw[Nat.add_assoc];exact hsp _ (by omega)) (fun j hj=>by rw[Nat.add_assoc];exact hfz _ (by omega)) (fun v hv=>h1c v (List.mem_of_mem_drop hv))
 obtain⟨W1,hW1⟩:∃W1,W1=w.drew.setCells b (off+(i+m)) (cs.drop i):=⟨_,rfl⟩;have hsp1:∀k,k<n+m->(W1.cell? ⟨b,off+k,none⟩).isSome=true:=fun k hk=>by
  rw[hW1];exact isSome_setCells b _ _ _ (fun j hj=>by rw[Nat.add_assoc];exact hsp _ (by omega)) _ (hsp k hk)
 have hcp2:∀(W:World),(∀x,W.cell? x=W1.cell? x)->(∀x,W.frozen? x=W1.frozen? x)->∀ty dc,(Builtin.copy_ #[23,23] ty #[.slice (some ⟨b,off+i,none⟩) (n+m-i) dc,.slice (some ⟨vb,voff,none⟩) m vc]).run Tryz.prog W=.ok (goInt vs.length) (W.setCells b (off+i) vs):=fun W hWc hWf ty dc=>
  run_copy_cells W _ _ ty 39 b (off+i) (n+m-i) dc ⟨vb,voff,none⟩ m vc vs Tryz.underlying23 sizeR (by rw[hvl];simp only[Nat.min_def];split <;> omega)
   (fun j v hj=>by
    rw[Addr.add_lit,hWc,hW1,World.cell?_setCells_out b _ _ _ _ (fun h _=>absurd h hvb)]
    exact hvs j v hj)
   (fun j hj=>by rw[hWc,Nat.add_assoc];exact hsp1 _ (by omega)) (fun j hj=>by rw[hWf,hW1,World.frozen?_setCells,Nat.add_assoc];exact hfz _ (by omega)) h1v
 rw[<-hW1]at hcp1;go_enter Tryz.func195,Tryz.ntmps195
 go_wp2_with (simp only[hov])
 go_region_law (refine step_copy_runI rfl _ _ 23 23 rfl _ _ (by simp[Act.eval,Act.put]) (by simp[Act.eval,Act.put]) (hcp1 _ _ _) ?_)
 go_wp2_with (at_builtin;refine wpList_copy_runI _ rfl _ _ 23 23 rfl _ _ rfl rfl (hcp2 _ (fun _=>rfl) (fun _=>rfl) _ _) ?_)
 go_ret;first|exact⟨rfl,rfl⟩|exact⟨rfl,by rw[hW1]⟩
set_option maxRecDepth 100000 in
theorem insGR(b off n c i vb voff m vc:Nat)(cs vs:List Value)(w:World)(hi:i<n)(hm:0<m)(_hnc:n<=c)(hroom:c<n+m)(hbig:(n+m)*24<=140737488355328)
  (hcl:cs.length=n) (hvl:vs.length=m)
  (hcs:∀j v,cs[j]? = some v->w.cell? ⟨b,off+j,none⟩=some v)
  (hvs:∀j v,vs[j]? = some v->w.cell? ⟨vb,voff+j,none⟩=some v) (h1c:∀v∈cs,v.oneCell'=true) (h1v:∀v∈vs,v.oneCell'=true) :
  Calls Tryz.prog 195 #[.slice (some ⟨b,off,none⟩) n c,.int .i64 i,.slice (some ⟨vb,voff,none⟩) m vc] w fun e w'=>
   e=.returned (.slice (some ⟨w.heap.size,0,none⟩) (n+m) (grownCap w (n+m) c 39)) /\
   w'=(((w.alloc (.cells ((cs.take i).toArray++Builtin.zeroCells (Value.cells (.slice none 0 0)) (n+m-i)++Builtin.zeroCells (Value.cells (.slice none 0 0)) (grownCap w (n+m) c 39-(n+m))) 39)).drew.setCells w.heap.size i vs).drew).setCells w.heap.size (i+m) (cs.drop i):=by
 obtain⟨i0,hi0,hz0,hzs,hzb⟩:=info_parts ako;have hz1:¬((m:Int)=0):=by omega
 have hz2:¬((i:Int)=(n:Int)):=by omega
 have hz3:(c:Int)<(n:Int)+(m:Int):=by omega
 have hbw:b<w.heap.size:=block_lt_of_cell (hcs 0 _ (List.getElem?_eq_getElem (by omega)));have hvw:vb<w.heap.size:=block_lt_of_cell (hvs 0 _ (List.getElem?_eq_getElem (by omega)));have hkk:(n:Int)+(m:Int)-(i:Int)=((n+m-i:Nat):Int):=by omega
 have hik:i+(n+m-i)=n+m:=by omega
 have hold:(Builtin.firstCells i0.size i (.slice (some ⟨b,off,none⟩) i c)).run Tryz.prog w.drew=.ok (cs.take i).toArray w.drew:=by
  rw[hzs];exact run_firstCells_some w.drew 1 i ⟨b,off,none⟩ i c (cs.take i) (by rw[List.length_take];omega) (fun j v hj=>by
   rw[Addr.add_lit];rw[List.getElem?_take]at hj;split at hj
   ·exact hcs j v hj
   ·cases hj)
 have hrz:∀ty,(Builtin.append_ #[23,3] ty #[.slice (some ⟨b,off,none⟩) i c,.int .i64 ((n:Int)+(m:Int)-(i:Int))]).run Tryz.prog w =
   .ok (.slice (some ⟨w.heap.size,0,none⟩) (n+m) (grownCap w (n+m) c 39)) (w.drew.alloc (.cells ((cs.take i).toArray++Builtin.zeroCells (Value.cells (.slice none 0 0)) (n+m-i)++Builtin.zeroCells (Value.cells (.slice none 0 0)) (grownCap w (n+m) c 39-(n+m))) 39)):=fun ty=>by
  have h:=Lib.run_append_grow_zeros w 23 3 ty 39 i0 _ .i64 .i64 Tryz.underlying23 Tryz.underlying3 hi0 hz0 (some ⟨b,off,none⟩) i c (cs.take i) hold (n+m-i) (by omega) (by omega) (by omega) (by omega) (by rw[hzb];omega) (by rw[hzb,hik];exact growslice_fits hroom hbig);rw[hik]at h;rw[hkk];exact h
 obtain⟨G,hG⟩:∃G,G=grownCap w (n+m) c 39:=⟨_,rfl⟩;obtain⟨ROW,hROW⟩:∃ROW:Array Value,ROW=(cs.take i).toArray++Builtin.zeroCells (Value.cells (.slice none 0 0)) (n+m-i)++Builtin.zeroCells (Value.cells (.slice none 0 0)) (G-(n+m)):=⟨_,rfl⟩;rw[<-hG]at hrz ⊢;rw[<-hROW]at hrz ⊢;have hRl:n+m<=ROW.size:=by
  rw[hROW];simp[Builtin.zeroCells,Value.cells];omega
 obtain⟨W1,hW1⟩:∃W1,W1=w.drew.alloc (.cells ROW 39):=⟨_,rfl⟩;rw[<-hW1]at hrz;have hN:∀j,j<n+m->(W1.cell? ⟨w.heap.size,j,none⟩).isSome=true:=fun j hj=>by
  rw[hW1,World.cell?_alloc_at (w:=w.drew) ROW _ w.heap.size j rfl,Array.getElem?_eq_getElem (by omega)];rfl
 have hNf:∀j,W1.frozen? ⟨w.heap.size,j,none⟩=false:=fun j=>by rw[hW1];exact World.frozen?_alloc_at (w:=w.drew) ROW _ w.heap.size j rfl
 have hOb:∀j v,w.cell? ⟨b,j,none⟩=some v->W1.cell? ⟨b,j,none⟩=some v:=fun j v h=>by rw[hW1,World.cell?_alloc_past (w:=w.drew) _ b j hbw];exact h
 have hOv:∀j v,w.cell? ⟨vb,j,none⟩=some v->W1.cell? ⟨vb,j,none⟩=some v:=fun j v h=>by rw[hW1,World.cell?_alloc_past (w:=w.drew) _ vb j hvw];exact h
 have hcpA:∀(W:World),(∀x,W.cell? x=W1.cell? x)->(∀x,W.frozen? x=W1.frozen? x)->∀ty dc,(Builtin.copy_ #[23,23] ty #[.slice (some ⟨w.heap.size,i,none⟩) (n+m-i) dc,.slice (some ⟨vb,voff,none⟩) m vc]).run Tryz.prog W=.ok (goInt vs.length) (W.setCells w.heap.size i vs):=fun W hWc hWf ty dc=>
  run_copy_cells W _ _ ty 39 w.heap.size i (n+m-i) dc ⟨vb,voff,none⟩ m vc vs Tryz.underlying23 sizeR (by rw[hvl];simp only[Nat.min_def];split <;> omega)
   (fun j v hj=>by rw[Addr.add_lit,hWc];exact hOv _ v (hvs j v hj))
   (fun j hj=>by rw[hWc];exact hN _ (by omega)) (fun j hj=>by rw[hWf];exact hNf _) h1v
 have hGn:n+m<=G:=by rw[hG];exact grownCap_ge w _ _ _
 have hG63:G<=9223372036854775807:=by
  have:=grownCap_le_maxLen w (n+m) c 39 (by unfold maxLen;omega);rw[<-hG]at this;unfold maxLen at this;omega
 have hGi:¬(G=i):=by omega
 have hGim:¬(G=i+m):=by omega
 have hci:¬(c=i):=by omega
 have hbN:b≠w.heap.size:=by omega
 have hdl:(cs.drop i).length=n-i:=by rw[List.length_drop,hcl]
 have hcpB:∀(W:World),(∀x,W.cell? x=(W1.setCells w.heap.size i vs).cell? x)->(∀x,W.frozen? x=(W1.setCells w.heap.size i vs).frozen? x)->∀ty dc sc,(Builtin.copy_ #[23,23] ty #[.slice (some ⟨w.heap.size,i+m,none⟩) (n+m-(i+m)) dc,.slice (some ⟨b,off+i,none⟩) (n-i) sc]).run Tryz.prog W=.ok (goInt (cs.drop i).length) (W.setCells w.heap.size (i+m) (cs.drop i)):=fun W hWc hWf ty dc sc=>
  run_copy_cells W _ _ ty 39 w.heap.size (i+m) (n+m-(i+m)) dc ⟨b,off+i,none⟩ (n-i) sc (cs.drop i) Tryz.underlying23 sizeR (by rw[hdl];simp only[Nat.min_def];split <;> omega)
   (fun j v hj=>by
    rw[Addr.add_lit,hWc,World.cell?_setCells_out _ _ _ _ _ (fun h _=>absurd h hbN),Nat.add_assoc]
    exact hOb _ v (hcs (i+j) v (by rwa[List.getElem?_drop]at hj)))
   (fun j hj=>by rw[hWc];exact isSome_setCells _ _ _ _ (fun t ht=>hN _ (by omega)) _ (hN _ (by omega)))
   (fun j hj=>by rw[hWf,World.frozen?_setCells];exact hNf _) (fun v hv=>h1c v (List.mem_of_mem_drop hv))
 subst hW1;have hE1:∀x,((w.alloc (.cells ROW 39)).drew).cell? x=(w.drew.alloc (.cells ROW 39)).cell? x:=fun x=>rfl
 have hE2:∀x,((w.alloc (.cells ROW 39)).drew).frozen? x=(w.drew.alloc (.cells ROW 39)).frozen? x:=fun x=>rfl
 have hF1:∀x,(((w.alloc (.cells ROW 39)).drew.setCells w.heap.size i vs).drew).cell? x=((w.drew.alloc (.cells ROW 39)).setCells w.heap.size i vs).cell? x:=fun x=>rfl
 have hF2:∀x,(((w.alloc (.cells ROW 39)).drew.setCells w.heap.size i vs).drew).frozen? x=((w.drew.alloc (.cells ROW 39)).setCells w.heap.size i vs).frozen? x:=fun x=>rfl
 have hw1:IntKind.i64.wrap ((i:Int)+(m:Int))=(i:Int)+(m:Int):=by rw[IntKind.wrap_i64];omega
 have hb1:(0:Int)<=(i:Int)+(m:Int):=by omega
 have hin:i<=n:=by omega
 have htn:((i:Int)+(m:Int)).toNat=i+m:=by omega
 have hb3:(i:Int)<=(n:Int):=by omega
 clear hkk hik hold hROW hG hRl;go_enter Tryz.func195,Tryz.ntmps195
 go_wp2_with (first
  | (at_builtin;refine Lib.wpList_append_run _ rfl _ _ _ _ rfl _ _ rfl rfl _ _ (hrz _) ?_)
  | (at_builtin;refine wpList_copy_runI _ rfl _ _ 23 23 rfl _ _ rfl rfl (hcpA _ hE1 hE2 _ _) ?_)
  | (at_builtin;refine wpList_copy_runI _ rfl _ _ 23 23 rfl _ _ rfl rfl (hcpB _ (fun _=>rfl) (fun _=>rfl) _ _ _) ?_))
 go_region_law (refine step_copy_runI rfl _ _ 23 23 rfl (.slice (some ⟨w.heap.size,i+m,none⟩) (n+m-(i+m)) (G-(i+m))) (.slice (some ⟨b,off+i,none⟩) (n-i) (c-i)) (by simp[Act.eval,Act.put]) (by simp[Act.eval,Act.put]) (hcpB _ hF1 hF2 3 (G-(i+m)) (c-i)) ?_)
 go_wp2;go_ret;exact⟨rfl,rfl⟩
theorem abz{b:Nat}{T:TypeId}: ∀(vs:List Value) (o:Nat) (w:World) (cur:Array Value),w.heap[b]? = some (.cells cur T (0,0))->o+vs.length<=cur.size->∃cur',(w.setCells b o vs).heap[b]? = some (.cells cur' T (0,0))/\cur'.size=cur.size/\(∀j,j<o->cur'[j]? = cur[j]?)/\(∀j,o<=j->j<o+vs.length->cur'[j]? = vs[j-o]?)/\∀j,o+vs.length<=j->cur'[j]? = cur[j]?
 | [],o,w,cur,h,_=>⟨cur,h,rfl,fun _ _=>rfl,fun j h1 h2=>by simp at h2;omega,fun _ _=>rfl⟩
 |v::vs,o,w,cur,h,hl=>by
  have s1:=heap_setCell_same w b o _ _ v h;simp only[List.length_cons]at hl;obtain⟨cur',h1,h2,h3,h4,h5⟩:=abz vs (o+1) _ _ s1 (by simp;omega);refine⟨cur',h1,by simpa using h2,fun j hj=>?_,fun j hj hj2=>?_,fun j hj=>?_⟩
  ·rw[h3 j (by omega)];simp[show o≠j by omega]
  ·simp only[List.length_cons]at hj2;by_cases e:j=o
   ·subst e;rw[h3 j (by omega),Nat.sub_self];simp[Array.getElem?_setIfInBounds];omega
   ·rw[h4 j (by omega) (by omega),show j-o=(j-(o+1))+1 by omega,List.getElem?_cons_succ]
  ·simp only[List.length_cons]at hj;rw[h5 j (by omega)];simp[show o≠j by omega]
theorem abg{b k:Nat}(hk:k≠b):∀(vs:List Value) (o:Nat) (w:World),(w.setCells b o vs).heap[k]? = w.heap[k]?
 | [],_,_=>rfl
 |v::vs,o,w=>by
  show((w.setCell ⟨b,o,none⟩ v).setCells b (o+1) vs).heap[k]? = _;rw[abg hk vs,heap_setCell_other w ⟨b,o,none⟩ k v hk]
theorem abk{b:Nat}: ∀(vs:List Value) (o:Nat) (w:World),(w.setCells b o vs).os=w.os/\(w.setCells b o vs).tape=w.tape/\(w.setCells b o vs).output=w.output/\(w.setCells b o vs).heap.size=w.heap.size
 | [],_,_=>⟨rfl,rfl,rfl,rfl⟩
 |v::vs,o,w=>by
  obtain⟨h1,h2,h3,h4⟩:=abk (b:=b) vs (o+1) (w.setCell ⟨b,o,none⟩ v);exact⟨h1,h2,h3,h4.trans (by simp[World.setCell])⟩
theorem aeb{cur:Array Value}{xs:List Value}{n i:Nat}{x:Value}(hn:xs.length=n)(hi:i<=n)(_:n+1<=cur.size)(h1:∀j,j<i->cur[j]? = xs[j]?)(h2:cur[i]? = some x)(h3:∀j,i<j->j<n+1->cur[j]? = xs[j-1]?):cur.toList.take (n+1)=xs.take i++x::xs.drop i:=by
 apply List.ext_getElem?;intro j;rw[List.getElem?_take,Array.getElem?_toList];by_cases hj:j<n+1
 ·rw[if_pos hj];by_cases hji:j<i
  ·rw[h1 j hji,List.getElem?_append_left (by rw[List.length_take];omega),List.getElem?_take,if_pos hji]
  ·rw[List.getElem?_append_right (by rw[List.length_take];omega),List.length_take,Nat.min_eq_left (by omega)];by_cases e:j=i
   ·subst e;rw[h2,Nat.sub_self];rfl
   ·rw[h3 j (by omega) hj,show j-i=(j-1-i)+1 by omega,List.getElem?_cons_succ,List.getElem?_drop];congr 1;omega
 ·rw[if_neg hj,eq_comm,List.getElem?_eq_none_iff];simp only[List.length_append,List.length_take,List.length_cons,List.length_drop];omega
set_option maxRecDepth 100000 in
theorem insEI(w:World)(K:Nat)(v:Value)(n:Nat)(xs:List Value)(hO:w.ownsRow K 3 1 v n xs)(x:Value)(h1x:x.oneCell'=true)(vb:Nat)(hvb:w.heap[vb]? = some (.cells #[x] 3 (0,0)))(hn:n<=1000000000)(hK:K<=w.heap.size):
  Calls Tryz.prog 196 #[v,.int .i64 (n:Int),.slice (some ⟨vb,0,none⟩) 1 1] w fun e w'=>∃v',e=.returned v'/\w'.ownsRow K 3 1 v' (n+1) (xs ++ [x])/\w.grownBy w' v.ownBlock:=by
 obtain⟨i0,hi0,hz0,hz1,hz2⟩:=info_parts ank;have hnews:∀(j:Nat) (u:Value),[x][j]? = some u->w.cell? ((⟨vb,0,none⟩:Addr).add j)=some u:=fun j u hu=>by
  match j with
  |0=>rw[Addr.add_lit,cell_of_row _ _ _ _ _ (0,0) hvb];simpa using hu
  |j+1=>simp at hu
 have HO:=hide hO;obtain⟨hxl,⟨rfl,rfl⟩|⟨g,cap,cur,rfl,hg,hh,hnc,hcm,_⟩⟩:=hO
 ·go_enter Tryz.func196,Tryz.ntmps196
  go_wp2_with (at_builtin;refine wpList_append_own _ rfl _ _ 26 rfl K 3 i0 (.int .i64 0) 1 8 Tryz.underlying26 hi0 hz0 hz1 hz2 rfl (by decide) _ _ xs rfl HO.out ⟨vb,0,none⟩ 1 1 [x] rfl rfl hnews (by simpa using h1x) (by unfold maxLen;omega) (by omega) hK ?_)
  intro v' w' h2 h3 _;have H2:=hide (And.intro h2 h3);clear h2 h3;go_wp2;go_ret;exact⟨_,rfl,H2.out.1,H2.out.2⟩
 ·have hcm':cap<=9223372036854775807:=hcm;have hnc':(n:Int)<=(cap:Int):=by omega
  clear hg hh;go_enter Tryz.func196,Tryz.ntmps196
  go_wp2_with (at_builtin;refine wpList_append_own _ rfl _ _ 26 rfl K 3 i0 (.int .i64 0) 1 8 Tryz.underlying26 hi0 hz0 hz1 hz2 rfl (by decide) _ _ xs rfl HO.out ⟨vb,0,none⟩ 1 1 [x] rfl rfl hnews (by simpa using h1x) (by unfold maxLen;omega) (by omega) hK ?_)
  all_goals (
   intro v' w' h2 h3 _;have H2:=hide (And.intro h2 h3);clear h2 h3;go_wp2;go_ret
   exact⟨_,rfl,H2.out.1,H2.out.2⟩)
theorem insI(w:World)(K:Nat)(v:Value)(n:Nat)(xs:List Value)(hO:w.ownsRow K 3 1 v n xs)(h1:∀u∈xs,u.oneCell'=true)(i:Nat)(hi:i<=n)(x:Value)(h1x:x.oneCell'=true)(vb:Nat)(hvb:w.heap[vb]? = some (.cells #[x] 3 (0,0)))(hne:v.ownBlock≠some vb)(hn:n<=1000000000)(hK:K<=w.heap.size):
  Calls Tryz.prog 196 #[v,.int .i64 (i:Int),.slice (some ⟨vb,0,none⟩) 1 1] w fun e w'=>∃v',e=.returned v'/\w'.ownsRow K 3 1 v' (n+1) (xs.take i++x::xs.drop i)/\w.grownBy w' v.ownBlock:=by
 have hxl:xs.length=n:=by have:=hO.1;omega
 by_cases hin:i=n
 ·subst hin;have:=insEI w K v i xs hO x h1x vb hvb hn hK;rwa[List.take_of_length_le (by omega),List.drop_eq_nil_of_le (by omega)]
 ·obtain⟨_,⟨rfl,rfl⟩|⟨g,cap,cur,rfl,hg,hh,hnc,hcm,hcs,htk⟩⟩:=hO
  ·omega
  ·have hgv:vb≠g:=fun e=>hne (by rw[e];rfl)
   have hxc:∀j v,xs[j]? = some v->cur[j]? = some v:=fun j v hj=>by
    have hjl:=(List.getElem?_eq_some_iff.1 hj).1;rw[<-htk,List.getElem?_take]at hj;split at hj
    ·rw[Array.getElem?_toList]at hj;exact hj
    ·cases hj
   have hcell:∀j v,xs[j]? = some v->w.cell? ⟨g,0+j,none⟩=some v:=fun j v hj=>by
    rw[Nat.zero_add,cell_of_row _ _ _ _ _ (0,0) hh];exact hxc j v hj
   have hvc:∀j v,[x][j]? = some v->w.cell? ⟨vb,0+j,none⟩=some v:=fun j v hj=>by
    match j with
    |0=>rw[cell_of_row _ _ _ _ _ (0,0) hvb];simpa using hj
    |j+1=>simp at hj
   have hx1:∀u ∈ [x],u.oneCell'=true:=by simpa using h1x
   have hcurs:cur.size=cap:=by omega
   by_cases hroom:n+1<=cap
   ·refine(insSI g 0 n cap i vb 0 1 1 xs [x] w (by omega) (by omega) hroom hcm hgv hxl rfl hcell (fun j hj=>by
     rw[cell_of_row _ _ _ _ _ (0,0) hh,Array.getElem?_eq_getElem (by omega)];rfl) (fun j hj=>frozen_of_row _ _ _ _ _ hh) hvc h1 hx1 3 3 1 cap (by unfold World.shape?;rw[hvb];rfl) (by unfold World.shape?;rw[hh,<-hcurs]) (by omega) (frozen_of_row _ _ _ _ _ hvb) (frozen_of_row _ _ _ _ _ hvb)).mono ?_
    rintro e w' ⟨rfl,rfl⟩;obtain⟨c1,k1,k2,k3,k4,k5⟩:=abz (xs.drop i) (0+(i+1)) w.drew cur hh (by rw[List.length_drop];omega);obtain⟨c2,l1,l2,l3,l4,l5⟩:=abz [x] (0+i) _ c1 k1 (by simp;omega);have hother:∀k,k≠g->((w.drew.setCells g (0+(i+1)) (xs.drop i)).setCells g (0+i) [x]).heap[k]? = w.heap[k]? :=fun k hk=>by rw[abg hk,abg hk];rfl
    obtain⟨r1,r2,r3,r4⟩:=abk (b:=g) [x] (0+i) (w.drew.setCells g (0+(i+1)) (xs.drop i));obtain⟨q1,q2,q3,q4⟩:=abk (b:=g) (xs.drop i) (0+(i+1)) w.drew;refine⟨_,rfl,⟨by simp;omega,.inr ⟨g,cap,c2,rfl,hg,l1,hroom,hcm,by omega,?_⟩⟩,⟨r1.trans q1,r2.trans q2,r3.trans q3,by rw[r4,q4];exact Nat.le_refl _,fun k _ hk=>hother k (fun e=>hk (by rw[e];rfl))⟩⟩;rw[Nat.mul_one];refine aeb hxl (by omega) (by omega) (fun j hj=>?_) ?_ (fun j hj hj2=>?_)
    ·rw[l3 j (by omega),k3 j (by omega)];obtain⟨u,hu⟩:∃u,xs[j]? = some u:=⟨_,List.getElem?_eq_getElem (by omega)⟩;rw[hu,hxc j u hu]
    ·rw[l4 i (by omega) (by simp)];simp
    ·rw[l5 j (by simp;omega),k4 j (by omega) (by rw[List.length_drop];omega),List.getElem?_drop];congr 1;omega
   ·refine(insGI g 0 n cap i vb 0 1 1 xs [x] w (by omega) (by omega) hnc (by omega) (by omega) hxl rfl hcell hvc h1 hx1).mono ?_;rintro e w' ⟨rfl,rfl⟩;obtain⟨G,hG⟩:∃G,grownCap w (n+1) cap 3=G:=⟨_,rfl⟩;have hGn:n+1<=G:=by rw[<-hG];exact grownCap_ge w _ _ _
    have hG63:G<=maxLen:=by rw[<-hG];exact grownCap_le_maxLen w (n+1) cap 3 (by unfold maxLen;omega)
    rw[hG];obtain⟨ROW,hROW⟩:∃ROW:Array Value,(xs.take i).toArray++Builtin.zeroCells (Value.cells (.int .i64 0)) (n+1-i)++Builtin.zeroCells (Value.cells (.int .i64 0)) (G-(n+1))=ROW:=⟨_,rfl⟩;have hRs:ROW.size=G:=by
     rw[<-hROW];simp[Builtin.zeroCells,Value.cells,List.length_take];omega
    have hRt:∀j,j<i->ROW[j]? = xs[j]? :=fun j hj=>by
     rw[<-hROW,Array.append_assoc,Array.getElem?_append_left (by simp[List.length_take];omega),List.getElem?_toArray,List.getElem?_take,if_pos hj]
    rw[hROW];have hnew:=heap_alloc_new w (.cells ROW 3);obtain⟨c1,k1,k2,k3,k4,k5⟩:=abz [x] i (w.alloc (.cells ROW 3)).drew ROW hnew (by simp;omega);obtain⟨c2,l1,l2,l3,l4,l5⟩:=abz (xs.drop i) (i+1) ((w.alloc (.cells ROW 3)).drew.setCells w.heap.size i [x]).drew c1 k1 (by rw[List.length_drop];omega);have hother:∀k,k<w.heap.size->((((w.alloc (.cells ROW 3)).drew.setCells w.heap.size i [x]).drew).setCells w.heap.size (i+1) (xs.drop i)).heap[k]? = w.heap[k]? :=fun k hk=>by
     rw[abg (by omega)];show((w.alloc (.cells ROW 3)).drew.setCells w.heap.size i [x]).heap[k]? = _;rw[abg (by omega)];exact(hAl w _).block k hk
    obtain⟨r1,r2,r3,r4⟩:=abk (b:=w.heap.size) (xs.drop i) (i+1) ((w.alloc (.cells ROW 3)).drew.setCells w.heap.size i [x]).drew;obtain⟨q1,q2,q3,q4⟩:=abk (b:=w.heap.size) [x] i (w.alloc (.cells ROW 3)).drew;refine⟨_,rfl,⟨by simp;omega,.inr ⟨w.heap.size,G,c2,rfl,hK,l1,hGn,hG63,by omega,?_⟩⟩,⟨r1.trans q1,r2.trans q2,r3.trans q3,?_,fun k hk _=>hother k hk⟩⟩
    ·rw[Nat.mul_one];refine aeb hxl (by omega) (by omega) (fun j hj=>?_) ?_ (fun j hj hj2=>?_)
     ·rw[l3 j (by omega),k3 j (by omega),hRt j hj]
     ·rw[l3 i (by omega),k4 i (by omega) (by simp)];simp
     ·rw[l4 j (by omega) (by rw[List.length_drop];omega),List.getElem?_drop];congr 1;omega
    ·rw[r4];show w.heap.size<=((w.alloc (.cells ROW 3)).drew.setCells w.heap.size i [x]).heap.size;rw[q4];exact(hAl w _).size
set_option maxRecDepth 100000 in
theorem insER(w:World)(K:Nat)(v:Value)(n:Nat)(xs:List Value)(hO:w.ownsRow K 39 1 v n xs)(x:Value)(h1x:x.oneCell'=true)(vb:Nat)(hvb:w.heap[vb]? = some (.cells #[x] 39 (0,0)))(hn:n<=1000000000)(hK:K<=w.heap.size):
  Calls Tryz.prog 195 #[v,.int .i64 (n:Int),.slice (some ⟨vb,0,none⟩) 1 1] w fun e w'=>∃v',e=.returned v'/\w'.ownsRow K 39 1 v' (n+1) (xs ++ [x])/\w.grownBy w' v.ownBlock:=by
 obtain⟨i0,hi0,hz0,hz1,hz2⟩:=info_parts ako;have hnews:∀(j:Nat) (u:Value),[x][j]? = some u->w.cell? ((⟨vb,0,none⟩:Addr).add j)=some u:=fun j u hu=>by
  match j with
  |0=>rw[Addr.add_lit,cell_of_row _ _ _ _ _ (0,0) hvb];simpa using hu
  |j+1=>simp at hu
 have HO:=hide hO;obtain⟨hxl,⟨rfl,rfl⟩|⟨g,cap,cur,rfl,hg,hh,hnc,hcm,_⟩⟩:=hO
 ·go_enter Tryz.func195,Tryz.ntmps195
  go_wp2_with (at_builtin;refine wpList_append_own _ rfl _ _ 23 rfl K 39 i0 (.slice none 0 0) 1 24 Tryz.underlying23 hi0 hz0 hz1 hz2 rfl (by decide) _ _ xs rfl HO.out ⟨vb,0,none⟩ 1 1 [x] rfl rfl hnews (by simpa using h1x) (by unfold maxLen;omega) (by omega) hK ?_)
  intro v' w' h2 h3 _;have H2:=hide (And.intro h2 h3);clear h2 h3;go_wp2;go_ret;exact⟨_,rfl,H2.out.1,H2.out.2⟩
 ·have hcm':cap<=9223372036854775807:=hcm;have hnc':(n:Int)<=(cap:Int):=by omega
  clear hg hh;go_enter Tryz.func195,Tryz.ntmps195
  go_wp2_with (at_builtin;refine wpList_append_own _ rfl _ _ 23 rfl K 39 i0 (.slice none 0 0) 1 24 Tryz.underlying23 hi0 hz0 hz1 hz2 rfl (by decide) _ _ xs rfl HO.out ⟨vb,0,none⟩ 1 1 [x] rfl rfl hnews (by simpa using h1x) (by unfold maxLen;omega) (by omega) hK ?_)
  all_goals (
   intro v' w' h2 h3 _;have H2:=hide (And.intro h2 h3);clear h2 h3;go_wp2;go_ret
   exact⟨_,rfl,H2.out.1,H2.out.2⟩)
theorem insR(w:World)(K:Nat)(v:Value)(n:Nat)(xs:List Value)(hO:w.ownsRow K 39 1 v n xs)(h1:∀u∈xs,u.oneCell'=true)(i:Nat)(hi:i<=n)(x:Value)(h1x:x.oneCell'=true)(vb:Nat)(hvb:w.heap[vb]? = some (.cells #[x] 39 (0,0)))(hne:v.ownBlock≠some vb)(hn:n<=1000000000)(hK:K<=w.heap.size):
  Calls Tryz.prog 195 #[v,.int .i64 (i:Int),.slice (some ⟨vb,0,none⟩) 1 1] w fun e w'=>∃v',e=.returned v'/\w'.ownsRow K 39 1 v' (n+1) (xs.take i++x::xs.drop i)/\w.grownBy w' v.ownBlock:=by
 have hxl:xs.length=n:=by have:=hO.1;omega
 by_cases hin:i=n
 ·subst hin;have:=insER w K v i xs hO x h1x vb hvb hn hK;rwa[List.take_of_length_le (by omega),List.drop_eq_nil_of_le (by omega)]
 ·obtain⟨_,⟨rfl,rfl⟩|⟨g,cap,cur,rfl,hg,hh,hnc,hcm,hcs,htk⟩⟩:=hO
  ·omega
  ·have hgv:vb≠g:=fun e=>hne (by rw[e];rfl)
   have hxc:∀j v,xs[j]? = some v->cur[j]? = some v:=fun j v hj=>by
    have hjl:=(List.getElem?_eq_some_iff.1 hj).1;rw[<-htk,List.getElem?_take]at hj;split at hj
    ·rw[Array.getElem?_toList]at hj;exact hj
    ·cases hj
   have hcell:∀j v,xs[j]? = some v->w.cell? ⟨g,0+j,none⟩=some v:=fun j v hj=>by
    rw[Nat.zero_add,cell_of_row _ _ _ _ _ (0,0) hh];exact hxc j v hj
   have hvc:∀j v,[x][j]? = some v->w.cell? ⟨vb,0+j,none⟩=some v:=fun j v hj=>by
    match j with
    |0=>rw[cell_of_row _ _ _ _ _ (0,0) hvb];simpa using hj
    |j+1=>simp at hj
   have hx1:∀u ∈ [x],u.oneCell'=true:=by simpa using h1x
   have hcurs:cur.size=cap:=by omega
   by_cases hroom:n+1<=cap
   ·refine(insSR g 0 n cap i vb 0 1 1 xs [x] w (by omega) (by omega) hroom hcm hgv hxl rfl hcell (fun j hj=>by
     rw[cell_of_row _ _ _ _ _ (0,0) hh,Array.getElem?_eq_getElem (by omega)];rfl) (fun j hj=>frozen_of_row _ _ _ _ _ hh) hvc h1 hx1 39 39 1 cap (by unfold World.shape?;rw[hvb];rfl) (by unfold World.shape?;rw[hh,<-hcurs]) (by omega) (frozen_of_row _ _ _ _ _ hvb) (frozen_of_row _ _ _ _ _ hvb)).mono ?_
    rintro e w' ⟨rfl,rfl⟩;obtain⟨c1,k1,k2,k3,k4,k5⟩:=abz (xs.drop i) (0+(i+1)) w.drew cur hh (by rw[List.length_drop];omega);obtain⟨c2,l1,l2,l3,l4,l5⟩:=abz [x] (0+i) _ c1 k1 (by simp;omega);have hother:∀k,k≠g->((w.drew.setCells g (0+(i+1)) (xs.drop i)).setCells g (0+i) [x]).heap[k]? = w.heap[k]? :=fun k hk=>by rw[abg hk,abg hk];rfl
    obtain⟨r1,r2,r3,r4⟩:=abk (b:=g) [x] (0+i) (w.drew.setCells g (0+(i+1)) (xs.drop i));obtain⟨q1,q2,q3,q4⟩:=abk (b:=g) (xs.drop i) (0+(i+1)) w.drew;refine⟨_,rfl,⟨by simp;omega,.inr ⟨g,cap,c2,rfl,hg,l1,hroom,hcm,by omega,?_⟩⟩,⟨r1.trans q1,r2.trans q2,r3.trans q3,by rw[r4,q4];exact Nat.le_refl _,fun k _ hk=>hother k (fun e=>hk (by rw[e];rfl))⟩⟩;rw[Nat.mul_one];refine aeb hxl (by omega) (by omega) (fun j hj=>?_) ?_ (fun j hj hj2=>?_)
    ·rw[l3 j (by omega),k3 j (by omega)];obtain⟨u,hu⟩:∃u,xs[j]? = some u:=⟨_,List.getElem?_eq_getElem (by omega)⟩;rw[hu,hxc j u hu]
    ·rw[l4 i (by omega) (by simp)];simp
    ·rw[l5 j (by simp;omega),k4 j (by omega) (by rw[List.length_drop];omega),List.getElem?_drop];congr 1;omega
   ·refine(insGR g 0 n cap i vb 0 1 1 xs [x] w (by omega) (by omega) hnc (by omega) (by omega) hxl rfl hcell hvc h1 hx1).mono ?_;rintro e w' ⟨rfl,rfl⟩;obtain⟨G,hG⟩:∃G,grownCap w (n+1) cap 39=G:=⟨_,rfl⟩;have hGn:n+1<=G:=by rw[<-hG];exact grownCap_ge w _ _ _
    have hG63:G<=maxLen:=by rw[<-hG];exact grownCap_le_maxLen w (n+1) cap 39 (by unfold maxLen;omega)
    rw[hG];obtain⟨ROW,hROW⟩:∃ROW:Array Value,(xs.take i).toArray++Builtin.zeroCells (Value.cells (.slice none 0 0)) (n+1-i)++Builtin.zeroCells (Value.cells (.slice none 0 0)) (G-(n+1))=ROW:=⟨_,rfl⟩;have hRs:ROW.size=G:=by
     rw[<-hROW];simp[Builtin.zeroCells,Value.cells,List.length_take];omega
    have hRt:∀j,j<i->ROW[j]? = xs[j]? :=fun j hj=>by
     rw[<-hROW,Array.append_assoc,Array.getElem?_append_left (by simp[List.length_take];omega),List.getElem?_toArray,List.getElem?_take,if_pos hj]
    rw[hROW];have hnew:=heap_alloc_new w (.cells ROW 39);obtain⟨c1,k1,k2,k3,k4,k5⟩:=abz [x] i (w.alloc (.cells ROW 39)).drew ROW hnew (by simp;omega);obtain⟨c2,l1,l2,l3,l4,l5⟩:=abz (xs.drop i) (i+1) ((w.alloc (.cells ROW 39)).drew.setCells w.heap.size i [x]).drew c1 k1 (by rw[List.length_drop];omega);have hother:∀k,k<w.heap.size->((((w.alloc (.cells ROW 39)).drew.setCells w.heap.size i [x]).drew).setCells w.heap.size (i+1) (xs.drop i)).heap[k]? = w.heap[k]? :=fun k hk=>by
     rw[abg (by omega)];show((w.alloc (.cells ROW 39)).drew.setCells w.heap.size i [x]).heap[k]? = _;rw[abg (by omega)];exact(hAl w _).block k hk
    obtain⟨r1,r2,r3,r4⟩:=abk (b:=w.heap.size) (xs.drop i) (i+1) ((w.alloc (.cells ROW 39)).drew.setCells w.heap.size i [x]).drew;obtain⟨q1,q2,q3,q4⟩:=abk (b:=w.heap.size) [x] i (w.alloc (.cells ROW 39)).drew;refine⟨_,rfl,⟨by simp;omega,.inr ⟨w.heap.size,G,c2,rfl,hK,l1,hGn,hG63,by omega,?_⟩⟩,⟨r1.trans q1,r2.trans q2,r3.trans q3,?_,fun k hk _=>hother k hk⟩⟩
    ·rw[Nat.mul_one];refine aeb hxl (by omega) (by omega) (fun j hj=>?_) ?_ (fun j hj hj2=>?_)
     ·rw[l3 j (by omega),k3 j (by omega),hRt j hj]
     ·rw[l3 i (by omega),k4 i (by omega) (by simp)];simp
     ·rw[l4 j (by omega) (by rw[List.length_drop];omega),List.getElem?_drop];congr 1;omega
    ·rw[r4];show w.heap.size<=((w.alloc (.cells ROW 39)).drew.setCells w.heap.size i [x]).heap.size;rw[q4];exact(hAl w _).size
theorem cnan(w:World)(x:Int):Calls Tryz.prog 124 #[.int .i64 x] w fun e w'=>e=.returned (.bool false)/\w'=w:=by
 have h:(x != x)=false:=by simp
 go_enter Tryz.func124,Tryz.ntmps124
 go_wp2;go_ret;exact⟨by simp,rfl⟩
theorem snan(w:World)(x:Int):Calls Tryz.prog 200 #[.int .i64 x] w fun e w'=>e=.returned (.bool false)/\w'=w:=by
 have h:(x != x)=false:=by simp
 go_enter Tryz.func200,Tryz.ntmps200
 go_wp2;go_ret;exact⟨by simp,rfl⟩
theorem axw(w:World)(x y:Int):Calls Tryz.prog 199 #[.int .i64 x,.int .i64 y] w fun e w'=>e=.returned (.bool (decide (x<y)))/\w'=w:=by
 have K:=hide (cnan w x);go_enter Tryz.func199,Tryz.ntmps199
 go_wp2_with fail
 refine K.out.mono ?_;rintro e w1 ⟨rfl,h1⟩;obtain rfl:w=w1:=h1.symm;clear K h1;go_wp2;go_ret;exact⟨rfl,rfl⟩
set_option maxRecDepth 400000 in
theorem apj(w:World)(v:Value)(P:List Nat)(h:IsP w v P)(hs:P.Pairwise (·<·))(c:Nat)(hn:P.length<=1000000000):
  Calls Tryz.prog 192 #[v,.int .i64 (c:Int)] w fun e w'=>∃(i:Nat) (f:Bool),e=.returned (.tuple #[.int .i64 (i:Int),.bool f])/\i<=P.length/\(∀k p,k<i->P[k]? = some p->p<c)/\(∀k p,i<=k->P[k]? = some p->c<=p)/\Below w.heap.size w w':=by
 obtain⟨ao,cap,rfl,_⟩:=h.parts;have H:=hide h;have HS:=hide hs;generalize hnn:P.length=n at *
 have HN:=hide hnn;clear h hs hnn;go_enter Tryz.func192,Tryz.ntmps192
 go_wp2_with fail
 go_loopw [7,8,9] (fun iv jv _ wr=>∃(i j:Nat),iv=.int .i64 i/\jv=.int .i64 j/\i<=j/\j<=n/\Below w.heap.size w wr/\(∀k p,k<i->P[k]? = some p->p<c)/\(∀k p,j<=k->P[k]? = some p->c<=p)) (fun iv jv _ _=>(intOf jv).toNat-(intOf iv).toNat)
 case atStart=>exact⟨0,n,rfl,rfl,Nat.zero_le _,Nat.le_refl _,Below.refl _ _,fun k p hk=>by omega,fun k p hk hp=>by have:=(List.getElem?_eq_some_iff.1 hp).1;have:=HN.out;omega⟩
 case round=>
  obtain⟨i,j,rfl,rfl,hij,hjn,hbw,hlo,hhi⟩:=hrel;have HW:=hide hbw;have HLO:=hide hlo;have HHI:=hide hhi;by_cases hlt:i<j
  ·have hlt':(i:Int)<(j:Int):=by omega
   obtain⟨m,hm⟩:∃m,(i+j)/2=m:=⟨_,rfl⟩;obtain⟨p,hp⟩:∃p,P[m]? = some p:=⟨_,List.getElem?_eq_getElem (by have:=HN.out;omega)⟩;obtain⟨b,off,rfl,hbl,x0⟩:=(H.out.below hbw).cell hp;clear hbw hlo hhi;go_upto_region 5 with fail
   rw[show((i:Int)+(j:Int))/2=(m:Int) by omega];have hmn:(m:Int)<(n:Int):=by omega
   have KL:=hide (axw wr (p:Int) (c:Int));have HP:=hide hp;have HM:=hide hm;clear hp hm;go_wp2_with fail
   refine KL.out.mono ?_;rintro e w1 ⟨rfl,h1⟩;obtain rfl:wr=w1:=h1.symm;clear h1 KL;have hsort:∀(k k' p p':Nat),k<=k'->P[k]? = some p->P[k']? = some p'->p<=p':=fun k k' p p' hkk h1 h2=>by
    by_cases e:k=k'
    ·subst e;rw[h1]at h2;exact Nat.le_of_eq (Option.some.inj h2)
    ·obtain⟨l1,e1⟩:=List.getElem?_eq_some_iff.1 h1;obtain⟨l2,e2⟩:=List.getElem?_eq_some_iff.1 h2;have:=List.pairwise_iff_getElem.1 HS.out k k' l1 l2 (by omega);omega
   have HSR:=hide hsort;clear hsort;by_cases hpc:p<c
   ·have hd:decide ((p:Int)<(c:Int))=true:=by simp;omega
    rw[hd];go_wp2;go_roundw
    case rel=>
     refine⟨m+1,j,by go_num,rfl,by have:=HM.out;omega,hjn,HW.out,fun k q hk hq=>?_,HHI.out⟩;have:=HSR.out k m q p (by omega) hq HP.out;omega
    case measure=>simp[intOf];have:=HM.out;omega
   ·have hd:decide ((p:Int)<(c:Int))=false:=by simp;omega
    rw[hd];go_wp2;go_roundw
    case rel=>
     refine⟨i,m,rfl,rfl,by have:=HM.out;omega,by have:=HM.out;omega,HW.out,HLO.out,fun k q hk hq=>?_⟩;have:=HSR.out m k p q hk HP.out hq;omega
    case measure=>simp[intOf];have:=HM.out;omega
  ·have hlt':decide ((i:Int)<(j:Int))=false:=by simp;omega
   obtain rfl:i=j:=by omega
   by_cases hin:i<n
   ·have hin':(i:Int)<(n:Int):=by omega
    obtain⟨p,hp⟩:∃p,P[i]? = some p:=⟨_,List.getElem?_eq_getElem (by have:=HN.out;omega)⟩;obtain⟨b,off,rfl,hbl,x0⟩:=(H.out.below hbw).cell hp;clear hbw hlo hhi hp;by_cases hpc:p=c
    ·have hd:((p:Int)==(c:Int))=true:=by simp;omega
     clear hpc;go_wp2;refine bodyPost_ret (v:=.tuple #[.int .i64 (i:Int),.bool true]) (by simp[results,Tryz.results192,go_sem];try rfl) rfl ⟨i,true,rfl,hjn,HLO.out,HHI.out,HW.out⟩
    ·have hd:((p:Int)==(c:Int))=false:=by simp;omega
     have KN:=hide (snan wr (p:Int));clear hpc;go_wp2_with fail
     refine KN.out.mono ?_;rintro e w1 ⟨rfl,h1⟩;obtain rfl:wr=w1:=h1.symm;clear h1 KN;go_wp2;refine bodyPost_ret (v:=.tuple #[.int .i64 (i:Int),.bool false]) (by simp[results,Tryz.results192,go_sem];try rfl) rfl ⟨i,false,rfl,hjn,HLO.out,HHI.out,HW.out⟩
   ·have hin':decide ((i:Int)<(n:Int))=false:=by simp;omega
    clear hbw hlo hhi;go_wp2;refine bodyPost_ret (v:=.tuple #[.int .i64 (i:Int),.bool false]) (by simp[results,Tryz.results192,go_sem];try rfl) rfl ⟨i,false,rfl,hjn,HLO.out,HHI.out,HW.out⟩
theorem Tch.cell{g:Nat}{w w':World}(h:Tch g w w'){p:Addr}(hl:p.block<w.heap.size)(hn:p.block≠g):w'.cell? p=w.cell? p:=World.cell?_of_block (h.other _ hl hn)
theorem Tch.blk{g k:Nat}{w w':World}(h:Tch g w w'){o:Obj}(hk:w.heap[k]? = some o)(hn:k≠g):w'.heap[k]? = some o:=(h.other k (aaa hk) hn).trans hk
theorem aav{w:World}{g k:Nat}{c d:Array Value}{S T:TypeId}(h:w.heap[g]? = some (.cells c S (0,0)))(h':w.heap[k]? = some (.cells d T (0,0)))(hT:S≠T):k≠g:=fun e=>by
 subst e;rw[h]at h';injection h' with h';injection h' with _ h';exact hT h'
theorem Ow.tch{B g:Nat}{w w':World}{v:Value}{zs:List Int}{c:Array Value}{T:TypeId}(h:Ow B w v zs)(ht:Tch g w w')(hg:w.heap[g]? = some (.cells c T (0,0)))(hT:T≠86):Ow B w' v zs:=by
 obtain⟨ao,cap,rfl,h1,h2,h3,h4⟩:=h;refine⟨ao,cap,rfl,h1,h2,h3,?_⟩;rcases h4 with h4|⟨k,off,cur,rfl,hB,hh,h5,h6⟩
 ·exact .inl h4
 ·exact .inr ⟨k,off,cur,rfl,hB,ht.blk hh (aav hg hh hT),h5,h6⟩
theorem af5{B T g:Nat}{w w':World}{ng:Bool}{ao:Option Addr}{cap:Nat}{rs:List Int}{z:Int}{c:Array Value}{S:TypeId}(h:Dm.WFr B T w ng ao cap rs z)(ht:Tch g w w')(hg:w.heap[g]? = some (.cells c S (0,0)))(hT:S≠86):Dm.WFr B T w' ng ao cap rs z:=
 ⟨⟨h.fr.ow.tch ht hg hT,h.fr.canon,h.fr.val,h.fr.lies⟩,h.sgn⟩
theorem FrW.tch{K g:Nat}{w w':World}{z:Int}{L:Nat}{v:Value}{c:Array Value}{S:TypeId}(h:FrW K z L v w)(ht:Tch g w w')(hg:w.heap[g]? = some (.cells c S (0,0)))(hT:S≠86):FrW K z L v w':=by
 obtain⟨ng,ao,cap,rs,B,T,e,h1,h2,h3,h4⟩:=h;exact⟨ng,ao,cap,rs,B,T,e,af5 h1 ht hg hT,h2,Nat.le_trans h3 ht.size,h4⟩
theorem ORow.tch{K g:Nat}{w w':World}{v:Value}{zs:List Int}{L:Nat}{c:Array Value}{S:TypeId}(h:ORow K w v zs L)(ht:Tch g w w')(hg:w.heap[g]? = some (.cells c S (0,0)))(hT:S≠86)(hW:S≠45):ORow K w' v zs L:=by
 obtain⟨bv,e,hK,⟨es,B,T,h1,h2,h3,h4,h5⟩,hl⟩:=h;refine⟨bv,e,hK,⟨es,B,T,h1,ht.blk h2 (aav hg h2 hW),h3,fun k e z a b c'=>?_,h5⟩,hl⟩;obtain⟨g1,g2,g3,g4,g5⟩:=h4 k e z a b c';exact⟨af5 g1 ht hg hT,g2,g3,g4,Nat.le_trans g5 ht.size⟩
theorem aeg{w w':World}{K:Nat}{E:TypeId}{v:Value}{n:Nat}{xs:List Value}(h:w.ownsRow K E 1 v n xs)(hk:∀g c,v.ownBlock=some g->w.heap[g]? = some (.cells c E (0,0))->w'.heap[g]? = w.heap[g]?):w'.ownsRow K E 1 v n xs:=by
 obtain⟨h1,h2|⟨g,cap,cur,rfl,hg,hh,h3⟩⟩:=h
 ·exact⟨h1,.inl h2⟩
 ·exact⟨h1,.inr ⟨g,cap,cur,rfl,hg,(hk g cur rfl hh).trans hh,h3⟩⟩
theorem ab0{w w':World}{K:Nat}{E:TypeId}{v:Value}{n:Nat}{xs:List Value}(h:w.ownsRow K E 1 v n xs)(hb:Below w.heap.size w w'):w'.ownsRow K E 1 v n xs:=aeg h fun g _ _ hh=>hb.block g (aaa hh)
def OwM(K:Nat)(w:World)(rv:Value)(rows:List (List Int))(L:Nat):Prop:=∃vs:List Value,w.ownsRow K 39 1 rv rows.length vs/\∀(i:Nat) (u:Value) (z:List Int),vs[i]? = some u->rows[i]? = some z->ORow K w u z L
def OwP(K:Nat)(w:World)(pv:Value)(P:List Nat):Prop:=w.ownsRow K 3 1 pv P.length (P.map (fun p:Nat=>Value.int .i64 (p:Int)))
theorem OwM.below{K:Nat}{w w':World}{rv:Value}{rows:List (List Int)}{L:Nat}(h:OwM K w rv rows L)(hb:Below w.heap.size w w'):OwM K w' rv rows L:=by
 obtain⟨vs,h1,h2⟩:=h;exact⟨vs,ab0 h1 hb,fun i u z hu hz=>(h2 i u z hu hz).below hb⟩
theorem OwP.below{K:Nat}{w w':World}{pv:Value}{P:List Nat}(h:OwP K w pv P)(hb:Below w.heap.size w w'):OwP K w' pv P:=ab0 h hb
theorem OwM.is{K:Nat}{w:World}{rv:Value}{rows:List (List Int)}{L:Nat}(h:OwM K w rv rows L):IsM w rv rows L:=by
 obtain⟨vs,h1,h2⟩:=h;exact⟨vs,Ce.own h1,fun i u z hu hz=>(h2 i u z hu hz).is⟩
theorem OwP.is{K:Nat}{w:World}{pv:Value}{P:List Nat}(h:OwP K w pv P):IsP w pv P:=Ce.own h
def BasO(K:Nat)(w:World)(q:Nat)(P:List Nat)(rows:List (List Int))(lead:Int)(L:Nat):Prop:=∃rv pv ng la lm lc,w.heap[q]? = some (.cells #[rv,pv,.bool ng,.slice la lm lc] 187 (0,0))/\OwM K w rv rows L/\OwP K w pv P/\FrW K lead L (.agg #[.bool ng,.slice la lm lc]) w/\K<=q/\(P = []->rv.ownBlock=none)
theorem BasO.bas{K:Nat}{w:World}{q:Nat}{P:List Nat}{rows:List (List Int)}{lead:Int}{L:Nat}(h:BasO K w q P rows lead L):Bas w q P rows lead L:=by
 obtain⟨rv,pv,ng,la,lm,lc,h1,h2,h3,h4,_⟩:=h;exact⟨rv,pv,ng,la,lm,lc,h1,h2.is,h3.is,h4.is⟩
theorem BasO.below{K:Nat}{w w':World}{q:Nat}{P:List Nat}{rows:List (List Int)}{lead:Int}{L:Nat}(h:BasO K w q P rows lead L)(hb:Below w.heap.size w w'):BasO K w' q P rows lead L:=by
 obtain⟨rv,pv,ng,la,lm,lc,h1,h2,h3,h4,h5⟩:=h;exact⟨rv,pv,ng,la,lm,lc,(hb.block _ (aaa h1)).trans h1,h2.below hb,h3.below hb,Mono.of4 (FrW.mono4 _ _ _) _ _ _ hb h4,h5⟩
theorem OwM.put{K:Nat}{w:World}{g cap:Nat}{rows:List (List Int)}{L:Nat}(h:OwM K w (.slice (some ⟨g,0,none⟩) rows.length cap) rows L){i:Nat}(hi:i<rows.length){u:Value}{z:List Int}(hu:ORow K w u z L):
  OwM K (w.setCell ⟨g,i,none⟩ u) (.slice (some ⟨g,0,none⟩) rows.length cap) (rows.set i z) L/\Tch g w (w.setCell ⟨g,i,none⟩ u)/\K<=g/\∃c,w.heap[g]? = some (.cells c 39 (0,0)):=by
 obtain⟨vs,⟨h1,⟨h2,_⟩|⟨g',cap',cur,hv,hg,hh,h3,h4,h5,h6⟩⟩,hz⟩:=h
 ·cases h2
 ·simp only[Value.slice.injEq,Option.some.injEq,Addr.mk.injEq,and_true,true_and]at hv;obtain⟨rfl,rfl⟩:=hv;have ht:Tch g w (w.setCell ⟨g,i,none⟩ u):=⟨rfl,rfl,rfl,by simp[World.setCell],fun k _ hn=>heap_setCell_other w ⟨g,i,none⟩ k u hn⟩;have hd1:39≠86:=by decide
  have hd2:39≠45:=by decide
  refine⟨⟨vs.set i u,⟨by simpa using h1,.inr ⟨g,cap,cur.setIfInBounds i u,by simp,hg,heap_setCell_same w g i _ _ u hh,by simpa using h3,h4,by simpa using h5,?_⟩⟩,fun j v y hv hy=>?_⟩,ht,hg,⟨cur,hh⟩⟩
  ·rw[List.length_set,Nat.mul_one]at *
   rw[Array.toList_setIfInBounds,List.take_set,h6]
  ·by_cases e:i=j
   ·subst e;rw[List.getElem?_set_self (by have:=(List.getElem?_eq_some_iff.1 hv).1;simpa using this)]at hv;rw[List.getElem?_set_self hi]at hy;obtain rfl:=Option.some.inj hv;obtain rfl:=Option.some.inj hy;exact hu.tch ht hh hd1 hd2
   ·rw[List.getElem?_set_ne e]at hv hy;exact(hz j v y hv hy).tch ht hh hd1 hd2
structure Plc (P:List Nat) (c i:Nat):Prop where
 le:i<=P.length
 lo:∀k p,k<i->P[k]? = some p->p<c
 hi:∀k p,i<=k->P[k]? = some p->c<=p
theorem Plc.one{P:List Nat}{c i j:Nat}(h:Plc P c i)(h':Plc P c j):i=j:=by
 have key:∀ {i j:Nat},Plc P c i->Plc P c j->¬i<j:=fun {i j} h h' hlt=>by
  obtain⟨p,hp⟩:∃p,P[i]? = some p:=⟨_,List.getElem?_eq_getElem (by have:=h'.le;omega)⟩;have:=h'.lo i p hlt hp;have:=h.hi i p (Nat.le_refl _) hp;omega
 have:=key h h';have:=key h' h;omega
theorem a3b:Has Tryz.prog 192:=by unfold Has;kernel_rfl
theorem ave:Has Tryz.prog 193:=by unfold Has;kernel_rfl
def negs(o:Bool)(ls:List Int):List Int:=if o then ls.map (fun z=>-z)else ls
theorem ai6(o:Bool)(ls:List Int):(negs o ls).length=ls.length:=by cases o <;> simp[negs]
theorem axy(ls:List Int):gRow (fun k=>-(ls.getD k 0)) ls.length=negs true ls:=by
 apply List.ext_getElem?;intro k;by_cases hk:k<ls.length
 ·rw[abd hk,negs,if_pos rfl,List.getElem?_map,List.getElem?_eq_getElem hk,List.getD_eq_getElem?_getD,List.getElem?_eq_getElem hk];rfl
 ·rw[List.getElem?_eq_none (by rw[aao];omega),List.getElem?_eq_none (by rw[ai6];omega)]
structure TkS (K s q c:Nat) (w:World) (vl rv pv:Value) (lng:Bool) (la:Option Addr) (lm lc:Nat) (P:List Nat) (rows:List (List Int)) (lead:Int) (ls:List Int) (L:Nat) (wr:World):Prop where
 b3:wr.heap[s]? = some (.cells #[.pointer (some ⟨q,0,none⟩)] 199 (0,0))
 b4:wr.heap[s+1]? = some (.cells #[vl] 39 (0,0))
 b5:wr.heap[s+2]? = some (.cells #[.int .i64 (c:Int)] 3 (0,0))
 bq:wr.heap[q]? = some (.cells #[rv,pv,.bool lng,.slice la lm lc] 187 (0,0))
 om:OwM K wr rv rows L
 op:OwP K wr pv P
 ld:FrW K lead L (.agg #[.bool lng,.slice la lm lc]) wr
 lf:ORow K wr vl ls L
 bk:Below K w wr
theorem TkS.below{K s q c:Nat}{w:World}{vl rv pv:Value}{lng:Bool}{la:Option Addr}{lm lc:Nat}{P:List Nat}{rows:List (List Int)}{lead:Int}{ls:List Int}{L:Nat}{wr w':World}(h:TkS K s q c w vl rv pv lng la lm lc P rows lead ls L wr)(hK:K<=wr.heap.size)(hb:Below wr.heap.size wr w'):TkS K s q c w vl rv pv lng la lm lc P rows lead ls L w':=
 ⟨(hb.block _ (aaa h.b3)).trans h.b3,(hb.block _ (aaa h.b4)).trans h.b4,(hb.block _ (aaa h.b5)).trans h.b5,(hb.block _ (aaa h.bq)).trans h.bq,h.om.below hb,h.op.below hb,Mono.of4 (FrW.mono4 _ _ _) _ _ _ hb h.ld,h.lf.below hb,h.bk.trans (hb.mono hK)⟩
theorem ah9{w:World}{K:Nat}{E:TypeId}{v:Value}{n:Nat}{xs:List Value}(h:w.ownsRow K E 1 v n xs):∀k,v.ownBlock=some k->k<w.heap.size/\K<=k:=by
 obtain⟨_,⟨rfl,_⟩|⟨g,cap,cur,rfl,hg,hh,_⟩⟩:=h
 ·intro k hk;simp[Value.ownBlock]at hk
 ·intro k hk;simp only[Value.ownBlock,Option.some.injEq]at hk;subst hk;exact⟨aaa hh,hg⟩
theorem OwM.tch{K g:Nat}{w w':World}{rv:Value}{rows:List (List Int)}{L:Nat}{c:Array Value}{S:TypeId}(h:OwM K w rv rows L)(ht:Tch g w w')(hg:w.heap[g]? = some (.cells c S (0,0)))(hT:S≠86)(hW:S≠45)(hne:rv.ownBlock≠some g):OwM K w' rv rows L:=by
 obtain⟨vs,h1,h2⟩:=h;exact⟨vs,aeg h1 fun k _ hk hh=>ht.other k (aaa hh) (fun e=>hne (by rw[hk,e])),fun i u z hu hz=>(h2 i u z hu hz).tch ht hg hT hW⟩
theorem OwP.tch{K g:Nat}{w w':World}{pv:Value}{P:List Nat}(h:OwP K w pv P)(ht:Tch g w w')(hne:pv.ownBlock≠some g):OwP K w' pv P:=aeg h fun k _ hk hh=>ht.other k (aaa hh) (fun e=>hne (by rw[hk,e]))
theorem OwP.ne{K g:Nat}{w:World}{pv:Value}{P:List Nat}{c:Array Value}(h:OwP K w pv P)(hg:w.heap[g]? = some (.cells c 39 (0,0))):pv.ownBlock≠some g:=by
 obtain⟨_,⟨rfl,_⟩|⟨k,cap,cur,rfl,_,hh,_⟩⟩:=h
 ·simp[Value.ownBlock]
 ·intro e;simp only[Value.ownBlock,Option.some.injEq]at e;subst e;exact aav hg hh (by decide) rfl
theorem axz{α:Type}(f:α->α){rows:List α}{k:Nat}{r:α}(h:rows[k]? = some r):((rows.take k).map f++rows.drop k).set k (f r)=(rows.take (k+1)).map f++rows.drop (k+1):=by
 have hk:=(List.getElem?_eq_some_iff.1 h).1;have hd:rows.drop k=r::rows.drop (k+1):=by
  rw[List.drop_eq_getElem_cons hk,(List.getElem?_eq_some_iff.1 h).2]
 rw[List.set_append_right _ _ (by simp;omega),hd,List.take_add_one,h];simp[List.length_take,Nat.min_eq_left (Nat.le_of_lt hk)]
def NewI(W0:Nat)(x:Value):Says:=fun v w=>∃vb,W0<=vb/\v=.slice (some ⟨vb,0,none⟩) 1 1/\w.heap[vb]? = some (.cells #[x] 3 (0,0))
theorem NewI.mono(W0:Nat)(x:Value):Mono (NewI W0 x):=fun _ _ _ hb ⟨vb,h1,h2,h3⟩=>⟨vb,h1,h2,(hb.block _ (aaa h3)).trans h3⟩
theorem NewI.tch{g W0:Nat}{x v:Value}{w w':World}(hg:g<W0)(ht:Tch g w w')(h:NewI W0 x v w):NewI W0 x v w':=by
 obtain⟨vb,h1,h2,h3⟩:=h;exact⟨vb,h1,h2,ht.blk h3 (by omega)⟩
def OwnI(K n:Nat)(xs:List Value)(j:Nat)(o:Obj):Says:=fun v w=>w.ownsRow K 3 1 v n xs/\w.heap[j]? = some o
theorem OwnI.mono(K n:Nat)(xs:List Value)(j:Nat)(o:Obj):Mono (OwnI K n xs j o):=fun _ _ _ hb h=>⟨ab0 h.1 hb,(hb.block _ (aaa h.2)).trans h.2⟩
theorem hasInsI:Has Tryz.prog 196:=by unfold Has;kernel_rfl
theorem a02{dst:Option Tmp}{ty:TypeId}{pos:String}{after:Array Edge}{guard:Option (Nat×Bool)}{a:Act}{w:World}{ats:Array TypeId}{i j k K n i0 W0 g:Nat}{v x:Value}{xs:List Value}(h1:a.eval (.tmp i)=v)(h2:a.eval (.tmp j)=.int .i64 (i0:Int))(h3:NewI W0 x (a.eval (.tmp k)) w)(hg:∀k,v.ownBlock=some k->k=g)(hO:w.ownsRow K 3 1 v n xs)(h1c:∀u∈xs,u.oneCell'=true)(hi:i0<=n)(h1x:x.oneCell'=true)(hn:n<=1000000000)(hK:K<=w.heap.size)(hgw:g<W0){jb:Nat}{ob:Obj}(hjb:w.heap[jb]? = some ob)(hjn:v.ownBlock≠some jb):
  Does Tryz.prog {dst,op:=.call {callee:=.value (.func 196),args:=#[.tmp i,.tmp j,.tmp k],argTypes:=ats},type:=ty,pos,after,guard} a.eval w fun v' w'=>Tch g w w'/\OwnI K (n+1) (xs.take i0++x::xs.drop i0) jb ob v' w':=by
 obtain⟨vb,hvb,e3,hh⟩:=h3;exact aah hasInsI #[v,.int .i64 (i0:Int),.slice (some ⟨vb,0,none⟩) 1 1] (by simp[h1,h2,e3]) ((insI w K v n xs hO h1c i0 hi x h1x vb hh (fun e=>by have:=hg vb e;omega) hn hK).mono fun e w' ⟨v',he,ho,hgr⟩=>⟨_,he,.of_grown hgr hg,ho,(hgr.block jb (aaa hjb) (fun e=>hjn e.symm)).trans hjb⟩)
def NewR(W0:Nat)(x:Value):Says:=fun v w=>∃vb,W0<=vb/\v=.slice (some ⟨vb,0,none⟩) 1 1/\w.heap[vb]? = some (.cells #[x] 39 (0,0))
theorem NewR.mono(W0:Nat)(x:Value):Mono (NewR W0 x):=fun _ _ _ hb ⟨vb,h1,h2,h3⟩=>⟨vb,h1,h2,(hb.block _ (aaa h3)).trans h3⟩
theorem NewR.tch{g W0:Nat}{x v:Value}{w w':World}(hg:g<W0)(ht:Tch g w w')(h:NewR W0 x v w):NewR W0 x v w':=by
 obtain⟨vb,h1,h2,h3⟩:=h;exact⟨vb,h1,h2,ht.blk h3 (by omega)⟩
def OwnR(K n:Nat)(xs:List Value)(j:Nat)(o:Obj):Says:=fun v w=>w.ownsRow K 39 1 v n xs/\w.heap[j]? = some o
theorem OwnR.mono(K n:Nat)(xs:List Value)(j:Nat)(o:Obj):Mono (OwnR K n xs j o):=fun _ _ _ hb h=>⟨ab0 h.1 hb,(hb.block _ (aaa h.2)).trans h.2⟩
theorem hasInsR:Has Tryz.prog 195:=by unfold Has;kernel_rfl
theorem a03{dst:Option Tmp}{ty:TypeId}{pos:String}{after:Array Edge}{guard:Option (Nat×Bool)}{a:Act}{w:World}{ats:Array TypeId}{i j k K n i0 W0 g:Nat}{v x:Value}{xs:List Value}(h1:a.eval (.tmp i)=v)(h2:a.eval (.tmp j)=.int .i64 (i0:Int))(h3:NewR W0 x (a.eval (.tmp k)) w)(hg:∀k,v.ownBlock=some k->k=g)(hO:w.ownsRow K 39 1 v n xs)(h1c:∀u∈xs,u.oneCell'=true)(hi:i0<=n)(h1x:x.oneCell'=true)(hn:n<=1000000000)(hK:K<=w.heap.size)(hgw:g<W0){jb:Nat}{ob:Obj}(hjb:w.heap[jb]? = some ob)(hjn:v.ownBlock≠some jb):
  Does Tryz.prog {dst,op:=.call {callee:=.value (.func 195),args:=#[.tmp i,.tmp j,.tmp k],argTypes:=ats},type:=ty,pos,after,guard} a.eval w fun v' w'=>Tch g w w'/\OwnR K (n+1) (xs.take i0++x::xs.drop i0) jb ob v' w':=by
 obtain⟨vb,hvb,e3,hh⟩:=h3;exact aah hasInsR #[v,.int .i64 (i0:Int),.slice (some ⟨vb,0,none⟩) 1 1] (by simp[h1,h2,e3]) ((insR w K v n xs hO h1c i0 hi x h1x vb hh (fun e=>by have:=hg vb e;omega) hn hK).mono fun e w' ⟨v',he,ho,hgr⟩=>⟨_,he,.of_grown hgr hg,ho,(hgr.block jb (aaa hjb) (fun e=>hjn e.symm)).trans hjb⟩)
theorem a04{dst:Option Tmp}{ty:TypeId}{pos:String}{after:Array Edge}{guard:Option (Nat×Bool)}{a:Act}{w:World}{i W0:Nat}{ao:Option Addr}{n c:Nat}(h:a.eval (.tmp i)=.slice ao n c)(hW:W0<=w.heap.size):
  Does Tryz.prog {dst,op:=.buildSlice 23 1 #[(0,.tmp i)],type:=ty,pos,after,guard} a.eval w fun v w'=>Below w.heap.size w w'/\NewR W0 (.slice ao n c) v w':=by
 have hb:=hAl w (.cells #[.slice ao n c] 39);refine ado (v:=.slice (some ⟨w.heap.size,0,none⟩) 1 1) (w':=w.alloc (.cells #[.slice ao n c] 39)) ?_ ⟨hb,_,hW,rfl,heap_alloc_new _ _⟩;simp only[List.map_toArray,List.map_cons,List.map_nil,h];go_simp
theorem a05{dst:Option Tmp}{ty:TypeId}{pos:String}{after:Array Edge}{guard:Option (Nat×Bool)}{a:Act}{w:World}{i W0:Nat}{z:Int}(h:a.eval (.tmp i)=.int .i64 z)(hW:W0<=w.heap.size):
  Does Tryz.prog {dst,op:=.buildSlice 26 1 #[(0,.tmp i)],type:=ty,pos,after,guard} a.eval w fun v w'=>Below w.heap.size w w'/\NewI W0 (.int .i64 z) v w':=by
 have hb:=hAl w (.cells #[.int .i64 z] 3);refine ado (v:=.slice (some ⟨w.heap.size,0,none⟩) 1 1) (w':=w.alloc (.cells #[.int .i64 z] 3)) ?_ ⟨hb,_,hW,rfl,heap_alloc_new _ _⟩;simp only[List.map_toArray,List.map_cons,List.map_nil,h];go_simp
def tkR(ls:List Int)(c:Nat)(lead:Int)(n:Nat)(r:List Int):List Int:=gRow (fun k=>(ls.getD c 0*r.getD k 0-r.getD c 0*ls.getD k 0)/lead) n
def OrS(K:Nat)(zs:List Int)(M:Nat):Says:=fun v w=>ORow K w v zs M
theorem OrS.mono(K:Nat)(zs:List Int)(M:Nat):Mono (OrS K zs M):=fun _ _ _ hb h=>ORow.below h hb
theorem avf:Has Tryz.prog 194:=by unfold Has;kernel_rfl
theorem avg:Has Tryz.prog 178:=by unfold Has;kernel_rfl
theorem a3c{dst:Option Tmp}{ty:TypeId}{pos:String}{after:Array Edge}{guard:Option (Nat×Bool)}{a:Act}{w:World}{f:Fn}{xs:Array Operand}{cap:Array Value}(hx:xs.map a.eval=cap):
  Does Tryz.prog {dst,op:=.makeFunc f #[] xs,type:=ty,pos,after,guard} a.eval w fun v w'=>Below w.heap.size w w'/\Eqs (.func f #[] cap) v w':=by
 have e:(execOp a.eval {dst,op:=.makeFunc f #[] xs,type:=ty,pos,after,guard}).run Tryz.prog w=.ok (.value (.func f #[] cap)) w:=by
  simp only[execOp,hx,List.map_toArray,List.map_nil,Sem.run_bind];rfl
 refine⟨?_⟩;unfold Turns;rw[e];exact⟨Below.refl _ _,rfl⟩
theorem ax0{dst:Option Tmp}{ty:TypeId}{pos:String}{after:Array Edge}{guard:Option (Nat×Bool)}{a:Act}{w:World}{ats:Array TypeId}{i j K L M n:Nat}{v:Value}{f:FuncId}{cap:Array Value}{zs:List Int}{g:Nat->Int}(h1:a.eval (.tmp i)=v)(h2:a.eval (.tmp j)=.func (.func f) #[] cap)(h:IsRow w v zs L)(hz:zs.length=n)(hl:n<=1000000000)(hf:Has Tryz.prog f)(hT:Turn w f cap zs L M g)(hK:K<=w.heap.size):
  Does Tryz.prog {dst,op:=.call {callee:=.value (.func 178),args:=#[.tmp i,.tmp j],argTypes:=ats},type:=ty,pos,after,guard} a.eval w fun v w'=>Below w.heap.size w w'/\OrS K (gRow g n) M v w':=by
 subst hz;exact aah avg #[v,.func (.func f) #[] cap] (by simp[h1,h2]) ((ad8 w v zs L M h hl f hf cap g hT).mono fun e w' ⟨r,he,ho,hb⟩=>⟨_,he,hb,ho.low hK⟩)
theorem OwM.blk{K:Nat}{w:World}{ma:Option Addr}{m mc:Nat}{rows:List (List Int)}{L:Nat}(h:OwM K w (.slice ma m mc) rows L){i:Nat}{r:List Int}(hr:rows[i]? = some r):∃g c u,ma=some ⟨g,0,none⟩/\m=rows.length/\w.heap[g]? = some (.cells c 39 (0,0))/\c[i]? = some u/\ORow K w u r L:=by
 have hi:=(List.getElem?_eq_some_iff.1 hr).1;obtain⟨vs,⟨h1,⟨h2,h3⟩|⟨g,cap,cur,hv,hg,hh,h3,h4,h5,h6⟩⟩,hz⟩:=h
 ·omega
 ·simp only[Value.slice.injEq]at hv;obtain⟨rfl,rfl,rfl⟩:=hv;obtain⟨u,hu⟩:∃u,vs[i]? = some u:=⟨_,List.getElem?_eq_getElem (by omega)⟩;refine⟨g,cur,u,rfl,rfl,hh,?_,hz i u r hu hr⟩;rw[<-h6,List.getElem?_take]at hu;split at hu
  ·rwa[Array.getElem?_toList]at hu
  ·cases hu
theorem anl{w:World}{K K':Nat}{E:TypeId}{v:Value}{n:Nat}{xs:List Value}(h:w.ownsRow K' E 1 v n xs)(hk:K<=K'):w.ownsRow K E 1 v n xs:=by
 obtain⟨h1,h2|⟨g,cap,cur,hv,hg,h3⟩⟩:=h
 ·exact⟨h1,Or.inl h2⟩
 ·exact⟨h1,Or.inr ⟨g,cap,cur,hv,Nat.le_trans hk hg,h3⟩⟩
theorem ORow.frw{K:Nat}{w:World}{bl m:Nat}{zs:List Int}{L c:Nat}{y:Int}(h:ORow K w (.slice (some ⟨bl,0,none⟩) m m) zs L)(hy:zs[c]? = some y):∃ng a m' cp,bl<w.heap.size/\c<m/\w.cell? ⟨bl,0+c*2,none⟩=some (.bool ng)/\w.cell? ⟨bl,0+c*2+1,none⟩=some (.slice a m' cp)/\FrW K y L (.agg #[.bool ng,.slice a m' cp]) w:=by
 obtain⟨bv,e,hK,hp,_⟩:=h;simp only[Value.slice.injEq,Option.some.injEq,Addr.mk.injEq]at e;obtain⟨⟨rfl,_⟩,rfl,_⟩:=e;have hl:=hp.lt;obtain⟨es,B,T,h1,h2,_,h4,_⟩:=hp;have hc:=(List.getElem?_eq_some_iff.1 hy).1;obtain⟨e,he⟩:∃e,es[c]? = some e:=⟨_,List.getElem?_eq_getElem (by omega)⟩;obtain⟨f1,f2⟩:=ab7 he;obtain⟨g1,g2,g3,g4,g5⟩:=h4 c e y hc he hy;rw[Nat.zero_add];exact⟨e.ng,e.a,e.m,e.c,hl,hc,by rw[cell_of_row _ _ _ _ _ (0,0) h2,List.getElem?_toArray];exact f1,by rw[cell_of_row _ _ _ _ _ (0,0) h2,List.getElem?_toArray];exact f2,_,_,_,_,_,_,by rw[g2],g1,g4,g5,g3⟩
theorem OwP.ne'{K g:Nat}{w:World}{pv:Value}{P:List Nat}{c:Array Value}{S:TypeId}(h:OwP K w pv P)(hg:w.heap[g]? = some (.cells c S (0,0)))(hS:S≠3):pv.ownBlock≠some g:=by
 obtain⟨_,⟨rfl,_⟩|⟨k,cap,cur,rfl,_,hh,_⟩⟩:=h
 ·simp[Value.ownBlock]
 ·intro e;simp only[Value.ownBlock,Option.some.injEq]at e;subst e;exact aav hg hh hS rfl
theorem a06{α β:Type}{R:α->β->Prop}{us:List α}{zs:List β}{i0:Nat}{u0:α}{z0:β}(hl:us.length=zs.length)(hi:i0<=zs.length)(h:∀(i:Nat) (u:α) (z:β),us[i]? = some u->zs[i]? = some z->R u z)(h0:R u0 z0):∀(i:Nat) (u:α) (z:β),(us.take i0++u0::us.drop i0)[i]? = some u->(zs.take i0++z0::zs.drop i0)[i]? = some z->R u z:=by
 intro i u z hu hz;have l1:(us.take i0).length=i0:=by simp;omega
 have l2:(zs.take i0).length=i0:=by simp;omega
 rcases Nat.lt_trichotomy i i0 with hlt|rfl|hgt
 ·rw[List.getElem?_append_left (by omega),List.getElem?_take_of_lt hlt]at hu hz;exact h i u z hu hz
 ·rw[List.getElem?_append_right (by omega)]at hu hz;simp only[l1,l2,Nat.sub_self,List.getElem?_cons_zero,Option.some.injEq]at hu hz;subst hu hz;exact h0
 ·obtain⟨d,rfl⟩:∃d,i=i0+(d+1):=⟨i-i0-1,by omega⟩;rw[List.getElem?_append_right (by omega)]at hu hz;simp only[l1,l2,Nat.add_sub_cancel_left,List.getElem?_cons_succ,List.getElem?_drop]at hu hz;exact h _ u z hu hz
theorem avh(w:World)(K q c n L i0:Nat)(vl:Value)(ls:List Int)(P:List Nat)(rows:List (List Int))(lead:Int)(hB:BasO K w q P rows lead L)(hl:ORow K w vl ls L)(hln:ls.length=n)(hS:Shp n P rows)(hP:P.Pairwise (·<·))(hi0:Plc P c i0)(hc:c<n)(hn:n<=1000000000)(hL:L<=50000000)(hKw:K<=w.heap.size)(hbd:∀r∈rows,∀z∈tkR (negs (decide ((P.length-i0)%2=1)) ls) c lead n r,(z.natAbs:Int)<pw L):
  Calls Tryz.prog 177 #[.pointer (some ⟨q,0,none⟩),vl,.int .i64 (c:Int)] w fun e w'=>e=.returned (.tuple #[])/\Below K w w'/\BasO K w' q (P.take i0++c::P.drop i0) ((rows.map (tkR (negs (decide ((P.length-i0)%2=1)) ls) c lead n)).take i0++negs (decide ((P.length-i0)%2=1)) ls::(rows.map (tkR (negs (decide ((P.length-i0)%2=1)) ls) c lead n)).drop i0) ((negs (decide ((P.length-i0)%2=1)) ls).getD c 0) L:=by
 obtain⟨bl,rfl,_⟩:=id hl;obtain⟨rv,pv,lng,la,lm,lc,hbq,hM,hPv,hLd,hKq,hPR⟩:=hB;obtain⟨pa,pc,rfl,_⟩:=hPv.is.parts;obtain⟨ma,mc,rfl,_⟩:=hM.is.parts;obtain⟨w5,hw5⟩:∃w5,((w.alloc (.cells #[.pointer (some ⟨q,0,none⟩)] 199)).alloc (.cells #[.slice (some ⟨bl,0,none⟩) ls.length ls.length] 39)).alloc (.cells #[.int .i64 (c:Int)] 3)=w5:=⟨_,rfl⟩;have hb5:Below w.heap.size w w5:=by rw[<-hw5];(repeat' first|with_reducible(first|exact Below.refl _ _|assumption|refine gdrewN ?_ _|refine Below.alloc ?_ ?_ _|refine Below.drew ?_|refine Below.setCell ?_ ?_ _)|go_size)
 obtain⟨s,hs⟩:∃s,w.heap.size=s:=⟨_,rfl⟩;have h3:w5.heap[s]? = some (.cells #[.pointer (some ⟨q,0,none⟩)] 199 (0,0)):=by rw[<-hw5,<-hs];exact abb (abb (heap_alloc_new w _))
 have h4:w5.heap[s+1]? = some (.cells #[.slice (some ⟨bl,0,none⟩) ls.length ls.length] 39 (0,0)):=by
  rw[<-hw5,<-hs];have:=heap_alloc_new (w.alloc (.cells #[.pointer (some ⟨q,0,none⟩)] 199)) (.cells #[.slice (some ⟨bl,0,none⟩) ls.length ls.length] 39);exact abb (by simpa using this)
 have h5:w5.heap[s+2]? = some (.cells #[.int .i64 (c:Int)] 3 (0,0)):=by
  rw[<-hw5,<-hs];have:=heap_alloc_new ((w.alloc (.cells #[.pointer (some ⟨q,0,none⟩)] 199)).alloc (.cells #[.slice (some ⟨bl,0,none⟩) ls.length ls.length] 39)) (.cells #[.int .i64 (c:Int)] 3);simpa using this
 have hq5:=(hb5.block _ (aaa hbq)).trans hbq;have hqs:q<s:=by rw[<-hs];exact aaa hbq
 have HRB:Hid (∀k,Value.ownBlock (.slice ma rows.length mc)=some k->k<s):=(fun k hk=>by obtain⟨vs,h1,_⟩:=hM;rw[<-hs];exact(ah9 h1 k hk).1);have HPB:Hid (∀k,Value.ownBlock (.slice pa P.length pc)=some k->k<s):=(fun k hk=>by rw[<-hs];exact(ah9 hPv k hk).1);obtain⟨hs3,c3,_⟩:=aae h3;obtain⟨hs4,c4,_⟩:=aae h4;obtain⟨hs5,c5,_⟩:=aae h5;have b1:w5.cell? ⟨q,1,none⟩=some (.slice pa P.length pc):=by rw[cell_of_row _ _ _ _ _ (0,0) hq5];rfl
 have hq:=aaa hq5;have HW5:=hide hw5;have HB5:=hide hb5;have H3:=hide h3;have H4:=hide h4;have H5:=hide h5;have HBQ:=hide hq5;have HM:=hide (hM.below hb5);have HPV:=hide (hPv.is.below hb5);have HPO:=hide (hPv.below hb5);have HLD:=hide (Mono.of4 (FrW.mono4 _ _ _) _ _ _ hb5 hLd);have HLS:=hide (hl.below hb5);have HASC:=hide hP;have HPR:Hid ((Value.slice pa P.length pc).ownBlock=none->(Value.slice ma rows.length mc).ownBlock=none):=(fun e=>hPR (by
  obtain⟨h1,⟨_,h2⟩|⟨g',cap',cur',hv,_⟩⟩:=id hPv
  ·exact List.length_eq_zero_iff.1 h2
  ·rw[hv]at e;simp[Value.ownBlock]at e))
 clear hPR;have HI0:=hide hi0;have HKQ:=hide hKq;have HQS:Hid (q<s):=(show q<s by rw[<-hs];exact aaa hbq);have HPQ:Hid ((Value.slice pa P.length pc).ownBlock≠some q):=(fun e=>by
  obtain⟨_,⟨hv,_⟩|⟨g',cap',cur',hv,_,hh,_⟩⟩:=id hPv
  ·rw[hv]at e;simp[Value.ownBlock]at e
  ·rw[hv]at e;simp only[Value.ownBlock,Option.some.injEq]at e;subst e
   exact aav hh hbq (by decide) rfl)
 have HPM:Hid (P.length<=1000000000):=(show P.length<=1000000000 by have:=hS.pm;omega);have HSH:=hide hS;have HI0:=hide hi0;have HLN:=hide hln;have HBD:=hide hbd;clear hbq hM hPv hLd hl hP hS hi0 hln hbd h3 h4 h5 hq5 hb5 hw5;go_enter Tryz.func177,Tryz.ntmps177
 go_upto_region 1 with fail
 rw[HW5.out];go_cut [6,7] (fun iv fv wx=>∃f,iv=.int .i64 (i0:Int)/\fv=.bool f/\Below w5.heap.size w5 wx)
 case first=>
  go_region_law (refine adk rfl 192 #[.tmp 14,.tmp 15] #[26,3] rfl a3b #[.slice pa P.length pc,.int .i64 (c:Int)] (by simp[Act.eval]) (apj _ _ P (HPV.out.below (show Below w5.heap.size w5 _ by(repeat' first|with_reducible(first|exact Below.refl _ _|assumption|refine gdrewN ?_ _|refine Below.alloc ?_ ?_ _|refine Below.drew ?_|refine Below.setCell ?_ ?_ _)|go_size))) HASC.out c HPM.out) ?_;rintro e w6 ⟨i1,f1,rfl,k1,k2,k3,hb6⟩;obtain rfl:i0=i1:=HI0.out.one ⟨k1,k2,k3⟩;have HB6:=hide ((show Below w5.heap.size w5 _ by(repeat' first|with_reducible(first|exact Below.refl _ _|assumption|refine gdrewN ?_ _|refine Below.alloc ?_ ?_ _|refine Below.drew ?_|refine Below.setCell ?_ ?_ _)|go_size)).trans (hb6.mono (by simp)));clear k1 k2 k3 hb6;refine⟨_,rfl,?_⟩)
  all_goals (
   go_wp2_with fail
   go_meet
   exact⟨f1,rfl,rfl,HB6.out⟩)
 case rest=>
  obtain⟨f1,rfl,rfl,hB'⟩:=hcut;have c3':=(hB'.cell (p:=⟨s,0,none⟩) hs3).trans c3;have b1':=(hB'.cell (p:=⟨q,1,none⟩) hq).trans b1;have hile:=HI0.out.le;have hsb:IntKind.i64.wrap ((P.length:Int)-(i0:Int))=((P.length-i0:Nat):Int):=by rw[IntKind.wrap_i64];have:=HPM.out;omega
  obtain⟨odd,hodd⟩:∃o,decide ((P.length-i0)%2=1)=o:=⟨_,rfl⟩;have hS0:TkS K s q c w (.slice (some ⟨bl,0,none⟩) ls.length ls.length) (.slice ma rows.length mc) (.slice pa P.length pc) lng la lm lc P rows lead ls L w5:=⟨H3.out,H4.out,H5.out,HBQ.out,HM.out,HPO.out,HLD.out,HLS.out,HB5.out.mono hKw⟩;have hK5:K<=w5.heap.size:=Nat.le_trans hKw HB5.out.size;have hS1:=hS0.below hK5 hB';have hK6:K<=wc.heap.size:=Nat.le_trans hK5 hB'.size;obtain⟨hl4,c4',f4'⟩:=aae hS1.b4;have HS1:=hide hS1;have HO:=hide hodd;have hsK:K<=s+1:=by omega
  clear hS0 hS1 hodd;go_upto_if 27 with fail
  have hpar:(((P.length-i0:Nat):Int)%2==1)=odd:=by
   rw[<-HO.out];by_cases h:(P.length-i0)%2=1
   ·rw[decide_eq_true h,beq_iff_eq];omega
   ·rw[decide_eq_false h,beq_eq_false_iff_ne];omega
  rw[hpar];go_cut [] (fun wx=>∃bl',TkS K s q c w (.slice (some ⟨bl',0,none⟩) ls.length ls.length) (.slice ma rows.length mc) (.slice pa P.length pc) lng la lm lc P rows lead (negs odd ls) L wx/\K<=wx.heap.size)
  case first=>
   cases odd with
   |true=>
    have KT:=ad8 wc _ ls L L HS1.out.lf.is (by have:=HLN.out;omega) _ ave #[] (fun k=>-(ls.getD k 0)) (fun W k z xv hb hz hx=>by
     have:=ash W W.heap.size rfl k z xv L hx (by omega);rw[show(fun k=>-(ls.getD k 0)) k = -z by show -(ls.getD k 0) = -z;rw[List.getD_eq_getElem?_getD,hz];rfl]
     exact this)
    rw[axy]at KT;have KT:=hide KT;clear hB' c3' b1' hpar hsb;go_wp2_with fail
    refine KT.out.mono ?_;rintro e w8 ⟨r8,rfl,ho8,hb8⟩;obtain⟨b8,rfl,_⟩:=id ho8;have hS8:=HS1.out.below hK6 hb8;obtain⟨hl8,c8,f8⟩:=aae hS8.b4;have ht:Tch (s+1) w8 (w8.setCell ⟨s+1,0,none⟩ (.slice (some ⟨b8,0,none⟩) (negs true ls).length (negs true ls).length)):=⟨rfl,rfl,rfl,by simp[World.setCell],fun k _ hn=>heap_setCell_other w8 ⟨s+1,0,none⟩ k _ hn⟩;have hb4:=heap_setCell_same w8 (s+1) 0 _ _ (.slice (some ⟨b8,0,none⟩) (negs true ls).length (negs true ls).length) hS8.b4;have HR:=hide (And.intro hS8 (And.intro ho8 (And.intro hb8 (And.intro ht hb4))));clear ho8 hb8 hS8 ht hb4 KT;rw[ai6]at HR ⊢;go_wp2_with fail
    go_meet;obtain⟨h1,h2,h3,h4,h5⟩:=HR.out;have d1:39≠86:=by decide
    have d2:39≠45:=by decide
    refine⟨b8,⟨h4.blk h1.b3 (by omega),by simpa using h5,h4.blk h1.b5 (by omega),h4.blk h1.bq (by omega),h1.om.tch h4 h1.b4 d1 d2 (fun e=>by have:=HRB.out _ e;omega),h1.op.tch h4 (fun e=>by have:=HPB.out _ e;omega),h1.ld.tch h4 h1.b4 d1,(h2.low hK6).tch h4 h1.b4 d1 d2,h1.bk.trans (h4.below (Nat.le_trans hK6 h3.size) (by omega))⟩,Nat.le_trans (Nat.le_trans hK6 h3.size) h4.size⟩
   |false=>
    clear hB' c3' b1' hpar hsb;go_wp2_with fail
    go_meet;exact⟨bl,HS1.out,hK6⟩
  case rest=>
   obtain⟨bl',hS9,hK9⟩:=hcut;obtain⟨w9,rfl⟩:∃x,x=wc:=⟨_,rfl⟩;have hbd1:=HBD.out;rw[HO.out]at hbd1;have hll:(negs odd ls).length=n:=by rw[ai6];exact HLN.out
   obtain⟨ls1,hls1⟩:∃l,negs odd ls=l:=⟨_,rfl⟩;rw[hls1]at hS9 hbd1 hll;obtain⟨_,d3,_⟩:=aae hS9.b3;have d0:w9.cell? ⟨q,0,none⟩=some (.slice ma rows.length mc):=by rw[cell_of_row _ _ _ _ _ (0,0) hS9.bq];rfl
   have HS9:=hide hS9;have HBD1:=hide hbd1;have HLL:=hide hll;clear hS9 hbd1 hll c4' f4' c3' b1' hpar hsb hB' hl4;go_wp2_with fail
   go_loopw [8,9,35] (fun _ _ iv wr=>∃(k:Nat),iv=.int .i64 k/\k<=rows.length/\TkS K s q c w (.slice (some ⟨bl',0,none⟩) ls.length ls.length) (.slice ma rows.length mc) (.slice pa P.length pc) lng la lm lc P ((rows.take k).map (tkR ls1 c lead n)++rows.drop k) lead ls1 L wr/\K<=wr.heap.size/\s+3<=wr.heap.size) (fun _ _ iv _=>rows.length-(intOf iv).toNat)
   case atStart=>exact⟨0,rfl,Nat.zero_le _,by simpa using HS9.out,hK9,aaa HS9.out.b5⟩
   case round=>
    obtain⟨k,rfl,hk,hSk,hKk,hsk⟩:=hrel;by_cases hlt:k<rows.length
    ·have hlt':(k:Int)<(rows.length:Int):=by omega
     obtain⟨r,hr⟩:∃r,rows[k]? = some r:=⟨_,List.getElem?_eq_getElem hlt⟩;have hrk:((rows.take k).map (tkR ls1 c lead n)++rows.drop k)[k]? = some r:=by
      rw[List.getElem?_append_right (by simp;omega)];simp only[List.length_map,List.length_take,Nat.min_eq_left (Nat.le_of_lt hlt),Nat.sub_self,List.getElem?_drop,Nat.add_zero];exact hr
     obtain⟨g,cg,u,rfl,hmm,hgh,hgu,hur⟩:=hSk.om.blk hrk;obtain⟨ub,rfl,_⟩:=id hur;have hgs:g<s:=HRB.out g rfl;have x0:wr.cell? ⟨g,k,none⟩=some (.slice (some ⟨ub,0,none⟩) r.length r.length):=by rw[cell_of_row _ _ _ _ _ (0,0) hgh];exact hgu
     have hrn:r.length=n:=HSH.out.rl r (List.mem_of_getElem? hr);have hba:=hAl wr (.cells #[.slice (some ⟨ub,0,none⟩) r.length r.length] 39);have hnew:=heap_alloc_new wr (.cells #[.slice (some ⟨ub,0,none⟩) r.length r.length] 39);have HSK:=hide hSk;have HR:=hide hr;have HUR0:=hide hur;have HGH:=hide hgh;have HRN:=hide hrn;clear hSk hr hrk hgu hur hgh hrn hmm;go_upto_region 7 with fail
     generalize wr.alloc (.cells #[.slice (some ⟨ub,0,none⟩) r.length r.length] 39)=wb at *
     have hSb:=HSK.out.below hKk hba;obtain⟨hs3,d3,_⟩:=aae hSb.b3;obtain⟨hg9,d9,_⟩:=aae hnew;have d0:wb.cell? ⟨q,0,none⟩=some (.slice (some ⟨g,0,none⟩) rows.length mc):=by rw[cell_of_row _ _ _ _ _ (0,0) hSb.bq];rfl
     have hqb:=aaa hSb.bq;have HUR:=hide (HUR0.out.is.below hba);have HTN:Hid (Turn wb 194 #[.pointer (some ⟨s+1,0,none⟩),.pointer (some ⟨s+1+1,0,none⟩),.pointer (some ⟨wr.heap.size,0,none⟩),.pointer (some ⟨s,0,none⟩)] r L L (fun k=>(ls1.getD c 0*r.getD k 0-r.getD c 0*ls1.getD k 0)/lead)):=by
      refine(show ∀(W:World) (c':Nat) (z:Int) (xv:Value),_->_->_->_ from ?_);intro W k' z xv hb hz hx;have hk':k'<r.length:=(List.getElem?_eq_some_iff.1 hz).1;have hrn:=HRN.out;have hll:=HLL.out;obtain⟨y1,hy1⟩:∃y,ls1[c]? = some y:=⟨_,List.getElem?_eq_getElem (by omega)⟩;obtain⟨y2,hy2⟩:∃y,r[c]? = some y:=⟨_,List.getElem?_eq_getElem (by omega)⟩;obtain⟨y3,hy3⟩:∃y,ls1[k']? = some y:=⟨_,List.getElem?_eq_getElem (by omega)⟩;have hSW:=hSb.below (Nat.le_trans hKk hba.size) hb;have hM:=HBD1.out r (List.mem_of_getElem? HR.out) _ (List.mem_map.2 ⟨k',List.mem_range.2 (by omega),rfl⟩);have e1:(ls1.getD c 0*r.getD k' 0-r.getD c 0*ls1.getD k' 0)/lead=(y1*z-y2*y3)/lead:=by
       simp only[List.getD_eq_getElem?_getD,hy1,hy2,hy3,hz];rfl
      rw[e1]at hM;have:=asi W W.heap.size rfl k' c (s+1) (s+2) wr.heap.size s q L L z lead xv _ _ ls1 r y1 y2 y3 _ _ _ _ _ _ hSW.b4 hSW.b5 ((hb.block _ (aaa hnew)).trans hnew) hSW.b3 hSW.bq hSW.lf.is (HUR.out.below hb) hSW.ld.is hx hy1 hy2 hy3 hL hM;show Calls _ _ _ _ (fun e W'=>∃v,e=.returned v/\FrW W.heap.size ((ls1.getD c 0*r.getD k' 0-r.getD c 0*ls1.getD k' 0)/lead) L v W'/\Below W.heap.size W W');rw[e1];exact this
     have HSB:=hide hSb;have hKb:K<=wb.heap.size:=Nat.le_trans hKk hba.size;have HBA:=hide hba;clear hSb hba hnew;refine aby 8 [40,41,42,43,44,45,46,47] [Eqs (.pointer (some ⟨q,0,none⟩)),Eqs (.pointer (some ⟨q,0,none⟩)),Eqs (.pointer (some ⟨q,0,none⟩)),Eqs (.slice (some ⟨g,0,none⟩) rows.length mc),Eqs (.int .i64 (k:Int)),Eqs (.slice (some ⟨ub,0,none⟩) r.length r.length),Eqs (.func (.func 194) #[] #[.pointer (some ⟨s+1,0,none⟩),.pointer (some ⟨s+1+1,0,none⟩),.pointer (some ⟨wr.heap.size,0,none⟩),.pointer (some ⟨s,0,none⟩)]),(OrS K (tkR ls1 c lead n r) L)] rfl rfl (by decide) (by kernel_rfl) (by kernel_rfl) (by decide) (by kernel_rfl) ⟨Eqs.mono _,Eqs.mono _,Eqs.mono _,Eqs.mono _,Eqs.mono _,Eqs.mono _,Eqs.mono _,(OrS.mono _ _ _),trivial⟩ ?_ ?_
     ·exact⟨⟨rfl,fun a_ w_ _ hB hR hD=>ac4 ((hR 3 rfl).trans (aab rfl)) ((hB.cell (p:=⟨s,0,none⟩) hs3).trans d3)⟩,
        ⟨rfl,fun a_ w_ _ hB hR hD=>aeu (show a_.eval (.tmp 40)=.pointer (some ⟨q,0,none⟩)from hD 0 rfl)⟩,
        ⟨rfl,fun a_ w_ _ hB hR hD=>afz fab0 (show a_.eval (.tmp 41)=.pointer (some ⟨q,0,none⟩)from hD 1 rfl)⟩,
        ⟨rfl,fun a_ w_ _ hB hR hD=>akg (show a_.eval (.tmp 42)=.pointer (some ⟨q,0,none⟩)from hD 2 rfl) ((hB.cell (p:=⟨q,0,none⟩) hqb).trans d0)⟩,
        ⟨rfl,fun a_ w_ _ hB hR hD=>aal ((hR 8 rfl).trans (aab rfl))⟩,
        ⟨rfl,fun a_ w_ _ hB hR hD=>acu ((hR 9 rfl).trans (aab rfl)) ((hB.cell (p:=⟨wr.heap.size,0,none⟩) hg9).trans d9)⟩,
        ⟨rfl,fun a_ w_ _ hB hR hD=>a3c (by simp[(show _=_ from(hR 4 rfl).trans (aab rfl)),(show _=_ from(hR 5 rfl).trans (aab rfl)),(show _=_ from(hR 9 rfl).trans (aab rfl)),(show _=_ from(hR 3 rfl).trans (aab rfl))])⟩,
        ⟨rfl,fun a_ w_ _ hB hR hD=>ax0 (show a_.eval (.tmp 45)=.slice (some ⟨ub,0,none⟩) r.length r.length from hD 5 rfl) (show a_.eval (.tmp 46)=.func (.func 194) #[] #[.pointer (some ⟨s+1,0,none⟩),.pointer (some ⟨s+1+1,0,none⟩),.pointer (some ⟨wr.heap.size,0,none⟩),.pointer (some ⟨s,0,none⟩)]from hD 6 rfl) (HUR.out.below hB) HRN.out (by omega) avf (HTN.out.below hB) (by have:=hB.size;omega)⟩,
        trivial⟩
     ·intro a' w' hn' hd' hB' hR' hP';have e40:a'.eval (.tmp 40)=.pointer (some ⟨q,0,none⟩):=hP' 0 (by decide);have e41:a'.eval (.tmp 41)=.pointer (some ⟨q,0,none⟩):=hP' 1 (by decide);have e42:a'.eval (.tmp 42)=.pointer (some ⟨q,0,none⟩):=hP' 2 (by decide);have e43:a'.eval (.tmp 43)=.slice (some ⟨g,0,none⟩) rows.length mc:=hP' 3 (by decide);have e44:a'.eval (.tmp 44)=.int .i64 (k:Int):=hP' 4 (by decide);have e45:a'.eval (.tmp 45)=.slice (some ⟨ub,0,none⟩) r.length r.length:=hP' 5 (by decide);have e46:a'.eval (.tmp 46)=.func (.func 194) #[] #[.pointer (some ⟨s+1,0,none⟩),.pointer (some ⟨s+1+1,0,none⟩),.pointer (some ⟨wr.heap.size,0,none⟩),.pointer (some ⟨s,0,none⟩)]:=hP' 6 (by decide);obtain⟨u47,e47⟩:∃u,a'.eval (.tmp 47)=u:=⟨_,rfl⟩;have hT:(OrS K (tkR ls1 c lead n r) L) (a'.eval (.tmp 47)) w':=hP' 7 (by decide);rw[e47]at hT;refine aat hn' hd' hR' (.s16 rfl <| .s16 rfl <| .s4 rfl <| .s4 rfl <| .new e40 <| .new e41 <| .new e42 <| .new e43 <| .new e44 <| .new e45 <| .new e46 <| .new e47 <| .s16 rfl <| .s4 rfl <| .s4 rfl <| .s4 rfl <| .same rfl <| .same rfl <| .same rfl <| .nil) ?_;clear e40 e41 e42 e43 e44 e45 e46 e47;obtain⟨tb,rfl,_⟩:=id hT;have hSw:=HSB.out.below hKb hB';have hgw:w'.heap[g]? = some (.cells cg 39 (0,0)):=(hB'.block _ (Nat.lt_of_lt_of_le (aaa HGH.out) HBA.out.size)).trans ((HBA.out.block _ (aaa HGH.out)).trans HGH.out);have x1:=(hB'.cell (p:=⟨g,k,none⟩) (Nat.lt_of_lt_of_le (aaa HGH.out) HBA.out.size)).trans ((HBA.out.cell (p:=⟨g,k,none⟩) (aaa HGH.out)).trans x0);have fz:w'.frozen? ⟨g,k,none⟩=false:=frozen_of_row _ _ _ _ _ hgw;have hlen:((rows.take k).map (tkR ls1 c lead n)++rows.drop k).length=rows.length:=by simp;omega
      have om:=hSw.om;rw[<-hlen]at om;obtain⟨p1,p2,p3,cw,p4⟩:=om.put (i:=k) (by omega) hT;rw[hlen,axz _ HR.out]at p1;have d1:39≠86:=by decide
      have d2:39≠45:=by decide
      have hKw':K<=w'.heap.size:=Nat.le_trans hKb hB'.size;have HNX:Hid (TkS K s q c w (.slice (some ⟨bl',0,none⟩) ls.length ls.length) (.slice (some ⟨g,0,none⟩) rows.length mc) (.slice pa P.length pc) lng la lm lc P ((rows.take (k+1)).map (tkR ls1 c lead n)++rows.drop (k+1)) lead ls1 L (w'.setCell ⟨g,k,none⟩ (.slice (some ⟨tb,0,none⟩) (tkR ls1 c lead n r).length (tkR ls1 c lead n r).length))):=(show TkS _ _ _ _ _ _ _ _ _ _ _ _ _ _ _ _ _ _ from⟨p2.blk hSw.b3 (by omega),p2.blk hSw.b4 (by omega),p2.blk hSw.b5 (by omega),p2.blk hSw.bq (aav hgw hSw.bq (by decide)),p1,hSw.op.tch p2 (hSw.op.ne hgw),hSw.ld.tch p2 hgw d1,hSw.lf.tch p2 hgw d1 d2,hSw.bk.trans (p2.below hKw' p3)⟩);have HSZ:Hid (K<=(w'.setCell ⟨g,k,none⟩ (.slice (some ⟨tb,0,none⟩) (tkR ls1 c lead n r).length (tkR ls1 c lead n r).length)).heap.size/\s+3<=(w'.setCell ⟨g,k,none⟩ (.slice (some ⟨tb,0,none⟩) (tkR ls1 c lead n r).length (tkR ls1 c lead n r).length)).heap.size):=(show _/\_ from⟨Nat.le_trans hKw' p2.size,by have:=p2.size;have:=hB'.size;have:=HBA.out.size;omega⟩);clear hn' hd' hR' hP' hB' hT hSw hgw om p1 p2 p3 p4;go_wp2;go_roundw
      case rel=>exact⟨k+1,by go_num,by omega,HNX.out,HSZ.out⟩
      case measure=>simp[intOf];omega
    ·have hlt':decide ((k:Int)<(rows.length:Int))=false:=by simp;omega
     have hkr:k=rows.length:=by omega
     rw[hkr,List.take_length,List.drop_length,List.append_nil]at hSk;obtain⟨rows1,hrows1⟩:∃l,rows.map (tkR ls1 c lead n)=l:=⟨_,rfl⟩;have hr1l:rows1.length=rows.length:=by rw[<-hrows1];simp
     rw[hrows1]at hSk;obtain⟨vsR,hown,hrowR⟩:=id hSk.om;rw[hr1l]at hown;obtain⟨gI,hgI,hn3,hn4,hnq,hgS,hgE⟩:∃gI,gI<wr.heap.size/\s≠gI/\s+1≠gI/\q≠gI/\(K<=gI/\∃cg S,wr.heap[gI]? = some (.cells cg S (0,0))/\S≠86/\S≠45/\(Value.slice pa P.length pc).ownBlock≠some gI)/\∀k,Value.ownBlock (.slice ma rows.length mc)=some k->k=gI:=by
      cases hob:Value.ownBlock (.slice ma rows.length mc) with
      |none=>exact⟨s+2,by omega,by omega,by omega,by omega,⟨by omega,_,_,hSk.b5,by decide,by decide,fun e=>by have:=HPB.out _ e;omega⟩,fun k hk=>by cases hk⟩
      |some g=>
       have h1:=HRB.out g hob;obtain⟨h2,h2K⟩:=ah9 hown g hob;refine⟨g,h2,by omega,by omega,?_,⟨h2K,?_⟩,fun k hk=>(Option.some.inj hk).symm⟩
       rotate_left
       ·obtain⟨_,⟨hv,_⟩|⟨g',cap',cur',hv,_,hh,_⟩⟩:=hown
        ·rw[hv]at hob;simp[Value.ownBlock]at hob
        ·rw[hv]at hob;simp only[Value.ownBlock,Option.some.injEq]at hob;subst hob;exact⟨_,_,hh,by decide,by decide,hSk.op.ne hh⟩
       obtain⟨_,⟨hv,_⟩|⟨g',cap',cur',hv,_,hh,_⟩⟩:=hown
       ·rw[hv]at hob;simp[Value.ownBlock]at hob
       ·rw[hv]at hob;simp only[Value.ownBlock,Option.some.injEq]at hob;subst hob;exact aav hh hSk.bq (by decide)
     obtain⟨hs3,d3,_⟩:=aae hSk.b3;obtain⟨hs4,d4,_⟩:=aae hSk.b4;have d0:wr.cell? ⟨q,0,none⟩=some (.slice ma rows.length mc):=by rw[cell_of_row _ _ _ _ _ (0,0) hSk.bq];rfl
     have hqb:=aaa hSk.bq;have hile':i0<=rows.length:=by have:=HSH.out.pl;omega
     obtain⟨Kx,hKx1,hKx2,hownx,hKx3⟩:∃Kx,K<=Kx/\Kx<=wr.heap.size/\wr.ownsRow Kx 39 1 (.slice ma rows.length mc) rows.length vsR/\((Value.slice ma rows.length mc).ownBlock=none->s+3<=Kx):=by
      obtain⟨h1,h2|⟨g',cap',cur',hv,h3⟩⟩:=id hown
      ·exact⟨s+3,by omega,hsk,⟨h1,Or.inl h2⟩,fun _=>Nat.le_refl _⟩
      ·refine⟨K,Nat.le_refl _,hKk,hown,fun e=>?_⟩;rw[hv]at e;simp[Value.ownBlock]at e
     have HOWNR:=hide hownx;have HKX:=hide hKx3;clear hownx hKx3;have HONER:Hid (∀u∈vsR,u.oneCell'=true):=(fun u hu=>by
      obtain⟨i,hi⟩:=List.mem_iff_getElem?.1 hu;obtain⟨z,hz⟩:∃z,rows1[i]? = some z:=⟨_,List.getElem?_eq_getElem (by have:=(List.getElem?_eq_some_iff.1 hi).1;have:=hown.1;omega)⟩;obtain⟨bv,rfl,_⟩:=hrowR i u z hi hz
      rfl)
     have HNNR:Hid (rows.length<=1000000000):=(show rows.length<=1000000000 by have:=HSH.out.pl;have:=HPM.out;omega);have hgE2:=hgI;have HJR:Hid (∀w_,Tch gI wr w_->w_.heap[gI]? = wr.heap[gI]?->w_.heap[s+2]? = some (.cells #[.int .i64 (c:Int)] 3 (0,0))):=(fun w_ hB hI=>by
      by_cases h:s+2=gI
      ·rw[h,hI,<-h];exact hSk.b5
      ·exact hB.blk hSk.b5 h)
     have HJNR:Hid ((Value.slice ma rows.length mc).ownBlock≠some (s+2)):=(fun e=>by have:=HRB.out _ e;omega);have HGS:=hide hgS;clear hgS;have HSK:=hide hSk;have HROW:=hide hrowR;clear hSk hown hrowR;go_upto_region 9 with fail
     refine ahi gI 8 9 [50,51,52,53,54,55,56,57,58] [Eqs (.pointer (some ⟨q,0,none⟩)),Eqs (.pointer (some ⟨q,0,none⟩)),Eqs (.pointer (some ⟨q,0,none⟩)),Eqs (.pointer (some ⟨q,0,none⟩)),Eqs (.slice ma rows.length mc),Eqs (.int .i64 (i0:Int)),Eqs (.slice (some ⟨bl',0,none⟩) ls.length ls.length),(NewR wr.heap.size (.slice (some ⟨bl',0,none⟩) ls.length ls.length)),(OwnR Kx (rows.length+1) (vsR.take i0++(.slice (some ⟨bl',0,none⟩) ls.length ls.length)::vsR.drop i0) (s+2) (.cells #[.int .i64 (c:Int)] 3 (0,0)))] hgI rfl rfl (by decide) (by kernel_rfl) (by kernel_rfl) (by decide) (by kernel_rfl) ⟨Eqs.mono _,Eqs.mono _,Eqs.mono _,Eqs.mono _,Eqs.mono _,Eqs.mono _,Eqs.mono _,(NewR.mono _ _),(OwnR.mono _ _ _ _ _),trivial⟩ ?_ ?_ ?_
     ·intro j_ hj_ v_ w1_ w2_ ht_ hp_
      match j_,hj_ with
      |0,_=>exact hp_
      |1,_=>exact hp_
      |2,_=>exact hp_
      |3,_=>exact hp_
      |4,_=>exact hp_
      |5,_=>exact hp_
      |6,_=>exact hp_
      |7,_=>exact NewR.tch hgI ht_ hp_
      |8,hj_=>exact absurd rfl hj_
      |j_+9,_=>exact hp_
     ·exact⟨⟨rfl,rfl,fun a_ w_ _ hB hR hD=>⟨fun _=>ac4 ((hR 3 rfl).trans (aab rfl)) ((hB.cell (p:=⟨s,0,none⟩) hs3 hn3).trans d3),fun h=>absurd h (by decide)⟩⟩,
        ⟨rfl,rfl,fun a_ w_ _ hB hR hD=>⟨fun _=>ac4 ((hR 3 rfl).trans (aab rfl)) ((hB.cell (p:=⟨s,0,none⟩) hs3 hn3).trans d3),fun h=>absurd h (by decide)⟩⟩,
        ⟨rfl,rfl,fun a_ w_ _ hB hR hD=>⟨fun _=>aeu (show a_.eval (.tmp 51)=.pointer (some ⟨q,0,none⟩)from hD 1 rfl),fun h=>absurd h (by decide)⟩⟩,
        ⟨rfl,rfl,fun a_ w_ _ hB hR hD=>⟨fun _=>afz fab0 (show a_.eval (.tmp 52)=.pointer (some ⟨q,0,none⟩)from hD 2 rfl),fun h=>absurd h (by decide)⟩⟩,
        ⟨rfl,rfl,fun a_ w_ _ hB hR hD=>⟨fun _=>akg (show a_.eval (.tmp 53)=.pointer (some ⟨q,0,none⟩)from hD 3 rfl) ((hB.cell (p:=⟨q,0,none⟩) hqb hnq).trans d0),fun h=>absurd h (by decide)⟩⟩,
        ⟨rfl,rfl,fun a_ w_ _ hB hR hD=>⟨fun _=>aal ((hR 6 rfl).trans (aab rfl)),fun h=>absurd h (by decide)⟩⟩,
        ⟨rfl,rfl,fun a_ w_ _ hB hR hD=>⟨fun _=>acu ((hR 4 rfl).trans (aab rfl)) ((hB.cell (p:=⟨s+1,0,none⟩) hs4 hn4).trans d4),fun h=>absurd h (by decide)⟩⟩,
        ⟨rfl,rfl,fun a_ w_ _ hB hR hD=>⟨fun _=>a04 (show a_.eval (.tmp 56)=.slice (some ⟨bl',0,none⟩) ls.length ls.length from hD 6 rfl) (Tch.size hB),fun h=>absurd h (by decide)⟩⟩,
        ⟨rfl,rfl,fun a_ w_ _ hB hR hD=>⟨fun h=>absurd rfl h,fun _ hI=>a03 (show a_.eval (.tmp 54)=.slice ma rows.length mc from hD 4 rfl) (show a_.eval (.tmp 55)=.int .i64 (i0:Int)from hD 5 rfl) (show(NewR wr.heap.size (.slice (some ⟨bl',0,none⟩) ls.length ls.length)) (a_.eval (.tmp 57)) w_ from hD 7 rfl) (g:=gI) hgE (aeg HOWNR.out (fun k_ c_ hk_ _=>by rw[hgE k_ hk_];exact hI)) HONER.out hile' rfl HNNR.out (by have:=hB.size;omega) hgE2 (HJR.out _ hB hI) HJNR.out⟩⟩,
        trivial⟩
     ·intro a' w' hn' hd' hB' hR' hP';have e50:a'.eval (.tmp 50)=.pointer (some ⟨q,0,none⟩):=hP' 0 (by decide);have e51:a'.eval (.tmp 51)=.pointer (some ⟨q,0,none⟩):=hP' 1 (by decide);have e52:a'.eval (.tmp 52)=.pointer (some ⟨q,0,none⟩):=hP' 2 (by decide);have e53:a'.eval (.tmp 53)=.pointer (some ⟨q,0,none⟩):=hP' 3 (by decide);have e54:a'.eval (.tmp 54)=.slice ma rows.length mc:=hP' 4 (by decide);have e55:a'.eval (.tmp 55)=.int .i64 (i0:Int):=hP' 5 (by decide);have e56:a'.eval (.tmp 56)=.slice (some ⟨bl',0,none⟩) ls.length ls.length:=hP' 6 (by decide);obtain⟨u57,e57⟩:∃u,a'.eval (.tmp 57)=u:=⟨_,rfl⟩;obtain⟨u58,e58⟩:∃u,a'.eval (.tmp 58)=u:=⟨_,rfl⟩;have hT:(OwnR Kx (rows.length+1) (vsR.take i0++(.slice (some ⟨bl',0,none⟩) ls.length ls.length)::vsR.drop i0) (s+2) (.cells #[.int .i64 (c:Int)] 3 (0,0))) (a'.eval (.tmp 58)) w':=hP' 8 (by decide);rw[e58]at hT;refine aat hn' hd' hR' (.s16 rfl <| .s16 rfl <| .s16 rfl <| .same rfl <| .same rfl <| .new e50 <| .new e51 <| .new e52 <| .new e53 <| .new e54 <| .new e55 <| .new e56 <| .new e57 <| .new e58 <| .s16 rfl <| .s4 rfl <| .nil) ?_;clear e50 e51 e52 e53 e54 e55 e56 e57 e58;obtain⟨hT1,hT5⟩:=id hT;obtain⟨_,⟨_,h0⟩|⟨gr,rcap,rcur,rfl,hgr1,hgr2,_⟩⟩:=id hT1
      ·omega
      obtain⟨hgK,cg,S,hgh,hS1,hS2,hS3⟩:=HGS.out;have hSr:=HSK.out;have e3:=hB'.blk hSr.b3 hn3;have e4:=hB'.blk hSr.b4 hn4;have eq0:=hB'.blk hSr.bq hnq;have hw10:Tch q w' (w'.setCell ⟨q,0,none⟩ (.slice (some ⟨gr,0,none⟩) (rows.length+1) rcap)):=⟨rfl,rfl,rfl,by simp[World.setCell],fun k _ hn=>heap_setCell_other w' ⟨q,0,none⟩ k _ hn⟩;have hq10:=heap_setCell_same w' q 0 _ _ (.slice (some ⟨gr,0,none⟩) (rows.length+1) rcap) eq0;have x1:w'.cell? ⟨q,0,none⟩=some (.slice ma rows.length mc):=by rw[cell_of_row _ _ _ _ _ (0,0) eq0];rfl
      have fz:w'.frozen? ⟨q,0,none⟩=false:=frozen_of_row _ _ _ _ _ eq0;have d1:187≠86:=by decide
      have d2:187≠45:=by decide
      have hKq':K<=q:=HKQ.out;have hKw':K<=w'.heap.size:=Nat.le_trans hKk hB'.size;have om:OwM K w' (.slice (some ⟨gr,0,none⟩) (rows.length+1) rcap) (rows1.take i0++ls1::rows1.drop i0) L:=⟨_,by
       have:(rows1.take i0++ls1::rows1.drop i0).length=rows.length+1:=by simp;omega
       rw[this];exact anl hT1 hKx1,a06 (by have:=HOWNR.out.1;omega) (by omega) (fun i u z hu hz=>(HROW.out i u z hu hz).tch hB' hgh hS1 hS2) (hSr.lf.tch hB' hgh hS1 hS2)⟩
      have HGQ:Hid ((Value.slice (some ⟨gr,0,none⟩) (rows.length+1) rcap).ownBlock≠some q):=(fun e=>by simp only[Value.ownBlock,Option.some.injEq]at e;exact aav eq0 hgr2 (by decide) e);have HGR:Hid ((Value.slice ma rows.length mc).ownBlock=none->gr≠s+1):=(fun e=>by have:=HKX.out e;omega);have HNX:Hid (TkS K s q c w (.slice (some ⟨bl',0,none⟩) ls.length ls.length) (.slice (some ⟨gr,0,none⟩) (rows.length+1) rcap) (.slice pa P.length pc) lng la lm lc P (rows1.take i0++ls1::rows1.drop i0) lead ls1 L (w'.setCell ⟨q,0,none⟩ (.slice (some ⟨gr,0,none⟩) (rows.length+1) rcap))):=(show TkS _ _ _ _ _ _ _ _ _ _ _ _ _ _ _ _ _ _ from⟨hw10.blk e3 (by have:=HQS.out;omega),hw10.blk e4 (by have:=HQS.out;omega),hw10.blk hT5 (by have:=HQS.out;omega),by simpa using hq10,om.tch hw10 eq0 d1 d2 (fun e=>by simp only[Value.ownBlock,Option.some.injEq]at e;exact aav eq0 hgr2 (by decide) e),(hSr.op.tch hB' hS3).tch hw10 (fun e=>HPQ.out e),(hSr.ld.tch hB' hgh hS1).tch hw10 eq0 d1,(hSr.lf.tch hB' hgh hS1 hS2).tch hw10 eq0 d1 d2,(hSr.bk.trans (hB'.below hKk hgK)).trans (hw10.below hKw' hKq')⟩);have HSZ:Hid (K<=(w'.setCell ⟨q,0,none⟩ (.slice (some ⟨gr,0,none⟩) (rows.length+1) rcap)).heap.size/\s+3<=(w'.setCell ⟨q,0,none⟩ (.slice (some ⟨gr,0,none⟩) (rows.length+1) rcap)).heap.size):=(show _/\_ from⟨Nat.le_trans hKw' hw10.size,by have:=hw10.size;have:=hB'.size;omega⟩);clear hn' hd' hR' hP' hB' hT hT1 hT5 hgh hSr om hw10 hq10 e3 e4 eq0 hgr2 d0 d3 d4;go_upto_region 10 with fail
      generalize w'.setCell ⟨q,0,none⟩ (.slice (some ⟨gr,0,none⟩) (rows.length+1) rcap)=wx at *
      clear HSK HROW HOWNR HONER HNNR HJR HJNR HGS HKX hKx1 hKx2 hgr1 hgI hgE hgE2 hn3 hn4 hnq x1 fz hs3 hs4 hqb hKk hsk;obtain⟨hSk,hKk,hsk⟩:_/\_:=⟨HNX.out,HSZ.out⟩;obtain⟨gI,hgI,hn3,hn5,hnq,hgS,hgE⟩:∃gI,gI<wx.heap.size/\s≠gI/\s+1+1≠gI/\q≠gI/\(K<=gI/\∃cg S,wx.heap[gI]? = some (.cells cg S (0,0))/\S≠86/\S≠45/\gr≠gI)/\∀k,Value.ownBlock (.slice pa P.length pc)=some k->k=gI:=by
       have hgr3:∀gg cg,wx.heap[gg]? = some (.cells cg 3 (0,0))->gr≠gg:=fun gg cg hh=>by
        obtain⟨vs,⟨_,⟨hv,_⟩|⟨g',cap',cur',hv,_,hh',_⟩⟩,_⟩:=hSk.om
        ·cases hv
        ·simp only[Value.slice.injEq,Option.some.injEq,Addr.mk.injEq]at hv;obtain⟨⟨rfl,_⟩,_⟩:=hv;exact aav hh hh' (by decide)
       cases hob:Value.ownBlock (.slice pa P.length pc) with
       |none=>
        refine⟨s+1,by omega,by omega,by omega,by have:=HQS.out;omega,⟨by omega,_,_,hSk.b4,by decide,by decide,?_⟩,fun k hk=>by cases hk⟩;exact HGR.out (HPR.out hob)
       |some g=>
        have h1:=HPB.out g hob;obtain⟨h2,h2K⟩:=ah9 hSk.op g hob;obtain⟨_,⟨hv,_⟩|⟨g',cap',cur',hv,_,hh,_⟩⟩:=hSk.op
        ·rw[hv]at hob;simp[Value.ownBlock]at hob
        ·rw[hv]at hob;simp only[Value.ownBlock,Option.some.injEq]at hob;subst hob;exact⟨g',h2,by omega,by omega,aav hh hSk.bq (by decide),⟨h2K,_,_,hh,by decide,by decide,hgr3 _ _ hh⟩,fun k hk=>(Option.some.inj hk).symm⟩
      obtain⟨hs3,d3,_⟩:=aae hSk.b3;obtain⟨hs5,d5,_⟩:=aae hSk.b5;have d1:wx.cell? ⟨q,1,none⟩=some (.slice pa P.length pc):=by rw[cell_of_row _ _ _ _ _ (0,0) hSk.bq];rfl
      have hqb:=aaa hSk.bq;have hile':i0<=P.length:=HI0.out.le;have HOWNI:Hid (wx.ownsRow K 3 1 (.slice pa P.length pc) P.length (P.map (fun p:Nat=>Value.int .i64 (p:Int)))):=hSk.op;have HONEI:Hid (∀u∈P.map (fun p:Nat=>Value.int .i64 (p:Int)),u.oneCell'=true):=(fun u hu=>by
       obtain⟨p,_,rfl⟩:=List.mem_map.1 hu
       rfl)
      have HNNI:=HPM;have hgE2:=hgI;have HJI:Hid (∀w_,Tch gI wx w_->w_.heap[gI]? = wx.heap[gI]?->w_.heap[s+1]? = some (.cells #[.slice (some ⟨bl',0,none⟩) ls.length ls.length] 39 (0,0))):=(fun w_ hB hI=>by
       by_cases h:s+1=gI
       ·rw[h,hI,<-h];exact hSk.b4
       ·exact hB.blk hSk.b4 h)
      have HJNI:Hid ((Value.slice pa P.length pc).ownBlock≠some (s+1)):=(fun e=>by have:=HPB.out _ e;omega);have HGS:=hide hgS;have HSK:=hide hSk;clear hgS hSk HNX HSZ;refine ahi gI 8 9 [61,62,63,64,65,66,67,68,69] [Eqs (.pointer (some ⟨q,0,none⟩)),Eqs (.pointer (some ⟨q,0,none⟩)),Eqs (.pointer (some ⟨q,0,none⟩)),Eqs (.pointer (some ⟨q,1,none⟩)),Eqs (.slice pa P.length pc),Eqs (.int .i64 (i0:Int)),Eqs (.int .i64 (c:Int)),(NewI wx.heap.size (.int .i64 (c:Int))),(OwnI K (P.length+1) ((P.map (fun p:Nat=>Value.int .i64 (p:Int))).take i0++(.int .i64 (c:Int))::(P.map (fun p:Nat=>Value.int .i64 (p:Int))).drop i0) (s+1) (.cells #[.slice (some ⟨bl',0,none⟩) ls.length ls.length] 39 (0,0)))] hgI rfl rfl (by decide) (by kernel_rfl) (by kernel_rfl) (by decide) (by kernel_rfl) ⟨Eqs.mono _,Eqs.mono _,Eqs.mono _,Eqs.mono _,Eqs.mono _,Eqs.mono _,Eqs.mono _,(NewI.mono _ _),(OwnI.mono _ _ _ _ _),trivial⟩ ?_ ?_ ?_
      ·intro j_ hj_ v_ w1_ w2_ ht_ hp_
       match j_,hj_ with
       |0,_=>exact hp_
       |1,_=>exact hp_
       |2,_=>exact hp_
       |3,_=>exact hp_
       |4,_=>exact hp_
       |5,_=>exact hp_
       |6,_=>exact hp_
       |7,_=>exact NewI.tch hgI ht_ hp_
       |8,hj_=>exact absurd rfl hj_
       |j_+9,_=>exact hp_
      ·exact⟨⟨rfl,rfl,fun a_ w_ _ hB hR hD=>⟨fun _=>ac4 ((hR 3 rfl).trans (aab rfl)) ((hB.cell (p:=⟨s,0,none⟩) hs3 hn3).trans d3),fun h=>absurd h (by decide)⟩⟩,
         ⟨rfl,rfl,fun a_ w_ _ hB hR hD=>⟨fun _=>ac4 ((hR 3 rfl).trans (aab rfl)) ((hB.cell (p:=⟨s,0,none⟩) hs3 hn3).trans d3),fun h=>absurd h (by decide)⟩⟩,
         ⟨rfl,rfl,fun a_ w_ _ hB hR hD=>⟨fun _=>aeu (show a_.eval (.tmp 62)=.pointer (some ⟨q,0,none⟩)from hD 1 rfl),fun h=>absurd h (by decide)⟩⟩,
         ⟨rfl,rfl,fun a_ w_ _ hB hR hD=>⟨fun _=>afz fab1 (show a_.eval (.tmp 63)=.pointer (some ⟨q,0,none⟩)from hD 2 rfl),fun h=>absurd h (by decide)⟩⟩,
         ⟨rfl,rfl,fun a_ w_ _ hB hR hD=>⟨fun _=>a0v (show a_.eval (.tmp 64)=.pointer (some ⟨q,1,none⟩)from hD 3 rfl) ((hB.cell (p:=⟨q,1,none⟩) hqb hnq).trans d1),fun h=>absurd h (by decide)⟩⟩,
         ⟨rfl,rfl,fun a_ w_ _ hB hR hD=>⟨fun _=>aal ((hR 6 rfl).trans (aab rfl)),fun h=>absurd h (by decide)⟩⟩,
         ⟨rfl,rfl,fun a_ w_ _ hB hR hD=>⟨fun _=>ah5 ((hR 5 rfl).trans (aab rfl)) ((hB.cell (p:=⟨s+1+1,0,none⟩) hs5 hn5).trans d5),fun h=>absurd h (by decide)⟩⟩,
         ⟨rfl,rfl,fun a_ w_ _ hB hR hD=>⟨fun _=>a05 (show a_.eval (.tmp 67)=.int .i64 (c:Int)from hD 6 rfl) (Tch.size hB),fun h=>absurd h (by decide)⟩⟩,
         ⟨rfl,rfl,fun a_ w_ _ hB hR hD=>⟨fun h=>absurd rfl h,fun _ hI=>a02 (show a_.eval (.tmp 65)=.slice pa P.length pc from hD 4 rfl) (show a_.eval (.tmp 66)=.int .i64 (i0:Int)from hD 5 rfl) (show(NewI wx.heap.size (.int .i64 (c:Int))) (a_.eval (.tmp 68)) w_ from hD 7 rfl) (g:=gI) hgE (aeg HOWNI.out (fun k_ c_ hk_ _=>by rw[hgE k_ hk_];exact hI)) HONEI.out hile' rfl HNNI.out (by have:=hB.size;omega) hgE2 (HJI.out _ hB hI) HJNI.out⟩⟩,
         trivial⟩
      ·intro a' w' hn' hd' hB' hR' hP';have e61:a'.eval (.tmp 61)=.pointer (some ⟨q,0,none⟩):=hP' 0 (by decide);have e62:a'.eval (.tmp 62)=.pointer (some ⟨q,0,none⟩):=hP' 1 (by decide);have e63:a'.eval (.tmp 63)=.pointer (some ⟨q,0,none⟩):=hP' 2 (by decide);have e64:a'.eval (.tmp 64)=.pointer (some ⟨q,1,none⟩):=hP' 3 (by decide);have e65:a'.eval (.tmp 65)=.slice pa P.length pc:=hP' 4 (by decide);have e66:a'.eval (.tmp 66)=.int .i64 (i0:Int):=hP' 5 (by decide);have e67:a'.eval (.tmp 67)=.int .i64 (c:Int):=hP' 6 (by decide);obtain⟨u68,e68⟩:∃u,a'.eval (.tmp 68)=u:=⟨_,rfl⟩;obtain⟨u69,e69⟩:∃u,a'.eval (.tmp 69)=u:=⟨_,rfl⟩;have hT:(OwnI K (P.length+1) ((P.map (fun p:Nat=>Value.int .i64 (p:Int))).take i0++(.int .i64 (c:Int))::(P.map (fun p:Nat=>Value.int .i64 (p:Int))).drop i0) (s+1) (.cells #[.slice (some ⟨bl',0,none⟩) ls.length ls.length] 39 (0,0))) (a'.eval (.tmp 69)) w':=hP' 8 (by decide);rw[e69]at hT;refine aat hn' hd' hR' (.s16 rfl <| .s16 rfl <| .s16 rfl <| .s4 rfl <| .s4 rfl <| .s4 rfl <| .same rfl <| .new e61 <| .new e62 <| .new e63 <| .new e64 <| .new e65 <| .new e66 <| .new e67 <| .new e68 <| .new e69 <| .s4 rfl <| .s4 rfl <| .same rfl <| .nil) ?_;clear e61 e62 e63 e64 e65 e66 e67 e68 e69;obtain⟨hT1,hT4⟩:=id hT;obtain⟨_,⟨_,h0⟩|⟨gp,pcap,pcur,rfl,hgp1,hgp2,_⟩⟩:=id hT1
       ·omega
       obtain⟨hgK,cg,S,hgh,hS1,hS2,hS3⟩:=HGS.out;have hSr:=HSK.out;have e3:=hB'.blk hSr.b3 hn3;have e5:=hB'.blk hSr.b5 hn5;have eq0:=hB'.blk hSr.bq hnq;have hw10:Tch q w' (w'.setCell ⟨q,1,none⟩ (.slice (some ⟨gp,0,none⟩) (P.length+1) pcap)):=⟨rfl,rfl,rfl,by simp[World.setCell],fun k _ hn=>heap_setCell_other w' ⟨q,1,none⟩ k _ hn⟩;have hq10:=heap_setCell_same w' q 1 _ _ (.slice (some ⟨gp,0,none⟩) (P.length+1) pcap) eq0;have x1:w'.cell? ⟨q,1,none⟩=some (.slice pa P.length pc):=by rw[cell_of_row _ _ _ _ _ (0,0) eq0];rfl
       have fz:w'.frozen? ⟨q,1,none⟩=false:=frozen_of_row _ _ _ _ _ eq0;have d1':187≠86:=by decide
       have d2':187≠45:=by decide
       have hKq':K<=q:=HKQ.out;have hKw':K<=w'.heap.size:=Nat.le_trans hKk hB'.size;have op:OwP K w' (.slice (some ⟨gp,0,none⟩) (P.length+1) pcap) (P.take i0++c::P.drop i0):=by
        have:(P.take i0++c::P.drop i0).length=P.length+1:=by simp;omega
        show w'.ownsRow K 3 1 _ _ _;rw[this,List.map_append,List.map_cons,List.map_take,List.map_drop];exact hT1
       have HNX:Hid (TkS K s q c w (.slice (some ⟨bl',0,none⟩) ls.length ls.length) (.slice (some ⟨gr,0,none⟩) (rows.length+1) rcap) (.slice (some ⟨gp,0,none⟩) (P.length+1) pcap) lng la lm lc (P.take i0++c::P.drop i0) (rows1.take i0++ls1::rows1.drop i0) lead ls1 L (w'.setCell ⟨q,1,none⟩ (.slice (some ⟨gp,0,none⟩) (P.length+1) pcap))):=(show TkS _ _ _ _ _ _ _ _ _ _ _ _ _ _ _ _ _ _ from⟨hw10.blk e3 (by have:=HQS.out;omega),hw10.blk hT4 (by have:=HQS.out;omega),hw10.blk e5 (by have:=HQS.out;omega),by simpa using hq10,(hSr.om.tch hB' hgh hS1 hS2 (fun e=>hS3 (Option.some.inj e))).tch hw10 eq0 d1' d2' HGQ.out,op.tch hw10 (fun e=>by simp only[Value.ownBlock,Option.some.injEq]at e;exact aav eq0 hgp2 (by decide) e),(hSr.ld.tch hB' hgh hS1).tch hw10 eq0 d1',(hSr.lf.tch hB' hgh hS1 hS2).tch hw10 eq0 d1' d2',(hSr.bk.trans (hB'.below hKk hgK)).trans (hw10.below hKw' hKq')⟩);have HSZ:Hid (K<=(w'.setCell ⟨q,1,none⟩ (.slice (some ⟨gp,0,none⟩) (P.length+1) pcap)).heap.size):=(show _ from Nat.le_trans hKw' hw10.size);clear hn' hd' hR' hP' hB' hT hT1 hT4 hgh hSr op hw10 hq10 e3 e5 eq0 hgp2 d1 d3 d5;go_upto_region 11 with fail
       generalize w'.setCell ⟨q,1,none⟩ (.slice (some ⟨gp,0,none⟩) (P.length+1) pcap)=wy at *
       clear HSK HOWNI HONEI HNNI HJI HJNI HGS hgI hgE hgE2 hn3 hn5 hnq x1 fz hs3 hs5 hqb hKk hsk hgp1;obtain⟨hSk,hKk⟩:_/\_:=⟨HNX.out,HSZ.out⟩;obtain⟨hs3,d3,_⟩:=aae hSk.b3;obtain⟨hs4,d4,_⟩:=aae hSk.b4;obtain⟨hs5,d5,_⟩:=aae hSk.b5;obtain⟨y,hy⟩:∃y,ls1[c]? = some y:=⟨_,List.getElem?_eq_getElem (by have:=HLL.out;omega)⟩;obtain⟨yg,ya,ym,yc,hbl,hcn,y0,y1,hyF⟩:=hSk.lf.frw hy;have HSK:=hide hSk;have HYF:=hide hyF;have HY:=hide hy;clear hSk HNX HSZ hyF hy;refine adq 5 [72,73,74,75,76] [Eqs (.pointer (some ⟨q,0,none⟩)),Eqs (.slice (some ⟨bl',0,none⟩) ls.length ls.length),Eqs (.int .i64 (c:Int)),Eqs (.pointer (some ⟨bl',0+c*2,none⟩)),Eqs (.agg #[.bool yg,.slice ya ym yc])] rfl rfl (by decide) (by kernel_rfl) (by kernel_rfl) (by decide) (by kernel_rfl) ⟨Eqs.mono _,Eqs.mono _,Eqs.mono _,Eqs.mono _,Eqs.mono _,trivial⟩ ?_ ?_
       ·exact⟨⟨rfl,fun a_ w_ _ hB hR hD=>ac4 ((hR 3 rfl).trans (aab rfl)) ((hB.cell (p:=⟨s,0,none⟩) hs3).trans d3)⟩,
          ⟨rfl,fun a_ w_ _ hB hR hD=>acu ((hR 4 rfl).trans (aab rfl)) ((hB.cell (p:=⟨s+1,0,none⟩) hs4).trans d4)⟩,
          ⟨rfl,fun a_ w_ _ hB hR hD=>ah5 ((hR 5 rfl).trans (aab rfl)) ((hB.cell (p:=⟨s+1+1,0,none⟩) hs5).trans d5)⟩,
          ⟨rfl,fun a_ w_ _ hB hR hD=>abm (show a_.eval (.tmp 73)=.slice (some ⟨bl',0,none⟩) ls.length ls.length from hD 1 rfl) rfl (show a_.eval (.tmp 74)=.int .i64 (c:Int)from hD 2 rfl) hcn⟩,
          ⟨rfl,fun a_ w_ _ hB hR hD=>ab3 (show a_.eval (.tmp 75)=.pointer (some ⟨bl',0+c*2,none⟩)from hD 3 rfl) ((hB.cell (p:=⟨bl',0+c*2,none⟩) hbl).trans y0) ((hB.cell (p:=⟨bl',0+c*2+1,none⟩) hbl).trans y1) rfl⟩,
          trivial⟩
       ·intro a' w' hn' hd' hB' hR' hP';have e72:a'.eval (.tmp 72)=.pointer (some ⟨q,0,none⟩):=hP' 0 (by decide);have e73:a'.eval (.tmp 73)=.slice (some ⟨bl',0,none⟩) ls.length ls.length:=hP' 1 (by decide);have e74:a'.eval (.tmp 74)=.int .i64 (c:Int):=hP' 2 (by decide);have e75:a'.eval (.tmp 75)=.pointer (some ⟨bl',0+c*2,none⟩):=hP' 3 (by decide);have e76:a'.eval (.tmp 76)=.agg #[.bool yg,.slice ya ym yc]:=hP' 4 (by decide);refine aat hn' hd' hR' (.s16 rfl <| .s16 rfl <| .s16 rfl <| .s16 rfl <| .s4 rfl <| .s4 rfl <| .new e72 <| .new e73 <| .new e74 <| .new e75 <| .new e76 <| .same rfl <| .same rfl <| .nil) ?_;clear e72 e73 e74 e75 e76;have hSw:=HSK.out.below hKk hB';have eq0:=hSw.bq;have yF:=Mono.of4 (FrW.mono4 _ _ _) _ _ _ hB' HYF.out;have x2:w'.cell? ⟨q,2,none⟩=some (.bool lng):=by rw[cell_of_row _ _ _ _ _ (0,0) eq0];rfl
        have x3:w'.cell? ⟨q,3,none⟩=some (.slice la lm lc):=by rw[cell_of_row _ _ _ _ _ (0,0) eq0];rfl
        have f2:w'.frozen? ⟨q,2,none⟩=false:=frozen_of_row _ _ _ _ _ eq0;have f3:w'.frozen? ⟨q,3,none⟩=false:=frozen_of_row _ _ _ _ _ eq0;have hq1:=heap_setCell_same w' q 2 _ _ (.bool yg) eq0;have hq2:=heap_setCell_same _ q 3 _ _ (.slice ya ym yc) hq1;have ht:Tch q w' ((w'.setCell ⟨q,2,none⟩ (.bool yg)).setCell ⟨q,3,none⟩ (.slice ya ym yc)):=⟨rfl,rfl,rfl,by simp[World.setCell],fun k _ hn=>(heap_setCell_other _ ⟨q,3,none⟩ k _ hn).trans (heap_setCell_other w' ⟨q,2,none⟩ k _ hn)⟩;have d1':187≠86:=by decide
        have d2':187≠45:=by decide
        have hKw':K<=w'.heap.size:=Nat.le_trans hKk hB'.size;have HF:Hid (Below K w ((w'.setCell ⟨q,2,none⟩ (.bool yg)).setCell ⟨q,3,none⟩ (.slice ya ym yc))/\BasO K ((w'.setCell ⟨q,2,none⟩ (.bool yg)).setCell ⟨q,3,none⟩ (.slice ya ym yc)) q (P.take i0++c::P.drop i0) (rows1.take i0++ls1::rows1.drop i0) y L):=(show _/\_ from⟨hSw.bk.trans (ht.below hKw' HKQ.out),_,_,_,_,_,_,by simpa using hq2,hSw.om.tch ht eq0 d1' d2' HGQ.out,hSw.op.tch ht (fun e=>hSw.op.ne' eq0 (by decide) e),yF.tch ht eq0 d1',HKQ.out,fun e=>by simp at e⟩);clear hn' hd' hR' hP' hB' hSw eq0 yF hq1 hq2 ht;go_wp2;refine bodyPost_end (v:=.tuple #[]) (by simp[results,Tryz.results177,go_sem];try rfl) rfl ⟨rfl,HF.out.1,?_⟩;rw[HO.out,hls1,hrows1,show ls1.getD c 0=y by rw[List.getD_eq_getElem?_getD,HY.out];rfl];exact HF.out.2
end Lm
namespace Lm
open Go Go.RowKit Md
def fnR(zs:List Int):Md.Rw:=fun c=>zs.getD c 0
def baR(R:List Md.Rw)(Q:List Nat)(n:Nat):List (List Int):=Q.reverse.map (fun p=>gRow (fun k=>D R (sub p k Q)) n)
theorem adm{g:Nat->Int}{n k:Nat}(h:k<n):(gRow g n).getD k 0=g k:=by rw[List.getD_eq_getElem?_getD,abd h];rfl
theorem adr{g h:Nat->Int}{n:Nat}(e:∀k,k<n->g k=h k):gRow g n=gRow h n:=List.map_congr_left fun k hk=>e k (List.mem_range.1 hk)
theorem ajw(zs:List Int)(c:Nat)(h:Nat->Int)(F:Nat->List Int):∀(P:List Nat) (s:Int),(∀p∈P,(F p).getD c 0=h p)->(P.zip (P.map F)).foldl (lstep zs c) s=s-sumL (fun p=>zs.getD p 0*h p) P
 | [],s,_=>by simp[sumL]
 |p::P,s,hF=>by
  rw[List.map_cons,List.zip_cons_cons,List.foldl_cons,ajw zs c h F P _ (fun q hq=>hF q (by simp[hq])),sumL,lstep,hF p (by simp)];show s-zs.getD p 0*h p-sumL (fun p=>zs.getD p 0*h p) P=s-(zs.getD p 0*h p+sumL (fun p=>zs.getD p 0*h p) P);omega
theorem afs(f:Nat->Int):∀(l m:List Nat),sumL f (l++m)=sumL f l+sumL f m
 | [],m=>by simp[sumL]
 |x::l,m=>by rw[List.cons_append,sumL,sumL,afs f l m];omega
theorem afa(f:Nat->Int):∀(l:List Nat),sumL f l.reverse=sumL f l
 | []=>rfl
 |x::l=>by rw[List.reverse_cons,afs,afa f l,sumL,sumL,sumL];omega
theorem anm{R:List Md.Rw}{Q:List Nat}(hn:Q.Nodup)(zs:List Int)(n:Nat):lftR (D R Q) zs Q.reverse (baR R Q n) n=gRow (fun k=>D (fnR zs::R) (k::Q)) n:=by
 apply adr;intro c hc;show lft (D R Q) zs Q.reverse (baR R Q n) c (zs.getD c 0)=_;unfold lft;by_cases hcQ:c∈Q
 ·rw[if_pos (List.mem_reverse.2 hcQ),ahj _ hcQ]
 ·rw[if_neg (fun h=>hcQ (List.mem_reverse.1 h)),baR,ajw zs c (fun p=>D R (sub p c Q)) _ _ _ (fun p _=>adm hc),afa,ah7 R (fnR zs) hn c];rfl
theorem avi{Q:List Nat}{c i0:Nat}(h:Plc Q.reverse c i0)(hc:c∉Q):Q=(Q.reverse.drop i0).reverse++(Q.reverse.take i0).reverse/\(∀x∈(Q.reverse.drop i0).reverse,c<x)/\(∀x∈(Q.reverse.take i0).reverse,x<c)/\(Q.reverse.drop i0).reverse.length=Q.reverse.length-i0:=by
 refine⟨?_,fun x hx=>?_,fun x hx=>?_,by simp⟩
 ·rw[<-List.reverse_append,List.take_append_drop,List.reverse_reverse]
 ·rw[List.mem_reverse]at hx;obtain⟨k,hk⟩:=List.getElem?_of_mem hx;rw[List.getElem?_drop]at hk;have h1:=h.hi (i0+k) x (by omega) hk;have h2:x∈Q:=by have:=List.mem_of_getElem? hk;exact List.mem_reverse.1 this
  have:x≠c:=fun e=>hc (by rw[<-e];exact h2)
  omega
 ·rw[List.mem_reverse]at hx;obtain⟨k,hk⟩:=List.getElem?_of_mem hx;have hlt:k<i0:=by
   have:=(List.getElem?_eq_some_iff.1 hk).1;rw[List.length_take]at this;omega
  rw[List.getElem?_take_of_lt hlt]at hk;exact h.lo k x hlt hk
theorem ai7(g:Nat->Int)(f:Int->Int)(n:Nat):(gRow g n).map f=gRow (fun k=>f (g k)) n:=by simp[gRow]
theorem ax1{cols n:Nat}{R:List Md.Rw}{Q:List Nat}(G:Gat cols R Q){x:Md.Rw}{c i0:Nat}(hcn:c<n)(hc:c<cols)(h0:∀k,k<c->D (x::R) (k::Q)=0)(hne:D (x::R) (c::Q)≠0)(hp:Plc Q.reverse c i0){ls ms:List Int}{P' Q':List Nat}(hls:ls=gRow (fun k=>D (x::R) (k::Q)) n)(hms:ms=negs (decide ((Q.reverse.length-i0)%2=1)) ls)(hP':P'=Q.reverse.take i0++c::Q.reverse.drop i0)(hQ':Q'=P'.reverse):
  Gat cols (x::R) Q'/\P'=Q'.reverse/\ms.getD c 0=D (x::R) Q'/\((baR R Q n).map (tkR ms c (D R Q) n)).take i0++ms::((baR R Q n).map (tkR ms c (D R Q) n)).drop i0=baR (x::R) Q' n/\ms=gRow (fun k=>D (x::R) (sub c k Q')) n/\∀p∈Q,tkR ms c (D R Q) n (gRow (fun k=>D R (sub p k Q)) n)=gRow (fun k=>D (x::R) (sub p k Q')) n:=by
 have hcQ:c∉Q:=Gat.not_mem hne;obtain⟨s1,s2,s3,s4⟩:=avi hp hcQ;obtain⟨g1,g2,g3,g4⟩:=G.take hc h0 hne s1 s2 s3;have eQ:Q'=(Q.reverse.drop i0).reverse++c::(Q.reverse.take i0).reverse:=by
  rw[hQ',hP',List.reverse_append,List.reverse_cons,List.append_assoc];rfl
 rw[<-eQ]at g1 g2 g3 g4;have eM:ms=gRow (fun k=>D (x::R) (sub c k Q')) n:=by
  rw[hms,hls];have:(fun k=>D (x::R) (sub c k Q'))=fun k=>sgn (Q.reverse.length-i0)*D (x::R) (k::Q):=funext fun k=>by rw[g2 k,s4]
  rw[this,a27];unfold negs;by_cases ho:(Q.reverse.length-i0)%2=1
  ·rw[if_pos (by simpa using ho),ai7];apply adr;intro k _;rw[if_pos ho];omega
  ·rw[if_neg (by simpa using ho)];apply adr;intro k _;rw[if_neg ho];omega
 have eC:ms.getD c 0=D (x::R) Q':=by rw[eM,adm hcn,sub_self]
 have eT:∀p∈Q,tkR ms c (D R Q) n (gRow (fun k=>D R (sub p k Q)) n)=gRow (fun k=>D (x::R) (sub p k Q')) n:=by
  intro p hpQ;unfold tkR;apply adr;intro k hk;rw[eC,adm hk,adm hcn,eM,adm hk,<-g4 p hpQ k];exact Int.mul_ediv_cancel_left _ G.ne
 refine⟨g1,by rw[hQ',List.reverse_reverse],eC,?_,eM,eT⟩;have e1:(baR R Q n).map (tkR ms c (D R Q) n)=Q.reverse.map (fun p=>gRow (fun k=>D (x::R) (sub p k Q')) n):=by
  unfold baR;rw[List.map_map];apply List.map_congr_left;intro p hpQ;exact eT p (List.mem_reverse.1 hpQ)
 have e2:baR (x::R) Q' n=P'.map (fun p=>gRow (fun k=>D (x::R) (sub p k Q')) n):=by
  unfold baR;rw[hQ',List.reverse_reverse]
 rw[e1,e2,hP',List.map_append,List.map_cons,List.map_take,List.map_drop,<-eM]
theorem D_le{X N:Nat}: ∀(R:List Md.Rw) (cs:List Nat),(∀x∈R,∀c∈cs,((x c).natAbs:Int)<=X)->cs.length<=N->((D R cs).natAbs:Int)<=((N*X) ^ R.length:Nat)
 | [],cs,_,_=>by
  show((if cs = [] then(1:Int)else 0).natAbs:Int)<=_;by_cases h:cs = [] <;> simp[h]
 |x::R,cs,hx,hN=>by
  have hlen:∀l:List Nat,(∀c∈l,c∈cs)->((if l.length<=N then D R l else 0).natAbs:Int)<=((N*X) ^ R.length:Nat):=fun l hl=>by
   by_cases h:l.length<=N
   ·rw[if_pos h];exact D_le R l (fun y hy c hc=>hx y (by simp[hy]) c (hl c hc)) h
   ·rw[if_neg h];exact Int.natCast_nonneg _
  have h1:=w_le (x:=x) (g:=fun l=>if l.length<=N then D R l else 0) (X:=X) (G:=((N*X) ^ R.length:Nat)) N (by omega) (by omega) cs (fun c hc=>hx x (by simp) c hc) hlen hN;have h2:∀(l:List Nat) (p:List Nat),p.length+l.length<=N->w x (fun m=>(if (p++m).length<=N then D R (p++m)else 0)) l=w x (fun m=>D R (p++m)) l:=by
   intro l;induction l with
   |nil=>intro p _;rfl
   |cons c l ih=>
    intro p hp;simp only[List.length_cons]at hp;have h3:=ih (p ++ [c]) (by simp;omega);simp only[List.append_assoc,List.singleton_append]at h3;simp only[w];rw[h3,if_pos (by simp;omega)]
  have h3:=h2 cs [] (by simpa using hN);simp only[List.nil_append]at h3;rw[h3]at h1;show((w x (D R) cs).natAbs:Int)<=_;refine Int.le_trans h1 ?_;rw[List.length_cons,Nat.pow_succ];have:(N:Int)*((X:Int)*(((N*X) ^ R.length:Nat):Int))=(((N*X) ^ R.length*(N*X):Nat):Int):=by
   push_cast
   grind
  omega
end Lm
namespace Lm
open Go Go.RowKit Md
theorem a3d{P:List Nat}(h:P.Pairwise (·<·))(c:Nat):∃i0,Plc P c i0:=by
 induction P with
 |nil=>exact⟨0,⟨Nat.le_refl _,fun k p hk=>(by omega),fun k p _ hp=>(by simp at hp)⟩⟩
 |cons q P ih=>
  obtain⟨h1,h2⟩:=List.pairwise_cons.1 h;by_cases hq:q<c
  ·obtain⟨i,hi⟩:=ih h2;refine⟨i+1,⟨by simp;exact hi.le,fun k p hk hp=>?_,fun k p hk hp=>?_⟩⟩
   ·cases k with
    |zero=>simp at hp;omega
    |succ k=>exact hi.lo k p (by omega) (by simpa using hp)
   ·cases k with
    |zero=>omega
    |succ k=>exact hi.hi k p (by omega) (by simpa using hp)
  ·refine⟨0,⟨Nat.zero_le _,fun k p hk=>(by omega),fun k p _ hp=>?_⟩⟩;have:p∈q::P:=List.mem_of_getElem? hp;rcases List.mem_cons.1 this with rfl|hm
   ·omega
   ·have:=h1 p hm;omega
theorem avj(a:Nat):∀m:Nat,pw (m*a)=pw a ^ m
 |0=>by simp[pw]
 |m+1=>by rw[Nat.succ_mul,ab1,avj a m,Int.pow_succ]
def lg(L0:Nat):Nat:=33*(L0+1)+1
theorem ann{L0:Nat}{R:List Md.Rw}{cs:List Nat}(hx:∀x∈R,∀c,((x c).natAbs:Int)<pw L0)(hR:R.length<=33)(hc:cs.length<=33):((D R cs).natAbs:Int)<pw (lg L0):=by
 have hp:=aag L0;obtain⟨X,hX⟩:∃X:Nat,pw L0=X:=⟨(pw L0).toNat,by omega⟩;have h1:=D_le (X:=X) (N:=33) R cs (fun x h c _=>by have:=hx x h c;omega) hc;have h2:((33*X) ^ R.length:Nat)<=(33*X) ^ 33:=Nat.pow_le_pow_right (by omega) hR;have h3:(((33*X) ^ 33:Nat):Int)<=pw (33*(L0+1)):=by
  rw[avj,Int.natCast_pow];have e1:((33*X:Nat):Int)<=pw (L0+1):=by
   show _<=4294967296*pw L0;omega
  obtain⟨Y,hY⟩:∃Y:Nat,pw (L0+1)=Y:=⟨(pw (L0+1)).toNat,by have:=aag (L0+1);omega⟩;rw[hY]at e1 ⊢;have:=Nat.pow_le_pow_left (show 33*X<=Y by omega) 33;rw[<-Int.natCast_pow,<-Int.natCast_pow];omega
 have h4:pw (lg L0)=4294967296*pw (33*(L0+1)):=rfl;have h5:=aag (33*(L0+1));rw[h4];omega
structure GatI (n cols:Nat) (rows:List (List Int)) (k:Nat) (R:List Md.Rw) (Q:List Nat) (torn:Bool):Prop where
 gat:Gat cols R Q
 len:R.length=Q.length
 sub:∀x∈R,∃r∈rows.take k,x=fnR r
 inr:torn=false->∀r∈rows.take k,RS R (fnR r)
 tor:torn=true->∃y,(∀c,c<cols->y c=0)/\(∃c,c<n/\y c≠0)/\RS (rows.map fnR) y
 sl:R.reverse.Sublist ((rows.take k).map fnR)
theorem acg{zs:List Int}{N:Int}(h:∀z∈zs,(z.natAbs:Int)<N)(hN:0<N)(c:Nat):((fnR zs c).natAbs:Int)<N:=by
 unfold fnR;rw[List.getD_eq_getElem?_getD];cases e:zs[c]? with
 |none=>simpa using hN
 |some z=>exact h z (List.mem_of_getElem? e)
theorem acc{zs:List Int}{c:Nat}(h:zs.length<=c):fnR zs c=0:=by
 unfold fnR;rw[List.getD_eq_getElem?_getD,List.getElem?_eq_none h];rfl
theorem ajx{R:List Md.Rw}{y:Md.Rw}(h:Sp R y){c:Nat}(hc:∀x∈R,x c=0):y c=0:=by
 induction h with
 |zero=>rfl
 |add a x y hx _ ih=>show a*x c+y c=0;rw[hc x hx,ih];simp
theorem aia{Q:List Nat}{cols:Nat}(h:Q.Pairwise (· > ·))(hl:∀q∈Q,q<cols):Q.length<=cols:=by
 induction Q generalizing cols with
 |nil=>exact Nat.zero_le _
 |cons q Q ih=>
  obtain⟨h1,h2⟩:=List.pairwise_cons.1 h;have:=ih h2 (fun x hx=>h1 x hx);have:=hl q (by simp);simp;omega
theorem GatI.start(n cols:Nat)(rows:List (List Int)):GatI n cols rows 0 [] [] false:=
 ⟨a0y cols,rfl,fun x hx=>(by cases hx),fun _ r hr=>(by simp at hr),fun h=>(by cases h),List.nil_sublist _⟩
theorem GatI.asc{n cols:Nat}{rows:List (List Int)}{k:Nat}{R:List Md.Rw}{Q:List Nat}{torn:Bool}(h:GatI n cols rows k R Q torn):Q.reverse.Pairwise (·<·):=by
 rw[List.pairwise_reverse];exact h.gat.desc.imp (fun h=>h)
theorem GatI.shp{n cols:Nat}{rows:List (List Int)}{k:Nat}{R:List Md.Rw}{Q:List Nat}{torn:Bool}(h:GatI n cols rows k R Q torn)(hc:cols<=n)(hn:cols<=32):Shp n Q.reverse (baR R Q n):=by
 refine⟨fun r hr=>?_,fun p hp=>?_,by simp[baR],?_⟩
 ·obtain⟨p,_,rfl⟩:=List.mem_map.1 hr;exact aao _ _
 ·have:=h.gat.lt p (List.mem_reverse.1 hp);omega
 ·have:=aia h.gat.desc h.gat.lt;simp;omega
theorem abl{α:Type}{l:List α}{k:Nat}{x:α}(h:l[k]? = some x){y:α}: y∈l.take (k+1)↔y∈l.take k\/y=x:=by
 rw[List.take_add_one,h,List.mem_append];simp
theorem ag7{α β:Type}(f:α->β){l:List α}{k:Nat}{x:α}(h:l[k]? = some x):(l.take (k+1)).map f=(l.take k).map f ++ [f x]:=by rw[List.take_add_one,h,List.map_append];rfl
theorem GatI.add{n cols:Nat}{rows:List (List Int)}{k:Nat}{R:List Md.Rw}{Q Q':List Nat}{torn:Bool}(h:GatI n cols rows k R Q torn){r:List Int}(hr:rows[k]? = some r)(G:Gat cols (fnR r::R) Q')(hl:Q'.length=Q.length+1):GatI n cols rows (k+1) (fnR r::R) Q' torn:=by
 refine⟨G,by rw[List.length_cons,h.len,hl],fun x hx=>?_,fun ht s hs=>?_,h.tor,by rw[List.reverse_cons,ag7 fnR hr];exact h.sl.append (List.Sublist.refl _)⟩
 ·rcases List.mem_cons.1 hx with rfl|hx
  ·exact⟨r,(abl hr).2 (.inr rfl),rfl⟩
  ·obtain⟨s,h1,h2⟩:=h.sub x hx;exact⟨s,(abl hr).2 (.inl h1),h2⟩
 ·rcases(abl hr).1 hs with h1|rfl
  ·exact(h.inr ht s h1).trans (fun y hy=>.mem (by simp[hy]))
  ·exact .mem (by simp)
theorem GatI.pass{n cols:Nat}{rows:List (List Int)}{k:Nat}{R:List Md.Rw}{Q:List Nat}{torn:Bool}(h:GatI n cols rows k R Q torn){r:List Int}(hr:rows[k]? = some r)(hrn:∀s∈rows,s.length=n)(hz:∀c,c<cols->D (fnR r::R) (c::Q)=0):GatI n cols rows (k+1) R Q (torn||(gRow (fun c=>D (fnR r::R) (c::Q)) n).any (fun z=>decide (z≠0))):=by
 have hout:∀c,n<=c->D (fnR r::R) (c::Q)=0:=fun c hc=>by
  refine ajx (af1 (fnR r::R) Q) (fun x hx=>?_);rcases List.mem_cons.1 hx with rfl|hx
  ·exact acc (by rw[hrn r (List.mem_of_getElem? hr)];exact hc)
  ·obtain⟨s,h1,rfl⟩:=h.sub x hx;exact acc (by rw[hrn s (List.mem_of_mem_take h1)];exact hc)
 refine⟨h.gat,h.len,fun x hx=>?_,fun ht s hs=>?_,fun ht=>?_,by rw[ag7 fnR hr];exact h.sl.trans (List.sublist_append_left _ _)⟩
 ·obtain⟨s,h1,h2⟩:=h.sub x hx;exact⟨s,(abl hr).2 (.inl h1),h2⟩
 ·rw[Bool.or_eq_false_iff]at ht;rcases(abl hr).1 hs with h1|rfl
  ·exact h.inr ht.1 s h1
  ·refine akj (abc h.gat.desc) h.gat.ne (fun c=>?_);by_cases hc:c<n
   ·have:=List.any_eq_false.1 ht.2 _ (List.mem_map.2 ⟨c,List.mem_range.2 hc,rfl⟩);simpa using this
   ·exact hout c (by omega)
 ·rw[Bool.or_eq_true]at ht;rcases ht with ht|ht
  ·exact h.tor ht
  ·obtain⟨z,hz1,hz2⟩:=List.any_eq_true.1 ht;obtain⟨c,hc,rfl⟩:=List.mem_map.1 hz1;refine⟨fun c=>D (fnR r::R) (c::Q),hz,⟨c,List.mem_range.1 hc,by simpa using hz2⟩,.of ((af1 (fnR r::R) Q).mono (fun x hx=>?_))⟩;rcases List.mem_cons.1 hx with rfl|hx
   ·exact List.mem_map.2 ⟨r,List.mem_of_getElem? hr,rfl⟩
   ·obtain⟨s,h1,rfl⟩:=h.sub x hx;exact List.mem_map.2 ⟨s,List.mem_of_mem_take h1,rfl⟩
structure GaS (w:World) (n cols:Nat) (rows:List (List Int)) (L0 k:Nat) (torn:Bool) (R:List Md.Rw) (Q:List Nat) (wr:World):Prop where
 inv:GatI n cols rows k R Q torn
 bas:BasO w.heap.size wr w.heap.size Q.reverse (baR R Q n) (D R Q) (lg L0)
 bel:Below w.heap.size w wr
theorem afm{w:World}{q i:Nat}{v:Value}{cur:Array Value}{T:TypeId}(h:w.heap[q]? = some (.cells cur T (0,0)))(hv:cur[i]? = some v):w.setCell ⟨q,i,none⟩ v=w:=by
 have h1:=heap_setCell_same w q i _ _ v h;have hs:cur.setIfInBounds i v=cur:=by
  apply Array.ext_getElem?;intro j;rw[Array.getElem?_setIfInBounds];split
  ·subst i;split
   ·exact hv.symm
   ·rw[Array.getElem?_eq_none (by omega)]
  ·rfl
 rw[hs,<-h]at h1;have h2:(w.setCell ⟨q,i,none⟩ v).heap=w.heap:=by
  apply Array.ext_getElem?;intro j;by_cases e:j=q
  ·subst e;exact h1
  ·exact heap_setCell_other w ⟨q,i,none⟩ j v e
 have h3:w.setCell ⟨q,i,none⟩ v = {w with heap:=(w.setCell ⟨q,i,none⟩ v).heap}:=rfl;rw[h3,h2]
theorem a4h{w:World}{g:Nat}{rv pv:Value}{ng:Bool}{ao:Option Addr}{n c:Nat}(h:w.heap[g]? = some (.cells #[rv,pv,.bool ng,.slice ao n c] 187 (0,0))):(loadVar 187 ⟨g,0,none⟩).run Tryz.prog w=.ok (.agg #[rv,pv,.bool ng,.slice ao n c]) w:=by
 have y0:w.cell? ⟨g,0,none⟩=some rv:=by rw[cell_of_row _ _ _ _ _ (0,0) h];rfl
 have y1:w.cell? ⟨g,1,none⟩=some pv:=by rw[cell_of_row _ _ _ _ _ (0,0) h];rfl
 have y2:w.cell? ⟨g,2,none⟩=some (.bool ng):=by rw[cell_of_row _ _ _ _ _ (0,0) h];rfl
 have y3:w.cell? ⟨g,3,none⟩=some (.slice ao n c):=by rw[cell_of_row _ _ _ _ _ (0,0) h];rfl
 go_simp
theorem GaS.below{w:World}{n cols:Nat}{rows:List (List Int)}{L0 k:Nat}{torn:Bool}{R:List Md.Rw}{Q:List Nat}{wr w':World}(h:GaS w n cols rows L0 k torn R Q wr)(hb:Below wr.heap.size wr w'):GaS w n cols rows L0 k torn R Q w':=⟨h.inv,h.bas.below hb,h.bel.trans (hb.mono h.bel.size)⟩
theorem GatI.lts{n cols:Nat}{rows:List (List Int)}{k:Nat}{R:List Md.Rw}{Q:List Nat}{torn:Bool}(h:GatI n cols rows k R Q torn){N:Int}(hN:0<N)(hz:∀r∈rows,∀z∈r,(z.natAbs:Int)<N):∀x∈R,∀c,((x c).natAbs:Int)<N:=fun x hx c=>by
 obtain⟨r,hr,rfl⟩:=h.sub x hx;exact acg (hz r (List.mem_of_mem_take hr)) hN c
theorem IsM.lts{w:World}{v:Value}{rows:List (List Int)}{L:Nat}(h:IsM w v rows L):∀r∈rows,∀z∈r,(z.natAbs:Int)<pw L:=fun r hr z hz=>by
 obtain⟨i,hi⟩:=List.getElem?_of_mem hr;obtain⟨ao,cap,rfl,_⟩:=h.parts;obtain⟨b,off,u,_,_,_,hu⟩:=h.cell hi;exact abe hu z hz
theorem ax2{w1:World}{q:Nat}{x y u v u' v':Value}{T:TypeId}(h:w1.heap[q]? = some (.cells #[x,y,u,v] T (0,0))):((w1.setCell ⟨q,2,none⟩ u').setCell ⟨q,2+1,none⟩ v').heap[q]? = some (.cells #[x,y,u',v'] T (0,0)):=by
 have h1:=heap_setCell_same w1 q 2 _ _ u' h;have h2:=heap_setCell_same _ q (2+1) _ _ v' h1;simpa using h2
theorem apk(w:World)(v:Value)(rows:List (List Int))(n cols L0:Nat)(h:IsM w v rows L0)(hrn:∀r∈rows,r.length=n)(hcn:cols<=n)(hc:cols<=32)(hn:n<=33)(hL0:L0<=1510000):
  Calls Tryz.prog 164 #[v,.int .i64 (cols:Int)] w fun e w'=>∃R Q torn rv pv ng la lm lc,e=.returned (.tuple #[.agg #[rv,pv,.bool ng,.slice la lm lc],.bool torn])/\GatI n cols rows rows.length R Q torn/\OwM w.heap.size w' rv (baR R Q n) (lg L0)/\OwP w.heap.size w' pv Q.reverse/\FrW w.heap.size (D R Q) (lg L0) (.agg #[.bool ng,.slice la lm lc]) w'/\Below w.heap.size w w':=by
 have hLg:lg L0<=50000000:=by unfold lg;omega
 have hL0g:L0<=lg L0:=by unfold lg;omega
 obtain⟨va,vc,rfl,hvl⟩:=h.parts;have hb0:=hAl w (.cells #[.slice none 0 0,.slice none 0 0,.bool false,.slice none 0 0] 187);have hn0:=heap_alloc_new w (.cells #[.slice none 0 0,.slice none 0 0,.bool false,.slice none 0 0] 187);obtain⟨w0,e0⟩:∃w0,w.alloc (.cells #[.slice none 0 0,.slice none 0 0,.bool false,.slice none 0 0] 187)=w0:=⟨_,rfl⟩;rw[e0]at hb0 hn0;have E0:=hide e0;have HB0:=hide hb0;have HN0:=hide hn0;have H:=hide h;have HRN:=hide hrn;have K1:=hide (wofF w0 1 (by decide) (by decide));clear h hrn e0 hb0 hn0;go_enter Tryz.func164,Tryz.ntmps164
 go_wp2;go_step3
 go_wp2_with fail
 rw[E0.out];refine K1.out.mono ?_;rintro e w1 ⟨r1,rfl,hf1,hb1⟩;obtain⟨ng1,a1,m1,c1,rfl⟩:=hf1.agg;have hq1:=(hb1.block _ (aaa HN0.out)).trans HN0.out;have hql:=aaa hq1;have y2:w1.cell? ⟨w.heap.size,2,none⟩=some (.bool false):=by rw[cell_of_row _ _ _ _ _ (0,0) hq1];rfl
 have y3:w1.cell? ⟨w.heap.size,2+1,none⟩=some (.slice none 0 0):=by rw[cell_of_row _ _ _ _ _ (0,0) hq1];rfl
 have yf2:=frozen_of_row w1 w.heap.size 2 _ _ hq1;have yf3:=frozen_of_row w1 w.heap.size (2+1) _ _ hq1;have HQ1:=hide hq1;have HF1:=hide hf1;have HB1:=hide hb1;clear hq1 hf1 hb1 K1;go_wp2_with fail
 go_step3
 go_wp2_with fail
 have hb2:Below w.heap.size w ((w1.setCell ⟨w.heap.size,2,none⟩ (.bool ng1)).setCell ⟨w.heap.size,2+1,none⟩ (.slice a1 m1 c1)):=((HB0.out.trans (HB1.out.mono HB0.out.size)).setCell (Nat.le_refl _) _).setCell (Nat.le_refl _) _;obtain⟨w2,e2⟩:∃w2,(w1.setCell ⟨w.heap.size,2,none⟩ (.bool ng1)).setCell ⟨w.heap.size,2+1,none⟩ (.slice a1 m1 c1)=w2:=⟨_,rfl⟩;have hq2:=ax2 (u':=.bool ng1) (v':=.slice a1 m1 c1) HQ1.out;have ht2:Tch w.heap.size w1 ((w1.setCell ⟨w.heap.size,2,none⟩ (.bool ng1)).setCell ⟨w.heap.size,2+1,none⟩ (.slice a1 m1 c1)):=⟨rfl,rfl,rfl,by simp[World.setCell],fun k _ hn=>(heap_setCell_other _ ⟨w.heap.size,2+1,none⟩ k _ hn).trans (heap_setCell_other _ ⟨w.heap.size,2,none⟩ k _ hn)⟩;rw[e2]at hb2 hq2 ht2 ⊢;have hS0:GaS w n cols rows L0 0 false [] [] w2:=⟨GatI.start n cols rows,⟨_,_,_,_,_,_,hq2,⟨[],⟨rfl,.inl ⟨rfl,rfl⟩⟩,fun i u z hu=>(by simp at hu)⟩,⟨rfl,.inl ⟨rfl,rfl⟩⟩,((HF1.out.low HB0.out.size).to rfl (by unfold lg;omega)).tch ht2 HQ1.out (by decide),Nat.le_refl _,fun _=>rfl⟩,hb2⟩;have HS0:=hide hS0;have HLT:=hide H.out.lts;clear hS0 e2 hq2 ht2 hb2 y2 y3 yf2 yf3 hql HQ1 HF1 HB1;go_loopw [5,7,8,9,15] (fun tv _ _ _ iv wr=>∃(k:Nat) (torn:Bool) (R:List Md.Rw) (Q:List Nat),iv=.int .i64 k/\k<=rows.length/\tv=.bool torn/\GaS w n cols rows L0 k torn R Q wr) (fun _ _ _ _ iv _=>rows.length-(intOf iv).toNat)
 case atStart=>exact⟨0,false,[],[],rfl,Nat.zero_le _,rfl,HS0.out⟩
 case round=>
  obtain⟨k,torn,R,Q,rfl,hk,rfl,hS⟩:=hrel;have HS:=hide hS;by_cases hlt:k<rows.length
  ·obtain⟨r,hr⟩:∃r,rows[k]? = some r:=⟨_,List.getElem?_eq_getElem hlt⟩;have hrl:r.length=n:=HRN.out r (List.mem_of_getElem? hr);obtain⟨b,off,u,rfl,hbl,x0,hx⟩:=H.out.cell hr;replace x0:=(hS.bel.cell (p:=⟨b,off+k,none⟩) hbl).trans x0;have hlt':(k:Int)<(rows.length:Int):=by omega
   have hQl:=aia hS.inv.gat.desc hS.inv.gat.lt;have hRl:=hS.inv.len;have hfr:∀x∈fnR r::R,∀c,((x c).natAbs:Int)<pw L0:=fun x hx' c=>by
    rcases List.mem_cons.1 hx' with rfl|hx'
    ·exact acg (HLT.out r (List.mem_of_getElem? hr)) (by have:=aag L0;omega) c
    ·exact hS.inv.lts (by have:=aag L0;omega) HLT.out x hx' c
   have hld:=anm (R:=R) (abc hS.inv.gat.desc) r n;have KL:=alk wr w.heap.size n (lg L0) (lg L0) u r Q.reverse (baR R Q n) (D R Q) ((hx.below hS.bel).wide hL0g) hS.bas.bas hrl (hS.inv.shp hcn hc) (by omega) (by omega) (by
    rw[hld];intro z hz;obtain⟨c,_,rfl⟩:=List.mem_map.1 hz
    exact ann hfr (by simp;omega) (by simp;omega))
   rw[hld]at KL;have KL:=hide KL;obtain⟨ua,uc,rfl,_⟩:=hx.parts;have HR:=hide hr;have HRL:=hide hrl;have HFR:=hide hfr;have HQL:=hide hQl;clear hS hr hx hld hfr hrl hQl hRl;go_wp2_with fail
   refine KL.out.mono ?_;rintro e w3 ⟨r3,rfl,ho,hb3⟩;obtain⟨bl,rfl,hbl3,_⟩:=id ho;have HO:=hide ho;have HB3:=hide hb3;rw[aao]at HO ⊢;have hcn':(cols:Int)<=(n:Int):=by omega
   clear ho hb3 KL x0;go_wp2_with fail
   go_loopw [9,25] (fun _ jv wx=>∃(j:Nat),jv=.int .i64 j/\j<=cols/\(∀c,c<j->D (fnR r::R) (c::Q)=0)/\Below w3.heap.size w3 wx) (fun _ jv _=>cols-(intOf jv).toNat)
   case atStart=>exact⟨0,rfl,Nat.zero_le _,fun c hc=>absurd hc (Nat.not_lt_zero _),Below.refl _ _⟩
   case round=>
    obtain⟨j,rfl,hj,hzs,hbx⟩:=hrel;have HZS:=hide hzs;have HBX:=hide hbx;have hSx:=HS.out.below (HB3.out.trans (hbx.mono HB3.out.size));have HSX:=hide hSx;by_cases hjl:j<cols
    ·obtain⟨z,hz⟩:∃z,D (fnR r::R) (j::Q)=z:=⟨_,rfl⟩;have hzg:(gRow (fun c=>D (fnR r::R) (c::Q)) n)[j]? = some z:=by rw[abd (by omega),hz]
     obtain⟨ngx,ax,mx,cx,hbl4,_,p0,p1,hx⟩:=HO.out.frw hzg;replace p0:=(hbx.cell (p:=⟨bl,0+j*2,none⟩) hbl4).trans p0;replace p1:=(hbx.cell (p:=⟨bl,0+j*2+1,none⟩) hbl4).trans p1;rw[Nat.zero_add]at p0 p1;have hjl':(j:Int)<(cols:Int):=by omega
     have hba:=hAl wr (.cells #[.bool ngx,.slice ax mx cx] 45);have KO:=hide (ago _ z (lg L0) _ ((hx.is.ru (Ru.of_below hbx)).ru (Ru.of_below hba)) (by omega));have HBA:=hide hba;have HZ:=hide hz;clear hzs hbx hSx hzg hx hba hz;go_wp2_with fail
     refine KO.out.mono ?_;rintro e w4 ⟨rfl,hb4⟩;have HB4:=hide (HBA.out.trans (hb4.mono HBA.out.size));clear hb4 KO p0 p1;by_cases hz0:z=0
     ·have hd:decide (z≠0)=false:=decide_eq_false (fun h=>h hz0);rw[hd];clear hd;go_wp2;go_roundw
      case rel=>
       refine⟨j+1,by go_num,by omega,fun c hc'=>?_,HBX.out.trans (HB4.out.mono HBX.out.size)⟩;by_cases e:c=j
       ·subst e;rw[HZ.out,hz0]
       ·exact HZS.out c (by omega)
      case measure=>simp[intOf];omega
     ·have hd:decide (z≠0)=true:=decide_eq_true hz0;rw[hd];clear hd;have hS4:=HSX.out.below HB4.out;obtain⟨i0,hi0⟩:=a3d hS4.inv.asc j;have hT:=ax1 (n:=n) hS4.inv.gat (x:=fnR r) (c:=j) (i0:=i0) (by omega) hjl HZS.out (by rw[HZ.out];exact hz0) hi0 rfl rfl rfl rfl;obtain⟨t1,t2,t3,t4,t5,t6⟩:=hT;have hlen:(Q.reverse.take i0++j::Q.reverse.drop i0).reverse.length=Q.length+1:=by
       have:=hi0.le;simp at this ⊢;omega
      have hbd:∀r'∈baR R Q n,∀z∈tkR (negs (decide ((Q.reverse.length-i0)%2=1)) (gRow (fun c=>D (fnR r::R) (c::Q)) n)) j (D R Q) n r',(z.natAbs:Int)<pw (lg L0):=by
       intro r' hr' z' hz';obtain⟨p,hp,rfl⟩:=List.mem_map.1 hr';rw[t6 p (List.mem_reverse.1 hp)]at hz';obtain⟨c,_,rfl⟩:=List.mem_map.1 hz';have h1:=HQL.out;have h2:=HS.out.inv.len;refine ann HFR.out (by simp;omega) ?_;rw[show(sub p c (Q.reverse.take i0++j::Q.reverse.drop i0).reverse).length=_ from List.length_map ..,hlen];omega
      have KT:=avh w4 w.heap.size w.heap.size j n (lg L0) i0 (.slice (some ⟨bl,0,none⟩) n n) (gRow (fun c=>D (fnR r::R) (c::Q)) n) Q.reverse (baR R Q n) (D R Q) hS4.bas ((HO.out.below (HBX.out.trans (HB4.out.mono HBX.out.size))).low HS.out.bel.size) (aao _ _) (hS4.inv.shp hcn hc) hS4.inv.asc hi0 (by omega) (by omega) hLg hS4.bel.size hbd;rw[t3,t4]at KT;have KT:=hide KT;have HG:=hide (HS.out.inv.add HR.out t1 hlen);have HB4w:=hide hS4.bel;clear hS4 t1 t2 t3 t4 t5 t6 hbd hi0 hlen;generalize Q.reverse.take i0++j::Q.reverse.drop i0=P' at *
      go_wp2_with fail
      refine KT.out.mono ?_;rintro e w5 ⟨rfl,hb5,hBO⟩;have HX5:Hid (GaS w n cols rows L0 (k+1) torn (fnR r::R) P'.reverse w5):=(GaS.mk HG.out (by rw[List.reverse_reverse];exact hBO) (HB4w.out.trans hb5));clear hb5 hBO KT;go_wp2;go_roundw
      case rel=>exact⟨k+1,torn,_,_,by go_num,by omega,rfl,HX5.out⟩
      case measure=>simp[intOf];omega
    ·have hjl':decide ((j:Int)<(cols:Int))=false:=by simp;omega
     have hjc:j=cols:=by omega
     subst hjc;have HP:=hide (HS.out.inv.pass HR.out HRN.out HZS.out);clear hzs hbx hSx;cases torn with
     |true=>
      go_wp2;go_roundw
      case rel=>exact⟨k+1,true,R,Q,by go_num,by omega,rfl,⟨HP.out,HSX.out.bas,HSX.out.bel⟩⟩
      case measure=>simp[intOf];omega
     |false=>
      have KC:=hide (aek wr (.slice (some ⟨bl,0,none⟩) n n) (gRow (fun c=>D (fnR r::R) (c::Q)) n) (lg L0) (HO.out.is.below HBX.out) 167 alj #[] (fun z=>decide (z≠0)) (fun W z xv _ _ hx=>ago W z (lg L0) xv hx (by omega)));go_wp2_with fail
      refine KC.out.mono ?_;rintro e w6 ⟨rfl,hb6⟩;have HX6:=hide (HSX.out.below hb6);clear hb6 KC;rw[Bool.false_or]at HP;generalize (gRow (fun c=>D (fnR r::R) (c::Q)) n).any (fun z=>decide (z≠0))=tn at *
      go_wp2;go_roundw
      case rel=>exact⟨k+1,tn,R,Q,by go_num,by omega,rfl,⟨HP.out,HX6.out.bas,HX6.out.bel⟩⟩
      case measure=>simp[intOf];omega
  ·have hlt':decide ((k:Int)<(rows.length:Int))=false:=by simp;omega
   have hkn:k=rows.length:=by omega
   subst hkn;obtain⟨rv,pv,ng,la,lm,lc,hq,hM,hP,hL,_,_⟩:=hS.bas;obtain⟨ra,rc,rfl,_⟩:=hM.is.parts;obtain⟨pa,pc,rfl,_⟩:=hP.is.parts;have y0:wr.cell? ⟨w.heap.size,0,none⟩=some (.slice ra (baR R Q n).length rc):=by rw[cell_of_row _ _ _ _ _ (0,0) hq];rfl
   have y1:wr.cell? ⟨w.heap.size,1,none⟩=some (.slice pa Q.reverse.length pc):=by rw[cell_of_row _ _ _ _ _ (0,0) hq];rfl
   have y2:wr.cell? ⟨w.heap.size,2,none⟩=some (.bool ng):=by rw[cell_of_row _ _ _ _ _ (0,0) hq];rfl
   have y3:wr.cell? ⟨w.heap.size,3,none⟩=some (.slice la lm lc):=by rw[cell_of_row _ _ _ _ _ (0,0) hq];rfl
   have yf0:=frozen_of_row wr w.heap.size 0 _ _ hq;have yf1:=frozen_of_row wr w.heap.size 1 _ _ hq;have yf2:=frozen_of_row wr w.heap.size 2 _ _ hq;have yf3:=frozen_of_row wr w.heap.size 3 _ _ hq;have hql:=aaa hq;have HQ:=hide (And.intro hq (And.intro hM (And.intro hP hL)));clear hS hq hM hP hL;go_wp2;rw[Exit.noGoto_ret];have e0:=afm (i:=0) (v:=.slice ra (baR R Q n).length rc) HQ.out.1 rfl;have e1:=afm (i:=1) (v:=.slice pa Q.reverse.length pc) HQ.out.1 rfl;have e2:=afm (i:=2) (v:=.bool ng) HQ.out.1 rfl;have e3:=afm (i:=3) (v:=.slice la lm lc) HQ.out.1 rfl;rw[List.length_reverse]at e1;rw[e0,e1,e2,e3];have hlv:=a4h HQ.out.1;rw[List.length_reverse]at hlv;refine bodyPost_ret (v:=.tuple #[.agg #[.slice ra (baR R Q n).length rc,.slice pa Q.length pc,.bool ng,.slice la lm lc],.bool torn]) (ajk (g:=w.heap.size) rfl rfl hlv rfl) rfl ⟨R,Q,torn,_,_,_,_,_,_,rfl,HS.out.inv,HQ.out.2.1,?_,HQ.out.2.2.2,HS.out.bel⟩;have:=HQ.out.2.2.1;rwa[List.length_reverse]at this
end Lm
namespace Lm
open Go Go.RowKit Md
def Shaped(rows:List (List Int))(cols:Int):Prop:=0<=cols/\cols<=32/\rows.length<=64/\∀r∈rows,(r.length:Int)=cols
instance (rows:List (List Int)) (cols:Int):Decidable (Shaped rows cols):=by unfold Shaped;infer_instance
theorem aft(w:World)(v:Value)(rows:List (List Int))(L:Nat)(h:IsM w v rows L)(cols:Int):
  Calls Tryz.prog 163 #[v,.int .i64 cols] w fun e w'=>e=.returned (.bool (decide (Shaped rows cols)))/\Below w.heap.size w w':=by
 obtain⟨ao,cp,rfl,hn⟩:=h.parts;have hb:=hAl w (.cells #[.int .i64 cols] 3);have hnew:=heap_alloc_new w (.cells #[.int .i64 cols] 3);obtain⟨hgl,c0,_⟩:=aae hnew;have K:=ael _ _ rows L (h.below hb) _ apa #[.pointer (some ⟨w.heap.size,0,none⟩)] (fun z=>decide ((z.length:Int)≠cols)) (fun W z xv hbW _ hx=>apb W z L xv w.heap.size cols ((hbW.block _ (aaa hnew)).trans hnew) hx);have K:=hide K;have HB:=hide hb;have hmf:∀(fn:Fn) (first cap:Array Value) (w:World),(Instr.makeFunc fn first cap).run Tryz.prog w=.ok (.func fn first cap) w:=fun _ _ _ _=>rfl
 clear h hb hnew;by_cases h1:0<=cols
 ·by_cases h2:cols<=32
  ·by_cases h3:rows.length<=64
   ·have h3':((rows.length:Int)<=64):=by omega
    go_enter Tryz.func163,Tryz.ntmps163
    go_wp2_with fail
    refine K.out.mono ?_;rintro e w1 ⟨rfl,hb1⟩;have HE:Hid ((!rows.any fun z=>decide ((z.length:Int)≠cols))=decide (Shaped rows cols)):=by
     show _=_;rw[Bool.eq_iff_iff,decide_eq_true_iff,Bool.not_eq_true',List.any_eq_false];constructor
     ·intro h;exact⟨h1,h2,h3,fun r hr=>by have:=h r hr;simpa using this⟩
     ·intro h r hr;simpa using h.2.2.2 r hr
    have HB1:=hide (HB.out.trans (hb1.mono HB.out.size));clear hb1 K;generalize (rows.any fun z=>decide ((z.length:Int)≠cols))=bb at *
    go_wp2;refine bodyPost_ret (v:=_) (by simp[results,Tryz.results163,go_sem];try rfl) rfl ⟨by rw[HE.out],HB1.out⟩
   ·have h3':decide ((rows.length:Int)<=64)=false:=by simp;omega
    have HE:Hid (decide (Shaped rows cols)=false):=decide_eq_false (fun h=>h3 h.2.2.1);clear K;go_enter Tryz.func163,Tryz.ntmps163
    go_wp2;refine bodyPost_ret (v:=_) (by simp[results,Tryz.results163,go_sem];try rfl) rfl ⟨by rw[HE.out],HB.out⟩
  ·have h2':decide (cols<=32)=false:=by simp;omega
   have HE:Hid (decide (Shaped rows cols)=false):=decide_eq_false (fun h=>h2 h.2.1);clear K;go_enter Tryz.func163,Tryz.ntmps163
   go_wp2;refine bodyPost_ret (v:=_) (by simp[results,Tryz.results163,go_sem];try rfl) rfl ⟨by rw[HE.out],HB.out⟩
 ·have h1':decide (cols≥0)=false:=by simp;omega
  have HE:Hid (decide (Shaped rows cols)=false):=decide_eq_false (fun h=>h1 h.1);clear K;go_enter Tryz.func163,Tryz.ntmps163
  go_wp2;refine bodyPost_ret (v:=_) (by simp[results,Tryz.results163,go_sem];try rfl) rfl ⟨by rw[HE.out],HB.out⟩
theorem ORow.grown{K:Nat}{w w':World}{v u:Value}{n:Nat}{xs:List Value}{z:List Int}{L:Nat}(h:ORow K w u z L)(ho:w.ownsRow K 39 1 v n xs)(hg:w.grownBy w' v.ownBlock):ORow K w' u z L:=by
 obtain⟨_,⟨rfl,_⟩|⟨g,cap,cur,rfl,_,hh,_⟩⟩:=ho
 ·exact h.below ((Below.refl _ _).grown hg (Nat.le_refl _) (fun k hk=>by cases hk))
 ·exact h.tch (Tch.of_grown hg (fun k hk=>(Option.some.inj hk).symm)) hh (by decide) (by decide)
theorem OwM.app{K:Nat}{w w':World}{v v' u:Value}{rows:List (List Int)}{vs:List Value}{z:List Int}{L:Nat}(hv:w.ownsRow K 39 1 v rows.length vs)(hr:∀(i:Nat) (u:Value) (z:List Int),vs[i]? = some u->rows[i]? = some z->ORow K w u z L)(hu:ORow K w u z L)(ho:w'.ownsRow K 39 1 v' (rows.length+1) (vs ++ [u]))(hg:w.grownBy w' v.ownBlock):OwM K w' v' (rows ++ [z]) L:=by
 have hvl:vs.length=rows.length:=by simpa using hv.1
 refine⟨vs ++ [u],by simpa using ho,fun i x y hx hy=>?_⟩;by_cases hi:i<rows.length
 ·rw[List.getElem?_append_left (by omega)]at hx hy;exact(hr i x y hx hy).grown hv hg
 ·by_cases he:i=rows.length
  ·subst he;rw[List.getElem?_append_right (Nat.le_refl _)]at hy;rw[List.getElem?_append_right (by omega),hvl]at hx;simp at hx hy;subst hx hy;exact hu.grown hv hg
  ·rw[List.getElem?_eq_none (by simp;omega)]at hy;cases hy
theorem avk(W:World)(g0:Nat)(hg0:W.heap.size=g0)(k g:Nat)(x y:Int)(xv:Value)(L M:Nat)(ng:Bool)(ao:Option Addr)(m c:Nat)(hg:W.heap[g]? = some (.cells #[.bool ng,.slice ao m c] 45 (0,0)))(hy:IsW y L (.agg #[.bool ng,.slice ao m c]) W)(hx:IsW x L xv W)(hL:L<=400000000)(hM:((x/y).natAbs:Int)<pw M):
  Calls Tryz.prog 182 #[.int .i64 (k:Int),xv,.pointer (some ⟨g,0,none⟩)] W fun e W'=>∃v,e=.returned v/\FrW g0 (x/y) M v W'/\Below g0 W W':=by
 obtain⟨nx,ax,mx,cx,xs,rfl,_⟩:=id hx;have hb5:Below W.heap.size W ((W.alloc (.cells #[.bool nx,.slice ax mx cx] 45)).alloc (.cells #[.bool false,.slice none 0 0] 45)):=by(repeat' first|with_reducible(first|exact Below.refl _ _|assumption|refine gdrewN ?_ _|refine Below.alloc ?_ ?_ _|refine Below.drew ?_|refine Below.setCell ?_ ?_ _)|go_size)
 have hz5:((W.alloc (.cells #[.bool nx,.slice ax mx cx] 45)).alloc (.cells #[.bool false,.slice none 0 0] 45)).heap[W.heap.size+1]? = some (.cells #[.bool false,.slice none 0 0] 45 (0,0)):=by
  have:=heap_alloc_new (W.alloc (.cells #[.bool nx,.slice ax mx cx] 45)) (.cells #[.bool false,.slice none 0 0] 45);simpa using this
 have K:=ahg _ x y _ _ L L (hx.ru (Ru.of_below hb5)) (hy.ru (Ru.of_below hb5)) hL hL;obtain⟨hgl,d0,d1,_,_⟩:=aaf hg;replace d0:=(hb5.cell (p:=⟨g,0,none⟩) hgl).trans d0;replace d1:=(hb5.cell (p:=⟨g,0+1,none⟩) hgl).trans d1;rw[hg0]at hb5 hz5;have HB5:=hide hb5;have HZ5:=hide hz5;have K:=hide K;clear hx hy hb5 hz5 hg;go_enter Tryz.func182,Tryz.ntmps182
 go_wp2_with fail
 refine K.out.mono ?_;rintro e w6 ⟨v,rfl,hf,hb6⟩;obtain⟨ng6,a6,m6,c6,rfl⟩:=hf.agg;have hz6:=(hb6.block _ (aaa HZ5.out)).trans HZ5.out;obtain⟨_,z0,z1,f0,f1⟩:=aaf hz6;have hb06:=HB5.out.trans (hb6.mono (by have:=HB5.out.size;omega));have HE:=hide (aef (K:=g0) (n:=g0) (Nat.le_succ g0) hz6 hb06 ((hf.fit hM).low (by have:=HB5.out.size;omega)));clear hf hb6 hz6 hb06 K;go_wp2;exact bodyPost_ret (v:=_) (acb (g:=g0+1) rfl rfl HE.out.2.2) rfl ⟨_,rfl,HE.out.1,HE.out.2.1⟩
theorem avl:Has Tryz.prog 182:=by unfold Has;kernel_rfl
theorem a07(zs:List Int):gRow (fun k=>zs.getD k 0/dvs zs) zs.length=red zs:=by
 apply List.ext_getElem?;intro k;unfold red;by_cases hk:k<zs.length
 ·rw[abd hk,List.getElem?_map,List.getElem?_eq_getElem hk,List.getD_eq_getElem?_getD,List.getElem?_eq_getElem hk];rfl
 ·rw[List.getElem?_eq_none (by rw[aao];omega),List.getElem?_eq_none (by simp;omega)]
end Lm
namespace Lm
open Go Go.RowKit Md
theorem infoSz:(Tryz.prog.info? 39).map (fun i=>(i.zero,i.size,i.bytes))=some (some (.slice none 0 0),1,24):=by kernel_rfl
theorem aln(w:World)(v:Value)(rows:List (List Int))(L:Nat)(h:IsM w v rows L)(hr:∀r∈rows,r.length<=1000000000)(hl:rows.length<=1000000000)(hL:L<=100000000):
  Calls Tryz.prog 168 #[v] w fun e w'=>Below w.heap.size w w'/\(((∃r∈rows,(red r).any big=true)/\e=.returned (.tuple #[.slice none 0 0,.int .i64 2]))\/((∀r∈rows,(red r).any big=false)/\∃rv,e=.returned (.tuple #[rv,.int .i64 0])/\OwM w.heap.size w' rv (rows.map red) L)):=by
 obtain⟨ao,cp,rfl,hn⟩:=h.parts;obtain⟨iW,hi,hz0,hz1,hz2⟩:=info_parts infoSz;have H:=hide h;have HR:=hide hr;have hmf:∀(fn:Fn) (first cap:Array Value) (w:World),(Instr.makeFunc fn first cap).run Tryz.prog w=.ok (.func fn first cap) w:=fun _ _ _ _=>rfl
 clear h hr;go_enter Tryz.func168,Tryz.ntmps168
 go_wp2;go_loopw [4,6,8,11] (fun ov _ _ iv wr=>∃(k:Nat),iv=.int .i64 k/\k<=rows.length/\Below w.heap.size w wr/\(∀r∈rows.take k,(red r).any big=false)/\OwM w.heap.size wr ov ((rows.take k).map red) L) (fun _ _ _ iv _=>rows.length-(intOf iv).toNat)
 case atStart=>exact⟨0,rfl,Nat.zero_le _,Below.refl _ _,fun r hr=>(by simp at hr),⟨[],World.ownsRow_nil _ _ _ _,fun i u z hu=>(by simp at hu)⟩⟩
 case round=>
  obtain⟨k,rfl,hk,hbw,hall,hO⟩:=hrel;obtain⟨oa,oc,rfl,_⟩:=hO.is.parts;have HW:=hide hbw;have HA:=hide hall;have HO:=hide hO;by_cases hlt:k<rows.length
  ·obtain⟨r,hr⟩:∃r,rows[k]? = some r:=⟨_,List.getElem?_eq_getElem hlt⟩;have hrl:=HR.out r (List.mem_of_getElem? hr);obtain⟨b,off,u,rfl,hbl,x0,hx⟩:=H.out.cell hr;replace x0:=(hbw.cell (p:=⟨b,off+k,none⟩) hbl).trans x0;have hlt':(k:Int)<(rows.length:Int):=by omega
   have hx':=hx.below hbw;have KD:=hide (am8 wr u r L hx' hL);obtain⟨ua,uc,rfl,_⟩:=hx.parts;have HX:=hide hx';have HRr:=hide hr;clear hbw hall hO hx hr hx';go_wp2_with fail
   refine KD.out.mono ?_;rintro e w1 ⟨v1,rfl,h1,hb1⟩;obtain⟨ng1,a1,m1,c1,rfl⟩:∃ng ao n cap,v1=.agg #[.bool ng,.slice ao n cap]:=by obtain⟨ng,ao,cap,rs,rfl,_⟩:=h1;exact⟨_,_,_,_,rfl⟩
   have hba:=hAl w1 (.cells #[.bool ng1,.slice a1 m1 c1] 45);have hnew:=heap_alloc_new w1 (.cells #[.bool ng1,.slice a1 m1 c1] 45);have hb2:=hb1.trans (hba.mono hb1.size);have hbz:∀z∈r,((z/dvs r).natAbs:Int)<pw L:=fun z hz=>a25 (abe HX.out z hz)
   have hT:Turn (w1.alloc (.cells #[.bool ng1,.slice a1 m1 c1] 45)) 182 #[.pointer (some ⟨w1.heap.size,0,none⟩)] r L L (fun k=>r.getD k 0/dvs r):=by
    refine(show ∀(W:World) (c':Nat) (z:Int) (xv:Value),_->_->_->_ from ?_);intro W k' z xv hb hz hx;have hzd:r.getD k' 0=z:=by rw[List.getD_eq_getElem?_getD,hz];rfl
    have hbW:=hba.trans (hb.mono hba.size);have:=avk W W.heap.size rfl k' w1.heap.size z (dvs r) xv L L ng1 a1 m1 c1 ((hb.block _ (aaa hnew)).trans hnew) (h1.is.ru (Ru.of_below hbW)) hx (by omega) (hbz z (List.mem_of_getElem? hz));rw[show(fun k=>r.getD k 0/dvs r) k'=z/dvs r by show r.getD k' 0/dvs r=_;rw[hzd]];exact this
   have KT:=ad8 _ _ r L L (HX.out.below hb2) hrl _ avl _ _ hT;rw[a07]at KT;have KT:=hide KT;have HB2:=hide hb2;clear h1 hb1 hba hnew hb2 hbz hT KD x0;go_wp2_with fail
   refine KT.out.mono ?_;rintro e w3 ⟨r3,rfl,h3,hb3⟩;have hb03:=HB2.out.trans (hb3.mono HB2.out.size);have KL:=hide (axp w3 r3 (red r) L h3.is (by omega));obtain⟨bl3,rfl,_⟩:=id h3;have H3:=hide h3;have HB3:=hide hb03;have hsz3:=hb3.size;have hsz2:=HB2.out.size;clear h3 hb3 hb03 KT;generalize hw2:w1.alloc (.cells #[.bool ng1,.slice a1 m1 c1] 45)=w2 at *
   clear hw2;go_wp2_with fail
   refine KL.out.mono ?_;rintro e w4 ⟨rfl,hb4⟩;have HB4:=hide (HB3.out.trans (hb4.mono HB3.out.size));have H4:=hide ((H3.out.below hb4).low (Nat.le_trans HW.out.size hsz2));obtain⟨bb,hbb⟩:∃b,(red r).any big=b:=⟨_,rfl⟩;rw[hbb];have HBB:=hide hbb;clear hb4 KL hbb;cases bb with
   |true=>
    go_wp2;refine bodyPost_ret (v:=_) (by simp[results,Tryz.results168,go_sem];try rfl) rfl ⟨HW.out.trans (HB4.out.mono HW.out.size),.inl ⟨⟨r,List.mem_of_getElem? HRr.out,HBB.out⟩,rfl⟩⟩
   |false=>
    obtain⟨vs,hvs,hvr⟩:=HO.out.below HB4.out;have HV:=hide (And.intro hvs hvr);have hll:((rows.take k).map red).length=k:=by simp;omega
    rw[hll]at hvs;have hbl4:=hAl w4 (.cells #[.slice (some ⟨bl3,0,none⟩) (red r).length (red r).length] 39);have hlow:=Nat.le_trans HW.out.size HB4.out.size;clear hvr;go_wp2_with (at_builtin;refine wpList_append_own _ rfl (.tmp 22) (.tmp 24) 23 rfl w.heap.size 39 iW (.slice none 0 0) 1 24 Tryz.underlying23 hi hz0 hz1 hz2 rfl (by decide) _ _ _ rfl (hvs.alloc _) ⟨w4.heap.size,0,none⟩ 1 1 [.slice (some ⟨bl3,0,none⟩) (red r).length (red r).length] rfl rfl (cell_one_new _ _ _) ?c2 ?c3 ?c4 ?c5 ?_)
    case c2=>first|rfl|(intro x hx;simp at hx;subst hx;rfl)
    case c3=>unfold maxLen;omega
    case c4=>omega
    case c5=>simp;omega
    intro v5 w5 hown5 hgrow5 _;have hg4:=World.grownBy_alloc w4 (.cells #[.slice (some ⟨bl3,0,none⟩) (red r).length (red r).length] 39) (Value.slice oa k oc).ownBlock;obtain⟨hv1,hv2⟩:=HV.out;rw[hll]at hv1;have hA:=OwM.app (v:=.slice oa k oc) (rows:=(rows.take k).map red) (by rw[hll];exact hv1.alloc _) (fun i u z a b=>(hv2 i u z a b).below hbl4) (H4.out.below hbl4) (by rw[hll];exact hown5) hgrow5;have hbx:Below w.heap.size w w5:=(HW.out.trans (HB4.out.mono HW.out.size)).trans ((hbl4.mono hlow).trans ((Below.refl _ _).grown hgrow5 (Nat.le_trans hlow hbl4.size) (fun j hj=>(hv1.lt j hj).1)));have e1:(rows.take k).map red ++ [red r]=(rows.take (k+1)).map red:=by rw[List.take_add_one,HRr.out];simp
    rw[e1]at hA;have HFin:=hide (And.intro hA hbx);clear hown5 hgrow5 hg4 hv1 hv2 hA hbx hvs hbl4;go_wp2;go_roundw
    case rel=>
     refine⟨k+1,by go_num,by omega,HFin.out.2,fun r' hr'=>?_,HFin.out.1⟩;rcases(abl HRr.out).1 hr' with h|rfl
     ·exact HA.out r' h
     ·exact HBB.out
    case measure=>simp[intOf];omega
  ·have hlt':decide ((k:Int)<(rows.length:Int))=false:=by simp;omega
   have hkn:k=rows.length:=by omega
   subst hkn;rw[List.take_length]at HA HO;clear hbw hall hO;go_wp2;refine bodyPost_ret (v:=_) (by simp[results,Tryz.results168,go_sem];try rfl) rfl ⟨HW.out,.inr ⟨HA.out,_,rfl,HO.out⟩⟩
end Lm
namespace Lm
open Go Go.RowKit Md
def Ech(n:Nat)(rows:List (List Int))(R:List Md.Rw)(Q:List Nat):Prop:=GatI n n rows rows.length R Q false
theorem GatI.whole{n:Nat}{rows:List (List Int)}{k:Nat}{R:List Md.Rw}{Q:List Nat}{torn:Bool}(h:GatI n n rows k R Q torn):torn=false:=by
 cases torn with
 |false=>rfl
 |true=>
  obtain⟨y,h1,⟨c,h2,h3⟩,_⟩:=h.tor rfl;exact absurd (h1 c h2) h3
theorem OwM.low{K K':Nat}{w:World}{rv:Value}{rows:List (List Int)}{L:Nat}(h:OwM K w rv rows L)(hk:K'<=K):OwM K' w rv rows L:=by
 obtain⟨vs,h1,h2⟩:=h;exact⟨vs,anl h1 hk,fun i u z a b=>(h2 i u z a b).low hk⟩
theorem aqt(R:List Md.Rw)(Q:List Nat)(n:Nat):(baR R Q n).length=Q.length:=by simp[baR]
theorem a08{R:List Md.Rw}{Q:List Nat}{n:Nat}: ∀r∈baR R Q n,r.length=n:=by
 intro r hr;obtain⟨p,_,rfl⟩:=List.mem_map.1 hr;exact aao _ _
theorem Ech.len{n:Nat}{rows:List (List Int)}{R:List Md.Rw}{Q:List Nat}(h:Ech n rows R Q):Q.length<=n:=aia h.gat.desc h.gat.lt
theorem ahk(w:World)(v:Value)(rows:List (List Int))(n L0:Nat)(h:IsM w v rows L0)(hs:Shaped rows (n:Int))(hL0:L0<=1510000):
  Calls Tryz.prog 164 #[v,.int .i64 (n:Int)] w fun e w'=>∃R Q ra rc pa pc ng la lm lc,e=.returned (.tuple #[.agg #[.slice ra Q.length rc,.slice pa Q.length pc,.bool ng,.slice la lm lc],.bool false])/\Ech n rows R Q/\OwM w.heap.size w' (.slice ra Q.length rc) (baR R Q n) (lg L0)/\OwP w.heap.size w' (.slice pa Q.length pc) Q.reverse/\FrW w.heap.size (D R Q) (lg L0) (.agg #[.bool ng,.slice la lm lc]) w'/\Below w.heap.size w w':=by
 refine(apk w v rows n n L0 h (fun r hr=>by have:=hs.2.2.2 r hr;omega) (Nat.le_refl _) (by have:=hs.2.1;omega) (by have:=hs.2.1;omega) hL0).mono ?_;rintro e w' ⟨R,Q,torn,rv,pv,ng,la,lm,lc,rfl,hg,hM,hP,hF,hb⟩;obtain rfl:=hg.whole;obtain⟨ra,rc,rfl,_⟩:=hM.is.parts;obtain⟨pa,pc,rfl,_⟩:=hP.is.parts;rw[aqt]at hM ⊢;rw[List.length_reverse]at hP ⊢;exact⟨R,Q,ra,rc,pa,pc,ng,la,lm,lc,rfl,hg,hM,hP,hF,hb⟩
def EchOut(K:Nat)(w':World)(n L0:Nat)(rows:List (List Int))(e:Ending):Prop:=∃R Q,Ech n rows R Q/\(((∃r∈baR R Q n,(red r).any big=true)/\e=.returned (.tuple #[.slice none 0 0,.int .i64 2]))\/((∀r∈baR R Q n,(red r).any big=false)/\∃rv,e=.returned (.tuple #[rv,.int .i64 0])/\OwM K w' rv ((baR R Q n).map red) (lg L0)))
theorem ano(w:World)(v:Value)(rows:List (List Int))(n L0:Nat)(h:IsM w v rows L0)(hs:Shaped rows (n:Int))(hL0:L0<=1510000):
  Calls Tryz.prog 159 #[v,.int .i64 (n:Int)] w fun e w'=>EchOut w.heap.size w' n L0 rows e/\Below w.heap.size w w':=by
 have K0:=aft w v rows L0 h (n:Int);rw[decide_eq_true hs]at K0;have K0:=hide K0;have K1:Hid (∀w1,Below w.heap.size w w1->_):=(fun w1 hb=>ahk w1 v rows n L0 (h.below hb) hs hL0);obtain⟨ao,cp,rfl,hn⟩:=h.parts;have hn32:=hs.2.1;clear h hs;go_enter Tryz.func159,Tryz.ntmps159
 go_wp2_with fail
 refine K0.out.mono ?_;rintro e w1 ⟨rfl,hb1⟩;have K2:=hide (K1.out w1 hb1);have HB1:=hide hb1;clear hb1 K0;go_wp2_with fail
 refine K2.out.mono ?_;rintro e w2 ⟨R,Q,ra,rc,pa,pc,ng,la,lm,lc,rfl,hE,hM,hP,hF,hb2⟩;have hba:=hAl w2 (.cells #[.slice ra Q.length rc,.slice pa Q.length pc,.bool ng,.slice la lm lc] 187);have KT:=aln (w2.alloc (.cells #[.slice ra Q.length rc,.slice pa Q.length pc,.bool ng,.slice la lm lc] 187)) (.slice ra Q.length rc) (baR R Q n) (lg L0) (hM.is.below hba) (fun r hr=>by rw[a08 r hr];omega) (by rw[aqt];have:=hE.len;omega) (by unfold lg;omega);have KT:=hide KT;have HE:=hide hE;have hb02:=HB1.out.trans (hb2.mono HB1.out.size);have HB3:=hide (hb02.trans (hba.mono hb02.size));clear hE hM hP hF hb2 hba hb02 K1 K2;go_wp2_with fail
 refine KT.out.mono ?_;rintro e w3 ⟨hb3,⟨hex,rfl⟩|⟨hal,rv,rfl,hO⟩⟩
 ·have HB:=hide (HB3.out.trans (hb3.mono HB3.out.size));have HX:=hide hex;clear hb3 hex KT;go_wp2;refine bodyPost_ret (v:=_) (by simp[results,Tryz.results159,go_sem];try rfl) rfl ⟨⟨R,Q,HE.out,.inl ⟨HX.out,rfl⟩⟩,HB.out⟩
 ·have HB:=hide (HB3.out.trans (hb3.mono HB3.out.size));have HX:=hide hal;have HO:=hide (hO.low HB3.out.size);obtain⟨oa,oc,rfl,_⟩:=hO.is.parts;clear hb3 hal hO KT;go_wp2;refine bodyPost_ret (v:=_) (by simp[results,Tryz.results159,go_sem];try rfl) rfl ⟨⟨R,Q,HE.out,.inr ⟨HX.out,_,rfl,HO.out⟩⟩,HB.out⟩
end Lm
namespace Lm
open Go Go.RowKit Md
theorem Ech.rows_in{n:Nat}{rows:List (List Int)}{R:List Md.Rw}{Q:List Nat}(h:Ech n rows R Q){r:List Int}(hr:r∈rows):RS R (fnR r):=h.inr rfl r (by rw[List.take_length];exact hr)
theorem Ech.mem{n:Nat}{rows:List (List Int)}{R:List Md.Rw}{Q:List Nat}(h:Ech n rows R Q){x:Md.Rw}(hx:x∈R):∃r∈rows,x=fnR r:=by
 have:=h.sub x hx;rwa[List.take_length]at this
theorem ax3{a b:Int}(ha:a≠0)(hb:b≠0){n:Nat}{f g:Nat->Int}(h:∀k,a*f k=b*g k):red (gRow f n)=red (gRow g n):=by
 rw[<-alm a ha (gRow f n),<-alm b hb (gRow g n),ai7,ai7];congr 1;exact adr (fun k _=>h k)
theorem a09{rows:List (List Int)}: (∃r∈rows,(red r).any big=true)↔∃r∈rows.map red,r.any big=true:=by
 constructor
 ·rintro ⟨r,h1,h2⟩;exact⟨_,List.mem_map.2 ⟨r,h1,rfl⟩,h2⟩
 ·rintro ⟨r,h1,h2⟩;obtain⟨s,h3,rfl⟩:=List.mem_map.1 h1;exact⟨s,h3,h2⟩
theorem ax4{rows:List (List Int)}: (∀r∈rows,(red r).any big=false)↔∀r∈rows.map red,r.any big=false:=by
 constructor
 ·intro h r hr;obtain⟨s,h3,rfl⟩:=List.mem_map.1 hr;exact h s h3
 ·intro h r hr;exact h _ (List.mem_map.2 ⟨r,hr,rfl⟩)
end Lm
namespace Lm
open Go Go.RowKit Md
def RwM(w:World)(v:Value)(ess:List (List WE)):Prop:=∃vs:List Value,Ce w v 1 ess.length vs/\∀(i:Nat) (u:Value) (es:List WE),vs[i]? = some u->ess[i]? = some es->Rw w u es
def zsM(ess:List (List WE)):List (List Int):=ess.map (fun es=>es.map WE.z)
def lenM:List (List WE)->Nat
 | []=>0
 |es::l=>1+lenW es+lenM l
theorem apl(a b:List (List WE)):lenM (a++b)=lenM a+lenM b:=by
 induction a with
 |nil=>simp[lenM]
 |cons e a ih=>rw[List.cons_append,lenM,lenM,ih];omega
theorem ax5{ess:List (List WE)}{es:List WE}(h:es∈ess):1+lenW es<=lenM ess:=by
 induction ess with
 |nil=>cases h
 |cons e l ih=>
  rw[lenM];rcases List.mem_cons.1 h with rfl|h
  ·omega
  ·have:=ih h;omega
theorem RwM.below{w w':World}{v:Value}{ess:List (List WE)}(h:RwM w v ess)(hb:Below w.heap.size w w'):RwM w' v ess:=by
 obtain⟨vs,h1,h2⟩:=h;exact⟨vs,h1.below hb,fun i u es a b=>(h2 i u es a b).below hb⟩
theorem RwM.parts{w:World}{v:Value}{ess:List (List WE)}(h:RwM w v ess):∃ao cap,v=.slice ao ess.length cap/\ess.length<=9223372036854775807:=by
 obtain⟨vs,⟨ao,cap,rfl,h1,h2,_⟩,_⟩:=h;exact⟨ao,cap,rfl,by omega⟩
theorem ax6{w:World}{v:Value}{es:List WE}(h:Rw w v es){L:Nat}(hl:lenW es<=L):IsRow w v (es.map WE.z) L:=by
 refine⟨es,h,rfl,fun e he=>?_⟩;have h1:=am6 he;have h2:=(h.sl e he).parts;omega
theorem RwM.isM{w:World}{v:Value}{ess:List (List WE)}(h:RwM w v ess){L:Nat}(hl:lenM ess<=L):IsM w v (zsM ess) L:=by
 obtain⟨vs,h1,h2⟩:=h;refine⟨vs,by unfold zsM;rw[List.length_map];exact h1,fun i u z a b=>?_⟩;unfold zsM at b;rw[List.getElem?_map]at b;obtain⟨es,hes,rfl⟩:=Option.map_eq_some_iff.1 b;exact ax6 (h2 i u es a hes) (by have:=ax5 (List.mem_of_getElem? hes);omega)
theorem Rw.slc{w:World}{v:Value}{es:List WE}(h:Rw w v es):∃a c,v=.slice a es.length c:=by
 obtain⟨⟨ao,cap,rfl,_⟩,_⟩:=h;exact⟨_,_,rfl⟩
def CanM(w:World)(v:Value)(rows:List (List Int))(L:Nat):Prop:=∃vs:List Value,Ce w v 1 rows.length vs/\∀(i:Nat) (u:Value) (z:List Int),vs[i]? = some u->rows[i]? = some z->CanRow w u z L
theorem CanM.below{w w':World}{v:Value}{rows:List (List Int)}{L:Nat}(h:CanM w v rows L)(hb:Below w.heap.size w w'):CanM w' v rows L:=by
 obtain⟨vs,h1,h2⟩:=h;exact⟨vs,h1.below hb,fun i u z a b=>(h2 i u z a b).below hb⟩
theorem CanM.parts{w:World}{v:Value}{rows:List (List Int)}{L:Nat}(h:CanM w v rows L):∃ao cap,v=.slice ao rows.length cap/\rows.length<=9223372036854775807:=by
 obtain⟨vs,⟨ao,cap,rfl,h1,h2,_⟩,_⟩:=h;exact⟨ao,cap,rfl,by omega⟩
theorem CanM.cell{w:World}{ao:Option Addr}{n cap:Nat}{rows:List (List Int)}{L i:Nat}{z:List Int}(h:CanM w (.slice ao n cap) rows L)(hz:rows[i]? = some z):∃b off u,ao=some ⟨b,off,none⟩/\b<w.heap.size/\w.cell? ⟨b,off+i,none⟩=some u/\CanRow w u z L:=by
 obtain⟨vs,⟨ao',cap',hv,h1,h2,h3,h4⟩,h5⟩:=h;obtain⟨rfl,rfl,rfl⟩:=(Value.slice.injEq .. ▸ hv);have hi:i<rows.length:=(List.getElem?_eq_some_iff.1 hz).1;obtain⟨u,hu⟩:∃u,vs[i]? = some u:=⟨_,List.getElem?_eq_getElem (by omega)⟩;rcases h4 with h4|⟨b,off,rfl,hl,hc⟩
 ·omega
 ·exact⟨b,off,u,rfl,hl,hc i u hu,h5 i u z hu hz⟩
theorem CanRow.slc{w:World}{v:Value}{z:List Int}{L:Nat}(h:CanRow w v z L):∃a c,v=.slice a z.length c:=by
 obtain⟨es,h1,h2,_⟩:=h;obtain⟨a,c,rfl⟩:=h1.slc;exact⟨a,c,by rw[h2]⟩
theorem avm:Has Tryz.prog 83:=by unfold Has;kernel_rfl
theorem asr{dst:Option Tmp}{ty:TypeId}{pos:String}{after:Array Edge}{guard:Option (Nat×Bool)}{a:Act}{w:World}{ats:Array TypeId}{i j L M:Nat}{v v':Value}{zs:List Int}(h1:a.eval (.tmp i)=v)(h2:a.eval (.tmp j)=v')(c1:CanRow w v zs L)(c2:CanRow w v' zs M):
  Does Tryz.prog {dst,op:=.call {callee:=.value (.func 83),args:=#[.tmp i,.tmp j],argTypes:=ats},type:=ty,pos,after,guard} a.eval w fun v' w'=>Below w.heap.size w w'/\Eqs (.bool true) v' w':=
 aah avm #[v,v'] (by simp[h1,h2]) ((apc w v v' zs L M c1 c2).mono fun e w' ⟨he,hb⟩=>⟨_,he,hb,rfl⟩)
theorem ahl(w:World)(v v':Value)(rows:List (List Int))(L M:Nat)(h:CanM w v rows L)(h':CanM w v' rows M):
  Calls Tryz.prog 39 #[v,v'] w fun e w'=>e=.returned (.bool true)/\Below w.heap.size w w':=by
 obtain⟨ax,cx0,rfl,hn1⟩:=h.parts;obtain⟨az,cz0,rfl,_⟩:=h'.parts;have HX:=hide h;have HZ:=hide h';obtain⟨n,hn⟩:∃n,rows.length=n:=⟨_,rfl⟩;rw[hn]at HX HZ hn1 ⊢;have HN:=hide hn;have hnn:((n:Int) != (n:Int))=false:=by simp
 clear h h' hn;go_enter Tryz.func39,Tryz.ntmps39
 go_wp2_with fail
 go_loopw [5] (fun iv wr=>∃k:Nat,iv=.int .i64 k/\k<=n/\Below w.heap.size w wr) (fun iv _=>n-(intOf iv).toNat)
 case atStart=>exact⟨0,rfl,Nat.zero_le _,Below.refl _ _⟩
 case round=>
  obtain⟨k,rfl,hk,hbw⟩:=hrel;have HW:=hide hbw;by_cases hlt:k<n
  ·have hlt':(k:Int)<(n:Int):=by omega
   obtain⟨z,hz⟩:∃z,rows[k]? = some z:=⟨_,List.getElem?_eq_getElem (by have:=HN.out;omega)⟩;obtain⟨bx,ox,ux,rfl,hlx0,x0,C1⟩:=HX.out.cell hz;obtain⟨bz,oz,uz,rfl,hlz0,z0,C2⟩:=HZ.out.cell hz;obtain⟨ax,cx,rfl⟩:=C1.slc;obtain⟨az,cz,rfl⟩:=C2.slc;have hlx:bx<wr.heap.size:=Nat.lt_of_lt_of_le hlx0 hbw.size;have hlz:bz<wr.heap.size:=Nat.lt_of_lt_of_le hlz0 hbw.size;replace x0:=(hbw.cell (p:=⟨bx,ox+k,none⟩) hlx0).trans x0;replace z0:=(hbw.cell (p:=⟨bz,oz+k,none⟩) hlz0).trans z0;replace C1:=C1.below hbw;replace C2:=C2.below hbw;obtain⟨mx,hmx⟩:∃m,z.length=m:=⟨_,rfl⟩;rw[hmx]at x0 z0 C1 C2;obtain⟨mz,hmz⟩:∃m,mx=m:=⟨_,rfl⟩;rw[hmz]at z0 C2;clear hbw hz hmx hmz;go_upto_region 6 with fail
   go_cut [26] (fun cv wx=>cv=.bool false/\Below wr.heap.size wr wx)
   case first=>
    refine a0n [17,18,19,20,21,22,23,24,25,26] [Eqs (.slice (some ⟨bx,ox,none⟩) n cx0),Eqs (.int .i64 (k:Int)),Eqs (.pointer (some ⟨bx,ox+k,none⟩)),Eqs (.slice ax mx cx),Eqs (.slice (some ⟨bz,oz,none⟩) n cz0),Eqs (.int .i64 (k:Int)),Eqs (.pointer (some ⟨bz,oz+k,none⟩)),Eqs (.slice az mz cz),Eqs (.bool true),Eqs (.bool false)] (by assumption) (by assumption) rfl (by decide) (by kernel_rfl) (by kernel_rfl) ⟨Eqs.mono _,Eqs.mono _,Eqs.mono _,Eqs.mono _,Eqs.mono _,Eqs.mono _,Eqs.mono _,Eqs.mono _,Eqs.mono _,Eqs.mono _,trivial⟩ ?_ ?_
    ·exact⟨⟨rfl,fun a_ w_ _ hB hR hD=>aal ((hR 0 rfl).trans (aab rfl))⟩,
      ⟨rfl,fun a_ w_ _ hB hR hD=>aal ((hR 5 rfl).trans (aab rfl))⟩,
      ⟨rfl,fun a_ w_ _ hB hR hD=>akh (show a_.eval (.tmp 17)=.slice (some ⟨bx,ox,none⟩) n cx0 from hD 0 rfl) rfl (show a_.eval (.tmp 18)=.int .i64 (k:Int)from hD 1 rfl) (by omega)⟩,
      ⟨rfl,fun a_ w_ _ hB hR hD=>acu (show a_.eval (.tmp 19)=.pointer (some ⟨bx,ox+k,none⟩)from hD 2 rfl) ((hB.cell (p:=⟨bx,ox+k,none⟩) hlx).trans x0)⟩,
      ⟨rfl,fun a_ w_ _ hB hR hD=>aal ((hR 1 rfl).trans (aab rfl))⟩,
      ⟨rfl,fun a_ w_ _ hB hR hD=>aal ((hR 5 rfl).trans (aab rfl))⟩,
      ⟨rfl,fun a_ w_ _ hB hR hD=>akh (show a_.eval (.tmp 21)=.slice (some ⟨bz,oz,none⟩) n cz0 from hD 4 rfl) rfl (show a_.eval (.tmp 22)=.int .i64 (k:Int)from hD 5 rfl) (by omega)⟩,
      ⟨rfl,fun a_ w_ _ hB hR hD=>acu (show a_.eval (.tmp 23)=.pointer (some ⟨bz,oz+k,none⟩)from hD 6 rfl) ((hB.cell (p:=⟨bz,oz+k,none⟩) hlz).trans z0)⟩,
      ⟨rfl,fun a_ w_ _ hB hR hD=>asr (show a_.eval (.tmp 20)=.slice ax mx cx from hD 3 rfl) (show a_.eval (.tmp 24)=.slice az mz cz from hD 7 rfl) (C1.below hB) (C2.below hB)⟩,
      ⟨rfl,fun a_ w_ _ hB hR hD=>at2 (show a_.eval (.tmp 25)=.bool true from hD 8 rfl)⟩,
      trivial⟩
    ·intro a' w' hn' hd' hB' hR' hP'
     (repeat apply Exists.intro)
     refine⟨?rel,aqj hn' hd' hR' ?fit⟩
     case fit=>repeat' (first|exact trivial|refine⟨(by first|exact .inl ⟨rfl,rfl⟩|exact .inr rfl),?_⟩)
     case rel=>exact⟨(show _=_ from hP' 9 (by decide)),hB'⟩
   case rest=>
    obtain⟨hc26,hbx⟩:=hcut;subst hc26;have HB2:=hide (HW.out.trans (hbx.mono HW.out.size));clear hbx x0 z0 C1 C2;go_wp2;go_roundw
    case rel=>exact⟨k+1,by go_num,by omega,HB2.out⟩
    case measure=>simp[intOf];omega
  ·have hlt':decide ((k:Int)<(n:Int))=false:=by simp;omega
   clear hbw;go_wp2;refine bodyPost_ret (v:=_) (by simp[results,Tryz.results39,go_sem];try rfl) rfl ⟨rfl,HW.out⟩
end Lm
namespace Lm
open Go Go.RowKit Go.ChangeShapes Go.WideShapes Go.ChangeAt Go.Deep
theorem agr(b off i:Nat):(⟨b,off,none⟩:Addr).add i=⟨b,off+i,none⟩:=by
 by_cases hi0:i=0
 ·subst hi0;simp[Addr.add]
 ·simp[Addr.add,hi0]
theorem avn{H:Type}{enc:TypeId×Value->H}{w:World}{fuel:Nat}{ao:Option Addr}{n cap:Nat}{x:DataW H×List MemPlace}(h:DataW.trod enc Tryz.prog w 0 (fun _=>true) true fuel 23 [.slice ao n cap]=some x):
  ∃ess,RwM w (.slice ao n cap) ess/\lenM ess+1<=Rows.uptoBulk x.1:=by
 rcases open_slice1 Tryz.underlying23 (by kernel_rfl) h with⟨hcs,rfl⟩|⟨a,len,cap',m,k,V,D,Pl,hcs,_,hl,hm,hmm,rfl,hall⟩
 ·obtain⟨rfl,rfl,rfl⟩:ao=none/\n=0/\cap=0:=by simpa using hcs
  exact⟨[],⟨[],⟨none,0,rfl,Nat.le_refl _,by omega,rfl,.inl rfl⟩,fun i u es hu=>by simp at hu⟩,by simp[lenM,Rows.uptoBulk]⟩
 obtain⟨rfl,rfl,rfl⟩:ao=some a/\n=len/\cap=cap':=by simpa using hcs
 simp only[if_true]at hmm;subst hmm;have each:∀i,i<m->∃es:List WE,Rw w (V i) es/\lenW es+1<=Rows.uptoBulk (D i):=by
  intro i hi;have t:=(hall i hi).2;have hv:∃b l c,V i=.slice b l c:=by
   rcases open_slice_pairs Tryz.underlying39 Tryz.underlying45 (by kernel_rfl) (by kernel_rfl) (by kernel_rfl) (by kernel_rfl) (by kernel_rfl) t with⟨hcs,_⟩|⟨a,len,cap',_,_,_,_,_,_,_,_,hcs,_⟩
   ·exact⟨none,0,0,by simpa using hcs⟩
   ·exact⟨some a,len,cap',by simpa using hcs⟩
  obtain⟨b,l,c,hv⟩:=hv;rw[hv]at t ⊢;exact am7 (x:=(D i,Pl i)) t
 obtain⟨E,hE⟩:=choose_lt each;have hlen:((List.range n).map E).length=n:=by simp
 refine⟨(List.range n).map E,⟨(List.range n).map V,⟨some a,m,by rw[hlen],by rw[hlen];exact hl,by simpa[maxLen]using hm,by simp,?_⟩,fun i u es hu he=>?_⟩,?_⟩
 ·by_cases h0:n=0
  ·exact .inl (by rw[hlen];exact h0)
  ·obtain⟨b,off,spot⟩:=a;have h1:=(hall 0 (by omega)).1;have hspot:spot=none:=by simpa[Addr.add]using World.cell?_spot h1
   subst hspot;rw[agr]at h1;refine .inr ⟨b,off,rfl,aba h1,fun j u hu=>?_⟩;have hj:j<n:=by have:=(List.getElem?_eq_some_iff.1 hu).1;simpa using this
   have h2:=(hall j (by omega)).1;rw[agr]at h2;rw[h2];simpa[hj]using hu
 ·have hi:i<n:=by have:=(List.getElem?_eq_some_iff.1 hu).1;simpa using this
  obtain rfl:V i=u:=by simpa[hi]using hu
  obtain rfl:E i=es:=by simpa[hi]using he
  exact(hE i (by omega)).1
 ·have key:∀k,k<=n->lenM ((List.range k).map E)<=Rows.uptoBulkAll ((List.range k).map D):=by
   intro k hk;induction k with
   |zero=>simp[lenM]
   |succ k ih=>
    have h1:=ih (by omega);have h2:=(hE k (by omega)).2;rw[List.range_succ,List.map_append,List.map_append,apl,ad7];simp only[List.map_cons,List.map_nil,lenM,Rows.uptoBulkAll]at h1 h2 ⊢;omega
  have:=key n (Nat.le_refl _);simp only[Rows.uptoBulk];omega
end Lm
namespace Md
end Md
namespace Lm
open Go Go.RowKit Md
def mir(rows:List (List Int)):List (List Int):=(rows.map List.reverse).reverse
theorem akp(rows:List (List Int)):(mir rows).length=rows.length:=by simp[mir]
theorem aex{rows:List (List Int)}{r:List Int}: r∈mir rows↔r.reverse∈rows:=by
 unfold mir;rw[List.mem_reverse,List.mem_map];constructor
 ·rintro ⟨s,hs,rfl⟩;rw[List.reverse_reverse];exact hs
 ·intro h;exact⟨_,h,List.reverse_reverse r⟩
theorem aey{rows:List (List Int)}{n:Nat}(h:∀r∈rows,r.length=n):∀r∈mir rows,r.length=n:=fun r hr=>by
 have:=h _ (aex.1 hr);simpa using this
theorem af6{r:List Int}{n:Nat}(h:r.length=n):fnR r.reverse=rev n (fnR r):=by
 funext c;unfold rev;by_cases hc:c<n
 ·rw[if_pos hc];unfold fnR;rw[List.getD_eq_getElem?_getD,List.getD_eq_getElem?_getD,List.getElem?_reverse (by omega),h]
 ·rw[if_neg hc];exact acc (by simp;omega)
theorem Ech.out{n:Nat}{rows:List (List Int)}{R:List Md.Rw}{Q:List Nat}(h:Ech n rows R Q)(hrn:∀r∈rows,r.length=n):∀x∈R,∀c,n<=c->x c=0:=fun x hx c hc=>by
 obtain⟨r,hr,rfl⟩:=h.mem hx;exact acc (by rw[hrn r hr];exact hc)
end Lm
namespace Lm
open Go Go.RowKit Md
theorem a4i(w:World)(a b c:Int)(e:TypeId):Nums (w.alloc (.cells #[.int .i64 a,.int .i64 b,.int .i64 c] e)) (.slice (some ⟨w.heap.size,0,none⟩) 3 3) [a,b,c]:=by
 have hn:=heap_alloc_new w (.cells #[.int .i64 a,.int .i64 b,.int .i64 c] e);refine⟨_,_,rfl,Nat.le_refl _,by simp,rfl,.inr ⟨w.heap.size,0,rfl,aaa hn,fun j x hx=>?_⟩⟩;rw[Nat.zero_add,cell_of_row _ _ _ _ _ (0,0) hn];simpa using hx
theorem row3(w:World)(a b c:Int)(h:∀z ∈ [a,b,c],-9223372036854775808<=z/\z<=9223372036854775807):Calls Tryz.prog 40 #[.slice (some ⟨w.heap.size,0,none⟩) 3 3] (w.alloc (.cells #[.int .i64 a,.int .i64 b,.int .i64 c] 3)) fun e w'=>∃ra rc,e=.returned (.slice ra 3 rc)/\CanRow w' (.slice ra 3 rc) [a,b,c] 2/\Below w.heap.size w w':=by
 have hb:=hAl w (.cells #[.int .i64 a,.int .i64 b,.int .i64 c] 3);refine(aqr _ _ [a,b,c] (a4i w a b c 3) h (by simp)).mono ?_;rintro e w' ⟨r,rfl,hc,hb'⟩;obtain⟨ra,rc,rfl⟩:=hc.slc;exact⟨ra,rc,rfl,hc,hb.trans (hb'.mono hb.size)⟩
end Lm
namespace Lm
open Go Go.RowKit
def Apt(u v:Value):Prop:=∀g,u.ownBlock=some g->v.ownBlock≠some g
theorem RwO.keep{B:Nat}{w w':World}{u v:Value}{es:List WE}{E:TypeId}{c:Nat->Array Value}(h:RwO B w v es)(hg:w.grownBy w' u.ownBlock)(hc:∀k,u.ownBlock=some k->w.heap[k]? = some (.cells (c k) E (0,0)))(hE:E≠86)(hs:Apt u v):RwO B w' v es:=by
 refine⟨h.own.kept hg ?_,fun e he=>?_⟩
 ·cases hv:v.ownBlock with
  |none=>exact .inl rfl
  |some g=>exact .inr (fun e=>hs g e.symm hv)
 ·obtain⟨ao,cap,hv,h1,h2,h3,h4⟩:=h.ow e he;refine⟨ao,cap,hv,h1,h2,h3,?_⟩;rcases h4 with h4|⟨k,off,cur,rfl,hB,hh,h5,h6⟩
  ·exact .inl h4
  ·exact .inr ⟨k,off,cur,rfl,hB,(hg.block k (aaa hh) (fun e=>aav (hc k e.symm) hh hE rfl)).trans hh,h5,h6⟩
theorem RwO.row{B:Nat}{w:World}{v:Value}{es:List WE}(h:RwO B w v es):∃c:Nat->Array Value,∀k,v.ownBlock=some k->w.heap[k]? = some (.cells (c k) 45 (0,0)):=by
 rcases h.own.2 with⟨rfl,_⟩|⟨g',cap,cur,rfl,_,hh,_⟩
 ·exact⟨fun _=>#[],fun k hk=>by simp[Value.ownBlock]at hk⟩
 ·refine⟨fun _=>cur,fun k hk=>?_⟩;simp only[Value.ownBlock,Option.some.injEq]at hk;subst hk;exact hh
theorem RwO.low{B B':Nat}{w:World}{v:Value}{es:List WE}(h:RwO B w v es)(hb:B'<=B):RwO B' w v es:=by
 refine⟨?_,fun e he=>(h.ow e he).mono hb⟩;obtain⟨h1,h2|⟨g,cap,cur,e,hg,h3⟩⟩:=h.own
 ·exact⟨h1,.inl h2⟩
 ·exact⟨h1,.inr ⟨g,cap,cur,e,Nat.le_trans hb hg,h3⟩⟩
section
end
end Lm
namespace Lm
open Go Go.RowKit Md
theorem ax7{g:Nat->Int}{n:Nat}(h:∀c,n<=c->g c=0):fnR (gRow g n)=g:=by
 funext c;by_cases hc:c<n
 ·exact adm hc
 ·rw[acc (by rw[aao];omega),h c (by omega)]
end Lm
namespace Lm
open Go Go.RowKit Md
def elR(n:Nat)(E:List (Nat×Md.Rw)):List (List Int):=E.map (fun e=>red (gRow e.2 n))
theorem akq(n:Nat)(E:List (Nat×Md.Rw)):(elR n E).length=E.length:=by simp[elR]
theorem akr(zs:List Int):(red zs).length=zs.length:=by simp[red]
theorem ad2{n:Nat}{E:List (Nat×Md.Rw)}: ∀r∈elR n E,r.length=n:=by
 intro r hr;obtain⟨e,_,rfl⟩:=List.mem_map.1 hr;rw[akr,aao]
theorem anp(R:List Md.Rw)(Q:List Nat)(n:Nat):elR n (efOf R Q)=(baR R Q n).map red:=by
 unfold elR efOf baR;rw[List.map_map,List.map_map];rfl
theorem avo{n:Nat}{E F:List (Nat×Md.Rw)}(hE:EF E)(hF:EF F)(h1:∀e∈E,RS (rowsE F) e.2)(h2:∀f∈F,RS (rowsE E) f.2):elR n E=elR n F:=by
 obtain⟨e1,e2⟩:=a0z hE hF h1 h2;have hl:E.length=F.length:=by have:=congrArg List.length e1;simpa using this
 unfold elR;apply List.ext_getElem?;intro i;rw[List.getElem?_map,List.getElem?_map];by_cases hi:i<E.length
 ·obtain⟨e,he⟩:∃e,E[i]? = some e:=⟨_,List.getElem?_eq_getElem hi⟩;obtain⟨f,hf⟩:∃f,F[i]? = some f:=⟨_,List.getElem?_eq_getElem (by omega)⟩;have hef:e.1=f.1:=by
   have:=congrArg (fun l=>l[i]?) e1;simp only[List.getElem?_map,he,hf,Option.map_some]at this;exact Option.some.inj this
  have me:=List.mem_of_getElem? he;have mf:=List.mem_of_getElem? hf;rw[he,hf,Option.map_some,Option.map_some,ax3 (hF.ne f mf) (hE.ne e me) (e2 e me f mf hef)]
 ·rw[List.getElem?_eq_none (by omega),List.getElem?_eq_none (by omega)]
theorem ajy{zs:List Int}{z:Int}(hz:z∈zs)(h:z≠0):dvs zs≠0:=fun h0=>by
 have:=akl z hz;rw[h0]at this;exact h (Int.zero_dvd.1 this)
theorem aqu{zs:List Int}: (red zs).map (dvs zs*·)=zs:=by
 unfold red;rw[List.map_map];conv=>rhs;rw[<-List.map_id zs]
 refine List.map_congr_left fun z hz=>?_
 exact Int.mul_ediv_cancel' (akl z hz)
theorem aqv(zs:List Int):((dvs zs).natAbs:Int)=gcdL zs:=by
 have:=aip zs;unfold dvs;split <;> omega
theorem a1a{zs:List Int}{z:Int}(hz:z∈zs)(h:z≠0):gcdL (red zs)=1:=by
 have hd:=ajy hz h;have h1:=ajt (dvs zs) (red zs);rw[aqu,aqv]at h1;have h2:gcdL zs≠0:=fun e=>by have:=aqv zs;omega
 have h3:gcdL zs*(gcdL (red zs)-1)=0:=by rw[Int.mul_sub,<-h1];omega
 rcases Int.mul_eq_zero.1 h3 with h|h
 ·exact absurd h h2
 ·omega
theorem aks(zs:List Int)(k:Nat):dvs zs*fnR (red zs) k=fnR zs k:=by
 have h:=congrArg (fun l=>l.getD k 0) (aqu (zs:=zs));unfold fnR;rw[<-h];simp only[List.getD_eq_getElem?_getD,List.getElem?_map];cases (red zs)[k]? <;> simp
theorem ass{zs:List Int}{p:Nat}{z:Int}(hz:zs[p]? = some z)(h:z≠0)(h0:∀k,k<p->zs.getD k 0=0):sgnL zs=Int.sign z:=by
 have stay:∀(l:List Int) (s:Int),s≠0->l.foldl (fun s z=>if s=0 then Int.sign z else s) s=s:=by
  intro l;induction l with
  |nil=>intro s _;rfl
  |cons z l ih=>intro s hs;rw[List.foldl_cons,if_neg hs];exact ih s hs
 unfold sgnL;induction zs generalizing p with
 |nil=>simp at hz
 |cons x l ih=>
  rw[List.foldl_cons,if_pos rfl];cases p with
  |zero=>
   simp only[List.getElem?_cons_zero,Option.some.injEq]at hz;subst hz;exact stay l _ (fun e=>h (Int.sign_eq_zero_iff_zero.1 e))
  |succ p=>
   have hx:x=0:=by simpa using h0 0 (by omega)
   rw[hx];exact ih (by simpa using hz) (fun k hk=>by simpa using h0 (k+1) (by omega))
structure EL (n:Nat) (P:List Nat) (rows:List (List Int)):Prop where
 len:P.length=rows.length
 asc:P.Pairwise (·<·)
 row:∀(i:Nat) (r:List Int) (p:Nat),rows[i]? = some r->P[i]? = some p->r.length=n/\p<n/\(∀k,k<p->r.getD k 0=0)/\0<r.getD p 0/\gcdL r=1
 oth:∀(i k:Nat) (s:List Int) (p:Nat),P[i]? = some p->rows[k]? = some s->k≠i->s.getD p 0=0
theorem EF.el{n:Nat}{E:List (Nat×Md.Rw)}(hE:EF E)(hn:∀e∈E,e.1<n):EL n (E.map Prod.fst) (elR n E):=by
 have at_:∀ {e:Nat×Md.Rw} {k:Nat},k<n->(gRow e.2 n).getD k 0=e.2 k:=fun {e k} hk=>by rw[List.getD_eq_getElem?_getD,abd hk];rfl
 have zero:∀ {e:Nat×Md.Rw} {k:Nat},e∈E->e.2 k=0->(red (gRow e.2 n)).getD k 0=0:=fun {e k} he h0=>by
  by_cases hk:k<n
  ·have h1:=aks (gRow e.2 n) k;have hd:dvs (gRow e.2 n)≠0:=ajy (List.mem_of_getElem? (abd (g:=e.2) (hn e he))) (hE.ne e he);have h2:fnR (gRow e.2 n) k=0:=(at_ hk).trans h0;rw[h2]at h1;rcases Int.mul_eq_zero.1 h1 with h|h
   ·exact absurd h hd
   ·exact h
  ·rw[List.getD_eq_getElem?_getD,List.getElem?_eq_none (by rw[akr,aao];omega)];rfl
 refine⟨by rw[akq,List.length_map],by rw[List.pairwise_map];exact hE.asc,fun i r p hr hp=>?_,fun i k s p hp hs hki=>?_⟩
 ·unfold elR at hr;rw[List.getElem?_map]at hr hp;obtain⟨e,he,rfl⟩:=Option.map_eq_some_iff.1 hr;rw[he]at hp;obtain rfl:=Option.some.inj hp;have me:=List.mem_of_getElem? he;have hpn:=hn e me;have hne:=hE.ne e me;have hm:=List.mem_of_getElem? (abd (g:=e.2) hpn);refine⟨by rw[akr,aao],hpn,fun k hk=>zero me (hE.led e me k hk),?_,a1a hm hne⟩;have hsg:=ass (abd (g:=e.2) hpn) hne (fun k hk=>by rw[at_ (by omega)];exact hE.led e me k hk);have h1:=aks (gRow e.2 n) e.1;have h2:fnR (gRow e.2 n) e.1=e.2 e.1:=at_ hpn;rw[h2]at h1;show 0<fnR (red (gRow e.2 n)) e.1;generalize fnR (red (gRow e.2 n)) e.1=x at *
  have hg:=aip (gRow e.2 n);have hd:=ajy hm hne;rcases Int.lt_or_gt_of_ne hne with h|h
  ·have hs:sgnL (gRow e.2 n)<0:=by rw[hsg,Int.sign_eq_neg_one_of_neg h];decide
   have hd':dvs (gRow e.2 n)<0:=by unfold dvs at hd ⊢;rw[if_pos hs]at hd ⊢;omega
   apply Classical.byContradiction;intro hx;have:=Int.mul_nonneg_of_nonpos_of_nonpos (Int.le_of_lt hd') (show x<=0 by omega);omega
  ·have hs:¬sgnL (gRow e.2 n)<0:=by rw[hsg,Int.sign_eq_one_of_pos h];decide
   have hd':0<dvs (gRow e.2 n):=by unfold dvs at hd ⊢;rw[if_neg hs]at hd ⊢;omega
   apply Classical.byContradiction;intro hx;have:=Int.mul_nonpos_of_nonneg_of_nonpos (Int.le_of_lt hd') (show x<=0 by omega);omega
 ·unfold elR at hs;rw[List.getElem?_map]at hs hp;obtain⟨f,hf,rfl⟩:=Option.map_eq_some_iff.1 hs;obtain⟨e,he,rfl⟩:=Option.map_eq_some_iff.1 hp;have mf:=List.mem_of_getElem? hf;have me:=List.mem_of_getElem? he;refine zero mf (hE.oth f mf e me (fun hfe=>hki ?_));have hfi:=(List.getElem?_eq_some_iff.1 hf).1;have hei:=(List.getElem?_eq_some_iff.1 he).1;have hpw:=List.pairwise_iff_getElem.1 hE.asc;rw[List.getElem?_eq_getElem hfi]at hf;rw[List.getElem?_eq_getElem hei]at he;obtain rfl:=Option.some.inj hf;obtain rfl:=Option.some.inj he;rcases Nat.lt_trichotomy k i with h|h|h
  ·have:=hpw k i hfi hei h;omega
  ·exact h
  ·have:=hpw i k hei hfi h;omega
end Lm
namespace Md
theorem anq(f:Nat->Int)(g:Nat->Nat):∀l:List Nat,sumL f (l.map g)=sumL (fun k=>f (g k)) l
 | []=>rfl
 |x::l=>by rw[List.map_cons,sumL,sumL,anq f g l]
theorem aib(n:Nat)(x y:Rw):dotN n (rev n x) (rev n y)=dotN n x y:=by
 unfold dotN;have e:(List.range n).reverse=(List.range n).map (fun k=>n-1-k):=by
  have:=List.reverse_range' (s:=0) (n:=n);rw[<-List.range_eq_range']at this;rw[this];exact List.map_congr_left fun k _=>by omega
 rw[<-Lm.afa (fun k=>x k*y k),e,anq];refine ac5 fun k hk=>?_
 have hk:=List.mem_range.1 hk;unfold rev;rw[if_pos hk,if_pos hk]
theorem RS.smul{S:List Rw}{x y:Rw}(h:RS S x)(d:Int)(e:∀k,y k=d*x k):RS S y:=by
 obtain⟨a,ha,h1⟩:=h;refine⟨a,ha,cast (congrArg (Sp _) (funext fun k=>?_)) (h1.smul d)⟩;rw[e]
 grind
theorem RS.div{S:List Rw}{x y:Rw}(h:RS S y){d:Int}(hd:d≠0)(e:∀k,d*x k=y k):RS S x:=by
 obtain⟨a,ha,h1⟩:=h;refine⟨a*d,Int.mul_ne_zero ha hd,cast (congrArg (Sp _) (funext fun k=>?_)) h1⟩;rw[<-e]
 grind
end Md
namespace Lm
open Go Go.RowKit Md
theorem ax8(f:Nat->Int)(n:Nat):(gRow f n).reverse=gRow (rev n f) n:=by
 apply List.ext_getElem?;intro k;by_cases hk:k<n
 ·rw[List.getElem?_reverse (by rw[aao];exact hk),aao,abd (by omega),abd hk];unfold rev;rw[if_pos hk]
 ·rw[List.getElem?_eq_none (by simp[aao];omega),List.getElem?_eq_none (by rw[aao];omega)]
def acrR(n:Nat)(R:List Md.Rw)(Q:List Nat):List (List Int):=(free n Q).map (fun c=>gRow (acr R Q c) n)
theorem a4j(n:Nat)(R:List Md.Rw)(Q:List Nat):(mir (acrR n R Q)).map red=elR n (kerE n R Q):=by
 unfold mir acrR elR kerE;rw[List.map_map,<-List.map_reverse,List.map_map,List.map_map];refine List.map_congr_left fun c _=>?_
 show red (gRow (acr R Q c) n).reverse=red (gRow (rev n (acr R Q c)) n);rw[ax8]
theorem anr{n:Nat}{R:List Md.Rw}{Q:List Nat}: ∀r∈acrR n R Q,r.length=n:=by
 intro r hr;obtain⟨c,_,rfl⟩:=List.mem_map.1 hr;exact aao _ _
theorem ax9(n:Nat)(R:List Md.Rw)(Q:List Nat):(kerE n R Q).length=(free n Q).length:=by simp[kerE]
theorem akt{n:Nat}{R:List Md.Rw}{Q:List Nat}: ∀e∈kerE n R Q,e.1<n:=by
 intro e he;obtain⟨c,hc,rfl⟩:=List.mem_map.1 he;have:=(abi.1 (List.mem_reverse.1 hc)).1;show n-1-c<n;omega
theorem ai8{n:Nat}{R:List Md.Rw}{Q:List Nat}: ∀e∈kerE n R Q,∀c,n<=c->e.2 c=0:=by
 intro e he c hc;obtain⟨d,_,rfl⟩:=List.mem_map.1 he;show rev n _ c=0;unfold rev;rw[if_neg (by omega)]
theorem aku{n:Nat}{R:List Md.Rw}{Q:List Nat}(h:∀q∈Q,q<n):∀e∈efOf R Q,e.1<n:=by
 intro e he;obtain⟨p,hp,rfl⟩:=List.mem_map.1 he;exact h p (List.mem_reverse.1 hp)
theorem Ech.ef_out{n:Nat}{rows:List (List Int)}{R:List Md.Rw}{Q:List Nat}(h:Ech n rows R Q)(hrn:∀r∈rows,r.length=n):∀e∈efOf R Q,∀c,n<=c->e.2 c=0:=fun e he c hc=>ajx (h.gat.ef_in e he) (fun x hx=>h.out hrn x hx c hc)
theorem ahm{n:Nat}{E:List (Nat×Md.Rw)}(hE:EF E)(hn:∀e∈E,e.1<n)(ho:∀e∈E,∀c,n<=c->e.2 c=0){e:Nat×Md.Rw}(he:e∈E):∃d:Int,d≠0/\(red (gRow e.2 n)∈elR n E)/\∀k,d*fnR (red (gRow e.2 n)) k=e.2 k:=by
 refine⟨dvs (gRow e.2 n),ajy (List.mem_of_getElem? (abd (g:=e.2) (hn e he))) (hE.ne e he),List.mem_map.2 ⟨e,he,rfl⟩,fun k=>?_⟩;rw[aks,ax7 (ho e he)]
end Lm
namespace Lm
open Go Go.RowKit Md
def wOf:Int->List Rat->Int
 |w,[]=>w
 |w,r::rs=>wOf (w*(((w:Rat)*r).den:Int)) rs
theorem aqw:∀(rs:List Rat) {w:Int},0<w->0<wOf w rs
 | [],_,h=>h
 |r::rs,w,h=>aqw rs (Int.mul_pos h (by have:=((w:Rat)*r).den_pos;omega))
theorem aqx:∀(rs:List Rat) (w:Int),w ∣ wOf w rs
 | [],w=>Int.dvd_refl w
 |r::rs,w=>Int.dvd_trans ⟨_,rfl⟩ (aqx rs (w*(((w:Rat)*r).den:Int)))
theorem akv(r:Rat):r*(r.den:Rat)=(r.num:Rat):=by
 have h1:=Rat.num_divInt_den r;rw[Rat.divInt_eq_div]at h1;have h2:(((r.den:Int)):Rat)≠0:=by
  have:=r.den_pos
  exact_mod_cast (show(r.den:Int)≠0 by omega)
 have h3:(((r.den:Int)):Rat)=(r.den:Rat):=rfl;rw[h3]at h1 h2;generalize (r.num:Rat)=a at *
 generalize (r.den:Rat)=b at *
 grind
theorem ahn:∀(rs:List Rat) (w:Int),∀r∈rs,∃z:Int,(wOf w rs:Rat)*r=(z:Rat)
 | [],_,r,h=>by cases h
 |x::rs,w,r,h=>by
  rcases List.mem_cons.1 h with rfl|h
  ·obtain⟨k,hk⟩:=aqx rs (w*(((w:Rat)*r).den:Int));show ∃z:Int,(wOf (w*(((w:Rat)*r).den:Int)) rs:Rat)*r=(z:Rat);rw[hk];refine⟨((w:Rat)*r).num*k,?_⟩;have h1:((w:Rat)*r)*(((w:Rat)*r).den:Rat)=(((w:Rat)*r).num:Rat):=akv _
   push_cast;rw[<-h1]
   grind
  ·exact ahn rs _ r h
def liftZ(ps:List Rat):List Int:=ps.map (fun r=>((wOf 1 ps:Rat)*r).num) ++ [-(wOf 1 ps)]
theorem abn(ps:List Rat):(liftZ ps).length=ps.length+1:=by simp[liftZ]
theorem ags(ps:List Rat):fnR (liftZ ps) ps.length = -(wOf 1 ps):=by
 rw[fnR,List.getD_eq_getElem?_getD,liftZ,List.getElem?_append_right (by simp)];simp
theorem ai9(ps:List Rat){k:Nat}{r:Rat}(h:ps[k]? = some r):(fnR (liftZ ps) k:Rat)=(wOf 1 ps:Rat)*r:=by
 have hk:=(List.getElem?_eq_some_iff.1 h).1;obtain⟨z,hz⟩:=ahn ps 1 r (List.mem_of_getElem? h);have e:fnR (liftZ ps) k=((wOf 1 ps:Rat)*r).num:=by
  rw[fnR,List.getD_eq_getElem?_getD,liftZ,List.getElem?_append_left (by simpa using hk),List.getElem?_map,h];rfl
 rw[e,hz];rfl
end Lm
namespace Lm
open Go Go.RowKit Md
theorem a1b{dst:Option Tmp}{ty:TypeId}{pos:String}{after:Array Edge}{guard:Option (Nat×Bool)}{a:Act}{w:World}{ats:Array TypeId}{i j:Nat}{x y:Int}{L M K:Nat}(h1:IsW x L (a.eval (.tmp i)) w)(h2:IsW y M (a.eval (.tmp j)) w)(hL:L<=400000000)(hM:M<=400000000)(hK:K<=w.heap.size):
  Does Tryz.prog {dst,op:=.call {callee:=.value (.func 56),args:=#[.tmp i,.tmp j],argTypes:=ats},type:=ty,pos,after,guard} a.eval w fun v w'=>Below w.heap.size w w'/\FrW K (x+y) (L+M+1) v w':=
 aah aqe #[_,_] (by simp) ((addF _ x y _ _ L M h1 h2 hL hM).mono fun e w' ⟨v,h,hf,hb⟩=>⟨v,h,hb,hf.low hK⟩)
theorem acd{l:List Int}{c:Nat}(h:c<l.length):l[c]? = some (fnR l c):=by
 unfold fnR;rw[List.getD_eq_getElem?_getD,List.getElem?_eq_getElem h];rfl
end Lm
namespace Lm
open Go Go.RowKit Md
theorem aa4(n:Nat)(x y:Md.Rw):dotN (n+1) x y=dotN n x y+x n*y n:=by
 unfold dotN;rw[List.range_succ,afs,sumL,sumL];omega
theorem aqy{x y:Md.Rw}{L:Nat}(hx:∀c,((x c).natAbs:Int)<pw L)(hy:∀c,((y c).natAbs:Int)<pw L):∀n:Nat,((dotN n x y).natAbs:Int)<=n*(pw L*pw L)
 |0=>by simp[dotN,sumL]
 |n+1=>by
  rw[aa4];have h1:=aqy hx hy n;have h2:((x n*y n).natAbs:Int)<=pw L*pw L:=by
   rw[Int.natAbs_mul,Int.natCast_mul];exact Int.mul_le_mul (by have:=hx n;omega) (by have:=hy n;omega) (by omega) (by have:=aag L;omega)
  rw[Int.natCast_add,Int.add_mul];omega
end Lm
namespace Lm
open Go Go.RowKit Md
theorem aau{n:Nat}{z:List Int}(h:z.length=n):∀c,n<=c->fnR z c=0:=fun c hc=>by
 rw[fnR,List.getD_eq_getElem?_getD,List.getElem?_eq_none (by omega)];rfl
def Perp(n:Nat)(A B:List (List Int)):Prop:=∀y:Md.Rw,(∀c,n<=c->y c=0)->(RS (A.map fnR) y↔∀b∈B,dotN n y (fnR b)=0)
theorem a1c{n:Nat}{x u v:Md.Rw}{d:Int}(h:∀k,d*u k=v k):dotN n x v=d*dotN n x u:=by
 have:=ad0 n d 0 u u x;rw[aa1 n x v,aa1 n x u,show v=fun k=>d*u k+0*u k from funext fun k=>by rw[h];omega,this];omega
theorem Perp.dot{n:Nat}{A B:List (List Int)}(h:Perp n A B)(hA:∀a∈A,a.length=n):∀a∈A,∀b∈B,dotN n (fnR a) (fnR b)=0:=fun a ha b hb=>(h (fnR a) (aau (hA a ha))).1 (.mem (List.mem_map.2 ⟨a,ha,rfl⟩)) b hb
theorem aco{n:Nat}{rows:List (List Int)}{R':List Md.Rw}{Q':List Nat}(h':Ech n (mir rows) R' Q')(hrn:∀r∈rows,r.length=n):Perp n rows (elR n (kerE n R' Q'))/\Perp n (elR n (kerE n R' Q')) rows:=by
 have hout:∀x∈R',∀c,n<=c->x c=0:=h'.out (aey hrn);have hsup:∀y:Md.Rw,∀c,n<=c->rev n y c=0:=fun y c hc=>if_neg (by omega)
 -- the kernel's rows, as numbers
 have hz:∀c∈free n Q',∃d:Int,d≠0/\red (gRow (rev n (acr R' Q' c)) n)∈elR n (kerE n R' Q')/\∀k,d*fnR (red (gRow (rev n (acr R' Q' c)) n)) k=rev n (acr R' Q' c) k:=fun c hc=>
  ahm (e:=(n-1-c,rev n (acr R' Q' c))) h'.gat.kerEF akt ai8 (List.mem_map.2 ⟨c,List.mem_reverse.2 hc,rfl⟩)
 have hz':∀z∈elR n (kerE n R' Q'),∃c∈free n Q',z=red (gRow (rev n (acr R' Q' c)) n):=fun z hz=>by
  obtain⟨e,he,rfl⟩:=List.mem_map.1 hz;obtain⟨c,hc,rfl⟩:=List.mem_map.1 he;exact⟨c,List.mem_reverse.1 hc,rfl⟩
 have hdot:∀(x:Md.Rw),(∀c,n<=c->x c=0)->∀c∈free n Q',(dotN n x (fnR (red (gRow (rev n (acr R' Q' c)) n)))=0↔dotN n (rev n x) (acr R' Q' c)=0):=fun x hx c hc=>by
  obtain⟨d,hd,_,hk⟩:=hz c hc;have h1:=a1c (n:=n) (x:=x) hk;have h2:dotN n (rev n x) (acr R' Q' c)=dotN n x (rev n (acr R' Q' c)):=by rw[<-aib n (rev n x),ad1 hx]
  rw[h2,h1];constructor
  ·intro h;rw[h,Int.mul_zero]
  ·intro h;rcases Int.mul_eq_zero.1 h with h|h
   ·exact absurd h hd
   ·exact h
 have hrows:∀x:Md.Rw,(∀c,n<=c->x c=0)->(RS (rows.map fnR) x↔RS R' (rev n x)):=fun x hx=>by
  constructor
  ·intro h;refine(ajv (n:=n) h).trans fun y hy=>?_
   obtain⟨u,hu,rfl⟩:=List.mem_map.1 hy;obtain⟨r,hr,rfl⟩:=List.mem_map.1 hu;rw[<-af6 (hrn r hr)];exact h'.rows_in (aex.2 (by rw[List.reverse_reverse];exact hr))
  ·intro h;have h2:=ajv (n:=n) h;rw[ad1 hx]at h2;refine h2.trans fun y hy=>?_
   obtain⟨u,hu,rfl⟩:=List.mem_map.1 hy;obtain⟨r,hr,rfl⟩:=h'.mem hu;rw[<-af6 (aey hrn r hr)];exact .mem (List.mem_map.2 ⟨_,aex.1 hr,rfl⟩)
 constructor
 ·intro x hx;rw[hrows x hx,ane (abc h'.gat.desc) h'.gat.ne h'.gat.lt hout (hsup x)];constructor
  ·intro h z hzm;obtain⟨c,hc,rfl⟩:=hz' z hzm;exact(hdot x hx c hc).2 (h c (abi.1 hc).1 (abi.1 hc).2)
  ·intro h c hc hcQ;have hf:=abi.2 ⟨hc,hcQ⟩;obtain⟨_,_,hm,_⟩:=hz c hf;exact(hdot x hx c hf).1 (h _ hm)
 ·intro y hy;constructor
  ·intro h r hr;refine ac9 (fun x hx=>?_) h;obtain⟨z,hzm,rfl⟩:=List.mem_map.1 hx;obtain⟨c,hc,rfl⟩:=hz' z hzm;rw[aa1];refine(hdot (fnR r) (aau (hrn r hr)) c hc).2 ?_;exact(ane (abc h'.gat.desc) h'.gat.ne h'.gat.lt hout (hsup _)).1 ((hrows _ (aau (hrn r hr))).1 (.mem (List.mem_map.2 ⟨r,hr,rfl⟩))) c (abi.1 hc).1 (abi.1 hc).2
  ·intro h;have h1:RS ((free n Q').map (acr R' Q')) (rev n y):=by
    refine au6 (abc h'.gat.desc) h'.gat.ne h'.gat.lt (hsup y) (fun x hx=>?_);obtain⟨r,hr,rfl⟩:=h'.mem hx;rw[<-ad1 (x:=fnR r) (aau (aey hrn r hr)),aib,aa1,<-af6 (aey hrn r hr)];exact h _ (aex.1 hr)
   have h2:=ajv (n:=n) h1;rw[ad1 hy]at h2;refine h2.trans fun u hu=>?_
   obtain⟨v,hv,rfl⟩:=List.mem_map.1 hu;obtain⟨c,hc,rfl⟩:=List.mem_map.1 hv;obtain⟨d,_,hm,hk⟩:=hz c hc;exact(RS.mem (List.mem_map.2 ⟨_,hm,rfl⟩)).smul d (fun k=>(hk k).symm)
def fac(n:Nat)(E:List (List Int)):List (List Int):=E.map (List.take n)
def zro(St:List (List Int)):List (List Int):=St.map (· ++ [0])
theorem ans{n:Nat}{e:List Int}{k:Nat}(hk:k<n):fnR (e.take n) k=fnR e k:=by
 rw[fnR,fnR,List.getD_eq_getElem?_getD,List.getD_eq_getElem?_getD,List.getElem?_take,if_pos hk]
theorem aic{n:Nat}{s:List Int}(h:s.length=n):fnR (s ++ [0])=fnR s:=by
 funext k;rw[fnR,fnR,List.getD_eq_getElem?_getD,List.getD_eq_getElem?_getD];rcases Nat.lt_trichotomy k n with hk|hk|hk
 ·rw[List.getElem?_append_left (by omega)]
 ·rw[List.getElem?_append_right (by omega),List.getElem?_eq_none (l:=s) (by omega)];simp[hk,h]
 ·rw[List.getElem?_eq_none (by simp;omega),List.getElem?_eq_none (by omega)]
theorem aeq{n:Nat}{x y u v:Md.Rw}(h1:∀k,k<n->x k=u k)(h2:∀k,k<n->y k=v k):dotN n x y=dotN n u v:=
 ac5 fun k hk=>by rw[h1 k (List.mem_range.1 hk),h2 k (List.mem_range.1 hk)]
theorem apm{n:Nat}{E St:List (List Int)}{p:List Int}(hp:p.length=n+1)(hS:∀s∈St,s.length=n)(hpe:∀e∈E,dotN (n+1) (fnR p) (fnR e)=0)(hp0:fnR p n≠0)(h1:Perp n St (fac n E)):Perp (n+1) (p::zro St) E:=by
 have hfe:∀e∈E,∀y:Md.Rw,y n=0->dotN (n+1) y (fnR e)=dotN n y (fnR (e.take n)):=fun e _ y hy=>by
  rw[aa4,hy,Int.zero_mul,Int.add_zero];exact aeq (fun _ _=>rfl) (fun k hk=>(ans hk).symm)
 intro y hy;constructor
 ·intro h e he;refine ac9 (fun x hx=>?_) h;rw[List.map_cons]at hx;rcases List.mem_cons.1 hx with rfl|hx
  ·exact hpe e he
  ·obtain⟨q,hq,rfl⟩:=List.mem_map.1 hx;obtain⟨s,hs,rfl⟩:=List.mem_map.1 hq;rw[aic (hS s hs),hfe e he _ (aau (hS s hs) n (Nat.le_refl _))];exact(h1 _ (aau (hS s hs))).1 (.mem (List.mem_map.2 ⟨s,hs,rfl⟩)) _ (List.mem_map.2 ⟨e,he,rfl⟩)
 ·intro h;have hz:RS (St.map fnR) (fun k=>fnR p n*y k+(-(y n))*fnR p k):=by
   refine(h1 _ (fun c hc=>?_)).2 (fun b hb=>?_)
   ·rcases Nat.eq_or_lt_of_le hc with rfl|hc
    ·grind
    ·show fnR p n*y c+-y n*fnR p c=0;rw[hy c (by omega),aau hp c (by omega)]
     grind
   ·obtain⟨e,he,rfl⟩:=List.mem_map.1 hb;rw[<-hfe e he _ (by grind),ad0,h e he,hpe e he]
    grind
  have hz2:RS ((p::zro St).map fnR) (fun k=>fnR p n*y k+(-(y n))*fnR p k):=hz.trans fun u hu=>by
   obtain⟨s,hs,rfl⟩:=List.mem_map.1 hu;rw[<-aic (hS s hs)];exact .mem (List.mem_map.2 ⟨_,List.mem_cons_of_mem _ (List.mem_map.2 ⟨s,hs,rfl⟩),rfl⟩)
  obtain⟨a,ha,hs⟩:=hz2;have hpm:Sp ((p::zro St).map fnR) (fnR p):=.mem (List.mem_map.2 ⟨p,List.mem_cons_self ..,rfl⟩);refine⟨a*fnR p n,Int.mul_ne_zero ha hp0,?_⟩;refine cast (congrArg (Sp _) (funext fun k=>?_)) (hs.lin hpm 1 (a*y n))
  grind
theorem avp{n:Nat}{rows A:List (List Int)}{R:List Md.Rw}{Q:List Nat}(h:Ech n rows R Q)(hrn:∀r∈rows,r.length=n)(hA:∀a∈A,a.length=n)(hp:Perp n A rows):Perp n rows A:=by
 intro y hy;constructor
 ·intro hr a ha;refine ac9 (fun x hx=>?_) hr;obtain⟨r,hrm,rfl⟩:=List.mem_map.1 hx;rw[aa1];exact hp.dot hA a ha r hrm
 ·intro ho;have hR:∀x∈R,RS (rows.map fnR) x:=fun x hx=>by
   obtain⟨r,hr,rfl⟩:=h.mem hx;exact .mem (List.mem_map.2 ⟨r,hr,rfl⟩)
  refine RS.trans (S:=R) ?_ hR;refine(ane (abc h.gat.desc) h.gat.ne h.gat.lt (h.out hrn) hy).2 fun c hc hcQ=>?_
  have hs:∀k,n<=k->acr R Q c k=0:=fun k hk=>by
   unfold acr;rw[if_neg (by omega),if_neg (fun hm=>by have:=h.gat.lt k hm;omega)]
  have h1:RS (A.map fnR) (acr R Q c):=(hp _ hs).2 fun b hb=>by
   rw[aa1,ah8 (abc h.gat.desc) h.gat.lt hc hcQ];exact af3 (h.rows_in hb) _
  rw[aa1];refine ac9 (fun x hx=>?_) h1;obtain⟨a,ha,rfl⟩:=List.mem_map.1 hx;rw[aa1];exact ho a ha
end Lm
namespace Lm
open Go Go.RowKit Md
theorem a1d{n:Nat}{rows:List (List Int)}{R:List Md.Rw}{Q:List Nat}(h:Ech n rows R Q)(hrn:∀r∈rows,r.length=n){v:List Int}(hvn:v.length=n):((gRow (fun k=>D (fnR v::R) (k::Q)) n).any (fun z=>decide (z≠0))=false)↔RS R (fnR v):=by
 constructor
 ·intro ha;refine akj (abc h.gat.desc) h.gat.ne (fun c=>?_);by_cases hc:c<n
  ·have:=List.any_eq_false.1 ha _ (List.mem_map.2 ⟨c,List.mem_range.2 hc,rfl⟩);simpa using this
  ·refine ajx (af1 (fnR v::R) Q) (fun x hx=>?_);rcases List.mem_cons.1 hx with rfl|hx
   ·exact acc (by omega)
   ·obtain⟨r,hr,rfl⟩:=h.mem hx;exact acc (by rw[hrn r hr];omega)
 ·intro hr;rw[List.any_eq_false];intro z hz;obtain⟨k,_,rfl⟩:=List.mem_map.1 hz;simp[af3 hr]
theorem apn(w:World)(v vv:Value)(rows:List (List Int))(zs:List Int)(n L0:Nat)(h:IsM w v rows L0)(hs:Shaped rows (n:Int))(hv:IsRow w vv zs L0)(hz:zs.length=n)(hL0:L0<=1510000):
  Calls Tryz.prog 157 #[v,.int .i64 (n:Int),vv] w fun e w'=>(∃R Q b,Ech n rows R Q/\e=.returned (.tuple #[.bool b,.int .i64 0])/\(b=true↔RS R (fnR zs)))/\Below w.heap.size w w':=by
 have K0:=aft w v rows L0 h (n:Int);rw[decide_eq_true hs]at K0;have K0:=hide K0;have K1:Hid (∀w1,Below w.heap.size w w1->_):=(fun w1 hb=>ahk w1 v rows n L0 (h.below hb) hs hL0);have HRN:Hid (∀r∈rows,r.length=n):=(fun r hr=>by have:=hs.2.2.2 r hr;omega);have hLT:=h.lts;have hvL:=abe hv;obtain⟨ao,cp,rfl,hn⟩:=h.parts;obtain⟨av,cv,rfl,hvl⟩:=hv.parts;rw[hz]at hv hvl ⊢;have HV:=hide hv;have HZ:=hide hz;have HLT:=hide (And.intro hLT hvL);have hn32:=hs.2.1;have hnn:((n:Int) != (n:Int))=false:=by simp
 clear h hs hv hz hLT hvL;go_enter Tryz.func157,Tryz.ntmps157
 go_wp2_with fail
 refine K0.out.mono ?_;rintro e w1 ⟨rfl,hb1⟩;have K2:=hide (K1.out w1 hb1);have HB1:=hide hb1;clear hb1 K0;go_wp2_with fail
 refine K2.out.mono ?_;rintro e w2 ⟨R,Q,ra,rc,pa,pc,ng,la,lm,lc,rfl,hE,hM,hP,hF,hb2⟩;have hba:=hAl w2 (.cells #[.slice ra Q.length rc,.slice pa Q.length pc,.bool ng,.slice la lm lc] 187);have hn2:=heap_alloc_new w2 (.cells #[.slice ra Q.length rc,.slice pa Q.length pc,.bool ng,.slice la lm lc] 187);have hb02:=HB1.out.trans (hb2.mono HB1.out.size);have hb03:=hb02.trans (hba.mono hb02.size);have hBas:Bas (w2.alloc (.cells #[.slice ra Q.length rc,.slice pa Q.length pc,.bool ng,.slice la lm lc] 187)) w2.heap.size Q.reverse (baR R Q n) (D R Q) (lg L0):=⟨_,_,_,_,_,_,hn2,hM.is.below hba,hP.is.below hba,hF.is.ru (Ru.of_below hba)⟩;have hQl:=hE.len;have hfr:∀x∈fnR zs::R,∀c,((x c).natAbs:Int)<pw L0:=fun x hx' c=>by
  rcases List.mem_cons.1 hx' with rfl|hx'
  ·exact acg HLT.out.2 (by have:=aag L0;omega) c
  ·exact GatI.lts hE (by have:=aag L0;omega) HLT.out.1 x hx' c
 have hld:=anm (R:=R) (abc hE.gat.desc) zs n;have KL:=alk _ w2.heap.size n (lg L0) (lg L0) (.slice av n cv) zs Q.reverse (baR R Q n) (D R Q) ((HV.out.below hb03).wide (by unfold lg;omega)) hBas HZ.out (GatI.shp hE (Nat.le_refl _) (by omega)) (by omega) (by unfold lg;omega) (by
  rw[hld];intro z hz;obtain⟨c,_,rfl⟩:=List.mem_map.1 hz;have:=GatI.len hE
  exact ann hfr (by simp;omega) (by simp;omega))
 rw[hld]at KL;have KL:=hide KL;have HE:=hide hE;have HB3:=hide hb03;clear hE hM hP hF hb2 hba hb02 hb03 hn2 hBas hQl hfr hld K1 K2;go_wp2_with fail
 refine KL.out.mono ?_;rintro e w4 ⟨r4,rfl,ho,hb4⟩;have KC:=hide (aek w4 r4 (gRow (fun c=>D (fnR zs::R) (c::Q)) n) (lg L0) ho.is 167 alj #[] (fun z=>decide (z≠0)) (fun W z xv _ _ hx=>ago W z (lg L0) xv hx (by unfold lg;omega)));obtain⟨bl,rfl,_⟩:=id ho;have HB4:=hide (HB3.out.trans (hb4.mono HB3.out.size));rw[aao]at KC ⊢;clear ho hb4 KL;go_wp2_with fail
 refine KC.out.mono ?_;rintro e w5 ⟨rfl,hb5⟩;have HB5:=hide (HB4.out.trans (hb5.mono HB4.out.size));have HR:=hide (a1d HE.out HRN.out HZ.out);clear hb5 KC;generalize (gRow (fun c=>D (fnR zs::R) (c::Q)) n).any (fun z=>decide (z≠0))=bb at *
 go_wp2;refine bodyPost_ret (v:=_) (by simp[results,Tryz.results157,go_sem];try rfl) rfl ⟨⟨R,Q,!bb,HE.out,rfl,by rw[<-HR.out];cases bb <;> simp⟩,HB5.out⟩
end Lm
namespace Lm
open Go Go.RowKit Md
def OL(w:World)(g cap:Nat)(vs:List Value):Prop:=∃cur:Array Value,w.heap[g]? = some (.cells cur 39 (0,0))/\cur.size=cap/\vs.length<=cap/\cap<=9223372036854775807/\cur.toList.take vs.length=vs
theorem OL.keep{w w':World}{g cap:Nat}{vs:List Value}(h:OL w g cap vs)(hk:w'.heap[g]? = w.heap[g]?):OL w' g cap vs:=by
 obtain⟨cur,h1,h2⟩:=h;exact⟨cur,hk.trans h1,h2⟩
theorem OL.cell{w:World}{g cap i:Nat}{vs:List Value}{u:Value}(h:OL w g cap vs)(hu:vs[i]? = some u):g<w.heap.size/\w.cell? ⟨g,i,none⟩=some u/\w.frozen? ⟨g,i,none⟩=false:=by
 obtain⟨cur,h1,h2,h3,_,h4⟩:=h;refine⟨aaa h1,?_,frozen_of_row _ _ _ _ _ h1⟩;rw[cell_of_row _ _ _ _ _ (0,0) h1];have hi:=(List.getElem?_eq_some_iff.1 hu).1;rw[<-h4,List.getElem?_take_of_lt hi]at hu;simpa using hu
theorem OL.put{w:World}{g cap i:Nat}{vs:List Value}(h:OL w g cap vs)(_:i<vs.length)(u:Value):OL (w.setCell ⟨g,i,none⟩ u) g cap (vs.set i u):=by
 obtain⟨cur,h1,h2,h3,h5,h4⟩:=h;refine⟨cur.setIfInBounds i u,heap_setCell_same w g i _ _ u h1,by simpa using h2,by simpa using h3,h5,?_⟩;rw[List.length_set,Array.toList_setIfInBounds,List.take_set,h4]
theorem OL.hp{w:World}{g cap:Nat}{vs:List Value}(h:OL w g cap vs):∃c,w.heap[g]? = some (.cells c 39 (0,0)):=by
 obtain⟨cur,h1,_⟩:=h;exact⟨cur,h1⟩
theorem OL.isM{w:World}{g cap L:Nat}{vs:List Value}{rows:List (List Int)}(h:OL w g cap vs)(hl:vs.length=rows.length)(hr:∀(i:Nat) (u:Value) (z:List Int),vs[i]? = some u->rows[i]? = some z->IsRow w u z L):IsM w (.slice (some ⟨g,0,none⟩) rows.length cap) rows L:=by
 refine⟨vs,⟨_,_,rfl,?_,?_,by omega,.inr ⟨g,0,rfl,?_,fun j u hu=>?_⟩⟩,hr⟩
 ·obtain⟨_,_,_,h3,_⟩:=h;omega
 ·obtain⟨_,_,_,_,h5,_⟩:=h;exact h5
 ·obtain⟨_,h1,_⟩:=h;exact aaa h1
 ·rw[Nat.zero_add];exact(h.cell hu).2.1
theorem ab8(w:World)(g i:Nat)(u:Value):Tch g w (w.setCell ⟨g,i,none⟩ u):=⟨rfl,rfl,rfl,by simp[World.setCell],fun k _ hn=>heap_setCell_other w ⟨g,i,none⟩ k u hn⟩
end Lm
namespace Lm
open Go Go.RowKit Md
def OE(w:World)(g cap:Nat)(es:List WE):Prop:=∃cur:Array Value,w.heap[g]? = some (.cells cur 45 (0,0))/\cur.size=cap*2/\es.length<=cap/\cap<=9223372036854775807/\cur.toList.take (es.length*2)=flat es
theorem OE.keep{w w':World}{g cap:Nat}{es:List WE}(h:OE w g cap es)(hk:w'.heap[g]? = w.heap[g]?):OE w' g cap es:=by
 obtain⟨cur,h1,h2⟩:=h;exact⟨cur,hk.trans h1,h2⟩
theorem OE.lt{w:World}{g cap:Nat}{es:List WE}(h:OE w g cap es):g<w.heap.size:=by
 obtain⟨cur,h1,_⟩:=h;exact aaa h1
theorem OE.cell{w:World}{g cap i:Nat}{es:List WE}{e:WE}(h:OE w g cap es)(he:es[i]? = some e):w.cell? ⟨g,i*2,none⟩=some (.bool e.ng)/\w.cell? ⟨g,i*2+1,none⟩=some (.slice e.a e.m e.c)/\w.frozen? ⟨g,i*2,none⟩=false/\w.frozen? ⟨g,i*2+1,none⟩=false:=by
 obtain⟨cur,h1,h2,h3,_,h4⟩:=h;have hi:=(List.getElem?_eq_some_iff.1 he).1;obtain⟨f1,f2⟩:=ab7 he;rw[<-h4,List.getElem?_take_of_lt (by omega)]at f1 f2;refine⟨?_,?_,frozen_of_row _ _ _ _ _ h1,frozen_of_row _ _ _ _ _ h1⟩ <;> rw[cell_of_row _ _ _ _ _ (0,0) h1]
 ·simpa using f1
 ·simpa using f2
def put2(w:World)(g i:Nat)(x:WE):World:=(w.setCell ⟨g,i*2,none⟩ (.bool x.ng)).setCell ⟨g,i*2+1,none⟩ (.slice x.a x.m x.c)
theorem OE.put{w:World}{g cap i:Nat}{es:List WE}(h:OE w g cap es)(hi:i<es.length)(x:WE):OE (put2 w g i x) g cap (es.set i x):=by
 obtain⟨cur,h1,h2,h3,h5,h4⟩:=h;have s1:=heap_setCell_same w g (i*2) _ _ (.bool x.ng) h1;have s2:=heap_setCell_same _ g (i*2+1) _ _ (.slice x.a x.m x.c) s1;refine⟨_,s2,by simpa using h2,by simpa using h3,h5,?_⟩;rw[List.length_set,Array.toList_setIfInBounds,Array.toList_setIfInBounds,List.take_set,List.take_set,h4,agm es i x hi]
theorem afb(w:World)(g i:Nat)(x:WE):Tch g w (put2 w g i x):=(ab8 w g (i*2) _).trans (ab8 _ g (i*2+1) _)
theorem ant{w:World}{g i:Nat}{cur:Array Value}{T:TypeId}(h:w.heap[g]? = some (.cells cur T (0,0)))(hT:T≠86)(hi:∀z,cur[i]?≠some (.int .u32 z))(u:Value):Ru w (w.setCell ⟨g,i,none⟩ u):=by
 refine⟨by simp[World.setCell],fun p z hp=>?_,fun k cs hk=>?_⟩
 ·by_cases hb:p.block=g
  ·obtain⟨b,o,m⟩:=p;simp only at hb;subst hb;have hs:=heap_setCell_same w b i _ _ u h;simp only[World.cell?,h]at hp;simp only[World.cell?,hs];cases m with
   |none=>
    rw[Array.getElem?_setIfInBounds];by_cases e:i=o
    ·subst e;exact absurd (by simpa using hp) (hi z)
    ·rw[if_neg e];exact hp
   |some m=>simp at hp
  ·rw[World.cell?_of_block (heap_setCell_other w ⟨g,i,none⟩ p.block u hb)];exact hp
 ·rw[heap_setCell_other w ⟨g,i,none⟩ k u (fun e=>by subst e;rw[h]at hk;injection hk with hk;injection hk with _ hk;exact hT hk)];exact hk
theorem akw{w:World}{g cap i:Nat}{es:List WE}(h:OE w g cap es)(hi:i<es.length)(x:WE):Ru w (put2 w g i x):=by
 obtain⟨e,he⟩:∃e,es[i]? = some e:=⟨_,List.getElem?_eq_getElem hi⟩;obtain⟨cur,h1,h2,h3,h5,h4⟩:=h;obtain⟨f1,f2⟩:=ab7 he;rw[<-h4,List.getElem?_take_of_lt (by omega)]at f1 f2;have s1:=heap_setCell_same w g (i*2) _ _ (.bool x.ng) h1;refine(ant h1 (by decide) (fun z hz=>?_) (.bool x.ng)).trans (ant s1 (by decide) (fun z hz=>?_) _)
 ·rw[Array.getElem?_toList,hz]at f1;cases f1
 ·rw[Array.getElem?_setIfInBounds_ne (by omega)]at hz;rw[Array.getElem?_toList,hz]at f2;cases f2
def Half{α:Type}(es es':List α)(i:Nat):Prop:=es'.length=es.length/\∀k,k<es.length->es'[k]? = if k<i\/es.length-1-k<i then es[es.length-1-k]? else es[k]?
theorem Half.start{α:Type}(es:List α):Half es es 0:=⟨rfl,fun k _=>by simp⟩
theorem Half.done{α:Type}{es es':List α}{i:Nat}(h:Half es es' i)(hi:es.length<=2*i+1):es'=es.reverse:=by
 apply List.ext_getElem?;intro k;by_cases hk:k<es.length
 ·rw[h.2 k hk,List.getElem?_reverse hk];split
  ·rfl
  ·rw[show es.length-1-k=k by omega]
 ·rw[List.getElem?_eq_none (by have:=h.1;omega),List.getElem?_eq_none (by simp;omega)]
theorem Half.next{α:Type}{es es':List α}{i j:Nat}{x y:α}(h:Half es es' i)(hj:j=es.length-1-i)(hij:i<j)(hx:es'[i]? = some x)(hy:es'[j]? = some y):Half es ((es'.set i y).set j x) (i+1):=by
 have hl:=h.1;have hi:=(List.getElem?_eq_some_iff.1 hx).1;have hjl:=(List.getElem?_eq_some_iff.1 hy).1;refine⟨by simp[hl],fun k hk=>?_⟩;have hxi:=h.2 i (by omega);have hyj:=h.2 j (by omega);rw[hx,if_neg (by omega)]at hxi;rw[hy,if_neg (by omega)]at hyj;by_cases e1:k=j
 ·subst e1;rw[List.getElem?_set_self (by simpa using hjl),if_pos (.inr (by omega)),show es.length-1-k=i by omega];exact hxi
 ·rw[List.getElem?_set_ne (fun e=>e1 e.symm)];by_cases e2:k=i
  ·subst e2;rw[List.getElem?_set_self (by omega),if_pos (.inl (by omega)),<-hj];exact hyj
  ·rw[List.getElem?_set_ne (fun e=>e2 e.symm),h.2 k hk];by_cases h1:k<i\/es.length-1-k<i
   ·rw[if_pos h1,if_pos (by omega)]
   ·rw[if_neg h1,if_neg (by omega)]
theorem anu(w:World)(g cap:Nat)(es:List WE)(h:OE w g cap es):
  Calls Tryz.prog 188 #[.slice (some ⟨g,0,none⟩) es.length cap] w fun e w'=>e=.returned (.tuple #[])/\OE w' g cap es.reverse/\Tch g w w'/\Ru w w':=by
 have hcap:es.length<=9223372036854775807:=by obtain⟨_,_,_,h3,h4,_⟩:=h;omega
 have H:=hide h;clear h;obtain⟨n,hn⟩:∃n,es.length=n:=⟨_,rfl⟩;rw[hn]at hcap ⊢;have HN:=hide hn;clear hn;go_enter Tryz.func188,Tryz.ntmps188
 go_wp2;go_loopw [2,3] (fun s2 s3 wr=>∃(i:Nat) (es':List WE),s2=.int .i64 (i:Int)/\s3=.int .i64 ((n:Int)-1-(i:Int))/\i<=n/\Half es es' i/\OE wr g cap es'/\Tch g w wr/\Ru w wr) (fun s2 _ _=>n-(intOf s2).toNat)
 case atStart=>exact⟨0,es,rfl,by simp,by omega,Half.start es,H.out,⟨rfl,rfl,rfl,Nat.le_refl _,fun _ _ _=>rfl⟩,Ru.refl _⟩
 case round=>
  obtain⟨i,es',rfl,rfl,hi,hh,hO,ht,hr⟩:=hrel;have HH:=hide hh;have HO:=hide hO;have HT:=hide ht;have HR:=hide hr;by_cases hlt:(i:Int)<(n:Int)-1-(i:Int)
  ·obtain⟨j,hj⟩:∃j:Nat,(n:Int)-1-(i:Int)=(j:Int):=⟨n-1-i,by omega⟩;rw[hj]at hlt ⊢;have hjn:j<n:=by omega
   have hin:i<n:=by omega
   have hl:=hh.1;have hnn:=HN.out;obtain⟨x,hx⟩:∃x,es'[i]? = some x:=⟨_,List.getElem?_eq_getElem (by omega)⟩;obtain⟨y,hy⟩:∃y,es'[j]? = some y:=⟨_,List.getElem?_eq_getElem (by omega)⟩;obtain⟨x0,x1,xf0,xf1⟩:=hO.cell hx;obtain⟨y0,y1,yf0,yf1⟩:=hO.cell hy;have HX:=hide hx;have HY:=hide hy;clear hh hO ht hr hx hy hl hnn;have hin':(i:Int)<(n:Int):=by omega
   have hjn':(j:Int)<(n:Int):=by omega
   go_wp2;go_region
   go_wp2;go_roundw
   case rel=>
    have hl:=HH.out.1;have hnn:=HN.out;have o1:=HO.out.put (i:=i) (by omega) y;have o2:=o1.put (i:=j) (by simp;omega) x;have r1:=(akw HO.out (i:=i) (by omega) y).trans (akw o1 (i:=j) (by simp;omega) x);have t1:=(afb wr g i y).trans (afb _ g j x);refine⟨i+1,(es'.set i y).set j x,rfl,?_,by omega,HH.out.next (by omega) (by omega) HX.out HY.out,o2.keep rfl,HT.out.trans (t1.trans (.of_below (Below.drew (Below.refl _ _)))),HR.out.trans (r1.trans (Ru.of_below (Below.drew (Below.refl _ _))))⟩;rw[show(j:Int)-1=(n:Int)-1-((i+1:Nat):Int) by omega]
   case measure=>simp[intOf];omega
  ·have hlt':decide ((i:Int)<(n:Int)-1-(i:Int))=false:=by simp;omega
   have hdone:=hh.done (by have:=HN.out;omega);subst hdone;clear hh hO ht hr;go_wp2;go_end0
   exact⟨rfl,HO.out,HT.out,HR.out⟩
def XRow(K:Nat)(w:World)(v:Value)(zs:List Int)(L:Nat):Prop:=∃es:List WE,es.map WE.z=zs/\(∀e∈es,Sl w (.slice e.a e.m e.c) e.zs/\e.zs.length<=L)/\((es = []/\∃ao cap,v=.slice ao 0 cap/\cap<=9223372036854775807)\/∃g cap,v=.slice (some ⟨g,0,none⟩) es.length cap/\K<=g/\OE w g cap es)
theorem XRow.keep{K:Nat}{w w':World}{v:Value}{zs:List Int}{L:Nat}(h:XRow K w v zs L)(hr:Ru w w')(hk:∀(g:Nat) (c:Array Value),w.heap[g]? = some (.cells c 45 (0,0))->w'.heap[g]? = w.heap[g]?):XRow K w' v zs L:=by
 obtain⟨es,h1,h2,h3⟩:=h;refine⟨es,h1,fun e he=>⟨(h2 e he).1.ru hr,(h2 e he).2⟩,?_⟩;rcases h3 with h3|⟨g,cap,rfl,hK,h3⟩
 ·exact .inl h3
 ·obtain⟨cur,hc,_⟩:=id h3;exact .inr ⟨g,cap,rfl,hK,h3.keep (hk g cur hc)⟩
theorem XRow.below{K:Nat}{w w':World}{v:Value}{zs:List Int}{L:Nat}(h:XRow K w v zs L)(hb:Below w.heap.size w w'):XRow K w' v zs L:=h.keep (Ru.of_below hb) (fun g _ hg=>hb.block g (aaa hg))
theorem XRow.tch{K g:Nat}{w w':World}{v:Value}{zs:List Int}{L:Nat}{c:Array Value}(h:XRow K w v zs L)(ht:Tch g w w')(hr:Ru w w')(hg:w.heap[g]? = some (.cells c 39 (0,0))):XRow K w' v zs L:=h.keep hr (fun k c' hk=>ht.other k (aaa hk) (aav hg hk (by decide)))
theorem XRow.is{K:Nat}{w:World}{v:Value}{zs:List Int}{L:Nat}(h:XRow K w v zs L):IsRow w v zs L:=by
 obtain⟨es,h1,h2,h3⟩:=h;refine⟨es,⟨?_,fun e he=>(h2 e he).1⟩,h1,fun e he=>(h2 e he).2⟩;rcases h3 with⟨rfl,ao,cap,rfl,hc⟩|⟨g,cap,rfl,hK,h3⟩
 ·exact⟨ao,cap,rfl,Nat.zero_le _,hc,rfl,.inl rfl⟩
 ·obtain⟨cur,c1,c2,c3,c4,c5⟩:=h3;refine⟨_,cap,rfl,c3,c4,aas es,.inr ⟨g,0,rfl,aaa c1,fun j u hu=>?_⟩⟩;rw[Nat.zero_add,cell_of_row _ _ _ _ _ (0,0) c1];have hj:=(List.getElem?_eq_some_iff.1 hu).1;rw[aas]at hj;rw[<-c5,List.getElem?_take_of_lt hj]at hu;simpa using hu
theorem ajz(w:World)(v:Value)(zs:List Int)(L:Nat)(h:IsRow w v zs L)(hl:zs.length<=1000000000):
  Calls Tryz.prog 72 #[v] w fun e w'=>∃r,e=.returned r/\XRow w.heap.size w' r zs L/\Below w.heap.size w w':=by
 obtain⟨es,hR,he,hL⟩:=h;have hel:es.length=zs.length:=by rw[<-he];simp
 obtain⟨ao,cap,rfl,c1,c2,c3,c4⟩:=hR.cl;obtain⟨iW,hi,hz0,hz1,hz2⟩:=info_parts infoWz;have hq0:∀(n c:Nat) (w:World),(Go.binOp .eql 39 (.slice none n c) (.slice none 0 0)).run Tryz.prog w=.ok (.bool true) w:=fun n c w=>by kernel_rfl
 have hq1:∀(ad:Addr) (n c:Nat) (w:World),(Go.binOp .eql 39 (.slice (some ad) n c) (.slice none 0 0)).run Tryz.prog w=.ok (.bool false) w:=fun ad n c w=>by kernel_rfl
 cases ao with
 |none=>
  have h0:es.length=0:=by
   rcases c4 with c4|⟨b,off,e,_⟩
   ·exact c4
   ·cases e
  obtain rfl:=List.length_eq_zero_iff.1 h0;subst he;clear hR c3 c4 hel hi hz0 hz1 hz2 hL;go_enter Tryz.func72,Tryz.ntmps72
  go_wp2;refine bodyPost_ret (v:=_) (by simp[results,Tryz.results72,go_sem];try rfl) rfl ⟨_,rfl,⟨[],rfl,fun e he=>(by cases he),.inl ⟨rfl,none,0,rfl,by omega⟩⟩,Below.refl _ _⟩
 |some ad=>
  have hnew:∀j u,(flat es)[j]? = some u->(w.alloc (.cells #[] 45)).cell? (ad.add j)=some u:=by
   intro j u hu;rcases c4 with c4|⟨b,off,e,hlt,hc⟩
   ·rw[List.getElem?_eq_none (by rw[aas];omega)]at hu;cases hu
   ·obtain rfl:=Option.some.inj e;rw[Addr.add_lit];exact((hAl w (.cells #[] 45)).cell (p:=⟨b,off+j,none⟩) hlt).trans (hc j u hu)
  have h1c:∀u∈flat es,u.oneCell'=true:=by
   intro u hu;clear c4 hR hnew c3 hel hL he c1;induction es with
   |nil=>cases hu
   |cons e es ih=>
    simp only[flat,List.mem_cons]at hu;rcases hu with rfl|rfl|hu
    ·rfl
    ·rfl
    ·exact ih hu
  have hb0:=hAl w (.cells #[] 45);have hown:=World.ownsRow_made (base:=w.heap.size) (e:=45) (size:=2) w #[] 0 (Nat.le_refl _) (by unfold maxLen;omega) rfl;have HR:=hide (And.intro hR (And.intro he hL));clear hR c4 he hL;rw[<-hel]at hl;go_enter Tryz.func72,Tryz.ntmps72
  go_wp2_with (at_builtin;refine wpList_append_own _ rfl (.tmp 5) (.tmp 6) 39 rfl w.heap.size 45 iW (.agg #[.bool false,.slice none 0 0]) 2 32 Tryz.underlying39 hi hz0 hz1 hz2 rfl (by decide) _ _ _ rfl hown ad es.length cap (flat es) rfl (aas es) hnew h1c ?c3 ?c4 ?c5 ?_)
  case c3=>unfold maxLen;omega
  case c4=>omega
  case c5=>simp
  intro v5 w5 hown5 hgrow5 _;rw[<-hel]at hown5;have hb5:Below w.heap.size w w5:=hb0.trans ((Below.refl _ _).grown hgrow5 hb0.size (fun j hj=>(hown.lt j hj).1));have hX:XRow w.heap.size w5 v5 zs L:=by
   refine⟨es,HR.out.2.1,fun e he=>⟨(HR.out.1.sl e he).below hb5,HR.out.2.2 e he⟩,?_⟩;obtain⟨h1,⟨h2,h3⟩|⟨g,cap',cur,rfl,hg,hh,h3,h4,h5,h6⟩⟩:=hown5
   ·exact .inl ⟨List.length_eq_zero_iff.1 h3,none,0,h2,by omega⟩
   ·exact .inr ⟨g,cap',rfl,hg,cur,hh,h5,h3,by unfold maxLen at h4;omega,h6⟩
  have HX:=hide (And.intro hX hb5);clear hown5 hgrow5 hb5 hX;go_wp2;refine bodyPost_ret (v:=_) (by simp[results,Tryz.results72,go_sem];try rfl) rfl ⟨_,rfl,HX.out.1,HX.out.2⟩
end Lm
namespace Lm
open Go Go.RowKit Md
theorem avq(w:World)(ao:Option Addr)(cap:Nat):
  Calls Tryz.prog 188 #[.slice ao 0 cap] w fun e w'=>e=.returned (.tuple #[])/\w'=w:=by
 go_enter Tryz.func188,Tryz.ntmps188
 go_wp2;go_loopw [2,3] (fun s2 s3 wr=>s2=.int .i64 0/\s3=.int .i64 (-1)/\wr=w) (fun _ _ _=>0)
 case atStart=>exact⟨rfl,rfl,rfl⟩
 case round=>
  obtain⟨rfl,rfl,rfl⟩:=hrel;go_wp2;go_end0
  exact⟨rfl,rfl⟩
theorem aya(w:World)(k:Nat)(v:Value)(zs:List Int)(L:Nat)(h:IsRow w v zs L)(hl:zs.length<=1000000000):
  Calls Tryz.prog 187 #[.int .i64 (k:Int),v] w fun e w'=>∃r,e=.returned r/\XRow w.heap.size w' r zs.reverse L/\Below w.heap.size w w':=by
 have K1:=hide (ajz w v zs L h hl);obtain⟨ao,cp,rfl,_⟩:=h.parts;clear h;go_enter Tryz.func187,Tryz.ntmps187
 go_wp2_with fail
 refine K1.out.mono ?_;rintro e w1 ⟨r,rfl,⟨es,he,hsl,⟨rfl,ra,rc,rfl,hrc⟩|⟨g,cap,rfl,hg,hO⟩⟩,hb⟩
 ·have K2:=hide (avq w1 ra rc);have HB:=hide hb;have HE:=hide he;clear hb he hsl K1;go_wp2_with fail
  refine K2.out.mono ?_;rintro e w2 ⟨rfl,rfl⟩;go_wp2;refine bodyPost_ret (v:=_) (by simp[results,Tryz.results187,go_sem];try rfl) rfl ⟨_,rfl,⟨[],by rw[<-HE.out];rfl,fun e he=>(by cases he),.inl ⟨rfl,_,_,rfl,hrc⟩⟩,HB.out⟩
 ·have K2:=anu w1 g cap es hO;have hel:es.length=zs.length:=by rw[<-he];simp
  have K2:=hide K2;have HB:=hide hb;have HE:=hide (And.intro he hsl);clear hb he hsl K1 hO;rw[hel]at K2 ⊢;have HEL:=hide hel;clear hel;go_wp2_with fail
  refine K2.out.mono ?_;rintro e w2 ⟨rfl,hO2,ht,hr⟩;have hX:XRow w.heap.size w2 (.slice (some ⟨g,0,none⟩) zs.length cap) zs.reverse L:=by
   refine⟨es.reverse,by rw[List.map_reverse,HE.out.1],fun e he=>⟨((HE.out.2 e (List.mem_reverse.1 he)).1).ru hr,(HE.out.2 e (List.mem_reverse.1 he)).2⟩,.inr ⟨g,cap,by rw[List.length_reverse,HEL.out],hg,hO2⟩⟩
  have HX:=hide (And.intro hX (HB.out.trans (ht.below HB.out.size hg)));clear hX hO2 ht hr K2;go_wp2;refine bodyPost_ret (v:=_) (by simp[results,Tryz.results187,go_sem];try rfl) rfl ⟨_,rfl,HX.out.1,HX.out.2⟩
def TurnM(w:World)(f:FuncId)(cap:Array Value)(rows:List (List Int))(L L':Nat)(G:Nat->List Int->List Int):Prop:=∀(W:World) (c:Nat) (z:List Int) (xv:Value),Below w.heap.size w W->rows[c]? = some z->IsRow W xv z L->Calls Tryz.prog f (#[.int .i64 (c:Int),xv]++cap) W fun e W'=>∃v,e=.returned v/\XRow W.heap.size W' v (G c z) L'/\Below W.heap.size W W'
theorem XRow.low{K K':Nat}{w:World}{v:Value}{zs:List Int}{L:Nat}(h:XRow K w v zs L)(hk:K'<=K):XRow K' w v zs L:=by
 obtain⟨es,h1,h2,h3⟩:=h;refine⟨es,h1,h2,?_⟩;rcases h3 with h3|⟨g,cap,e,hK,h3⟩
 ·exact .inl h3
 ·exact .inr ⟨g,cap,e,by omega,h3⟩
theorem XRow.slc{K:Nat}{w:World}{v:Value}{zs:List Int}{L:Nat}(h:XRow K w v zs L):∃a n c,v=.slice a n c:=by
 obtain⟨es,h1,h2,⟨_,ao,cap,e,_⟩|⟨g,cap,e,_⟩⟩:=h
 ·exact⟨_,_,_,e⟩
 ·exact⟨_,_,_,e⟩
theorem ayb(n:Nat):(madeCells #[.slice none 0 0] n).toList=List.replicate n (.slice none 0 0):=by
 apply List.ext_getElem?;intro i;rw[Array.getElem?_toList];by_cases hi:i<n
 ·have e0:(madeCells #[.slice none 0 0] n)[i]? = some (.slice none 0 0):=by simp[madeCells,hi,Nat.mod_one]
  rw[e0,List.getElem?_replicate,if_pos hi]
 ·rw[Array.getElem?_eq_none (by rw[size_madeCells];omega),List.getElem?_eq_none (by simp;omega)]
structure TL (K:Nat) (w:World) (g n:Nat) (vs:List Value) (k:Nat) (rows:List (List Int)) (L:Nat):Prop where
 ol:OL w g n vs
 len:vs.length=n
 slc:∀u∈vs,∃a n c,u=.slice a n c
 row:∀(i:Nat) (u:Value) (z:List Int),i<k->vs[i]? = some u->rows[i]? = some z->XRow K w u z L
theorem TL.below{K:Nat}{w w':World}{g n:Nat}{vs:List Value}{k:Nat}{rows:List (List Int)}{L:Nat}(h:TL K w g n vs k rows L)(hb:Below w.heap.size w w'):TL K w' g n vs k rows L:=
 ⟨h.ol.keep (hb.block g (by obtain⟨c,hc⟩:=h.ol.hp;exact aaa hc)),h.len,h.slc,fun i u z a b c=>(h.row i u z a b c).below hb⟩
theorem OL.ru{w:World}{g cap i:Nat}{vs:List Value}(h:OL w g cap vs)(hi:i<vs.length)(hs:∀u∈vs,∃a n c,u=.slice a n c)(u:Value):Ru w (w.setCell ⟨g,i,none⟩ u):=by
 obtain⟨x,hx⟩:∃x,vs[i]? = some x:=⟨_,List.getElem?_eq_getElem hi⟩;obtain⟨a,n,c,rfl⟩:=hs x (List.mem_of_getElem? hx);obtain⟨cur,h1,h2,h3,h5,h4⟩:=h;refine ant h1 (by decide) (fun z hz=>?_) u;rw[<-h4,List.getElem?_take_of_lt hi,Array.getElem?_toList,hz]at hx;cases hx
theorem akx{α:Type}{l:List α}{i:Nat}{x y:α}(h:y∈l.set i x):y∈l\/y=x:=List.mem_or_eq_of_mem_set h
theorem TL.put{K:Nat}{w:World}{g n:Nat}{vs:List Value}{k:Nat}{rows:List (List Int)}{L:Nat}(h:TL K w g n vs k rows L)(hk:k<n){u:Value}{z:List Int}(hz:rows[k]? = some z)(hu:XRow K w u z L):TL K (w.setCell ⟨g,k,none⟩ u) g n (vs.set k u) (k+1) rows L/\Tch g w (w.setCell ⟨g,k,none⟩ u):=by
 have hkl:k<vs.length:=by have:=h.len;omega
 have hr:=h.ol.ru hkl h.slc u;have ht:=ab8 w g k u;obtain⟨c,hc⟩:=h.ol.hp;refine⟨⟨h.ol.put hkl u,by simp[h.len],fun x hx=>?_,fun i x y hi hx hy=>?_⟩,ht⟩
 ·rcases akx hx with hx|rfl
  ·exact h.slc x hx
  ·exact hu.slc
 ·by_cases e:k=i
  ·subst e;rw[List.getElem?_set_self hkl]at hx;obtain rfl:=Option.some.inj hx;rw[hz]at hy;obtain rfl:=Option.some.inj hy;exact hu.tch ht hr hc
  ·rw[List.getElem?_set_ne e]at hx;exact(h.row i x y (by omega) hx hy).tch ht hr hc
theorem TL.isM{K:Nat}{w:World}{g n:Nat}{vs:List Value}{rows:List (List Int)}{L:Nat}(h:TL K w g n vs n rows L)(hl:rows.length=n):IsM w (.slice (some ⟨g,0,none⟩) n n) rows L:=by
 have:=h.ol.isM (rows:=rows) (L:=L) (by rw[h.len,hl]) (fun i u z hu hz=>(h.row i u z (by have:=(List.getElem?_eq_some_iff.1 hz).1;omega) hu hz).is);rwa[hl]at this
def mapI(G:Nat->List Int->List Int)(rows:List (List Int)):List (List Int):=rows.mapIdx G
theorem a1e{G:Nat->List Int->List Int}{rows:List (List Int)}{i:Nat}{z:List Int}(h:rows[i]? = some z):(mapI G rows)[i]? = some (G i z):=by simp[mapI,h]
theorem ayc(G:Nat->List Int->List Int)(rows:List (List Int)):(mapI G rows).length=rows.length:=by simp[mapI]
theorem apo(w:World)(v:Value)(rows:List (List Int))(L L':Nat)(h:IsM w v rows L)(hl:rows.length<=1000000000)(f:FuncId)(hf:Has Tryz.prog f)(cap:Array Value)(G:Nat->List Int->List Int)(hT:TurnM w f cap rows L L' G):
  Calls Tryz.prog 186 #[v,.func (.func f) #[] cap] w fun e w'=>e=.returned (.slice (some ⟨w.heap.size,0,none⟩) rows.length rows.length)/\(∃vs,TL w.heap.size w' w.heap.size rows.length vs rows.length (mapI G rows) L')/\Below w.heap.size w w':=by
 obtain⟨ao,cp,rfl,_⟩:=h.parts;have H:=hide h;have HTN:=hide hT;clear h hT;obtain⟨n,hnn⟩:∃n,rows.length=n:=⟨_,rfl⟩;rw[hnn]at H hl ⊢;have HN:=hide hnn;clear hnn;obtain⟨iW,hi,hz0,hz1,hz2⟩:=info_parts infoSz;go_enter Tryz.func186,Tryz.ntmps186
 go_wp2_with (refine wpList_make_full _ rfl (.tmp 9) (.tmp 9) 23 rfl w.heap.size 39 iW (.slice none 0 0) 1 Tryz.underlying23 hi hz0 hz1 .i64 .i64 _ _ n rfl rfl (by omega) (by omega) (by rw[hz2];omega) (by unfold maxLen;omega) (Nat.le_refl _) ?hK)
 case hK=>
  intro w2 hown hgrow;have hb2:Below w.heap.size w w2:=(Below.refl _ _).grown hgrow (Nat.le_refl _) (by simp);obtain⟨_,hmb⟩:=acn hown;rw[ayb]at hmb;have hT0:TL w.heap.size w2 w.heap.size n (List.replicate n (.slice none 0 0)) 0 (mapI G rows) L':=⟨⟨_,hmb,by simp,by simp,by omega,by simp⟩,by simp,fun u hu=>⟨none,0,0,(List.mem_replicate.1 hu).2⟩,fun i u z hi=>by omega⟩;have HP0:=hide hT0;have HB:=hide hb2;clear hown hgrow hmb hb2 hT0;go_wp2;go_loopw [6,7,13] (fun _ _ iv wr=>∃(k:Nat) (vs:List Value),iv=.int .i64 k/\k<=n/\Below w.heap.size w wr/\TL w.heap.size wr w.heap.size n vs k (mapI G rows) L') (fun _ _ iv _=>n-(intOf iv).toNat)
  case atStart=>exact⟨0,_,rfl,Nat.zero_le _,HB.out,HP0.out⟩
  case round=>
   obtain⟨k,vs,rfl,hk,hbw,hp⟩:=hrel;have HW:=hide hbw;have HP:=hide hp;by_cases hlt:k<n
   ·obtain⟨z,hz⟩:∃z,rows[k]? = some z:=⟨_,List.getElem?_eq_getElem (by have:=HN.out;omega)⟩;obtain⟨b,off,u,rfl,hbl,x0,hx⟩:=H.out.cell hz;replace x0:=(hbw.cell (p:=⟨b,off+k,none⟩) hbl).trans x0;have hlt':(k:Int)<(n:Int):=by omega
    have KC:=hide (HTN.out wr k z u hbw hz (hx.below hbw));obtain⟨ua,uc,rfl,_⟩:=hx.parts;have HZ:=hide hz;clear hbw hp hx hz;have hE:∀args w,(callFunc f args).run Tryz.prog w=.ok (.enter f args) w:=fun args w=>hf.enter args w
    go_wp2_with fail
    refine KC.out.mono ?_;rintro e w3 ⟨v1,rfl,h1,hb3⟩;have hP3:=HP.out.below hb3;obtain⟨x,hx⟩:∃x,vs[k]? = some x:=⟨_,List.getElem?_eq_getElem (by have:=hP3.len;omega)⟩;obtain⟨gl,y0,yf0⟩:=hP3.ol.cell hx;obtain⟨xa,xn,xc,rfl⟩:=hP3.slc x (List.mem_of_getElem? hx);have hput:=hP3.put hlt (a1e HZ.out) (h1.low HW.out.size);obtain⟨va,vn,vc,rfl⟩:=h1.slc;have HPT:=hide hput;have HB3:=hide (HW.out.trans (hb3.mono HW.out.size));clear h1 hb3 x0 KC hE hP3 hx hput;go_wp2;go_roundw
    case rel=>exact⟨k+1,_,by go_num,by omega,HB3.out.trans (HPT.out.2.below HB3.out.size (Nat.le_refl _)),HPT.out.1⟩
    case measure=>simp[intOf];omega
   ·have hlt':decide ((k:Int)<(n:Int))=false:=by simp;omega
    have hkn:k=n:=by omega
    subst hkn;clear hbw hp;go_wp2;refine bodyPost_ret (v:=_) (by simp[results,Tryz.results186,go_sem];try rfl) rfl ⟨rfl,⟨_,HP.out⟩,HW.out⟩
theorem anv(w:World)(g cap:Nat)(es:List Value)(h:OL w g cap es)(hsl:∀u∈es,∃a n c,u=.slice a n c):
  Calls Tryz.prog 189 #[.slice (some ⟨g,0,none⟩) es.length cap] w fun e w'=>e=.returned (.tuple #[])/\OL w' g cap es.reverse/\Tch g w w'/\Ru w w':=by
 have hcap:es.length<=9223372036854775807:=by obtain⟨_,_,_,h3,h4,_⟩:=h;omega
 have H:=hide h;have HSL:=hide hsl;clear h hsl;obtain⟨n,hn⟩:∃n,es.length=n:=⟨_,rfl⟩;rw[hn]at hcap ⊢;have HN:=hide hn;clear hn;go_enter Tryz.func189,Tryz.ntmps189
 go_wp2;go_loopw [2,3] (fun s2 s3 wr=>∃(i:Nat) (es':List Value),s2=.int .i64 (i:Int)/\s3=.int .i64 ((n:Int)-1-(i:Int))/\i<=n/\Half es es' i/\OL wr g cap es'/\(∀u∈es',∃a n c,u=.slice a n c)/\Tch g w wr/\Ru w wr) (fun s2 _ _=>n-(intOf s2).toNat)
 case atStart=>exact⟨0,es,rfl,by simp,by omega,Half.start es,H.out,HSL.out,⟨rfl,rfl,rfl,Nat.le_refl _,fun _ _ _=>rfl⟩,Ru.refl _⟩
 case round=>
  obtain⟨i,es',rfl,rfl,hi,hh,hO,hsl,ht,hr⟩:=hrel;have HH:=hide hh;have HO:=hide hO;have HS:=hide hsl;have HT:=hide ht;have HR:=hide hr;by_cases hlt:(i:Int)<(n:Int)-1-(i:Int)
  ·obtain⟨j,hj⟩:∃j:Nat,(n:Int)-1-(i:Int)=(j:Int):=⟨n-1-i,by omega⟩;rw[hj]at hlt ⊢;have hjn:j<n:=by omega
   have hin:i<n:=by omega
   have hl:=hh.1;have hnn:=HN.out;obtain⟨x,hx⟩:∃x,es'[i]? = some x:=⟨_,List.getElem?_eq_getElem (by omega)⟩;obtain⟨y,hy⟩:∃y,es'[j]? = some y:=⟨_,List.getElem?_eq_getElem (by omega)⟩;obtain⟨xa,xn,xc,rfl⟩:=hsl x (List.mem_of_getElem? hx);obtain⟨ya,yn,yc,rfl⟩:=hsl y (List.mem_of_getElem? hy);obtain⟨_,x0,xf0⟩:=hO.cell hx;obtain⟨_,y0,yf0⟩:=hO.cell hy;have HX:=hide hx;have HY:=hide hy;clear hh hO hsl ht hr hx hy hl hnn;have hin':(i:Int)<(n:Int):=by omega
   have hjn':(j:Int)<(n:Int):=by omega
   go_wp2;go_region
   go_wp2;go_roundw
   case rel=>
    have hl:=HH.out.1;have hnn:=HN.out;have hs1:∀u∈es'.set i (.slice ya yn yc),∃a n c,u=.slice a n c:=fun u hu=>(akx hu).elim (HS.out u) (fun e=>⟨_,_,_,e⟩)
    have hs2:∀u∈(es'.set i (.slice ya yn yc)).set j (.slice xa xn xc),∃a n c,u=.slice a n c:=fun u hu=>(akx hu).elim (hs1 u) (fun e=>⟨_,_,_,e⟩)
    have o1:=HO.out.put (i:=i) (by omega) (.slice ya yn yc);have o2:=o1.put (i:=j) (by simp;omega) (.slice xa xn xc);have r1:=(HO.out.ru (i:=i) (by omega) HS.out (.slice ya yn yc)).trans (o1.ru (i:=j) (by simp;omega) hs1 (.slice xa xn xc));have t1:=(ab8 wr g i (.slice ya yn yc)).trans (ab8 _ g j (.slice xa xn xc));refine⟨i+1,(es'.set i (.slice ya yn yc)).set j (.slice xa xn xc),rfl,?_,by omega,HH.out.next (by omega) (by omega) HX.out HY.out,o2.keep rfl,hs2,HT.out.trans (t1.trans (.of_below (Below.drew (Below.refl _ _)))),HR.out.trans (r1.trans (Ru.of_below (Below.drew (Below.refl _ _))))⟩;rw[show(j:Int)-1=(n:Int)-1-((i+1:Nat):Int) by omega]
   case measure=>simp[intOf];omega
  ·have hlt':decide ((i:Int)<(n:Int)-1-(i:Int))=false:=by simp;omega
   have hdone:=hh.done (by have:=HN.out;omega);subst hdone;clear hh hO hsl ht hr;go_wp2;go_end0
   exact⟨rfl,HO.out,HT.out,HR.out⟩
theorem TL.rev{K:Nat}{w w':World}{g n:Nat}{vs:List Value}{rows:List (List Int)}{L:Nat}(h:TL K w g n vs n rows L)(hl:rows.length=n)(ho:OL w' g n vs.reverse)(ht:Tch g w w')(hr:Ru w w'):TL K w' g n vs.reverse n rows.reverse L:=by
 obtain⟨c,hc⟩:=h.ol.hp;refine⟨ho,by simp[h.len],fun u hu=>h.slc u (List.mem_reverse.1 hu),fun i u z hi hu hz=>?_⟩;rw[List.getElem?_reverse (by have:=h.len;omega)]at hu;rw[List.getElem?_reverse (by omega)]at hz;rw[h.len]at hu;rw[hl]at hz;exact(h.row _ u z (by omega) hu hz).tch ht hr hc
theorem ayd(rows:List (List Int)):(mapI (fun _ z=>z.reverse) rows).reverse=mir rows:=by
 unfold mapI mir;congr 1;apply List.ext_getElem?;intro i;rw[List.getElem?_mapIdx,List.getElem?_map]
theorem aye:Has Tryz.prog 187:=by unfold Has;kernel_rfl
theorem aho(w:World)(v:Value)(rows:List (List Int))(L:Nat)(h:IsM w v rows L)(hr:∀r∈rows,r.length<=1000000000)(hl:rows.length<=1000000000):
  Calls Tryz.prog 170 #[v] w fun e w'=>∃r,e=.returned r/\IsM w' r (mir rows) L/\Below w.heap.size w w':=by
 have hT:TurnM w 187 #[] rows L L (fun _ z=>z.reverse):=fun W c z xv _ hz hx=>aya W c xv z L hx (hr z (List.mem_of_getElem? hz))
 have K1:=hide (apo w v rows L L h hl _ aye #[] _ hT);obtain⟨ao,cp,rfl,_⟩:=h.parts;clear h hT hr;obtain⟨n,hnn⟩:∃n,rows.length=n:=⟨_,rfl⟩;rw[hnn]at K1 hl ⊢;have HN:=hide hnn;clear hnn;go_enter Tryz.func170,Tryz.ntmps170
 go_wp2_with fail
 refine K1.out.mono ?_;rintro e w1 ⟨rfl,⟨vs,hT⟩,hb⟩;have K2:=anv w1 w.heap.size n vs hT.ol hT.slc;rw[hT.len]at K2;have K2:=hide K2;have HT:=hide hT;have HB:=hide hb;clear hT hb K1;go_wp2_with fail
 refine K2.out.mono ?_;rintro e w2 ⟨rfl,hO,ht,hr⟩;have hT2:=HT.out.rev (by rw[ayc,HN.out]) hO ht hr;rw[ayd]at hT2;have HX:=hide (And.intro (hT2.isM (by rw[akp,HN.out])) (HB.out.trans (ht.below HB.out.size (Nat.le_refl _))));clear hO ht hr hT2 K2;go_wp2;refine bodyPost_ret (v:=_) (by simp[results,Tryz.results170,go_sem];try rfl) rfl ⟨_,rfl,HX.out.1,HX.out.2⟩
end Lm
namespace Lm
open Go Go.RowKit Md
open Dm (WFr)
theorem ayf(w:World):WFr 0 0 w false none 0 [] 0:=⟨⟨ah4 0 w,⟨fun z hz=>(by cases hz),rfl⟩,rfl,fun h=>(by omega)⟩,by decide⟩
def ZE(w:World)(bv:Nat)(zs:List Int)(L:Nat):Prop:=∃es:List WE,w.heap[bv]? = some (.cells (flat es).toArray 45 (0,0))/\es.length=zs.length/\∀(k:Nat) (e:WE) (z:Int),es[k]? = some e->zs[k]? = some z->∃B T,WFr B T w e.ng e.a e.c e.zs z/\e.m=e.zs.length/\e.zs.length<=L/\T<=w.heap.size
theorem ZE.lt{w:World}{bv:Nat}{zs:List Int}{L:Nat}(h:ZE w bv zs L):bv<w.heap.size:=by
 obtain⟨es,h1,_⟩:=h;exact aaa h1
theorem ZE.below{w w':World}{bv:Nat}{zs:List Int}{L:Nat}(h:ZE w bv zs L)(hb:Below w.heap.size w w'):ZE w' bv zs L:=by
 obtain⟨es,h1,h2,h3⟩:=h;refine⟨es,(hb.block bv (aaa h1)).trans h1,h2,fun k e z he hz=>?_⟩;obtain⟨B,T,g1,g2,g3,g4⟩:=h3 k e z he hz;exact⟨B,T,g1.below hb,g2,g3,Nat.le_trans g4 hb.size⟩
theorem ZE.tch{g:Nat}{w w':World}{bv:Nat}{zs:List Int}{L:Nat}{c:Array Value}(h:ZE w bv zs L)(ht:Tch g w w')(hg:w.heap[g]? = some (.cells c 39 (0,0))):ZE w' bv zs L:=by
 obtain⟨es,h1,h2,h3⟩:=h;refine⟨es,ht.blk h1 (aav hg h1 (by decide)),h2,fun k e z he hz=>?_⟩;obtain⟨B,T,g1,g2,g3,g4⟩:=h3 k e z he hz;exact⟨B,T,af5 g1 ht hg (by decide),g2,g3,Nat.le_trans g4 ht.size⟩
theorem ZE.start{w:World}{bv n:Nat}{L:Nat}(h:w.heap[bv]? = some (.cells (flat (List.replicate n ⟨false,none,0,0,[]⟩)).toArray 45 (0,0))):ZE w bv (List.replicate n 0) L:=by
 refine⟨_,h,by simp,fun k e z he hz=>?_⟩;rw[List.getElem?_replicate]at he hz;split at he
 ·rename_i hk;rw[if_pos hk]at hz;obtain rfl:=Option.some.inj he;obtain rfl:=Option.some.inj hz;exact⟨0,0,ayf w,rfl,Nat.zero_le _,Nat.zero_le _⟩
 ·cases he
theorem ZE.cells{w:World}{bv:Nat}{zs:List Int}{L:Nat}(h:ZE w bv zs L){k:Nat}(hk:k<zs.length):(∃ng a m c,w.cell? ⟨bv,k*2,none⟩=some (.bool ng)/\w.cell? ⟨bv,k*2+1,none⟩=some (.slice a m c))/\w.frozen? ⟨bv,k*2,none⟩=false/\w.frozen? ⟨bv,k*2+1,none⟩=false:=by
 obtain⟨es,h2,h1,_⟩:=h;obtain⟨e,he⟩:∃e,es[k]? = some e:=⟨_,List.getElem?_eq_getElem (by omega)⟩;obtain⟨f1,f2⟩:=ab7 he;exact⟨⟨e.ng,e.a,e.m,e.c,by rw[cell_of_row _ _ _ _ _ (0,0) h2,List.getElem?_toArray];exact f1,by rw[cell_of_row _ _ _ _ _ (0,0) h2,List.getElem?_toArray];exact f2⟩,frozen_of_row _ _ _ _ _ h2,frozen_of_row _ _ _ _ _ h2⟩
theorem ZE.put{w:World}{bv:Nat}{zs:List Int}{L:Nat}(h:ZE w bv zs L){k:Nat}(hk:k<zs.length){z:Int}{ng:Bool}{a:Option Addr}{m c K:Nat}(hv:FrW K z L (.agg #[.bool ng,.slice a m c]) w):
  ZE ((w.setCell ⟨bv,k*2,none⟩ (.bool ng)).setCell ⟨bv,k*2+1,none⟩ (.slice a m c)) bv (zs.set k z) L/\Tch bv w ((w.setCell ⟨bv,k*2,none⟩ (.bool ng)).setCell ⟨bv,k*2+1,none⟩ (.slice a m c)):=by
 obtain⟨es,h1,h2,h3⟩:=h;obtain⟨ng',ao',cap',rs,B',T',hv1,hv2,hv3,hv4,hv5⟩:=hv;simp only[Value.agg.injEq,Array.mk.injEq,List.cons.injEq,Value.bool.injEq,Value.slice.injEq,and_true]at hv1;obtain⟨rfl,rfl,rfl,rfl⟩:=hv1;have ht:=afb w bv k ⟨ng,a,rs.length,c,rs⟩;refine⟨⟨es.set k ⟨ng,a,rs.length,c,rs⟩,?_,by simp[h2],fun i e y he hy=>?_⟩,ht⟩
 ·rw[agm es k _ (by omega)];have s1:=heap_setCell_same w bv (k*2) _ _ (.bool ng) h1;have s2:=heap_setCell_same _ bv (k*2+1) _ _ (.slice a rs.length c) s1;rw[s2];simp
 ·by_cases hik:i=k
  ·subst hik;rw[List.getElem?_set_self (by omega)]at he;rw[List.getElem?_set_self (by omega)]at hy;obtain rfl:=Option.some.inj he;obtain rfl:=Option.some.inj hy;exact⟨B',T',af5 hv2 ht h1 (by decide),rfl,hv5,Nat.le_trans hv4 ht.size⟩
  ·rw[List.getElem?_set_ne (fun h=>hik h.symm)]at he hy;obtain⟨B,T,g1,g2,g3,g4⟩:=h3 i e y he hy;exact⟨B,T,af5 g1 ht h1 (by decide),g2,g3,Nat.le_trans g4 ht.size⟩
theorem ZE.is{w:World}{bv:Nat}{zs:List Int}{L:Nat}(h:ZE w bv zs L)(hl:zs.length<=1000000000):IsRow w (.slice (some ⟨bv,0,none⟩) zs.length zs.length) zs L:=by
 obtain⟨es,e2,e1,e4⟩:=h;have hz:∀(k:Nat) (e:WE),es[k]? = some e->∃z,zs[k]? = some z/\(∃B T,WFr B T w e.ng e.a e.c e.zs z)/\e.m=e.zs.length/\e.zs.length<=L:=by
  intro k e he;have hk:=(List.getElem?_eq_some_iff.1 he).1;obtain⟨z,hz⟩:∃z,zs[k]? = some z:=⟨_,List.getElem?_eq_getElem (by omega)⟩;obtain⟨B,T,g1,g2,g3,_⟩:=e4 k e z he hz;exact⟨z,hz,⟨B,T,g1⟩,g2,g3⟩
 refine⟨es,⟨⟨_,_,by rw[e1],by omega,by omega,aas es,?_⟩,?_⟩,?_,?_⟩
 ·refine .inr ⟨bv,0,rfl,aaa e2,fun j u hu=>?_⟩;rw[Nat.zero_add,cell_of_row _ _ _ _ _ (0,0) e2,List.getElem?_toArray];exact hu
 ·intro e he;obtain⟨k,hk⟩:=List.mem_iff_getElem?.1 he;obtain⟨z,_,⟨B,T,g1⟩,g2,_⟩:=hz k e hk;have:=g1.wh.sl;rwa[<-g2]at this
 ·apply List.ext_getElem?;intro k;rw[List.getElem?_map];cases hk:es[k]? with
  |none=>
   rw[List.getElem?_eq_none_iff]at hk;rw[Option.map_none,eq_comm,List.getElem?_eq_none_iff];omega
  |some e=>
   obtain⟨z,h1,⟨B,T,g1⟩,g2,_⟩:=hz k e hk;rw[h1,Option.map_some];congr 1;exact g1.wh.worth
 ·intro e he;obtain⟨k,hk⟩:=List.mem_iff_getElem?.1 he;obtain⟨z,_,_,_,g3⟩:=hz k e hk;exact g3
def ZRow(K:Nat)(w:World)(v:Value)(zs:List Int)(L:Nat):Prop:=∃bv,v=.slice (some ⟨bv,0,none⟩) zs.length zs.length/\K<=bv/\zs.length<=1000000000/\ZE w bv zs L
theorem ZRow.below{K:Nat}{w w':World}{v:Value}{zs:List Int}{L:Nat}(h:ZRow K w v zs L)(hb:Below w.heap.size w w'):ZRow K w' v zs L:=by
 obtain⟨bv,e,hK,hl,h⟩:=h;exact⟨bv,e,hK,hl,h.below hb⟩
theorem ZRow.is{K:Nat}{w:World}{v:Value}{zs:List Int}{L:Nat}(h:ZRow K w v zs L):IsRow w v zs L:=by
 obtain⟨bv,rfl,hK,hl,h⟩:=h;exact h.is hl
theorem ZRow.grown{K:Nat}{w w':World}{v u:Value}{n:Nat}{xs:List Value}{z:List Int}{L:Nat}(h:ZRow K w u z L)(ho:w.ownsRow K 39 1 v n xs)(hg:w.grownBy w' v.ownBlock):ZRow K w' u z L:=by
 obtain⟨_,⟨rfl,_⟩|⟨g,cap,cur,rfl,_,hh,_⟩⟩:=ho
 ·exact h.below ((Below.refl _ _).grown hg (Nat.le_refl _) (fun k hk=>by cases hk))
 ·obtain⟨bv,e,hK,hl,h⟩:=h;exact⟨bv,e,hK,hl,h.tch (Tch.of_grown hg (fun k hk=>(Option.some.inj hk).symm)) hh⟩
def OwZ(K:Nat)(w:World)(rv:Value)(rows:List (List Int))(L:Nat):Prop:=∃vs:List Value,w.ownsRow K 39 1 rv rows.length vs/\∀(i:Nat) (u:Value) (z:List Int),vs[i]? = some u->rows[i]? = some z->ZRow K w u z L
theorem OwZ.below{K:Nat}{w w':World}{rv:Value}{rows:List (List Int)}{L:Nat}(h:OwZ K w rv rows L)(hb:Below w.heap.size w w'):OwZ K w' rv rows L:=by
 obtain⟨vs,h1,h2⟩:=h;exact⟨vs,ab0 h1 hb,fun i u z hu hz=>(h2 i u z hu hz).below hb⟩
theorem OwZ.is{K:Nat}{w:World}{rv:Value}{rows:List (List Int)}{L:Nat}(h:OwZ K w rv rows L):IsM w rv rows L:=by
 obtain⟨vs,h1,h2⟩:=h;exact⟨vs,Ce.own h1,fun i u z hu hz=>(h2 i u z hu hz).is⟩
theorem OwZ.app{K:Nat}{w w':World}{v v' u:Value}{rows:List (List Int)}{vs:List Value}{z:List Int}{L:Nat}(hv:w.ownsRow K 39 1 v rows.length vs)(hr:∀(i:Nat) (u:Value) (z:List Int),vs[i]? = some u->rows[i]? = some z->ZRow K w u z L)(hu:ZRow K w u z L)(ho:w'.ownsRow K 39 1 v' (rows.length+1) (vs ++ [u]))(hg:w.grownBy w' v.ownBlock):OwZ K w' v' (rows ++ [z]) L:=by
 have hvl:vs.length=rows.length:=by simpa using hv.1
 refine⟨vs ++ [u],by simpa using ho,fun i x y hx hy=>?_⟩;by_cases hi:i<rows.length
 ·rw[List.getElem?_append_left (by omega)]at hx hy;exact(hr i x y hx hy).grown hv hg
 ·by_cases he:i=rows.length
  ·subst he;rw[List.getElem?_append_right (Nat.le_refl _)]at hy;rw[List.getElem?_append_right (by omega),hvl]at hx;simp at hx hy;subst hx hy;exact hu.grown hv hg
  ·rw[List.getElem?_eq_none (by simp;omega)]at hy;cases hy
def acp(n:Nat)(R:List Md.Rw)(Q:List Nat)(c i:Nat):List Int:=gRow (fun k=>if k=c then D R Q else if k∈Q.reverse.take i then -D R (sub k c Q)else 0) n
theorem avr{n:Nat}{R:List Md.Rw}{Q:List Nat}{c:Nat}(hc:c<n):(List.replicate n 0).set c (D R Q)=acp n R Q c 0:=by
 apply List.ext_getElem?;intro k;unfold acp;by_cases hk:k<n
 ·rw[abd hk];by_cases e:k=c
  ·subst e;rw[List.getElem?_set_self (by simpa using hk),if_pos rfl]
  ·rw[List.getElem?_set_ne (fun h=>e h.symm),List.getElem?_replicate,if_pos hk,if_neg e,if_neg (by simp)]
 ·rw[List.getElem?_eq_none (by simp;omega),List.getElem?_eq_none (by rw[aao];omega)]
theorem ayg{n:Nat}{R:List Md.Rw}{Q:List Nat}{c i p:Nat}(hp:Q.reverse[i]? = some p)(hpn:p<n)(hcQ:c∉Q):(acp n R Q c i).set p (-D R (sub p c Q))=acp n R Q c (i+1):=by
 have hpQ:p∈Q:=List.mem_reverse.1 (List.mem_of_getElem? hp);apply List.ext_getElem?;intro k;unfold acp;by_cases hk:k<n
 ·by_cases e:k=p
  ·subst e;rw[List.getElem?_set_self (by rw[aao];exact hk),abd hk,if_neg (fun e=>hcQ (by rw[<-e];exact hpQ)),if_pos ((abl hp).2 (.inr rfl))]
  ·rw[List.getElem?_set_ne (fun h=>e h.symm),abd hk,abd hk];congr 1;by_cases e2:k=c
   ·rw[if_pos e2,if_pos e2]
   ·rw[if_neg e2,if_neg e2];by_cases e3:k∈Q.reverse.take i
    ·rw[if_pos e3,if_pos ((abl hp).2 (.inl e3))]
    ·rw[if_neg e3,if_neg (fun h=>((abl hp).1 h).elim e3 e)]
 ·rw[List.getElem?_eq_none (by simp[aao];omega),List.getElem?_eq_none (by rw[aao];omega)]
theorem ayh{n:Nat}{R:List Md.Rw}{Q:List Nat}{c:Nat}: acp n R Q c Q.length=gRow (acr R Q c) n:=by
 unfold acp acr;rw[List.take_of_length_le (by simp)];simp only[List.mem_reverse]
def acrT(n:Nat)(R:List Md.Rw)(Q:List Nat)(k:Nat):List (List Int):=((List.range k).filter (fun c=>decide (c∉Q))).map (fun c=>gRow (acr R Q c) n)
theorem a1f{n:Nat}{R:List Md.Rw}{Q:List Nat}{k:Nat}(h:k∈Q):acrT n R Q (k+1)=acrT n R Q k:=by
 unfold acrT;rw[List.range_succ,List.filter_append];simp[h]
theorem ayi{n:Nat}{R:List Md.Rw}{Q:List Nat}{k:Nat}(h:k∉Q):acrT n R Q (k+1)=acrT n R Q k ++ [gRow (acr R Q k) n]:=by
 unfold acrT;rw[List.range_succ,List.filter_append];simp[h]
theorem ayj(n:Nat)(R:List Md.Rw)(Q:List Nat)(k:Nat):(acrT n R Q k).length<=k:=by
 unfold acrT;rw[List.length_map];have:=List.length_filter_le (fun c=>decide (c∉Q)) (List.range k);simpa using this
theorem a1g:(Tryz.prog.info? 39).map (fun i=>(i.zero,i.size,i.bytes))=some (some (.slice none 0 0),1,24):=by kernel_rfl
theorem ast(w:World)(q n L:Nat)(R:List Md.Rw)(Q:List Nat)(ra pa la:Option Addr)(rc pc lm lc:Nat)(ng:Bool)(hq:w.heap[q]? = some (.cells #[.slice ra Q.length rc,.slice pa Q.length pc,.bool ng,.slice la lm lc] 187 (0,0)))(hM:IsM w (.slice ra Q.length rc) (baR R Q n) L)(hP:IsP w (.slice pa Q.length pc) Q.reverse)(hF:FrW 0 (D R Q) L (.agg #[.bool ng,.slice la lm lc]) w)(hQ:∀p∈Q,p<n)(hn:n<=1000)(hL:L<=400000000):
  Calls Tryz.prog 171 #[.pointer (some ⟨q,0,none⟩),.int .i64 (n:Int)] w fun e w'=>∃r,e=.returned r/\IsM w' r (acrR n R Q) L/\Below w.heap.size w w':=by
 obtain⟨iW,hi,hz0,hz1,hz2⟩:=info_parts infoWz;obtain⟨iS,si,sz0,sz1,sz2⟩:=info_parts a1g;have HQ:=hide hq;have HM:=hide hM;have HP:=hide hP;have HF:=hide hF;have HQn:=hide hQ;have hql:=aaa hq;have hQl:Q.length<=9223372036854775807:=by obtain⟨_,_,_,h⟩:=hP.parts;simpa using h
 clear hq hM hP hF hQ;go_enter Tryz.func171,Tryz.ntmps171
 go_wp2;go_loopw [5,6,7,8,9,11] (fun ov _ _ _ _ iv wr=>∃(k:Nat),iv=.int .i64 k/\k<=n/\Below w.heap.size w wr/\OwZ w.heap.size wr ov (acrT n R Q k) L) (fun _ _ _ _ _ iv _=>n-(intOf iv).toNat)
 case atStart=>exact⟨0,rfl,Nat.zero_le _,Below.refl _ _,⟨[],World.ownsRow_nil _ _ _ _,fun i u z hu=>(by simp at hu)⟩⟩
 case round=>
  obtain⟨k,rfl,hk,hbw,hO⟩:=hrel;obtain⟨oa,oc,rfl,hol⟩:=hO.is.parts;have HW:=hide hbw;have HO:=hide hO;have hq1:=(hbw.block q hql).trans HQ.out;have hqw:q<wr.heap.size:=Nat.lt_of_lt_of_le hql hbw.size;have q0:=cell_of_row _ _ 0 _ _ (0,0) hq1;have q1:=cell_of_row _ _ 1 _ _ (0,0) hq1;have q2:=cell_of_row _ _ 2 _ _ (0,0) hq1;have q3:=cell_of_row _ _ 3 _ _ (0,0) hq1;simp at q0 q1 q2 q3;by_cases hlt:k<n
  ·have hlt':(k:Int)<(n:Int):=by omega
   have KC:=ahh wr pa Q.length pc _ (k:Int) (HP.out.below hbw).nums;by_cases hkQ:k∈Q
   ·rw[decide_eq_true ((ai3 k Q.reverse).2 (List.mem_reverse.2 hkQ))]at KC;have KC:=hide KC;clear hbw hO hq1;go_wp2_with fail
    refine KC.out.mono ?_;rintro e w1 ⟨rfl,rfl⟩;clear KC;go_wp2;go_roundw
    case rel=>exact⟨k+1,by go_num,by omega,HW.out,by rw[a1f hkQ];exact HO.out⟩
    case measure=>simp[intOf];omega
   ·rw[decide_eq_false (fun h=>hkQ (List.mem_reverse.1 ((ai3 k Q.reverse).1 h)))]at KC;have KC:=hide KC;clear hbw hO hq1;go_wp2_with fail
    refine KC.out.mono ?_;rintro e w1 ⟨rfl,rfl⟩;clear KC;go_wp2_with (refine wpList_make_full _ rfl (.tmp 20) (.tmp 20) 39 rfl w1.heap.size 45 iW (.agg #[.bool false,.slice none 0 0]) 2 Tryz.underlying39 hi hz0 hz1 .i64 .i64 _ _ n rfl rfl (by omega) (by omega) (by rw[hz2];omega) (by unfold maxLen;omega) (Nat.le_refl _) ?hK)
    case hK=>
     intro w2 hown hgrow;have hb2:Below w1.heap.size w1 w2:=(Below.refl _ _).grown hgrow (Nat.le_refl _) (by simp);obtain⟨_,hmb⟩:=acn hown;rw[acy]at hmb;have hZ0:=ZE.start (L:=L) hmb;obtain⟨⟨ngp,ap,mp,cp,p0,p1⟩,pf0,pf1⟩:=hZ0.cells (k:=k) (by simp;omega);have hput:=hZ0.put (k:=k) (by simp;omega) (HF.out.ru (Ru.of_below (HW.out.trans (hb2.mono HW.out.size))));rw[avr hlt]at hput;have hB3:=hb2.trans (hput.2.below hb2.size (Nat.le_refl _));have HS:=hide (And.intro hput.1 hB3);replace q1:=(hb2.cell (p:=⟨q,1,none⟩) hqw).trans q1;replace q2:=(hb2.cell (p:=⟨q,2,none⟩) hqw).trans q2;replace q3:=(hb2.cell (p:=⟨q,3,none⟩) hqw).trans q3;have hzl:=hZ0.lt;clear hown hgrow hmb hZ0 hput hB3 hb2;have hne:¬q=w1.heap.size:=by omega
     go_wp2;go_loopw [8,9,34] (fun _ _ jv wj=>∃(j:Nat),jv=.int .i64 (j:Int)/\j<=Q.length/\Below w1.heap.size w1 wj/\ZE wj w1.heap.size (acp n R Q k j) L) (fun _ _ jv _=>Q.length-(intOf jv).toNat)
     case atStart=>exact⟨0,rfl,Nat.zero_le _,HS.out.2,HS.out.1⟩
     case round=>
      obtain⟨j,rfl,hj,hbj,hZ⟩:=hrel;have HBJ:=hide hbj;have HZ:=hide hZ;clear q1 q2 q3 p0 p1 pf0 pf1;by_cases hjl:j<Q.length
      ·have hjl':(j:Int)<(Q.length:Int):=by omega
       have HJ:=hide hjl;obtain⟨p,hp⟩:∃p,Q.reverse[j]? = some p:=⟨_,List.getElem?_eq_getElem (by simp;omega)⟩;have hpn:p<n:=HQn.out p (List.mem_reverse.1 (List.mem_of_getElem? hp));have hpn':(p:Int)<(n:Int):=by omega
       obtain⟨pb,po,rfl,hpl,y0⟩:=HP.out.cell hp;have hb0j:=HW.out.trans (hbj.mono HW.out.size);replace y0:=(hb0j.cell (p:=⟨pb,po+j,none⟩) hpl).trans y0;have hrow:(baR R Q n)[j]? = some (gRow (fun k=>D R (sub p k Q)) n):=by
        unfold baR;rw[List.getElem?_map,hp];rfl
       obtain⟨rb,ro,u,rfl,hrl,z0,hu⟩:=HM.out.cell hrow;replace z0:=(hb0j.cell (p:=⟨rb,ro+j,none⟩) hrl).trans z0;obtain⟨ua,uc,rfl,_⟩:=hu.parts;rw[aao]at hu z0;obtain⟨bx,ox,ngx,axx,mxx,cxx,rfl,hxl,x0,x1,hx⟩:=hu.cell (abd (g:=fun k=>D R (sub p k Q)) hlt);replace x0:=(hb0j.cell (p:=⟨bx,ox+k*2,none⟩) hxl).trans x0;replace x1:=(hb0j.cell (p:=⟨bx,ox+k*2+1,none⟩) hxl).trans x1;have KN:=hide (negF _ _ _ L (hx.ru (Ru.of_below hb0j)) hL);have q0:=(hbj.cell (p:=⟨q,0,none⟩) hqw).trans q0;have HPP:=hide hp;clear hbj hZ hp hrow hu hx hb0j;go_wp2_with fail
       refine KN.out.mono ?_;rintro e w4 ⟨v4,rfl,h4,hb4⟩;obtain⟨ng4,a4,m4,c4,rfl⟩:=h4.agg;have hZ4:=HZ.out.below hb4;have hal:(acp n R Q k j).length=n:=aao _ _;obtain⟨⟨ngp,ap,mp,cp,p0,p1⟩,pf0,pf1⟩:=hZ4.cells (k:=p) (by omega);have hput:=hZ4.put (k:=p) (by omega) h4;rw[ayg HPP.out hpn hkQ]at hput;have hB4:=HBJ.out.trans (hb4.mono HBJ.out.size);have HS4:=hide (And.intro hput.1 (hB4.trans (hput.2.below hB4.size (Nat.le_refl _))));have hzl4:=hZ4.lt;clear h4 hb4 hZ4 hput hB4 KN y0 z0 x0 x1 q0;go_wp2;go_roundw
       case rel=>exact⟨j+1,by go_num,HJ.out,HS4.out.2,HS4.out.1⟩
       case measure=>have:=HJ.out;simp[intOf];omega
      ·have hjl':decide ((j:Int)<(Q.length:Int))=false:=by simp;omega
       have hje:j=Q.length:=by omega
       subst hje;rw[ayh]at hZ;have hrl:(gRow (acr R Q k) n).length=n:=aao _ _;have hZR:ZRow w.heap.size wr (.slice (some ⟨w1.heap.size,0,none⟩) n n) (gRow (acr R Q k) n) L:=⟨w1.heap.size,by rw[hrl],HW.out.size,by rw[hrl];omega,hZ⟩;obtain⟨vs,hvs,hvr⟩:=HO.out.below hbj;obtain⟨kl,hkl⟩:∃kl,(acrT n R Q k).length=kl:=⟨_,rfl⟩;have hkll:=ayj n R Q k;rw[hkl]at hvs hkll ⊢;have HV:=hide (And.intro hvs (And.intro hvr (And.intro hZR hkl)));have hbl4:=hAl wr (.cells #[.slice (some ⟨w1.heap.size,0,none⟩) n n] 39);have hlow:=Nat.le_trans HW.out.size hbj.size;clear hvr hZR hZ hbj hkl HZ;go_wp2_with (at_builtin;refine wpList_append_own _ rfl (.tmp 54) (.tmp 56) 23 rfl w.heap.size 39 iS (.slice none 0 0) 1 24 Tryz.underlying23 si sz0 sz1 sz2 rfl (by decide) _ _ _ rfl (hvs.alloc _) ⟨wr.heap.size,0,none⟩ 1 1 [.slice (some ⟨w1.heap.size,0,none⟩) n n] rfl rfl (cell_one_new _ _ _) ?c2 ?c3 ?c4 ?c5 ?_)
       case c2=>first|rfl|(intro x hx;simp at hx;subst hx;rfl)
       case c3=>unfold maxLen;omega
       case c4=>omega
       case c5=>simp;omega
       intro v5 w5 hown5 hgrow5 _;obtain⟨hv1,hv2,hv3,hv4⟩:=HV.out;have hA:=OwZ.app (v:=.slice oa kl oc) (rows:=acrT n R Q k) (by rw[hv4];exact hv1.alloc _) (fun i u z a b=>(hv2 i u z a b).below hbl4) (hv3.below hbl4) (by rw[hv4];exact hown5) hgrow5;have hbx:Below w.heap.size w w5:=(HW.out.trans (HBJ.out.mono HW.out.size)).trans ((hbl4.mono hlow).trans ((Below.refl _ _).grown hgrow5 (Nat.le_trans hlow hbl4.size) (fun j hj=>(hv1.lt j hj).1)));rw[<-ayi hkQ]at hA;have HFin:=hide (And.intro hA hbx);clear hown5 hgrow5 hv1 hv2 hv3 hv4 hA hbx hvs hbl4;go_wp2;go_roundw
       case rel=>exact⟨k+1,by go_num,by omega,HFin.out.2,HFin.out.1⟩
       case measure=>simp[intOf];omega
  ·have hlt':decide ((k:Int)<(n:Int))=false:=by simp;omega
   have hkn:k=n:=by omega
   subst hkn;have HFin:=hide (And.intro hO.is hbw);clear hbw hO hq1 q0 q1 q2 q3;go_wp2;refine bodyPost_ret (v:=_) (by simp[results,Tryz.results171,go_sem];try rfl) rfl ⟨_,rfl,HFin.out.1,HFin.out.2⟩
end Lm
namespace Lm
open Go Go.RowKit Md
def KerOut(K:Nat)(w':World)(n L0:Nat)(rows:List (List Int))(e:Ending):Prop:=∃R Q,Ech n (mir rows) R Q/\(((∃r∈elR n (kerE n R Q),r.any big=true)/\e=.returned (.tuple #[.slice none 0 0,.int .i64 2]))\/((∀r∈elR n (kerE n R Q),r.any big=false)/\∃rv,e=.returned (.tuple #[rv,.int .i64 0])/\OwM K w' rv (elR n (kerE n R Q)) (lg L0)))
theorem aky(n:Nat)(Q:List Nat):(free n Q).length<=n:=by
 unfold free;have:=List.length_filter_le (fun c=>decide (c∉Q)) (List.range n);simpa using this
theorem afu(w:World)(v:Value)(rows:List (List Int))(n L0:Nat)(h:IsM w v rows L0)(hs:Shaped rows (n:Int))(hL0:L0<=1510000):
  Calls Tryz.prog 161 #[v,.int .i64 (n:Int)] w fun e w'=>KerOut w.heap.size w' n L0 rows e/\Below w.heap.size w w':=by
 have K0:=aft w v rows L0 h (n:Int);rw[decide_eq_true hs]at K0;have K0:=hide K0;have hrn:∀r∈rows,r.length=n:=fun r hr=>by have:=hs.2.2.2 r hr;omega
 have hs2:Shaped (mir rows) (n:Int):=⟨hs.1,hs.2.1,by rw[akp];exact hs.2.2.1,fun r hr=>by rw[aey hrn r hr]⟩;have hn32:=hs.2.1;have K1:Hid (∀w1,Below w.heap.size w w1->_):=(fun w1 hb=>aho w1 v rows L0 (h.below hb) (fun r hr=>by rw[hrn r hr];omega) (by have:=hs.2.2.1;omega));have HS2:=hide hs2;obtain⟨ao,cp,rfl,hn⟩:=h.parts;clear h hs hrn hs2;go_enter Tryz.func161,Tryz.ntmps161
 go_wp2_with fail
 refine K0.out.mono ?_;rintro e w1 ⟨rfl,hb1⟩;have K2:=hide (K1.out w1 hb1);have HB1:=hide hb1;clear hb1 K0 K1;go_wp2_with fail
 refine K2.out.mono ?_;rintro e w2 ⟨r2,rfl,hM2,hb2⟩;have K3:=hide (ahk w2 r2 (mir rows) n L0 hM2 HS2.out hL0);have HB2:=hide (HB1.out.trans (hb2.mono HB1.out.size));obtain⟨ra2,rc2,rfl,_⟩:=hM2.parts;clear hM2 hb2 K2;go_wp2_with fail
 refine K3.out.mono ?_;rintro e w3 ⟨R,Q,ra,rc,pa,pc,ng,la,lm,lc,rfl,hE,hM,hP,hF,hb3⟩;have hba:=hAl w3 (.cells #[.slice ra Q.length rc,.slice pa Q.length pc,.bool ng,.slice la lm lc] 187);have hn3:=heap_alloc_new w3 (.cells #[.slice ra Q.length rc,.slice pa Q.length pc,.bool ng,.slice la lm lc] 187);have K4:=hide (ast _ w3.heap.size n (lg L0) R Q ra pa la rc pc lm lc ng hn3 (hM.is.below hba) (hP.is.below hba) ((hF.ru (Ru.of_below hba)).low (Nat.zero_le _)) hE.gat.lt (by omega) (by unfold lg;omega));have hb03:=HB2.out.trans (hb3.mono HB2.out.size);have HB3:=hide (hb03.trans (hba.mono hb03.size));have HE:=hide hE;clear hE hM hP hF hb3 hba hn3 hb03 K3;go_wp2_with fail
 refine K4.out.mono ?_;rintro e w4 ⟨r4,rfl,hM4,hb4⟩;have K5:=hide (aho w4 r4 (acrR n R Q) (lg L0) hM4 (fun r hr=>by rw[anr r hr];omega) (by unfold acrR;rw[List.length_map];have:=aky n Q;omega));have HB4:=hide (HB3.out.trans (hb4.mono HB3.out.size));obtain⟨ra4,rc4,rfl,_⟩:=hM4.parts;clear hM4 hb4 K4;go_wp2_with fail
 refine K5.out.mono ?_;rintro e w5 ⟨r5,rfl,hM5,hb5⟩;have K6:=aln w5 r5 (mir (acrR n R Q)) (lg L0) hM5 (fun r hr=>by rw[aey anr r hr];omega) (by rw[akp];unfold acrR;rw[List.length_map];have:=aky n Q;omega) (by unfold lg;omega);rw[a09,ax4,a4j]at K6;have K6:=hide K6;have HB5:=hide (HB4.out.trans (hb5.mono HB4.out.size));obtain⟨ra5,rc5,rfl,_⟩:=hM5.parts;clear hM5 hb5 K5;go_wp2_with fail
 refine K6.out.mono ?_;rintro e w6 ⟨hb6,⟨hex,rfl⟩|⟨hal,rv,rfl,hO⟩⟩
 ·have HB:=hide (HB5.out.trans (hb6.mono HB5.out.size));have HX:=hide hex;clear hb6 hex K6;go_wp2;refine bodyPost_ret (v:=_) (by simp[results,Tryz.results161,go_sem];try rfl) rfl ⟨⟨R,Q,HE.out,.inl ⟨HX.out,rfl⟩⟩,HB.out⟩
 ·have HB:=hide (HB5.out.trans (hb6.mono HB5.out.size));have HX:=hide hal;have HO:=hide (hO.low HB5.out.size);obtain⟨oa,oc,rfl,_⟩:=hO.is.parts;clear hb6 hal hO K6;go_wp2;refine bodyPost_ret (v:=_) (by simp[results,Tryz.results161,go_sem];try rfl) rfl ⟨⟨R,Q,HE.out,.inr ⟨HX.out,_,rfl,HO.out⟩⟩,HB.out⟩
end Lm
end Go.Proofs.YtjogfjgkabjcfaaGreat
