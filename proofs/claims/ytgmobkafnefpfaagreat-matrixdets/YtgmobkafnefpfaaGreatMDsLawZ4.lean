/-
  What the text behind the last one leans on, part 4.
-/
import Derived.Shelf.Spec.SlicesInsertGrow
import Derived.WalkMore
import Derived.Deep.Slices
import Derived.SizedLaws
import Derived.Test.YtgmobkafnefpfaaGreatMDsLawZ3
namespace Go.Proofs.YtgmobkafnefpfaaGreat
namespace Lm
open Go Go.RowKit
theorem ak6:(Tryz.prog.info? 3).map (fun i=>(i.zero,i.size,i.bytes))=some (some (.int .i64 0),1,8):=by kernel_rfl
theorem aip:(Tryz.prog.info? 39).map (fun i=>(i.zero,i.size,i.bytes))=some (some (.slice none 0 0),1,24):=by kernel_rfl
theorem sizeI:(Tryz.prog.info? 3).map (·.size)=some 1:=by
 obtain ⟨i0,hi0,h0,h1,h2⟩:=info_parts ak6
 rw [hi0];simp [h1]
theorem overI (w:World) (vb voff m vc b o lb cb:Nat) (hvb:vb≠b) (tA tB:TypeId) (kA kB:Nat) (hsa:w.shape? vb=some (tA,kA)) (hsb:w.shape? b=some (tB,kB)) (hkB:kB≠0) (hfa:w.frozen? ⟨vb,voff,none⟩ = false) (hfe:w.frozen? ⟨vb,kA,none⟩ = false) :
  (callFunc 94 #[.slice (some ⟨vb,voff,none⟩) m vc,.slice (some ⟨b,o,none⟩) lb cb]).run Tryz.prog w=.ok (.value (.bool false)) w:=by
 rw [run_callFunc_extern (fn:=Tryz.f94) (by kernel_rfl) (by kernel_rfl) (by kernel_rfl) (by kernel_rfl) (e:=Extern.SlicesOverlaps.overlaps #[43,43] #[4]) (by kernel_rfl),
  Lib.run_overlaps_apart w 43 4 3 Tryz.underlying43 1 (fun w=>by kernel_rfl) ⟨vb,voff,none⟩ ⟨b,o,none⟩ m vc lb cb hvb tA tB kA kB hsa hsb hkB hfa hfe]
 rfl
set_option maxRecDepth 20000 in
set_option maxHeartbeats 4000000 in
set_option maxRecDepth 100000 in
theorem insSI (b off n c i vb voff m vc:Nat) (cs vs:List Value) (w:World) (hi:i<n) (hm:0<m) (hroom:n+m≤c) (hc63:c≤9223372036854775807) (hvb:vb≠b)
  (hcl:cs.length=n) (hvl:vs.length=m)
  (hcs:∀ j v,cs[j]? = some v→w.cell? ⟨b,off+j,none⟩ = some v) (hsp:∀ j,j<n+m→(w.cell? ⟨b,off+j,none⟩).isSome=true) (hfz:∀ j,j<n+m→w.frozen? ⟨b,off+j,none⟩ = false)
  (hvs:∀ j v,vs[j]? = some v→w.cell? ⟨vb,voff+j,none⟩ = some v) (h1c:∀ v ∈ cs,v.oneCell' = true) (h1v:∀ v ∈ vs,v.oneCell' = true)
  (tA tB:TypeId) (kA kB:Nat) (hsa:w.shape? vb=some (tA,kA)) (hsb:w.shape? b=some (tB,kB)) (hkB:kB≠0) (hfa:w.frozen? ⟨vb,voff,none⟩ = false) (hfe:w.frozen? ⟨vb,kA,none⟩ = false) :
  Calls Tryz.prog 70 #[.slice (some ⟨b,off,none⟩) n c,.int .i64 i,.slice (some ⟨vb,voff,none⟩) m vc] w fun e w' =>
   e=.returned (.slice (some ⟨b,off,none⟩) (n+m) c)∧w' = (w.drew.setCells b (off+(i+m)) (cs.drop i)).setCells b (off+i) vs:=by
 have hz1:¬ ((m:Int)=0):=by omega
 have hz2:¬ ((i:Int)=(n:Int)):=by omega
 have hov:∀ lb cb,(callFunc 94 #[.slice (some ⟨vb,voff,none⟩) m vc,.slice (some ⟨b,off+(i+m),none⟩) lb cb]).run Tryz.prog w=.ok (.value (.bool false)) w:=fun lb cb=>overI w vb voff m vc b _ lb cb hvb tA tB kA kB hsa hsb hkB hfa hfe
 have hdl:(cs.drop i).length=n - i:=by rw [List.length_drop,hcl]
 have hw1:IntKind.i64.wrap ((i:Int)+(m:Int))=(i:Int)+(m:Int):=by rw [IntKind.wrap_i64];omega
 have hb1:(0:Int)≤(i:Int)+(m:Int):=by omega
 have hin:i≤n:=by omega
 have htn:((i:Int)+(m:Int)).toNat=i+m:=by omega
 have hb2:¬ (c=i+m):=by omega
 have hb3:(i:Int)≤(n:Int)+(m:Int):=by omega
 have hb4:¬ (c=i):=by omega
 have hcp1:∀ ty dc sc,(Builtin.copy_ #[43,43] ty #[.slice (some ⟨b,off+(i+m),none⟩) (n+m - (i+m)) dc,.slice (some ⟨b,off+i,none⟩) (n+m - i) sc]).run Tryz.prog w.drew=.ok (goInt (cs.drop i).length) (w.drew.setCells b (off+(i+m)) (cs.drop i)):=fun ty dc sc =>
  run_copy_cells w.drew _ _ ty 3 b (off+(i+m)) (n+m - (i+m)) dc ⟨b,off+i,none⟩ (n+m - i) sc (cs.drop i) Tryz.underlying43 sizeI (by rw [hdl];simp only [Nat.min_def];split <;> omega)
   (fun j v hj=>by rw [Addr.add_lit,Nat.add_assoc];exact hcs (i+j) v (by rwa [List.getElem?_drop] at hj))
   (fun j hj=>by rw [Nat.add_assoc];exact hsp _ (by omega)) (fun j hj=>by rw [Nat.add_assoc];exact hfz _ (by omega)) (fun v hv=>h1c v (List.mem_of_mem_drop hv))
 obtain ⟨W1,hW1⟩:∃ W1,W1=w.drew.setCells b (off+(i+m)) (cs.drop i):=⟨_,rfl⟩
 have hsp1:∀ k,k<n+m→(W1.cell? ⟨b,off+k,none⟩).isSome=true:=fun k hk=>by
  rw [hW1]
  exact isSome_setCells b _ _ _ (fun j hj=>by rw [Nat.add_assoc];exact hsp _ (by omega)) _ (hsp k hk)
 have hcp2:∀ (W:World),(∀ x,W.cell? x=W1.cell? x)→(∀ x,W.frozen? x=W1.frozen? x)→∀ ty dc,(Builtin.copy_ #[43,43] ty #[.slice (some ⟨b,off+i,none⟩) (n+m - i) dc,.slice (some ⟨vb,voff,none⟩) m vc]).run Tryz.prog W=.ok (goInt vs.length) (W.setCells b (off+i) vs):=fun W hWc hWf ty dc =>
  run_copy_cells W _ _ ty 3 b (off+i) (n+m - i) dc ⟨vb,voff,none⟩ m vc vs Tryz.underlying43 sizeI (by rw [hvl];simp only [Nat.min_def];split <;> omega)
   (fun j v hj=>by
    rw [Addr.add_lit,hWc,hW1,World.cell?_setCells_out b _ _ _ _ (fun h _=>absurd h hvb)]
    exact hvs j v hj)
   (fun j hj=>by rw [hWc,Nat.add_assoc];exact hsp1 _ (by omega)) (fun j hj=>by rw [hWf,hW1,World.frozen?_setCells,Nat.add_assoc];exact hfz _ (by omega)) h1v
 rw [←hW1] at hcp1
 go_enter Tryz.func70,Tryz.ntmps70
 go_wp2_with (simp only [hov])
 go_region_law (refine step_copy_runI rfl _ _ 43 43 rfl _ _ (by simp [Act.eval,Act.put]) (by simp [Act.eval,Act.put]) (hcp1 _ _ _) ?_)
 go_wp2_with (at_builtin;refine wpList_copy_runI _ rfl _ _ 43 43 rfl _ _ rfl rfl (hcp2 _ (fun _=>rfl) (fun _=>rfl) _ _) ?_)
 go_ret
 first | exact ⟨rfl,rfl⟩ | exact ⟨rfl,by rw [hW1]⟩
set_option maxRecDepth 20000 in
set_option maxHeartbeats 4000000 in
set_option maxRecDepth 100000 in
theorem insGI (b off n c i vb voff m vc:Nat) (cs vs:List Value) (w:World) (hi:i<n) (hm:0<m) (_hnc:n≤c) (hroom:c<n+m) (hbig:(n+m)*8≤140737488355328)
  (hcl:cs.length=n) (hvl:vs.length=m)
  (hcs:∀ j v,cs[j]? = some v→w.cell? ⟨b,off+j,none⟩ = some v)
  (hvs:∀ j v,vs[j]? = some v→w.cell? ⟨vb,voff+j,none⟩ = some v) (h1c:∀ v ∈ cs,v.oneCell' = true) (h1v:∀ v ∈ vs,v.oneCell' = true) :
  Calls Tryz.prog 70 #[.slice (some ⟨b,off,none⟩) n c,.int .i64 i,.slice (some ⟨vb,voff,none⟩) m vc] w fun e w' =>
   e=.returned (.slice (some ⟨w.heap.size,0,none⟩) (n+m) (grownCap w (n+m) c 3)) ∧
   w' = (((w.alloc (.cells ((cs.take i).toArray ++ Builtin.zeroCells (Value.cells (.int .i64 0)) (n+m - i) ++ Builtin.zeroCells (Value.cells (.int .i64 0)) (grownCap w (n+m) c 3 - (n+m))) 3)).drew.setCells w.heap.size i vs).drew).setCells w.heap.size (i+m) (cs.drop i):=by
 obtain ⟨i0,hi0,hz0,hzs,hzb⟩:=info_parts ak6
 have hz1:¬ ((m:Int)=0):=by omega
 have hz2:¬ ((i:Int)=(n:Int)):=by omega
 have hz3:(c:Int)<(n:Int)+(m:Int):=by omega
 have hbw:b<w.heap.size:=block_lt_of_cell (hcs 0 _ (List.getElem?_eq_getElem (by omega)))
 have hvw:vb<w.heap.size:=block_lt_of_cell (hvs 0 _ (List.getElem?_eq_getElem (by omega)))
 have hkk:(n:Int)+(m:Int) - (i:Int)=((n+m - i:Nat):Int):=by omega
 have hik:i+(n+m - i)=n+m:=by omega
 have hold:(Builtin.firstCells i0.size i (.slice (some ⟨b,off,none⟩) i c)).run Tryz.prog w.drew=.ok (cs.take i).toArray w.drew:=by
  rw [hzs]
  exact run_firstCells_some w.drew 1 i ⟨b,off,none⟩ i c (cs.take i) (by rw [List.length_take];omega) (fun j v hj=>by
   rw [Addr.add_lit]
   rw [List.getElem?_take] at hj
   split at hj
   ·exact hcs j v hj
   ·cases hj)
 have hrz:∀ ty,(Builtin.append_ #[43,3] ty #[.slice (some ⟨b,off,none⟩) i c,.int .i64 ((n:Int)+(m:Int) - (i:Int))]).run Tryz.prog w =
   .ok (.slice (some ⟨w.heap.size,0,none⟩) (n+m) (grownCap w (n+m) c 3)) (w.drew.alloc (.cells ((cs.take i).toArray ++ Builtin.zeroCells (Value.cells (.int .i64 0)) (n+m - i) ++ Builtin.zeroCells (Value.cells (.int .i64 0)) (grownCap w (n+m) c 3 - (n+m))) 3)):=fun ty=>by
  have h:=Lib.run_append_grow_zeros w 43 3 ty 3 i0 _ .i64 .i64 Tryz.underlying43 Tryz.underlying3 hi0 hz0 (some ⟨b,off,none⟩) i c (cs.take i) hold (n+m - i) (by omega) (by omega) (by omega) (by omega) (by rw [hzb];omega) (by rw [hzb,hik];exact growslice_fits hroom hbig)
  rw [hik] at h
  rw [hkk]
  exact h
 obtain ⟨G,hG⟩:∃ G,G=grownCap w (n+m) c 3:=⟨_,rfl⟩
 obtain ⟨ROW,hROW⟩:∃ ROW:Array Value,ROW=(cs.take i).toArray ++ Builtin.zeroCells (Value.cells (.int .i64 0)) (n+m - i) ++ Builtin.zeroCells (Value.cells (.int .i64 0)) (G - (n+m)):=⟨_,rfl⟩
 rw [←hG] at hrz ⊢
 rw [←hROW] at hrz ⊢
 have hRl:n+m≤ROW.size:=by
  rw [hROW]
  simp [Builtin.zeroCells,Value.cells]
  omega
 obtain ⟨W1,hW1⟩:∃ W1,W1=w.drew.alloc (.cells ROW 3):=⟨_,rfl⟩
 rw [←hW1] at hrz
 have hN:∀ j,j<n+m→(W1.cell? ⟨w.heap.size,j,none⟩).isSome=true:=fun j hj=>by
  rw [hW1,World.cell?_alloc_at (w:=w.drew) ROW _ w.heap.size j rfl,Array.getElem?_eq_getElem (by omega)];rfl
 have hNf:∀ j,W1.frozen? ⟨w.heap.size,j,none⟩ = false:=fun j=>by rw [hW1];exact World.frozen?_alloc_at (w:=w.drew) ROW _ w.heap.size j rfl
 have hOb:∀ j v,w.cell? ⟨b,j,none⟩ = some v→W1.cell? ⟨b,j,none⟩ = some v:=fun j v h=>by rw [hW1,World.cell?_alloc_past (w:=w.drew) _ b j hbw];exact h
 have hOv:∀ j v,w.cell? ⟨vb,j,none⟩ = some v→W1.cell? ⟨vb,j,none⟩ = some v:=fun j v h=>by rw [hW1,World.cell?_alloc_past (w:=w.drew) _ vb j hvw];exact h
 have hcpA:∀ (W:World),(∀ x,W.cell? x=W1.cell? x)→(∀ x,W.frozen? x=W1.frozen? x)→∀ ty dc,(Builtin.copy_ #[43,43] ty #[.slice (some ⟨w.heap.size,i,none⟩) (n+m - i) dc,.slice (some ⟨vb,voff,none⟩) m vc]).run Tryz.prog W=.ok (goInt vs.length) (W.setCells w.heap.size i vs):=fun W hWc hWf ty dc =>
  run_copy_cells W _ _ ty 3 w.heap.size i (n+m - i) dc ⟨vb,voff,none⟩ m vc vs Tryz.underlying43 sizeI (by rw [hvl];simp only [Nat.min_def];split <;> omega)
   (fun j v hj=>by rw [Addr.add_lit,hWc];exact hOv _ v (hvs j v hj))
   (fun j hj=>by rw [hWc];exact hN _ (by omega)) (fun j hj=>by rw [hWf];exact hNf _) h1v
 have hGn:n+m≤G:=by rw [hG];exact grownCap_ge w _ _ _
 have hG63:G≤9223372036854775807:=by
  have:=grownCap_le_maxLen w (n+m) c 3 (by unfold maxLen;omega)
  rw [←hG] at this
  unfold maxLen at this
  omega
 have hGi:¬ (G=i):=by omega
 have hGim:¬ (G=i+m):=by omega
 have hci:¬ (c=i):=by omega
 have hbN:b≠w.heap.size:=by omega
 have hdl:(cs.drop i).length=n - i:=by rw [List.length_drop,hcl]
 have hcpB:∀ (W:World),(∀ x,W.cell? x=(W1.setCells w.heap.size i vs).cell? x)→(∀ x,W.frozen? x=(W1.setCells w.heap.size i vs).frozen? x)→∀ ty dc sc,(Builtin.copy_ #[43,43] ty #[.slice (some ⟨w.heap.size,i+m,none⟩) (n+m - (i+m)) dc,.slice (some ⟨b,off+i,none⟩) (n - i) sc]).run Tryz.prog W=.ok (goInt (cs.drop i).length) (W.setCells w.heap.size (i+m) (cs.drop i)):=fun W hWc hWf ty dc sc =>
  run_copy_cells W _ _ ty 3 w.heap.size (i+m) (n+m - (i+m)) dc ⟨b,off+i,none⟩ (n - i) sc (cs.drop i) Tryz.underlying43 sizeI (by rw [hdl];simp only [Nat.min_def];split <;> omega)
   (fun j v hj=>by
    rw [Addr.add_lit,hWc,World.cell?_setCells_out _ _ _ _ _ (fun h _=>absurd h hbN),Nat.add_assoc]
    exact hOb _ v (hcs (i+j) v (by rwa [List.getElem?_drop] at hj)))
   (fun j hj=>by rw [hWc];exact isSome_setCells _ _ _ _ (fun t ht=>hN _ (by omega)) _ (hN _ (by omega)))
   (fun j hj=>by rw [hWf,World.frozen?_setCells];exact hNf _) (fun v hv=>h1c v (List.mem_of_mem_drop hv))
 subst hW1
 have hE1:∀ x,((w.alloc (.cells ROW 3)).drew).cell? x=(w.drew.alloc (.cells ROW 3)).cell? x:=fun x=>rfl
 have hE2:∀ x,((w.alloc (.cells ROW 3)).drew).frozen? x=(w.drew.alloc (.cells ROW 3)).frozen? x:=fun x=>rfl
 have hF1:∀ x,(((w.alloc (.cells ROW 3)).drew.setCells w.heap.size i vs).drew).cell? x=((w.drew.alloc (.cells ROW 3)).setCells w.heap.size i vs).cell? x:=fun x=>rfl
 have hF2:∀ x,(((w.alloc (.cells ROW 3)).drew.setCells w.heap.size i vs).drew).frozen? x=((w.drew.alloc (.cells ROW 3)).setCells w.heap.size i vs).frozen? x:=fun x=>rfl
 have hw1:IntKind.i64.wrap ((i:Int)+(m:Int))=(i:Int)+(m:Int):=by rw [IntKind.wrap_i64];omega
 have hb1:(0:Int)≤(i:Int)+(m:Int):=by omega
 have hin:i≤n:=by omega
 have htn:((i:Int)+(m:Int)).toNat=i+m:=by omega
 have hb3:(i:Int)≤(n:Int):=by omega
 clear hkk hik hold hROW hG hRl
 go_enter Tryz.func70,Tryz.ntmps70
 go_wp2_with (first
  | (at_builtin;refine Lib.wpList_append_run _ rfl _ _ _ _ rfl _ _ rfl rfl _ _ (hrz _) ?_)
  | (at_builtin;refine wpList_copy_runI _ rfl _ _ 43 43 rfl _ _ rfl rfl (hcpA _ hE1 hE2 _ _) ?_)
  | (at_builtin;refine wpList_copy_runI _ rfl _ _ 43 43 rfl _ _ rfl rfl (hcpB _ (fun _=>rfl) (fun _=>rfl) _ _ _) ?_))
 go_region_law (refine step_copy_runI rfl _ _ 43 43 rfl (.slice (some ⟨w.heap.size,i+m,none⟩) (n+m - (i+m)) (G - (i+m))) (.slice (some ⟨b,off+i,none⟩) (n - i) (c - i)) (by simp [Act.eval,Act.put]) (by simp [Act.eval,Act.put]) (hcpB _ hF1 hF2 3 (G - (i+m)) (c - i)) ?_)
 go_wp2
 go_ret
 exact ⟨rfl,rfl⟩
theorem sizeR:(Tryz.prog.info? 39).map (·.size)=some 1:=by
 obtain ⟨i0,hi0,h0,h1,h2⟩:=info_parts aip
 rw [hi0];simp [h1]
theorem overR (w:World) (vb voff m vc b o lb cb:Nat) (hvb:vb≠b) (tA tB:TypeId) (kA kB:Nat) (hsa:w.shape? vb=some (tA,kA)) (hsb:w.shape? b=some (tB,kB)) (hkB:kB≠0) (hfa:w.frozen? ⟨vb,voff,none⟩ = false) (hfe:w.frozen? ⟨vb,kA,none⟩ = false) :
  (callFunc 92 #[.slice (some ⟨vb,voff,none⟩) m vc,.slice (some ⟨b,o,none⟩) lb cb]).run Tryz.prog w=.ok (.value (.bool false)) w:=by
 rw [run_callFunc_extern (fn:=Tryz.f92) (by kernel_rfl) (by kernel_rfl) (by kernel_rfl) (by kernel_rfl) (e:=Extern.SlicesOverlaps.overlaps #[22,22] #[4]) (by kernel_rfl),
  Lib.run_overlaps_apart w 22 4 39 Tryz.underlying22 1 (fun w=>by kernel_rfl) ⟨vb,voff,none⟩ ⟨b,o,none⟩ m vc lb cb hvb tA tB kA kB hsa hsb hkB hfa hfe]
 rfl
set_option maxRecDepth 20000 in
set_option maxHeartbeats 4000000 in
set_option maxRecDepth 100000 in
theorem insSR (b off n c i vb voff m vc:Nat) (cs vs:List Value) (w:World) (hi:i<n) (hm:0<m) (hroom:n+m≤c) (hc63:c≤9223372036854775807) (hvb:vb≠b)
  (hcl:cs.length=n) (hvl:vs.length=m)
  (hcs:∀ j v,cs[j]? = some v→w.cell? ⟨b,off+j,none⟩ = some v) (hsp:∀ j,j<n+m→(w.cell? ⟨b,off+j,none⟩).isSome=true) (hfz:∀ j,j<n+m→w.frozen? ⟨b,off+j,none⟩ = false)
  (hvs:∀ j v,vs[j]? = some v→w.cell? ⟨vb,voff+j,none⟩ = some v) (h1c:∀ v ∈ cs,v.oneCell' = true) (h1v:∀ v ∈ vs,v.oneCell' = true)
  (tA tB:TypeId) (kA kB:Nat) (hsa:w.shape? vb=some (tA,kA)) (hsb:w.shape? b=some (tB,kB)) (hkB:kB≠0) (hfa:w.frozen? ⟨vb,voff,none⟩ = false) (hfe:w.frozen? ⟨vb,kA,none⟩ = false) :
  Calls Tryz.prog 69 #[.slice (some ⟨b,off,none⟩) n c,.int .i64 i,.slice (some ⟨vb,voff,none⟩) m vc] w fun e w' =>
   e=.returned (.slice (some ⟨b,off,none⟩) (n+m) c)∧w' = (w.drew.setCells b (off+(i+m)) (cs.drop i)).setCells b (off+i) vs:=by
 have hz1:¬ ((m:Int)=0):=by omega
 have hz2:¬ ((i:Int)=(n:Int)):=by omega
 have hov:∀ lb cb,(callFunc 92 #[.slice (some ⟨vb,voff,none⟩) m vc,.slice (some ⟨b,off+(i+m),none⟩) lb cb]).run Tryz.prog w=.ok (.value (.bool false)) w:=fun lb cb=>overR w vb voff m vc b _ lb cb hvb tA tB kA kB hsa hsb hkB hfa hfe
 have hdl:(cs.drop i).length=n - i:=by rw [List.length_drop,hcl]
 have hw1:IntKind.i64.wrap ((i:Int)+(m:Int))=(i:Int)+(m:Int):=by rw [IntKind.wrap_i64];omega
 have hb1:(0:Int)≤(i:Int)+(m:Int):=by omega
 have hin:i≤n:=by omega
 have htn:((i:Int)+(m:Int)).toNat=i+m:=by omega
 have hb2:¬ (c=i+m):=by omega
 have hb3:(i:Int)≤(n:Int)+(m:Int):=by omega
 have hb4:¬ (c=i):=by omega
 have hcp1:∀ ty dc sc,(Builtin.copy_ #[22,22] ty #[.slice (some ⟨b,off+(i+m),none⟩) (n+m - (i+m)) dc,.slice (some ⟨b,off+i,none⟩) (n+m - i) sc]).run Tryz.prog w.drew=.ok (goInt (cs.drop i).length) (w.drew.setCells b (off+(i+m)) (cs.drop i)):=fun ty dc sc =>
  run_copy_cells w.drew _ _ ty 39 b (off+(i+m)) (n+m - (i+m)) dc ⟨b,off+i,none⟩ (n+m - i) sc (cs.drop i) Tryz.underlying22 sizeR (by rw [hdl];simp only [Nat.min_def];split <;> omega)
   (fun j v hj=>by rw [Addr.add_lit,Nat.add_assoc];exact hcs (i+j) v (by rwa [List.getElem?_drop] at hj))
   (fun j hj=>by rw [Nat.add_assoc];exact hsp _ (by omega)) (fun j hj=>by rw [Nat.add_assoc];exact hfz _ (by omega)) (fun v hv=>h1c v (List.mem_of_mem_drop hv))
 obtain ⟨W1,hW1⟩:∃ W1,W1=w.drew.setCells b (off+(i+m)) (cs.drop i):=⟨_,rfl⟩
 have hsp1:∀ k,k<n+m→(W1.cell? ⟨b,off+k,none⟩).isSome=true:=fun k hk=>by
  rw [hW1]
  exact isSome_setCells b _ _ _ (fun j hj=>by rw [Nat.add_assoc];exact hsp _ (by omega)) _ (hsp k hk)
 have hcp2:∀ (W:World),(∀ x,W.cell? x=W1.cell? x)→(∀ x,W.frozen? x=W1.frozen? x)→∀ ty dc,(Builtin.copy_ #[22,22] ty #[.slice (some ⟨b,off+i,none⟩) (n+m - i) dc,.slice (some ⟨vb,voff,none⟩) m vc]).run Tryz.prog W=.ok (goInt vs.length) (W.setCells b (off+i) vs):=fun W hWc hWf ty dc =>
  run_copy_cells W _ _ ty 39 b (off+i) (n+m - i) dc ⟨vb,voff,none⟩ m vc vs Tryz.underlying22 sizeR (by rw [hvl];simp only [Nat.min_def];split <;> omega)
   (fun j v hj=>by
    rw [Addr.add_lit,hWc,hW1,World.cell?_setCells_out b _ _ _ _ (fun h _=>absurd h hvb)]
    exact hvs j v hj)
   (fun j hj=>by rw [hWc,Nat.add_assoc];exact hsp1 _ (by omega)) (fun j hj=>by rw [hWf,hW1,World.frozen?_setCells,Nat.add_assoc];exact hfz _ (by omega)) h1v
 rw [←hW1] at hcp1
 go_enter Tryz.func69,Tryz.ntmps69
 go_wp2_with (simp only [hov])
 go_region_law (refine step_copy_runI rfl _ _ 22 22 rfl _ _ (by simp [Act.eval,Act.put]) (by simp [Act.eval,Act.put]) (hcp1 _ _ _) ?_)
 go_wp2_with (at_builtin;refine wpList_copy_runI _ rfl _ _ 22 22 rfl _ _ rfl rfl (hcp2 _ (fun _=>rfl) (fun _=>rfl) _ _) ?_)
 go_ret
 first | exact ⟨rfl,rfl⟩ | exact ⟨rfl,by rw [hW1]⟩
set_option maxRecDepth 20000 in
set_option maxHeartbeats 4000000 in
set_option maxRecDepth 100000 in
theorem insGR (b off n c i vb voff m vc:Nat) (cs vs:List Value) (w:World) (hi:i<n) (hm:0<m) (_hnc:n≤c) (hroom:c<n+m) (hbig:(n+m)*24≤140737488355328)
  (hcl:cs.length=n) (hvl:vs.length=m)
  (hcs:∀ j v,cs[j]? = some v→w.cell? ⟨b,off+j,none⟩ = some v)
  (hvs:∀ j v,vs[j]? = some v→w.cell? ⟨vb,voff+j,none⟩ = some v) (h1c:∀ v ∈ cs,v.oneCell' = true) (h1v:∀ v ∈ vs,v.oneCell' = true) :
  Calls Tryz.prog 69 #[.slice (some ⟨b,off,none⟩) n c,.int .i64 i,.slice (some ⟨vb,voff,none⟩) m vc] w fun e w' =>
   e=.returned (.slice (some ⟨w.heap.size,0,none⟩) (n+m) (grownCap w (n+m) c 39)) ∧
   w' = (((w.alloc (.cells ((cs.take i).toArray ++ Builtin.zeroCells (Value.cells (.slice none 0 0)) (n+m - i) ++ Builtin.zeroCells (Value.cells (.slice none 0 0)) (grownCap w (n+m) c 39 - (n+m))) 39)).drew.setCells w.heap.size i vs).drew).setCells w.heap.size (i+m) (cs.drop i):=by
 obtain ⟨i0,hi0,hz0,hzs,hzb⟩:=info_parts aip
 have hz1:¬ ((m:Int)=0):=by omega
 have hz2:¬ ((i:Int)=(n:Int)):=by omega
 have hz3:(c:Int)<(n:Int)+(m:Int):=by omega
 have hbw:b<w.heap.size:=block_lt_of_cell (hcs 0 _ (List.getElem?_eq_getElem (by omega)))
 have hvw:vb<w.heap.size:=block_lt_of_cell (hvs 0 _ (List.getElem?_eq_getElem (by omega)))
 have hkk:(n:Int)+(m:Int) - (i:Int)=((n+m - i:Nat):Int):=by omega
 have hik:i+(n+m - i)=n+m:=by omega
 have hold:(Builtin.firstCells i0.size i (.slice (some ⟨b,off,none⟩) i c)).run Tryz.prog w.drew=.ok (cs.take i).toArray w.drew:=by
  rw [hzs]
  exact run_firstCells_some w.drew 1 i ⟨b,off,none⟩ i c (cs.take i) (by rw [List.length_take];omega) (fun j v hj=>by
   rw [Addr.add_lit]
   rw [List.getElem?_take] at hj
   split at hj
   ·exact hcs j v hj
   ·cases hj)
 have hrz:∀ ty,(Builtin.append_ #[22,3] ty #[.slice (some ⟨b,off,none⟩) i c,.int .i64 ((n:Int)+(m:Int) - (i:Int))]).run Tryz.prog w =
   .ok (.slice (some ⟨w.heap.size,0,none⟩) (n+m) (grownCap w (n+m) c 39)) (w.drew.alloc (.cells ((cs.take i).toArray ++ Builtin.zeroCells (Value.cells (.slice none 0 0)) (n+m - i) ++ Builtin.zeroCells (Value.cells (.slice none 0 0)) (grownCap w (n+m) c 39 - (n+m))) 39)):=fun ty=>by
  have h:=Lib.run_append_grow_zeros w 22 3 ty 39 i0 _ .i64 .i64 Tryz.underlying22 Tryz.underlying3 hi0 hz0 (some ⟨b,off,none⟩) i c (cs.take i) hold (n+m - i) (by omega) (by omega) (by omega) (by omega) (by rw [hzb];omega) (by rw [hzb,hik];exact growslice_fits hroom hbig)
  rw [hik] at h
  rw [hkk]
  exact h
 obtain ⟨G,hG⟩:∃ G,G=grownCap w (n+m) c 39:=⟨_,rfl⟩
 obtain ⟨ROW,hROW⟩:∃ ROW:Array Value,ROW=(cs.take i).toArray ++ Builtin.zeroCells (Value.cells (.slice none 0 0)) (n+m - i) ++ Builtin.zeroCells (Value.cells (.slice none 0 0)) (G - (n+m)):=⟨_,rfl⟩
 rw [←hG] at hrz ⊢
 rw [←hROW] at hrz ⊢
 have hRl:n+m≤ROW.size:=by
  rw [hROW]
  simp [Builtin.zeroCells,Value.cells]
  omega
 obtain ⟨W1,hW1⟩:∃ W1,W1=w.drew.alloc (.cells ROW 39):=⟨_,rfl⟩
 rw [←hW1] at hrz
 have hN:∀ j,j<n+m→(W1.cell? ⟨w.heap.size,j,none⟩).isSome=true:=fun j hj=>by
  rw [hW1,World.cell?_alloc_at (w:=w.drew) ROW _ w.heap.size j rfl,Array.getElem?_eq_getElem (by omega)];rfl
 have hNf:∀ j,W1.frozen? ⟨w.heap.size,j,none⟩ = false:=fun j=>by rw [hW1];exact World.frozen?_alloc_at (w:=w.drew) ROW _ w.heap.size j rfl
 have hOb:∀ j v,w.cell? ⟨b,j,none⟩ = some v→W1.cell? ⟨b,j,none⟩ = some v:=fun j v h=>by rw [hW1,World.cell?_alloc_past (w:=w.drew) _ b j hbw];exact h
 have hOv:∀ j v,w.cell? ⟨vb,j,none⟩ = some v→W1.cell? ⟨vb,j,none⟩ = some v:=fun j v h=>by rw [hW1,World.cell?_alloc_past (w:=w.drew) _ vb j hvw];exact h
 have hcpA:∀ (W:World),(∀ x,W.cell? x=W1.cell? x)→(∀ x,W.frozen? x=W1.frozen? x)→∀ ty dc,(Builtin.copy_ #[22,22] ty #[.slice (some ⟨w.heap.size,i,none⟩) (n+m - i) dc,.slice (some ⟨vb,voff,none⟩) m vc]).run Tryz.prog W=.ok (goInt vs.length) (W.setCells w.heap.size i vs):=fun W hWc hWf ty dc =>
  run_copy_cells W _ _ ty 39 w.heap.size i (n+m - i) dc ⟨vb,voff,none⟩ m vc vs Tryz.underlying22 sizeR (by rw [hvl];simp only [Nat.min_def];split <;> omega)
   (fun j v hj=>by rw [Addr.add_lit,hWc];exact hOv _ v (hvs j v hj))
   (fun j hj=>by rw [hWc];exact hN _ (by omega)) (fun j hj=>by rw [hWf];exact hNf _) h1v
 have hGn:n+m≤G:=by rw [hG];exact grownCap_ge w _ _ _
 have hG63:G≤9223372036854775807:=by
  have:=grownCap_le_maxLen w (n+m) c 39 (by unfold maxLen;omega)
  rw [←hG] at this
  unfold maxLen at this
  omega
 have hGi:¬ (G=i):=by omega
 have hGim:¬ (G=i+m):=by omega
 have hci:¬ (c=i):=by omega
 have hbN:b≠w.heap.size:=by omega
 have hdl:(cs.drop i).length=n - i:=by rw [List.length_drop,hcl]
 have hcpB:∀ (W:World),(∀ x,W.cell? x=(W1.setCells w.heap.size i vs).cell? x)→(∀ x,W.frozen? x=(W1.setCells w.heap.size i vs).frozen? x)→∀ ty dc sc,(Builtin.copy_ #[22,22] ty #[.slice (some ⟨w.heap.size,i+m,none⟩) (n+m - (i+m)) dc,.slice (some ⟨b,off+i,none⟩) (n - i) sc]).run Tryz.prog W=.ok (goInt (cs.drop i).length) (W.setCells w.heap.size (i+m) (cs.drop i)):=fun W hWc hWf ty dc sc =>
  run_copy_cells W _ _ ty 39 w.heap.size (i+m) (n+m - (i+m)) dc ⟨b,off+i,none⟩ (n - i) sc (cs.drop i) Tryz.underlying22 sizeR (by rw [hdl];simp only [Nat.min_def];split <;> omega)
   (fun j v hj=>by
    rw [Addr.add_lit,hWc,World.cell?_setCells_out _ _ _ _ _ (fun h _=>absurd h hbN),Nat.add_assoc]
    exact hOb _ v (hcs (i+j) v (by rwa [List.getElem?_drop] at hj)))
   (fun j hj=>by rw [hWc];exact isSome_setCells _ _ _ _ (fun t ht=>hN _ (by omega)) _ (hN _ (by omega)))
   (fun j hj=>by rw [hWf,World.frozen?_setCells];exact hNf _) (fun v hv=>h1c v (List.mem_of_mem_drop hv))
 subst hW1
 have hE1:∀ x,((w.alloc (.cells ROW 39)).drew).cell? x=(w.drew.alloc (.cells ROW 39)).cell? x:=fun x=>rfl
 have hE2:∀ x,((w.alloc (.cells ROW 39)).drew).frozen? x=(w.drew.alloc (.cells ROW 39)).frozen? x:=fun x=>rfl
 have hF1:∀ x,(((w.alloc (.cells ROW 39)).drew.setCells w.heap.size i vs).drew).cell? x=((w.drew.alloc (.cells ROW 39)).setCells w.heap.size i vs).cell? x:=fun x=>rfl
 have hF2:∀ x,(((w.alloc (.cells ROW 39)).drew.setCells w.heap.size i vs).drew).frozen? x=((w.drew.alloc (.cells ROW 39)).setCells w.heap.size i vs).frozen? x:=fun x=>rfl
 have hw1:IntKind.i64.wrap ((i:Int)+(m:Int))=(i:Int)+(m:Int):=by rw [IntKind.wrap_i64];omega
 have hb1:(0:Int)≤(i:Int)+(m:Int):=by omega
 have hin:i≤n:=by omega
 have htn:((i:Int)+(m:Int)).toNat=i+m:=by omega
 have hb3:(i:Int)≤(n:Int):=by omega
 clear hkk hik hold hROW hG hRl
 go_enter Tryz.func69,Tryz.ntmps69
 go_wp2_with (first
  | (at_builtin;refine Lib.wpList_append_run _ rfl _ _ _ _ rfl _ _ rfl rfl _ _ (hrz _) ?_)
  | (at_builtin;refine wpList_copy_runI _ rfl _ _ 22 22 rfl _ _ rfl rfl (hcpA _ hE1 hE2 _ _) ?_)
  | (at_builtin;refine wpList_copy_runI _ rfl _ _ 22 22 rfl _ _ rfl rfl (hcpB _ (fun _=>rfl) (fun _=>rfl) _ _ _) ?_))
 go_region_law (refine step_copy_runI rfl _ _ 22 22 rfl (.slice (some ⟨w.heap.size,i+m,none⟩) (n+m - (i+m)) (G - (i+m))) (.slice (some ⟨b,off+i,none⟩) (n - i) (c - i)) (by simp [Act.eval,Act.put]) (by simp [Act.eval,Act.put]) (hcpB _ hF1 hF2 3 (G - (i+m)) (c - i)) ?_)
 go_wp2
 go_ret
 exact ⟨rfl,rfl⟩
theorem abu {b:Nat} {T:TypeId} : ∀ (vs:List Value) (o:Nat) (w:World) (cur:Array Value),w.heap[b]? = some (.cells cur T (0,0))→o+vs.length≤cur.size→∃ cur',(w.setCells b o vs).heap[b]? = some (.cells cur' T (0,0))∧cur'.size=cur.size∧(∀ j,j<o→cur'[j]? = cur[j]?)∧(∀ j,o≤j→j<o+vs.length→cur'[j]? = vs[j - o]?)∧∀ j,o+vs.length≤j→cur'[j]? = cur[j]?
 | [],o,w,cur,h,_=>⟨cur,h,rfl,fun _ _=>rfl,fun j h1 h2=>by simp at h2;omega,fun _ _=>rfl⟩
 | v :: vs,o,w,cur,h,hl=>by
  have s1:=heap_setCell_same w b o _ _ v h
  simp only [List.length_cons] at hl
  obtain ⟨cur',h1,h2,h3,h4,h5⟩:=abu vs (o+1) _ _ s1 (by simp;omega)
  refine ⟨cur',h1,by simpa using h2,fun j hj=>?_,fun j hj hj2=>?_,fun j hj=>?_⟩
  ·rw [h3 j (by omega)]
   simp [show o≠j by omega]
  ·simp only [List.length_cons] at hj2
   by_cases e:j=o
   ·subst e
    rw [h3 j (by omega),Nat.sub_self]
    simp [Array.getElem?_setIfInBounds]
    omega
   ·rw [h4 j (by omega) (by omega),show j - o=(j - (o+1))+1 by omega,List.getElem?_cons_succ]
  ·simp only [List.length_cons] at hj
   rw [h5 j (by omega)]
   simp [show o≠j by omega]
theorem abd {b k:Nat} (hk:k≠b):∀ (vs:List Value) (o:Nat) (w:World),(w.setCells b o vs).heap[k]? = w.heap[k]?
 | [],_,_=>rfl
 | v :: vs,o,w=>by
  show ((w.setCell ⟨b,o,none⟩ v).setCells b (o+1) vs).heap[k]? = _
  rw [abd hk vs,heap_setCell_other w ⟨b,o,none⟩ k v hk]
theorem abh {b:Nat} : ∀ (vs:List Value) (o:Nat) (w:World),(w.setCells b o vs).os=w.os∧(w.setCells b o vs).tape=w.tape∧(w.setCells b o vs).output=w.output∧(w.setCells b o vs).heap.size=w.heap.size
 | [],_,_=>⟨rfl,rfl,rfl,rfl⟩
 | v :: vs,o,w=>by
  obtain ⟨h1,h2,h3,h4⟩:=abh (b:=b) vs (o+1) (w.setCell ⟨b,o,none⟩ v)
  exact ⟨h1,h2,h3,h4.trans (by simp [World.setCell])⟩
theorem adp {cur:Array Value} {xs:List Value} {n i:Nat} {x:Value} (hn:xs.length=n) (hi:i≤n) (_:n+1≤cur.size) (h1:∀ j,j<i→cur[j]? = xs[j]?) (h2:cur[i]? = some x) (h3:∀ j,i<j→j<n+1→cur[j]? = xs[j - 1]?):cur.toList.take (n+1)=xs.take i ++ x :: xs.drop i:=by
 apply List.ext_getElem?
 intro j
 rw [List.getElem?_take,Array.getElem?_toList]
 by_cases hj:j<n+1
 ·rw [if_pos hj]
  by_cases hji:j<i
  ·rw [h1 j hji,List.getElem?_append_left (by rw [List.length_take];omega),List.getElem?_take,if_pos hji]
  ·rw [List.getElem?_append_right (by rw [List.length_take];omega),List.length_take,Nat.min_eq_left (by omega)]
   by_cases e:j=i
   ·subst e;rw [h2,Nat.sub_self];rfl
   ·rw [h3 j (by omega) hj,show j - i=(j - 1 - i)+1 by omega,List.getElem?_cons_succ,List.getElem?_drop]
    congr 1;omega
 ·rw [if_neg hj,eq_comm,List.getElem?_eq_none_iff]
  simp only [List.length_append,List.length_take,List.length_cons,List.length_drop]
  omega
set_option maxRecDepth 20000 in
set_option maxHeartbeats 4000000 in
set_option maxRecDepth 100000 in
theorem insEI (w:World) (K:Nat) (v:Value) (n:Nat) (xs:List Value) (hO:w.ownsRow K 3 1 v n xs) (x:Value) (h1x:x.oneCell' = true) (vb:Nat) (hvb:w.heap[vb]? = some (.cells #[x] 3 (0,0))) (hn:n≤1000000) (hK:K≤w.heap.size) :
  Calls Tryz.prog 70 #[v,.int .i64 (n:Int),.slice (some ⟨vb,0,none⟩) 1 1] w fun e w'=>∃ v',e=.returned v'∧w'.ownsRow K 3 1 v' (n+1) (xs ++ [x])∧w.grownBy w' v.ownBlock:=by
 obtain ⟨i0,hi0,hz0,hz1,hz2⟩:=info_parts ak6
 have hnews:∀ (j:Nat) (u:Value),[x][j]? = some u→w.cell? ((⟨vb,0,none⟩:Addr).add j)=some u:=fun j u hu=>by
  match j with
  | 0=>rw [Addr.add_lit,cell_of_row _ _ _ _ _ (0,0) hvb];simpa using hu
  | j+1=>simp at hu
 have HO:=hide hO
 obtain ⟨hxl,⟨rfl,rfl⟩ | ⟨g,cap,cur,rfl,hg,hh,hnc,hcm,_⟩⟩:=hO
 ·go_enter Tryz.func70,Tryz.ntmps70
  go_wp2_with (at_builtin;refine wpList_append_own _ rfl _ _ 43 rfl K 3 i0 (.int .i64 0) 1 8 Tryz.underlying43 hi0 hz0 hz1 hz2 rfl (by decide) _ _ xs rfl HO.out ⟨vb,0,none⟩ 1 1 [x] rfl rfl hnews (by simpa using h1x) (by unfold maxLen;omega) (by omega) hK ?_)
  intro v' w' h2 h3 _
  have H2:=hide (And.intro h2 h3)
  clear h2 h3
  go_wp2
  go_ret
  exact ⟨_,rfl,H2.out.1,H2.out.2⟩
 ·have hcm' : cap≤9223372036854775807:=hcm
  have hnc' : (n:Int)≤(cap:Int):=by omega
  clear hg hh
  go_enter Tryz.func70,Tryz.ntmps70
  go_wp2_with (at_builtin;refine wpList_append_own _ rfl _ _ 43 rfl K 3 i0 (.int .i64 0) 1 8 Tryz.underlying43 hi0 hz0 hz1 hz2 rfl (by decide) _ _ xs rfl HO.out ⟨vb,0,none⟩ 1 1 [x] rfl rfl hnews (by simpa using h1x) (by unfold maxLen;omega) (by omega) hK ?_)
  all_goals (
   intro v' w' h2 h3 _
   have H2:=hide (And.intro h2 h3)
   clear h2 h3
   go_wp2
   go_ret
   exact ⟨_,rfl,H2.out.1,H2.out.2⟩)
theorem insI (w:World) (K:Nat) (v:Value) (n:Nat) (xs:List Value) (hO:w.ownsRow K 3 1 v n xs) (h1:∀ u ∈ xs,u.oneCell' = true) (i:Nat) (hi:i≤n) (x:Value) (h1x:x.oneCell' = true) (vb:Nat) (hvb:w.heap[vb]? = some (.cells #[x] 3 (0,0))) (hne:v.ownBlock≠some vb) (hn:n≤1000000) (hK:K≤w.heap.size) :
  Calls Tryz.prog 70 #[v,.int .i64 (i:Int),.slice (some ⟨vb,0,none⟩) 1 1] w fun e w'=>∃ v',e=.returned v'∧w'.ownsRow K 3 1 v' (n+1) (xs.take i ++ x :: xs.drop i)∧w.grownBy w' v.ownBlock:=by
 have hxl:xs.length=n:=by have:=hO.1;omega
 by_cases hin:i=n
 ·subst hin
  have:=insEI w K v i xs hO x h1x vb hvb hn hK
  rwa [List.take_of_length_le (by omega),List.drop_eq_nil_of_le (by omega)]
 ·obtain ⟨_,⟨rfl,rfl⟩ | ⟨g,cap,cur,rfl,hg,hh,hnc,hcm,hcs,htk⟩⟩:=hO
  ·omega
  ·have hgv:vb≠g:=fun e=>hne (by rw [e];rfl)
   have hxc:∀ j v,xs[j]? = some v→cur[j]? = some v:=fun j v hj=>by
    have hjl:=(List.getElem?_eq_some_iff.1 hj).1
    rw [←htk,List.getElem?_take] at hj
    split at hj
    ·rw [Array.getElem?_toList] at hj;exact hj
    ·cases hj
   have hcell:∀ j v,xs[j]? = some v→w.cell? ⟨g,0+j,none⟩ = some v:=fun j v hj=>by
    rw [Nat.zero_add,cell_of_row _ _ _ _ _ (0,0) hh];exact hxc j v hj
   have hvc:∀ j v,[x][j]? = some v→w.cell? ⟨vb,0+j,none⟩ = some v:=fun j v hj=>by
    match j with
    | 0=>rw [cell_of_row _ _ _ _ _ (0,0) hvb];simpa using hj
    | j+1=>simp at hj
   have hx1:∀ u ∈ [x],u.oneCell' = true:=by simpa using h1x
   have hcurs:cur.size=cap:=by omega
   by_cases hroom:n+1≤cap
   ·refine (insSI g 0 n cap i vb 0 1 1 xs [x] w (by omega) (by omega) hroom hcm hgv hxl rfl hcell (fun j hj=>by
     rw [cell_of_row _ _ _ _ _ (0,0) hh,Array.getElem?_eq_getElem (by omega)];rfl) (fun j hj=>frozen_of_row _ _ _ _ _ hh) hvc h1 hx1 3 3 1 cap (by unfold World.shape?;rw [hvb];rfl) (by unfold World.shape?;rw [hh,←hcurs]) (by omega) (frozen_of_row _ _ _ _ _ hvb) (frozen_of_row _ _ _ _ _ hvb)).mono ?_
    rintro e w' ⟨rfl,rfl⟩
    obtain ⟨c1,k1,k2,k3,k4,k5⟩:=abu (xs.drop i) (0+(i+1)) w.drew cur hh (by rw [List.length_drop];omega)
    obtain ⟨c2,l1,l2,l3,l4,l5⟩:=abu [x] (0+i) _ c1 k1 (by simp;omega)
    have hother:∀ k,k≠g→((w.drew.setCells g (0+(i+1)) (xs.drop i)).setCells g (0+i) [x]).heap[k]? = w.heap[k]? := fun k hk=>by rw [abd hk,abd hk];rfl
    obtain ⟨r1,r2,r3,r4⟩:=abh (b:=g) [x] (0+i) (w.drew.setCells g (0+(i+1)) (xs.drop i))
    obtain ⟨q1,q2,q3,q4⟩:=abh (b:=g) (xs.drop i) (0+(i+1)) w.drew
    refine ⟨_,rfl,⟨by simp;omega,.inr ⟨g,cap,c2,rfl,hg,l1,hroom,hcm,by omega,?_⟩⟩,⟨r1.trans q1,r2.trans q2,r3.trans q3,by rw [r4,q4];exact Nat.le_refl _,fun k _ hk=>hother k (fun e=>hk (by rw [e];rfl))⟩⟩
    rw [Nat.mul_one]
    refine adp hxl (by omega) (by omega) (fun j hj=>?_) ?_ (fun j hj hj2=>?_)
    ·rw [l3 j (by omega),k3 j (by omega)]
     obtain ⟨u,hu⟩:∃ u,xs[j]? = some u:=⟨_,List.getElem?_eq_getElem (by omega)⟩
     rw [hu,hxc j u hu]
    ·rw [l4 i (by omega) (by simp)];simp
    ·rw [l5 j (by simp;omega),k4 j (by omega) (by rw [List.length_drop];omega),List.getElem?_drop]
     congr 1;omega
   ·refine (insGI g 0 n cap i vb 0 1 1 xs [x] w (by omega) (by omega) hnc (by omega) (by omega) hxl rfl hcell hvc h1 hx1).mono ?_
    rintro e w' ⟨rfl,rfl⟩
    obtain ⟨G,hG⟩:∃ G,grownCap w (n+1) cap 3=G:=⟨_,rfl⟩
    have hGn:n+1≤G:=by rw [←hG];exact grownCap_ge w _ _ _
    have hG63:G≤maxLen:=by rw [←hG];exact grownCap_le_maxLen w (n+1) cap 3 (by unfold maxLen;omega)
    rw [hG]
    obtain ⟨ROW,hROW⟩:∃ ROW:Array Value,(xs.take i).toArray ++ Builtin.zeroCells (Value.cells (.int .i64 0)) (n+1 - i) ++ Builtin.zeroCells (Value.cells (.int .i64 0)) (G - (n+1))=ROW:=⟨_,rfl⟩
    have hRs:ROW.size=G:=by
     rw [←hROW]
     simp [Builtin.zeroCells,Value.cells,List.length_take]
     omega
    have hRt:∀ j,j<i→ROW[j]? = xs[j]? := fun j hj=>by
     rw [←hROW,Array.append_assoc,Array.getElem?_append_left (by simp [List.length_take];omega),List.getElem?_toArray,List.getElem?_take,if_pos hj]
    rw [hROW]
    have hnew:=heap_alloc_new w (.cells ROW 3)
    obtain ⟨c1,k1,k2,k3,k4,k5⟩:=abu [x] i (w.alloc (.cells ROW 3)).drew ROW hnew (by simp;omega)
    obtain ⟨c2,l1,l2,l3,l4,l5⟩:=abu (xs.drop i) (i+1) ((w.alloc (.cells ROW 3)).drew.setCells w.heap.size i [x]).drew c1 k1 (by rw [List.length_drop];omega)
    have hother:∀ k,k<w.heap.size→((((w.alloc (.cells ROW 3)).drew.setCells w.heap.size i [x]).drew).setCells w.heap.size (i+1) (xs.drop i)).heap[k]? = w.heap[k]? := fun k hk=>by
     rw [abd (by omega)]
     show ((w.alloc (.cells ROW 3)).drew.setCells w.heap.size i [x]).heap[k]? = _
     rw [abd (by omega)]
     exact (hAl w _).block k hk
    obtain ⟨r1,r2,r3,r4⟩:=abh (b:=w.heap.size) (xs.drop i) (i+1) ((w.alloc (.cells ROW 3)).drew.setCells w.heap.size i [x]).drew
    obtain ⟨q1,q2,q3,q4⟩:=abh (b:=w.heap.size) [x] i (w.alloc (.cells ROW 3)).drew
    refine ⟨_,rfl,⟨by simp;omega,.inr ⟨w.heap.size,G,c2,rfl,hK,l1,hGn,hG63,by omega,?_⟩⟩,⟨r1.trans q1,r2.trans q2,r3.trans q3,?_,fun k hk _=>hother k hk⟩⟩
    ·rw [Nat.mul_one]
     refine adp hxl (by omega) (by omega) (fun j hj=>?_) ?_ (fun j hj hj2=>?_)
     ·rw [l3 j (by omega),k3 j (by omega),hRt j hj]
     ·rw [l3 i (by omega),k4 i (by omega) (by simp)];simp
     ·rw [l4 j (by omega) (by rw [List.length_drop];omega),List.getElem?_drop]
      congr 1;omega
    ·rw [r4]
     show w.heap.size≤((w.alloc (.cells ROW 3)).drew.setCells w.heap.size i [x]).heap.size
     rw [q4]
     exact (hAl w _).size
set_option maxRecDepth 20000 in
set_option maxHeartbeats 4000000 in
set_option maxRecDepth 100000 in
theorem insER (w:World) (K:Nat) (v:Value) (n:Nat) (xs:List Value) (hO:w.ownsRow K 39 1 v n xs) (x:Value) (h1x:x.oneCell' = true) (vb:Nat) (hvb:w.heap[vb]? = some (.cells #[x] 39 (0,0))) (hn:n≤1000000) (hK:K≤w.heap.size) :
  Calls Tryz.prog 69 #[v,.int .i64 (n:Int),.slice (some ⟨vb,0,none⟩) 1 1] w fun e w'=>∃ v',e=.returned v'∧w'.ownsRow K 39 1 v' (n+1) (xs ++ [x])∧w.grownBy w' v.ownBlock:=by
 obtain ⟨i0,hi0,hz0,hz1,hz2⟩:=info_parts aip
 have hnews:∀ (j:Nat) (u:Value),[x][j]? = some u→w.cell? ((⟨vb,0,none⟩:Addr).add j)=some u:=fun j u hu=>by
  match j with
  | 0=>rw [Addr.add_lit,cell_of_row _ _ _ _ _ (0,0) hvb];simpa using hu
  | j+1=>simp at hu
 have HO:=hide hO
 obtain ⟨hxl,⟨rfl,rfl⟩ | ⟨g,cap,cur,rfl,hg,hh,hnc,hcm,_⟩⟩:=hO
 ·go_enter Tryz.func69,Tryz.ntmps69
  go_wp2_with (at_builtin;refine wpList_append_own _ rfl _ _ 22 rfl K 39 i0 (.slice none 0 0) 1 24 Tryz.underlying22 hi0 hz0 hz1 hz2 rfl (by decide) _ _ xs rfl HO.out ⟨vb,0,none⟩ 1 1 [x] rfl rfl hnews (by simpa using h1x) (by unfold maxLen;omega) (by omega) hK ?_)
  intro v' w' h2 h3 _
  have H2:=hide (And.intro h2 h3)
  clear h2 h3
  go_wp2
  go_ret
  exact ⟨_,rfl,H2.out.1,H2.out.2⟩
 ·have hcm' : cap≤9223372036854775807:=hcm
  have hnc' : (n:Int)≤(cap:Int):=by omega
  clear hg hh
  go_enter Tryz.func69,Tryz.ntmps69
  go_wp2_with (at_builtin;refine wpList_append_own _ rfl _ _ 22 rfl K 39 i0 (.slice none 0 0) 1 24 Tryz.underlying22 hi0 hz0 hz1 hz2 rfl (by decide) _ _ xs rfl HO.out ⟨vb,0,none⟩ 1 1 [x] rfl rfl hnews (by simpa using h1x) (by unfold maxLen;omega) (by omega) hK ?_)
  all_goals (
   intro v' w' h2 h3 _
   have H2:=hide (And.intro h2 h3)
   clear h2 h3
   go_wp2
   go_ret
   exact ⟨_,rfl,H2.out.1,H2.out.2⟩)
theorem insR (w:World) (K:Nat) (v:Value) (n:Nat) (xs:List Value) (hO:w.ownsRow K 39 1 v n xs) (h1:∀ u ∈ xs,u.oneCell' = true) (i:Nat) (hi:i≤n) (x:Value) (h1x:x.oneCell' = true) (vb:Nat) (hvb:w.heap[vb]? = some (.cells #[x] 39 (0,0))) (hne:v.ownBlock≠some vb) (hn:n≤1000000) (hK:K≤w.heap.size) :
  Calls Tryz.prog 69 #[v,.int .i64 (i:Int),.slice (some ⟨vb,0,none⟩) 1 1] w fun e w'=>∃ v',e=.returned v'∧w'.ownsRow K 39 1 v' (n+1) (xs.take i ++ x :: xs.drop i)∧w.grownBy w' v.ownBlock:=by
 have hxl:xs.length=n:=by have:=hO.1;omega
 by_cases hin:i=n
 ·subst hin
  have:=insER w K v i xs hO x h1x vb hvb hn hK
  rwa [List.take_of_length_le (by omega),List.drop_eq_nil_of_le (by omega)]
 ·obtain ⟨_,⟨rfl,rfl⟩ | ⟨g,cap,cur,rfl,hg,hh,hnc,hcm,hcs,htk⟩⟩:=hO
  ·omega
  ·have hgv:vb≠g:=fun e=>hne (by rw [e];rfl)
   have hxc:∀ j v,xs[j]? = some v→cur[j]? = some v:=fun j v hj=>by
    have hjl:=(List.getElem?_eq_some_iff.1 hj).1
    rw [←htk,List.getElem?_take] at hj
    split at hj
    ·rw [Array.getElem?_toList] at hj;exact hj
    ·cases hj
   have hcell:∀ j v,xs[j]? = some v→w.cell? ⟨g,0+j,none⟩ = some v:=fun j v hj=>by
    rw [Nat.zero_add,cell_of_row _ _ _ _ _ (0,0) hh];exact hxc j v hj
   have hvc:∀ j v,[x][j]? = some v→w.cell? ⟨vb,0+j,none⟩ = some v:=fun j v hj=>by
    match j with
    | 0=>rw [cell_of_row _ _ _ _ _ (0,0) hvb];simpa using hj
    | j+1=>simp at hj
   have hx1:∀ u ∈ [x],u.oneCell' = true:=by simpa using h1x
   have hcurs:cur.size=cap:=by omega
   by_cases hroom:n+1≤cap
   ·refine (insSR g 0 n cap i vb 0 1 1 xs [x] w (by omega) (by omega) hroom hcm hgv hxl rfl hcell (fun j hj=>by
     rw [cell_of_row _ _ _ _ _ (0,0) hh,Array.getElem?_eq_getElem (by omega)];rfl) (fun j hj=>frozen_of_row _ _ _ _ _ hh) hvc h1 hx1 39 39 1 cap (by unfold World.shape?;rw [hvb];rfl) (by unfold World.shape?;rw [hh,←hcurs]) (by omega) (frozen_of_row _ _ _ _ _ hvb) (frozen_of_row _ _ _ _ _ hvb)).mono ?_
    rintro e w' ⟨rfl,rfl⟩
    obtain ⟨c1,k1,k2,k3,k4,k5⟩:=abu (xs.drop i) (0+(i+1)) w.drew cur hh (by rw [List.length_drop];omega)
    obtain ⟨c2,l1,l2,l3,l4,l5⟩:=abu [x] (0+i) _ c1 k1 (by simp;omega)
    have hother:∀ k,k≠g→((w.drew.setCells g (0+(i+1)) (xs.drop i)).setCells g (0+i) [x]).heap[k]? = w.heap[k]? := fun k hk=>by rw [abd hk,abd hk];rfl
    obtain ⟨r1,r2,r3,r4⟩:=abh (b:=g) [x] (0+i) (w.drew.setCells g (0+(i+1)) (xs.drop i))
    obtain ⟨q1,q2,q3,q4⟩:=abh (b:=g) (xs.drop i) (0+(i+1)) w.drew
    refine ⟨_,rfl,⟨by simp;omega,.inr ⟨g,cap,c2,rfl,hg,l1,hroom,hcm,by omega,?_⟩⟩,⟨r1.trans q1,r2.trans q2,r3.trans q3,by rw [r4,q4];exact Nat.le_refl _,fun k _ hk=>hother k (fun e=>hk (by rw [e];rfl))⟩⟩
    rw [Nat.mul_one]
    refine adp hxl (by omega) (by omega) (fun j hj=>?_) ?_ (fun j hj hj2=>?_)
    ·rw [l3 j (by omega),k3 j (by omega)]
     obtain ⟨u,hu⟩:∃ u,xs[j]? = some u:=⟨_,List.getElem?_eq_getElem (by omega)⟩
     rw [hu,hxc j u hu]
    ·rw [l4 i (by omega) (by simp)];simp
    ·rw [l5 j (by simp;omega),k4 j (by omega) (by rw [List.length_drop];omega),List.getElem?_drop]
     congr 1;omega
   ·refine (insGR g 0 n cap i vb 0 1 1 xs [x] w (by omega) (by omega) hnc (by omega) (by omega) hxl rfl hcell hvc h1 hx1).mono ?_
    rintro e w' ⟨rfl,rfl⟩
    obtain ⟨G,hG⟩:∃ G,grownCap w (n+1) cap 39=G:=⟨_,rfl⟩
    have hGn:n+1≤G:=by rw [←hG];exact grownCap_ge w _ _ _
    have hG63:G≤maxLen:=by rw [←hG];exact grownCap_le_maxLen w (n+1) cap 39 (by unfold maxLen;omega)
    rw [hG]
    obtain ⟨ROW,hROW⟩:∃ ROW:Array Value,(xs.take i).toArray ++ Builtin.zeroCells (Value.cells (.slice none 0 0)) (n+1 - i) ++ Builtin.zeroCells (Value.cells (.slice none 0 0)) (G - (n+1))=ROW:=⟨_,rfl⟩
    have hRs:ROW.size=G:=by
     rw [←hROW]
     simp [Builtin.zeroCells,Value.cells,List.length_take]
     omega
    have hRt:∀ j,j<i→ROW[j]? = xs[j]? := fun j hj=>by
     rw [←hROW,Array.append_assoc,Array.getElem?_append_left (by simp [List.length_take];omega),List.getElem?_toArray,List.getElem?_take,if_pos hj]
    rw [hROW]
    have hnew:=heap_alloc_new w (.cells ROW 39)
    obtain ⟨c1,k1,k2,k3,k4,k5⟩:=abu [x] i (w.alloc (.cells ROW 39)).drew ROW hnew (by simp;omega)
    obtain ⟨c2,l1,l2,l3,l4,l5⟩:=abu (xs.drop i) (i+1) ((w.alloc (.cells ROW 39)).drew.setCells w.heap.size i [x]).drew c1 k1 (by rw [List.length_drop];omega)
    have hother:∀ k,k<w.heap.size→((((w.alloc (.cells ROW 39)).drew.setCells w.heap.size i [x]).drew).setCells w.heap.size (i+1) (xs.drop i)).heap[k]? = w.heap[k]? := fun k hk=>by
     rw [abd (by omega)]
     show ((w.alloc (.cells ROW 39)).drew.setCells w.heap.size i [x]).heap[k]? = _
     rw [abd (by omega)]
     exact (hAl w _).block k hk
    obtain ⟨r1,r2,r3,r4⟩:=abh (b:=w.heap.size) (xs.drop i) (i+1) ((w.alloc (.cells ROW 39)).drew.setCells w.heap.size i [x]).drew
    obtain ⟨q1,q2,q3,q4⟩:=abh (b:=w.heap.size) [x] i (w.alloc (.cells ROW 39)).drew
    refine ⟨_,rfl,⟨by simp;omega,.inr ⟨w.heap.size,G,c2,rfl,hK,l1,hGn,hG63,by omega,?_⟩⟩,⟨r1.trans q1,r2.trans q2,r3.trans q3,?_,fun k hk _=>hother k hk⟩⟩
    ·rw [Nat.mul_one]
     refine adp hxl (by omega) (by omega) (fun j hj=>?_) ?_ (fun j hj hj2=>?_)
     ·rw [l3 j (by omega),k3 j (by omega),hRt j hj]
     ·rw [l3 i (by omega),k4 i (by omega) (by simp)];simp
     ·rw [l4 j (by omega) (by rw [List.length_drop];omega),List.getElem?_drop]
      congr 1;omega
    ·rw [r4]
     show w.heap.size≤((w.alloc (.cells ROW 39)).drew.setCells w.heap.size i [x]).heap.size
     rw [q4]
     exact (hAl w _).size
theorem cnan (w:World) (x:Int):Calls Tryz.prog 105 #[.int .i64 x] w fun e w'=>e=.returned (.bool false)∧w' = w:=by
 have h:(x != x)=false:=by simp
 go_enter Tryz.func105,Tryz.ntmps105
 go_wp2
 go_ret
 exact ⟨by simp,rfl⟩
theorem snan (w:World) (x:Int):Calls Tryz.prog 90 #[.int .i64 x] w fun e w'=>e=.returned (.bool false)∧w' = w:=by
 have h:(x != x)=false:=by simp
 go_enter Tryz.func90,Tryz.ntmps90
 go_wp2
 go_ret
 exact ⟨by simp,rfl⟩
theorem adg (w:World) (x y:Int):Calls Tryz.prog 89 #[.int .i64 x,.int .i64 y] w fun e w'=>e=.returned (.bool (decide (x<y)))∧w' = w:=by
 have K:=hide (cnan w x)
 go_enter Tryz.func89,Tryz.ntmps89
 go_wp2_with fail
 refine K.out.mono ?_
 rintro e w1 ⟨rfl,h1⟩
 obtain rfl:w=w1:=h1.symm
 clear K h1
 go_wp2
 go_ret
 exact ⟨rfl,rfl⟩
set_option maxRecDepth 400000 in
set_option maxRecDepth 20000 in
set_option maxHeartbeats 4000000 in
theorem amd (w:World) (v:Value) (P:List Nat) (h:IsP w v P) (hs:P.Pairwise (·<·)) (c:Nat) (hn:P.length≤1000000) :
  Calls Tryz.prog 65 #[v,.int .i64 (c:Int)] w fun e w'=>∃ (i:Nat) (f:Bool),e=.returned (.tuple #[.int .i64 (i:Int),.bool f])∧i≤P.length∧(∀ k p,k<i→P[k]? = some p→p<c)∧(∀ k p,i≤k→P[k]? = some p→c≤p)∧Below w.heap.size w w' := by
 obtain ⟨ao,cap,rfl,_⟩:=h.parts
 have H:=hide h
 have HS:=hide hs
 generalize hnn:P.length=n at *
 have HN:=hide hnn
 clear h hs hnn
 go_enter Tryz.func65,Tryz.ntmps65
 go_wp2_with fail
 go_loopw [7,8,9] (fun iv jv _ wr=>∃ (i j:Nat),iv=.int .i64 i∧jv=.int .i64 j∧i≤j∧j≤n∧Below w.heap.size w wr∧(∀ k p,k<i→P[k]? = some p→p<c)∧(∀ k p,j≤k→P[k]? = some p→c≤p)) (fun iv jv _ _=>(intOf jv).toNat - (intOf iv).toNat)
 case atStart=>exact ⟨0,n,rfl,rfl,Nat.zero_le _,Nat.le_refl _,Below.refl _ _,fun k p hk=>by omega,fun k p hk hp=>by have:=(List.getElem?_eq_some_iff.1 hp).1;have:=HN.out;omega⟩
 case round =>
  obtain ⟨i,j,rfl,rfl,hij,hjn,hbw,hlo,hhi⟩:=hrel
  have HW:=hide hbw
  have HLO:=hide hlo
  have HHI:=hide hhi
  by_cases hlt:i<j
  ·have hlt' : (i:Int)<(j:Int):=by omega
   obtain ⟨m,hm⟩:∃ m,(i+j) / 2=m:=⟨_,rfl⟩
   obtain ⟨p,hp⟩:∃ p,P[m]? = some p:=⟨_,List.getElem?_eq_getElem (by have:=HN.out;omega)⟩
   obtain ⟨b,off,rfl,hbl,x0⟩:=(H.out.below hbw).cell hp
   clear hbw hlo hhi
   go_upto_region 5 with fail
   rw [show ((i:Int)+(j:Int)) / 2=(m:Int) by omega]
   have hmn:(m:Int)<(n:Int):=by omega
   have KL:=hide (adg wr (p:Int) (c:Int))
   have HP:=hide hp
   have HM:=hide hm
   clear hp hm
   go_wp2_with fail
   refine KL.out.mono ?_
   rintro e w1 ⟨rfl,h1⟩
   obtain rfl:wr=w1:=h1.symm
   clear h1 KL
   have hsort:∀ (k k' p p' : Nat),k≤k'→P[k]? = some p→P[k']? = some p'→p≤p' := fun k k' p p' hkk h1 h2=>by
    by_cases e:k=k'
    ·subst e;rw [h1] at h2;exact Nat.le_of_eq (Option.some.inj h2)
    ·obtain ⟨l1,e1⟩:=List.getElem?_eq_some_iff.1 h1
     obtain ⟨l2,e2⟩:=List.getElem?_eq_some_iff.1 h2
     have:=List.pairwise_iff_getElem.1 HS.out k k' l1 l2 (by omega)
     omega
   have HSR:=hide hsort
   clear hsort
   by_cases hpc:p<c
   ·have hd:decide ((p:Int)<(c:Int))=true:=by simp;omega
    rw [hd]
    go_wp2
    go_roundw
    case rel =>
     refine ⟨m+1,j,by go_num,rfl,by have:=HM.out;omega,hjn,HW.out,fun k q hk hq=>?_,HHI.out⟩
     have:=HSR.out k m q p (by omega) hq HP.out
     omega
    case measure=>simp [intOf];have:=HM.out;omega
   ·have hd:decide ((p:Int)<(c:Int))=false:=by simp;omega
    rw [hd]
    go_wp2
    go_roundw
    case rel =>
     refine ⟨i,m,rfl,rfl,by have:=HM.out;omega,by have:=HM.out;omega,HW.out,HLO.out,fun k q hk hq=>?_⟩
     have:=HSR.out m k p q hk HP.out hq
     omega
    case measure=>simp [intOf];have:=HM.out;omega
  ·have hlt' : decide ((i:Int)<(j:Int))=false:=by simp;omega
   obtain rfl:i=j:=by omega
   by_cases hin:i<n
   ·have hin' : (i:Int)<(n:Int):=by omega
    obtain ⟨p,hp⟩:∃ p,P[i]? = some p:=⟨_,List.getElem?_eq_getElem (by have:=HN.out;omega)⟩
    obtain ⟨b,off,rfl,hbl,x0⟩:=(H.out.below hbw).cell hp
    clear hbw hlo hhi hp
    by_cases hpc:p=c
    ·have hd:((p:Int) == (c:Int))=true:=by simp;omega
     clear hpc
     go_wp2
     refine bodyPost_ret (v:=.tuple #[.int .i64 (i:Int),.bool true]) (by simp [results,Tryz.results65,go_sem];try rfl) rfl ⟨i,true,rfl,hjn,HLO.out,HHI.out,HW.out⟩
    ·have hd:((p:Int) == (c:Int))=false:=by simp;omega
     have KN:=hide (snan wr (p:Int))
     clear hpc
     go_wp2_with fail
     refine KN.out.mono ?_
     rintro e w1 ⟨rfl,h1⟩
     obtain rfl:wr=w1:=h1.symm
     clear h1 KN
     go_wp2
     refine bodyPost_ret (v:=.tuple #[.int .i64 (i:Int),.bool false]) (by simp [results,Tryz.results65,go_sem];try rfl) rfl ⟨i,false,rfl,hjn,HLO.out,HHI.out,HW.out⟩
   ·have hin' : decide ((i:Int)<(n:Int))=false:=by simp;omega
    clear hbw hlo hhi
    go_wp2
    refine bodyPost_ret (v:=.tuple #[.int .i64 (i:Int),.bool false]) (by simp [results,Tryz.results65,go_sem];try rfl) rfl ⟨i,false,rfl,hjn,HLO.out,HHI.out,HW.out⟩
theorem Tch.cell {g:Nat} {w w' : World} (h:Tch g w w') {p:Addr} (hl:p.block<w.heap.size) (hn:p.block≠g):w'.cell? p=w.cell? p:=World.cell?_of_block (h.other _ hl hn)
theorem Tch.blk {g k:Nat} {w w' : World} (h:Tch g w w') {o:Obj} (hk:w.heap[k]? = some o) (hn:k≠g):w'.heap[k]? = some o:=(h.other k (aaa hk) hn).trans hk
theorem abc {w:World} {g k:Nat} {c d:Array Value} {S T:TypeId} (h:w.heap[g]? = some (.cells c S (0,0))) (h' : w.heap[k]? = some (.cells d T (0,0))) (hT:S≠T):k≠g:=fun e=>by
 subst e
 rw [h] at h'
 injection h' with h'
 injection h' with _ h'
 exact hT h'
theorem Ow.tch {B g:Nat} {w w' : World} {v:Value} {zs:List Int} {c:Array Value} {T:TypeId} (h:Ow B w v zs) (ht:Tch g w w') (hg:w.heap[g]? = some (.cells c T (0,0))) (hT:T≠83):Ow B w' v zs:=by
 obtain ⟨ao,cap,rfl,h1,h2,h3,h4⟩:=h
 refine ⟨ao,cap,rfl,h1,h2,h3,?_⟩
 rcases h4 with h4 | ⟨k,off,cur,rfl,hB,hh,h5,h6⟩
 ·exact .inl h4
 ·exact .inr ⟨k,off,cur,rfl,hB,ht.blk hh (abc hg hh hT),h5,h6⟩
theorem amy {B T g:Nat} {w w' : World} {ng:Bool} {ao:Option Addr} {cap:Nat} {rs:List Int} {z:Int} {c:Array Value} {S:TypeId} (h:Dm.WFr B T w ng ao cap rs z) (ht:Tch g w w') (hg:w.heap[g]? = some (.cells c S (0,0))) (hT:S≠83):Dm.WFr B T w' ng ao cap rs z :=
 ⟨⟨h.fr.ow.tch ht hg hT,h.fr.canon,h.fr.val,h.fr.lies⟩,h.sgn⟩
theorem FrW.tch {K g:Nat} {w w' : World} {z:Int} {L:Nat} {v:Value} {c:Array Value} {S:TypeId} (h:FrW K z L v w) (ht:Tch g w w') (hg:w.heap[g]? = some (.cells c S (0,0))) (hT:S≠83):FrW K z L v w' := by
 obtain ⟨ng,ao,cap,rs,B,T,e,h1,h2,h3,h4⟩:=h
 exact ⟨ng,ao,cap,rs,B,T,e,amy h1 ht hg hT,h2,Nat.le_trans h3 ht.size,h4⟩
theorem ORow.tch {K g:Nat} {w w' : World} {v:Value} {zs:List Int} {L:Nat} {c:Array Value} {S:TypeId} (h:ORow K w v zs L) (ht:Tch g w w') (hg:w.heap[g]? = some (.cells c S (0,0))) (hT:S≠83) (hW:S≠27):ORow K w' v zs L:=by
 obtain ⟨bv,e,hK,⟨es,B,T,h1,h2,h3,h4,h5⟩,hl⟩:=h
 refine ⟨bv,e,hK,⟨es,B,T,h1,ht.blk h2 (abc hg h2 hW),h3,fun k e z a b c'=>?_,h5⟩,hl⟩
 obtain ⟨g1,g2,g3,g4,g5⟩:=h4 k e z a b c'
 exact ⟨amy g1 ht hg hT,g2,g3,g4,Nat.le_trans g5 ht.size⟩
theorem adw {w w' : World} {K:Nat} {E:TypeId} {v:Value} {n:Nat} {xs:List Value} (h:w.ownsRow K E 1 v n xs) (hk:∀ g c,v.ownBlock=some g→w.heap[g]? = some (.cells c E (0,0))→w'.heap[g]? = w.heap[g]?):w'.ownsRow K E 1 v n xs:=by
 obtain ⟨h1,h2 | ⟨g,cap,cur,rfl,hg,hh,h3⟩⟩:=h
 ·exact ⟨h1,.inl h2⟩
 ·exact ⟨h1,.inr ⟨g,cap,cur,rfl,hg,(hk g cur rfl hh).trans hh,h3⟩⟩
theorem acf {w w' : World} {K:Nat} {E:TypeId} {v:Value} {n:Nat} {xs:List Value} (h:w.ownsRow K E 1 v n xs) (hb:Below w.heap.size w w'):w'.ownsRow K E 1 v n xs:=adw h fun g _ _ hh=>hb.block g (aaa hh)
def OwM (K:Nat) (w:World) (rv:Value) (rows:List (List Int)) (L:Nat):Prop:=∃ vs:List Value,w.ownsRow K 39 1 rv rows.length vs∧∀ (i:Nat) (u:Value) (z:List Int),vs[i]? = some u→rows[i]? = some z→ORow K w u z L
def OwP (K:Nat) (w:World) (pv:Value) (P:List Nat):Prop:=w.ownsRow K 3 1 pv P.length (P.map (fun p:Nat=>Value.int .i64 (p:Int)))
theorem OwM.below {K:Nat} {w w' : World} {rv:Value} {rows:List (List Int)} {L:Nat} (h:OwM K w rv rows L) (hb:Below w.heap.size w w'):OwM K w' rv rows L:=by
 obtain ⟨vs,h1,h2⟩:=h
 exact ⟨vs,acf h1 hb,fun i u z hu hz=>(h2 i u z hu hz).below hb⟩
theorem OwP.below {K:Nat} {w w' : World} {pv:Value} {P:List Nat} (h:OwP K w pv P) (hb:Below w.heap.size w w'):OwP K w' pv P:=acf h hb
theorem OwM.is {K:Nat} {w:World} {rv:Value} {rows:List (List Int)} {L:Nat} (h:OwM K w rv rows L):IsM w rv rows L:=by
 obtain ⟨vs,h1,h2⟩:=h
 exact ⟨vs,Ce.own h1,fun i u z hu hz=>(h2 i u z hu hz).is⟩
theorem OwP.is {K:Nat} {w:World} {pv:Value} {P:List Nat} (h:OwP K w pv P):IsP w pv P:=Ce.own h
def BasO (K:Nat) (w:World) (q:Nat) (P:List Nat) (rows:List (List Int)) (lead:Int) (L:Nat):Prop:=∃ rv pv ng la lm lc,w.heap[q]? = some (.cells #[rv,pv,.bool ng,.slice la lm lc] 45 (0,0))∧OwM K w rv rows L∧OwP K w pv P∧FrW K lead L (.agg #[.bool ng,.slice la lm lc]) w∧K≤q∧(P = []→rv.ownBlock=none)
theorem BasO.bas {K:Nat} {w:World} {q:Nat} {P:List Nat} {rows:List (List Int)} {lead:Int} {L:Nat} (h:BasO K w q P rows lead L):Bas w q P rows lead L:=by
 obtain ⟨rv,pv,ng,la,lm,lc,h1,h2,h3,h4,_⟩:=h
 exact ⟨rv,pv,ng,la,lm,lc,h1,h2.is,h3.is,h4.is⟩
theorem BasO.below {K:Nat} {w w' : World} {q:Nat} {P:List Nat} {rows:List (List Int)} {lead:Int} {L:Nat} (h:BasO K w q P rows lead L) (hb:Below w.heap.size w w'):BasO K w' q P rows lead L:=by
 obtain ⟨rv,pv,ng,la,lm,lc,h1,h2,h3,h4,h5⟩:=h
 exact ⟨rv,pv,ng,la,lm,lc,(hb.block _ (aaa h1)).trans h1,h2.below hb,h3.below hb,Mono.of4 (FrW.mono4 _ _ _) _ _ _ hb h4,h5⟩
theorem OwM.put {K:Nat} {w:World} {g cap:Nat} {rows:List (List Int)} {L:Nat} (h:OwM K w (.slice (some ⟨g,0,none⟩) rows.length cap) rows L) {i:Nat} (hi:i<rows.length) {u:Value} {z:List Int} (hu:ORow K w u z L) :
  OwM K (w.setCell ⟨g,i,none⟩ u) (.slice (some ⟨g,0,none⟩) rows.length cap) (rows.set i z) L∧Tch g w (w.setCell ⟨g,i,none⟩ u)∧K≤g∧∃ c,w.heap[g]? = some (.cells c 39 (0,0)):=by
 obtain ⟨vs,⟨h1,⟨h2,_⟩ | ⟨g',cap',cur,hv,hg,hh,h3,h4,h5,h6⟩⟩,hz⟩:=h
 ·cases h2
 ·simp only [Value.slice.injEq,Option.some.injEq,Addr.mk.injEq,and_true,true_and] at hv
  obtain ⟨rfl,rfl⟩:=hv
  have ht:Tch g w (w.setCell ⟨g,i,none⟩ u):=⟨rfl,rfl,rfl,by simp [World.setCell],fun k _ hn=>heap_setCell_other w ⟨g,i,none⟩ k u hn⟩
  have hd1:39≠83:=by decide
  have hd2:39≠27:=by decide
  refine ⟨⟨vs.set i u,⟨by simpa using h1,.inr ⟨g,cap,cur.setIfInBounds i u,by simp,hg,heap_setCell_same w g i _ _ u hh,by simpa using h3,h4,by simpa using h5,?_⟩⟩,fun j v y hv hy=>?_⟩,ht,hg,⟨cur,hh⟩⟩
  ·rw [List.length_set,Nat.mul_one] at *
   rw [Array.toList_setIfInBounds,List.take_set,h6]
  ·by_cases e:i=j
   ·subst e
    rw [List.getElem?_set_self (by have:=(List.getElem?_eq_some_iff.1 hv).1;simpa using this)] at hv
    rw [List.getElem?_set_self hi] at hy
    obtain rfl:=Option.some.inj hv
    obtain rfl:=Option.some.inj hy
    exact hu.tch ht hh hd1 hd2
   ·rw [List.getElem?_set_ne e] at hv hy
    exact (hz j v y hv hy).tch ht hh hd1 hd2
structure Plc (P:List Nat) (c i:Nat):Prop where
 le:i≤P.length
 lo:∀ k p,k<i→P[k]? = some p→p<c
 hi:∀ k p,i≤k→P[k]? = some p→c≤p
theorem Plc.one {P:List Nat} {c i j:Nat} (h:Plc P c i) (h' : Plc P c j):i=j:=by
 have key:∀ {i j:Nat},Plc P c i→Plc P c j→¬ i<j:=fun {i j} h h' hlt=>by
  obtain ⟨p,hp⟩:∃ p,P[i]? = some p:=⟨_,List.getElem?_eq_getElem (by have:=h'.le;omega)⟩
  have:=h'.lo i p hlt hp
  have:=h.hi i p (Nat.le_refl _) hp
  omega
 have:=key h h'
 have:=key h' h
 omega
theorem ayd:Has Tryz.prog 65:=by unfold Has;kernel_rfl
theorem aq3:Has Tryz.prog 66:=by unfold Has;kernel_rfl
def negs (o:Bool) (ls:List Int):List Int:=if o then ls.map (fun z=>-z) else ls
theorem ag9 (o:Bool) (ls:List Int):(negs o ls).length=ls.length:=by cases o <;> simp [negs]
theorem atf (ls:List Int):gRow (fun k=>-(ls.getD k 0)) ls.length=negs true ls:=by
 apply List.ext_getElem?
 intro k
 by_cases hk:k<ls.length
 ·rw [aew hk,negs,if_pos rfl,List.getElem?_map,List.getElem?_eq_getElem hk,List.getD_eq_getElem?_getD,List.getElem?_eq_getElem hk];rfl
 ·rw [List.getElem?_eq_none (by rw [acg];omega),List.getElem?_eq_none (by rw [ag9];omega)]
structure TkS (K s q c:Nat) (w:World) (vl rv pv:Value) (lng:Bool) (la:Option Addr) (lm lc:Nat) (P:List Nat) (rows:List (List Int)) (lead:Int) (ls:List Int) (L:Nat) (wr:World):Prop where
 b3:wr.heap[s]? = some (.cells #[.pointer (some ⟨q,0,none⟩)] 94 (0,0))
 b4:wr.heap[s+1]? = some (.cells #[vl] 39 (0,0))
 b5:wr.heap[s+2]? = some (.cells #[.int .i64 (c:Int)] 3 (0,0))
 bq:wr.heap[q]? = some (.cells #[rv,pv,.bool lng,.slice la lm lc] 45 (0,0))
 om:OwM K wr rv rows L
 op:OwP K wr pv P
 ld:FrW K lead L (.agg #[.bool lng,.slice la lm lc]) wr
 lf:ORow K wr vl ls L
 bk:Below K w wr
theorem TkS.below {K s q c:Nat} {w:World} {vl rv pv:Value} {lng:Bool} {la:Option Addr} {lm lc:Nat} {P:List Nat} {rows:List (List Int)} {lead:Int} {ls:List Int} {L:Nat} {wr w' : World} (h:TkS K s q c w vl rv pv lng la lm lc P rows lead ls L wr) (hK:K≤wr.heap.size) (hb:Below wr.heap.size wr w'):TkS K s q c w vl rv pv lng la lm lc P rows lead ls L w' :=
 ⟨(hb.block _ (aaa h.b3)).trans h.b3,(hb.block _ (aaa h.b4)).trans h.b4,(hb.block _ (aaa h.b5)).trans h.b5,(hb.block _ (aaa h.bq)).trans h.bq,h.om.below hb,h.op.below hb,Mono.of4 (FrW.mono4 _ _ _) _ _ _ hb h.ld,h.lf.below hb,h.bk.trans (hb.mono hK)⟩
theorem agi {w:World} {K:Nat} {E:TypeId} {v:Value} {n:Nat} {xs:List Value} (h:w.ownsRow K E 1 v n xs):∀ k,v.ownBlock=some k→k<w.heap.size∧K≤k:=by
 obtain ⟨_,⟨rfl,_⟩ | ⟨g,cap,cur,rfl,hg,hh,_⟩⟩:=h
 ·intro k hk;simp [Value.ownBlock] at hk
 ·intro k hk
  simp only [Value.ownBlock,Option.some.injEq] at hk
  subst hk
  exact ⟨aaa hh,hg⟩
theorem OwM.tch {K g:Nat} {w w' : World} {rv:Value} {rows:List (List Int)} {L:Nat} {c:Array Value} {S:TypeId} (h:OwM K w rv rows L) (ht:Tch g w w') (hg:w.heap[g]? = some (.cells c S (0,0))) (hT:S≠83) (hW:S≠27) (hne:rv.ownBlock≠some g):OwM K w' rv rows L:=by
 obtain ⟨vs,h1,h2⟩:=h
 exact ⟨vs,adw h1 fun k _ hk hh=>ht.other k (aaa hh) (fun e=>hne (by rw [hk,e])),fun i u z hu hz=>(h2 i u z hu hz).tch ht hg hT hW⟩
theorem OwP.tch {K g:Nat} {w w' : World} {pv:Value} {P:List Nat} (h:OwP K w pv P) (ht:Tch g w w') (hne:pv.ownBlock≠some g):OwP K w' pv P:=adw h fun k _ hk hh=>ht.other k (aaa hh) (fun e=>hne (by rw [hk,e]))
theorem OwP.ne {K g:Nat} {w:World} {pv:Value} {P:List Nat} {c:Array Value} (h:OwP K w pv P) (hg:w.heap[g]? = some (.cells c 39 (0,0))):pv.ownBlock≠some g:=by
 obtain ⟨_,⟨rfl,_⟩ | ⟨k,cap,cur,rfl,_,hh,_⟩⟩:=h
 ·simp [Value.ownBlock]
 ·intro e
  simp only [Value.ownBlock,Option.some.injEq] at e
  subst e
  exact abc hg hh (by decide) rfl
theorem atg {α:Type} (f:α→α) {rows:List α} {k:Nat} {r:α} (h:rows[k]? = some r):((rows.take k).map f ++ rows.drop k).set k (f r)=(rows.take (k+1)).map f ++ rows.drop (k+1):=by
 have hk:=(List.getElem?_eq_some_iff.1 h).1
 have hd:rows.drop k=r :: rows.drop (k+1):=by
  rw [List.drop_eq_getElem_cons hk,(List.getElem?_eq_some_iff.1 h).2]
 rw [List.set_append_right _ _ (by simp;omega),hd,List.take_add_one,h]
 simp [List.length_take,Nat.min_eq_left (Nat.le_of_lt hk)]
def NewI (W0:Nat) (x:Value):Says:=fun v w=>∃ vb,W0≤vb∧v=.slice (some ⟨vb,0,none⟩) 1 1∧w.heap[vb]? = some (.cells #[x] 3 (0,0))
theorem NewI.mono (W0:Nat) (x:Value):Mono (NewI W0 x):=fun _ _ _ hb ⟨vb,h1,h2,h3⟩=>⟨vb,h1,h2,(hb.block _ (aaa h3)).trans h3⟩
theorem NewI.tch {g W0:Nat} {x v:Value} {w w' : World} (hg:g<W0) (ht:Tch g w w') (h:NewI W0 x v w):NewI W0 x v w' := by
 obtain ⟨vb,h1,h2,h3⟩:=h
 exact ⟨vb,h1,h2,ht.blk h3 (by omega)⟩
def OwnI (K n:Nat) (xs:List Value) (j:Nat) (o:Obj):Says:=fun v w=>w.ownsRow K 3 1 v n xs∧w.heap[j]? = some o
theorem OwnI.mono (K n:Nat) (xs:List Value) (j:Nat) (o:Obj):Mono (OwnI K n xs j o):=fun _ _ _ hb h=>⟨acf h.1 hb,(hb.block _ (aaa h.2)).trans h.2⟩
theorem hasInsI:Has Tryz.prog 70:=by unfold Has;kernel_rfl
theorem awb {dst:Option Tmp} {ty:TypeId} {pos:String} {after:Array Edge} {guard:Option (Nat × Bool)} {a:Act} {w:World} {ats:Array TypeId} {i j k K n i0 W0 g:Nat} {v x:Value} {xs:List Value} (h1:a.eval (.tmp i)=v) (h2:a.eval (.tmp j)=.int .i64 (i0:Int)) (h3:NewI W0 x (a.eval (.tmp k)) w) (hg:∀ k,v.ownBlock=some k→k=g) (hO:w.ownsRow K 3 1 v n xs) (h1c:∀ u ∈ xs,u.oneCell' = true) (hi:i0≤n) (h1x:x.oneCell' = true) (hn:n≤1000000) (hK:K≤w.heap.size) (hgw:g<W0) {jb:Nat} {ob:Obj} (hjb:w.heap[jb]? = some ob) (hjn:v.ownBlock≠some jb) :
  Does Tryz.prog { dst,op:=.call { callee:=.value (.func 70),args:=#[.tmp i,.tmp j,.tmp k],argTypes:=ats },type:=ty,pos,after,guard } a.eval w fun v' w'=>Tch g w w'∧OwnI K (n+1) (xs.take i0 ++ x :: xs.drop i0) jb ob v' w' := by
 obtain ⟨vb,hvb,e3,hh⟩:=h3
 exact aas hasInsI #[v,.int .i64 (i0:Int),.slice (some ⟨vb,0,none⟩) 1 1] (by simp [h1,h2,e3]) ((insI w K v n xs hO h1c i0 hi x h1x vb hh (fun e=>by have:=hg vb e;omega) hn hK).mono fun e w' ⟨v',he,ho,hgr⟩=>⟨_,he,.of_grown hgr hg,ho,(hgr.block jb (aaa hjb) (fun e=>hjn e.symm)).trans hjb⟩)
def NewR (W0:Nat) (x:Value):Says:=fun v w=>∃ vb,W0≤vb∧v=.slice (some ⟨vb,0,none⟩) 1 1∧w.heap[vb]? = some (.cells #[x] 39 (0,0))
theorem NewR.mono (W0:Nat) (x:Value):Mono (NewR W0 x):=fun _ _ _ hb ⟨vb,h1,h2,h3⟩=>⟨vb,h1,h2,(hb.block _ (aaa h3)).trans h3⟩
theorem NewR.tch {g W0:Nat} {x v:Value} {w w' : World} (hg:g<W0) (ht:Tch g w w') (h:NewR W0 x v w):NewR W0 x v w' := by
 obtain ⟨vb,h1,h2,h3⟩:=h
 exact ⟨vb,h1,h2,ht.blk h3 (by omega)⟩
def OwnR (K n:Nat) (xs:List Value) (j:Nat) (o:Obj):Says:=fun v w=>w.ownsRow K 39 1 v n xs∧w.heap[j]? = some o
theorem OwnR.mono (K n:Nat) (xs:List Value) (j:Nat) (o:Obj):Mono (OwnR K n xs j o):=fun _ _ _ hb h=>⟨acf h.1 hb,(hb.block _ (aaa h.2)).trans h.2⟩
theorem hasInsR:Has Tryz.prog 69:=by unfold Has;kernel_rfl
theorem awc {dst:Option Tmp} {ty:TypeId} {pos:String} {after:Array Edge} {guard:Option (Nat × Bool)} {a:Act} {w:World} {ats:Array TypeId} {i j k K n i0 W0 g:Nat} {v x:Value} {xs:List Value} (h1:a.eval (.tmp i)=v) (h2:a.eval (.tmp j)=.int .i64 (i0:Int)) (h3:NewR W0 x (a.eval (.tmp k)) w) (hg:∀ k,v.ownBlock=some k→k=g) (hO:w.ownsRow K 39 1 v n xs) (h1c:∀ u ∈ xs,u.oneCell' = true) (hi:i0≤n) (h1x:x.oneCell' = true) (hn:n≤1000000) (hK:K≤w.heap.size) (hgw:g<W0) {jb:Nat} {ob:Obj} (hjb:w.heap[jb]? = some ob) (hjn:v.ownBlock≠some jb) :
  Does Tryz.prog { dst,op:=.call { callee:=.value (.func 69),args:=#[.tmp i,.tmp j,.tmp k],argTypes:=ats },type:=ty,pos,after,guard } a.eval w fun v' w'=>Tch g w w'∧OwnR K (n+1) (xs.take i0 ++ x :: xs.drop i0) jb ob v' w' := by
 obtain ⟨vb,hvb,e3,hh⟩:=h3
 exact aas hasInsR #[v,.int .i64 (i0:Int),.slice (some ⟨vb,0,none⟩) 1 1] (by simp [h1,h2,e3]) ((insR w K v n xs hO h1c i0 hi x h1x vb hh (fun e=>by have:=hg vb e;omega) hn hK).mono fun e w' ⟨v',he,ho,hgr⟩=>⟨_,he,.of_grown hgr hg,ho,(hgr.block jb (aaa hjb) (fun e=>hjn e.symm)).trans hjb⟩)
theorem awd {dst:Option Tmp} {ty:TypeId} {pos:String} {after:Array Edge} {guard:Option (Nat × Bool)} {a:Act} {w:World} {i W0:Nat} {ao:Option Addr} {n c:Nat} (h:a.eval (.tmp i)=.slice ao n c) (hW:W0≤w.heap.size) :
  Does Tryz.prog { dst,op:=.buildSlice 22 1 #[(0,.tmp i)],type:=ty,pos,after,guard } a.eval w fun v w'=>Below w.heap.size w w'∧NewR W0 (.slice ao n c) v w' := by
 have hb:=hAl w (.cells #[.slice ao n c] 39)
 refine ac4 (v:=.slice (some ⟨w.heap.size,0,none⟩) 1 1) (w' := w.alloc (.cells #[.slice ao n c] 39)) ?_ ⟨hb,_,hW,rfl,heap_alloc_new _ _⟩
 simp only [List.map_toArray,List.map_cons,List.map_nil,h]
 go_simp
theorem awe {dst:Option Tmp} {ty:TypeId} {pos:String} {after:Array Edge} {guard:Option (Nat × Bool)} {a:Act} {w:World} {i W0:Nat} {z:Int} (h:a.eval (.tmp i)=.int .i64 z) (hW:W0≤w.heap.size) :
  Does Tryz.prog { dst,op:=.buildSlice 43 1 #[(0,.tmp i)],type:=ty,pos,after,guard } a.eval w fun v w'=>Below w.heap.size w w'∧NewI W0 (.int .i64 z) v w' := by
 have hb:=hAl w (.cells #[.int .i64 z] 3)
 refine ac4 (v:=.slice (some ⟨w.heap.size,0,none⟩) 1 1) (w' := w.alloc (.cells #[.int .i64 z] 3)) ?_ ⟨hb,_,hW,rfl,heap_alloc_new _ _⟩
 simp only [List.map_toArray,List.map_cons,List.map_nil,h]
 go_simp
def tkR (ls:List Int) (c:Nat) (lead:Int) (n:Nat) (r:List Int):List Int:=gRow (fun k=>(ls.getD c 0*r.getD k 0 - r.getD c 0*ls.getD k 0) / lead) n
def OrS (K:Nat) (zs:List Int) (M:Nat):Says:=fun v w=>ORow K w v zs M
theorem OrS.mono (K:Nat) (zs:List Int) (M:Nat):Mono (OrS K zs M):=fun _ _ _ hb h=>ORow.below h hb
theorem aq4:Has Tryz.prog 68:=by unfold Has;kernel_rfl
theorem aq5:Has Tryz.prog 53:=by unfold Has;kernel_rfl
theorem aye {dst:Option Tmp} {ty:TypeId} {pos:String} {after:Array Edge} {guard:Option (Nat × Bool)} {a:Act} {w:World} {f:Fn} {xs:Array Operand} {cap:Array Value} (hx:xs.map a.eval=cap) :
  Does Tryz.prog { dst,op:=.makeFunc f #[] xs,type:=ty,pos,after,guard } a.eval w fun v w'=>Below w.heap.size w w'∧Eqs (.func f #[] cap) v w' := by
 have e:(execOp a.eval { dst,op:=.makeFunc f #[] xs,type:=ty,pos,after,guard }).run Tryz.prog w=.ok (.value (.func f #[] cap)) w:=by
  simp only [execOp,hx,List.map_toArray,List.map_nil,Sem.run_bind]
  rfl
 refine ⟨?_⟩
 unfold Turns
 rw [e]
 exact ⟨Below.refl _ _,rfl⟩
theorem ath {dst:Option Tmp} {ty:TypeId} {pos:String} {after:Array Edge} {guard:Option (Nat × Bool)} {a:Act} {w:World} {ats:Array TypeId} {i j K L M n:Nat} {v:Value} {f:FuncId} {cap:Array Value} {zs:List Int} {g:Nat→Int} (h1:a.eval (.tmp i)=v) (h2:a.eval (.tmp j)=.func (.func f) #[] cap) (h:IsRow w v zs L) (hz:zs.length=n) (hl:n≤1000000) (hf:Has Tryz.prog f) (hT:Turn w f cap zs L M g) (hK:K≤w.heap.size) :
  Does Tryz.prog { dst,op:=.call { callee:=.value (.func 53),args:=#[.tmp i,.tmp j],argTypes:=ats },type:=ty,pos,after,guard } a.eval w fun v w'=>Below w.heap.size w w'∧OrS K (gRow g n) M v w' := by
 subst hz
 exact aas aq5 #[v,.func (.func f) #[] cap] (by simp [h1,h2]) ((ado w v zs L M h hl f hf cap g hT).mono fun e w' ⟨r,he,ho,hb⟩=>⟨_,he,hb,ho.low hK⟩)
theorem OwM.blk {K:Nat} {w:World} {ma:Option Addr} {m mc:Nat} {rows:List (List Int)} {L:Nat} (h:OwM K w (.slice ma m mc) rows L) {i:Nat} {r:List Int} (hr:rows[i]? = some r):∃ g c u,ma=some ⟨g,0,none⟩∧m=rows.length∧w.heap[g]? = some (.cells c 39 (0,0))∧c[i]? = some u∧ORow K w u r L:=by
 have hi:=(List.getElem?_eq_some_iff.1 hr).1
 obtain ⟨vs,⟨h1,⟨h2,h3⟩ | ⟨g,cap,cur,hv,hg,hh,h3,h4,h5,h6⟩⟩,hz⟩:=h
 ·omega
 ·simp only [Value.slice.injEq] at hv
  obtain ⟨rfl,rfl,rfl⟩:=hv
  obtain ⟨u,hu⟩:∃ u,vs[i]? = some u:=⟨_,List.getElem?_eq_getElem (by omega)⟩
  refine ⟨g,cur,u,rfl,rfl,hh,?_,hz i u r hu hr⟩
  rw [←h6,List.getElem?_take] at hu
  split at hu
  ·rwa [Array.getElem?_toList] at hu
  ·cases hu
theorem ak7 {w:World} {K K' : Nat} {E:TypeId} {v:Value} {n:Nat} {xs:List Value} (h:w.ownsRow K' E 1 v n xs) (hk:K≤K'):w.ownsRow K E 1 v n xs:=by
 obtain ⟨h1,h2 | ⟨g,cap,cur,hv,hg,h3⟩⟩:=h
 ·exact ⟨h1,Or.inl h2⟩
 ·exact ⟨h1,Or.inr ⟨g,cap,cur,hv,Nat.le_trans hk hg,h3⟩⟩
theorem ORow.frw {K:Nat} {w:World} {bl m:Nat} {zs:List Int} {L c:Nat} {y:Int} (h:ORow K w (.slice (some ⟨bl,0,none⟩) m m) zs L) (hy:zs[c]? = some y):∃ ng a m' cp,bl<w.heap.size∧c<m∧w.cell? ⟨bl,0+c*2,none⟩ = some (.bool ng)∧w.cell? ⟨bl,0+c*2+1,none⟩ = some (.slice a m' cp)∧FrW K y L (.agg #[.bool ng,.slice a m' cp]) w:=by
 obtain ⟨bv,e,hK,hp,_⟩:=h
 simp only [Value.slice.injEq,Option.some.injEq,Addr.mk.injEq] at e
 obtain ⟨⟨rfl,_⟩,rfl,_⟩:=e
 have hl:=hp.lt
 obtain ⟨es,B,T,h1,h2,_,h4,_⟩:=hp
 have hc:=(List.getElem?_eq_some_iff.1 hy).1
 obtain ⟨e,he⟩:∃ e,es[c]? = some e:=⟨_,List.getElem?_eq_getElem (by omega)⟩
 obtain ⟨f1,f2⟩:=abl he
 obtain ⟨g1,g2,g3,g4,g5⟩:=h4 c e y hc he hy
 rw [Nat.zero_add]
 exact ⟨e.ng,e.a,e.m,e.c,hl,hc,by rw [cell_of_row _ _ _ _ _ (0,0) h2,List.getElem?_toArray];exact f1,by rw [cell_of_row _ _ _ _ _ (0,0) h2,List.getElem?_toArray];exact f2,_,_,_,_,_,_,by rw [g2],g1,g4,g5,g3⟩
theorem OwP.ne' {K g:Nat} {w:World} {pv:Value} {P:List Nat} {c:Array Value} {S:TypeId} (h:OwP K w pv P) (hg:w.heap[g]? = some (.cells c S (0,0))) (hS:S≠3):pv.ownBlock≠some g:=by
 obtain ⟨_,⟨rfl,_⟩ | ⟨k,cap,cur,rfl,_,hh,_⟩⟩:=h
 ·simp [Value.ownBlock]
 ·intro e
  simp only [Value.ownBlock,Option.some.injEq] at e
  subst e
  exact abc hg hh hS rfl
theorem awf {α β:Type} {R:α→β→Prop} {us:List α} {zs:List β} {i0:Nat} {u0:α} {z0:β} (hl:us.length=zs.length) (hi:i0≤zs.length) (h:∀ (i:Nat) (u:α) (z:β),us[i]? = some u→zs[i]? = some z→R u z) (h0:R u0 z0):∀ (i:Nat) (u:α) (z:β),(us.take i0 ++ u0 :: us.drop i0)[i]? = some u→(zs.take i0 ++ z0 :: zs.drop i0)[i]? = some z→R u z:=by
 intro i u z hu hz
 have l1:(us.take i0).length=i0:=by simp;omega
 have l2:(zs.take i0).length=i0:=by simp;omega
 rcases Nat.lt_trichotomy i i0 with hlt | rfl | hgt
 ·rw [List.getElem?_append_left (by omega),List.getElem?_take_of_lt hlt] at hu hz
  exact h i u z hu hz
 ·rw [List.getElem?_append_right (by omega)] at hu hz
  simp only [l1,l2,Nat.sub_self,List.getElem?_cons_zero,Option.some.injEq] at hu hz
  subst hu hz
  exact h0
 ·obtain ⟨d,rfl⟩:∃ d,i=i0+(d+1):=⟨i - i0 - 1,by omega⟩
  rw [List.getElem?_append_right (by omega)] at hu hz
  simp only [l1,l2,Nat.add_sub_cancel_left,List.getElem?_cons_succ,List.getElem?_drop] at hu hz
  exact h _ u z hu hz
set_option maxRecDepth 20000 in
set_option maxHeartbeats 8000000 in
theorem aq6 (w:World) (K q c n L i0:Nat) (vl:Value) (ls:List Int) (P:List Nat) (rows:List (List Int)) (lead:Int) (hB:BasO K w q P rows lead L) (hl:ORow K w vl ls L) (hln:ls.length=n) (hS:Shp n P rows) (hP:P.Pairwise (·<·)) (hi0:Plc P c i0) (hc:c<n) (hn:n≤1000000) (hL:L≤50000) (hKw:K≤w.heap.size) (hbd:∀ r ∈ rows,∀ z ∈ tkR (negs (decide ((P.length - i0) % 2=1)) ls) c lead n r,(z.natAbs:Int)<pw L) :
  Calls Tryz.prog 35 #[.pointer (some ⟨q,0,none⟩),vl,.int .i64 (c:Int)] w fun e w'=>e=.returned (.tuple #[])∧Below K w w'∧BasO K w' q (P.take i0 ++ c :: P.drop i0) ((rows.map (tkR (negs (decide ((P.length - i0) % 2=1)) ls) c lead n)).take i0 ++ negs (decide ((P.length - i0) % 2=1)) ls :: (rows.map (tkR (negs (decide ((P.length - i0) % 2=1)) ls) c lead n)).drop i0) ((negs (decide ((P.length - i0) % 2=1)) ls).getD c 0) L:=by
 obtain ⟨bl,rfl,_⟩:=id hl
 obtain ⟨rv,pv,lng,la,lm,lc,hbq,hM,hPv,hLd,hKq,hPR⟩:=hB
 obtain ⟨pa,pc,rfl,_⟩:=hPv.is.parts
 obtain ⟨ma,mc,rfl,_⟩:=hM.is.parts
 obtain ⟨w5,hw5⟩:∃ w5,((w.alloc (.cells #[.pointer (some ⟨q,0,none⟩)] 94)).alloc (.cells #[.slice (some ⟨bl,0,none⟩) ls.length ls.length] 39)).alloc (.cells #[.int .i64 (c:Int)] 3)=w5:=⟨_,rfl⟩
 have hb5:Below w.heap.size w w5:=by rw [←hw5];(repeat' first|with_reducible(first|exact Below.refl _ _|assumption|refine gdrewN ?_ _|refine Below.alloc ?_ ?_ _|refine Below.drew ?_|refine Below.setCell ?_ ?_ _)|go_size)
 obtain ⟨s,hs⟩:∃ s,w.heap.size=s:=⟨_,rfl⟩
 have h3:w5.heap[s]? = some (.cells #[.pointer (some ⟨q,0,none⟩)] 94 (0,0)):=by rw [←hw5,←hs];exact ab0 (ab0 (heap_alloc_new w _))
 have h4:w5.heap[s+1]? = some (.cells #[.slice (some ⟨bl,0,none⟩) ls.length ls.length] 39 (0,0)):=by
  rw [←hw5,←hs]
  have:=heap_alloc_new (w.alloc (.cells #[.pointer (some ⟨q,0,none⟩)] 94)) (.cells #[.slice (some ⟨bl,0,none⟩) ls.length ls.length] 39)
  exact ab0 (by simpa using this)
 have h5:w5.heap[s+2]? = some (.cells #[.int .i64 (c:Int)] 3 (0,0)):=by
  rw [←hw5,←hs]
  have:=heap_alloc_new ((w.alloc (.cells #[.pointer (some ⟨q,0,none⟩)] 94)).alloc (.cells #[.slice (some ⟨bl,0,none⟩) ls.length ls.length] 39)) (.cells #[.int .i64 (c:Int)] 3)
  simpa using this
 have hq5:=(hb5.block _ (aaa hbq)).trans hbq
 have hqs:q<s:=by rw [←hs];exact aaa hbq
 have HRB:Hid (∀ k,Value.ownBlock (.slice ma rows.length mc)=some k→k<s):=(fun k hk=>by obtain ⟨vs,h1,_⟩:=hM;rw [←hs];exact (agi h1 k hk).1)
 have HPB:Hid (∀ k,Value.ownBlock (.slice pa P.length pc)=some k→k<s):=(fun k hk=>by rw [←hs];exact (agi hPv k hk).1)
 obtain ⟨hs3,c3,_⟩:=aaw h3
 obtain ⟨hs4,c4,_⟩:=aaw h4
 obtain ⟨hs5,c5,_⟩:=aaw h5
 have b1:w5.cell? ⟨q,1,none⟩ = some (.slice pa P.length pc):=by rw [cell_of_row _ _ _ _ _ (0,0) hq5];rfl
 have hq:=aaa hq5
 have HW5:=hide hw5
 have HB5:=hide hb5
 have H3:=hide h3
 have H4:=hide h4
 have H5:=hide h5
 have HBQ:=hide hq5
 have HM:=hide (hM.below hb5)
 have HPV:=hide (hPv.is.below hb5)
 have HPO:=hide (hPv.below hb5)
 have HLD:=hide (Mono.of4 (FrW.mono4 _ _ _) _ _ _ hb5 hLd)
 have HLS:=hide (hl.below hb5)
 have HASC:=hide hP
 have HPR:Hid ((Value.slice pa P.length pc).ownBlock=none→(Value.slice ma rows.length mc).ownBlock=none):=(fun e=>hPR (by
  obtain ⟨h1,⟨_,h2⟩ | ⟨g',cap',cur',hv,_⟩⟩:=id hPv
  ·exact List.length_eq_zero_iff.1 h2
  ·rw [hv] at e;simp [Value.ownBlock] at e))
 clear hPR
 have HI0:=hide hi0
 have HKQ:=hide hKq
 have HQS:Hid (q<s):=(show q<s by rw [←hs];exact aaa hbq)
 have HPQ:Hid ((Value.slice pa P.length pc).ownBlock≠some q):=(fun e=>by
  obtain ⟨_,⟨hv,_⟩ | ⟨g',cap',cur',hv,_,hh,_⟩⟩:=id hPv
  ·rw [hv] at e;simp [Value.ownBlock] at e
  ·rw [hv] at e
   simp only [Value.ownBlock,Option.some.injEq] at e
   subst e
   exact abc hh hbq (by decide) rfl)
 have HPM:Hid (P.length≤1000000):=(show P.length≤1000000 by have:=hS.pm;omega)
 have HSH:=hide hS
 have HI0:=hide hi0
 have HLN:=hide hln
 have HBD:=hide hbd
 clear hbq hM hPv hLd hl hP hS hi0 hln hbd h3 h4 h5 hq5 hb5 hw5
 go_enter Tryz.func35,Tryz.ntmps35
 go_upto_region 1 with fail
 rw [HW5.out]
 go_cut [6,7] (fun iv fv wx=>∃ f,iv=.int .i64 (i0:Int)∧fv=.bool f∧Below w5.heap.size w5 wx)
 case first =>
  go_region_law (refine aqb rfl 65 #[.tmp 14,.tmp 15] #[43,3] rfl ayd #[.slice pa P.length pc,.int .i64 (c:Int)] (by simp [Act.eval]) (amd _ _ P (HPV.out.below (show Below w5.heap.size w5 _ by (repeat' first|with_reducible(first|exact Below.refl _ _|assumption|refine gdrewN ?_ _|refine Below.alloc ?_ ?_ _|refine Below.drew ?_|refine Below.setCell ?_ ?_ _)|go_size))) HASC.out c HPM.out) ?_;rintro e w6 ⟨i1,f1,rfl,k1,k2,k3,hb6⟩;obtain rfl:i0=i1:=HI0.out.one ⟨k1,k2,k3⟩;have HB6:=hide ((show Below w5.heap.size w5 _ by (repeat' first|with_reducible(first|exact Below.refl _ _|assumption|refine gdrewN ?_ _|refine Below.alloc ?_ ?_ _|refine Below.drew ?_|refine Below.setCell ?_ ?_ _)|go_size)).trans (hb6.mono (by simp)));clear k1 k2 k3 hb6;refine ⟨_,rfl,?_⟩)
  all_goals (
   go_wp2_with fail
   go_meet
   exact ⟨f1,rfl,rfl,HB6.out⟩)
 case rest =>
  obtain ⟨f1,rfl,rfl,hB'⟩:=hcut
  have c3' := (hB'.cell (p:=⟨s,0,none⟩) hs3).trans c3
  have b1' := (hB'.cell (p:=⟨q,1,none⟩) hq).trans b1
  have hile:=HI0.out.le
  have hsb:IntKind.i64.wrap ((P.length:Int) - (i0:Int))=((P.length - i0:Nat):Int):=by rw [IntKind.wrap_i64];have:=HPM.out;omega
  obtain ⟨odd,hodd⟩:∃ o,decide ((P.length - i0) % 2=1)=o:=⟨_,rfl⟩
  have hS0:TkS K s q c w (.slice (some ⟨bl,0,none⟩) ls.length ls.length) (.slice ma rows.length mc) (.slice pa P.length pc) lng la lm lc P rows lead ls L w5:=⟨H3.out,H4.out,H5.out,HBQ.out,HM.out,HPO.out,HLD.out,HLS.out,HB5.out.mono hKw⟩
  have hK5:K≤w5.heap.size:=Nat.le_trans hKw HB5.out.size
  have hS1:=hS0.below hK5 hB'
  have hK6:K≤wc.heap.size:=Nat.le_trans hK5 hB'.size
  obtain ⟨hl4,c4',f4'⟩:=aaw hS1.b4
  have HS1:=hide hS1
  have HO:=hide hodd
  have hsK:K≤s+1:=by omega
  clear hS0 hS1 hodd
  go_upto_if 27 with fail
  have hpar:(((P.length - i0:Nat):Int) % 2 == 1)=odd:=by
   rw [←HO.out]
   by_cases h:(P.length - i0) % 2=1
   ·rw [decide_eq_true h,beq_iff_eq];omega
   ·rw [decide_eq_false h,beq_eq_false_iff_ne];omega
  rw [hpar]
  go_cut [] (fun wx=>∃ bl',TkS K s q c w (.slice (some ⟨bl',0,none⟩) ls.length ls.length) (.slice ma rows.length mc) (.slice pa P.length pc) lng la lm lc P rows lead (negs odd ls) L wx∧K≤wx.heap.size)
  case first =>
   cases odd with
   | true =>
    have KT:=ado wc _ ls L L HS1.out.lf.is (by have:=HLN.out;omega) _ aq3 #[] (fun k=>-(ls.getD k 0)) (fun W k z xv hb hz hx=>by
     have:=aoa W W.heap.size rfl k z xv L hx (by omega)
     rw [show (fun k=>-(ls.getD k 0)) k = -z by show -(ls.getD k 0) = -z;rw [List.getD_eq_getElem?_getD,hz];rfl]
     exact this)
    rw [atf] at KT
    have KT:=hide KT
    clear hB' c3' b1' hpar hsb
    go_wp2_with fail
    refine KT.out.mono ?_
    rintro e w8 ⟨r8,rfl,ho8,hb8⟩
    obtain ⟨b8,rfl,_⟩:=id ho8
    have hS8:=HS1.out.below hK6 hb8
    obtain ⟨hl8,c8,f8⟩:=aaw hS8.b4
    have ht:Tch (s+1) w8 (w8.setCell ⟨s+1,0,none⟩ (.slice (some ⟨b8,0,none⟩) (negs true ls).length (negs true ls).length)):=⟨rfl,rfl,rfl,by simp [World.setCell],fun k _ hn=>heap_setCell_other w8 ⟨s+1,0,none⟩ k _ hn⟩
    have hb4:=heap_setCell_same w8 (s+1) 0 _ _ (.slice (some ⟨b8,0,none⟩) (negs true ls).length (negs true ls).length) hS8.b4
    have HR:=hide (And.intro hS8 (And.intro ho8 (And.intro hb8 (And.intro ht hb4))))
    clear ho8 hb8 hS8 ht hb4 KT
    rw [ag9] at HR ⊢
    go_wp2_with fail
    go_meet
    obtain ⟨h1,h2,h3,h4,h5⟩:=HR.out
    have d1:39≠83:=by decide
    have d2:39≠27:=by decide
    refine ⟨b8,⟨h4.blk h1.b3 (by omega),by simpa using h5,h4.blk h1.b5 (by omega),h4.blk h1.bq (by omega),h1.om.tch h4 h1.b4 d1 d2 (fun e=>by have:=HRB.out _ e;omega),h1.op.tch h4 (fun e=>by have:=HPB.out _ e;omega),h1.ld.tch h4 h1.b4 d1,(h2.low hK6).tch h4 h1.b4 d1 d2,h1.bk.trans (h4.below (Nat.le_trans hK6 h3.size) (by omega))⟩,Nat.le_trans (Nat.le_trans hK6 h3.size) h4.size⟩
   | false =>
    clear hB' c3' b1' hpar hsb
    go_wp2_with fail
    go_meet
    exact ⟨bl,HS1.out,hK6⟩
  case rest =>
   obtain ⟨bl',hS9,hK9⟩:=hcut
   obtain ⟨w9,rfl⟩:∃ x,x=wc:=⟨_,rfl⟩
   have hbd1:=HBD.out
   rw [HO.out] at hbd1
   have hll:(negs odd ls).length=n:=by rw [ag9];exact HLN.out
   obtain ⟨ls1,hls1⟩:∃ l,negs odd ls=l:=⟨_,rfl⟩
   rw [hls1] at hS9 hbd1 hll
   obtain ⟨_,d3,_⟩:=aaw hS9.b3
   have d0:w9.cell? ⟨q,0,none⟩ = some (.slice ma rows.length mc):=by rw [cell_of_row _ _ _ _ _ (0,0) hS9.bq];rfl
   have HS9:=hide hS9
   have HBD1:=hide hbd1
   have HLL:=hide hll
   clear hS9 hbd1 hll c4' f4' c3' b1' hpar hsb hB' hl4
   go_wp2_with fail
   go_loopw [8,9,35] (fun _ _ iv wr=>∃ (k:Nat),iv=.int .i64 k∧k≤rows.length∧TkS K s q c w (.slice (some ⟨bl',0,none⟩) ls.length ls.length) (.slice ma rows.length mc) (.slice pa P.length pc) lng la lm lc P ((rows.take k).map (tkR ls1 c lead n) ++ rows.drop k) lead ls1 L wr∧K≤wr.heap.size∧s+3≤wr.heap.size) (fun _ _ iv _=>rows.length - (intOf iv).toNat)
   case atStart=>exact ⟨0,rfl,Nat.zero_le _,by simpa using HS9.out,hK9,aaa HS9.out.b5⟩
   case round =>
    obtain ⟨k,rfl,hk,hSk,hKk,hsk⟩:=hrel
    by_cases hlt:k<rows.length
    ·have hlt' : (k:Int)<(rows.length:Int):=by omega
     obtain ⟨r,hr⟩:∃ r,rows[k]? = some r:=⟨_,List.getElem?_eq_getElem hlt⟩
     have hrk:((rows.take k).map (tkR ls1 c lead n) ++ rows.drop k)[k]? = some r:=by
      rw [List.getElem?_append_right (by simp;omega)]
      simp only [List.length_map,List.length_take,Nat.min_eq_left (Nat.le_of_lt hlt),Nat.sub_self,List.getElem?_drop,Nat.add_zero]
      exact hr
     obtain ⟨g,cg,u,rfl,hmm,hgh,hgu,hur⟩:=hSk.om.blk hrk
     obtain ⟨ub,rfl,_⟩:=id hur
     have hgs:g<s:=HRB.out g rfl
     have x0:wr.cell? ⟨g,k,none⟩ = some (.slice (some ⟨ub,0,none⟩) r.length r.length):=by rw [cell_of_row _ _ _ _ _ (0,0) hgh];exact hgu
     have hrn:r.length=n:=HSH.out.rl r (List.mem_of_getElem? hr)
     have hba:=hAl wr (.cells #[.slice (some ⟨ub,0,none⟩) r.length r.length] 39)
     have hnew:=heap_alloc_new wr (.cells #[.slice (some ⟨ub,0,none⟩) r.length r.length] 39)
     have HSK:=hide hSk
     have HR:=hide hr
     have HUR0:=hide hur
     have HGH:=hide hgh
     have HRN:=hide hrn
     clear hSk hr hrk hgu hur hgh hrn hmm
     go_upto_region 7 with fail
     generalize wr.alloc (.cells #[.slice (some ⟨ub,0,none⟩) r.length r.length] 39)=wb at *
     have hSb:=HSK.out.below hKk hba
     obtain ⟨hs3,d3,_⟩:=aaw hSb.b3
     obtain ⟨hg9,d9,_⟩:=aaw hnew
     have d0:wb.cell? ⟨q,0,none⟩ = some (.slice (some ⟨g,0,none⟩) rows.length mc):=by rw [cell_of_row _ _ _ _ _ (0,0) hSb.bq];rfl
     have hqb:=aaa hSb.bq
     have HUR:=hide (HUR0.out.is.below hba)
     have HTN:Hid (Turn wb 68 #[.pointer (some ⟨s+1,0,none⟩),.pointer (some ⟨s+1+1,0,none⟩),.pointer (some ⟨wr.heap.size,0,none⟩),.pointer (some ⟨s,0,none⟩)] r L L (fun k=>(ls1.getD c 0*r.getD k 0 - r.getD c 0*ls1.getD k 0) / lead)):=by
      refine (show ∀ (W:World) (c' : Nat) (z:Int) (xv:Value),_→_→_→_ from ?_)
      intro W k' z xv hb hz hx
      have hk' : k'<r.length:=(List.getElem?_eq_some_iff.1 hz).1
      have hrn:=HRN.out
      have hll:=HLL.out
      obtain ⟨y1,hy1⟩:∃ y,ls1[c]? = some y:=⟨_,List.getElem?_eq_getElem (by omega)⟩
      obtain ⟨y2,hy2⟩:∃ y,r[c]? = some y:=⟨_,List.getElem?_eq_getElem (by omega)⟩
      obtain ⟨y3,hy3⟩:∃ y,ls1[k']? = some y:=⟨_,List.getElem?_eq_getElem (by omega)⟩
      have hSW:=hSb.below (Nat.le_trans hKk hba.size) hb
      have hM:=HBD1.out r (List.mem_of_getElem? HR.out) _ (List.mem_map.2 ⟨k',List.mem_range.2 (by omega),rfl⟩)
      have e1:(ls1.getD c 0*r.getD k' 0 - r.getD c 0*ls1.getD k' 0) / lead=(y1*z - y2*y3) / lead:=by
       simp only [List.getD_eq_getElem?_getD,hy1,hy2,hy3,hz];rfl
      rw [e1] at hM
      have:=aob W W.heap.size rfl k' c (s+1) (s+2) wr.heap.size s q L L z lead xv _ _ ls1 r y1 y2 y3 _ _ _ _ _ _ hSW.b4 hSW.b5 ((hb.block _ (aaa hnew)).trans hnew) hSW.b3 hSW.bq hSW.lf.is (HUR.out.below hb) hSW.ld.is hx hy1 hy2 hy3 hL hM
      show Calls _ _ _ _ (fun e W'=>∃ v,e=.returned v∧FrW W.heap.size ((ls1.getD c 0*r.getD k' 0 - r.getD c 0*ls1.getD k' 0) / lead) L v W'∧Below W.heap.size W W')
      rw [e1]
      exact this
     have HSB:=hide hSb
     have hKb:K≤wb.heap.size:=Nat.le_trans hKk hba.size
     have HBA:=hide hba
     clear hSb hba hnew
     refine acw 8 [40,41,42,43,44,45,46,47] [Eqs (.pointer (some ⟨q,0,none⟩)),Eqs (.pointer (some ⟨q,0,none⟩)),Eqs (.pointer (some ⟨q,0,none⟩)),Eqs (.slice (some ⟨g,0,none⟩) rows.length mc),Eqs (.int .i64 (k:Int)),Eqs (.slice (some ⟨ub,0,none⟩) r.length r.length),Eqs (.func (.func 68) #[] #[.pointer (some ⟨s+1,0,none⟩),.pointer (some ⟨s+1+1,0,none⟩),.pointer (some ⟨wr.heap.size,0,none⟩),.pointer (some ⟨s,0,none⟩)]),(OrS K (tkR ls1 c lead n r) L)] rfl rfl (by decide) (by kernel_rfl) (by kernel_rfl) (by decide) (by kernel_rfl) ⟨Eqs.mono _,Eqs.mono _,Eqs.mono _,Eqs.mono _,Eqs.mono _,Eqs.mono _,Eqs.mono _,(OrS.mono _ _ _),trivial⟩ ?_ ?_
     ·exact ⟨⟨rfl,fun a_ w_ _ hB hR hD=>acu ((hR 3 rfl).trans (aac rfl)) ((hB.cell (p:=⟨s,0,none⟩) hs3).trans d3)⟩,
        ⟨rfl,fun a_ w_ _ hB hR hD=>aed (show a_.eval (.tmp 40)=.pointer (some ⟨q,0,none⟩) from hD 0 rfl)⟩,
        ⟨rfl,fun a_ w_ _ hB hR hD=>aex fab0 (show a_.eval (.tmp 41)=.pointer (some ⟨q,0,none⟩) from hD 1 rfl)⟩,
        ⟨rfl,fun a_ w_ _ hB hR hD=>aik (show a_.eval (.tmp 42)=.pointer (some ⟨q,0,none⟩) from hD 2 rfl) ((hB.cell (p:=⟨q,0,none⟩) hqb).trans d0)⟩,
        ⟨rfl,fun a_ w_ _ hB hR hD=>aao ((hR 8 rfl).trans (aac rfl))⟩,
        ⟨rfl,fun a_ w_ _ hB hR hD=>aco ((hR 9 rfl).trans (aac rfl)) ((hB.cell (p:=⟨wr.heap.size,0,none⟩) hg9).trans d9)⟩,
        ⟨rfl,fun a_ w_ _ hB hR hD=>aye (by simp [(show _ = _ from (hR 4 rfl).trans (aac rfl)),(show _ = _ from (hR 5 rfl).trans (aac rfl)),(show _ = _ from (hR 9 rfl).trans (aac rfl)),(show _ = _ from (hR 3 rfl).trans (aac rfl))])⟩,
        ⟨rfl,fun a_ w_ _ hB hR hD=>ath (show a_.eval (.tmp 45)=.slice (some ⟨ub,0,none⟩) r.length r.length from hD 5 rfl) (show a_.eval (.tmp 46)=.func (.func 68) #[] #[.pointer (some ⟨s+1,0,none⟩),.pointer (some ⟨s+1+1,0,none⟩),.pointer (some ⟨wr.heap.size,0,none⟩),.pointer (some ⟨s,0,none⟩)] from hD 6 rfl) (HUR.out.below hB) HRN.out (by omega) aq4 (HTN.out.below hB) (by have:=hB.size;omega)⟩,
        trivial⟩
     ·intro a' w' hn' hd' hB' hR' hP'
      have e40:a'.eval (.tmp 40)=.pointer (some ⟨q,0,none⟩):=hP' 0 (by decide)
      have e41:a'.eval (.tmp 41)=.pointer (some ⟨q,0,none⟩):=hP' 1 (by decide)
      have e42:a'.eval (.tmp 42)=.pointer (some ⟨q,0,none⟩):=hP' 2 (by decide)
      have e43:a'.eval (.tmp 43)=.slice (some ⟨g,0,none⟩) rows.length mc:=hP' 3 (by decide)
      have e44:a'.eval (.tmp 44)=.int .i64 (k:Int):=hP' 4 (by decide)
      have e45:a'.eval (.tmp 45)=.slice (some ⟨ub,0,none⟩) r.length r.length:=hP' 5 (by decide)
      have e46:a'.eval (.tmp 46)=.func (.func 68) #[] #[.pointer (some ⟨s+1,0,none⟩),.pointer (some ⟨s+1+1,0,none⟩),.pointer (some ⟨wr.heap.size,0,none⟩),.pointer (some ⟨s,0,none⟩)]:=hP' 6 (by decide)
      obtain ⟨u47,e47⟩:∃ u,a'.eval (.tmp 47)=u:=⟨_,rfl⟩
      have hT:(OrS K (tkR ls1 c lead n r) L) (a'.eval (.tmp 47)) w' := hP' 7 (by decide)
      rw [e47] at hT
      refine abn hn' hd' hR' (.s16 rfl <| .s16 rfl <| .s4 rfl <| .s4 rfl <| .new e40 <| .new e41 <| .new e42 <| .new e43 <| .new e44 <| .new e45 <| .new e46 <| .new e47 <| .s16 rfl <| .s4 rfl <| .s4 rfl <| .s4 rfl <| .same rfl <| .same rfl <| .same rfl <| .nil) ?_
      clear e40 e41 e42 e43 e44 e45 e46 e47
      obtain ⟨tb,rfl,_⟩:=id hT
      have hSw:=HSB.out.below hKb hB'
      have hgw:w'.heap[g]? = some (.cells cg 39 (0,0)):=(hB'.block _ (Nat.lt_of_lt_of_le (aaa HGH.out) HBA.out.size)).trans ((HBA.out.block _ (aaa HGH.out)).trans HGH.out)
      have x1:=(hB'.cell (p:=⟨g,k,none⟩) (Nat.lt_of_lt_of_le (aaa HGH.out) HBA.out.size)).trans ((HBA.out.cell (p:=⟨g,k,none⟩) (aaa HGH.out)).trans x0)
      have fz:w'.frozen? ⟨g,k,none⟩ = false:=frozen_of_row _ _ _ _ _ hgw
      have hlen:((rows.take k).map (tkR ls1 c lead n) ++ rows.drop k).length=rows.length:=by simp;omega
      have om:=hSw.om
      rw [←hlen] at om
      obtain ⟨p1,p2,p3,cw,p4⟩:=om.put (i:=k) (by omega) hT
      rw [hlen,atg _ HR.out] at p1
      have d1:39≠83:=by decide
      have d2:39≠27:=by decide
      have hKw' : K≤w'.heap.size:=Nat.le_trans hKb hB'.size
      have HNX:Hid (TkS K s q c w (.slice (some ⟨bl',0,none⟩) ls.length ls.length) (.slice (some ⟨g,0,none⟩) rows.length mc) (.slice pa P.length pc) lng la lm lc P ((rows.take (k+1)).map (tkR ls1 c lead n) ++ rows.drop (k+1)) lead ls1 L (w'.setCell ⟨g,k,none⟩ (.slice (some ⟨tb,0,none⟩) (tkR ls1 c lead n r).length (tkR ls1 c lead n r).length))):=(show TkS _ _ _ _ _ _ _ _ _ _ _ _ _ _ _ _ _ _ from ⟨p2.blk hSw.b3 (by omega),p2.blk hSw.b4 (by omega),p2.blk hSw.b5 (by omega),p2.blk hSw.bq (abc hgw hSw.bq (by decide)),p1,hSw.op.tch p2 (hSw.op.ne hgw),hSw.ld.tch p2 hgw d1,hSw.lf.tch p2 hgw d1 d2,hSw.bk.trans (p2.below hKw' p3)⟩)
      have HSZ:Hid (K≤(w'.setCell ⟨g,k,none⟩ (.slice (some ⟨tb,0,none⟩) (tkR ls1 c lead n r).length (tkR ls1 c lead n r).length)).heap.size∧s+3≤(w'.setCell ⟨g,k,none⟩ (.slice (some ⟨tb,0,none⟩) (tkR ls1 c lead n r).length (tkR ls1 c lead n r).length)).heap.size):=(show _∧_ from ⟨Nat.le_trans hKw' p2.size,by have:=p2.size;have:=hB'.size;have:=HBA.out.size;omega⟩)
      clear hn' hd' hR' hP' hB' hT hSw hgw om p1 p2 p3 p4
      go_wp2
      go_roundw
      case rel=>exact ⟨k+1,by go_num,by omega,HNX.out,HSZ.out⟩
      case measure=>simp [intOf];omega
    ·have hlt' : decide ((k:Int)<(rows.length:Int))=false:=by simp;omega
     have hkr:k=rows.length:=by omega
     rw [hkr,List.take_length,List.drop_length,List.append_nil] at hSk
     obtain ⟨rows1,hrows1⟩:∃ l,rows.map (tkR ls1 c lead n)=l:=⟨_,rfl⟩
     have hr1l:rows1.length=rows.length:=by rw [←hrows1];simp
     rw [hrows1] at hSk
     obtain ⟨vsR,hown,hrowR⟩:=id hSk.om
     rw [hr1l] at hown
     obtain ⟨gI,hgI,hn3,hn4,hnq,hgS,hgE⟩:∃ gI,gI<wr.heap.size∧s≠gI∧s+1≠gI∧q≠gI∧(K≤gI∧∃ cg S,wr.heap[gI]? = some (.cells cg S (0,0))∧S≠83∧S≠27∧(Value.slice pa P.length pc).ownBlock≠some gI)∧∀ k,Value.ownBlock (.slice ma rows.length mc)=some k→k=gI:=by
      cases hob:Value.ownBlock (.slice ma rows.length mc) with
      | none=>exact ⟨s+2,by omega,by omega,by omega,by omega,⟨by omega,_,_,hSk.b5,by decide,by decide,fun e=>by have:=HPB.out _ e;omega⟩,fun k hk=>by cases hk⟩
      | some g =>
       have h1:=HRB.out g hob
       obtain ⟨h2,h2K⟩:=agi hown g hob
       refine ⟨g,h2,by omega,by omega,?_,⟨h2K,?_⟩,fun k hk=>(Option.some.inj hk).symm⟩
       rotate_left
       ·obtain ⟨_,⟨hv,_⟩ | ⟨g',cap',cur',hv,_,hh,_⟩⟩:=hown
        ·rw [hv] at hob;simp [Value.ownBlock] at hob
        ·rw [hv] at hob
         simp only [Value.ownBlock,Option.some.injEq] at hob
         subst hob
         exact ⟨_,_,hh,by decide,by decide,hSk.op.ne hh⟩
       obtain ⟨_,⟨hv,_⟩ | ⟨g',cap',cur',hv,_,hh,_⟩⟩:=hown
       ·rw [hv] at hob;simp [Value.ownBlock] at hob
       ·rw [hv] at hob
        simp only [Value.ownBlock,Option.some.injEq] at hob
        subst hob
        exact abc hh hSk.bq (by decide)
     obtain ⟨hs3,d3,_⟩:=aaw hSk.b3
     obtain ⟨hs4,d4,_⟩:=aaw hSk.b4
     have d0:wr.cell? ⟨q,0,none⟩ = some (.slice ma rows.length mc):=by rw [cell_of_row _ _ _ _ _ (0,0) hSk.bq];rfl
     have hqb:=aaa hSk.bq
     have hile' : i0≤rows.length:=by have:=HSH.out.pl;omega
     obtain ⟨Kx,hKx1,hKx2,hownx,hKx3⟩:∃ Kx,K≤Kx∧Kx≤wr.heap.size∧wr.ownsRow Kx 39 1 (.slice ma rows.length mc) rows.length vsR∧((Value.slice ma rows.length mc).ownBlock=none→s+3≤Kx):=by
      obtain ⟨h1,h2 | ⟨g',cap',cur',hv,h3⟩⟩:=id hown
      ·exact ⟨s+3,by omega,hsk,⟨h1,Or.inl h2⟩,fun _=>Nat.le_refl _⟩
      ·refine ⟨K,Nat.le_refl _,hKk,hown,fun e=>?_⟩
       rw [hv] at e;simp [Value.ownBlock] at e
     have HOWNR:=hide hownx
     have HKX:=hide hKx3
     clear hownx hKx3
     have HONER:Hid (∀ u ∈ vsR,u.oneCell' = true):=(fun u hu=>by
      obtain ⟨i,hi⟩:=List.mem_iff_getElem?.1 hu
      obtain ⟨z,hz⟩:∃ z,rows1[i]? = some z:=⟨_,List.getElem?_eq_getElem (by have:=(List.getElem?_eq_some_iff.1 hi).1;have:=hown.1;omega)⟩
      obtain ⟨bv,rfl,_⟩:=hrowR i u z hi hz
      rfl)
     have HNNR:Hid (rows.length≤1000000):=(show rows.length≤1000000 by have:=HSH.out.pl;have:=HPM.out;omega)
     have hgE2:=hgI
     have HJR:Hid (∀ w_,Tch gI wr w_→w_.heap[gI]? = wr.heap[gI]?→w_.heap[s+2]? = some (.cells #[.int .i64 (c:Int)] 3 (0,0))):=(fun w_ hB hI=>by
      by_cases h:s+2=gI
      ·rw [h,hI,←h];exact hSk.b5
      ·exact hB.blk hSk.b5 h)
     have HJNR:Hid ((Value.slice ma rows.length mc).ownBlock≠some (s+2)):=(fun e=>by have:=HRB.out _ e;omega)
     have HGS:=hide hgS
     clear hgS
     have HSK:=hide hSk
     have HROW:=hide hrowR
     clear hSk hown hrowR
     go_upto_region 9 with fail
     refine af2 gI 8 9 [50,51,52,53,54,55,56,57,58] [Eqs (.pointer (some ⟨q,0,none⟩)),Eqs (.pointer (some ⟨q,0,none⟩)),Eqs (.pointer (some ⟨q,0,none⟩)),Eqs (.pointer (some ⟨q,0,none⟩)),Eqs (.slice ma rows.length mc),Eqs (.int .i64 (i0:Int)),Eqs (.slice (some ⟨bl',0,none⟩) ls.length ls.length),(NewR wr.heap.size (.slice (some ⟨bl',0,none⟩) ls.length ls.length)),(OwnR Kx (rows.length+1) (vsR.take i0 ++ (.slice (some ⟨bl',0,none⟩) ls.length ls.length) :: vsR.drop i0) (s+2) (.cells #[.int .i64 (c:Int)] 3 (0,0)))] hgI rfl rfl (by decide) (by kernel_rfl) (by kernel_rfl) (by decide) (by kernel_rfl) ⟨Eqs.mono _,Eqs.mono _,Eqs.mono _,Eqs.mono _,Eqs.mono _,Eqs.mono _,Eqs.mono _,(NewR.mono _ _),(OwnR.mono _ _ _ _ _),trivial⟩ ?_ ?_ ?_
     ·intro j_ hj_ v_ w1_ w2_ ht_ hp_
      match j_,hj_ with
      | 0,_=>exact hp_
      | 1,_=>exact hp_
      | 2,_=>exact hp_
      | 3,_=>exact hp_
      | 4,_=>exact hp_
      | 5,_=>exact hp_
      | 6,_=>exact hp_
      | 7,_=>exact NewR.tch hgI ht_ hp_
      | 8,hj_=>exact absurd rfl hj_
      | j_+9,_=>exact hp_
     ·exact ⟨⟨rfl,rfl,fun a_ w_ _ hB hR hD=>⟨fun _=>acu ((hR 3 rfl).trans (aac rfl)) ((hB.cell (p:=⟨s,0,none⟩) hs3 hn3).trans d3),fun h=>absurd h (by decide)⟩⟩,
        ⟨rfl,rfl,fun a_ w_ _ hB hR hD=>⟨fun _=>acu ((hR 3 rfl).trans (aac rfl)) ((hB.cell (p:=⟨s,0,none⟩) hs3 hn3).trans d3),fun h=>absurd h (by decide)⟩⟩,
        ⟨rfl,rfl,fun a_ w_ _ hB hR hD=>⟨fun _=>aed (show a_.eval (.tmp 51)=.pointer (some ⟨q,0,none⟩) from hD 1 rfl),fun h=>absurd h (by decide)⟩⟩,
        ⟨rfl,rfl,fun a_ w_ _ hB hR hD=>⟨fun _=>aex fab0 (show a_.eval (.tmp 52)=.pointer (some ⟨q,0,none⟩) from hD 2 rfl),fun h=>absurd h (by decide)⟩⟩,
        ⟨rfl,rfl,fun a_ w_ _ hB hR hD=>⟨fun _=>aik (show a_.eval (.tmp 53)=.pointer (some ⟨q,0,none⟩) from hD 3 rfl) ((hB.cell (p:=⟨q,0,none⟩) hqb hnq).trans d0),fun h=>absurd h (by decide)⟩⟩,
        ⟨rfl,rfl,fun a_ w_ _ hB hR hD=>⟨fun _=>aao ((hR 6 rfl).trans (aac rfl)),fun h=>absurd h (by decide)⟩⟩,
        ⟨rfl,rfl,fun a_ w_ _ hB hR hD=>⟨fun _=>aco ((hR 4 rfl).trans (aac rfl)) ((hB.cell (p:=⟨s+1,0,none⟩) hs4 hn4).trans d4),fun h=>absurd h (by decide)⟩⟩,
        ⟨rfl,rfl,fun a_ w_ _ hB hR hD=>⟨fun _=>awd (show a_.eval (.tmp 56)=.slice (some ⟨bl',0,none⟩) ls.length ls.length from hD 6 rfl) (Tch.size hB),fun h=>absurd h (by decide)⟩⟩,
        ⟨rfl,rfl,fun a_ w_ _ hB hR hD=>⟨fun h=>absurd rfl h,fun _ hI=>awc (show a_.eval (.tmp 54)=.slice ma rows.length mc from hD 4 rfl) (show a_.eval (.tmp 55)=.int .i64 (i0:Int) from hD 5 rfl) (show (NewR wr.heap.size (.slice (some ⟨bl',0,none⟩) ls.length ls.length)) (a_.eval (.tmp 57)) w_ from hD 7 rfl) (g:=gI) hgE (adw HOWNR.out (fun k_ c_ hk_ _=>by rw [hgE k_ hk_];exact hI)) HONER.out hile' rfl HNNR.out (by have:=hB.size;omega) hgE2 (HJR.out _ hB hI) HJNR.out⟩⟩,
        trivial⟩
     ·intro a' w' hn' hd' hB' hR' hP'
      have e50:a'.eval (.tmp 50)=.pointer (some ⟨q,0,none⟩):=hP' 0 (by decide)
      have e51:a'.eval (.tmp 51)=.pointer (some ⟨q,0,none⟩):=hP' 1 (by decide)
      have e52:a'.eval (.tmp 52)=.pointer (some ⟨q,0,none⟩):=hP' 2 (by decide)
      have e53:a'.eval (.tmp 53)=.pointer (some ⟨q,0,none⟩):=hP' 3 (by decide)
      have e54:a'.eval (.tmp 54)=.slice ma rows.length mc:=hP' 4 (by decide)
      have e55:a'.eval (.tmp 55)=.int .i64 (i0:Int):=hP' 5 (by decide)
      have e56:a'.eval (.tmp 56)=.slice (some ⟨bl',0,none⟩) ls.length ls.length:=hP' 6 (by decide)
      obtain ⟨u57,e57⟩:∃ u,a'.eval (.tmp 57)=u:=⟨_,rfl⟩
      obtain ⟨u58,e58⟩:∃ u,a'.eval (.tmp 58)=u:=⟨_,rfl⟩
      have hT:(OwnR Kx (rows.length+1) (vsR.take i0 ++ (.slice (some ⟨bl',0,none⟩) ls.length ls.length) :: vsR.drop i0) (s+2) (.cells #[.int .i64 (c:Int)] 3 (0,0))) (a'.eval (.tmp 58)) w' := hP' 8 (by decide)
      rw [e58] at hT
      refine abn hn' hd' hR' (.s16 rfl <| .s16 rfl <| .s16 rfl <| .same rfl <| .same rfl <| .new e50 <| .new e51 <| .new e52 <| .new e53 <| .new e54 <| .new e55 <| .new e56 <| .new e57 <| .new e58 <| .s16 rfl <| .s4 rfl <| .nil) ?_
      clear e50 e51 e52 e53 e54 e55 e56 e57 e58
      obtain ⟨hT1,hT5⟩:=id hT
      obtain ⟨_,⟨_,h0⟩ | ⟨gr,rcap,rcur,rfl,hgr1,hgr2,_⟩⟩:=id hT1
      ·omega
      obtain ⟨hgK,cg,S,hgh,hS1,hS2,hS3⟩:=HGS.out
      have hSr:=HSK.out
      have e3:=hB'.blk hSr.b3 hn3
      have e4:=hB'.blk hSr.b4 hn4
      have eq0:=hB'.blk hSr.bq hnq
      have hw10:Tch q w' (w'.setCell ⟨q,0,none⟩ (.slice (some ⟨gr,0,none⟩) (rows.length+1) rcap)):=⟨rfl,rfl,rfl,by simp [World.setCell],fun k _ hn=>heap_setCell_other w' ⟨q,0,none⟩ k _ hn⟩
      have hq10:=heap_setCell_same w' q 0 _ _ (.slice (some ⟨gr,0,none⟩) (rows.length+1) rcap) eq0
      have x1:w'.cell? ⟨q,0,none⟩ = some (.slice ma rows.length mc):=by rw [cell_of_row _ _ _ _ _ (0,0) eq0];rfl
      have fz:w'.frozen? ⟨q,0,none⟩ = false:=frozen_of_row _ _ _ _ _ eq0
      have d1:45≠83:=by decide
      have d2:45≠27:=by decide
      have hKq' : K≤q:=HKQ.out
      have hKw' : K≤w'.heap.size:=Nat.le_trans hKk hB'.size
      have om:OwM K w' (.slice (some ⟨gr,0,none⟩) (rows.length+1) rcap) (rows1.take i0 ++ ls1 :: rows1.drop i0) L:=⟨_,by
       have:(rows1.take i0 ++ ls1 :: rows1.drop i0).length=rows.length+1:=by simp;omega
       rw [this];exact ak7 hT1 hKx1,awf (by have:=HOWNR.out.1;omega) (by omega) (fun i u z hu hz=>(HROW.out i u z hu hz).tch hB' hgh hS1 hS2) (hSr.lf.tch hB' hgh hS1 hS2)⟩
      have HGQ:Hid ((Value.slice (some ⟨gr,0,none⟩) (rows.length+1) rcap).ownBlock≠some q):=(fun e=>by simp only [Value.ownBlock,Option.some.injEq] at e;exact abc eq0 hgr2 (by decide) e)
      have HGR:Hid ((Value.slice ma rows.length mc).ownBlock=none→gr≠s+1):=(fun e=>by have:=HKX.out e;omega)
      have HNX:Hid (TkS K s q c w (.slice (some ⟨bl',0,none⟩) ls.length ls.length) (.slice (some ⟨gr,0,none⟩) (rows.length+1) rcap) (.slice pa P.length pc) lng la lm lc P (rows1.take i0 ++ ls1 :: rows1.drop i0) lead ls1 L (w'.setCell ⟨q,0,none⟩ (.slice (some ⟨gr,0,none⟩) (rows.length+1) rcap))):=(show TkS _ _ _ _ _ _ _ _ _ _ _ _ _ _ _ _ _ _ from ⟨hw10.blk e3 (by have:=HQS.out;omega),hw10.blk e4 (by have:=HQS.out;omega),hw10.blk hT5 (by have:=HQS.out;omega),by simpa using hq10,om.tch hw10 eq0 d1 d2 (fun e=>by simp only [Value.ownBlock,Option.some.injEq] at e;exact abc eq0 hgr2 (by decide) e),(hSr.op.tch hB' hS3).tch hw10 (fun e=>HPQ.out e),(hSr.ld.tch hB' hgh hS1).tch hw10 eq0 d1,(hSr.lf.tch hB' hgh hS1 hS2).tch hw10 eq0 d1 d2,(hSr.bk.trans (hB'.below hKk hgK)).trans (hw10.below hKw' hKq')⟩)
      have HSZ:Hid (K≤(w'.setCell ⟨q,0,none⟩ (.slice (some ⟨gr,0,none⟩) (rows.length+1) rcap)).heap.size∧s+3≤(w'.setCell ⟨q,0,none⟩ (.slice (some ⟨gr,0,none⟩) (rows.length+1) rcap)).heap.size):=(show _∧_ from ⟨Nat.le_trans hKw' hw10.size,by have:=hw10.size;have:=hB'.size;omega⟩)
      clear hn' hd' hR' hP' hB' hT hT1 hT5 hgh hSr om hw10 hq10 e3 e4 eq0 hgr2 d0 d3 d4
      go_upto_region 10 with fail
      generalize w'.setCell ⟨q,0,none⟩ (.slice (some ⟨gr,0,none⟩) (rows.length+1) rcap)=wx at *
      clear HSK HROW HOWNR HONER HNNR HJR HJNR HGS HKX hKx1 hKx2 hgr1 hgI hgE hgE2 hn3 hn4 hnq x1 fz hs3 hs4 hqb hKk hsk
      obtain ⟨hSk,hKk,hsk⟩:_∧_:=⟨HNX.out,HSZ.out⟩
      obtain ⟨gI,hgI,hn3,hn5,hnq,hgS,hgE⟩:∃ gI,gI<wx.heap.size∧s≠gI∧s+1+1≠gI∧q≠gI∧(K≤gI∧∃ cg S,wx.heap[gI]? = some (.cells cg S (0,0))∧S≠83∧S≠27∧gr≠gI)∧∀ k,Value.ownBlock (.slice pa P.length pc)=some k→k=gI:=by
       have hgr3:∀ gg cg,wx.heap[gg]? = some (.cells cg 3 (0,0))→gr≠gg:=fun gg cg hh=>by
        obtain ⟨vs,⟨_,⟨hv,_⟩ | ⟨g',cap',cur',hv,_,hh',_⟩⟩,_⟩:=hSk.om
        ·cases hv
        ·simp only [Value.slice.injEq,Option.some.injEq,Addr.mk.injEq] at hv
         obtain ⟨⟨rfl,_⟩,_⟩:=hv
         exact abc hh hh' (by decide)
       cases hob:Value.ownBlock (.slice pa P.length pc) with
       | none =>
        refine ⟨s+1,by omega,by omega,by omega,by have:=HQS.out;omega,⟨by omega,_,_,hSk.b4,by decide,by decide,?_⟩,fun k hk=>by cases hk⟩
        exact HGR.out (HPR.out hob)
       | some g =>
        have h1:=HPB.out g hob
        obtain ⟨h2,h2K⟩:=agi hSk.op g hob
        obtain ⟨_,⟨hv,_⟩ | ⟨g',cap',cur',hv,_,hh,_⟩⟩:=hSk.op
        ·rw [hv] at hob;simp [Value.ownBlock] at hob
        ·rw [hv] at hob
         simp only [Value.ownBlock,Option.some.injEq] at hob
         subst hob
         exact ⟨g',h2,by omega,by omega,abc hh hSk.bq (by decide),⟨h2K,_,_,hh,by decide,by decide,hgr3 _ _ hh⟩,fun k hk=>(Option.some.inj hk).symm⟩
      obtain ⟨hs3,d3,_⟩:=aaw hSk.b3
      obtain ⟨hs5,d5,_⟩:=aaw hSk.b5
      have d1:wx.cell? ⟨q,1,none⟩ = some (.slice pa P.length pc):=by rw [cell_of_row _ _ _ _ _ (0,0) hSk.bq];rfl
      have hqb:=aaa hSk.bq
      have hile' : i0≤P.length:=HI0.out.le
      have HOWNI:Hid (wx.ownsRow K 3 1 (.slice pa P.length pc) P.length (P.map (fun p:Nat=>Value.int .i64 (p:Int)))):=hSk.op
      have HONEI:Hid (∀ u ∈ P.map (fun p:Nat=>Value.int .i64 (p:Int)),u.oneCell' = true):=(fun u hu=>by
       obtain ⟨p,_,rfl⟩:=List.mem_map.1 hu
       rfl)
      have HNNI:=HPM
      have hgE2:=hgI
      have HJI:Hid (∀ w_,Tch gI wx w_→w_.heap[gI]? = wx.heap[gI]?→w_.heap[s+1]? = some (.cells #[.slice (some ⟨bl',0,none⟩) ls.length ls.length] 39 (0,0))):=(fun w_ hB hI=>by
       by_cases h:s+1=gI
       ·rw [h,hI,←h];exact hSk.b4
       ·exact hB.blk hSk.b4 h)
      have HJNI:Hid ((Value.slice pa P.length pc).ownBlock≠some (s+1)):=(fun e=>by have:=HPB.out _ e;omega)
      have HGS:=hide hgS
      have HSK:=hide hSk
      clear hgS hSk HNX HSZ
      refine af2 gI 8 9 [61,62,63,64,65,66,67,68,69] [Eqs (.pointer (some ⟨q,0,none⟩)),Eqs (.pointer (some ⟨q,0,none⟩)),Eqs (.pointer (some ⟨q,0,none⟩)),Eqs (.pointer (some ⟨q,1,none⟩)),Eqs (.slice pa P.length pc),Eqs (.int .i64 (i0:Int)),Eqs (.int .i64 (c:Int)),(NewI wx.heap.size (.int .i64 (c:Int))),(OwnI K (P.length+1) ((P.map (fun p:Nat=>Value.int .i64 (p:Int))).take i0 ++ (.int .i64 (c:Int)) :: (P.map (fun p:Nat=>Value.int .i64 (p:Int))).drop i0) (s+1) (.cells #[.slice (some ⟨bl',0,none⟩) ls.length ls.length] 39 (0,0)))] hgI rfl rfl (by decide) (by kernel_rfl) (by kernel_rfl) (by decide) (by kernel_rfl) ⟨Eqs.mono _,Eqs.mono _,Eqs.mono _,Eqs.mono _,Eqs.mono _,Eqs.mono _,Eqs.mono _,(NewI.mono _ _),(OwnI.mono _ _ _ _ _),trivial⟩ ?_ ?_ ?_
      ·intro j_ hj_ v_ w1_ w2_ ht_ hp_
       match j_,hj_ with
       | 0,_=>exact hp_
       | 1,_=>exact hp_
       | 2,_=>exact hp_
       | 3,_=>exact hp_
       | 4,_=>exact hp_
       | 5,_=>exact hp_
       | 6,_=>exact hp_
       | 7,_=>exact NewI.tch hgI ht_ hp_
       | 8,hj_=>exact absurd rfl hj_
       | j_+9,_=>exact hp_
      ·exact ⟨⟨rfl,rfl,fun a_ w_ _ hB hR hD=>⟨fun _=>acu ((hR 3 rfl).trans (aac rfl)) ((hB.cell (p:=⟨s,0,none⟩) hs3 hn3).trans d3),fun h=>absurd h (by decide)⟩⟩,
         ⟨rfl,rfl,fun a_ w_ _ hB hR hD=>⟨fun _=>acu ((hR 3 rfl).trans (aac rfl)) ((hB.cell (p:=⟨s,0,none⟩) hs3 hn3).trans d3),fun h=>absurd h (by decide)⟩⟩,
         ⟨rfl,rfl,fun a_ w_ _ hB hR hD=>⟨fun _=>aed (show a_.eval (.tmp 62)=.pointer (some ⟨q,0,none⟩) from hD 1 rfl),fun h=>absurd h (by decide)⟩⟩,
         ⟨rfl,rfl,fun a_ w_ _ hB hR hD=>⟨fun _=>aex fab1 (show a_.eval (.tmp 63)=.pointer (some ⟨q,0,none⟩) from hD 2 rfl),fun h=>absurd h (by decide)⟩⟩,
         ⟨rfl,rfl,fun a_ w_ _ hB hR hD=>⟨fun _=>avl (show a_.eval (.tmp 64)=.pointer (some ⟨q,1,none⟩) from hD 3 rfl) ((hB.cell (p:=⟨q,1,none⟩) hqb hnq).trans d1),fun h=>absurd h (by decide)⟩⟩,
         ⟨rfl,rfl,fun a_ w_ _ hB hR hD=>⟨fun _=>aao ((hR 6 rfl).trans (aac rfl)),fun h=>absurd h (by decide)⟩⟩,
         ⟨rfl,rfl,fun a_ w_ _ hB hR hD=>⟨fun _=>age ((hR 5 rfl).trans (aac rfl)) ((hB.cell (p:=⟨s+1+1,0,none⟩) hs5 hn5).trans d5),fun h=>absurd h (by decide)⟩⟩,
         ⟨rfl,rfl,fun a_ w_ _ hB hR hD=>⟨fun _=>awe (show a_.eval (.tmp 67)=.int .i64 (c:Int) from hD 6 rfl) (Tch.size hB),fun h=>absurd h (by decide)⟩⟩,
         ⟨rfl,rfl,fun a_ w_ _ hB hR hD=>⟨fun h=>absurd rfl h,fun _ hI=>awb (show a_.eval (.tmp 65)=.slice pa P.length pc from hD 4 rfl) (show a_.eval (.tmp 66)=.int .i64 (i0:Int) from hD 5 rfl) (show (NewI wx.heap.size (.int .i64 (c:Int))) (a_.eval (.tmp 68)) w_ from hD 7 rfl) (g:=gI) hgE (adw HOWNI.out (fun k_ c_ hk_ _=>by rw [hgE k_ hk_];exact hI)) HONEI.out hile' rfl HNNI.out (by have:=hB.size;omega) hgE2 (HJI.out _ hB hI) HJNI.out⟩⟩,
         trivial⟩
      ·intro a' w' hn' hd' hB' hR' hP'
       have e61:a'.eval (.tmp 61)=.pointer (some ⟨q,0,none⟩):=hP' 0 (by decide)
       have e62:a'.eval (.tmp 62)=.pointer (some ⟨q,0,none⟩):=hP' 1 (by decide)
       have e63:a'.eval (.tmp 63)=.pointer (some ⟨q,0,none⟩):=hP' 2 (by decide)
       have e64:a'.eval (.tmp 64)=.pointer (some ⟨q,1,none⟩):=hP' 3 (by decide)
       have e65:a'.eval (.tmp 65)=.slice pa P.length pc:=hP' 4 (by decide)
       have e66:a'.eval (.tmp 66)=.int .i64 (i0:Int):=hP' 5 (by decide)
       have e67:a'.eval (.tmp 67)=.int .i64 (c:Int):=hP' 6 (by decide)
       obtain ⟨u68,e68⟩:∃ u,a'.eval (.tmp 68)=u:=⟨_,rfl⟩
       obtain ⟨u69,e69⟩:∃ u,a'.eval (.tmp 69)=u:=⟨_,rfl⟩
       have hT:(OwnI K (P.length+1) ((P.map (fun p:Nat=>Value.int .i64 (p:Int))).take i0 ++ (.int .i64 (c:Int)) :: (P.map (fun p:Nat=>Value.int .i64 (p:Int))).drop i0) (s+1) (.cells #[.slice (some ⟨bl',0,none⟩) ls.length ls.length] 39 (0,0))) (a'.eval (.tmp 69)) w' := hP' 8 (by decide)
       rw [e69] at hT
       refine abn hn' hd' hR' (.s16 rfl <| .s16 rfl <| .s16 rfl <| .s4 rfl <| .s4 rfl <| .s4 rfl <| .same rfl <| .new e61 <| .new e62 <| .new e63 <| .new e64 <| .new e65 <| .new e66 <| .new e67 <| .new e68 <| .new e69 <| .s4 rfl <| .s4 rfl <| .same rfl <| .nil) ?_
       clear e61 e62 e63 e64 e65 e66 e67 e68 e69
       obtain ⟨hT1,hT4⟩:=id hT
       obtain ⟨_,⟨_,h0⟩ | ⟨gp,pcap,pcur,rfl,hgp1,hgp2,_⟩⟩:=id hT1
       ·omega
       obtain ⟨hgK,cg,S,hgh,hS1,hS2,hS3⟩:=HGS.out
       have hSr:=HSK.out
       have e3:=hB'.blk hSr.b3 hn3
       have e5:=hB'.blk hSr.b5 hn5
       have eq0:=hB'.blk hSr.bq hnq
       have hw10:Tch q w' (w'.setCell ⟨q,1,none⟩ (.slice (some ⟨gp,0,none⟩) (P.length+1) pcap)):=⟨rfl,rfl,rfl,by simp [World.setCell],fun k _ hn=>heap_setCell_other w' ⟨q,1,none⟩ k _ hn⟩
       have hq10:=heap_setCell_same w' q 1 _ _ (.slice (some ⟨gp,0,none⟩) (P.length+1) pcap) eq0
       have x1:w'.cell? ⟨q,1,none⟩ = some (.slice pa P.length pc):=by rw [cell_of_row _ _ _ _ _ (0,0) eq0];rfl
       have fz:w'.frozen? ⟨q,1,none⟩ = false:=frozen_of_row _ _ _ _ _ eq0
       have d1' : 45≠83:=by decide
       have d2' : 45≠27:=by decide
       have hKq' : K≤q:=HKQ.out
       have hKw' : K≤w'.heap.size:=Nat.le_trans hKk hB'.size
       have op:OwP K w' (.slice (some ⟨gp,0,none⟩) (P.length+1) pcap) (P.take i0 ++ c :: P.drop i0):=by
        have:(P.take i0 ++ c :: P.drop i0).length=P.length+1:=by simp;omega
        show w'.ownsRow K 3 1 _ _ _
        rw [this,List.map_append,List.map_cons,List.map_take,List.map_drop]
        exact hT1
       have HNX:Hid (TkS K s q c w (.slice (some ⟨bl',0,none⟩) ls.length ls.length) (.slice (some ⟨gr,0,none⟩) (rows.length+1) rcap) (.slice (some ⟨gp,0,none⟩) (P.length+1) pcap) lng la lm lc (P.take i0 ++ c :: P.drop i0) (rows1.take i0 ++ ls1 :: rows1.drop i0) lead ls1 L (w'.setCell ⟨q,1,none⟩ (.slice (some ⟨gp,0,none⟩) (P.length+1) pcap))):=(show TkS _ _ _ _ _ _ _ _ _ _ _ _ _ _ _ _ _ _ from ⟨hw10.blk e3 (by have:=HQS.out;omega),hw10.blk hT4 (by have:=HQS.out;omega),hw10.blk e5 (by have:=HQS.out;omega),by simpa using hq10,(hSr.om.tch hB' hgh hS1 hS2 (fun e=>hS3 (Option.some.inj e))).tch hw10 eq0 d1' d2' HGQ.out,op.tch hw10 (fun e=>by simp only [Value.ownBlock,Option.some.injEq] at e;exact abc eq0 hgp2 (by decide) e),(hSr.ld.tch hB' hgh hS1).tch hw10 eq0 d1',(hSr.lf.tch hB' hgh hS1 hS2).tch hw10 eq0 d1' d2',(hSr.bk.trans (hB'.below hKk hgK)).trans (hw10.below hKw' hKq')⟩)
       have HSZ:Hid (K≤(w'.setCell ⟨q,1,none⟩ (.slice (some ⟨gp,0,none⟩) (P.length+1) pcap)).heap.size):=(show _ from Nat.le_trans hKw' hw10.size)
       clear hn' hd' hR' hP' hB' hT hT1 hT4 hgh hSr op hw10 hq10 e3 e5 eq0 hgp2 d1 d3 d5
       go_upto_region 11 with fail
       generalize w'.setCell ⟨q,1,none⟩ (.slice (some ⟨gp,0,none⟩) (P.length+1) pcap)=wy at *
       clear HSK HOWNI HONEI HNNI HJI HJNI HGS hgI hgE hgE2 hn3 hn5 hnq x1 fz hs3 hs5 hqb hKk hsk hgp1
       obtain ⟨hSk,hKk⟩:_∧_:=⟨HNX.out,HSZ.out⟩
       obtain ⟨hs3,d3,_⟩:=aaw hSk.b3
       obtain ⟨hs4,d4,_⟩:=aaw hSk.b4
       obtain ⟨hs5,d5,_⟩:=aaw hSk.b5
       obtain ⟨y,hy⟩:∃ y,ls1[c]? = some y:=⟨_,List.getElem?_eq_getElem (by have:=HLL.out;omega)⟩
       obtain ⟨yg,ya,ym,yc,hbl,hcn,y0,y1,hyF⟩:=hSk.lf.frw hy
       have HSK:=hide hSk
       have HYF:=hide hyF
       have HY:=hide hy
       clear hSk HNX HSZ hyF hy
       refine ab6 5 [72,73,74,75,76] [Eqs (.pointer (some ⟨q,0,none⟩)),Eqs (.slice (some ⟨bl',0,none⟩) ls.length ls.length),Eqs (.int .i64 (c:Int)),Eqs (.pointer (some ⟨bl',0+c*2,none⟩)),Eqs (.agg #[.bool yg,.slice ya ym yc])] rfl rfl (by decide) (by kernel_rfl) (by kernel_rfl) (by decide) (by kernel_rfl) ⟨Eqs.mono _,Eqs.mono _,Eqs.mono _,Eqs.mono _,Eqs.mono _,trivial⟩ ?_ ?_
       ·exact ⟨⟨rfl,fun a_ w_ _ hB hR hD=>acu ((hR 3 rfl).trans (aac rfl)) ((hB.cell (p:=⟨s,0,none⟩) hs3).trans d3)⟩,
          ⟨rfl,fun a_ w_ _ hB hR hD=>aco ((hR 4 rfl).trans (aac rfl)) ((hB.cell (p:=⟨s+1,0,none⟩) hs4).trans d4)⟩,
          ⟨rfl,fun a_ w_ _ hB hR hD=>age ((hR 5 rfl).trans (aac rfl)) ((hB.cell (p:=⟨s+1+1,0,none⟩) hs5).trans d5)⟩,
          ⟨rfl,fun a_ w_ _ hB hR hD=>ac3 (show a_.eval (.tmp 73)=.slice (some ⟨bl',0,none⟩) ls.length ls.length from hD 1 rfl) rfl (show a_.eval (.tmp 74)=.int .i64 (c:Int) from hD 2 rfl) hcn⟩,
          ⟨rfl,fun a_ w_ _ hB hR hD=>adr (show a_.eval (.tmp 75)=.pointer (some ⟨bl',0+c*2,none⟩) from hD 3 rfl) ((hB.cell (p:=⟨bl',0+c*2,none⟩) hbl).trans y0) ((hB.cell (p:=⟨bl',0+c*2+1,none⟩) hbl).trans y1) rfl⟩,
          trivial⟩
       ·intro a' w' hn' hd' hB' hR' hP'
        have e72:a'.eval (.tmp 72)=.pointer (some ⟨q,0,none⟩):=hP' 0 (by decide)
        have e73:a'.eval (.tmp 73)=.slice (some ⟨bl',0,none⟩) ls.length ls.length:=hP' 1 (by decide)
        have e74:a'.eval (.tmp 74)=.int .i64 (c:Int):=hP' 2 (by decide)
        have e75:a'.eval (.tmp 75)=.pointer (some ⟨bl',0+c*2,none⟩):=hP' 3 (by decide)
        have e76:a'.eval (.tmp 76)=.agg #[.bool yg,.slice ya ym yc]:=hP' 4 (by decide)
        refine abn hn' hd' hR' (.s16 rfl <| .s16 rfl <| .s16 rfl <| .s16 rfl <| .s4 rfl <| .s4 rfl <| .new e72 <| .new e73 <| .new e74 <| .new e75 <| .new e76 <| .same rfl <| .same rfl <| .nil) ?_
        clear e72 e73 e74 e75 e76
        have hSw:=HSK.out.below hKk hB'
        have eq0:=hSw.bq
        have yF:=Mono.of4 (FrW.mono4 _ _ _) _ _ _ hB' HYF.out
        have x2:w'.cell? ⟨q,2,none⟩ = some (.bool lng):=by rw [cell_of_row _ _ _ _ _ (0,0) eq0];rfl
        have x3:w'.cell? ⟨q,3,none⟩ = some (.slice la lm lc):=by rw [cell_of_row _ _ _ _ _ (0,0) eq0];rfl
        have f2:w'.frozen? ⟨q,2,none⟩ = false:=frozen_of_row _ _ _ _ _ eq0
        have f3:w'.frozen? ⟨q,3,none⟩ = false:=frozen_of_row _ _ _ _ _ eq0
        have hq1:=heap_setCell_same w' q 2 _ _ (.bool yg) eq0
        have hq2:=heap_setCell_same _ q 3 _ _ (.slice ya ym yc) hq1
        have ht:Tch q w' ((w'.setCell ⟨q,2,none⟩ (.bool yg)).setCell ⟨q,3,none⟩ (.slice ya ym yc)):=⟨rfl,rfl,rfl,by simp [World.setCell],fun k _ hn=>(heap_setCell_other _ ⟨q,3,none⟩ k _ hn).trans (heap_setCell_other w' ⟨q,2,none⟩ k _ hn)⟩
        have d1' : 45≠83:=by decide
        have d2' : 45≠27:=by decide
        have hKw' : K≤w'.heap.size:=Nat.le_trans hKk hB'.size
        have HF:Hid (Below K w ((w'.setCell ⟨q,2,none⟩ (.bool yg)).setCell ⟨q,3,none⟩ (.slice ya ym yc))∧BasO K ((w'.setCell ⟨q,2,none⟩ (.bool yg)).setCell ⟨q,3,none⟩ (.slice ya ym yc)) q (P.take i0 ++ c :: P.drop i0) (rows1.take i0 ++ ls1 :: rows1.drop i0) y L):=(show _∧_ from ⟨hSw.bk.trans (ht.below hKw' HKQ.out),_,_,_,_,_,_,by simpa using hq2,hSw.om.tch ht eq0 d1' d2' HGQ.out,hSw.op.tch ht (fun e=>hSw.op.ne' eq0 (by decide) e),yF.tch ht eq0 d1',HKQ.out,fun e=>by simp at e⟩)
        clear hn' hd' hR' hP' hB' hSw eq0 yF hq1 hq2 ht
        go_wp2
        refine bodyPost_end (v:=.tuple #[]) (by simp [results,Tryz.results35,go_sem];try rfl) rfl ⟨rfl,HF.out.1,?_⟩
        rw [HO.out,hls1,hrows1,show ls1.getD c 0=y by rw [List.getD_eq_getElem?_getD,HY.out];rfl]
        exact HF.out.2
end Lm
end Go.Proofs.YtgmobkafnefpfaaGreat
namespace Go.Proofs.YtgmobkafnefpfaaGreat
namespace Lm
open Go Go.RowKit Md
def fnR (zs:List Int):Md.Rw:=fun c=>zs.getD c 0
def baR (R:List Md.Rw) (Q:List Nat) (n:Nat):List (List Int):=Q.reverse.map (fun p=>gRow (fun k=>D R (sub p k Q)) n)
theorem adx {g:Nat→Int} {n k:Nat} (h:k<n):(gRow g n).getD k 0=g k:=by rw [List.getD_eq_getElem?_getD,aew h];rfl
theorem ac8 {g h:Nat→Int} {n:Nat} (e:∀ k,k<n→g k=h k):gRow g n=gRow h n:=List.map_congr_left fun k hk=>e k (List.mem_range.1 hk)
theorem ah5 (zs:List Int) (c:Nat) (h:Nat→Int) (F:Nat→List Int):∀ (P:List Nat) (s:Int),(∀ p ∈ P,(F p).getD c 0=h p)→(P.zip (P.map F)).foldl (lstep zs c) s=s - sumL (fun p=>zs.getD p 0*h p) P
 | [],s,_=>by simp [sumL]
 | p :: P,s,hF=>by
  rw [List.map_cons,List.zip_cons_cons,List.foldl_cons,ah5 zs c h F P _ (fun q hq=>hF q (by simp [hq])),sumL,lstep,hF p (by simp)]
  show s - zs.getD p 0*h p - sumL (fun p=>zs.getD p 0*h p) P=s - (zs.getD p 0*h p+sumL (fun p=>zs.getD p 0*h p) P)
  omega
theorem agt (f:Nat→Int):∀ (l m:List Nat),sumL f (l ++ m)=sumL f l+sumL f m
 | [],m=>by simp [sumL]
 | x :: l,m=>by rw [List.cons_append,sumL,sumL,agt f l m];omega
theorem af5 (f:Nat→Int):∀ (l:List Nat),sumL f l.reverse=sumL f l
 | []=>rfl
 | x :: l=>by rw [List.reverse_cons,agt,af5 f l,sumL,sumL,sumL];omega
theorem ati {R:List Md.Rw} {Q:List Nat} (hn:Q.Nodup) (zs:List Int) (n:Nat):lftR (D R Q) zs Q.reverse (baR R Q n) n=gRow (fun k=>D (fnR zs :: R) (k :: Q)) n:=by
 apply ac8
 intro c hc
 show lft (D R Q) zs Q.reverse (baR R Q n) c (zs.getD c 0) = _
 unfold lft
 by_cases hcQ:c ∈ Q
 ·rw [if_pos (List.mem_reverse.2 hcQ),adv _ hcQ]
 ·rw [if_neg (fun h=>hcQ (List.mem_reverse.1 h)),baR,ah5 zs c (fun p=>D R (sub p c Q)) _ _ _ (fun p _=>adx hc),af5,aim R (fnR zs) hn c]
  rfl
theorem aq7 {Q:List Nat} {c i0:Nat} (h:Plc Q.reverse c i0) (hc:c ∉ Q):Q=(Q.reverse.drop i0).reverse ++ (Q.reverse.take i0).reverse∧(∀ x ∈ (Q.reverse.drop i0).reverse,c<x)∧(∀ x ∈ (Q.reverse.take i0).reverse,x<c)∧(Q.reverse.drop i0).reverse.length=Q.reverse.length - i0:=by
 refine ⟨?_,fun x hx=>?_,fun x hx=>?_,by simp⟩
 ·rw [←List.reverse_append,List.take_append_drop,List.reverse_reverse]
 ·rw [List.mem_reverse] at hx
  obtain ⟨k,hk⟩:=List.getElem?_of_mem hx
  rw [List.getElem?_drop] at hk
  have h1:=h.hi (i0+k) x (by omega) hk
  have h2:x ∈ Q:=by have:=List.mem_of_getElem? hk;exact List.mem_reverse.1 this
  have:x≠c:=fun e=>hc (by rw [←e];exact h2)
  omega
 ·rw [List.mem_reverse] at hx
  obtain ⟨k,hk⟩:=List.getElem?_of_mem hx
  have hlt:k<i0:=by
   have:=(List.getElem?_eq_some_iff.1 hk).1
   rw [List.length_take] at this
   omega
  rw [List.getElem?_take_of_lt hlt] at hk
  exact h.lo k x hlt hk
theorem aha (g:Nat→Int) (f:Int→Int) (n:Nat):(gRow g n).map f=gRow (fun k=>f (g k)) n:=by simp [gRow]
theorem atj {cols n:Nat} {R:List Md.Rw} {Q:List Nat} (G:Gat cols R Q) {x:Md.Rw} {c i0:Nat} (hcn:c<n) (hc:c<cols) (h0:∀ k,k<c→D (x :: R) (k :: Q)=0) (hne:D (x :: R) (c :: Q)≠0) (hp:Plc Q.reverse c i0) {ls ms:List Int} {P' Q' : List Nat} (hls:ls=gRow (fun k=>D (x :: R) (k :: Q)) n) (hms:ms=negs (decide ((Q.reverse.length - i0) % 2=1)) ls) (hP' : P' = Q.reverse.take i0 ++ c :: Q.reverse.drop i0) (hQ' : Q' = P'.reverse) :
  Gat cols (x :: R) Q'∧P' = Q'.reverse∧ms.getD c 0=D (x :: R) Q'∧((baR R Q n).map (tkR ms c (D R Q) n)).take i0 ++ ms :: ((baR R Q n).map (tkR ms c (D R Q) n)).drop i0=baR (x :: R) Q' n∧ms=gRow (fun k=>D (x :: R) (sub c k Q')) n∧∀ p ∈ Q,tkR ms c (D R Q) n (gRow (fun k=>D R (sub p k Q)) n)=gRow (fun k=>D (x :: R) (sub p k Q')) n:=by
 have hcQ:c ∉ Q:=Gat.not_mem hne
 obtain ⟨s1,s2,s3,s4⟩:=aq7 hp hcQ
 obtain ⟨g1,g2,g3,g4⟩:=G.take hc h0 hne s1 s2 s3
 have eQ:Q' = (Q.reverse.drop i0).reverse ++ c :: (Q.reverse.take i0).reverse:=by
  rw [hQ',hP',List.reverse_append,List.reverse_cons,List.append_assoc];rfl
 rw [←eQ] at g1 g2 g3 g4
 have eM:ms=gRow (fun k=>D (x :: R) (sub c k Q')) n:=by
  rw [hms,hls]
  have:(fun k=>D (x :: R) (sub c k Q'))=fun k=>sgn (Q.reverse.length - i0)*D (x :: R) (k :: Q):=funext fun k=>by rw [g2 k,s4]
  rw [this,akv]
  unfold negs
  by_cases ho:(Q.reverse.length - i0) % 2=1
  ·rw [if_pos (by simpa using ho),aha]
   apply ac8
   intro k _
   rw [if_pos ho];omega
  ·rw [if_neg (by simpa using ho)]
   apply ac8
   intro k _
   rw [if_neg ho];omega
 have eC:ms.getD c 0=D (x :: R) Q' := by rw [eM,adx hcn,sub_self]
 have eT:∀ p ∈ Q,tkR ms c (D R Q) n (gRow (fun k=>D R (sub p k Q)) n)=gRow (fun k=>D (x :: R) (sub p k Q')) n:=by
  intro p hpQ
  unfold tkR
  apply ac8
  intro k hk
  rw [eC,adx hk,adx hcn,eM,adx hk,←g4 p hpQ k]
  exact Int.mul_ediv_cancel_left _ G.ne
 refine ⟨g1,by rw [hQ',List.reverse_reverse],eC,?_,eM,eT⟩
 have e1:(baR R Q n).map (tkR ms c (D R Q) n)=Q.reverse.map (fun p=>gRow (fun k=>D (x :: R) (sub p k Q')) n):=by
  unfold baR
  rw [List.map_map]
  apply List.map_congr_left
  intro p hpQ
  exact eT p (List.mem_reverse.1 hpQ)
 have e2:baR (x :: R) Q' n=P'.map (fun p=>gRow (fun k=>D (x :: R) (sub p k Q')) n):=by
  unfold baR
  rw [hQ',List.reverse_reverse]
 rw [e1,e2,hP',List.map_append,List.map_cons,List.map_take,List.map_drop,←eM]
theorem D_le {X N:Nat} : ∀ (R:List Md.Rw) (cs:List Nat),(∀ x ∈ R,∀ c ∈ cs,((x c).natAbs:Int)≤X)→cs.length≤N→((D R cs).natAbs:Int)≤((N*X) ^ R.length:Nat)
 | [],cs,_,_=>by
  show ((if cs = [] then (1:Int) else 0).natAbs:Int)≤_
  by_cases h:cs = [] <;> simp [h]
 | x :: R,cs,hx,hN=>by
  have hlen:∀ l:List Nat,(∀ c ∈ l,c ∈ cs)→((if l.length≤N then D R l else 0).natAbs:Int)≤((N*X) ^ R.length:Nat):=fun l hl=>by
   by_cases h:l.length≤N
   ·rw [if_pos h];exact D_le R l (fun y hy c hc=>hx y (by simp [hy]) c (hl c hc)) h
   ·rw [if_neg h];exact Int.natCast_nonneg _
  have h1:=w_le (x:=x) (g:=fun l=>if l.length≤N then D R l else 0) (X:=X) (G:=((N*X) ^ R.length:Nat)) N (by omega) (by omega) cs (fun c hc=>hx x (by simp) c hc) hlen hN
  have h2:∀ (l:List Nat) (p:List Nat) , p.length+l.length≤N→w x (fun m=>(if (p ++ m).length≤N then D R (p ++ m) else 0)) l=w x (fun m=>D R (p ++ m)) l:=by
   intro l
   induction l with
   | nil=>intro p _;rfl
   | cons c l ih =>
    intro p hp
    simp only [List.length_cons] at hp
    have h3:=ih (p ++ [c]) (by simp;omega)
    simp only [List.append_assoc,List.singleton_append] at h3
    simp only [w]
    rw [h3,if_pos (by simp;omega)]
  have h3:=h2 cs [] (by simpa using hN)
  simp only [List.nil_append] at h3
  rw [h3] at h1
  show ((w x (D R) cs).natAbs:Int)≤_
  refine Int.le_trans h1 ?_
  rw [List.length_cons,Nat.pow_succ]
  have:(N:Int)*((X:Int)*(((N*X) ^ R.length:Nat):Int))=(((N*X) ^ R.length*(N*X):Nat):Int):=by
   push_cast
   grind
  omega
end Lm
end Go.Proofs.YtgmobkafnefpfaaGreat
namespace Go.Proofs.YtgmobkafnefpfaaGreat
namespace Lm
open Go Go.RowKit Md
theorem ayf {P:List Nat} (h:P.Pairwise (·<·)) (c:Nat):∃ i0,Plc P c i0:=by
 induction P with
 | nil=>exact ⟨0,⟨Nat.le_refl _,fun k p hk=>(by omega),fun k p _ hp=>(by simp at hp)⟩⟩
 | cons q P ih =>
  obtain ⟨h1,h2⟩:=List.pairwise_cons.1 h
  by_cases hq:q<c
  ·obtain ⟨i,hi⟩:=ih h2
   refine ⟨i+1,⟨by simp;exact hi.le,fun k p hk hp=>?_,fun k p hk hp=>?_⟩⟩
   ·cases k with
    | zero=>simp at hp;omega
    | succ k=>exact hi.lo k p (by omega) (by simpa using hp)
   ·cases k with
    | zero=>omega
    | succ k=>exact hi.hi k p (by omega) (by simpa using hp)
  ·refine ⟨0,⟨Nat.zero_le _,fun k p hk=>(by omega),fun k p _ hp=>?_⟩⟩
   have:p ∈ q :: P:=List.mem_of_getElem? hp
   rcases List.mem_cons.1 this with rfl | hm
   ·omega
   ·have:=h1 p hm;omega
theorem aq8 (a:Nat):∀ m:Nat,pw (m*a)=pw a ^ m
 | 0=>by simp [pw]
 | m+1=>by rw [Nat.succ_mul,aca,aq8 a m,Int.pow_succ]
def lg (L0:Nat):Nat:=33*(L0+1)+1
theorem aq9 {L0:Nat} {R:List Md.Rw} {cs:List Nat} (hx:∀ x ∈ R,∀ c,((x c).natAbs:Int)<pw L0) (hR:R.length≤33) (hc:cs.length≤33):((D R cs).natAbs:Int)<pw (lg L0):=by
 have hp:=aaj L0
 obtain ⟨X,hX⟩:∃ X:Nat,pw L0=X:=⟨(pw L0).toNat,by omega⟩
 have h1:=D_le (X:=X) (N:=33) R cs (fun x h c _=>by have:=hx x h c;omega) hc
 have h2:((33*X) ^ R.length:Nat)≤(33*X) ^ 33:=Nat.pow_le_pow_right (by omega) hR
 have h3:(((33*X) ^ 33:Nat):Int)≤pw (33*(L0+1)):=by
  rw [aq8,Int.natCast_pow]
  have e1:((33*X:Nat):Int)≤pw (L0+1):=by
   show _≤4294967296*pw L0
   omega
  obtain ⟨Y,hY⟩:∃ Y:Nat,pw (L0+1)=Y:=⟨(pw (L0+1)).toNat,by have:=aaj (L0+1);omega⟩
  rw [hY] at e1 ⊢
  have:=Nat.pow_le_pow_left (show 33*X≤Y by omega) 33
  rw [←Int.natCast_pow,←Int.natCast_pow]
  omega
 have h4:pw (lg L0)=4294967296*pw (33*(L0+1)):=rfl
 have h5:=aaj (33*(L0+1))
 rw [h4]
 omega
structure GatI (n cols:Nat) (rows:List (List Int)) (k:Nat) (R:List Md.Rw) (Q:List Nat) (torn:Bool):Prop where
 gat:Gat cols R Q
 len:R.length=Q.length
 sub:∀ x ∈ R,∃ r ∈ rows.take k,x=fnR r
 inr:torn=false→∀ r ∈ rows.take k,RS R (fnR r)
 tor:torn=true→∃ y,(∀ c,c<cols→y c=0)∧(∃ c,c<n∧y c≠0)∧RS (rows.map fnR) y
 sl:R.reverse.Sublist ((rows.take k).map fnR)
theorem ah6 {zs:List Int} {N:Int} (h:∀ z ∈ zs,(z.natAbs:Int)<N) (hN:0<N) (c:Nat):((fnR zs c).natAbs:Int)<N:=by
 unfold fnR
 rw [List.getD_eq_getElem?_getD]
 cases e:zs[c]? with
 | none=>simpa using hN
 | some z=>exact h z (List.mem_of_getElem? e)
theorem amz {zs:List Int} {c:Nat} (h:zs.length≤c):fnR zs c=0:=by
 unfold fnR
 rw [List.getD_eq_getElem?_getD,List.getElem?_eq_none h]
 rfl
theorem ayg {R:List Md.Rw} {y:Md.Rw} (h:Sp R y) {c:Nat} (hc:∀ x ∈ R,x c=0):y c=0:=by
 induction h with
 | zero=>rfl
 | add a x y hx _ ih=>show a*x c+y c=0;rw [hc x hx,ih];simp
theorem agj {Q:List Nat} {cols:Nat} (h:Q.Pairwise (· > ·)) (hl:∀ q ∈ Q,q<cols):Q.length≤cols:=by
 induction Q generalizing cols with
 | nil=>exact Nat.zero_le _
 | cons q Q ih =>
  obtain ⟨h1,h2⟩:=List.pairwise_cons.1 h
  have:=ih h2 (fun x hx=>h1 x hx)
  have:=hl q (by simp)
  simp
  omega
theorem GatI.start (n cols:Nat) (rows:List (List Int)):GatI n cols rows 0 [] [] false :=
 ⟨avo cols,rfl,fun x hx=>(by cases hx),fun _ r hr=>(by simp at hr),fun h=>(by cases h),List.nil_sublist _⟩
theorem GatI.asc {n cols:Nat} {rows:List (List Int)} {k:Nat} {R:List Md.Rw} {Q:List Nat} {torn:Bool} (h:GatI n cols rows k R Q torn):Q.reverse.Pairwise (·<·):=by
 rw [List.pairwise_reverse]
 exact h.gat.desc.imp (fun h=>h)
theorem GatI.shp {n cols:Nat} {rows:List (List Int)} {k:Nat} {R:List Md.Rw} {Q:List Nat} {torn:Bool} (h:GatI n cols rows k R Q torn) (hc:cols≤n) (hn:cols≤32):Shp n Q.reverse (baR R Q n):=by
 refine ⟨fun r hr=>?_,fun p hp=>?_,by simp [baR],?_⟩
 ·obtain ⟨p,_,rfl⟩:=List.mem_map.1 hr
  exact acg _ _
 ·have:=h.gat.lt p (List.mem_reverse.1 hp);omega
 ·have:=agj h.gat.desc h.gat.lt
  simp
  omega
theorem aby {α:Type} {l:List α} {k:Nat} {x:α} (h:l[k]? = some x) {y:α} : y ∈ l.take (k+1)↔y ∈ l.take k∨y=x:=by
 rw [List.take_add_one,h,List.mem_append]
 simp
theorem afr {α β:Type} (f:α→β) {l:List α} {k:Nat} {x:α} (h:l[k]? = some x):(l.take (k+1)).map f=(l.take k).map f ++ [f x]:=by rw [List.take_add_one,h,List.map_append];rfl
theorem GatI.add {n cols:Nat} {rows:List (List Int)} {k:Nat} {R:List Md.Rw} {Q Q' : List Nat} {torn:Bool} (h:GatI n cols rows k R Q torn) {r:List Int} (hr:rows[k]? = some r) (G:Gat cols (fnR r :: R) Q') (hl:Q'.length=Q.length+1):GatI n cols rows (k+1) (fnR r :: R) Q' torn:=by
 refine ⟨G,by rw [List.length_cons,h.len,hl],fun x hx=>?_,fun ht s hs=>?_,h.tor,by rw [List.reverse_cons,afr fnR hr];exact h.sl.append (List.Sublist.refl _)⟩
 ·rcases List.mem_cons.1 hx with rfl | hx
  ·exact ⟨r,(aby hr).2 (.inr rfl),rfl⟩
  ·obtain ⟨s,h1,h2⟩:=h.sub x hx
   exact ⟨s,(aby hr).2 (.inl h1),h2⟩
 ·rcases (aby hr).1 hs with h1 | rfl
  ·exact (h.inr ht s h1).trans (fun y hy=>.mem (by simp [hy]))
  ·exact .mem (by simp)
theorem GatI.pass {n cols:Nat} {rows:List (List Int)} {k:Nat} {R:List Md.Rw} {Q:List Nat} {torn:Bool} (h:GatI n cols rows k R Q torn) {r:List Int} (hr:rows[k]? = some r) (hrn:∀ s ∈ rows,s.length=n) (hz:∀ c,c<cols→D (fnR r :: R) (c :: Q)=0):GatI n cols rows (k+1) R Q (torn || (gRow (fun c=>D (fnR r :: R) (c :: Q)) n).any (fun z=>decide (z≠0))):=by
 have hout:∀ c,n≤c→D (fnR r :: R) (c :: Q)=0:=fun c hc=>by
  refine ayg (ae1 (fnR r :: R) Q) (fun x hx=>?_)
  rcases List.mem_cons.1 hx with rfl | hx
  ·exact amz (by rw [hrn r (List.mem_of_getElem? hr)];exact hc)
  ·obtain ⟨s,h1,rfl⟩:=h.sub x hx
   exact amz (by rw [hrn s (List.mem_of_mem_take h1)];exact hc)
 refine ⟨h.gat,h.len,fun x hx=>?_,fun ht s hs=>?_,fun ht=>?_,by rw [afr fnR hr];exact h.sl.trans (List.sublist_append_left _ _)⟩
 ·obtain ⟨s,h1,h2⟩:=h.sub x hx
  exact ⟨s,(aby hr).2 (.inl h1),h2⟩
 ·rw [Bool.or_eq_false_iff] at ht
  rcases (aby hr).1 hs with h1 | rfl
  ·exact h.inr ht.1 s h1
  ·refine avp (ac7 h.gat.desc) h.gat.ne (fun c=>?_)
   by_cases hc:c<n
   ·have:=List.any_eq_false.1 ht.2 _ (List.mem_map.2 ⟨c,List.mem_range.2 hc,rfl⟩)
    simpa using this
   ·exact hout c (by omega)
 ·rw [Bool.or_eq_true] at ht
  rcases ht with ht | ht
  ·exact h.tor ht
  ·obtain ⟨z,hz1,hz2⟩:=List.any_eq_true.1 ht
   obtain ⟨c,hc,rfl⟩:=List.mem_map.1 hz1
   refine ⟨fun c=>D (fnR r :: R) (c :: Q),hz,⟨c,List.mem_range.1 hc,by simpa using hz2⟩,.of ((ae1 (fnR r :: R) Q).mono (fun x hx=>?_))⟩
   rcases List.mem_cons.1 hx with rfl | hx
   ·exact List.mem_map.2 ⟨r,List.mem_of_getElem? hr,rfl⟩
   ·obtain ⟨s,h1,rfl⟩:=h.sub x hx
    exact List.mem_map.2 ⟨s,List.mem_of_mem_take h1,rfl⟩
structure GaS (w:World) (n cols:Nat) (rows:List (List Int)) (L0 k:Nat) (torn:Bool) (R:List Md.Rw) (Q:List Nat) (wr:World):Prop where
 inv:GatI n cols rows k R Q torn
 bas:BasO w.heap.size wr w.heap.size Q.reverse (baR R Q n) (D R Q) (lg L0)
 bel:Below w.heap.size w wr
theorem aa9 {w:World} {q i:Nat} {v:Value} {cur:Array Value} {T:TypeId} (h:w.heap[q]? = some (.cells cur T (0,0))) (hv:cur[i]? = some v):w.setCell ⟨q,i,none⟩ v=w:=by
 have h1:=heap_setCell_same w q i _ _ v h
 have hs:cur.setIfInBounds i v=cur:=by
  apply Array.ext_getElem?
  intro j
  rw [Array.getElem?_setIfInBounds]
  split
  ·subst i
   split
   ·exact hv.symm
   ·rw [Array.getElem?_eq_none (by omega)]
  ·rfl
 rw [hs,←h] at h1
 have h2:(w.setCell ⟨q,i,none⟩ v).heap=w.heap:=by
  apply Array.ext_getElem?
  intro j
  by_cases e:j=q
  ·subst e;exact h1
  ·exact heap_setCell_other w ⟨q,i,none⟩ j v e
 have h3:w.setCell ⟨q,i,none⟩ v = { w with heap:=(w.setCell ⟨q,i,none⟩ v).heap } := rfl
 rw [h3,h2]
theorem ayy {w:World} {g:Nat} {rv pv:Value} {ng:Bool} {ao:Option Addr} {n c:Nat} (h:w.heap[g]? = some (.cells #[rv,pv,.bool ng,.slice ao n c] 45 (0,0))):(loadVar 45 ⟨g,0,none⟩).run Tryz.prog w=.ok (.agg #[rv,pv,.bool ng,.slice ao n c]) w:=by
 have y0:w.cell? ⟨g,0,none⟩ = some rv:=by rw [cell_of_row _ _ _ _ _ (0,0) h];rfl
 have y1:w.cell? ⟨g,1,none⟩ = some pv:=by rw [cell_of_row _ _ _ _ _ (0,0) h];rfl
 have y2:w.cell? ⟨g,2,none⟩ = some (.bool ng):=by rw [cell_of_row _ _ _ _ _ (0,0) h];rfl
 have y3:w.cell? ⟨g,3,none⟩ = some (.slice ao n c):=by rw [cell_of_row _ _ _ _ _ (0,0) h];rfl
 go_simp
theorem GaS.below {w:World} {n cols:Nat} {rows:List (List Int)} {L0 k:Nat} {torn:Bool} {R:List Md.Rw} {Q:List Nat} {wr w' : World} (h:GaS w n cols rows L0 k torn R Q wr) (hb:Below wr.heap.size wr w'):GaS w n cols rows L0 k torn R Q w' := ⟨h.inv,h.bas.below hb,h.bel.trans (hb.mono h.bel.size)⟩
theorem GatI.lts {n cols:Nat} {rows:List (List Int)} {k:Nat} {R:List Md.Rw} {Q:List Nat} {torn:Bool} (h:GatI n cols rows k R Q torn) {N:Int} (hN:0<N) (hz:∀ r ∈ rows,∀ z ∈ r,(z.natAbs:Int)<N):∀ x ∈ R,∀ c,((x c).natAbs:Int)<N:=fun x hx c=>by
 obtain ⟨r,hr,rfl⟩:=h.sub x hx
 exact ah6 (hz r (List.mem_of_mem_take hr)) hN c
theorem IsM.lts {w:World} {v:Value} {rows:List (List Int)} {L:Nat} (h:IsM w v rows L):∀ r ∈ rows,∀ z ∈ r,(z.natAbs:Int)<pw L:=fun r hr z hz=>by
 obtain ⟨i,hi⟩:=List.getElem?_of_mem hr
 obtain ⟨ao,cap,rfl,_⟩:=h.parts
 obtain ⟨b,off,u,_,_,_,hu⟩:=h.cell hi
 exact adt hu z hz
theorem atk {w1:World} {q:Nat} {x y u v u' v' : Value} {T:TypeId} (h:w1.heap[q]? = some (.cells #[x,y,u,v] T (0,0))):((w1.setCell ⟨q,2,none⟩ u').setCell ⟨q,2+1,none⟩ v').heap[q]? = some (.cells #[x,y,u',v'] T (0,0)):=by
 have h1:=heap_setCell_same w1 q 2 _ _ u' h
 have h2:=heap_setCell_same _ q (2+1) _ _ v' h1
 simpa using h2
set_option maxRecDepth 20000 in
set_option maxHeartbeats 8000000 in
theorem ame (w:World) (v:Value) (rows:List (List Int)) (n cols L0:Nat) (h:IsM w v rows L0) (hrn:∀ r ∈ rows,r.length=n) (hcn:cols≤n) (hc:cols≤32) (hn:n≤33) (hL0:L0≤1510) :
  Calls Tryz.prog 16 #[v,.int .i64 (cols:Int)] w fun e w'=>∃ R Q torn rv pv ng la lm lc,e=.returned (.tuple #[.agg #[rv,pv,.bool ng,.slice la lm lc],.bool torn])∧GatI n cols rows rows.length R Q torn∧OwM w.heap.size w' rv (baR R Q n) (lg L0)∧OwP w.heap.size w' pv Q.reverse∧FrW w.heap.size (D R Q) (lg L0) (.agg #[.bool ng,.slice la lm lc]) w'∧Below w.heap.size w w' := by
 have hLg:lg L0≤50000:=by unfold lg;omega
 have hL0g:L0≤lg L0:=by unfold lg;omega
 obtain ⟨va,vc,rfl,hvl⟩:=h.parts
 have hb0:=hAl w (.cells #[.slice none 0 0,.slice none 0 0,.bool false,.slice none 0 0] 45)
 have hn0:=heap_alloc_new w (.cells #[.slice none 0 0,.slice none 0 0,.bool false,.slice none 0 0] 45)
 obtain ⟨w0,e0⟩:∃ w0,w.alloc (.cells #[.slice none 0 0,.slice none 0 0,.bool false,.slice none 0 0] 45)=w0:=⟨_,rfl⟩
 rw [e0] at hb0 hn0
 have E0:=hide e0
 have HB0:=hide hb0
 have HN0:=hide hn0
 have H:=hide h
 have HRN:=hide hrn
 have K1:=hide (wofF w0 1 (by decide) (by decide))
 clear h hrn e0 hb0 hn0
 go_enter Tryz.func16,Tryz.ntmps16
 go_wp2
 go_step3
 go_wp2_with fail
 rw [E0.out]
 refine K1.out.mono ?_
 rintro e w1 ⟨r1,rfl,hf1,hb1⟩
 obtain ⟨ng1,a1,m1,c1,rfl⟩:=hf1.agg
 have hq1:=(hb1.block _ (aaa HN0.out)).trans HN0.out
 have hql:=aaa hq1
 have y2:w1.cell? ⟨w.heap.size,2,none⟩ = some (.bool false):=by rw [cell_of_row _ _ _ _ _ (0,0) hq1];rfl
 have y3:w1.cell? ⟨w.heap.size,2+1,none⟩ = some (.slice none 0 0):=by rw [cell_of_row _ _ _ _ _ (0,0) hq1];rfl
 have yf2:=frozen_of_row w1 w.heap.size 2 _ _ hq1
 have yf3:=frozen_of_row w1 w.heap.size (2+1) _ _ hq1
 have HQ1:=hide hq1
 have HF1:=hide hf1
 have HB1:=hide hb1
 clear hq1 hf1 hb1 K1
 go_wp2_with fail
 go_step3
 go_wp2_with fail
 have hb2:Below w.heap.size w ((w1.setCell ⟨w.heap.size,2,none⟩ (.bool ng1)).setCell ⟨w.heap.size,2+1,none⟩ (.slice a1 m1 c1)):=((HB0.out.trans (HB1.out.mono HB0.out.size)).setCell (Nat.le_refl _) _).setCell (Nat.le_refl _) _
 obtain ⟨w2,e2⟩:∃ w2,(w1.setCell ⟨w.heap.size,2,none⟩ (.bool ng1)).setCell ⟨w.heap.size,2+1,none⟩ (.slice a1 m1 c1)=w2:=⟨_,rfl⟩
 have hq2:=atk (u' := .bool ng1) (v' := .slice a1 m1 c1) HQ1.out
 have ht2:Tch w.heap.size w1 ((w1.setCell ⟨w.heap.size,2,none⟩ (.bool ng1)).setCell ⟨w.heap.size,2+1,none⟩ (.slice a1 m1 c1)):=⟨rfl,rfl,rfl,by simp [World.setCell],fun k _ hn=>(heap_setCell_other _ ⟨w.heap.size,2+1,none⟩ k _ hn).trans (heap_setCell_other _ ⟨w.heap.size,2,none⟩ k _ hn)⟩
 rw [e2] at hb2 hq2 ht2 ⊢
 have hS0:GaS w n cols rows L0 0 false [] [] w2:=⟨GatI.start n cols rows,⟨_,_,_,_,_,_,hq2,⟨[],⟨rfl,.inl ⟨rfl,rfl⟩⟩,fun i u z hu=>(by simp at hu)⟩,⟨rfl,.inl ⟨rfl,rfl⟩⟩,((HF1.out.low HB0.out.size).to rfl (by unfold lg;omega)).tch ht2 HQ1.out (by decide),Nat.le_refl _,fun _=>rfl⟩,hb2⟩
 have HS0:=hide hS0
 have HLT:=hide H.out.lts
 clear hS0 e2 hq2 ht2 hb2 y2 y3 yf2 yf3 hql HQ1 HF1 HB1
 go_loopw [5,7,8,9,15] (fun tv _ _ _ iv wr=>∃ (k:Nat) (torn:Bool) (R:List Md.Rw) (Q:List Nat),iv=.int .i64 k∧k≤rows.length∧tv=.bool torn∧GaS w n cols rows L0 k torn R Q wr) (fun _ _ _ _ iv _=>rows.length - (intOf iv).toNat)
 case atStart=>exact ⟨0,false,[],[],rfl,Nat.zero_le _,rfl,HS0.out⟩
 case round =>
  obtain ⟨k,torn,R,Q,rfl,hk,rfl,hS⟩:=hrel
  have HS:=hide hS
  by_cases hlt:k<rows.length
  ·obtain ⟨r,hr⟩:∃ r,rows[k]? = some r:=⟨_,List.getElem?_eq_getElem hlt⟩
   have hrl:r.length=n:=HRN.out r (List.mem_of_getElem? hr)
   obtain ⟨b,off,u,rfl,hbl,x0,hx⟩:=H.out.cell hr
   replace x0:=(hS.bel.cell (p:=⟨b,off+k,none⟩) hbl).trans x0
   have hlt' : (k:Int)<(rows.length:Int):=by omega
   have hQl:=agj hS.inv.gat.desc hS.inv.gat.lt
   have hRl:=hS.inv.len
   have hfr:∀ x ∈ fnR r :: R,∀ c,((x c).natAbs:Int)<pw L0:=fun x hx' c=>by
    rcases List.mem_cons.1 hx' with rfl | hx'
    ·exact ah6 (HLT.out r (List.mem_of_getElem? hr)) (by have:=aaj L0;omega) c
    ·exact hS.inv.lts (by have:=aaj L0;omega) HLT.out x hx' c
   have hld:=ati (R:=R) (ac7 hS.inv.gat.desc) r n
   have KL:=aqk wr w.heap.size n (lg L0) (lg L0) u r Q.reverse (baR R Q n) (D R Q) ((hx.below hS.bel).wide hL0g) hS.bas.bas hrl (hS.inv.shp hcn hc) (by omega) (by omega) (by
    rw [hld]
    intro z hz
    obtain ⟨c,_,rfl⟩:=List.mem_map.1 hz
    exact aq9 hfr (by simp;omega) (by simp;omega))
   rw [hld] at KL
   have KL:=hide KL
   obtain ⟨ua,uc,rfl,_⟩:=hx.parts
   have HR:=hide hr
   have HRL:=hide hrl
   have HFR:=hide hfr
   have HQL:=hide hQl
   clear hS hr hx hld hfr hrl hQl hRl
   go_wp2_with fail
   refine KL.out.mono ?_
   rintro e w3 ⟨r3,rfl,ho,hb3⟩
   obtain ⟨bl,rfl,hbl3,_⟩:=id ho
   have HO:=hide ho
   have HB3:=hide hb3
   rw [acg] at HO ⊢
   have hcn' : (cols:Int)≤(n:Int):=by omega
   clear ho hb3 KL x0
   go_wp2_with fail
   go_loopw [9,25] (fun _ jv wx=>∃ (j:Nat),jv=.int .i64 j∧j≤cols∧(∀ c,c<j→D (fnR r :: R) (c :: Q)=0)∧Below w3.heap.size w3 wx) (fun _ jv _=>cols - (intOf jv).toNat)
   case atStart=>exact ⟨0,rfl,Nat.zero_le _,fun c hc=>absurd hc (Nat.not_lt_zero _),Below.refl _ _⟩
   case round =>
    obtain ⟨j,rfl,hj,hzs,hbx⟩:=hrel
    have HZS:=hide hzs
    have HBX:=hide hbx
    have hSx:=HS.out.below (HB3.out.trans (hbx.mono HB3.out.size))
    have HSX:=hide hSx
    by_cases hjl:j<cols
    ·obtain ⟨z,hz⟩:∃ z,D (fnR r :: R) (j :: Q)=z:=⟨_,rfl⟩
     have hzg:(gRow (fun c=>D (fnR r :: R) (c :: Q)) n)[j]? = some z:=by rw [aew (by omega),hz]
     obtain ⟨ngx,ax,mx,cx,hbl4,_,p0,p1,hx⟩:=HO.out.frw hzg
     replace p0:=(hbx.cell (p:=⟨bl,0+j*2,none⟩) hbl4).trans p0
     replace p1:=(hbx.cell (p:=⟨bl,0+j*2+1,none⟩) hbl4).trans p1
     rw [Nat.zero_add] at p0 p1
     have hjl' : (j:Int)<(cols:Int):=by omega
     have hba:=hAl wr (.cells #[.bool ngx,.slice ax mx cx] 27)
     have KO:=hide (ahz _ z (lg L0) _ ((hx.is.ru (Ru.of_below hbx)).ru (Ru.of_below hba)) (by omega))
     have HBA:=hide hba
     have HZ:=hide hz
     clear hzs hbx hSx hzg hx hba hz
     go_wp2_with fail
     refine KO.out.mono ?_
     rintro e w4 ⟨rfl,hb4⟩
     have HB4:=hide (HBA.out.trans (hb4.mono HBA.out.size))
     clear hb4 KO p0 p1
     by_cases hz0:z=0
     ·have hd:decide (z≠0)=false:=decide_eq_false (fun h=>h hz0)
      rw [hd]
      clear hd
      go_wp2
      go_roundw
      case rel =>
       refine ⟨j+1,by go_num,by omega,fun c hc'=>?_,HBX.out.trans (HB4.out.mono HBX.out.size)⟩
       by_cases e:c=j
       ·subst e;rw [HZ.out,hz0]
       ·exact HZS.out c (by omega)
      case measure=>simp [intOf];omega
     ·have hd:decide (z≠0)=true:=decide_eq_true hz0
      rw [hd]
      clear hd
      have hS4:=HSX.out.below HB4.out
      obtain ⟨i0,hi0⟩:=ayf hS4.inv.asc j
      have hT:=atj (n:=n) hS4.inv.gat (x:=fnR r) (c:=j) (i0:=i0) (by omega) hjl HZS.out (by rw [HZ.out];exact hz0) hi0 rfl rfl rfl rfl
      obtain ⟨t1,t2,t3,t4,t5,t6⟩:=hT
      have hlen:(Q.reverse.take i0 ++ j :: Q.reverse.drop i0).reverse.length=Q.length+1:=by
       have:=hi0.le
       simp at this ⊢
       omega
      have hbd:∀ r' ∈ baR R Q n,∀ z ∈ tkR (negs (decide ((Q.reverse.length - i0) % 2=1)) (gRow (fun c=>D (fnR r :: R) (c :: Q)) n)) j (D R Q) n r',(z.natAbs:Int)<pw (lg L0):=by
       intro r' hr' z' hz'
       obtain ⟨p,hp,rfl⟩:=List.mem_map.1 hr'
       rw [t6 p (List.mem_reverse.1 hp)] at hz'
       obtain ⟨c,_,rfl⟩:=List.mem_map.1 hz'
       have h1:=HQL.out
       have h2:=HS.out.inv.len
       refine aq9 HFR.out (by simp;omega) ?_
       rw [show (sub p c (Q.reverse.take i0 ++ j :: Q.reverse.drop i0).reverse).length = _ from List.length_map ..,hlen]
       omega
      have KT:=aq6 w4 w.heap.size w.heap.size j n (lg L0) i0 (.slice (some ⟨bl,0,none⟩) n n) (gRow (fun c=>D (fnR r :: R) (c :: Q)) n) Q.reverse (baR R Q n) (D R Q) hS4.bas ((HO.out.below (HBX.out.trans (HB4.out.mono HBX.out.size))).low HS.out.bel.size) (acg _ _) (hS4.inv.shp hcn hc) hS4.inv.asc hi0 (by omega) (by omega) hLg hS4.bel.size hbd
      rw [t3,t4] at KT
      have KT:=hide KT
      have HG:=hide (HS.out.inv.add HR.out t1 hlen)
      have HB4w:=hide hS4.bel
      clear hS4 t1 t2 t3 t4 t5 t6 hbd hi0 hlen
      generalize Q.reverse.take i0 ++ j :: Q.reverse.drop i0=P' at *
      go_wp2_with fail
      refine KT.out.mono ?_
      rintro e w5 ⟨rfl,hb5,hBO⟩
      have HX5:Hid (GaS w n cols rows L0 (k+1) torn (fnR r :: R) P'.reverse w5):=(GaS.mk HG.out (by rw [List.reverse_reverse];exact hBO) (HB4w.out.trans hb5))
      clear hb5 hBO KT
      go_wp2
      go_roundw
      case rel=>exact ⟨k+1,torn,_,_,by go_num,by omega,rfl,HX5.out⟩
      case measure=>simp [intOf];omega
    ·have hjl' : decide ((j:Int)<(cols:Int))=false:=by simp;omega
     have hjc:j=cols:=by omega
     subst hjc
     have HP:=hide (HS.out.inv.pass HR.out HRN.out HZS.out)
     clear hzs hbx hSx
     cases torn with
     | true =>
      go_wp2
      go_roundw
      case rel=>exact ⟨k+1,true,R,Q,by go_num,by omega,rfl,⟨HP.out,HSX.out.bas,HSX.out.bel⟩⟩
      case measure=>simp [intOf];omega
     | false =>
      have KC:=hide (afq wr (.slice (some ⟨bl,0,none⟩) n n) (gRow (fun c=>D (fnR r :: R) (c :: Q)) n) (lg L0) (HO.out.is.below HBX.out) 34 aqh #[] (fun z=>decide (z≠0)) (fun W z xv _ _ hx=>ahz W z (lg L0) xv hx (by omega)))
      go_wp2_with fail
      refine KC.out.mono ?_
      rintro e w6 ⟨rfl,hb6⟩
      have HX6:=hide (HSX.out.below hb6)
      clear hb6 KC
      rw [Bool.false_or] at HP
      generalize (gRow (fun c=>D (fnR r :: R) (c :: Q)) n).any (fun z=>decide (z≠0))=tn at *
      go_wp2
      go_roundw
      case rel=>exact ⟨k+1,tn,R,Q,by go_num,by omega,rfl,⟨HP.out,HX6.out.bas,HX6.out.bel⟩⟩
      case measure=>simp [intOf];omega
  ·have hlt' : decide ((k:Int)<(rows.length:Int))=false:=by simp;omega
   have hkn:k=rows.length:=by omega
   subst hkn
   obtain ⟨rv,pv,ng,la,lm,lc,hq,hM,hP,hL,_,_⟩:=hS.bas
   obtain ⟨ra,rc,rfl,_⟩:=hM.is.parts
   obtain ⟨pa,pc,rfl,_⟩:=hP.is.parts
   have y0:wr.cell? ⟨w.heap.size,0,none⟩ = some (.slice ra (baR R Q n).length rc):=by rw [cell_of_row _ _ _ _ _ (0,0) hq];rfl
   have y1:wr.cell? ⟨w.heap.size,1,none⟩ = some (.slice pa Q.reverse.length pc):=by rw [cell_of_row _ _ _ _ _ (0,0) hq];rfl
   have y2:wr.cell? ⟨w.heap.size,2,none⟩ = some (.bool ng):=by rw [cell_of_row _ _ _ _ _ (0,0) hq];rfl
   have y3:wr.cell? ⟨w.heap.size,3,none⟩ = some (.slice la lm lc):=by rw [cell_of_row _ _ _ _ _ (0,0) hq];rfl
   have yf0:=frozen_of_row wr w.heap.size 0 _ _ hq
   have yf1:=frozen_of_row wr w.heap.size 1 _ _ hq
   have yf2:=frozen_of_row wr w.heap.size 2 _ _ hq
   have yf3:=frozen_of_row wr w.heap.size 3 _ _ hq
   have hql:=aaa hq
   have HQ:=hide (And.intro hq (And.intro hM (And.intro hP hL)))
   clear hS hq hM hP hL
   go_wp2
   rw [Exit.noGoto_ret]
   have e0:=aa9 (i:=0) (v:=.slice ra (baR R Q n).length rc) HQ.out.1 rfl
   have e1:=aa9 (i:=1) (v:=.slice pa Q.reverse.length pc) HQ.out.1 rfl
   have e2:=aa9 (i:=2) (v:=.bool ng) HQ.out.1 rfl
   have e3:=aa9 (i:=3) (v:=.slice la lm lc) HQ.out.1 rfl
   rw [List.length_reverse] at e1
   rw [e0,e1,e2,e3]
   have hlv:=ayy HQ.out.1
   rw [List.length_reverse] at hlv
   refine bodyPost_ret (v:=.tuple #[.agg #[.slice ra (baR R Q n).length rc,.slice pa Q.length pc,.bool ng,.slice la lm lc],.bool torn]) (ack (g:=w.heap.size) rfl rfl hlv rfl) rfl ⟨R,Q,torn,_,_,_,_,_,_,rfl,HS.out.inv,HQ.out.2.1,?_,HQ.out.2.2.2,HS.out.bel⟩
   have:=HQ.out.2.2.1
   rwa [List.length_reverse] at this
end Lm
end Go.Proofs.YtgmobkafnefpfaaGreat
namespace Go.Proofs.YtgmobkafnefpfaaGreat
namespace Lm
open Go Go.RowKit Md
def Shaped (rows:List (List Int)) (cols:Int):Prop:=0≤cols∧cols≤32∧rows.length≤64∧∀ r ∈ rows,(r.length:Int)=cols
instance (rows:List (List Int)) (cols:Int):Decidable (Shaped rows cols):=by unfold Shaped;infer_instance
set_option maxRecDepth 20000 in
set_option maxHeartbeats 4000000 in
theorem aer (w:World) (v:Value) (rows:List (List Int)) (L:Nat) (h:IsM w v rows L) (cols:Int) :
  Calls Tryz.prog 15 #[v,.int .i64 cols] w fun e w'=>e=.returned (.bool (decide (Shaped rows cols)))∧Below w.heap.size w w' := by
 obtain ⟨ao,cp,rfl,hn⟩:=h.parts
 have hb:=hAl w (.cells #[.int .i64 cols] 3)
 have hnew:=heap_alloc_new w (.cells #[.int .i64 cols] 3)
 obtain ⟨hgl,c0,_⟩:=aaw hnew
 have K:=ajj _ _ rows L (h.below hb) _ al8 #[.pointer (some ⟨w.heap.size,0,none⟩)] (fun z=>decide ((z.length:Int)≠cols)) (fun W z xv hbW _ hx=>al9 W z L xv w.heap.size cols ((hbW.block _ (aaa hnew)).trans hnew) hx)
 have K:=hide K
 have HB:=hide hb
 have hmf:∀ (fn:Fn) (first cap:Array Value) (w:World),(Instr.makeFunc fn first cap).run Tryz.prog w=.ok (.func fn first cap) w:=fun _ _ _ _=>rfl
 clear h hb hnew
 by_cases h1:0≤cols
 ·by_cases h2:cols≤32
  ·by_cases h3:rows.length≤64
   ·have h3' : ((rows.length:Int)≤64):=by omega
    go_enter Tryz.func15,Tryz.ntmps15
    go_wp2_with fail
    refine K.out.mono ?_
    rintro e w1 ⟨rfl,hb1⟩
    have HE:Hid ((!rows.any fun z=>decide ((z.length:Int)≠cols))=decide (Shaped rows cols)):=by
     show _ = _
     rw [Bool.eq_iff_iff,decide_eq_true_iff,Bool.not_eq_true',List.any_eq_false]
     constructor
     ·intro h
      exact ⟨h1,h2,h3,fun r hr=>by have:=h r hr;simpa using this⟩
     ·intro h r hr
      simpa using h.2.2.2 r hr
    have HB1:=hide (HB.out.trans (hb1.mono HB.out.size))
    clear hb1 K
    generalize (rows.any fun z=>decide ((z.length:Int)≠cols))=bb at *
    go_wp2
    refine bodyPost_ret (v:=_) (by simp [results,Tryz.results15,go_sem];try rfl) rfl ⟨by rw [HE.out],HB1.out⟩
   ·have h3' : decide ((rows.length:Int)≤64)=false:=by simp;omega
    have HE:Hid (decide (Shaped rows cols)=false):=decide_eq_false (fun h=>h3 h.2.2.1)
    clear K
    go_enter Tryz.func15,Tryz.ntmps15
    go_wp2
    refine bodyPost_ret (v:=_) (by simp [results,Tryz.results15,go_sem];try rfl) rfl ⟨by rw [HE.out],HB.out⟩
  ·have h2' : decide (cols≤32)=false:=by simp;omega
   have HE:Hid (decide (Shaped rows cols)=false):=decide_eq_false (fun h=>h2 h.2.1)
   clear K
   go_enter Tryz.func15,Tryz.ntmps15
   go_wp2
   refine bodyPost_ret (v:=_) (by simp [results,Tryz.results15,go_sem];try rfl) rfl ⟨by rw [HE.out],HB.out⟩
 ·have h1' : decide (cols ≥ 0)=false:=by simp;omega
  have HE:Hid (decide (Shaped rows cols)=false):=decide_eq_false (fun h=>h1 h.1)
  clear K
  go_enter Tryz.func15,Tryz.ntmps15
  go_wp2
  refine bodyPost_ret (v:=_) (by simp [results,Tryz.results15,go_sem];try rfl) rfl ⟨by rw [HE.out],HB.out⟩
theorem ORow.grown {K:Nat} {w w' : World} {v u:Value} {n:Nat} {xs:List Value} {z:List Int} {L:Nat} (h:ORow K w u z L) (ho:w.ownsRow K 39 1 v n xs) (hg:w.grownBy w' v.ownBlock):ORow K w' u z L:=by
 obtain ⟨_,⟨rfl,_⟩ | ⟨g,cap,cur,rfl,_,hh,_⟩⟩:=ho
 ·exact h.below ((Below.refl _ _).grown hg (Nat.le_refl _) (fun k hk=>by cases hk))
 ·exact h.tch (Tch.of_grown hg (fun k hk=>(Option.some.inj hk).symm)) hh (by decide) (by decide)
theorem OwM.app {K:Nat} {w w' : World} {v v' u:Value} {rows:List (List Int)} {vs:List Value} {z:List Int} {L:Nat} (hv:w.ownsRow K 39 1 v rows.length vs) (hr:∀ (i:Nat) (u:Value) (z:List Int),vs[i]? = some u→rows[i]? = some z→ORow K w u z L) (hu:ORow K w u z L) (ho:w'.ownsRow K 39 1 v' (rows.length+1) (vs ++ [u])) (hg:w.grownBy w' v.ownBlock):OwM K w' v' (rows ++ [z]) L:=by
 have hvl:vs.length=rows.length:=by simpa using hv.1
 refine ⟨vs ++ [u],by simpa using ho,fun i x y hx hy=>?_⟩
 by_cases hi:i<rows.length
 ·rw [List.getElem?_append_left (by omega)] at hx hy
  exact (hr i x y hx hy).grown hv hg
 ·by_cases he:i=rows.length
  ·subst he
   rw [List.getElem?_append_right (Nat.le_refl _)] at hy
   rw [List.getElem?_append_right (by omega),hvl] at hx
   simp at hx hy
   subst hx hy
   exact hu.grown hv hg
  ·rw [List.getElem?_eq_none (by simp;omega)] at hy
   cases hy
set_option maxRecDepth 20000 in
set_option maxHeartbeats 4000000 in
theorem ara (W:World) (g0:Nat) (hg0:W.heap.size=g0) (k g:Nat) (x y:Int) (xv:Value) (L M:Nat) (ng:Bool) (ao:Option Addr) (m c:Nat) (hg:W.heap[g]? = some (.cells #[.bool ng,.slice ao m c] 27 (0,0))) (hy:IsW y L (.agg #[.bool ng,.slice ao m c]) W) (hx:IsW x L xv W) (hL:L≤400000) (hM:((x / y).natAbs:Int)<pw M) :
  Calls Tryz.prog 54 #[.int .i64 (k:Int),xv,.pointer (some ⟨g,0,none⟩)] W fun e W'=>∃ v,e=.returned v∧FrW g0 (x / y) M v W'∧Below g0 W W' := by
 obtain ⟨nx,ax,mx,cx,xs,rfl,_⟩:=id hx
 have hb5:Below W.heap.size W ((W.alloc (.cells #[.bool nx,.slice ax mx cx] 27)).alloc (.cells #[.bool false,.slice none 0 0] 27)):=by (repeat' first|with_reducible(first|exact Below.refl _ _|assumption|refine gdrewN ?_ _|refine Below.alloc ?_ ?_ _|refine Below.drew ?_|refine Below.setCell ?_ ?_ _)|go_size)
 have hz5:((W.alloc (.cells #[.bool nx,.slice ax mx cx] 27)).alloc (.cells #[.bool false,.slice none 0 0] 27)).heap[W.heap.size+1]? = some (.cells #[.bool false,.slice none 0 0] 27 (0,0)):=by
  have:=heap_alloc_new (W.alloc (.cells #[.bool nx,.slice ax mx cx] 27)) (.cells #[.bool false,.slice none 0 0] 27)
  simpa using this
 have K:=af1 _ x y _ _ L L (hx.ru (Ru.of_below hb5)) (hy.ru (Ru.of_below hb5)) hL hL
 obtain ⟨hgl,d0,d1,_,_⟩:=aal hg
 replace d0:=(hb5.cell (p:=⟨g,0,none⟩) hgl).trans d0
 replace d1:=(hb5.cell (p:=⟨g,0+1,none⟩) hgl).trans d1
 rw [hg0] at hb5 hz5
 have HB5:=hide hb5
 have HZ5:=hide hz5
 have K:=hide K
 clear hx hy hb5 hz5 hg
 go_enter Tryz.func54,Tryz.ntmps54
 go_wp2_with fail
 refine K.out.mono ?_
 rintro e w6 ⟨v,rfl,hf,hb6⟩
 obtain ⟨ng6,a6,m6,c6,rfl⟩:=hf.agg
 have hz6:=(hb6.block _ (aaa HZ5.out)).trans HZ5.out
 obtain ⟨_,z0,z1,f0,f1⟩:=aal hz6
 have hb06:=HB5.out.trans (hb6.mono (by have:=HB5.out.size;omega))
 have HE:=hide (adu (K:=g0) (n:=g0) (Nat.le_succ g0) hz6 hb06 ((hf.fit hM).low (by have:=HB5.out.size;omega)))
 clear hf hb6 hz6 hb06 K
 go_wp2
 exact bodyPost_ret (v:=_) (abw (g:=g0+1) rfl rfl HE.out.2.2) rfl ⟨_,rfl,HE.out.1,HE.out.2.1⟩
theorem arb:Has Tryz.prog 54:=by unfold Has;kernel_rfl
theorem awg (zs:List Int):gRow (fun k=>zs.getD k 0 / dvs zs) zs.length=red zs:=by
 apply List.ext_getElem?
 intro k
 unfold red
 by_cases hk:k<zs.length
 ·rw [aew hk,List.getElem?_map,List.getElem?_eq_getElem hk,List.getD_eq_getElem?_getD,List.getElem?_eq_getElem hk];rfl
 ·rw [List.getElem?_eq_none (by rw [acg];omega),List.getElem?_eq_none (by simp;omega)]
end Lm
end Go.Proofs.YtgmobkafnefpfaaGreat
namespace Go.Proofs.YtgmobkafnefpfaaGreat
namespace Lm
open Go Go.RowKit Md
theorem infoSz:(Tryz.prog.info? 39).map (fun i=>(i.zero,i.size,i.bytes))=some (some (.slice none 0 0),1,24):=by kernel_rfl
set_option maxRecDepth 20000 in
set_option maxHeartbeats 8000000 in
theorem arc (w:World) (v:Value) (rows:List (List Int)) (L:Nat) (h:IsM w v rows L) (hr:∀ r ∈ rows,r.length≤1000000) (hl:rows.length≤1000000) (hL:L≤100000) :
  Calls Tryz.prog 26 #[v] w fun e w'=>Below w.heap.size w w'∧(((∃ r ∈ rows,(red r).any big=true)∧e=.returned (.tuple #[.slice none 0 0,.int .i64 2]))∨((∀ r ∈ rows,(red r).any big=false)∧∃ rv,e=.returned (.tuple #[rv,.int .i64 0])∧OwM w.heap.size w' rv (rows.map red) L)):=by
 obtain ⟨ao,cp,rfl,hn⟩:=h.parts
 obtain ⟨iW,hi,hz0,hz1,hz2⟩:=info_parts infoSz
 have H:=hide h
 have HR:=hide hr
 have hmf:∀ (fn:Fn) (first cap:Array Value) (w:World),(Instr.makeFunc fn first cap).run Tryz.prog w=.ok (.func fn first cap) w:=fun _ _ _ _=>rfl
 clear h hr
 go_enter Tryz.func26,Tryz.ntmps26
 go_wp2
 go_loopw [4,6,8,11] (fun ov _ _ iv wr=>∃ (k:Nat),iv=.int .i64 k∧k≤rows.length∧Below w.heap.size w wr∧(∀ r ∈ rows.take k,(red r).any big=false)∧OwM w.heap.size wr ov ((rows.take k).map red) L) (fun _ _ _ iv _=>rows.length - (intOf iv).toNat)
 case atStart=>exact ⟨0,rfl,Nat.zero_le _,Below.refl _ _,fun r hr=>(by simp at hr),⟨[],World.ownsRow_nil _ _ _ _,fun i u z hu=>(by simp at hu)⟩⟩
 case round =>
  obtain ⟨k,rfl,hk,hbw,hall,hO⟩:=hrel
  obtain ⟨oa,oc,rfl,_⟩:=hO.is.parts
  have HW:=hide hbw
  have HA:=hide hall
  have HO:=hide hO
  by_cases hlt:k<rows.length
  ·obtain ⟨r,hr⟩:∃ r,rows[k]? = some r:=⟨_,List.getElem?_eq_getElem hlt⟩
   have hrl:=HR.out r (List.mem_of_getElem? hr)
   obtain ⟨b,off,u,rfl,hbl,x0,hx⟩:=H.out.cell hr
   replace x0:=(hbw.cell (p:=⟨b,off+k,none⟩) hbl).trans x0
   have hlt' : (k:Int)<(rows.length:Int):=by omega
   have hx' := hx.below hbw
   have KD:=hide (akr wr u r L hx' hL)
   obtain ⟨ua,uc,rfl,_⟩:=hx.parts
   have HX:=hide hx'
   have HRr:=hide hr
   clear hbw hall hO hx hr hx'
   go_wp2_with fail
   refine KD.out.mono ?_
   rintro e w1 ⟨v1,rfl,h1,hb1⟩
   obtain ⟨ng1,a1,m1,c1,rfl⟩:∃ ng ao n cap,v1=.agg #[.bool ng,.slice ao n cap]:=by obtain ⟨ng,ao,cap,rs,rfl,_⟩:=h1;exact ⟨_,_,_,_,rfl⟩
   have hba:=hAl w1 (.cells #[.bool ng1,.slice a1 m1 c1] 27)
   have hnew:=heap_alloc_new w1 (.cells #[.bool ng1,.slice a1 m1 c1] 27)
   have hb2:=hb1.trans (hba.mono hb1.size)
   have hbz:∀ z ∈ r,((z / dvs r).natAbs:Int)<pw L:=fun z hz=>ayb (adt HX.out z hz)
   have hT:Turn (w1.alloc (.cells #[.bool ng1,.slice a1 m1 c1] 27)) 54 #[.pointer (some ⟨w1.heap.size,0,none⟩)] r L L (fun k=>r.getD k 0 / dvs r):=by
    refine (show ∀ (W:World) (c' : Nat) (z:Int) (xv:Value),_→_→_→_ from ?_)
    intro W k' z xv hb hz hx
    have hzd:r.getD k' 0=z:=by rw [List.getD_eq_getElem?_getD,hz];rfl
    have hbW:=hba.trans (hb.mono hba.size)
    have:=ara W W.heap.size rfl k' w1.heap.size z (dvs r) xv L L ng1 a1 m1 c1 ((hb.block _ (aaa hnew)).trans hnew) (h1.is.ru (Ru.of_below hbW)) hx (by omega) (hbz z (List.mem_of_getElem? hz))
    rw [show (fun k=>r.getD k 0 / dvs r) k' = z / dvs r by show r.getD k' 0 / dvs r = _;rw [hzd]]
    exact this
   have KT:=ado _ _ r L L (HX.out.below hb2) hrl _ arb _ _ hT
   rw [awg] at KT
   have KT:=hide KT
   have HB2:=hide hb2
   clear h1 hb1 hba hnew hb2 hbz hT KD x0
   go_wp2_with fail
   refine KT.out.mono ?_
   rintro e w3 ⟨r3,rfl,h3,hb3⟩
   have hb03:=HB2.out.trans (hb3.mono HB2.out.size)
   have KL:=hide (as6 w3 r3 (red r) L h3.is (by omega))
   obtain ⟨bl3,rfl,_⟩:=id h3
   have H3:=hide h3
   have HB3:=hide hb03
   have hsz3:=hb3.size
   have hsz2:=HB2.out.size
   clear h3 hb3 hb03 KT
   generalize hw2:w1.alloc (.cells #[.bool ng1,.slice a1 m1 c1] 27)=w2 at *
   clear hw2
   go_wp2_with fail
   refine KL.out.mono ?_
   rintro e w4 ⟨rfl,hb4⟩
   have HB4:=hide (HB3.out.trans (hb4.mono HB3.out.size))
   have H4:=hide ((H3.out.below hb4).low (Nat.le_trans HW.out.size hsz2))
   obtain ⟨bb,hbb⟩:∃ b,(red r).any big=b:=⟨_,rfl⟩
   rw [hbb]
   have HBB:=hide hbb
   clear hb4 KL hbb
   cases bb with
   | true =>
    go_wp2
    refine bodyPost_ret (v:=_) (by simp [results,Tryz.results26,go_sem];try rfl) rfl ⟨HW.out.trans (HB4.out.mono HW.out.size),.inl ⟨⟨r,List.mem_of_getElem? HRr.out,HBB.out⟩,rfl⟩⟩
   | false =>
    obtain ⟨vs,hvs,hvr⟩:=HO.out.below HB4.out
    have HV:=hide (And.intro hvs hvr)
    have hll:((rows.take k).map red).length=k:=by simp;omega
    rw [hll] at hvs
    have hbl4:=hAl w4 (.cells #[.slice (some ⟨bl3,0,none⟩) (red r).length (red r).length] 39)
    have hlow:=Nat.le_trans HW.out.size HB4.out.size
    clear hvr
    go_wp2_with (at_builtin;refine wpList_append_own _ rfl (.tmp 22) (.tmp 24) 22 rfl w.heap.size 39 iW (.slice none 0 0) 1 24 Tryz.underlying22 hi hz0 hz1 hz2 rfl (by decide) _ _ _ rfl (hvs.alloc _) ⟨w4.heap.size,0,none⟩ 1 1 [.slice (some ⟨bl3,0,none⟩) (red r).length (red r).length] rfl rfl (cell_one_new _ _ _) ?c2 ?c3 ?c4 ?c5 ?_)
    case c2=>first | rfl | (intro x hx;simp at hx;subst hx;rfl)
    case c3=>unfold maxLen;omega
    case c4=>omega
    case c5=>simp;omega
    intro v5 w5 hown5 hgrow5 _
    have hg4:=World.grownBy_alloc w4 (.cells #[.slice (some ⟨bl3,0,none⟩) (red r).length (red r).length] 39) (Value.slice oa k oc).ownBlock
    obtain ⟨hv1,hv2⟩:=HV.out
    rw [hll] at hv1
    have hA:=OwM.app (v:=.slice oa k oc) (rows:=(rows.take k).map red) (by rw [hll];exact hv1.alloc _) (fun i u z a b=>(hv2 i u z a b).below hbl4) (H4.out.below hbl4) (by rw [hll];exact hown5) hgrow5
    have hbx:Below w.heap.size w w5:=(HW.out.trans (HB4.out.mono HW.out.size)).trans ((hbl4.mono hlow).trans ((Below.refl _ _).grown hgrow5 (Nat.le_trans hlow hbl4.size) (fun j hj=>(hv1.lt j hj).1)))
    have e1:(rows.take k).map red ++ [red r]=(rows.take (k+1)).map red:=by rw [List.take_add_one,HRr.out];simp
    rw [e1] at hA
    have HFin:=hide (And.intro hA hbx)
    clear hown5 hgrow5 hg4 hv1 hv2 hA hbx hvs hbl4
    go_wp2
    go_roundw
    case rel =>
     refine ⟨k+1,by go_num,by omega,HFin.out.2,fun r' hr'=>?_,HFin.out.1⟩
     rcases (aby HRr.out).1 hr' with h | rfl
     ·exact HA.out r' h
     ·exact HBB.out
    case measure=>simp [intOf];omega
  ·have hlt' : decide ((k:Int)<(rows.length:Int))=false:=by simp;omega
   have hkn:k=rows.length:=by omega
   subst hkn
   rw [List.take_length] at HA HO
   clear hbw hall hO
   go_wp2
   refine bodyPost_ret (v:=_) (by simp [results,Tryz.results26,go_sem];try rfl) rfl ⟨HW.out,.inr ⟨HA.out,_,rfl,HO.out⟩⟩
end Lm
end Go.Proofs.YtgmobkafnefpfaaGreat
namespace Go.Proofs.YtgmobkafnefpfaaGreat
namespace Lm
open Go Go.RowKit Md
def Ech (n:Nat) (rows:List (List Int)) (R:List Md.Rw) (Q:List Nat):Prop:=GatI n n rows rows.length R Q false
theorem GatI.whole {n:Nat} {rows:List (List Int)} {k:Nat} {R:List Md.Rw} {Q:List Nat} {torn:Bool} (h:GatI n n rows k R Q torn):torn=false:=by
 cases torn with
 | false=>rfl
 | true =>
  obtain ⟨y,h1,⟨c,h2,h3⟩,_⟩:=h.tor rfl
  exact absurd (h1 c h2) h3
theorem OwM.low {K K' : Nat} {w:World} {rv:Value} {rows:List (List Int)} {L:Nat} (h:OwM K w rv rows L) (hk:K'≤K):OwM K' w rv rows L:=by
 obtain ⟨vs,h1,h2⟩:=h
 exact ⟨vs,ak7 h1 hk,fun i u z a b=>(h2 i u z a b).low hk⟩
theorem am0 (R:List Md.Rw) (Q:List Nat) (n:Nat):(baR R Q n).length=Q.length:=by simp [baR]
theorem awh {R:List Md.Rw} {Q:List Nat} {n:Nat} : ∀ r ∈ baR R Q n,r.length=n:=by
 intro r hr
 obtain ⟨p,_,rfl⟩:=List.mem_map.1 hr
 exact acg _ _
theorem Ech.len {n:Nat} {rows:List (List Int)} {R:List Md.Rw} {Q:List Nat} (h:Ech n rows R Q):Q.length≤n:=agj h.gat.desc h.gat.lt
theorem ai8 (w:World) (v:Value) (rows:List (List Int)) (n L0:Nat) (h:IsM w v rows L0) (hs:Shaped rows (n:Int)) (hL0:L0≤1510) :
  Calls Tryz.prog 16 #[v,.int .i64 (n:Int)] w fun e w'=>∃ R Q ra rc pa pc ng la lm lc,e=.returned (.tuple #[.agg #[.slice ra Q.length rc,.slice pa Q.length pc,.bool ng,.slice la lm lc],.bool false])∧Ech n rows R Q∧OwM w.heap.size w' (.slice ra Q.length rc) (baR R Q n) (lg L0)∧OwP w.heap.size w' (.slice pa Q.length pc) Q.reverse∧FrW w.heap.size (D R Q) (lg L0) (.agg #[.bool ng,.slice la lm lc]) w'∧Below w.heap.size w w' := by
 refine (ame w v rows n n L0 h (fun r hr=>by have:=hs.2.2.2 r hr;omega) (Nat.le_refl _) (by have:=hs.2.1;omega) (by have:=hs.2.1;omega) hL0).mono ?_
 rintro e w' ⟨R,Q,torn,rv,pv,ng,la,lm,lc,rfl,hg,hM,hP,hF,hb⟩
 obtain rfl:=hg.whole
 obtain ⟨ra,rc,rfl,_⟩:=hM.is.parts
 obtain ⟨pa,pc,rfl,_⟩:=hP.is.parts
 rw [am0] at hM ⊢
 rw [List.length_reverse] at hP ⊢
 exact ⟨R,Q,ra,rc,pa,pc,ng,la,lm,lc,rfl,hg,hM,hP,hF,hb⟩
def EchOut (K:Nat) (w' : World) (n L0:Nat) (rows:List (List Int)) (e:Ending):Prop:=∃ R Q,Ech n rows R Q∧(((∃ r ∈ baR R Q n,(red r).any big=true)∧e=.returned (.tuple #[.slice none 0 0,.int .i64 2]))∨((∀ r ∈ baR R Q n,(red r).any big=false)∧∃ rv,e=.returned (.tuple #[rv,.int .i64 0])∧OwM K w' rv ((baR R Q n).map red) (lg L0)))
set_option maxRecDepth 20000 in
set_option maxHeartbeats 8000000 in
theorem ak8 (w:World) (v:Value) (rows:List (List Int)) (n L0:Nat) (h:IsM w v rows L0) (hs:Shaped rows (n:Int)) (hL0:L0≤1510) :
  Calls Tryz.prog 11 #[v,.int .i64 (n:Int)] w fun e w'=>EchOut w.heap.size w' n L0 rows e∧Below w.heap.size w w' := by
 have K0:=aer w v rows L0 h (n:Int)
 rw [decide_eq_true hs] at K0
 have K0:=hide K0
 have K1:Hid (∀ w1,Below w.heap.size w w1→_):=(fun w1 hb=>ai8 w1 v rows n L0 (h.below hb) hs hL0)
 obtain ⟨ao,cp,rfl,hn⟩:=h.parts
 have hn32:=hs.2.1
 clear h hs
 go_enter Tryz.func11,Tryz.ntmps11
 go_wp2_with fail
 refine K0.out.mono ?_
 rintro e w1 ⟨rfl,hb1⟩
 have K2:=hide (K1.out w1 hb1)
 have HB1:=hide hb1
 clear hb1 K0
 go_wp2_with fail
 refine K2.out.mono ?_
 rintro e w2 ⟨R,Q,ra,rc,pa,pc,ng,la,lm,lc,rfl,hE,hM,hP,hF,hb2⟩
 have hba:=hAl w2 (.cells #[.slice ra Q.length rc,.slice pa Q.length pc,.bool ng,.slice la lm lc] 45)
 have KT:=arc (w2.alloc (.cells #[.slice ra Q.length rc,.slice pa Q.length pc,.bool ng,.slice la lm lc] 45)) (.slice ra Q.length rc) (baR R Q n) (lg L0) (hM.is.below hba) (fun r hr=>by rw [awh r hr];omega) (by rw [am0];have:=hE.len;omega) (by unfold lg;omega)
 have KT:=hide KT
 have HE:=hide hE
 have hb02:=HB1.out.trans (hb2.mono HB1.out.size)
 have HB3:=hide (hb02.trans (hba.mono hb02.size))
 clear hE hM hP hF hb2 hba hb02 K1 K2
 go_wp2_with fail
 refine KT.out.mono ?_
 rintro e w3 ⟨hb3,⟨hex,rfl⟩ | ⟨hal,rv,rfl,hO⟩⟩
 ·have HB:=hide (HB3.out.trans (hb3.mono HB3.out.size))
  have HX:=hide hex
  clear hb3 hex KT
  go_wp2
  refine bodyPost_ret (v:=_) (by simp [results,Tryz.results11,go_sem];try rfl) rfl ⟨⟨R,Q,HE.out,.inl ⟨HX.out,rfl⟩⟩,HB.out⟩
 ·have HB:=hide (HB3.out.trans (hb3.mono HB3.out.size))
  have HX:=hide hal
  have HO:=hide (hO.low HB3.out.size)
  obtain ⟨oa,oc,rfl,_⟩:=hO.is.parts
  clear hb3 hal hO KT
  go_wp2
  refine bodyPost_ret (v:=_) (by simp [results,Tryz.results11,go_sem];try rfl) rfl ⟨⟨R,Q,HE.out,.inr ⟨HX.out,_,rfl,HO.out⟩⟩,HB.out⟩
end Lm
end Go.Proofs.YtgmobkafnefpfaaGreat
namespace Go.Proofs.YtgmobkafnefpfaaGreat
namespace Lm
open Go Go.RowKit Md
def DetOut (K:Nat) (w' : World) (n L0:Nat) (rows:List (List Int)) (e:Ending):Prop:=∃ R Q,Ech n rows R Q∧((Q.length<n∧e=.returned (.tuple #[.agg #[.bool false,.slice none 0 0],.int .i64 0]))∨(Q.length=n∧big (D R Q)=true∧e=.returned (.tuple #[.agg #[.bool false,.slice none 0 0],.int .i64 2]))∨(Q.length=n∧big (D R Q)=false∧∃ r,e=.returned (.tuple #[r,.int .i64 0])∧FrW K (D R Q) (lg L0) r w'))
set_option maxRecDepth 20000 in
set_option maxHeartbeats 8000000 in
theorem atl (w:World) (v:Value) (rows:List (List Int)) (n L0:Nat) (h:IsM w v rows L0) (hs:Shaped rows (n:Int)) (hsq:rows.length=n) (hL0:L0≤1510) :
  Calls Tryz.prog 6 #[v,.int .i64 (n:Int)] w fun e w'=>DetOut w.heap.size w' n L0 rows e∧Below w.heap.size w w' := by
 have hb0:=hAl w (.cells #[.bool false,.slice none 0 0] 27)
 have hn0:=heap_alloc_new w (.cells #[.bool false,.slice none 0 0] 27)
 have K0:=aer _ v rows L0 (h.below hb0) (n:Int)
 rw [decide_eq_true hs] at K0
 have K0:=hide K0
 have K1:Hid (∀ w1,Below w.heap.size w w1→_):=(fun w1 hb=>ai8 w1 v rows n L0 (h.below hb) hs hL0)
 obtain ⟨ao,cp,rfl,hn⟩:=h.parts
 have HB0:=hide hb0
 have HN0:=hide hn0
 rw [hsq]
 clear h hs hb0 hn0
 have hnn:((n:Int) != (n:Int))=false:=by simp
 go_enter Tryz.func6,Tryz.ntmps6
 go_wp2_with fail
 rw [hsq] at K0
 refine K0.out.mono ?_
 rintro e w1 ⟨rfl,hb1⟩
 have hb01:=HB0.out.trans (hb1.mono HB0.out.size)
 have K2:=K1.out w1 hb01
 rw [hsq] at K2
 have K2:=hide K2
 have HB1:=hide hb01
 have HN1:=hide ((hb1.block _ (aaa HN0.out)).trans HN0.out)
 clear hb1 hb01 K0
 go_wp2_with fail
 refine K2.out.mono ?_
 rintro e w2 ⟨R,Q,ra,rc,pa,pc,ng,la,lm,lc,rfl,hE,hM,hP,hF,hb2⟩
 have hba:=hAl w2 (.cells #[.slice ra Q.length rc,.slice pa Q.length pc,.bool ng,.slice la lm lc] 45)
 have HE:=hide hE
 have hle:=hE.len
 have hb02:=HB1.out.trans (hb2.mono HB1.out.size)
 have HB3:=hide (hb02.trans (hba.mono hb02.size))
 have hn3:=((hb2.trans (hba.mono hb2.size)).block _ (aaa HN1.out)).trans HN1.out
 have HN3:=hide hn3
 have HF:=hide (hF.ru (Ru.of_below hba))
 obtain ⟨hl3,x0,x1,f0,f1⟩:=aal hn3
 clear hE hM hP hF hb2 hb02 K1 K2 hn3
 by_cases hlt:Q.length<n
 ·have hlt' : (Q.length:Int)<(n:Int):=by omega
  have e0:=aa9 (i:=0) (v:=.bool false) HN3.out rfl
  have e1:=aa9 (i:=1) (v:=.slice none 0 0) HN3.out rfl
  have E0:=hide (And.intro e0 e1)
  clear hba e0 e1
  go_wp2
  rw [E0.out.1,E0.out.2]
  exact bodyPost_ret (v:=.tuple #[.agg #[.bool false,.slice none 0 0],.int .i64 0]) (ack (g:=w.heap.size) rfl rfl (lvw2 HN3.out) rfl) rfl ⟨⟨R,Q,HE.out,.inl ⟨hlt,rfl⟩⟩,HB3.out⟩
 ·have hlt' : decide ((Q.length:Int)<(n:Int))=false:=by simp;omega
  have KL:=hide (limbsF _ (D R Q) (lg L0) _ HF.out.is (by unfold lg;omega))
  go_wp2_with fail
  refine KL.out.mono ?_
  rintro e w4 ⟨m,rfl,hm,hb4⟩
  have hbg:decide ((m:Int) > 32)=big (D R Q):=by
   unfold big
   by_cases h:m≤32
   ·rw [decide_eq_false (by omega),decide_eq_false (not_not_intro (hm.1 h))]
   ·rw [decide_eq_true (by omega),decide_eq_true (p:=¬ ((D R Q).natAbs:Int)<pw 32) (fun e=>h (hm.2 e))]
  have hn4:=(hb4.block _ (aaa HN3.out)).trans HN3.out
  have HN4:=hide hn4
  have HB4:=hide (HB3.out.trans (hb4.mono HB3.out.size))
  have HF4:=hide ((HF.out.ru (Ru.of_below hb4)).low (by have:=HB1.out.size;omega))
  obtain ⟨hl4,z0,z1,g0,g1⟩:=aal hn4
  have hq4:=(hb4.block _ (aaa (heap_alloc_new w2 (.cells #[.slice ra Q.length rc,.slice pa Q.length pc,.bool ng,.slice la lm lc] 45)))).trans (heap_alloc_new w2 _)
  have d2:w4.cell? ⟨w2.heap.size,2,none⟩ = some (.bool ng):=by rw [cell_of_row _ _ _ _ _ (0,0) hq4];rfl
  have d3:w4.cell? ⟨w2.heap.size,3,none⟩ = some (.slice la lm lc):=by rw [cell_of_row _ _ _ _ _ (0,0) hq4];rfl
  have HBG:=hide hbg
  obtain ⟨bb,hbb⟩:∃ b,big (D R Q)=b:=⟨_,rfl⟩
  rw [hbb] at hbg
  have HBB:=hide hbb
  clear hm hb4 KL hba x0 x1 f0 f1 hn4 hq4 hbb
  cases bb with
  | true =>
   have h32:(m:Int) > 32:=of_decide_eq_true hbg
   have e0:=aa9 (i:=0) (v:=.bool false) HN4.out rfl
   have e1:=aa9 (i:=1) (v:=.slice none 0 0) HN4.out rfl
   have E0:=hide (And.intro e0 e1)
   clear e0 e1 hbg
   go_wp2
   rw [E0.out.1,E0.out.2]
   exact bodyPost_ret (v:=.tuple #[.agg #[.bool false,.slice none 0 0],.int .i64 2]) (ack (g:=w.heap.size) rfl rfl (lvw2 HN4.out) rfl) rfl ⟨⟨R,Q,HE.out,.inr (.inl ⟨by omega,HBB.out,rfl⟩)⟩,HB4.out⟩
  | false =>
   have X:=hide (And.intro (lvw2 (abz HN4.out (.bool ng) (.slice la lm lc))) (And.intro (HF4.out.ru (act HN4.out (.bool ng) (.slice la lm lc))) (show Below w.heap.size w ((w4.setCell ⟨w.heap.size,0,none⟩ (.bool ng)).setCell ⟨w.heap.size,1,none⟩ (.slice la lm lc)) from (HB4.out.setCell (Nat.le_refl _) _).setCell (Nat.le_refl _) _)))
   go_wp2
   exact bodyPost_ret (v:=.tuple #[.agg #[.bool ng,.slice la lm lc],.int .i64 0]) (ack (g:=w.heap.size) rfl rfl X.out.1 rfl) rfl ⟨⟨R,Q,HE.out,.inr (.inr ⟨by omega,HBB.out,_,rfl,X.out.2.1⟩)⟩,X.out.2.2⟩
end Lm
end Go.Proofs.YtgmobkafnefpfaaGreat
namespace Go.Proofs.YtgmobkafnefpfaaGreat
namespace Lm
open Go Go.RowKit Md
theorem Ech.rows_in {n:Nat} {rows:List (List Int)} {R:List Md.Rw} {Q:List Nat} (h:Ech n rows R Q) {r:List Int} (hr:r ∈ rows):RS R (fnR r):=h.inr rfl r (by rw [List.take_length];exact hr)
theorem Ech.mem {n:Nat} {rows:List (List Int)} {R:List Md.Rw} {Q:List Nat} (h:Ech n rows R Q) {x:Md.Rw} (hx:x ∈ R):∃ r ∈ rows,x=fnR r:=by
 have:=h.sub x hx
 rwa [List.take_length] at this
theorem Ech.all_in {n:Nat} {rows rows' : List (List Int)} {R R' : List Md.Rw} {Q Q' : List Nat} (h:Ech n rows R Q) (h' : Ech n rows' R' Q') (h1:∀ r ∈ rows,RS (rows'.map fnR) (fnR r)):∀ e ∈ efOf R Q,RS (rowsE (efOf R' Q')) e.2:=by
 intro e he
 refine h'.gat.in_ef ?_
 refine RS.trans (RS.of (h.gat.ef_in e he)) (fun y hy=>?_)
 obtain ⟨r,hr,rfl⟩:=h.mem hy
 refine (h1 r hr).trans (fun z hz=>?_)
 obtain ⟨s,hs,rfl⟩:=List.mem_map.1 hz
 exact h'.rows_in hs
theorem atm {a b:Int} (ha:a≠0) (hb:b≠0) {n:Nat} {f g:Nat→Int} (h:∀ k,a*f k=b*g k):red (gRow f n)=red (gRow g n):=by
 rw [←ai6 a ha (gRow f n),←ai6 b hb (gRow g n),aha,aha]
 congr 1
 exact ac8 (fun k _=>h k)
theorem ak9 {n:Nat} {rows rows' : List (List Int)} {R R' : List Md.Rw} {Q Q' : List Nat} (h:Ech n rows R Q) (h' : Ech n rows' R' Q') (h1:∀ r ∈ rows,RS (rows'.map fnR) (fnR r)) (h2:∀ r ∈ rows',RS (rows.map fnR) (fnR r)):Q=Q'∧(baR R Q n).map red=(baR R' Q' n).map red:=by
 obtain ⟨e1,e2⟩:=avr h.gat.ef h'.gat.ef (h.all_in h' h1) (h'.all_in h h2)
 have hQ:∀ (R:List Md.Rw) (Q:List Nat),(efOf R Q).map Prod.fst=Q.reverse:=fun R Q=>by
  unfold efOf
  rw [List.map_map]
  exact List.map_id _
 rw [hQ,hQ,List.reverse_inj] at e1
 subst e1
 refine ⟨rfl,?_⟩
 unfold baR
 rw [List.map_map,List.map_map]
 apply List.map_congr_left
 intro p hp
 have m1:(p,fun k=>D R (sub p k Q)) ∈ efOf R Q:=List.mem_map.2 ⟨p,hp,rfl⟩
 have m2:(p,fun k=>D R' (sub p k Q)) ∈ efOf R' Q:=List.mem_map.2 ⟨p,hp,rfl⟩
 exact atm (h'.gat.ef.ne _ m2) (h.gat.ef.ne _ m1) (e2 _ m1 _ m2 rfl)
theorem awi {rows:List (List Int)} : (∃ r ∈ rows,(red r).any big=true)↔∃ r ∈ rows.map red,r.any big=true:=by
 constructor
 ·rintro ⟨r,h1,h2⟩
  exact ⟨_,List.mem_map.2 ⟨r,h1,rfl⟩,h2⟩
 ·rintro ⟨r,h1,h2⟩
  obtain ⟨s,h3,rfl⟩:=List.mem_map.1 h1
  exact ⟨s,h3,h2⟩
theorem atn {rows:List (List Int)} : (∀ r ∈ rows,(red r).any big=false)↔∀ r ∈ rows.map red,r.any big=false:=by
 constructor
 ·intro h r hr
  obtain ⟨s,h3,rfl⟩:=List.mem_map.1 hr
  exact h s h3
 ·intro h r hr
  exact h _ (List.mem_map.2 ⟨r,hr,rfl⟩)
def awA:List (List Int):=[[2,4,2],[1,2,3]]
theorem ard:Ech 3 awA [fnR [1,2,3],fnR [2,4,2]] [2,0]:=by
 refine ⟨⟨by decide,by decide,by decide +kernel,?_⟩,rfl,?_,?_,fun h=>(by cases h),List.Sublist.refl _⟩
 ·intro p hp k hk
  have hp' : p=2∨p=0:=by simpa using hp
  rcases hp' with rfl | rfl
  ·have hk' : k=0∨k=1:=by omega
   rcases hk' with rfl | rfl <;> decide +kernel
  ·omega
 ·intro x hx
  simp only [List.mem_cons,List.not_mem_nil,or_false] at hx
  rcases hx with rfl | rfl
  ·exact ⟨_,by decide,rfl⟩
  ·exact ⟨_,by decide,rfl⟩
 ·intro _ r hr
  have hr' : r = [2,4,2]∨r = [1,2,3]:=by simpa [awA] using hr
  rcases hr' with rfl | rfl
  ·exact .mem (by simp)
  ·exact .mem (by simp)
theorem arf:(baR [fnR [1,2,3],fnR [2,4,2]] [2,0] 3).map red = [[1,2,0],[0,0,1]]:=by decide +kernel
end Lm
end Go.Proofs.YtgmobkafnefpfaaGreat
namespace Go.Proofs.YtgmobkafnefpfaaGreat
namespace Lm
open Go Go.RowKit Md
def RwM (w:World) (v:Value) (ess:List (List WE)):Prop:=∃ vs:List Value,Ce w v 1 ess.length vs∧∀ (i:Nat) (u:Value) (es:List WE),vs[i]? = some u→ess[i]? = some es→Rw w u es
def zsM (ess:List (List WE)):List (List Int):=ess.map (fun es=>es.map WE.z)
def lenM:List (List WE)→Nat
 | []=>0
 | es :: l=>1+lenW es+lenM l
theorem amf (a b:List (List WE)):lenM (a ++ b)=lenM a+lenM b:=by
 induction a with
 | nil=>simp [lenM]
 | cons e a ih=>rw [List.cons_append,lenM,lenM,ih];omega
theorem arg {ess:List (List WE)} {k:Nat} {es:List WE} (h:ess[k]? = some es):lenM (ess.take (k+1))=lenM (ess.take k)+(1+lenW es):=by
 rw [List.take_add_one,h,amf]
 simp [lenM]
theorem ahb {ess:List (List WE)} {es:List WE} (h:es ∈ ess):1+lenW es≤lenM ess:=by
 induction ess with
 | nil=>cases h
 | cons e l ih =>
  rw [lenM]
  rcases List.mem_cons.1 h with rfl | h
  ·omega
  ·have:=ih h;omega
theorem RwM.below {w w' : World} {v:Value} {ess:List (List WE)} (h:RwM w v ess) (hb:Below w.heap.size w w'):RwM w' v ess:=by
 obtain ⟨vs,h1,h2⟩:=h
 exact ⟨vs,h1.below hb,fun i u es a b=>(h2 i u es a b).below hb⟩
theorem RwM.parts {w:World} {v:Value} {ess:List (List WE)} (h:RwM w v ess):∃ ao cap,v=.slice ao ess.length cap∧ess.length≤9223372036854775807:=by
 obtain ⟨vs,⟨ao,cap,rfl,h1,h2,_⟩,_⟩:=h
 exact ⟨ao,cap,rfl,by omega⟩
theorem RwM.cell {w:World} {ao:Option Addr} {n cap:Nat} {ess:List (List WE)} {i:Nat} {es:List WE} (h:RwM w (.slice ao n cap) ess) (hz:ess[i]? = some es):∃ b off u,ao=some ⟨b,off,none⟩∧b<w.heap.size∧w.cell? ⟨b,off+i,none⟩ = some u∧Rw w u es:=by
 obtain ⟨vs,⟨ao',cap',hv,h1,h2,h3,h4⟩,h5⟩:=h
 obtain ⟨rfl,rfl,rfl⟩:=(Value.slice.injEq .. ▸ hv)
 have hi:i<ess.length:=(List.getElem?_eq_some_iff.1 hz).1
 obtain ⟨u,hu⟩:∃ u,vs[i]? = some u:=⟨_,List.getElem?_eq_getElem (by omega)⟩
 rcases h4 with h4 | ⟨b,off,rfl,hl,hc⟩
 ·omega
 ·exact ⟨b,off,u,rfl,hl,hc i u hu,h5 i u es hu hz⟩
theorem ala {w:World} {v:Value} {es:List WE} (h:Rw w v es) {L:Nat} (hl:lenW es≤L):IsRow w v (es.map WE.z) L:=by
 refine ⟨es,h,rfl,fun e he=>?_⟩
 have h1:=akn he
 have h2:=(h.sl e he).parts
 omega
theorem RwM.isM {w:World} {v:Value} {ess:List (List WE)} (h:RwM w v ess) {L:Nat} (hl:lenM ess≤L):IsM w v (zsM ess) L:=by
 obtain ⟨vs,h1,h2⟩:=h
 refine ⟨vs,by unfold zsM;rw [List.length_map];exact h1,fun i u z a b=>?_⟩
 unfold zsM at b
 rw [List.getElem?_map] at b
 obtain ⟨es,hes,rfl⟩:=Option.map_eq_some_iff.1 b
 exact ala (h2 i u es a hes) (by have:=ahb (List.mem_of_getElem? hes);omega)
theorem Rw.slc {w:World} {v:Value} {es:List WE} (h:Rw w v es):∃ a c,v=.slice a es.length c:=by
 obtain ⟨⟨ao,cap,rfl,_⟩,_⟩:=h
 exact ⟨_,_,rfl⟩
def CanM (w:World) (v:Value) (rows:List (List Int)) (L:Nat):Prop:=∃ vs:List Value,Ce w v 1 rows.length vs∧∀ (i:Nat) (u:Value) (z:List Int),vs[i]? = some u→rows[i]? = some z→CanRow w u z L
theorem CanM.below {w w' : World} {v:Value} {rows:List (List Int)} {L:Nat} (h:CanM w v rows L) (hb:Below w.heap.size w w'):CanM w' v rows L:=by
 obtain ⟨vs,h1,h2⟩:=h
 exact ⟨vs,h1.below hb,fun i u z a b=>(h2 i u z a b).below hb⟩
theorem CanM.parts {w:World} {v:Value} {rows:List (List Int)} {L:Nat} (h:CanM w v rows L):∃ ao cap,v=.slice ao rows.length cap∧rows.length≤9223372036854775807:=by
 obtain ⟨vs,⟨ao,cap,rfl,h1,h2,_⟩,_⟩:=h
 exact ⟨ao,cap,rfl,by omega⟩
theorem CanM.cell {w:World} {ao:Option Addr} {n cap:Nat} {rows:List (List Int)} {L i:Nat} {z:List Int} (h:CanM w (.slice ao n cap) rows L) (hz:rows[i]? = some z):∃ b off u,ao=some ⟨b,off,none⟩∧b<w.heap.size∧w.cell? ⟨b,off+i,none⟩ = some u∧CanRow w u z L:=by
 obtain ⟨vs,⟨ao',cap',hv,h1,h2,h3,h4⟩,h5⟩:=h
 obtain ⟨rfl,rfl,rfl⟩:=(Value.slice.injEq .. ▸ hv)
 have hi:i<rows.length:=(List.getElem?_eq_some_iff.1 hz).1
 obtain ⟨u,hu⟩:∃ u,vs[i]? = some u:=⟨_,List.getElem?_eq_getElem (by omega)⟩
 rcases h4 with h4 | ⟨b,off,rfl,hl,hc⟩
 ·omega
 ·exact ⟨b,off,u,rfl,hl,hc i u hu,h5 i u z hu hz⟩
theorem OwM.can {K:Nat} {w:World} {rv:Value} {rows:List (List Int)} {L:Nat} (h:OwM K w rv rows L):CanM w rv rows L:=by
 obtain ⟨vs,h1,h2⟩:=h
 exact ⟨vs,Ce.own h1,fun i u z a b=>(h2 i u z a b).can⟩
theorem CanRow.slc {w:World} {v:Value} {z:List Int} {L:Nat} (h:CanRow w v z L):∃ a c,v=.slice a z.length c:=by
 obtain ⟨es,h1,h2,_⟩:=h
 obtain ⟨a,c,rfl⟩:=h1.slc
 exact ⟨a,c,by rw [h2]⟩
theorem arh:Has Tryz.prog 28:=by unfold Has;kernel_rfl
theorem aol {dst:Option Tmp} {ty:TypeId} {pos:String} {after:Array Edge} {guard:Option (Nat × Bool)} {a:Act} {w:World} {ats:Array TypeId} {i j L M:Nat} {v v' : Value} {zs:List Int} (h1:a.eval (.tmp i)=v) (h2:a.eval (.tmp j)=v') (c1:CanRow w v zs L) (c2:CanRow w v' zs M) :
  Does Tryz.prog { dst,op:=.call { callee:=.value (.func 28),args:=#[.tmp i,.tmp j],argTypes:=ats },type:=ty,pos,after,guard } a.eval w fun v' w'=>Below w.heap.size w w'∧Eqs (.bool true) v' w' :=
 aas arh #[v,v'] (by simp [h1,h2]) ((ama w v v' zs L M c1 c2).mono fun e w' ⟨he,hb⟩=>⟨_,he,hb,rfl⟩)
set_option maxRecDepth 20000 in
set_option maxHeartbeats 4000000 in
theorem alb (w:World) (v v' : Value) (rows:List (List Int)) (L M:Nat) (h:CanM w v rows L) (h' : CanM w v' rows M) :
  Calls Tryz.prog 13 #[v,v'] w fun e w'=>e=.returned (.bool true)∧Below w.heap.size w w' := by
 obtain ⟨ax,cx0,rfl,hn1⟩:=h.parts
 obtain ⟨az,cz0,rfl,_⟩:=h'.parts
 have HX:=hide h
 have HZ:=hide h'
 obtain ⟨n,hn⟩:∃ n,rows.length=n:=⟨_,rfl⟩
 rw [hn] at HX HZ hn1 ⊢
 have HN:=hide hn
 have hnn:((n:Int) != (n:Int))=false:=by simp
 clear h h' hn
 go_enter Tryz.func13,Tryz.ntmps13
 go_wp2_with fail
 go_loopw [5] (fun iv wr=>∃ k:Nat,iv=.int .i64 k∧k≤n∧Below w.heap.size w wr) (fun iv _=>n - (intOf iv).toNat)
 case atStart=>exact ⟨0,rfl,Nat.zero_le _,Below.refl _ _⟩
 case round =>
  obtain ⟨k,rfl,hk,hbw⟩:=hrel
  have HW:=hide hbw
  by_cases hlt:k<n
  ·have hlt' : (k:Int)<(n:Int):=by omega
   obtain ⟨z,hz⟩:∃ z,rows[k]? = some z:=⟨_,List.getElem?_eq_getElem (by have:=HN.out;omega)⟩
   obtain ⟨bx,ox,ux,rfl,hlx0,x0,C1⟩:=HX.out.cell hz
   obtain ⟨bz,oz,uz,rfl,hlz0,z0,C2⟩:=HZ.out.cell hz
   obtain ⟨ax,cx,rfl⟩:=C1.slc
   obtain ⟨az,cz,rfl⟩:=C2.slc
   have hlx:bx<wr.heap.size:=Nat.lt_of_lt_of_le hlx0 hbw.size
   have hlz:bz<wr.heap.size:=Nat.lt_of_lt_of_le hlz0 hbw.size
   replace x0:=(hbw.cell (p:=⟨bx,ox+k,none⟩) hlx0).trans x0
   replace z0:=(hbw.cell (p:=⟨bz,oz+k,none⟩) hlz0).trans z0
   replace C1:=C1.below hbw
   replace C2:=C2.below hbw
   obtain ⟨mx,hmx⟩:∃ m,z.length=m:=⟨_,rfl⟩
   rw [hmx] at x0 z0 C1 C2
   obtain ⟨mz,hmz⟩:∃ m,mx=m:=⟨_,rfl⟩
   rw [hmz] at z0 C2
   clear hbw hz hmx hmz
   go_upto_region 6 with fail
   go_cut [26] (fun cv wx=>cv=.bool false∧Below wr.heap.size wr wx)
   case first =>
    refine au1 [17,18,19,20,21,22,23,24,25,26] [Eqs (.slice (some ⟨bx,ox,none⟩) n cx0),Eqs (.int .i64 (k:Int)),Eqs (.pointer (some ⟨bx,ox+k,none⟩)),Eqs (.slice ax mx cx),Eqs (.slice (some ⟨bz,oz,none⟩) n cz0),Eqs (.int .i64 (k:Int)),Eqs (.pointer (some ⟨bz,oz+k,none⟩)),Eqs (.slice az mz cz),Eqs (.bool true),Eqs (.bool false)] (by assumption) (by assumption) rfl (by decide) (by kernel_rfl) (by kernel_rfl) ⟨Eqs.mono _,Eqs.mono _,Eqs.mono _,Eqs.mono _,Eqs.mono _,Eqs.mono _,Eqs.mono _,Eqs.mono _,Eqs.mono _,Eqs.mono _,trivial⟩ ?_ ?_
    ·exact ⟨⟨rfl,fun a_ w_ _ hB hR hD=>aao ((hR 0 rfl).trans (aac rfl))⟩,
      ⟨rfl,fun a_ w_ _ hB hR hD=>aao ((hR 5 rfl).trans (aac rfl))⟩,
      ⟨rfl,fun a_ w_ _ hB hR hD=>ail (show a_.eval (.tmp 17)=.slice (some ⟨bx,ox,none⟩) n cx0 from hD 0 rfl) rfl (show a_.eval (.tmp 18)=.int .i64 (k:Int) from hD 1 rfl) (by omega)⟩,
      ⟨rfl,fun a_ w_ _ hB hR hD=>aco (show a_.eval (.tmp 19)=.pointer (some ⟨bx,ox+k,none⟩) from hD 2 rfl) ((hB.cell (p:=⟨bx,ox+k,none⟩) hlx).trans x0)⟩,
      ⟨rfl,fun a_ w_ _ hB hR hD=>aao ((hR 1 rfl).trans (aac rfl))⟩,
      ⟨rfl,fun a_ w_ _ hB hR hD=>aao ((hR 5 rfl).trans (aac rfl))⟩,
      ⟨rfl,fun a_ w_ _ hB hR hD=>ail (show a_.eval (.tmp 21)=.slice (some ⟨bz,oz,none⟩) n cz0 from hD 4 rfl) rfl (show a_.eval (.tmp 22)=.int .i64 (k:Int) from hD 5 rfl) (by omega)⟩,
      ⟨rfl,fun a_ w_ _ hB hR hD=>aco (show a_.eval (.tmp 23)=.pointer (some ⟨bz,oz+k,none⟩) from hD 6 rfl) ((hB.cell (p:=⟨bz,oz+k,none⟩) hlz).trans z0)⟩,
      ⟨rfl,fun a_ w_ _ hB hR hD=>aol (show a_.eval (.tmp 20)=.slice ax mx cx from hD 3 rfl) (show a_.eval (.tmp 24)=.slice az mz cz from hD 7 rfl) (C1.below hB) (C2.below hB)⟩,
      ⟨rfl,fun a_ w_ _ hB hR hD=>apd (show a_.eval (.tmp 25)=.bool true from hD 8 rfl)⟩,
      trivial⟩
    ·intro a' w' hn' hd' hB' hR' hP'
     (repeat apply Exists.intro)
     refine ⟨?rel,aml hn' hd' hR' ?fit⟩
     case fit=>repeat' (first | exact trivial | refine ⟨(by first | exact .inl ⟨rfl,rfl⟩ | exact .inr rfl),?_⟩)
     case rel=>exact ⟨(show _ = _ from hP' 9 (by decide)),hB'⟩
   case rest =>
    obtain ⟨hc26,hbx⟩:=hcut
    subst hc26
    have HB2:=hide (HW.out.trans (hbx.mono HW.out.size))
    clear hbx x0 z0 C1 C2
    go_wp2
    go_roundw
    case rel=>exact ⟨k+1,by go_num,by omega,HB2.out⟩
    case measure=>simp [intOf];omega
  ·have hlt' : decide ((k:Int)<(n:Int))=false:=by simp;omega
   clear hbw
   go_wp2
   refine bodyPost_ret (v:=_) (by simp [results,Tryz.results13,go_sem];try rfl) rfl ⟨rfl,HW.out⟩
end Lm
end Go.Proofs.YtgmobkafnefpfaaGreat
namespace Go.Proofs.YtgmobkafnefpfaaGreat
namespace Lm
open Go Go.RowKit Go.ChangeShapes Go.WideShapes Go.ChangeAt Go.Deep
theorem alc (b off i:Nat):(⟨b,off,none⟩:Addr).add i=⟨b,off+i,none⟩:=by
 by_cases hi0:i=0
 ·subst hi0;simp [Addr.add]
 ·simp [Addr.add,hi0]
end Lm
end Go.Proofs.YtgmobkafnefpfaaGreat
namespace Go.Proofs.YtgmobkafnefpfaaGreat
namespace Lm
open Go Go.RowKit Go.ChangeShapes Go.WideShapes Go.ChangeAt Go.Deep
theorem ahc {H:Type} {P:Program} {e:TypeId} : ∀ {ds:List (DataW H)} {d:DataW H},d ∈ ds→∀ n ∈ d.weights P e,n ∈ DataW.weightsAll P e ds
 | x :: ds,d,hd,n,hn=>by
  simp only [DataW.weightsAll,List.mem_append]
  rcases List.mem_cons.1 hd with rfl | hd
  ·exact .inl hn
  ·exact .inr (ahc hd n hn)
theorem awj:Tryz.prog.bytesOf 83=4:=by kernel_rfl
theorem aom {H:Type} {enc:TypeId × Value→H} {w:World} {fuel:Nat} {ao:Option Addr} {n cap:Nat} {x:DataW H × List MemPlace} (h:DataW.trod enc Tryz.prog w 0 (fun _=>true) true fuel 39 [.slice ao n cap]=some x) (hw:∀ k ∈ x.1.weights Tryz.prog 39,k≤reachBytes) :
  ∃ es,Rw w (.slice ao n cap) es∧∀ e ∈ es,e.m≤35184372088832:=by
 rcases open_slice_pairs Tryz.underlying39 Tryz.underlying27 (by kernel_rfl) (by kernel_rfl) (by kernel_rfl) (by kernel_rfl) (by kernel_rfl) h with ⟨hcs,rfl⟩ | ⟨a,len,cap',m,k,V0,V1,D0,D1,P0,P1,hcs,_,hl,hm,hmm,rfl,hall⟩
 ·obtain ⟨rfl,rfl,rfl⟩:ao=none∧n=0∧cap=0:=by simpa using hcs
  exact ⟨[],⟨⟨none,0,rfl,Nat.le_refl _,by omega,rfl,.inl rfl⟩,fun e he=>by cases he⟩,fun e he=>by cases he⟩
 obtain ⟨rfl,rfl,rfl⟩:ao=some a∧n=len∧cap=cap' := by simpa using hcs
 simp only [if_true] at hmm
 subst hmm
 have each:∀ i,i<m→∃ e:WE,V0 i=.bool e.ng∧V1 i=.slice e.a e.m e.c∧Sl w (.slice e.a e.m e.c) e.zs∧(i<n→e.m≤35184372088832):=by
  intro i hi
  obtain ⟨_,_,t0,t1⟩:=hall i hi
  obtain ⟨b,hb0,_⟩:=DataW.trod_bool Tryz.underlying4 t0
  obtain hb:V0 i=.bool b:=by simpa using hb0
  rcases open_ints Tryz.underlying25 Tryz.underlying83 (by kernel_rfl) t1 with ⟨hcs,_⟩ | ⟨x,l,c,zs,hcs,_,hl,hm,hz,hx,hcell,hwz⟩
  ·obtain hv:V1 i=.slice none 0 0:=by simpa using hcs
   exact ⟨⟨b,none,0,0,[]⟩,hb,hv,⟨none,0,rfl,Nat.le_refl _,by simp [maxLen],aae,.inl rfl⟩,fun _=>Nat.zero_le _⟩
  ·obtain hv:V1 i=.slice (some x) l c:=by simpa using hcs
   have hz' : zs.length=c:=by simpa using hz
   refine ⟨⟨b,some x,l,c,zs.take l⟩,hb,hv,amo hl hm hz' hcell hwz,fun hin=>?_⟩
   have hd:D1 i=.slice (lits .u32 (zs.take l)) (lits .u32 (zs.drop l)):=congrArg Prod.fst hx
   have hmem:((lits .u32 (zs.take l):List (DataW H)).length+(lits .u32 (zs.drop l):List (DataW H)).length)*Tryz.prog.bytesOf 83 ∈ (DataW.agg (H:=H) [D0 i,D1 i]).weights Tryz.prog 27:=by
    rw [hd]
    simp [DataW.weights,DataW.weightsEach,Tryz.underlying27,Tryz.underlying25]
   have hs:=hw _ (by
    simp only [DataW.weights,Tryz.underlying39,List.mem_cons,List.mem_append]
    exact .inr (.inl (ahc (d:=DataW.agg (H:=H) [D0 i,D1 i]) (List.mem_map.2 ⟨i,List.mem_range.2 hin,rfl⟩) _ hmem)))
   rw [awj] at hs
   simp only [lits,List.length_map,List.length_take,List.length_drop,reachBytes] at hs
   show l≤35184372088832
   omega
 obtain ⟨E,hE⟩:=choose_lt each
 refine ⟨(List.range n).map E,⟨⟨some a,m,by rw [List.length_map,List.length_range],by rw [List.length_map,List.length_range];exact hl,by simpa [maxLen] using hm,abg _,?_⟩,fun e he=>?_⟩,fun e he=>?_⟩
 ·by_cases h0:n=0
  ·exact .inl (by rw [List.length_map,List.length_range];exact h0)
  ·obtain ⟨b,off,spot⟩:=a
   have h1:=(hall 0 (by omega)).1
   have hspot:spot=none:=by simpa [Addr.add] using World.cell?_spot h1
   subst hspot
   have hadd:∀ i,(⟨b,off,none⟩:Addr).add i=⟨b,off+i,none⟩:=fun i=>by
    by_cases hi0:i=0
    ·subst hi0;simp [Addr.add]
    ·simp [Addr.add,hi0]
   refine .inr ⟨b,off,rfl,aak (off:=off+0*2) (by rw [←hadd];exact h1),fun j u hu=>?_⟩
   obtain ⟨hj,rfl⟩:=ako E n j u hu
   obtain ⟨c0,c1,_,_⟩:=hall (j / 2) (by omega)
   obtain ⟨e0,e1,_⟩:=hE (j / 2) (by omega)
   rw [hadd] at c0 c1
   by_cases hj0:j % 2=0
   ·rw [if_pos hj0,←e0,←c0]
    congr 2
    omega
   ·rw [if_neg hj0,←e1,←c1]
    congr 2
    omega
 ·obtain ⟨i,hi,rfl⟩:=List.mem_map.1 he
  exact (hE i (by have:=List.mem_range.1 hi;omega)).2.2.1
 ·obtain ⟨i,hi,rfl⟩:=List.mem_map.1 he
  have hin:=List.mem_range.1 hi
  exact (hE i (by omega)).2.2.2 hin
end Lm
end Go.Proofs.YtgmobkafnefpfaaGreat
namespace Go.Proofs.YtgmobkafnefpfaaGreat
namespace Lm
open Go Go.RowKit Go.ChangeShapes Go.WideShapes Go.ChangeAt Go.Deep
theorem bytesWu:Tryz.prog.bytesOf 27=32:=by kernel_rfl
theorem bytesSu:Tryz.prog.bytesOf 39=24:=by kernel_rfl
theorem agu {H:Type} {enc:TypeId × Value→H} {w:World} {fuel:Nat} {ao:Option Addr} {n cap b:Nat} {t e:TypeId} {x:DataW H × List MemPlace} (ht:Tryz.prog.underlying t=some (.slice e)) (hb:Tryz.prog.bytesOf e=b) (h:DataW.trod enc Tryz.prog w 0 (fun _=>true) true fuel t [.slice ao n cap]=some x) (hw:∀ k ∈ x.1.weights Tryz.prog t,k≤reachBytes):n*b≤reachBytes:=by
 rcases open_slice ht h with ⟨hcs,rfl⟩ | ⟨a,len,cap',m,k,D,Pl,hcs,_,hl,hm,hmm,rfl,hall⟩
 ·obtain ⟨rfl,rfl,rfl⟩:ao=none∧n=0∧cap=0:=by simpa using hcs
  simp
 obtain ⟨rfl,rfl,rfl⟩:ao=some a∧n=len∧cap=cap' := by simpa using hcs
 have h1:=hw _ (by simp only [DataW.weights,ht];exact List.mem_cons_self ..)
 rw [hb] at h1
 simp only [List.length_map,List.length_range] at h1
 have h2:n*b≤(n+(m - n))*b:=Nat.mul_le_mul_right _ (by omega)
 omega
theorem aon {H:Type} {enc:TypeId × Value→H} {w:World} {fuel:Nat} {ao:Option Addr} {n cap:Nat} {x:DataW H × List MemPlace} (h:DataW.trod enc Tryz.prog w 0 (fun _=>true) true fuel 39 [.slice ao n cap]=some x) (hw:∀ k ∈ x.1.weights Tryz.prog 39,k≤reachBytes) :
  ∃ es,Rw w (.slice ao n cap) es∧es.length≤4398046511103∧∀ e ∈ es,e.m≤35184372088832:=by
 obtain ⟨es,h1,h2⟩:=aom h hw
 have h3:=agu Tryz.underlying39 bytesWu h hw
 have h4:=h1.parts.1
 simp only [reachBytes] at h3
 exact ⟨es,h1,by omega,h2⟩
theorem amg {H:Type} {enc:TypeId × Value→H} {w:World} {fuel:Nat} {ao:Option Addr} {n cap:Nat} {x:DataW H × List MemPlace} (h:DataW.trod enc Tryz.prog w 0 (fun _=>true) true fuel 22 [.slice ao n cap]=some x) (hw:∀ k ∈ x.1.weights Tryz.prog 22,k≤reachBytes) :
  ∃ ess,RwM w (.slice ao n cap) ess∧(∀ es ∈ ess,es.length≤4398046511103∧∀ e ∈ es,e.m≤35184372088832)∧ess.length≤5864062014804:=by
 have hlu:=agu Tryz.underlying22 bytesSu h hw
 rcases open_slice1 Tryz.underlying22 (by kernel_rfl) h with ⟨hcs,rfl⟩ | ⟨a,len,cap',m,k,V,D,Pl,hcs,_,hl,hm,hmm,rfl,hall⟩
 ·obtain ⟨rfl,rfl,rfl⟩:ao=none∧n=0∧cap=0:=by simpa using hcs
  exact ⟨[],⟨[],⟨none,0,rfl,Nat.le_refl _,by omega,rfl,.inl rfl⟩,fun i u es hu=>by simp at hu⟩,fun es he=>(by cases he),by simp⟩
 obtain ⟨rfl,rfl,rfl⟩:ao=some a∧n=len∧cap=cap' := by simpa using hcs
 simp only [if_true] at hmm
 subst hmm
 have each:∀ i,i<m→∃ es:List WE,Rw w (V i) es∧(i<n→es.length≤4398046511103∧∀ e ∈ es,e.m≤35184372088832):=by
  intro i hi
  have t:=(hall i hi).2
  have hv:∃ b l c,V i=.slice b l c:=by
   rcases open_slice_pairs Tryz.underlying39 Tryz.underlying27 (by kernel_rfl) (by kernel_rfl) (by kernel_rfl) (by kernel_rfl) (by kernel_rfl) t with ⟨hcs,_⟩ | ⟨a,len,cap',_,_,_,_,_,_,_,_,hcs,_⟩
   ·exact ⟨none,0,0,by simpa using hcs⟩
   ·exact ⟨some a,len,cap',by simpa using hcs⟩
  obtain ⟨b,l,c,hv⟩:=hv
  rw [hv] at t ⊢
  by_cases hin:i<n
  ·obtain ⟨es,h1,h2⟩:=aon (x:=(D i,Pl i)) t (fun k hk=>hw k (by
    simp only [DataW.weights,Tryz.underlying22,List.mem_cons,List.mem_append]
    exact .inr (.inl (ahc (d:=D i) (List.mem_map.2 ⟨i,List.mem_range.2 hin,rfl⟩) _ hk))))
   exact ⟨es,h1,fun _=>h2⟩
  ·obtain ⟨es,h1,_⟩:=asy (x:=(D i,Pl i)) t
   exact ⟨es,h1,fun h=>absurd h hin⟩
 obtain ⟨E,hE⟩:=choose_lt each
 have hlen:((List.range n).map E).length=n:=by simp
 refine ⟨(List.range n).map E,⟨(List.range n).map V,⟨some a,m,by rw [hlen],by rw [hlen];exact hl,by simpa [maxLen] using hm,by simp,?_⟩,fun i u es hu he=>?_⟩,fun es he=>?_,by rw [hlen];simp only [reachBytes] at hlu;omega⟩
 ·by_cases h0:n=0
  ·exact .inl (by rw [hlen];exact h0)
  ·obtain ⟨b,off,spot⟩:=a
   have h1:=(hall 0 (by omega)).1
   have hspot:spot=none:=by simpa [Addr.add] using World.cell?_spot h1
   subst hspot
   rw [alc] at h1
   refine .inr ⟨b,off,rfl,aak h1,fun j u hu=>?_⟩
   have hj:j<n:=by have:=(List.getElem?_eq_some_iff.1 hu).1;simpa using this
   have h2:=(hall j (by omega)).1
   rw [alc] at h2
   rw [h2]
   simpa [hj] using hu
 ·have hi:i<n:=by have:=(List.getElem?_eq_some_iff.1 hu).1;simpa using this
  obtain rfl:V i=u:=by simpa [hi] using hu
  obtain rfl:E i=es:=by simpa [hi] using he
  exact (hE i (by omega)).1
 ·obtain ⟨i,hi,rfl⟩:=List.mem_map.1 he
  have hin:=List.mem_range.1 hi
  exact (hE i (by omega)).2 hin
end Lm
end Go.Proofs.YtgmobkafnefpfaaGreat
namespace Go.Proofs.YtgmobkafnefpfaaGreat
namespace Lm
open Go Go.RowKit Md
theorem ald {w:World} {u u' : Value} {z z' : List Int} {L:Nat} (T:TypeId) (h:CanRow w u z L) (h' : CanRow w u' z' L):CanM (w.alloc (.cells #[u,u'] T)) (.slice (some ⟨w.heap.size,0,none⟩) 2 2) [z,z'] L:=by
 have hb:=hAl w (.cells #[u,u'] T)
 have hn:=heap_alloc_new w (.cells #[u,u'] T)
 refine ⟨[u,u'],⟨_,_,rfl,Nat.le_refl _,by omega,rfl,.inr ⟨w.heap.size,0,rfl,aaa hn,fun j x hx=>?_⟩⟩,fun i x y hx hy=>?_⟩
 ·rw [Nat.zero_add,cell_of_row _ _ _ _ _ (0,0) hn]
  simpa using hx
 ·match i with
  | 0=>simp at hx hy;subst hx hy;exact h.below hb
  | 1=>simp at hx hy;subst hx hy;exact h'.below hb
  | i+2=>simp at hx
theorem CanM.isM {w:World} {v:Value} {rows:List (List Int)} {L:Nat} (h:CanM w v rows L):IsM w v rows L:=by
 obtain ⟨vs,h1,h2⟩:=h
 exact ⟨vs,h1,fun i u z a b=>(h2 i u z a b).is⟩
theorem ayz (w:World) (a b c:Int) (e:TypeId):Nums (w.alloc (.cells #[.int .i64 a,.int .i64 b,.int .i64 c] e)) (.slice (some ⟨w.heap.size,0,none⟩) 3 3) [a,b,c]:=by
 have hn:=heap_alloc_new w (.cells #[.int .i64 a,.int .i64 b,.int .i64 c] e)
 refine ⟨_,_,rfl,Nat.le_refl _,by simp,rfl,.inr ⟨w.heap.size,0,rfl,aaa hn,fun j x hx=>?_⟩⟩
 rw [Nat.zero_add,cell_of_row _ _ _ _ _ (0,0) hn]
 simpa using hx
theorem row3 (w:World) (a b c:Int) (h:∀ z ∈ [a,b,c],-9223372036854775808≤z∧z≤9223372036854775807):Calls Tryz.prog 12 #[.slice (some ⟨w.heap.size,0,none⟩) 3 3] (w.alloc (.cells #[.int .i64 a,.int .i64 b,.int .i64 c] 3)) fun e w'=>∃ ra rc,e=.returned (.slice ra 3 rc)∧CanRow w' (.slice ra 3 rc) [a,b,c] 2∧Below w.heap.size w w' := by
 have hb:=hAl w (.cells #[.int .i64 a,.int .i64 b,.int .i64 c] 3)
 refine (avt _ _ [a,b,c] (ayz w a b c 3) h (by simp)).mono ?_
 rintro e w' ⟨r,rfl,hc,hb'⟩
 obtain ⟨ra,rc,rfl⟩:=hc.slc
 exact ⟨ra,rc,rfl,hc,hb.trans (hb'.mono hb.size)⟩
theorem Ech.nil_out {K:Nat} {w' : World} {n L0:Nat} {rows:List (List Int)} {e:Ending} (h:EchOut K w' n L0 rows e) {R:List Md.Rw} {Q:List Nat} (hE:Ech n rows R Q):(((∃ r ∈ (baR R Q n).map red,r.any big=true)∧e=.returned (.tuple #[.slice none 0 0,.int .i64 2]))∨((∀ r ∈ (baR R Q n).map red,r.any big=false)∧∃ rv,e=.returned (.tuple #[rv,.int .i64 0])∧OwM K w' rv ((baR R Q n).map red) (lg L0))):=by
 obtain ⟨R',Q',hE',h⟩:=h
 have hs:=(ak9 hE' hE (fun r hr=>.mem (List.mem_map.2 ⟨r,hr,rfl⟩)) (fun r hr=>.mem (List.mem_map.2 ⟨r,hr,rfl⟩))).2
 rw [awi,atn,hs] at h
 exact h
set_option maxRecDepth 20000 in
set_option maxHeartbeats 8000000 in
theorem ayh (w:World):Calls Tryz.prog 4 #[] w fun r w'=>r=.returned (.bool true)∧Below w.heap.size w w' := by
 have K1:=hide (row3 w 2 4 2 (by decide))
 go_enter Tryz.func4,Tryz.ntmps4
 go_wp2_with fail
 refine K1.out.mono ?_
 rintro e w1 ⟨ra,rc,rfl,h1,hb1⟩
 have H1:=hide h1
 have HB1:=hide hb1
 have K2:=hide (row3 w1 1 2 3 (by decide))
 clear h1 hb1 K1
 go_wp2_with fail
 refine K2.out.mono ?_
 rintro e w2 ⟨sa,sc,rfl,h2,hb2⟩
 have hba:=hAl w2 (.cells #[.slice ra 3 rc,.slice sa 3 sc] 39)
 have hM:=ald 39 (H1.out.below hb2) h2
 have K3:=hide (ak8 _ _ awA 3 2 hM.isM (by decide) (by decide))
 have HB2:=hide ((HB1.out.trans (hb2.mono HB1.out.size)).trans (hba.mono (Nat.le_trans HB1.out.size hb2.size)))
 clear h2 hb2 hba hM K2
 go_wp2_with fail
 refine K3.out.mono ?_
 rintro e w3 ⟨ho,hb3⟩
 have ho:=Ech.nil_out ho ard
 rw [arf] at ho
 obtain ⟨⟨r,hr,hb⟩,_⟩ | ⟨_,rv,rfl,hO⟩:=ho
 ·exfalso
  simp only [List.mem_cons,List.not_mem_nil,or_false] at hr
  rcases hr with rfl | rfl <;> revert hb <;> decide +kernel
 obtain ⟨oa,oc,rfl,_⟩:=hO.is.parts
 have HO:=hide hO.can
 have HB3:=hide (HB2.out.trans (hb3.mono HB2.out.size))
 clear hO hb3 K3
 have K4:=hide (row3 w3 1 2 0 (by decide))
 go_wp2_with fail
 refine K4.out.mono ?_
 rintro e w4 ⟨ta,tc,rfl,h4,hb4⟩
 have H4:=hide h4
 have HB4:=hide hb4
 have K5:=hide (row3 w4 0 0 1 (by decide))
 clear h4 hb4 K4
 go_wp2_with fail
 refine K5.out.mono ?_
 rintro e w5 ⟨pa,pc,rfl,h5,hb5⟩
 have hba:=hAl w5 (.cells #[.slice ta 3 tc,.slice pa 3 pc] 39)
 have hM:=ald 39 (H4.out.below hb5) h5
 have hb35:=(HB4.out.trans (hb5.mono HB4.out.size)).trans (hba.mono (Nat.le_trans HB4.out.size hb5.size))
 have K6:=hide (alb _ _ _ [[1,2,0],[0,0,1]] _ _ (HO.out.below hb35) hM)
 have HB5:=hide (HB3.out.trans (hb35.mono HB3.out.size))
 clear h5 hb5 hba hM hb35 K5
 go_wp2_with fail
 refine K6.out.mono ?_
 rintro e w6 ⟨rfl,hb6⟩
 have HB6:=hide (HB5.out.trans (hb6.mono HB5.out.size))
 clear hb6 K6
 go_wp2
 refine bodyPost_ret (v:=_) (by simp [results,Tryz.results4,go_sem];try rfl) rfl ⟨rfl,HB6.out⟩
end Lm
end Go.Proofs.YtgmobkafnefpfaaGreat
namespace Go.Proofs.YtgmobkafnefpfaaGreat
namespace Lm
open Go Go.RowKit
def Apt (u v:Value):Prop:=∀ g,u.ownBlock=some g→v.ownBlock≠some g
theorem RwO.keep {B:Nat} {w w' : World} {u v:Value} {es:List WE} {E:TypeId} {c:Nat→Array Value} (h:RwO B w v es) (hg:w.grownBy w' u.ownBlock) (hc:∀ k,u.ownBlock=some k→w.heap[k]? = some (.cells (c k) E (0,0))) (hE:E≠83) (hs:Apt u v):RwO B w' v es:=by
 refine ⟨h.own.kept hg ?_,fun e he=>?_⟩
 ·cases hv:v.ownBlock with
  | none=>exact .inl rfl
  | some g=>exact .inr (fun e=>hs g e.symm hv)
 ·obtain ⟨ao,cap,hv,h1,h2,h3,h4⟩:=h.ow e he
  refine ⟨ao,cap,hv,h1,h2,h3,?_⟩
  rcases h4 with h4 | ⟨k,off,cur,rfl,hB,hh,h5,h6⟩
  ·exact .inl h4
  ·exact .inr ⟨k,off,cur,rfl,hB,(hg.block k (aaa hh) (fun e=>abc (hc k e.symm) hh hE rfl)).trans hh,h5,h6⟩
theorem RwO.row {B:Nat} {w:World} {v:Value} {es:List WE} (h:RwO B w v es):∃ c:Nat→Array Value,∀ k,v.ownBlock=some k→w.heap[k]? = some (.cells (c k) 27 (0,0)):=by
 rcases h.own.2 with ⟨rfl,_⟩ | ⟨g',cap,cur,rfl,_,hh,_⟩
 ·exact ⟨fun _=>#[],fun k hk=>by simp [Value.ownBlock] at hk⟩
 ·refine ⟨fun _=>cur,fun k hk=>?_⟩
  simp only [Value.ownBlock,Option.some.injEq] at hk
  subst hk
  exact hh
theorem RwO.low {B B' : Nat} {w:World} {v:Value} {es:List WE} (h:RwO B w v es) (hb:B'≤B):RwO B' w v es:=by
 refine ⟨?_,fun e he=>(h.ow e he).mono hb⟩
 obtain ⟨h1,h2 | ⟨g,cap,cur,e,hg,h3⟩⟩:=h.own
 ·exact ⟨h1,.inl h2⟩
 ·exact ⟨h1,.inr ⟨g,cap,cur,e,Nat.le_trans hb hg,h3⟩⟩
section
end
end Lm
end Go.Proofs.YtgmobkafnefpfaaGreat
namespace Go.Proofs.YtgmobkafnefpfaaGreat
namespace Md
end Md
namespace Lm
open Go Go.RowKit Md
def sumB (B:Md.Rw→Nat):List Md.Rw→Nat
 | []=>0
 | x :: R=>B x+1+sumB B R
theorem af6 {B:Md.Rw→Nat} {R S:List Md.Rw} (h:R.Perm S):sumB B R=sumB B S:=by
 induction h with
 | nil=>rfl
 | cons x _ ih=>simp only [sumB,ih]
 | swap x y l=>simp only [sumB];omega
 | trans _ _ a b=>rw [a,b]
theorem aes (B:Md.Rw→Nat):∀ R S:List Md.Rw,sumB B (R ++ S)=sumB B R+sumB B S
 | [],S=>by simp [sumB]
 | x :: R,S=>by simp only [List.cons_append,sumB,aes B R S];omega
theorem aeo {B:Md.Rw→Nat} : ∀ (R:List Md.Rw) (cs:List Nat),(∀ x ∈ R,∀ c,((x c).natAbs:Int)<pw (B x))→cs.length≤65→((D R cs).natAbs:Int)≤pw (sumB B R)
 | [],cs,_,_=>by
  show ((if cs = [] then (1:Int) else 0).natAbs:Int)≤_
  by_cases h:cs = [] <;> simp [h,sumB,pw]
 | x :: R,cs,hx,hn=>by
  have hR:∀ l,(∀ c ∈ l,c ∈ cs)→l.length≤65→((D R l).natAbs:Int)≤pw (sumB B R):=fun l _ hl=>aeo R l (fun y hy=>hx y (by simp [hy])) hl
  have key:∀ (cs:List Nat) (g:List Nat→Int),(∀ l,l.length≤cs.length→((g l).natAbs:Int)≤pw (sumB B R))→((w x g cs).natAbs:Int)≤(cs.length:Int)*(pw (B x)*pw (sumB B R)):=by
   intro cs
   induction cs with
   | nil=>intro g _;simp [w]
   | cons c cs ih =>
    intro g hg
    have h1:=ih (fun l=>g (c :: l)) (fun l hl=>hg (c :: l) (by simp;omega))
    have h2:((x c*g cs).natAbs:Int)≤pw (B x)*pw (sumB B R):=by
     rw [Int.natAbs_mul,Int.natCast_mul]
     exact Int.mul_le_mul (by have:=hx x (by simp) c;omega) (hg cs (by simp)) (by omega) (by have:=aaj (B x);omega)
    rw [w,List.length_cons]
    have h3:((cs.length+1:Nat):Int)*(pw (B x)*pw (sumB B R))=(cs.length:Int)*(pw (B x)*pw (sumB B R))+pw (B x)*pw (sumB B R):=by rw [Int.natCast_add,Int.add_mul];omega
    rw [h3]
    omega
  have h1:=key cs (D R) (fun l hl=>aeo R l (fun y hy=>hx y (by simp [hy])) (by omega))
  have h2:pw (B x+1+sumB B R)=4294967296*(pw (B x)*pw (sumB B R)):=by
   rw [aca,show pw (B x+1)=4294967296*pw (B x) from rfl,Int.mul_assoc]
  show ((w x (D R) cs).natAbs:Int)≤pw (B x+1+sumB B R)
  rw [h2]
  have h3:0≤pw (B x)*pw (sumB B R):=Int.mul_nonneg (by have:=aaj (B x);omega) (by have:=aaj (sumB B R);omega)
  have h4:(cs.length:Int)*(pw (B x)*pw (sumB B R))≤4294967296*(pw (B x)*pw (sumB B R)):=Int.mul_le_mul_of_nonneg_right (by omega) h3
  omega
end Lm
end Go.Proofs.YtgmobkafnefpfaaGreat
namespace Go.Proofs.YtgmobkafnefpfaaGreat
namespace Lm
open Go Go.RowKit Md
section
end
section
variable {dst:Option Tmp} {ty:TypeId} {pos:String} {after:Array Edge} {guard:Option (Nat × Bool)} {a:Act} {w:World} {ats:Array TypeId} {i j k l:Nat}
theorem ari {b q:Nat} {ao:Option Addr} {n c:Nat} (hp:a.eval (.tmp i)=.pointer (some ⟨b,q,none⟩)) (h0:w.cell? ⟨b,q,none⟩ = some (.slice ao n c)):Does Tryz.prog { dst,op:=.load 70 (.tmp i),type:=ty,pos,after,guard } a.eval w fun v' w'=>Below w.heap.size w w'∧Eqs (.slice ao n c) v' w' := by
 refine aay (v:=.slice ao n c) ?_ ⟨Below.refl _ _,rfl⟩
 rw [hp]
 go_simp
end
end Lm
end Go.Proofs.YtgmobkafnefpfaaGreat
namespace Go.Proofs.YtgmobkafnefpfaaGreat
namespace Lm
open Go Go.RowKit
set_option maxRecDepth 20000 in
set_option maxHeartbeats 400000 in
theorem ayi (w:World) (ao:Option Addr) (n cap:Nat) (xs:List Int) (hx:Sl w (.slice ao n cap) xs) (hl:xs.length≤35184372088832) :
  Calls Tryz.prog 74 #[.slice ao n cap] w fun e w'=>∃ v,e=.returned v∧Ow w.heap.size w' v xs∧Below w.heap.size w w' := by
 obtain ⟨rfl,h1,h2,h3⟩:=hx.parts
 obtain ⟨i0,hi,hz0,hz1,hz2⟩:=info_parts ab4
 by_cases h0:0<xs.length
 ·obtain ⟨b,off,rfl,hc⟩:=hx.cells h0
  have hcells:=aqg hc
  have H3:=hide h3
  clear hc h3 hx
  go_enter Tryz.func74,Tryz.ntmps74
  go_wp2_with (at_builtin;refine wpList_append_own _ rfl (.const (.slice none 0 0)) (.tmp 3) 25 rfl w.heap.size 83 i0 (.int .u32 0) 1 4 Tryz.underlying25 hi hz0 hz1 hz2 rfl (by decide) _ _ _ rfl (World.ownsRow_nil _ _ _ _) ⟨b,off,none⟩ xs.length cap (xs.map (Value.int .u32)) rfl (by simp) hcells (avg xs) (by unfold maxLen;omega) (by omega) (by simp) ?_)
  intro v' w1 hown hgrow _
  have hb1:Below w.heap.size w w1:=(Below.refl w.heap.size w).grown hgrow (by simp) (by intro k hk;simp [Value.ownBlock] at hk)
  have how:=abi (zs:=xs) (by simpa using hown) H3.out
  clear hown hgrow
  go_wp2
  go_ret
  exact ⟨_,rfl,how,hb1⟩
 ·have e:xs = []:=List.eq_nil_of_length_eq_zero (by omega)
  subst e
  cases ao with
  | none =>
   go_enter Tryz.func74,Tryz.ntmps74
   go_wp2
   go_ret
   exact ⟨_,rfl,⟨none,0,rfl,Nat.le_refl _,by simp [maxLen],aae,.inl rfl⟩,Below.refl _ _⟩
  | some ad =>
   go_enter Tryz.func74,Tryz.ntmps74
   go_wp2
   go_ret
   exact ⟨_,rfl,⟨none,0,rfl,Nat.le_refl _,by simp [maxLen],aae,.inl rfl⟩,Below.refl _ _⟩
section
variable {dst:Option Tmp} {ty:TypeId} {pos:String} {after:Array Edge} {guard:Option (Nat × Bool)} {a:Act} {w:World} {ats:Array TypeId} {i j:Nat}
theorem arj {K:Nat} {ao:Option Addr} {n c:Nat} {zs:List Int} (h:a.eval (.tmp i)=.slice ao n c) (S:Sl w (.slice ao n c) zs) (hl:zs.length≤35184372088832) (hK:K≤w.heap.size) :
  Does Tryz.prog { dst,op:=.call { callee:=.value (.func 74),args:=#[.tmp i],argTypes:=ats },type:=ty,pos,after,guard } a.eval w fun v w'=>Below w.heap.size w w'∧OwL K zs v w' := by
 refine aas an5 _ (by simp only [List.map_toArray,List.map_cons,List.map_nil,h]) ((ayi w _ _ _ zs S hl).mono ?_)
 rintro e w' ⟨v,rfl,ho,hb⟩
 refine ⟨_,rfl,hb,?_⟩
 obtain ⟨ao',cap',hv,_⟩:=id ho
 exact ⟨ao',cap',hv,ho.mono hK⟩
end
set_option maxRecDepth 20000 in
set_option maxHeartbeats 1000000 in
theorem awk (w:World) (nx:Bool) (ax:Option Addr) (mx cx:Nat) (xs:List Int) (Tx:Sl w (.slice ax mx cx) xs) (hl:xs.length≤35184372088832) :
  Calls Tryz.prog 38 #[.agg #[.bool nx,.slice ax mx cx]] w fun e w'=>∃ v,e=.returned v∧OwW w.heap.size nx xs v w'∧Below w.heap.size w w' := by
 go_enter Tryz.func38,Tryz.ntmps38
 generalize hA:(Act.mk _ _)=aa
 have hn:aa.tmps.size=9:=by rw [←hA];rfl
 have hd:aa.defers = []:=by rw [←hA]
 have f0:aa.eval (.tmp 0)=.agg #[.bool nx,.slice ax mx cx]:=by rw [←hA];rfl
 clear hA
 have HB:Below w.heap.size w w:=Below.refl _ _
 refine wp_seq ?_
 refine aap [some 1,some 2] [(fun _ _=>True),(fun _ _=>True)] [⟨W2,some 0,0,1,.agg #[.bool nx,.slice ax mx cx],none,[]⟩,⟨W2,some 1,0,2,.agg #[.bool false,.slice none 0 0],none,[]⟩] [] (by kernel_rfl) hn rfl (by kernel_rfl) (by kernel_rfl) (by kernel_rfl) (by kernel_rfl) (by kernel_rfl) (by kernel_rfl) ⟨True.mono4,True.mono4,trivial⟩ (aaq W2ok (aaq W2ok aat)) (IsOld.all (bx:=[⟨W2,some 0,0,1,.agg #[.bool nx,.slice ax mx cx],none,[]⟩,⟨W2,some 1,0,2,.agg #[.bool false,.slice none 0 0],none,[]⟩]) ⟨someNe,someNe,trivial⟩) (DisOld.all (bx:=[⟨W2,some 0,0,1,.agg #[.bool nx,.slice ax mx cx],none,[]⟩,⟨W2,some 1,0,2,.agg #[.bool false,.slice none 0 0],none,[]⟩]) ⟨someNe,someNe,trivial⟩) ?_ ?_
 ·exact ⟨.alloc 0 _ rfl rfl (.inr ⟨_,rfl,ang,fun a_ hR=>(hR 0 rfl).trans f0⟩) rfl rfl rfl rfl rfl,
   .alloc 1 _ rfl rfl (.inl ⟨rfl,rfl⟩) rfl rfl rfl rfl rfl,
   trivial⟩
 intro a1 w1 gs1 hn1 hd1 hBt hr hR hP hX hU
 replace hn:=hn1;replace hd:=hd1.trans hd
 have ne1_2:gs1 0≠gs1 1:=hU 0 1 (by simp) (by simp) (by decide)
 have b1:BoxV W2 w1 (gs1 0) (.agg #[.bool nx,.slice ax mx cx]):=(hX 0 _ rfl).2.2.2
 have f1:=(hX 0 _ rfl).1
 have u1:w.heap.size≤gs1 0:=Nat.le_trans HB.size ((hX 0 _ rfl).2.2.1 (by simp))
 have b2:BoxV W2 w1 (gs1 1) (.agg #[.bool false,.slice none 0 0]):=(hX 1 _ rfl).2.2.2
 have f2:=(hX 1 _ rfl).1
 have u2:w.heap.size≤gs1 1:=Nat.le_trans HB.size ((hX 1 _ rfl).2.2.1 (by simp))
 replace Tx:=Tx.rl hr
 replace HB:=HB.trans (hBt.below HB.size (UpOld.all (bx:=[⟨W2,some 0,0,1,.agg #[.bool nx,.slice ax mx cx],none,[]⟩,⟨W2,some 1,0,2,.agg #[.bool false,.slice none 0 0],none,[]⟩]) ⟨someNe,someNe,trivial⟩))
 clear hBt hr hR hP hX hU
 refine wp_seq ?_
 refine aap [some 3,some 4,some 5,some 6,some 7,some 8,none] [Eqs (.pointer (some ⟨gs1 0,0,none⟩)),Eqs (.bool nx),Eqs (.pointer (some ⟨gs1 0,1,none⟩)),Eqs (.slice ax mx cx),OwL (w.heap.size) (xs),OwW (w.heap.size) (nx) (xs),(fun _ _=>True)] [⟨W2,none,(gs1 1),2,.agg #[.bool false,.slice none 0 0],some (6,8,5),[]⟩] [] (by kernel_rfl) hn rfl (by kernel_rfl) (by kernel_rfl) (by kernel_rfl) (by kernel_rfl) (by kernel_rfl) (by kernel_rfl) ⟨Eqs.mono4 _,Eqs.mono4 _,Eqs.mono4 _,Eqs.mono4 _,OwL.mono4 _ _,OwW.mono4 _ _ _,True.mono4,trivial⟩ (aaq W2ok aat) (IsOld.all (bx:=[⟨W2,none,(gs1 1),2,.agg #[.bool false,.slice none 0 0],some (6,8,5),[]⟩]) ⟨fun _=>⟨f2,b2⟩,trivial⟩) (DisOld.all (bx:=[⟨W2,none,(gs1 1),2,.agg #[.bool false,.slice none 0 0],some (6,8,5),[]⟩]) ⟨fun _=>trivial,trivial⟩) ?_ ?_
 ·exact ⟨.norm 3 rfl rfl rfl (fun a_ w_ hn_ hBt hr hR hD hO hS=>aga aj0 ((hR 1 rfl).trans f1)),
   .norm 4 rfl rfl rfl (fun a_ w_ hn_ hBt hr hR hD hO hS=>ag0 (show a_.eval (.tmp 3)=.pointer (some ⟨gs1 0,0,none⟩) from hD 0 rfl) (b1.keep hBt ⟨fun _=>ne1_2.symm,trivial⟩)),
   .norm 5 rfl rfl rfl (fun a_ w_ hn_ hBt hr hR hD hO hS=>aga aj1 ((hR 1 rfl).trans f1)),
   .norm 6 rfl rfl rfl (fun a_ w_ hn_ hBt hr hR hD hO hS=>ag1 (show a_.eval (.tmp 5)=.pointer (some ⟨gs1 0,1,none⟩) from hD 2 rfl) (b1.keep hBt ⟨fun _=>ne1_2.symm,trivial⟩)),
   .norm 7 rfl rfl rfl (fun a_ w_ hn_ hBt hr hR hD hO hS=>arj (show a_.eval (.tmp 6)=.slice ax mx cx from hD 3 rfl) (Tx.rl hr) (by omega) (Nat.le_trans HB.size hr.size)),
   .norm 8 rfl rfl rfl (fun a_ w_ hn_ hBt hr hR hD hO hS=>ax9 (show a_.eval (.tmp 4)=.bool nx from hD 1 rfl) (show OwL (w.heap.size) (xs) (a_.eval (.tmp 7)) w_ from hD 4 rfl)),
   .store 0 _ _ _ rfl rfl rfl rfl rfl rfl rfl (fun ia h=>by cases h) rfl rfl rfl OwW.cs,
   trivial⟩
 intro a2 w2 gs2 hn2 hd2 hBt hr hR hP hX hU
 replace hn:=hn2;replace hd:=hd2.trans hd
 obtain ⟨a_3,c_3,e8,O3⟩:OwW (w.heap.size) (nx) (xs) (a2.eval (.tmp 8)) w2:=hP 5 (by decide)
 have b2:BoxV W2 w2 ((gs1 1)) (.agg #[.bool nx,.slice a_3 xs.length c_3]):=ab5 ((hX 0 _ rfl).2.1 rfl) (hX 0 _ rfl).2.2.2 e8
 replace f2:a2.eval (.tmp 2) = _:=(hR 2 rfl).trans f2
 replace Tx:=Tx.rl hr
 replace HB:=HB.trans (hBt.below HB.size (UpOld.all (bx:=[⟨W2,none,(gs1 1),2,.agg #[.bool false,.slice none 0 0],some (6,8,5),[]⟩]) ⟨fun _=>u2,trivial⟩))
 clear hBt hr hR hP hX hU
 refine wp_ret ?_
 repeat (first | refine abx ?_ | refine abp ?_ | refine abo ?_)
 exact bodyPost_ret (v:=.agg #[.bool nx,.slice a_3 xs.length c_3]) (abw rfl f2 (at4 b2)) hd ⟨_,rfl,⟨_,_,rfl,O3⟩,HB⟩
section
variable {dst:Option Tmp} {ty:TypeId} {pos:String} {after:Array Edge} {guard:Option (Nat × Bool)} {a:Act} {w:World} {ats:Array TypeId} {i j:Nat}
theorem ato {B g:Nat} {v:Value} {es:List WE} {ng:Bool} {ao:Option Addr} {n c:Nat} {zs:List Int} (h1:a.eval (.tmp i)=v) (h2:a.eval (.tmp j)=.slice (some ⟨g,0,none⟩) 1 1) (R:RwO B w v es) (O:One w g ng ao n c) (S:Ow B w (.slice ao n c) zs) (hn:es.length≤4398046511103) (hB:B≤w.heap.size) :
  Does Tryz.prog { dst,op:=.call { callee:=.builtin .append,args:=#[.tmp i,.tmp j],argTypes:=#[39,39] },type:=ty,pos,after,guard } a.eval w fun v' w'=>RwO B w' v' (es ++ [⟨ng,ao,n,c,zs⟩])∧Below B w w' := by
 obtain ⟨i0,hi,hz0,hz1,hz2⟩:=info_parts infoW
 have hfl:flat (es ++ [⟨ng,ao,n,c,zs⟩])=flat es ++ [.bool ng,.slice ao n c]:=by rw [adn];rfl
 obtain ⟨v',w',hr,ho,hgr,_⟩:=run_append_own (P:=Tryz.prog) w B 39 ty 27 i0 _ 2 32 Tryz.underlying39 hi hz0 hz1 hz2 rfl (by decide) v es.length (flat es) R.own ⟨g,0,none⟩ 1 1 [.bool ng,.slice ao n c] rfl (fun k u hu=>by
  have hc:∀ k,w.cell? ⟨g,k,none⟩ = #[Value.bool ng,.slice ao n c][k]? := fun k=>cell_of_row w g k _ _ (0,0) O
  have ha:(⟨g,0,none⟩:Addr).add k=⟨g,k,none⟩:=by unfold Addr.add;split <;> simp_all
  rw [ha,hc]
  simpa using hu) (by simp [Value.oneCell']) (by simp [maxLen];omega) (by omega) hB
 have e:(execOp a.eval { dst,op:=.call { callee:=.builtin .append,args:=#[.tmp i,.tmp j],argTypes:=#[39,39] },type:=ty,pos,after,guard }).run Tryz.prog w=.ok (.value v') w' := by
  simp only [execOp,resolve,invoke,builtin,Sem.run_bind,Sem.run_pure,Result.andThen_ok,List.map_toArray,List.map_cons,List.map_nil,h1,h2,hr]
 refine ⟨?_⟩
 unfold Turns
 rw [e]
 have hrow:∃ cur:Nat→Array Value,∀ k,v.ownBlock=some k→w.heap[k]? = some (.cells (cur k) 27 (0,0)):=by
  rcases R.own.2 with ⟨rfl,_⟩ | ⟨g',cap,cur,rfl,_,hh,_⟩
  ·exact ⟨fun _=>#[],fun k hk=>by simp [Value.ownBlock] at hk⟩
  ·refine ⟨fun _=>cur,fun k hk=>?_⟩
   simp only [Value.ownBlock,Option.some.injEq] at hk
   subst hk
   exact hh
 obtain ⟨cur,hcur⟩:=hrow
 refine ⟨⟨by rw [hfl,List.length_append];exact ho,fun e he=>?_⟩,⟨hgr.os,hgr.tape,hgr.output,hgr.size,fun k hk=>hgr.block k (by omega) (fun e=>?_)⟩⟩
 ·rcases List.mem_append.1 he with he | he
  ·exact (R.ow e he).grown hgr hcur
  ·obtain rfl:=List.mem_singleton.1 he
   exact S.grown hgr hcur
 ·have:=R.own.lt k e.symm
  omega
end
set_option maxRecDepth 20000 in
set_option maxHeartbeats 4000000 in
theorem ark (w:World) (ax:Option Addr) (mx cx:Nat) (xs:List WE) (R:Rw w (.slice ax mx cx) xs) (hl:xs.length≤4398046511103) (hm:∀ e ∈ xs,e.m≤35184372088832) :
  Calls Tryz.prog 18 #[.slice ax mx cx] w fun e w'=>∃ v es,e=.returned v∧RwO w.heap.size w' v es∧SameR es xs∧Below w.heap.size w w' := by
 have HX:=hide R
 have HNx:Hid (mx=xs.length):=R.parts.1
 have HL:=hide hm
 have hmx:mx≤4398046511103:=by have:=HNx.out;omega
 clear R hl hm
 go_enter Tryz.func18,Tryz.ntmps18
 go_wp2_with fail
 go_loopw [3,4] (fun ov iv wr=>∃ (k:Nat) (es:List WE),iv=.int .i64 k∧k≤mx∧Below w.heap.size w wr∧RwO w.heap.size wr ov es∧SameR es (xs.take k)) (fun _ iv _=>mx - (intOf iv).toNat)
 case atStart=>exact ⟨0,[],rfl,Nat.zero_le _,Below.refl _ _,amq _ _,rfl⟩
 case round =>
  obtain ⟨k,es,rfl,hk,hbw,ho,hs⟩:=hrel
  obtain ⟨aov,capv,hov,_⟩:=Cl.own ho.own
  subst hov
  have HO:=hide ho
  have HS:=hide hs
  have HW:=hide hbw
  by_cases hlt:k<mx
  ·have hlt' : (k:Int)<(mx:Int):=by omega
   obtain ⟨ex,hex⟩:∃ e,xs[k]? = some e:=⟨_,List.getElem?_eq_getElem (by have:=HNx.out;omega)⟩
   obtain ⟨bx,ox,hAx,hlx0,hcx⟩:=HX.out.cells (by have:=HNx.out;omega)
   subst hAx
   have hlx:bx<wr.heap.size:=Nat.lt_of_lt_of_le hlx0 hbw.size
   have x0:=(hbw.cell (p:=⟨bx,ox+k*2,none⟩) hlx0).trans (hcx _ _ (abl hex).1)
   have x1:wr.cell? ⟨bx,ox+k*2+1,none⟩ = some (.slice ex.a ex.m ex.c):=(hbw.cell (p:=⟨bx,ox+k*2+1,none⟩) hlx0).trans (hcx _ _ (abl hex).2)
   have hsl:=(HX.out.sl ex (List.mem_of_getElem? hex)).below hbw
   have hem:=HL.out ex (List.mem_of_getElem? hex)
   have hes:es.length≤4398046511103:=by rw [hs.len,List.length_take];omega
   have K1:=hide (awk wr ex.ng ex.a ex.m ex.c ex.zs hsl (by have:=hsl.parts.1;omega))
   have HEX:=hide hex
   clear hbw ho hs hsl hem hex hcx hlx
   go_wp2_with fail
   refine K1.out.mono ?_
   rintro e w2 ⟨r2,rfl,⟨ao2,cap2,rfl,hw2⟩,hb2⟩
   have hA:=hAl w2 (.cells #[.bool ex.ng,.slice ao2 ex.zs.length cap2] 27)
   have hb2' := hb2.trans (hA.mono hb2.size)
   have hR2:=HO.out.below hb2'
   have hO2:One _ w2.heap.size ex.ng ao2 ex.zs.length cap2:=heap_alloc_new w2 (.cells #[.bool ex.ng,.slice ao2 ex.zs.length cap2] 27)
   have hS2:Ow w.heap.size _ (.slice ao2 ex.zs.length cap2) ex.zs:=(hw2.mono HW.out.size).below hA
   have hsz:w.heap.size≤(w2.alloc (.cells #[.bool ex.ng,.slice ao2 ex.zs.length cap2] 27)).heap.size:=Nat.le_trans HW.out.size hb2'.size
   clear x0 x1 hlx0
   go_wp2_with (at_builtin;refine abt rfl (ato (i:=11) (j:=17) rfl rfl hR2 hO2 hS2 hes hsz) ?_)
   intro v3 w3 hR3 hb3
   obtain ⟨aov3,capv3,hov3,_⟩:=Cl.own hR3.own
   subst hov3
   have HR3:=hide hR3
   have HB3:=hide ((HW.out.trans (hb2'.mono HW.out.size)).trans hb3)
   clear hR3 hb3 hR2 hO2 hS2 hsz hA hb2 hb2' hw2
   go_wp2
   go_roundw
   case rel=>exact ⟨k+1,_,by go_num,by omega,HB3.out,HR3.out,an6 HS.out HEX.out rfl⟩
   case measure=>simp [intOf];omega
  ·have hlt' : decide ((k:Int)<(mx:Int))=false:=by simp;omega
   have hkn:k=mx:=by omega
   subst hkn
   clear hbw ho hs
   go_wp2
   refine bodyPost_ret (v:=_) (adm rfl rfl) rfl ⟨_,es,rfl,HO.out,(by have h:=HS.out;rwa [List.take_of_length_le (by have:=HNx.out;omega)] at h),HW.out⟩
def OtE (K:Nat) (w:World) (v:Value) (ess:List (List WE)):Prop:=∃ vs:List Value,w.ownsRow K 39 1 v ess.length vs∧∀ (i:Nat) (u:Value) (es:List WE),vs[i]? = some u→ess[i]? = some es→RwO K w u es
theorem OtE.below {K:Nat} {w w' : World} {v:Value} {ess:List (List WE)} (h:OtE K w v ess) (hb:Below w.heap.size w w'):OtE K w' v ess:=by
 obtain ⟨vs,h1,h2⟩:=h
 exact ⟨vs,acf h1 hb,fun i u z a b=>(h2 i u z a b).below hb⟩
theorem OtE.rwM {K:Nat} {w:World} {v:Value} {ess:List (List WE)} (h:OtE K w v ess):RwM w v ess:=by
 obtain ⟨vs,h1,h2⟩:=h
 exact ⟨vs,Ce.own h1,fun i u z a b=>(h2 i u z a b).rw⟩
theorem awl (K:Nat) (w:World):OtE K w (.slice none 0 0) []:=⟨[],World.ownsRow_nil _ _ _ _,fun i u z a=>(by simp at a)⟩
theorem OtE.shp {K:Nat} {w:World} {v:Value} {ess:List (List WE)} (h:OtE K w v ess):∃ a c,v=.slice a ess.length c:=by
 obtain ⟨vs,h1,_⟩:=h
 obtain ⟨a,c,e,_⟩:=ann h1
 exact ⟨a,c,e⟩
theorem OtE.app {K:Nat} {w w' : World} {v v' u:Value} {ess:List (List WE)} {vs:List Value} {es:List WE} (hv:w.ownsRow K 39 1 v ess.length vs) (hr:∀ (i:Nat) (u:Value) (z:List WE),vs[i]? = some u→ess[i]? = some z→RwO K w u z) (h1:RwO K w u es) (ho:w'.ownsRow K 39 1 v' (ess.length+1) (vs ++ [u])) (hg:w.grownBy w' v.ownBlock):OtE K w' v' (ess ++ [es]):=by
 have hvl:vs.length=ess.length:=by simpa using hv.1
 have hc:∃ c:Nat→Array Value,∀ k,v.ownBlock=some k→w.heap[k]? = some (.cells (c k) 39 (0,0)):=by
  rcases hv.2 with ⟨rfl,_⟩ | ⟨g',cap,cur,rfl,_,hh,_⟩
  ·exact ⟨fun _=>#[],fun k hk=>by simp [Value.ownBlock] at hk⟩
  ·refine ⟨fun _=>cur,fun k hk=>?_⟩
   simp only [Value.ownBlock,Option.some.injEq] at hk
   subst hk
   exact hh
 obtain ⟨c,hc⟩:=hc
 have kp:∀ {u:Value} {es:List WE},RwO K w u es→RwO K w' u es:=fun {u es} h=>by
  refine h.keep hg hc (by decide) (fun g hg1 hg2=>?_)
  obtain ⟨c',hc'⟩:=h.row
  exact abc (hc g hg1) (hc' g hg2) (by decide) rfl
 refine ⟨vs ++ [u],by simpa using ho,fun i x y hx hy=>?_⟩
 by_cases hi:i<ess.length
 ·rw [List.getElem?_append_left (by omega)] at hx hy
  exact kp (hr i x y hx hy)
 ·rw [List.getElem?_append_right (by omega)] at hx hy
  rw [hvl] at hx
  match hm:i - ess.length with
  | 0 =>
   rw [hm] at hx hy
   simp at hx hy
   subst hx hy
   exact kp h1
  | m+1 =>
   rw [hm] at hx
   simp at hx
theorem infoSe:(Tryz.prog.info? 39).map (fun i=>(i.zero,i.size,i.bytes))=some (some (.slice none 0 0),1,24):=by kernel_rfl
section
variable {dst:Option Tmp} {ty:TypeId} {pos:String} {after:Array Edge} {guard:Option (Nat × Bool)} {a:Act} {w:World} {ats:Array TypeId} {i j:Nat}
theorem awm {B g:Nat} {v u:Value} {ess:List (List WE)} {es:List WE} (h1:a.eval (.tmp i)=v) (h2:a.eval (.tmp j)=.slice (some ⟨g,0,none⟩) 1 1) (R:OtE B w v ess) (O:w.heap[g]? = some (.cells #[u] 39 (0,0))) (S:RwO B w u es) (hn:ess.length≤5864062014804) (hB:B≤w.heap.size) :
  Does Tryz.prog { dst,op:=.call { callee:=.builtin .append,args:=#[.tmp i,.tmp j],argTypes:=#[22,22] },type:=ty,pos,after,guard } a.eval w fun v' w'=>OtE B w' v' (ess ++ [es])∧Below B w w' := by
 obtain ⟨i0,hi,hz0,hz1,hz2⟩:=info_parts infoSe
 obtain ⟨vs,R1,R2⟩:=R
 have hone:u.oneCell' = true:=by
  obtain ⟨ao,c,rfl⟩:=S.rw.slc
  rfl
 obtain ⟨v',w',hr,ho,hgr,_⟩:=run_append_own (P:=Tryz.prog) w B 22 ty 39 i0 _ 1 24 Tryz.underlying22 hi hz0 hz1 hz2 rfl (by decide) v ess.length vs R1 ⟨g,0,none⟩ 1 1 [u] rfl (fun k x hx=>by
  have hc:∀ k,w.cell? ⟨g,k,none⟩ = #[u][k]? := fun k=>cell_of_row w g k _ _ (0,0) O
  have ha:(⟨g,0,none⟩:Addr).add k=⟨g,k,none⟩:=by unfold Addr.add;split <;> simp_all
  rw [ha,hc]
  simpa using hx) (by simpa using hone) (by simp [maxLen];omega) (by omega) hB
 have e:(execOp a.eval { dst,op:=.call { callee:=.builtin .append,args:=#[.tmp i,.tmp j],argTypes:=#[22,22] },type:=ty,pos,after,guard }).run Tryz.prog w=.ok (.value v') w' := by
  simp only [execOp,resolve,invoke,builtin,Sem.run_bind,Sem.run_pure,Result.andThen_ok,List.map_toArray,List.map_cons,List.map_nil,h1,h2,hr]
 refine ⟨?_⟩
 unfold Turns
 rw [e]
 exact ⟨OtE.app R1 R2 S ho hgr,(Below.refl _ _).grown hgr hB (fun k hk=>(R1.lt k hk).1)⟩
end
def SameM (ess ess' : List (List WE)):Prop:=ess.length=ess'.length∧∀ (i:Nat) (xs ys:List WE),ess[i]? = some xs→ess'[i]? = some ys→SameR xs ys
theorem aoo {es xs:List (List WE)} {k:Nat} {e f:List WE} (h:SameM es (xs.take k)) (he:xs[k]? = some e) (hf:SameR f e):SameM (es ++ [f]) (xs.take (k+1)):=by
 have hk:=(List.getElem?_eq_some_iff.1 he).1
 have hl:=h.1
 rw [List.length_take] at hl
 refine ⟨by rw [List.length_append,List.length_take,hl];simp;omega,fun i a b ha hb=>?_⟩
 rw [List.take_add_one,he] at hb
 by_cases hi:i<k
 ·rw [List.getElem?_append_left (by omega)] at ha
  rw [List.getElem?_append_left (by rw [List.length_take];omega)] at hb
  exact h.2 i a b ha hb
 ·rw [List.getElem?_append_right (by omega)] at ha
  rw [List.getElem?_append_right (by rw [List.length_take];omega)] at hb
  rw [List.length_take] at hb
  rw [show i - es.length=i - min k xs.length by rw [hl]] at ha
  match hm:i - min k xs.length with
  | 0 =>
   rw [hm] at ha hb
   simp at ha hb
   subst ha hb
   exact hf
  | m+1 =>
   rw [hm] at ha
   simp at ha
set_option maxRecDepth 20000 in
set_option maxHeartbeats 4000000 in
theorem aop (w:World) (v:Value) (ess:List (List WE)) (h:RwM w v ess) (hl:ess.length≤5864062014804) (hr:∀ es ∈ ess,es.length≤4398046511103∧∀ e ∈ es,e.m≤35184372088832) :
  Calls Tryz.prog 7 #[v] w fun e w'=>∃ r fss,e=.returned r∧OtE w.heap.size w' r fss∧SameM fss ess∧Below w.heap.size w w' := by
 obtain ⟨ao,cap,rfl,_⟩:=h.parts
 have H:=hide h
 have HR:=hide hr
 clear h hr
 obtain ⟨n,hn⟩:∃ n,ess.length=n:=⟨_,rfl⟩
 rw [hn] at H hl ⊢
 have HN:=hide hn
 clear hn
 go_enter Tryz.func7,Tryz.ntmps7
 go_wp2_with fail
 go_loopw [3,4] (fun ov iv wr=>∃ (k:Nat) (fss:List (List WE)),iv=.int .i64 k∧k≤n∧Below w.heap.size w wr∧OtE w.heap.size wr ov fss∧SameM fss (ess.take k)) (fun _ iv _=>n - (intOf iv).toNat)
 case atStart=>exact ⟨0,[],rfl,Nat.zero_le _,Below.refl _ _,awl _ _,rfl,fun i xs ys a=>(by simp at a)⟩
 case round =>
  obtain ⟨k,fss,rfl,hk,hbw,hown,hsm⟩:=hrel
  have HW:=hide hbw
  have HOWN:=hide hown
  have HSM:=hide hsm
  obtain ⟨aov,capv,hov⟩:=hown.shp
  subst hov
  have hfk:fss.length=k:=by rw [hsm.1,List.length_take];have:=HN.out;omega
  rw [hfk] at HOWN ⊢
  by_cases hlt:k<n
  ·obtain ⟨es,hz⟩:∃ z,ess[k]? = some z:=⟨_,List.getElem?_eq_getElem (by have:=HN.out;omega)⟩
   obtain ⟨b,off,u,rfl,hbl,x0,hu⟩:=(H.out.below hbw).cell hz
   obtain ⟨ua,uc,rfl⟩:=hu.slc
   have hre:=HR.out es (List.mem_of_getElem? hz)
   have K1:=hide (ark wr _ _ _ es hu hre.1 hre.2)
   have HZ:=hide hz
   have hlt' : (k:Int)<(n:Int):=by omega
   clear hbw hown hz hu hsm hre
   go_wp2_with fail
   refine K1.out.mono ?_
   rintro e w2 ⟨r2,fs,rfl,hR2,hS2,hb2⟩
   obtain ⟨a2,c2,rfl⟩:=hR2.rw.slc
   have hA:=hAl w2 (.cells #[.slice a2 fs.length c2] 39)
   have hO:=heap_alloc_new w2 (.cells #[.slice a2 fs.length c2] 39)
   have hb2' := hb2.trans (hA.mono hb2.size)
   have hRm:=HOWN.out.below hb2'
   have hS:=(hR2.below hA).low HW.out.size
   have hsz:w.heap.size≤(w2.alloc (.cells #[.slice a2 fs.length c2] 39)).heap.size:=Nat.le_trans HW.out.size hb2'.size
   have hfl:fss.length≤5864062014804:=by omega
   have HS2:=hide hS2
   go_wp2_with (at_builtin;refine abt rfl (awm (i:=11) (j:=17) rfl rfl hRm hO hS hfl hsz) ?_)
   intro v3 w3 hR3 hb3
   obtain ⟨aov3,capv3,hov3⟩:=hR3.shp
   subst hov3
   have HR3:=hide hR3
   have HB3:=hide ((HW.out.trans (hb2'.mono HW.out.size)).trans hb3)
   clear hR3 hb3 hR2 hO hRm hS hsz hA hb2 hb2' hfl hS2
   go_wp2
   go_roundw
   case rel=>exact ⟨k+1,_,by go_num,by omega,HB3.out,HR3.out,aoo HSM.out HZ.out HS2.out⟩
   case measure=>simp [intOf];omega
  ·have hlt' : decide ((k:Int)<(n:Int))=false:=by simp;omega
   have hkn:ess.take k=ess:=List.take_of_length_le (by have:=HN.out;omega)
   rw [hkn] at HSM hsm
   clear hbw hown hsm
   go_wp2
   refine bodyPost_ret (v:=_) (by simp [results,Tryz.results7,go_sem];try rfl) rfl ⟨_,fss,rfl,HOWN.out,HSM.out,HW.out⟩
set_option maxRecDepth 20000 in
set_option maxHeartbeats 8000000 in
set_option maxRecDepth 100000 in
theorem ai9 (w:World) (v:Value) (rows:List (List Int)) (L:Nat) (h:IsM w v rows L) (hl:rows.length≤100000) (hr:∀ r ∈ rows,r.length≤100000) (hL:L≤100000) :
  Calls Tryz.prog 21 #[v] w fun e w'=>∃ r vs,e=.returned r∧RmO w.heap.size w' r vs rows (3*L)∧Below w.heap.size w w' := by
 obtain ⟨ao,cap,rfl,_⟩:=h.parts
 have H:=hide h
 have HR:=hide hr
 clear h hr
 obtain ⟨n,hn⟩:∃ n,rows.length=n:=⟨_,rfl⟩
 rw [hn] at H hl ⊢
 have HN:=hide hn
 clear hn
 go_enter Tryz.func21,Tryz.ntmps21
 go_wp2_with fail
 go_loopw [3,4] (fun ov iv wr=>∃ (k:Nat) (vs:List Value),iv=.int .i64 k∧k≤n∧Below w.heap.size w wr∧RmO w.heap.size wr ov vs (rows.take k) (3*L)) (fun _ iv _=>n - (intOf iv).toNat)
 case atStart=>exact ⟨0,[],rfl,Nat.zero_le _,Below.refl _ _,amx _ _ _⟩
 case round =>
  obtain ⟨k,vs,rfl,hk,hbw,hown⟩:=hrel
  have HW:=hide hbw
  have HOWN:=hide hown
  obtain ⟨aov,capv,hov,-⟩:=Ce.own hown.own
  subst hov
  by_cases hlt:k<n
  ·obtain ⟨z,hz⟩:∃ z,rows[k]? = some z:=⟨_,List.getElem?_eq_getElem (by have:=HN.out;omega)⟩
   obtain ⟨b,off,u,rfl,hbl,x0,hu⟩:=(H.out.below hbw).cell hz
   have K1:=hide (as8 wr u z L hu (by have:=HR.out z (List.mem_of_getElem? hz);omega) hL)
   obtain ⟨ua,uc,rfl,-⟩:=id hu.parts
   have HZ:=hide hz
   have hlt' : (k:Int)<(n:Int):=by omega
   clear hbw hown hz hu
   go_wp2_with fail
   refine K1.out.mono ?_
   rintro e w2 ⟨r2,rfl,hR2,hb2⟩
   obtain ⟨a2,c2,rfl,-⟩:=id hR2.parts
   have hA:=hAl w2 (.cells #[.slice a2 z.length c2] 70)
   have hO:=heap_alloc_new w2 (.cells #[.slice a2 z.length c2] 70)
   have hb2' := hb2.trans (hA.mono hb2.size)
   have hRm:=HOWN.out.below hb2'
   have hS:=hR2.below hA
   have hsz:w.heap.size≤(w2.alloc (.cells #[.slice a2 z.length c2] 70)).heap.size:=Nat.le_trans HW.out.size hb2'.size
   have hfl:vs.length≤1000000:=by rw [HOWN.out.len,List.length_take];omega
   go_wp2_with (at_builtin;refine abt rfl (aio (i:=11) (j:=17) rfl rfl hRm hO hS hfl hsz) ?_)
   intro v3 w3 hR3 hb3
   obtain ⟨aov3,capv3,hov3,-⟩:=Ce.own hR3.own
   subst hov3
   have HR3:=hide hR3
   have HB3:=hide ((HW.out.trans (hb2'.mono HW.out.size)).trans hb3)
   clear hR3 hb3 hR2 hO hRm hS hsz hA hb2 hb2' hfl
   go_wp2
   go_roundw
   case rel =>
    refine ⟨k+1,vs ++ [.slice a2 z.length c2],by go_num,by omega,HB3.out,?_⟩
    rw [List.take_add_one,HZ.out]
    exact HR3.out
   case measure=>simp [intOf];omega
  ·have hlt' : decide ((k:Int)<(n:Int))=false:=by simp;omega
   have hkn:k=n:=by omega
   subst hkn
   clear hbw hown
   go_wp2
   refine bodyPost_ret (v:=_) (adm rfl rfl) rfl ⟨_,vs,rfl,(by have h:=HOWN.out;rw [List.take_of_length_le (by have:=HN.out;omega)] at h;exact h),HW.out⟩
end Lm
end Go.Proofs.YtgmobkafnefpfaaGreat
namespace Go.Proofs.YtgmobkafnefpfaaGreat
namespace Lm
open Go Go.RowKit Md
set_option maxRecDepth 20000 in
set_option maxHeartbeats 4000000 in
theorem ah7 (w:World) (v:Value) (rows:List (List Int)) (L:Nat) (h:IsM w v rows L) (cols:Int) :
  Calls Tryz.prog 19 #[v,.int .i64 cols] w fun e w'=>e=.returned (.bool (!decide (Shaped rows cols)))∧w' = w:=by
 obtain ⟨ao,cp,rfl,hn⟩:=h.parts
 have H:=hide h
 obtain ⟨n,hnn⟩:∃ n,rows.length=n:=⟨_,rfl⟩
 rw [hnn] at H hn ⊢
 have HN:=hide hnn
 clear h hnn
 by_cases h1:cols<0
 ·have HE:Hid (decide (Shaped rows cols)=false):=decide_eq_false (fun h=>by have:=h.1;omega)
  go_enter Tryz.func19,Tryz.ntmps19
  go_wp2
  refine bodyPost_ret (v:=_) (by simp [results,Tryz.results19,go_sem];try rfl) rfl ⟨by rw [HE.out];rfl,rfl⟩
 ·by_cases h2:cols > 32
  ·have h1' : decide (cols<0)=false:=decide_eq_false h1
   have HE:Hid (decide (Shaped rows cols)=false):=decide_eq_false (fun h=>by have:=h.2.1;omega)
   clear h1
   go_enter Tryz.func19,Tryz.ntmps19
   go_wp2
   refine bodyPost_ret (v:=_) (by simp [results,Tryz.results19,go_sem];try rfl) rfl ⟨by rw [HE.out];rfl,rfl⟩
  ·by_cases h3:(n:Int) > 64
   ·have h1' : decide (cols<0)=false:=decide_eq_false h1
    have h2' : decide (cols > 32)=false:=decide_eq_false h2
    have HE:Hid (decide (Shaped rows cols)=false):=decide_eq_false (fun h=>by have:=h.2.2.1;have:=HN.out;omega)
    clear h1 h2
    go_enter Tryz.func19,Tryz.ntmps19
    go_wp2
    refine bodyPost_ret (v:=_) (by simp [results,Tryz.results19,go_sem];try rfl) rfl ⟨by rw [HE.out];rfl,rfl⟩
   ·have h1' : decide (cols<0)=false:=decide_eq_false h1
    have h2' : decide (cols > 32)=false:=decide_eq_false h2
    have h3' : decide ((n:Int) > 64)=false:=decide_eq_false h3
    have HK:=hide (And.intro h1 (And.intro h2 h3))
    clear h1 h2 h3
    go_enter Tryz.func19,Tryz.ntmps19
    go_wp2_with fail
    go_loopw [5] (fun iv wr=>∃ k:Nat,iv=.int .i64 k∧k≤n∧(∀ r ∈ rows.take k,(r.length:Int)=cols)∧wr=w) (fun iv _=>n - (intOf iv).toNat)
    case atStart=>exact ⟨0,rfl,Nat.zero_le _,fun r hr=>(by simp at hr),rfl⟩
    case round =>
     obtain ⟨k,rfl,hk,hall,rfl⟩:=hrel
     have HA:=hide hall
     clear hall h1' h2' h3'
     by_cases hlt:k<n
     ·have hlt' : (k:Int)<(n:Int):=by omega
      obtain ⟨r,hr⟩:∃ r,rows[k]? = some r:=⟨_,List.getElem?_eq_getElem (by have:=HN.out;omega)⟩
      obtain ⟨b,off,u,rfl,hbl,x0,hx⟩:=H.out.cell hr
      obtain ⟨ua,uc,rfl,_⟩:=hx.parts
      have HR:=hide hr
      clear hr hx
      by_cases he:(r.length:Int)=cols
      ·have hne:((r.length:Int) != cols)=false:=by simp [bne,he]
       have HEQ:=hide he
       clear he
       go_wp2
       go_roundw
       case rel =>
        refine ⟨k+1,by go_num,by omega,fun r' hr'=>?_,trivial⟩
        rcases (aby HR.out).1 hr' with h | rfl
        ·exact HA.out r' h
        ·exact HEQ.out
       case measure=>simp [intOf];omega
      ·have hne:((r.length:Int) != cols)=true:=by simp [bne,he]
       have HE:Hid (decide (Shaped rows cols)=false):=decide_eq_false (fun h=>he (h.2.2.2 r (List.mem_of_getElem? HR.out)))
       clear he
       go_wp2
       refine bodyPost_ret (v:=_) (by simp [results,Tryz.results19,go_sem];try rfl) rfl ⟨by rw [HE.out];rfl,rfl⟩
     ·have hlt' : decide ((k:Int)<(n:Int))=false:=by simp;omega
      have HE:Hid (decide (Shaped rows cols)=true):=decide_eq_true (by
       have h1:=HK.out
       have h2:=HA.out
       rw [List.take_of_length_le (by have:=HN.out;omega)] at h2
       exact ⟨by omega,by omega,by have:=HN.out;omega,h2⟩)
      go_wp2
      refine bodyPost_ret (v:=_) (by simp [results,Tryz.results19,go_sem];try rfl) rfl ⟨by rw [HE.out];rfl,rfl⟩
structure Bnd (rows:List (List Int)) (S:Nat) (B:Md.Rw→Nat):Prop where
 big:∀ r ∈ rows,∀ k,((fnR r k).natAbs:Int)<pw (B (fnR r))
 sum:sumB B (rows.map fnR)≤S
 all:∀ r ∈ rows,∀ z ∈ r,(z.natAbs:Int)<pw (S+1)
end Lm
end Go.Proofs.YtgmobkafnefpfaaGreat
namespace Go.Proofs.YtgmobkafnefpfaaGreat
namespace Lm
open Go Go.RowKit Md
section
variable {dst:Option Tmp} {ty:TypeId} {pos:String} {after:Array Edge} {guard:Option (Nat × Bool)} {a:Act} {w:World} {i j:Nat}
theorem ale {b off n c q:Nat} (h:a.eval (.tmp i)=.slice (some ⟨b,off,none⟩) n c) (hk:a.eval (.tmp j)=.int .i64 (q:Int)) (hl:q<n):Does Tryz.prog { dst,op:=.indexAddr 53 (.tmp i) (.tmp j),type:=ty,pos,after,guard } a.eval w fun v' w'=>Below w.heap.size w w'∧Eqs (.pointer (some ⟨b,off+q,none⟩)) v' w' := by
 have hl' : (q:Int)<(n:Int):=by omega
 refine ⟨?_⟩
 unfold Turns
 simp only [execOp,h,hk]
 go_simp
 exact ⟨Below.refl _ _,by simp [Eqs]⟩
end
theorem OutN.wide3 {z:Int} {L M:Nat} {v:Value} {w:World} (h:OutN z L v w) (hl:L≤M):OutN z M v w:=by
 obtain ⟨ng,ao,cap,rs,e,W,l⟩:=h
 exact ⟨ng,ao,cap,rs,e,W,by omega⟩
end Lm
end Go.Proofs.YtgmobkafnefpfaaGreat
namespace Go.Proofs.YtgmobkafnefpfaaGreat
namespace Lm
open Go Go.RowKit Md
def colD (n:Nat):List Nat:=(List.range n).reverse
def dt (n:Nat) (rows:List (List Int)):Int:=D (rows.map fnR).reverse (colD n)
theorem aja:∀ {n:Nat} {Q:List Nat},Q.Pairwise (· > ·)→(∀ q ∈ Q,q<n)→Q.length=n→Q=colD n
 | 0,Q,_,_,hl=>by rw [List.length_eq_zero_iff.1 hl];rfl
 | n+1,[],_,_,hl=>by simp at hl
 | n+1,q :: Q,hd,hq,hl=>by
  obtain ⟨h1,h2⟩:=List.pairwise_cons.1 hd
  have hle:=agj h2 (fun x hx=>h1 x hx)
  have hqn:=hq q (by simp)
  simp at hl
  have hqe:q=n:=by omega
  subst hqe
  have:=aja h2 (fun x hx=>h1 x hx) hl
  rw [this,colD,colD,List.range_succ,List.reverse_append]
  rfl
theorem afn (n:Nat):(colD n).length=n:=by simp [colD]
theorem ahd {n k:Nat} : k ∈ colD n↔k<n:=by simp [colD]
theorem arl (n:Nat):(colD n).Pairwise (· > ·):=by
 unfold colD
 rw [List.pairwise_reverse]
 exact List.pairwise_lt_range
theorem awn {n:Nat} {rows:List (List Int)} (hl:rows.length=n) (hne:dt n rows≠0):Ech n rows (rows.map fnR).reverse (colD n):=by
 refine ⟨⟨arl n,fun q hq=>ahd.1 hq,hne,fun p hp k hk=>?_⟩,by simp [afn,hl],fun x hx=>?_,fun _ r hr=>?_,fun h=>(by cases h),?_⟩
 ·exact (ac6 _).dup (aee hp (ahd.2 (by have:=ahd.1 hp;omega)) (by omega))
 ·rw [List.mem_reverse] at hx
  obtain ⟨r,hr,rfl⟩:=List.mem_map.1 hx
  exact ⟨r,by rw [List.take_length];exact hr,rfl⟩
 ·rw [List.take_length] at hr
  exact .mem (List.mem_reverse.2 (List.mem_map.2 ⟨r,hr,rfl⟩))
 ·rw [List.reverse_reverse,List.take_length]
  exact List.Sublist.refl _
theorem Ech.self {n:Nat} {rows:List (List Int)} {R R' : List Md.Rw} {Q Q' : List Nat} (h:Ech n rows R Q) (h' : Ech n rows R' Q'):Q=Q' := (ak9 h h' (fun r hr=>.mem (List.mem_map.2 ⟨r,hr,rfl⟩)) (fun r hr=>.mem (List.mem_map.2 ⟨r,hr,rfl⟩))).1
theorem Ech.zero {n:Nat} {rows:List (List Int)} {R:List Md.Rw} {Q:List Nat} (h:Ech n rows R Q) (hl:rows.length=n) (hQ:Q.length<n):dt n rows=0:=by
 apply Classical.byContradiction
 intro hne
 have:=h.self (awn hl hne)
 rw [this,afn] at hQ
 omega
theorem Ech.full {n:Nat} {rows:List (List Int)} {R:List Md.Rw} {Q:List Nat} (h:Ech n rows R Q) (hl:rows.length=n) (hQ:Q.length=n):D R Q=dt n rows∧dt n rows≠0:=by
 have hQe:=aja h.gat.desc h.gat.lt hQ
 have hs:=h.sl
 rw [List.take_length] at hs
 have hR:=hs.eq_of_length (by rw [List.length_reverse,List.length_map,GatI.len h,hQ,hl])
 have hR' : R=(rows.map fnR).reverse:=by rw [←hR,List.reverse_reverse]
 have e:D R Q=dt n rows:=by rw [dt,←hR',←hQe]
 exact ⟨e,by rw [←e];exact h.gat.ne⟩
theorem alf (x:Md.Rw):∀ (A B:List Md.Rw) (cs:List Nat),D (A ++ x :: B) cs=sgn A.length*D (x :: (A ++ B)) cs
 | [],B,cs=>by simp [sgn]
 | a :: A,B,cs=>by
  have h1:D (a :: A ++ x :: B) cs=Md.w a (D (A ++ x :: B)) cs:=rfl
  have h2:Md.w a (D (A ++ x :: B)) cs=Md.w a (fun l=>sgn A.length*D (x :: (A ++ B)) l) cs:=acv a (fun l=>alf x A B l) cs
  rw [h1,h2,afk]
  have h3:Md.w a (D (x :: (A ++ B))) cs = -Md.w x (D (a :: (A ++ B))) cs:=aey a x (D (A ++ B)) cs
  rw [h3]
  show sgn A.length*-Md.w x (D (a :: (A ++ B))) cs=sgn (A.length+1)*Md.w x (D (a :: (A ++ B))) cs
  rw [sgn]
  grind
theorem ayj (x y:Md.Rw) (A B C:List Md.Rw) (cs:List Nat):D (A ++ x :: (B ++ y :: C)) cs = -D (A ++ y :: (B ++ x :: C)) cs:=by
 have key:∀ x y:Md.Rw,D (A ++ x :: (B ++ y :: C)) cs=sgn A.length*(sgn (A ++ B).length*Md.w x (D (y :: (A ++ B ++ C))) cs):=fun x y=>by
  rw [alf]
  show sgn A.length*Md.w x (D (A ++ (B ++ y :: C))) cs = _
  rw [←List.append_assoc,acv x (fun l=>alf y (A ++ B) C l) cs,afk]
 rw [key x y,key y x]
 have h3:Md.w x (D (y :: (A ++ B ++ C))) cs = -Md.w y (D (x :: (A ++ B ++ C))) cs:=aey x y (D (A ++ B ++ C)) cs
 rw [h3]
 grind
theorem ajb {α:Type} {l:List α} {i:Nat} (z:α) (h:i<l.length):l.set i z=l.take i ++ z :: l.drop (i+1):=by rw [List.set_eq_take_append_cons_drop,if_pos h]
theorem alg {n:Nat} {rows:List (List Int)} {i j:Nat} (hij:i<j) {x y:List Int} (hx:rows[i]? = some x) (hy:rows[j]? = some y):dt n ((rows.set i y).set j x) = -dt n rows:=by
 have hj:=(List.getElem?_eq_some_iff.1 hy).1
 have hi:=(List.getElem?_eq_some_iff.1 hx).1
 have split:∀ u v:List Int,(rows.set i u).set j v=rows.take i ++ u :: ((rows.drop (i+1)).take (j - (i+1)) ++ v :: rows.drop (j+1)):=fun u v=>by
  rw [ajb v (by simpa using hj),ajb u hi]
  have hl:(rows.take i).length=i:=by rw [List.length_take];omega
  have h1:((rows.take i) ++ u :: rows.drop (i+1)).take j=rows.take i ++ u :: (rows.drop (i+1)).take (j - (i+1)):=by
   rw [List.take_append,hl,List.take_of_length_le (l:=rows.take i) (by omega),show j - i=(j - (i+1))+1 by omega,List.take_succ_cons]
  have h2:((rows.take i) ++ u :: rows.drop (i+1)).drop (j+1)=rows.drop (j+1):=by
   rw [List.drop_append,hl,show (rows.take i).drop (j+1) = [] from List.drop_eq_nil_of_le (by omega),List.nil_append,show j+1 - i=(j - i)+1 by omega,List.drop_succ_cons,List.drop_drop]
   congr 1
   omega
  rw [h1,h2,List.append_assoc,List.cons_append]
 have e:(rows.set i x).set j y=rows:=by
  apply List.ext_getElem?
  intro k
  by_cases hk:j=k
  ·subst hk;rw [List.getElem?_set_self (by simpa using hj),hy]
  ·rw [List.getElem?_set_ne hk]
   by_cases hk' : i=k
   ·subst hk';rw [List.getElem?_set_self hi,hx]
   ·rw [List.getElem?_set_ne hk']
 conv=>rhs;rw [←e]
 rw [dt,dt,split,split]
 simp only [List.map_append,List.map_cons,List.reverse_append,List.reverse_cons,List.append_assoc,List.cons_append,List.nil_append]
 exact ayj _ _ _ _ _ _
theorem awo {n:Nat} {rows:List (List Int)} {i j:Nat} (hij:i≠j) {x y:List Int} (hx:rows[i]? = some x) (hy:rows[j]? = some y):dt n ((rows.set i y).set j x) = -dt n rows:=by
 rcases Nat.lt_or_gt_of_ne hij with h | h
 ·exact alg h hx hy
 ·rw [List.set_comm _ _ hij]
  exact alg h hy hx
theorem awp {K:Nat} {w' : World} {n L0:Nat} {rows:List (List Int)} {e:Ending} (hl:rows.length=n) (hK:K≤w'.heap.size) (h:DetOut K w' n L0 rows e):(big (dt n rows)=true∧dt n rows≠0∧e=.returned (.tuple #[.agg #[.bool false,.slice none 0 0],.int .i64 2]))∨(big (dt n rows)=false∧∃ r,e=.returned (.tuple #[r,.int .i64 0])∧FrW K (dt n rows) (lg L0) r w'):=by
 obtain ⟨R,Q,hE,⟨hq,he⟩ | ⟨hq,hb,he⟩ | ⟨hq,hb,r,he,hf⟩⟩:=h
 ·right
  rw [hE.zero hl hq]
  exact ⟨by decide +kernel,_,he,(adh _ hK).to rfl (Nat.zero_le _)⟩
 ·left
  obtain ⟨h1,h2⟩:=hE.full hl hq
  rw [h1] at hb
  exact ⟨hb,h2,he⟩
 ·right
  obtain ⟨h1,h2⟩:=hE.full hl hq
  rw [h1] at hb hf
  exact ⟨hb,r,he,hf⟩
end Lm
end Go.Proofs.YtgmobkafnefpfaaGreat
namespace Go.Proofs.YtgmobkafnefpfaaGreat
namespace Lm
open Go Go.RowKit
theorem ahe (a b:Int):IntKind.i64.wrap (IntKind.i64.wrap a+b)=IntKind.i64.wrap (a+b):=by
 rw [IntKind.wrap_i64,IntKind.wrap_i64,IntKind.wrap_i64]
 omega
theorem arm (a b:Int):IntKind.i64.wrap (a+IntKind.i64.wrap b)=IntKind.i64.wrap (a+b):=by
 rw [IntKind.wrap_i64,IntKind.wrap_i64,IntKind.wrap_i64]
 omega
theorem awq {a:Int} (h:0≤a) (h' : a≤9223372036854775807):IntKind.i64.wrap a=a:=by
 rw [IntKind.wrap_i64]
 omega
set_option maxRecDepth 20000 in
set_option maxHeartbeats 4000000 in
theorem atp (w:World) (ax:Option Addr) (mx cx:Nat) (xs:List WE) (R:Rw w (.slice ax mx cx) xs) (hm:∀ e ∈ xs,e.m≤35184372088832) :
  Calls Tryz.prog 14 #[.slice ax mx cx] w fun e w'=>e=.returned (.int .i64 (IntKind.i64.wrap (lenW xs:Int)))∧Below w.heap.size w w' := by
 have HX:=hide R
 have HNx:Hid (mx=xs.length):=R.parts.1
 have hml:mx≤9223372036854775807:=by have:=R.parts;omega
 have HMM:=hide hm
 clear R hm
 go_enter Tryz.func14,Tryz.ntmps14
 go_wp2_with fail
 go_loopw [3,4] (fun sv iv wr=>∃ (k:Nat) (s:Int),iv=.int .i64 k∧k≤mx∧sv=.int .i64 s∧s=IntKind.i64.wrap (lenW (xs.take k):Int)∧Below w.heap.size w wr) (fun _ iv _=>mx - (intOf iv).toNat)
 case atStart=>exact ⟨0,0,rfl,Nat.zero_le _,rfl,rfl,Below.refl _ _⟩
 case round =>
  obtain ⟨k,s,rfl,hk,rfl,hsw,hbw⟩:=hrel
  have HSW:=hide hsw
  by_cases hlt:k<mx
  ·have hlt' : (k:Int)<(mx:Int):=by omega
   have HLT:=hide hlt
   obtain ⟨ex,hex⟩:∃ e,xs[k]? = some e:=⟨_,List.getElem?_eq_getElem (by have:=HNx.out;omega)⟩
   obtain ⟨bx,ox,hAx,hlx0,hcx⟩:=HX.out.cells (by have:=HNx.out;omega)
   subst hAx
   have hlx:bx<wr.heap.size:=Nat.lt_of_lt_of_le hlx0 hbw.size
   have x0:=(hbw.cell (p:=⟨bx,ox+k*2,none⟩) hlx0).trans (hcx _ _ (abl hex).1)
   have x1:wr.cell? ⟨bx,ox+k*2+1,none⟩ = some (.slice ex.a ex.m ex.c):=(hbw.cell (p:=⟨bx,ox+k*2+1,none⟩) hlx0).trans (hcx _ _ (abl hex).2)
   have hs:=ap9 hex
   have hem:=HMM.out ex (List.mem_of_getElem? hex)
   have HW:=hide hbw
   have K1:=hide (ar7 wr ex.ng ex.a ex.m ex.c (by omega))
   obtain ⟨t,hadd⟩:∃ t,IntKind.i64.wrap (s+(1+(ex.m:Int)))=t:=⟨_,rfl⟩
   have HT:Hid (t=IntKind.i64.wrap (lenW (xs.take (k+1)):Int)):=(show t = _ by
    rw [←hadd,HSW.out,ahe,hs]
    first | done | rfl | (congr 1;omega) | simp)
   clear hbw hs hsw hex hcx hlx
   go_wp2_with fail
   refine K1.out.mono ?_
   rintro e w2 ⟨rfl,hb2⟩
   have HB2:=hide (HW.out.trans (hb2.mono HW.out.size))
   clear hb2 x0 x1 hlx0
   go_wp2
   go_roundw
   case rel=>exact ⟨k+1,t,by go_num,HLT.out,rfl,HT.out,HB2.out⟩
   case measure=>have:=HLT.out;simp [intOf];omega
  ·have hlt' : decide ((k:Int)<(mx:Int))=false:=by simp;omega
   have hkn:k=mx:=by omega
   subst hkn
   have HW:=hide hbw
   clear hbw hsw
   go_wp2
   refine bodyPost_ret (v:=_) (adm rfl rfl) rfl ⟨?_,HW.out⟩
   have:=HSW.out
   rw [List.take_of_length_le (by have:=HNx.out;omega)] at this
   rw [←this]
   rfl
set_option maxRecDepth 20000 in
set_option maxHeartbeats 4000000 in
theorem arn (w:World) (v:Value) (ess:List (List WE)) (h:RwM w v ess) (hm:∀ es ∈ ess,∀ e ∈ es,e.m≤35184372088832) :
  Calls Tryz.prog 5 #[v] w fun e w'=>e=.returned (.int .i64 (IntKind.i64.wrap (lenM ess:Int)))∧Below w.heap.size w w' := by
 obtain ⟨ax,cx,rfl,hnl⟩:=h.parts
 have HX:=hide h
 have HMM:=hide hm
 obtain ⟨n,hn⟩:∃ n,ess.length=n:=⟨_,rfl⟩
 rw [hn] at HX hnl ⊢
 have HN:=hide hn
 clear h hn hm
 go_enter Tryz.func5,Tryz.ntmps5
 go_wp2_with fail
 go_loopw [3,4] (fun sv iv wr=>∃ (k:Nat) (s:Int),iv=.int .i64 k∧k≤n∧sv=.int .i64 s∧s=IntKind.i64.wrap (lenM (ess.take k):Int)∧Below w.heap.size w wr) (fun _ iv _=>n - (intOf iv).toNat)
 case atStart=>exact ⟨0,0,rfl,Nat.zero_le _,rfl,rfl,Below.refl _ _⟩
 case round =>
  obtain ⟨k,s,rfl,hk,rfl,hsw,hbw⟩:=hrel
  have HW:=hide hbw
  have HSW:=hide hsw
  by_cases hlt:k<n
  ·have hlt' : (k:Int)<(n:Int):=by omega
   have HLT:=hide hlt
   obtain ⟨es,hes⟩:∃ e,ess[k]? = some e:=⟨_,List.getElem?_eq_getElem (by have:=HN.out;omega)⟩
   obtain ⟨b,off,u,rfl,hbl,x0,hR⟩:=HX.out.cell hes
   obtain ⟨ua,uc,rfl⟩:=hR.slc
   replace x0:=(hbw.cell (p:=⟨b,off+k,none⟩) hbl).trans x0
   have hs:=arg hes
   have K1:=atp wr ua _ uc es (hR.below hbw) (HMM.out es (List.mem_of_getElem? hes))
   obtain ⟨t,ht⟩:∃ t,IntKind.i64.wrap (lenW es:Int)=t:=⟨_,rfl⟩
   rw [ht] at K1
   have K1:=hide K1
   obtain ⟨s1,hadd1⟩:∃ s1,IntKind.i64.wrap (s+1)=s1:=⟨_,rfl⟩
   obtain ⟨s2,hadd2⟩:∃ s2,IntKind.i64.wrap (s1+t)=s2:=⟨_,rfl⟩
   have HS:Hid (s2=IntKind.i64.wrap (lenM (ess.take (k+1)):Int)):=(show s2 = _ by
    rw [←hadd2,←ht,←hadd1,HSW.out,arm,ahe,Int.add_assoc,ahe,hs]
    first | done | rfl | (congr 1;omega) | simp)
   clear hbw hs hsw hR hes ht
   go_wp2_with fail
   refine K1.out.mono ?_
   rintro e w2 ⟨rfl,hb2⟩
   have HB2:=hide (HW.out.trans (hb2.mono HW.out.size))
   clear hb2 K1 x0
   go_wp2
   go_roundw
   case rel=>exact ⟨k+1,s2,by go_num,HLT.out,rfl,HS.out,HB2.out⟩
   case measure=>have:=HLT.out;simp [intOf];omega
  ·have hlt' : decide ((k:Int)<(n:Int))=false:=by simp;omega
   have hkn:ess.take k=ess:=List.take_of_length_le (by have:=HN.out;omega)
   rw [hkn] at HSW
   clear hbw hsw
   go_wp2
   refine bodyPost_ret (v:=_) (by simp [results,Tryz.results5,go_sem];try rfl) rfl ⟨by rw [←HSW.out],HW.out⟩
theorem am1 {M:Nat} : ∀ {es:List WE},(∀ e ∈ es,e.m≤M)→lenW es≤es.length*(1+M)
 | [],_=>Nat.zero_le _
 | e :: es,h=>by
  have h1:=am1 (es:=es) (fun x hx=>h x (by simp [hx]))
  have h2:=h e (by simp)
  have e1:lenW (e :: es)=1+e.m+lenW es:=by simp [lenW]
  rw [e1,List.length_cons,Nat.add_mul]
  omega
theorem am2 {M N:Nat} : ∀ {ess:List (List WE)},(∀ es ∈ ess,es.length≤N∧∀ e ∈ es,e.m≤M)→lenM ess≤ess.length*(1+N*(1+M))
 | [],_=>Nat.zero_le _
 | es :: ess,h=>by
  have h1:=am2 (ess:=ess) (fun x hx=>h x (by simp [hx]))
  obtain ⟨h2,h3⟩:=h es (by simp)
  have h4:=am1 h3
  have h5:es.length*(1+M)≤N*(1+M):=Nat.mul_le_mul_right _ h2
  have e1:lenM (es :: ess)=1+lenW es+lenM ess:=by simp [lenM]
  rw [e1,List.length_cons,Nat.add_mul]
  omega
theorem RwM.isM_s {w:World} {v:Value} {ess:List (List WE)} (h:RwM w v ess) {L:Nat} (hl:∀ es ∈ ess,∀ e ∈ es,e.m≤L):IsM w v (zsM ess) L:=by
 obtain ⟨vs,h1,h2⟩:=h
 refine ⟨vs,by simpa [zsM] using h1,fun i u z hu hz=>?_⟩
 unfold zsM at hz
 rw [List.getElem?_map] at hz
 obtain ⟨es,he,rfl⟩:=Option.map_eq_some_iff.1 hz
 have hR:=h2 i u es hu he
 refine ⟨es,hR,rfl,fun e hx=>?_⟩
 obtain ⟨ao,cap,hv,_⟩:=hR.sl e hx
 obtain ⟨_,hm,_⟩:=(Value.slice.injEq .. ▸ hv)
 have:=hl es (List.mem_of_getElem? he) e hx
 omega
theorem aoq {ess:List (List WE)} {cols:Int} (hs:Shaped (zsM ess) cols) (hm:∀ es ∈ ess,∀ e ∈ es,e.m≤35184372088832):lenM ess≤100000000000000000:=by
 have h1:ess.length≤64:=by have:=hs.2.2.1;simpa [zsM] using this
 have h2:=am2 (M:=35184372088832) (N:=32) (ess:=ess) (fun es he=>⟨by
  have h3:=hs.2.2.2 (es.map WE.z) (List.mem_map.2 ⟨es,he,rfl⟩)
  have h4:=hs.2.1
  rw [List.length_map] at h3
  omega,hm es he⟩)
 have h3:ess.length*(1+32*(1+35184372088832))≤64*(1+32*(1+35184372088832)):=Nat.mul_le_mul_right _ h1
 omega
end Lm
end Go.Proofs.YtgmobkafnefpfaaGreat
namespace Go.Proofs.YtgmobkafnefpfaaGreat
namespace Lm
open Go Go.RowKit Md
theorem IsM.wide {w:World} {v:Value} {rows:List (List Int)} {L M:Nat} (h:IsM w v rows L) (hl:L≤M):IsM w v rows M:=by
 obtain ⟨vs,h1,h2⟩:=h
 exact ⟨vs,h1,fun i u z a b=>(h2 i u z a b).wide hl⟩
end Lm
end Go.Proofs.YtgmobkafnefpfaaGreat
namespace Go.Proofs.YtgmobkafnefpfaaGreat
namespace Lm
open Go Go.RowKit Md
theorem ay0 (w:World) (k:Int):Calls Tryz.prog 10 #[.int .i64 k] w fun e w'=>e=.returned (.int .i64 k)∧w' = w:=by
 go_enter Tryz.func10,Tryz.ntmps10
 go_wp2
 go_ret
 exact ⟨rfl,rfl⟩
theorem least {P:Nat→Prop} (h:∃ n,P n):∃ n,P n∧∀ m,P m→n≤m:=by
 obtain ⟨n,hn⟩:=h
 induction n using Nat.strongRecOn with
 | _ n ih =>
  by_cases hx:∃ m,m<n∧P m
  ·obtain ⟨m,hm,hp⟩:=hx
   exact ih m hm hp
  ·exact ⟨n,hn,fun m hp=>by
    by_cases h:n≤m
    ·exact h
    ·exact absurd ⟨m,by omega,hp⟩ hx⟩
open Classical in
noncomputable def bndB (f:Md.Rw):Nat:=if h:∃ L,∀ k,((f k).natAbs:Int)<pw L then Classical.choose (least h) else 0
theorem ajc {f:Md.Rw} {L:Nat} (h:∀ k,((f k).natAbs:Int)<pw L):(∀ k,((f k).natAbs:Int)<pw (bndB f))∧bndB f≤L:=by
 have hx:∃ L,∀ k,((f k).natAbs:Int)<pw L:=⟨L,h⟩
 have hs:=Classical.choose_spec (least hx)
 unfold bndB
 rw [dif_pos hx]
 exact ⟨hs.1,hs.2 L h⟩
theorem RwM.row {w:World} {v:Value} {ess:List (List WE)} (h:RwM w v ess):∀ es ∈ ess,∃ u,Rw w u es:=by
 intro es he
 obtain ⟨i,hi⟩:=List.mem_iff_getElem?.1 he
 obtain ⟨vs,h1,h2⟩:=h
 obtain ⟨_,_,_,_,_,h3,_⟩:=h1
 obtain ⟨u,hu⟩:∃ u,vs[i]? = some u:=⟨_,List.getElem?_eq_getElem (by have:=(List.getElem?_eq_some_iff.1 hi).1;omega)⟩
 exact ⟨u,h2 i u es hu hi⟩
theorem awr {ess:List (List WE)} (h:∀ es ∈ ess,∀ z ∈ es.map WE.z,(z.natAbs:Int)<pw (lenW es)):sumB bndB ((zsM ess).map fnR)≤lenM ess:=by
 induction ess with
 | nil=>simp [zsM,sumB,lenM]
 | cons es ess ih =>
  have h1:=ih (fun x hx=>h x (by simp [hx]))
  have h2:=(ajc (ah6 (h es (by simp)) (aaj _))).2
  simp only [zsM,List.map_cons,sumB,lenM] at h1 ⊢
  omega
theorem ayk {w:World} {v:Value} {ess:List (List WE)} {S:Nat} (h:RwM w v ess) (hS:lenM ess≤S):Bnd (zsM ess) S bndB:=by
 have hz:∀ es ∈ ess,∀ z ∈ es.map WE.z,(z.natAbs:Int)<pw (lenW es):=fun es he=>by
  obtain ⟨u,hu⟩:=h.row es he
  exact adt (ala hu (Nat.le_refl _))
 refine ⟨fun r hr k=>?_,Nat.le_trans (awr hz) hS,fun r hr z hzz=>?_⟩
 ·obtain ⟨es,he,rfl⟩:=List.mem_map.1 hr
  exact (ajc (ah6 (hz es he) (aaj _))).1 k
 ·obtain ⟨es,he,rfl⟩:=List.mem_map.1 hr
  have h1:=hz es he z hzz
  have h2:=ahb he
  have h3:pw (lenW es)≤pw (S+1):=aa0 (by omega)
  omega
theorem atq {es us:List WE} (h:SameR es us):es.map WE.z=us.map WE.z:=by
 have e:∀ l:List WE,l.map WE.z=(l.map WE.raw).map fun p=>sg p.1 (val p.2):=fun l=>by rw [List.map_map];rfl
 rw [e,e,h]
theorem atr {es us:List WE} {L:Nat} (h:SameR es us) (hl:∀ e ∈ us,e.zs.length≤L):∀ e ∈ es,e.zs.length≤L:=by
 intro e he
 have h1:e.raw ∈ us.map WE.raw:=by rw [←h];exact List.mem_map_of_mem he
 obtain ⟨u,hu,hr⟩:=List.mem_map.1 h1
 have h2:u.zs=e.zs:=congrArg Prod.snd hr
 rw [←h2]
 exact hl u hu
theorem RwM.isM_z {w:World} {v:Value} {fss ess:List (List WE)} (h:RwM w v fss) (hS:SameM fss ess) {L:Nat} (hl:∀ es ∈ ess,∀ e ∈ es,e.zs.length≤L):IsM w v (zsM ess) L:=by
 obtain ⟨vs,h1,h2⟩:=h
 refine ⟨vs,by unfold zsM;rw [List.length_map,←hS.1];exact h1,fun i u z a b=>?_⟩
 unfold zsM at b
 rw [List.getElem?_map] at b
 obtain ⟨es,hes,rfl⟩:=Option.map_eq_some_iff.1 b
 obtain ⟨fs,hfs⟩:∃ fs,fss[i]? = some fs:=⟨_,List.getElem?_eq_getElem (by have:=(List.getElem?_eq_some_iff.1 hes).1;have:=hS.1;omega)⟩
 have hR:=hS.2 i fs es hfs hes
 exact ⟨fs,h2 i u fs a hfs,atq hR,atr hR (hl es (List.mem_of_getElem? hes))⟩
end Lm
end Go.Proofs.YtgmobkafnefpfaaGreat
namespace Go.Proofs.YtgmobkafnefpfaaGreat
namespace Lm
open Go Go.RowKit Md
def qput (w:World) (bv k:Nat) (ng:Bool) (a:Option Addr) (m c:Nat) (mg:Bool) (d:Option Addr) (e f:Nat):World:=(((w.setCell ⟨bv,k*4,none⟩ (.bool ng)).setCell ⟨bv,k*4+1,none⟩ (.slice a m c)).setCell ⟨bv,k*4+2,none⟩ (.bool mg)).setCell ⟨bv,k*4+3,none⟩ (.slice d e f)
end Lm
end Go.Proofs.YtgmobkafnefpfaaGreat
namespace Go.Proofs.YtgmobkafnefpfaaGreat
namespace Lm
open Go Go.RowKit Md
theorem qsetx {w2:World} {bv i:Nat} {es:List WE} {sp:List Value} {ng:Bool} {a:Option Addr} {m c:Nat} (e2:w2.heap[bv]? = some (.cells (flat es ++ sp).toArray 77 (0,0))) (hi:i<es.length) (hsp:∀ x ∈ sp,isI x=false):∃ W,W=((w2.setCell ⟨bv,i*2,none⟩ (.bool ng)).setCell ⟨bv,i*2+1,none⟩ (.slice a m c))∧W.heap[bv]? = some (.cells (flat (es.set i ⟨ng,a,m,c,[]⟩) ++ sp).toArray 77 (0,0))∧Rl w2 W∧(∀ B,B≤bv→Below B w2 W)∧∀ k,k≠bv→W.heap[k]? = w2.heap[k]? := by
 refine ⟨_,rfl,?_⟩
 generalize hW:((w2.setCell ⟨bv,i*2,none⟩ (.bool ng)).setCell ⟨bv,i*2+1,none⟩ (.slice a m c))=W
 have hbW:W.heap[bv]? = some (.cells (flat (es.set i ⟨ng,a,m,c,[]⟩) ++ sp).toArray 77 (0,0)):=by
  rw [←hW,akq es i _ hi]
  have s1:=heap_setCell_same w2 bv (i*2) _ _ (.bool ng) e2
  have s2:=heap_setCell_same _ bv (i*2+1) _ _ (.slice a m c) s1
  have hl:=abg es
  rw [s2]
  simp only [List.setIfInBounds_toArray,List.set_append]
  rw [if_pos (by omega)]
  simp only [List.set_append]
  rw [if_pos (by rw [List.length_set];omega)]
 have hot:∀ k,k≠bv→W.heap[k]? = w2.heap[k]? := fun k hn=>by rw [←hW,heap_setCell_other _ ⟨bv,i*2+1,none⟩ k _ hn,heap_setCell_other _ ⟨bv,i*2,none⟩ k _ hn]
 have hsz:W.heap.size=w2.heap.size:=by rw [←hW];simp [World.setCell]
 have hou:W.os=w2.os∧W.tape=w2.tape∧W.output=w2.output:=by rw [←hW];exact ⟨rfl,rfl,rfl⟩
 refine ⟨hbW,⟨Nat.le_of_eq hsz.symm,fun q k y e=>?_,fun k cs T hT e=>?_⟩,fun B hB=>⟨hou.1,hou.2.1,hou.2.2,Nat.le_of_eq hsz.symm,fun k hk=>hot k (by omega)⟩,hot⟩
 ·by_cases hq:q.block=bv
  ·exfalso
   obtain ⟨qb,qo,qm⟩:=q
   simp only at hq
   subst hq
   simp only [World.cell?,e2] at e
   cases qm with
   | none =>
    have e' : (flat es ++ sp)[qo]? = some (.int k y):=by simpa using e
    rw [List.getElem?_append] at e'
    split at e'
    ·exact as9 es qo k y (by simpa using e')
    ·have:=hsp _ (List.mem_of_getElem? e')
     simp [isI] at this
   | some m=>simp at e
  ·rw [World.cell?_of_block (w:=w2) (hot q.block hq)]
   exact e
 ·by_cases hk:k=bv
  ·exfalso
   subst hk
   rw [e2] at e
   injection e with e
   injection e with _ e _
   rcases hT with rfl | rfl
   ·exact absurd e (by decide)
   ·exact absurd e (by decide)
  ·rw [hot k hk]
   exact e
def PFx (w:World) (bv n:Nat) (ok:Nat→Prop) (r:Nat→Rat) (L:Nat):Prop :=
 ∃ (fs:List WE) (sp:List Value),(∀ x ∈ sp,isI x=false)∧fs.length=2*n∧w.heap[bv]? = some (.cells (flat fs ++ sp).toArray 77 (0,0))∧∀ k,k<n→ok k→∃ f g,fs[2*k]? = some f∧fs[2*k+1]? = some g∧OutN (r k).num L f.v w∧OutN ((r k).den:Int) L g.v w
theorem PFx.lt {w:World} {bv n:Nat} {ok:Nat→Prop} {r:Nat→Rat} {L:Nat} (h:PFx w bv n ok r L):bv<w.heap.size:=by
 obtain ⟨fs,sp,_,_,h2,_⟩:=h
 exact aaa h2
theorem PFx.below {w w' : World} {bv n:Nat} {ok:Nat→Prop} {r:Nat→Rat} {L:Nat} (h:PFx w bv n ok r L) (hb:Below w.heap.size w w'):PFx w' bv n ok r L:=by
 have hl:=h.lt
 obtain ⟨fs,sp,hsp,h1,h2,h3⟩:=h
 refine ⟨fs,sp,hsp,h1,(hb.block bv hl).trans h2,fun k hk ho=>?_⟩
 obtain ⟨f,g,f1,g1,o1,o2⟩:=h3 k hk ho
 exact ⟨f,g,f1,g1,o1.rl (Rl.of_below hb),o2.rl (Rl.of_below hb)⟩
theorem PFx.cells {w:World} {bv n:Nat} {ok:Nat→Prop} {r:Nat→Rat} {L:Nat} (h:PFx w bv n ok r L) {k:Nat} (hk:k<n):(∃ ng a m c mg d e f,w.cell? ⟨bv,k*4,none⟩ = some (.bool ng)∧w.cell? ⟨bv,k*4+1,none⟩ = some (.slice a m c)∧w.cell? ⟨bv,k*4+2,none⟩ = some (.bool mg)∧w.cell? ⟨bv,k*4+3,none⟩ = some (.slice d e f))∧w.frozen? ⟨bv,k*4,none⟩ = false∧w.frozen? ⟨bv,k*4+1,none⟩ = false∧w.frozen? ⟨bv,k*4+2,none⟩ = false∧w.frozen? ⟨bv,k*4+3,none⟩ = false:=by
 obtain ⟨fs,sp,_,h1,h2,_⟩:=h
 obtain ⟨f,hf⟩:∃ e,fs[2*k]? = some e:=⟨_,List.getElem?_eq_getElem (by omega)⟩
 obtain ⟨g,hg⟩:∃ e,fs[2*k+1]? = some e:=⟨_,List.getElem?_eq_getElem (by omega)⟩
 obtain ⟨f1,f2⟩:=abl hf
 obtain ⟨g1,g2⟩:=abl hg
 rw [show 2*k*2=k*4 by omega] at f1 f2
 rw [show (2*k+1)*2=k*4+2 by omega] at g1 g2
 have hl:=abg fs
 have hc:∀ j,j<n*4→w.cell? ⟨bv,j,none⟩ = (flat fs)[j]? := fun j hj=>by rw [cell_of_row _ _ _ _ _ (0,0) h2,List.getElem?_toArray,List.getElem?_append_left (by omega)]
 exact ⟨⟨_,_,_,_,_,_,_,_,(hc _ (by omega)).trans f1,(hc _ (by omega)).trans f2,(hc _ (by omega)).trans g1,(hc _ (by omega)).trans g2⟩,frozen_of_row _ _ _ _ _ h2,frozen_of_row _ _ _ _ _ h2,frozen_of_row _ _ _ _ _ h2,frozen_of_row _ _ _ _ _ h2⟩
theorem PFx.put {w:World} {bv n k:Nat} {ok:Nat→Prop} {r:Nat→Rat} {L:Nat} {x:Rat} {ng:Bool} {a:Option Addr} {m c:Nat} {mg:Bool} {d:Option Addr} {e f:Nat} (h:PFx w bv n ok r L) (hk:k<n) (h1:OutN x.num L (.agg #[.bool ng,.slice a m c]) w) (h2:OutN (x.den:Int) L (.agg #[.bool mg,.slice d e f]) w) :
  PFx (qput w bv k ng a m c mg d e f) bv n (fun j=>ok j∨j=k) (fun j=>if j=k then x else r j) L∧(∀ B,B≤bv→Below B w (qput w bv k ng a m c mg d e f))∧Rl w (qput w bv k ng a m c mg d e f)∧∀ j,j≠bv→(qput w bv k ng a m c mg d e f).heap[j]? = w.heap[j]? := by
 obtain ⟨fs,sp,hsp,e1,e2,e3⟩:=h
 obtain ⟨W1,hW1,hb1,hr1,hB1,ho1⟩:=qsetx (ng:=ng) (a:=a) (m:=m) (c:=c) (i:=2*k) e2 (by omega) hsp
 obtain ⟨W2,hW2,hb2,hr2,hB2,ho2⟩:=qsetx (ng:=mg) (a:=d) (m:=e) (c:=f) (i:=2*k+1) hb1 (by simp;omega) hsp
 have hW:W2=qput w bv k ng a m c mg d e f:=by
  rw [hW2,hW1]
  unfold qput
  rw [show 2*k*2=k*4 by omega,show (2*k+1)*2=k*4+2 by omega]
 rw [←hW]
 refine ⟨⟨_,sp,hsp,by simp [e1],hb2,fun j hj ho=>?_⟩,fun B hB=>(hB1 B hB).trans (hB2 B hB),hr1.trans hr2,fun j hj=>(ho2 j hj).trans (ho1 j hj)⟩
 by_cases hjk:j=k
 ·subst hjk
  refine ⟨⟨ng,a,m,c,[]⟩,⟨mg,d,e,f,[]⟩,?_,?_,?_,?_⟩
  ·rw [List.getElem?_set_ne (by omega),List.getElem?_set_self (by omega)]
  ·rw [List.getElem?_set_self (by simp;omega)]
  ·show OutN (if j=j then x else r j).num L _ _
   rw [if_pos rfl]
   exact (h1.rl hr1).rl hr2
  ·show OutN ((if j=j then x else r j).den:Int) L _ _
   rw [if_pos rfl]
   exact (h2.rl hr1).rl hr2
 ·rcases ho with ho | ho
  ·obtain ⟨f',g',f1,g1,o1,o2⟩:=e3 j hj ho
   refine ⟨f',g',?_,?_,?_,?_⟩
   ·rw [List.getElem?_set_ne (by omega),List.getElem?_set_ne (by omega)]
    exact f1
   ·rw [List.getElem?_set_ne (by omega),List.getElem?_set_ne (by omega)]
    exact g1
   ·show OutN (if j=k then x else r j).num L _ _
    rw [if_neg hjk]
    exact (o1.rl hr1).rl hr2
   ·show OutN ((if j=k then x else r j).den:Int) L _ _
    rw [if_neg hjk]
    exact (o2.rl hr1).rl hr2
  ·exact absurd ho hjk
theorem PFx.mono {w:World} {bv n:Nat} {ok ok' : Nat→Prop} {r r' : Nat→Rat} {L:Nat} (h:PFx w bv n ok r L) (ho:∀ k,k<n→ok' k→ok k∧r k=r' k):PFx w bv n ok' r' L:=by
 obtain ⟨fs,sp,hsp,h1,h2,h3⟩:=h
 refine ⟨fs,sp,hsp,h1,h2,fun k hk hok=>?_⟩
 obtain ⟨a,b⟩:=ho k hk hok
 rw [←b]
 exact h3 k hk a
theorem QnO.pfx {B:Nat} {w:World} {v:Value} {fs:List WE} {rs:List Rat} {L:Nat} (h:QnO B w v fs rs L) (hn:0<rs.length):∃ g cap,v=.slice (Option.some ⟨g,0,none⟩) rs.length cap∧B≤g∧rs.length≤cap∧PFx w g rs.length (fun _=>True) (fun k=>rs.getD k 0) L:=by
 obtain ⟨h1,⟨_,h0⟩ | ⟨g,cap,cur,rfl,hg,hh,hc,hm,hs,ht⟩⟩:=h.own
 ·omega
 ·refine ⟨g,cap,rfl,hg,hc,fs,cur.toList.drop (rs.length*4),fun x hx=>h.noi g cur _ rfl hh x (List.mem_of_mem_drop hx),h.out.1,?_,fun k hk _=>?_⟩
  ·rw [←ht,List.take_append_drop]
   exact hh
  ·obtain ⟨r,hr⟩:∃ r,rs[k]? = some r:=⟨_,List.getElem?_eq_getElem hk⟩
   have e:rs.getD k 0=r:=by rw [List.getD_eq_getElem?_getD,hr];rfl
   show ∃ f g' : WE,_∧_∧OutN (rs.getD k 0).num L f.v w∧OutN ((rs.getD k 0).den:Int) L g'.v w
   rw [e]
   exact h.out.2 k r hr
theorem PFx.rl {w w' : World} {bv n:Nat} {ok:Nat→Prop} {r:Nat→Rat} {L:Nat} (h:PFx w bv n ok r L) (hr:Rl w w') (hk:w'.heap[bv]? = w.heap[bv]?):PFx w' bv n ok r L:=by
 obtain ⟨fs,sp,hsp,h1,h2,h3⟩:=h
 refine ⟨fs,sp,hsp,h1,hk.trans h2,fun k hk ho=>?_⟩
 obtain ⟨f,g,f1,g1,o1,o2⟩:=h3 k hk ho
 exact ⟨f,g,f1,g1,o1.rl hr,o2.rl hr⟩
structure QMx (B:Nat) (w:World) (gq n:Nat) (us:List (Nat × Nat)) (r:Nat→Nat→Rat) (L:Nat):Prop where
 top:∃ sp,(∀ x ∈ sp,isI x=false)∧w.heap[gq]? = some (.cells (us.map (fun p=>Value.slice (some ⟨p.1,0,none⟩) n p.2) ++ sp).toArray 75 (0,0))
 base:B≤gq∧∀ p ∈ us,B≤p.1∧p.1≠gq
 apart:(us.map Prod.fst).Nodup
 room:∀ p ∈ us,n≤p.2∧p.2≤9223372036854775807
 rows:∀ (i:Nat) (p:Nat × Nat),us[i]? = some p→PFx w p.1 n (fun _=>True) (r i) L
theorem QMx.lt {B:Nat} {w:World} {gq n:Nat} {us:List (Nat × Nat)} {r:Nat→Nat→Rat} {L:Nat} (h:QMx B w gq n us r L):gq<w.heap.size∧∀ p ∈ us,p.1<w.heap.size:=by
 obtain ⟨sp,_,h1⟩:=h.top
 refine ⟨aaa h1,fun p hp=>?_⟩
 obtain ⟨i,hi⟩:=List.getElem?_of_mem hp
 exact (h.rows i p hi).lt
theorem QMx.below {B:Nat} {w w' : World} {gq n:Nat} {us:List (Nat × Nat)} {r:Nat→Nat→Rat} {L:Nat} (h:QMx B w gq n us r L) (hb:Below w.heap.size w w'):QMx B w' gq n us r L:=by
 have hlt:=h.lt
 obtain ⟨⟨sp,hsp,h1⟩,h2,h3,h4,h5⟩:=h
 exact ⟨⟨sp,hsp,(hb.block gq hlt.1).trans h1⟩,h2,h3,h4,fun i p hp=>(h5 i p hp).below hb⟩
theorem QMx.cell {B:Nat} {w:World} {gq n:Nat} {us:List (Nat × Nat)} {r:Nat→Nat→Rat} {L:Nat} (h:QMx B w gq n us r L) {i:Nat} {p:Nat × Nat} (hp:us[i]? = some p):w.cell? ⟨gq,i,none⟩ = some (.slice (some ⟨p.1,0,none⟩) n p.2)∧w.frozen? ⟨gq,i,none⟩ = false:=by
 obtain ⟨sp,hsp,h1⟩:=h.top
 have hi:=(List.getElem?_eq_some_iff.1 hp).1
 refine ⟨?_,frozen_of_row _ _ _ _ _ h1⟩
 rw [cell_of_row _ _ _ _ _ (0,0) h1,List.getElem?_toArray,List.getElem?_append_left (by simpa using hi),List.getElem?_map,hp]
 rfl
theorem QMx.put {B:Nat} {w:World} {gq n:Nat} {us:List (Nat × Nat)} {r:Nat→Nat→Rat} {L i k:Nat} {p:Nat × Nat} {x:Rat} {ng:Bool} {a:Option Addr} {m c:Nat} {mg:Bool} {d:Option Addr} {e f:Nat} (h:QMx B w gq n us r L) (hp:us[i]? = some p) (hk:k<n) (h1:OutN x.num L (.agg #[.bool ng,.slice a m c]) w) (h2:OutN (x.den:Int) L (.agg #[.bool mg,.slice d e f]) w) :
  QMx B (qput w p.1 k ng a m c mg d e f) gq n us (fun i' j=>if i' = i∧j=k then x else r i' j) L∧Below B w (qput w p.1 k ng a m c mg d e f)∧Rl w (qput w p.1 k ng a m c mg d e f)∧∀ j,j≠p.1→(qput w p.1 k ng a m c mg d e f).heap[j]? = w.heap[j]? := by
 have hpm:=List.mem_of_getElem? hp
 obtain ⟨q1,q2,q3,q4⟩:=(h.rows i p hp).put hk h1 h2
 have hB:=(h.base.2 p hpm).1
 refine ⟨⟨?_,h.base,h.apart,h.room,fun i' p' hp'=>?_⟩,q2 B hB,q3,q4⟩
 ·obtain ⟨sp,hsp,h3⟩:=h.top
  exact ⟨sp,hsp,(q4 gq (fun e=>(h.base.2 p hpm).2 e.symm)).trans h3⟩
 ·by_cases hii:i' = i
  ·subst hii
   rw [hp] at hp'
   cases hp'
   refine q1.mono fun j _ _=>⟨?_,?_⟩
   ·by_cases hj:j=k
    ·exact .inr hj
    ·exact .inl trivial
   ·by_cases hj:j=k
    ·simp [hj]
    ·simp [hj]
  ·have hne:p'.1≠p.1:=fun e=>hii (by
    have ha:(us.map Prod.fst)[i']? = some p'.1:=by rw [List.getElem?_map,hp'];rfl
    have hb:(us.map Prod.fst)[i]? = some p.1:=by rw [List.getElem?_map,hp];rfl
    have hi' := (List.getElem?_eq_some_iff.1 ha).1
    rw [e,←hb] at ha
    exact (List.getElem?_inj hi' h.apart).1 ha)
   refine ((h.rows i' p' hp').rl q3 (q4 p'.1 hne)).mono fun j _ _=>⟨trivial,?_⟩
   simp [hii]
end Lm
end Go.Proofs.YtgmobkafnefpfaaGreat
