/-
  What the text behind the last one leans on, part 2.
-/
import Derived.Test.YtaofpigilgapgaaGreatDoorProg
import Derived.WalkKit
import Derived.WalkSpells
import Derived.WalkLawsBesides
import Derived.Deep.QuietTactic
import Derived.BigQuiet
import Derived.Deep.RegionWith
import Derived.Deep.RegionHeld3
import Derived.Deep.AppendLies
import Derived.Deep.DeepCutAuto
import Derived.BigRegion
import Derived.Laws.AppendOwn
import Derived.Deep.LoopGhost
import Derived.Test.YtaofpigilgapgaaGreatDoorRows
import Derived.ProofKit
import Derived.OpenShut
import Derived.Deep.SlicePairs
import Derived.Test.YtaofpigilgapgaaGreatDoorNKLawZ1
namespace Go.Proofs.YtaofpigilgapgaaGreatDoor
namespace Lm
open Go.RowKit
theorem infoL:(Tryz.prog.info? 38).map (fun i=>(i.zero,i.size,i.bytes))=some (some (.slice none 0 0),1,24):=by kernel_rfl
theorem owns_shape {w:World} {B e n:Nat} {v:Value} {xs:List Value} (h:w.ownsRow B e 1 v n xs):∃ a c,v=.slice a n c∧n≤c∧c≤9223372036854775807:=by
 rcases h.2 with ⟨rfl,rfl⟩ | ⟨g,cap,cur,rfl,_,_,h1,h2,_⟩
 ·exact ⟨none,0,rfl,Nat.le_refl _,by omega⟩
 ·exact ⟨_,cap,rfl,h1,h2⟩
theorem Bk.grown {w w1:World} {p Q m:Nat} {bs:List Nat} {rv:List Value} {lv mv v:Value} {o:Obj} (h:Bk w p Q bs rv m lv mv) (hg:(w.alloc o).grownBy w1 v.ownBlock) (hv:∀ j,v.ownBlock=some j→j ∈ bs) :
  w1.cell? ⟨p,0,none⟩ = some lv∧w1.cell? ⟨p,1,none⟩ = some mv∧w1.frozen? ⟨p,0,none⟩ = false∧w1.frozen? ⟨p,1,none⟩ = false:=by
 have hp:=h.lt
 have pl:v.ownBlock≠some p:=fun e=>h.pQ (hv p e)
 have e:w1.heap[p]? = some (.cells #[lv,mv] 40 (0,0)):=((hg.block p (by simp;omega) (fun e=>pl e.symm)).trans (Below.heap_alloc _ _ _ hp)).trans h.here
 exact ⟨by rw [cell_of_row _ _ _ _ _ (0,0) e];rfl,by rw [cell_of_row _ _ _ _ _ (0,0) e];rfl,frozen_of_row _ _ _ _ _ e,frozen_of_row _ _ _ _ _ e⟩
theorem Bk.facts {w:World} {p Q m:Nat} {bs:List Nat} {rv:List Value} {lv mv:Value} (h:Bk w p Q bs rv m lv mv) :
  w.cell? ⟨p,0,none⟩ = some lv∧w.cell? ⟨p,1,none⟩ = some mv∧w.frozen? ⟨p,0,none⟩ = false∧w.frozen? ⟨p,1,none⟩ = false :=
 ⟨by rw [cell_of_row _ _ _ _ _ (0,0) h.here];rfl,by rw [cell_of_row _ _ _ _ _ (0,0) h.here];rfl,frozen_of_row _ _ _ _ _ h.here,frozen_of_row _ _ _ _ _ h.here⟩
theorem cell_new_at {W:World} {H:Nat} (hH:W.heap.size=H) (x:Value) (t:TypeId):∀ j u,[x][j]? = some u→(W.alloc (.cells #[x] t)).cell? ((⟨H,0,none⟩:Addr).add j)=some u:=by
 subst hH
 exact cell_one_new _ _ _
def OwnS (w w' : World) (p Q:Nat) (bs:List Nat) (len:Nat) (ao:Option Addr):Prop :=
 ∃ bs' rv' lv' mv',rv'.length=len+1∧Bk w' p Q bs' rv' rv'.length lv' mv'∧Kp w w' p bs'∧(∀ j,j ∈ bs'→j ∈ bs∨w.heap.size≤j∨∃ off,ao=some ⟨j,off,none⟩)
set_option maxRecDepth 20000 in
set_option maxHeartbeats 1000000 in
theorem own_zero_a (w:World) (p Q:Nat) (bs:List Nat) (rv:List Value) (lv mv:Value) (hk:Bk w p Q bs rv rv.length lv mv) (hr:rv.length≤1000) (hQ:Q≤w.heap.size)  :
  Calls Tryz.prog 63 #[.pointer (some ⟨p,0,none⟩),.slice none 0 0] w fun e w'=>e=.returned (.bool true)∧OwnS w w' p Q bs rv.length none:=by
 obtain ⟨i1,hi1,iz0,iz1,iz2⟩:=info_parts infoL
 obtain ⟨j1,hj1,jz0,jz1,jz2⟩:=info_parts info32
 obtain ⟨al,cl,rfl,al1,al2⟩:=owns_shape hk.lists
 obtain ⟨am,cm,rfl,am1,am2⟩:=owns_shape hk.marks
 obtain ⟨k0,k1,k2,k3⟩:=hk.facts
 have kp0:=hide (Kp.refl w p bs)
 have szr:w.heap.size≤w.heap.size:=Nat.le_refl _
 have hQr:Q≤w.heap.size:=hQ
 have hbs:∀ j,j ∈ bs→j ∈ bs∨w.heap.size≤j∨∃ off',none=some (⟨j,off',none⟩:Addr):=fun j hj=>.inl hj
 go_enter Tryz.func63,Tryz.ntmps63
 go_wp2
 refine wp_loop_rounds 1 ?_
 rw [rounds_succ]
 go_wp2_with (at_builtin;refine wpList_append_lies _ rfl (.tmp 38) (.tmp 40) 37 rfl Q 38 i1 (.slice none 0 0) 1 24 Tryz.underlying37 hi1 iz0 iz1 iz2 rfl (by decide) (.slice al rv.length cl) rv.length rv rfl ((hk).lists.alloc _) ⟨w.heap.size,0,none⟩ 1 1 [.slice none 0 0] rfl rfl (cell_one_new _ _ _) (by intro u hu;simp at hu;subst hu;rfl) (by omega) (by unfold maxLen;omega) (by omega) (by have:=(hk).lt;simp;omega) (w.heap.size+1) (by simp) ?_)
 intro g1 q1 w1 hown1 hgrow1 hat1 hlt1
 have bk2:=(hk).list_step hgrow1 hown1 hat1 hlt1 hQr (⟨none,0,0,rfl,Nat.le_refl _,by omega,by omega,.inl rfl⟩)
 obtain ⟨x0,x1,x2,x3⟩:=(hk).grown hgrow1 (hk).lvb
 have kp1:=hide (Kp.step (p:=p) (i:=0) (u:=.slice (some ⟨g1,0,none⟩) (rv.length+1) q1) hgrow1 (hk).lvb)
 have sz1:=hide (show w.heap.size+1≤w1.heap.size by have:=hgrow1.size;simpa using this)
 have A1:=hide hat1
 have BK2:=hide bk2
 obtain ⟨y0,y1,y2,y3⟩:=bk2.facts
 clear hgrow1 hown1 hat1 bk2 k0 k1 k2 k3
 go_wp2_with (at_builtin;refine wpList_append_lies _ rfl (.tmp 48) (.tmp 50) 38 rfl Q 103 j1 (.int .u32 0) 1 4 Tryz.underlying38 hj1 jz0 jz1 jz2 rfl (by decide) (.slice am rv.length cm) rv.length (bmks rv.length) rfl (BK2.out.marks.alloc _) ⟨w1.heap.size,0,none⟩ 1 1 [bmk rv.length] rfl rfl (cell_new_at (by simp [World.setCell]) (bmk rv.length) _) (by intro u hu;simp at hu;subst hu;rfl) (by omega) (by unfold maxLen;omega) (by omega) (by have:=BK2.out.lt;have:=sz1.out;simp [World.setCell];omega) (w1.heap.size+1) (by simp [World.setCell]) ?_)
 intro g2 q2 w3 hown2 hgrow2 hat2 hlt2
 have hsz2:(w1.setCell ⟨p,0,none⟩ (.slice (some ⟨g1,0,none⟩) (rv.length+1) q1)).heap.size=w1.heap.size:=by simp [World.setCell]
 have bk3:=BK2.out.mark_step hgrow2 hown2 (by rw [hsz2];exact hat2) hlt2 (by rw [hsz2];have:=sz1.out;omega)
 obtain ⟨v0,v1,v2,v3⟩:=BK2.out.grown hgrow2 BK2.out.mvb
 have kp2:=Kp.step (p:=p) (i:=1) (u:=.slice (some ⟨g2,0,none⟩) (rv.length+1) q2) hgrow2 BK2.out.mvb
 have F:Hid (OwnS w (w3.setCell ⟨p,1,none⟩ (.slice (some ⟨g2,0,none⟩) (rv.length+1) q2)) p Q bs rv.length none):=by
  refine ⟨g2 :: g1 :: bs,rv ++ [.slice none 0 0],.slice (some ⟨g1,0,none⟩) (rv.length+1) q1,.slice (some ⟨g2,0,none⟩) (rv.length+1) q2,?_,?_,?_,?_⟩
  ·simp
  ·rw [show (rv ++ [Value.slice none 0 0]).length=rv.length+1 by simp]
   exact bk3
  ·exact (kp0.out.trans (kp1.out.trans kp2 (fun j hj=>List.mem_cons_of_mem _ hj)) (fun j hj=>List.mem_cons_of_mem _ hj)).trans (Kp.refl _ _ _) (fun j hj=>List.mem_cons_of_mem _ hj)
  ·intro j hj
   have s1:=sz1.out
   rcases List.mem_cons.1 hj with e | hj
   ·subst e
    rcases hat2 with e' | e'
    ·exact hbs j ((hk).mvb j e')
    ·right;left;have:=szr;omega
   ·rcases List.mem_cons.1 hj with e | hj
    ·subst e
     rcases A1.out with e' | e'
     ·exact hbs j ((hk).lvb j e')
     ·right;left;have:=szr;omega
    ·exact hbs j hj
 clear hgrow2 hown2 hat2 bk3 kp2 x0 x1 x2 x3 y0 y1 y2 y3
 go_wp2
 go_ret
 exact ⟨rfl,F.out⟩
set_option maxRecDepth 20000 in
set_option maxHeartbeats 1000000 in
theorem own_zero_b (w:World) (p Q:Nat) (bs:List Nat) (rv:List Value) (lv mv:Value) (hk:Bk w p Q bs rv rv.length lv mv) (hr:rv.length≤1000) (hQ:Q≤w.heap.size)  (ad:Addr) :
  Calls Tryz.prog 63 #[.pointer (some ⟨p,0,none⟩),.slice (some ad) 0 0] w fun e w'=>e=.returned (.bool true)∧OwnS w w' p Q bs rv.length none:=by
 obtain ⟨i1,hi1,iz0,iz1,iz2⟩:=info_parts infoL
 obtain ⟨j1,hj1,jz0,jz1,jz2⟩:=info_parts info32
 obtain ⟨al,cl,rfl,al1,al2⟩:=owns_shape hk.lists
 obtain ⟨am,cm,rfl,am1,am2⟩:=owns_shape hk.marks
 obtain ⟨k0,k1,k2,k3⟩:=hk.facts
 have kp0:=hide (Kp.refl w p bs)
 have szr:w.heap.size≤w.heap.size:=Nat.le_refl _
 have hQr:Q≤w.heap.size:=hQ
 have hbs:∀ j,j ∈ bs→j ∈ bs∨w.heap.size≤j∨∃ off',none=some (⟨j,off',none⟩:Addr):=fun j hj=>.inl hj
 go_enter Tryz.func63,Tryz.ntmps63
 go_wp2
 refine wp_loop_rounds 1 ?_
 rw [rounds_succ]
 go_wp2_with (at_builtin;refine wpList_append_lies _ rfl (.tmp 38) (.tmp 40) 37 rfl Q 38 i1 (.slice none 0 0) 1 24 Tryz.underlying37 hi1 iz0 iz1 iz2 rfl (by decide) (.slice al rv.length cl) rv.length rv rfl ((hk).lists.alloc _) ⟨w.heap.size,0,none⟩ 1 1 [.slice (some ad) 0 0] rfl rfl (cell_one_new _ _ _) (by intro u hu;simp at hu;subst hu;rfl) (by omega) (by unfold maxLen;omega) (by omega) (by have:=(hk).lt;simp;omega) (w.heap.size+1) (by simp) ?_)
 intro g1 q1 w1 hown1 hgrow1 hat1 hlt1
 have bk2:=(hk).list_step hgrow1 hown1 hat1 hlt1 hQr (⟨(some ad),0,0,rfl,Nat.le_refl _,by omega,by omega,.inl rfl⟩)
 obtain ⟨x0,x1,x2,x3⟩:=(hk).grown hgrow1 (hk).lvb
 have kp1:=hide (Kp.step (p:=p) (i:=0) (u:=.slice (some ⟨g1,0,none⟩) (rv.length+1) q1) hgrow1 (hk).lvb)
 have sz1:=hide (show w.heap.size+1≤w1.heap.size by have:=hgrow1.size;simpa using this)
 have A1:=hide hat1
 have BK2:=hide bk2
 obtain ⟨y0,y1,y2,y3⟩:=bk2.facts
 clear hgrow1 hown1 hat1 bk2 k0 k1 k2 k3
 go_wp2_with (at_builtin;refine wpList_append_lies _ rfl (.tmp 48) (.tmp 50) 38 rfl Q 103 j1 (.int .u32 0) 1 4 Tryz.underlying38 hj1 jz0 jz1 jz2 rfl (by decide) (.slice am rv.length cm) rv.length (bmks rv.length) rfl (BK2.out.marks.alloc _) ⟨w1.heap.size,0,none⟩ 1 1 [bmk rv.length] rfl rfl (cell_new_at (by simp [World.setCell]) (bmk rv.length) _) (by intro u hu;simp at hu;subst hu;rfl) (by omega) (by unfold maxLen;omega) (by omega) (by have:=BK2.out.lt;have:=sz1.out;simp [World.setCell];omega) (w1.heap.size+1) (by simp [World.setCell]) ?_)
 intro g2 q2 w3 hown2 hgrow2 hat2 hlt2
 have hsz2:(w1.setCell ⟨p,0,none⟩ (.slice (some ⟨g1,0,none⟩) (rv.length+1) q1)).heap.size=w1.heap.size:=by simp [World.setCell]
 have bk3:=BK2.out.mark_step hgrow2 hown2 (by rw [hsz2];exact hat2) hlt2 (by rw [hsz2];have:=sz1.out;omega)
 obtain ⟨v0,v1,v2,v3⟩:=BK2.out.grown hgrow2 BK2.out.mvb
 have kp2:=Kp.step (p:=p) (i:=1) (u:=.slice (some ⟨g2,0,none⟩) (rv.length+1) q2) hgrow2 BK2.out.mvb
 have F:Hid (OwnS w (w3.setCell ⟨p,1,none⟩ (.slice (some ⟨g2,0,none⟩) (rv.length+1) q2)) p Q bs rv.length none):=by
  refine ⟨g2 :: g1 :: bs,rv ++ [.slice (some ad) 0 0],.slice (some ⟨g1,0,none⟩) (rv.length+1) q1,.slice (some ⟨g2,0,none⟩) (rv.length+1) q2,?_,?_,?_,?_⟩
  ·simp
  ·rw [show (rv ++ [Value.slice (some ad) 0 0]).length=rv.length+1 by simp]
   exact bk3
  ·exact (kp0.out.trans (kp1.out.trans kp2 (fun j hj=>List.mem_cons_of_mem _ hj)) (fun j hj=>List.mem_cons_of_mem _ hj)).trans (Kp.refl _ _ _) (fun j hj=>List.mem_cons_of_mem _ hj)
  ·intro j hj
   have s1:=sz1.out
   rcases List.mem_cons.1 hj with e | hj
   ·subst e
    rcases hat2 with e' | e'
    ·exact hbs j ((hk).mvb j e')
    ·right;left;have:=szr;omega
   ·rcases List.mem_cons.1 hj with e | hj
    ·subst e
     rcases A1.out with e' | e'
     ·exact hbs j ((hk).lvb j e')
     ·right;left;have:=szr;omega
    ·exact hbs j hj
 clear hgrow2 hown2 hat2 bk3 kp2 x0 x1 x2 x3 y0 y1 y2 y3
 go_wp2
 go_ret
 exact ⟨rfl,F.out⟩
set_option maxRecDepth 20000 in
set_option maxHeartbeats 1000000 in
theorem own_small (w:World) (p Q:Nat) (bs:List Nat) (rv:List Value) (lv mv:Value) (hk:Bk w p Q bs rv rv.length lv mv) (hr:rv.length≤1000) (hQ:Q≤w.heap.size) (g off n cap:Nat) (cur:Array Value) (hh:w.heap[g]? = some (.cells cur 103 (0,0))) (hsz:off+cap≤cur.size) (hgb:g ∉ bs) (hgQ:Q≤g) (_hn:n≤cap) (hcm:cap≤9223372036854775807) (h4:cap≤4096) :
  Calls Tryz.prog 63 #[.pointer (some ⟨p,0,none⟩),.slice (some ⟨g,off,none⟩) n cap] w fun e w'=>e=.returned (.bool true)∧OwnS w w' p Q bs rv.length (some ⟨g,off,none⟩):=by
 obtain ⟨i1,hi1,iz0,iz1,iz2⟩:=info_parts infoL
 obtain ⟨j1,hj1,jz0,jz1,jz2⟩:=info_parts info32
 obtain ⟨al,cl,rfl,al1,al2⟩:=owns_shape hk.lists
 obtain ⟨am,cm,rfl,am1,am2⟩:=owns_shape hk.marks
 obtain ⟨k0,k1,k2,k3⟩:=hk.facts
 have HH:=hide hh
 have HSZ:=hide hsz
 have hpg:p≠g:=fun e=>by have h1:=hk.here;rw [e,hh] at h1;simp at h1
 clear hh hsz
 go_enter Tryz.func63,Tryz.ntmps63
 go_wp2
 go_loopw [7] (fun iv wr=>∃ (k:Nat) (cur' : Array Value),k≤cap∧iv=.int .i64 k∧Wr w wr g cur' 103∧cur'.size=cur.size∧∀ i,i<k→cur'[off+i]? = some (bmk rv.length)) (fun iv _=>cap - (intOf iv).toNat)
 case atStart=>exact ⟨0,cur,Nat.zero_le _,rfl,Wr.refl HH.out,rfl,fun i hi=>by omega⟩
 case round =>
  obtain ⟨k,cur',hkn,rfl,hwr,hcs,hfill⟩:=hrel
  by_cases hlt:k<cap
  ·have hb:off+k<cur'.size:=by have:=HSZ.out;omega
   have old:cur'[off+k]? = some cur'[off+k]:=Array.getElem?_eq_getElem hb
   have co:wr.cell? ⟨g,off+k,none⟩ = some cur'[off+k]:=by rw [cell_of_row wr g (off+k) cur' _ (0,0) hwr.here];exact old
   have fo:=hwr.free (off+k)
   have dA:(k:Int)<((cap:Nat):Int):=by omega
   have dC:(k:Int)<((cap:Nat):Int):=by omega
   have HW' := hide (hwr.set (off+k) (bmk rv.length))
   have HC' : Hid ((cur'.setIfInBounds (off+k) (bmk rv.length)).size=cur.size):=by show _ = _;rw [Array.size_setIfInBounds];exact hcs
   have HF' : Hid (∀ i,i<k+1→(cur'.setIfInBounds (off+k) (bmk rv.length))[off+i]? = some (bmk rv.length)):=by
    intro i hi
    rw [Array.getElem?_setIfInBounds]
    by_cases e:off+k=off+i
    ·rw [if_pos e,if_pos (by omega)]
    ·rw [if_neg e]
     exact hfill i (by omega)
   clear hwr hcs hfill old
   generalize cur'[off+k]=u9 at co
   go_wp2
   go_roundw
   case rel=>exact ⟨k+1,_,by omega,by go_num,HW'.out,HC'.out,HF'.out⟩
   case measure=>simp [intOf];omega
  ·have hkn' : cap=k:=by omega
   subst hkn'
   have dA:¬ ((cap:Nat):Int)<((cap:Nat):Int):=by omega
   have bkr:=(hk.kept (hwr.other p hpg) (fun j hj=>hwr.other j (fun e=>hgb (e ▸ hj))) (by rw [hwr.size];exact Nat.le_refl _)).more (gs:=[g]) (fun j hj=>by simp at hj;subst hj;rw [hwr.size];exact ⟨by omega,lt_of_heap HH.out⟩) (by simpa using hpg)
   have room:RoomOk wr ([g] ++ bs) (.slice al rv.length cl) (.slice am rv.length cm) rv.length (.slice (some ⟨g,off,none⟩) cap cap):=⟨_,_,_,rfl,by omega,by omega,by omega,.inr ⟨g,off,rfl,by simp,fun e=>hgb (hk.lvb _ e),fun e=>hgb (hk.mvb _ e),fun i hi=>by rw [cell_of_row wr g (off+i) cur' _ (0,0) hwr.here];exact hfill i hi⟩⟩
   have kp0:Hid (Kp w wr p ([g] ++ bs)):=Kp.of_wr hwr (by simp)
   have szr:w.heap.size≤wr.heap.size:=by rw [hwr.size];exact Nat.le_refl _
   have hQr:Q≤wr.heap.size:=by omega
   have hbs:∀ j,j ∈ [g] ++ bs→j ∈ bs∨w.heap.size≤j∨∃ off',some (⟨g,off,none⟩:Addr)=some ⟨j,off',none⟩:=by
    intro j hj
    rcases List.mem_append.1 hj with e | e
    ·simp at e;subst e;exact .inr (.inr ⟨off,rfl⟩)
    ·exact .inl e
   obtain ⟨m0,m1,m2,m3⟩:=bkr.facts
   have BKR:=hide bkr
   have ROOM:=hide room
   have HBS:=hide hbs
   have SZR:=hide szr
   clear hwr hcs hfill bkr room hbs k0 k1 k2 k3
   go_wp2_with (at_builtin;refine wpList_append_lies _ rfl (.tmp 38) (.tmp 40) 37 rfl Q 38 i1 (.slice none 0 0) 1 24 Tryz.underlying37 hi1 iz0 iz1 iz2 rfl (by decide) (.slice al rv.length cl) rv.length rv rfl ((BKR.out).lists.alloc _) ⟨wr.heap.size,0,none⟩ 1 1 [.slice (some ⟨g,off,none⟩) cap cap] rfl rfl (cell_one_new _ _ _) (by intro u hu;simp at hu;subst hu;rfl) (by omega) (by unfold maxLen;omega) (by omega) (by have:=(BKR.out).lt;simp;omega) (wr.heap.size+1) (by simp) ?_)
   intro g1 q1 w1 hown1 hgrow1 hat1 hlt1
   have bk2:=(BKR.out).list_step hgrow1 hown1 hat1 hlt1 hQr (ROOM.out)
   obtain ⟨x0,x1,x2,x3⟩:=(BKR.out).grown hgrow1 (BKR.out).lvb
   have kp1:=hide (Kp.step (p:=p) (i:=0) (u:=.slice (some ⟨g1,0,none⟩) (rv.length+1) q1) hgrow1 (BKR.out).lvb)
   have sz1:=hide (show wr.heap.size+1≤w1.heap.size by have:=hgrow1.size;simpa using this)
   have A1:=hide hat1
   have BK2:=hide bk2
   obtain ⟨y0,y1,y2,y3⟩:=bk2.facts
   clear hgrow1 hown1 hat1 bk2 m0 m1 m2 m3
   go_wp2_with (at_builtin;refine wpList_append_lies _ rfl (.tmp 48) (.tmp 50) 38 rfl Q 103 j1 (.int .u32 0) 1 4 Tryz.underlying38 hj1 jz0 jz1 jz2 rfl (by decide) (.slice am rv.length cm) rv.length (bmks rv.length) rfl (BK2.out.marks.alloc _) ⟨w1.heap.size,0,none⟩ 1 1 [bmk rv.length] rfl rfl (cell_new_at (by simp [World.setCell]) (bmk rv.length) _) (by intro u hu;simp at hu;subst hu;rfl) (by omega) (by unfold maxLen;omega) (by omega) (by have:=BK2.out.lt;have:=sz1.out;simp [World.setCell];omega) (w1.heap.size+1) (by simp [World.setCell]) ?_)
   intro g2 q2 w3 hown2 hgrow2 hat2 hlt2
   have hsz2:(w1.setCell ⟨p,0,none⟩ (.slice (some ⟨g1,0,none⟩) (rv.length+1) q1)).heap.size=w1.heap.size:=by simp [World.setCell]
   have bk3:=BK2.out.mark_step hgrow2 hown2 (by rw [hsz2];exact hat2) hlt2 (by rw [hsz2];have:=sz1.out;omega)
   obtain ⟨v0,v1,v2,v3⟩:=BK2.out.grown hgrow2 BK2.out.mvb
   have kp2:=Kp.step (p:=p) (i:=1) (u:=.slice (some ⟨g2,0,none⟩) (rv.length+1) q2) hgrow2 BK2.out.mvb
   have F:Hid (OwnS w (w3.setCell ⟨p,1,none⟩ (.slice (some ⟨g2,0,none⟩) (rv.length+1) q2)) p Q bs rv.length (some ⟨g,off,none⟩)):=by
    refine ⟨g2 :: g1 :: ([g] ++ bs),rv ++ [.slice (some ⟨g,off,none⟩) cap cap],.slice (some ⟨g1,0,none⟩) (rv.length+1) q1,.slice (some ⟨g2,0,none⟩) (rv.length+1) q2,?_,?_,?_,?_⟩
    ·simp
    ·rw [show (rv ++ [Value.slice (some ⟨g,off,none⟩) cap cap]).length=rv.length+1 by simp]
     exact bk3
    ·exact (kp0.out.trans (kp1.out.trans kp2 (fun j hj=>List.mem_cons_of_mem _ hj)) (fun j hj=>List.mem_cons_of_mem _ hj)).trans (Kp.refl _ _ _) (fun j hj=>List.mem_cons_of_mem _ hj)
    ·intro j hj
     have s1:=sz1.out
     rcases List.mem_cons.1 hj with e | hj
     ·subst e
      rcases hat2 with e' | e'
      ·exact HBS.out j ((BKR.out).mvb j e')
      ·right;left;have:=SZR.out;omega
     ·rcases List.mem_cons.1 hj with e | hj
      ·subst e
       rcases A1.out with e' | e'
       ·exact HBS.out j ((BKR.out).lvb j e')
       ·right;left;have:=SZR.out;omega
      ·exact HBS.out j hj
   clear hgrow2 hown2 hat2 bk3 kp2 x0 x1 x2 x3 y0 y1 y2 y3
   go_wp2
   go_ret
   exact ⟨rfl,F.out⟩
set_option maxRecDepth 20000 in
set_option maxHeartbeats 1000000 in
theorem own_big (w:World) (p Q:Nat) (bs:List Nat) (rv:List Value) (lv mv:Value) (hk:Bk w p Q bs rv rv.length lv mv) (hr:rv.length≤1000) (hQ:Q≤w.heap.size) (g off n cap:Nat) (cur:Array Value) (hh:w.heap[g]? = some (.cells cur 103 (0,0))) (hsz:off+cap≤cur.size) (hgb:g ∉ bs) (hgQ:Q≤g) (_hn:n≤cap) (hcm:cap≤9223372036854775807) (h4:4096<cap) :
  Calls Tryz.prog 63 #[.pointer (some ⟨p,0,none⟩),.slice (some ⟨g,off,none⟩) n cap] w fun e w'=>e=.returned (.bool true)∧OwnS w w' p Q bs rv.length (some ⟨g,off,none⟩):=by
 obtain ⟨i1,hi1,iz0,iz1,iz2⟩:=info_parts infoL
 obtain ⟨j1,hj1,jz0,jz1,jz2⟩:=info_parts info32
 obtain ⟨al,cl,rfl,al1,al2⟩:=owns_shape hk.lists
 obtain ⟨am,cm,rfl,am1,am2⟩:=owns_shape hk.marks
 obtain ⟨k0,k1,k2,k3⟩:=hk.facts
 have HH:=hide hh
 have HSZ:=hide hsz
 have hpg:p≠g:=fun e=>by have h1:=hk.here;rw [e,hh] at h1;simp at h1
 clear hh hsz
 go_enter Tryz.func63,Tryz.ntmps63
 go_wp2
 go_loopw [7] (fun iv wr=>∃ (k:Nat) (cur' : Array Value),k≤4096∧iv=.int .i64 k∧Wr w wr g cur' 103∧cur'.size=cur.size∧∀ i,i<k→cur'[off+i]? = some (bmk rv.length)) (fun iv _=>4096 - (intOf iv).toNat)
 case atStart=>exact ⟨0,cur,Nat.zero_le _,rfl,Wr.refl HH.out,rfl,fun i hi=>by omega⟩
 case round =>
  obtain ⟨k,cur',hkn,rfl,hwr,hcs,hfill⟩:=hrel
  by_cases hlt:k<4096
  ·have hb:off+k<cur'.size:=by have:=HSZ.out;omega
   have old:cur'[off+k]? = some cur'[off+k]:=Array.getElem?_eq_getElem hb
   have co:wr.cell? ⟨g,off+k,none⟩ = some cur'[off+k]:=by rw [cell_of_row wr g (off+k) cur' _ (0,0) hwr.here];exact old
   have fo:=hwr.free (off+k)
   have dA:(k:Int)<((4096:Nat):Int):=by omega
   have dC:(k:Int)<((cap:Nat):Int):=by omega
   have HW' := hide (hwr.set (off+k) (bmk rv.length))
   have HC' : Hid ((cur'.setIfInBounds (off+k) (bmk rv.length)).size=cur.size):=by show _ = _;rw [Array.size_setIfInBounds];exact hcs
   have HF' : Hid (∀ i,i<k+1→(cur'.setIfInBounds (off+k) (bmk rv.length))[off+i]? = some (bmk rv.length)):=by
    intro i hi
    rw [Array.getElem?_setIfInBounds]
    by_cases e:off+k=off+i
    ·rw [if_pos e,if_pos (by omega)]
    ·rw [if_neg e]
     exact hfill i (by omega)
   clear hwr hcs hfill old
   generalize cur'[off+k]=u9 at co
   go_wp2
   go_roundw
   case rel=>exact ⟨k+1,_,by omega,by go_num,HW'.out,HC'.out,HF'.out⟩
   case measure=>simp [intOf];omega
  ·have hkn' : 4096=k:=by omega
   subst hkn'
   have dA:¬ ((4096:Nat):Int)<((4096:Nat):Int):=by omega
   have bkr:=(hk.kept (hwr.other p hpg) (fun j hj=>hwr.other j (fun e=>hgb (e ▸ hj))) (by rw [hwr.size];exact Nat.le_refl _)).more (gs:=[g]) (fun j hj=>by simp at hj;subst hj;rw [hwr.size];exact ⟨by omega,lt_of_heap HH.out⟩) (by simpa using hpg)
   have room:RoomOk wr ([g] ++ bs) (.slice al rv.length cl) (.slice am rv.length cm) rv.length (.slice (some ⟨g,off,none⟩) 4096 cap):=⟨_,_,_,rfl,by omega,by omega,by omega,.inr ⟨g,off,rfl,by simp,fun e=>hgb (hk.lvb _ e),fun e=>hgb (hk.mvb _ e),fun i hi=>by rw [cell_of_row wr g (off+i) cur' _ (0,0) hwr.here];exact hfill i hi⟩⟩
   have kp0:Hid (Kp w wr p ([g] ++ bs)):=Kp.of_wr hwr (by simp)
   have szr:w.heap.size≤wr.heap.size:=by rw [hwr.size];exact Nat.le_refl _
   have hQr:Q≤wr.heap.size:=by omega
   have hbs:∀ j,j ∈ [g] ++ bs→j ∈ bs∨w.heap.size≤j∨∃ off',some (⟨g,off,none⟩:Addr)=some ⟨j,off',none⟩:=by
    intro j hj
    rcases List.mem_append.1 hj with e | e
    ·simp at e;subst e;exact .inr (.inr ⟨off,rfl⟩)
    ·exact .inl e
   obtain ⟨m0,m1,m2,m3⟩:=bkr.facts
   have BKR:=hide bkr
   have ROOM:=hide room
   have HBS:=hide hbs
   have SZR:=hide szr
   clear hwr hcs hfill bkr room hbs k0 k1 k2 k3
   go_wp2_with (at_builtin;refine wpList_append_lies _ rfl (.tmp 38) (.tmp 40) 37 rfl Q 38 i1 (.slice none 0 0) 1 24 Tryz.underlying37 hi1 iz0 iz1 iz2 rfl (by decide) (.slice al rv.length cl) rv.length rv rfl ((BKR.out).lists.alloc _) ⟨wr.heap.size,0,none⟩ 1 1 [.slice (some ⟨g,off,none⟩) 4096 cap] rfl rfl (cell_one_new _ _ _) (by intro u hu;simp at hu;subst hu;rfl) (by omega) (by unfold maxLen;omega) (by omega) (by have:=(BKR.out).lt;simp;omega) (wr.heap.size+1) (by simp) ?_)
   intro g1 q1 w1 hown1 hgrow1 hat1 hlt1
   have bk2:=(BKR.out).list_step hgrow1 hown1 hat1 hlt1 hQr (ROOM.out)
   obtain ⟨x0,x1,x2,x3⟩:=(BKR.out).grown hgrow1 (BKR.out).lvb
   have kp1:=hide (Kp.step (p:=p) (i:=0) (u:=.slice (some ⟨g1,0,none⟩) (rv.length+1) q1) hgrow1 (BKR.out).lvb)
   have sz1:=hide (show wr.heap.size+1≤w1.heap.size by have:=hgrow1.size;simpa using this)
   have A1:=hide hat1
   have BK2:=hide bk2
   obtain ⟨y0,y1,y2,y3⟩:=bk2.facts
   clear hgrow1 hown1 hat1 bk2 m0 m1 m2 m3
   go_wp2_with (at_builtin;refine wpList_append_lies _ rfl (.tmp 48) (.tmp 50) 38 rfl Q 103 j1 (.int .u32 0) 1 4 Tryz.underlying38 hj1 jz0 jz1 jz2 rfl (by decide) (.slice am rv.length cm) rv.length (bmks rv.length) rfl (BK2.out.marks.alloc _) ⟨w1.heap.size,0,none⟩ 1 1 [bmk rv.length] rfl rfl (cell_new_at (by simp [World.setCell]) (bmk rv.length) _) (by intro u hu;simp at hu;subst hu;rfl) (by omega) (by unfold maxLen;omega) (by omega) (by have:=BK2.out.lt;have:=sz1.out;simp [World.setCell];omega) (w1.heap.size+1) (by simp [World.setCell]) ?_)
   intro g2 q2 w3 hown2 hgrow2 hat2 hlt2
   have hsz2:(w1.setCell ⟨p,0,none⟩ (.slice (some ⟨g1,0,none⟩) (rv.length+1) q1)).heap.size=w1.heap.size:=by simp [World.setCell]
   have bk3:=BK2.out.mark_step hgrow2 hown2 (by rw [hsz2];exact hat2) hlt2 (by rw [hsz2];have:=sz1.out;omega)
   obtain ⟨v0,v1,v2,v3⟩:=BK2.out.grown hgrow2 BK2.out.mvb
   have kp2:=Kp.step (p:=p) (i:=1) (u:=.slice (some ⟨g2,0,none⟩) (rv.length+1) q2) hgrow2 BK2.out.mvb
   have F:Hid (OwnS w (w3.setCell ⟨p,1,none⟩ (.slice (some ⟨g2,0,none⟩) (rv.length+1) q2)) p Q bs rv.length (some ⟨g,off,none⟩)):=by
    refine ⟨g2 :: g1 :: ([g] ++ bs),rv ++ [.slice (some ⟨g,off,none⟩) 4096 cap],.slice (some ⟨g1,0,none⟩) (rv.length+1) q1,.slice (some ⟨g2,0,none⟩) (rv.length+1) q2,?_,?_,?_,?_⟩
    ·simp
    ·rw [show (rv ++ [Value.slice (some ⟨g,off,none⟩) 4096 cap]).length=rv.length+1 by simp]
     exact bk3
    ·exact (kp0.out.trans (kp1.out.trans kp2 (fun j hj=>List.mem_cons_of_mem _ hj)) (fun j hj=>List.mem_cons_of_mem _ hj)).trans (Kp.refl _ _ _) (fun j hj=>List.mem_cons_of_mem _ hj)
    ·intro j hj
     have s1:=sz1.out
     rcases List.mem_cons.1 hj with e | hj
     ·subst e
      rcases hat2 with e' | e'
      ·exact HBS.out j ((BKR.out).mvb j e')
      ·right;left;have:=SZR.out;omega
     ·rcases List.mem_cons.1 hj with e | hj
      ·subst e
       rcases A1.out with e' | e'
       ·exact HBS.out j ((BKR.out).lvb j e')
       ·right;left;have:=SZR.out;omega
      ·exact HBS.out j hj
   clear hgrow2 hown2 hat2 bk3 kp2 x0 x1 x2 x3 y0 y1 y2 y3
   go_wp2
   go_ret
   exact ⟨rfl,F.out⟩
structure Fr (B T:Nat) (w:World) (ao:Option Addr) (cap:Nat) (rs:List Int) (x:Int):Prop where
 ow:Ow B w (.slice ao rs.length cap) rs
 canon:Canon rs
 val:val rs=x
 lies:0<cap→∀ g off,ao=some ⟨g,off,none⟩→B≤g∧g<T
theorem Ow.sl' {B:Nat} {w:World} {ao:Option Addr} {n cap:Nat} {zs:List Int} (h:Ow B w (.slice ao n cap) zs):n=zs.length∧zs.length≤cap∧cap≤9223372036854775807∧(cap=0∨∃ g off cur,ao=some ⟨g,off,none⟩∧B≤g∧w.heap[g]? = some (.cells cur 103 (0,0))∧off+cap≤cur.size∧At cur .u32 off zs):=by
 obtain ⟨ao',cap',hv,h1,h2,h3,h4⟩:=h
 obtain ⟨rfl,rfl,rfl⟩:=(Value.slice.injEq .. ▸ hv)
 exact ⟨rfl,h1,h2,h4⟩
theorem Is.fr {B:Nat} {w:World} {v:Value} {x:Int} (h:Is B w v x):∃ ao cap rs,v=.slice ao rs.length cap∧Fr B w.heap.size w ao cap rs x:=by
 obtain ⟨rs,ho,hc,hv⟩:=h
 obtain ⟨ao,cap,rfl,h1,h2,h3,h4⟩:=ho
 refine ⟨ao,cap,rs,rfl,⟨ao,cap,rfl,h1,h2,h3,h4⟩,hc,hv,?_⟩
 intro h0 g off e
 rcases h4 with h4 | ⟨g',off',cur,e',hB,hh,_⟩
 ·omega
 ·rw [e'] at e
  simp only [Option.some.injEq,Addr.mk.injEq,and_true] at e
  have:=lt_of_heap hh
  omega
theorem Fr.got {B T:Nat} {w:World} {ao:Option Addr} {cap:Nat} {rs:List Int} {x:Int} (h:Fr B T w ao cap rs x):Got w ao cap rs x:=⟨h.ow.sl,h.canon,h.val⟩
theorem Fr.kept {B T:Nat} {w w' : World} {ao:Option Addr} {cap:Nat} {rs:List Int} {x:Int} (h:Fr B T w ao cap rs x) (hk:∀ g,g<w.heap.size→B≤g→g<T→w'.heap[g]? = w.heap[g]?):Fr B T w' ao cap rs x:=by
 obtain ⟨ho,hc,hv,hl⟩:=h
 refine ⟨?_,hc,hv,hl⟩
 obtain ⟨ao',cap',hv',h1,h2,h3,h4⟩:=ho
 obtain ⟨rfl,_,rfl⟩:=(Value.slice.injEq .. ▸ hv')
 refine ⟨ao,cap,rfl,h1,h2,h3,?_⟩
 rcases h4 with h4 | ⟨g,off,cur,rfl,hB,hh,r⟩
 ·exact .inl h4
 ·by_cases h0:0<cap
  ·have:=hl h0 g off rfl
   exact .inr ⟨g,off,cur,rfl,hB,(hk g (lt_of_heap hh) this.1 this.2).trans hh,r⟩
  ·exact .inl (by omega)
theorem Fr.touch {B T L:Nat} {w w' : World} {ao:Option Addr} {cap:Nat} {rs:List Int} {x:Int} (h:Fr B T w ao cap rs x) (t:Touch w w' L) (hL:L<B∨T≤L):Fr B T w' ao cap rs x:=h.kept fun g hg h1 h2=>t.other g hg (by omega)
theorem Fr.kp {B T p:Nat} {bs:List Nat} {w w' : World} {ao:Option Addr} {cap:Nat} {rs:List Int} {x:Int} (h:Fr B T w ao cap rs x) (k:Kp w w' p bs) (hp:p<B∨T≤p) (hb:∀ j,j ∈ bs→j<B∨T≤j):Fr B T w' ao cap rs x :=
 h.kept fun g hg h1 h2=>k.other g hg (by omega) (fun hj=>by have:=hb g hj;omega)
def Bs (w:World) (p Q:Nat) (bs:List Nat) (n:Nat):Prop:=∃ rv lv mv,rv.length=n∧Bk w p Q bs rv rv.length lv mv
theorem Bs.below {w w' : World} {p Q n:Nat} {bs:List Nat} (h:Bs w p Q bs n) (hb:Below w.heap.size w w'):Bs w' p Q bs n:=by
 obtain ⟨rv,lv,mv,e,hk⟩:=h
 exact ⟨rv,lv,mv,e,hk.below hb⟩
theorem Bs.new {w:World} {p Q:Nat} (h:w.heap[p]? = some (.cells #[.slice none 0 0,.slice none 0 0] 40 (0,0))):Bs w p Q [] 0:=by
 refine ⟨[],.slice none 0 0,.slice none 0 0,rfl,h,⟨rfl,.inl ⟨rfl,rfl⟩⟩,⟨rfl,.inl ⟨rfl,rfl⟩⟩,?_,?_,?_,?_,?_,by simp⟩
 ·intro j hj;simp [Value.ownBlock] at hj
 ·intro j hj;simp [Value.ownBlock] at hj
 ·intro j hj;simp [Value.ownBlock] at hj
 ·intro i u hu;simp at hu
 ·intro j hj;cases hj
theorem own_b (w:World) (p Q n:Nat) (bs:List Nat) (hb:Bs w p Q bs n) (hn:n≤1000) (B T:Nat) (ao:Option Addr) (cap:Nat) (rs:List Int) (x:Int) (h:Fr B T w ao cap rs x) (hQB:Q≤B) (hQ:Q≤w.heap.size) (hd:∀ j,j ∈ bs→j<B∨T≤j) :
  Calls Tryz.prog 63 #[.pointer (some ⟨p,0,none⟩),.slice ao rs.length cap] w fun e w'=>e=.returned (.bool true)∧∃ bs',Bs w' p Q bs' (n+1)∧Kp w w' p bs'∧∀ j,j ∈ bs'→j ∈ bs∨w.heap.size≤j∨(B≤j∧j<T):=by
 obtain ⟨rv,lv,mv,rfl,hk⟩:=hb
 obtain ⟨_,h1,h2,h4⟩:=h.ow.sl'
 have hr:=hn
 by_cases h0:0<cap
 ·rcases h4 with h4 | ⟨g,off,cur,rfl,hB,hh,hs,ha⟩
  ·omega
  have hl:=h.lies h0 g off rfl
  have hgb:g ∉ bs:=fun hj=>by have:=hd g hj;omega
  have fin:∀ w',OwnS w w' p Q bs rv.length (some ⟨g,off,none⟩)→∃ bs',Bs w' p Q bs' (rv.length+1)∧Kp w w' p bs'∧∀ j,j ∈ bs'→j ∈ bs∨w.heap.size≤j∨(B≤j∧j<T):=by
   rintro w' ⟨bs',rv',lv',mv',e,hk',kp,hj⟩
   refine ⟨bs',⟨rv',lv',mv',e,hk'⟩,kp,fun j hj'=>?_⟩
   rcases hj j hj' with a | a | ⟨off',a⟩
   ·exact .inl a
   ·exact .inr (.inl a)
   ·simp only [Option.some.injEq,Addr.mk.injEq] at a
    obtain ⟨rfl,_⟩:=a
    exact .inr (.inr hl)
  by_cases hc:cap≤4096
  ·exact (own_small w p Q bs rv lv mv hk hr hQ g off rs.length cap cur hh hs hgb (by omega) h1 h2 hc).mono fun e w' ⟨a,b⟩=>⟨a,fin w' b⟩
  ·exact (own_big w p Q bs rv lv mv hk hr hQ g off rs.length cap cur hh hs hgb (by omega) h1 h2 (by omega)).mono fun e w' ⟨a,b⟩=>⟨a,fin w' b⟩
 ·have hc0:cap=0:=by omega
  have hl0:rs.length=0:=by omega
  have fin:∀ w',OwnS w w' p Q bs rv.length none→∃ bs',Bs w' p Q bs' (rv.length+1)∧Kp w w' p bs'∧∀ j,j ∈ bs'→j ∈ bs∨w.heap.size≤j∨(B≤j∧j<T):=by
   rintro w' ⟨bs',rv',lv',mv',e,hk',kp,hj⟩
   refine ⟨bs',⟨rv',lv',mv',e,hk'⟩,kp,fun j hj'=>?_⟩
   rcases hj j hj' with a | a | ⟨off',a⟩
   ·exact .inl a
   ·exact .inr (.inl a)
   ·cases a
  rw [hl0,hc0]
  cases ao with
  | none=>exact (own_zero_a w p Q bs rv lv mv hk hr hQ).mono fun e w' ⟨a,b⟩=>⟨a,fin w' b⟩
  | some ad=>exact (own_zero_b w p Q bs rv lv mv hk hr hQ ad).mono fun e w' ⟨a,b⟩=>⟨a,fin w' b⟩
end Lm
end Go.Proofs.YtaofpigilgapgaaGreatDoor

namespace Go.Proofs.YtaofpigilgapgaaGreatDoor
namespace Lm
open Go.RowKit
theorem Is.tight {B:Nat} {w:World} {v:Value} {x:Int} (h:Is B w v x) (hB:B≤w.heap.size):∃ ao cap rs B1 T1,v=.slice ao rs.length cap∧Fr B1 T1 w ao cap rs x∧B≤B1∧T1≤w.heap.size∧((cap=0∧T1=B1)∨(0<cap∧T1=B1+1∧∃ off,ao=some ⟨B1,off,none⟩)):=by
 obtain ⟨rs,ho,hc,hv⟩:=h
 obtain ⟨ao,cap,rfl,h1,h2,h3,h4⟩:=ho
 by_cases h0:cap=0
 ·exact ⟨ao,cap,rs,B,B,rfl,⟨⟨ao,cap,rfl,h1,h2,h3,.inl h0⟩,hc,hv,fun h=>by omega⟩,Nat.le_refl _,hB,.inl ⟨h0,rfl⟩⟩
 ·rcases h4 with h4 | ⟨g,off,cur,rfl,hg,hh,hs,ha⟩
  ·exact absurd h4 h0
  ·refine ⟨_,cap,rs,g,g+1,rfl,⟨⟨_,cap,rfl,h1,h2,h3,.inr ⟨g,off,cur,rfl,Nat.le_refl _,hh,hs,ha⟩⟩,hc,hv,fun _ g' off' e=>?_⟩,hg,lt_of_heap hh,.inr ⟨by omega,rfl,off,rfl⟩⟩
   simp only [Option.some.injEq,Addr.mk.injEq] at e
   omega
theorem Is.two {B:Nat} {w:World} {v1 v2:Value} {x1 x2:Int} (h1:Is B w v1 x1) (h2:Is B w v2 x2) (hs:Sep v1 v2) (hB:B≤w.heap.size):∃ ao cap rs bo dap ss B1 T1 B2 T2,v1=.slice ao rs.length cap∧v2=.slice bo ss.length dap∧Fr B1 T1 w ao cap rs x1∧Fr B2 T2 w bo dap ss x2∧B≤B1∧T1≤w.heap.size∧B≤B2∧T2≤w.heap.size∧(∀ j,B1≤j→j<T1→j<B2∨T2≤j):=by
 obtain ⟨ao,cap,rs,B1,T1,rfl,f1,b1,t1,c1⟩:=h1.tight hB
 obtain ⟨bo,dap,ss,B2,T2,rfl,f2,b2,t2,c2⟩:=h2.tight hB
 refine ⟨ao,cap,rs,bo,dap,ss,B1,T1,B2,T2,rfl,rfl,f1,f2,b1,t1,b2,t2,fun j hj1 hj2=>?_⟩
 rcases c1 with ⟨_,c1⟩ | ⟨p1,c1,off1,rfl⟩
 ·omega
 ·rcases c2 with ⟨_,c2⟩ | ⟨p2,c2,off2,rfl⟩
  ·omega
  ·have:=hs _ _ _ _ _ _ rfl rfl
   simp only at this
   omega
structure Li (B T:Nat) (w:World) (ao:Option Addr) (cap:Nat) (rs:List Int):Prop where
 ow:Ow B w (.slice ao rs.length cap) rs
 lies:0<cap→∀ g off,ao=some ⟨g,off,none⟩→B≤g∧g<T
theorem Fr.li {B T:Nat} {w:World} {ao:Option Addr} {cap:Nat} {rs:List Int} {x:Int} (h:Fr B T w ao cap rs x):Li B T w ao cap rs:=⟨h.ow,h.lies⟩
theorem Li.fr {B T:Nat} {w:World} {ao:Option Addr} {cap:Nat} {rs:List Int} {x:Int} (h:Li B T w ao cap rs) (hg:Got w ao cap rs x):Fr B T w ao cap rs x:=⟨h.ow,hg.canon,hg.val,h.lies⟩
theorem Li.kept {B T:Nat} {w w' : World} {ao:Option Addr} {cap:Nat} {rs:List Int} (h:Li B T w ao cap rs) (hk:∀ g,g<w.heap.size→B≤g→g<T→w'.heap[g]? = w.heap[g]?):Li B T w' ao cap rs:=by
 obtain ⟨ho,hl⟩:=h
 refine ⟨?_,hl⟩
 obtain ⟨ao',cap',hv',h1,h2,h3,h4⟩:=ho
 obtain ⟨rfl,_,rfl⟩:=(Value.slice.injEq .. ▸ hv')
 refine ⟨ao,cap,rfl,h1,h2,h3,?_⟩
 rcases h4 with h4 | ⟨g,off,cur,rfl,hB,hh,r⟩
 ·exact .inl h4
 ·by_cases h0:0<cap
  ·have:=hl h0 g off rfl
   exact .inr ⟨g,off,cur,rfl,hB,(hk g (lt_of_heap hh) this.1 this.2).trans hh,r⟩
  ·exact .inl (by omega)
theorem Li.below {B T:Nat} {w w' : World} {ao:Option Addr} {cap:Nat} {rs:List Int} (h:Li B T w ao cap rs) (hb:Below w.heap.size w w'):Li B T w' ao cap rs:=h.kept fun g hg _ _=>hb.block g hg
theorem Li.set2 {B T:Nat} {w:World} {ao:Option Addr} {cap:Nat} {rs:List Int} (h:Li B T w ao cap rs) (k:Nat) (hk:k<B∨T≤k) (b u:Value):Li B T ((w.setCell ⟨k,0,none⟩ b).setCell ⟨k,1,none⟩ u) ao cap rs :=
 h.kept fun g _ h1 h2=>by
  have hne:g≠k:=by omega
  rw [heap_setCell_other _ ⟨k,1,none⟩ g _ hne,heap_setCell_other _ ⟨k,0,none⟩ g _ hne]
theorem divmod_o (w:World) (a1 a2:Option Addr) (n1 n2 c1 c2:Nat) (xs ys:List Int) (hx:Sl w (.slice a1 n1 c1) xs) (hy:Sl w (.slice a2 n2 c2) ys) (hm1:xs.length≤500000) (h0:val ys≠0) :
  Calls Tryz.prog 174 #[.slice a1 n1 c1,.slice a2 n2 c2] w fun e w'=>∃ ao cap rs bo dap ss B1 T1 B2 T2,e=.returned (.tuple #[.slice ao rs.length cap,.slice bo ss.length dap,.bool true])∧Got w' ao cap rs (val xs / val ys)∧Got w' bo dap ss (val xs % val ys)∧rs.length≤xs.length∧ss.length≤ys.length∧Li B1 T1 w' ao cap rs∧Li B2 T2 w' bo dap ss∧(w.heap.size≤B1∧T1≤w'.heap.size∧w.heap.size≤B2∧T2≤w'.heap.size∧∀ j,B1≤j→j<T1→j<B2∨T2≤j)∧Below w.heap.size w w' := by
 refine (divmod_any w a1 a2 n1 n2 c1 c2 xs ys hx hy hm1 h0).mono ?_
 rintro e w' ⟨v1,v2,rfl,hi1,hi2,hsep,hb⟩
 obtain ⟨ao,cap,rs,bo,dap,ss,B1,T1,B2,T2,rfl,rfl,f1,f2,x1,x2,x3,x4,x5⟩:=hi1.two hi2 hsep hb.size
 have lx:=hx.parts.2.2.2
 have ly:=hy.parts.2.2.2
 have bx:=val_bounds lx
 have bY:=val_bounds ly
 refine ⟨ao,cap,rs,bo,dap,ss,B1,T1,B2,T2,rfl,f1.got,f2.got,le_len lx f1.canon (by rw [f1.val];exact Int.ediv_le_self _ bx.1),le_len ly f2.canon (by rw [f2.val];exact Int.le_of_lt (Int.emod_lt_of_pos _ (by omega))),f1.li,f2.li,⟨x1,x2,x3,x4,x5⟩,hb⟩
theorem add_o (w:World) (a1 a2:Option Addr) (n1 n2 c1 c2:Nat) (xs ys:List Int) (hx:Sl w (.slice a1 n1 c1) xs) (hy:Sl w (.slice a2 n2 c2) ys) (hm1:xs.length≤1000000) (hm2:ys.length≤1000000) :
  Calls Tryz.prog 169 #[.slice a1 n1 c1,.slice a2 n2 c2] w fun e w'=>∃ ao cap rs,e=.returned (.slice ao rs.length cap)∧Got w' ao cap rs (val xs+val ys)∧rs.length≤xs.length+ys.length+1∧Li w.heap.size w'.heap.size w' ao cap rs∧Below w.heap.size w w' := by
 refine (add_any w a1 a2 n1 n2 c1 c2 xs ys hx hy hm1 hm2).mono ?_
 rintro e w' ⟨v,rfl,hi,hb⟩
 obtain ⟨ao,cap,rs,rfl,f⟩:=hi.fr
 exact ⟨ao,cap,rs,rfl,f.got,add_len hx.parts.2.2.2 hy.parts.2.2.2 f.canon f.val,f.li,hb⟩
theorem sub_o (w:World) (a1 a2:Option Addr) (n1 n2 c1 c2:Nat) (xs ys:List Int) (hx:Sl w (.slice a1 n1 c1) xs) (hy:Sl w (.slice a2 n2 c2) ys) (hm1:xs.length≤1000000) (hge:val ys≤val xs) :
  Calls Tryz.prog 170 #[.slice a1 n1 c1,.slice a2 n2 c2] w fun e w'=>∃ ao cap rs,e=.returned (.tuple #[.slice ao rs.length cap,.bool true])∧Got w' ao cap rs (val xs - val ys)∧rs.length≤xs.length∧Li w.heap.size w'.heap.size w' ao cap rs∧Below w.heap.size w w' := by
 refine (sub_yes w a1 a2 n1 n2 c1 c2 xs ys hx hy hm1 hge).mono ?_
 rintro e w' ⟨v,rfl,hi,hb⟩
 obtain ⟨ao,cap,rs,rfl,f⟩:=hi.fr
 have:=(val_bounds hy.parts.2.2.2).1
 exact ⟨ao,cap,rs,rfl,f.got,le_len hx.parts.2.2.2 f.canon (by rw [f.val];omega),f.li,hb⟩
end Lm
end Go.Proofs.YtaofpigilgapgaaGreatDoor

namespace Go.Proofs.YtaofpigilgapgaaGreatDoor
namespace Lm
open Go.RowKit
theorem trim_o (w:World) (ao:Option Addr) (n cap:Nat) (zs:List Int) (h:Sl w (.slice ao n cap) zs) (hz:zs.length≤1000000) :
  Calls Tryz.prog 135 #[.slice ao n cap] w fun e w'=>∃ ao cap rs,e=.returned (.slice ao rs.length cap)∧Got w' ao cap rs (val zs)∧rs.length≤zs.length∧Li w.heap.size w'.heap.size w' ao cap rs∧Below w.heap.size w w' := by
 refine (trim_any w ao n cap zs h hz).mono ?_
 rintro e w' ⟨v,rfl,ho,hb⟩
 have hc:=canon_trim h.parts.2.2.2
 obtain ⟨ao',cap',rs,rfl,f⟩:=(show Is w.heap.size w' v (val zs) from ⟨_,ho,hc,val_take_tl zs⟩).fr
 refine ⟨ao',cap',rs,rfl,f.got,?_,f.li,hb⟩
 exact le_len h.parts.2.2.2 f.canon (by rw [f.val];exact Int.le_refl _)
theorem mul_o (w:World) (a1 a2:Option Addr) (n1 n2 c1 c2:Nat) (xs ys:List Int) (hx:Sl w (.slice a1 n1 c1) xs) (hy:Sl w (.slice a2 n2 c2) ys) (hm1:xs.length≤500000) (hm2:ys.length≤500000) :
  Calls Tryz.prog 133 #[.slice a1 n1 c1,.slice a2 n2 c2] w fun e w'=>∃ ao cap rs,e=.returned (.slice ao rs.length cap)∧Got w' ao cap rs (val xs*val ys)∧rs.length≤xs.length+ys.length∧Li w.heap.size w'.heap.size w' ao cap rs∧Below w.heap.size w w' := by
 refine (mul_any w a1 a2 n1 n2 c1 c2 xs ys hx hy hm1 hm2).mono ?_
 rintro e w' ⟨v,rfl,hi,hb⟩
 obtain ⟨ao,cap,rs,rfl,f⟩:=hi.fr
 exact ⟨ao,cap,rs,rfl,f.got,mul_len hx.parts.2.2.2 hy.parts.2.2.2 f.canon f.val,f.li,hb⟩
set_option maxRecDepth 20000 in
set_option maxHeartbeats 400000 in
theorem wtrim_o (w:World) (ng:Bool) (ao:Option Addr) (n cap:Nat) (zs:List Int) (h:Sl w (.slice ao n cap) zs) (hz:zs.length≤1000000) :
  Calls Tryz.prog 205 #[.agg #[.bool ng,.slice ao n cap]] w fun e w'=>∃ ng' ao cap rs,e=.returned (.agg #[.bool ng',.slice ao rs.length cap])∧Wh w' ng' ao cap rs (sg ng (val zs))∧rs.length≤zs.length∧Li w.heap.size w'.heap.size w' ao cap rs∧Below w.heap.size w w' := by
 obtain ⟨w0,e0,bx,br,hb0,hs0⟩:=boxed1 w ng (.slice ao n cap)
 have E0:=hide e0
 have h0:=h.below hb0
 have HS0:=hide hs0
 clear e0 hs0
 go_enter Tryz.func205,Tryz.ntmps205
 go_wp2_with fail
 rw [E0.out]
 obtain ⟨c0,c1,f0,f1⟩:=bx.facts
 obtain ⟨d0,d1,g0,g1⟩:=br.facts
 go_region_held3 (fun w'=>w'.cell? ⟨w.heap.size,0,none⟩ = some (.bool ng)∧w'.cell? ⟨w.heap.size,1,none⟩ = some (.slice ao n cap)) (go_keep) (first
  | (go_at_call 135;refine (trim_o _ _ _ _ zs (h0.below (by repeat (first | exact Below.refl _ _ | refine Below.drew ?_))) hz).mono ?_;rintro e w1 ⟨p1,q1,r1,rfl,G1,l1,o1,hb1⟩;have hb1' : Below w0.heap.size w0 w1:=(show Below w0.heap.size w0 _ by repeat (first | exact Below.refl _ _ | refine Below.drew ?_)).trans hb1;have bx1:=bx.below hb1';have br1:=br.below hb1';obtain ⟨i0,i1,j0,j1⟩:=bx1.facts)
  | (go_at_call 95;refine (signed_g _ _ _ _ r1 _ (G1.below (by repeat (first | exact Below.refl _ _ | refine Below.drew ?_))) (by omega)).mono ?_;rintro e w2 ⟨ng2,rfl,G2,hb2⟩;have hb2' : Below w1.heap.size w1 w2:=(show Below w1.heap.size w1 _ by repeat (first | exact Below.refl _ _ | refine Below.drew ?_)).trans hb2;have bx2:=bx1.below hb2';have br2:=br1.below hb2';obtain ⟨k0,k1,m0,m1⟩:=br2.facts;obtain ⟨o0,o1,t0,t1⟩:=bx2.facts))
 all_goals
  have X:=hide (br2.set ng2 (.slice p1 r1.length q1)).facts
  have Y:=hide (br2.wh ng2 (.slice p1 r1.length q1) G2)
  have Z:=hide (below_set2 (hb0.trans ((hb1'.trans (hb2'.mono hb1'.size)).mono hb0.size)) (Nat.le_succ _) (.bool ng2) (.slice p1 r1.length q1))
  clear k0 k1 m0 m1 o0 o1 t0 t1 i0 i1 j0 j1 c0 c1 f0 f1 d0 d1 g0 g1
  have hs9:=HS0.out
  have o1:Li w0.heap.size w1.heap.size w1 p1 q1 r1:=o1
  have s_1:=hb1'.size
  have s_2:=hb2'.size
  have O1:=hide ((o1.below hb2').set2 (w.heap.size+1) (by omega) (.bool ng2) (.slice p1 r1.length q1))
  have O2:=hide (show Li w.heap.size _ _ p1 q1 r1 from ⟨O1.out.ow.mono (by omega),fun h0 g off e=>by have:=O1.out.lies h0 g off e;exact ⟨by omega,Nat.lt_of_lt_of_le this.2 (show w1.heap.size≤((w2.setCell ⟨w.heap.size+1,0,none⟩ (.bool ng2)).setCell ⟨w.heap.size+1,1,none⟩ (.slice p1 r1.length q1)).heap.size by simp [World.setCell];exact s_2)⟩⟩)
  clear O1
  go_wp2
  refine bodyPost_ret (v:=.agg #[.bool ng2,.slice p1 r1.length q1]) ?_ rfl ⟨ng2,p1,q1,r1,rfl,Y.out,l1,O2.out,Z.out⟩
  simp [results,Tryz.results205,go_sem,X.out.1,X.out.2.1]
set_option maxRecDepth 20000 in
set_option maxHeartbeats 400000 in
theorem wneg_o (w:World) (ng:Bool) (ao:Option Addr) (n cap:Nat) (zs:List Int) (h:Sl w (.slice ao n cap) zs) (hz:zs.length≤1000000) :
  Calls Tryz.prog 92 #[.agg #[.bool ng,.slice ao n cap]] w fun e w'=>∃ ng' ao cap rs,e=.returned (.agg #[.bool ng',.slice ao rs.length cap])∧Wh w' ng' ao cap rs (-sg ng (val zs))∧rs.length≤zs.length∧Li w.heap.size w'.heap.size w' ao cap rs∧Below w.heap.size w w' := by
 obtain ⟨w0,e0,bx,br,hb0,hs0⟩:=boxed1 w ng (.slice ao n cap)
 have E0:=hide e0
 have h0:=h.below hb0
 have HS0:=hide hs0
 clear e0 hs0
 go_enter Tryz.func92,Tryz.ntmps92
 go_wp2_with fail
 rw [E0.out]
 obtain ⟨c0,c1,f0,f1⟩:=bx.facts
 obtain ⟨d0,d1,g0,g1⟩:=br.facts
 go_region_held3 (fun w'=>w'.cell? ⟨w.heap.size,0,none⟩ = some (.bool ng)∧w'.cell? ⟨w.heap.size,1,none⟩ = some (.slice ao n cap)) (go_keep) (first
  | (go_at_call 135;refine (trim_o _ _ _ _ zs (h0.below (by repeat (first | exact Below.refl _ _ | refine Below.drew ?_))) hz).mono ?_;rintro e w1 ⟨p1,q1,r1,rfl,G1,l1,o1,hb1⟩;have hb1' : Below w0.heap.size w0 w1:=(show Below w0.heap.size w0 _ by repeat (first | exact Below.refl _ _ | refine Below.drew ?_)).trans hb1;have bx1:=bx.below hb1';obtain ⟨bx1a,bx1b,bx1c,bx1d⟩:=bx1.facts;have br1:=br.below hb1';obtain ⟨br1a,br1b,br1c,br1d⟩:=br1.facts)
  | (go_at_call 95;refine (signed_g _ _ _ _ r1 _ (G1.below (by repeat (first | exact Below.refl _ _ | refine Below.drew ?_))) (by omega)).mono ?_;rintro e w2 ⟨ng2,rfl,G2,hb2⟩;have hb2' : Below w1.heap.size w1 w2:=(show Below w1.heap.size w1 _ by repeat (first | exact Below.refl _ _ | refine Below.drew ?_)).trans hb2;have bx2:=bx1.below hb2';obtain ⟨bx2a,bx2b,bx2c,bx2d⟩:=bx2.facts;have br2:=br1.below hb2';obtain ⟨br2a,br2b,br2c,br2d⟩:=br2.facts))
 all_goals
  have X:=hide (br2.set ng2 (.slice p1 r1.length q1)).facts
  have Y:=hide (br2.wh ng2 (.slice p1 r1.length q1) G2)
  have Z:=hide (below_set2 (hb0.trans ((hb1'.trans (hb2'.mono hb1'.size)).mono hb0.size)) (Nat.le_succ _) (.bool ng2) (.slice p1 r1.length q1))
  clear bx2a bx2b bx2c bx2d br2a br2b br2c br2d bx1a bx1b bx1c bx1d br1a br1b br1c br1d c0 c1 f0 f1 d0 d1 g0 g1
  have hs9:=HS0.out
  have o1:Li w0.heap.size w1.heap.size w1 p1 q1 r1:=o1
  have s_1:=hb1'.size
  have s_2:=hb2'.size
  have O1:=hide ((o1.below hb2').set2 (w.heap.size+1) (by omega) (.bool ng2) (.slice p1 r1.length q1))
  have O2:=hide (show Li w.heap.size _ _ p1 q1 r1 from ⟨O1.out.ow.mono (by omega),fun h0 g off e=>by have:=O1.out.lies h0 g off e;exact ⟨by omega,Nat.lt_of_lt_of_le this.2 (show w1.heap.size≤((w2.setCell ⟨w.heap.size+1,0,none⟩ (.bool ng2)).setCell ⟨w.heap.size+1,1,none⟩ (.slice p1 r1.length q1)).heap.size by simp [World.setCell];exact s_2)⟩⟩)
  clear O1
  go_wp2
  refine bodyPost_ret (v:=.agg #[.bool ng2,.slice p1 r1.length q1]) ?_ rfl ⟨ng2,p1,q1,r1,rfl,by rw [←sg_neg];exact Y.out,l1,O2.out,Z.out⟩
  simp [results,Tryz.results92,go_sem,X.out.1,X.out.2.1]
set_option maxRecDepth 20000 in
set_option maxHeartbeats 1000000 in
theorem join_sameo (w:World) (nx:Bool) (a1:Option Addr) (n1 c1:Nat) (xs:List Int) (hx:Sl w (.slice a1 n1 c1) xs) (a2:Option Addr) (n2 c2:Nat) (ys:List Int) (hy:Sl w (.slice a2 n2 c2) ys) (hm1:xs.length≤400000) (hm2:ys.length≤400000) :
  Calls Tryz.prog 128 #[.agg #[.bool nx,.slice a1 n1 c1],.bool nx,.slice a2 n2 c2] w fun e w'=>∃ ng' ao cap rs,e=.returned (.agg #[.bool ng',.slice ao rs.length cap])∧Wh w' ng' ao cap rs (sg nx (val xs)+sg nx (val ys))∧rs.length≤xs.length+ys.length+1∧Li w.heap.size w'.heap.size w' ao cap rs∧Below w.heap.size w w' := by
 obtain ⟨w0,e0,bx,br,hb0,hs0⟩:=boxed1 w nx (.slice a1 n1 c1)
 have E0:=hide e0
 have hx0:=hx.below hb0
 have hy0:=hy.below hb0
 have HS0:=hide hs0
 clear e0 hs0
 go_enter Tryz.func128,Tryz.ntmps128
 go_wp2_with fail
 rw [E0.out]
 obtain ⟨ca,cb,cc,cd⟩:=bx.facts
 obtain ⟨da,db,dc,dd⟩:=br.facts
 refine (add_o _ _ _ _ _ _ _ xs ys hx0 hy0 (by omega) (by omega)).mono ?_
 rintro e w1 ⟨p1,q1,r1,rfl,G1,l1,o1,hb1⟩
 go_wp2_with fail
 refine (signed_g _ _ _ _ r1 _ G1 (by omega)).mono ?_
 rintro e w2 ⟨ng2,rfl,G2,hb2⟩
 have br2:=(br.below hb1).below hb2
 obtain ⟨ka,kb,kc,kd⟩:=br2.facts
 have X:=hide (br2.set ng2 (.slice p1 r1.length q1)).facts
 have Y:=hide (br2.wh ng2 (.slice p1 r1.length q1) G2)
 have Z:=hide (below_set2 (hb0.trans ((hb1.trans (hb2.mono hb1.size)).mono hb0.size)) (Nat.le_succ _) (.bool ng2) (.slice p1 r1.length q1))
 skip
 have hs9:=HS0.out
 have s_1:=hb1.size
 have s_2:=hb2.size
 have O1:=hide ((o1.below hb2).set2 (w.heap.size+1) (by omega) (.bool ng2) (.slice p1 r1.length q1))
 have O2:=hide (show Li w.heap.size _ _ p1 q1 r1 from ⟨O1.out.ow.mono (by omega),fun h0 g off e=>by have:=O1.out.lies h0 g off e;exact ⟨by omega,Nat.lt_of_lt_of_le this.2 (show w1.heap.size≤((w2.setCell ⟨w.heap.size+1,0,none⟩ (.bool ng2)).setCell ⟨w.heap.size+1,1,none⟩ (.slice p1 r1.length q1)).heap.size by simp [World.setCell];exact s_2)⟩⟩)
 clear O1
 go_wp2
 refine bodyPost_ret (v:=.agg #[.bool ng2,.slice p1 r1.length q1]) ?_ rfl ⟨ng2,p1,q1,r1,rfl,by rw [←sg_add];exact Y.out,by omega,O2.out,Z.out⟩
 simp [results,Tryz.results128,go_sem,X.out.1,X.out.2.1]
set_option maxRecDepth 20000 in
set_option maxHeartbeats 1000000 in
theorem join_geo (w:World) (nx:Bool) (a1:Option Addr) (n1 c1:Nat) (xs:List Int) (hx:Sl w (.slice a1 n1 c1) xs) (a2:Option Addr) (n2 c2:Nat) (ys:List Int) (hy:Sl w (.slice a2 n2 c2) ys) (hm1:xs.length≤400000) (hm2:ys.length≤400000) (hge:val ys≤val xs) :
  Calls Tryz.prog 128 #[.agg #[.bool nx,.slice a1 n1 c1],.bool (!nx),.slice a2 n2 c2] w fun e w'=>∃ ng' ao cap rs,e=.returned (.agg #[.bool ng',.slice ao rs.length cap])∧Wh w' ng' ao cap rs (sg nx (val xs)+sg (!nx) (val ys))∧rs.length≤xs.length+ys.length+1∧Li w.heap.size w'.heap.size w' ao cap rs∧Below w.heap.size w w' := by
 obtain ⟨w0,e0,bx,br,hb0,hs0⟩:=boxed1 w nx (.slice a1 n1 c1)
 have E0:=hide e0
 have hx0:=hx.below hb0
 have hy0:=hy.below hb0
 have HS0:=hide hs0
 clear e0 hs0
 cases nx
 all_goals
  go_enter Tryz.func128,Tryz.ntmps128
  go_wp2_with fail
  rw [E0.out]
  obtain ⟨ca,cb,cc,cd⟩:=bx.facts
  obtain ⟨da,db,dc,dd⟩:=br.facts
  refine (sub_o _ _ _ _ _ _ _ xs ys hx0 hy0 (by omega) hge).mono ?_
  rintro e w1 ⟨p1,q1,r1,rfl,G1,l1,o1,hb1⟩
  have bx1:=bx.below hb1
  obtain ⟨ia,ib,ic,id⟩:=bx1.facts
  go_wp2_with fail
  refine (signed_g _ _ _ _ r1 _ G1 (by omega)).mono ?_
  rintro e w2 ⟨ng2,rfl,G2,hb2⟩
  have br2:=(br.below hb1).below hb2
  obtain ⟨ka,kb,kc,kd⟩:=br2.facts
  have X:=hide (br2.set ng2 (.slice p1 r1.length q1)).facts
  have Y:=hide (br2.wh ng2 (.slice p1 r1.length q1) G2)
  have Z:=hide (below_set2 (hb0.trans ((hb1.trans (hb2.mono hb1.size)).mono hb0.size)) (Nat.le_succ _) (.bool ng2) (.slice p1 r1.length q1))
  skip
  have hs9:=HS0.out
  have s_1:=hb1.size
  have s_2:=hb2.size
  have O1:=hide ((o1.below hb2).set2 (w.heap.size+1) (by omega) (.bool ng2) (.slice p1 r1.length q1))
  have O2:=hide (show Li w.heap.size _ _ p1 q1 r1 from ⟨O1.out.ow.mono (by omega),fun h0 g off e=>by have:=O1.out.lies h0 g off e;exact ⟨by omega,Nat.lt_of_lt_of_le this.2 (show w1.heap.size≤((w2.setCell ⟨w.heap.size+1,0,none⟩ (.bool ng2)).setCell ⟨w.heap.size+1,1,none⟩ (.slice p1 r1.length q1)).heap.size by simp [World.setCell];exact s_2)⟩⟩)
  clear O1
  go_wp2
  refine bodyPost_ret (v:=.agg #[.bool ng2,.slice p1 r1.length q1]) ?_ rfl ⟨ng2,p1,q1,r1,rfl,by rw [←sg_sub];exact Y.out,by omega,O2.out,Z.out⟩
  simp [results,Tryz.results128,go_sem,X.out.1,X.out.2.1]
set_option maxRecDepth 20000 in
set_option maxHeartbeats 1000000 in
theorem join_lto (w:World) (nx:Bool) (a1:Option Addr) (n1 c1:Nat) (xs:List Int) (hx:Sl w (.slice a1 n1 c1) xs) (a2:Option Addr) (n2 c2:Nat) (ys:List Int) (hy:Sl w (.slice a2 n2 c2) ys) (hm1:xs.length≤400000) (hm2:ys.length≤400000) (hlt:val xs<val ys) :
  Calls Tryz.prog 128 #[.agg #[.bool nx,.slice a1 n1 c1],.bool (!nx),.slice a2 n2 c2] w fun e w'=>∃ ng' ao cap rs,e=.returned (.agg #[.bool ng',.slice ao rs.length cap])∧Wh w' ng' ao cap rs (sg nx (val xs)+sg (!nx) (val ys))∧rs.length≤xs.length+ys.length+1∧Li w.heap.size w'.heap.size w' ao cap rs∧Below w.heap.size w w' := by
 obtain ⟨w0,e0,bx,br,hb0,hs0⟩:=boxed1 w nx (.slice a1 n1 c1)
 have E0:=hide e0
 have hx0:=hx.below hb0
 have hy0:=hy.below hb0
 have HS0:=hide hs0
 clear e0 hs0
 cases nx
 all_goals
  go_enter Tryz.func128,Tryz.ntmps128
  go_wp2_with fail
  rw [E0.out]
  obtain ⟨ca,cb,cc,cd⟩:=bx.facts
  obtain ⟨da,db,dc,dd⟩:=br.facts
  refine (sub_no _ _ _ _ _ _ _ xs ys hx0 hy0 hlt).mono ?_
  rintro e w9 ⟨rfl,hb9⟩
  have hx9:=hx0.below hb9
  have hy9:=hy0.below hb9
  have bx9:=bx.below hb9
  have br9:=br.below hb9
  obtain ⟨ia,ib,ic,id⟩:=bx9.facts
  go_wp2_with fail
  refine (sub_o _ _ _ _ _ _ _ ys xs hy9 hx9 (by omega) (by omega)).mono ?_
  rintro e w1 ⟨p1,q1,r1,rfl,G1,l1,o1,hb1⟩
  go_wp2_with fail
  refine (signed_g _ _ _ _ r1 _ G1 (by omega)).mono ?_
  rintro e w2 ⟨ng2,rfl,G2,hb2⟩
  have br2:=(br9.below hb1).below hb2
  obtain ⟨ka,kb,kc,kd⟩:=br2.facts
  have X:=hide (br2.set ng2 (.slice p1 r1.length q1)).facts
  have Y:=hide (br2.wh ng2 (.slice p1 r1.length q1) G2)
  have Z:=hide (below_set2 (hb0.trans ((hb9.trans ((hb1.trans (hb2.mono hb1.size)).mono hb9.size)).mono hb0.size)) (Nat.le_succ _) (.bool ng2) (.slice p1 r1.length q1))
  skip
  have hs9:=HS0.out
  have s_9:=hb9.size
  have s_1:=hb1.size
  have s_2:=hb2.size
  have O1:=hide ((o1.below hb2).set2 (w.heap.size+1) (by omega) (.bool ng2) (.slice p1 r1.length q1))
  have O2:=hide (show Li w.heap.size _ _ p1 q1 r1 from ⟨O1.out.ow.mono (by omega),fun h0 g off e=>by have:=O1.out.lies h0 g off e;exact ⟨by omega,Nat.lt_of_lt_of_le this.2 (show w1.heap.size≤((w2.setCell ⟨w.heap.size+1,0,none⟩ (.bool ng2)).setCell ⟨w.heap.size+1,1,none⟩ (.slice p1 r1.length q1)).heap.size by simp [World.setCell];exact s_2)⟩⟩)
  clear O1
  go_wp2
  refine bodyPost_ret (v:=.agg #[.bool ng2,.slice p1 r1.length q1]) ?_ rfl ⟨ng2,p1,q1,r1,rfl,by rw [←sg_sub'];exact Y.out,by omega,O2.out,Z.out⟩
  simp [results,Tryz.results128,go_sem,X.out.1,X.out.2.1]
theorem join_o (w:World) (nx:Bool) (a1:Option Addr) (n1 c1:Nat) (xs:List Int) (hx:Sl w (.slice a1 n1 c1) xs) (ny:Bool) (a2:Option Addr) (n2 c2:Nat) (ys:List Int) (hy:Sl w (.slice a2 n2 c2) ys) (hm1:xs.length≤400000) (hm2:ys.length≤400000) :
  Calls Tryz.prog 128 #[.agg #[.bool nx,.slice a1 n1 c1],.bool ny,.slice a2 n2 c2] w fun e w'=>∃ ng' ao cap rs,e=.returned (.agg #[.bool ng',.slice ao rs.length cap])∧Wh w' ng' ao cap rs (sg nx (val xs)+sg ny (val ys))∧rs.length≤xs.length+ys.length+1∧Li w.heap.size w'.heap.size w' ao cap rs∧Below w.heap.size w w' := by
 by_cases hn:ny=nx
 ·subst hn
  exact join_sameo w ny a1 n1 c1 xs hx a2 n2 c2 ys hy hm1 hm2
 ·have hn' : ny = !nx:=by cases nx <;> cases ny <;> simp_all
  subst hn'
  by_cases h:val ys≤val xs
  ·exact join_geo w nx a1 n1 c1 xs hx a2 n2 c2 ys hy hm1 hm2 h
  ·exact join_lto w nx a1 n1 c1 xs hx a2 n2 c2 ys hy hm1 hm2 (by omega)
set_option maxRecDepth 20000 in
set_option maxHeartbeats 400000 in
theorem wadd_o (w:World) (nx:Bool) (a1:Option Addr) (n1 c1:Nat) (xs:List Int) (hx:Sl w (.slice a1 n1 c1) xs) (ny:Bool) (a2:Option Addr) (n2 c2:Nat) (ys:List Int) (hy:Sl w (.slice a2 n2 c2) ys) (hm1:xs.length≤400000) (hm2:ys.length≤400000) :
  Calls Tryz.prog 81 #[.agg #[.bool nx,.slice a1 n1 c1],.agg #[.bool ny,.slice a2 n2 c2]] w fun e w'=>∃ ng' ao cap rs,e=.returned (.agg #[.bool ng',.slice ao rs.length cap])∧Wh w' ng' ao cap rs (sg nx (val xs)+sg ny (val ys))∧rs.length≤xs.length+ys.length+1∧Li w.heap.size w'.heap.size w' ao cap rs∧Below w.heap.size w w' := by
 obtain ⟨w0,e0,bx,by',br,hb0,hs0⟩:=boxed3 w nx (.slice a1 n1 c1) ny (.slice a2 n2 c2)
 have E0:=hide e0
 have hx0:=hx.below hb0
 have hy0:=hy.below hb0
 have HS0:=hide hs0
 clear e0 hs0
 go_enter Tryz.func81,Tryz.ntmps81
 go_wp2_with fail
 rw [E0.out]
 obtain ⟨ca,cb,cc,cd⟩:=bx.facts
 obtain ⟨ea,eb,ec,ed⟩:=by'.facts
 obtain ⟨da,db,dc,dd⟩:=br.facts
 refine (join_o _ nx _ _ _ xs hx0 ny _ _ _ ys hy0 hm1 hm2).mono ?_
 rintro e w1 ⟨ng2,p1,q1,r1,rfl,G2,l1,o1,hb1⟩
 have br2:=br.below hb1
 obtain ⟨ka,kb,kc,kd⟩:=br2.facts
 have X:=hide (br2.set ng2 (.slice p1 r1.length q1)).facts
 have Y:=hide (br2.wh ng2 (.slice p1 r1.length q1) G2)
 have Z:=hide (below_set2 (hb0.trans (hb1.mono hb0.size)) (Nat.le_add_right _ 2) (.bool ng2) (.slice p1 r1.length q1))
 skip
 have hs9:=HS0.out
 have s_1:=hb1.size
 have O1:=hide (o1.set2 (w.heap.size+1+1) (by omega) (.bool ng2) (.slice p1 r1.length q1))
 have O2:=hide (show Li w.heap.size _ _ p1 q1 r1 from ⟨O1.out.ow.mono (by omega),fun h0 g off e=>by have:=O1.out.lies h0 g off e;exact ⟨by omega,Nat.lt_of_lt_of_le this.2 (show w1.heap.size≤((w1.setCell ⟨w.heap.size+1+1,0,none⟩ (.bool ng2)).setCell ⟨w.heap.size+1+1,1,none⟩ (.slice p1 r1.length q1)).heap.size by simp [World.setCell])⟩⟩)
 clear O1
 go_wp2
 refine bodyPost_ret (v:=.agg #[.bool ng2,.slice p1 r1.length q1]) ?_ rfl ⟨ng2,p1,q1,r1,rfl,Y.out,by omega,O2.out,Z.out⟩
 simp [results,Tryz.results81,go_sem,X.out.1,X.out.2.1]
set_option maxRecDepth 20000 in
set_option maxHeartbeats 400000 in
theorem wsub_o (w:World) (nx:Bool) (a1:Option Addr) (n1 c1:Nat) (xs:List Int) (hx:Sl w (.slice a1 n1 c1) xs) (ny:Bool) (a2:Option Addr) (n2 c2:Nat) (ys:List Int) (hy:Sl w (.slice a2 n2 c2) ys) (hm1:xs.length≤400000) (hm2:ys.length≤400000) :
  Calls Tryz.prog 79 #[.agg #[.bool nx,.slice a1 n1 c1],.agg #[.bool ny,.slice a2 n2 c2]] w fun e w'=>∃ ng' ao cap rs,e=.returned (.agg #[.bool ng',.slice ao rs.length cap])∧Wh w' ng' ao cap rs (sg nx (val xs) - sg ny (val ys))∧rs.length≤xs.length+ys.length+1∧Li w.heap.size w'.heap.size w' ao cap rs∧Below w.heap.size w w' := by
 obtain ⟨w0,e0,bx,by',br,hb0,hs0⟩:=boxed3 w nx (.slice a1 n1 c1) ny (.slice a2 n2 c2)
 have E0:=hide e0
 have hx0:=hx.below hb0
 have hy0:=hy.below hb0
 have HS0:=hide hs0
 clear e0 hs0
 go_enter Tryz.func79,Tryz.ntmps79
 go_wp2_with fail
 rw [E0.out]
 obtain ⟨ca,cb,cc,cd⟩:=bx.facts
 obtain ⟨ea,eb,ec,ed⟩:=by'.facts
 obtain ⟨da,db,dc,dd⟩:=br.facts
 refine (join_o _ nx _ _ _ xs hx0 (!ny) _ _ _ ys hy0 hm1 hm2).mono ?_
 rintro e w1 ⟨ng2,p1,q1,r1,rfl,G2,l1,o1,hb1⟩
 have br2:=br.below hb1
 obtain ⟨ka,kb,kc,kd⟩:=br2.facts
 have X:=hide (br2.set ng2 (.slice p1 r1.length q1)).facts
 have Y:=hide (br2.wh ng2 (.slice p1 r1.length q1) G2)
 have Z:=hide (below_set2 (hb0.trans (hb1.mono hb0.size)) (Nat.le_add_right _ 2) (.bool ng2) (.slice p1 r1.length q1))
 skip
 have hs9:=HS0.out
 have s_1:=hb1.size
 have O1:=hide (o1.set2 (w.heap.size+1+1) (by omega) (.bool ng2) (.slice p1 r1.length q1))
 have O2:=hide (show Li w.heap.size _ _ p1 q1 r1 from ⟨O1.out.ow.mono (by omega),fun h0 g off e=>by have:=O1.out.lies h0 g off e;exact ⟨by omega,Nat.lt_of_lt_of_le this.2 (show w1.heap.size≤((w1.setCell ⟨w.heap.size+1+1,0,none⟩ (.bool ng2)).setCell ⟨w.heap.size+1+1,1,none⟩ (.slice p1 r1.length q1)).heap.size by simp [World.setCell])⟩⟩)
 clear O1
 go_wp2
 refine bodyPost_ret (v:=.agg #[.bool ng2,.slice p1 r1.length q1]) ?_ rfl ⟨ng2,p1,q1,r1,rfl,by rw [Int.sub_eq_add_neg,←sg_neg];exact Y.out,by omega,O2.out,Z.out⟩
 simp [results,Tryz.results79,go_sem,X.out.1,X.out.2.1]
set_option maxRecDepth 20000 in
set_option maxHeartbeats 400000 in
theorem wmul_o (w:World) (nx:Bool) (a1:Option Addr) (n1 c1:Nat) (xs:List Int) (hx:Sl w (.slice a1 n1 c1) xs) (ny:Bool) (a2:Option Addr) (n2 c2:Nat) (ys:List Int) (hy:Sl w (.slice a2 n2 c2) ys) (hm1:xs.length≤400000) (hm2:ys.length≤400000) :
  Calls Tryz.prog 87 #[.agg #[.bool nx,.slice a1 n1 c1],.agg #[.bool ny,.slice a2 n2 c2]] w fun e w'=>∃ ng' ao cap rs,e=.returned (.agg #[.bool ng',.slice ao rs.length cap])∧Wh w' ng' ao cap rs (sg nx (val xs)*sg ny (val ys))∧rs.length≤xs.length+ys.length∧Li w.heap.size w'.heap.size w' ao cap rs∧Below w.heap.size w w' := by
 obtain ⟨w0,e0,bx,by',br,hb0,hs0⟩:=boxed3 w nx (.slice a1 n1 c1) ny (.slice a2 n2 c2)
 have E0:=hide e0
 have hx0:=hx.below hb0
 have hy0:=hy.below hb0
 have HS0:=hide hs0
 clear e0 hs0
 have q1' : (w.heap.size=w.heap.size+1+1)=False:=by simp;omega
 have q2' : (w.heap.size+1+1=w.heap.size)=False:=by simp;omega
 go_enter Tryz.func87,Tryz.ntmps87
 go_wp2_with fail
 rw [E0.out]
 obtain ⟨ca,cb,cc,cd⟩:=bx.facts
 obtain ⟨ea,eb,ec,ed⟩:=by'.facts
 obtain ⟨da,db,dc,dd⟩:=br.facts
 go_region_held3 (fun w'=>w'.cell? ⟨w.heap.size,0,none⟩ = some (.bool nx)∧w'.cell? ⟨w.heap.size,1,none⟩ = some (.slice a1 n1 c1)∧w'.cell? ⟨w.heap.size+1,0,none⟩ = some (.bool ny)∧w'.cell? ⟨w.heap.size+1,1,none⟩ = some (.slice a2 n2 c2)) (go_keep) (first
  | (go_at_call 133;refine (mul_o _ _ _ _ _ _ _ xs ys (hx0.below (by repeat (first | exact Below.refl _ _ | refine Below.drew ?_))) (hy0.below (by repeat (first | exact Below.refl _ _ | refine Below.drew ?_))) (by omega) (by omega)).mono ?_;rintro e w1 ⟨p1,q1,r1,rfl,G1,l1,o1,hb1⟩;have hb1' : Below w0.heap.size w0 w1:=(show Below w0.heap.size w0 _ by repeat (first | exact Below.refl _ _ | refine Below.drew ?_)).trans hb1;have bx1:=bx.below hb1';obtain ⟨bx1a,bx1b,bx1c,bx1d⟩:=bx1.facts;have by1:=by'.below hb1';obtain ⟨by1a,by1b,by1c,by1d⟩:=by1.facts;have br1:=br.below hb1';obtain ⟨br1a,br1b,br1c,br1d⟩:=br1.facts)
  | (go_at_call 95;refine (signed_g _ _ _ _ r1 _ (G1.below (by repeat (first | exact Below.refl _ _ | refine Below.drew ?_))) (by omega)).mono ?_;rintro e w2 ⟨ng2,rfl,G2,hb2⟩;have hb2' : Below w1.heap.size w1 w2:=(show Below w1.heap.size w1 _ by repeat (first | exact Below.refl _ _ | refine Below.drew ?_)).trans hb2;have bx2:=bx1.below hb2';obtain ⟨bx2a,bx2b,bx2c,bx2d⟩:=bx2.facts;have by2:=by1.below hb2';obtain ⟨by2a,by2b,by2c,by2d⟩:=by2.facts;have br2:=br1.below hb2';obtain ⟨br2a,br2b,br2c,br2d⟩:=br2.facts))
 all_goals
  clear bx1a bx1b bx1c bx1d by1a by1b by1c by1d br1a br1b br1c br1d bx2a bx2b bx2c bx2d by2a by2b by2c by2d ca cb cc cd da db dc dd ea eb ec ed q1' q2'
  have X:=hide (br2.set ng2 (.slice p1 r1.length q1)).facts
  have Y:=hide (br2.wh ng2 (.slice p1 r1.length q1) G2)
  have Z:=hide (below_set2 (hb0.trans ((hb1'.trans (hb2'.mono hb1'.size)).mono hb0.size)) (Nat.le_add_right _ 2) (.bool ng2) (.slice p1 r1.length q1))
  skip
  have hs9:=HS0.out
  have o1:Li w0.heap.size w1.heap.size w1 p1 q1 r1:=o1
  have s_1:=hb1'.size
  have s_2:=hb2'.size
  have O1:=hide ((o1.below hb2').set2 (w.heap.size+1+1) (by omega) (.bool ng2) (.slice p1 r1.length q1))
  have O2:=hide (show Li w.heap.size _ _ p1 q1 r1 from ⟨O1.out.ow.mono (by omega),fun h0 g off e=>by have:=O1.out.lies h0 g off e;exact ⟨by omega,Nat.lt_of_lt_of_le this.2 (show w1.heap.size≤((w2.setCell ⟨w.heap.size+1+1,0,none⟩ (.bool ng2)).setCell ⟨w.heap.size+1+1,1,none⟩ (.slice p1 r1.length q1)).heap.size by simp [World.setCell];exact s_2)⟩⟩)
  clear O1
  go_wp2
  refine bodyPost_ret (v:=.agg #[.bool ng2,.slice p1 r1.length q1]) ?_ rfl ⟨ng2,p1,q1,r1,rfl,by rw [←sg_mul];exact Y.out,by omega,O2.out,Z.out⟩
  simp [results,Tryz.results87,go_sem,X.out.1,X.out.2.1]
end Lm
end Go.Proofs.YtaofpigilgapgaaGreatDoor

namespace Go.Proofs.YtaofpigilgapgaaGreatDoor
namespace Dm
def Limb (zs:List Int):Prop:=∀ z ∈ zs,0≤z∧z<10000
def pw:Nat→Int
 | 0=>1
 | n+1=>10000*pw n
def val:List Int→Int
 | []=>0
 | z :: zs=>z+10000*val zs
def tl:List Int→Nat
 | []=>0
 | z :: zs=>if tl zs=0 then (if z=0 then 0 else 1) else tl zs+1
def Canon (zs:List Int):Prop:=Limb zs∧tl zs=zs.length
theorem pw_pos (n:Nat):1≤pw n:=by
 induction n with
 | zero=>simp [pw]
 | succ n ih=>simp only [pw];omega
theorem pw_add (m n:Nat):pw (m+n)=pw m*pw n:=by
 induction m with
 | zero=>simp [pw]
 | succ m ih=>rw [Nat.succ_add];simp only [pw,ih,Int.mul_assoc]
theorem pw_mono {m n:Nat} (h:m≤n):pw m≤pw n:=by
 obtain ⟨k,rfl⟩:=Nat.le.dest h
 rw [pw_add]
 have h1:=pw_pos m
 have h2:=pw_pos k
 have:pw m*1≤pw m*pw k:=Int.mul_le_mul_of_nonneg_left h2 (by omega)
 omega
theorem limb_nil:Limb []:=fun _ h=>by cases h
theorem limb_cons {z:Int} {zs:List Int} : Limb (z :: zs)↔(0≤z∧z<10000)∧Limb zs:=by
 constructor
 ·intro h;exact ⟨h z (by simp),fun y hy=>h y (by simp [hy])⟩
 ·rintro ⟨h1,h2⟩ y hy
  simp at hy
  rcases hy with rfl | hy
  ·exact h1
  ·exact h2 y hy
theorem limb_append {xs ys:List Int} : Limb (xs ++ ys)↔Limb xs∧Limb ys:=by
 constructor
 ·intro h;exact ⟨fun y hy=>h y (by simp [hy]),fun y hy=>h y (by simp [hy])⟩
 ·rintro ⟨h1,h2⟩ y hy
  simp at hy
  rcases hy with hy | hy
  ·exact h1 y hy
  ·exact h2 y hy
theorem limb_take {zs:List Int} (h:Limb zs) (k:Nat):Limb (zs.take k):=fun y hy=>h y (List.mem_of_mem_take hy)
theorem limb_drop {zs:List Int} (h:Limb zs) (k:Nat):Limb (zs.drop k):=fun y hy=>h y (List.mem_of_mem_drop hy)
theorem limb_getD {zs:List Int} (h:Limb zs) (i:Nat):0≤zs.getD i 0∧zs.getD i 0<10000:=by
 rw [List.getD_eq_getElem?_getD]
 cases hi:zs[i]? with
 | none=>simp
 | some z=>simpa using h z (List.mem_of_getElem? hi)
theorem limb_zeros (n:Nat):Limb (List.replicate n 0):=fun y hy=>by
 have:=List.eq_of_mem_replicate hy
 omega
theorem val_append (xs ys:List Int):val (xs ++ ys)=val xs+pw xs.length*val ys:=by
 induction xs with
 | nil=>simp [val,pw]
 | cons x xs ih =>
  simp only [List.cons_append,val,List.length_cons,pw,ih,Int.mul_add,Int.mul_assoc]
  omega
theorem val_zeros (n:Nat):val (List.replicate n 0)=0:=by
 induction n with
 | zero=>rfl
 | succ n ih=>simp [List.replicate_succ,val,ih]
theorem val_bounds {zs:List Int} (h:Limb zs):0≤val zs∧val zs<pw zs.length:=by
 induction zs with
 | nil=>simp [val,pw]
 | cons z zs ih =>
  have h' := limb_cons.1 h
  have:=ih h'.2
  simp only [val,List.length_cons,pw]
  omega
theorem tl_le (zs:List Int):tl zs≤zs.length:=by
 induction zs with
 | nil=>simp [tl]
 | cons z zs ih =>
  simp only [tl,List.length_cons]
  repeat' split
  all_goals omega
theorem tl_zero {zs:List Int} (h:tl zs=0):val zs=0:=by
 induction zs with
 | nil=>rfl
 | cons z zs ih =>
  simp only [tl] at h
  by_cases h0:tl zs=0
  ·rw [if_pos h0] at h
   by_cases hz:z=0
   ·simp [val,ih h0,hz]
   ·rw [if_neg hz] at h;omega
  ·rw [if_neg h0] at h;omega
theorem val_take_tl (zs:List Int):val (zs.take (tl zs))=val zs:=by
 induction zs with
 | nil=>rfl
 | cons z zs ih =>
  simp only [tl]
  by_cases h0:tl zs=0
  ·rw [if_pos h0]
   by_cases hz:z=0
   ·simp [hz,val,tl_zero h0]
   ·simp [hz,val,tl_zero h0]
  ·rw [if_neg h0]
   simp [val,ih]
theorem tl_take_tl (zs:List Int):tl (zs.take (tl zs))=tl zs:=by
 induction zs with
 | nil=>rfl
 | cons z zs ih =>
  by_cases h0:tl zs=0
  ·by_cases hz:z=0
   ·simp [tl,h0,hz]
   ·simp [tl,h0,hz]
  ·have e:tl (z :: zs)=tl zs+1:=by simp [tl,h0]
   rw [e,List.take_succ_cons]
   simp [tl,ih,h0]
theorem canon_trim {zs:List Int} (h:Limb zs):Canon (zs.take (tl zs)) :=
 ⟨limb_take h _,by rw [tl_take_tl,List.length_take,Nat.min_eq_left (tl_le zs)]⟩
theorem canon_nil:Canon []:=⟨limb_nil,rfl⟩
theorem tl_le_of_zero {zs:List Int} {n:Nat} (h:tl zs≤n+1) (h0:zs.getD n 0=0):tl zs≤n:=by
 induction zs generalizing n with
 | nil=>simp [tl]
 | cons z zs ih =>
  simp only [tl] at h ⊢
  by_cases ht:tl zs=0
  ·rw [if_pos ht] at h ⊢
   by_cases hz:z=0
   ·rw [if_pos hz];omega
   ·rw [if_neg hz]
    cases n with
    | zero=>simp at h0;exact absurd h0 hz
    | succ n=>omega
  ·rw [if_neg ht] at h ⊢
   cases n with
   | zero=>omega
   | succ n =>
    have:=ih (n:=n) (by omega) (by simpa using h0)
    omega
theorem tl_gt {zs:List Int} {n:Nat} (h0:zs.getD n 0≠0):n+1≤tl zs:=by
 induction zs generalizing n with
 | nil=>simp at h0
 | cons z zs ih =>
  cases n with
  | zero =>
   simp at h0
   simp only [tl,h0,if_false]
   split <;> omega
  | succ n =>
   have:=ih (n:=n) (by simpa using h0)
   simp only [tl]
   rw [if_neg (by omega)]
   omega
theorem canon_cons {z:Int} {zs:List Int} (h:Canon (z :: zs)):Canon zs∧(zs = []→z≠0):=by
 obtain ⟨h1,h2⟩:=h
 have hl:=tl_le zs
 simp only [tl,List.length_cons] at h2
 refine ⟨⟨(limb_cons.1 h1).2,?_⟩,?_⟩
 ·by_cases h0:tl zs=0
  ·rw [if_pos h0] at h2
   by_cases hz:z=0
   ·rw [if_pos hz] at h2;omega
   ·rw [if_neg hz] at h2;omega
  ·rw [if_neg h0] at h2;omega
 ·rintro rfl hz
  simp [tl,hz] at h2
theorem canon_low {zs:List Int} (h:Canon zs) (h0:zs≠[]):pw (zs.length - 1)≤val zs:=by
 induction zs with
 | nil=>exact absurd rfl h0
 | cons z zs ih =>
  have hc:=canon_cons h
  have hz:=(limb_cons.1 h.1).1
  cases zs with
  | nil =>
   have:=hc.2 rfl
   simp [val,pw]
   omega
  | cons y ys =>
   have:=ih hc.1 (by simp)
   simp only [List.length_cons,Nat.add_sub_cancel,pw] at this ⊢
   rw [val]
   omega
theorem canon_one {xs ys:List Int} (hx:Canon xs) (hy:Canon ys) (h:val xs=val ys):xs=ys:=by
 induction xs generalizing ys with
 | nil =>
  cases ys with
  | nil=>rfl
  | cons y ys =>
   have:=canon_low hy (by simp)
   have:=pw_pos ((y :: ys).length - 1)
   have h0:0=val (y :: ys):=h
   omega
 | cons x xs ih =>
  cases ys with
  | nil =>
   have:=canon_low hx (by simp)
   have:=pw_pos ((x :: xs).length - 1)
   have h0:val (x :: xs)=0:=h
   omega
  | cons y ys =>
   have h1:=(limb_cons.1 hx.1).1
   have h2:=(limb_cons.1 hy.1).1
   simp only [val] at h
   have e:x=y:=by omega
   have e' : val xs=val ys:=by omega
   rw [e,ih (canon_cons hx).1 (canon_cons hy).1 e']
theorem canon_zero {zs:List Int} (h:Canon zs):val zs=0↔zs = []:=by
 constructor
 ·intro h0;exact canon_one h canon_nil h0
 ·rintro rfl;rfl
theorem canon_lt {xs ys:List Int} (hx:Canon xs) (hy:Canon ys) (h:xs.length<ys.length):val xs<val ys:=by
 have h1:=(val_bounds hx.1).2
 have h2:=canon_low hy (by intro e;subst e;simp at h)
 have h3:=pw_mono (m:=xs.length) (n:=ys.length - 1) (by omega)
 omega
theorem val_pos_tl {zs:List Int} (h:Limb zs) (h0:0<tl zs):0<val zs:=by
 have hl:(zs.take (tl zs)).length=tl zs:=by have:=tl_le zs;rw [List.length_take];omega
 have h1:=canon_low (canon_trim h) (by intro e;rw [e] at hl;simp at hl;omega)
 have h2:=pw_pos ((zs.take (tl zs)).length - 1)
 rw [val_take_tl] at h1
 omega
theorem val_lt_at {xs ys:List Int} {k:Nat} (hx:Limb xs) (hy:Limb ys) (hl:xs.length=ys.length) (hk:k<xs.length) (hd:xs.drop (k+1)=ys.drop (k+1)) (h:xs.getD k 0<ys.getD k 0):val xs<val ys:=by
 induction k generalizing xs ys with
 | zero =>
  cases xs with
  | nil=>simp at hk
  | cons x xs =>
   cases ys with
   | nil=>simp at hl
   | cons y ys =>
    simp at hd h
    subst hd
    simp only [val]
    omega
 | succ k ih =>
  cases xs with
  | nil=>simp at hk
  | cons x xs =>
   cases ys with
   | nil=>simp at hl
   | cons y ys =>
    have h1:=limb_cons.1 hx
    have h2:=limb_cons.1 hy
    have:=ih h1.2 h2.2 (by simpa using hl) (by simpa using hk) (by simpa using hd) (by simpa using h)
    simp only [val]
    omega
theorem take_succ_getD (zs:List Int) (k:Nat) (h:k<zs.length):zs.take (k+1)=zs.take k ++ [zs.getD k 0]:=by
 rw [List.take_succ_eq_append_getElem h,List.getD_eq_getElem?_getD,List.getElem?_eq_getElem h]
 rfl
theorem drop_getD (zs:List Int) (k:Nat) (h:k<zs.length):zs.drop k=zs.getD k 0 :: zs.drop (k+1):=by
 rw [List.drop_eq_getElem_cons h,List.getD_eq_getElem?_getD,List.getElem?_eq_getElem h]
 rfl
def vf (zs:List Int):Nat→Int
 | 0=>0
 | k+1=>vf zs k+pw k*zs.getD k 0
theorem vf_take (zs:List Int) (k:Nat):vf zs k=val (zs.take k):=by
 induction k with
 | zero=>simp [vf,val]
 | succ k ih =>
  by_cases h:k<zs.length
  ·rw [take_succ_getD zs k h,val_append,vf,ih,List.length_take,Nat.min_eq_left (by omega)]
   simp [val]
  ·rw [vf,ih,List.take_of_length_le (by omega),List.take_of_length_le (by omega)]
   have:zs.getD k 0=0:=by rw [List.getD_eq_getElem?_getD,List.getElem?_eq_none (by omega)];rfl
   rw [this];omega
theorem vf_all (zs:List Int) (k:Nat) (h:zs.length≤k):vf zs k=val zs:=by
 rw [vf_take,List.take_of_length_le h]
theorem val_snoc (ps:List Int) (x:Int):val (ps ++ [x])=val ps+pw ps.length*x:=by
 rw [val_append];simp [val]
theorem set_snoc (ps zs:List Int) (k:Nat) (x:Int) (hk:ps.length=k) (h:k<zs.length):(ps ++ zs.drop k).set k x=(ps ++ [x]) ++ zs.drop (k+1):=by
 subst hk
 rw [drop_getD zs _ h]
 simp
theorem set_cons (zs qs:List Int) (k:Nat) (x:Int) (h:k<zs.length):(zs.take (k+1) ++ qs).set k x=zs.take k ++ x :: qs:=by
 rw [take_succ_getD zs k h]
 have:(zs.take k).length=k:=by rw [List.length_take];omega
 rw [List.append_assoc,List.set_append_right _ _ (by omega)]
 simp [this]
end Dm
end Go.Proofs.YtaofpigilgapgaaGreatDoor

namespace Go.Proofs.YtaofpigilgapgaaGreatDoor
namespace Dm
open Go.RowKit
theorem hide {p:Prop} (h:p):Hid p:=h
def Sl (w:World) (v:Value) (zs:List Int):Prop :=
 ∃ ao cap,v=.slice ao zs.length cap∧zs.length≤cap∧cap≤maxLen∧Limb zs ∧
  (zs = []∨∃ b off,ao=some ⟨b,off,none⟩∧∀ i,i<zs.length→w.cell? ⟨b,off+i,none⟩ = some (.int .i64 (zs.getD i 0)))
def At (cur:Array Value) (k:IntKind) (off:Nat) (zs:List Int):Prop:=∀ i,i<zs.length→cur[off+i]? = some (.int k (zs.getD i 0))
def Ow (B:Nat) (w:World) (v:Value) (zs:List Int):Prop :=
 ∃ ao cap,v=.slice ao zs.length cap∧zs.length≤cap∧cap≤maxLen∧Limb zs ∧
  (cap=0∨∃ g off cur,ao=some ⟨g,off,none⟩∧B≤g∧w.heap[g]? = some (.cells cur 3 (0,0))∧off+cap≤cur.size∧At cur .i64 off zs)
structure Wr (w w' : World) (g:Nat) (cur:Array Value) (e:TypeId):Prop where
 os:w'.os=w.os
 tape:w'.tape=w.tape
 output:w'.output=w.output
 size:w'.heap.size=w.heap.size
 here:w'.heap[g]? = some (.cells cur e (0,0))
 other:∀ k,k≠g→w'.heap[k]? = w.heap[k]?
def Is (B:Nat) (w:World) (v:Value) (x:Int):Prop:=∃ rs,Ow B w v rs∧Canon rs∧val rs=x
theorem lt_of_cell {w:World} {b off:Nat} {v:Value} (h:w.cell? ⟨b,off,none⟩ = some v):b<w.heap.size:=by
 apply Classical.byContradiction
 intro hn
 have:w.heap[b]? = none:=Array.getElem?_eq_none (by omega)
 simp [World.cell?,this] at h
theorem lt_of_heap {w:World} {b:Nat} {o:Obj} (h:w.heap[b]? = some o):b<w.heap.size:=by
 apply Classical.byContradiction
 intro hn
 rw [Array.getElem?_eq_none (by omega)] at h
 cases h
theorem Sl.below {w w' : World} {v:Value} {zs:List Int} (h:Sl w v zs) (hb:Below w.heap.size w w'):Sl w' v zs:=by
 obtain ⟨ao,cap,rfl,h1,h2,h3,h4⟩:=h
 refine ⟨ao,cap,rfl,h1,h2,h3,?_⟩
 rcases h4 with h4 | ⟨b,off,rfl,hc⟩
 ·exact .inl h4
 ·refine .inr ⟨b,off,rfl,fun i hi=>?_⟩
  have h5:=hc i hi
  rw [hb.cell (p:=⟨b,off+i,none⟩) (lt_of_cell h5)]
  exact h5
theorem Ow.sl {B:Nat} {w:World} {v:Value} {zs:List Int} (h:Ow B w v zs):Sl w v zs:=by
 obtain ⟨ao,cap,rfl,h1,h2,h3,h4⟩:=h
 refine ⟨ao,cap,rfl,h1,h2,h3,?_⟩
 rcases h4 with h4 | ⟨g,off,cur,rfl,_,hh,hs,ha⟩
 ·exact .inl (List.eq_nil_of_length_eq_zero (by omega))
 ·exact .inr ⟨g,off,rfl,fun i hi=>by rw [cell_of_row w g (off+i) cur _ (0,0) hh];exact ha i hi⟩
theorem Ow.below {B:Nat} {w w' : World} {v:Value} {zs:List Int} (h:Ow B w v zs) (hb:Below w.heap.size w w'):Ow B w' v zs:=by
 obtain ⟨ao,cap,rfl,h1,h2,h3,h4⟩:=h
 refine ⟨ao,cap,rfl,h1,h2,h3,?_⟩
 rcases h4 with h4 | ⟨g,off,cur,rfl,hg,hh,hs,ha⟩
 ·exact .inl h4
 ·exact .inr ⟨g,off,cur,rfl,hg,by rw [hb.block g (lt_of_heap hh)];exact hh,hs,ha⟩
theorem At.set {cur:Array Value} {k:IntKind} {off:Nat} {zs:List Int} (h:At cur k off zs) (j:Nat) (x:Int):At (cur.setIfInBounds (off+j) (.int k x)) k off (zs.set j x):=by
 intro i hi
 rw [List.length_set] at hi
 have h1:=h i hi
 have hb:off+i<cur.size:=by
  apply Classical.byContradiction
  intro hn
  rw [Array.getElem?_eq_none (by omega)] at h1
  cases h1
 rw [Array.getElem?_setIfInBounds,List.getD_eq_getElem?_getD,List.getElem?_set]
 by_cases hj:j=i
 ·subst hj
  simp [hi,hb]
 ·rw [if_neg (by omega),if_neg hj,h1,List.getD_eq_getElem?_getD]
theorem At.cell {cur:Array Value} {k:IntKind} {off:Nat} {zs:List Int} (h:At cur k off zs) {w:World} {g:Nat} {e:TypeId} (hh:w.heap[g]? = some (.cells cur e (0,0))) (i:Nat) (hi:i<zs.length):w.cell? ⟨g,off+i,none⟩ = some (.int k (zs.getD i 0)):=by
 rw [cell_of_row w g (off+i) cur _ (0,0) hh];exact h i hi
theorem Wr.refl {w:World} {g:Nat} {cur:Array Value} {e:TypeId} (h:w.heap[g]? = some (.cells cur e (0,0))):Wr w w g cur e:=⟨rfl,rfl,rfl,rfl,h,fun _ _=>rfl⟩
theorem Wr.drew {w w' : World} {g:Nat} {cur:Array Value} {e:TypeId} (h:Wr w w' g cur e):Wr w w'.drew g cur e:=⟨h.os,h.tape,h.output,h.size,h.here,h.other⟩
theorem Wr.drewN {w w' : World} {g:Nat} {cur:Array Value} {e:TypeId} (h:Wr w w' g cur e) (n:Nat):Wr w (w'.drewN n) g cur e:=⟨h.os,h.tape,h.output,h.size,h.here,h.other⟩
theorem Wr.set {w w' : World} {g:Nat} {cur:Array Value} {e:TypeId} (h:Wr w w' g cur e) (i:Nat) (u:Value):Wr w (w'.setCell ⟨g,i,none⟩ u) g (cur.setIfInBounds i u) e :=
 ⟨h.os,h.tape,h.output,by simp [World.setCell,h.size],heap_setCell_same w' g i cur e u h.here,fun k hk=>(heap_setCell_other w' ⟨g,i,none⟩ k u hk).trans (h.other k hk)⟩
theorem Wr.free {w w' : World} {g:Nat} {cur:Array Value} {e:TypeId} (h:Wr w w' g cur e) (i:Nat):w'.frozen? ⟨g,i,none⟩ = false:=frozen_of_row w' g i cur e h.here
theorem Wr.below {w w' : World} {g:Nat} {cur:Array Value} {e:TypeId} (h:Wr w w' g cur e) {B:Nat} (hB:B≤g):Below B w w' :=
 ⟨h.os,h.tape,h.output,by rw [h.size];exact Nat.le_refl _,fun k hk=>h.other k (by omega)⟩
theorem Sl.parts {w:World} {ao:Option Addr} {n cap:Nat} {zs:List Int} (h:Sl w (.slice ao n cap) zs):n=zs.length∧zs.length≤cap∧cap≤9223372036854775807∧Limb zs:=by
 obtain ⟨ao',cap',hv,h1,h2,h3,h4⟩:=h
 obtain ⟨rfl,rfl,rfl⟩:=(Value.slice.injEq .. ▸ hv)
 exact ⟨rfl,h1,h2,h3⟩
theorem Sl.cells {w:World} {ao:Option Addr} {n cap:Nat} {zs:List Int} (h:Sl w (.slice ao n cap) zs) (hp:0<zs.length):∃ b off,ao=some ⟨b,off,none⟩∧∀ i,i<zs.length→w.cell? ⟨b,off+i,none⟩ = some (.int .i64 (zs.getD i 0)):=by
 obtain ⟨ao',cap',hv,h1,h2,h3,h4⟩:=h
 obtain ⟨rfl,rfl,rfl⟩:=(Value.slice.injEq .. ▸ hv)
 rcases h4 with rfl | h4
 ·simp at hp
 ·exact h4
theorem Sl.take {w:World} {ao:Option Addr} {n cap:Nat} {zs:List Int} (h:Sl w (.slice ao n cap) zs) {k:Nat} (hk:k≤zs.length):Sl w (.slice ao k cap) (zs.take k):=by
 obtain ⟨ao',cap',hv,h1,h2,h3,h4⟩:=h
 obtain ⟨rfl,rfl,rfl⟩:=(Value.slice.injEq .. ▸ hv)
 have hl:(zs.take k).length=k:=by rw [List.length_take];omega
 refine ⟨ao,cap,by rw [hl],by omega,h2,limb_take h3 _,?_⟩
 rcases h4 with rfl | ⟨b,off,rfl,hc⟩
 ·exact .inl (by simp)
 ·refine .inr ⟨b,off,rfl,fun i hi=>?_⟩
  rw [hc i (by omega),List.getD_eq_getElem?_getD,List.getD_eq_getElem?_getD,List.getElem?_take,if_pos (by omega)]
theorem Ow.take {B:Nat} {w:World} {ao:Option Addr} {n cap:Nat} {zs:List Int} (h:Ow B w (.slice ao n cap) zs) {k:Nat} (hk:k≤zs.length):Ow B w (.slice ao k cap) (zs.take k):=by
 obtain ⟨ao',cap',hv,h1,h2,h3,h4⟩:=h
 obtain ⟨rfl,rfl,rfl⟩:=(Value.slice.injEq .. ▸ hv)
 have hl:(zs.take k).length=k:=by rw [List.length_take];omega
 refine ⟨ao,cap,by rw [hl],by omega,h2,limb_take h3 _,?_⟩
 rcases h4 with h4 | ⟨g,off,cur,rfl,hg,hh,hs,ha⟩
 ·exact .inl h4
 ·refine .inr ⟨g,off,cur,rfl,hg,hh,hs,fun i hi=>?_⟩
  rw [ha i (by omega),List.getD_eq_getElem?_getD,List.getD_eq_getElem?_getD,List.getElem?_take,if_pos (by omega)]
theorem Wr.sl {w w' : World} {g:Nat} {cur:Array Value} {e:TypeId} (h:Wr w w' g cur e) {B:Nat} {w0:World} (hB:B≤g) (hb:Below B w0 w) (hs:w0.heap.size=B) {v:Value} {zs:List Int} (hv:Sl w0 v zs):Sl w' v zs:=by
 subst hs
 exact hv.below (hb.trans (h.below hB))
end Dm
end Go.Proofs.YtaofpigilgapgaaGreatDoor

namespace Go.Proofs.YtaofpigilgapgaaGreatDoor
namespace Dm
open Go.RowKit
set_option maxRecDepth 20000 in
set_option maxHeartbeats 400000 in
theorem cut_any (w:World) (ao:Option Addr) (n cap:Nat) (zs:List Int) (h:Sl w (.slice ao n cap) zs) :
  Calls Tryz.prog 171 #[.slice ao n cap] w fun e w'=>e=.returned (.slice ao (tl zs) cap)∧w' = w:=by
 obtain ⟨ao',cap',hv,h1,h2,h3,h4⟩:=h
 obtain ⟨rfl,rfl,rfl⟩:=(Value.slice.injEq .. ▸ hv)
 unfold maxLen at h2
 have ht:=tl_le zs
 go_enter Tryz.func171,Tryz.ntmps171
 go_wp2
 go_loop [3] (fun n=>∃ k:Nat,k≤zs.length∧tl zs≤k∧n=.int .i64 k) (fun n=>(intOf n).toNat)
 case atStart=>exact ⟨zs.length,Nat.le_refl _,ht,rfl⟩
 case round =>
  obtain ⟨k,hk,hk2,rfl⟩:=hrel
  cases k with
  | zero =>
   have hz:tl zs=0:=by omega
   have HZ:Hid (tl zs=0):=hz
   clear hz
   go_wp2
   go_ret
   exact ⟨by rw [HZ.out];rfl,rfl⟩
  | succ k =>
   rcases h4 with h4 | ⟨b,off,rfl,hc⟩
   ·subst h4;simp at hk
   have hcell:=hc k (by omega)
   by_cases h0:zs.getD k 0=0
   ·have hle:=tl_le_of_zero hk2 h0
    rw [h0] at hcell
    clear h0 hc
    go_wp2
    go_round
    case rel=>exact ⟨k,by omega,hle,by go_num⟩
    case measure=>simp [intOf]
   ·have hgt:=tl_gt h0
    have HZ:Hid (tl zs=k+1):=by show _ = _;omega
    have hb:(zs.getD k 0 == 0)=false:=by simpa using h0
    generalize zs.getD k 0=z at hcell hb
    clear h0 hc
    go_wp2
    go_ret
    exact ⟨by rw [HZ.out];rfl,rfl⟩
end Dm
end Go.Proofs.YtaofpigilgapgaaGreatDoor

namespace Go.Proofs.YtaofpigilgapgaaGreatDoor
namespace Dm
open Go.RowKit
theorem info64:(Tryz.prog.info? 3).map (fun i=>(i.zero,i.size,i.bytes))=some (some (.int .i64 0),1,8):=by kernel_rfl
theorem ow_of_row {w:World} {B:Nat} {v:Value} {n:Nat} {zs:List Int} (h:w.ownsRow B 3 1 v n (zs.map (Value.int .i64))) (hz:Limb zs):Ow B w v zs:=by
 obtain ⟨h1,h2⟩:=h
 have hn:zs.length=n:=by simpa using h1
 subst hn
 rcases h2 with ⟨rfl,h3⟩ | ⟨g,cap,cur,rfl,hg,hh,hc1,hc2,hs,ht⟩
 ·exact ⟨none,0,by rw [h3],by omega,by simp [maxLen],hz,.inl rfl⟩
 ·refine ⟨_,cap,rfl,hc1,hc2,hz,.inr ⟨g,0,cur,rfl,hg,hh,by omega,fun i hi=>?_⟩⟩
  have e:(cur.toList.take (zs.length*1))[i]? = (zs.map (Value.int .i64))[i]? := by rw [ht]
  rw [List.getElem?_take,if_pos (by omega)] at e
  rw [Nat.zero_add,←Array.getElem?_toList,e,List.getElem?_map,List.getElem?_eq_getElem hi,List.getD_eq_getElem?_getD,List.getElem?_eq_getElem hi]
  rfl
theorem Ow.is_cut {B:Nat} {w:World} {ao:Option Addr} {n cap:Nat} {zs:List Int} {x:Int} (h:Ow B w (.slice ao n cap) zs) (hv:val zs=x):Is B w (.slice ao (tl zs) cap) x:=by
 have hl:=h.sl.parts.2.2.2
 exact ⟨zs.take (tl zs),h.take (tl_le zs),canon_trim hl,by rw [val_take_tl,hv]⟩
theorem small_val {A ds:List Int} {k:Nat} {a c m more s:Int} (hk:ds.length=k) (ha:A.getD k 0=a) (hs:s=c+a*m) (h:val ds+pw k*c=vf A k*m+more) :
  val (ds ++ [s % 10000])+pw (k+1)*(s / 10000)=vf A (k+1)*m+more:=by
 rw [val_snoc,vf,ha,hk,pw,Int.add_mul]
 have e:s=s % 10000+10000*(s / 10000):=by omega
 have e2:pw k*(s % 10000)+10000*pw k*(s / 10000)=pw k*s:=by
  rw [Int.mul_comm 10000 (pw k),Int.mul_assoc,←Int.mul_add,←e]
 have e3:pw k*a*m=pw k*(a*m):=by rw [Int.mul_assoc]
 rw [Int.add_assoc,e2,hs,Int.mul_add,e3]
 omega
theorem small_bound {a m:Int} (ha:0≤a∧a<10000) (hm:0≤m∧m≤4294967296):0≤a*m∧a*m≤42945378000704:=by
 refine ⟨Int.mul_nonneg ha.1 hm.1,?_⟩
 have h1:a*m≤9999*m:=Int.mul_le_mul_of_nonneg_right (by omega) hm.1
 omega
theorem step_own {w wr w1:World} {v v' : Value} {k:Nat} {ds:List Int} {z:Int} {o:Obj} (h:w1.ownsRow w.heap.size 3 1 v' (k+1) (ds.map (Value.int .i64) ++ [.int .i64 z])) (hg:(wr.alloc o).grownBy w1 v.ownBlock) (hb:Below w.heap.size w wr) (hl:∀ j,v.ownBlock=some j→w.heap.size≤j∧j<wr.heap.size) :
  w1.ownsRow w.heap.size 3 1 v' (k+1) ((ds ++ [z]).map (Value.int .i64))∧Below w.heap.size w w1:=by
 refine ⟨by simpa using h,((hb.alloc hb.size o).grown hg ?_ (fun j hj=>(hl j hj).1))⟩
 have:=hb.size
 simp
 omega
set_option maxRecDepth 20000 in
set_option maxHeartbeats 1000000 in
theorem small_any (w:World) (ao:Option Addr) (n cap:Nat) (A:List Int) (hA:Sl w (.slice ao n cap) A) (m more:Int) (hm:0≤m∧m≤4294967296) (hmo:0≤more∧more≤4294967296) (hl:A.length≤1000000) :
  Calls Tryz.prog 141 #[.slice ao n cap,.int .i64 m,.int .i64 more] w fun e w'=>∃ v,e=.returned v∧Is w.heap.size w' v (val A*m+more)∧Below w.heap.size w w' := by
 obtain ⟨rfl,h1,h2,h3⟩:=hA.parts
 obtain ⟨i0,hi,hz0,hz1,hz2⟩:=info_parts info64
 have H3:=hide h3
 clear h3
 go_enter Tryz.func141,Tryz.ntmps141
 go_wp2
 go_loopw [7,8,9] (fun dv cv iv wr=>∃ (k:Nat) (c:Int) (ds:List Int),cv=.int .i64 c∧iv=.int .i64 k∧(0≤c∧c≤4294967296)∧(k:Int)+c≤(A.length:Int)+4294967296∧ds.length=k∧Limb ds∧val ds+pw k*c=vf A k*m+more∧wr.ownsRow w.heap.size 3 1 dv k (ds.map (Value.int .i64))∧Below w.heap.size w wr) (fun _ cv iv _=>(A.length - (intOf iv).toNat)*8589934592+(intOf cv).toNat)
 case atStart=>exact ⟨0,more,[],rfl,rfl,hmo,by omega,rfl,limb_nil,by simp [val,vf,pw],World.ownsRow_nil _ _ _ _,Below.refl _ _⟩
 case round =>
  obtain ⟨k,c,ds,rfl,rfl,hc,hkc,hdl,hd,hval,hown,hbel⟩:=hrel
  have HD:=hide hd
  have HDL:=hide hdl
  have HV:=hide hval
  clear hd hdl hval
  have hsz:=hbel.size
  by_cases hlt:k<A.length
  ·have sA:=hA.below hbel
   obtain ⟨b,off,rfl,hca⟩:=sA.cells (by omega)
   have ca:=hca k hlt
   have ba:=limb_getD H3.out k
   obtain ⟨a,hak⟩:∃ a,A.getD k 0=a:=⟨_,rfl⟩
   rw [hak] at ca ba
   have bm:=small_bound ba hm
   have HV' := hide (small_val (m:=m) HDL.out hak rfl HV.out)
   have d1:decide ((k:Int)<(A.length:Int))=true:=by simp;omega
   have d2:(k:Int)<(A.length:Int):=by omega
   clear hak sA hca
   go_wp2_with (at_builtin;refine wpList_append_own _ rfl (.tmp 33) (.tmp 36) 91 rfl w.heap.size 3 i0 (.int .i64 0) 1 8 Tryz.underlying91 hi hz0 hz1 hz2 rfl (by decide) _ _ _ rfl (hown.alloc _) ⟨wr.heap.size,0,none⟩ 1 1 [.int .i64 ((c+a*m) % 10000)] rfl rfl (cell_one_new _ _ _) ?c2 ?c3 ?c4 ?c5 ?_)
   case c2=>first | rfl | (intro u hu;simp at hu;subst hu;rfl)
   case c3=>unfold maxLen;omega
   case c4=>omega
   case c5=>first | omega | (simp;omega)
   intro v' w1 hown' hgrow _
   have R:=step_own hown' hgrow hbel (hown.lt)
   clear hown' hgrow hown
   go_wp2
   go_roundw
   case rel=>exact ⟨k+1,_,ds ++ [(c+a*m) % 10000],rfl,by go_num,by omega,by omega,by have:=HDL.out;simp;omega,limb_append.2 ⟨HD.out,limb_cons.2 ⟨by omega,limb_nil⟩⟩,HV'.out,R.1,R.2⟩
   case measure=>simp [intOf];omega
  ·have hak:A.getD k 0=0:=by rw [List.getD_eq_getElem?_getD,List.getElem?_eq_none (by omega)];rfl
   have d1:decide ((k:Int)<(A.length:Int))=false:=by simp;omega
   have d2:¬ (k:Int)<(A.length:Int):=by omega
   by_cases hc0:0<c
   ·have HV' := hide (small_val (m:=m) (s:=c) HDL.out hak (by omega) HV.out)
    clear hak
    go_wp2_with (at_builtin;refine wpList_append_own _ rfl (.tmp 33) (.tmp 36) 91 rfl w.heap.size 3 i0 (.int .i64 0) 1 8 Tryz.underlying91 hi hz0 hz1 hz2 rfl (by decide) _ _ _ rfl (hown.alloc _) ⟨wr.heap.size,0,none⟩ 1 1 [.int .i64 (c % 10000)] rfl rfl (cell_one_new _ _ _) ?c2' ?c3' ?c4' ?c5' ?_)
    case c2'=>first | rfl | (intro u hu;simp at hu;subst hu;rfl)
    case c3'=>unfold maxLen;omega
    case c4'=>omega
    case c5'=>first | omega | (simp;omega)
    intro v' w1 hown' hgrow _
    have R:=step_own hown' hgrow hbel (hown.lt)
    clear hown' hgrow hown
    go_wp2
    go_roundw
    case rel=>exact ⟨k+1,c / 10000,ds ++ [c % 10000],rfl,by go_num,by omega,by omega,by have:=HDL.out;simp;omega,limb_append.2 ⟨HD.out,limb_cons.2 ⟨by omega,limb_nil⟩⟩,HV'.out,R.1,R.2⟩
    case measure=>simp [intOf];omega
   ·have hc1:c=0:=by omega
    subst hc1
    have how:=ow_of_row hown HD.out
    have hvv:val ds=val A*m+more:=by
     have:=HV.out
     rw [Int.mul_zero,Int.add_zero,vf_all A _ (by omega)] at this
     exact this
    obtain ⟨ao',cap',rfl,o1,o2,o3,o4⟩:=how
    have how' : Ow w.heap.size wr (.slice ao' ds.length cap') ds:=⟨ao',cap',rfl,o1,o2,o3,o4⟩
    have his:=how'.is_cut hvv
    clear hvv o3 o4 hown hak
    go_wp2_with fail
    refine (cut_any _ _ _ _ _ how'.sl).mono ?_
    rintro e w2 ⟨rfl,rfl⟩
    go_wp2
    go_ret
    exact ⟨_,rfl,his,hbel⟩
end Dm
end Go.Proofs.YtaofpigilgapgaaGreatDoor

namespace Go.Proofs.YtaofpigilgapgaaGreatDoor
namespace Dm
open Go.RowKit
open Lm (hide lt_of_cell lt_of_heap div_of)
theorem block_of_made {w:World} {B g n:Nat} (h:w.ownsRow B 3 1 (.slice (some ⟨g,0,none⟩) n n) n (madeCells #[Value.int .i64 0] n).toList) :
  B≤g∧∃ cur,w.heap[g]? = some (.cells cur 3 (0,0))∧cur.size=n∧At cur .i64 0 (List.replicate n 0):=by
 rcases h.2 with ⟨h',_⟩ | ⟨g',cap',cur,h',hb,hg,_,_,hs,htake⟩
 ·simp at h'
 ·simp only [Value.slice.injEq,Option.some.injEq,Addr.mk.injEq,and_true,true_and] at h'
  obtain ⟨rfl,rfl⟩:=h'
  refine ⟨hb,cur,hg,by omega,fun i hi=>?_⟩
  simp at hi
  have e:(cur.toList.take (n*1))[i]? = ((madeCells #[Value.int .i64 0] n).toList)[i]? := by rw [htake]
  rw [List.getElem?_take,if_pos (by omega)] at e
  rw [Nat.zero_add,←Array.getElem?_toList,e,Array.getElem?_toList]
  have h0:i<(Array.range n).size:=by simpa using hi
  simp [madeCells,hi,List.getD_eq_getElem?_getD,Nat.mod_one]
theorem div_step {p r z d:Int} (hd:0<d) (h1:0≤r) (h2:r<d) (h3:0≤z) (h4:z<10000) (hp:p=r*10000+z):0≤p∧0≤p / d∧p / d<10000∧0≤p % d∧p % d<d∧p=p / d*d+p % d:=by
 have h5:0≤p:=by omega
 have h6:p<10000*d:=by omega
 refine ⟨h5,Int.ediv_nonneg h5 (by omega),Int.ediv_lt_of_lt_mul hd h6,Int.emod_nonneg _ (by omega),Int.emod_lt_of_pos _ hd,?_⟩
 have:=Int.mul_ediv_add_emod p d
 rw [Int.mul_comm] at this
 omega
theorem div_val {zs qs:List Int} {k:Nat} {d r z p:Int} (hz:zs.drop k=z :: zs.drop (k+1)) (h:val (zs.drop (k+1))=val qs*d+r) (hp:p=r*10000+z) (hq:p=p / d*d+p % d):val (zs.drop k)=val (p / d :: qs)*d+p % d:=by
 rw [hz,val,val,h]
 generalize p / d=q at hq ⊢
 generalize p % d=t at hq ⊢
 rw [Int.add_mul,Int.mul_assoc,Int.mul_add]
 generalize q*d=a at hq ⊢
 generalize val qs*d=b
 omega
set_option maxRecDepth 20000 in
set_option maxHeartbeats 1000000 in
theorem cutBy_any (w:World) (ao:Option Addr) (n cap:Nat) (A:List Int) (hA:Sl w (.slice ao n cap) A) (d:Int) (hd:0<d) (hd2:d≤4294967296) (hl:A.length≤1000000) :
  Calls Tryz.prog 166 #[.slice ao n cap,.int .i64 d] w fun e w'=>∃ v,e=.returned (.tuple #[v,.int .i64 (val A % d)])∧Is w.heap.size w' v (val A / d)∧Below w.heap.size w w' := by
 obtain ⟨rfl,h1,h2,h3⟩:=hA.parts
 obtain ⟨i0,hi,hz0,hz1,hz2⟩:=info_parts info64
 have H3:=hide h3
 clear h3
 go_enter Tryz.func166,Tryz.ntmps166
 go_wp2_with (refine wpList_make_full _ rfl (.tmp 10) (.tmp 10) 91 rfl w.heap.size 3 i0 (.int .i64 0) 1 Tryz.underlying91 hi hz0 hz1 .i64 .i64 _ _ A.length rfl rfl (by omega) (by omega) (by rw [hz2];omega) (by unfold maxLen;omega) (Nat.le_refl _) ?hK)
 case hK =>
  intro w1 hown hgrow
  obtain ⟨_,cur,hh,hcs,hat⟩:=block_of_made hown
  have hb1:Below w.heap.size w w1:=(Below.refl w.heap.size w).grown hgrow (Nat.le_refl _) (by simp)
  have HH:=hide hh
  have HS:=hide hcs
  have HA:=hide hat
  clear hown hgrow hh hcs hat
  go_wp2
  go_loopw [7,8] (fun rest i wr=>∃ (k:Nat) (r:Int) (qs:List Int) (cur' : Array Value),k≤A.length∧rest=.int .i64 r∧i=.int .i64 ((k:Int) - 1)∧0≤r∧r<d∧val (A.drop k)=val qs*d+r∧Limb qs∧qs.length+k=A.length∧Wr w1 wr w.heap.size cur' 3∧cur'.size=A.length∧At cur' .i64 0 ((List.replicate A.length 0).take k ++ qs)) (fun _ i _=>(intOf i+1).toNat)
  case atStart=>exact ⟨A.length,0,[],cur,Nat.le_refl _,rfl,rfl,by omega,by omega,by simp [val],limb_nil,by simp,Wr.refl HH.out,HS.out,by rw [List.take_of_length_le (by simp),List.append_nil];exact HA.out⟩
  case round =>
   obtain ⟨k,r,qs,cur',hk,rfl,rfl,hr0,hr1,hval,hq,hql,hwr,hcs,hat⟩:=hrel
   have HV:=hide hval
   have HQ:=hide hq
   have HW:=hide hwr
   have HT:=hide hat
   have HC:=hide hcs
   have HL:=hide hql
   clear hval hq hwr hat hcs hql
   cases k with
   | zero =>
    have hat0:=HT.out
    rw [List.take_zero,List.nil_append] at hat0
    have hv0:=HV.out
    rw [List.drop_zero] at hv0
    have hdv:=div_of hd hv0 hr0 hr1
    have how:Ow w.heap.size wr (.slice (some ⟨w.heap.size,0,none⟩) A.length A.length) qs:=by
     have:=HL.out
     exact ⟨_,A.length,by rw [show qs.length=A.length by omega],by omega,by unfold maxLen;omega,HQ.out,.inr ⟨_,0,_,rfl,Nat.le_refl _,HW.out.here,by rw [HC.out];omega,hat0⟩⟩
    have hbel:Below w.heap.size w wr:=hb1.trans (HW.out.below (Nat.le_refl _))
    have his:=how.is_cut hdv.1.symm
    have HR:=hide hdv.2
    clear hat0 hv0 hdv
    go_wp2_with fail
    refine (cut_any _ _ _ _ _ how.sl).mono ?_
    rintro e w2 ⟨rfl,rfl⟩
    go_wp2
    go_ret2
    refine ⟨_,?_,his,hbel⟩
    rw [HR.out]
    rfl
   | succ k =>
    have sA:=HW.out.sl (Nat.le_refl _) hb1 rfl hA
    obtain ⟨b,off,rfl,hca⟩:=sA.cells (by omega)
    have ca:=hca k (by omega)
    have hz:=limb_getD H3.out k
    have Hz:=hide (drop_getD A k (by omega))
    generalize A.getD k 0=z at ca hz Hz
    have hlen:((List.replicate A.length (0:Int)).take (k+1) ++ qs).length=A.length:=by have:=HL.out;rw [List.length_append,List.length_take,List.length_replicate];omega
    have hcell:=HT.out.cell HW.out.here k (by rw [hlen];omega)
    rw [Nat.zero_add] at hcell
    generalize ((List.replicate A.length (0:Int)).take (k+1) ++ qs).getD k 0=old at hcell
    have hfree:=HW.out.free k
    obtain ⟨s1,s2,s3,s4,s5,s6⟩:=div_step hd hr0 hr1 hz.1 hz.2 rfl
    have HV' := hide (div_val Hz.out HV.out rfl s6)
    have HQ' : Hid (Limb ((r*10000+z) / d :: qs)):=limb_cons.2 ⟨⟨s2,s3⟩,HQ.out⟩
    have HT' := hide ((HT.out.set k ((r*10000+z) / d)))
    have HW' := hide (HW.out.set k (.int .i64 ((r*10000+z) / d)))
    have t1:(r*10000+z).tdiv d=(r*10000+z) / d:=Int.tdiv_eq_ediv_of_nonneg s1
    clear s6 hlen sA hca
    go_wp2
    go_roundw
    case rel=>exact ⟨k,(r*10000+z) % d,(r*10000+z) / d :: qs,_,by omega,rfl,rfl,s4,s5,HV'.out,HQ'.out,by have:=HL.out;simp;omega,HW'.out,by simpa using HC.out,by rw [←set_cons _ qs k _ (by rw [List.length_replicate];omega)];simpa using HT'.out⟩
    case measure=>simp [intOf]
set_option maxRecDepth 20000 in
set_option maxHeartbeats 400000 in
theorem made_any (w:World) (ng:Bool) (ao:Option Addr) (n cap:Nat) (A:List Int) (hA:Sl w (.slice ao n cap) A) :
  Calls Tryz.prog 129 #[.bool ng,.slice ao n cap] w fun e w'=>e=.returned (.agg #[.bool (ng && decide (0<tl A)),.slice ao (tl A) cap])∧Below w.heap.size w w' := by
 have hb0:Below w.heap.size w (w.alloc (.cells #[.bool false,.slice none 0 0] 93)):=(Below.refl _ _).alloc (Nat.le_refl _) _
 have kc:=hide (cut_any _ _ _ _ _ (hA.below hb0))
 go_enter Tryz.func129,Tryz.ntmps129
 go_wp2_with fail
 refine (kc.out).mono ?_
 rintro e w' ⟨rfl,rfl⟩
 cases ng with
 | false =>
  go_wp2
  refine bodyPost_ret (v:=.agg #[.bool false,.slice ao (tl A) cap]) (by simp [results,Tryz.results129,go_sem]) rfl ⟨by simp,?_⟩
  exact (Below.refl _ _).alloc (Nat.le_refl _) _
 | true =>
  by_cases h0:0<tl A
  ·have h1:(0:Int)<((tl A:Nat):Int):=by omega
   have h2:Hid (decide (0<tl A)=true):=by simpa [Hid] using h0
   go_wp2
   refine bodyPost_ret (v:=.agg #[.bool true,.slice ao (tl A) cap]) (by simp [results,Tryz.results129,go_sem]) rfl ⟨by rw [h2.out];rfl,?_⟩
   exact (Below.refl _ _).alloc (Nat.le_refl _) _
  ·have h1:¬ (0:Int)<((tl A:Nat):Int):=by omega
   have h2:Hid (decide (0<tl A)=false):=by simpa [Hid] using h0
   go_wp2
   refine bodyPost_ret (v:=.agg #[.bool false,.slice ao (tl A) cap]) (by simp [results,Tryz.results129,go_sem]) rfl ⟨by rw [h2.out];rfl,?_⟩
   exact (Below.refl _ _).alloc (Nat.le_refl _) _
def Got (w:World) (ao:Option Addr) (cap:Nat) (rs:List Int) (x:Int):Prop:=Sl w (.slice ao rs.length cap) rs∧Canon rs∧val rs=x
theorem Got.sl {w:World} {ao:Option Addr} {cap:Nat} {rs:List Int} {x:Int} (h:Got w ao cap rs x):Sl w (.slice ao rs.length cap) rs:=h.1
theorem Got.canon {w:World} {ao:Option Addr} {cap:Nat} {rs:List Int} {x:Int} (h:Got w ao cap rs x):Canon rs:=h.2.1
theorem Got.val {w:World} {ao:Option Addr} {cap:Nat} {rs:List Int} {x:Int} (h:Got w ao cap rs x):Dm.val rs=x:=h.2.2
theorem Got.below {w w' : World} {ao:Option Addr} {cap:Nat} {rs:List Int} {x:Int} (h:Got w ao cap rs x) (hb:Below w.heap.size w w'):Got w' ao cap rs x:=⟨h.1.below hb,h.2⟩
theorem Is.got {B:Nat} {w:World} {v:Value} {x:Int} (h:Is B w v x):∃ ao cap rs,v=.slice ao rs.length cap∧Got w ao cap rs x:=by
 obtain ⟨rs,ho,hc,hv⟩:=h
 obtain ⟨ao,cap,rfl,h1,h2,h3,h4⟩:=ho.sl
 exact ⟨ao,cap,rs,rfl,⟨ao,cap,rfl,h1,h2,h3,h4⟩,hc,hv⟩
theorem canon_len {rs:List Int} (h:Canon rs) {m:Nat} (hv:val rs<pw m):rs.length≤m:=by
 apply Classical.byContradiction
 intro hn
 have h1:=canon_low h (by intro e;subst e;simp at hn)
 have h2:=pw_mono (m:=m) (n:=rs.length - 1) (by omega)
 omega
theorem pw_three (n:Nat):Lm.pw n≤pw (3*n):=by
 induction n with
 | zero=>simp [Lm.pw,pw]
 | succ n ih =>
  rw [show 3*(n+1)=3*n+3 by omega]
  simp only [Lm.pw,pw]
  have:=Lm.pw_pos n
  omega
theorem len_three {rs:List Int} (h:Canon rs) {xs:List Int} (hx:Lm.Limb xs) (hv:val rs≤Lm.val xs):rs.length≤3*xs.length:=by
 apply canon_len h
 have:=(Lm.val_bounds hx).2
 have:=pw_three xs.length
 omega
theorem made_g (w:World) (ao:Option Addr) (cap:Nat) (A:List Int) (x:Int) (hA:Got w ao cap A x) :
  Calls Tryz.prog 129 #[.bool false,.slice ao A.length cap] w fun e w'=>e=.returned (.agg #[.bool false,.slice ao A.length cap])∧Below w.heap.size w w' := by
 refine (made_any w false ao A.length cap A hA.sl).mono ?_
 rintro e w' ⟨rfl,hb⟩
 rw [hA.canon.2]
 exact ⟨by simp,hb⟩
theorem Sl.setCell {w:World} {v:Value} {zs:List Int} (h:Sl w v zs) {p:Addr} {u0:Value} (hp:w.cell? p=some u0) (hne:∀ z,u0≠.int .i64 z) (u:Value):Sl (w.setCell p u) v zs:=by
 obtain ⟨ao,cap,rfl,h1,h2,h3,h4⟩:=h
 refine ⟨ao,cap,rfl,h1,h2,h3,?_⟩
 rcases h4 with h4 | ⟨b,off,rfl,hc⟩
 ·exact .inl h4
 ·refine .inr ⟨b,off,rfl,fun i hi=>?_⟩
  have hd:p≠⟨b,off+i,none⟩:=by
   intro e
   have h5:=hc i hi
   rw [←e,hp] at h5
   exact hne _ (Option.some.inj h5)
  rw [World.cell?_setCell_other _ _ _ _ hd]
  exact hc i hi
set_option maxRecDepth 20000 in
set_option maxHeartbeats 1000000 in
theorem fromLimbs_any (w:World) (ao:Option Addr) (n cap:Nat) (xs:List Int) (hx:Lm.Sl w (.slice ao n cap) xs) (hl:xs.length≤300000) :
  Calls Tryz.prog 103 #[.slice ao n cap] w fun e w'=>∃ ao' cap' D,e=.returned (.agg #[.bool false,.slice ao' D.length cap'])∧Got w' ao' cap' D (Lm.val xs)∧D.length≤3*xs.length∧Below w.heap.size w w' := by
 obtain ⟨rfl,h1,h2,h3⟩:=hx.parts
 have H3:=hide h3
 have c0:(w.alloc (.cells #[.bool false,.slice none 0 0] 93)).cell? ⟨w.heap.size,0,none⟩ = some (.bool false):=by
  rw [cell_of_row _ _ _ _ _ (0,0) (heap_alloc_new w _)];rfl
 have c1:(w.alloc (.cells #[.bool false,.slice none 0 0] 93)).cell? ⟨w.heap.size,1,none⟩ = some (.slice none 0 0):=by
  rw [cell_of_row _ _ _ _ _ (0,0) (heap_alloc_new w _)];rfl
 have f0:(w.alloc (.cells #[.bool false,.slice none 0 0] 93)).frozen? ⟨w.heap.size,0,none⟩ = false:=frozen_of_row _ _ _ _ _ (heap_alloc_new w _)
 have f1:(w.alloc (.cells #[.bool false,.slice none 0 0] 93)).frozen? ⟨w.heap.size,1,none⟩ = false:=frozen_of_row _ _ _ _ _ (heap_alloc_new w _)
 have hb0:Below w.heap.size w (w.alloc (.cells #[.bool false,.slice none 0 0] 93)):=(Below.refl _ _).alloc (Nat.le_refl _) _
 have hs0:w.heap.size<(w.alloc (.cells #[.bool false,.slice none 0 0] 93)).heap.size:=by simp
 have C:=hide (And.intro c0 (And.intro c1 (And.intro f0 (And.intro f1 (And.intro hb0 hs0)))))
 clear h3 c0 c1 f0 f1 hb0 hs0
 go_enter Tryz.func103,Tryz.ntmps103
 go_wp2
 generalize w.alloc (.cells #[.bool false,.slice none 0 0] 93)=w0 at C ⊢
 go_loopw [3,4] (fun dv iv wr=>∃ (k:Nat) (ao' : Option Addr) (cap' : Nat) (D:List Int),k≤xs.length∧iv=.int .i64 ((k:Int) - 1)∧dv=.slice ao' D.length cap'∧Got wr ao' cap' D (Lm.val (xs.drop k))∧Below w0.heap.size w0 wr) (fun _ i _=>(intOf i+1).toNat)
 case atStart=>exact ⟨xs.length,none,0,[],Nat.le_refl _,rfl,rfl,⟨⟨none,0,rfl,Nat.le_refl _,by simp [maxLen],limb_nil,.inl rfl⟩,canon_nil,by simp [val,Lm.val]⟩,Below.refl _ _⟩
 case round =>
  obtain ⟨k,ao',cap',D,hk,rfl,rfl,hg,hbel⟩:=hrel
  have hdl:=len_three hg.canon (Lm.limb_drop H3.out k) (by rw [hg.val];omega)
  rw [List.length_drop] at hdl
  cases k with
  | zero =>
   rw [List.drop_zero] at hg
   go_wp2_with fail
   refine (made_g _ _ _ _ _ hg).mono ?_
   rintro e w1 ⟨rfl,hb1⟩
   replace hg:=hg.below hb1
   have hB:=hbel.trans (hb1.mono hbel.size)
   have d0:=(hB.cell (p:=⟨w.heap.size,0,none⟩) C.out.2.2.2.2.2).trans C.out.1
   have d1:=(hB.cell (p:=⟨w.heap.size,1,none⟩) C.out.2.2.2.2.2).trans C.out.2.1
   have g0:=(hB.frozen (p:=⟨w.heap.size,0,none⟩) C.out.2.2.2.2.2).trans C.out.2.2.1
   have g1:=(hB.frozen (p:=⟨w.heap.size,1,none⟩) C.out.2.2.2.2.2).trans C.out.2.2.2.1
   have hBw:Below w.heap.size w w1:=C.out.2.2.2.2.1.trans (hB.mono C.out.2.2.2.2.1.size)
   have e0:Below w.heap.size w ((w1.setCell ⟨w.heap.size,0,none⟩ (.bool false)).setCell ⟨w.heap.size,1,none⟩ (.slice ao' D.length cap')):=(hBw.setCell (Nat.le_refl _) _).setCell (Nat.le_refl _) _
   have e1:(w1.setCell ⟨w.heap.size,0,none⟩ (.bool false)).cell? ⟨w.heap.size,1,none⟩ = some (.slice none 0 0):=by
    rw [World.cell?_setCell_other _ _ _ _ (by simp)];exact d1
   have e2:=hide ((hg.sl.setCell d0 (fun z=>by simp) (.bool false)).setCell e1 (fun z=>by simp) (.slice ao' D.length cap'))
   have e3:=hide hg.2
   have y0:=World.cell?_setCell_same _ _ (.bool false) d0
   have x1:=World.cell?_setCell_same _ _ (.slice ao' D.length cap') e1
   have X:=hide (And.intro y0 x1)
   clear e1 y0 x1
   go_wp2
   refine bodyPost_ret (v:=.agg #[.bool false,.slice ao' D.length cap']) ?_ rfl ⟨ao',cap',D,rfl,⟨e2.out,e3.out⟩,by omega,e0⟩
   simp [results,Tryz.results103,go_sem,X.out.1,X.out.2]
  | succ k =>
   have sx:=(hx.below C.out.2.2.2.2.1).below hbel
   obtain ⟨b,off,rfl,hcx⟩:=sx.cells (by omega)
   have cx:=hcx k (by omega)
   have bx:=Lm.limb_getD H3.out k
   have Hd:=hide (Lm.drop_getD xs k (by omega))
   generalize xs.getD k 0=z at cx bx Hd
   clear sx hcx
   go_wp2_with fail
   refine (small_any _ _ _ _ D hg.sl 4294967296 z (by omega) (by omega) (by omega)).mono ?_
   rintro e w1 ⟨v,rfl,hi,hb1⟩
   obtain ⟨ao2,cap2,D2,rfl,hg2⟩:=hi.got
   have HG:Hid (Got w1 ao2 cap2 D2 (Lm.val (xs.drop k))):=by
    show Got _ _ _ _ _
    rw [Hd.out,Lm.val,Int.add_comm,Int.mul_comm,←hg.val]
    exact hg2
   have HBl:=hide (hbel.trans (hb1.mono hbel.size))
   clear hg hg2 hi hb1
   go_wp2
   go_roundw
   case rel=>exact ⟨k,ao2,cap2,D2,by omega,rfl,rfl,HG.out,HBl.out⟩
   case measure=>simp [intOf]
end Dm
end Go.Proofs.YtaofpigilgapgaaGreatDoor

namespace Go.Proofs.YtaofpigilgapgaaGreatDoor
namespace Dm
open Go.RowKit
open Lm (hide lt_of_cell lt_of_heap div_of info32)
def lenOf:Value→Nat | .slice _ n _=>n | _=>0
theorem cut_shorter {D E:List Int} (hD:Canon D) (hE:Canon E) (h:val E=val D / 4294967296) (h0:0<D.length):E.length<D.length:=by
 have hb:=val_bounds hD.1
 have:E.length≤D.length - 1:=by
  apply canon_len hE
  obtain ⟨k,hk⟩:∃ k,D.length=k+1:=⟨D.length - 1,by omega⟩
  rw [hk] at hb ⊢
  simp only [pw,Nat.add_sub_cancel] at hb ⊢
  rw [h]
  have:=pw_pos k
  omega
 omega
theorem Ow.open {B:Nat} {w:World} {v:Value} {rs:List Int} (h:Ow B w v rs):∃ ao cap,v=.slice ao rs.length cap∧Sl w (.slice ao rs.length cap) rs∧rs.length≤cap∧cap≤9223372036854775807:=by
 obtain ⟨ao,cap,rfl,h1,h2,h3,h4⟩:=h.sl
 exact ⟨ao,cap,rfl,⟨ao,cap,rfl,h1,h2,h3,h4⟩,h1,h2⟩
theorem owns_below {B e n:Nat} {w w' : World} {v:Value} {xs:List Value} (h:w.ownsRow B e 1 v n xs) (hb:Below w.heap.size w w'):w'.ownsRow B e 1 v n xs:=by
 obtain ⟨h1,h2⟩:=h
 refine ⟨h1,?_⟩
 rcases h2 with h2 | ⟨g,cap,cur,hv,hg,hh,r⟩
 ·exact .inl h2
 ·exact .inr ⟨g,cap,cur,hv,hg,by rw [hb.block g (lt_of_heap hh)];exact hh,r⟩
theorem Ow.grown {B:Nat} {w w' : World} {v:Value} {zs:List Int} {row:Option Nat} (h:Ow B w v zs) (hg:w.grownBy w' row) (hr:∀ j,row=some j→j<B):Ow B w' v zs:=by
 obtain ⟨ao,cap,rfl,h1,h2,h3,h4⟩:=h
 refine ⟨ao,cap,rfl,h1,h2,h3,?_⟩
 rcases h4 with h4 | ⟨g,off,cur,rfl,hB,hh,hs,ha⟩
 ·exact .inl h4
 ·refine .inr ⟨g,off,cur,rfl,hB,?_,hs,ha⟩
  rw [hg.block g (lt_of_heap hh) (fun e=>by have:=hr g e.symm;omega)]
  exact hh
theorem limbs_val {ls:List Int} {x y:Int} (h:Lm.val ls+Lm.pw ls.length*y=x):Lm.val (ls ++ [y % 4294967296])+Lm.pw (ls ++ [y % 4294967296]).length*(y / 4294967296)=x:=by
 rw [Lm.val_snoc,List.length_append,List.length_singleton,Lm.pw,←h]
 have e:y=y % 4294967296+4294967296*(y / 4294967296):=by omega
 have e2:Lm.pw ls.length*(y % 4294967296)+4294967296*Lm.pw ls.length*(y / 4294967296)=Lm.pw ls.length*y:=by
  rw [Int.mul_comm 4294967296,Int.mul_assoc,←Int.mul_add,←e]
 omega
theorem limbs_top {ls:List Int} {y:Int} (h0:0<y) (h1:y / 4294967296=0):Lm.tl (ls ++ [y % 4294967296])=(ls ++ [y % 4294967296]).length:=by
 have h2:y % 4294967296≠0:=by omega
 have:=Lm.tl_gt (zs:=ls ++ [y % 4294967296]) (n:=ls.length) (by simpa using h2)
 have:=Lm.tl_le (ls ++ [y % 4294967296])
 simp at this ⊢
 simp at *
 omega
theorem limbs_room {ls:List Int} {x y:Int} {M:Nat} (hl:Lm.Limb ls) (h:Lm.val ls+Lm.pw ls.length*y=x) (hy:0<y) (hx:x<Lm.pw M):ls.length<M:=by
 apply Classical.byContradiction
 intro hn
 have h1:=Lm.pw_mono (m:=M) (n:=ls.length) (by omega)
 have h2:=(Lm.val_bounds hl).1
 have h3:=Lm.pw_pos ls.length
 have h4:Lm.pw ls.length*1≤Lm.pw ls.length*y:=Int.mul_le_mul_of_nonneg_left (by omega) (by omega)
 omega
theorem step_own32 {B:Nat} {w wr w1:World} {v v' : Value} {k:Nat} {ds:List Int} {z:Int} {o:Obj} (h:w1.ownsRow B 103 1 v' (k+1) (ds.map (Value.int .u32) ++ [.int .u32 z])) (hg:(wr.alloc o).grownBy w1 v.ownBlock) (hb:Below B w wr) (hB:B≤wr.heap.size) (hl:∀ j,v.ownBlock=some j→B≤j∧j<wr.heap.size) :
  w1.ownsRow B 103 1 v' (k+1) ((ds ++ [z]).map (Value.int .u32))∧Below B w w1:=by
 refine ⟨by simpa using h,((hb.alloc hB o).grown hg ?_ (fun j hj=>(hl j hj).1))⟩
 simp
 omega
set_option maxRecDepth 20000 in
set_option maxHeartbeats 1000000 in
theorem limbs_loop (w:World) (ng:Bool) (ao:Option Addr) (cap:Nat) (D:List Int) (x:Int) (hD:Got w ao cap D x) (M:Nat) (hx:x<Lm.pw M) (hM:M≤1000000) (hl:D.length≤1000000) (h0:0<D.length) :
  Calls Tryz.prog 122 #[.agg #[.bool ng,.slice ao D.length cap]] w fun e w'=>∃ v,e=.returned v∧Lm.Is w.heap.size w' v x∧Below w.heap.size w w' := by
 obtain ⟨_,h1,h2,h3⟩:=hD.sl.parts
 obtain ⟨i0,hi,hz0,hz1,hz2⟩:=info_parts info64
 obtain ⟨j0,hj,jz0,jz1,jz2⟩:=info_parts info32
 obtain ⟨b,off,rfl,hc⟩:=hD.sl.cells h0
 have hcells:∀ j u,(D.map (Value.int .i64))[j]? = some u→(w.alloc (Obj.cells #[.bool ng,.slice (some ⟨b,off,none⟩) D.length cap] 93)).cell? ((⟨b,off,none⟩:Addr).add j)=some u:=by
  intro j u hu
  rw [List.getElem?_map] at hu
  have hj:j<D.length:=by
   apply Classical.byContradiction
   intro hn
   rw [List.getElem?_eq_none (by omega)] at hu
   cases hu
  rw [List.getElem?_eq_getElem hj] at hu
  have hcj:=hc j hj
  rw [List.getD_eq_getElem?_getD,List.getElem?_eq_getElem hj] at hcj
  rw [show ((⟨b,off,none⟩:Addr).add j)=⟨b,off+j,none⟩ from by simp [Addr.add],World.cell?_alloc_past _ _ _ (lt_of_cell hcj),hcj]
  exact hu
 have hone:∀ u ∈ D.map (Value.int .i64),u.oneCell' = true:=by
  intro u hu
  obtain ⟨z,_,rfl⟩:=List.mem_map.1 hu
  rfl
 have H3:=hide h3
 have HC:=hide hD.2
 have HX:=hide hx
 clear hc h3 hD hx
 go_enter Tryz.func122,Tryz.ntmps122
 go_wp2_with (at_builtin;refine wpList_append_own _ rfl (.const (.slice none 0 0)) (.tmp 7) 91 rfl (w.heap.size+1) 3 i0 (.int .i64 0) 1 8 Tryz.underlying91 hi hz0 hz1 hz2 rfl (by decide) _ _ _ rfl (World.ownsRow_nil _ _ _ _) ⟨b,off,none⟩ D.length cap (D.map (Value.int .i64)) rfl (by simp) hcells hone (by unfold maxLen;omega) (by omega) (by simp) ?_)
 intro v' w1 hown hgrow _
 have hb1:Below w.heap.size w w1:=((Below.refl w.heap.size w).alloc (Nat.le_refl _) _).grown hgrow (by simp) (by intro k hk;simp [Value.ownBlock] at hk)
 obtain ⟨ao1,cap1,rfl,s1,_,_⟩:=(ow_of_row hown H3.out).open
 have hg1:Got w1 ao1 cap1 D x:=⟨s1,HC.out⟩
 clear hown hgrow s1 hcells hone
 go_wp2
 go_loopw [3,4] (fun lv dv wr=>∃ (ls D2:List Int) (ao2:Option Addr) (cap2:Nat) (y:Int),dv=.slice ao2 D2.length cap2∧Got wr ao2 cap2 D2 y∧D2.length≤D.length∧wr.ownsRow w.heap.size 103 1 lv ls.length (ls.map (Value.int .u32))∧Lm.Limb ls∧Lm.val ls+Lm.pw ls.length*y=x∧(D2 = []→Lm.tl ls=ls.length)∧Below w.heap.size w wr) (fun _ dv _=>lenOf dv)
 case atStart=>exact ⟨[],D,ao1,cap1,x,rfl,hg1,Nat.le_refl _,World.ownsRow_nil _ _ _ _,Lm.limb_nil,by simp [Lm.val,Lm.pw],fun e=>by rw [e] at h0;simp at h0,hb1⟩
 case round =>
  obtain ⟨ls,D2,ao2,cap2,y,rfl,hg,hdl,hown,hls,hv,htop,hbel⟩:=hrel
  have HLS:=hide hls
  have HV:=hide hv
  have HT:=hide htop
  clear hls hv htop
  by_cases hz:0<D2.length
  ·have hy:0<y:=by
    have h5:=val_pos_tl hg.canon.1 (by rw [hg.canon.2];exact hz)
    rw [hg.val] at h5
    exact h5
   have hroom:=limbs_room HLS.out HV.out hy HX.out
   go_wp2_with fail
   refine (cutBy_any _ _ _ _ D2 hg.sl 4294967296 (by omega) (by omega) (by omega)).mono ?_
   rintro e w2 ⟨v2,rfl,i2,hb2⟩
   obtain ⟨D3,ho3,hc3,hv3⟩:=i2
   have hsh:=cut_shorter hg.canon hc3 hv3 hz
   rw [hg.val] at hv3 ⊢
   obtain ⟨ao3,cap3,rfl,_,_,_⟩:=ho3.open
   have HO3:=hide ho3
   have HC3:=hide (And.intro hc3 hv3)
   have hls3:Hid (∀ j,u3.ownBlock=some j→w.heap.size≤j∧j<wr.heap.size):=hown.lt
   have hbel2:=hbel.trans (hb2.mono hbel.size)
   have hown2:=owns_below hown hb2
   have HV' := hide (limbs_val HV.out)
   have HT' : Hid (D3 = []→Lm.tl (ls ++ [y % 4294967296])=(ls ++ [y % 4294967296]).length):=by
    intro e3
    refine limbs_top hy ?_
    rw [e3] at hv3
    exact hv3.symm
   clear ho3 hc3 hv3 hown hbel hb2 hg
   go_wp2_with (at_builtin;refine wpList_append_own _ rfl (.tmp 17) (.tmp 20) 38 rfl w.heap.size 103 j0 (.int .u32 0) 1 4 Tryz.underlying38 hj jz0 jz1 jz2 rfl (by decide) _ _ _ rfl (hown2.alloc _) ⟨w2.heap.size,0,none⟩ 1 1 [.int .u32 (y % 4294967296)] rfl rfl (cell_one_new _ _ _) ?c2 ?c3 ?c4 ?c5 ?_)
   case c2=>first | rfl | (intro u hu;simp at hu;subst hu;rfl)
   case c3=>unfold maxLen;omega
   case c4=>omega
   case c5=>have:=hbel2.size;first | omega | (simp;omega)
   intro v4 w4 hown4 hgrow4 _
   have R:=step_own32 hown4 hgrow4 hbel2 hbel2.size (hown2.lt)
   have HG4:Hid (Got w4 ao3 cap3 D3 (y / 4294967296)):=⟨((HO3.out.below ((Below.refl w2.heap.size w2).alloc (Nat.le_refl _) _)).grown hgrow4 (fun j hj=>(hls3.out j hj).2)).sl,HC3.out⟩
   clear hown4 hgrow4 hown2
   go_wp2
   go_roundw
   case rel=>exact ⟨ls ++ [y % 4294967296],D3,ao3,cap3,y / 4294967296,rfl,HG4.out,by omega,by simpa using R.1,Lm.limb_append.2 ⟨HLS.out,Lm.limb_cons.2 ⟨by omega,Lm.limb_nil⟩⟩,HV'.out,HT'.out,R.2⟩
   case measure=>simp [lenOf];omega
  ·have hz0:D2 = []:=List.eq_nil_of_length_eq_zero (by omega)
   have hy0:y=0:=by rw [←hg.val,hz0];rfl
   have hvx:Lm.val ls=x:=by have:=HV.out;rw [hy0,Int.mul_zero,Int.add_zero] at this;exact this
   have his:Lm.Is w.heap.size wr u3 x:=⟨ls,Lm.ow_of_row hown HLS.out,⟨HLS.out,HT.out hz0⟩,hvx⟩
   clear hz0 hy0 hvx hown hg
   go_wp2
   go_ret
   exact ⟨_,rfl,his,hbel⟩
end Dm
end Go.Proofs.YtaofpigilgapgaaGreatDoor

namespace Go.Proofs.YtaofpigilgapgaaGreatDoor
namespace Dm
open Go.RowKit
open Lm (hide lt_of_cell lt_of_heap div_of info32)
set_option maxRecDepth 20000 in
set_option maxHeartbeats 400000 in
theorem limbs_none (w:World) (ng:Bool) (ao:Option Addr) (cap:Nat) (_hcap:cap≤9223372036854775807) :
  Calls Tryz.prog 122 #[.agg #[.bool ng,.slice ao 0 cap]] w fun e w'=>∃ v,e=.returned v∧Lm.Is w.heap.size w' v 0∧Below w.heap.size w w' := by
 cases ao with
 | none =>
  go_enter Tryz.func122,Tryz.ntmps122
  go_wp2
  refine wp_loop_rounds 1 ?_
  rw [rounds_succ]
  go_wp2
  go_ret
  exact ⟨_,rfl,⟨[],⟨none,0,rfl,Nat.le_refl _,by simp [maxLen],Lm.limb_nil,.inl rfl⟩,Lm.canon_nil,rfl⟩,(Below.refl _ _).alloc (Nat.le_refl _) _⟩
 | some ad =>
  go_enter Tryz.func122,Tryz.ntmps122
  go_wp2
  refine wp_loop_rounds 1 ?_
  rw [rounds_succ]
  go_wp2
  go_ret
  exact ⟨_,rfl,⟨[],⟨none,0,rfl,Nat.le_refl _,by simp [maxLen],Lm.limb_nil,.inl rfl⟩,Lm.canon_nil,rfl⟩,(Below.refl _ _).alloc (Nat.le_refl _) _⟩
theorem limbs_any (w:World) (ng:Bool) (ao:Option Addr) (cap:Nat) (D:List Int) (x:Int) (hD:Got w ao cap D x) (M:Nat) (hx:x<Lm.pw M) (hM:M≤1000000) (hl:D.length≤1000000) :
  Calls Tryz.prog 122 #[.agg #[.bool ng,.slice ao D.length cap]] w fun e w'=>∃ v,e=.returned v∧Lm.Is w.heap.size w' v x∧Below w.heap.size w w' := by
 by_cases h0:0<D.length
 ·exact limbs_loop w ng ao cap D x hD M hx hM hl h0
 ·have e:D = []:=List.eq_nil_of_length_eq_zero (by omega)
  have hx0:x=0:=by rw [←hD.val,e];rfl
  have hc:=hD.sl.parts.2.2.1
  rw [hx0,e]
  exact limbs_none w ng ao cap hc
end Dm
end Go.Proofs.YtaofpigilgapgaaGreatDoor

namespace Go.Proofs.YtaofpigilgapgaaGreatDoor
namespace Dm
open Go.RowKit
open Lm (hide lt_of_cell lt_of_heap div_of info32 cmpI cmpI_lt cmpI_gt cmpI_eq ret_i64)
theorem getD_take (zs:List Int) (i k:Nat) (h:i<k):(zs.take k).getD i 0=zs.getD i 0:=by
 rw [List.getD_eq_getElem?_getD,List.getD_eq_getElem?_getD,List.getElem?_take,if_pos h]
theorem cmp_len {xs ys:List Int} (hx:Canon xs) (hy:Canon ys) (h:xs.length≠ys.length):cmpI (val xs) (val ys)=if xs.length<ys.length then -1 else 1:=by
 by_cases h' : xs.length<ys.length
 ·rw [if_pos h',cmpI_lt (canon_lt hx hy h')]
 ·rw [if_neg h',cmpI_gt (canon_lt hy hx (by omega))]
theorem cmp_low {xs ys:List Int} {k:Nat} (hx:Limb xs) (hy:Limb ys) (hl:xs.length=ys.length) (hk:k<xs.length) (hd:xs.drop (k+1)=ys.drop (k+1)) (h:xs.getD k 0<ys.getD k 0):cmpI (val xs) (val ys) = -1:=cmpI_lt (val_lt_at hx hy hl hk hd h)
theorem cmp_high {xs ys:List Int} {k:Nat} (hx:Limb xs) (hy:Limb ys) (hl:xs.length=ys.length) (hk:k<xs.length) (hd:xs.drop (k+1)=ys.drop (k+1)) (h:ys.getD k 0<xs.getD k 0):cmpI (val xs) (val ys)=1:=cmpI_gt (val_lt_at hy hx hl.symm (by omega) hd.symm h)
theorem drop_down {xs ys:List Int} {k:Nat} (hl:xs.length=ys.length) (hk:k<xs.length) (hd:xs.drop (k+1)=ys.drop (k+1)) (h:xs.getD k 0=ys.getD k 0):xs.drop k=ys.drop k:=by
 rw [drop_getD xs k hk,drop_getD ys k (by omega),hd,h]
set_option maxRecDepth 20000 in
set_option maxHeartbeats 1000000 in
theorem size_any (w:World) (g1 g2:Bool) (a1 a2:Option Addr) (c1 c2:Nat) (xs ys:List Int) (x y:Int) (hx:Got w a1 c1 xs x) (hy:Got w a2 c2 ys y) :
  Calls Tryz.prog 131 #[.agg #[.bool g1,.slice a1 xs.length c1],.agg #[.bool g2,.slice a2 ys.length c2]] w fun e w'=>e=.returned (.int .i64 (cmpI x y))∧Below w.heap.size w w' := by
 have e1:(w.alloc (.cells #[.bool g1,.slice a1 xs.length c1] 93)).heap.size=w.heap.size+1:=by simp
 have hb1:Below w.heap.size w (w.alloc (.cells #[.bool g1,.slice a1 xs.length c1] 93)):=(Below.refl _ _).alloc (Nat.le_refl _) _
 have hb2:=((Below.refl (w.heap.size+1) (w.alloc (.cells #[.bool g1,.slice a1 xs.length c1] 93))).alloc (by simp) (.cells #[.bool g2,.slice a2 ys.length c2] 93))
 have k1:((w.alloc (.cells #[.bool g1,.slice a1 xs.length c1] 93)).alloc (.cells #[.bool g2,.slice a2 ys.length c2] 93)).cell? ⟨w.heap.size,1,none⟩ = some (.slice a1 xs.length c1):=by
  rw [hb2.cell (p:=⟨w.heap.size,1,none⟩) (by simp),cell_of_row _ _ _ _ _ (0,0) (heap_alloc_new w _)];rfl
 have k2:((w.alloc (.cells #[.bool g1,.slice a1 xs.length c1] 93)).alloc (.cells #[.bool g2,.slice a2 ys.length c2] 93)).cell? ⟨w.heap.size+1,1,none⟩ = some (.slice a2 ys.length c2):=by
  rw [←e1,cell_of_row _ _ _ _ _ (0,0) (heap_alloc_new _ _)];rfl
 have hbw:=hb1.trans (hb2.mono (by omega))
 have K:=hide (And.intro k1 (And.intro k2 (And.intro hbw (show w.heap.size+1<((w.alloc (.cells #[.bool g1,.slice a1 xs.length c1] 93)).alloc (.cells #[.bool g2,.slice a2 ys.length c2] 93)).heap.size by simp))))
 obtain ⟨_,p1,p2,p3⟩:=hx.sl.parts
 obtain ⟨_,s1,s2,s3⟩:=hy.sl.parts
 have VX:=hide hx.val
 have VY:=hide hy.val
 have CX:=hide hx.canon
 have CY:=hide hy.canon
 have hsx:=hide hx.sl
 have hsy:=hide hy.sl
 clear e1 hb1 hb2 k1 k2 hbw hx hy p3 s3
 by_cases hl:xs.length=ys.length
 ·have hne:(((xs.length:Nat):Int) != ((ys.length:Nat):Int))=false:=by simp [hl]
  have HL:=hide hl
  have l1:xs.length≤ys.length:=by omega
  have l2:ys.length≤xs.length:=by omega
  clear hl
  go_enter Tryz.func131,Tryz.ntmps131
  go_wp2
  generalize (w.alloc (.cells #[.bool g1,.slice a1 xs.length c1] 93)).alloc (.cells #[.bool g2,.slice a2 ys.length c2] 93)=w0 at K ⊢
  go_loopw [5] (fun i wr=>∃ k:Nat,k≤xs.length∧xs.drop k=ys.drop k∧i=.int .i64 ((k:Int) - 1)∧Below w0.heap.size w0 wr) (fun i _=>(intOf i+1).toNat)
  case atStart=>exact ⟨xs.length,Nat.le_refl _,by rw [List.drop_of_length_le (by omega),List.drop_of_length_le (by omega)],rfl,Below.refl _ _⟩
  case round =>
   obtain ⟨k,hk,hd,rfl,hbel⟩:=hrel
   have HD:=hide hd
   clear hd
   have hbw:Below w.heap.size w wr:=K.out.2.2.1.trans (hbel.mono K.out.2.2.1.size)
   cases k with
   | zero =>
    have HE:Hid (cmpI x y=0):=by
     show _ = _
     have:=HD.out
     rw [List.drop_zero,List.drop_zero] at this
     rw [←VX.out,←VY.out,this]
     exact cmpI_eq rfl
    go_wp2
    go_ret
    exact ⟨by rw [HE.out];rfl,hbw⟩
   | succ k =>
    have sx:=(hsx.out.below K.out.2.2.1).below hbel
    have sy:=(hsy.out.below K.out.2.2.1).below hbel
    obtain ⟨b,off,rfl,hc⟩:=sx.cells (by omega)
    obtain ⟨b',off',rfl,hc'⟩:=sy.cells (by omega)
    have f1:=hc k (by omega)
    have f2:=hc' k (by omega)
    have m1:=(hbel.cell (p:=⟨w.heap.size,1,none⟩) (by have:=K.out.2.2.2;simp;omega)).trans K.out.1
    have m2:=(hbel.cell (p:=⟨w.heap.size+1,1,none⟩) K.out.2.2.2).trans K.out.2.1
    have d1:(k:Int)<((xs.length:Nat):Int):=by omega
    have d2:(k:Int)<((ys.length:Nat):Int):=by omega
    have ND:=hide (drop_down HL.out (by omega) HD.out)
    have NL:=hide (cmp_low CX.out.1 CY.out.1 HL.out (by omega) HD.out)
    have NH:=hide (cmp_high CX.out.1 CY.out.1 HL.out (by omega) HD.out)
    generalize xs.getD k 0=z at f1 ND NL NH
    generalize ys.getD k 0=z' at f2 ND NL NH
    clear sx sy hc hc'
    rcases Int.lt_trichotomy z z' with h | h | h
    ·have HE:Hid (cmpI x y = -1):=by show _ = _;rw [←VX.out,←VY.out];exact NL.out h
     go_wp2
     go_quiet (fail)
     go_wp2
     go_ret
     exact ⟨by rw [HE.out];rfl,below_drewN hbw _⟩
    ·subst h
     have n1:¬ z<z:=by omega
     go_wp2
     go_quiet (fail)
     go_wp2
     replace f1:(wr.drewN nq).cell? ⟨b,off+k,none⟩ = some (.int .i64 z):=f1
     replace f2:(wr.drewN nq).cell? ⟨b',off'+k,none⟩ = some (.int .i64 z):=f2
     replace m1:(wr.drewN nq).cell? ⟨w.heap.size,1,none⟩ = _:=m1
     replace m2:(wr.drewN nq).cell? ⟨w.heap.size+1,1,none⟩ = _:=m2
     replace hbel:=below_drewN hbel nq
     generalize wr.drewN nq=wr2 at f1 f2 m1 m2 hbel ⊢
     go_quiet (fail)
     go_wp2
     go_roundw
     case rel=>exact ⟨k,by omega,ND.out (by first | rfl | trivial),by go_num,below_drewN hbel _⟩
     case measure=>simp [intOf]
    ·have HE:Hid (cmpI x y=1):=by show _ = _;rw [←VX.out,←VY.out];exact NH.out h
     have n1:¬ z<z' := by omega
     go_wp2
     go_quiet (fail)
     go_wp2
     replace f1:(wr.drewN nq).cell? ⟨b,off+k,none⟩ = some (.int .i64 z):=f1
     replace f2:(wr.drewN nq).cell? ⟨b',off'+k,none⟩ = some (.int .i64 z'):=f2
     replace m1:(wr.drewN nq).cell? ⟨w.heap.size,1,none⟩ = _:=m1
     replace m2:(wr.drewN nq).cell? ⟨w.heap.size+1,1,none⟩ = _:=m2
     replace hbw:=below_drewN hbw nq
     generalize wr.drewN nq=wr2 at f1 f2 m1 m2 hbw ⊢
     go_quiet (fail)
     go_wp2
     go_ret
     exact ⟨by rw [HE.out];rfl,below_drewN hbw _⟩
 ·have hne:(((xs.length:Nat):Int) != ((ys.length:Nat):Int))=true:=by rw [bne_iff_ne];omega
  have HE:=hide (cmp_len CX.out CY.out hl)
  rw [VX.out,VY.out] at HE
  by_cases h:xs.length<ys.length
  ·rw [if_pos h] at HE
   have h' : ((xs.length:Nat):Int)<((ys.length:Nat):Int):=by omega
   clear hl
   go_enter Tryz.func131,Tryz.ntmps131
   go_wp2
   go_ret
   exact ⟨by rw [HE.out];rfl,K.out.2.2.1⟩
  ·rw [if_neg h] at HE
   have h' : ¬ ((xs.length:Nat):Int)<((ys.length:Nat):Int):=by omega
   clear hl
   go_enter Tryz.func131,Tryz.ntmps131
   go_wp2
   go_ret
   exact ⟨by rw [HE.out];rfl,K.out.2.2.1⟩
def sgn (n:Nat):Int:=if n=0 then 0 else 1
theorem got_zero {w:World} {ao:Option Addr} {cap:Nat} {xs:List Int} {x:Int} (h:Got w ao cap xs x) (h0:xs.length=0):x=0:=by
 have e:xs = []:=List.eq_nil_of_length_eq_zero h0
 rw [←h.val,e];rfl
end Dm
end Go.Proofs.YtaofpigilgapgaaGreatDoor

namespace Go.Proofs.YtaofpigilgapgaaGreatDoor
namespace Dm
open Go.RowKit
open Lm (hide)
def Dl (B:Nat) (w:World) (v:Value) (x:Int) (n:Nat):Prop:=∃ ds,Ow B w v ds∧val ds=x∧ds.length≤n
theorem plus_val {A B ds:List Int} {k:Nat} {a b c s:Int} (hk:ds.length=k) (ha:A.getD k 0=a) (hb:B.getD k 0=b) (hs:s=c+a+b) (h:val ds+pw k*c=vf A k+vf B k) :
  val (ds ++ [s % 10000])+pw (k+1)*(s / 10000)=vf A (k+1)+vf B (k+1):=by
 rw [val_snoc,vf,vf,ha,hb,hk,pw]
 have e:s=s % 10000+10000*(s / 10000):=by omega
 have e2:pw k*(s % 10000)+10000*pw k*(s / 10000)=pw k*s:=by
  rw [Int.mul_comm 10000 (pw k),Int.mul_assoc,←Int.mul_add,←e]
 rw [Int.add_assoc,e2,hs,Int.mul_add,Int.mul_add]
 omega
theorem getD_past (A:List Int) (k:Nat) (h:¬ k<A.length):A.getD k 0=0:=by
 rw [List.getD_eq_getElem?_getD,List.getElem?_eq_none (by omega)];rfl
set_option maxRecDepth 20000 in
set_option maxHeartbeats 1000000 in
theorem plus_any (w:World) (a1:Option Addr) (n1 c1:Nat) (A:List Int) (hA:Sl w (.slice a1 n1 c1) A) (a2:Option Addr) (n2 c2:Nat) (B:List Int) (hB:Sl w (.slice a2 n2 c2) B) (hl1:A.length≤1000000) (hl2:B.length≤1000000) :
  Calls Tryz.prog 130 #[.slice a1 n1 c1,.slice a2 n2 c2] w fun e w'=>∃ v,e=.returned v∧Dl w.heap.size w' v (val A+val B) (A.length+B.length+1)∧Below w.heap.size w w' := by
 obtain ⟨rfl,p1,p2,p3⟩:=hA.parts
 obtain ⟨rfl,q1,q2,q3⟩:=hB.parts
 obtain ⟨i0,hi,hz0,hz1,hz2⟩:=info_parts info64
 have P3:=hide p3
 have Q3:=hide q3
 clear p3 q3
 go_enter Tryz.func130,Tryz.ntmps130
 go_wp2
 go_loopw [5,6,7] (fun dv cv iv wr=>∃ (k:Nat) (c:Int) (ds:List Int),cv=.int .i64 c∧iv=.int .i64 k∧(0≤c∧c≤1)∧(k:Int)+c≤(A.length:Int)+B.length+1∧ds.length=k∧Limb ds∧val ds+pw k*c=vf A k+vf B k∧wr.ownsRow w.heap.size 3 1 dv k (ds.map (Value.int .i64))∧Below w.heap.size w wr) (fun _ cv iv _=>(A.length - (intOf iv).toNat)*2+(B.length - (intOf iv).toNat)*2+(intOf cv).toNat)
 case atStart=>exact ⟨0,0,[],rfl,rfl,by omega,by omega,rfl,limb_nil,by simp [val,vf,pw],World.ownsRow_nil _ _ _ _,Below.refl _ _⟩
 case round =>
  obtain ⟨k,c,ds,rfl,rfl,hc,hkc,hdl,hd,hval,hown,hbel⟩:=hrel
  have HD:=hide hd
  have HDL:=hide hdl
  have HV:=hide hval
  clear hd hdl hval
  have hsz:=hbel.size
  by_cases hltA:k<A.length
  ·by_cases hltB:k<B.length
   ·have sA:=hA.below hbel
    obtain ⟨b1,off1,rfl,hca⟩:=sA.cells (by omega)
    have ca:=hca k hltA
    have ba:=limb_getD P3.out k
    obtain ⟨a,hak⟩:∃ a,A.getD k 0=a:=⟨_,rfl⟩
    rw [hak] at ca ba
    clear sA hca
    have sB:=hB.below hbel
    obtain ⟨b2,off2,rfl,hcb⟩:=sB.cells (by omega)
    have cb:=hcb k hltB
    have bb:=limb_getD Q3.out k
    obtain ⟨b,hbk⟩:∃ b,B.getD k 0=b:=⟨_,rfl⟩
    rw [hbk] at cb bb
    clear sB hcb
    have dA:(k:Int)<(A.length:Int):=by omega
    have dB:(k:Int)<(B.length:Int):=by omega
    have HV' := hide (plus_val (s:=c+a+b) HDL.out hak hbk (by omega) HV.out)
    clear hak hbk
    go_wp2_with (at_builtin;refine wpList_append_own _ rfl (.tmp 44) (.tmp 47) 91 rfl w.heap.size 3 i0 (.int .i64 0) 1 8 Tryz.underlying91 hi hz0 hz1 hz2 rfl (by decide) _ _ _ rfl (hown.alloc _) ⟨wr.heap.size,0,none⟩ 1 1 [.int .i64 ((c+a+b) % 10000)] rfl rfl (cell_one_new _ _ _) ?c211 ?c311 ?c411 ?c511 ?_)
    case c211=>first | rfl | (intro u hu;simp at hu;subst hu;rfl)
    case c311=>unfold maxLen;omega
    case c411=>omega
    case c511=>first | omega | (simp;omega)
    intro v' w1 hown' hgrow _
    have R:=step_own hown' hgrow hbel (hown.lt)
    clear hown' hgrow hown
    go_wp2
    go_roundw
    case rel=>exact ⟨k+1,(c+a+b) / 10000,ds ++ [(c+a+b) % 10000],rfl,by go_num,by omega,by omega,by have:=HDL.out;simp;omega,limb_append.2 ⟨HD.out,limb_cons.2 ⟨by omega,limb_nil⟩⟩,HV'.out,R.1,R.2⟩
    case measure=>simp [intOf];omega
   ·have hbk:=getD_past B k hltB
    have sA:=hA.below hbel
    obtain ⟨b1,off1,rfl,hca⟩:=sA.cells (by omega)
    have ca:=hca k hltA
    have ba:=limb_getD P3.out k
    obtain ⟨a,hak⟩:∃ a,A.getD k 0=a:=⟨_,rfl⟩
    rw [hak] at ca ba
    clear sA hca
    have dA:(k:Int)<(A.length:Int):=by omega
    have dB:¬ (k:Int)<(B.length:Int):=by omega
    have HV' := hide (plus_val (s:=c+a) HDL.out hak hbk (by omega) HV.out)
    clear hak hbk
    go_wp2_with (at_builtin;refine wpList_append_own _ rfl (.tmp 44) (.tmp 47) 91 rfl w.heap.size 3 i0 (.int .i64 0) 1 8 Tryz.underlying91 hi hz0 hz1 hz2 rfl (by decide) _ _ _ rfl (hown.alloc _) ⟨wr.heap.size,0,none⟩ 1 1 [.int .i64 ((c+a) % 10000)] rfl rfl (cell_one_new _ _ _) ?c210 ?c310 ?c410 ?c510 ?_)
    case c210=>first | rfl | (intro u hu;simp at hu;subst hu;rfl)
    case c310=>unfold maxLen;omega
    case c410=>omega
    case c510=>first | omega | (simp;omega)
    intro v' w1 hown' hgrow _
    have R:=step_own hown' hgrow hbel (hown.lt)
    clear hown' hgrow hown
    go_wp2
    go_roundw
    case rel=>exact ⟨k+1,(c+a) / 10000,ds ++ [(c+a) % 10000],rfl,by go_num,by omega,by omega,by have:=HDL.out;simp;omega,limb_append.2 ⟨HD.out,limb_cons.2 ⟨by omega,limb_nil⟩⟩,HV'.out,R.1,R.2⟩
    case measure=>simp [intOf];omega
  ·have hak:=getD_past A k hltA
   by_cases hltB:k<B.length
   ·have sB:=hB.below hbel
    obtain ⟨b2,off2,rfl,hcb⟩:=sB.cells (by omega)
    have cb:=hcb k hltB
    have bb:=limb_getD Q3.out k
    obtain ⟨b,hbk⟩:∃ b,B.getD k 0=b:=⟨_,rfl⟩
    rw [hbk] at cb bb
    clear sB hcb
    have dA:¬ (k:Int)<(A.length:Int):=by omega
    have dB:(k:Int)<(B.length:Int):=by omega
    have HV' := hide (plus_val (s:=c+b) HDL.out hak hbk (by omega) HV.out)
    clear hak hbk
    go_wp2_with (at_builtin;refine wpList_append_own _ rfl (.tmp 44) (.tmp 47) 91 rfl w.heap.size 3 i0 (.int .i64 0) 1 8 Tryz.underlying91 hi hz0 hz1 hz2 rfl (by decide) _ _ _ rfl (hown.alloc _) ⟨wr.heap.size,0,none⟩ 1 1 [.int .i64 ((c+b) % 10000)] rfl rfl (cell_one_new _ _ _) ?c201 ?c301 ?c401 ?c501 ?_)
    case c201=>first | rfl | (intro u hu;simp at hu;subst hu;rfl)
    case c301=>unfold maxLen;omega
    case c401=>omega
    case c501=>first | omega | (simp;omega)
    intro v' w1 hown' hgrow _
    have R:=step_own hown' hgrow hbel (hown.lt)
    clear hown' hgrow hown
    go_wp2
    go_roundw
    case rel=>exact ⟨k+1,(c+b) / 10000,ds ++ [(c+b) % 10000],rfl,by go_num,by omega,by omega,by have:=HDL.out;simp;omega,limb_append.2 ⟨HD.out,limb_cons.2 ⟨by omega,limb_nil⟩⟩,HV'.out,R.1,R.2⟩
    case measure=>simp [intOf];omega
   ·have hbk:=getD_past B k hltB
    by_cases hc0:0<c
    ·have dA:¬ (k:Int)<(A.length:Int):=by omega
     have dB:¬ (k:Int)<(B.length:Int):=by omega
     have HV' := hide (plus_val (s:=c) HDL.out hak hbk (by omega) HV.out)
     clear hak hbk
     go_wp2_with (at_builtin;refine wpList_append_own _ rfl (.tmp 44) (.tmp 47) 91 rfl w.heap.size 3 i0 (.int .i64 0) 1 8 Tryz.underlying91 hi hz0 hz1 hz2 rfl (by decide) _ _ _ rfl (hown.alloc _) ⟨wr.heap.size,0,none⟩ 1 1 [.int .i64 ((c) % 10000)] rfl rfl (cell_one_new _ _ _) ?c200 ?c300 ?c400 ?c500 ?_)
     case c200=>first | rfl | (intro u hu;simp at hu;subst hu;rfl)
     case c300=>unfold maxLen;omega
     case c400=>omega
     case c500=>first | omega | (simp;omega)
     intro v' w1 hown' hgrow _
     have R:=step_own hown' hgrow hbel (hown.lt)
     clear hown' hgrow hown
     go_wp2
     go_roundw
     case rel=>exact ⟨k+1,(c) / 10000,ds ++ [(c) % 10000],rfl,by go_num,by omega,by omega,by have:=HDL.out;simp;omega,limb_append.2 ⟨HD.out,limb_cons.2 ⟨by omega,limb_nil⟩⟩,HV'.out,R.1,R.2⟩
     case measure=>simp [intOf];omega
    ·have hc1:c=0:=by omega
     subst hc1
     have dA:¬ (k:Int)<(A.length:Int):=by omega
     have dB:¬ (k:Int)<(B.length:Int):=by omega
     have how:=ow_of_row hown HD.out
     have hvv:val ds=val A+val B:=by
      have:=HV.out
      rw [Int.mul_zero,Int.add_zero,vf_all A _ (by omega),vf_all B _ (by omega)] at this
      exact this
     have hdl:=HDL.out
     have HVV:=hide hvv
     have HDL' : Hid (ds.length≤A.length+B.length+1):=by show _≤_;omega
     clear hvv hak hbk hown hdl
     go_wp2
     go_ret
     exact ⟨_,rfl,⟨ds,how,HVV.out,HDL'.out⟩,hbel⟩
end Dm
end Go.Proofs.YtaofpigilgapgaaGreatDoor

namespace Go.Proofs.YtaofpigilgapgaaGreatDoor
namespace Dm
open Go.RowKit
open Lm (hide lt_of_cell lt_of_heap)
theorem Sl.copy {w:World} {b off n cap:Nat} {D:List Int} (h:Sl w (.slice (some ⟨b,off,none⟩) n cap) D):∀ j u,(D.map (Value.int .i64))[j]? = some u→w.cell? ((⟨b,off,none⟩:Addr).add j)=some u:=by
 intro j u hu
 rw [List.getElem?_map] at hu
 have hj:j<D.length:=by
  apply Classical.byContradiction
  intro hn
  rw [List.getElem?_eq_none (by omega)] at hu
  cases hu
 rw [List.getElem?_eq_getElem hj] at hu
 obtain ⟨b',off',e,hc⟩:=h.cells (by omega)
 obtain ⟨rfl,rfl⟩:b=b'∧off=off' := by simpa using e
 have hcj:=hc j hj
 rw [List.getD_eq_getElem?_getD,List.getElem?_eq_getElem hj] at hcj
 rw [show ((⟨b,off,none⟩:Addr).add j)=⟨b,off+j,none⟩ from by simp [Addr.add],hcj]
 exact hu
theorem one_cells (D:List Int):∀ u ∈ D.map (Value.int .i64),u.oneCell' = true:=by
 intro u hu
 obtain ⟨z,_,rfl⟩:=List.mem_map.1 hu
 rfl
def dec (t:Int):List Int→List Int
 | []=>[]
 | x :: xs=>(x - t) :: xs
theorem dec_zero (xs:List Int):dec 0 xs=xs:=by cases xs <;> simp [dec]
theorem less_val {A B lo:List Int} {k:Nat} {a b t t' s:Int} (hk:lo.length=k) (ha:A.getD k 0=a) (hb:B.getD k 0=b) (hs:s=a - t - b+10000*t') (h:val lo+vf B k=vf A k+pw k*t) :
  val (lo ++ [s])+vf B (k+1)=vf A (k+1)+pw (k+1)*t' := by
 rw [val_snoc,vf,vf,ha,hb,hk,pw,hs]
 have e:10000*pw k*t' = pw k*(10000*t'):=by rw [Int.mul_comm 10000 (pw k),Int.mul_assoc]
 rw [e,Int.mul_add,Int.mul_sub,Int.mul_sub]
 omega
theorem set_mid (lo r:List Int) (x y:Int) (k:Nat) (hk:lo.length=k):(lo ++ x :: r).set k y=lo ++ y :: r:=by
 subst hk
 induction lo with
 | nil=>rfl
 | cons z zs ih=>simp
theorem getD_mid (lo r:List Int) (x:Int) (k:Nat) (hk:lo.length=k):(lo ++ x :: r).getD k 0=x:=by
 subst hk
 simp [List.getD_eq_getElem?_getD]
theorem dec_drop (A:List Int) (k:Nat) (t:Int) (h:k<A.length):dec t (A.drop k)=(A.getD k 0 - t) :: A.drop (k+1):=by
 rw [drop_getD A k h];rfl
theorem less_top {A B lo:List Int} {k:Nat} {a b t s:Int} (hk:lo.length=k) (hA:A.length=k+1) (hB:B.length≤A.length) (hle:val B≤val A) (hlo:Limb lo) (ha:A.getD k 0=a) (hb:B.getD k 0=b) (hs:s=a - t - b) (h:val lo+vf B k=vf A k+pw k*t):0≤s:=by
 have h1:=less_val (t' := 0) (s:=s) hk ha hb (by omega) h
 rw [vf_all A _ (by omega),vf_all B _ (by omega),Int.mul_zero,Int.add_zero,val_snoc,hk] at h1
 have h2:=(val_bounds hlo).2
 rw [hk] at h2
 apply Classical.byContradiction
 intro hn
 have h3:pw k*s≤pw k*(-1):=Int.mul_le_mul_of_nonneg_left (by omega) (by have:=pw_pos k;omega)
 omega
set_option maxRecDepth 20000 in
set_option maxHeartbeats 1000000 in
theorem less_any (w:World) (a1:Option Addr) (n1 c1:Nat) (A:List Int) (hA:Sl w (.slice a1 n1 c1) A) (a2:Option Addr) (n2 c2:Nat) (B:List Int) (hB:Sl w (.slice a2 n2 c2) B) (hl1:A.length≤1000000) (hBA:B.length≤A.length) (hle:val B≤val A) (h0:0<A.length) :
  Calls Tryz.prog 132 #[.slice a1 n1 c1,.slice a2 n2 c2] w fun e w'=>∃ v,e=.returned v∧Dl w.heap.size w' v (val A - val B) A.length∧Below w.heap.size w w' := by
 obtain ⟨rfl,p1,p2,p3⟩:=hA.parts
 obtain ⟨rfl,q1,q2,q3⟩:=hB.parts
 obtain ⟨i0,hi,hz0,hz1,hz2⟩:=info_parts info64
 obtain ⟨b1,off1,rfl,_⟩:=hA.cells h0
 have hcells:=hA.copy
 have hone:=one_cells A
 have P3:=hide p3
 have Q3:=hide q3
 have HLE:=hide hle
 clear p3 q3 hle
 go_enter Tryz.func132,Tryz.ntmps132
 go_wp2_with (at_builtin;refine wpList_append_own _ rfl (.const (.slice none 0 0)) (.tmp 7) 91 rfl w.heap.size 3 i0 (.int .i64 0) 1 8 Tryz.underlying91 hi hz0 hz1 hz2 rfl (by decide) _ _ _ rfl (World.ownsRow_nil _ _ _ _) ⟨b1,off1,none⟩ A.length c1 (A.map (Value.int .i64)) rfl (by simp) hcells hone (by unfold maxLen;omega) (by omega) (by simp) ?_)
 intro v' w1 hown hgrow _
 have hb1:Below w.heap.size w w1:=(Below.refl w.heap.size w).grown hgrow (by simp) (by intro k hk;simp [Value.ownBlock] at hk)
 obtain ⟨ao,cap,rfl,o1,o2,_,o4⟩:=ow_of_row hown P3.out
 rcases o4 with o4 | ⟨g,off,cur,rfl,hg,hh,hsz,hat⟩
 ·omega
 have o2' : cap≤9223372036854775807:=o2
 have HH:=hide hh
 have HA:=hide hat
 have HSZ:=hide hsz
 clear hown hgrow hcells hone hh hat o2 hsz
 go_wp2
 go_loopw [6] (fun iv wr=>∃ (k:Nat) (t:Int) (lo:List Int) (cur' : Array Value),k≤A.length∧iv=.int .i64 k∧(0≤t∧t≤1)∧(k=A.length→t=0)∧lo.length=k∧Limb lo∧val lo+vf B k=vf A k+pw k*t∧Wr w1 wr g cur' 3∧cur'.size=cur.size∧At cur' .i64 off (lo ++ dec t (A.drop k))) (fun iv _=>A.length - (intOf iv).toNat)
 case atStart=>exact ⟨0,0,[],cur,Nat.zero_le _,rfl,by omega,fun _=>rfl,rfl,limb_nil,by simp [val,vf,pw],Wr.refl HH.out,rfl,by simpa [dec_zero] using HA.out⟩
 case round =>
  obtain ⟨k,t,lo,cur',hk,rfl,ht,hkt,hlol,hlo,hval,hwr,hcs,hat⟩:=hrel
  have HLO:=hide hlo
  have HLL:=hide hlol
  have HV:=hide hval
  have HC:=hide hcs
  have hww:Wr w1 wr g cur' 3:=hwr
  by_cases hlt:k<A.length
  ·rw [dec_drop A k t hlt] at hat
   have ba:=limb_getD P3.out k
   obtain ⟨a,hak⟩:∃ a,A.getD k 0=a:=⟨_,rfl⟩
   rw [hak] at hat ba
   have dA:(k:Int)<(A.length:Int):=by omega
   have dC:(k:Int)<(cap:Int):=by omega
   by_cases hltB:k<B.length
   ·have sB:=hwr.sl hg hb1 rfl hB
    obtain ⟨b2,off2,rfl,hcb⟩:=sB.cells (by omega)
    have cb:=hcb k hltB
    have bb:=limb_getD Q3.out k
    obtain ⟨b,hbk⟩:∃ b,B.getD k 0=b:=⟨_,rfl⟩
    rw [hbk] at cb bb
    have dB:(k:Int)<(B.length:Int):=by omega
    have cd:=hat.cell hwr.here k (by simp;omega)
    rw [getD_mid _ _ _ _ HLL.out] at cd
    have fd:=hwr.free (off+k)
    have hat2:=hat.set k (a - t - b)
    rw [set_mid _ _ _ _ _ HLL.out] at hat2
    have hw2:=(hwr.set (off+k) (.int .i64 (a - t - b))).drew
    have HC2:Hid ((cur'.setIfInBounds (off+k) (.int .i64 (a - t - b))).size=cur.size):=by show _ = _;rw [Array.size_setIfInBounds];exact HC.out
    generalize hcur2:cur'.setIfInBounds (off+k) (.int .i64 (a - t - b))=cur2 at hat2 hw2 HC2
    have X2:=hide hat2
    have W2:=hide hw2
    have KB:=hide hbk
    have KA:=hide hak
    clear sB hcb hcur2 hat hwr hww hat2 hw2 hbk hak hlol hlo hval hcs
    go_wp2
    go_region
    generalize (wr.setCell ⟨g,off+k,none⟩ (.int .i64 (a - t - b))).drew=W at W2 ⊢
    have hat2:=X2.out
    have hw2:=W2.out
    have hak:=KA.out
    have hbk:=KB.out
    clear X2 W2 KA KB cd fd
    have hsv:Hid (val (lo ++ [a - t - b])+vf B (k+1)=vf A (k+1)+pw (k+1)*0):=less_val (t' := 0) HLL.out hak hbk (by omega) HV.out
    have hsv1:Hid (val (lo ++ [a - t - b+10000])+vf B (k+1)=vf A (k+1)+pw (k+1)*1):=less_val (t' := 1) HLL.out hak hbk (by omega) HV.out
    have htop:Hid (A.length=k+1→0≤a - t - b):=fun h=>less_top HLL.out h hBA HLE.out HLO.out hak hbk (by omega) HV.out
    have cs:=hat2.cell hw2.here k (by have:=HLL.out;simp;omega)
    rw [getD_mid _ _ _ _ HLL.out] at cs
    have fs:=hw2.free (off+k)
    by_cases hneg:a - t - b<0
    ·have hk1:k+1<A.length:=by
      apply Classical.byContradiction
      intro hn
      have:=htop.out (by omega)
      omega
     have hat3:=hat2.set k (a - t - b+10000)
     rw [set_mid _ _ _ _ _ HLL.out] at hat3
     have hw3:=(hw2.set (off+k) (.int .i64 (a - t - b+10000)))
     have dB1:(k:Int)+1<(A.length:Int):=by omega
     have e3:lo ++ (a - t - b+10000) :: A.drop (k+1)=(lo ++ [a - t - b+10000]) ++ A.getD (k+1) 0 :: A.drop (k+1+1):=by rw [drop_getD A (k+1) hk1];simp
     have HLL3:(lo ++ [a - t - b+10000]).length=k+1:=by simp;exact HLL.out
     rw [e3] at hat3
     obtain ⟨a',hak'⟩:∃ a',A.getD (k+1) 0=a' := ⟨_,rfl⟩
     have ba' := limb_getD P3.out (k+1)
     rw [hak'] at hat3 ba'
     have e2:lo ++ (a - t - b) :: A.drop (k+1)=(lo ++ [a - t - b]) ++ A.getD (k+1) 0 :: A.drop (k+1+1):=by rw [drop_getD A (k+1) hk1];simp
     have cs3:=hat2.cell hw2.here (k+1) (by have:=HLL.out;simp;omega)
     rw [e2,getD_mid _ _ _ _ (by simp;exact HLL.out),hak'] at cs3
     have fs3:=hw2.free (off+(k+1))
     have fs4:=hw3.free (off+(k+1))
     have hat4:=hat3.set (k+1) (a' - 1)
     rw [set_mid _ _ _ _ _ HLL3] at hat4
     have hw4:=hw3.set (off+(k+1)) (.int .i64 (a' - 1))
     rw [show (lo ++ [a - t - b+10000]) ++ (a' - 1) :: A.drop (k+1+1)=(lo ++ [a - t - b+10000]) ++ dec 1 (A.drop (k+1)) from by rw [dec_drop A (k+1) 1 hk1,hak']] at hat4
     have HF:=hide hat4
     have HW4:=hide hw4
     clear hat2 hat3 hat4 e3 e2 hw2 hw3 hw4 HLL3 hak hak' hbk hsv htop
     go_wp2
     go_roundw
     case rel=>exact ⟨k+1,1,lo ++ [a - t - b+10000],_,by omega,by go_num,by omega,fun h=>by omega,by simp;exact HLL.out,limb_append.2 ⟨HLO.out,limb_cons.2 ⟨by omega,limb_nil⟩⟩,hsv1.out,HW4.out,by rw [Array.size_setIfInBounds,Array.size_setIfInBounds];exact HC2.out,HF.out⟩
     case measure=>simp [intOf];omega
    ·have HF:Hid (At cur2 .i64 off ((lo ++ [a - t - b]) ++ dec 0 (A.drop (k+1)))):=by rw [dec_zero,List.append_assoc];exact hat2
     have HW2:=hide hw2
     have HK:=hide (show k+1≤A.length by omega)
     have HD:=hide hsv.out
     clear hat2 hw2 hak hbk hsv hsv1 htop
     go_wp2
     go_roundw
     case rel=>exact ⟨k+1,0,lo ++ [a - t - b],cur2,HK.out,by go_num,by omega,fun _=>rfl,by simp;exact HLL.out,limb_append.2 ⟨HLO.out,limb_cons.2 ⟨by omega,limb_nil⟩⟩,HD.out,HW2.out,HC2.out,HF.out⟩
     case measure=>simp [intOf];omega
   ·have hbk:=getD_past B k hltB
    have dB:¬ (k:Int)<(B.length:Int):=by omega
    have hat2:At cur' .i64 off (lo ++ (a - t) :: A.drop (k+1)):=hat
    have hw2:=hwr
    have HC2:=HC
    generalize cur' = cur2 at hat2 hw2 HC2
    clear hat hww hcs hval hlo hlol
    have hsv:Hid (val (lo ++ [a - t])+vf B (k+1)=vf A (k+1)+pw (k+1)*0):=less_val (t' := 0) HLL.out hak hbk (by omega) HV.out
    have hsv1:Hid (val (lo ++ [a - t+10000])+vf B (k+1)=vf A (k+1)+pw (k+1)*1):=less_val (t' := 1) HLL.out hak hbk (by omega) HV.out
    have htop:Hid (A.length=k+1→0≤a - t):=fun h=>less_top HLL.out h hBA HLE.out HLO.out hak hbk (by omega) HV.out
    have cs:=hat2.cell hw2.here k (by have:=HLL.out;simp;omega)
    rw [getD_mid _ _ _ _ HLL.out] at cs
    have fs:=hw2.free (off+k)
    by_cases hneg:a - t<0
    ·have hk1:k+1<A.length:=by
      apply Classical.byContradiction
      intro hn
      have:=htop.out (by omega)
      omega
     have hat3:=hat2.set k (a - t+10000)
     rw [set_mid _ _ _ _ _ HLL.out] at hat3
     have hw3:=(hw2.set (off+k) (.int .i64 (a - t+10000)))
     have dB1:(k:Int)+1<(A.length:Int):=by omega
     have e3:lo ++ (a - t+10000) :: A.drop (k+1)=(lo ++ [a - t+10000]) ++ A.getD (k+1) 0 :: A.drop (k+1+1):=by rw [drop_getD A (k+1) hk1];simp
     have HLL3:(lo ++ [a - t+10000]).length=k+1:=by simp;exact HLL.out
     rw [e3] at hat3
     obtain ⟨a',hak'⟩:∃ a',A.getD (k+1) 0=a' := ⟨_,rfl⟩
     have ba' := limb_getD P3.out (k+1)
     rw [hak'] at hat3 ba'
     have e2:lo ++ (a - t) :: A.drop (k+1)=(lo ++ [a - t]) ++ A.getD (k+1) 0 :: A.drop (k+1+1):=by rw [drop_getD A (k+1) hk1];simp
     have cs3:=hat2.cell hw2.here (k+1) (by have:=HLL.out;simp;omega)
     rw [e2,getD_mid _ _ _ _ (by simp;exact HLL.out),hak'] at cs3
     have fs3:=hw2.free (off+(k+1))
     have fs4:=hw3.free (off+(k+1))
     have hat4:=hat3.set (k+1) (a' - 1)
     rw [set_mid _ _ _ _ _ HLL3] at hat4
     have hw4:=hw3.set (off+(k+1)) (.int .i64 (a' - 1))
     rw [show (lo ++ [a - t+10000]) ++ (a' - 1) :: A.drop (k+1+1)=(lo ++ [a - t+10000]) ++ dec 1 (A.drop (k+1)) from by rw [dec_drop A (k+1) 1 hk1,hak']] at hat4
     have HF:=hide hat4
     have HW4:=hide hw4
     clear hat2 hat3 hat4 e3 e2 hw2 hw3 hw4 HLL3 hak hak' hbk hsv htop
     go_wp2
     go_roundw
     case rel=>exact ⟨k+1,1,lo ++ [a - t+10000],_,by omega,by go_num,by omega,fun h=>by omega,by simp;exact HLL.out,limb_append.2 ⟨HLO.out,limb_cons.2 ⟨by omega,limb_nil⟩⟩,hsv1.out,HW4.out,by rw [Array.size_setIfInBounds,Array.size_setIfInBounds];exact HC2.out,HF.out⟩
     case measure=>simp [intOf];omega
    ·have HF:Hid (At cur2 .i64 off ((lo ++ [a - t]) ++ dec 0 (A.drop (k+1)))):=by rw [dec_zero,List.append_assoc];exact hat2
     have HW2:=hide hw2
     have HK:=hide (show k+1≤A.length by omega)
     have HD:=hide hsv.out
     clear hat2 hw2 hak hbk hsv hsv1 htop
     go_wp2
     go_roundw
     case rel=>exact ⟨k+1,0,lo ++ [a - t],cur2,HK.out,by go_num,by omega,fun _=>rfl,by simp;exact HLL.out,limb_append.2 ⟨HLO.out,limb_cons.2 ⟨by omega,limb_nil⟩⟩,HD.out,HW2.out,HC2.out,HF.out⟩
     case measure=>simp [intOf];omega
  ·have hkn:k=A.length:=by omega
   have ht0:=hkt hkn
   have hvv:val lo=val A - val B:=by
    have h9:=HV.out
    rw [ht0,Int.mul_zero,Int.add_zero,vf_all A _ (by omega),vf_all B _ (by omega)] at h9
    omega
   have how:Ow w.heap.size wr (.slice (some ⟨g,off,none⟩) A.length cap) lo:=by
    rw [List.drop_of_length_le (by omega)] at hat
    simp only [dec,List.append_nil] at hat
    exact ⟨_,cap,by rw [hlol,hkn],by omega,o2',hlo,.inr ⟨g,off,cur',rfl,hg,hwr.here,by rw [hcs];exact HSZ.out,hat⟩⟩
   have D:Hid (Dl w.heap.size wr (.slice (some ⟨g,off,none⟩) A.length cap) (val A - val B) A.length):=⟨lo,how,hvv,by omega⟩
   have hbel:Below w.heap.size w wr:=hb1.trans (hwr.below hg)
   have dA:¬ (k:Int)<(A.length:Int):=by omega
   clear hvv how hat hwr hww hcs hval hlo hlol ht0 hkt hkn
   go_wp2
   go_ret
   exact ⟨_,rfl,D.out,hbel⟩
end Dm
end Go.Proofs.YtaofpigilgapgaaGreatDoor

namespace Go.Proofs.YtaofpigilgapgaaGreatDoor
namespace Dm
open Go.RowKit
open Lm (hide lt_of_cell lt_of_heap)
def sg (ng:Bool) (x:Int):Int:=if ng then -x else x
def Wh (w:World) (ng:Bool) (ao:Option Addr) (cap:Nat) (rs:List Int) (z:Int):Prop:=Got w ao cap rs (z.natAbs:Int)∧ng=decide (z<0)
theorem Wh.below {w w' : World} {ng:Bool} {ao:Option Addr} {cap:Nat} {rs:List Int} {z:Int} (h:Wh w ng ao cap rs z) (hb:Below w.heap.size w w'):Wh w' ng ao cap rs z:=⟨h.1.below hb,h.2⟩
theorem Wh.worth {w:World} {ng:Bool} {ao:Option Addr} {cap:Nat} {rs:List Int} {z:Int} (h:Wh w ng ao cap rs z):sg ng (Dm.val rs)=z:=by
 rw [h.1.val,h.2,sg]
 by_cases hz:z<0
 ·simp [hz];omega
 ·simp [hz];omega
theorem Wh.of {w:World} {ao:Option Addr} {cap:Nat} {rs:List Int} {x:Int} (ng:Bool) (h:Got w ao cap rs x):Wh w (ng && decide (0<rs.length)) ao cap rs (sg ng x):=by
 have h0:0≤x:=by rw [←h.val];exact (val_bounds h.canon.1).1
 have hz:=canon_zero h.canon
 rw [h.val] at hz
 have hl:rs = []↔rs.length=0:=List.length_eq_zero_iff.symm
 cases ng with
 | false =>
  refine ⟨?_,?_⟩
  ·have e:((sg false x).natAbs:Int)=x:=by simp [sg];omega
   rw [e];exact h
  ·simp [sg];omega
 | true =>
  refine ⟨?_,?_⟩
  ·have e:((sg true x).natAbs:Int)=x:=by simp [sg];omega
   rw [e];exact h
  ·have e3:(0<rs.length)↔(sg true x<0):=by
    simp only [sg,if_true]
    constructor
    ·intro h1
     have:x≠0:=fun h2=>by have:=hl.1 (hz.1 h2);omega
     omega
    ·intro h1
     have:rs.length≠0:=fun h2=>by have:=hz.2 (hl.2 h2);omega
     omega
   rw [Bool.true_and]
   exact decide_eq_decide.2 e3
def Box (w:World) (g:Nat) (ng:Bool) (v:Value):Prop:=w.heap[g]? = some (.cells #[.bool ng,v] 93 (0,0))
theorem Box.below {w w' : World} {g:Nat} {ng:Bool} {v:Value} (h:Box w g ng v) (hb:Below w.heap.size w w'):Box w' g ng v:=(hb.block g (lt_of_heap h)).trans h
theorem Box.facts {w:World} {g:Nat} {ng:Bool} {v:Value} (h:Box w g ng v):w.cell? ⟨g,0,none⟩ = some (.bool ng)∧w.cell? ⟨g,1,none⟩ = some v∧w.frozen? ⟨g,0,none⟩ = false∧w.frozen? ⟨g,1,none⟩ = false :=
 ⟨by rw [cell_of_row _ _ _ _ _ (0,0) h];rfl,by rw [cell_of_row _ _ _ _ _ (0,0) h];rfl,frozen_of_row _ _ _ _ _ h,frozen_of_row _ _ _ _ _ h⟩
theorem Box.set {w:World} {g:Nat} {ng:Bool} {v:Value} (h:Box w g ng v) (b:Bool) (u:Value):Box ((w.setCell ⟨g,0,none⟩ (.bool b)).setCell ⟨g,1,none⟩ u) g b u:=by
 have h1:=heap_setCell_same w g 0 _ _ (.bool b) h
 have h2:=heap_setCell_same _ g 1 _ _ u h1
 exact h2
theorem Box.sl {w:World} {g:Nat} {ng:Bool} {ao:Option Addr} {n cap:Nat} (h:Box w g ng (.slice ao n cap)) (b:Bool) (u:Value) {v:Value} {zs:List Int} (hs:Sl w v zs):Sl ((w.setCell ⟨g,0,none⟩ (.bool b)).setCell ⟨g,1,none⟩ u) v zs:=by
 refine (hs.setCell h.facts.1 (fun z=>by simp) _).setCell (u0:=.slice ao n cap) ?_ (fun z=>by simp) _
 rw [World.cell?_setCell_other _ _ _ _ (by simp)]
 exact h.facts.2.1
theorem Box.wh {w:World} {g:Nat} {ng:Bool} {ao:Option Addr} {n cap:Nat} (h:Box w g ng (.slice ao n cap)) (b:Bool) (u:Value) {nz:Bool} {az:Option Addr} {cz:Nat} {rs:List Int} {z:Int} (hs:Wh w nz az cz rs z):Wh ((w.setCell ⟨g,0,none⟩ (.bool b)).setCell ⟨g,1,none⟩ u) nz az cz rs z :=
 ⟨⟨h.sl b u hs.1.1,hs.1.2⟩,hs.2⟩
theorem below_set2 {B:Nat} {w w1:World} {g:Nat} (hb:Below B w w1) (hg:B≤g) (b u:Value):Below B w ((w1.setCell ⟨g,0,none⟩ b).setCell ⟨g,1,none⟩ u):=(hb.setCell hg _).setCell hg _
theorem boxed (w:World) (ng:Bool) (v:Value):Box (w.alloc (.cells #[.bool ng,v] 93)) w.heap.size ng v∧Below w.heap.size w (w.alloc (.cells #[.bool ng,v] 93))∧(w.alloc (.cells #[.bool ng,v] 93)).heap.size=w.heap.size+1 :=
 ⟨heap_alloc_new w _,(Below.refl _ _).alloc (Nat.le_refl _) _,by simp⟩
theorem boxed1 (w:World) (ng:Bool) (v:Value):∃ w0:World,(w.alloc (.cells #[.bool ng,v] 93)).alloc (.cells #[.bool false,.slice none 0 0] 93)=w0∧Box w0 w.heap.size ng v∧Box w0 (w.heap.size+1) false (.slice none 0 0)∧Below w.heap.size w w0∧w0.heap.size=w.heap.size+2:=by
 have h1:=boxed w ng v
 have h2:=boxed (w.alloc (.cells #[.bool ng,v] 93)) false (.slice none 0 0)
 rw [h1.2.2] at h2
 refine ⟨_,rfl,h1.1.below (by rw [h1.2.2];exact h2.2.1),h2.1,h1.2.1.trans (h2.2.1.mono (by omega)),h2.2.2⟩
theorem sg_neg (ng:Bool) (x:Int):sg (!ng) x = - sg ng x:=by cases ng <;> simp [sg]
theorem boxed0 (w:World) (ng:Bool) (v:Value):∃ w0:World,w.alloc (.cells #[.bool ng,v] 93)=w0∧Box w0 w.heap.size ng v∧Below w.heap.size w w0∧w0.heap.size=w.heap.size+1 :=
 ⟨_,rfl,(boxed w ng v).1,(boxed w ng v).2.1,(boxed w ng v).2.2⟩
theorem boxed2 (w:World) (nx:Bool) (vx:Value) (ny:Bool) (vy:Value):∃ w0:World,(w.alloc (.cells #[.bool nx,vx] 93)).alloc (.cells #[.bool ny,vy] 93)=w0∧Box w0 w.heap.size nx vx∧Box w0 (w.heap.size+1) ny vy∧Below w.heap.size w w0∧w0.heap.size=w.heap.size+2:=by
 have h1:=boxed w nx vx
 have h2:=boxed (w.alloc (.cells #[.bool nx,vx] 93)) ny vy
 rw [h1.2.2] at h2
 refine ⟨_,rfl,h1.1.below (by rw [h1.2.2];exact h2.2.1),h2.1,h1.2.1.trans (h2.2.1.mono (by omega)),h2.2.2⟩
theorem boxed3 (w:World) (nx:Bool) (vx:Value) (ny:Bool) (vy:Value):∃ w0:World,((w.alloc (.cells #[.bool nx,vx] 93)).alloc (.cells #[.bool ny,vy] 93)).alloc (.cells #[.bool false,.slice none 0 0] 93)=w0∧Box w0 w.heap.size nx vx∧Box w0 (w.heap.size+1) ny vy∧Box w0 (w.heap.size+1+1) false (.slice none 0 0)∧Below w.heap.size w w0∧w0.heap.size=w.heap.size+3:=by
 obtain ⟨w2,e2,b1,b2,hb,hs⟩:=boxed2 w nx vx ny vy
 have h2:=boxed w2 false (.slice none 0 0)
 rw [e2]
 refine ⟨_,rfl,b1.below h2.2.1,b2.below h2.2.1,?_,hb.trans (h2.2.1.mono (by omega)),by rw [h2.2.2,hs]⟩
 have h3:=h2.1
 rw [hs] at h3
 exact h3
theorem sg_add (ng:Bool) (x y:Int):sg ng (x+y)=sg ng x+sg ng y:=by cases ng <;> simp [sg] <;> omega
theorem sg_mul (n1 n2:Bool) (x y:Int):sg (n1 != n2) (x*y)=sg n1 x*sg n2 y:=by cases n1 <;> cases n2 <;> simp [sg,Int.mul_neg,Int.neg_mul]
theorem Dl.open {B:Nat} {w:World} {v:Value} {x:Int} {n:Nat} (h:Dl B w v x n):∃ ao cap ds,v=.slice ao ds.length cap∧Sl w (.slice ao ds.length cap) ds∧Dm.val ds=x∧ds.length≤n:=by
 obtain ⟨ds,ho,hv,hn⟩:=h
 obtain ⟨ao,cap,rfl,hs,_,_⟩:=ho.open
 exact ⟨ao,cap,ds,rfl,hs,hv,hn⟩
theorem made_w (w:World) (ng:Bool) (ao:Option Addr) (cap:Nat) (ds:List Int) (x:Int) (h:Sl w (.slice ao ds.length cap) ds) (hv:Dm.val ds=x) :
  Calls Tryz.prog 129 #[.bool ng,.slice ao ds.length cap] w fun e w'=>∃ ng' rs,e=.returned (.agg #[.bool ng',.slice ao rs.length cap])∧Wh w' ng' ao cap rs (sg ng x)∧rs.length≤ds.length∧Below w.heap.size w w' := by
 refine (made_any w ng ao ds.length cap ds h).mono ?_
 rintro e w' ⟨rfl,hb⟩
 have hl:=h.parts.2.2.2
 have ht:=tl_le ds
 have e1:(ds.take (tl ds)).length=tl ds:=by rw [List.length_take];omega
 have g:Got w' ao cap (ds.take (tl ds)) x:=⟨by rw [e1];exact (h.take ht).below hb,canon_trim hl,by rw [val_take_tl,hv]⟩
 have g2:=Wh.of ng g
 rw [e1] at g2
 exact ⟨_,ds.take (tl ds),by rw [e1],g2,by omega,hb⟩
theorem Wh.len {w:World} {ng:Bool} {ao:Option Addr} {cap:Nat} {rs:List Int} {z:Int} (h:Wh w ng ao cap rs z) {m:Nat} (hz:(z.natAbs:Int)<pw m):rs.length≤m:=canon_len h.1.canon (by rw [h.1.val];exact hz)
end Dm
end Go.Proofs.YtaofpigilgapgaaGreatDoor

namespace Go.Proofs.YtaofpigilgapgaaGreatDoor
namespace Dm
open Go.RowKit
open Lm (hide lt_of_cell lt_of_heap cmpI cmpI_lt cmpI_gt)
set_option maxRecDepth 20000 in
set_option maxHeartbeats 1000000 in
theorem nadd_same (w:World) (n1:Bool) (a1:Option Addr) (c1:Nat) (xs:List Int) (x:Int) (hx:Got w a1 c1 xs x) (a2:Option Addr) (c2:Nat) (ys:List Int) (y:Int) (hy:Got w a2 c2 ys y) (m1:xs.length≤400000) (m2:ys.length≤400000) :
  Calls Tryz.prog 85 #[.agg #[.bool n1,.slice a1 xs.length c1],.agg #[.bool n1,.slice a2 ys.length c2]] w fun e w'=>∃ ng' ao cap rs,e=.returned (.agg #[.bool ng',.slice ao rs.length cap])∧Wh w' ng' ao cap rs (sg n1 x+sg n1 y)∧rs.length≤xs.length+ys.length+1∧Below w.heap.size w w' := by
 obtain ⟨w0,e0,bx,by',br,hb0,hs0⟩:=boxed3 w n1 (.slice a1 xs.length c1) (n1) (.slice a2 ys.length c2)
 have E0:=hide e0
 have hx0:=hx.below hb0
 have hy0:=hy.below hb0
 have HB:=hb0
 have ne1:¬ (w.heap.size=w.heap.size+1+1):=by omega
 have ne2:¬ (w.heap.size+1+1=w.heap.size):=by omega
 clear e0 hs0
 cases n1 with
 | false =>
  go_enter Tryz.func85,Tryz.ntmps85
  go_wp2_with fail
  rw [E0.out]
  obtain ⟨bx1,bx2,bx3,bx4⟩:=bx.facts
  obtain ⟨by1,by2,by3,by4⟩:=by'.facts
  obtain ⟨br1,br2,br3,br4⟩:=br.facts
  go_region_held3 (fun w'=>w'.cell? ⟨w.heap.size,0,none⟩ = some (.bool false)∧w'.cell? ⟨w.heap.size,1,none⟩ = some (.slice a1 xs.length c1)∧w'.cell? ⟨w.heap.size+1,0,none⟩ = some (.bool false)∧w'.cell? ⟨w.heap.size+1,1,none⟩ = some (.slice a2 ys.length c2)) (go_keep) (first
    | (go_at_call 129;have _hq:=hb1';refine (made_w _ _ p1 q1 d1 _ (s1.below (by repeat (first | exact Below.refl _ _ | refine Below.drew ?_))) e1).mono ?_;rintro e w2 ⟨ng2,r2,rfl,G2,l2,hb2⟩;have hb2' : Below w1.heap.size w1 w2:=(show Below w1.heap.size w1 _ by repeat (first | exact Below.refl _ _ | refine Below.drew ?_)).trans hb2;have HB:=HB.trans (hb2'.mono HB.size);replace bx:=bx.below hb2';clear bx1 bx2 bx3 bx4;obtain ⟨bx1,bx2,bx3,bx4⟩:=bx.facts;replace by' := by'.below hb2';clear by1 by2 by3 by4;obtain ⟨by1,by2,by3,by4⟩:=by'.facts;replace br:=br.below hb2';clear br1 br2 br3 br4;obtain ⟨br1,br2,br3,br4⟩:=br.facts)
    | (go_at_call 130;refine (plus_any _ _ _ _ xs (hx0.sl.below (by repeat (first | exact Below.refl _ _ | refine Below.drew ?_))) _ _ _ ys (hy0.sl.below (by repeat (first | exact Below.refl _ _ | refine Below.drew ?_))) (by omega) (by omega)).mono ?_;rintro e w1 ⟨v1,rfl,D1,hb1⟩;obtain ⟨p1,q1,d1,rfl,s1,e1,l1⟩:=D1.open;clear D1;have hb1' : Below w0.heap.size w0 w1:=(show Below w0.heap.size w0 _ by repeat (first | exact Below.refl _ _ | refine Below.drew ?_)).trans hb1;have HB:=HB.trans (hb1'.mono HB.size);replace bx:=bx.below hb1';clear bx1 bx2 bx3 bx4;obtain ⟨bx1,bx2,bx3,bx4⟩:=bx.facts;replace by' := by'.below hb1';clear by1 by2 by3 by4;obtain ⟨by1,by2,by3,by4⟩:=by'.facts;replace br:=br.below hb1';clear br1 br2 br3 br4;obtain ⟨br1,br2,br3,br4⟩:=br.facts))
  all_goals
   have X:=hide (br.set ng2 (.slice p1 r2.length q1)).facts
   have Y:=hide (br.wh ng2 (.slice p1 r2.length q1) G2)
   have Z:=hide (below_set2 HB (show w.heap.size≤w.heap.size+1+1 by omega) (.bool ng2) (.slice p1 r2.length q1))
   clear bx1 bx2 bx3 bx4 by1 by2 by3 by4
   go_wp2
   refine bodyPost_ret (v:=.agg #[.bool ng2,.slice p1 r2.length q1]) ?_ rfl ⟨ng2,p1,q1,r2,rfl,by rw [←sg_add,←hx.val,←hy.val];exact Y.out,by omega,Z.out⟩
   simp [results,Tryz.results85,go_sem,X.out.1,X.out.2.1]
 | true =>
  go_enter Tryz.func85,Tryz.ntmps85
  go_wp2_with fail
  rw [E0.out]
  obtain ⟨bx1,bx2,bx3,bx4⟩:=bx.facts
  obtain ⟨by1,by2,by3,by4⟩:=by'.facts
  obtain ⟨br1,br2,br3,br4⟩:=br.facts
  go_region_held3 (fun w'=>w'.cell? ⟨w.heap.size,0,none⟩ = some (.bool true)∧w'.cell? ⟨w.heap.size,1,none⟩ = some (.slice a1 xs.length c1)∧w'.cell? ⟨w.heap.size+1,0,none⟩ = some (.bool true)∧w'.cell? ⟨w.heap.size+1,1,none⟩ = some (.slice a2 ys.length c2)) (go_keep) (first
    | (go_at_call 129;have _hq:=hb1';refine (made_w _ _ p1 q1 d1 _ (s1.below (by repeat (first | exact Below.refl _ _ | refine Below.drew ?_))) e1).mono ?_;rintro e w2 ⟨ng2,r2,rfl,G2,l2,hb2⟩;have hb2' : Below w1.heap.size w1 w2:=(show Below w1.heap.size w1 _ by repeat (first | exact Below.refl _ _ | refine Below.drew ?_)).trans hb2;have HB:=HB.trans (hb2'.mono HB.size);replace bx:=bx.below hb2';clear bx1 bx2 bx3 bx4;obtain ⟨bx1,bx2,bx3,bx4⟩:=bx.facts;replace by' := by'.below hb2';clear by1 by2 by3 by4;obtain ⟨by1,by2,by3,by4⟩:=by'.facts;replace br:=br.below hb2';clear br1 br2 br3 br4;obtain ⟨br1,br2,br3,br4⟩:=br.facts)
    | (go_at_call 130;refine (plus_any _ _ _ _ xs (hx0.sl.below (by repeat (first | exact Below.refl _ _ | refine Below.drew ?_))) _ _ _ ys (hy0.sl.below (by repeat (first | exact Below.refl _ _ | refine Below.drew ?_))) (by omega) (by omega)).mono ?_;rintro e w1 ⟨v1,rfl,D1,hb1⟩;obtain ⟨p1,q1,d1,rfl,s1,e1,l1⟩:=D1.open;clear D1;have hb1' : Below w0.heap.size w0 w1:=(show Below w0.heap.size w0 _ by repeat (first | exact Below.refl _ _ | refine Below.drew ?_)).trans hb1;have HB:=HB.trans (hb1'.mono HB.size);replace bx:=bx.below hb1';clear bx1 bx2 bx3 bx4;obtain ⟨bx1,bx2,bx3,bx4⟩:=bx.facts;replace by' := by'.below hb1';clear by1 by2 by3 by4;obtain ⟨by1,by2,by3,by4⟩:=by'.facts;replace br:=br.below hb1';clear br1 br2 br3 br4;obtain ⟨br1,br2,br3,br4⟩:=br.facts))
  all_goals
   have X:=hide (br.set ng2 (.slice p1 r2.length q1)).facts
   have Y:=hide (br.wh ng2 (.slice p1 r2.length q1) G2)
   have Z:=hide (below_set2 HB (show w.heap.size≤w.heap.size+1+1 by omega) (.bool ng2) (.slice p1 r2.length q1))
   clear bx1 bx2 bx3 bx4 by1 by2 by3 by4
   go_wp2
   refine bodyPost_ret (v:=.agg #[.bool ng2,.slice p1 r2.length q1]) ?_ rfl ⟨ng2,p1,q1,r2,rfl,by rw [←sg_add,←hx.val,←hy.val];exact Y.out,by omega,Z.out⟩
   simp [results,Tryz.results85,go_sem,X.out.1,X.out.2.1]
set_option maxRecDepth 20000 in
set_option maxHeartbeats 1000000 in
theorem nadd_ge (w:World) (n1:Bool) (a1:Option Addr) (c1:Nat) (xs:List Int) (x:Int) (hx:Got w a1 c1 xs x) (a2:Option Addr) (c2:Nat) (ys:List Int) (y:Int) (hy:Got w a2 c2 ys y) (m1:xs.length≤400000) (m2:ys.length≤400000) (hle:y≤x) (h0:0<x) :
  Calls Tryz.prog 85 #[.agg #[.bool n1,.slice a1 xs.length c1],.agg #[.bool (!n1),.slice a2 ys.length c2]] w fun e w'=>∃ ng' ao cap rs,e=.returned (.agg #[.bool ng',.slice ao rs.length cap])∧Wh w' ng' ao cap rs (sg n1 x+sg (!n1) y)∧rs.length≤xs.length+ys.length+1∧Below w.heap.size w w' := by
 obtain ⟨w0,e0,bx,by',br,hb0,hs0⟩:=boxed3 w n1 (.slice a1 xs.length c1) (!n1) (.slice a2 ys.length c2)
 have E0:=hide e0
 have hx0:=hx.below hb0
 have hy0:=hy.below hb0
 have HB:=hb0
 have ne1:¬ (w.heap.size=w.heap.size+1+1):=by omega
 have ne2:¬ (w.heap.size+1+1=w.heap.size):=by omega
 clear e0 hs0
 have K:=hide (fun w hx hy=>size_any w n1 (!n1) a1 a2 c1 c2 xs ys x y hx hy)
 have hc:0≤cmpI x y:=by
  rcases Int.lt_trichotomy x y with h | h | h
  ·omega
  ·rw [Lm.cmpI_eq h];omega
  ·rw [cmpI_gt h];omega
 have hpos:0<xs.length:=by
  apply Classical.byContradiction
  intro hn
  have:=got_zero hx (by omega)
  omega
 have hlen:ys.length≤xs.length:=by
  apply Classical.byContradiction
  intro hn
  have:=canon_lt hx.canon hy.canon (by omega)
  rw [hx.val,hy.val] at this
  omega
 generalize cmpI x y=cv at K hc
 cases n1 with
 | false =>
  simp only [Bool.not_false] at E0 by' K ⊢
  go_enter Tryz.func85,Tryz.ntmps85
  go_wp2_with fail
  rw [E0.out]
  obtain ⟨bx1,bx2,bx3,bx4⟩:=bx.facts
  obtain ⟨by1,by2,by3,by4⟩:=by'.facts
  obtain ⟨br1,br2,br3,br4⟩:=br.facts
  refine (K.out _ hx0 hy0).mono ?_
  rintro e w9 ⟨rfl,hb9⟩
  replace HB:=HB.trans (hb9.mono HB.size)
  replace hx0:=hx0.below hb9
  replace hy0:=hy0.below hb9
  replace bx:=bx.below hb9
  replace by' := by'.below hb9
  replace br:=br.below hb9
  clear bx1 bx2 bx3 bx4 by1 by2 by3 by4 br1 br2 br3 br4
  obtain ⟨bx1,bx2,bx3,bx4⟩:=bx.facts
  obtain ⟨by1,by2,by3,by4⟩:=by'.facts
  obtain ⟨br1,br2,br3,br4⟩:=br.facts
  go_wp2_with fail
  go_region_held3 (fun w'=>w'.cell? ⟨w.heap.size,0,none⟩ = some (.bool false)∧w'.cell? ⟨w.heap.size,1,none⟩ = some (.slice a1 xs.length c1)∧w'.cell? ⟨w.heap.size+1,0,none⟩ = some (.bool true)∧w'.cell? ⟨w.heap.size+1,1,none⟩ = some (.slice a2 ys.length c2)) (go_keep) (first
    | (go_at_call 129;have _hq:=hb1';refine (made_w _ _ p1 q1 d1 _ (s1.below (by repeat (first | exact Below.refl _ _ | refine Below.drew ?_))) e1).mono ?_;rintro e w2 ⟨ng2,r2,rfl,G2,l2,hb2⟩;have hb2' : Below w1.heap.size w1 w2:=(show Below w1.heap.size w1 _ by repeat (first | exact Below.refl _ _ | refine Below.drew ?_)).trans hb2;have HB:=HB.trans (hb2'.mono HB.size);replace bx:=bx.below hb2';clear bx1 bx2 bx3 bx4;obtain ⟨bx1,bx2,bx3,bx4⟩:=bx.facts;replace by' := by'.below hb2';clear by1 by2 by3 by4;obtain ⟨by1,by2,by3,by4⟩:=by'.facts;replace br:=br.below hb2';clear br1 br2 br3 br4;obtain ⟨br1,br2,br3,br4⟩:=br.facts)
    | (go_at_call 132;refine (less_any _ _ _ _ xs (hx0.sl.below (by repeat (first | exact Below.refl _ _ | refine Below.drew ?_))) _ _ _ ys (hy0.sl.below (by repeat (first | exact Below.refl _ _ | refine Below.drew ?_))) (by omega) hlen (by rw [hx.val,hy.val];exact hle) hpos).mono ?_;rintro e w1 ⟨v1,rfl,D1,hb1⟩;obtain ⟨p1,q1,d1,rfl,s1,e1,l1⟩:=D1.open;clear D1;have hb1' : Below w9.heap.size w9 w1:=(show Below w9.heap.size w9 _ by repeat (first | exact Below.refl _ _ | refine Below.drew ?_)).trans hb1;have HB:=HB.trans (hb1'.mono HB.size);replace bx:=bx.below hb1';clear bx1 bx2 bx3 bx4;obtain ⟨bx1,bx2,bx3,bx4⟩:=bx.facts;replace by' := by'.below hb1';clear by1 by2 by3 by4;obtain ⟨by1,by2,by3,by4⟩:=by'.facts;replace br:=br.below hb1';clear br1 br2 br3 br4;obtain ⟨br1,br2,br3,br4⟩:=br.facts))
  all_goals
   have X:=hide (br.set ng2 (.slice p1 r2.length q1)).facts
   have Y:=hide (br.wh ng2 (.slice p1 r2.length q1) G2)
   have Z:=hide (below_set2 HB (show w.heap.size≤w.heap.size+1+1 by omega) (.bool ng2) (.slice p1 r2.length q1))
   clear bx1 bx2 bx3 bx4 by1 by2 by3 by4
   go_wp2
   refine bodyPost_ret (v:=.agg #[.bool ng2,.slice p1 r2.length q1]) ?_ rfl ⟨ng2,p1,q1,r2,rfl,by rw [show sg false x+sg true y=sg false (Dm.val xs - Dm.val ys) by rw [hx.val,hy.val];simp [sg];omega];exact Y.out,by omega,Z.out⟩
   simp [results,Tryz.results85,go_sem,X.out.1,X.out.2.1]
 | true =>
  simp only [Bool.not_true] at E0 by' K ⊢
  go_enter Tryz.func85,Tryz.ntmps85
  go_wp2_with fail
  rw [E0.out]
  obtain ⟨bx1,bx2,bx3,bx4⟩:=bx.facts
  obtain ⟨by1,by2,by3,by4⟩:=by'.facts
  obtain ⟨br1,br2,br3,br4⟩:=br.facts
  refine (K.out _ hx0 hy0).mono ?_
  rintro e w9 ⟨rfl,hb9⟩
  replace HB:=HB.trans (hb9.mono HB.size)
  replace hx0:=hx0.below hb9
  replace hy0:=hy0.below hb9
  replace bx:=bx.below hb9
  replace by' := by'.below hb9
  replace br:=br.below hb9
  clear bx1 bx2 bx3 bx4 by1 by2 by3 by4 br1 br2 br3 br4
  obtain ⟨bx1,bx2,bx3,bx4⟩:=bx.facts
  obtain ⟨by1,by2,by3,by4⟩:=by'.facts
  obtain ⟨br1,br2,br3,br4⟩:=br.facts
  go_wp2_with fail
  go_region_held3 (fun w'=>w'.cell? ⟨w.heap.size,0,none⟩ = some (.bool true)∧w'.cell? ⟨w.heap.size,1,none⟩ = some (.slice a1 xs.length c1)∧w'.cell? ⟨w.heap.size+1,0,none⟩ = some (.bool false)∧w'.cell? ⟨w.heap.size+1,1,none⟩ = some (.slice a2 ys.length c2)) (go_keep) (first
    | (go_at_call 129;have _hq:=hb1';refine (made_w _ _ p1 q1 d1 _ (s1.below (by repeat (first | exact Below.refl _ _ | refine Below.drew ?_))) e1).mono ?_;rintro e w2 ⟨ng2,r2,rfl,G2,l2,hb2⟩;have hb2' : Below w1.heap.size w1 w2:=(show Below w1.heap.size w1 _ by repeat (first | exact Below.refl _ _ | refine Below.drew ?_)).trans hb2;have HB:=HB.trans (hb2'.mono HB.size);replace bx:=bx.below hb2';clear bx1 bx2 bx3 bx4;obtain ⟨bx1,bx2,bx3,bx4⟩:=bx.facts;replace by' := by'.below hb2';clear by1 by2 by3 by4;obtain ⟨by1,by2,by3,by4⟩:=by'.facts;replace br:=br.below hb2';clear br1 br2 br3 br4;obtain ⟨br1,br2,br3,br4⟩:=br.facts)
    | (go_at_call 132;refine (less_any _ _ _ _ xs (hx0.sl.below (by repeat (first | exact Below.refl _ _ | refine Below.drew ?_))) _ _ _ ys (hy0.sl.below (by repeat (first | exact Below.refl _ _ | refine Below.drew ?_))) (by omega) hlen (by rw [hx.val,hy.val];exact hle) hpos).mono ?_;rintro e w1 ⟨v1,rfl,D1,hb1⟩;obtain ⟨p1,q1,d1,rfl,s1,e1,l1⟩:=D1.open;clear D1;have hb1' : Below w9.heap.size w9 w1:=(show Below w9.heap.size w9 _ by repeat (first | exact Below.refl _ _ | refine Below.drew ?_)).trans hb1;have HB:=HB.trans (hb1'.mono HB.size);replace bx:=bx.below hb1';clear bx1 bx2 bx3 bx4;obtain ⟨bx1,bx2,bx3,bx4⟩:=bx.facts;replace by' := by'.below hb1';clear by1 by2 by3 by4;obtain ⟨by1,by2,by3,by4⟩:=by'.facts;replace br:=br.below hb1';clear br1 br2 br3 br4;obtain ⟨br1,br2,br3,br4⟩:=br.facts))
  all_goals
   have X:=hide (br.set ng2 (.slice p1 r2.length q1)).facts
   have Y:=hide (br.wh ng2 (.slice p1 r2.length q1) G2)
   have Z:=hide (below_set2 HB (show w.heap.size≤w.heap.size+1+1 by omega) (.bool ng2) (.slice p1 r2.length q1))
   clear bx1 bx2 bx3 bx4 by1 by2 by3 by4
   go_wp2
   refine bodyPost_ret (v:=.agg #[.bool ng2,.slice p1 r2.length q1]) ?_ rfl ⟨ng2,p1,q1,r2,rfl,by rw [show sg true x+sg false y=sg true (Dm.val xs - Dm.val ys) by rw [hx.val,hy.val];simp [sg];omega];exact Y.out,by omega,Z.out⟩
   simp [results,Tryz.results85,go_sem,X.out.1,X.out.2.1]
set_option maxRecDepth 20000 in
set_option maxHeartbeats 1000000 in
theorem nadd_lt (w:World) (n1:Bool) (a1:Option Addr) (c1:Nat) (xs:List Int) (x:Int) (hx:Got w a1 c1 xs x) (a2:Option Addr) (c2:Nat) (ys:List Int) (y:Int) (hy:Got w a2 c2 ys y) (m1:xs.length≤400000) (m2:ys.length≤400000) (hle:x<y) :
  Calls Tryz.prog 85 #[.agg #[.bool n1,.slice a1 xs.length c1],.agg #[.bool (!n1),.slice a2 ys.length c2]] w fun e w'=>∃ ng' ao cap rs,e=.returned (.agg #[.bool ng',.slice ao rs.length cap])∧Wh w' ng' ao cap rs (sg n1 x+sg (!n1) y)∧rs.length≤xs.length+ys.length+1∧Below w.heap.size w w' := by
 obtain ⟨w0,e0,bx,by',br,hb0,hs0⟩:=boxed3 w n1 (.slice a1 xs.length c1) (!n1) (.slice a2 ys.length c2)
 have E0:=hide e0
 have hx0:=hx.below hb0
 have hy0:=hy.below hb0
 have HB:=hb0
 have ne1:¬ (w.heap.size=w.heap.size+1+1):=by omega
 have ne2:¬ (w.heap.size+1+1=w.heap.size):=by omega
 clear e0 hs0
 have K:=hide (fun w hx hy=>size_any w n1 (!n1) a1 a2 c1 c2 xs ys x y hx hy)
 have hc:¬ 0≤cmpI x y:=by rw [cmpI_lt hle];omega
 have hpos:0<ys.length:=by
  apply Classical.byContradiction
  intro hn
  have h1:=got_zero hy (by omega)
  have h2:=(val_bounds hx.canon.1).1
  rw [hx.val] at h2
  omega
 have hlen:xs.length≤ys.length:=by
  apply Classical.byContradiction
  intro hn
  have:=canon_lt hy.canon hx.canon (by omega)
  rw [hx.val,hy.val] at this
  omega
 generalize cmpI x y=cv at K hc
 cases n1 with
 | false =>
  simp only [Bool.not_false] at E0 by' K ⊢
  go_enter Tryz.func85,Tryz.ntmps85
  go_wp2_with fail
  rw [E0.out]
  obtain ⟨bx1,bx2,bx3,bx4⟩:=bx.facts
  obtain ⟨by1,by2,by3,by4⟩:=by'.facts
  obtain ⟨br1,br2,br3,br4⟩:=br.facts
  refine (K.out _ hx0 hy0).mono ?_
  rintro e w9 ⟨rfl,hb9⟩
  replace HB:=HB.trans (hb9.mono HB.size)
  replace hx0:=hx0.below hb9
  replace hy0:=hy0.below hb9
  replace bx:=bx.below hb9
  replace by' := by'.below hb9
  replace br:=br.below hb9
  clear bx1 bx2 bx3 bx4 by1 by2 by3 by4 br1 br2 br3 br4
  obtain ⟨bx1,bx2,bx3,bx4⟩:=bx.facts
  obtain ⟨by1,by2,by3,by4⟩:=by'.facts
  obtain ⟨br1,br2,br3,br4⟩:=br.facts
  go_wp2_with fail
  go_region_held3 (fun w'=>w'.cell? ⟨w.heap.size,0,none⟩ = some (.bool false)∧w'.cell? ⟨w.heap.size,1,none⟩ = some (.slice a1 xs.length c1)∧w'.cell? ⟨w.heap.size+1,0,none⟩ = some (.bool true)∧w'.cell? ⟨w.heap.size+1,1,none⟩ = some (.slice a2 ys.length c2)) (go_keep) (first
    | (go_at_call 129;have _hq:=hb1';refine (made_w _ _ p1 q1 d1 _ (s1.below (by repeat (first | exact Below.refl _ _ | refine Below.drew ?_))) e1).mono ?_;rintro e w2 ⟨ng2,r2,rfl,G2,l2,hb2⟩;have hb2' : Below w1.heap.size w1 w2:=(show Below w1.heap.size w1 _ by repeat (first | exact Below.refl _ _ | refine Below.drew ?_)).trans hb2;have HB:=HB.trans (hb2'.mono HB.size);replace bx:=bx.below hb2';clear bx1 bx2 bx3 bx4;obtain ⟨bx1,bx2,bx3,bx4⟩:=bx.facts;replace by' := by'.below hb2';clear by1 by2 by3 by4;obtain ⟨by1,by2,by3,by4⟩:=by'.facts;replace br:=br.below hb2';clear br1 br2 br3 br4;obtain ⟨br1,br2,br3,br4⟩:=br.facts)
    | (go_at_call 132;refine (less_any _ _ _ _ ys (hy0.sl.below (by repeat (first | exact Below.refl _ _ | refine Below.drew ?_))) _ _ _ xs (hx0.sl.below (by repeat (first | exact Below.refl _ _ | refine Below.drew ?_))) (by omega) hlen (by rw [hx.val,hy.val];omega) hpos).mono ?_;rintro e w1 ⟨v1,rfl,D1,hb1⟩;obtain ⟨p1,q1,d1,rfl,s1,e1,l1⟩:=D1.open;clear D1;have hb1' : Below w9.heap.size w9 w1:=(show Below w9.heap.size w9 _ by repeat (first | exact Below.refl _ _ | refine Below.drew ?_)).trans hb1;have HB:=HB.trans (hb1'.mono HB.size);replace bx:=bx.below hb1';clear bx1 bx2 bx3 bx4;obtain ⟨bx1,bx2,bx3,bx4⟩:=bx.facts;replace by' := by'.below hb1';clear by1 by2 by3 by4;obtain ⟨by1,by2,by3,by4⟩:=by'.facts;replace br:=br.below hb1';clear br1 br2 br3 br4;obtain ⟨br1,br2,br3,br4⟩:=br.facts))
  all_goals
   have X:=hide (br.set ng2 (.slice p1 r2.length q1)).facts
   have Y:=hide (br.wh ng2 (.slice p1 r2.length q1) G2)
   have Z:=hide (below_set2 HB (show w.heap.size≤w.heap.size+1+1 by omega) (.bool ng2) (.slice p1 r2.length q1))
   clear bx1 bx2 bx3 bx4 by1 by2 by3 by4
   go_wp2
   refine bodyPost_ret (v:=.agg #[.bool ng2,.slice p1 r2.length q1]) ?_ rfl ⟨ng2,p1,q1,r2,rfl,by rw [show sg false x+sg true y=sg true (Dm.val ys - Dm.val xs) by rw [hx.val,hy.val];simp [sg];omega];exact Y.out,by omega,Z.out⟩
   simp [results,Tryz.results85,go_sem,X.out.1,X.out.2.1]
 | true =>
  simp only [Bool.not_true] at E0 by' K ⊢
  go_enter Tryz.func85,Tryz.ntmps85
  go_wp2_with fail
  rw [E0.out]
  obtain ⟨bx1,bx2,bx3,bx4⟩:=bx.facts
  obtain ⟨by1,by2,by3,by4⟩:=by'.facts
  obtain ⟨br1,br2,br3,br4⟩:=br.facts
  refine (K.out _ hx0 hy0).mono ?_
  rintro e w9 ⟨rfl,hb9⟩
  replace HB:=HB.trans (hb9.mono HB.size)
  replace hx0:=hx0.below hb9
  replace hy0:=hy0.below hb9
  replace bx:=bx.below hb9
  replace by' := by'.below hb9
  replace br:=br.below hb9
  clear bx1 bx2 bx3 bx4 by1 by2 by3 by4 br1 br2 br3 br4
  obtain ⟨bx1,bx2,bx3,bx4⟩:=bx.facts
  obtain ⟨by1,by2,by3,by4⟩:=by'.facts
  obtain ⟨br1,br2,br3,br4⟩:=br.facts
  go_wp2_with fail
  go_region_held3 (fun w'=>w'.cell? ⟨w.heap.size,0,none⟩ = some (.bool true)∧w'.cell? ⟨w.heap.size,1,none⟩ = some (.slice a1 xs.length c1)∧w'.cell? ⟨w.heap.size+1,0,none⟩ = some (.bool false)∧w'.cell? ⟨w.heap.size+1,1,none⟩ = some (.slice a2 ys.length c2)) (go_keep) (first
    | (go_at_call 129;have _hq:=hb1';refine (made_w _ _ p1 q1 d1 _ (s1.below (by repeat (first | exact Below.refl _ _ | refine Below.drew ?_))) e1).mono ?_;rintro e w2 ⟨ng2,r2,rfl,G2,l2,hb2⟩;have hb2' : Below w1.heap.size w1 w2:=(show Below w1.heap.size w1 _ by repeat (first | exact Below.refl _ _ | refine Below.drew ?_)).trans hb2;have HB:=HB.trans (hb2'.mono HB.size);replace bx:=bx.below hb2';clear bx1 bx2 bx3 bx4;obtain ⟨bx1,bx2,bx3,bx4⟩:=bx.facts;replace by' := by'.below hb2';clear by1 by2 by3 by4;obtain ⟨by1,by2,by3,by4⟩:=by'.facts;replace br:=br.below hb2';clear br1 br2 br3 br4;obtain ⟨br1,br2,br3,br4⟩:=br.facts)
    | (go_at_call 132;refine (less_any _ _ _ _ ys (hy0.sl.below (by repeat (first | exact Below.refl _ _ | refine Below.drew ?_))) _ _ _ xs (hx0.sl.below (by repeat (first | exact Below.refl _ _ | refine Below.drew ?_))) (by omega) hlen (by rw [hx.val,hy.val];omega) hpos).mono ?_;rintro e w1 ⟨v1,rfl,D1,hb1⟩;obtain ⟨p1,q1,d1,rfl,s1,e1,l1⟩:=D1.open;clear D1;have hb1' : Below w9.heap.size w9 w1:=(show Below w9.heap.size w9 _ by repeat (first | exact Below.refl _ _ | refine Below.drew ?_)).trans hb1;have HB:=HB.trans (hb1'.mono HB.size);replace bx:=bx.below hb1';clear bx1 bx2 bx3 bx4;obtain ⟨bx1,bx2,bx3,bx4⟩:=bx.facts;replace by' := by'.below hb1';clear by1 by2 by3 by4;obtain ⟨by1,by2,by3,by4⟩:=by'.facts;replace br:=br.below hb1';clear br1 br2 br3 br4;obtain ⟨br1,br2,br3,br4⟩:=br.facts))
  all_goals
   have X:=hide (br.set ng2 (.slice p1 r2.length q1)).facts
   have Y:=hide (br.wh ng2 (.slice p1 r2.length q1) G2)
   have Z:=hide (below_set2 HB (show w.heap.size≤w.heap.size+1+1 by omega) (.bool ng2) (.slice p1 r2.length q1))
   clear bx1 bx2 bx3 bx4 by1 by2 by3 by4
   go_wp2
   refine bodyPost_ret (v:=.agg #[.bool ng2,.slice p1 r2.length q1]) ?_ rfl ⟨ng2,p1,q1,r2,rfl,by rw [show sg true x+sg false y=sg false (Dm.val ys - Dm.val xs) by rw [hx.val,hy.val];simp [sg];omega];exact Y.out,by omega,Z.out⟩
   simp [results,Tryz.results85,go_sem,X.out.1,X.out.2.1]
theorem nadd_g (w:World) (n1:Bool) (a1:Option Addr) (c1:Nat) (xs:List Int) (x:Int) (hx:Wh w n1 a1 c1 xs x) (n2:Bool) (a2:Option Addr) (c2:Nat) (ys:List Int) (y:Int) (hy:Wh w n2 a2 c2 ys y) (m1:xs.length≤400000) (m2:ys.length≤400000) :
  Calls Tryz.prog 85 #[.agg #[.bool n1,.slice a1 xs.length c1],.agg #[.bool n2,.slice a2 ys.length c2]] w fun e w'=>∃ ng' ao cap rs,e=.returned (.agg #[.bool ng',.slice ao rs.length cap])∧Wh w' ng' ao cap rs (x+y)∧rs.length≤xs.length+ys.length+1∧Below w.heap.size w w' := by
 have wx:=hx.worth
 have wy:=hy.worth
 rw [hx.1.val] at wx
 rw [hy.1.val] at wy
 rw [show x+y=sg n1 (x.natAbs:Int)+sg n2 (y.natAbs:Int) by rw [wx,wy]]
 by_cases hn:n1=n2
 ·subst hn
  exact nadd_same w n1 a1 c1 xs _ hx.1 a2 c2 ys _ hy.1 m1 m2
 ·have hn2:n2 = !n1:=by cases n1 <;> cases n2 <;> simp_all
  have s1:=hx.2
  have s2:=hy.2
  subst hn2
  by_cases hle:(y.natAbs:Int)≤(x.natAbs:Int)
  ·refine nadd_ge w n1 a1 c1 xs _ hx.1 a2 c2 ys _ hy.1 m1 m2 hle ?_
   cases n1
   ·have:y<0:=by simpa using s2.symm
    omega
   ·have:x<0:=by simpa using s1.symm
    omega
  ·exact nadd_lt w n1 a1 c1 xs _ hx.1 a2 c2 ys _ hy.1 m1 m2 (by omega)
end Dm
end Go.Proofs.YtaofpigilgapgaaGreatDoor

namespace Go.Proofs.YtaofpigilgapgaaGreatDoor
namespace Dm
open Go.RowKit
open Lm (hide lt_of_cell lt_of_heap cmpI cmpI_lt cmpI_gt)
theorem copied {w:World} {B g n cap:Nat} {zs:List Int} (h:w.ownsRow B 3 1 (.slice (some ⟨g,0,none⟩) n cap) n ([] ++ zs.map (Value.int .i64))) (hz:Limb zs):Sl w (.slice (some ⟨g,0,none⟩) zs.length cap) zs:=by
 have hn:zs.length=n:=by simpa using h.1
 subst hn
 rw [List.nil_append] at h
 exact (ow_of_row h hz).sl
set_option maxRecDepth 20000 in
set_option maxHeartbeats 1000000 in
theorem minus_some (w:World) (ng:Bool) (a1:Option Addr) (c1:Nat) (xs:List Int) (x:Int) (hx:Got w a1 c1 xs x) (m1:xs.length≤1000000) (h0:0<xs.length) :
  Calls Tryz.prog 102 #[.agg #[.bool ng,.slice a1 xs.length c1]] w fun e w'=>∃ ng' ao cap rs,e=.returned (.agg #[.bool ng',.slice ao rs.length cap])∧Wh w' ng' ao cap rs (sg (!ng) x)∧rs.length≤xs.length∧Below w.heap.size w w' := by
 obtain ⟨b,off,rfl,_⟩:=hx.sl.cells h0
 obtain ⟨w0,e0,bx,br,hb0,hs0⟩:=boxed1 w ng (.slice (some ⟨b,off,none⟩) xs.length c1)
 have E0:=hide e0
 obtain ⟨i0,hi,hz0,hz1,hz2⟩:=info_parts info64
 obtain ⟨_,p1,p2,p3⟩:=hx.sl.parts
 have P3:=hide p3
 have hx0:=hx.below hb0
 have HB:=hb0
 clear e0 hs0 p3
 go_enter Tryz.func102,Tryz.ntmps102
 go_wp2_with fail
 rw [E0.out]
 obtain ⟨bx1,bx2,bx3,bx4⟩:=bx.facts
 obtain ⟨br1,br2,br3,br4⟩:=br.facts
 go_region_held3 (fun w'=>w'.cell? ⟨w.heap.size,0,none⟩ = some (.bool ng)∧w'.cell? ⟨w.heap.size,1,none⟩ = some (.slice (some ⟨b,off,none⟩) xs.length c1)) (go_keep) (first
  | (go_at_call 129;refine (made_w _ _ _ _ xs _ (s1.below (by repeat (first | exact Below.refl _ _ | refine Below.drew ?_))) hx.val).mono ?_;rintro e w2 ⟨ng2,r2,rfl,G2,l2,hb2⟩;have hb2' : Below w1.heap.size w1 w2:=(show Below w1.heap.size w1 _ by repeat (first | exact Below.refl _ _ | refine Below.drew ?_)).trans hb2;have HB:=HB.trans (hb2'.mono HB.size);replace bx:=bx.below hb2';clear bx1 bx2 bx3 bx4;obtain ⟨bx1,bx2,bx3,bx4⟩:=bx.facts;replace br:=br.below hb2';clear br1 br2 br3 br4;obtain ⟨br1,br2,br3,br4⟩:=br.facts)
  | ((refine step_append_lies _ (by rfl) _ _ _ (by rfl) w0.heap.size 3 i0 _ 1 8 Tryz.underlying91 hi hz0 hz1 hz2 rfl (by omega) (.slice none 0 0) 0 [] (by rfl) (World.ownsRow_nil _ _ _ _) ⟨b,off,none⟩ xs.length c1 (xs.map (Value.int .i64)) (by rfl) (by simp) (Sl.copy (hx0.sl.below (by repeat (first | exact Below.refl _ _ | refine Below.drew ?_)))) (one_cells xs) (by omega) (by unfold maxLen;omega) (by omega) (by simp) w0.heap.size (by simp) ?_;intro g1 q1 w1 hown hgrow hat hlt;have hb1' : Below w0.heap.size w0 w1:=(show Below w0.heap.size w0 _ by repeat (first | exact Below.refl _ _ | refine Below.drew ?_)).grown hgrow (by simp) (by intro k hk;simp [Value.ownBlock] at hk);have HB:=HB.trans (hb1'.mono HB.size);have s1:=copied hown P3.out;replace bx:=bx.below hb1';clear bx1 bx2 bx3 bx4;obtain ⟨bx1,bx2,bx3,bx4⟩:=bx.facts;replace br:=br.below hb1';clear br1 br2 br3 br4;obtain ⟨br1,br2,br3,br4⟩:=br.facts)))
 all_goals
  have X:=hide (br.set ng2 (.slice (some ⟨g1,0,none⟩) r2.length q1)).facts
  have Y:=hide (br.wh ng2 (.slice (some ⟨g1,0,none⟩) r2.length q1) G2)
  have Z:=hide (below_set2 HB (show w.heap.size≤w.heap.size+1 by omega) (.bool ng2) (.slice (some ⟨g1,0,none⟩) r2.length q1))
  clear bx1 bx2 bx3 bx4
  go_wp2
  refine bodyPost_ret (v:=.agg #[.bool ng2,.slice (some ⟨g1,0,none⟩) r2.length q1]) ?_ rfl ⟨ng2,(some ⟨g1,0,none⟩),q1,r2,rfl,Y.out,by omega,Z.out⟩
  simp [results,Tryz.results102,go_sem,X.out.1,X.out.2.1]
theorem sl_nil (w:World):Sl w (.slice none ([]:List Int).length 0) []:=⟨none,0,rfl,Nat.le_refl _,by simp [maxLen],limb_nil,.inl rfl⟩
set_option maxRecDepth 20000 in
set_option maxHeartbeats 1000000 in
theorem minus_nonea (w:World) (ng:Bool) (c1:Nat) (_hc:c1≤9223372036854775807) :
  Calls Tryz.prog 102 #[.agg #[.bool ng,.slice none 0 c1]] w fun e w'=>∃ ng' ao cap rs,e=.returned (.agg #[.bool ng',.slice ao rs.length cap])∧Wh w' ng' ao cap rs (sg (!ng) 0)∧rs.length≤0∧Below w.heap.size w w' := by
 obtain ⟨w0,e0,bx,br,hb0,hs0⟩:=boxed1 w ng (.slice none 0 c1)
 have E0:=hide e0
 have HB:=hb0
 clear e0 hs0
 go_enter Tryz.func102,Tryz.ntmps102
 go_wp2_with fail
 rw [E0.out]
 obtain ⟨bx1,bx2,bx3,bx4⟩:=bx.facts
 obtain ⟨br1,br2,br3,br4⟩:=br.facts
 go_region_held3 (fun w'=>w'.cell? ⟨w.heap.size,0,none⟩ = some (.bool ng)∧w'.cell? ⟨w.heap.size,1,none⟩ = some (.slice none 0 c1)) (go_keep) (first
  | (go_at_call 129;refine (made_w _ _ none 0 [] 0 (sl_nil _) rfl).mono ?_;rintro e w2 ⟨ng2,r2,rfl,G2,l2,hb2⟩;have hb2' : Below w0.heap.size w0 w2:=(show Below w0.heap.size w0 _ by repeat (first | exact Below.refl _ _ | refine Below.drew ?_)).trans hb2;have HB:=HB.trans (hb2'.mono HB.size);replace bx:=bx.below hb2';clear bx1 bx2 bx3 bx4;obtain ⟨bx1,bx2,bx3,bx4⟩:=bx.facts;replace br:=br.below hb2';clear br1 br2 br3 br4;obtain ⟨br1,br2,br3,br4⟩:=br.facts))
 all_goals
  have X:=hide (br.set ng2 (.slice none r2.length 0)).facts
  have Y:=hide (br.wh ng2 (.slice none r2.length 0) G2)
  have Z:=hide (below_set2 HB (show w.heap.size≤w.heap.size+1 by omega) (.bool ng2) (.slice none r2.length 0))
  clear bx1 bx2 bx3 bx4
  go_wp2
  refine bodyPost_ret (v:=.agg #[.bool ng2,.slice none r2.length 0]) ?_ rfl ⟨ng2,none,0,r2,rfl,Y.out,by simpa using l2,Z.out⟩
  simp [results,Tryz.results102,go_sem,X.out.1,X.out.2.1]
set_option maxRecDepth 20000 in
set_option maxHeartbeats 1000000 in
theorem minus_noneb (w:World) (ng:Bool) (ad:Addr) (c1:Nat) (_hc:c1≤9223372036854775807) :
  Calls Tryz.prog 102 #[.agg #[.bool ng,.slice (some ad) 0 c1]] w fun e w'=>∃ ng' ao cap rs,e=.returned (.agg #[.bool ng',.slice ao rs.length cap])∧Wh w' ng' ao cap rs (sg (!ng) 0)∧rs.length≤0∧Below w.heap.size w w' := by
 obtain ⟨w0,e0,bx,br,hb0,hs0⟩:=boxed1 w ng (.slice (some ad) 0 c1)
 have E0:=hide e0
 have HB:=hb0
 clear e0 hs0
 go_enter Tryz.func102,Tryz.ntmps102
 go_wp2_with fail
 rw [E0.out]
 obtain ⟨bx1,bx2,bx3,bx4⟩:=bx.facts
 obtain ⟨br1,br2,br3,br4⟩:=br.facts
 go_region_held3 (fun w'=>w'.cell? ⟨w.heap.size,0,none⟩ = some (.bool ng)∧w'.cell? ⟨w.heap.size,1,none⟩ = some (.slice (some ad) 0 c1)) (go_keep) (first
  | (go_at_call 129;refine (made_w _ _ none 0 [] 0 (sl_nil _) rfl).mono ?_;rintro e w2 ⟨ng2,r2,rfl,G2,l2,hb2⟩;have hb2' : Below w0.heap.size w0 w2:=(show Below w0.heap.size w0 _ by repeat (first | exact Below.refl _ _ | refine Below.drew ?_)).trans hb2;have HB:=HB.trans (hb2'.mono HB.size);replace bx:=bx.below hb2';clear bx1 bx2 bx3 bx4;obtain ⟨bx1,bx2,bx3,bx4⟩:=bx.facts;replace br:=br.below hb2';clear br1 br2 br3 br4;obtain ⟨br1,br2,br3,br4⟩:=br.facts))
 all_goals
  have X:=hide (br.set ng2 (.slice none r2.length 0)).facts
  have Y:=hide (br.wh ng2 (.slice none r2.length 0) G2)
  have Z:=hide (below_set2 HB (show w.heap.size≤w.heap.size+1 by omega) (.bool ng2) (.slice none r2.length 0))
  clear bx1 bx2 bx3 bx4
  go_wp2
  refine bodyPost_ret (v:=.agg #[.bool ng2,.slice none r2.length 0]) ?_ rfl ⟨ng2,none,0,r2,rfl,Y.out,by simpa using l2,Z.out⟩
  simp [results,Tryz.results102,go_sem,X.out.1,X.out.2.1]
theorem minus_got (w:World) (ng:Bool) (a1:Option Addr) (c1:Nat) (xs:List Int) (x:Int) (hx:Got w a1 c1 xs x) (m1:xs.length≤1000000) :
  Calls Tryz.prog 102 #[.agg #[.bool ng,.slice a1 xs.length c1]] w fun e w'=>∃ ng' ao cap rs,e=.returned (.agg #[.bool ng',.slice ao rs.length cap])∧Wh w' ng' ao cap rs (sg (!ng) x)∧rs.length≤xs.length∧Below w.heap.size w w' := by
 by_cases h0:0<xs.length
 ·exact minus_some w ng a1 c1 xs x hx m1 h0
 ·have e:xs = []:=List.eq_nil_of_length_eq_zero (by omega)
  have hx0:x=0:=by rw [←hx.val,e];rfl
  have hc:=hx.sl.parts.2.2.1
  rw [hx0,e]
  cases a1 with
  | none=>exact minus_nonea w ng c1 hc
  | some ad=>exact minus_noneb w ng ad c1 hc
theorem minus_g (w:World) (n1:Bool) (a1:Option Addr) (c1:Nat) (xs:List Int) (x:Int) (hx:Wh w n1 a1 c1 xs x) (m1:xs.length≤1000000) :
  Calls Tryz.prog 102 #[.agg #[.bool n1,.slice a1 xs.length c1]] w fun e w'=>∃ ng' ao cap rs,e=.returned (.agg #[.bool ng',.slice ao rs.length cap])∧Wh w' ng' ao cap rs (-x)∧rs.length≤xs.length∧Below w.heap.size w w' := by
 have wx:=hx.worth
 rw [hx.1.val] at wx
 rw [show -x=sg (!n1) (x.natAbs:Int) by rw [sg_neg,wx]]
 exact minus_got w n1 a1 c1 xs _ hx.1 m1
end Dm
end Go.Proofs.YtaofpigilgapgaaGreatDoor

namespace Go.Proofs.YtaofpigilgapgaaGreatDoor
namespace Dm
open Go.RowKit
open Lm (hide lt_of_cell lt_of_heap)
theorem sg_eq (ng:Bool) (x:Int):sg ng x=Lm.sg ng x:=by cases ng <;> simp [sg,Lm.sg]
theorem Wh.nats {w:World} {ao:Option Addr} {cap:Nat} {rs:List Int} {x:Int} (h:Got w ao cap rs x):Wh w false ao cap rs x:=by
 have:=Wh.of false h
 simpa [sg] using this
set_option maxRecDepth 20000 in
set_option maxHeartbeats 1000000 in
theorem nof_g (w:World) (ng:Bool) (a1:Option Addr) (n1 c1:Nat) (xs:List Int) (hx:Lm.Sl w (.slice a1 n1 c1) xs) (m1:xs.length≤100000) :
  Calls Tryz.prog 84 #[.agg #[.bool ng,.slice a1 n1 c1]] w fun e w'=>∃ ng' ao cap rs,e=.returned (.agg #[.bool ng',.slice ao rs.length cap])∧Wh w' ng' ao cap rs (Lm.sg ng (Lm.val xs))∧rs.length≤3*xs.length∧Below w.heap.size w w' := by
 obtain ⟨w1,e1,bx,hb1,hs1⟩:=Lm.boxed0 w ng (.slice a1 n1 c1)
 obtain ⟨w2,e2,br,hb2,hs2⟩:=boxed0 w1 false (.slice none 0 0)
 have E1:=hide e1
 have E2:=hide e2
 have HB:=hb1.trans (hb2.mono hb1.size)
 replace bx:=bx.below hb2
 rw [hs1] at br
 have hx2:=hx.below HB
 have HS:w2.heap.size=w.heap.size+2:=by omega
 rw [←sg_eq]
 clear e1 e2 hb1 hb2 hs1 hs2
 cases ng with
 | false =>
  go_enter Tryz.func84,Tryz.ntmps84
  go_upto_region 1 with fail
  rw [E1.out,E2.out]
  obtain ⟨bx1,bx2,bx3,bx4⟩:=bx.facts
  go_wp2_with fail
  refine (fromLimbs_any _ _ _ _ xs hx2 (by omega)).mono ?_
  rintro e w3 ⟨p3,q3,D3,rfl,G3,d3,hb3⟩
  obtain ⟨w4,e4,bn,hb4,hs4⟩:=boxed0 w3 false (.slice p3 D3.length q3)
  have E4:=hide e4
  have z3:=hb3.size
  replace HB:=(HB.trans (hb3.mono HB.size)).trans (hb4.mono (Nat.le_trans HB.size z3))
  replace bx:=(bx.below hb3).below hb4
  replace br:=(br.below hb3).below hb4
  replace G3:=G3.below hb4
  clear e4 hb3 hb4 bx1 bx2 bx3 bx4
  go_upto_region 2 with fail
  rw [E4.out]
  obtain ⟨bx1,bx2,bx3,bx4⟩:=bx.facts
  obtain ⟨br1,br2,br3,br4⟩:=br.facts
  obtain ⟨bn1,bn2,bn3,bn4⟩:=bn.facts
  have F:=hide (br.set false (.slice p3 D3.length q3)).facts
  have Y:=hide (br.wh false (.slice p3 D3.length q3) (Wh.nats G3))
  have Z:=hide (below_set2 HB (show w.heap.size≤w.heap.size+1 by omega) (.bool false) (.slice p3 D3.length q3))
  go_wp2
  refine bodyPost_ret (v:=.agg #[.bool false,.slice p3 D3.length q3]) ?_ rfl ⟨false,p3,q3,D3,rfl,Y.out,by omega,Z.out⟩
  simp [results,Tryz.results84,go_sem,F.out.1,F.out.2.1]
 | true =>
  go_enter Tryz.func84,Tryz.ntmps84
  go_upto_region 1 with fail
  rw [E1.out,E2.out]
  obtain ⟨bx1,bx2,bx3,bx4⟩:=bx.facts
  go_wp2_with fail
  refine (fromLimbs_any _ _ _ _ xs hx2 (by omega)).mono ?_
  rintro e w3 ⟨p3,q3,D3,rfl,G3,d3,hb3⟩
  obtain ⟨w4,e4,bn,hb4,hs4⟩:=boxed0 w3 false (.slice p3 D3.length q3)
  have E4:=hide e4
  have z3:=hb3.size
  replace HB:=(HB.trans (hb3.mono HB.size)).trans (hb4.mono (Nat.le_trans HB.size z3))
  replace bx:=(bx.below hb3).below hb4
  replace br:=(br.below hb3).below hb4
  replace G3:=G3.below hb4
  clear e4 hb3 hb4 bx1 bx2 bx3 bx4
  go_upto_region 2 with fail
  rw [E4.out]
  obtain ⟨bx1,bx2,bx3,bx4⟩:=bx.facts
  obtain ⟨bn1,bn2,bn3,bn4⟩:=bn.facts
  go_wp2_with fail
  refine (minus_got _ _ _ _ D3 _ G3 (by omega)).mono ?_
  rintro e w5 ⟨n5,p5,q5,D5,rfl,G5,d5,hb5⟩
  replace HB:=HB.trans (hb5.mono HB.size)
  replace br:=br.below hb5
  clear bx1 bx2 bx3 bx4 bn1 bn2 bn3 bn4 hb5
  obtain ⟨br1,br2,br3,br4⟩:=br.facts
  have F:=hide (br.set n5 (.slice p5 D5.length q5)).facts
  have Y:=hide (br.wh n5 (.slice p5 D5.length q5) G5)
  have Z:=hide (below_set2 HB (show w.heap.size≤w.heap.size+1 by omega) (.bool n5) (.slice p5 D5.length q5))
  go_wp2
  refine bodyPost_ret (v:=.agg #[.bool n5,.slice p5 D5.length q5]) ?_ rfl ⟨n5,p5,q5,D5,rfl,Y.out,by omega,Z.out⟩
  simp [results,Tryz.results84,go_sem,F.out.1,F.out.2.1]
theorem nof_z (w:World) (ng:Bool) (a1:Option Addr) (n1 c1:Nat) (xs:List Int) (x:Int) (hx:Lm.Ag w ng a1 n1 c1 xs x) (m1:xs.length≤100000) :
  Calls Tryz.prog 84 #[.agg #[.bool ng,.slice a1 n1 c1]] w fun e w'=>∃ ng' ao cap rs,e=.returned (.agg #[.bool ng',.slice ao rs.length cap])∧Wh w' ng' ao cap rs x∧rs.length≤3*xs.length∧Below w.heap.size w w' := by
 have h:=nof_g w ng a1 n1 c1 xs hx.sl m1
 rw [hx.worth] at h
 exact h
structure WFr (B T:Nat) (w:World) (ng:Bool) (ao:Option Addr) (cap:Nat) (rs:List Int) (z:Int):Prop where
 fr:Lm.Fr B T w ao cap rs (z.natAbs:Int)
 sgn:ng=decide (z<0)
theorem WFr.wh {B T:Nat} {w:World} {ng:Bool} {ao:Option Addr} {cap:Nat} {rs:List Int} {z:Int} (h:WFr B T w ng ao cap rs z):Lm.Wh w ng ao cap rs z:=⟨h.fr.got,h.sgn⟩
theorem WFr.kept {B T:Nat} {w w' : World} {ng:Bool} {ao:Option Addr} {cap:Nat} {rs:List Int} {z:Int} (h:WFr B T w ng ao cap rs z) (hk:∀ g,g<w.heap.size→B≤g→g<T→w'.heap[g]? = w.heap[g]?):WFr B T w' ng ao cap rs z:=⟨h.fr.kept hk,h.sgn⟩
theorem WFr.kp {B T p:Nat} {bs:List Nat} {w w' : World} {ng:Bool} {ao:Option Addr} {cap:Nat} {rs:List Int} {z:Int} (h:WFr B T w ng ao cap rs z) (k:Lm.Kp w w' p bs) (hp:p<B∨T≤p) (hb:∀ j,j ∈ bs→j<B∨T≤j):WFr B T w' ng ao cap rs z:=⟨h.fr.kp k hp hb,h.sgn⟩
theorem WFr.wide {B B' T T' : Nat} {w:World} {ng:Bool} {ao:Option Addr} {cap:Nat} {rs:List Int} {z:Int} (h:WFr B T w ng ao cap rs z) (hB:B'≤B) (hT:T≤T'):WFr B' T' w ng ao cap rs z :=
 ⟨⟨h.fr.ow.mono hB,h.fr.canon,h.fr.val,fun h0 g off e=>by have:=h.fr.lies h0 g off e;omega⟩,h.sgn⟩
theorem set2_kept {w:World} {k:Nat} (b u:Value) {g:Nat} (h:g≠k):((w.setCell ⟨k,0,none⟩ b).setCell ⟨k,1,none⟩ u).heap[g]? = w.heap[g]? := by
 rw [heap_setCell_other _ ⟨k,1,none⟩ g _ h,heap_setCell_other _ ⟨k,0,none⟩ g _ h]
set_option maxRecDepth 20000 in
set_option maxHeartbeats 1000000 in
theorem told_g (w:World) (ng:Bool) (ao:Option Addr) (cap:Nat) (rs:List Int) (z:Int) (h:Wh w ng ao cap rs z) (M:Nat) (hz:(z.natAbs:Int)<Lm.pw M) (hM:M≤1000000) (hl:rs.length≤1000000) :
  Calls Tryz.prog 75 #[.agg #[.bool ng,.slice ao rs.length cap]] w fun e w'=>∃ bo dap ls,e=.returned (.agg #[.bool ng,.slice bo ls.length dap])∧WFr w.heap.size w'.heap.size w' ng bo dap ls z∧ls.length≤M∧Below w.heap.size w w' := by
 obtain ⟨w1,e1,bx,hb1,hs1⟩:=boxed0 w ng (.slice ao rs.length cap)
 obtain ⟨w2,e2,br,hb2,hs2⟩:=Lm.boxed0 w1 false (.slice none 0 0)
 have E1:=hide e1
 have E2:=hide e2
 have HB:=hb1.trans (hb2.mono hb1.size)
 replace bx:=bx.below hb2
 rw [hs1] at br
 have h2:=h.below HB
 have HS:w2.heap.size=w.heap.size+2:=by omega
 have HSG:=hide h.2
 have HZ:=hide hz
 have ne1:¬ (w.heap.size=w.heap.size+1):=by omega
 have ne2:¬ (w.heap.size+1=w.heap.size):=by omega
 clear e1 e2 hb1 hb2 hs1 hs2 hz
 go_enter Tryz.func75,Tryz.ntmps75
 go_upto_region 1 with fail
 rw [E1.out,E2.out]
 obtain ⟨bx1,bx2,bx3,bx4⟩:=bx.facts
 obtain ⟨br1,br2,br3,br4⟩:=br.facts
 go_region_held3 (fun w'=>w'.cell? ⟨w.heap.size,0,none⟩ = some (.bool ng)∧w'.cell? ⟨w.heap.size,1,none⟩ = some (.slice ao rs.length cap)) (go_keep) (first
  | (go_at_call 122;refine (limbs_any _ _ _ _ rs _ (h2.1.below (by repeat (first | exact Below.refl _ _ | refine Below.drew ?_))) M HZ.out hM hl).mono ?_;rintro e w1' ⟨v1,rfl,I1,hb1⟩;have hb1' : Below w2.heap.size w2 w1' := (show Below w2.heap.size w2 _ by repeat (first | exact Below.refl _ _ | refine Below.drew ?_)).trans hb1;obtain ⟨p1,q1,r1,rfl,F1⟩:=I1.fr;clear I1;replace bx:=bx.below hb1';clear bx1 bx2 bx3 bx4;obtain ⟨bx1,bx2,bx3,bx4⟩:=bx.facts;replace br:=br.below hb1';clear br1 br2 br3 br4;obtain ⟨br1,br2,br3,br4⟩:=br.facts))
 all_goals
  have HB2:=HB.trans (hb1'.mono HB.size)
  have F:=hide (br.set ng (.slice p1 r1.length q1)).facts
  have hkk:=lt_of_heap br
  have Y:=hide (show WFr w2.heap.size w1'.heap.size _ ng p1 q1 r1 z from (WFr.kept (w:=w1') ⟨F1,HSG.out⟩ (fun g _ hg _=>set2_kept (.bool ng) (.slice p1 r1.length q1) (show g≠w.heap.size+1 by omega))))
  have Z:=hide (below_set2 HB2 (show w.heap.size≤w.heap.size+1 by omega) (.bool ng) (.slice p1 r1.length q1))
  have LL:=hide (Lm.canon_len F1.canon (m:=M) (by rw [F1.val];exact HZ.out))
  clear bx1 bx2 bx3 bx4
  go_wp2
  refine bodyPost_ret (v:=.agg #[.bool ng,.slice p1 r1.length q1]) ?_ rfl ⟨p1,q1,r1,rfl,Y.out.wide (by omega) (by simp [World.setCell]),LL.out,Z.out⟩
  simp [results,Tryz.results75,go_sem,F.out.1,F.out.2.1]
end Dm
end Go.Proofs.YtaofpigilgapgaaGreatDoor

namespace Go.Proofs.YtaofpigilgapgaaGreatDoor
namespace Lm
open Go.RowKit
theorem owns_cell {w:World} {B e n:Nat} {a:Option Addr} {c:Nat} {xs:List Value} (h:w.ownsRow B e 1 (.slice a n c) n xs) {i:Nat} (hi:i<n):∃ g u,a=some ⟨g,0,none⟩∧xs[i]? = some u∧w.cell? ⟨g,i,none⟩ = some u:=by
 have hl:=h.1
 rcases h.2 with ⟨e,rfl⟩ | ⟨g,cap,cur,e,_,hh,h1,h2,hs,ht⟩
 ·omega
 ·simp only [Value.slice.injEq] at e
  obtain ⟨rfl,_,rfl⟩:=e
  have hx:xs[i]? = some (xs[i]'(by omega)):=List.getElem?_eq_getElem (by omega)
  refine ⟨g,_,rfl,hx,?_⟩
  rw [cell_of_row w g i cur _ (0,0) hh,←Array.getElem?_toList,←hx,←ht,List.getElem?_take,if_pos (by omega)]
set_option maxRecDepth 20000 in
set_option maxHeartbeats 1000000 in
theorem done_any (w:World) (p Q:Nat) (bs:List Nat) (rv:List Value) (lv mv:Value) (hk:Bk w p Q bs rv rv.length lv mv) (_hr:rv.length≤1000) :
  Calls Tryz.prog 25 #[.pointer (some ⟨p,0,none⟩)] w fun e w'=>e=.returned (.bool true)∧Below w.heap.size w w' := by
 obtain ⟨al,cl,rfl,al1,al2⟩:=owns_shape hk.lists
 obtain ⟨am,cm,rfl,am1,am2⟩:=owns_shape hk.marks
 go_enter Tryz.func25,Tryz.ntmps25
 go_wp2
 go_loopw [3] (fun iv wr=>∃ i:Nat,i≤rv.length∧iv=.int .i64 i∧Below w.heap.size w wr) (fun iv _=>rv.length - (intOf iv).toNat)
 case atStart=>exact ⟨0,Nat.zero_le _,rfl,Below.refl _ _⟩
 case round =>
  obtain ⟨i,hi,rfl,hbel⟩:=hrel
  obtain ⟨k0,k1,k2,k3⟩:=(hk.below hbel).facts
  by_cases hlt:i<rv.length
  ·have dI:(i:Int)<(rv.length:Int):=by omega
   have HBL:=hide hbel
   clear hbel
   go_wp2
   clear k0 k1 k2 k3
   obtain ⟨g1,u,rfl,hu,hc1⟩:=owns_cell hk.lists hlt
   obtain ⟨g2,u2,rfl,hu2,hc2⟩:=owns_cell hk.marks hlt
   rw [bmks_get hlt] at hu2
   simp only [Option.some.injEq] at hu2
   subst hu2
   obtain ⟨ao,n,cap,rfl,n1,n2,n3,n4⟩:=hk.rooms i u hu
   have C1:=hide hc1
   have C2:=hide hc2
   have N4:=hide n4
   clear hc1 hc2 n4 hu
   go_loopw [4] (fun kv wr=>∃ k:Nat,k≤n∧kv=.int .i64 k∧Below w.heap.size w wr) (fun kv _=>n - (intOf kv).toNat)
   case atStart=>exact ⟨0,Nat.zero_le _,rfl,HBL.out⟩
   case round =>
    clear HBL
    obtain ⟨k,hkn,rfl,hbel⟩:=hrel
    obtain ⟨k0,k1,k2,k3⟩:=(hk.below hbel).facts
    have c1:=(hbel.cell (p:=⟨g1,i,none⟩) (lt_of_cell C1.out)).trans C1.out
    have c2:=(hbel.cell (p:=⟨g2,i,none⟩) (lt_of_cell C2.out)).trans C2.out
    by_cases hlt2:k<n
    ·have dK:(k:Int)<(n:Int):=by omega
     rcases N4.out with h0 | ⟨g,off,rfl,_,_,_,hc⟩
     ·omega
     have c3:=(hbel.cell (p:=⟨g,off+k,none⟩) (lt_of_cell (hc k hlt2))).trans (hc k hlt2)
     clear hc N4
     simp only [bmk] at c2 c3
     go_wp2
     go_quiet (fail)
     go_wp2
     go_roundw
     case rel=>exact ⟨k+1,by omega,by go_num,below_drewN hbel _⟩
     case measure=>simp [intOf];omega
    ·have dK:¬ (k:Int)<(n:Int):=by omega
     go_wp2
     go_roundw
     case rel=>exact ⟨i+1,by omega,by go_num,hbel⟩
     case measure=>simp [intOf];omega
  ·have dI:¬ (i:Int)<(rv.length:Int):=by omega
   go_wp2
   go_ret
   exact ⟨rfl,hbel⟩
theorem done_b (w:World) (p Q n:Nat) (bs:List Nat) (hb:Bs w p Q bs n) (hn:n≤1000) :
  Calls Tryz.prog 25 #[.pointer (some ⟨p,0,none⟩)] w fun e w'=>e=.returned (.bool true)∧Below w.heap.size w w' := by
 obtain ⟨rv,lv,mv,rfl,hk⟩:=hb
 exact done_any w p Q bs rv lv mv hk hn
end Lm
end Go.Proofs.YtaofpigilgapgaaGreatDoor

namespace Go.Proofs.YtaofpigilgapgaaGreatDoor
namespace Lm
open Go.RowKit
def IsLen (x:Int) (n:Nat):Prop:=∃ rs,Canon rs∧val rs=x∧rs.length=n
theorem isLen_one {x:Int} {m n:Nat} (h:IsLen x m) (h' : IsLen x n):m=n:=by
 obtain ⟨rs,c,v,rfl⟩:=h
 obtain ⟨ss,c',v',rfl⟩:=h'
 rw [canon_one c c' (by rw [v,v'])]
theorem isLen_bits {x:Int} {k n:Nat} (h:IsLen x n) (hb:IsBits x k):(k+31) / 32=n:=by
 obtain ⟨rs,c,v,rfl⟩:=h
 have hu:=(val_bounds c.1).2
 rw [v,pw_p2] at hu
 by_cases h0:rs.length=0
 ·have e:rs = []:=List.eq_nil_of_length_eq_zero h0
  subst e
  have:x=0:=by rw [←v];rfl
  subst this
  rw [isBits_zero hb]
  rfl
 ·have hlow:pw (rs.length - 1)≤x:=by
   apply Classical.byContradiction
   intro hn
   have:=canon_len c (m:=rs.length - 1) (by rw [v];omega)
   omega
  rw [pw_p2] at hlow
  have h1:32*(rs.length - 1)<k:=by
   apply Classical.byContradiction
   intro hn
   have:=p2_mono (m:=k) (n:=32*(rs.length - 1)) (by omega)
   have:=hb.1
   omega
  have h2:k≤32*rs.length:=by
   rcases hb.2 with h | h
   ·omega
   ·apply Classical.byContradiction
    intro hn
    have:=p2_mono (m:=32*rs.length) (n:=k - 1) (by omega)
    omega
  omega
set_option maxRecDepth 20000 in
set_option maxHeartbeats 400000 in
theorem wlimbs_any (w:World) (ng:Bool) (ao:Option Addr) (n cap:Nat) (zs:List Int) (h:Sl w (.slice ao n cap) zs) (hz:zs.length≤1000000) (m:Nat) (hm:IsLen (val zs) m) :
  Calls Tryz.prog 61 #[.agg #[.bool ng,.slice ao n cap]] w fun e w'=>e=.returned (.int .i64 m)∧Below w.heap.size w w' := by
 obtain ⟨w0,e0,bx,hb0,hs0⟩:=boxed0 w ng (.slice ao n cap)
 have E0:=hide e0
 have h0:=h.below hb0
 have hu:=(val_bounds h.parts.2.2.2).2
 clear e0 hs0
 go_enter Tryz.func61,Tryz.ntmps61
 go_wp2_with fail
 rw [E0.out]
 obtain ⟨c0,c1,f0,f1⟩:=bx.facts
 refine (bits_any _ _ _ _ zs h0 hz).mono ?_
 rintro e w1 ⟨l,rfl,t,rfl⟩
 have hl:=isLen_bits hm t
 have hle:l≤32000000:=by
  rcases t.2 with h | h
  ·omega
  ·apply Classical.byContradiction
   intro hn
   rw [pw_p2] at hu
   have:=p2_mono (m:=32*zs.length) (n:=l - 1) (by omega)
   omega
 have HL:=hide hl
 clear t hl hm hu
 go_wp2
 go_ret
 have hl:=HL.out
 exact ⟨ret_i64 (by omega),hb0⟩
end Lm
end Go.Proofs.YtaofpigilgapgaaGreatDoor

namespace Go.Proofs.YtaofpigilgapgaaGreatDoor
namespace Lm
open Go Go.RowKit
open Dm (WFr)
theorem Ag.ru {w w' : World} {ng:Bool} {ao:Option Addr} {n cap:Nat} {xs:List Int} {z:Int} (h:Ag w ng ao n cap xs z) (hr:Ru w w'):Ag w' ng ao n cap xs z:=⟨h.sl.ru hr,h.worth⟩
theorem Got.ru {w w' : World} {ao:Option Addr} {cap:Nat} {rs:List Int} {x:Int} (h:Got w ao cap rs x) (hr:Ru w w'):Got w' ao cap rs x:=⟨h.1.ru hr,h.2⟩
theorem Wh.ru {w w' : World} {ng:Bool} {ao:Option Addr} {cap:Nat} {rs:List Int} {z:Int} (h:Wh w ng ao cap rs z) (hr:Ru w w'):Wh w' ng ao cap rs z:=⟨Got.ru h.1 hr,h.2⟩
theorem Ow.ru {B:Nat} {w w' : World} {v:Value} {zs:List Int} (h:Ow B w v zs) (hr:Ru w w'):Ow B w' v zs:=by
 obtain ⟨ao,cap,rfl,h1,h2,h3,h4⟩:=h
 refine ⟨ao,cap,rfl,h1,h2,h3,?_⟩
 rcases h4 with h4 | ⟨g,off,cur,rfl,hB,hh,r⟩
 ·exact .inl h4
 ·exact .inr ⟨g,off,cur,rfl,hB,hr.rows g cur hh,r⟩
theorem Fr.ru {B T:Nat} {w w' : World} {ao:Option Addr} {cap:Nat} {rs:List Int} {x:Int} (h:Fr B T w ao cap rs x) (hr:Ru w w'):Fr B T w' ao cap rs x:=⟨h.ow.ru hr,h.canon,h.val,h.lies⟩
theorem _root_.Go.Proofs.YtaofpigilgapgaaGreatDoor.Dm.WFr.ru {B T:Nat} {w w' : World} {ng:Bool} {ao:Option Addr} {cap:Nat} {rs:List Int} {z:Int} (h:WFr B T w ng ao cap rs z) (hr:Ru w w'):WFr B T w' ng ao cap rs z:=⟨h.fr.ru hr,h.sgn⟩
theorem IsW.mono5 (z:Int) (L:Nat):Mono5 (IsW z L):=fun _ _ _ hb ⟨ng,ao,n,cap,xs,e,h,l⟩=>⟨ng,ao,n,cap,xs,e,h.ru hb,l⟩
theorem OutW.mono5 (z:Int) (L:Nat):Mono5 (OutW z L):=fun _ _ _ hb ⟨ng,ao,cap,rs,e,h,l⟩=>⟨ng,ao,cap,rs,e,h.ru hb,l⟩
theorem IsR.mono5 (p q:Int) (L:Nat):Mono5 (IsR p q L):=fun _ _ _ hr ⟨ng,ao,n,cap,xs,bo,m,dap,ys,e,h1,h2,h3,l1,l2⟩=>⟨ng,ao,n,cap,xs,bo,m,dap,ys,e,h1.ru hr,h2.ru hr,h3,l1,l2⟩
theorem OutR.mono5 (p q:Int) (L:Nat):Mono5 (OutR p q L):=fun _ _ _ hr ⟨ng,ao,cap,rs,bo,dap,ss,e,h1,h2,l1,l2⟩=>⟨ng,ao,cap,rs,bo,dap,ss,e,h1.ru hr,h2.ru hr,l1,l2⟩
def FrW (K:Nat) (z:Int) (L:Nat):Says:=fun v w=>∃ ng ao cap rs B T,v=.agg #[.bool ng,.slice ao rs.length cap]∧WFr B T w ng ao cap rs z∧K≤B∧T≤w.heap.size∧rs.length≤L
theorem FrW.mono5 (K:Nat) (z:Int) (L:Nat):Mono5 (FrW K z L):=fun _ _ _ hr ⟨ng,ao,cap,rs,B,T,e,h,h1,h2,l⟩=>⟨ng,ao,cap,rs,B,T,e,h.ru hr,h1,Nat.le_trans h2 hr.size,l⟩
theorem FrW.out {z:Int} {L K:Nat} {v:Value} {w:World} : FrW K z L v w→OutW z L v w:=fun ⟨ng,ao,cap,rs,_,_,e,h,_,_,l⟩=>⟨ng,ao,cap,rs,e,h.wh,l⟩
section
end
section
variable {dst:Option Tmp} {ty:TypeId} {pos:String} {after:Array Edge} {guard:Option (Nat × Bool)} {a:Act} {w:World} {ats:Array TypeId} {i j:Nat} {x y z u:Int} {L L1 L2:Nat}
theorem op_eqlbs {b:Bool} (h1:a.eval (.tmp i)=.bool b) (h2:a.eval (.tmp j)=.bool b) :
  Does Tryz.prog { dst,op:=.binOp .eql 4 (.tmp i) (.tmp j) 4,type:=ty,pos,after,guard } a.eval w fun v' w'=>Below w.heap.size w w'∧Eqs (.bool true) v' w' := by
 have:=op_eqlb (dst:=dst) (ty:=ty) (pos:=pos) (after:=after) (guard:=guard) (w:=w) h1 h2
 rwa [beq_self_eq_true] at this
end
section
end
theorem isLen_ex {ng:Bool} {ao:Option Addr} {n c:Nat} {w:World} {xs:List Int} {z:Int} (h:Ag w ng ao n c xs z):∃ m,IsLen (z.natAbs:Int) m:=by
 have hv:=(val_bounds h.sl.parts.2.2.2).1
 refine ⟨_,xs.take (tl xs),canon_trim h.sl.parts.2.2.2,?_,rfl⟩
 rw [val_take_tl,←h.worth]
 cases ng <;> simp [sg] <;> omega
end Lm
end Go.Proofs.YtaofpigilgapgaaGreatDoor

namespace Go.Proofs.YtaofpigilgapgaaGreatDoor
namespace Lm
open Go.RowKit
set_option maxRecDepth 20000 in
set_option maxHeartbeats 1000000 in
theorem wdivmod_poso (w:World) (a1:Option Addr) (n1 c1:Nat) (xs:List Int) (hx:Sl w (.slice a1 n1 c1) xs) (ny:Bool) (a2:Option Addr) (n2 c2:Nat) (ys:List Int) (hy:Sl w (.slice a2 n2 c2) ys) (hm1:xs.length≤400000) (hm2:ys.length≤400000) (h0:val ys≠0) :
  Calls Tryz.prog 143 #[.agg #[.bool false,.slice a1 n1 c1],.agg #[.bool ny,.slice a2 n2 c2]] w fun e w'=>∃ nq aq cq qs nr ar cr rs B1 T1 B2 T2,e=.returned (.tuple #[.agg #[.bool nq,.slice aq qs.length cq],.agg #[.bool nr,.slice ar rs.length cr],.bool true])∧Wh w' nq aq cq qs (sg false (val xs) / sg ny (val ys))∧Wh w' nr ar cr rs (sg false (val xs) % sg ny (val ys))∧qs.length≤xs.length+4∧rs.length≤ys.length∧Li B1 T1 w' aq cq qs∧Li B2 T2 w' ar cr rs∧(w.heap.size≤B1∧T1≤w'.heap.size∧w.heap.size≤B2∧T2≤w'.heap.size∧∀ j,B1≤j→j<T1→j<B2∨T2≤j)∧Below w.heap.size w w' := by
 obtain ⟨w0,e0,bx,by',bq,br,hb0,hs0⟩:=boxed4 w false (.slice a1 n1 c1) ny (.slice a2 n2 c2)
 have E0:=hide e0
 have hx0:=hx.below hb0
 have hy0:=hy.below hb0
 have HS0:=hide hs0
 clear e0 hs0
 have PY:Hid (0<val ys):=by have:=(val_bounds hy.parts.2.2.2).1;show _<_;omega
 have LY:=hide hy.parts.2.2.2
 have H0:=hide h0
 clear h0
 go_enter Tryz.func143,Tryz.ntmps143
 go_wp2_with fail
 rw [E0.out]
 refine (divmod_o _ _ _ _ _ _ _ xs ys hx0 hy0 (by omega) H0.out).mono ?_
 rintro e w1 ⟨p1,q1,r1,p2,q2,r2,B1,T1,B2,T2,rfl,G1,G2,l1,l2,o1,o2,oo,hb1⟩
 have HB:Below w0.heap.size w0 w1:=hb1
 obtain ⟨xa,xb,xc,xd⟩:=(bx.below HB).facts
 obtain ⟨ya,yb,yc,yd⟩:=(by'.below HB).facts
 go_wp2_with fail
 refine (signed_g _ _ _ _ r1 _ G1 (by omega)).mono ?_
 rintro e w7 ⟨ng7,rfl,G7,hb7⟩
 replace HB:=HB.trans (hb7.mono HB.size)
 have G2' := G2.below hb7
 clear xa xb xc xd ya yb yc yd
 obtain ⟨xa,xb,xc,xd⟩:=(bx.below HB).facts
 obtain ⟨ya,yb,yc,yd⟩:=(by'.below HB).facts
 go_wp2_with fail
 refine (signed_g _ _ _ _ r2 _ G2' (by omega)).mono ?_
 rintro e w8 ⟨ng8,rfl,G8,hb8⟩
 replace HB:=HB.trans (hb8.mono HB.size)
 replace G7:=G7.below hb8
 clear xa xb xc xd ya yb yc yd
 have bq8:=bq.below HB
 have br8:=br.below HB
 obtain ⟨qa,qb,qc,qd⟩:=bq8.facts
 obtain ⟨ra,rb,rc,rd⟩:=br8.facts
 have VQ:Hid (sg ny (val xs / val ys)=sg false (val xs) / sg ny (val ys)∧sg false (val xs % val ys)=sg false (val xs) % sg ny (val ys)):=by have h:=wdiv_pos ny (val xs) (val ys);rwa [show (false != ny)=ny by cases ny <;> rfl] at h
 have Y1:=hide ((br8.other (show w.heap.size+1+1+1≠w.heap.size+1+1 by omega) (.bool ng7) (.slice p1 r1.length q1)).wh ng8 (.slice p2 r2.length q2) (bq8.wh ng7 (.slice p1 r1.length q1) G7))
 have Y2:=hide ((br8.other (show w.heap.size+1+1+1≠w.heap.size+1+1 by omega) (.bool ng7) (.slice p1 r1.length q1)).wh ng8 (.slice p2 r2.length q2) (bq8.wh ng7 (.slice p1 r1.length q1) G8))
 have F:=hide (box_two (nq:=ng7) (vq:=.slice p1 r1.length q1) (nr:=ng8) (vr:=.slice p2 r2.length q2) bq8 br8 (by omega))
 have Z:=hide (hb0.trans (HB.mono hb0.size))
 have Z2:=hide (below_set2 (below_set2 Z.out (show w.heap.size≤w.heap.size+1+1 by omega) (.bool ng7) (.slice p1 r1.length q1)) (show w.heap.size≤w.heap.size+1+1+1 by omega) (.bool ng8) (.slice p2 r2.length q2))
 have hs9:=HS0.out
 have s_hb1:=hb1.size
 have s_hb7:=hb7.size
 have s_hb8:=hb8.size
 obtain ⟨oo1,oo2,oo3,oo4,oo5⟩:=oo
 have O1:=hide ((((o1.below hb7).below hb8).set2 (w.heap.size+1+1) (by omega) (.bool ng7) (.slice p1 r1.length q1)).set2 (w.heap.size+1+1+1) (by omega) (.bool ng8) (.slice p2 r2.length q2))
 have O2:=hide ((((o2.below hb7).below hb8).set2 (w.heap.size+1+1) (by omega) (.bool ng7) (.slice p1 r1.length q1)).set2 (w.heap.size+1+1+1) (by omega) (.bool ng8) (.slice p2 r2.length q2))
 have hsz:((((w8.setCell ⟨w.heap.size+1+1,0,none⟩ (.bool ng7)).setCell ⟨w.heap.size+1+1,1,none⟩ (.slice p1 r1.length q1)).setCell ⟨w.heap.size+1+1+1,0,none⟩ (.bool ng8)).setCell ⟨w.heap.size+1+1+1,1,none⟩ (.slice p2 r2.length q2)).heap.size=w8.heap.size:=by simp [World.setCell]
 have OO:Hid (B1 ≥ w.heap.size∧T1≤w8.heap.size∧B2 ≥ w.heap.size∧T2≤w8.heap.size∧∀ j,B1≤j→j<T1→j<B2∨T2≤j):=⟨by omega,by omega,by omega,by omega,oo5⟩
 rw [←hsz] at OO
 clear hsz
 go_wp2
 refine bodyPost_ret (v:=.tuple #[.agg #[.bool ng7,.slice p1 r1.length q1],.agg #[.bool ng8,.slice p2 r2.length q2],.bool true]) ?_ rfl ⟨ng7,p1,q1,r1,ng8,p2,q2,r2,B1,T1,B2,T2,rfl,by rw [←VQ.out.1];exact Y1.out,by rw [←VQ.out.2];exact Y2.out,by omega,by omega,O1.out,O2.out,OO.out,Z2.out⟩
 simp [results,Tryz.results143,go_sem,F.out.1.facts.1,F.out.1.facts.2.1,F.out.2.facts.1,F.out.2.facts.2.1]
set_option maxRecDepth 20000 in
set_option maxHeartbeats 1000000 in
theorem wdivmod_eveno (w:World) (a1:Option Addr) (n1 c1:Nat) (xs:List Int) (hx:Sl w (.slice a1 n1 c1) xs) (ny:Bool) (a2:Option Addr) (n2 c2:Nat) (ys:List Int) (hy:Sl w (.slice a2 n2 c2) ys) (hm1:xs.length≤400000) (_hm2:ys.length≤400000) (h0:val ys≠0) (hev:val xs % val ys=0) :
  Calls Tryz.prog 143 #[.agg #[.bool true,.slice a1 n1 c1],.agg #[.bool ny,.slice a2 n2 c2]] w fun e w'=>∃ nq aq cq qs nr ar cr rs B1 T1 B2 T2,e=.returned (.tuple #[.agg #[.bool nq,.slice aq qs.length cq],.agg #[.bool nr,.slice ar rs.length cr],.bool true])∧Wh w' nq aq cq qs (sg true (val xs) / sg ny (val ys))∧Wh w' nr ar cr rs (sg true (val xs) % sg ny (val ys))∧qs.length≤xs.length+4∧rs.length≤ys.length∧Li B1 T1 w' aq cq qs∧Li B2 T2 w' ar cr rs∧(w.heap.size≤B1∧T1≤w'.heap.size∧w.heap.size≤B2∧T2≤w'.heap.size∧∀ j,B1≤j→j<T1→j<B2∨T2≤j)∧Below w.heap.size w w' := by
 obtain ⟨w0,e0,bx,by',bq,br,hb0,hs0⟩:=boxed4 w true (.slice a1 n1 c1) ny (.slice a2 n2 c2)
 have E0:=hide e0
 have hx0:=hx.below hb0
 have hy0:=hy.below hb0
 have HS0:=hide hs0
 clear e0 hs0
 have PY:Hid (0<val ys):=by have:=(val_bounds hy.parts.2.2.2).1;show _<_;omega
 have LY:=hide hy.parts.2.2.2
 have H0:=hide h0
 have HE:=hide hev
 clear hev
 clear h0
 go_enter Tryz.func143,Tryz.ntmps143
 go_wp2_with fail
 rw [E0.out]
 refine (divmod_o _ _ _ _ _ _ _ xs ys hx0 hy0 (by omega) H0.out).mono ?_
 rintro e w1 ⟨p1,q1,r1,p2,q2,r2,B1,T1,B2,T2,rfl,G1,G2,l1,l2,o1,o2,oo,hb1⟩
 have HB:Below w0.heap.size w0 w1:=hb1
 have hr2:¬ 0<(r2.length:Int):=by
  have h9:r2 = []:=(canon_zero G2.canon).1 (by rw [G2.val];exact HE.out)
  rw [h9];simp
 obtain ⟨xa,xb,xc,xd⟩:=(bx.below HB).facts
 obtain ⟨ya,yb,yc,yd⟩:=(by'.below HB).facts
 go_wp2_with fail
 refine (signed_g _ _ _ _ r1 _ G1 (by omega)).mono ?_
 rintro e w7 ⟨ng7,rfl,G7,hb7⟩
 replace HB:=HB.trans (hb7.mono HB.size)
 have G2' := G2.below hb7
 clear xa xb xc xd ya yb yc yd
 obtain ⟨xa,xb,xc,xd⟩:=(bx.below HB).facts
 obtain ⟨ya,yb,yc,yd⟩:=(by'.below HB).facts
 go_wp2_with fail
 refine (signed_g _ _ _ _ r2 _ G2' (by omega)).mono ?_
 rintro e w8 ⟨ng8,rfl,G8,hb8⟩
 replace HB:=HB.trans (hb8.mono HB.size)
 replace G7:=G7.below hb8
 clear xa xb xc xd ya yb yc yd
 have bq8:=bq.below HB
 have br8:=br.below HB
 obtain ⟨qa,qb,qc,qd⟩:=bq8.facts
 obtain ⟨ra,rb,rc,rd⟩:=br8.facts
 have VQ:Hid (sg (!ny) (val xs / val ys)=sg true (val xs) / sg ny (val ys)∧sg false (val xs % val ys)=sg true (val xs) % sg ny (val ys)):=by have h:=wdiv_even true ny PY.out HE.out;rwa [show (true != ny) = !ny by cases ny <;> rfl] at h
 have Y1:=hide ((br8.other (show w.heap.size+1+1+1≠w.heap.size+1+1 by omega) (.bool ng7) (.slice p1 r1.length q1)).wh ng8 (.slice p2 r2.length q2) (bq8.wh ng7 (.slice p1 r1.length q1) G7))
 have Y2:=hide ((br8.other (show w.heap.size+1+1+1≠w.heap.size+1+1 by omega) (.bool ng7) (.slice p1 r1.length q1)).wh ng8 (.slice p2 r2.length q2) (bq8.wh ng7 (.slice p1 r1.length q1) G8))
 have F:=hide (box_two (nq:=ng7) (vq:=.slice p1 r1.length q1) (nr:=ng8) (vr:=.slice p2 r2.length q2) bq8 br8 (by omega))
 have Z:=hide (hb0.trans (HB.mono hb0.size))
 have Z2:=hide (below_set2 (below_set2 Z.out (show w.heap.size≤w.heap.size+1+1 by omega) (.bool ng7) (.slice p1 r1.length q1)) (show w.heap.size≤w.heap.size+1+1+1 by omega) (.bool ng8) (.slice p2 r2.length q2))
 have hs9:=HS0.out
 have s_hb1:=hb1.size
 have s_hb7:=hb7.size
 have s_hb8:=hb8.size
 obtain ⟨oo1,oo2,oo3,oo4,oo5⟩:=oo
 have O1:=hide ((((o1.below hb7).below hb8).set2 (w.heap.size+1+1) (by omega) (.bool ng7) (.slice p1 r1.length q1)).set2 (w.heap.size+1+1+1) (by omega) (.bool ng8) (.slice p2 r2.length q2))
 have O2:=hide ((((o2.below hb7).below hb8).set2 (w.heap.size+1+1) (by omega) (.bool ng7) (.slice p1 r1.length q1)).set2 (w.heap.size+1+1+1) (by omega) (.bool ng8) (.slice p2 r2.length q2))
 have hsz:((((w8.setCell ⟨w.heap.size+1+1,0,none⟩ (.bool ng7)).setCell ⟨w.heap.size+1+1,1,none⟩ (.slice p1 r1.length q1)).setCell ⟨w.heap.size+1+1+1,0,none⟩ (.bool ng8)).setCell ⟨w.heap.size+1+1+1,1,none⟩ (.slice p2 r2.length q2)).heap.size=w8.heap.size:=by simp [World.setCell]
 have OO:Hid (B1 ≥ w.heap.size∧T1≤w8.heap.size∧B2 ≥ w.heap.size∧T2≤w8.heap.size∧∀ j,B1≤j→j<T1→j<B2∨T2≤j):=⟨by omega,by omega,by omega,by omega,oo5⟩
 rw [←hsz] at OO
 clear hsz
 go_wp2
 refine bodyPost_ret (v:=.tuple #[.agg #[.bool ng7,.slice p1 r1.length q1],.agg #[.bool ng8,.slice p2 r2.length q2],.bool true]) ?_ rfl ⟨ng7,p1,q1,r1,ng8,p2,q2,r2,B1,T1,B2,T2,rfl,by rw [←VQ.out.1];exact Y1.out,by rw [←VQ.out.2];exact Y2.out,by omega,by omega,O1.out,O2.out,OO.out,Z2.out⟩
 simp [results,Tryz.results143,go_sem,F.out.1.facts.1,F.out.1.facts.2.1,F.out.2.facts.1,F.out.2.facts.2.1]
set_option maxRecDepth 20000 in
set_option maxHeartbeats 1000000 in
theorem wdivmod_oddo (w:World) (a1:Option Addr) (n1 c1:Nat) (xs:List Int) (hx:Sl w (.slice a1 n1 c1) xs) (ny:Bool) (a2:Option Addr) (n2 c2:Nat) (ys:List Int) (hy:Sl w (.slice a2 n2 c2) ys) (hm1:xs.length≤400000) (hm2:ys.length≤400000) (h0:val ys≠0) (hod:val xs % val ys≠0) :
  Calls Tryz.prog 143 #[.agg #[.bool true,.slice a1 n1 c1],.agg #[.bool ny,.slice a2 n2 c2]] w fun e w'=>∃ nq aq cq qs nr ar cr rs B1 T1 B2 T2,e=.returned (.tuple #[.agg #[.bool nq,.slice aq qs.length cq],.agg #[.bool nr,.slice ar rs.length cr],.bool true])∧Wh w' nq aq cq qs (sg true (val xs) / sg ny (val ys))∧Wh w' nr ar cr rs (sg true (val xs) % sg ny (val ys))∧qs.length≤xs.length+4∧rs.length≤ys.length∧Li B1 T1 w' aq cq qs∧Li B2 T2 w' ar cr rs∧(w.heap.size≤B1∧T1≤w'.heap.size∧w.heap.size≤B2∧T2≤w'.heap.size∧∀ j,B1≤j→j<T1→j<B2∨T2≤j)∧Below w.heap.size w w' := by
 obtain ⟨w0,e0,bx,by',bq,br,hb0,hs0⟩:=boxed4 w true (.slice a1 n1 c1) ny (.slice a2 n2 c2)
 have E0:=hide e0
 have hx0:=hx.below hb0
 have hy0:=hy.below hb0
 have HS0:=hide hs0
 clear e0 hs0
 have PY:Hid (0<val ys):=by have:=(val_bounds hy.parts.2.2.2).1;show _<_;omega
 have LY:=hide hy.parts.2.2.2
 have H0:=hide h0
 have HE:=hide hod
 clear hod
 clear h0
 go_enter Tryz.func143,Tryz.ntmps143
 go_wp2_with fail
 rw [E0.out]
 refine (divmod_o _ _ _ _ _ _ _ xs ys hx0 hy0 (by omega) H0.out).mono ?_
 rintro e w1 ⟨p1,q1,r1,p2,q2,r2,B1,T1,B2,T2,rfl,G1,G2,l1,l2,o1,o2,oo,hb1⟩
 have HB:Below w0.heap.size w0 w1:=hb1
 have hr2:0<(r2.length:Int):=by
  have h9:r2≠[]:=fun e=>HE.out (by rw [←G2.val];exact (canon_zero G2.canon).2 e)
  have h8:r2.length≠0:=fun e=>h9 (List.eq_nil_of_length_eq_zero e)
  omega
 obtain ⟨xa,xb,xc,xd⟩:=(bx.below HB).facts
 go_wp2_with fail
 refine (small_any _ 1 (by omega) (by omega)).mono ?_
 rintro e w3 ⟨v3,rfl,hi3,hb3⟩
 obtain ⟨p3,q3,r3,rfl,G3,l3⟩:=got_small hi3 (by omega)
 clear hi3
 replace HB:=HB.trans (hb3.mono HB.size)
 replace G1:=G1.below hb3
 replace G2:=G2.below hb3
 go_wp2_with fail
 refine (add_o _ _ _ _ _ _ _ r1 r3 G1.sl G3.sl (by omega) (by omega)).mono ?_
 rintro e w4 ⟨p4,q4,r4,rfl,G4,l4,o4,hb4⟩
 replace HB:=HB.trans (hb4.mono HB.size)
 replace G2:=G2.below hb4
 rw [G1.val,G3.val] at G4
 have hy4:=hy0.below HB
 obtain ⟨ya,yb,yc,yd⟩:=(by'.below HB).facts
 go_wp2_with fail
 refine (sub_o _ _ _ _ _ _ _ ys r2 hy4 G2.sl (by omega) (by rw [G2.val];exact Int.le_of_lt (Int.emod_lt_of_pos _ PY.out))).mono ?_
 rintro e w5 ⟨p5,q5,r5,rfl,G5,l5,o5,hb5⟩
 replace HB:=HB.trans (hb5.mono HB.size)
 replace G4:=G4.below hb5
 rw [G2.val] at G5
 clear xa xb xc xd ya yb yc yd G1 G2 G3 hy4
 obtain ⟨xa,xb,xc,xd⟩:=(bx.below HB).facts
 obtain ⟨ya,yb,yc,yd⟩:=(by'.below HB).facts
 go_wp2_with fail
 refine (signed_g _ _ _ _ r4 _ G4 (by omega)).mono ?_
 rintro e w7 ⟨ng7,rfl,G7,hb7⟩
 replace HB:=HB.trans (hb7.mono HB.size)
 have G2' := G5.below hb7
 clear xa xb xc xd ya yb yc yd
 obtain ⟨xa,xb,xc,xd⟩:=(bx.below HB).facts
 obtain ⟨ya,yb,yc,yd⟩:=(by'.below HB).facts
 go_wp2_with fail
 refine (signed_g _ _ _ _ r5 _ G2' (by omega)).mono ?_
 rintro e w8 ⟨ng8,rfl,G8,hb8⟩
 replace HB:=HB.trans (hb8.mono HB.size)
 replace G7:=G7.below hb8
 clear xa xb xc xd ya yb yc yd
 have bq8:=bq.below HB
 have br8:=br.below HB
 obtain ⟨qa,qb,qc,qd⟩:=bq8.facts
 obtain ⟨ra,rb,rc,rd⟩:=br8.facts
 have VQ:Hid (sg (!ny) (val xs / val ys+1)=sg true (val xs) / sg ny (val ys)∧sg false (val ys - val xs % val ys)=sg true (val xs) % sg ny (val ys)):=by have h:=wdiv_odd ny PY.out HE.out;rwa [show (true != ny) = !ny by cases ny <;> rfl] at h
 have Y1:=hide ((br8.other (show w.heap.size+1+1+1≠w.heap.size+1+1 by omega) (.bool ng7) (.slice p4 r4.length q4)).wh ng8 (.slice p5 r5.length q5) (bq8.wh ng7 (.slice p4 r4.length q4) G7))
 have Y2:=hide ((br8.other (show w.heap.size+1+1+1≠w.heap.size+1+1 by omega) (.bool ng7) (.slice p4 r4.length q4)).wh ng8 (.slice p5 r5.length q5) (bq8.wh ng7 (.slice p4 r4.length q4) G8))
 have F:=hide (box_two (nq:=ng7) (vq:=.slice p4 r4.length q4) (nr:=ng8) (vr:=.slice p5 r5.length q5) bq8 br8 (by omega))
 have Z:=hide (hb0.trans (HB.mono hb0.size))
 have Z2:=hide (below_set2 (below_set2 Z.out (show w.heap.size≤w.heap.size+1+1 by omega) (.bool ng7) (.slice p4 r4.length q4)) (show w.heap.size≤w.heap.size+1+1+1 by omega) (.bool ng8) (.slice p5 r5.length q5))
 have hs9:=HS0.out
 have s_hb1:=hb1.size
 have s_hb7:=hb7.size
 have s_hb8:=hb8.size
 have s_hb3:=hb3.size
 have s_hb4:=hb4.size
 have s_hb5:=hb5.size
 have O1:=hide (((((o4.below hb5).below hb7).below hb8).set2 (w.heap.size+1+1) (by omega) (.bool ng7) (.slice p4 r4.length q4)).set2 (w.heap.size+1+1+1) (by omega) (.bool ng8) (.slice p5 r5.length q5))
 have O2:=hide ((((o5.below hb7).below hb8).set2 (w.heap.size+1+1) (by omega) (.bool ng7) (.slice p4 r4.length q4)).set2 (w.heap.size+1+1+1) (by omega) (.bool ng8) (.slice p5 r5.length q5))
 have hsz:((((w8.setCell ⟨w.heap.size+1+1,0,none⟩ (.bool ng7)).setCell ⟨w.heap.size+1+1,1,none⟩ (.slice p4 r4.length q4)).setCell ⟨w.heap.size+1+1+1,0,none⟩ (.bool ng8)).setCell ⟨w.heap.size+1+1+1,1,none⟩ (.slice p5 r5.length q5)).heap.size=w8.heap.size:=by simp [World.setCell]
 have OO:Hid (w3.heap.size ≥ w.heap.size∧w4.heap.size≤w8.heap.size∧w4.heap.size ≥ w.heap.size∧w5.heap.size≤w8.heap.size∧∀ j,w3.heap.size≤j→j<w4.heap.size→j<w4.heap.size∨w5.heap.size≤j):=⟨by omega,by omega,by omega,by omega,fun j h1 h2=>by omega⟩
 rw [←hsz] at OO
 clear hsz
 go_wp2
 refine bodyPost_ret (v:=.tuple #[.agg #[.bool ng7,.slice p4 r4.length q4],.agg #[.bool ng8,.slice p5 r5.length q5],.bool true]) ?_ rfl ⟨ng7,p4,q4,r4,ng8,p5,q5,r5,w3.heap.size,w4.heap.size,w4.heap.size,w5.heap.size,rfl,by rw [←VQ.out.1];exact Y1.out,by rw [←VQ.out.2];exact Y2.out,by omega,by omega,O1.out,O2.out,OO.out,Z2.out⟩
 simp [results,Tryz.results143,go_sem,F.out.1.facts.1,F.out.1.facts.2.1,F.out.2.facts.1,F.out.2.facts.2.1]
theorem wdivmod_o (w:World) (nx:Bool) (a1:Option Addr) (n1 c1:Nat) (xs:List Int) (hx:Sl w (.slice a1 n1 c1) xs) (ny:Bool) (a2:Option Addr) (n2 c2:Nat) (ys:List Int) (hy:Sl w (.slice a2 n2 c2) ys) (hm1:xs.length≤400000) (hm2:ys.length≤400000) (h0:val ys≠0) :
  Calls Tryz.prog 143 #[.agg #[.bool nx,.slice a1 n1 c1],.agg #[.bool ny,.slice a2 n2 c2]] w fun e w'=>∃ nq aq cq qs nr ar cr rs B1 T1 B2 T2,e=.returned (.tuple #[.agg #[.bool nq,.slice aq qs.length cq],.agg #[.bool nr,.slice ar rs.length cr],.bool true])∧Wh w' nq aq cq qs (sg nx (val xs) / sg ny (val ys))∧Wh w' nr ar cr rs (sg nx (val xs) % sg ny (val ys))∧qs.length≤xs.length+4∧rs.length≤ys.length∧Li B1 T1 w' aq cq qs∧Li B2 T2 w' ar cr rs∧(w.heap.size≤B1∧T1≤w'.heap.size∧w.heap.size≤B2∧T2≤w'.heap.size∧∀ j,B1≤j→j<T1→j<B2∨T2≤j)∧Below w.heap.size w w' := by
 cases nx with
 | false=>exact wdivmod_poso w a1 n1 c1 xs hx ny a2 n2 c2 ys hy hm1 hm2 h0
 | true =>
  by_cases he:val xs % val ys=0
  ·exact wdivmod_eveno w a1 n1 c1 xs hx ny a2 n2 c2 ys hy hm1 hm2 h0 he
  ·exact wdivmod_oddo w a1 n1 c1 xs hx ny a2 n2 c2 ys hy hm1 hm2 h0 he
theorem gcd_o (w:World) (a1 a2:Option Addr) (n1 n2 c1 c2:Nat) (xs ys:List Int) (hx:Sl w (.slice a1 n1 c1) xs) (hy:Sl w (.slice a2 n2 c2) ys) (hm1:xs.length≤400000) (hm2:ys.length≤400000) :
  Calls Tryz.prog 134 #[.slice a1 n1 c1,.slice a2 n2 c2] w fun e w'=>∃ ao cap rs,e=.returned (.slice ao rs.length cap)∧Got w' ao cap rs (Int.gcd (val xs) (val ys))∧rs.length≤xs.length+ys.length+1∧Li w.heap.size w'.heap.size w' ao cap rs∧Below w.heap.size w w' := by
 refine (gcd_any w a1 a2 n1 n2 c1 c2 xs ys hx hy hm1 hm2).mono ?_
 rintro e w' ⟨v,rfl,hi,hb⟩
 obtain ⟨ao,cap,rs,rfl,hg⟩:=hi.fr
 refine ⟨ao,cap,rs,rfl,hg.got,canon_len hg.canon ?_,hg.li,hb⟩
 rw [hg.val]
 have b1:=val_bounds hx.parts.2.2.2
 have b2:=val_bounds hy.parts.2.2.2
 have h1:=gcd_small b1.1 b2.1
 have m1:=pw_mono (m:=xs.length) (n:=xs.length+ys.length) (by omega)
 have m2:=pw_mono (m:=ys.length) (n:=xs.length+ys.length) (by omega)
 rw [pw]
 have:=pw_pos (xs.length+ys.length)
 omega
set_option maxRecDepth 20000 in
set_option maxHeartbeats 1000000 in
theorem wgcd_o (w:World) (nx:Bool) (a1:Option Addr) (n1 c1:Nat) (xs:List Int) (hx:Sl w (.slice a1 n1 c1) xs) (ny:Bool) (a2:Option Addr) (n2 c2:Nat) (ys:List Int) (hy:Sl w (.slice a2 n2 c2) ys) (hm1:xs.length≤400000) (hm2:ys.length≤400000) :
  Calls Tryz.prog 91 #[.agg #[.bool nx,.slice a1 n1 c1],.agg #[.bool ny,.slice a2 n2 c2]] w fun e w'=>∃ ng' ao cap rs,e=.returned (.agg #[.bool ng',.slice ao rs.length cap])∧Wh w' ng' ao cap rs (((Int.gcd (sg nx (val xs)) (sg ny (val ys)):Nat):Int))∧rs.length≤xs.length+ys.length+1∧Li w.heap.size w'.heap.size w' ao cap rs∧Below w.heap.size w w' := by
 obtain ⟨w0,e0,bx,by',br,hb0,hs0⟩:=boxed3 w nx (.slice a1 n1 c1) ny (.slice a2 n2 c2)
 have E0:=hide e0
 have hx0:=hx.below hb0
 have hy0:=hy.below hb0
 have HS0:=hide hs0
 clear e0 hs0
 go_enter Tryz.func91,Tryz.ntmps91
 go_wp2_with fail
 rw [E0.out]
 obtain ⟨ca,cb,cc,cd⟩:=bx.facts
 obtain ⟨ea,eb,ec,ed⟩:=by'.facts
 obtain ⟨da,db,dc,dd⟩:=br.facts
 refine (gcd_o _ _ _ _ _ _ _ xs ys hx0 hy0 (by omega) (by omega)).mono ?_
 rintro e w1 ⟨p1,q1,r1,rfl,G1,l1,o1,hb1⟩
 go_wp2_with fail
 refine (signed_g _ false _ _ r1 _ G1 (by omega)).mono ?_
 rintro e w2 ⟨ng2,rfl,G2,hb2⟩
 have br2:=(br.below hb1).below hb2
 obtain ⟨ka,kb,kc,kd⟩:=br2.facts
 have SGF:Hid (sg false ((Int.gcd (val xs) (val ys):Nat):Int)=((Int.gcd (sg nx (val xs)) (sg ny (val ys)):Nat):Int)):=by show _ = _;rw [gcd_sg];rfl
 have X:=hide (br2.set ng2 (.slice p1 r1.length q1)).facts
 have Y:=hide (br2.wh ng2 (.slice p1 r1.length q1) G2)
 have Z:=hide (below_set2 (hb0.trans ((hb1.trans (hb2.mono hb1.size)).mono hb0.size)) (Nat.le_add_right _ 2) (.bool ng2) (.slice p1 r1.length q1))
 skip
 have hs9:=HS0.out
 have s_1:=hb1.size
 have s_2:=hb2.size
 have O1:=hide ((o1.below hb2).set2 (w.heap.size+1+1) (by omega) (.bool ng2) (.slice p1 r1.length q1))
 have O2:=hide (show Li w.heap.size _ _ p1 q1 r1 from ⟨O1.out.ow.mono (by omega),fun h0 g off e=>by have:=O1.out.lies h0 g off e;exact ⟨by omega,Nat.lt_of_lt_of_le this.2 (show w1.heap.size≤((w2.setCell ⟨w.heap.size+1+1,0,none⟩ (.bool ng2)).setCell ⟨w.heap.size+1+1,1,none⟩ (.slice p1 r1.length q1)).heap.size by simp [World.setCell];exact s_2)⟩⟩)
 clear O1
 go_wp2
 refine bodyPost_ret (v:=.agg #[.bool ng2,.slice p1 r1.length q1]) ?_ rfl ⟨ng2,p1,q1,r1,rfl,by rw [←SGF.out];exact Y.out,by omega,O2.out,Z.out⟩
 simp [results,Tryz.results91,go_sem,X.out.1,X.out.2.1]
end Lm
end Go.Proofs.YtaofpigilgapgaaGreatDoor

namespace Go.Proofs.YtaofpigilgapgaaGreatDoor
namespace Dm
open Go.RowKit
open Lm (hide lt_of_cell lt_of_heap cmpI cmpI_lt cmpI_gt)
theorem Wh.via {w0 w1 w2:World} {ng:Bool} {ao:Option Addr} {cap:Nat} {rs:List Int} {z:Int} (h:Wh w0 ng ao cap rs z) (h1:Below w0.heap.size w0 w1) (h2:Below w1.heap.size w1 w2):Wh w2 ng ao cap rs z:=(h.below h1).below h2
set_option maxRecDepth 20000 in
set_option maxHeartbeats 1000000 in
theorem nsub_g (w:World) (n1:Bool) (a1:Option Addr) (c1:Nat) (xs:List Int) (x:Int) (hx:Wh w n1 a1 c1 xs x) (n2:Bool) (a2:Option Addr) (c2:Nat) (ys:List Int) (y:Int) (hy:Wh w n2 a2 c2 ys y) (m1:xs.length≤400000) (m2:ys.length≤400000) :
  Calls Tryz.prog 82 #[.agg #[.bool n1,.slice a1 xs.length c1],.agg #[.bool n2,.slice a2 ys.length c2]] w fun e w'=>∃ ng' ao cap rs,e=.returned (.agg #[.bool ng',.slice ao rs.length cap])∧Wh w' ng' ao cap rs (x - y)∧rs.length≤xs.length+ys.length+1∧Below w.heap.size w w' := by
 obtain ⟨w0,e0,bx,by',br,hb0,hs0⟩:=boxed3 w n1 (.slice a1 xs.length c1) n2 (.slice a2 ys.length c2)
 have E0:=hide e0
 have hx0:=hx.below hb0
 have hy0:=hy.below hb0
 have HB:=hb0
 have ne1:¬ (w.heap.size=w.heap.size+1+1):=by omega
 have ne2:¬ (w.heap.size+1+1=w.heap.size):=by omega
 clear e0 hs0
 go_enter Tryz.func82,Tryz.ntmps82
 go_wp2_with fail
 rw [E0.out]
 obtain ⟨bx1,bx2,bx3,bx4⟩:=bx.facts
 obtain ⟨by1,by2,by3,by4⟩:=by'.facts
 obtain ⟨br1,br2,br3,br4⟩:=br.facts
 go_region_held3 (fun w'=>w'.cell? ⟨w.heap.size,0,none⟩ = some (.bool n1)∧w'.cell? ⟨w.heap.size,1,none⟩ = some (.slice a1 xs.length c1)∧w'.cell? ⟨w.heap.size+1,0,none⟩ = some (.bool n2)∧w'.cell? ⟨w.heap.size+1,1,none⟩ = some (.slice a2 ys.length c2)) (go_keep) (first
  | (go_at_call 85;have _hq:=hb1';refine (nadd_g _ _ _ _ xs _ (hx0.via hb1' (by repeat (first | exact Below.refl _ _ | refine Below.drew ?_))) _ _ _ r1 _ (G1.below (by repeat (first | exact Below.refl _ _ | refine Below.drew ?_))) (by omega) (by omega)).mono ?_;rintro e w2 ⟨ng2,p2,q2,r2,rfl,G2,l2,hb2⟩;have hb2' : Below w1.heap.size w1 w2:=(show Below w1.heap.size w1 _ by repeat (first | exact Below.refl _ _ | refine Below.drew ?_)).trans hb2;have HB:=HB.trans (hb2'.mono HB.size);replace bx:=bx.below hb2';clear bx1 bx2 bx3 bx4;obtain ⟨bx1,bx2,bx3,bx4⟩:=bx.facts;replace by' := by'.below hb2';clear by1 by2 by3 by4;obtain ⟨by1,by2,by3,by4⟩:=by'.facts;replace br:=br.below hb2';clear br1 br2 br3 br4;obtain ⟨br1,br2,br3,br4⟩:=br.facts)
  | (go_at_call 102;refine (minus_g _ _ _ _ ys _ (hy0.below (by repeat (first | exact Below.refl _ _ | refine Below.drew ?_))) (by omega)).mono ?_;rintro e w1 ⟨ng1,p1,q1,r1,rfl,G1,l1,hb1⟩;have hb1' : Below w0.heap.size w0 w1:=(show Below w0.heap.size w0 _ by repeat (first | exact Below.refl _ _ | refine Below.drew ?_)).trans hb1;have HB:=HB.trans (hb1'.mono HB.size);replace bx:=bx.below hb1';clear bx1 bx2 bx3 bx4;obtain ⟨bx1,bx2,bx3,bx4⟩:=bx.facts;replace by' := by'.below hb1';clear by1 by2 by3 by4;obtain ⟨by1,by2,by3,by4⟩:=by'.facts;replace br:=br.below hb1';clear br1 br2 br3 br4;obtain ⟨br1,br2,br3,br4⟩:=br.facts))
 all_goals
  have X:=hide (br.set ng2 (.slice p2 r2.length q2)).facts
  have Y:=hide (br.wh ng2 (.slice p2 r2.length q2) G2)
  have Z:=hide (below_set2 HB (show w.heap.size≤w.heap.size+1+1 by omega) (.bool ng2) (.slice p2 r2.length q2))
  clear bx1 bx2 bx3 bx4 by1 by2 by3 by4
  go_wp2
  refine bodyPost_ret (v:=.agg #[.bool ng2,.slice p2 r2.length q2]) ?_ rfl ⟨ng2,p2,q2,r2,rfl,by rw [show x - y=x+-y by omega];exact Y.out,by omega,Z.out⟩
  simp [results,Tryz.results82,go_sem,X.out.1,X.out.2.1]
end Dm
end Go.Proofs.YtaofpigilgapgaaGreatDoor

namespace Go.Proofs.YtaofpigilgapgaaGreatDoor
namespace Dm
open Go.RowKit
open Lm (hide lt_of_cell lt_of_heap)
theorem val_set:∀ (L:List Int) (i:Nat) (x:Int),i<L.length→val (L.set i x)=val L+pw i*(x - L.getD i 0)
 | [],i,x,h=>by simp at h
 | z :: zs,0,x,_=>by simp [val,pw];omega
 | z :: zs,i+1,x,h=>by
  have ih:=val_set zs i x (by simpa using h)
  rw [List.set_cons_succ,val,ih,val,List.getD_cons_succ,pw,Int.mul_add,←Int.mul_assoc]
  omega
theorem digit_le:∀ (L:List Int) (i:Nat),(∀ z ∈ L,0≤z)→pw i*L.getD i 0≤val L
 | [],i,_=>by simp [val]
 | z :: zs,0,h=>by
  have h1:0≤val zs:=by
   have:∀ l:List Int,(∀ z ∈ l,0≤z)→0≤val l:=by
    intro l
    induction l with
    | nil=>intro _;simp [val]
    | cons a l ih =>
     intro hl
     have:=ih (fun z hz=>hl z (List.mem_cons_of_mem _ hz))
     have:=hl a (List.mem_cons_self ..)
     rw [val]
     omega
   exact this zs (fun y hy=>h y (List.mem_cons_of_mem _ hy))
  simp [val,pw]
  omega
 | z :: zs,i+1,h=>by
  have ih:=digit_le zs i (fun y hy=>h y (List.mem_cons_of_mem _ hy))
  have:=h z (List.mem_cons_self ..)
  rw [List.getD_cons_succ,val,pw,Int.mul_assoc]
  omega
theorem limb_set {L:List Int} (h:Limb L) (i:Nat) (x:Int) (hx:0≤x∧x<10000):Limb (L.set i x):=by
 intro z hz
 rcases List.mem_or_eq_of_mem_set hz with h1 | h1
 ·exact h z h1
 ·rw [h1];exact hx
theorem nonneg_set {L:List Int} (h:Limb L) (i:Nat) (x:Int) (hx:0≤x):∀ z ∈ L.set i x,0≤z:=by
 intro z hz
 rcases List.mem_or_eq_of_mem_set hz with h1 | h1
 ·exact (h z h1).1
 ·rw [h1];exact hx
theorem mul_99 {a b:Int} (ha:0≤a∧a<10000) (hb:0≤b∧b<10000):0≤a*b∧a*b≤99980001:=by
 refine ⟨Int.mul_nonneg ha.1 hb.1,?_⟩
 have h1:a*b≤9999*b:=Int.mul_le_mul_of_nonneg_right (by omega) hb.1
 omega
theorem mul_in {B M:List Int} {k j:Nat} {P a b c t s:Int} (hl:k+j<M.length) (ht:M.getD (k+j) 0=t) (hb:B.getD j 0=b) (hs:s=c+t+a*b) (h:val M+pw (k+j)*c=P+pw k*(a*vf B j)) :
  val (M.set (k+j) (s % 10000))+pw (k+(j+1))*(s / 10000)=P+pw k*(a*vf B (j+1)):=by
 rw [val_set M _ _ hl,ht,vf,hb,←Nat.add_assoc,pw]
 have e:s=s % 10000+10000*(s / 10000):=by omega
 have e2:pw (k+j)*(s % 10000 - t)+10000*pw (k+j)*(s / 10000)=pw (k+j)*(s - t):=by
  rw [Int.mul_comm 10000 (pw (k+j)),Int.mul_assoc,←Int.mul_add]
  congr 1
  omega
 have e3:pw (k+j)*(s - t)=pw (k+j)*c+pw (k+j)*(a*b):=by rw [←Int.mul_add];congr 1;omega
 have e4:pw k*(a*(vf B j+pw j*b))=pw k*(a*vf B j)+pw (k+j)*(a*b):=by
  rw [pw_add,Int.mul_add,Int.mul_add,Int.mul_assoc (pw k) (pw j),←Int.mul_assoc a (pw j),Int.mul_comm a (pw j),Int.mul_assoc (pw j) a]
 rw [Int.add_assoc,e2,e3,e4]
 omega
theorem mul_out {A B M:List Int} {k:Nat} {a c t:Int} (hA:Limb A) (hB:Limb B) (hM:Limb M) (hk:k<A.length) (hl:k+B.length<M.length) (ht:M.getD (k+B.length) 0=t) (ha:A.getD k 0=a) (hc:0≤c) (h:val M+pw (k+B.length)*c=vf A k*val B+pw k*(a*vf B B.length)) :
  val (M.set (k+B.length) (t+c))=vf A (k+1)*val B∧Limb (M.set (k+B.length) (t+c)):=by
 have h0:0≤t:=by rw [←ht];exact (limb_getD hM _).1
 have e1:val (M.set (k+B.length) (t+c))=vf A (k+1)*val B:=by
  rw [val_set M _ _ hl,ht,vf,ha,Int.add_mul,show t+c - t=c by omega,h,vf_all B _ (Nat.le_refl _),Int.mul_assoc]
 refine ⟨e1,limb_set hM _ _ ⟨by omega,?_⟩⟩
 have h1:=digit_le _ (k+B.length) (nonneg_set hM (k+B.length) (t+c) (by omega))
 have h2:(M.set (k+B.length) (t+c)).getD (k+B.length) 0=t+c:=by
  rw [List.getD_eq_getElem?_getD,List.getElem?_set_self hl];rfl
 rw [h2,e1] at h1
 have h3:=val_bounds hB
 have h4:=val_bounds (limb_take hA (k+1))
 rw [←vf_take,List.length_take,Nat.min_eq_left (by omega)] at h4
 have h5:vf A (k+1)*val B≤(pw (k+1) - 1)*val B:=Int.mul_le_mul_of_nonneg_right (by omega) h3.1
 have h6:(pw (k+1) - 1)*val B≤(pw (k+1) - 1)*(pw B.length - 1):=Int.mul_le_mul_of_nonneg_left (by omega) (by have:=pw_pos (k+1);omega)
 have h7:(pw (k+1) - 1)*(pw B.length - 1)<pw (k+1)*pw B.length:=by
  have:=pw_pos (k+1)
  have:=pw_pos B.length
  rw [Int.sub_mul,Int.mul_sub]
  omega
 have h8:pw (k+1)*pw B.length=pw (k+B.length)*10000:=by rw [←pw_add,show k+1+B.length=(k+B.length)+1 by omega,pw,Int.mul_comm]
 apply Classical.byContradiction
 intro hn
 have h9:pw (k+B.length)*10000≤pw (k+B.length)*(t+c):=Int.mul_le_mul_of_nonneg_left (by omega) (by have:=pw_pos (k+B.length);omega)
 omega
theorem Box.wr {w w' : World} {g g' : Nat} {cur:Array Value} {e:TypeId} {ng:Bool} {v:Value} (h:Box w g ng v) (hw:Wr w w' g' cur e) (hne:g≠g'):Box w' g ng v:=(hw.other g hne).trans h
set_option maxRecDepth 20000 in
set_option maxHeartbeats 1000000 in
theorem nmul_got (w:World) (n1:Bool) (a1:Option Addr) (c1:Nat) (A:List Int) (x:Int) (hx:Got w a1 c1 A x) (n2:Bool) (a2:Option Addr) (c2:Nat) (B:List Int) (y:Int) (hy:Got w a2 c2 B y) (m1:A.length≤400000) (m2:B.length≤400000) :
  Calls Tryz.prog 106 #[.agg #[.bool n1,.slice a1 A.length c1],.agg #[.bool n2,.slice a2 B.length c2]] w fun e w'=>∃ ng' ao cap rs,e=.returned (.agg #[.bool ng',.slice ao rs.length cap])∧Wh w' ng' ao cap rs (sg (n1 != n2) (x*y))∧rs.length≤A.length+B.length+1∧Below w.heap.size w w' := by
 obtain ⟨w0,e0,bx,by',br,hb0,hs0⟩:=boxed3 w n1 (.slice a1 A.length c1) n2 (.slice a2 B.length c2)
 obtain ⟨i0,hi,hz0,hz1,hz2⟩:=info_parts info64
 have E0:=hide e0
 have hx0:=hx.below hb0
 have hy0:=hy.below hb0
 obtain ⟨_,p1,p2,p3⟩:=hx.sl.parts
 obtain ⟨_,q1,q2,q3⟩:=hy.sl.parts
 have P3:=hide p3
 have Q3:=hide q3
 have HS:=hide hs0
 clear p3 q3 e0 hs0
 go_enter Tryz.func106,Tryz.ntmps106
 go_wp2_with (refine wpList_make_full _ rfl (.tmp 16) (.tmp 16) 91 rfl w0.heap.size 3 i0 (.int .i64 0) 1 Tryz.underlying91 hi hz0 hz1 .i64 .i64 _ _ (A.length+B.length+1) rfl rfl (by omega) (by omega) (by rw [hz2];omega) (by unfold maxLen;omega) (by rw [E0.out];exact Nat.le_refl _) ?hK)
 case hK =>
  intro w1 hown hgrow
  rw [E0.out] at hgrow
  generalize hgg:w.heap.size+1+1+1=g at hown ⊢
  obtain ⟨hgB,cur,hh,hcs,hat⟩:=block_of_made hown
  have hb1:Below w0.heap.size w0 w1:=(Below.refl _ _).grown hgrow (Nat.le_refl _) (by simp)
  have HB1:=hb0.trans (hb1.mono hb0.size)
  have hs0:=HS.out
  replace bx:=bx.below hb1
  replace by' := by'.below hb1
  replace br:=br.below hb1
  have n1g:w.heap.size≠g:=by omega
  have n2g:w.heap.size+1≠g:=by omega
  have n3g:w.heap.size+1+1≠g:=by omega
  have NG:=hide (And.intro n1g (And.intro n2g n3g))
  have HX:=hide hx0
  have HY:=hide hy0
  have BX:=hide bx
  have BY:=hide by'
  have BR:=hide br
  have HH:=hide hh
  have HC:=hide hcs
  have HAT:=hide hat
  have HG:=hide hgB
  clear hown hgrow hh hcs hat hgB hgg bx by' br hx0 hy0 n1g n2g n3g E0 hs0
  go_wp2
  go_loopw [6] (fun iv wr=>∃ (k:Nat) (M:List Int) (cur' : Array Value),k≤A.length∧iv=.int .i64 k∧M.length=A.length+B.length+1∧Limb M∧val M=vf A k*val B∧Wr w1 wr g cur' 3∧cur'.size=A.length+B.length+1∧At cur' .i64 0 M) (fun iv _=>A.length - (intOf iv).toNat)
  case atStart=>exact ⟨0,List.replicate (A.length+B.length+1) 0,cur,Nat.zero_le _,rfl,by simp,limb_zeros _,by rw [val_zeros];simp [vf],Wr.refl HH.out,HC.out,HAT.out⟩
  case round =>
   obtain ⟨k,M,cur',hk,rfl,hml,hm,hv,hwr,hcs',hat'⟩:=hrel
   obtain ⟨bx1,bx2,bx3,bx4⟩:=(BX.out.wr hwr NG.out.1).facts
   obtain ⟨by1,by2,by3,by4⟩:=(BY.out.wr hwr NG.out.2.1).facts
   by_cases hlt:k<A.length
   ·have dA:(k:Int)<(A.length:Int):=by omega
    obtain ⟨a,hak⟩:∃ a,A.getD k 0=a:=⟨_,rfl⟩
    have HI:Hid (M.length=A.length+B.length+1∧Limb M∧val M+pw (k+0)*0=vf A k*val B+pw k*(a*vf B 0)∧Wr w1 wr g cur' 3∧cur'.size=A.length+B.length+1∧At cur' .i64 0 M):=⟨hml,hm,by rw [hv];simp [vf],hwr,hcs',hat'⟩
    have HK:=hide hak
    clear hml hm hv hwr hcs' hat' hak
    go_wp2
    clear bx1 bx2 bx3 bx4 by1 by2 by3 by4
    go_loopw [7,8] (fun cv jv wr=>∃ (j:Nat) (c:Int) (M:List Int) (cur' : Array Value),j≤B.length∧jv=.int .i64 j∧cv=.int .i64 c∧(0≤c∧c<10000)∧M.length=A.length+B.length+1∧Limb M∧val M+pw (k+j)*c=vf A k*val B+pw k*(a*vf B j)∧Wr w1 wr g cur' 3∧cur'.size=A.length+B.length+1∧At cur' .i64 0 M) (fun _ jv _=>B.length - (intOf jv).toNat)
    case atStart=>exact ⟨0,0,M,cur',Nat.zero_le _,rfl,rfl,by omega,HI.out.1,HI.out.2.1,HI.out.2.2.1,HI.out.2.2.2.1,HI.out.2.2.2.2.1,HI.out.2.2.2.2.2⟩
    case round =>
     clear HI
     obtain ⟨j,c,M,cur',hj,rfl,rfl,hc,hml,hm,hv,hwr,hcs',hat'⟩:=hrel
     have bx' := BX.out.wr hwr NG.out.1
     have by'' := BY.out.wr hwr NG.out.2.1
     obtain ⟨bx1,bx2,bx3,bx4⟩:=bx'.facts
     obtain ⟨by1,by2,by3,by4⟩:=by''.facts
     have sA:=hwr.sl HG.out hb1 rfl HX.out.sl
     have sB:=hwr.sl HG.out hb1 rfl HY.out.sl
     obtain ⟨b1,off1,rfl,hca⟩:=sA.cells (by omega)
     have ca:=hca k hlt
     have ba:=limb_getD P3.out k
     rw [HK.out] at ca ba
     have hm0:=hide hml
     by_cases hltB:j<B.length
     ·have dB:(j:Int)<(B.length:Int):=by omega
      obtain ⟨b2,off2,rfl,hcb⟩:=sB.cells (by omega)
      have cb:=hcb j hltB
      have bb:=limb_getD Q3.out j
      obtain ⟨b,hbk⟩:∃ b,B.getD j 0=b:=⟨_,rfl⟩
      rw [hbk] at cb bb
      have cm:=hat'.cell hwr.here (k+j) (by omega)
      rw [Nat.zero_add] at cm
      have bm:=limb_getD hm (k+j)
      obtain ⟨t,htk⟩:∃ t,M.getD (k+j) 0=t:=⟨_,rfl⟩
      rw [htk] at cm bm
      have fm:=hwr.free (k+j)
      have hab:=mul_99 ba bb
      have dM:(k:Int)+(j:Int)<(A.length:Int)+(B.length:Int)+1:=by omega
      have HV' := hide (mul_in (a:=a) (by omega) htk hbk rfl hv)
      have HL' := hide (limb_set hm (k+j) ((c+t+a*b) % 10000) (by omega))
      have HT' := hide (hat'.set (k+j) ((c+t+a*b) % 10000))
      have HW' := hide hwr
      have HCS:=hide hcs'
      clear sA sB hca hcb hbk htk hml hm hv hwr hcs' hat' bx' by''
      go_wp2
      go_quiet (fail)
      replace cm:(wr.drewN nq).cell? ⟨g,k+j,none⟩ = some (.int .i64 t):=cm
      replace fm:(wr.drewN nq).frozen? ⟨g,k+j,none⟩ = false:=fm
      have HW2:=hide ((HW'.out.drewN nq).set (k+j) (.int .i64 ((c+t+a*b) % 10000)))
      clear HW' ca cb bx1 bx2 bx3 bx4 by1 by2 by3 by4
      generalize wr.drewN nq=wr2 at cm fm HW2 ⊢
      go_wp2
      go_roundw
      case rel=>exact ⟨j+1,(c+t+a*b) / 10000,M.set (k+j) ((c+t+a*b) % 10000),_,by omega,by go_num,rfl,by omega,by rw [List.length_set];exact hm0.out,HL'.out,HV'.out,HW2.out,by rw [Array.size_setIfInBounds];exact HCS.out,by simpa using HT'.out⟩
      case measure=>simp [intOf];omega
     ·have hjB:j=B.length:=by omega
      subst hjB
      have dB:¬ (B.length:Int)<(B.length:Int):=by omega
      have cm:=hat'.cell hwr.here (k+B.length) (by omega)
      rw [Nat.zero_add] at cm
      have bm:=limb_getD hm (k+B.length)
      obtain ⟨t,htk⟩:∃ t,M.getD (k+B.length) 0=t:=⟨_,rfl⟩
      rw [htk] at cm bm
      have fm:=hwr.free (k+B.length)
      have dM:(k:Int)+(B.length:Int)<(A.length:Int)+(B.length:Int)+1:=by omega
      have HO:=hide (mul_out P3.out Q3.out hm hlt (by omega) htk HK.out hc.1 hv)
      have HT' := hide (hat'.set (k+B.length) (t+c))
      have HW' := hide (hwr.set (k+B.length) (.int .i64 (t+c)))
      have HCS:=hide hcs'
      have wr1:IntKind.i64.wrap ((k:Int)+(B.length:Int))=(k:Int)+(B.length:Int):=by rw [IntKind.wrap_i64];omega
      have wr2:IntKind.i64.wrap (t+c)=t+c:=by rw [IntKind.wrap_i64];omega
      have wr3:(0:Int)≤(k:Int)+(B.length:Int):=by omega
      have wr4:((k:Int)+(B.length:Int)).toNat=k+B.length:=by omega
      clear sA sB hca htk hml hm hv hwr hcs' hat' bx' by'' ca
      go_wp2
      go_region
      have HW2:=hide HW'.out.drew
      clear HW' bx1 bx2 bx3 bx4 by1 by2 by3 by4 cm fm
      generalize (wr.setCell ⟨g,k+B.length,none⟩ (.int .i64 (t+c))).drew=wr9 at HW2 ⊢
      go_wp2
      go_roundw
      case rel=>exact ⟨k+1,M.set (k+B.length) (t+c),_,by omega,by go_num,by rw [List.length_set];exact hm0.out,HO.out.2,HO.out.1,HW2.out,by rw [Array.size_setIfInBounds];exact HCS.out,by simpa using HT'.out⟩
      case measure=>simp [intOf];omega
   ·have hkA:k=A.length:=by omega
    subst hkA
    have dA:¬ (A.length:Int)<(A.length:Int):=by omega
    have hvv:val M=x*y:=by rw [hv,vf_all A _ (Nat.le_refl _),HX.out.val,HY.out.val]
    have sM:Sl wr (.slice (some ⟨g,0,none⟩) (A.length+B.length+1) (A.length+B.length+1)) M:=(show Ow g wr _ M from ⟨_,_,by rw [hml],by omega,by unfold maxLen;omega,hm,.inr ⟨g,0,cur',rfl,Nat.le_refl _,hwr.here,by omega,hat'⟩⟩).sl
    have br:=BR.out.wr hwr NG.out.2.2
    have HB:=HB1.trans ((hwr.below HG.out).mono hb0.size)
    rw [←hml] at sM
    have SM:=hide sM
    have HVV:=hide hvv
    have HML:=hide hml
    clear hml hm hv hwr hcs' hat' hvv sM
    go_wp2_with fail
    rw [←HML.out]
    refine (made_w _ _ _ _ M _ SM.out HVV.out).mono ?_
    rintro e w2 ⟨ng2,r2,rfl,G2,l2,hb2⟩
    rw [HML.out] at l2
    replace HB:=HB.trans (hb2.mono HB.size)
    replace br:=br.below hb2
    obtain ⟨br1,br2,br3,br4⟩:=br.facts
    have X:=hide (br.set ng2 (.slice (some ⟨g,0,none⟩) r2.length M.length)).facts
    have Y:=hide (br.wh ng2 (.slice (some ⟨g,0,none⟩) r2.length M.length) G2)
    have Z:=hide (below_set2 HB (show w.heap.size≤w.heap.size+1+1 by omega) (.bool ng2) (.slice (some ⟨g,0,none⟩) r2.length M.length))
    clear bx1 bx2 bx3 bx4 by1 by2 by3 by4
    go_wp2
    refine bodyPost_ret (v:=.agg #[.bool ng2,.slice (some ⟨g,0,none⟩) r2.length M.length]) ?_ rfl ⟨ng2,(some ⟨g,0,none⟩),M.length,r2,rfl,by first | exact Y.out | (rw [bne];exact Y.out),l2,Z.out⟩
    simp [results,Tryz.results106,go_sem,X.out.1,X.out.2.1]
theorem nmul_g (w:World) (n1:Bool) (a1:Option Addr) (c1:Nat) (xs:List Int) (x:Int) (hx:Wh w n1 a1 c1 xs x) (n2:Bool) (a2:Option Addr) (c2:Nat) (ys:List Int) (y:Int) (hy:Wh w n2 a2 c2 ys y) (m1:xs.length≤400000) (m2:ys.length≤400000) :
  Calls Tryz.prog 106 #[.agg #[.bool n1,.slice a1 xs.length c1],.agg #[.bool n2,.slice a2 ys.length c2]] w fun e w'=>∃ ng' ao cap rs,e=.returned (.agg #[.bool ng',.slice ao rs.length cap])∧Wh w' ng' ao cap rs (x*y)∧rs.length≤xs.length+ys.length+1∧Below w.heap.size w w' := by
 have wx:=hx.worth
 have wy:=hy.worth
 rw [hx.1.val] at wx
 rw [hy.1.val] at wy
 rw [show x*y=sg (n1 != n2) ((x.natAbs:Int)*(y.natAbs:Int)) by rw [sg_mul,wx,wy]]
 exact nmul_got w n1 a1 c1 xs _ hx.1 n2 a2 c2 ys _ hy.1 m1 m2
end Dm
end Go.Proofs.YtaofpigilgapgaaGreatDoor

namespace Go.Proofs.YtaofpigilgapgaaGreatDoor
namespace Dm
open Go.RowKit
open Lm (hide lt_of_cell lt_of_heap cmpI cmpI_lt cmpI_gt)
def Cl (w:World) (b i:Nat) (v:Value):Prop:=w.cell? ⟨b,i,none⟩ = some v
theorem Cl.below {w w' : World} {b i:Nat} {v:Value} (h:Cl w b i v) (hb:Below w.heap.size w w'):Cl w' b i v:=(hb.cell (p:=⟨b,i,none⟩) (lt_of_cell h)).trans h
section
end
end Dm
end Go.Proofs.YtaofpigilgapgaaGreatDoor

namespace Go.Proofs.YtaofpigilgapgaaGreatDoor
namespace Lm
open Go.RowKit
open Dm (WFr set2_kept)
theorem li_nil (B T:Nat) (w:World):Li B T w none 0 []:=⟨⟨none,0,rfl,Nat.le_refl _,by simp [maxLen],limb_nil,.inl rfl⟩,fun h=>by omega⟩
theorem wh_nil (w:World):Wh w false none 0 [] 0:=⟨⟨⟨none,0,rfl,Nat.le_refl _,by simp [maxLen],limb_nil,.inl rfl⟩,canon_nil,rfl⟩,rfl⟩
theorem Li.wfr {B T:Nat} {w:World} {ng:Bool} {ao:Option Addr} {cap:Nat} {rs:List Int} {z:Int} (h:Li B T w ao cap rs) (g:Wh w ng ao cap rs z):WFr B T w ng ao cap rs z:=⟨h.fr g.1,g.2⟩
end Lm
end Go.Proofs.YtaofpigilgapgaaGreatDoor

namespace Go.Proofs.YtaofpigilgapgaaGreatDoor
namespace Lm
open Go Go.RowKit
open Dm (WFr)
section
variable {dst:Option Tmp} {ty:TypeId} {pos:String} {after:Array Edge} {guard:Option (Nat × Bool)} {a:Act} {w:World} {ats:Array TypeId} {i j:Nat} {z:Int}
theorem op_neqsame {u:Int} (h1:a.eval (.tmp i)=.int .i64 u) (h2:a.eval (.tmp j)=.int .i64 u) :
  Does Tryz.prog { dst,op:=.binOp .neq 3 (.tmp i) (.tmp j) 3,type:=ty,pos,after,guard } a.eval w fun v' w'=>Below w.heap.size w w'∧Eqs (.bool false) v' w' := by
 refine does_bin (v:=.bool false) ?_ ?_ ⟨Below.refl _ _,rfl⟩
 ·rw [h1,h2];simp [go_sem]
 ·rw [h1,h2];simp [go_sem]
theorem op_addk {u v:Int} (h1:a.eval (.tmp i)=.int .i64 u) (h : -9223372036854775808≤u+v∧u+v≤9223372036854775807) :
  Does Tryz.prog { dst,op:=.binOp .add 3 (.tmp i) (.const (.int .i64 v)) 3,type:=ty,pos,after,guard } a.eval w fun v' w'=>Below w.heap.size w w'∧Eqs (.int .i64 (u+v)) v' w' := by
 refine does_bin (v:=.int .i64 (u+v)) ?_ ?_ ⟨Below.refl _ _,rfl⟩
 ·rw [h1];simp [go_sem,Act.eval]
 ·rw [h1];simp [go_sem,Act.eval];exact wrap64 h.1 h.2
end
end Lm
end Go.Proofs.YtaofpigilgapgaaGreatDoor

namespace Go.Proofs.YtaofpigilgapgaaGreatDoor
namespace Lm
open Go Go.RowKit
def Cl (w:World) (v:Value) (size n:Nat) (xs:List Value):Prop :=
 ∃ ao cap,v=.slice ao n cap∧n≤cap∧cap≤9223372036854775807∧xs.length=n*size∧(n=0∨∃ b off,ao=some ⟨b,off,none⟩∧b<w.heap.size∧∀ j u,xs[j]? = some u→w.cell? ⟨b,off+j,none⟩ = some u)
theorem Cl.below {w w' : World} {v:Value} {size n:Nat} {xs:List Value} (h:Cl w v size n xs) (hb:Below w.heap.size w w'):Cl w' v size n xs:=by
 obtain ⟨ao,cap,rfl,h1,h2,h3,h4⟩:=h
 refine ⟨ao,cap,rfl,h1,h2,h3,?_⟩
 rcases h4 with h4 | ⟨b,off,rfl,hl,hc⟩
 ·exact .inl h4
 ·exact .inr ⟨b,off,rfl,Nat.lt_of_lt_of_le hl hb.size,fun j u hu=>(hb.cell (p:=⟨b,off+j,none⟩) hl).trans (hc j u hu)⟩
theorem Cl.own {w:World} {base:Nat} {e:TypeId} {size n:Nat} {v:Value} {xs:List Value} (h:w.ownsRow base e size v n xs):Cl w v size n xs:=by
 obtain ⟨hl,⟨rfl,rfl⟩ | ⟨g,cap,cur,rfl,hb,hh,h1,h2,h3,h4⟩⟩:=h
 ·exact ⟨none,0,rfl,Nat.le_refl _,by omega,hl,.inl rfl⟩
 ·refine ⟨_,cap,rfl,h1,by simpa [maxLen] using h2,hl,.inr ⟨g,0,rfl,lt_of_heap hh,fun j u hu=>?_⟩⟩
  rw [Nat.zero_add,cell_of_row w g j cur e (0,0) hh]
  rw [←h4,List.getElem?_take] at hu
  split at hu
  ·simpa using hu
  ·cases hu
structure WE where
 ng:Bool
 a:Option Addr
 m:Nat
 c:Nat
 zs:List Int
def WE.z (e:WE):Int:=sg e.ng (val e.zs)
def WE.v (e:WE):Value:=.agg #[.bool e.ng,.slice e.a e.m e.c]
def flat:List WE→List Value
 | []=>[]
 | e :: es=>.bool e.ng :: .slice e.a e.m e.c :: flat es
theorem flat_length (es:List WE):(flat es).length=es.length*2:=by
 induction es with
 | nil=>rfl
 | cons e es ih=>simp only [flat,List.length_cons,ih];omega
theorem flat_at {es:List WE} {k:Nat} {e:WE} (h:es[k]? = some e):(flat es)[k*2]? = some (.bool e.ng)∧(flat es)[k*2+1]? = some (.slice e.a e.m e.c):=by
 induction es generalizing k with
 | nil=>simp at h
 | cons x es ih =>
  cases k with
  | zero =>
   simp only [List.getElem?_cons_zero,Option.some.injEq] at h
   subst h
   simp [flat]
  | succ k =>
   have:=ih (k:=k) (by simpa using h)
   have e1:(k+1)*2=k*2+1+1:=by omega
   rw [e1]
   simpa [flat] using this
theorem flat_append (es fs:List WE):flat (es ++ fs)=flat es ++ flat fs:=by
 induction es with
 | nil=>rfl
 | cons e es ih=>simp [flat,ih]
structure Rw (w:World) (v:Value) (es:List WE):Prop where
 cl:Cl w v 2 es.length (flat es)
 sl:∀ e ∈ es,Sl w (.slice e.a e.m e.c) e.zs
theorem Rw.below {w w' : World} {v:Value} {es:List WE} (h:Rw w v es) (hb:Below w.heap.size w w'):Rw w' v es:=⟨h.cl.below hb,fun e he=>(h.sl e he).below hb⟩
theorem Rw.ag {w:World} {v:Value} {es:List WE} (h:Rw w v es) {e:WE} (he:e ∈ es):Ag w e.ng e.a e.m e.c e.zs e.z:=⟨h.sl e he,rfl⟩
theorem Rw.parts {w:World} {ao:Option Addr} {n cap:Nat} {es:List WE} (h:Rw w (.slice ao n cap) es):n=es.length∧es.length≤cap∧cap≤9223372036854775807:=by
 obtain ⟨ao',cap',hv,h1,h2,h3,h4⟩:=h.cl
 obtain ⟨rfl,rfl,rfl⟩:=(Value.slice.injEq .. ▸ hv)
 exact ⟨rfl,h1,h2⟩
theorem Rw.cells {w:World} {ao:Option Addr} {n cap:Nat} {es:List WE} (h:Rw w (.slice ao n cap) es) (hp:0<es.length):∃ b off,ao=some ⟨b,off,none⟩∧b<w.heap.size∧∀ j u,(flat es)[j]? = some u→w.cell? ⟨b,off+j,none⟩ = some u:=by
 obtain ⟨ao',cap',hv,h1,h2,h3,h4⟩:=h.cl
 obtain ⟨rfl,_,rfl⟩:=(Value.slice.injEq .. ▸ hv)
 rcases h4 with h4 | h4
 ·omega
 ·exact h4
section
variable {dst:Option Tmp} {ty:TypeId} {pos:String} {after:Array Edge} {guard:Option (Nat × Bool)} {a:Act} {w:World} {ats:Array TypeId} {i j:Nat}
theorem op_lenr {ao:Option Addr} {n c:Nat} (h:a.eval (.tmp i)=.slice ao n c):Does Tryz.prog { dst,op:=.call { callee:=.builtin .len,args:=#[.tmp i],argTypes:=#[23] },type:=ty,pos,after,guard } a.eval w fun v' w'=>Below w.heap.size w w'∧Eqs (.int .i64 n) v' w' := by
 have e:(execOp a.eval { dst,op:=.call { callee:=.builtin .len,args:=#[.tmp i],argTypes:=#[23] },type:=ty,pos,after,guard }).run Tryz.prog w=.ok (.value (.int .i64 n)) w:=by
  have h' : a.tmps[i]?.getD undef=.slice ao n c:=by simpa [Act.eval] using h
  simp [go_sem,h']
 refine ⟨?_⟩
 unfold Turns
 rw [e]
 exact ⟨Below.refl _ _,rfl⟩
theorem op_idxr {b off n c k:Nat} {ao:Option Addr} (h:a.eval (.tmp i)=.slice ao n c) (hao:ao=some ⟨b,off,none⟩) (hk:a.eval (.tmp j)=.int .i64 (k:Int)) (hl:k<n):Does Tryz.prog { dst,op:=.indexAddr 23 (.tmp i) (.tmp j),type:=ty,pos,after,guard } a.eval w fun v' w'=>Below w.heap.size w w'∧Eqs (.pointer (some ⟨b,off+k*2,none⟩)) v' w' := by
 subst hao
 have e:(execOp a.eval { dst,op:=.indexAddr 23 (.tmp i) (.tmp j),type:=ty,pos,after,guard }).run Tryz.prog w=.ok (.value (.pointer (some ⟨b,off+k*2,none⟩))) w:=by
  simp only [execOp,h,hk]
  go_simp
 refine ⟨?_⟩
 unfold Turns
 rw [e]
 exact ⟨Below.refl _ _,rfl⟩
theorem op_ldr {b off k:Nat} {ao:Option Addr} {n cap:Nat} {es:List WE} {e:WE} (hp:a.eval (.tmp i)=.pointer (some ⟨b,off+k*2,none⟩)) (hao:ao=some ⟨b,off,none⟩) (hR:Rw w (.slice ao n cap) es) (he:es[k]? = some e):Does Tryz.prog { dst,op:=.load 66 (.tmp i),type:=ty,pos,after,guard } a.eval w fun v' w'=>Below w.heap.size w w'∧Eqs (.agg #[.bool e.ng,.slice e.a e.m e.c]) v' w' := by
 have hk:k<es.length:=(List.getElem?_eq_some_iff.1 he).1
 obtain ⟨b',off',e',hb,hc⟩:=hR.cells (by omega)
 obtain ⟨rfl,rfl⟩:b' = b∧off' = off:=by
  rw [hao] at e'
  simp only [Option.some.injEq,Addr.mk.injEq,and_true] at e'
  exact ⟨e'.1.symm,e'.2.symm⟩
 obtain ⟨f1,f2⟩:=flat_at he
 have h1:=hc _ _ f1
 have h2:w.cell? ⟨b',off'+k*2+1,none⟩ = _:=hc _ _ f2
 refine does_load (v:=.agg #[.bool e.ng,.slice e.a e.m e.c]) ?_ ⟨Below.refl _ _,rfl⟩
 rw [hp]
 go_simp
end
end Lm
end Go.Proofs.YtaofpigilgapgaaGreatDoor

namespace Go.Proofs.YtaofpigilgapgaaGreatDoor
namespace Lm
open Go Go.RowKit
def lenW:List WE→Nat
 | []=>0
 | e :: es=>1+e.m+lenW es
theorem lenW_append (es fs:List WE):lenW (es ++ fs)=lenW es+lenW fs:=by
 induction es with
 | nil=>simp [lenW]
 | cons e es ih=>simp only [List.cons_append,lenW,ih];omega
theorem lenW_take {es:List WE} {k:Nat} {e:WE} (h:es[k]? = some e):lenW (es.take (k+1))=lenW (es.take k)+(1+e.m):=by
 rw [List.take_add_one,h,lenW_append]
 simp [lenW]
theorem lenW_take_le (es:List WE) (k:Nat):lenW (es.take k)≤lenW es:=by
 have:=lenW_append (es.take k) (es.drop k)
 rw [List.take_append_drop] at this
 omega
theorem lenW_mem {es:List WE} {e:WE} (h:e ∈ es):1+e.m≤lenW es:=by
 induction es with
 | nil=>cases h
 | cons x es ih =>
  simp only [lenW]
  rcases List.mem_cons.1 h with rfl | h
  ·omega
  ·have:=ih h;omega
theorem lenW_length (es:List WE):es.length≤lenW es:=by
 induction es with
 | nil=>simp
 | cons x es ih=>simp only [lenW,List.length_cons];omega
section
variable {dst:Option Tmp} {ty:TypeId} {pos:String} {after:Array Edge} {guard:Option (Nat × Bool)} {a:Act} {w:World} {ats:Array TypeId} {i j:Nat}
theorem op_inck {k:Nat} (h1:a.eval (.tmp i)=.int .i64 (k:Int)) (h:k<9223372036854775807) :
  Does Tryz.prog { dst,op:=.binOp .add 3 (.tmp i) (.const (.int .i64 1)) 3,type:=ty,pos,after,guard } a.eval w fun v' w'=>Below w.heap.size w w'∧Eqs (.int .i64 ((k+1:Nat):Int)) v' w' := by
 have:=op_addk (dst:=dst) (ty:=ty) (pos:=pos) (after:=after) (guard:=guard) (w:=w) (v:=1) h1 (by omega)
 rwa [show ((k:Int)+1)=((k+1:Nat):Int) by omega] at this
theorem op_lssr {u v:Int} (h1:a.eval (.tmp i)=.int .i64 u) (h2:a.eval (.tmp j)=.int .i64 v) :
  Does Tryz.prog { dst,op:=.binOp .lss 3 (.tmp i) (.tmp j) 3,type:=ty,pos,after,guard } a.eval w fun v' w'=>Below w.heap.size w w'∧Eqs (.bool (decide (u<v))) v' w' := by
 refine does_bin (v:=.bool (decide (u<v))) ?_ ?_ ⟨Below.refl _ _,rfl⟩
 ·rw [h1,h2];simp [go_sem]
 ·rw [h1,h2];simp [go_sem]
theorem op_neqf {u v:Int} (h1:a.eval (.tmp i)=.int .i64 u) (h2:a.eval (.tmp j)=.int .i64 v) (h:u=v) :
  Does Tryz.prog { dst,op:=.binOp .neq 3 (.tmp i) (.tmp j) 3,type:=ty,pos,after,guard } a.eval w fun v' w'=>Below w.heap.size w w'∧Eqs (.bool false) v' w' := by
 subst h
 exact op_neqsame h1 h2
end
end Lm
end Go.Proofs.YtaofpigilgapgaaGreatDoor

namespace Go.Proofs.YtaofpigilgapgaaGreatDoor
namespace Lm
open Go Go.RowKit Go.ChangeShapes Go.WideShapes Go.ChangeAt Go.Deep
theorem sl_open {w:World} {x:Addr} {l c:Nat} {zs:List Int} (hl:l≤c) (hm:c≤maxLen) (hz:zs.length=c) (hcell:∀ i,i<zs.length→w.cell? (x.add i)=some (.int .u32 (zs.getD i 0))) (hwz:∀ n ∈ zs,(Lit.int .u32 n).wf=true):Sl w (.slice (some x) l c) (zs.take l):=by
 have hll:(zs.take l).length=l:=by rw [List.length_take];omega
 refine ⟨some x,c,by rw [hll],by omega,hm,fun n hn=>?_,?_⟩
 ·have:=bounds_u32 (hwz n (List.mem_of_mem_take hn))
  omega
 ·by_cases h0:l=0
  ·exact .inl (List.eq_nil_of_length_eq_zero (by omega))
  ·obtain ⟨b,off,spot⟩:=x
   have h1:=hcell 0 (by omega)
   have hspot:spot=none:=by simpa [Addr.add] using World.cell?_spot h1
   subst hspot
   refine .inr ⟨b,off,rfl,fun i hi=>?_⟩
   have h2:=hcell i (by omega)
   rw [getD_take _ _ _ (by omega)]
   have e:(⟨b,off,none⟩:Addr).add i=⟨b,off+i,none⟩:=by
    by_cases hi0:i=0
    ·subst hi0;simp [Addr.add]
    ·simp [Addr.add,hi0]
   rwa [e] at h2
instance:Inhabited WE:=⟨⟨false,none,0,0,[]⟩⟩
theorem bulk_lits {H:Type} (zs:List Int):Rows.uptoBulkAll (lits .u32 zs:List (DataW H))=zs.length:=by
 induction zs with
 | nil=>rfl
 | cons z zs ih =>
  have e:(lits .u32 (z :: zs):List (DataW H))=.lit (.int .u32 z) :: lits .u32 zs:=rfl
  rw [e,Rows.uptoBulkAll,ih,Rows.uptoBulk,List.length_cons]
  ·omega
  ·intro b hb;cases hb
theorem bulk_append {H:Type} (l r:List (DataW H)):Rows.uptoBulkAll (l ++ r)=Rows.uptoBulkAll l+Rows.uptoBulkAll r:=by
 induction l with
 | nil=>simp [Rows.uptoBulkAll]
 | cons x l ih=>simp only [List.cons_append,Rows.uptoBulkAll,ih];omega
theorem flat_map (E:Nat→WE) (n:Nat):∀ j u,(flat ((List.range n).map E))[j]? = some u→j / 2<n∧u=(if j % 2=0 then .bool (E (j / 2)).ng else .slice (E (j / 2)).a (E (j / 2)).m (E (j / 2)).c):=by
 intro j u hu
 have hj:j<(flat ((List.range n).map E)).length:=(List.getElem?_eq_some_iff.1 hu).1
 rw [flat_length,List.length_map,List.length_range] at hj
 have hk:j / 2<n:=by omega
 have he:((List.range n).map E)[j / 2]? = some (E (j / 2)):=by simp [hk]
 obtain ⟨h1,h2⟩:=flat_at he
 refine ⟨hk,?_⟩
 by_cases h0:j % 2=0
 ·rw [if_pos h0]
  rw [show j / 2*2=j by omega,hu] at h1
  exact Option.some.inj h1
 ·rw [if_neg h0]
  rw [show j / 2*2+1=j by omega,hu] at h2
  exact Option.some.inj h2
theorem open_row {H:Type} {enc:TypeId × Value→H} {w:World} {fuel:Nat} {ao:Option Addr} {n cap:Nat} {x:DataW H × List MemPlace} (h:DataW.trod enc Tryz.prog w 0 (fun _=>true) true fuel 23 [.slice ao n cap]=some x) :
  ∃ es,Rw w (.slice ao n cap) es∧lenW es+1≤Rows.uptoBulk x.1:=by
 rcases open_slice_pairs Tryz.underlying23 Tryz.underlying66 (by kernel_rfl) (by kernel_rfl) (by kernel_rfl) (by kernel_rfl) (by kernel_rfl) h with ⟨hcs,rfl⟩ | ⟨a,len,cap',m,k,V0,V1,D0,D1,P0,P1,hcs,_,hl,hm,hmm,rfl,hall⟩
 ·obtain ⟨rfl,rfl,rfl⟩:ao=none∧n=0∧cap=0:=by simpa using hcs
  exact ⟨[],⟨⟨none,0,rfl,Nat.le_refl _,by omega,rfl,.inl rfl⟩,fun e he=>by cases he⟩,by simp [lenW,Rows.uptoBulk]⟩
 obtain ⟨rfl,rfl,rfl⟩:ao=some a∧n=len∧cap=cap' := by simpa using hcs
 simp only [if_true] at hmm
 subst hmm
 have each:∀ i,i<m→∃ e:WE,V0 i=.bool e.ng∧V1 i=.slice e.a e.m e.c∧Sl w (.slice e.a e.m e.c) e.zs∧e.m+1≤Rows.uptoBulk (DataW.agg (H:=H) [D0 i,D1 i]):=by
  intro i hi
  obtain ⟨_,_,t0,t1⟩:=hall i hi
  obtain ⟨b,hb0,_⟩:=DataW.trod_bool Tryz.underlying4 t0
  obtain hb:V0 i=.bool b:=by simpa using hb0
  rcases open_ints Tryz.underlying38 Tryz.underlying103 (by kernel_rfl) t1 with ⟨hcs,_⟩ | ⟨x,l,c,zs,hcs,_,hl,hm,hz,hx,hcell,hwz⟩
  ·obtain hv:V1 i=.slice none 0 0:=by simpa using hcs
   exact ⟨⟨b,none,0,0,[]⟩,hb,hv,⟨none,0,rfl,Nat.le_refl _,by simp [maxLen],limb_nil,.inl rfl⟩,by simp [Rows.uptoBulk]⟩
  ·obtain hv:V1 i=.slice (some x) l c:=by simpa using hcs
   have hz' : zs.length=c:=by simpa using hz
   refine ⟨⟨b,some x,l,c,zs.take l⟩,hb,hv,sl_open hl hm hz' hcell hwz,?_⟩
   have hd:D1 i=.slice (lits .u32 (zs.take l)) (lits .u32 (zs.drop l)):=congrArg Prod.fst hx
   have hll:(zs.take l).length=l:=by rw [List.length_take];omega
   simp only [Rows.uptoBulk,Rows.uptoBulkAll,hd,bulk_lits,hll]
   omega
 obtain ⟨E,hE⟩:=choose_lt each
 refine ⟨(List.range n).map E,⟨⟨some a,m,by rw [List.length_map,List.length_range],by rw [List.length_map,List.length_range];exact hl,by simpa [maxLen] using hm,flat_length _,?_⟩,fun e he=>?_⟩,?_⟩
 ·by_cases h0:n=0
  ·exact .inl (by rw [List.length_map,List.length_range];exact h0)
  ·obtain ⟨b,off,spot⟩:=a
   have h1:=(hall 0 (by omega)).1
   have hspot:spot=none:=by simpa [Addr.add] using World.cell?_spot h1
   subst hspot
   have hadd:∀ i,(⟨b,off,none⟩:Addr).add i=⟨b,off+i,none⟩:=fun i=>by
    by_cases hi0:i=0
    ·subst hi0;simp [Addr.add]
    ·simp [Addr.add,hi0]
   refine .inr ⟨b,off,rfl,lt_of_cell (off:=off+0*2) (by rw [←hadd];exact h1),fun j u hu=>?_⟩
   obtain ⟨hj,rfl⟩:=flat_map E n j u hu
   obtain ⟨c0,c1,_,_⟩:=hall (j / 2) (by omega)
   obtain ⟨e0,e1,_⟩:=hE (j / 2) (by omega)
   rw [hadd] at c0 c1
   by_cases hj0:j % 2=0
   ·rw [if_pos hj0,←e0,←c0]
    congr 2
    omega
   ·rw [if_neg hj0,←e1,←c1]
    congr 2
    omega
 ·obtain ⟨i,hi,rfl⟩:=List.mem_map.1 he
  exact (hE i (by have:=List.mem_range.1 hi;omega)).2.2.1
 ·have key:∀ k,k≤n→lenW ((List.range k).map E)≤Rows.uptoBulkAll ((List.range k).map fun i=>DataW.agg (H:=H) [D0 i,D1 i]):=by
   intro k hk
   induction k with
   | zero=>simp [lenW]
   | succ k ih =>
    have h1:=ih (by omega)
    have h2:=(hE k (by omega)).2.2.2
    rw [List.range_succ,List.map_append,List.map_append,lenW_append,bulk_append]
    simp only [List.map_cons,List.map_nil,lenW,Rows.uptoBulkAll] at h1 h2 ⊢
    omega
  have:=key n (Nat.le_refl _)
  simp only [Rows.uptoBulk]
  omega
end Lm
end Go.Proofs.YtaofpigilgapgaaGreatDoor

namespace Go.Proofs.YtaofpigilgapgaaGreatDoor
namespace Dm
open Go Go.RowKit
theorem Sl.rl {w w' : World} {v:Value} {zs:List Int} (h:Sl w v zs) (hr:Lm.Rl w w'):Sl w' v zs:=by
 obtain ⟨ao,cap,rfl,h1,h2,h3,h4⟩:=h
 refine ⟨ao,cap,rfl,h1,h2,h3,?_⟩
 rcases h4 with h4 | ⟨b,off,rfl,hc⟩
 ·exact .inl h4
 ·exact .inr ⟨b,off,rfl,fun i hi=>hr.ints _ _ _ (hc i hi)⟩
theorem Wh.rl {w w' : World} {ng:Bool} {ao:Option Addr} {cap:Nat} {rs:List Int} {z:Int} (h:Wh w ng ao cap rs z) (hr:Lm.Rl w w'):Wh w' ng ao cap rs z:=⟨⟨h.1.1.rl hr,h.1.2⟩,h.2⟩
theorem pw_small (n:Nat):pw n≤Lm.pw n:=by
 induction n with
 | zero=>simp [pw,Lm.pw]
 | succ n ih =>
  have:=pw_pos n
  simp only [pw,Lm.pw]
  omega
theorem Wh.bound {w:World} {ng:Bool} {ao:Option Addr} {cap:Nat} {rs:List Int} {z:Int} {L:Nat} (h:Wh w ng ao cap rs z) (hl:rs.length≤L):(z.natAbs:Int)<Lm.pw L:=by
 have h1:=(val_bounds h.1.canon.1).2
 rw [h.1.val] at h1
 have h2:=pw_mono hl
 have h3:=pw_small L
 omega
end Dm
namespace Lm
open Go Go.RowKit
def OutN (z:Int) (L:Nat):Says:=fun v w=>∃ ng ao cap rs,v=.agg #[.bool ng,.slice ao rs.length cap]∧Dm.Wh w ng ao cap rs z∧rs.length≤L
theorem OutN.mono4 (z:Int) (L:Nat):Mono4 (OutN z L):=fun _ _ _ hb ⟨ng,ao,cap,rs,e,h,l⟩=>⟨ng,ao,cap,rs,e,h.rl hb,l⟩
theorem OutN.to {z z' : Int} {L L' : Nat} {v:Value} {w:World} (h:OutN z L v w) (e:z=z') (hl:L≤L'):OutN z' L' v w:=by
 subst e
 obtain ⟨ng,ao,cap,rs,e',h,l⟩:=h
 exact ⟨ng,ao,cap,rs,e',h,Nat.le_trans l hl⟩
section
end
end Lm
end Go.Proofs.YtaofpigilgapgaaGreatDoor

namespace Go.Proofs.YtaofpigilgapgaaGreatDoor
namespace Lm
open Go Go.RowKit
section
variable {dst:Option Tmp} {ty:TypeId} {pos:String} {after:Array Edge} {guard:Option (Nat × Bool)} {a:Act} {w:World} {ats:Array TypeId} {i j:Nat} {x y u v:Int} {L1 L2:Nat}
theorem has_nadd:Has Tryz.prog 85:=by unfold Has;kernel_rfl
theorem op_nadd (h1:OutN x L1 (a.eval (.tmp i)) w) (h2:OutN y L2 (a.eval (.tmp j)) w) (hL:L1≤400000) (hL' : L2≤400000) :
  Does Tryz.prog { dst,op:=.call { callee:=.value (.func 85),args:=#[.tmp i,.tmp j],argTypes:=ats },type:=ty,pos,after,guard } a.eval w fun v w'=>Below w.heap.size w w'∧OutN (x+y) (L1+L2+1) v w' := by
 obtain ⟨ng,ao,cap,rs,e1,W,l⟩:=h1
 obtain ⟨mg,bo,dap,ss,e2,W',l'⟩:=h2
 refine does_call has_nadd _ (by simp only [List.map_toArray,List.map_cons,List.map_nil,e1,e2]) ((Dm.nadd_g w ng ao cap rs _ W mg bo dap ss _ W' (by omega) (by omega)).mono ?_)
 rintro e w' ⟨ng,ao,cap,rs,rfl,G,l,hb⟩
 exact ⟨_,rfl,hb,_,_,_,_,rfl,G,by omega⟩
theorem has_nsub:Has Tryz.prog 82:=by unfold Has;kernel_rfl
theorem op_nsub (h1:OutN x L1 (a.eval (.tmp i)) w) (h2:OutN y L2 (a.eval (.tmp j)) w) (hL:L1≤400000) (hL' : L2≤400000) :
  Does Tryz.prog { dst,op:=.call { callee:=.value (.func 82),args:=#[.tmp i,.tmp j],argTypes:=ats },type:=ty,pos,after,guard } a.eval w fun v w'=>Below w.heap.size w w'∧OutN (x - y) (L1+L2+1) v w' := by
 obtain ⟨ng,ao,cap,rs,e1,W,l⟩:=h1
 obtain ⟨mg,bo,dap,ss,e2,W',l'⟩:=h2
 refine does_call has_nsub _ (by simp only [List.map_toArray,List.map_cons,List.map_nil,e1,e2]) ((Dm.nsub_g w ng ao cap rs _ W mg bo dap ss _ W' (by omega) (by omega)).mono ?_)
 rintro e w' ⟨ng,ao,cap,rs,rfl,G,l,hb⟩
 exact ⟨_,rfl,hb,_,_,_,_,rfl,G,by omega⟩
theorem has_nmul:Has Tryz.prog 106:=by unfold Has;kernel_rfl
theorem op_nmul (h1:OutN x L1 (a.eval (.tmp i)) w) (h2:OutN y L2 (a.eval (.tmp j)) w) (hL:L1≤400000) (hL' : L2≤400000) :
  Does Tryz.prog { dst,op:=.call { callee:=.value (.func 106),args:=#[.tmp i,.tmp j],argTypes:=ats },type:=ty,pos,after,guard } a.eval w fun v w'=>Below w.heap.size w w'∧OutN (x*y) (L1+L2+1) v w' := by
 obtain ⟨ng,ao,cap,rs,e1,W,l⟩:=h1
 obtain ⟨mg,bo,dap,ss,e2,W',l'⟩:=h2
 refine does_call has_nmul _ (by simp only [List.map_toArray,List.map_cons,List.map_nil,e1,e2]) ((Dm.nmul_g w ng ao cap rs _ W mg bo dap ss _ W' (by omega) (by omega)).mono ?_)
 rintro e w' ⟨ng,ao,cap,rs,rfl,G,l,hb⟩
 exact ⟨_,rfl,hb,_,_,_,_,rfl,G,by omega⟩
end
end Lm
end Go.Proofs.YtaofpigilgapgaaGreatDoor

